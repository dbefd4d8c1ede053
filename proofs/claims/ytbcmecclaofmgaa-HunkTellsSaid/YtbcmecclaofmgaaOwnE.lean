/-
  Edits, handed in as a copy with spare room; whether it is as it was.
-/
import Derived.Test.YtbcmecclaofmgaaHelpS
import Derived.Test.YtbcmecclaofmgaaEdit
import Derived.Test.YtbcmecclaofmgaaLaw3
import Derived.Test.YtbcmecclaofmgaaQuiet
import Derived.Deep.LoopGhost
namespace Go.Proofs.Ytbcmecclaofmgaa
open Go.RowKit

abbrev EdS := Int × List UInt8
theorem SlE.src {P : Program} {w : World} {tx e' : TypeId} {v : Value} {es : List EdS} (h : SlE w v es) (hk : P.underlying tx = some (.slice e')) : Src P 2 tx v es.length (edFlat es) w := by
  obtain ⟨ao, cap, rfl, hn, hcap, hc⟩ := h
  cases ao with
  | none =>
    obtain rfl := hn rfl
    exact Src.ofNil _ hk _
  | some a =>
    refine Src.ofSlice _ hk a es.length cap (edFlat es) (by rw [edFlat_length]) (fun j u hu => ?_) ?_
    · have hlt := (List.getElem?_eq_some_iff.1 hu).1
      rw [edFlat_length] at hlt
      have he := List.getElem?_eq_getElem (show j / 2 < es.length by omega)
      obtain ⟨c1, c2⟩ := hc a rfl (j / 2) _ he
      obtain ⟨f1, f2⟩ := edFlat_at es (j / 2) _ he
      rcases (show j = j / 2 * 2 ∨ j = j / 2 * 2 + 1 by omega) with h | h
      · rw [h] at hu ⊢
        rw [f1] at hu
        cases hu
        exact c1
      · rw [h] at hu ⊢
        rw [f2] at hu
        cases hu
        exact c2
    · intro u hu
      obtain ⟨e, _, he⟩ := List.mem_flatMap.1 hu
      simp [edCells, strV] at he
      rcases he with rfl | rfl <;> rfl

/-- A copy with three places of spare room, each of which holds f. -/
structure OwnCopyE (w : World) (g : Nat) (es : List EdS) (f : EdS) : Prop where
  block : w.heap[g]? = some (.cells (edFlat (es ++ [f, f, f])).toArray 30 (0, 0))
theorem fill_stepE (X r : List Value) (a b : Value) (k : Nat) (hk : k + 1 < r.length) : ((X ++ r.drop k).set X.length a).set (X.length + 1) b = X ++ (a :: b :: r.drop (k + 2)) := by
  rw [List.set_append_right _ _ (Nat.le_refl _), Nat.sub_self, List.drop_eq_getElem_cons (by omega), List.drop_eq_getElem_cons (by omega), List.set_cons_zero, List.set_append_right _ _ (by omega), Nat.add_sub_cancel_left]
  rfl

section
set_option maxRecDepth 100000
set_option maxHeartbeats 4000000
theorem EOwn_any (v : Value) (es : List EdS) (f : EdS) (w : World) (hv : SlE w v es) (hlen : es.length ≤ 1000000) :
    Calls Try.prog 11 #[v, .agg #[.int .i64 f.1, .string ⟨f.2.toArray⟩]] w fun e w' => ∃ g, w.heap.size ≤ g ∧ e = .returned (.slice (some ⟨g, 0, none⟩) es.length (es.length + 3)) ∧ OwnCopyE w' g es f ∧ Below w.heap.size w w' := by
  obtain ⟨i0, hi0, hi1, hi2, hi3⟩ := info_parts Try.infoEd
  obtain ⟨ao, cap, rfl⟩ := hv.form
  obtain ⟨fk, fx⟩ := f
  have hmk := fun w0 => run_make (P := Try.prog) w0 22 30 i0 _ Try.underlying22 hi0 hi1 .i64 .i64 0 ((es.length : Int) + 3) (by omega) (by omega) (by rw [hi3]; omega) (by omega)
  obtain ⟨mc, hmc, hms⟩ : ∃ mc, mc = madeCells (Value.agg #[.int .i64 0, strV []]).cells (((es.length : Int) + 3).toNat * i0.size) ∧ mc.size = (es.length + 3) * 2 := ⟨_, rfl, by rw [size_madeCells, hi2]; omega⟩
  rw [← hmc, show ((0 : Int)).toNat = 0 from rfl, show ((es.length : Int) + 3).toNat = es.length + 3 from by omega] at hmk
  have nw : IntKind.i64.wrap ((es.length : Int) + 3) = (es.length : Int) + 3 := IntWalk.i64_in _ (by omega)
  have HMS := hid hms
  have g1 : 0 + es.length ≤ es.length + 3 := by omega
  have g2 : 0 * 2 + (edFlat es).length ≤ mc.size := by rw [hms, edFlat_length]; omega
  have hsl : (es.length : Int) + 3 ≤ ((es.length + 3 : Nat) : Int) := by omega
  have hgb : ((w.alloc (.cells #[.int .i64 fk, .string ⟨fx.toArray⟩] 30)).alloc (.cells mc 30)).heap[w.heap.size + 1]? = some (.cells mc 30 (0, 0)) := by
    have := heap_alloc_new (w.alloc (.cells #[.int .i64 fk, .string ⟨fx.toArray⟩] 30)) (.cells mc 30)
    simpa using this
  have hbx : ((w.alloc (.cells #[.int .i64 fk, .string ⟨fx.toArray⟩] 30)).alloc (.cells mc 30)).heap[w.heap.size]? = some (.cells #[.int .i64 fk, .string ⟨fx.toArray⟩] 30 (0, 0)) := by
    have := heap_alloc_new w (.cells #[.int .i64 fk, .string ⟨fx.toArray⟩] 30)
    exact ((Below.refl _ (w.alloc (.cells #[.int .i64 fk, .string ⟨fx.toArray⟩] 30))).alloc (Nat.le_refl _) (.cells mc 30)).block _ (lt_of_block this) |>.trans this
  have hsz : ((w.alloc (.cells #[.int .i64 fk, .string ⟨fx.toArray⟩] 30)).alloc (.cells mc 30)).heap.size = w.heap.size + 2 := by simp
  have hb1 : Below w.heap.size w ((w.alloc (.cells #[.int .i64 fk, .string ⟨fx.toArray⟩] 30)).alloc (.cells mc 30)) := ((Below.refl _ w).alloc (Nat.le_refl _) _).alloc (by simp) _
  have hv1 := hv.old hb1
  clear hmc hms
  go_enter Try.func11, Try.ntmps11
  go_wp2_with (refine wpList_append_exact rfl (.tmp 12) (.tmp 13) _ _ rfl 30 2 Try.underlying22 hi0 hi2 (w.heap.size + 1) 0 (es.length + 3) mc rfl hgb _ _ _ rfl (hv1.src Try.underlying22) g1 g2 ?_; intro w2 hb2 hk2)
  have hbx2 : w2.heap[w.heap.size]? = some (.cells #[.int .i64 fk, .string ⟨fx.toArray⟩] 30 (0, 0)) := ((hk2.below (B := w.heap.size + 1) (by rw [hsz]; omega) fun i hi => by show ¬ i = _; omega).block _ (Nat.lt_succ_self _)).trans hbx
  have hb3 : Below w.heap.size w w2 := hb1.trans (hk2.below (by rw [hsz]; omega) fun i hi => by show ¬ i = _; omega)
  obtain ⟨r, hr, hrl⟩ : ∃ r : List Value, List.take (0 * 2) mc.toList ++ edFlat es ++ List.drop (0 * 2 + (edFlat es).length) mc.toList = edFlat (es ++ List.replicate 0 (fk, fx)) ++ r.drop (0 * 2) ∧ r.length = 6 := by
    refine ⟨List.drop (0 * 2 + (edFlat es).length) mc.toList, by simp, ?_⟩
    rw [List.length_drop, Array.length_toList, HMS.out, edFlat_length]
    omega
  rw [hr] at hb2
  have HRL := hid hrl
  have HB2 := hid hb2
  have HBX2 := hid hbx2
  have HB3 := hid hb3
  clear hr hrl hk2 hmk g2 hgb hbx hsz hb1 hv1 hv hb2 hbx2 hb3 hi0 hi1 hi2 hi3
  have hn3 : (es.length : Int) + 3 ≤ 9223372036854775807 := by omega
  go_loopw [7] (fun i wr => ∃ j : Nat, es.length ≤ j ∧ j ≤ es.length + 3 ∧ i = .int .i64 (j : Int) ∧ Hid (wr.heap[w.heap.size + 1]? = some (.cells (edFlat (es ++ List.replicate (j - es.length) (fk, fx)) ++ r.drop ((j - es.length) * 2)).toArray 30 (0, 0))) ∧ Hid (wr.heap[w.heap.size]? = some (.cells #[.int .i64 fk, .string ⟨fx.toArray⟩] 30 (0, 0))) ∧ Hid (Below w.heap.size w wr)) (fun i _ => es.length + 3 - (intOf i).toNat)
  case atStart => exact ⟨es.length, Nat.le_refl _, by omega, rfl, hid (by rw [Nat.sub_self]; exact HB2.out), HBX2, HB3⟩
  case round =>
    obtain ⟨j, hj0, hj, rfl, HB, HX, HBEL⟩ := hrel
    by_cases hlt : j < es.length + 3
    · obtain ⟨X, hX⟩ : ∃ X, edFlat (es ++ List.replicate (j - es.length) (fk, fx)) = X := ⟨_, rfl⟩
      have hXl : X.length = j * 2 := by rw [← hX, edFlat_length, List.length_append, List.length_replicate]; omega
      have hb := HB.out
      rw [hX] at hb
      have hT : (X ++ r.drop ((j - es.length) * 2)).length = (es.length + 3) * 2 := by rw [List.length_append, hXl, List.length_drop, HRL.out]; omega
      obtain ⟨u1, hu1⟩ : ∃ u, (X ++ r.drop ((j - es.length) * 2)).toArray[j * 2]? = some u := ⟨_, Array.getElem?_eq_getElem (by rw [List.size_toArray, hT]; omega)⟩
      have hc1 := blk_cell hb hu1
      have hf1 := blk_free (i := j * 2) hb
      have hb' := blk_set (i := j * 2) (u := .int .i64 fk) hb
      rw [List.setIfInBounds_toArray] at hb'
      obtain ⟨u2, hu2⟩ : ∃ u, ((X ++ r.drop ((j - es.length) * 2)).set (j * 2) (.int .i64 fk)).toArray[j * 2 + 1]? = some u := ⟨_, Array.getElem?_eq_getElem (by rw [List.size_toArray, List.length_set, hT]; omega)⟩
      have hc2 := blk_cell hb' hu2
      have hf2 := blk_free (i := j * 2 + 1) hb'
      have hb'' := blk_set (i := j * 2 + 1) (u := .string ⟨fx.toArray⟩) hb'
      have hst := fill_stepE X r (.int .i64 fk) (.string ⟨fx.toArray⟩) ((j - es.length) * 2) (by rw [HRL.out]; omega)
      rw [hXl] at hst
      rw [List.setIfInBounds_toArray, hst] at hb''
      have hfin : X ++ (.int .i64 fk :: .string ⟨fx.toArray⟩ :: r.drop ((j - es.length) * 2 + 2)) = edFlat (es ++ List.replicate (j + 1 - es.length) (fk, fx)) ++ r.drop ((j + 1 - es.length) * 2) := by
        rw [show j + 1 - es.length = j - es.length + 1 by omega, List.replicate_succ', ← List.append_assoc, edFlat_append, hX, Nat.add_mul, Nat.one_mul, List.append_assoc]
        rfl
      rw [hfin] at hb''
      have hx := HX.out
      have hx0 : wr.cell? ⟨w.heap.size, 0, none⟩ = some (.int .i64 fk) := blk_cell hx rfl
      have hx1 : wr.cell? ⟨w.heap.size, 1, none⟩ = some (.string ⟨fx.toArray⟩) := blk_cell hx rfl
      have HB'' := hid hb''
      have HX'' := hid (show ((wr.setCell ⟨w.heap.size + 1, j * 2, none⟩ (.int .i64 fk)).setCell ⟨w.heap.size + 1, j * 2 + 1, none⟩ (.string ⟨fx.toArray⟩)).heap[w.heap.size]? = some (.cells #[.int .i64 fk, .string ⟨fx.toArray⟩] 30 (0, 0)) from
        ((((Below.refl (w.heap.size + 1) wr).setCell (Nat.le_refl _) _).setCell (Nat.le_refl _) _).block _ (Nat.lt_succ_self _)).trans hx)
      have i0 : (0 : Int) ≤ (j : Int) := Int.natCast_nonneg _
      have i1 : (j : Int) < (es.length : Int) + 3 := by omega
      have jw : IntKind.i64.wrap ((j : Int) + 1) = (j : Int) + 1 := IntWalk.i64_in _ (by omega)
      clear hb hu1 hb' hu2 hb'' hst hfin hT hX hXl hn3 hx
      go_wp2
      go_roundw
      case rel => exact ⟨j + 1, by omega, by omega, by go_num, HB'', HX'', hid ((HBEL.out.setCell (Nat.le_succ _) _).setCell (Nat.le_succ _) _)⟩
      case measure => simp [intOf]; omega
    · obtain rfl : j = es.length + 3 := by omega
      have hown : OwnCopyE wr (w.heap.size + 1) es (fk, fx) := by
        refine ⟨?_⟩
        rw [HB.out, Nat.add_sub_cancel_left, List.drop_of_length_le (by rw [HRL.out]; exact Nat.le_refl _), List.append_nil]
        rfl
      have hlt' : decide ((es.length : Int) + 3 < (es.length : Int) + 3) = false := by simp
      clear hj0 hj hlt
      go_wp2
      go_ret
      exact ⟨_, Nat.le_succ _, rfl, hown, HBEL.out⟩

theorem OwnCopyE.sl {w : World} {g : Nat} {es : List EdS} {f : EdS} (h : OwnCopyE w g es f) : SlE w (.slice (some ⟨g, 0, none⟩) es.length (es.length + 3)) es := by
  refine ⟨some ⟨g, 0, none⟩, es.length + 3, rfl, (fun h => by cases h), by omega, fun a ha j u hu => ?_⟩
  cases ha
  have hlt := (List.getElem?_eq_some_iff.1 hu).1
  obtain ⟨f1, f2⟩ := edFlat_at (es ++ [f, f, f]) j u (by rw [List.getElem?_append_left hlt]; exact hu)
  rw [Addr.add_lit, Addr.add_lit, Nat.zero_add, Nat.zero_add]
  exact ⟨blk_cell h.block (by simpa using f1), blk_cell h.block (by simpa using f2)⟩
theorem OwnCopyE.spare {w : World} {g : Nat} {es : List EdS} {f : EdS} (h : OwnCopyE w g es f) (j : Nat) (h1 : es.length ≤ j) (h2 : j < es.length + 3) : w.cell? ⟨g, j * 2, none⟩ = some (.int .i64 f.1) ∧ w.cell? ⟨g, j * 2 + 1, none⟩ = some (.string ⟨f.2.toArray⟩) := by
  have hf : (es ++ [f, f, f])[j]? = some f := by
    rw [List.getElem?_append_right h1]
    rcases (show j - es.length = 0 ∨ j - es.length = 1 ∨ j - es.length = 2 by omega) with h | h | h <;> rw [h] <;> rfl
  obtain ⟨f1, f2⟩ := edFlat_at _ j f hf
  exact ⟨blk_cell h.block (by simpa using f1), blk_cell h.block (by simpa [strV] using f2)⟩
theorem OwnCopyE.old {w w' : World} {g : Nat} {es : List EdS} {f : EdS} (h : OwnCopyE w g es f) (hk : Below w.heap.size w w') : OwnCopyE w' g es f := ⟨(hk.block g (lt_of_block h.block)).trans h.block⟩

theorem EKept_any (g : Nat) (v : Value) (es : List EdS) (f : EdS) (w : World) (ho : OwnCopyE w g es f) (hv : SlE w v es) (hlen : es.length ≤ 1000000) :
    Calls Try.prog 24 #[.slice (some ⟨g, 0, none⟩) es.length (es.length + 3), v, .agg #[.int .i64 f.1, .string ⟨f.2.toArray⟩]] w fun e w' => e = .returned (.bool true) ∧ Below w.heap.size w w' := by
  obtain ⟨ao, cap, rfl⟩ := hv.form
  obtain ⟨fk, fx⟩ := f
  have hb1 : Below w.heap.size w (w.alloc (.cells #[.int .i64 fk, .string ⟨fx.toArray⟩] 30)) := (Below.refl _ w).alloc (Nat.le_refl _) _
  have hbx := heap_alloc_new w (.cells #[.int .i64 fk, .string ⟨fx.toArray⟩] 30)
  have ho := ho.old hb1
  have hv := hv.old hb1
  have hz1 := hb1.size
  have hlt0 := lt_of_block hbx
  have nw : IntKind.i64.wrap ((es.length : Int) + 3) = (es.length : Int) + 3 := IntWalk.i64_in _ (by omega)
  have hsl : (es.length : Int) + 3 ≤ ((es.length + 3 : Nat) : Int) := by omega
  have hcmp : decide ((es.length : Int) + 3 < (es.length : Int) + 3) = false := by simp
  go_enter Try.func24, Try.ntmps24
  go_wp2_with fail
  generalize hw1 : w.alloc (.cells #[.int .i64 fk, .string ⟨fx.toArray⟩] 30) = w1 at hb1 hbx ho hv hz1 hlt0 ⊢
  clear hw1
  have hD := EPlain_any _ _ es es w1 ho.sl hv (by unfold maxLen; omega)
  rw [show (es == es) = true from by simp] at hD
  refine hD.mono ?_
  rintro e x2 ⟨rfl, hq⟩
  clear hD
  have ho := ho.old hq
  have hbx := (hq.block _ hlt0).trans hbx
  have hb2 := below_step hb1 hq hz1
  have HO := hid ho
  have HX := hid hbx
  have HB2 := hid hb2
  clear ho hbx hb2 hq hb1 hv hz1 hlt0
  have hn3 : (es.length : Int) + 3 ≤ 9223372036854775807 := by omega
  go_wp2_with fail
  go_loopg [8] 3 (fun gg i wr => ∃ j : Nat, es.length ≤ j ∧ j ≤ es.length + 3 ∧ es.length + 3 - j = gg ∧ i = .int .i64 (j : Int) ∧ Hid (Below x2.heap.size x2 wr))
  case atStart => exact ⟨es.length, Nat.le_refl _, by omega, by omega, rfl, hid (Below.refl _ _)⟩
  case round =>
    obtain ⟨j, hj0, hj, rfl, rfl, HB⟩ := hrel
    by_cases hlt : j < es.length + 3
    · obtain ⟨hc1, hc2⟩ := (HO.out.old HB.out).spare j hj0 hlt
      have hx := (HB.out.block _ (lt_of_block HX.out)).trans HX.out
      have hx0 : wr.cell? ⟨w.heap.size, 0, none⟩ = some (.int .i64 fk) := blk_cell hx rfl
      have hx1 : wr.cell? ⟨w.heap.size, 1, none⟩ = some (.string ⟨fx.toArray⟩) := blk_cell hx rfl
      have i0 : (0 : Int) ≤ (j : Int) := Int.natCast_nonneg _
      have i1 : (j : Int) < (es.length : Int) + 3 := by omega
      have jw : IntKind.i64.wrap ((j : Int) + 1) = (j : Int) + 1 := IntWalk.i64_in _ (by omega)
      have hfx : (fx != fx) = false := by simp
      have hfk : (fk != fk) = false := by simp
      clear hx hn3
      go_wp2_with fail
      go_quiet (fail)
      have HB3 := hid (below_step HB.out (below_drewN wr nq) HB.out.size)
      generalize wr.drewN nq = wq at HB3 ⊢
      clear hc1 hc2 hx0 hx1
      go_wp2
      go_roundg (es.length + 3 - (j + 1))
      case measure => omega
      case rel => exact ⟨j + 1, by omega, by omega, rfl, rfl, HB3⟩
    · obtain rfl : j = es.length + 3 := by omega
      have hlt' : decide ((es.length : Int) + 3 < (es.length : Int) + 3) = false := by simp
      have hbf := below_step HB2.out HB.out HB2.out.size
      clear hj0 hj hlt
      go_wp2
      go_ret
      exact ⟨rfl, hbf⟩
end
end Go.Proofs.Ytbcmecclaofmgaa

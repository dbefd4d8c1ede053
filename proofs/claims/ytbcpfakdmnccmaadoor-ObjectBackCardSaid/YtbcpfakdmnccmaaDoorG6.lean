/-
  A row of cells stored in the middle of a block that is known whole. Nothing of the program. api.Entry: held against each other, handed in as a copy with spare room, and whether that is as it was. Arguments that are entries, lists of them, and commits, opened.
-/
import Derived.Test.YtbcpfakdmnccmaaDoorEnc
import Derived.Deep.MidRow
import Derived.Test.YtbcpfakdmnccmaaDoorG3
import Derived.Test.YtbcpfakdmnccmaaDoorG4
import Derived.Test.YtbcpfakdmnccmaaDoorLaw3
import Derived.Deep.LoopGhost
import Derived.Deep.QuietTactic
import Derived.Test.YtbcpfakdmnccmaaDoorOpen2
import Derived.Test.YtbcpfakdmnccmaaDoorOpenS
namespace Go.Proofs.YtbcpfakdmnccmaaDoor
open Go.RowKit

theorem blk_there {w : World} {b o n : Nat} {cs : Array Value} {t : TypeId} (h : w.heap[b]? = some (.cells cs t (0, 0))) (hn : o + n ≤ cs.size) : w.there b o n := fun j hj =>
  ⟨by rw [blk_cell h (Array.getElem?_eq_getElem (show o + j < cs.size by omega))]; rfl, blk_free h⟩
theorem keep_setCells {S : Nat → Prop} (b : Nat) (hb : S b) : ∀ (v : List Value) (o : Nat) (w0 w : World), Keep S w0 w → Keep S w0 (w.setCells b o v)
  | [], _, _, _, h => h
  | x :: v, o, w0, _, h => keep_setCells b hb v (o + 1) w0 _ (h.setCell (p := ⟨b, o, none⟩) hb x)
theorem blk_setCells {b : Nat} {t : TypeId} : ∀ (v v0 X r : List Value) (w : World), v0.length = v.length → w.heap[b]? = some (.cells (X ++ (v0 ++ r)).toArray t (0, 0)) → (w.setCells b X.length v).heap[b]? = some (.cells (X ++ (v ++ r)).toArray t (0, 0))
  | [], v0, X, r, _, hl, h => by
    obtain rfl := List.eq_nil_of_length_eq_zero hl
    exact h
  | x :: v, v0, X, r, w, hl, h => by
    match v0, hl with
    | y :: v0, hl =>
      have h1 := blk_set (i := X.length) (u := x) h
      rw [List.setIfInBounds_toArray, List.set_append_right _ _ (Nat.le_refl _), Nat.sub_self, List.cons_append, List.set_cons_zero] at h1
      have h2 := blk_setCells v v0 (X ++ [x]) r (w.setCell ⟨b, X.length, none⟩ x) (by simpa using hl) (by rw [List.append_assoc]; exact h1)
      rw [List.length_append, List.length_singleton, List.append_assoc] at h2
      exact h2
theorem wpList_store_blk {P : Program} {ops : Array Oper} {rest : List Oper} {o : Oper} {a : Act} {w : World} {Q : Exit → Act → World → Prop} (hgd : o.guard = none) (ty : TypeId) (x y : Operand) (ho : o.op = .store ty x y)
    (b off : Nat) (hx : a.eval x = .pointer (some ⟨b, off, none⟩)) (cells : List Value) (hy : a.eval y = .agg cells.toArray) (X v0 r : List Value) (t : TypeId) (hX : X.length = off) (hv : v0.length = cells.length)
    (hg : w.heap[b]? = some (.cells (X ++ (v0 ++ r)).toArray t (0, 0))) (hi : (P.info? ty).map (·.size) = some cells.length) (h1 : ∀ u ∈ cells, u.oneCell' = true)
    (h : ∀ w', w'.heap[b]? = some (.cells (X ++ (cells ++ r)).toArray t (0, 0)) → Keep (· = b) w w' → wpList P ops Q rest (a.put o.dst undef) w') : wpList P ops Q (o :: rest) a w := by
  subst hX
  refine wpList_store_mid hgd ty x y ho b X.length cells.toArray hx hy (blk_there hg ?_) (by rw [hi, List.size_toArray]) ?_ (h _ ?_ ?_)
  · simp only [List.size_toArray, List.length_append]; omega
  · rw [Array.all_eq_true_iff_forall_mem]
    exact fun v hv => h1 v (by simpa using hv)
  · exact blk_setCells _ _ _ _ _ hv hg
  · exact keep_setCells (S := (· = b)) b rfl _ _ _ _ (Keep.refl _ _)
/-- a row loaded out of the middle of a block that is known whole -/
theorem blk_range {w : World} {b : Nat} {t : TypeId} {fr : Nat × Nat} {X v r : List Value} (h : w.heap[b]? = some (.cells (X ++ (v ++ r)).toArray t fr)) : w.rangeAt b X.length v := by
  intro j u hu
  have hj := (List.getElem?_eq_some_iff.1 hu).1
  simp only [World.cell?, h]
  rw [List.getElem?_toArray, List.getElem?_append_right (by omega), Nat.add_sub_cancel_left, List.getElem?_append_left hj]
  exact hu
end Go.Proofs.YtbcpfakdmnccmaaDoor

namespace Go.Proofs.YtbcpfakdmnccmaaDoor
open Go.RowKit

section
set_option maxRecDepth 100000
set_option maxHeartbeats 4000000
theorem eq1En_any (f g : EntS) (w : World) :
    Calls Tryd.prog 49 #[.agg (entC f).toArray, .agg (entC g).toArray] w fun e w' => e = .returned (.bool (f == g)) ∧ Below w.heap.size w w' := by
  have he := ent_eql f g
  have hi := Tryd.sizeEnt
  obtain ⟨tt, htt⟩ : ∃ tt, (f == g) = tt := ⟨_, rfl⟩
  rw [htt] at he ⊢
  clear htt
  have hf := entC_len f
  have hg := entC_len g
  generalize entC f = cf at *
  generalize entC g = cg at *
  have g1 := heap_alloc2_old w (.cells cf.toArray 31) (.cells cg.toArray 31)
  have g2 := heap_alloc2_new w (.cells cf.toArray 31) (.cells cg.toArray 31)
  have hb : Below w.heap.size w ((w.alloc (.cells cf.toArray 31)).alloc (.cells cg.toArray 31)) := ((Below.refl _ _).alloc (Nat.le_refl _) _).alloc (by simp) _
  have i1 : (Tryd.prog.info? 31).map (·.size) = some cf.toArray.size := by rw [hi, List.size_toArray, hf]
  have i2 : (Tryd.prog.info? 31).map (·.size) = some cg.toArray.size := by rw [hi, List.size_toArray, hg]
  go_enter Tryd.func49, Tryd.ntmps49
  go_wp2_with (first
    | (refine wpList_load_row rfl 31 _ rfl w.heap.size rfl _ _ _ _ g1 Tryd.underlying31 rfl i1 ?_)
    | (refine wpList_load_row rfl 31 _ rfl (w.heap.size + 1) rfl _ _ _ _ g2 Tryd.underlying31 rfl i2 ?_))
  go_ret
  exact ⟨rfl, hb⟩
theorem SameEn_at (a b : Value) (x y : List EntS) (w : World) (ha : SlR encEnt w a x) (hb : SlR encEnt w b y) (hx : x.length ≤ 1000000) :
    Calls Tryd.prog 48 #[a, b, .func (Fn.func 49) #[] #[]] w fun e w' => e = .returned (.bool (x == y)) ∧ Below w.heap.size w w' := by
  obtain ⟨aa, ca, rfl⟩ := SlR.form ha
  obtain ⟨ab, cb, rfl⟩ := SlR.form hb
  by_cases hl : x.length = y.length
  · have hne : (x.length != y.length) = false := by simp [hl]
    have hne' : ((x.length : Int) != (y.length : Int)) = false := by simp [hl]
    have HL := hid hl
    clear hl
    go_enter Tryd.func48, Tryd.ntmps48
    go_wp2
    go_loopw [7] (fun i wr => ∃ k : Nat, k ≤ x.length ∧ i = .int .i64 k ∧ x.take k = y.take k ∧ Below w.heap.size w wr) (fun i _ => x.length - (intOf i).toNat)
    case atStart => exact ⟨0, Nat.zero_le _, rfl, rfl, Below.refl _ _⟩
    case round =>
      obtain ⟨k, hk, rfl, heq, hbel⟩ := hrel
      by_cases hlt : k < x.length
      · obtain ⟨b1, o1, f, rfl, hb1, hc1⟩ := SlR.at' (E := encEnt) (SlR.old ha hbel) (i := k) hlt
        obtain ⟨b2, o2, g, rfl, hb2, hc2⟩ := SlR.at' (E := encEnt) (SlR.old hb hbel) (i := k) (by rw [← HL.out]; exact hlt)
        have hlt2 : k < y.length := by rw [← HL.out]; exact hlt
        have i0 : (0 : Int) ≤ (k : Int) := Int.natCast_nonneg _
        have i1 : (k : Int) < (x.length : Int) := by omega
        have i2 : (k : Int) < (y.length : Int) := by omega
        obtain ⟨C, hC⟩ : ∃ C : World → Prop, C = fun wy => Below wr.heap.size wr wy := ⟨_, rfl⟩
        have ra : ∀ wy, C wy → wy.rangeAt b1 (o1 + k * 34) (entC f) := by
          rw [hC]
          exact fun wy h j u hu => (World.cell?_of_block (w := wr) (h.block _ (World.block_lt_of_cell? wr _ (hc1 j u hu)))).trans (hc1 j u hu)
        have rb : ∀ wy, C wy → wy.rangeAt b2 (o2 + k * 34) (entC g) := by
          rw [hC]
          exact fun wy h j u hu => (World.cell?_of_block (w := wr) (h.block _ (World.block_lt_of_cell? wr _ (hc2 j u hu)))).trans (hc2 j u hu)
        obtain ⟨tt, htt⟩ : ∃ tt, (f == g) = tt := ⟨_, rfl⟩
        have HEQ := hid (show ∀ wy, C wy → Calls Tryd.prog 49 #[.agg (entC f).toArray, .agg (entC g).toArray] wy fun e w' => e = .returned (.bool tt) ∧ C w' from fun wy hy => by
          rw [← htt]
          refine (eq1En_any f g wy).mono fun e w' h => ⟨h.1, ?_⟩
          rw [hC] at hy ⊢
          exact below_step hy h.2 hy.size)
        have hCd : C wr.drew := by rw [hC]; exact ⟨rfl, rfl, rfl, Nat.le_refl _, fun _ _ => rfl⟩
        have HCW := hid (show ∀ wy, C wy → Below w.heap.size w wy from fun wy h => by rw [hC] at h; exact below_step hbel h hbel.size)
        have HRA := hid ra
        have HRB := hid rb
        have HIA := hid (show (Tryd.prog.info? 31).map (·.size) = some (entC f).length by rw [entC_len, Tryd.sizeEnt])
        have HIB := hid (show (Tryd.prog.info? 31).map (·.size) = some (entC g).length by rw [entC_len, Tryd.sizeEnt])
        have HT := hid htt
        have HE := hid heq
        have HB1 := hid hb1
        have HB2 := hid hb2
        have HCD := hid hCd
        clear hC hc1 hc2 ra rb hCd htt heq hb1 hb2 ha hb hbel
        go_wp2_with fail
        refine quiet_region C (by kernel_rfl) (by kernel_rfl) HCD.out ?_
        repeat (first
          | go_big_quiet_skip
          | (go_big_quiet_want; first
            | (refine quiet_load 31 _ rfl b1 (o1 + k * 34) rfl _ _ HRA.out Tryd.underlying31 rfl HIA.out ?_; simp only [Act.put, List.setIfInBounds_toArray, List.set_cons_zero, List.set_cons_succ]; go_big_quiet_on)
            | (refine quiet_load 31 _ rfl b2 (o2 + k * 34) rfl _ _ HRB.out Tryd.underlying31 rfl HIB.out ?_; simp only [Act.put, List.setIfInBounds_toArray, List.set_cons_zero, List.set_cons_succ]; go_big_quiet_on)
            | (go_big_quiet_op; first
              | go_big_quiet_on
              | (apply Exists.intro; with_reducible refine ⟨fun _ _ => rfl, ?_⟩; go_big_quiet_on)
              | (apply Exists.intro
                 refine ⟨fun wy hy => ?_, ?_⟩
                 · with_reducible exact HEQ.out wy hy
                 go_big_quiet_on))))
        refine wpQuiet_nil ?_
        intro w5 hC5
        have hbw := HCW.out w5 hC5
        clear hC5
        cases tt with
        | true =>
          have h12 : f = g := by have := HT.out; rwa [beq_iff_eq] at this
          have R := hid (show x.take (k + 1) = y.take (k + 1) by rw [take_snoc HB1.out, take_snoc HB2.out, HE.out, h12])
          clear h12
          go_wp2
          go_roundw
          case rel => exact ⟨k + 1, by omega, by go_num, R.out, hbw⟩
          case measure => simp [intOf]; omega
        | false =>
          have hxy := hid (show (x == y) = false by
            have h12 : f ≠ g := by have := HT.out; rwa [beq_eq_false_iff_ne] at this
            rw [beq_eq_false_iff_ne]
            intro e
            subst e
            have := HB1.out.symm.trans HB2.out
            exact h12 (Option.some.inj this))
          go_wp2
          go_ret
          rw [hxy.out]
          exact ⟨rfl, hbw⟩
      · obtain rfl : k = x.length := by omega
        have hxy := hid (show (x == y) = true by
          rw [List.take_length, HL.out, List.take_length] at heq
          rw [beq_iff_eq]
          exact heq)
        clear heq
        go_wp2
        go_ret
        rw [hxy.out]
        exact ⟨rfl, hbel⟩
  · have hne : (x.length != y.length) = true := by simpa using hl
    have hne' : ((x.length : Int) != (y.length : Int)) = true := by simp; omega
    have hxy := hid (show (x == y) = false by
      rw [beq_eq_false_iff_ne]
      intro e
      subst e
      exact hl rfl)
    clear hl
    go_enter Tryd.func48, Tryd.ntmps48
    go_wp2
    go_ret
    rw [hxy.out]
    exact ⟨rfl, Below.refl _ _⟩
theorem PlainEn_any (a b : Value) (x y : List EntS) (w : World) (ha : SlR encEnt w a x) (hb : SlR encEnt w b y) (hx : x.length ≤ 1000000) :
    Calls Tryd.prog 26 #[a, b] w fun e w' => e = .returned (.bool (x == y)) ∧ Below w.heap.size w w' := by
  go_enter Tryd.func26, Tryd.ntmps26
  go_wp2_with fail
  refine (SameEn_at a b x y w ha hb hx).mono ?_
  rintro e w' ⟨rfl, hb⟩
  go_wp2
  go_ret
  exact ⟨rfl, hb⟩
/-- A copy with three places of spare room, each of which holds f. -/
structure OwnCopyEn (w : World) (g : Nat) (es : List EntS) (f : EntS) : Prop where
  block : w.heap[g]? = some (.cells (flatR encEnt (es ++ [f, f, f])).toArray 31 (0, 0))
theorem OwnEn_any (v : Value) (es : List EntS) (f : EntS) (w : World) (hv : SlR encEnt w v es) (hlen : es.length ≤ 1000000) :
    Calls Tryd.prog 8 #[v, .agg (entC f).toArray] w fun e w' => ∃ g, w.heap.size ≤ g ∧ e = .returned (.slice (some ⟨g, 0, none⟩) es.length (es.length + 3)) ∧ OwnCopyEn w' g es f ∧ Below w.heap.size w w' := by
  obtain ⟨i0, hi0, hi1, hi2, hi3⟩ := info_parts Tryd.infoEnt
  obtain ⟨ao, cap, rfl⟩ := SlR.form hv
  have hmk := fun w0 => run_make (P := Tryd.prog) w0 22 31 i0 _ Tryd.underlying22 hi0 hi1 .i64 .i64 0 ((es.length : Int) + 3) (by omega) (by omega) (by rw [hi3]; omega) (by omega)
  obtain ⟨mc, hmc, hms⟩ : ∃ mc, mc = madeCells (Value.agg (entC entZ).toArray).cells (((es.length : Int) + 3).toNat * i0.size) ∧ mc.size = (es.length + 3) * 34 := ⟨_, rfl, by rw [size_madeCells, hi2]; omega⟩
  rw [← hmc, show ((0 : Int)).toNat = 0 from rfl, show ((es.length : Int) + 3).toNat = es.length + 3 from by omega] at hmk
  have nw : IntKind.i64.wrap ((es.length : Int) + 3) = (es.length : Int) + 3 := IntWalk.i64_in _ (by omega)
  have HMS := hid hms
  have hfl : (flatR encEnt es).length = es.length * 34 := flatR_length encEnt es
  have HK := hid (show (Tryd.prog.info? 31).map (·.size) = some (entC f).length by rw [entC_len, Tryd.sizeEnt])
  have HKA := hid (show (Tryd.prog.info? 31).map (·.size) = some (entC f).toArray.size by rw [List.size_toArray, entC_len, Tryd.sizeEnt])
  have HKL := hid (entC_len f)
  have HKO := hid (entC_one f)
  have HF1 := hid (show ∀ xs : List EntS, flatR encEnt (xs ++ [f]) = flatR encEnt xs ++ entC f from fun xs => by rw [flatR_append, flatR_one]; rfl)
  have HFT := hid (show flatR encEnt (es ++ [f, f, f]) = flatR encEnt (es ++ List.replicate 3 f) from rfl)
  obtain ⟨F, hF⟩ : ∃ F, entC f = F := ⟨_, rfl⟩
  rw [hF] at HK HKA HKL HKO HF1 ⊢
  clear hF
  have g1 : 0 + es.length ≤ es.length + 3 := by omega
  have g2 : 0 * 34 + (flatR encEnt es).length ≤ mc.size := by rw [hms, hfl]; omega
  have hsl : (es.length : Int) + 3 ≤ ((es.length + 3 : Nat) : Int) := by omega
  have hgb : ((w.alloc (.cells F.toArray 31)).alloc (.cells mc 31)).heap[w.heap.size + 1]? = some (.cells mc 31 (0, 0)) := by
    have := heap_alloc_new (w.alloc (.cells F.toArray 31)) (.cells mc 31)
    simpa using this
  have hbx : ((w.alloc (.cells F.toArray 31)).alloc (.cells mc 31)).heap[w.heap.size]? = some (.cells F.toArray 31 (0, 0)) := by
    have := heap_alloc_new w (.cells F.toArray 31)
    exact ((Below.refl _ (w.alloc (.cells F.toArray 31))).alloc (Nat.le_refl _) (.cells mc 31)).block _ (lt_of_block this) |>.trans this
  have hsz : ((w.alloc (.cells F.toArray 31)).alloc (.cells mc 31)).heap.size = w.heap.size + 2 := by simp
  have hb1 : Below w.heap.size w ((w.alloc (.cells F.toArray 31)).alloc (.cells mc 31)) := ((Below.refl _ w).alloc (Nat.le_refl _) _).alloc (by simp) _
  have hv1 := SlR.old hv hb1
  clear hmc hms
  go_enter Tryd.func8, Tryd.ntmps8
  go_wp2_with (refine wpList_append_exact rfl (.tmp 12) (.tmp 13) _ _ rfl 31 34 Tryd.underlying22 hi0 hi2 (w.heap.size + 1) 0 (es.length + 3) mc rfl hgb _ _ _ rfl (SlR.src hv1 Tryd.underlying22) g1 g2 ?_; intro w2 hb2 hk2)
  have hbx2 : w2.heap[w.heap.size]? = some (.cells F.toArray 31 (0, 0)) := ((hk2.below (B := w.heap.size + 1) (by rw [hsz]; omega) fun i hi => by show ¬ i = _; omega).block _ (Nat.lt_succ_self _)).trans hbx
  have hb3 : Below w.heap.size w w2 := hb1.trans (hk2.below (by rw [hsz]; omega) fun i hi => by show ¬ i = _; omega)
  obtain ⟨r, hr, hrl⟩ : ∃ r : List Value, List.take (0 * 34) mc.toList ++ flatR encEnt es ++ List.drop (0 * 34 + (flatR encEnt es).length) mc.toList = flatR encEnt (es ++ List.replicate 0 f) ++ r.drop (0 * 34) ∧ r.length = 3 * 34 := by
    refine ⟨List.drop (0 * 34 + (flatR encEnt es).length) mc.toList, by simp, ?_⟩
    rw [List.length_drop, Array.length_toList, HMS.out, hfl]
    omega
  rw [show @HAppend.hAppend (List Value) (List Value) (List Value) _ (List.take (0 * 34) mc.toList ++ flatR encEnt es) (List.drop (0 * 34 + (flatR encEnt es).length) mc.toList) = _ from hr] at hb2
  have HRL := hid hrl
  have HB2 := hid hb2
  have HBX2 := hid hbx2
  have HB3 := hid hb3
  clear hr hrl hk2 hmk g2 hgb hbx hsz hb1 hv1 hv hb2 hbx2 hb3 hi0 hi1 hi2 hi3 hfl
  have hn3 : (es.length : Int) + 3 ≤ 9223372036854775807 := by omega
  go_loopw [7] (fun i wr => ∃ j : Nat, es.length ≤ j ∧ j ≤ es.length + 3 ∧ i = .int .i64 (j : Int) ∧ Hid (wr.heap[w.heap.size + 1]? = some (.cells (flatR encEnt (es ++ List.replicate (j - es.length) f) ++ r.drop ((j - es.length) * 34)).toArray 31 (0, 0))) ∧ Hid (wr.heap[w.heap.size]? = some (.cells F.toArray 31 (0, 0))) ∧ Hid (Below w.heap.size w wr)) (fun i _ => es.length + 3 - (intOf i).toNat)
  case atStart => exact ⟨es.length, Nat.le_refl _, by omega, rfl, hid (by rw [Nat.sub_self]; exact HB2.out), HBX2, HB3⟩
  case round =>
    obtain ⟨j, hj0, hj, rfl, HB, HX, HBEL⟩ := hrel
    by_cases hlt : j < es.length + 3
    · obtain ⟨X, hX⟩ : ∃ X, flatR encEnt (es ++ List.replicate (j - es.length) f) = X := ⟨_, rfl⟩
      have hXl : X.length = j * 34 := by rw [← hX, flatR_length, List.length_append, List.length_replicate]; show _ * 34 = _; congr 1; omega
      have hb := HB.out
      have hdr : r.drop ((j - es.length) * 34) = (r.drop ((j - es.length) * 34)).take 34 ++ r.drop ((j + 1 - es.length) * 34) := by
        rw [show (j + 1 - es.length) * 34 = (j - es.length) * 34 + 34 by rw [show j + 1 - es.length = j - es.length + 1 by omega, Nat.add_mul, Nat.one_mul], ← List.drop_drop, List.take_append_drop]
      rw [hX, hdr] at hb
      have hv0 : ((r.drop ((j - es.length) * 34)).take 34).length = F.length := by
        rw [List.length_take, List.length_drop, HRL.out, HKL.out]
        omega
      have hfin : X ++ F = flatR encEnt (es ++ List.replicate (j + 1 - es.length) f) := by
        rw [← hX, ← HF1.out, List.append_assoc, ← List.replicate_succ', show j + 1 - es.length = j - es.length + 1 by omega]
      have HXL := hid hXl
      have HV0 := hid hv0
      have HBB := hid hb
      have HFIN := hid hfin
      have HX1 := hid HX.out
      have i0 : (0 : Int) ≤ (j : Int) := Int.natCast_nonneg _
      have i1 : (j : Int) < (es.length : Int) + 3 := by omega
      have jw : IntKind.i64.wrap ((j : Int) + 1) = (j : Int) + 1 := IntWalk.i64_in _ (by omega)
      clear hb hfin hdr hv0 hXl hn3 hX
      go_wp2_with (first
        | (refine wpList_load_row rfl 31 _ rfl w.heap.size rfl _ _ _ _ HX1.out Tryd.underlying31 rfl HKA.out ?_)
        | (refine wpList_store_blk rfl 31 _ _ rfl (w.heap.size + 1) (j * 34) rfl F rfl X _ _ _ HXL.out HV0.out HBB.out HK.out HKO.out ?_; intro w6 hb6 hk6))
      have HB6 := hid (show w6.heap[w.heap.size + 1]? = some (.cells (flatR encEnt (es ++ List.replicate (j + 1 - es.length) f) ++ r.drop ((j + 1 - es.length) * 34)).toArray 31 (0, 0)) by rw [← HFIN.out, List.append_assoc]; exact hb6)
      have HX6 := hid (show w6.heap[w.heap.size]? = some (.cells F.toArray 31 (0, 0)) from (hk6.block _ (lt_of_block HX.out) (by show ¬ _ = _; omega)).trans HX.out)
      have HBEL6 := hid (HBEL.out.trans (hk6.below HBEL.out.size fun i hi => by show ¬ i = _; omega))
      clear hb6 hk6
      go_wp2
      go_roundw
      case rel => exact ⟨j + 1, by omega, by omega, by go_num, HB6, HX6, HBEL6⟩
      case measure => simp [intOf]; omega
    · obtain rfl : j = es.length + 3 := by omega
      have hown : OwnCopyEn wr (w.heap.size + 1) es f := by
        refine ⟨?_⟩
        rw [HB.out, Nat.add_sub_cancel_left, List.drop_of_length_le (by rw [HRL.out]; exact Nat.le_refl _), List.append_nil]
        rfl
      have hlt' : decide ((es.length : Int) + 3 < (es.length : Int) + 3) = false := by simp
      clear hj0 hj hlt
      go_wp2
      go_ret
      exact ⟨_, Nat.le_succ _, rfl, hown, HBEL.out⟩
theorem OwnCopyEn.sl {w : World} {g : Nat} {es : List EntS} {f : EntS} (h : OwnCopyEn w g es f) : SlR encEnt w (.slice (some ⟨g, 0, none⟩) es.length (es.length + 3)) es := by
  refine ⟨some ⟨g, 0, none⟩, es.length + 3, rfl, (fun h => by cases h), by omega, fun a ha i x hx j u hu => ?_⟩
  cases ha
  have hj : j < (encEnt).k := by have := (List.getElem?_eq_some_iff.1 hu).1; rwa [(encEnt).len] at this
  have h1 := flatR_at encEnt (xs := es ++ [f, f, f]) (by rw [List.getElem?_append_left (List.getElem?_eq_some_iff.1 hx).1]; exact hx) hj
  rw [Addr.add_lit, Nat.zero_add]
  exact blk_cell h.block (by rw [List.getElem?_toArray, h1]; exact hu)
theorem OwnCopyEn.spare {w : World} {g : Nat} {es : List EntS} {f : EntS} (h : OwnCopyEn w g es f) (j : Nat) (h1 : es.length ≤ j) (h2 : j < es.length + 3) : w.rangeAt g (j * 34) (entC f) := by
  intro i u hu
  have hf : (es ++ [f, f, f])[j]? = some f := by
    rw [List.getElem?_append_right h1]
    rcases (show j - es.length = 0 ∨ j - es.length = 1 ∨ j - es.length = 2 by omega) with h | h | h <;> rw [h] <;> rfl
  have hj : i < (encEnt).k := by have := (List.getElem?_eq_some_iff.1 hu).1; rwa [entC_len] at this
  have h1 := flatR_at encEnt hf hj
  exact blk_cell h.block (by rw [List.getElem?_toArray]; exact h1.trans hu)
theorem OwnCopyEn.old {w w' : World} {g : Nat} {es : List EntS} {f : EntS} (h : OwnCopyEn w g es f) (hk : Below w.heap.size w w') : OwnCopyEn w' g es f := ⟨(hk.block g (lt_of_block h.block)).trans h.block⟩
theorem KeptEn_any (g : Nat) (v : Value) (es : List EntS) (f : EntS) (w : World) (ho : OwnCopyEn w g es f) (hv : SlR encEnt w v es) (hlen : es.length ≤ 1000000) :
    Calls Tryd.prog 16 #[.slice (some ⟨g, 0, none⟩) es.length (es.length + 3), v, .agg (entC f).toArray] w fun e w' => e = .returned (.bool true) ∧ Below w.heap.size w w' := by
  obtain ⟨ao, cap, rfl⟩ := SlR.form hv
  have HSP := hid (fun (wr : World) (h : OwnCopyEn wr g es f) j h1 h2 => h.spare j h1 h2)
  have HK := hid (show (Tryd.prog.info? 31).map (·.size) = some (entC f).length by rw [entC_len, Tryd.sizeEnt])
  have hne := ent_neq f f
  rw [show (f != f) = false by rw [bne_eq_false_iff_eq]] at hne
  obtain ⟨F, hF⟩ : ∃ F, entC f = F := ⟨_, rfl⟩
  rw [hF] at HSP HK hne ⊢
  clear hF
  have hb1 : Below w.heap.size w (w.alloc (.cells F.toArray 31)) := (Below.refl _ w).alloc (Nat.le_refl _) _
  have hbx := heap_alloc_new w (.cells F.toArray 31)
  have ho := ho.old hb1
  have hv := SlR.old hv hb1
  have hz1 := hb1.size
  have hlt0 := lt_of_block hbx
  have nw : IntKind.i64.wrap ((es.length : Int) + 3) = (es.length : Int) + 3 := IntWalk.i64_in _ (by omega)
  have hsl : (es.length : Int) + 3 ≤ ((es.length + 3 : Nat) : Int) := by omega
  have hcmp : decide ((es.length : Int) + 3 < (es.length : Int) + 3) = false := by simp
  go_enter Tryd.func16, Tryd.ntmps16
  go_wp2_with fail
  generalize hw1 : w.alloc (.cells F.toArray 31) = w1 at hb1 hbx ho hv hz1 hlt0 ⊢
  clear hw1
  have hD := PlainEn_any _ _ es es w1 ho.sl hv hlen
  rw [show (es == es) = true from by rw [beq_iff_eq]] at hD
  refine hD.mono ?_
  rintro e x2 ⟨rfl, hq⟩
  clear hD
  have ho := ho.old hq
  have hbx := (hq.block _ hlt0).trans hbx
  have hb2 := below_step hb1 hq hz1
  have HO := hid ho
  have HX := hid hbx
  have HB2 := hid hb2
  clear ho hbx hb2 hq hb1 hv hz1 hlt0
  have hn3 : (es.length : Int) + 3 ≤ 9223372036854775807 := by omega
  go_wp2_with fail
  go_loopg [8] 3 (fun gg i wr => ∃ j : Nat, es.length ≤ j ∧ j ≤ es.length + 3 ∧ es.length + 3 - j = gg ∧ i = .int .i64 (j : Int) ∧ Hid (Below x2.heap.size x2 wr))
  case atStart => exact ⟨es.length, Nat.le_refl _, by omega, by omega, rfl, hid (Below.refl _ _)⟩
  case round =>
    obtain ⟨j, hj0, hj, rfl, rfl, HB⟩ := hrel
    by_cases hlt : j < es.length + 3
    · have i0 : (0 : Int) ≤ (j : Int) := Int.natCast_nonneg _
      have i1 : (j : Int) < (es.length : Int) + 3 := by omega
      have jw : IntKind.i64.wrap ((j : Int) + 1) = (j : Int) + 1 := IntWalk.i64_in _ (by omega)
      obtain ⟨C, hC⟩ : ∃ C : World → Prop, C = fun wy => Below wr.heap.size wr wy := ⟨_, rfl⟩
      have HRA := hid (show ∀ wy, C wy → wy.rangeAt g (j * 34) F by
        rw [hC]
        exact fun wy h => HSP.out wy ((HO.out.old HB.out).old h) j hj0 hlt)
      have HRB := hid (show ∀ wy, C wy → wy.rangeAt w.heap.size 0 F by
        rw [hC]
        intro wy h
        have h1 := (HB.out.block _ (lt_of_block HX.out)).trans HX.out
        have h2 := (h.block _ (lt_of_block h1)).trans h1
        intro q u hu
        simp [World.cell?, h2, hu])
      have HCD := hid (show C wr.drew by rw [hC]; exact ⟨rfl, rfl, rfl, Nat.le_refl _, fun _ _ => rfl⟩)
      have HCW := hid (show ∀ wy, C wy → Below x2.heap.size x2 wy from fun wy h => by rw [hC] at h; exact below_step HB.out h HB.out.size)
      clear hC hn3
      go_wp2_with fail
      refine quiet_region C (by kernel_rfl) (by kernel_rfl) HCD.out ?_
      repeat (first
        | go_big_quiet_skip
        | (go_big_quiet_want; first
          | (refine quiet_load 31 _ rfl g (j * 34) rfl _ _ HRA.out Tryd.underlying31 rfl HK.out ?_; simp only [Act.put, List.setIfInBounds_toArray, List.set_cons_zero, List.set_cons_succ]; go_big_quiet_on)
          | (refine quiet_load 31 _ rfl w.heap.size 0 rfl _ _ HRB.out Tryd.underlying31 rfl HK.out ?_; simp only [Act.put, List.setIfInBounds_toArray, List.set_cons_zero, List.set_cons_succ]; go_big_quiet_on)
          | (go_big_quiet_op; first
            | go_big_quiet_on
            | (apply Exists.intro; with_reducible refine ⟨fun _ _ => rfl, ?_⟩; go_big_quiet_on)
            | (apply Exists.intro
               refine ⟨fun wy _ => ?_, ?_⟩
               · exact ⟨hne wy, rfl⟩
               go_big_quiet_on))))
      refine wpQuiet_nil ?_
      intro w5 hC5
      have HB3 := hid (HCW.out w5 hC5)
      clear hC5 hne
      go_wp2
      go_roundg (es.length + 3 - (j + 1))
      case measure => omega
      case rel => exact ⟨j + 1, by omega, by omega, rfl, by go_num, HB3⟩
    · obtain rfl : j = es.length + 3 := by omega
      have hlt' : decide ((es.length : Int) + 3 < (es.length : Int) + 3) = false := by simp
      have hbf := below_step HB2.out HB.out HB2.out.size
      clear hj0 hj hlt
      go_wp2
      go_ret
      exact ⟨rfl, hbf⟩
end
end Go.Proofs.YtbcpfakdmnccmaaDoor

namespace Go.Proofs.YtbcpfakdmnccmaaDoor
open Go.RowKit Go.WideShapes Go.ChangeShapes Go.ChangeAt

/-- A list of entries that came in. -/
def FactEnts (w : World) (v : Value) (l : List EntS) : Prop := SlEnt w v l ∧ l.length ≤ maxLen ∧ ∀ f ∈ l, f.1.length ≤ maxLen
/-- a commit of nothing -/
def com0 : Value := .agg ([Value.bool false] ++ List.replicate 64 (Value.int .u8 0) ++ [Value.string ByteArray.empty, Value.int .u64 0]).toArray
theorem cellsEnt : Tryd.prog.cellsOf 31 = 34 := by kernel_rfl
theorem cellsCom : Tryd.prog.cellsOf 27 = 67 := by kernel_rfl
theorem cellsStr' : Tryd.prog.cellsOf 9 = 1 := by kernel_rfl
theorem cellsBool' : Tryd.prog.cellsOf 4 = 1 := by kernel_rfl
theorem cellsU64' : Tryd.prog.cellsOf 25 = 1 := by kernel_rfl
theorem SlR.ofNE {α : Type} {E : Enc α} {w : World} {v : Value} {es : List α} (h : SlN E.k w v (es.map E.enc)) : SlR E w v es := by
  obtain ⟨ao, cap, rfl, hn, hcap, hc⟩ := h
  rw [List.length_map] at hcap ⊢
  refine ⟨ao, cap, rfl, fun h => by simpa using hn h, hcap, fun a ha i e he j u hu => ?_⟩
  exact (hc a ha i (E.enc e) (by rw [List.getElem?_map, he]; rfl)).2 j u hu
section
set_option maxRecDepth 100000
variable {H : Type} {enc : TypeId × Value → H} {w : World} {base : Nat} {spare : Nat → Bool} {held : Bool}
theorem key_of {fuel : Nat} {cs : List Value} {y : DataW H × List MemPlace} (h : DataW.trod enc Tryd.prog w base spare held fuel 24 cs = some y) (hl : cs.length = 32) : ∃ k : KeyS, cs = keyC k := by
  obtain ⟨k, hk⟩ := key_cells Tryd.underlying24 Tryd.underlying5 cellsU8 h hl
  refine ⟨⟨k, ?_⟩, hk⟩
  rw [hk, Lib.byteCells_length] at hl
  exact hl
theorem ent_of {fuel : Nat} {cs : List Value} {y : DataW H × List MemPlace} (h : DataW.trod enc Tryd.prog w base spare held fuel 31 cs = some y) : ∃ f : EntS, cs = encEnt.enc f ∧ f.1.length ≤ maxLen := by
  obtain ⟨ys, n, _, _, hl, hlen, hf⟩ := DataW.trod_struct Tryd.underlying31 h
  rw [cellsEnt] at hl
  match cs, hl, ys, hlen with
  | c0 :: c1 :: r, hl, [y0, y1, y2], _ =>
    have hr : r.length = 32 := by simpa using hl
    have f0 : DataW.trod enc Tryd.prog w base spare held n 9 [c0] = some y0 := by simpa [cellsStr'] using hf 0 _ rfl
    have f1 : DataW.trod enc Tryd.prog w base spare held n 4 [c1] = some y1 := by simpa [cellsBool'] using hf 1 _ rfl
    have f2 : DataW.trod enc Tryd.prog w base spare held n 24 r = some y2 := by
      have this : DataW.trod enc Tryd.prog w base spare held n 24 (List.take (Tryd.prog.cellsOf 24) (List.drop 2 (c0 :: c1 :: r))) = some y2 := hf 2 _ rfl
      rw [cellsKey] at this
      simp only [List.drop_succ_cons, List.drop_zero] at this
      rw [List.take_of_length_le (by omega)] at this
      simpa using this
    obtain ⟨s0, e0, _, z0⟩ := DataW.trod_string Tryd.underlying9 f0
    obtain ⟨b1, e1, _⟩ := DataW.trod_bool Tryd.underlying4 f1
    obtain ⟨k, e2⟩ := key_of f2 hr
    simp at e0 e1
    exact ⟨(s0.data.toList, b1, k), by simp [encEnt, entC, e0, e1, e2], size_le z0⟩
theorem com_of {fuel : Nat} {cs : List Value} {y : DataW H × List MemPlace} (h : DataW.trod enc Tryd.prog w base spare held fuel 27 cs = some y) : ∃ c : ComS, cs = comC c ∧ c.2.2.2.1.length ≤ maxLen ∧ c.2.2.2.2 < 18446744073709551616 := by
  obtain ⟨ys, n, _, _, hl, hlen, hf⟩ := DataW.trod_struct Tryd.underlying27 h
  rw [cellsCom] at hl
  match cs, hl, ys, hlen with
  | c0 :: r, hl, [y0, y1, y2, y3, y4], _ =>
    have hr : r.length = 66 := by simpa using hl
    obtain ⟨A, hA⟩ : ∃ A, r.take 32 = A := ⟨_, rfl⟩
    obtain ⟨B, hB⟩ : ∃ B, (r.drop 32).take 32 = B := ⟨_, rfl⟩
    have hAl : A.length = 32 := by rw [← hA, List.length_take]; omega
    have hBl : B.length = 32 := by rw [← hB, List.length_take, List.length_drop]; omega
    have hsp : r = A ++ (B ++ r.drop 64) := by
      rw [← hA, ← hB, show r.drop 64 = (r.drop 32).drop 32 by rw [List.drop_drop], List.take_append_drop, List.take_append_drop]
    have hcl : (r.drop 64).length = 2 := by rw [List.length_drop]; omega
    obtain ⟨c3, c4, hc⟩ : ∃ c3 c4, r.drop 64 = [c3, c4] := by
      match r.drop 64, hcl with
      | [c3, c4], _ => exact ⟨c3, c4, rfl⟩
    have f0 : DataW.trod enc Tryd.prog w base spare held n 4 [c0] = some y0 := by simpa [cellsBool'] using hf 0 _ rfl
    have f1 : DataW.trod enc Tryd.prog w base spare held n 24 A = some y1 := by
      have this : DataW.trod enc Tryd.prog w base spare held n 24 (List.take (Tryd.prog.cellsOf 24) (List.drop 1 (c0 :: r))) = some y1 := hf 1 _ rfl
      rw [cellsKey] at this
      simp only [List.drop_succ_cons, List.drop_zero] at this
      rw [hA] at this
      simpa using this
    have f2 : DataW.trod enc Tryd.prog w base spare held n 24 B = some y2 := by
      have this : DataW.trod enc Tryd.prog w base spare held n 24 (List.take (Tryd.prog.cellsOf 24) (List.drop 33 (c0 :: r))) = some y2 := hf 2 _ rfl
      rw [cellsKey] at this
      simp only [List.drop_succ_cons] at this
      rw [hB] at this
      simpa using this
    have f3 : DataW.trod enc Tryd.prog w base spare held n 9 [c3] = some y3 := by
      have this : DataW.trod enc Tryd.prog w base spare held n 9 (List.take (Tryd.prog.cellsOf 9) (List.drop 65 (c0 :: r))) = some y3 := hf 3 _ rfl
      rw [cellsStr'] at this
      simp only [List.drop_succ_cons] at this
      rw [hc] at this
      simpa using this
    have f4 : DataW.trod enc Tryd.prog w base spare held n 25 [c4] = some y4 := by
      have this : DataW.trod enc Tryd.prog w base spare held n 25 (List.take (Tryd.prog.cellsOf 25) (List.drop 66 (c0 :: r))) = some y4 := hf 4 _ rfl
      rw [cellsU64'] at this
      simp only [List.drop_succ_cons] at this
      rw [show r.drop 65 = (r.drop 64).drop 1 by rw [List.drop_drop], hc] at this
      simpa using this
    obtain ⟨b0, e0, _⟩ := DataW.trod_bool Tryd.underlying4 f0
    obtain ⟨k1, e1⟩ := key_of f1 hAl
    obtain ⟨k2, e2⟩ := key_of f2 hBl
    obtain ⟨s3, e3, _, z3⟩ := DataW.trod_string Tryd.underlying9 f3
    obtain ⟨z, e4, _, z4⟩ := DataW.trod_int Tryd.underlying25 f4
    have hz := bounds_u64 z4
    simp at e0 e3 e4
    refine ⟨(b0, k1, k2, s3.data.toList, z.toNat), ?_, size_le z3, by show z.toNat < _; omega⟩
    have hzz : ((z.toNat : Nat) : Int) = z := by omega
    rw [hsp, hc, e0, e1, e2, e3, e4]
    simp [comC, hzz]
theorem open_ents {fuel : Nat} {cs : List Value} {x : DataW H × List MemPlace} (h : DataW.trod enc Tryd.prog w base spare held fuel 22 cs = some x) :
    ∃ v l, cs = [v] ∧ FactEnts w v l := by
  obtain ⟨v, css, n, rfl, hs, hl, hu⟩ := open_slN Tryd.underlying22 cellsEnt h
  obtain ⟨l, rfl, hb⟩ : ∃ l : List EntS, css = l.map encEnt.enc ∧ ∀ f ∈ l, f.1.length ≤ maxLen := by
    clear hs hl
    induction css with
    | nil => exact ⟨[], rfl, by simp⟩
    | cons c css ih =>
      obtain ⟨y, hy⟩ := hu c (List.mem_cons_self ..)
      obtain ⟨x, rfl, hx⟩ := ent_of hy
      obtain ⟨l, rfl, hb⟩ := ih fun u hu' => hu u (List.mem_cons_of_mem _ hu')
      refine ⟨x :: l, rfl, fun f hf => ?_⟩
      rcases List.mem_cons.1 hf with rfl | hf
      · exact hx
      · exact hb f hf
  exact ⟨v, l, rfl, SlR.ofNE (E := encEnt) hs, by simpa using hl, hb⟩
theorem open_com {r : Reach} {b0 : Nat} {v : Value} {d : DataW H} {ps : List MemPlace} (hval : Value.okWide Tryd.prog w r b0 27 v) (hd : DataW.Trod enc Tryd.prog w base spare held 27 v d ps) :
    ∃ c : ComS, v = .agg (comC c).toArray ∧ (c.2.2.2.1.length ≤ maxLen ∧ c.2.2.2.2 < 18446744073709551616) := by
  unfold Value.okWide at hval
  rw [Tryd.underlying27] at hval
  obtain ⟨cs, rfl, hs, _⟩ := hval
  obtain ⟨fuel, hf⟩ := hd
  obtain ⟨c, hc, hb⟩ := com_of hf
  refine ⟨c, ?_, hb⟩
  have := congrArg List.toArray hc
  congr 1
end
end Go.Proofs.YtbcpfakdmnccmaaDoor

/-
  Hunks inverted (the document's own).
-/
import Derived.Test.YtbcmecclaofmgaaHkA
import Derived.Deep.RegionHeldLaw
namespace Go.Proofs.Ytbcmecclaofmgaa
open Go.RowKit

theorem invert_step {α : Type} {hs : List (Hk α)} {i : Nat} {p : Hk α} (h : hs[i]? = some p) (more : Int) : invertFrom more (hs.drop i) = (p.1 + more, p.2.2, p.2.1) :: invertFrom (more + p.2.2.length - p.2.1.length) (hs.drop (i + 1)) := by
  obtain ⟨q, e⟩ := List.getElem?_eq_some_iff.1 h
  rw [List.drop_eq_getElem_cons q, e]
  rfl
/-- a copy of a list of texts, in a block of its own (or nil) -/
structure Fresh (w0 w : World) (v : Value) (xs : List (List UInt8)) : Prop where
  sl : Sl w v (strCells xs)
  far : ∀ a n c, v = .slice (some a) n c → w0.heap.size ≤ a.block ∧ a.block < w.heap.size
  one : v.oneCell' = true
theorem Fresh.old {w0 w w' : World} {v : Value} {xs : List (List UInt8)} (h : Fresh w0 w v xs) (hk : Below w.heap.size w w') : Fresh w0 w' v xs :=
  ⟨h.sl.old hk, fun a n c e => ⟨(h.far a n c e).1, Nat.lt_of_lt_of_le (h.far a n c e).2 hk.size⟩, h.one⟩
theorem Fresh.mono {w0 w1 w : World} {v : Value} {xs : List (List UInt8)} (h : Fresh w0 w v xs) (hz : w1.heap.size ≤ w0.heap.size) : Fresh w1 w v xs :=
  ⟨h.sl, fun a n c e => ⟨Nat.le_trans hz (h.far a n c e).1, (h.far a n c e).2⟩, h.one⟩
theorem Fresh.nest {w0 w : World} {v u : Value} {xs : List (List UInt8)} (h : Fresh w0 w u xs) (hv : ∀ j, v.ownBlock = some j → j < w0.heap.size) : Nest w v u xs :=
  ⟨h.sl, fun a n c e => ⟨(h.far a n c e).2, fun e' => by have h1 := hv _ e'; have h2 := (h.far a n c e).1; omega⟩⟩
theorem step_clone_ss {ops : Array Oper} {o : Oper} {a : Act} {K : Act → World → Prop} {Q : Exit → Act → World → Prop} {E : Prop} (w : World) (hgd : o.guard = none) (sx : Operand)
    (ho : o.op = .call { callee := .builtin .append, args := #[.const (.slice none 0 0), sx], argTypes := #[23, 23] })
    (ys : List (List UInt8)) (u : Value) (hx : a.eval sx = u) (hu : Sl w u (strCells ys)) (hlen : ys.length ≤ 4000000000)
    (h : ∀ v' w', Fresh w w' v' ys → Below w.heap.size w w' → K (a.put o.dst v') w') :
    if Region.wanted o (yielded ops a.tmps) = true then Oper.wp Try.prog o a w K Q else E := by
  refine step_append_ss hgd (.const (.slice none 0 0)) sx ho w.heap.size (.slice none 0 0) [] ys rfl (World.ownsRow_nil _ _ _ _) u hx hu (by simpa using hlen) (Nat.le_refl _) fun v' w' h1 h2 => h v' w' ⟨Sl.ofOwns h1, fun b n c e => ?_, ?_⟩ h2
  · rcases h1.2 with ⟨rfl, _⟩ | ⟨g, cap, cur, rfl, r1, r2, r3⟩
    · cases e
    · cases e
      exact ⟨r1, lt_of_block r2⟩
  · obtain ⟨ao, cap, rfl⟩ := owns_form h1
    rfl

section
set_option maxRecDepth 100000
set_option maxHeartbeats 4000000
theorem RInvert_any (v : Value) (hs : List HkS) (w : World) (hv : SlH w v hs) (hf : hkFew hs) (hl : hs.length ≤ 1000000) :
    Calls Try.prog 22 #[v] w fun e w' => ∃ u, e = .returned u ∧ OwnHk w' w.heap.size u (invertS hs) ∧ Below w.heap.size w w' := by
  have HR := hid (RRight_any v hs w hv hf hl)
  obtain ⟨ao, cap, rfl⟩ := hv.form
  have HV := hid hv
  have HF := hid hf
  clear hv hf
  go_enter Try.func22, Try.ntmps22
  go_wp2_with fail
  refine HR.out.mono ?_
  rintro e w1 ⟨rfl, hb1⟩
  cases hr : rightS hs with
  | false =>
    have HN := hid (show invertS hs = [] by unfold invertS; rw [hr]; rfl)
    clear hr HR
    go_wp2_with fail
    go_ret
    exact ⟨_, rfl, by rw [HN.out]; exact OwnHk.nil _ _, hb1⟩
  | true =>
    have HN := hid (show invertS hs = invertFrom 0 hs by unfold invertS; rw [hr]; rfl)
    have HOK := hid (fun p hp => okOne_iff.1 (right_at hr p hp))
    clear hr HR
    go_wp2_with fail
    go_loopg [3, 4, 5] hs.length (fun g out m i wr => ∃ (k : Nat) (M : Int) (D : List HkS), k ≤ hs.length ∧ g = hs.length - k ∧ i = .int .i64 k ∧ m = .int .i64 M ∧ Hid (D ++ invertFrom M (hs.drop k) = invertS hs) ∧ Hid (OwnHk wr w.heap.size out D) ∧ Hid (D.length = k) ∧ Hid (-((k : Int) * 1000000) ≤ M ∧ M ≤ (k : Int) * 1000000) ∧ Below w.heap.size w wr)
    case atStart => exact ⟨0, 0, [], Nat.zero_le _, rfl, rfl, rfl, hid (by rw [HN.out, List.drop_zero]; rfl), hid (OwnHk.nil _ _), hid rfl, hid (by simp), hb1⟩
    case round =>
      obtain ⟨k, M, D, hk, rfl, rfl, rfl, HD, HO, HL, HM, hbel⟩ := hrel
      have hz := hbel.size
      have k0 : (0 : Int) ≤ (k : Int) := Int.natCast_nonneg _
      by_cases hlt : k < hs.length
      · have k1 : (k : Int) < (hs.length : Int) := by omega
        have kw : IntKind.i64.wrap ((k : Int) + 1) = (k : Int) + 1 := IntWalk.i64_in _ (by omega)
        obtain ⟨b, o, z, old, new, vo, vn, rfl, c1, c2, c3, s1, s2, he⟩ := (HV.out.old hbel).at' (i := k) hlt
        obtain ⟨oo, oc, rfl⟩ := s1.form
        obtain ⟨no, nc, rfl⟩ := s2.form
        rw [strCells_length] at c2 c3
        obtain ⟨l1, l2⟩ := HF.out.at he
        have hok := HOK.out _ (List.mem_of_getElem? he)
        have hz0 : 0 ≤ z := hok.1
        have hz1 : z ≤ 2147483647 := hok.2.1
        have HSTEP := hid (invert_step he M)
        obtain ⟨m1, m2⟩ := HM.out
        have zw : IntKind.i64.wrap (z + M) = z + M := IntWalk.i64_in _ (by omega)
        have mw1 : IntKind.i64.wrap (M + (new.length : Int)) = M + (new.length : Int) := IntWalk.i64_in _ (by omega)
        have mw2 : IntKind.i64.wrap (M + (new.length : Int) - (old.length : Int)) = M + (new.length : Int) - (old.length : Int) := IntWalk.i64_in _ (by omega)
        have HM' := hid (show -(((k + 1 : Nat) : Int) * 1000000) ≤ M + (new.length : Int) - (old.length : Int) ∧ M + (new.length : Int) - (old.length : Int) ≤ ((k + 1 : Nat) : Int) * 1000000 by omega)
        have HL' := hid (show D.length ≤ 4000000 by have := HL.out; omega)
        obtain ⟨b', o', z', old', new', vo', vn', eb, dd1, _⟩ := HV.out.at' (i := k) hlt
        cases eb
        have hbw : b < w.heap.size := World.block_lt_of_cell? w _ dd1
        rw [strCells_length] at s1 s2
        have hdr : Below wr.heap.size wr wr.drew := ⟨rfl, rfl, rfl, Nat.le_refl _, fun _ _ => rfl⟩
        have hbd : Below w.heap.size w wr.drew := hbel.trans ⟨rfl, rfl, rfl, Nat.le_refl _, fun _ _ => rfl⟩
        have HS1 := hid (Sl.old s1 hdr)
        have HS2 := hid (Sl.old s2 hdr)
        have HOD := hid (HO.out.old hdr)
        have HOL := hid (fun j hj => (HOD.out.lt j hj).2)
        have HLEN := hid (And.intro l1 l2)
        have CELLS := hid (show ∀ wy, Below w.heap.size w wy → wy.cell? ⟨b, o + k * 3, none⟩ = some (.int .i64 z) ∧ wy.cell? ⟨b, o + k * 3 + 1, none⟩ = some (.slice oo old.length oc) ∧ wy.cell? ⟨b, o + k * 3 + 2, none⟩ = some (.slice no new.length nc) from fun wy hy => by
          have kk : ∀ {j : Nat} {u : Value}, wr.cell? ⟨b, j, none⟩ = some u → wy.cell? ⟨b, j, none⟩ = some u := fun {j u} hu => (World.cell?_of_block (w := wr) ((hy.block b hbw).trans (hbel.block b hbw).symm)).trans hu
          exact ⟨kk c1, kk c2, kk c3⟩)
        have hzd : wr.drew.heap.size = wr.heap.size := rfl
        clear he hok s1 s2 HM HO dd1 hdr c1 c2 c3 l1 l2
        go_wp2_with fail
        go_region_held_law (fun wy => wy.cell? ⟨b, o + k * 3, none⟩ = some (.int .i64 z) ∧ wy.cell? ⟨b, o + k * 3 + 1, none⟩ = some (.slice oo old.length oc) ∧ wy.cell? ⟨b, o + k * 3 + 2, none⟩ = some (.slice no new.length nc))
          (first | exact CELLS.out _ (by assumption) | exact CELLS.out _ (Below.alloc (by assumption) (by omega) _))
          (first
            | (refine step_append_hk (w := wZ) (by rfl) (.tmp 15) (.tmp 36) (by rfl) w.heap.size _ D (z + M) new old (.slice xo (strCells new).length yo) (.slice xn (strCells old).length yn) (by rfl) ODZ.out FOZ.out FNZ.out (by rfl) ONE.out.1 ONE.out.2 HL'.out (by omega) ?_; intro u5 w5 hO5 B5; have HO5 := hid hO5; have hb5 := hbZ.trans B5; clear hO5 B5)
            | (refine step_clone_ss w2 (by rfl) (.tmp 33) (by rfl) old _ (by rfl) (Sl.old HS1.out B2) (by have := HLEN.out.1; omega) ?_; intro uN wZ FN BZ; obtain ⟨xn, yn, rfl⟩ := FN.sl.form; have FOZ := hid ((FO.out.old BZ).nest HOL.out); have FNZ := hid (FN.nest (fun j hj => Nat.lt_of_lt_of_le (HOL.out j hj) B2.size)); have ONE := hid (And.intro FO.out.one FN.one); have ODZ := hid ((HOD.out.old B2).old BZ); have hbZ := below_step hb2 BZ hb2.size; have hzZ := hbZ.size; clear FN BZ)
            | (refine step_clone_ss w3 (by rfl) (.tmp 27) (by rfl) new _ (by rfl) (Sl.old HS2.out B3) (by have := HLEN.out.2; omega) ?_; intro uO wZ FO BZ; obtain ⟨xo, yo, rfl⟩ := FO.sl.form; have FNZ := hid ((FN.out.old BZ).nest HOL.out); have FOZ := hid (FO.nest (fun j hj => Nat.lt_of_lt_of_le (HOL.out j hj) B3.size)); have ONE := hid (And.intro FO.one FN.out.one); have ODZ := hid ((HOD.out.old B3).old BZ); have hbZ := below_step hb3 BZ hb3.size; have hzZ := hbZ.size; clear FO BZ)
            | (refine step_clone_ss wr.drew (by rfl) (.tmp 27) (by rfl) new _ (by rfl) HS2.out (by have := HLEN.out.2; omega) ?_; intro uO w2 FO' B2; obtain ⟨xo, yo, rfl⟩ := FO'.sl.form; have FO := hid FO'; clear FO'; have hb2 : Below w.heap.size w w2 := below_step hbd B2 hbd.size; have hz2 := hb2.size)
            | (refine step_clone_ss wr.drew (by rfl) (.tmp 33) (by rfl) old _ (by rfl) HS1.out (by have := HLEN.out.1; omega) ?_; intro uN w3 FN' B3; obtain ⟨xn, yn, rfl⟩ := FN'.sl.form; have FN := hid FN'; clear FN'; have hb3 : Below w.heap.size w w3 := below_step hbd B3 hbd.size; have hz3 := hb3.size))
        all_goals
          obtain ⟨e1, e2, e3⟩ := CELLS.out _ hb5
          have HD' := hid (show (D ++ [(z + M, new, old)]) ++ invertFrom (M + (new.length : Int) - (old.length : Int)) (hs.drop (k + 1)) = invertS hs by
            rw [← HD.out, HSTEP.out, List.append_assoc]
            rfl)
          have HL5 := hid (show (D ++ [(z + M, new, old)]).length = k + 1 by rw [List.length_append, HL.out]; rfl)
          have hz5 := hb5.size
          clear hbd hbw
          go_simp
          go_wp2_with fail
          go_quiet (fail)
          go_wp2_with fail
          go_roundg (hs.length - (k + 1))
          case measure => omega
          case rel => exact ⟨k + 1, _, _, by omega, rfl, rfl, rfl, HD', hid (HO5.out.old (below_drewN _ _)), HL5, HM', below_step hb5 (below_drewN _ _) hz5⟩
      · obtain rfl : k = hs.length := by omega
        have hneg : ¬ (hs.length : Int) < (hs.length : Int) := by omega
        have hD := HD.out
        rw [List.drop_length] at hD
        rw [show D ++ invertFrom M [] = D from List.append_nil D] at hD
        obtain ⟨ao2, cap2, rfl⟩ := HO.out.form
        have HD2 := hid hD
        clear hD
        go_wp2_with fail
        go_ret
        exact ⟨_, rfl, by rw [← HD2.out]; exact HO.out, hbel⟩
end
end Go.Proofs.Ytbcmecclaofmgaa

/-
  Package hunk: Apply.
-/
import Derived.Test.YtbcmecclaofmgaaPhkR
import Derived.Test.YtbcmecclaofmgaaPhkS
import Derived.Test.YtbcmecclaofmgaaHkP
import Derived.Deep.RegionHeldLaw
namespace Go.Proofs.Ytbcmecclaofmgaa
open Go.RowKit

section
set_option maxRecDepth 100000
set_option maxHeartbeats 4000000
theorem DApply_any (va vh : Value) (a : List (List UInt8)) (hs : List HkS) (w : World) (ha : Sl w va (strCells a)) (hv : SlH w vh hs) (hf : hkFew hs) (hl : hs.length ≤ 1000) (hal : a.length ≤ 1000000) :
    Calls Try.prog 12 #[va, vh] w fun e w' => ∃ u, e = .returned (.tuple #[u, .int .i64 (applyS a hs).2]) ∧ Sl w' u (strCells (applyS a hs).1) ∧ Below w.heap.size w w' := by
  have HR := hid (DRight_all vh hs w hv hf (by omega))
  obtain ⟨aa, ca, rfl⟩ := ha.form
  obtain ⟨ah, ch, rfl⟩ := hv.form
  rw [strCells_length] at ha ⊢
  have HA := hid ha
  have HV := hid hv
  have HF := hid hf
  clear ha hv hf
  go_enter Try.func12, Try.ntmps12
  go_wp2_with fail
  refine HR.out.mono ?_
  rintro e w1 ⟨rfl, hb1⟩
  cases hr : rightS hs with
  | false =>
    have HN := hid (show applyS a hs = ([], 1) by unfold applyS; rw [hr]; rfl)
    clear hr HR
    go_wp2_with fail
    refine bodyPost_ret (results_tmp2 rfl _ _ _) rfl ?_
    exact ⟨_, by rw [HN.out]; rfl, by rw [HN.out]; exact Sl.nil _, hb1⟩
  | true =>
    have HRT := hid hr
    have HOK := hid (fun p hp => okOne_iff.1 (right_at hr p hp))
    clear hr HR
    go_wp2_with fail
    go_loopg [6, 7, 15] hs.length (fun g out at' i wr => ∃ (k A : Nat) (X : List (List UInt8)), k ≤ hs.length ∧ A ≤ a.length ∧ g = hs.length - k ∧ i = .int .i64 k ∧ at' = .int .i64 A ∧ Hid (applyFrom a 0 hs = (applyFrom a A (hs.drop k)).map fun r => X ++ r) ∧ Hid (wr.ownsRow w.heap.size 9 1 out X.length (strCells X)) ∧ Hid (X.length ≤ A + k * 1000000) ∧ Hid (rightFrom (A : Int) (hs.drop k) = true) ∧ Below w.heap.size w wr)
    case atStart => exact ⟨0, 0, [], Nat.zero_le _, Nat.zero_le _, rfl, rfl, rfl, hid (by rw [List.drop_zero]; cases applyFrom a 0 hs <;> rfl), hid (World.ownsRow_nil _ _ _ _), hid (by simp), hid (by rw [List.drop_zero]; exact HRT.out), hb1⟩
    case round =>
      obtain ⟨k, A, X, hk, hAa, rfl, rfl, rfl, HAP, HO, HX, HRF, hbel⟩ := hrel
      have hz := hbel.size
      have k0 : (0 : Int) ≤ (k : Int) := Int.natCast_nonneg _
      have A0 : (0 : Int) ≤ (A : Int) := Int.natCast_nonneg _
      by_cases hlt : k < hs.length
      · have k1 : (k : Int) < (hs.length : Int) := by omega
        have kw : IntKind.i64.wrap ((k : Int) + 1) = (k : Int) + 1 := IntWalk.i64_in _ (by omega)
        obtain ⟨b, o, z, old, new, vo, vn, rfl, c1, c2, c3, s1, s2, he⟩ := HV.out.at' (i := k) hlt
        have kk : ∀ {q : Addr} {u : Value}, w.cell? q = some u → wr.cell? q = some u := fun {q u} hq => (World.cell?_of_block (w := w) (hbel.block _ (World.block_lt_of_cell? w _ hq))).trans hq
        have c1 := kk c1
        have c2 := kk c2
        have c3 := kk c3
        clear kk
        obtain ⟨oo, oc, rfl⟩ := s1.form
        obtain ⟨no, nc, rfl⟩ := s2.form
        rw [strCells_length] at c2 c3 s1 s2
        obtain ⟨l1, l2⟩ := HF.out.at he
        have hok := HOK.out _ (List.mem_of_getElem? he)
        have hz0 : 0 ≤ z := hok.1
        have hz1 : z ≤ 2147483647 := hok.2.1
        have hrf := HRF.out
        rw [right_step he, Bool.and_eq_true, Bool.and_eq_true, decide_eq_true_iff] at hrf
        have hAz : (A : Int) ≤ z := hrf.1.2
        obtain ⟨n, rfl⟩ : ∃ n : Nat, z = (n : Int) := ⟨z.toNat, by omega⟩
        have hrf2 : rightFrom ((n + old.length : Nat) : Int) (hs.drop (k + 1)) = true := hrf.2
        have HRF2 := hid hrf2
        have HSTEP := hid (apply_step (a := a) (at' := A) he)
        have sw : IntKind.i64.wrap ((n : Int) + (old.length : Int)) = ((n + old.length : Nat) : Int) := (IntWalk.i64_in _ (by omega)).trans (by omega)
        have n0 : (0 : Int) ≤ (n : Int) := hz0
        have HLL := hid (And.intro l1 l2)
        have hwa : ∀ ob, Below wr.heap.size wr (wr.alloc ob) := fun ob => (Below.refl _ wr).alloc (Nat.le_refl _) ob
        have HCALL := hid (fun ob => DStands_any (.slice aa a.length ca) (.slice oo old.length oc) (.slice no new.length nc) a old new n (wr.alloc ob) (Sl.old HA.out (below_step hbel (hwa ob) hz)) (Sl.old s1 (below_step hbel (hwa ob) hz)) hz1 hal l1)
        have HOL := hid (fun j hj => (HO.out.lt j hj).2)
        have HS2 := hid s2
        clear he hok hrf hrf2 HOK hz1 s1 s2
        cases hst : stands a ((n : Int), old, new) with
        | false =>
          have HNO := hid (show applyS a hs = ([], 13) from applyS_none HRT.out (by
            rw [HAP.out, HSTEP.out, hst]
            rfl))
          rw [hst] at HCALL
          clear hst
          go_wp2_with (go_at_call 27; refine (HCALL.out _).mono ?_; rintro e w2 ⟨rfl, hb2⟩)
          go_wp2_with fail
          refine bodyPost_ret (results_tmp2 rfl _ _ _) rfl ?_
          exact ⟨_, by rw [HNO.out]; rfl, by rw [HNO.out]; exact Sl.nil _, below_step (hbel.alloc hz _) hb2 (by simp; omega)⟩
        | true =>
          have hsp := hst
          unfold stands at hsp
          rw [Int.toNat_natCast, Bool.and_eq_true, decide_eq_true_iff, decide_eq_true_iff] at hsp
          have hNa : n + old.length ≤ a.length := hsp.1
          have hpe : (a.drop n).take old.length = old := hsp.2
          have HSTY := hid (show applyFrom a 0 hs = (applyFrom a (n + old.length) (hs.drop (k + 1))).map fun r => (X ++ (a.take n).drop A ++ new) ++ r by
            rw [HAP.out, HSTEP.out, hst]
            simp only [if_true, Int.toNat_natCast, Option.map_map]
            congr 1
            funext r
            simp only [Function.comp, List.append_assoc])
          rw [hst] at HCALL
          obtain ⟨mo, mc, rm, hm⟩ := cutS_mid HA.out A n (by omega) (by omega)
          rw [← List.drop_take] at hm
          have HMID := hid hm
          have hAn : (A : Int) ≤ (n : Int) := hAz
          have hAn1 : (n : Int) ≤ (a.length : Int) := by omega
          have HL1 := hid (show X.length + ((a.take n).drop A).length ≤ 4000000000 by have := HX.out; rw [List.length_drop, List.length_take]; omega)
          have HL2 := hid (show (X ++ (a.take n).drop A).length + new.length ≤ 4000000000 by have := HX.out; have := HLL.out.2; rw [List.length_append, List.length_drop, List.length_take]; omega)
          obtain ⟨N, hN⟩ : ∃ N, n + old.length = N := ⟨_, rfl⟩
          have HX' := hid (show (X ++ (a.take n).drop A ++ new).length ≤ N + (k + 1) * 1000000 by have := HX.out; have := HLL.out.2; rw [List.length_append, List.length_append, List.length_drop, List.length_take]; omega)
          rw [hN] at sw HRF2 HSTY hNa
          clear hst hsp hpe hm
          go_wp2_with (go_at_call 27; refine (HCALL.out _).mono ?_; rintro e wa ⟨rfl, hb2⟩)
          have hwa2 : Below wr.heap.size wr wa := below_step (hwa _) hb2 (by simp)
          have hbx : wa.heap[wr.heap.size]? = some (.cells #[.int .i64 (n : Int), .slice oo old.length oc, .slice no new.length nc] 36 (0, 0)) := (hb2.block _ (by simp)).trans (heap_alloc_new wr _)
          have hsa : wr.heap.size < wa.heap.size := lt_of_block hbx
          clear hb2 hwa HCALL
          have hba' : Below w.heap.size w wa := below_step hbel hwa2 hz
          have HOA := hid (owns_kept HO.out (fun g _ hg => hwa2.block g hg))
          have hza := hba'.size
          have q0 := blk_cell (i := 0) hbx rfl
          have q1 := blk_cell (i := 1) hbx rfl
          have q2 := blk_cell (i := 2) hbx rfl
          have k1 : wa.drew.cell? ⟨wr.heap.size, 0, none⟩ = _ := q0
          have k3 : wa.drew.cell? ⟨wr.heap.size, 2, none⟩ = _ := q2
          have hdr : Below w.heap.size w wa.drew := hba'.trans ⟨rfl, rfl, rfl, Nat.le_refl _, fun _ _ => rfl⟩
          clear hbx c1 c2 c3 hbel
          go_wp2_with fail
          go_region_held_law (fun wy => wy.cell? ⟨wr.heap.size, 0, none⟩ = some (.int .i64 (n : Int)) ∧ wy.cell? ⟨wr.heap.size, 2, none⟩ = some (.slice no new.length nc))
            (exact ⟨k1, k3⟩)
            (first
              | (refine step_append_ss2 (w := wa.drew) (by rfl) (.tmp 23) (.tmp 28) (by rfl) w.heap.size _ X ((a.take n).drop A) rfl (show wa.drew.ownsRow _ _ _ _ _ _ from HOA.out) _ rfl (Sl.old HMID.out hdr) HL1.out hza wr.heap.size hsa (fun e => Nat.lt_irrefl _ (HOL.out _ e)) ?_; intro v2 w2 own2 bel2 blk2 ap2 siz2; have O2 := hid own2; have hb2 : Below w.heap.size w w2 := hdr.trans bel2; have k1 : w2.cell? ⟨wr.heap.size, 0, none⟩ = _ := (World.cell?_of_block (w := wa) blk2).trans q0; have k3 : w2.cell? ⟨wr.heap.size, 2, none⟩ = _ := (World.cell?_of_block (w := wa) blk2).trans q2; have hs2 : wr.heap.size < w2.heap.size := Nat.lt_of_lt_of_le hsa siz2; have hz2 := hb2.size; have BLK2 := hid blk2; clear own2 bel2 blk2 siz2)
              | (refine step_append_ss2 (w := w2) (by rfl) (.tmp 29) (.tmp 31) (by rfl) w.heap.size _ (X ++ (a.take n).drop A) new rfl O2.out _ rfl (Sl.old HS2.out hb2) HL2.out hz2 wr.heap.size hs2 ap2 ?_; intro v3 w3 own3 bel3 blk3 ap3 siz3; have O3 := hid own3; have hb3 : Below w.heap.size w w3 := hb2.trans bel3; have k1 : w3.cell? ⟨wr.heap.size, 0, none⟩ = _ := (World.cell?_of_block (w := w2) blk3).trans k1; have k3 : w3.cell? ⟨wr.heap.size, 2, none⟩ = _ := (World.cell?_of_block (w := w2) blk3).trans k3; have BLK3 := hid blk3; clear own3 bel3 blk3 siz3))
          go_simp
          have HX2 := hid (show rightFrom (N : Int) (hs.drop (k + 1)) = true from HRF2.out)
          have e0 : w3.cell? ⟨wr.heap.size, 0, none⟩ = _ := k1
          have e1 : w3.cell? ⟨wr.heap.size, 1, none⟩ = _ := (World.cell?_of_block (w := wa) (BLK3.out.trans BLK2.out)).trans q1
          clear k1 k3 q0 q1 q2
          go_wp2_with fail
          go_roundg (hs.length - (k + 1))
          case measure => omega
          case rel => exact ⟨k + 1, N, _, by omega, by omega, rfl, rfl, rfl, HSTY, O3, HX', HX2, hb3⟩
      · obtain rfl : k = hs.length := by omega
        have hneg : ¬ (hs.length : Int) < (hs.length : Int) := by omega
        obtain ⟨fo, fc, rf, hfr⟩ := cutS_from HA.out A hAa
        have hA1 : (A : Int) ≤ (a.length : Int) := by omega
        have HFI := hid (show applyS a hs = (X ++ a.drop A, 0) from applyS_some HRT.out (by
          rw [HAP.out, List.drop_length]
          rfl))
        have HFR := hid hfr
        have HXL := hid (show X.length + (a.drop A).length ≤ 4000000000 by have := HX.out; rw [List.length_drop]; omega)
        clear hfr
        go_wp2_with (refine wpList_append_ss (by rfl) (.tmp 40) (.tmp 43) (by rfl) w.heap.size _ X (a.drop A) rfl HO.out _ rfl (Sl.old HFR.out hbel) HXL.out hz ?_; intro v5 w5 hO5 hb5)
        obtain ⟨xo, xc, rfl⟩ := owns_form hO5
        have HO5 := hid hO5
        clear hO5
        go_wp2_with fail
        refine bodyPost_ret (results_tmp2 rfl _ _ _) rfl ?_
        exact ⟨_, by rw [HFI.out]; rfl, by rw [HFI.out]; exact Sl.ofOwns HO5.out, hbel.trans hb5⟩
end
end Go.Proofs.Ytbcmecclaofmgaa

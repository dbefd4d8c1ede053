/-
  Hunks applied (the document's own).
-/
import Derived.Test.YtbcmecclaofmgaaHkA
import Derived.Test.YtbcmecclaofmgaaCutS
import Derived.Test.YtbcmecclaofmgaaEdB
import Derived.Deep.RegionHeldLaw
namespace Go.Proofs.Ytbcmecclaofmgaa
open Go.RowKit

section
variable {α : Type} [DecidableEq α]
theorem apply_step {a : List α} {at' : Nat} {hs : List (Hk α)} {i : Nat} {p : Hk α} (h : hs[i]? = some p) : applyFrom a at' (hs.drop i) = if stands a p then (applyFrom a (p.1.toNat + p.2.1.length) (hs.drop (i + 1))).map fun r => (a.take p.1.toNat).drop at' ++ (p.2.2 ++ r) else none := by
  obtain ⟨q, e⟩ := List.getElem?_eq_some_iff.1 h
  rw [List.drop_eq_getElem_cons q, e]
  rfl
theorem applyS_none {a : List α} {hs : List (Hk α)} (hr : rightS hs = true) (h : applyFrom a 0 hs = none) : applyS a hs = ([], 13) := by
  unfold applyS
  rw [hr, h]
  rfl
theorem applyS_some {a : List α} {hs : List (Hk α)} {r : List α} (hr : rightS hs = true) (h : applyFrom a 0 hs = some r) : applyS a hs = (r, 0) := by
  unfold applyS
  rw [hr, h]
  rfl
end

theorem step_append_ss2 {w : World} {ops : Array Oper} {o : Oper} {a : Act} {K : Act → World → Prop} {Q : Exit → Act → World → Prop} {E : Prop} (hgd : o.guard = none) (s sx : Operand)
    (ho : o.op = .call { callee := .builtin .append, args := #[s, sx], argTypes := #[23, 23] })
    (base : Nat) (v : Value) (xs ys : List (List UInt8)) (he : a.eval s = v) (hown : w.ownsRow base 9 1 v xs.length (strCells xs)) (u : Value) (hx : a.eval sx = u) (hu : Sl w u (strCells ys))
    (hlen : xs.length + ys.length ≤ 4000000000) (hbase : base ≤ w.heap.size) (B : Nat) (hB : B < w.heap.size) (hv : v.ownBlock ≠ some B)
    (h : ∀ v' w', w'.ownsRow base 9 1 v' (xs ++ ys).length (strCells (xs ++ ys)) → Below base w w' → w'.heap[B]? = w.heap[B]? → v'.ownBlock ≠ some B → w.heap.size ≤ w'.heap.size → K (a.put o.dst v') w') :
    if Region.wanted o (yielded ops a.tmps) = true then Oper.wp Try.prog o a w K Q else E := by
  obtain ⟨i0, hi0, hi1, hi2, hi3⟩ := info_parts Try.infoStr
  have hs := hu.src (P := Try.prog) Try.underlying23 (str_one _)
  rw [strCells_length] at hs
  refine step_append_any w hgd s sx _ _ ho base 9 i0 _ 1 16 Try.underlying23 hi0 hi1 hi2 hi3 rfl (by omega) v _ _ he hown u _ _ hx hs (by unfold maxLen; omega) (by omega) hbase fun v' w' h2 h3 h4 => h v' w' ?_ ?_ (h3.block B hB fun e => hv e.symm) ?_ h3.size
  · rw [List.length_append, strCells_append]
    exact h2
  · exact (Below.refl base w).grown h3 hbase (fun j hj => (hown.lt j hj).1)
  · intro e
    rcases h4 with h4 | h4
    · exact hv (h4 ▸ e)
    · rw [h4] at e
      cases e
      omega

section
set_option maxRecDepth 100000
set_option maxHeartbeats 4000000
theorem RApply_any (va vh : Value) (a : List (List UInt8)) (hs : List HkS) (w : World) (ha : Sl w va (strCells a)) (hv : SlH w vh hs) (hf : hkFew hs) (hl : hs.length ≤ 1000) (hal : a.length ≤ 1000000) :
    Calls Try.prog 13 #[va, vh] w fun e w' => ∃ u, e = .returned (.tuple #[u, .int .i64 (applyS a hs).2]) ∧ Sl w' u (strCells (applyS a hs).1) ∧ Below w.heap.size w w' := by
  have HR := hid (RRight_any vh hs w hv hf (by omega))
  obtain ⟨aa, ca, rfl⟩ := ha.form
  obtain ⟨ah, ch, rfl⟩ := hv.form
  rw [strCells_length] at ha ⊢
  have HA := hid ha
  have HV := hid hv
  have HF := hid hf
  clear ha hv hf
  go_enter Try.func13, Try.ntmps13
  go_wp2_with fail
  refine HR.out.mono ?_
  rintro e w1 ⟨rfl, hb1⟩
  cases hr : rightS hs with
  | false =>
    have HN := hid (show applyS a hs = ([], 1) by unfold applyS; rw [hr]; rfl)
    clear hr HR
    go_wp2_with fail
    refine bodyPost_ret (results_tmp2 rfl _ _ _) rfl ?_
    exact ⟨_, by rw [HN.out]; rfl, by rw [HN.out]; exact Sl.nil _, hb1⟩
  | true =>
    have HRT := hid hr
    have HOK := hid (fun p hp => okOne_iff.1 (right_at hr p hp))
    clear hr HR
    go_wp2_with fail
    go_loopg [6, 7, 8] hs.length (fun g out at' i wr => ∃ (k A : Nat) (X : List (List UInt8)), k ≤ hs.length ∧ A ≤ a.length ∧ g = hs.length - k ∧ i = .int .i64 k ∧ at' = .int .i64 A ∧ Hid (applyFrom a 0 hs = (applyFrom a A (hs.drop k)).map fun r => X ++ r) ∧ Hid (wr.ownsRow w.heap.size 9 1 out X.length (strCells X)) ∧ Hid (X.length ≤ A + k * 1000000) ∧ Hid (rightFrom (A : Int) (hs.drop k) = true) ∧ Below w.heap.size w wr)
    case atStart => exact ⟨0, 0, [], Nat.zero_le _, Nat.zero_le _, rfl, rfl, rfl, hid (by rw [List.drop_zero]; cases applyFrom a 0 hs <;> rfl), hid (World.ownsRow_nil _ _ _ _), hid (by simp), hid (by rw [List.drop_zero]; exact HRT.out), hb1⟩
    case round =>
      obtain ⟨k, A, X, hk, hAa, rfl, rfl, rfl, HAP, HO, HX, HRF, hbel⟩ := hrel
      have hz := hbel.size
      have k0 : (0 : Int) ≤ (k : Int) := Int.natCast_nonneg _
      have A0 : (0 : Int) ≤ (A : Int) := Int.natCast_nonneg _
      by_cases hlt : k < hs.length
      · have k1 : (k : Int) < (hs.length : Int) := by omega
        have kw : IntKind.i64.wrap ((k : Int) + 1) = (k : Int) + 1 := IntWalk.i64_in _ (by omega)
        obtain ⟨b, o, z, old, new, vo, vn, rfl, c1, c2, c3, s1, s2, he⟩ := HV.out.at' (i := k) hlt
        have kk : ∀ {q : Addr} {u : Value}, w.cell? q = some u → wr.cell? q = some u := fun {q u} hq => (World.cell?_of_block (w := w) (hbel.block _ (World.block_lt_of_cell? w _ hq))).trans hq
        have c1 := kk c1
        have c2 := kk c2
        have c3 := kk c3
        clear kk
        obtain ⟨oo, oc, rfl⟩ := s1.form
        obtain ⟨no, nc, rfl⟩ := s2.form
        rw [strCells_length] at c2 c3 s1 s2
        obtain ⟨l1, l2⟩ := HF.out.at he
        have hok := HOK.out _ (List.mem_of_getElem? he)
        have hz0 : 0 ≤ z := hok.1
        have hz1 : z ≤ 2147483647 := hok.2.1
        have hrf := HRF.out
        rw [right_step he, Bool.and_eq_true, Bool.and_eq_true, decide_eq_true_iff] at hrf
        have hAz : (A : Int) ≤ z := hrf.1.2
        obtain ⟨n, rfl⟩ : ∃ n : Nat, z = (n : Int) := ⟨z.toNat, by omega⟩
        have hrf2 : rightFrom ((n + old.length : Nat) : Int) (hs.drop (k + 1)) = true := hrf.2
        have HRF2 := hid hrf2
        have HSTEP := hid (apply_step (a := a) (at' := A) he)
        have sw : IntKind.i64.wrap ((n : Int) + (old.length : Int)) = ((n + old.length : Nat) : Int) := (IntWalk.i64_in _ (by omega)).trans (by omega)
        obtain ⟨N, hN⟩ : ∃ N, n + old.length = N := ⟨_, rfl⟩
        rw [hN] at sw HRF2
        have n0 : (0 : Int) ≤ (n : Int) := hz0
        have N0 : (0 : Int) ≤ (N : Int) := Int.natCast_nonneg _
        have HN1 := hid hN
        have HST := hid (show stands a ((n : Int), old, new) = (decide (N ≤ a.length) && decide ((a.drop n).take old.length = old)) by
          unfold stands
          rw [Int.toNat_natCast, hN])
        have HLL := hid (And.intro l1 l2)
        clear he hok hrf hrf2 HOK hz1
        rcases (show (a.length : Int) < (n : Int) ∨ (¬ (a.length : Int) < (n : Int) ∧ (a.length : Int) < (N : Int)) ∨ (¬ (a.length : Int) < (n : Int) ∧ ¬ (a.length : Int) < (N : Int)) by omega) with h1 | ⟨h1, h2⟩ | ⟨h1, h2⟩
        · have d1 : decide (a.length < n) = true := decide_eq_true (by omega)
          have HNO := hid (show applyS a hs = ([], 13) from applyS_none HRT.out (by
            rw [HAP.out, HSTEP.out, HST.out, decide_eq_false (show ¬ N ≤ a.length by omega)]
            rfl))
          go_wp2_with fail
          go_quiet (fail)
          go_wp2_with fail
          refine bodyPost_ret (results_tmp2 rfl _ _ _) rfl ?_
          exact ⟨_, by rw [HNO.out]; rfl, by rw [HNO.out]; exact Sl.nil _, below_step (hbel.alloc hz _) (below_drewN _ _) (by simp; omega)⟩
        · have d1 : decide (a.length < n) = false := decide_eq_false (by omega)
          have d2 : decide (a.length < N) = true := decide_eq_true (by omega)
          have HNO := hid (show applyS a hs = ([], 13) from applyS_none HRT.out (by
            rw [HAP.out, HSTEP.out, HST.out, decide_eq_false (show ¬ N ≤ a.length by omega)]
            rfl))
          go_wp2_with fail
          go_quiet (fail)
          go_wp2_with fail
          refine bodyPost_ret (results_tmp2 rfl _ _ _) rfl ?_
          exact ⟨_, by rw [HNO.out]; rfl, by rw [HNO.out]; exact Sl.nil _, below_step (hbel.alloc hz _) (below_drewN _ _) (by simp; omega)⟩
        · have d1 : decide (a.length < n) = false := decide_eq_false (by omega)
          have d2 : decide (a.length < N) = false := decide_eq_false (by omega)
          obtain ⟨co, cc, rc, hc⟩ := cutS_mid HA.out n N (by omega) (by omega)
          have hNn : N - n = old.length := by omega
          rw [hNn] at rc hc
          have hnN : (n : Int) ≤ (N : Int) := by omega
          have hba : ∀ ob, Below w.heap.size w (wr.alloc ob) := fun ob => hbel.alloc hz ob
          have HPL := hid (fun (wx : World) (hx : Below wr.heap.size wr wx) => SPlain_any (.slice co old.length cc) (.slice oo old.length oc) ((a.drop n).take old.length) old wx (Sl.old hc (hbel.trans (hx.mono hz))) (Sl.old s1 (hbel.trans (hx.mono hz))) (by unfold maxLen; rw [List.length_take]; omega))
          have hda : ∀ ob q, Below wr.heap.size wr ((wr.alloc ob).drewN q) := fun ob q => ((Below.refl _ wr).alloc (Nat.le_refl _) ob).trans (below_drewN _ _ |>.mono (by simp))
          have HS2 := hid s2
          cases hpl : ((a.drop n).take old.length == old) with
          | false =>
            have HNO := hid (show applyS a hs = ([], 13) from applyS_none HRT.out (by
              rw [HAP.out, HSTEP.out, HST.out, decide_eq_false (show ¬ (a.drop n).take old.length = old by simpa using hpl), Bool.and_false]
              rfl))
            rw [hpl] at HPL
            clear hpl s1 s2 hc
            go_wp2_with fail
            go_quiet ((go_at_call 20; exact Calls.quiet_of (HPL.out _ (hda _ _))))
            go_wp2_with fail
            refine bodyPost_ret (results_tmp2 rfl _ _ _) rfl ?_
            exact ⟨_, by rw [HNO.out]; rfl, by rw [HNO.out]; exact Sl.nil _, below_step (hbel.alloc hz _) (below_drewN _ _) (by simp; omega)⟩
          | true =>
            have hpe : (a.drop n).take old.length = old := by simpa using hpl
            have HSTY := hid (show applyFrom a 0 hs = (applyFrom a N (hs.drop (k + 1))).map fun r => (X ++ (a.take n).drop A ++ new) ++ r by
              rw [HAP.out, HSTEP.out, HST.out, decide_eq_true (show N ≤ a.length by omega), decide_eq_true hpe]
              simp only [Bool.and_self, if_true, Int.toNat_natCast, HN1.out, Option.map_map]
              congr 1
              funext r
              simp only [Function.comp, List.append_assoc])
            rw [hpl] at HPL
            obtain ⟨mo, mc, rm, hm⟩ := cutS_mid HA.out A n (by omega) (by omega)
            rw [← List.drop_take] at hm
            have HMID := hid hm
            have hAn : (A : Int) ≤ (n : Int) := hAz
            have hAn1 : (n : Int) ≤ (a.length : Int) := by omega
            have HL1 := hid (show X.length + ((a.take n).drop A).length ≤ 4000000000 by have := HX.out; rw [List.length_drop, List.length_take]; omega)
            have HL2 := hid (show (X ++ (a.take n).drop A).length + new.length ≤ 4000000000 by have := HX.out; have := HLL.out.2; rw [List.length_append, List.length_drop, List.length_take]; omega)
            have HX' := hid (show (X ++ (a.take n).drop A ++ new).length ≤ N + (k + 1) * 1000000 by have := HX.out; have := HLL.out.2; have := HN1.out; rw [List.length_append, List.length_append, List.length_drop, List.length_take]; omega)
            have HOL := hid (fun j hj => (HO.out.lt j hj).2)
            clear hpl s1 s2 hc hpe hm
            go_wp2_with fail
            go_quiet ((go_at_call 20; exact Calls.quiet_of (HPL.out _ (hda _ _))))
            have hwa := hda (.cells #[.int .i64 (n : Int), .slice oo old.length oc, .slice no new.length nc] 36) nq
            have hbx : ((wr.alloc (.cells #[.int .i64 (n : Int), .slice oo old.length oc, .slice no new.length nc] 36)).drewN nq).heap[wr.heap.size]? = some (.cells #[.int .i64 (n : Int), .slice oo old.length oc, .slice no new.length nc] 36 (0, 0)) := heap_alloc_new wr _
            have hsa : wr.heap.size < ((wr.alloc (.cells #[.int .i64 (n : Int), .slice oo old.length oc, .slice no new.length nc] 36)).drewN nq).heap.size := lt_of_block hbx
            generalize (wr.alloc (.cells #[.int .i64 (n : Int), .slice oo old.length oc, .slice no new.length nc] 36)).drewN nq = wa at hwa hbx hsa ⊢
            have HBX := hid hbx
            have hba' : Below w.heap.size w wa := below_step hbel hwa hz
            have HOA := hid (owns_kept HO.out (fun g _ hg => hwa.block g hg))
            have hza := hba'.size
            have q0 := blk_cell (i := 0) hbx rfl
            have q1 := blk_cell (i := 1) hbx rfl
            have q2 := blk_cell (i := 2) hbx rfl
            have k1 : wa.drew.cell? ⟨wr.heap.size, 0, none⟩ = _ := q0
            have k3 : wa.drew.cell? ⟨wr.heap.size, 2, none⟩ = _ := q2
            clear hbx hda HPL c1 c2 c3 hbel hba
            go_wp2_with fail
            go_region_held_law (fun wy => wy.cell? ⟨wr.heap.size, 0, none⟩ = some (.int .i64 (n : Int)) ∧ wy.cell? ⟨wr.heap.size, 2, none⟩ = some (.slice no new.length nc))
              (exact ⟨k1, k3⟩)
              (first
                | (refine step_append_ss2 (w := wa.drew) (by rfl) (.tmp 55) (.tmp 60) (by rfl) w.heap.size _ X ((a.take n).drop A) rfl (show wa.drew.ownsRow _ _ _ _ _ _ from HOA.out) _ rfl (Sl.old HMID.out (show Below w.heap.size w wa.drew from hba'.trans ⟨rfl, rfl, rfl, Nat.le_refl _, fun _ _ => rfl⟩)) HL1.out hza wr.heap.size hsa (fun e => Nat.lt_irrefl _ (HOL.out _ e)) ?_; intro v2 w2 own2 bel2 blk2 ap2 siz2; have O2 := hid own2; have hb2 : Below w.heap.size w w2 := (show Below w.heap.size w wa.drew from hba'.trans ⟨rfl, rfl, rfl, Nat.le_refl _, fun _ _ => rfl⟩).trans bel2; have k1 : w2.cell? ⟨wr.heap.size, 0, none⟩ = _ := (World.cell?_of_block (w := wa) blk2).trans q0; have k3 : w2.cell? ⟨wr.heap.size, 2, none⟩ = _ := (World.cell?_of_block (w := wa) blk2).trans q2; have hs2 : wr.heap.size < w2.heap.size := Nat.lt_of_lt_of_le hsa siz2; have hz2 := hb2.size; have BLK2 := hid blk2; clear own2 bel2 blk2 siz2)
                | (refine step_append_ss2 (w := w2) (by rfl) (.tmp 61) (.tmp 63) (by rfl) w.heap.size _ (X ++ (a.take n).drop A) new rfl O2.out _ rfl (Sl.old HS2.out hb2) HL2.out hz2 wr.heap.size hs2 ap2 ?_; intro v3 w3 own3 bel3 blk3 ap3 siz3; have O3 := hid own3; have hb3 : Below w.heap.size w w3 := hb2.trans bel3; have k1 : w3.cell? ⟨wr.heap.size, 0, none⟩ = _ := (World.cell?_of_block (w := w2) blk3).trans k1; have k3 : w3.cell? ⟨wr.heap.size, 2, none⟩ = _ := (World.cell?_of_block (w := w2) blk3).trans k3; have BLK3 := hid blk3; clear own3 bel3 blk3 siz3))
            go_simp
            have HX2 := hid (show rightFrom (N : Int) (hs.drop (k + 1)) = true from HRF2.out)
            have e0 : w3.cell? ⟨wr.heap.size, 0, none⟩ = _ := k1
            have e1 : w3.cell? ⟨wr.heap.size, 1, none⟩ = _ := (World.cell?_of_block (w := wa) (BLK3.out.trans BLK2.out)).trans q1
            clear k1 k3 q0 q1 q2
            go_wp2_with fail
            go_roundg (hs.length - (k + 1))
            case measure => omega
            case rel => exact ⟨k + 1, N, _, by omega, by omega, rfl, rfl, rfl, HSTY, O3, HX', HX2, hb3⟩
      · obtain rfl : k = hs.length := by omega
        have hneg : ¬ (hs.length : Int) < (hs.length : Int) := by omega
        obtain ⟨fo, fc, rf, hfr⟩ := cutS_from HA.out A hAa
        have hA1 : (A : Int) ≤ (a.length : Int) := by omega
        have HFI := hid (show applyS a hs = (X ++ a.drop A, 0) from applyS_some HRT.out (by
          rw [HAP.out, List.drop_length]
          rfl))
        have HFR := hid hfr
        have HXL := hid (show X.length + (a.drop A).length ≤ 4000000000 by have := HX.out; rw [List.length_drop]; omega)
        clear hfr
        go_wp2_with (refine wpList_append_ss (by rfl) (.tmp 71) (.tmp 74) (by rfl) w.heap.size _ X (a.drop A) rfl HO.out _ rfl (Sl.old HFR.out hbel) HXL.out hz ?_; intro v5 w5 hO5 hb5)
        obtain ⟨xo, xc, rfl⟩ := owns_form hO5
        have HO5 := hid hO5
        clear hO5
        go_wp2_with fail
        refine bodyPost_ret (results_tmp2 rfl _ _ _) rfl ?_
        exact ⟨_, by rw [HFI.out]; rfl, by rw [HFI.out]; exact Sl.ofOwns HO5.out, hbel.trans hb5⟩
end
end Go.Proofs.Ytbcmecclaofmgaa

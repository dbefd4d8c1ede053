/-
  MergeParse: plain texts whose lines have ends: what they come to, with marks, is read back.
-/
import Derived.Test.YtfldheegebopoaaG3
import Derived.Test.YtfldheegebopoaaLit
import Derived.Test.YtfldheegebopoaaStr
import Derived.Test.YtfldheegebopoaaOpenS
import Derived.Deep.LoopGhost
import Derived.ProofKit
import Derived.OpenShut
namespace Go.Proofs.Ytfldheegebopoaa.mergeParse
open Go.ChangeShapes Go.WideShapes Go.ChangeAt Go.RowKit

theorem mergeOut_len : ∀ (l : List CkS) (p : Tx), (mergeOut p l).length ≤ p.length + (l.flatMap fun c => c.2.1).flatten.length + (l.flatMap fun c => c.2.2.1).flatten.length + (l.flatMap fun c => c.2.2.2).flatten.length + 53 * l.length := by
  intro l
  induction l with
  | nil => intro p; simp [mergeOut]
  | cons c l ih =>
    intro p
    rw [mergeOut]
    simp only [List.flatMap_cons, List.flatten_append, List.length_append, List.length_cons]
    have q0 : mk0.length = 13 := rfl
    have q1 : mk1.length = 13 := rfl
    have q2 : mk2.length = 8 := rfl
    have q3 : mk3.length = 15 := rfl
    split
    · have h := ih (endedS p ++ mk0 ++ endedS c.2.2.1.flatten ++ mk1 ++ endedS c.2.1.flatten ++ mk2 ++ endedS c.2.2.2.flatten ++ mk3)
      have l0 := endedS_len p
      have l1 := endedS_len c.2.2.1.flatten
      have l2 := endedS_len c.2.1.flatten
      have l3 := endedS_len c.2.2.2.flatten
      simp only [List.length_append] at h
      omega
    · have h := ih (p ++ (ckOne c).flatten)
      have h2 : (ckOne c).flatten.length ≤ c.2.2.1.flatten.length + c.2.2.2.flatten.length := by
        unfold ckOne
        split <;> omega
      simp only [List.length_append] at h
      omega
theorem merged_sides : ∀ (l : List CkS), (mergedS l).flatten.length ≤ (l.flatMap fun c => c.2.2.1).flatten.length + (l.flatMap fun c => c.2.2.2).flatten.length := by
  intro l
  induction l with
  | nil => simp [mergedS]
  | cons c l ih =>
    have e : mergedS (c :: l) = (if c.1 = 3 then c.2.2.2 else c.2.2.1) ++ mergedS l := by simp [mergedS]
    rw [e]
    simp only [List.flatMap_cons, List.flatten_append, List.length_append]
    split <;> omega
theorem mergeS_len (b o t : Tx) : (mergeS b o t).1.length ≤ 54 * (b.length + o.length + t.length) := by
  obtain ⟨h1, h2, h3, h4⟩ := chunks_sides (linesOf b) (linesOf o) (linesOf t)
  have n1 := linesOf_count b
  have n2 := linesOf_count o
  have n3 := linesOf_count t
  have e1 : (linesOf b).flatten.length = b.length := by rw [linesOf_join]
  have e2 : (linesOf o).flatten.length = o.length := by rw [linesOf_join]
  have e3 : (linesOf t).flatten.length = t.length := by rw [linesOf_join]
  unfold mergeS
  split
  · have h := merged_sides (chunksS (linesOf b) (linesOf o) (linesOf t))
    rw [h2, h3] at h
    simp only
    omega
  · have h := mergeOut_len (chunksS (linesOf b) (linesOf o) (linesOf t)) []
    rw [h1, h2, h3] at h
    simp only [List.length_nil] at h ⊢
    omega
theorem confN_take {l : List CkS} {k : Nat} {c : CkS} (h : l[k]? = some c) : confN (l.take (k + 1)) = confN (l.take k) + (if c.1 = 5 then 1 else 0) := by
  rw [List.take_add_one, h, confN_append]
  simp [confN, List.countP_cons]
theorem pick_take {l : List CkS} {k : Nat} {c : CkS} (h : l[k]? = some c) (q : Bool) : (l.take (k + 1)).flatMap (ckPick q) = (l.take k).flatMap (ckPick q) ++ ckPick q c := by
  rw [List.take_add_one, h]
  simp
section
set_option maxRecDepth 100000
set_option maxHeartbeats 4000000
theorem walk (b o u : Tx) (w : World) (_hb : b.length ≤ maxLen) (_ho : o.length ≤ maxLen) (_hu : u.length ≤ maxLen) :
    Calls Try.prog 5 #[strV b, strV o, strV u] w fun e w' => e = .returned (.bool true) ∧ Below w.heap.size w w' := by
  clear _hb _ho _hu
  have hFEW := mfew_any _ [b, o, u] (w.alloc (.cells #[.string ⟨b.toArray⟩, .string ⟨o.toArray⟩, .string ⟨u.toArray⟩] 9)) (litS [b, o, u] (heap_alloc_new w _)) (by simp)
  have hB0 : Below w.heap.size w (w.alloc (.cells #[.string ⟨b.toArray⟩, .string ⟨o.toArray⟩, .string ⟨u.toArray⟩] 9)) := (Below.refl _ w).alloc (Nat.le_refl _) _
  by_cases hf : b.length ≤ 400 ∧ o.length ≤ 400 ∧ u.length ≤ 400
  · rw [show ([b, o, u].all fun x => decide (x.length ≤ 400)) = true by simp [hf.1, hf.2.1, hf.2.2]] at hFEW
    have HFEW := hid hFEW
    have HB0 := hid hB0
    have ab := run_str_add (P := Try.prog) b [10] (by simp only [List.length_singleton]; omega)
    have ao := run_str_add (P := Try.prog) o [10] (by simp only [List.length_singleton]; omega)
    have au := run_str_add (P := Try.prog) u [10] (by simp only [List.length_singleton]; omega)
    have hcb : Closed (b ++ [10]) := .inr ⟨b, rfl⟩
    have hco : Closed (o ++ [10]) := .inr ⟨o, rfl⟩
    have hcu : Closed (u ++ [10]) := .inr ⟨u, rfl⟩
    have lB : (b ++ [10]).length = b.length + 1 := by simp
    have lO : (o ++ [10]).length = o.length + 1 := by simp
    have lU : (u ++ [10]).length = u.length + 1 := by simp
    obtain ⟨B, hB⟩ : ∃ z, b ++ [10] = z := ⟨_, rfl⟩
    obtain ⟨O, hO⟩ : ∃ z, o ++ [10] = z := ⟨_, rfl⟩
    obtain ⟨U, hU⟩ : ∃ z, u ++ [10] = z := ⟨_, rfl⟩
    rw [hB] at ab hcb lB
    rw [hO] at ao hco lO
    rw [hU] at au hcu lU
    have HL := hid (show B.length ≤ 401 ∧ O.length ≤ 401 ∧ U.length ≤ 401 by omega)
    have HCL := hid (And.intro hcb (And.intro hco hcu))
    have HPB := hid (fun wx => RPlainT_any B wx (by omega))
    have HPO := hid (fun wx => RPlainT_any O wx (by omega))
    have HPU := hid (fun wx => RPlainT_any U wx (by omega))
    clear hf hFEW hB0 lB lO lU hB hO hU hcb hco hcu
    unfold strV at HPB HPO HPU ⊢
    by_cases hall : plainS B = true ∧ plainS O = true ∧ plainS U = true
    · obtain ⟨l, hparse, hconf, hclean, hpick, hmerged⟩ := merge_parse HCL.out.1 HCL.out.2.1 HCL.out.2.2 hall.1 hall.2.1 hall.2.2
      rw [hall.1] at HPB
      rw [hall.2.1] at HPO
      rw [hall.2.2] at HPU
      have hlen := mergeS_len B O U
      have HMG := hid (fun wx => DMerge_any B O U wx (by have := HL.out; omega) (by have := HL.out; omega) (by have := HL.out; omega))
      have HFL := hid (chunk_flat (b := B) (o := O) (t := U) (by have := HL.out; omega) (by have := HL.out; omega) (by have := HL.out; omega))
      have HLN := hid (chunk_lines (b := linesOf B) (o := linesOf O) (t := linesOf U) (by have := HL.out; have := linesOf_count B; omega) (by have := HL.out; have := linesOf_count O; omega) (by have := HL.out; have := linesOf_count U; omega))
      have hcfew := (chunks_few (a := linesOf B) (b := linesOf O) (c := linesOf U) (by have := HL.out; have := linesOf_count B; omega) (by have := HL.out; have := linesOf_count O; omega) (by have := HL.out; have := linesOf_count U; omega)).2.1
      have HSB := hid (fun wx => RSplit_any B wx (by have := HL.out; omega))
      have HSO := hid (fun wx => RSplit_any O wx (by have := HL.out; omega))
      have HSU := hid (fun wx => RSplit_any U wx (by have := HL.out; omega))
      have HOF := hid (fun (va vb vc : Value) (wx : World) (h1 : Sl wx va (strCells (linesOf B))) (h2 : Sl wx vb (strCells (linesOf O))) (h3 : Sl wx vc (strCells (linesOf U))) => ROf_any va vb vc _ _ _ wx h1 h2 h3 (by have := HL.out; have := linesOf_count B; omega) (by have := HL.out; have := linesOf_count O; omega) (by have := HL.out; have := linesOf_count U; omega))
      obtain ⟨c, hc⟩ : ∃ c, chunksS (linesOf B) (linesOf O) (linesOf U) = c := ⟨_, rfl⟩
      rw [hc] at hconf hpick hmerged HFL HLN hcfew HOF
      obtain ⟨X, hX⟩ : ∃ X, (mergeS B O U).1 = X := ⟨_, rfl⟩
      obtain ⟨cl, hcl⟩ : ∃ cl, (mergeS B O U).2 = cl := ⟨_, rfl⟩
      rw [hX] at hparse hlen hmerged HMG
      rw [hcl] at hclean hmerged HMG
      have hXl : X.length ≤ 70000 := by have := HL.out; omega
      have HXL := hid hXl
      have hPD := fun wx => DParse_any X wx (by omega)
      have e1 : parseL X = l := by rw [parseL, hparse]; rfl
      have e2 : parseE X = 0 := by rw [parseE, hparse]; rfl
      rw [e1, e2] at hPD
      have HPD := hid hPD
      have HPK := hid hpick
      have HMD := hid hmerged
      have HCF := hid hconf
      have HCC := hid hclean
      have HCW := hid hcfew
      obtain ⟨Lb, hLb⟩ : ∃ L, linesOf B = L := ⟨_, rfl⟩
      obtain ⟨Lo, hLo⟩ : ∃ L, linesOf O = L := ⟨_, rfl⟩
      obtain ⟨Lu, hLu⟩ : ∃ L, linesOf U = L := ⟨_, rfl⟩
      rw [hLb] at HSB HOF
      rw [hLo] at HSO HOF
      rw [hLu] at HSU HOF
      clear hall hparse hconf hclean hpick hmerged hlen hcfew hc hX hcl hXl hPD e1 e2 hLb hLo hLu
      unfold strV at HMG HPD HSB HSO HSU
      go_enter Try.func5, Try.ntmps5
      go_wp2_with (first
        | (go_at_call 8; refine HFEW.out.mono ?_; rintro e _ ⟨rfl, rfl⟩; clear HFEW)
        | (go_at_call 15; with_reducible refine (HPB.out _).mono ?_; rintro e y1 ⟨rfl, hb1⟩; have HB1 := hid (below_step HB0.out hb1 HB0.out.size); clear hb1)
        | (go_at_call 15; with_reducible refine (HPO.out _).mono ?_; rintro e y2 ⟨rfl, hb2⟩; have HB2 := hid (below_step HB1.out hb2 HB1.out.size); clear hb2)
        | (go_at_call 15; with_reducible refine (HPU.out _).mono ?_; rintro e y3 ⟨rfl, hb3⟩; have HB3 := hid (below_step HB2.out hb3 HB2.out.size); clear hb3)
        | (go_at_call 10; with_reducible refine (HMG.out _).mono ?_; rintro e y4 ⟨rfl, hb4⟩; have HB4 := hid (below_step HB3.out hb4 HB3.out.size); clear hb4)
        | (go_at_call 12; refine (HPD.out _).mono ?_; rintro e y5 ⟨v5, rfl, s5, cu5, ln5, hb5⟩
           obtain ⟨la, lc, rfl⟩ := s5.form
           have HS5 := hid s5; have HC5 := hid (And.intro cu5 ln5); have HB5 := hid (below_step HB4.out hb5 HB4.out.size); clear s5 cu5 ln5 hb5)
        | (go_at_call 9; refine (awake_any _).mono ?_; rintro e y6 ⟨rfl, hb6⟩
           have HS6 := hid (HS5.out.old hb6); have HB6 := hid (below_step HB5.out hb6 HB5.out.size); clear hb6))
      clear HPB HPO HPU HMG HPD ab ao au
      go_loopg [11, 12] l.length (fun g n i wx => ∃ k : Nat, k ≤ l.length ∧ l.length - k = g ∧ i = .int .i64 k ∧ n = .int .i64 (confN (l.take k) : Nat) ∧ wx = y6)
      case atStart => exact ⟨0, Nat.zero_le _, rfl, rfl, rfl, rfl⟩
      case round =>
        obtain ⟨k, hk, rfl, rfl, rfl, rfl⟩ := hrel
        have k0 : (0 : Int) ≤ (k : Int) := Int.natCast_nonneg _
        have hll : l.length ≤ 70000 := by have h1 := HC5.out.2; have h2 := HXL.out; omega
        by_cases hlt : k < l.length
        · have k1 : (k : Int) < (l.length : Int) := by omega
          have kw : IntKind.i64.wrap ((k : Int) + 1) = (k : Int) + 1 := IntWalk.i64_in _ (by omega)
          obtain ⟨bb, oo, z, xb, xo, xt, vb, vo, vt, rfl, c1, c2, c3, c4, s1, s2, s3, he⟩ := HS6.out.at' (i := k) hlt
          have hcn := confN_take he
          have hle : confN (l.take k) ≤ k := Nat.le_trans (List.countP_le_length) (by rw [List.length_take]; omega)
          simp only at hcn
          obtain ⟨N, hN⟩ : ∃ N, confN (l.take k) = N := ⟨_, rfl⟩
          rw [hN] at hcn hle ⊢
          have N0 : (0 : Int) ≤ (N : Int) := Int.natCast_nonneg _
          have nw : IntKind.i64.wrap ((N : Int) + 1) = (N : Int) + 1 := IntWalk.i64_in _ (by omega)
          clear hN he s1 s2 s3 c2 c3 c4
          by_cases h5 : z = 5
          · subst h5
            have HN := hid (show confN (l.take (k + 1)) = N + 1 by rw [hcn, if_pos rfl])
            clear hcn hle
            go_wp2_with fail
            go_roundg (l.length - (k + 1))
            case measure => omega
            case rel => exact ⟨k + 1, by omega, rfl, by go_num, by rw [HN.out]; go_num, rfl⟩
          · have hb : (z == 5) = false := by simpa using h5
            have HN := hid (show confN (l.take (k + 1)) = N by rw [hcn, if_neg h5]; rfl)
            clear hcn hle h5
            go_wp2_with fail
            go_roundg (l.length - (k + 1))
            case measure => omega
            case rel => exact ⟨k + 1, by omega, rfl, by go_num, by rw [HN.out], rfl⟩
        · obtain rfl : k = l.length := by omega
          have hneg : ¬ (l.length : Int) < (l.length : Int) := by omega
          rw [List.take_length]
          have hcf := HCF.out
          obtain ⟨N, hN⟩ : ∃ N, confN l = N := ⟨_, rfl⟩
          rw [hN] at hcf ⊢
          have HCC := hid (show cl = decide (N = 0) by rw [HCC.out, hN])
          have HNC := hid hcf.symm
          clear hN hcf hll HCF
          go_wp2_with (first
            | (go_at_call 21; with_reducible refine (HSB.out _).mono ?_; rintro e x1 ⟨v1, rfl, o1, hb1⟩
               obtain ⟨p1, r1, rfl⟩ := owns_form o1
               have S1 := hid (Sl.ofOwns o1); have HL1 := hid (HS6.out.old hb1); have HB7 := hid (below_step HB6.out hb1 HB6.out.size); clear o1 hb1)
            | (go_at_call 21; with_reducible refine (HSO.out _).mono ?_; rintro e x2 ⟨v2, rfl, o2, hb2⟩
               obtain ⟨p2, r2, rfl⟩ := owns_form o2
               have S2 := hid (Sl.ofOwns o2); have S12 := hid (Sl.old S1.out hb2); have HL2 := hid (HL1.out.old hb2); have HB8 := hid (below_step HB7.out hb2 HB7.out.size); clear o2 hb2)
            | (go_at_call 21; with_reducible refine (HSU.out _).mono ?_; rintro e x3 ⟨v3, rfl, o3, hb3⟩
               obtain ⟨p3, r3, rfl⟩ := owns_form o3
               have S3 := hid (Sl.ofOwns o3); have S13 := hid (Sl.old S12.out hb3); have S23 := hid (Sl.old S2.out hb3); have HL3 := hid (HL2.out.old hb3); have HB9 := hid (below_step HB8.out hb3 HB8.out.size); clear o3 hb3)
            | (go_at_call 20; refine (HOF.out _ _ _ _ S13.out S23.out S3.out).mono ?_; rintro e x4 ⟨v4, rfl, o4, hb4⟩
               obtain ⟨p4, r4, rfl⟩ := o4.form
               have HC4 := hid o4; have HL4 := hid (HL3.out.old hb4); have HB10 := hid (below_step HB9.out hb4 HB9.out.size); clear o4 hb4))
          clear HSB HSO HSU HOF
          go_loopg [14, 15, 16, 17] c.length (fun g n p q i wx => ∃ (k : Nat) (P Q : Tx), k ≤ c.length ∧ c.length - k = g ∧ i = .int .i64 k ∧ n = .int .i64 (confN (c.take k) : Nat) ∧ p = .string ⟨P.toArray⟩ ∧ q = .string ⟨Q.toArray⟩ ∧ Hid (P = (c.take k).flatMap (ckPick true)) ∧ Hid (Q = (c.take k).flatMap (ckPick false)) ∧ Hid (P.length ≤ k * 1000 ∧ Q.length ≤ k * 1000) ∧ Below x4.heap.size x4 wx)
          case atStart => exact ⟨0, [], [], Nat.zero_le _, rfl, rfl, rfl, rfl, rfl, hid rfl, hid rfl, hid ⟨Nat.zero_le _, Nat.zero_le _⟩, Below.refl _ _⟩
          case round =>
            obtain ⟨k, P, Q, hk, rfl, rfl, rfl, rfl, rfl, HP, HQ, HPQ, hbx⟩ := hrel
            have hzx := hbx.size
            have k0 : (0 : Int) ≤ (k : Int) := Int.natCast_nonneg _
            have hcl3 := HCW.out
            have hpq := HPQ.out
            by_cases hlt : k < c.length
            · have k1 : (k : Int) < (c.length : Int) := by omega
              have kw : IntKind.i64.wrap ((k : Int) + 1) = (k : Int) + 1 := IntWalk.i64_in _ (by omega)
              obtain ⟨bb, oo, z, xb, xo, xt, vb, vo, vt, hao, c1, c2, c3, c4, s1, s2, s3, he⟩ := (HC4.out.old hbx).at' (i := k) hlt
              subst hao
              have hcn := confN_take he
              have hpt := pick_take he true
              have hpf := pick_take he false
              have hfo : xo.flatten.length ≤ 1000 := (HFL.out _ (List.mem_of_getElem? he)).2.1
              have hft : xt.flatten.length ≤ 1000 := (HFL.out _ (List.mem_of_getElem? he)).2.2
              have hlo : xo.length ≤ 1000 := (HLN.out _ (List.mem_of_getElem? he)).1
              have hlt' : xt.length ≤ 1000 := (HLN.out _ (List.mem_of_getElem? he)).2
              have hle : confN (c.take k) ≤ k := Nat.le_trans (List.countP_le_length) (by rw [List.length_take]; omega)
              simp only at hcn
              obtain ⟨M, hM⟩ : ∃ M, confN (c.take k) = M := ⟨_, rfl⟩
              rw [hM] at hcn hle ⊢
              have M0 : (0 : Int) ≤ (M : Int) := Int.natCast_nonneg _
              have nw : IntKind.i64.wrap ((M : Int) + 1) = (M : Int) + 1 := IntWalk.i64_in _ (by omega)
              by_cases h5 : z = 5
              · subst h5
                obtain ⟨ab, cb, rfl⟩ := s1.form
                obtain ⟨ao, co, rfl⟩ := s2.form
                obtain ⟨ah, ch, rfl⟩ := s3.form
                rw [strCells_length] at c2 c3 c4 s1 s2 s3
                have HN := hid (show confN (c.take (k + 1)) = M + 1 by rw [hcn, if_pos rfl])
                have HP2 := hid (show P ++ xo.flatten = (c.take (k + 1)).flatMap (ckPick true) by rw [hpt, HP.out]; simp [ckPick])
                have HQ2 := hid (show Q ++ xt.flatten = (c.take (k + 1)).flatMap (ckPick false) by rw [hpf, HQ.out]; simp [ckPick])
                have J2 := hid (fun n => (RJoin_any _ xo (wr.drewN n) (Sl.old s2 (below_drewN wr n)) (by omega) (by unfold maxLen; omega)).mono fun _ _ ⟨he, hm⟩ => (⟨he, hm.symm⟩ : _ ∧ _))
                have J3 := hid (fun n => (RJoin_any _ xt (wr.drewN n) (Sl.old s3 (below_drewN wr n)) (by omega) (by unfold maxLen; omega)).mono fun _ _ ⟨he, hm⟩ => (⟨he, hm.symm⟩ : _ ∧ _))
                have ap := run_str_add (P := Try.prog) P xo.flatten (by omega)
                have aq := run_str_add (P := Try.prog) Q xt.flatten (by omega)
                have HPL := hid (show (P ++ xo.flatten).length ≤ (k + 1) * 1000 ∧ (Q ++ xt.flatten).length ≤ (k + 1) * 1000 by rw [List.length_append, List.length_append]; omega)
                unfold strV at J2 J3
                clear hcn hpt hpf he s1 s2 s3 c2 hM hle hfo hft hlo hlt' hpq hcl3
                go_wp2_with fail
                go_quiet ((first
                  | (go_at_call 22; with_reducible exact Calls.quiet_of_same (J2.out _))
                  | (go_at_call 22; with_reducible exact Calls.quiet_of_same (J3.out _))))
                go_wp2_with fail
                go_roundg (c.length - (k + 1))
                case measure => omega
                case rel => exact ⟨k + 1, _, _, by omega, rfl, by go_num, by rw [HN.out]; go_num, rfl, rfl, HP2, HQ2, HPL, hbx.trans ⟨rfl, rfl, rfl, Nat.le_refl _, fun _ _ => rfl⟩⟩
              · have hb : (z == 5) = false := by simpa using h5
                obtain ⟨so, sc, hsl, ss⟩ := cut_ck (HC4.out.old hbx) he
                have hone : mergedS [(z, xb, xo, xt)] = ckOne (z, xb, xo, xt) := by simp [mergedS, ckOne]
                have hof : (ckOne (z, xb, xo, xt)).flatten.length ≤ 1000 := by
                  unfold ckOne
                  split
                  · exact hft
                  · exact hfo
                have hol : (ckOne (z, xb, xo, xt)).length ≤ 1000 := by
                  unfold ckOne
                  split
                  · exact hlt'
                  · exact hlo
                have HMG := RMergedL_any _ [(z, xb, xo, xt)] wr ss (by simp) (by rw [hone]; omega)
                rw [hone] at HMG
                have HN := hid (show confN (c.take (k + 1)) = M by rw [hcn, if_neg h5]; rfl)
                have HP2 := hid (show P ++ (ckOne (z, xb, xo, xt)).flatten = (c.take (k + 1)).flatMap (ckPick true) by rw [hpt, HP.out, ckPick, if_neg h5])
                have HQ2 := hid (show Q ++ (ckOne (z, xb, xo, xt)).flatten = (c.take (k + 1)).flatMap (ckPick false) by rw [hpf, HQ.out, ckPick, if_neg h5])
                obtain ⟨Y, hY⟩ : ∃ Y, ckOne (z, xb, xo, xt) = Y := ⟨_, rfl⟩
                rw [hY] at HMG HP2 HQ2 hof hol
                have ap := run_str_add (P := Try.prog) P Y.flatten (by omega)
                have aq := run_str_add (P := Try.prog) Q Y.flatten (by omega)
                have HPL := hid (show (P ++ Y.flatten).length ≤ (k + 1) * 1000 ∧ (Q ++ Y.flatten).length ≤ (k + 1) * 1000 by rw [List.length_append, List.length_append]; omega)
                have HMH := hid HMG
                have HOL := hid (And.intro hof hol)
                clear HMG hY hof hol hone hcn hpt hpf he s1 s2 s3 c2 c3 c4 hM hle hfo hft hlo hlt' hpq h5 ss hcl3
                go_wp2_with (first
                  | (go_at_call 23; refine HMH.out.mono ?_; rintro e y1 ⟨u1, rfl, o1, hb1⟩
                     obtain ⟨uo, uc, rfl⟩ := owns_form o1
                     have HJ := hid (RJoin_any _ Y y1 (Sl.ofOwns o1) (by have := HOL.out.1; omega) (by have := HOL.out.2; unfold maxLen; omega))
                     unfold strV at HJ
                     have HB1 := hid (below_step hbx hb1 hzx)
                     clear o1 hb1)
                  | (go_at_call 22; refine HJ.out.mono ?_; rintro e _ ⟨rfl, rfl⟩))
                go_roundg (c.length - (k + 1))
                case measure => omega
                case rel => exact ⟨k + 1, _, _, by omega, rfl, by go_num, by rw [HN.out], rfl, rfl, HP2, HQ2, HPL, HB1.out⟩
            · obtain rfl : k = c.length := by omega
              have hneg : ¬ (c.length : Int) < (c.length : Int) := by omega
              rw [List.take_length] at HP HQ ⊢
              have hP := HP.out
              have hQ := HQ.out
              rw [← HPK.out] at hP hQ
              have hpm : ∀ q, (pickL q l).length ≤ 1000000000000 := fun q => Nat.le_trans (pickL_len (n := 70000) fun d hd => by have h1 := HC5.out.1 d hd; have h2 := HXL.out; omega) (by have h1 := HC5.out.2; have h2 := HXL.out; omega)
              have HK1 := hid (fun wx (h : SlC wx (.slice la l.length lc) l) => DPick_any _ l true wx h (by have h1 := HC5.out.2; have h2 := HXL.out; omega) (hpm true) (by rw [← hP]; omega))
              have HK2 := hid (fun wx (h : SlC wx (.slice la l.length lc) l) => DPick_any _ l false wx h (by have h1 := HC5.out.2; have h2 := HXL.out; omega) (hpm false) (by rw [← hQ]; omega))
              rw [← hP] at HK1
              rw [← hQ] at HK2
              rw [HNC.out]
              have HPT := hid (fun wx => DPlainT_any X wx (by have h2 := HXL.out; omega))
              have HLX := hid (HL4.out.old hbx)
              have HBX := hid (below_step HB10.out hbx HB10.out.size)
              unfold strV at HK1 HK2 HPT
              clear hpm hpq hcl3 hbx hzx
              by_cases hN : N = 0
              · have hcl : cl = true := by rw [HCC.out, hN]; rfl
                subst hN
                subst hcl
                obtain ⟨hXP, hpl⟩ := HMD.out rfl
                rw [← HPK.out, ← hP] at hXP
                rw [hpl] at HPT
                subst hXP
                clear hpl hP hQ HP HQ
                go_wp2_with (first
                  | (go_at_call 18; with_reducible refine (HK1.out _ HLX.out).mono ?_; rintro e z1 ⟨rfl, hb1⟩; have HLY := hid (HLX.out.old hb1); have HBY := hid (below_step HBX.out hb1 HBX.out.size); clear hb1)
                  | (go_at_call 18; with_reducible refine (HK2.out _ HLY.out).mono ?_; rintro e z2 ⟨rfl, hb2⟩; have HBZ := hid (below_step HBY.out hb2 HBY.out.size); clear hb2)
                  | (go_at_call 14; with_reducible refine (HPT.out _).mono ?_; rintro e z3 ⟨rfl, hb3⟩; have HBW := hid (below_step HBZ.out hb3 HBZ.out.size); clear hb3))
                go_ret
                exact ⟨rfl, HBW.out⟩
              · have hcl : cl = false := by rw [HCC.out]; exact decide_eq_false hN
                have hN0 : ((N : Int) == 0) = false := by simp; omega
                subst hcl
                clear hN hP hQ HP HQ
                go_wp2_with (first
                  | (go_at_call 18; with_reducible refine (HK1.out _ HLX.out).mono ?_; rintro e z1 ⟨rfl, hb1⟩; have HLY := hid (HLX.out.old hb1); have HBY := hid (below_step HBX.out hb1 HBX.out.size); clear hb1)
                  | (go_at_call 18; with_reducible refine (HK2.out _ HLY.out).mono ?_; rintro e z2 ⟨rfl, hb2⟩; have HBZ := hid (below_step HBY.out hb2 HBY.out.size); clear hb2))
                go_ret
                exact ⟨rfl, HBZ.out⟩
    · obtain ⟨pb, hpb⟩ : ∃ z, plainS B = z := ⟨_, rfl⟩
      obtain ⟨po, hpo⟩ : ∃ z, plainS O = z := ⟨_, rfl⟩
      obtain ⟨pu, hpu⟩ : ∃ z, plainS U = z := ⟨_, rfl⟩
      rw [hpb, hpo, hpu] at hall
      rw [hpb] at HPB
      rw [hpo] at HPO
      rw [hpu] at HPU
      clear hpb hpo hpu HL HCL
      cases pb with
      | false =>
        clear HPO HPU hall
        go_enter Try.func5, Try.ntmps5
        go_wp2_with (first
          | (go_at_call 8; refine HFEW.out.mono ?_; rintro e _ ⟨rfl, rfl⟩; clear HFEW)
          | (go_at_call 15; with_reducible refine (HPB.out _).mono ?_; rintro e y1 ⟨rfl, hb1⟩; have HB1 := hid (below_step HB0.out hb1 HB0.out.size); clear hb1)
          | (go_at_call 9; refine (awake_any _).mono ?_; rintro e y6 ⟨rfl, hb6⟩; have HB6 := hid (below_step HB1.out hb6 HB1.out.size); clear hb6))
        go_ret
        exact ⟨rfl, HB6.out⟩
      | true =>
        cases po with
        | false =>
          clear HPU hall
          go_enter Try.func5, Try.ntmps5
          go_wp2_with (first
            | (go_at_call 8; refine HFEW.out.mono ?_; rintro e _ ⟨rfl, rfl⟩; clear HFEW)
            | (go_at_call 15; with_reducible refine (HPB.out _).mono ?_; rintro e y1 ⟨rfl, hb1⟩; have HB1 := hid (below_step HB0.out hb1 HB0.out.size); clear hb1)
            | (go_at_call 15; with_reducible refine (HPO.out _).mono ?_; rintro e y2 ⟨rfl, hb2⟩; have HB2 := hid (below_step HB1.out hb2 HB1.out.size); clear hb2)
            | (go_at_call 9; refine (awake_any _).mono ?_; rintro e y6 ⟨rfl, hb6⟩; have HB6 := hid (below_step HB2.out hb6 HB2.out.size); clear hb6))
          go_ret
          exact ⟨rfl, HB6.out⟩
        | true =>
          obtain rfl : pu = false := by
            cases pu with
            | false => rfl
            | true => exact absurd ⟨rfl, rfl, rfl⟩ hall
          clear hall
          go_enter Try.func5, Try.ntmps5
          go_wp2_with (first
            | (go_at_call 8; refine HFEW.out.mono ?_; rintro e _ ⟨rfl, rfl⟩; clear HFEW)
            | (go_at_call 15; with_reducible refine (HPB.out _).mono ?_; rintro e y1 ⟨rfl, hb1⟩; have HB1 := hid (below_step HB0.out hb1 HB0.out.size); clear hb1)
            | (go_at_call 15; with_reducible refine (HPO.out _).mono ?_; rintro e y2 ⟨rfl, hb2⟩; have HB2 := hid (below_step HB1.out hb2 HB1.out.size); clear hb2)
            | (go_at_call 15; with_reducible refine (HPU.out _).mono ?_; rintro e y3 ⟨rfl, hb3⟩; have HB3 := hid (below_step HB2.out hb3 HB2.out.size); clear hb3)
            | (go_at_call 9; refine (awake_any _).mono ?_; rintro e y6 ⟨rfl, hb6⟩; have HB6 := hid (below_step HB3.out hb6 HB3.out.size); clear hb6))
          go_ret
          exact ⟨rfl, HB6.out⟩
  · rw [show ([b, o, u].all fun x => decide (x.length ≤ 400)) = false by simp; omega] at hFEW
    have HFEW := hid hFEW
    have HB0 := hid hB0
    clear hf hFEW hB0
    unfold strV
    go_enter Try.func5, Try.ntmps5
    go_wp2_with fail
    refine HFEW.out.mono ?_
    rintro e w1 ⟨rfl, rfl⟩
    go_wp2_with fail
    refine (awake_any _).mono ?_
    rintro e w2 ⟨rfl, hb⟩
    go_wp2_with fail
    go_ret
    exact ⟨rfl, below_step HB0.out hb HB0.out.size⟩
end
theorem own : ownKnob Try.prog.godebug = none := by kernel_rfl
theorem laidOut : laidOutB Try.prog = true := by kernel_rfl

set_option maxRecDepth 100000 in
theorem contract (H : Type) (enc : TypeId × Value → H) (W : World) (base : Nat) (args : Array Value) (ds gs : List (DataW H)) (before : List MemPlace)
    (hval : ∀ (j : Nat) t v, Try.f5.params[j]? = some t → args[j]? = some v → Value.okWide Try.prog W .any base t v)
    (hW : DataW.Whole enc Try.prog Try.f5.params.toList Rows.mergeParseSpec.vars false W args.toList ds gs before) :
    Calls Try.prog 5 args W fun e W' => ∃ v, e = .returned v ∧ Rows.mergeParseSpec.post enc Try.prog Try.f5 false true false false W args v W' := by
  have hW' := hW
  obtain ⟨p, q, hA0, hV, rfl, hfz, hnd⟩ := hW
  have hA : DataW.TrodAll enc Try.prog W 0 (fun _ => true) true Try.f5.params.toList args.toList ds p := hA0
  rw [Try.params5] at hA hval
  obtain ⟨v0, vs0, d0, ds0, p0, q0, hargs, rfl, rfl, h0, r0⟩ := trodAll_cons hA
  obtain ⟨v1, vs1, d1, ds1, p1, q1, rfl, rfl, rfl, h1, r1⟩ := trodAll_cons r0
  obtain ⟨v2, vs2, d2, ds2, p2, q2, rfl, rfl, rfl, h2, r2⟩ := trodAll_cons r1
  obtain ⟨rfl, rfl, rfl⟩ := trodAll_nil r2
  obtain rfl : args = #[v0, v1, v2] := by cases args; simp_all
  obtain ⟨rfl, rfl⟩ := trodVars_none hV
  have k0 := h0
  have lt0 : ∀ x ∈ p0, x.block < W.heap.size := by obtain ⟨m, hm⟩ := k0; exact DataW.trod_lt m _ _ _ hm
  obtain ⟨a0, rfl, _, _, w0⟩ := open_str Try.underlying9 (hval 0 9 v0 rfl rfl) h0
  have k1 := h1
  have lt1 : ∀ x ∈ p1, x.block < W.heap.size := by obtain ⟨m, hm⟩ := k1; exact DataW.trod_lt m _ _ _ hm
  obtain ⟨a1, rfl, _, _, w1⟩ := open_str Try.underlying9 (hval 1 9 v1 rfl rfl) h1
  have k2 := h2
  have lt2 : ∀ x ∈ p2, x.block < W.heap.size := by obtain ⟨m, hm⟩ := k2; exact DataW.trod_lt m _ _ _ hm
  obtain ⟨a2, rfl, _, _, w2⟩ := open_str Try.underlying9 (hval 2 9 v2 rfl rfl) h2
  clear hA0
  refine (walk a0 a1 a2 W w0 w1 w2).mono fun e W' ⟨he, bel⟩ => ?_
  subst he
  exact ⟨_, rfl, _, _, _, [], _, [], hW', trodAll_mk1 (shut_bool Try.underlying4 _), (trodAll_cons_mk (Below.trod laidOut (by kernel_rfl) (of_decide_eq_true (by kernel_rfl)) k0 bel lt0) (trodAll_cons_mk (Below.trod laidOut (by kernel_rfl) (of_decide_eq_true (by kernel_rfl)) k1 bel lt1) (trodAll_cons_mk (Below.trod laidOut (by kernel_rfl) (of_decide_eq_true (by kernel_rfl)) k2 bel lt2) trodAll_mk0))), rfl, bel.frame _, fun h => by cases h⟩

set_option maxRecDepth 100000 in
theorem lifted (os : Os) (started : os.Started) (H : Type) (enc : TypeId × Value → H) :
    ReturnsInHanded {} Try.checked os 5 .any (Rows.mergeParseSpec.pre6 enc Try.prog Try.f5 Rows.mergeParseRow.domain false) (Rows.mergeParseSpec.post enc Try.prog Try.f5 false true false false) := by
  refine returnsInHanded_of_change (C := Try.checked) own started (by kernel_rfl) Try.func5
    (ChangeSpec.witness6 (enc := enc) (C := Try.checked) false ⟨#[], #[.string ByteArray.empty, .string ByteArray.empty, .string ByteArray.empty], []⟩ 8 (by kernel_rfl) (by kernel_rfl) (by kernel_rfl) (by kernel_rfl)) ?_
  intro W base args ds gs before hval hW _ _
  exact contract H enc W base args ds gs before hval hW

theorem over : Rows.mergeParseRow.holds Try.pinned (OpenSpec.ofChange Rows.mergeParseSpec) :=
  OpenClaim.holds_of_wide 5 Try.f5 rfl rfl rfl rfl rfl rfl rfl ⟨rfl, rfl, rfl, rfl, rfl⟩ rfl rfl rfl rfl rfl (by kernel_rfl) Try.func5 (by kernel_rfl)
    (of_decide_eq_true (by kernel_rfl)) (by unfold Func.isWrapper; first | (rw [if_pos (by decide +kernel)]; kernel_rfl) | (rw [if_neg (by decide +kernel)]; exact ⟨rfl, rfl⟩))
    (fun os started H enc _ => lifted os started H enc)

/-- The statement. -/
theorem proved : Rows.MergeParseSaid :=
  over
#print axioms proved
end Go.Proofs.Ytfldheegebopoaa.mergeParse

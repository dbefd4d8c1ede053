/-
  Trees (the document's own): Drop, Put, each by a contract.
-/
import Derived.Test.YtnpgfbgnbonhfaaRtrB
namespace Go.Proofs.Ytnpgfbgnbonhfaa
open Go.RowKit
open BigFrame

def dropS (l : List FileS) (p : List UInt8) : List FileS × Nat :=
  if rightT l = true then (if (findS l p).isSome = true then (withoutS l p, 0) else ([], 8)) else ([], 5)
def putS (l : List FileS) (f : FileS) : List FileS × Nat :=
  if rightT l = true then
    (if rightS f.1 = true then
      (if f.2.2.length ≤ 20000 then
        (if (!(findS l f.1).isSome && clashesS l f.1) = true then ([], 11)
         else if (!(findS l f.1).isSome && decide (100 ≤ l.length)) = true then ([], 6)
         else (sortedS (withoutS l f.1) f, 0))
       else ([], 6))
     else ([], 11))
  else ([], 5)
theorem rightT_len {l : List FileS} (h : rightT l = true) : l.length ≤ 100 := by
  unfold rightT at h
  simp only [Bool.and_eq_true, decide_eq_true_eq] at h
  exact h.1
section
set_option maxRecDepth 100000
set_option maxHeartbeats 4000000
theorem RDrop_any (v : Value) (l : List FileS) (p : List UInt8) (w : World) (hv : SlF w v l) :
    Calls Try.prog 14 #[v, strV p] w fun e w' => ∃ u, e = .returned (.tuple #[u, .int .i64 (dropS l p).2]) ∧ OwnF w' w.heap.size u (dropS l p).1 ∧ Below w.heap.size w w' := by
  obtain ⟨ao, cap, rfl⟩ := hv.form
  have HV := hid hv
  have HR := hid (RRight_any _ l w hv)
  clear hv
  obtain ⟨r, hr⟩ : ∃ r, rightT l = r := ⟨_, rfl⟩
  rw [hr] at HR
  cases r with
  | false =>
    have HD := hid (show dropS l p = ([], 5) by unfold dropS; rw [hr]; rfl)
    clear hr
    unfold strV
    go_enter Try.func14, Try.ntmps14
    go_wp2_with (go_at_call 27; refine HR.out.mono ?_; rintro e w1 ⟨rfl, hb1⟩; have HB1 := hid hb1; clear hb1)
    refine bodyPost_ret (results_tmp2 rfl _ _ _) rfl ?_
    rw [HD.out]
    exact ⟨_, rfl, World.ownsRow_nil _ _ _ _, HB1.out⟩
  | true =>
    have hl := rightT_len hr
    have HF := hid (fun (w1 : World) (h : Below w.heap.size w w1) => RFind_any _ l p w1 (HV.out.old h) (by omega))
    have HW := hid (fun (w1 : World) (h : Below w.heap.size w w1) => RWithout_any _ l p w1 (HV.out.old h) (by omega))
    obtain ⟨⟨fp, fx, ft⟩, hff⟩ : ∃ f, (findS l p).getD fileZ = f := ⟨_, rfl⟩
    obtain ⟨is, his⟩ : ∃ z, (findS l p).isSome = z := ⟨_, rfl⟩
    rw [hff, his] at HF
    unfold fileV strV at HF
    unfold strV at HW
    unfold strV
    clear hff hl
    cases is with
    | false =>
      have HD := hid (show dropS l p = ([], 8) by unfold dropS; rw [hr, his]; rfl)
      clear hr his
      go_enter Try.func14, Try.ntmps14
      go_wp2_with (first
        | (go_at_call 27; refine HR.out.mono ?_; rintro e w1 ⟨rfl, hb1⟩; have HB1 := hid hb1; clear hb1)
        | (go_at_call 12; refine (HF.out _ HB1.out).mono ?_; rintro e w2 ⟨rfl, hb2⟩; have HB2 := hid (below_step HB1.out hb2 HB1.out.size); clear hb2)
        | (refine file_store rfl 31 _ _ rfl _ #[.string ⟨fp.toArray⟩, .bool fx, .string ⟨ft.toArray⟩] rfl rfl _ _ (heap_alloc_new _ _) 3 Try.sizeFile rfl rfl (by simp [Value.oneCell']) ?_; intro w9 hg9 hk9; have HB9 := hid ((HB2.out.alloc HB2.out.size _).trans (hk9.below (Nat.le_trans HB2.out.size (by simp)) (fun j hj e => by have := HB2.out.size; omega))); clear hg9 hk9))
      refine bodyPost_ret (results_tmp2 rfl _ _ _) rfl ?_
      rw [HD.out]
      exact ⟨_, rfl, World.ownsRow_nil _ _ _ _, HB9.out⟩
    | true =>
      have HD := hid (show dropS l p = (withoutS l p, 0) by unfold dropS; rw [hr, his]; rfl)
      clear hr his
      go_enter Try.func14, Try.ntmps14
      go_wp2_with (first
        | (go_at_call 27; refine HR.out.mono ?_; rintro e w1 ⟨rfl, hb1⟩; have HB1 := hid hb1; clear hb1)
        | (go_at_call 12; refine (HF.out _ HB1.out).mono ?_; rintro e w2 ⟨rfl, hb2⟩; have HB2 := hid (below_step HB1.out hb2 HB1.out.size); clear hb2)
        | (go_at_call 28; refine (HW.out _ HB9.out).mono ?_; rintro e w3 ⟨u3, rfl, ho3, hb3⟩; have HO3 := hid (owns_lower ho3 HB9.out.size); have HB3 := hid (below_step HB9.out hb3 HB9.out.size); clear hb3 ho3)
        | (refine file_store rfl 31 _ _ rfl _ #[.string ⟨fp.toArray⟩, .bool fx, .string ⟨ft.toArray⟩] rfl rfl _ _ (heap_alloc_new _ _) 3 Try.sizeFile rfl rfl (by simp [Value.oneCell']) ?_; intro w9 hg9 hk9; have HB9 := hid ((HB2.out.alloc HB2.out.size _).trans (hk9.below (Nat.le_trans HB2.out.size (by simp)) (fun j hj e => by have := HB2.out.size; omega))); clear hg9 hk9))
      refine bodyPost_ret (results_tmp2 rfl _ _ _) rfl ?_
      rw [HD.out]
      exact ⟨_, rfl, HO3.out, HB3.out⟩
theorem below_cell {W w : World} {a : Addr} {v : Value} (hb : Below W.heap.size W w) (h : W.cell? a = some v) : w.cell? a = some v :=
  (World.cell?_of_block (hb.block _ (World.block_lt_of_cell? W _ h))).trans h
theorem RPut_any (v : Value) (l : List FileS) (p t : List UInt8) (x : Bool) (w : World) (hv : SlF w v l) :
    Calls Try.prog 15 #[v, .agg #[strV p, .bool x, strV t]] w fun e w' => ∃ u, e = .returned (.tuple #[u, .int .i64 (putS l (p, x, t)).2]) ∧ OwnF w' w.heap.size u (putS l (p, x, t)).1 ∧ Below w.heap.size w w' := by
  obtain ⟨ao, cap, rfl⟩ := hv.form
  have HB0 := hid ((Below.refl _ w).alloc (Nat.le_refl w.heap.size) (.cells #[.string ⟨p.toArray⟩, .bool x, .string ⟨t.toArray⟩] 31))
  have HV := hid (hv.old HB0.out)
  have hg := heap_alloc_new w (.cells #[.string ⟨p.toArray⟩, .bool x, .string ⟨t.toArray⟩] 31)
  have HC0 := hid (blk_cell (i := 0) hg rfl)
  have HC1 := hid (blk_cell (i := 1) hg rfl)
  have HC2 := hid (blk_cell (i := 2) hg rfl)
  clear hv hg
  unfold strV
  go_enter Try.func15, Try.ntmps15
  go_wp2_with fail
  generalize w.alloc (.cells #[.string ⟨p.toArray⟩, .bool x, .string ⟨t.toArray⟩] 31) = W at HV HB0 HC0 HC1 HC2 ⊢
  generalize w.heap.size = g at HC0 HC1 HC2 ⊢
  have HK := hid (Below.refl W.heap.size W)
  have HR := hid (fun (wy : World) (h : Below W.heap.size W wy) => RRight_any _ l wy (HV.out.old h))
  have HP := hid (fun (wy : World) => RPath_any p wy)
  obtain ⟨r, hr⟩ : ∃ r, rightT l = r := ⟨_, rfl⟩
  obtain ⟨rp, hrp⟩ : ∃ r, rightS p = r := ⟨_, rfl⟩
  rw [hr] at HR
  rw [hrp] at HP
  unfold strV at HP
  cases r with
  | false =>
    have HD := hid (show putS l (p, x, t) = ([], 5) by unfold putS; rw [hr]; rfl)
    clear hr hrp
    go_wp2_with (first
      | (go_at_call 27; refine (HR.out _ HK.out).mono ?_; rintro e w1 ⟨rfl, hb1⟩; have HK := hid (below_step HK.out hb1 HK.out.size); have c0 := below_cell HK.out HC0.out; have c1 := below_cell HK.out HC1.out; have c2 := below_cell HK.out HC2.out; clear hb1))
    refine bodyPost_ret (results_tmp2 rfl _ _ _) rfl ?_
    rw [HD.out]
    exact ⟨_, rfl, World.ownsRow_nil _ _ _ _, below_step HB0.out HK.out HB0.out.size⟩
  | true =>
  have HL := hid (rightT_len hr)
  cases rp with
  | false =>
    have HD := hid (show putS l (p, x, t) = ([], 11) by unfold putS; rw [hr, hrp]; rfl)
    clear hr hrp
    go_wp2_with (first
      | (go_at_call 27; refine (HR.out _ HK.out).mono ?_; rintro e w1 ⟨rfl, hb1⟩; have HK := hid (below_step HK.out hb1 HK.out.size); have c0 := below_cell HK.out HC0.out; have c1 := below_cell HK.out HC1.out; have c2 := below_cell HK.out HC2.out; clear hb1)
      | (go_at_call 29; refine (HP.out _).mono ?_; rintro e w1 ⟨rfl, hb1⟩; have HK := hid (below_step HK.out hb1 HK.out.size); have c0 := below_cell HK.out HC0.out; have c1 := below_cell HK.out HC1.out; have c2 := below_cell HK.out HC2.out; clear hb1))
    refine bodyPost_ret (results_tmp2 rfl _ _ _) rfl ?_
    rw [HD.out]
    exact ⟨_, rfl, World.ownsRow_nil _ _ _ _, below_step HB0.out HK.out HB0.out.size⟩
  | true =>
  by_cases ht : t.length ≤ 20000
  case neg =>
    have t1 : decide (20000 < (t.length : Int)) = true := decide_eq_true (by omega)
    have t2 : decide (20000 < t.length) = true := decide_eq_true (by omega)
    have HD := hid (show putS l (p, x, t) = ([], 6) by unfold putS; rw [hr, hrp, if_pos rfl, if_pos rfl, if_neg ht])
    clear hr hrp ht
    go_wp2_with (first
      | (go_at_call 27; refine (HR.out _ HK.out).mono ?_; rintro e w1 ⟨rfl, hb1⟩; have HK := hid (below_step HK.out hb1 HK.out.size); have c0 := below_cell HK.out HC0.out; have c1 := below_cell HK.out HC1.out; have c2 := below_cell HK.out HC2.out; clear hb1)
      | (go_at_call 29; refine (HP.out _).mono ?_; rintro e w1 ⟨rfl, hb1⟩; have HK := hid (below_step HK.out hb1 HK.out.size); have c0 := below_cell HK.out HC0.out; have c1 := below_cell HK.out HC1.out; have c2 := below_cell HK.out HC2.out; clear hb1))
    refine bodyPost_ret (results_tmp2 rfl _ _ _) rfl ?_
    rw [HD.out]
    exact ⟨_, rfl, World.ownsRow_nil _ _ _ _, below_step HB0.out HK.out HB0.out.size⟩
  have t1 : decide (20000 < (t.length : Int)) = false := decide_eq_false (by omega)
  have t2 : decide (20000 < t.length) = false := decide_eq_false (by omega)
  have HF := hid (fun (wy : World) (h : Below W.heap.size W wy) => RFind_any _ l p wy (HV.out.old h) (by have := HL.out; omega))
  have HW := hid (fun (wy : World) (h : Below W.heap.size W wy) => RWithout_any _ l p wy (HV.out.old h) (by have := HL.out; omega))
  have HCl := hid (fun (wy : World) (h : Below W.heap.size W wy) => RClashes_any _ l p wy (HV.out.old h) (by have := HL.out; omega))
  have HSo := hid (fun (u : Value) (wy : World) (h : SlF wy u (withoutS l p)) => RSorted_any u _ p t x wy h (by have := HL.out; have : (withoutS l p).length ≤ l.length := List.length_filter_le _ _; omega))
  have HD0 := hid (show putS l (p, x, t) = (if (!(findS l p).isSome && clashesS l p) = true then ([], 11) else if (!(findS l p).isSome && decide (100 ≤ l.length)) = true then ([], 6) else (sortedS (withoutS l p) (p, x, t), 0)) by unfold putS; rw [hr, hrp, if_pos rfl, if_pos rfl, if_pos ht])
  obtain ⟨⟨fp, fx, ft⟩, hff⟩ : ∃ f, (findS l p).getD fileZ = f := ⟨_, rfl⟩
  obtain ⟨is, his⟩ : ∃ z, (findS l p).isSome = z := ⟨_, rfl⟩
  obtain ⟨y, hy⟩ : ∃ z, clashesS l p = z := ⟨_, rfl⟩
  rw [hff, his] at HF
  rw [hy] at HCl
  rw [his, hy] at HD0
  unfold fileV strV at HF
  unfold strV at HW HCl HSo
  clear hff his hy hr hrp ht
  cases is with
  | true =>
    have HD := hid (show putS l (p, x, t) = (sortedS (withoutS l p) (p, x, t), 0) by rw [HD0.out]; rfl)
    go_wp2_with (first
      | (go_at_call 27; refine (HR.out _ HK.out).mono ?_; rintro e w1 ⟨rfl, hb1⟩; have HK := hid (below_step HK.out hb1 HK.out.size); have c0 := below_cell HK.out HC0.out; have c1 := below_cell HK.out HC1.out; have c2 := below_cell HK.out HC2.out; clear hb1)
      | (go_at_call 29; refine (HP.out _).mono ?_; rintro e w1 ⟨rfl, hb1⟩; have HK := hid (below_step HK.out hb1 HK.out.size); have c0 := below_cell HK.out HC0.out; have c1 := below_cell HK.out HC1.out; have c2 := below_cell HK.out HC2.out; clear hb1)
      | (go_at_call 12; refine (HF.out _ HK.out).mono ?_; rintro e w1 ⟨rfl, hb1⟩; have HK := hid (below_step HK.out hb1 HK.out.size); have c0 := below_cell HK.out HC0.out; have c1 := below_cell HK.out HC1.out; have c2 := below_cell HK.out HC2.out; clear hb1)
      | (go_at_call 28; refine (HW.out _ HK.out).mono ?_; rintro e w1 ⟨u3, rfl, ho3, hb1⟩; have HO3 := hid ho3.sl; have HK := hid (below_step HK.out hb1 HK.out.size); have c0 := below_cell HK.out HC0.out; have c1 := below_cell HK.out HC1.out; have c2 := below_cell HK.out HC2.out; clear hb1 ho3)
      | (go_at_call 31; refine (HSo.out _ _ HO3.out).mono ?_; rintro e w1 ⟨u4, rfl, ho4, hb1⟩; have HO4 := hid (owns_lower ho4 (Nat.le_trans HB0.out.size HK.out.size)); have HK := hid (below_step HK.out hb1 HK.out.size); clear hb1 ho4)
      | (refine file_store rfl 31 _ _ rfl _ #[.string ⟨fp.toArray⟩, .bool fx, .string ⟨ft.toArray⟩] rfl rfl _ _ (heap_alloc_new _ _) 3 Try.sizeFile rfl rfl (by simp [Value.oneCell']) ?_; intro w9 hg9 hk9; have HK := hid ((HK.out.alloc HK.out.size _).trans (hk9.below (Nat.le_trans HK.out.size (by simp)) (fun j hj e => by have := HK.out.size; omega))); have c0 := below_cell HK.out HC0.out; have c1 := below_cell HK.out HC1.out; have c2 := below_cell HK.out HC2.out; clear hg9 hk9))
    refine bodyPost_ret (results_tmp2 rfl _ _ _) rfl ?_
    rw [HD.out]
    exact ⟨_, rfl, HO4.out, below_step HB0.out HK.out HB0.out.size⟩
  | false =>
  cases y with
  | true =>
    have HD := hid (show putS l (p, x, t) = ([], 11) by rw [HD0.out]; rfl)
    go_wp2_with (first
      | (go_at_call 27; refine (HR.out _ HK.out).mono ?_; rintro e w1 ⟨rfl, hb1⟩; have HK := hid (below_step HK.out hb1 HK.out.size); have c0 := below_cell HK.out HC0.out; have c1 := below_cell HK.out HC1.out; have c2 := below_cell HK.out HC2.out; clear hb1)
      | (go_at_call 29; refine (HP.out _).mono ?_; rintro e w1 ⟨rfl, hb1⟩; have HK := hid (below_step HK.out hb1 HK.out.size); have c0 := below_cell HK.out HC0.out; have c1 := below_cell HK.out HC1.out; have c2 := below_cell HK.out HC2.out; clear hb1)
      | (go_at_call 12; refine (HF.out _ HK.out).mono ?_; rintro e w1 ⟨rfl, hb1⟩; have HK := hid (below_step HK.out hb1 HK.out.size); have c0 := below_cell HK.out HC0.out; have c1 := below_cell HK.out HC1.out; have c2 := below_cell HK.out HC2.out; clear hb1)
      | (go_at_call 28; refine (HW.out _ HK.out).mono ?_; rintro e w1 ⟨u3, rfl, ho3, hb1⟩; have HO3 := hid ho3.sl; have HK := hid (below_step HK.out hb1 HK.out.size); have c0 := below_cell HK.out HC0.out; have c1 := below_cell HK.out HC1.out; have c2 := below_cell HK.out HC2.out; clear hb1 ho3)
      | (go_at_call 30; refine (HCl.out _ HK.out).mono ?_; rintro e _ ⟨rfl, rfl⟩)
      | (refine file_store rfl 31 _ _ rfl _ #[.string ⟨fp.toArray⟩, .bool fx, .string ⟨ft.toArray⟩] rfl rfl _ _ (heap_alloc_new _ _) 3 Try.sizeFile rfl rfl (by simp [Value.oneCell']) ?_; intro w9 hg9 hk9; have HK := hid ((HK.out.alloc HK.out.size _).trans (hk9.below (Nat.le_trans HK.out.size (by simp)) (fun j hj e => by have := HK.out.size; omega))); have c0 := below_cell HK.out HC0.out; have c1 := below_cell HK.out HC1.out; have c2 := below_cell HK.out HC2.out; clear hg9 hk9))
    refine bodyPost_ret (results_tmp2 rfl _ _ _) rfl ?_
    rw [HD.out]
    exact ⟨_, rfl, World.ownsRow_nil _ _ _ _, below_step HB0.out HK.out HB0.out.size⟩
  | false =>
  by_cases h100 : 100 ≤ l.length
  · have z1 : decide (100 ≤ (l.length : Int)) = true := decide_eq_true (by omega)
    have z2 : decide (100 ≤ l.length) = true := decide_eq_true h100
    have HD := hid (show putS l (p, x, t) = ([], 6) by rw [HD0.out, z2]; rfl)
    go_wp2_with (first
      | (go_at_call 27; refine (HR.out _ HK.out).mono ?_; rintro e w1 ⟨rfl, hb1⟩; have HK := hid (below_step HK.out hb1 HK.out.size); have c0 := below_cell HK.out HC0.out; have c1 := below_cell HK.out HC1.out; have c2 := below_cell HK.out HC2.out; clear hb1)
      | (go_at_call 29; refine (HP.out _).mono ?_; rintro e w1 ⟨rfl, hb1⟩; have HK := hid (below_step HK.out hb1 HK.out.size); have c0 := below_cell HK.out HC0.out; have c1 := below_cell HK.out HC1.out; have c2 := below_cell HK.out HC2.out; clear hb1)
      | (go_at_call 12; refine (HF.out _ HK.out).mono ?_; rintro e w1 ⟨rfl, hb1⟩; have HK := hid (below_step HK.out hb1 HK.out.size); have c0 := below_cell HK.out HC0.out; have c1 := below_cell HK.out HC1.out; have c2 := below_cell HK.out HC2.out; clear hb1)
      | (go_at_call 28; refine (HW.out _ HK.out).mono ?_; rintro e w1 ⟨u3, rfl, ho3, hb1⟩; have HO3 := hid ho3.sl; have HK := hid (below_step HK.out hb1 HK.out.size); have c0 := below_cell HK.out HC0.out; have c1 := below_cell HK.out HC1.out; have c2 := below_cell HK.out HC2.out; clear hb1 ho3)
      | (go_at_call 30; refine (HCl.out _ HK.out).mono ?_; rintro e _ ⟨rfl, rfl⟩)
      | (refine file_store rfl 31 _ _ rfl _ #[.string ⟨fp.toArray⟩, .bool fx, .string ⟨ft.toArray⟩] rfl rfl _ _ (heap_alloc_new _ _) 3 Try.sizeFile rfl rfl (by simp [Value.oneCell']) ?_; intro w9 hg9 hk9; have HK := hid ((HK.out.alloc HK.out.size _).trans (hk9.below (Nat.le_trans HK.out.size (by simp)) (fun j hj e => by have := HK.out.size; omega))); have c0 := below_cell HK.out HC0.out; have c1 := below_cell HK.out HC1.out; have c2 := below_cell HK.out HC2.out; clear hg9 hk9))
    refine bodyPost_ret (results_tmp2 rfl _ _ _) rfl ?_
    rw [HD.out]
    exact ⟨_, rfl, World.ownsRow_nil _ _ _ _, below_step HB0.out HK.out HB0.out.size⟩
  · have z1 : decide (100 ≤ (l.length : Int)) = false := decide_eq_false (by omega)
    have z2 : decide (100 ≤ l.length) = false := decide_eq_false h100
    have HD := hid (show putS l (p, x, t) = (sortedS (withoutS l p) (p, x, t), 0) by rw [HD0.out, z2]; rfl)
    go_wp2_with (first
      | (go_at_call 27; refine (HR.out _ HK.out).mono ?_; rintro e w1 ⟨rfl, hb1⟩; have HK := hid (below_step HK.out hb1 HK.out.size); have c0 := below_cell HK.out HC0.out; have c1 := below_cell HK.out HC1.out; have c2 := below_cell HK.out HC2.out; clear hb1)
      | (go_at_call 29; refine (HP.out _).mono ?_; rintro e w1 ⟨rfl, hb1⟩; have HK := hid (below_step HK.out hb1 HK.out.size); have c0 := below_cell HK.out HC0.out; have c1 := below_cell HK.out HC1.out; have c2 := below_cell HK.out HC2.out; clear hb1)
      | (go_at_call 12; refine (HF.out _ HK.out).mono ?_; rintro e w1 ⟨rfl, hb1⟩; have HK := hid (below_step HK.out hb1 HK.out.size); have c0 := below_cell HK.out HC0.out; have c1 := below_cell HK.out HC1.out; have c2 := below_cell HK.out HC2.out; clear hb1)
      | (go_at_call 28; refine (HW.out _ HK.out).mono ?_; rintro e w1 ⟨u3, rfl, ho3, hb1⟩; have HO3 := hid ho3.sl; have HK := hid (below_step HK.out hb1 HK.out.size); have c0 := below_cell HK.out HC0.out; have c1 := below_cell HK.out HC1.out; have c2 := below_cell HK.out HC2.out; clear hb1 ho3)
      | (go_at_call 30; refine (HCl.out _ HK.out).mono ?_; rintro e _ ⟨rfl, rfl⟩)
      | (go_at_call 31; refine (HSo.out _ _ HO3.out).mono ?_; rintro e w1 ⟨u4, rfl, ho4, hb1⟩; have HO4 := hid (owns_lower ho4 (Nat.le_trans HB0.out.size HK.out.size)); have HK := hid (below_step HK.out hb1 HK.out.size); clear hb1 ho4)
      | (refine file_store rfl 31 _ _ rfl _ #[.string ⟨fp.toArray⟩, .bool fx, .string ⟨ft.toArray⟩] rfl rfl _ _ (heap_alloc_new _ _) 3 Try.sizeFile rfl rfl (by simp [Value.oneCell']) ?_; intro w9 hg9 hk9; have HK := hid ((HK.out.alloc HK.out.size _).trans (hk9.below (Nat.le_trans HK.out.size (by simp)) (fun j hj e => by have := HK.out.size; omega))); have c0 := below_cell HK.out HC0.out; have c1 := below_cell HK.out HC1.out; have c2 := below_cell HK.out HC2.out; clear hg9 hk9))
    refine bodyPost_ret (results_tmp2 rfl _ _ _) rfl ?_
    rw [HD.out]
    exact ⟨_, rfl, HO4.out, below_step HB0.out HK.out HB0.out.size⟩
end
end Go.Proofs.Ytnpgfbgnbonhfaa

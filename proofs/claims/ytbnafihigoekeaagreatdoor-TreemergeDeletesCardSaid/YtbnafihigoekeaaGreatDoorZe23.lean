/-
  TmDe, part 23.
-/
import Derived.Test.YtbnafihigoekeaaGreatDoorZe22
import Derived.Deep.RegionHeldLaw
import Derived.Test.YtbnafihigoekeaaGreatDoorZe1
import Derived.Deep.LoopGhost
namespace Go.Proofs.YtbnafihigoekeaaGreatDoor
open Go.RowKit
open BigFrame
def dropS (l : List FileS) (p : List UInt8) : List FileS × Nat :=
  if rightT l = true then (if (findS l p).isSome = true then (withoutS l p, 0) else ([], 8)) else ([], 5)
def putS (l : List FileS) (f : FileS) : List FileS × Nat :=
  if rightT l = true then
    (if rightS f.1 = true then
      (if f.2.2.length ≤ 20000 then
        (if (!(findS l f.1).isSome && clashesS l f.1) = true then ([], 11)
         else if (!(findS l f.1).isSome && decide (100 ≤ l.length)) = true then ([], 6)
         else (sortedS (withoutS l f.1) f, 0))
       else ([], 6))
     else ([], 11))
  else ([], 5)
theorem rightT_len {l : List FileS} (h : rightT l = true) : l.length ≤ 100 := by
  unfold rightT at h
  simp only [Bool.and_eq_true, decide_eq_true_eq] at h
  exact h.1
section
set_option maxRecDepth 100000
set_option maxHeartbeats 4000000
theorem below_cell {W w : World} {a : Addr} {v : Value} (hb : Below W.heap.size W w) (h : W.cell? a = some v) : w.cell? a = some v :=
  (World.cell?_of_block (hb.block _ (World.block_lt_of_cell? W _ h))).trans h
theorem RPut_any (v : Value) (l : List FileS) (p t : List UInt8) (x : Bool) (w : World) (hv : SlF w v l) :
    Calls Tryz.prog 22 #[v, .agg #[strV p, .bool x, strV t]] w fun e w' => ∃ u, e = .returned (.tuple #[u, .int .i64 (putS l (p, x, t)).2]) ∧ OwnF w' w.heap.size u (putS l (p, x, t)).1 ∧ Below w.heap.size w w' := by
  obtain ⟨ao, cap, rfl⟩ := hv.form
  have HB0 := hid ((Below.refl _ w).alloc (Nat.le_refl w.heap.size) (.cells #[.string ⟨p.toArray⟩, .bool x, .string ⟨t.toArray⟩] 28))
  have HV := hid (hv.old HB0.out)
  have hg := heap_alloc_new w (.cells #[.string ⟨p.toArray⟩, .bool x, .string ⟨t.toArray⟩] 28)
  have HC0 := hid (blk_cell (i := 0) hg rfl)
  have HC1 := hid (blk_cell (i := 1) hg rfl)
  have HC2 := hid (blk_cell (i := 2) hg rfl)
  clear hv hg
  unfold strV
  go_enter Tryz.func22, Tryz.ntmps22
  go_wp2_with fail
  generalize w.alloc (.cells #[.string ⟨p.toArray⟩, .bool x, .string ⟨t.toArray⟩] 28) = W at HV HB0 HC0 HC1 HC2 ⊢
  generalize w.heap.size = g at HC0 HC1 HC2 ⊢
  have HK := hid (Below.refl W.heap.size W)
  have HR := hid (fun (wy : World) (h : Below W.heap.size W wy) => RRight_any _ l wy (HV.out.old h))
  have HP := hid (fun (wy : World) => RPath_any p wy)
  obtain ⟨r, hr⟩ : ∃ r, rightT l = r := ⟨_, rfl⟩
  obtain ⟨rp, hrp⟩ : ∃ r, rightS p = r := ⟨_, rfl⟩
  rw [hr] at HR
  rw [hrp] at HP
  unfold strV at HP
  cases r with
  | false =>
    have HD := hid (show putS l (p, x, t) = ([], 5) by unfold putS; rw [hr]; rfl)
    clear hr hrp
    go_wp2_with (first
      | (go_at_call 21; refine (HR.out _ HK.out).mono ?_; rintro e w1 ⟨rfl, hb1⟩; have HK := hid (below_step HK.out hb1 HK.out.size); have c0 := below_cell HK.out HC0.out; have c1 := below_cell HK.out HC1.out; have c2 := below_cell HK.out HC2.out; clear hb1))
    refine bodyPost_ret (results_tmp2 rfl _ _ _) rfl ?_
    rw [HD.out]
    exact ⟨_, rfl, World.ownsRow_nil _ _ _ _, below_step HB0.out HK.out HB0.out.size⟩
  | true =>
  have HL := hid (rightT_len hr)
  cases rp with
  | false =>
    have HD := hid (show putS l (p, x, t) = ([], 11) by unfold putS; rw [hr, hrp]; rfl)
    clear hr hrp
    go_wp2_with (first
      | (go_at_call 21; refine (HR.out _ HK.out).mono ?_; rintro e w1 ⟨rfl, hb1⟩; have HK := hid (below_step HK.out hb1 HK.out.size); have c0 := below_cell HK.out HC0.out; have c1 := below_cell HK.out HC1.out; have c2 := below_cell HK.out HC2.out; clear hb1)
      | (go_at_call 42; refine (HP.out _).mono ?_; rintro e w1 ⟨rfl, hb1⟩; have HK := hid (below_step HK.out hb1 HK.out.size); have c0 := below_cell HK.out HC0.out; have c1 := below_cell HK.out HC1.out; have c2 := below_cell HK.out HC2.out; clear hb1))
    refine bodyPost_ret (results_tmp2 rfl _ _ _) rfl ?_
    rw [HD.out]
    exact ⟨_, rfl, World.ownsRow_nil _ _ _ _, below_step HB0.out HK.out HB0.out.size⟩
  | true =>
  by_cases ht : t.length ≤ 20000
  case neg =>
    have t1 : decide (20000 < (t.length : Int)) = true := decide_eq_true (by omega)
    have t2 : decide (20000 < t.length) = true := decide_eq_true (by omega)
    have HD := hid (show putS l (p, x, t) = ([], 6) by unfold putS; rw [hr, hrp, if_pos rfl, if_pos rfl, if_neg ht])
    clear hr hrp ht
    go_wp2_with (first
      | (go_at_call 21; refine (HR.out _ HK.out).mono ?_; rintro e w1 ⟨rfl, hb1⟩; have HK := hid (below_step HK.out hb1 HK.out.size); have c0 := below_cell HK.out HC0.out; have c1 := below_cell HK.out HC1.out; have c2 := below_cell HK.out HC2.out; clear hb1)
      | (go_at_call 42; refine (HP.out _).mono ?_; rintro e w1 ⟨rfl, hb1⟩; have HK := hid (below_step HK.out hb1 HK.out.size); have c0 := below_cell HK.out HC0.out; have c1 := below_cell HK.out HC1.out; have c2 := below_cell HK.out HC2.out; clear hb1))
    refine bodyPost_ret (results_tmp2 rfl _ _ _) rfl ?_
    rw [HD.out]
    exact ⟨_, rfl, World.ownsRow_nil _ _ _ _, below_step HB0.out HK.out HB0.out.size⟩
  have t1 : decide (20000 < (t.length : Int)) = false := decide_eq_false (by omega)
  have t2 : decide (20000 < t.length) = false := decide_eq_false (by omega)
  have HF := hid (fun (wy : World) (h : Below W.heap.size W wy) => RFind_any _ l p wy (HV.out.old h) (by have := HL.out; omega))
  have HW := hid (fun (wy : World) (h : Below W.heap.size W wy) => RWithout_any _ l p wy (HV.out.old h) (by have := HL.out; omega))
  have HCl := hid (fun (wy : World) (h : Below W.heap.size W wy) => RClashes_any _ l p wy (HV.out.old h) (by have := HL.out; omega))
  have HSo := hid (fun (u : Value) (wy : World) (h : SlF wy u (withoutS l p)) => RSorted_any u _ p t x wy h (by have := HL.out; have : (withoutS l p).length ≤ l.length := List.length_filter_le _ _; omega))
  have HD0 := hid (show putS l (p, x, t) = (if (!(findS l p).isSome && clashesS l p) = true then ([], 11) else if (!(findS l p).isSome && decide (100 ≤ l.length)) = true then ([], 6) else (sortedS (withoutS l p) (p, x, t), 0)) by unfold putS; rw [hr, hrp, if_pos rfl, if_pos rfl, if_pos ht])
  obtain ⟨⟨fp, fx, ft⟩, hff⟩ : ∃ f, (findS l p).getD fileZ = f := ⟨_, rfl⟩
  obtain ⟨is, his⟩ : ∃ z, (findS l p).isSome = z := ⟨_, rfl⟩
  obtain ⟨y, hy⟩ : ∃ z, clashesS l p = z := ⟨_, rfl⟩
  rw [hff, his] at HF
  rw [hy] at HCl
  rw [his, hy] at HD0
  unfold fileV strV at HF
  unfold strV at HW HCl HSo
  clear hff his hy hr hrp ht
  cases is with
  | true =>
    have HD := hid (show putS l (p, x, t) = (sortedS (withoutS l p) (p, x, t), 0) by rw [HD0.out]; rfl)
    go_wp2_with (first
      | (go_at_call 21; refine (HR.out _ HK.out).mono ?_; rintro e w1 ⟨rfl, hb1⟩; have HK := hid (below_step HK.out hb1 HK.out.size); have c0 := below_cell HK.out HC0.out; have c1 := below_cell HK.out HC1.out; have c2 := below_cell HK.out HC2.out; clear hb1)
      | (go_at_call 42; refine (HP.out _).mono ?_; rintro e w1 ⟨rfl, hb1⟩; have HK := hid (below_step HK.out hb1 HK.out.size); have c0 := below_cell HK.out HC0.out; have c1 := below_cell HK.out HC1.out; have c2 := below_cell HK.out HC2.out; clear hb1)
      | (go_at_call 20; refine (HF.out _ HK.out).mono ?_; rintro e w1 ⟨rfl, hb1⟩; have HK := hid (below_step HK.out hb1 HK.out.size); have c0 := below_cell HK.out HC0.out; have c1 := below_cell HK.out HC1.out; have c2 := below_cell HK.out HC2.out; clear hb1)
      | (go_at_call 43; refine (HW.out _ HK.out).mono ?_; rintro e w1 ⟨u3, rfl, ho3, hb1⟩; have HO3 := hid ho3.sl; have HK := hid (below_step HK.out hb1 HK.out.size); have c0 := below_cell HK.out HC0.out; have c1 := below_cell HK.out HC1.out; have c2 := below_cell HK.out HC2.out; clear hb1 ho3)
      | (go_at_call 45; refine (HSo.out _ _ HO3.out).mono ?_; rintro e w1 ⟨u4, rfl, ho4, hb1⟩; have HO4 := hid (owns_lower ho4 (Nat.le_trans HB0.out.size HK.out.size)); have HK := hid (below_step HK.out hb1 HK.out.size); clear hb1 ho4)
      | (refine file_store rfl 28 _ _ rfl _ #[.string ⟨fp.toArray⟩, .bool fx, .string ⟨ft.toArray⟩] rfl rfl _ _ (heap_alloc_new _ _) 3 Tryz.sizeFile rfl rfl (by simp [Value.oneCell']) ?_; intro w9 hg9 hk9; have HK := hid ((HK.out.alloc HK.out.size _).trans (hk9.below (Nat.le_trans HK.out.size (by simp)) (fun j hj e => by have := HK.out.size; omega))); have c0 := below_cell HK.out HC0.out; have c1 := below_cell HK.out HC1.out; have c2 := below_cell HK.out HC2.out; clear hg9 hk9))
    refine bodyPost_ret (results_tmp2 rfl _ _ _) rfl ?_
    rw [HD.out]
    exact ⟨_, rfl, HO4.out, below_step HB0.out HK.out HB0.out.size⟩
  | false =>
  cases y with
  | true =>
    have HD := hid (show putS l (p, x, t) = ([], 11) by rw [HD0.out]; rfl)
    go_wp2_with (first
      | (go_at_call 21; refine (HR.out _ HK.out).mono ?_; rintro e w1 ⟨rfl, hb1⟩; have HK := hid (below_step HK.out hb1 HK.out.size); have c0 := below_cell HK.out HC0.out; have c1 := below_cell HK.out HC1.out; have c2 := below_cell HK.out HC2.out; clear hb1)
      | (go_at_call 42; refine (HP.out _).mono ?_; rintro e w1 ⟨rfl, hb1⟩; have HK := hid (below_step HK.out hb1 HK.out.size); have c0 := below_cell HK.out HC0.out; have c1 := below_cell HK.out HC1.out; have c2 := below_cell HK.out HC2.out; clear hb1)
      | (go_at_call 20; refine (HF.out _ HK.out).mono ?_; rintro e w1 ⟨rfl, hb1⟩; have HK := hid (below_step HK.out hb1 HK.out.size); have c0 := below_cell HK.out HC0.out; have c1 := below_cell HK.out HC1.out; have c2 := below_cell HK.out HC2.out; clear hb1)
      | (go_at_call 43; refine (HW.out _ HK.out).mono ?_; rintro e w1 ⟨u3, rfl, ho3, hb1⟩; have HO3 := hid ho3.sl; have HK := hid (below_step HK.out hb1 HK.out.size); have c0 := below_cell HK.out HC0.out; have c1 := below_cell HK.out HC1.out; have c2 := below_cell HK.out HC2.out; clear hb1 ho3)
      | (go_at_call 44; refine (HCl.out _ HK.out).mono ?_; rintro e _ ⟨rfl, rfl⟩)
      | (refine file_store rfl 28 _ _ rfl _ #[.string ⟨fp.toArray⟩, .bool fx, .string ⟨ft.toArray⟩] rfl rfl _ _ (heap_alloc_new _ _) 3 Tryz.sizeFile rfl rfl (by simp [Value.oneCell']) ?_; intro w9 hg9 hk9; have HK := hid ((HK.out.alloc HK.out.size _).trans (hk9.below (Nat.le_trans HK.out.size (by simp)) (fun j hj e => by have := HK.out.size; omega))); have c0 := below_cell HK.out HC0.out; have c1 := below_cell HK.out HC1.out; have c2 := below_cell HK.out HC2.out; clear hg9 hk9))
    refine bodyPost_ret (results_tmp2 rfl _ _ _) rfl ?_
    rw [HD.out]
    exact ⟨_, rfl, World.ownsRow_nil _ _ _ _, below_step HB0.out HK.out HB0.out.size⟩
  | false =>
  by_cases h100 : 100 ≤ l.length
  · have z1 : decide (100 ≤ (l.length : Int)) = true := decide_eq_true (by omega)
    have z2 : decide (100 ≤ l.length) = true := decide_eq_true h100
    have HD := hid (show putS l (p, x, t) = ([], 6) by rw [HD0.out, z2]; rfl)
    go_wp2_with (first
      | (go_at_call 21; refine (HR.out _ HK.out).mono ?_; rintro e w1 ⟨rfl, hb1⟩; have HK := hid (below_step HK.out hb1 HK.out.size); have c0 := below_cell HK.out HC0.out; have c1 := below_cell HK.out HC1.out; have c2 := below_cell HK.out HC2.out; clear hb1)
      | (go_at_call 42; refine (HP.out _).mono ?_; rintro e w1 ⟨rfl, hb1⟩; have HK := hid (below_step HK.out hb1 HK.out.size); have c0 := below_cell HK.out HC0.out; have c1 := below_cell HK.out HC1.out; have c2 := below_cell HK.out HC2.out; clear hb1)
      | (go_at_call 20; refine (HF.out _ HK.out).mono ?_; rintro e w1 ⟨rfl, hb1⟩; have HK := hid (below_step HK.out hb1 HK.out.size); have c0 := below_cell HK.out HC0.out; have c1 := below_cell HK.out HC1.out; have c2 := below_cell HK.out HC2.out; clear hb1)
      | (go_at_call 43; refine (HW.out _ HK.out).mono ?_; rintro e w1 ⟨u3, rfl, ho3, hb1⟩; have HO3 := hid ho3.sl; have HK := hid (below_step HK.out hb1 HK.out.size); have c0 := below_cell HK.out HC0.out; have c1 := below_cell HK.out HC1.out; have c2 := below_cell HK.out HC2.out; clear hb1 ho3)
      | (go_at_call 44; refine (HCl.out _ HK.out).mono ?_; rintro e _ ⟨rfl, rfl⟩)
      | (refine file_store rfl 28 _ _ rfl _ #[.string ⟨fp.toArray⟩, .bool fx, .string ⟨ft.toArray⟩] rfl rfl _ _ (heap_alloc_new _ _) 3 Tryz.sizeFile rfl rfl (by simp [Value.oneCell']) ?_; intro w9 hg9 hk9; have HK := hid ((HK.out.alloc HK.out.size _).trans (hk9.below (Nat.le_trans HK.out.size (by simp)) (fun j hj e => by have := HK.out.size; omega))); have c0 := below_cell HK.out HC0.out; have c1 := below_cell HK.out HC1.out; have c2 := below_cell HK.out HC2.out; clear hg9 hk9))
    refine bodyPost_ret (results_tmp2 rfl _ _ _) rfl ?_
    rw [HD.out]
    exact ⟨_, rfl, World.ownsRow_nil _ _ _ _, below_step HB0.out HK.out HB0.out.size⟩
  · have z1 : decide (100 ≤ (l.length : Int)) = false := decide_eq_false (by omega)
    have z2 : decide (100 ≤ l.length) = false := decide_eq_false h100
    have HD := hid (show putS l (p, x, t) = (sortedS (withoutS l p) (p, x, t), 0) by rw [HD0.out, z2]; rfl)
    go_wp2_with (first
      | (go_at_call 21; refine (HR.out _ HK.out).mono ?_; rintro e w1 ⟨rfl, hb1⟩; have HK := hid (below_step HK.out hb1 HK.out.size); have c0 := below_cell HK.out HC0.out; have c1 := below_cell HK.out HC1.out; have c2 := below_cell HK.out HC2.out; clear hb1)
      | (go_at_call 42; refine (HP.out _).mono ?_; rintro e w1 ⟨rfl, hb1⟩; have HK := hid (below_step HK.out hb1 HK.out.size); have c0 := below_cell HK.out HC0.out; have c1 := below_cell HK.out HC1.out; have c2 := below_cell HK.out HC2.out; clear hb1)
      | (go_at_call 20; refine (HF.out _ HK.out).mono ?_; rintro e w1 ⟨rfl, hb1⟩; have HK := hid (below_step HK.out hb1 HK.out.size); have c0 := below_cell HK.out HC0.out; have c1 := below_cell HK.out HC1.out; have c2 := below_cell HK.out HC2.out; clear hb1)
      | (go_at_call 43; refine (HW.out _ HK.out).mono ?_; rintro e w1 ⟨u3, rfl, ho3, hb1⟩; have HO3 := hid ho3.sl; have HK := hid (below_step HK.out hb1 HK.out.size); have c0 := below_cell HK.out HC0.out; have c1 := below_cell HK.out HC1.out; have c2 := below_cell HK.out HC2.out; clear hb1 ho3)
      | (go_at_call 44; refine (HCl.out _ HK.out).mono ?_; rintro e _ ⟨rfl, rfl⟩)
      | (go_at_call 45; refine (HSo.out _ _ HO3.out).mono ?_; rintro e w1 ⟨u4, rfl, ho4, hb1⟩; have HO4 := hid (owns_lower ho4 (Nat.le_trans HB0.out.size HK.out.size)); have HK := hid (below_step HK.out hb1 HK.out.size); clear hb1 ho4)
      | (refine file_store rfl 28 _ _ rfl _ #[.string ⟨fp.toArray⟩, .bool fx, .string ⟨ft.toArray⟩] rfl rfl _ _ (heap_alloc_new _ _) 3 Tryz.sizeFile rfl rfl (by simp [Value.oneCell']) ?_; intro w9 hg9 hk9; have HK := hid ((HK.out.alloc HK.out.size _).trans (hk9.below (Nat.le_trans HK.out.size (by simp)) (fun j hj e => by have := HK.out.size; omega))); have c0 := below_cell HK.out HC0.out; have c1 := below_cell HK.out HC1.out; have c2 := below_cell HK.out HC2.out; clear hg9 hk9))
    refine bodyPost_ret (results_tmp2 rfl _ _ _) rfl ?_
    rw [HD.out]
    exact ⟨_, rfl, HO4.out, below_step HB0.out HK.out HB0.out.size⟩
end
end Go.Proofs.YtbnafihigoekeaaGreatDoor
namespace Go.Proofs.YtbnafihigoekeaaGreatDoor
open Go.RowKit
abbrev ChangeS := List UInt8 × Bool × Bool × List UInt8
def encH : Enc ChangeS := ⟨4, by omega, fun f => [strV f.1, .bool f.2.1, .bool f.2.2.1, strV f.2.2.2], fun _ => rfl, fun f u hu => by
  simp only [List.mem_cons, List.not_mem_nil, or_false] at hu
  rcases hu with rfl | rfl | rfl | rfl <;> rfl⟩
def changeV (f : ChangeS) : Value := .agg #[strV f.1, .bool f.2.1, .bool f.2.2.1, strV f.2.2.2]
abbrev SlH (w : World) (v : Value) (fs : List ChangeS) : Prop := SlR encH w v fs
theorem SlH.at {w : World} {ao : Option Addr} {n cap : Nat} {fs : List ChangeS} (h : SlH w (.slice ao n cap) fs) {i : Nat} (hi : i < fs.length) :
    ∃ b o p d x t, ao = some ⟨b, o, none⟩ ∧ fs[i]? = some (p, d, x, t) ∧ w.cell? ⟨b, o + i * 4, none⟩ = some (.string ⟨List.toArray p⟩) ∧ w.cell? ⟨b, o + i * 4 + 1, none⟩ = some (.bool d) ∧ w.cell? ⟨b, o + i * 4 + 2, none⟩ = some (.bool x) ∧ w.cell? ⟨b, o + i * 4 + 3, none⟩ = some (.string ⟨List.toArray t⟩) := by
  obtain ⟨b, o, ⟨p, d, x, t⟩, ha, hx, hc⟩ := SlR.at' h hi
  exact ⟨b, o, p, d, x, t, ha, hx, hc 0 _ rfl, hc 1 _ rfl, hc 2 _ rfl, hc 3 _ rfl⟩
section
variable {w : World}
end
end Go.Proofs.YtbnafihigoekeaaGreatDoor
namespace Go.Proofs.YtbnafihigoekeaaGreatDoor
open Go.RowKit
open BigFrame
def stepS (l : List FileS) (c : ChangeS) : List FileS × Nat := if c.2.1 = true then dropS l c.1 else putS l (c.1, c.2.2.1, c.2.2.2)
def applyS : List FileS → List ChangeS → List FileS × Nat
  | l, [] => (l, 0)
  | l, c :: r => if (stepS l c).2 = 0 then applyS (stepS l c).1 r else ([], (stepS l c).2)
def applyT (l : List FileS) (c : List ChangeS) : List FileS × Nat :=
  if rightT l = true then (if c.length ≤ 100 then applyS l c else ([], 6)) else ([], 5)
section
set_option maxRecDepth 100000
set_option maxHeartbeats 4000000
end
end Go.Proofs.YtbnafihigoekeaaGreatDoor
namespace Go.Proofs.YtbnafihigoekeaaGreatDoor
open Go.RowKit
open BigFrame
def inS (ps : List (List UInt8)) (p : List UInt8) : Bool := ps.any fun q => q == p
def onlyS (c : List ChangeS) (ps : List (List UInt8)) : List ChangeS := c.filter fun x => inS ps x.1
def passS (n : Nat) (c : List ChangeS) : List ChangeS := c.filter fun x => x.2.1 == (n == 0)
def restP (n : Nat) (c : List ChangeS) : List ChangeS := if n = 0 then passS 0 c ++ passS 1 c else if n = 1 then passS 1 c else []
def firstS (c : List ChangeS) : List ChangeS := passS 0 c ++ passS 1 c
def treeOne (X : List FileS) (f : FileS) : List FileS := if 2000 < f.2.2.length then X else if (putS X f).2 = 0 then (putS X f).1 else X
def treeS (l : List FileS) : List FileS := (l.take 30).foldl treeOne []
section
set_option maxRecDepth 100000
set_option maxHeartbeats 4000000
end
end Go.Proofs.YtbnafihigoekeaaGreatDoor
namespace Go.Proofs.YtbnafihigoekeaaGreatDoor
open Go.RowKit
abbrev Txt := List UInt8
def encT : Enc Txt := ⟨1, by omega, fun f => [strV f], fun _ => rfl, fun f u hu => by
  simp only [List.mem_cons, List.not_mem_nil, or_false] at hu
  subst hu
  rfl⟩
abbrev SlT (w : World) (v : Value) (fs : List Txt) : Prop := SlR encT w v fs
abbrev OwnT (w : World) (base : Nat) (v : Value) (fs : List Txt) : Prop := w.ownsRow base 9 1 v fs.length (flatR encT fs)
theorem OwnT.sl {w : World} {base : Nat} {v : Value} {fs : List Txt} (h : OwnT w base v fs) : SlT w v fs := SlR.ofOwns (E := encT) h
theorem flatT (l : List Txt) : flatR encT l = strCells l := by
  unfold flatR strCells
  induction l with
  | nil => rfl
  | cons x l ih => rw [List.flatMap_cons, List.map_cons, ih]; rfl
theorem SlT.at {w : World} {ao : Option Addr} {n cap : Nat} {fs : List Txt} (h : SlT w (.slice ao n cap) fs) {i : Nat} (hi : i < fs.length) :
    ∃ b o p, ao = some ⟨b, o, none⟩ ∧ fs[i]? = some p ∧ w.cell? ⟨b, o + i, none⟩ = some (.string ⟨List.toArray p⟩) := by
  obtain ⟨b, o, p, ha, hx, hc⟩ := SlR.at' h hi
  have h0 := hc 0 _ rfl
  exact ⟨b, o, p, ha, hx, by simpa [encT, strV] using h0⟩
section
variable {w : World}
theorem wpList_append_t1 {ops : Array Oper} {rest : List Oper} {o : Oper} {a : Act} {Q : Exit → Act → World → Prop} (hgd : o.guard = none) (s sx : Operand)
    (ho : o.op = .call { callee := .builtin .append, args := #[s, sx], argTypes := #[96, 96] })
    (base : Nat) (v : Value) (xs : List Txt) (x : Txt) (he : a.eval s = v) (hown : OwnT w base v xs) (q : Nat) (hx : a.eval sx = .slice (some ⟨q, 0, none⟩) 1 1) (hq : w.heap.size = q)
    (hlen : xs.length ≤ 100000000) (hbase : base ≤ w.heap.size)
    (h : ∀ v' w', OwnT w' base v' (xs ++ [x]) → Below base w w' → wpList Tryz.prog ops Q rest (a.put o.dst v') w') : wpList Tryz.prog ops Q (o :: rest) a (w.alloc (.cells #[.string ⟨x.toArray⟩] 9)) := by
  obtain ⟨i0, hi0, hi1, hi2, hi3⟩ := info_parts Tryz.infoStr
  exact wpList_append_r1 (E := encT) hgd s sx 96 9 ho Tryz.underlying96 hi0 hi1 hi2 (by rw [hi3]; omega) rfl base v xs x he hown q hx hq hlen hbase _ rfl h
end
end Go.Proofs.YtbnafihigoekeaaGreatDoor
namespace Go.Proofs.YtbnafihigoekeaaGreatDoor
open Go.RowKit
open BigFrame
def aheadP : List Txt → Txt → Nat
  | [], _ => 0
  | q :: r, p => if ltS q p then aheadP r p + 1 else 0
def putPath (l : List Txt) (p : Txt) : List Txt := l.take (aheadP l p) ++ [p] ++ l.drop (aheadP l p)
def pathStep (l : List Txt) (f : FileS) : List Txt := if inS l f.1 = true then l else putPath l f.1
def pathsOf (l : List FileS) : List Txt := l.foldl pathStep []
def changeOne (a b : List FileS) (p : Txt) : List ChangeS :=
  match findS b p with
  | none => [(p, true, false, [])]
  | some y => if findS a p = some y then [] else [(p, false, y.2.1, y.2.2)]
def changesS (a b : List FileS) : List ChangeS := (pathsOf (a ++ b)).flatMap (changeOne a b)
section
set_option maxRecDepth 100000
set_option maxHeartbeats 8000000
def CutP (W : World) (L : List Txt) (v : Value) (wx : World) : Prop := OwnT wx W.heap.size v L ∧ Below W.heap.size W wx
end
end Go.Proofs.YtbnafihigoekeaaGreatDoor
namespace Go.Proofs.YtbnafihigoekeaaGreatDoor
theorem lt_irr : ∀ x : List UInt8, ltS x x = false
  | [] => rfl
  | a :: x => by
    have : ¬ a < a := by rw [UInt8.lt_iff_toNat_lt]; omega
    simp only [ltS, Op.bytesLess] at *
    rw [show Op.bytesLess x x = false from lt_irr x]
    simp [this]
theorem lt_cons (a b : UInt8) (x y : List UInt8) : ltS (a :: x) (b :: y) = true ↔ a < b ∨ (a = b ∧ ltS x y = true) := by simp [ltS, Op.bytesLess]
theorem lt_trans' : ∀ x y z : List UInt8, ltS x y = true → ltS y z = true → ltS x z = true
  | [], [], z, h, _ => by simp [ltS, Op.bytesLess] at h
  | [], _ :: _, [], _, h => by simp [ltS, Op.bytesLess] at h
  | [], _ :: _, _ :: _, _, _ => rfl
  | _ :: _, [], _, h, _ => by simp [ltS, Op.bytesLess] at h
  | _ :: _, _ :: _, [], _, h => by simp [ltS, Op.bytesLess] at h
  | a :: x, b :: y, c :: z, h, h' => by
    rw [lt_cons] at h h' ⊢
    simp only [UInt8.lt_iff_toNat_lt] at *
    rcases h with h | ⟨rfl, h⟩
    · rcases h' with h' | ⟨rfl, h'⟩
      · exact .inl (by omega)
      · exact .inl h
    · rcases h' with h' | ⟨rfl, h'⟩
      · exact .inl h'
      · exact .inr ⟨rfl, lt_trans' x y z h h'⟩
theorem lt_tri : ∀ x y : List UInt8, ltS x y = false → ltS y x = false → x = y
  | [], [], _, _ => rfl
  | [], _ :: _, h, _ => by simp [ltS, Op.bytesLess] at h
  | _ :: _, [], _, h => by simp [ltS, Op.bytesLess] at h
  | a :: x, b :: y, h, h' => by
    have h1 : ¬ ltS (a :: x) (b :: y) = true := by simp [h]
    have h2 : ¬ ltS (b :: y) (a :: x) = true := by simp [h']
    rw [lt_cons] at h1 h2
    simp only [UInt8.lt_iff_toNat_lt, not_or, not_and] at h1 h2
    have e : a = b := UInt8.toNat_inj.1 (by omega)
    subst e
    have h3 := h1.2 rfl
    have h4 := h2.2 rfl
    rw [lt_tri x y (by simpa using h3) (by simpa using h4)]
theorem lt_asym {x y : List UInt8} (h : ltS x y = true) : ltS y x = false := by
  cases e : ltS y x with
  | false => rfl
  | true => exact absurd (lt_trans' x y x h e) (by rw [lt_irr]; simp)
theorem lt_ne {x y : List UInt8} (h : ltS x y = true) : x ≠ y := fun e => by rw [e, lt_irr] at h; cases h
section
variable {α : Type} {R : α → α → Prop}
theorem sorted_ext (asym : ∀ x y, R x y → ¬ R y x) : ∀ a b : List α, a.Pairwise R → b.Pairwise R → (∀ x, x ∈ a ↔ x ∈ b) → a = b
  | [], [], _, _, _ => rfl
  | [], y :: b, _, _, h => absurd ((h y).2 (List.mem_cons_self ..)) (by simp)
  | x :: a, [], _, _, h => absurd ((h x).1 (List.mem_cons_self ..)) (by simp)
  | x :: a, y :: b, ha, hb, h => by
    rw [List.pairwise_cons] at ha hb
    have irr : ∀ z, ¬ R z z := fun z hz => asym z z hz hz
    have e : x = y := by
      have h1 := (h x).1 (List.mem_cons_self ..)
      have h2 := (h y).2 (List.mem_cons_self ..)
      rw [List.mem_cons] at h1 h2
      rcases h1 with h1 | h1
      · exact h1
      · rcases h2 with h2 | h2
        · exact h2.symm
        · exact absurd (hb.1 x h1) (asym _ _ (ha.1 y h2))
    subst e
    refine congrArg _ (sorted_ext asym a b ha.2 hb.2 fun z => ?_)
    have hz := h z
    rw [List.mem_cons, List.mem_cons] at hz
    constructor
    · intro hm
      rcases hz.1 (.inr hm) with rfl | h'
      · exact absurd (ha.1 _ hm) (irr _)
      · exact h'
    · intro hm
      rcases hz.2 (.inr hm) with rfl | h'
      · exact absurd (hb.1 _ hm) (irr _)
      · exact h'
end
theorem nodup_len {α : Type} : ∀ a b : List α, a.Nodup → (∀ x ∈ a, x ∈ b) → a.length ≤ b.length
  | [], _, _, _ => Nat.zero_le _
  | x :: a, b, ha, h => by
    rw [List.nodup_cons] at ha
    obtain ⟨b1, b2, rfl⟩ := List.append_of_mem (h x (List.mem_cons_self ..))
    have := nodup_len a (b1 ++ b2) ha.2 fun y hy => by
      have h1 := h y (List.mem_cons_of_mem _ hy)
      rw [List.mem_append, List.mem_cons] at h1
      rw [List.mem_append]
      rcases h1 with h1 | rfl | h1
      · exact .inl h1
      · exact absurd hy ha.1
      · exact .inr h1
    simp only [List.length_cons, List.length_append] at this ⊢
    omega
def Rise (l : List FileS) : Prop := l.Pairwise fun g f => ltS g.1 f.1 = true
def Apart (l : List FileS) : Prop := l.Pairwise fun g f => clashS g.1 f.1 = false
def okOne (f : FileS) : Bool := rightS f.1 && decide (f.2.2.length ≤ 20000)
structure IsTree (l : List FileS) : Prop where
  len : l.length ≤ 100
  ok : ∀ f ∈ l, okOne f = true
  rise : Rise l
  apart : Apart l
theorem last_lt {pre : List FileS} (hp : Rise pre) (f : FileS) : (match pre.getLast? with | some g => !(ltS f.1 g.1 || f.1 == g.1) | none => true) = true ↔ ∀ g ∈ pre, ltS g.1 f.1 = true := by
  rcases List.eq_nil_or_concat pre with rfl | ⟨q, g, rfl⟩
  · simp
  · rw [List.concat_eq_append] at hp ⊢
    rw [List.getLast?_concat]
    have hq := List.pairwise_append.1 hp
    constructor
    · intro h x hx
      have hg : ltS g.1 f.1 = true := by
        simp only [Bool.not_or, Bool.and_eq_true, Bool.not_eq_true'] at h
        cases e : ltS g.1 f.1 with
        | true => rfl
        | false =>
          have := lt_tri _ _ e h.1
          rw [this] at h
          simp at h
      rw [List.mem_append] at hx
      rcases hx with hx | hx
      · exact lt_trans' _ _ _ (hq.2.2 x hx g (List.mem_singleton.2 rfl)) hg
      · rw [List.mem_singleton.1 hx]; exact hg
    · intro h
      have hg := h g (by simp)
      have h2 : (f.1 == g.1) = false := by
        have := lt_ne hg
        exact beq_false_of_ne fun e => this e.symm
      simp [lt_asym hg, h2]
theorem rise_snoc {pre : List FileS} (hp : Rise pre) {f : FileS} (h : ∀ g ∈ pre, ltS g.1 f.1 = true) : Rise (pre ++ [f]) :=
  List.pairwise_append.2 ⟨hp, List.pairwise_singleton _ _, fun x hx y hy => by rw [List.mem_singleton.1 hy]; exact h x hx⟩
theorem okAll_iff : ∀ (l pre : List FileS), Rise pre → (okAll pre l = true ↔ (∀ f ∈ l, okOne f = true) ∧ Rise (pre ++ l) ∧ (∀ g ∈ pre, ∀ f ∈ l, clashS g.1 f.1 = false) ∧ Apart l)
  | [], pre, hp => by simp [okAll, Apart, hp]
  | f :: r, pre, hp => by
    rw [okAll, Bool.and_eq_true]
    have hf : okFile pre f = true ↔ okOne f = true ∧ (∀ g ∈ pre, ltS g.1 f.1 = true) ∧ ∀ g ∈ pre, clashS g.1 f.1 = false := by
      unfold okFile okOne
      rw [Bool.and_eq_true, Bool.and_eq_true, Bool.and_eq_true, Bool.and_eq_true]
      simp only [List.all_eq_true, Bool.not_eq_true']
      constructor
      · exact fun ⟨a, b, c, d⟩ => ⟨⟨a, b⟩, (last_lt hp f).1 c, d⟩
      · exact fun ⟨⟨a, b⟩, c, d⟩ => ⟨a, b, (last_lt hp f).2 c, d⟩
    rw [hf]
    constructor
    · rintro ⟨⟨h1, h2, h3⟩, h4⟩
      obtain ⟨k1, k2, k3, k4⟩ := (okAll_iff r (pre ++ [f]) (rise_snoc hp h2)).1 h4
      refine ⟨fun x hx => ?_, by simpa using k2, fun g hg x hx => ?_, ?_⟩
      · rcases List.mem_cons.1 hx with rfl | hx
        · exact h1
        · exact k1 x hx
      · rcases List.mem_cons.1 hx with rfl | hx
        · exact h3 g hg
        · exact k3 g (by simp [hg]) x hx
      · exact List.pairwise_cons.2 ⟨fun x hx => k3 f (by simp) x hx, k4⟩
    · rintro ⟨h1, h2, h3, h4⟩
      have hr := List.pairwise_append.1 h2
      have hl : ∀ g ∈ pre, ltS g.1 f.1 = true := fun g hg => hr.2.2 g hg f (List.mem_cons_self ..)
      rw [Apart, List.pairwise_cons] at h4
      refine ⟨⟨h1 f (List.mem_cons_self ..), hl, fun g hg => h3 g hg f (List.mem_cons_self ..)⟩, (okAll_iff r (pre ++ [f]) (rise_snoc hp hl)).2 ⟨fun x hx => h1 x (List.mem_cons_of_mem _ hx), by simpa using h2, fun g hg x hx => ?_, h4.2⟩⟩
      rw [List.mem_append, List.mem_singleton] at hg
      rcases hg with hg | rfl
      · exact h3 g hg x (List.mem_cons_of_mem _ hx)
      · exact h4.1 x hx
theorem rightT_iff (l : List FileS) : rightT l = true ↔ IsTree l := by
  unfold rightT
  rw [Bool.and_eq_true, decide_eq_true_eq, okAll_iff l [] List.Pairwise.nil]
  constructor
  · exact fun ⟨h, k⟩ => ⟨h, k.1, by simpa using k.2.1, k.2.2.2⟩
  · exact fun h => ⟨h.len, h.ok, by simpa using h.rise, by simp, h.apart⟩
theorem IsTree.nil : IsTree [] := ⟨by simp, by simp, List.Pairwise.nil, List.Pairwise.nil⟩
theorem Rise.one {l : List FileS} (h : Rise l) {f g : FileS} (hf : f ∈ l) (hg : g ∈ l) (e : f.1 = g.1) : f = g := by
  induction l with
  | nil => cases hf
  | cons x l ih =>
    rw [Rise, List.pairwise_cons] at h
    rcases List.mem_cons.1 hf with e1 | hf'
    · rcases List.mem_cons.1 hg with e2 | hg'
      · rw [e1, e2]
      · exact absurd e (by rw [e1]; exact lt_ne (h.1 _ hg'))
    · rcases List.mem_cons.1 hg with e2 | hg'
      · exact absurd e.symm (by rw [e2]; exact lt_ne (h.1 _ hf'))
      · exact ih h.2 hf' hg'
theorem Apart.two {l : List FileS} (h : Apart l) {f g : FileS} (hf : f ∈ l) (hg : g ∈ l) (e : f ≠ g) : clashS f.1 g.1 = false := by
  induction l with
  | nil => cases hf
  | cons x l ih =>
    rw [Apart, List.pairwise_cons] at h
    rcases List.mem_cons.1 hf with e1 | hf'
    · rcases List.mem_cons.1 hg with e2 | hg'
      · exact absurd (e1.trans e2.symm) e
      · rw [e1]; exact h.1 _ hg'
    · rcases List.mem_cons.1 hg with e2 | hg'
      · rw [clash_comm, e2]; exact h.1 _ hf'
      · exact ih h.2 hf' hg'
theorem find_some {l : List FileS} {p : Txt} {f : FileS} (h : findS l p = some f) : f ∈ l ∧ f.1 = p := by
  refine ⟨List.mem_of_find?_eq_some h, ?_⟩
  have := List.find?_some h
  simpa using this
theorem find_none {l : List FileS} {p : Txt} : findS l p = none ↔ ∀ f ∈ l, f.1 ≠ p := by
  unfold findS
  rw [List.find?_eq_none]
  simp
theorem Rise.find {l : List FileS} (h : Rise l) {f : FileS} (hf : f ∈ l) : findS l f.1 = some f := by
  cases e : findS l f.1 with
  | none => exact absurd rfl (find_none.1 e f hf)
  | some g =>
    obtain ⟨h1, h2⟩ := find_some e
    rw [h.one h1 hf h2]
theorem Rise.find_iff {l : List FileS} (h : Rise l) {p : Txt} {f : FileS} : findS l p = some f ↔ f ∈ l ∧ f.1 = p :=
  ⟨find_some, fun ⟨h1, h2⟩ => by rw [← h2]; exact h.find h1⟩
theorem ahead_take : ∀ (l : List FileS) (p : Txt), ∀ g ∈ l.take (aheadS l p), ltS g.1 p = true
  | [], _, g, hg => by simp [aheadS] at hg
  | f :: r, p, g, hg => by
    rw [aheadS] at hg
    split at hg
    · rename_i h
      rw [List.take_succ_cons, List.mem_cons] at hg
      rcases hg with rfl | hg
      · exact h
      · exact ahead_take r p g hg
    · simp at hg
theorem ahead_drop : ∀ (l : List FileS) (p : Txt), Rise l → ∀ g ∈ l.drop (aheadS l p), ltS g.1 p = false
  | [], _, _, g, hg => by simp at hg
  | f :: r, p, hr, g, hg => by
    rw [Rise, List.pairwise_cons] at hr
    rw [aheadS] at hg
    split at hg
    · exact ahead_drop r p hr.2 g (by simpa using hg)
    · rename_i h
      rw [List.drop_zero, List.mem_cons] at hg
      rcases hg with rfl | hg
      · simpa using h
      · cases e : ltS g.1 p with
        | false => rfl
        | true => exact absurd (lt_trans' _ _ _ (hr.1 g hg) e) h
theorem sorted_mem (l : List FileS) (f x : FileS) : x ∈ sortedS l f ↔ x = f ∨ x ∈ l := by
  unfold sortedS
  rw [List.append_assoc, List.mem_append, List.mem_append, List.mem_singleton]
  conv => rhs; rw [← List.take_append_drop (aheadS l f.1) l, List.mem_append]
  constructor
  · rintro (h | h | h)
    · exact .inr (.inl h)
    · exact .inl h
    · exact .inr (.inr h)
  · rintro (h | h | h)
    · exact .inr (.inl h)
    · exact .inl h
    · exact .inr (.inr h)
theorem sorted_len (l : List FileS) (f : FileS) : (sortedS l f).length = l.length + 1 := by
  unfold sortedS
  have := aheadS_le l f.1
  simp only [List.length_append, List.length_take, List.length_drop, List.length_singleton]
  omega
theorem sorted_rise {l : List FileS} (h : Rise l) {f : FileS} (hf : ∀ g ∈ l, g.1 ≠ f.1) : Rise (sortedS l f) := by
  unfold sortedS
  have h0 : Rise (l.take (aheadS l f.1) ++ l.drop (aheadS l f.1)) := by rw [List.take_append_drop]; exact h
  have h1 := List.pairwise_append.1 h0
  have h2 := ahead_take l f.1
  have h3 : ∀ g ∈ l.drop (aheadS l f.1), ltS f.1 g.1 = true := fun g hg => by
    have e := ahead_drop l f.1 h g hg
    cases e' : ltS f.1 g.1 with
    | true => rfl
    | false => exact absurd (lt_tri _ _ e e') (hf g (List.mem_of_mem_drop hg))
  rw [List.append_assoc]
  refine List.pairwise_append.2 ⟨h1.1, List.pairwise_append.2 ⟨List.pairwise_singleton _ _, h1.2.1, fun x hx y hy => ?_⟩, fun x hx y hy => ?_⟩
  · rw [List.mem_singleton.1 hx]; exact h3 y hy
  · rw [List.mem_append, List.mem_singleton] at hy
    rcases hy with rfl | hy
    · exact h2 x hx
    · exact h1.2.2 x hx y hy
theorem without_mem {l : List FileS} {p : Txt} {x : FileS} : x ∈ withoutS l p ↔ x ∈ l ∧ x.1 ≠ p := by simp [withoutS]
theorem without_len (l : List FileS) (p : Txt) : (withoutS l p).length ≤ l.length := List.length_filter_le _ _
theorem without_lt {l : List FileS} {p : Txt} {f : FileS} (hf : f ∈ l) (e : f.1 = p) : (withoutS l p).length + 1 ≤ l.length := by
  obtain ⟨a, b, rfl⟩ := List.append_of_mem hf
  have h1 := List.length_filter_le (fun g : FileS => g.1 != p) a
  have h2 := List.length_filter_le (fun g : FileS => g.1 != p) b
  unfold withoutS
  rw [List.filter_append, List.filter_cons_of_neg (by simp [e])]
  simp only [List.length_append, List.length_cons]
  omega
theorem IsTree.sub {l : List FileS} (h : IsTree l) (p : Txt) : IsTree (withoutS l p) :=
  ⟨Nat.le_trans (without_len l p) h.len, fun f hf => h.ok f (without_mem.1 hf).1, List.Pairwise.filter _ h.rise, List.Pairwise.filter _ h.apart⟩
theorem apart_of {l : List FileS} (hr : Rise l) (h : ∀ f ∈ l, ∀ g ∈ l, f ≠ g → clashS f.1 g.1 = false) : Apart l := by
  induction l with
  | nil => exact List.Pairwise.nil
  | cons x l ih =>
    rw [Rise, List.pairwise_cons] at hr
    refine List.pairwise_cons.2 ⟨fun y hy => h x (by simp) y (by simp [hy]) fun e => ?_, ih hr.2 fun f hf g hg e => h f (by simp [hf]) g (by simp [hg]) e⟩
    have := hr.1 y hy
    rw [e, lt_irr] at this
    cases this
theorem put_ok {l : List FileS} {f : FileS} (h : IsTree l) (hf : okOne f = true) (hc : ∀ g ∈ l, g.1 ≠ f.1 → clashS g.1 f.1 = false) (hn : (findS l f.1).isSome = true ∨ l.length < 100) :
    putS l f = (sortedS (withoutS l f.1) f, 0) ∧ IsTree (sortedS (withoutS l f.1) f) ∧ ∀ p, findS (sortedS (withoutS l f.1) f) p = if p = f.1 then some f else findS l p := by
  have hk := hf
  unfold okOne at hf
  rw [Bool.and_eq_true, decide_eq_true_eq] at hf
  have hcl : clashesS l f.1 = false := by
    unfold clashesS
    rw [List.any_eq_false]
    intro g hg
    by_cases e : g.1 = f.1
    · simp [e]
    · simp [hc g hg e]
  have hw := h.sub f.1
  have hne : ∀ g ∈ withoutS l f.1, g.1 ≠ f.1 := fun g hg => (without_mem.1 hg).2
  have hrise := sorted_rise hw.rise hne
  refine ⟨?_, ⟨?_, ?_, hrise, ?_⟩, fun p => ?_⟩
  · unfold putS
    rw [if_pos ((rightT_iff l).2 h), if_pos hf.1, if_pos hf.2, hcl, Bool.and_false, if_neg (by simp)]
    rw [if_neg]
    intro hx
    rw [Bool.and_eq_true, decide_eq_true_eq, Bool.not_eq_true'] at hx
    rcases hn with hn | hn
    · rw [hn] at hx; cases hx.1
    · omega
  · rw [sorted_len]
    rcases hn with hn | hn
    · obtain ⟨g, hg⟩ := Option.isSome_iff_exists.1 hn
      obtain ⟨h1, h2⟩ := find_some hg
      have := without_lt h1 h2
      have := h.len
      omega
    · have := without_len l f.1
      omega
  · intro x hx
    rcases (sorted_mem _ _ _).1 hx with rfl | hx
    · exact hk
    · exact hw.ok x hx
  · refine apart_of hrise fun x hx y hy e => ?_
    rcases (sorted_mem _ _ _).1 hx with rfl | hx
    · rcases (sorted_mem _ _ _).1 hy with rfl | hy
      · exact absurd rfl e
      · rw [clash_comm]; exact hc y (without_mem.1 hy).1 (without_mem.1 hy).2
    · rcases (sorted_mem _ _ _).1 hy with rfl | hy
      · exact hc x (without_mem.1 hx).1 (without_mem.1 hx).2
      · exact hw.apart.two hx hy e
  · split
    · rename_i e
      rw [e]
      exact hrise.find ((sorted_mem _ _ _).2 (.inl rfl))
    · rename_i e
      cases hq : findS l p with
      | none =>
        rw [find_none] at hq ⊢
        intro x hx
        rcases (sorted_mem _ _ _).1 hx with rfl | hx
        · exact fun h => e h.symm
        · exact hq x (without_mem.1 hx).1
      | some g =>
        obtain ⟨h1, h2⟩ := find_some hq
        exact hrise.find_iff.2 ⟨(sorted_mem _ _ _).2 (.inr (without_mem.2 ⟨h1, by rw [h2]; exact e⟩)), h2⟩
theorem put_spec {l : List FileS} {f : FileS} (h0 : (putS l f).2 = 0) : IsTree l ∧ okOne f = true ∧ (∀ g ∈ l, g.1 ≠ f.1 → clashS g.1 f.1 = false) ∧ ((findS l f.1).isSome = true ∨ l.length < 100) := by
  unfold putS at h0
  split at h0
  · rename_i ht
    have h := (rightT_iff l).1 ht
    split at h0
    · rename_i hr
      split at h0
      · rename_i hx
        split at h0
        · simp at h0
        · rename_i hc
          split at h0
          · simp at h0
          · rename_i hl
            refine ⟨h, by unfold okOne; rw [hr, decide_eq_true hx]; rfl, fun g hg e => ?_, ?_⟩
            · cases hs : (findS l f.1).isSome with
              | true =>
                obtain ⟨y, hy⟩ := Option.isSome_iff_exists.1 hs
                obtain ⟨h1, h2⟩ := find_some hy
                rw [← h2]
                exact h.apart.two hg h1 fun e' => e (by rw [e', h2])
              | false =>
                rw [hs] at hc
                have hc' : clashesS l f.1 = false := by simpa using hc
                unfold clashesS at hc'
                rw [List.any_eq_false] at hc'
                have := hc' g hg
                have hn : (g.1 != f.1) = true := by simpa using e
                rw [hn] at this
                simpa using this
            · cases hs : (findS l f.1).isSome with
              | true => exact .inl rfl
              | false =>
                rw [hs] at hl
                refine .inr ?_
                have : ¬ 100 ≤ l.length := by simpa using hl
                omega
      · simp at h0
    · simp at h0
  · simp at h0
theorem put_did {l : List FileS} {f : FileS} (h0 : (putS l f).2 = 0) : IsTree (putS l f).1 ∧ (∀ p, findS (putS l f).1 p = if p = f.1 then some f else findS l p) ∧ ∀ x, x ∈ (putS l f).1 ↔ x = f ∨ (x ∈ l ∧ x.1 ≠ f.1) := by
  obtain ⟨h1, h2, h3, h4⟩ := put_spec h0
  obtain ⟨k1, k2, k3⟩ := put_ok h1 h2 h3 h4
  rw [k1]
  exact ⟨k2, k3, fun x => by rw [sorted_mem, without_mem]⟩
end Go.Proofs.YtbnafihigoekeaaGreatDoor
namespace Go.Proofs.YtbnafihigoekeaaGreatDoor
theorem one_tree {f : FileS} (h : okOne f = true) : IsTree [f] := ⟨by simp, fun g hg => by rw [List.mem_singleton.1 hg]; exact h, List.pairwise_singleton _ _, List.pairwise_singleton _ _⟩
theorem ok_file {p t : Txt} {x : Bool} (hp : rightS p = true) (ht : t.length ≤ 20000) : okOne (p, x, t) = true := by
  unfold okOne
  rw [hp, decide_eq_true ht]
  rfl
def digS (n : Nat) : Txt :=
  if n < 10 then [UInt8.ofNat (48 + n)]
  else if n < 100 then [UInt8.ofNat (48 + n / 10), UInt8.ofNat (48 + n % 10)]
  else [UInt8.ofNat (48 + n / 100), UInt8.ofNat (48 + n / 10 % 10), UInt8.ofNat (48 + n % 10)]
def nmS (n : Nat) : Txt := 102 :: digS n
def fullC (n : Nat) : List ChangeS := (List.range n).map fun i => (nmS i, false, false, [])
end Go.Proofs.YtbnafihigoekeaaGreatDoor
namespace Go.Proofs.YtbnafihigoekeaaGreatDoor
open Go.RowKit
open BigFrame
section
set_option maxRecDepth 100000
set_option maxHeartbeats 4000000
theorem DFind_any (v : Value) (l : List FileS) (p : Txt) (w : World) (hv : SlF w v l) (hl : l.length ≤ 4611686018427387904) :
    Calls Tryz.prog 139 #[v, strV p] w fun e w' => e = .returned (.tuple #[fileV ((findS l p).getD fileZ), .bool (findS l p).isSome]) ∧ Below w.heap.size w w' := by
  obtain ⟨ao, cap, rfl⟩ := hv.form
  have HV := hid (hv.alloc (.cells #[.string ⟨#[]⟩, .bool false, .string ⟨#[]⟩] 28))
  have HL := hid hl
  have HG := hid (heap_alloc_new w (.cells #[.string ⟨#[]⟩, .bool false, .string ⟨#[]⟩] 28))
  have HB := hid ((Below.refl _ w).alloc (Nat.le_refl w.heap.size) (.cells #[.string ⟨#[]⟩, .bool false, .string ⟨#[]⟩] 28))
  clear hv hl
  unfold strV fileV
  go_enter Tryz.func139, Tryz.ntmps139
  go_wp2_with fail
  generalize w.alloc (.cells #[.string ⟨#[]⟩, .bool false, .string ⟨#[]⟩] 28) = W at HV HG HB ⊢
  obtain ⟨gm, hgm⟩ : ∃ g, w.heap.size = g := ⟨_, rfl⟩
  rw [hgm] at HG HB ⊢
  have HGM := hid hgm
  clear hgm
  go_loopg [10] l.length (fun g i wr => ∃ k : Nat, k ≤ l.length ∧ l.length - k = g ∧ i = .int .i64 k ∧ Hid (findS l p = findS (l.drop k) p) ∧ Hid (Below W.heap.size W wr))
  case atStart => exact ⟨0, Nat.zero_le _, rfl, rfl, hid rfl, hid (Below.refl _ _)⟩
  case round =>
    obtain ⟨k, hk, rfl, rfl, HF, HW⟩ := hrel
    have k0 : (0 : Int) ≤ (k : Int) := Int.natCast_nonneg _
    by_cases hlt : k < l.length
    · have k1 : (k : Int) < (l.length : Int) := by omega
      have kw : IntKind.i64.wrap ((k : Int) + 1) = (k : Int) + 1 := IntWalk.i64_in _ (by have := HL.out; omega)
      obtain ⟨b, o, p2, x2, t2, rfl, he, c1, c2, c3⟩ := SlF.at (HV.out.old HW.out) hlt
      have hd := drop_one he
      have HWA := hid (HW.out.alloc HW.out.size (.cells #[.string ⟨p2.toArray⟩, .bool x2, .string ⟨t2.toArray⟩] 28))
      have HGA := hid ((HWA.out.block gm (Array.getElem?_eq_some_iff.1 HG.out).1).trans HG.out)
      clear he
      by_cases hp : p2 = p
      · subst hp
        have HR := hid (show findS l p2 = some (p2, x2, t2) by rw [HF.out, hd]; simp [findS])
        clear hd
        go_wp2_with (refine file_store rfl 28 _ _ rfl gm #[.string ⟨p2.toArray⟩, .bool x2, .string ⟨t2.toArray⟩] rfl rfl _ _ HGA.out 3 Tryz.sizeFile rfl rfl (by simp [Value.oneCell']) ?_; intro w9 hg9 hk9)
        refine bodyPost_ret (file_results rfl _ _ gm _ _ _ _ _ rfl rfl hg9 Tryz.underlying28 rfl Tryz.sizeFile) rfl ?_
        refine ⟨by rw [HR.out]; rfl, ?_⟩
        rw [HGM.out]
        have hgs : gm ≤ W.heap.size := by rw [← HGM.out]; exact HB.out.size
        have hb1 := below_step HB.out HWA.out hgs
        exact hb1.trans (hk9.below (Nat.le_trans hgs HWA.out.size) (fun j hj e => by omega))
      · have hpb : (p2 == p) = false := by simpa using hp
        have HF2 := hid (show findS l p = findS (l.drop (k + 1)) p by rw [HF.out, hd]; simp [findS, hpb])
        clear hd hp
        go_wp2_with fail
        go_roundg (l.length - (k + 1))
        case measure => omega
        case rel => exact ⟨k + 1, by omega, rfl, by go_num, HF2, HWA⟩
    · obtain rfl : k = l.length := by omega
      have hneg : ¬ (l.length : Int) < (l.length : Int) := by omega
      have HR := hid (show findS l p = none by rw [HF.out, List.drop_length]; rfl)
      have HGA := hid ((HW.out.block gm (Array.getElem?_eq_some_iff.1 HG.out).1).trans HG.out)
      go_wp2_with (refine file_store rfl 28 _ _ rfl gm #[.string ⟨#[]⟩, .bool false, .string ⟨#[]⟩] rfl rfl _ _ HGA.out 3 Tryz.sizeFile rfl rfl (by simp [Value.oneCell']) ?_; intro w9 hg9 hk9)
      refine bodyPost_ret (file_results rfl _ _ gm _ _ _ _ _ rfl rfl hg9 Tryz.underlying28 rfl Tryz.sizeFile) rfl ?_
      refine ⟨by rw [HR.out]; rfl, ?_⟩
      rw [HGM.out]
      have hgs : gm ≤ W.heap.size := by rw [← HGM.out]; exact HB.out.size
      have hb1 := below_step HB.out HW.out hgs
      exact hb1.trans (hk9.below (Nat.le_trans hgs HW.out.size) (fun j hj e => by omega))
end
end Go.Proofs.YtbnafihigoekeaaGreatDoor

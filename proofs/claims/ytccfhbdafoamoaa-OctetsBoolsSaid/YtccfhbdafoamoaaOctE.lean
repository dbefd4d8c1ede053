/-
  What package octets' Reader does, the rest: Text, Bool, at nil; Read; and 'two texts of bytes' (rickhelp.Bytes).
-/
import Derived.Test.YtccfhbdafoamoaaOctD
namespace Go.Proofs.Ytccfhbdafoamoaa
open Go.RowKit

/-- Text: what is read, left, wrong. -/
def txV (l : List UInt8) (c : Int) : List UInt8 := if intV l c < 0 then [] else stV (intV l c).toNat (stL 4 l c) (stE 4 l c)
def txL (l : List UInt8) (c : Int) : List UInt8 := if intV l c < 0 then [] else stL (intV l c).toNat (stL 4 l c) (stE 4 l c)
def txE (l : List UInt8) (c : Int) : Int := if intV l c < 0 then 5 else stE (intV l c).toNat (stL 4 l c) (stE 4 l c)
/-- Bool. -/
def blX (l : List UInt8) (c : Int) : Nat := numOf (stV 1 l c)
def blL (l : List UInt8) (c : Int) : List UInt8 := if 1 < blX l c then [] else stL 1 l c
def blE (l : List UInt8) (c : Int) : Int := if 1 < blX l c then 5 else stE 1 l c
def blV (l : List UInt8) (c : Int) : Bool := blX l c == 1

section
set_option maxHeartbeats 400000

theorem RText_all (br : Nat) (l : List UInt8) (c : Int) (w : World) (h : Rd w br l c) :
    Calls Try.prog 21 #[.pointer (some ⟨br, 0, none⟩)] w fun e w' => e = .returned (.string ⟨(txV l c).toArray⟩) ∧ Rd w' br (txL l c) (txE l c) ∧ Keep (· = br) w w' := by
  by_cases hn : intV l c < 0
  · have h1 : Hid (txV l c = [] ∧ txL l c = [] ∧ txE l c = 5) := hid (by simp [txV, txL, txE, hn])
    go_enter Try.func21, Try.ntmps21
    go_wp2_with fail
    refine (RInt_all br l c w h).mono ?_
    rintro e w1 ⟨rfl, hr, hk⟩
    go_wp2_with fail
    refine (fail_any br _ _ 5 w1 hr).mono ?_
    rintro e w2 ⟨rfl, hr2, hk2⟩
    go_wp2
    go_ret
    obtain ⟨e1, e2, e3⟩ := h1.out
    rw [e1, e2, e3]
    exact ⟨rfl, hr2, hk.trans hk2⟩
  · obtain ⟨m, hm⟩ := Int.eq_ofNat_of_zero_le (Int.not_lt.1 hn)
    have h1 : Hid (txV l c = stV m (stL 4 l c) (stE 4 l c) ∧ txL l c = stL m (stL 4 l c) (stE 4 l c) ∧ txE l c = stE m (stL 4 l c) (stE 4 l c)) := hid (by
      have : ¬ ((m : Int) < 0) := by omega
      simp [txV, txL, txE, hm, this])
    have hm' := hid hm
    clear hm hn
    have hm0 : (0 : Int) ≤ (m : Int) := Int.natCast_nonneg _
    go_enter Try.func21, Try.ntmps21
    go_wp2_with fail
    refine (RInt_all br l c w h).mono ?_
    rw [hm'.out]
    rintro e w1 ⟨rfl, hr, hk⟩
    go_wp2_with fail
    refine (take_all br _ _ m w1 hr).mono ?_
    rintro e w2 ⟨v, rfl, hs, hr2, hk2⟩
    have hcv := run_string_of (P := Try.prog) 23 9 5 Try.underlying23 Try.underlying5 Try.underlying9 hs
    go_wp2
    go_ret
    obtain ⟨e1, e2, e3⟩ := h1.out
    rw [e1, e2, e3]
    exact ⟨rfl, hr2, hk.trans hk2⟩

theorem RBool_all (br : Nat) (l : List UInt8) (c : Int) (w : World) (h : Rd w br l c) :
    Calls Try.prog 22 #[.pointer (some ⟨br, 0, none⟩)] w fun e w' => e = .returned (.bool (blV l c)) ∧ Rd w' br (blL l c) (blE l c) ∧ Keep (· = br) w w' := by
  by_cases hx : 1 < blX l c
  · have h1 : Hid (blV l c = false ∧ blL l c = [] ∧ blE l c = 5) := hid (by simp [blV, blL, blE, hx]; omega)
    unfold blX at hx
    go_enter Try.func22, Try.ntmps22
    go_wp2_with fail
    refine (Num_all br l c 1 w h).mono ?_
    rw [show heldN 1 = 1 from rfl]
    rintro e w1 ⟨rfl, hr, hk⟩
    go_wp2_with fail
    refine (fail_any br _ _ 5 w1 hr).mono ?_
    rintro e w2 ⟨rfl, hr2, hk2⟩
    go_wp2
    go_ret
    obtain ⟨e1, e2, e3⟩ := h1.out
    rw [e1, e2, e3]
    exact ⟨rfl, hr2, hk.trans hk2⟩
  · have h1 : Hid (blL l c = stL 1 l c ∧ blE l c = stE 1 l c) := hid (by simp [blL, blE, hx])
    have h2 : Hid (blV l c = (((numOf (stV 1 l c) : Nat) : Int) == 1)) := hid (by
      unfold blV blX
      rw [Bool.eq_iff_iff]
      simp
      omega)
    unfold blX at hx
    go_enter Try.func22, Try.ntmps22
    go_wp2_with fail
    refine (Num_all br l c 1 w h).mono ?_
    rw [show heldN 1 = 1 from rfl]
    rintro e w1 ⟨rfl, hr, hk⟩
    go_wp2
    go_ret
    obtain ⟨e2, e3⟩ := h1.out
    rw [e2, e3, h2.out]
    exact ⟨rfl, hr, hk⟩

/-! ### At nil -/
theorem RNum_nil (n : Int) (w : World) : Calls Try.prog 23 #[.pointer none, .int .i64 n] w fun e w' => e = .returned (.int .u64 0) ∧ w = w' := by
  have ht : Calls Try.prog 36 #[.pointer none, .int .i64 (heldN n : Int)] w fun e w' => e = .returned (.slice none 0 0) ∧ w = w' := by
    go_enter Try.func36, Try.ntmps36
    go_wp2_with fail
    refine (Err_nil _).mono ?_
    rintro e w' ⟨rfl, rfl⟩
    go_wp2
    go_ret
    exact ⟨rfl, rfl⟩
  have HT := hid ht
  clear ht
  go_enter Try.func23, Try.ntmps23
  go_wp2_with fail
  refine (held_any n _).mono ?_
  rintro e w' ⟨rfl, rfl⟩
  go_wp2_with fail
  refine HT.out.mono ?_
  rintro e w' ⟨rfl, rfl⟩
  go_wp2
  refine wp_loop_rounds 1 ?_
  rw [rounds_succ]
  go_wp2
  go_ret
  exact ⟨rfl, rfl⟩
theorem RInt_nil (w : World) : Calls Try.prog 20 #[.pointer none] w fun e w' => e = .returned (.int .i64 0) ∧ w = w' := by
  go_enter Try.func20, Try.ntmps20
  go_wp2_with fail
  refine (RNum_nil _ _).mono ?_
  rintro e w' ⟨rfl, rfl⟩
  go_wp2_with fail
  refine (Err_nil _).mono ?_
  rintro e w' ⟨rfl, rfl⟩
  go_wp2
  go_ret
  exact ⟨rfl, rfl⟩
theorem RBool_nil (w : World) : Calls Try.prog 22 #[.pointer none] w fun e w' => e = .returned (.bool false) ∧ w = w' := by
  go_enter Try.func22, Try.ntmps22
  go_wp2_with fail
  refine (RNum_nil _ _).mono ?_
  rintro e w' ⟨rfl, rfl⟩
  go_wp2
  go_ret
  exact ⟨rfl, rfl⟩
theorem RText_nil (w : World) : Calls Try.prog 21 #[.pointer none] w fun e w' => e = .returned (.string ⟨#[]⟩) ∧ w = w' := by
  have ht : Calls Try.prog 36 #[.pointer none, .int .i64 0] w fun e w' => e = .returned (.slice none 0 0) ∧ w = w' := by
    go_enter Try.func36, Try.ntmps36
    go_wp2_with fail
    refine (Err_nil _).mono ?_
    rintro e w' ⟨rfl, rfl⟩
    go_wp2
    go_ret
    exact ⟨rfl, rfl⟩
  have hcv := run_string_of (P := Try.prog) (w := w) (bs := []) 23 9 5 Try.underlying23 Try.underlying5 Try.underlying9 (Sl.nil w)
  have HT := hid ht
  clear ht
  go_enter Try.func21, Try.ntmps21
  go_wp2_with fail
  refine (RInt_nil _).mono ?_
  rintro e w' ⟨rfl, rfl⟩
  go_wp2_with fail
  refine HT.out.mono ?_
  rintro e w' ⟨rfl, rfl⟩
  go_wp2
  go_ret
  exact ⟨rfl, rfl⟩

/-! ### Read -/
theorem Read_any (v : Value) (bs : List UInt8) (w : World) (hv : Sl w v (Lib.byteCells bs)) (hlen : bs.length ≤ 70368744177664) :
    Calls Try.prog 17 #[v] w fun e w' => ∃ br, e = .returned (.pointer (some ⟨br, 0, none⟩)) ∧ Rd w' br bs 0 ∧ w.heap.size ≤ br ∧ br < w'.heap.size ∧ Below w.heap.size w w' := by
  go_enter Try.func17, Try.ntmps17
  go_wp2_with fail
  refine (Clone_any v bs w hv hlen).mono ?_
  rintro e w1 ⟨v', rfl, hown, hbel⟩
  obtain ⟨ao, cap, rfl⟩ := owns_form hown
  have hz := hbel.size
  go_wp2
  go_ret
  refine ⟨w1.heap.size, rfl, ⟨_, heap_alloc_new w1 _, (Sl.ofOwns hown).alloc _, fun a n c e => ?_⟩, hz, by simp, hbel.alloc hz _⟩
  have := (hown.lt a.block (by rw [e]; rfl)).2
  omega

theorem Same_bytes (a b : Value) (x y : List UInt8) (w : World) (ha : Sl w a (Lib.byteCells x)) (hb : Sl w b (Lib.byteCells y)) :
    Calls Try.prog 19 #[a, b] w fun e w' => e = .returned (.bool (x == y)) ∧ w = w' := by
  have h1 := run_string_of (P := Try.prog) 23 9 5 Try.underlying23 Try.underlying5 Try.underlying9 ha
  have h2 := run_string_of (P := Try.prog) 23 9 5 Try.underlying23 Try.underlying5 Try.underlying9 hb
  go_enter Try.func19, Try.ntmps19
  go_wp2
  go_ret
  exact ⟨rfl, rfl⟩
end
end Go.Proofs.Ytccfhbdafoamoaa

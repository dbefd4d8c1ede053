/-
  What package octets' Reader does, said once for all states: what is read, what is left, what is wrong.
-/
import Derived.Test.YtccfhbdafoamoaaOctC
namespace Go.Proofs.Ytccfhbdafoamoaa
open Go.RowKit

/-- h bytes are asked for: what is taken, what is left, what is wrong then. -/
def stV (h : Nat) (l : List UInt8) (c : Int) : List UInt8 := if c ≠ 0 then [] else if l.length < h then [] else l.take h
def stL (h : Nat) (l : List UInt8) (c : Int) : List UInt8 := if c ≠ 0 then l else if l.length < h then [] else l.drop h
def stE (h : Nat) (l : List UInt8) (c : Int) : Int := if c ≠ 0 then c else if l.length < h then 4 else 0

theorem st_bad {h : Nat} {l : List UInt8} {c : Int} (hc : c ≠ 0) : stV h l c = [] ∧ stL h l c = l ∧ stE h l c = c := by simp [stV, stL, stE, hc]
theorem st_short {h : Nat} {l : List UInt8} (hl : l.length < h) : stV h l 0 = [] ∧ stL h l 0 = [] ∧ stE h l 0 = 4 := by simp [stV, stL, stE, hl]
theorem st_ok {h : Nat} {l : List UInt8} (hl : h ≤ l.length) : stV h l 0 = l.take h ∧ stL h l 0 = l.drop h ∧ stE h l 0 = 0 := by simp [stV, stL, stE, Nat.not_lt.2 hl]

section
set_option maxHeartbeats 400000

theorem take_all (br : Nat) (l : List UInt8) (c : Int) (n : Nat) (w : World) (h : Rd w br l c) :
    Calls Try.prog 36 #[.pointer (some ⟨br, 0, none⟩), .int .i64 n] w fun e w' => ∃ v, e = .returned v ∧ Sl w' v (Lib.byteCells (stV n l c)) ∧ Rd w' br (stL n l c) (stE n l c) ∧ Keep (· = br) w w' := by
  by_cases hc : c = 0
  · subst hc
    by_cases hl : n ≤ l.length
    · obtain ⟨e1, e2, e3⟩ := st_ok hl
      rw [e1, e2, e3]
      exact (take_ok br l n w h hl).mono fun e w' ⟨v, _, _, _, h1, h2, h3, h4⟩ => ⟨v, h1, h2, h3, h4⟩
    · obtain ⟨e1, e2, e3⟩ := st_short (Nat.lt_of_not_le hl)
      rw [e1, e2, e3]
      exact (take_short br l n w h (by omega)).mono fun e w' ⟨h1, h3, h4⟩ => ⟨_, h1, Sl.nil _, h3, h4⟩
  · obtain ⟨e1, e2, e3⟩ := st_bad (h := n) (l := l) hc
    rw [e1, e2, e3]
    exact (take_bad br l c n w h hc).mono fun e w' ⟨h1, h2⟩ => by subst h2; exact ⟨_, h1, Sl.nil _, h, Keep.refl _ _⟩

theorem Num_bad (br : Nat) (l : List UInt8) (c n : Int) (w : World) (h : Rd w br l c) (hc : c ≠ 0) :
    Calls Try.prog 23 #[.pointer (some ⟨br, 0, none⟩), .int .i64 n] w fun e w' => e = .returned (.int .u64 0) ∧ w = w' := by
  go_enter Try.func23, Try.ntmps23
  go_wp2_with fail
  refine (held_any n _).mono ?_
  rintro e w' ⟨rfl, rfl⟩
  go_wp2_with fail
  refine (take_bad br l c _ _ h hc).mono ?_
  rintro e w' ⟨rfl, rfl⟩
  go_wp2
  refine wp_loop_rounds 1 ?_
  rw [rounds_succ]
  go_wp2
  go_ret
  exact ⟨rfl, rfl⟩
theorem Num_short (br : Nat) (l : List UInt8) (n : Int) (w : World) (h : Rd w br l 0) (hn : l.length < heldN n) :
    Calls Try.prog 23 #[.pointer (some ⟨br, 0, none⟩), .int .i64 n] w fun e w' => e = .returned (.int .u64 0) ∧ Rd w' br [] 4 ∧ Keep (· = br) w w' := by
  go_enter Try.func23, Try.ntmps23
  go_wp2_with fail
  refine (held_any n _).mono ?_
  rintro e w' ⟨rfl, rfl⟩
  go_wp2_with fail
  refine (take_short br l _ _ h (by omega)).mono ?_
  rintro e w' ⟨rfl, hr, hk⟩
  go_wp2
  refine wp_loop_rounds 1 ?_
  rw [rounds_succ]
  go_wp2
  go_ret
  exact ⟨rfl, hr, hk⟩

theorem Num_all (br : Nat) (l : List UInt8) (c n : Int) (w : World) (h : Rd w br l c) :
    Calls Try.prog 23 #[.pointer (some ⟨br, 0, none⟩), .int .i64 n] w fun e w' => e = .returned (.int .u64 (numOf (stV (heldN n) l c) : Nat)) ∧ Rd w' br (stL (heldN n) l c) (stE (heldN n) l c) ∧ Keep (· = br) w w' := by
  by_cases hc : c = 0
  · subst hc
    by_cases hl : heldN n ≤ l.length
    · obtain ⟨e1, e2, e3⟩ := st_ok hl
      rw [e1, e2, e3]
      exact Num_ok br l n w h hl
    · obtain ⟨e1, e2, e3⟩ := st_short (Nat.lt_of_not_le hl)
      rw [e1, e2, e3]
      exact Num_short br l n w h (by omega)
  · obtain ⟨e1, e2, e3⟩ := st_bad (h := heldN n) (l := l) hc
    rw [e1, e2, e3]
    exact (Num_bad br l c n w h hc).mono fun e w' ⟨h1, h2⟩ => by subst h2; exact ⟨h1, h, Keep.refl _ _⟩

/-- What Int answers. -/
def intV (l : List UInt8) (c : Int) : Int := if stE 4 l c = 0 then (numOf (stV 4 l c) : Int) - 1 else 0
theorem intV_ok {l : List UInt8} {c : Int} (h : stE 4 l c = 0) : intV l c = (numOf (stV 4 l c) : Int) - 1 := by simp [intV, h]
theorem intV_bad {l : List UInt8} {c : Int} (h : stE 4 l c ≠ 0) : intV l c = 0 := by simp [intV, h]
theorem stV_lt (h : Nat) (l : List UInt8) (c : Int) : numOf (stV h l c) < 2 ^ (8 * h) := by
  refine Nat.lt_of_lt_of_le (numOf_lt _) (Nat.pow_le_pow_right (by omega) ?_)
  unfold stV
  split
  · simp
  · split
    · simp
    · rw [List.length_take]; omega

theorem RInt_all (br : Nat) (l : List UInt8) (c : Int) (w : World) (h : Rd w br l c) :
    Calls Try.prog 20 #[.pointer (some ⟨br, 0, none⟩)] w fun e w' => e = .returned (.int .i64 (intV l c)) ∧ Rd w' br (stL 4 l c) (stE 4 l c) ∧ Keep (· = br) w w' := by
  have hlt := stV_lt 4 l c
  go_enter Try.func20, Try.ntmps20
  go_wp2_with fail
  refine (Num_all br l c 4 w h).mono ?_
  rw [show heldN 4 = 4 from rfl]
  rintro e w1 ⟨rfl, hr, hk⟩
  go_wp2_with fail
  refine (Err_any br _ _ w1 hr).mono ?_
  rintro e w' ⟨rfl, rfl⟩
  by_cases he : stE 4 l c = 0
  · have hi := hid (intV_ok he)
    have h1 : ((numOf (stV 4 l c) : Nat) : Int) < 4294967296 := by omega
    have h0 : (0 : Int) ≤ ((numOf (stV 4 l c) : Nat) : Int) := by omega
    have he' : (stE 4 l c == 0) = true := by simp [he]
    have he2 : (stE 4 l c != 0) = false := by simp [he]
    clear he hlt
    go_wp2
    go_ret
    refine ⟨?_, hr, hk⟩
    rw [hi.out]
    rfl
  · have hi := hid (intV_bad he)
    have he' : (stE 4 l c == 0) = false := by simp [he]
    have he2 : (stE 4 l c != 0) = true := by simp [he]
    clear he hlt
    go_wp2
    go_ret
    refine ⟨?_, hr, hk⟩
    rw [hi.out]
    rfl
end
end Go.Proofs.Ytccfhbdafoamoaa

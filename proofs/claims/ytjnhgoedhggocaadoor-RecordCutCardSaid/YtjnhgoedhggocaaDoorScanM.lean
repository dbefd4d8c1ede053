/-
  The records that bytes begin with (P4.2), as mathematics.
-/
import Derived.Test.YtjnhgoedhggocaaDoorRefF
namespace Go.Proofs.YtjnhgoedhggocaaDoor
open Go.RowKit

/-- the record that bytes begin with, if they begin with a whole one -/
def oneOf (bs : List UInt8) : Option (List UInt8) :=
  if 8 ≤ bs.length ∧ numOf (bs.take 4) ≤ 200000 ∧ numOf (bs.take 4) ≤ bs.length - 8 ∧ sum32 ((bs.drop 8).take (numOf (bs.take 4))) = numOf ((bs.drop 4).take 4) then
    some ((bs.drop 8).take (numOf (bs.take 4))) else none
theorem oneOf_length {bs x : List UInt8} (h : oneOf bs = some x) : 8 + x.length ≤ bs.length ∧ x.length ≤ 200000 ∧ x = (bs.drop 8).take x.length ∧ x.length = numOf (bs.take 4) := by
  unfold oneOf at h
  split at h
  · rename_i hc
    obtain ⟨h1, h2, h3, h4⟩ := hc
    cases h
    have hl : ((bs.drop 8).take (numOf (bs.take 4))).length = numOf (bs.take 4) := by
      rw [List.length_take, List.length_drop]; omega
    rw [hl]
    exact ⟨by omega, h2, rfl, rfl⟩
  · cases h

def scanN : Nat → List UInt8 → List (List UInt8) × Nat
  | 0, _ => ([], 0)
  | n + 1, bs => match oneOf bs with
    | none => ([], 0)
    | some x => (x :: (scanN n (bs.drop (8 + x.length))).1, 8 + x.length + (scanN n (bs.drop (8 + x.length))).2)
/-- the records that bytes begin with, and how many bytes they take -/
def scanOf (bs : List UInt8) : List (List UInt8) × Nat := scanN bs.length bs
theorem oneOf_none {bs : List UInt8} (h : bs.length < 8) : oneOf bs = none := by
  unfold oneOf
  rw [if_neg (by omega)]
theorem scanN_enough (m n : Nat) (bs : List UInt8) (hm : bs.length ≤ m) (hn : bs.length ≤ n) : scanN m bs = scanN n bs := by
  induction m generalizing n bs with
  | zero =>
    have : oneOf bs = none := oneOf_none (by omega)
    cases n with
    | zero => rfl
    | succ n => simp [scanN, this]
  | succ m ih =>
    cases n with
    | zero =>
      have : oneOf bs = none := oneOf_none (by omega)
      simp [scanN, this]
    | succ n =>
      simp only [scanN]
      cases ho : oneOf bs with
      | none => rfl
      | some x =>
        have hl := (oneOf_length ho).1
        have e := ih n (bs.drop (8 + x.length)) (by rw [List.length_drop]; omega) (by rw [List.length_drop]; omega)
        simp only [e]
theorem scanOf_none {bs : List UInt8} (h : oneOf bs = none) : scanOf bs = ([], 0) := by
  unfold scanOf
  cases bs.length with
  | zero => rfl
  | succ n => simp [scanN, h]
theorem scanOf_some {bs x : List UInt8} (h : oneOf bs = some x) : scanOf bs = (x :: (scanOf (bs.drop (8 + x.length))).1, 8 + x.length + (scanOf (bs.drop (8 + x.length))).2) := by
  have hl := (oneOf_length h).1
  unfold scanOf
  have e := scanN_enough (bs.length - 1) (bs.drop (8 + x.length)).length (bs.drop (8 + x.length)) (by rw [List.length_drop]; omega) (Nat.le_refl _)
  rw [← e]
  obtain ⟨n, hn⟩ : ∃ n, bs.length = n + 1 := ⟨bs.length - 1, by omega⟩
  rw [hn]
  simp [scanN, h]

theorem scanN_count (n : Nat) (bs : List UInt8) : (scanN n bs).1.length ≤ n := by
  induction n generalizing bs with
  | zero => simp [scanN]
  | succ n ih =>
    simp only [scanN]
    cases oneOf bs with
    | none => simp
    | some x => simpa using ih _
theorem scanOf_count (bs : List UInt8) : (scanOf bs).1.length ≤ bs.length := scanN_count _ _

/-- a whole frame is told, whatever stands behind it -/
theorem oneOf_frame (x r : List UInt8) (hx : x.length ≤ 200000) : oneOf (frameOf x ++ r) = some x := by
  have hL1 := lowBytes_length x.length 4
  have hL2 := lowBytes_length (sum32 x) 4
  have hs := sum32_lt x
  have e4 : (frameOf x ++ r).take 4 = lowBytes x.length 4 := by
    rw [frameOf, List.append_assoc, List.append_assoc, List.take_append_of_le_length (by omega), List.take_of_length_le (by omega)]
  have d4 : (frameOf x ++ r).drop 4 = lowBytes (sum32 x) 4 ++ (x ++ r) := by
    rw [frameOf, List.append_assoc, List.append_assoc, List.drop_append_of_le_length (by omega), List.drop_of_length_le (by omega), List.nil_append]
  have d8 : (frameOf x ++ r).drop 8 = x ++ r := by
    rw [show 8 = 4 + 4 from rfl, ← List.drop_drop, d4, List.drop_append_of_le_length (by omega), List.drop_of_length_le (by omega), List.nil_append]
  have hn : numOf (lowBytes x.length 4) = x.length := by rw [numOf_lowBytes, Nat.mod_eq_of_lt (by omega)]
  have hm : numOf (lowBytes (sum32 x) 4) = sum32 x := by rw [numOf_lowBytes, Nat.mod_eq_of_lt (by omega)]
  have ht : (x ++ r).take x.length = x := by rw [List.take_append_of_le_length (Nat.le_refl _), List.take_length]
  have t4 : ((frameOf x ++ r).drop 4).take 4 = lowBytes (sum32 x) 4 := by rw [d4, List.take_append_of_le_length (by omega), List.take_of_length_le (by omega)]
  have hl : (frameOf x ++ r).length = 8 + x.length + r.length := by rw [List.length_append, frameOf_length]
  unfold oneOf
  rw [t4, e4, d8, hn, hm, ht, hl, if_pos ⟨by omega, hx, by omega, rfl⟩]
theorem scanOf_frame (x r : List UInt8) (hx : x.length ≤ 200000) : scanOf (frameOf x ++ r) = (x :: (scanOf r).1, 8 + x.length + (scanOf r).2) := by
  rw [scanOf_some (oneOf_frame x r hx), List.drop_append_of_le_length (by rw [frameOf_length]; exact Nat.le_refl _), List.drop_of_length_le (by rw [frameOf_length]; exact Nat.le_refl _), List.nil_append]
/-- a frame that is cut is not told -/
theorem oneOf_cut (x : List UInt8) (k : Nat) (hx : x.length ≤ 200000) (hk : k < 8 + x.length) : oneOf ((frameOf x).take k) = none := by
  have hfl := frameOf_length x
  by_cases h8 : k < 8
  · exact oneOf_none (by rw [List.length_take]; omega)
  · have e4 : ((frameOf x).take k).take 4 = lowBytes x.length 4 := by
      rw [List.take_take, Nat.min_eq_left (by omega), frameOf, List.append_assoc, List.take_append_of_le_length (by rw [lowBytes_length]; omega), List.take_of_length_le (by rw [lowBytes_length]; omega)]
    have hn : numOf (lowBytes x.length 4) = x.length := by rw [numOf_lowBytes, Nat.mod_eq_of_lt (by omega)]
    unfold oneOf
    rw [e4, hn, if_neg (by rw [List.length_take]; omega)]
end Go.Proofs.YtjnhgoedhggocaaDoor

/-
  What is put, and dropped; a file where a folder is, or within a file; as many files as may be.
-/
import Derived.Test.YtnpgfbgnbonhfaaTrM
namespace Go.Proofs.Ytnpgfbgnbonhfaa

theorem put_again {A : List FileS} {f : FileS} (h0 : (putS A f).2 = 0) : putS (putS A f).1 f = ((putS A f).1, 0) := by
  obtain ⟨h1, h2, h3⟩ := put_did h0
  obtain ⟨_, ho, _, _⟩ := put_spec h0
  have hf : findS (putS A f).1 f.1 = some f := by rw [h2, if_pos rfl]
  obtain ⟨hm, _⟩ := find_some hf
  obtain ⟨k1, k2, k3⟩ := put_ok (f := f) h1 ho (fun g hg e => h1.apart.two hg hm fun e' => e (by rw [e'])) (.inl (by rw [hf]; rfl))
  rw [k1]
  congr 1
  refine tree_ext k2.rise h1.rise fun p => ?_
  rw [k3]
  split
  · rename_i e
    rw [e, hf]
  · rfl
theorem put_drop {A : List FileS} {f : FileS} (h0 : (putS A f).2 = 0) : ∃ Z, dropS (putS A f).1 f.1 = (Z, 0) ∧ IsTree Z ∧ findS Z f.1 = none := by
  obtain ⟨h1, h2, _⟩ := put_did h0
  have hf : findS (putS A f).1 f.1 = some f := by rw [h2, if_pos rfl]
  obtain ⟨k1, k2, k3⟩ := drop_ok h1 (p := f.1) (by rw [hf]; rfl)
  exact ⟨_, k1, k2, by rw [k3, if_pos rfl]⟩

/-! ### One file alone -/
theorem put_nil {f : FileS} (h : okOne f = true) : putS [] f = ([f], 0) := by
  obtain ⟨k1, _, _⟩ := put_ok (l := []) (f := f) IsTree.nil h (fun g hg => by cases hg) (.inr (by simp))
  rw [k1]
  rfl
theorem one_tree {f : FileS} (h : okOne f = true) : IsTree [f] := ⟨by simp, fun g hg => by rw [List.mem_singleton.1 hg]; exact h, List.pairwise_singleton _ _, List.pairwise_singleton _ _⟩
theorem put_clash {f g : FileS} (h : okOne f = true) (hg : rightS g.1 = true) (ht : g.2.2.length ≤ 20000) (hne : f.1 ≠ g.1) (hc : clashS f.1 g.1 = true) : putS [f] g = ([], 11) := by
  have hn : (findS [f] g.1).isSome = false := by
    have : (f.1 == g.1) = false := beq_false_of_ne hne
    simp [findS, this]
  unfold putS
  rw [if_pos ((rightT_iff _).2 (one_tree h)), if_pos hg, if_pos ht, hn, if_pos]
  have : (f.1 != g.1) = true := by simpa using hne
  simp [clashesS, this, hc]
theorem right_split {p q : Txt} (h : rightS (p ++ 47 :: q) = true) : rightS p = true := by
  unfold rightS at h ⊢
  simp only [Bool.and_eq_true, decide_eq_true_eq, List.all_append, List.length_append, List.length_cons] at h
  obtain ⟨h1, ⟨h2, _⟩, h3⟩ := h
  rw [partsS_slash, List.all_append, Bool.and_eq_true] at h3
  rw [h2, h3.1]
  simp only [Bool.and_true, decide_eq_true_eq]
  refine ⟨?_, by omega⟩
  cases p with
  | nil =>
    have := h3.1
    simp [partsS, partsG, okPart] at this
  | cons c p => simp
theorem ok_file {p t : Txt} {x : Bool} (hp : rightS p = true) (ht : t.length ≤ 20000) : okOne (p, x, t) = true := by
  unfold okOne
  rw [hp, decide_eq_true ht]
  rfl
theorem inn_ne (p q : Txt) : p ++ 47 :: q ≠ p := fun e => by
  have := congrArg List.length e
  simp at this
theorem clash_in (p q : Txt) : clashS (p ++ 47 :: q) p = true := by
  unfold clashS
  rw [within_put]
  simp
theorem clash_in2 (p q : Txt) : clashS p (p ++ 47 :: q) = true := by rw [clash_comm]; exact clash_in p q
theorem clash_apply {p q t : Txt} (h : rightS (p ++ 47 :: q) = true) (ht : t.length ≤ 20000) : applyT [(p ++ 47 :: q, false, t)] [(p ++ 47 :: q, true, false, []), (p, false, false, t)] = ([(p, false, t)], 0) := by
  have hT := one_tree (ok_file (x := false) h ht)
  have h1 : stepS [(p ++ 47 :: q, false, t)] (p ++ 47 :: q, true, false, []) = ([], 0) := by
    unfold stepS
    rw [if_pos rfl]
    obtain ⟨k1, _, _⟩ := drop_ok (p := p ++ 47 :: q) hT (by simp [findS])
    rw [k1]
    simp [withoutS]
  have h2 : stepS [] (p, false, false, t) = ([(p, false, t)], 0) := by
    unfold stepS
    rw [if_neg (by simp)]
    exact put_nil (ok_file (right_split h) ht)
  unfold applyT
  rw [if_pos ((rightT_iff _).2 hT), if_pos (by simp), applyS, h1, if_pos rfl, applyS, h2, if_pos rfl]
  rfl

/-! ### As many as may be -/
def digS (n : Nat) : Txt :=
  if n < 10 then [UInt8.ofNat (48 + n)]
  else if n < 100 then [UInt8.ofNat (48 + n / 10), UInt8.ofNat (48 + n % 10)]
  else [UInt8.ofNat (48 + n / 100), UInt8.ofNat (48 + n / 10 % 10), UInt8.ofNat (48 + n % 10)]
def nmS (n : Nat) : Txt := 102 :: digS n
theorem nm_right : (List.range 100).all (fun k => rightS (nmS k)) = true := by decide +kernel
theorem nm_apart : (List.range 100).all (fun k => (List.range k).all fun i => !clashS (nmS i) (nmS k)) = true := by decide +kernel
def fullC (n : Nat) : List ChangeS := (List.range n).map fun i => (nmS i, false, false, [])
theorem fullC_len (n : Nat) : (fullC n).length = n := by simp [fullC]
theorem fullC_succ (n : Nat) : fullC (n + 1) = fullC n ++ [(nmS n, false, false, [])] := by
  unfold fullC
  rw [List.range_succ, List.map_append]
  rfl
theorem full_step : ∀ k, k ≤ 100 → ∃ Y, (∀ r, applyS [] (fullC k ++ r) = applyS Y r) ∧ IsTree Y ∧ Y.length = k ∧ ∀ g ∈ Y, ∃ i, i < k ∧ g.1 = nmS i
  | 0, _ => ⟨[], fun _ => rfl, IsTree.nil, rfl, by simp⟩
  | k + 1, hk => by
    obtain ⟨Y, y1, y2, y3, y4⟩ := full_step k (by omega)
    have hr : rightS (nmS k) = true := List.all_eq_true.1 nm_right k (List.mem_range.2 (by omega))
    have ha : ∀ i, i < k → clashS (nmS i) (nmS k) = false := fun i hi => by
      have := List.all_eq_true.1 (List.all_eq_true.1 nm_apart k (List.mem_range.2 (by omega))) i (List.mem_range.2 hi)
      simpa using this
    have hnone : ∀ g ∈ Y, g.1 ≠ nmS k := fun g hg e => by
      obtain ⟨i, hi, e2⟩ := y4 g hg
      have := ha i hi
      rw [← e2, e, clash_self] at this
      cases this
    obtain ⟨k1, k2, k3⟩ := put_ok (f := (nmS k, false, [])) y2 (ok_file hr (by simp)) (fun g hg _ => by
      obtain ⟨i, hi, e2⟩ := y4 g hg
      rw [e2]
      exact ha i hi) (.inr (by omega))
    rw [show (nmS k, false, ([] : Txt)).1 = nmS k from rfl, without_none hnone] at k1 k2
    refine ⟨sortedS Y (nmS k, false, []), fun r => ?_, k2, by rw [sorted_len, y3], fun g hg => ?_⟩
    · have hs : stepS Y (nmS k, false, false, []) = (sortedS Y (nmS k, false, []), 0) := by
        unfold stepS
        rw [if_neg (by simp)]
        exact k1
      rw [fullC_succ, List.append_assoc, y1, List.singleton_append, applyS, hs, if_pos rfl]
    · rcases (sorted_mem _ _ _).1 hg with rfl | hg
      · exact ⟨k, by omega, rfl⟩
      · obtain ⟨i, hi, e⟩ := y4 g hg
        exact ⟨i, by omega, e⟩
theorem full_apply {n : Nat} (h : n ≤ 100) : ∃ Y, applyT [] (fullC n) = (Y, 0) ∧ Y.length = n := by
  obtain ⟨Y, y1, _, y3, _⟩ := full_step n h
  refine ⟨Y, ?_, y3⟩
  unfold applyT
  rw [if_pos ((rightT_iff _).2 IsTree.nil), if_pos (by rw [fullC_len]; exact h)]
  have := y1 []
  rw [List.append_nil] at this
  exact this
theorem full_over {n : Nat} (h : 100 < n) : applyT [] (fullC n) = ([], 6) := by
  unfold applyT
  rw [if_pos ((rightT_iff _).2 IsTree.nil), if_neg (by rw [fullC_len]; omega)]
end Go.Proofs.Ytnpgfbgnbonhfaa

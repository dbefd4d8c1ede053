/-
  Chunks, place by place (mathematics): what the walk through base has still to make.
-/
import Derived.Test.YtfldheegebopoaaCkT
namespace Go.Proofs.Ytfldheegebopoaa

section
variable {α : Type}
/-- places that grow: each is -1, or at least lo, and below n -/
def Asc (n : Nat) : Nat → List Int → Prop
  | _, [] => True
  | lo, x :: xs => (x = -1 ∧ Asc n lo xs) ∨ ∃ j : Nat, x = (j : Int) ∧ lo ≤ j ∧ j < n ∧ Asc n (j + 1) xs
theorem Asc.mono {n : Nat} {xs : List Int} : ∀ {lo lo' : Nat}, Asc n lo xs → lo' ≤ lo → Asc n lo' xs := by
  induction xs with
  | nil => exact fun _ _ => trivial
  | cons x xs ih =>
    intro lo lo' h hl
    rcases h with ⟨h1, h2⟩ | ⟨j, h1, h2, h3, h4⟩
    · exact .inl ⟨h1, ih h2 hl⟩
    · exact .inr ⟨j, h1, by omega, h3, h4⟩
theorem placesG_asc (s : List (Int × α)) : ∀ (at' lo n : Nat), lo ≤ at' → at' + (sideS 3 s).length = n → Kinds s → Asc n lo (placesG at' s) := by
  induction s with
  | nil => exact fun _ _ _ _ _ _ => trivial
  | cons e s ih =>
    obtain ⟨k, x⟩ := e
    intro at' lo n h1 h2 hK
    rw [sideS_cons] at h2
    rcases hK (k, x) (List.mem_cons_self ..) with h | h | h
    · simp only at h; subst h
      rw [if_pos (by simp)] at h2
      rw [placesG, if_pos rfl]
      simp only [List.length_cons] at h2
      exact .inr ⟨at', rfl, h1, by omega, ih (at' + 1) (at' + 1) n (Nat.le_refl _) (by omega) hK.tail⟩
    · simp only at h; subst h
      rw [if_neg (by simp)] at h2
      rw [placesG, if_neg (by simp), if_pos rfl]
      exact .inl ⟨rfl, ih at' lo n h1 h2 hK.tail⟩
    · simp only at h; subst h
      rw [if_pos (by simp)] at h2
      rw [placesG, if_neg (by simp), if_neg (by simp)]
      simp only [List.length_cons] at h2
      exact ih (at' + 1) lo n (by omega) (by omega) hK.tail
theorem asc_bound {n : Nat} {x : List Int} : ∀ {lo i j : Nat}, Asc n lo x → x[i]? = some (j : Int) → j < n := by
  induction x with
  | nil => intro lo i j _ h; simp at h
  | cons y x ih =>
    intro lo i j h hi
    cases i with
    | zero =>
      simp only [List.getElem?_cons_zero, Option.some.injEq] at hi
      rcases h with ⟨h, _⟩ | ⟨k, h, _, hk, _⟩ <;> omega
    | succ i =>
      simp only [List.getElem?_cons_succ] at hi
      rcases h with ⟨_, h⟩ | ⟨_, _, _, _, h⟩
      · exact ih h hi
      · exact ih h hi
theorem placesG_length (s : List (Int × α)) : ∀ at', Kinds s → (placesG at' s).length = (sideS 2 s).length := by
  induction s with
  | nil => exact fun _ _ => rfl
  | cons e s ih =>
    obtain ⟨k, x⟩ := e
    intro at' hK
    rw [sideS_cons]
    rcases hK (k, x) (List.mem_cons_self ..) with h | h | h
    · simp only at h; subst h
      rw [placesG, if_pos rfl, if_pos (by simp), List.length_cons, List.length_cons, ih _ hK.tail]
    · simp only at h; subst h
      rw [placesG, if_neg (by simp), if_pos rfl, if_pos (by simp), List.length_cons, List.length_cons, ih _ hK.tail]
    · simp only at h; subst h
      rw [placesG, if_neg (by simp), if_neg (by simp), if_neg (by simp), ih _ hK.tail]
theorem take_more {base : List α} {b i : Nat} {z : α} (hb : b ≤ i) (h : base[i]? = some z) : (base.drop b).take (i - b) ++ [z] = (base.drop b).take (i + 1 - b) := by
  have := take_snoc (l := base.drop b) (k := i - b) (b := z) (by rw [List.getElem?_drop, show b + (i - b) = i by omega]; exact h)
  rw [show i + 1 - b = i - b + 1 by omega, this]
end

section
variable {α : Type} [DecidableEq α]
theorem placesS_length {a b : List α} (ha : a.length ≤ 400) (hb : b.length ≤ 400) : (placesS a b).length = a.length := by
  unfold placesS
  rw [scriptS_short ha hb, placesG_length _ _ (goS_kinds a b), (goS_sides a b).1]
theorem placesS_asc {a b : List α} (ha : a.length ≤ 400) (hb : b.length ≤ 400) : Asc b.length 0 (placesS a b) := by
  unfold placesS
  rw [scriptS_short ha hb]
  exact placesG_asc _ 0 0 _ (Nat.le_refl _) (by rw [(goS_sides a b).2.1, Nat.zero_add]) (goS_kinds a b)
theorem build_some (run b o t : List α) (r : List (It α)) (h : ¬ (b = [] ∧ o = [] ∧ t = [])) : build run (.gap b o t :: r) = stab run ++ build [] (.gap b o t :: r) := by
  have e : ∀ run : List α, build run (.gap b o t :: r) = stab run ++ (kindOf b o t, b, o, t) :: build [] r := fun run => by rw [build, if_neg h]
  rw [e run, e []]
  simp [stab]
/-- the first gap has something: a run ends ahead of it -/
theorem build_first (ours theirs : List α) (run : List α) : ∀ (bs : List α) (xs ys : List Int) (p : List α) (o t : Nat), p ≠ [] → build run (gapsP ours theirs p o t bs xs ys) = stab run ++ build [] (gapsP ours theirs p o t bs xs ys)
  | [], xs, ys, p, o, t, hp => by
    rw [gapsP]
    · exact build_some run _ _ _ _ (fun h => hp h.1)
    all_goals simp
  | z :: bs, [], ys, p, o, t, hp => by
    rw [gapsP]
    · exact build_some run _ _ _ _ (fun h => hp h.1)
    all_goals simp
  | z :: bs, x :: xs, [], p, o, t, hp => by
    rw [gapsP]
    · exact build_some run _ _ _ _ (fun h => hp h.1)
    all_goals simp
  | z :: bs, x :: xs, y :: ys, p, o, t, hp => by
    rw [gapsP]
    split
    · exact build_first ours theirs run bs xs ys (p ++ [z]) o t (by simp)
    · exact build_some run _ _ _ _ (fun h => hp h.1)
/-- where a run cannot go on -/
theorem build_stop (ours theirs : List α) (run : List α) (bs : List α) (xs ys : List Int) (o t : Nat) (hx : Asc ours.length o xs) (hy : Asc theirs.length t ys) (hs : bs = [] ∨ xs[0]? ≠ some (o : Int) ∨ ys[0]? ≠ some (t : Int)) :
    build run (gapsP ours theirs [] o t bs xs ys) = stab run ++ build [] (gapsP ours theirs [] o t bs xs ys) := by
  have last : ∀ b o t : List α, build run [.gap b o t] = stab run ++ build [] [.gap b o t] := fun b o t => by
    by_cases h : b = [] ∧ o = [] ∧ t = []
    · rw [show build run [.gap b o t] = stab run by rw [build, if_pos h, build], show build [] [.gap b o t] = [] by rw [build, if_pos h, build]; simp [stab]]
      simp
    · exact build_some run b o t [] h
  match bs, xs, ys with
  | [], xs, ys => rw [gapsP]; exact last _ _ _; all_goals simp
  | z :: bs, [], ys => rw [gapsP]; exact last _ _ _; all_goals simp
  | z :: bs, x :: xs, [] => rw [gapsP]; exact last _ _ _; all_goals simp
  | z :: bs, x :: xs, y :: ys =>
    rw [gapsP]
    split
    · exact build_first ours theirs run bs xs ys _ o t (by simp)
    · rename_i hn
      have hne : ¬ (([] : List α) = [] ∧ ((ours.drop o).take (x.toNat - o)) = [] ∧ ((theirs.drop t).take (y.toNat - t)) = []) := by
        rintro ⟨_, h1, h2⟩
        rcases hx with ⟨h, _⟩ | ⟨j, rfl, g1, g2, _⟩
        · omega
        rcases hy with ⟨h, _⟩ | ⟨k, rfl, g3, g4, _⟩
        · omega
        have l1 := congrArg List.length h1
        have l2 := congrArg List.length h2
        simp only [List.length_take, List.length_drop, List.length_nil, Int.toNat_natCast] at l1 l2
        have e1 : j = o := by omega
        have e2 : k = t := by omega
        rcases hs with hs | hs | hs
        · cases hs
        · exact hs (by simp [e1])
        · exact hs (by simp [e2])
      exact build_some run _ _ _ _ hne
/-- a run of m more firm lines -/
theorem build_run (ours theirs : List α) : ∀ (m : Nat) (run bs : List α) (xs ys : List Int) (o t : Nat), bs.length = xs.length → bs.length = ys.length → m ≤ bs.length → Asc ours.length o xs → Asc theirs.length t ys →
    (∀ k, k < m → xs[k]? = some ((o + k : Nat) : Int) ∧ ys[k]? = some ((t + k : Nat) : Int)) → (m = bs.length ∨ xs[m]? ≠ some ((o + m : Nat) : Int) ∨ ys[m]? ≠ some ((t + m : Nat) : Int)) →
    build run (gapsP ours theirs [] o t bs xs ys) = stab (run ++ bs.take m) ++ build [] (gapsP ours theirs [] (o + m) (t + m) (bs.drop m) (xs.drop m) (ys.drop m)) ∧ Asc ours.length (o + m) (xs.drop m) ∧ Asc theirs.length (t + m) (ys.drop m)
  | 0, run, bs, xs, ys, o, t, _, _, _, hx, hy, _, hs => by
    refine ⟨?_, hx, hy⟩
    simp only [List.take_zero, List.append_nil, List.drop_zero, Nat.add_zero]
    refine build_stop ours theirs run bs xs ys o t hx hy ?_
    rcases hs with hs | hs | hs
    · exact .inl (List.eq_nil_of_length_eq_zero hs.symm)
    · exact .inr (.inl (by simpa using hs))
    · exact .inr (.inr (by simpa using hs))
  | m + 1, run, [], xs, ys, o, t, _, _, hm, _, _, _, _ => by simp at hm
  | m + 1, run, z :: bs, [], ys, o, t, h, _, _, _, _, _, _ => by simp at h
  | m + 1, run, z :: bs, x :: xs, [], o, t, _, h, _, _, _, _, _ => by simp at h
  | m + 1, run, z :: bs, x :: xs, y :: ys, o, t, h1, h2, hm, hx, hy, hk, hs => by
    obtain ⟨a1, a2⟩ := hk 0 (by omega)
    simp only [List.getElem?_cons_zero, Option.some.injEq, Nat.add_zero] at a1 a2
    subst a1
    subst a2
    have hx' : Asc ours.length (o + 1) xs := by
      rcases hx with ⟨h, _⟩ | ⟨j, e, _, _, h⟩
      · omega
      · have : j = o := by omega
        subst this; exact h
    have hy' : Asc theirs.length (t + 1) ys := by
      rcases hy with ⟨h, _⟩ | ⟨j, e, _, _, h⟩
      · omega
      · have : j = t := by omega
        subst this; exact h
    obtain ⟨r1, r2, r3⟩ := build_run ours theirs m (run ++ [z]) bs xs ys (o + 1) (t + 1) (by simpa using h1) (by simpa using h2) (by simpa using hm) hx' hy' (fun k hk' => by
      have := hk (k + 1) (by omega)
      simp only [List.getElem?_cons_succ] at this
      rw [show o + 1 + k = o + (k + 1) by omega, show t + 1 + k = t + (k + 1) by omega]
      exact this) (by
      rcases hs with hs | hs | hs
      · exact .inl (by simpa using hs)
      · exact .inr (.inl (by rw [show o + 1 + m = o + (m + 1) by omega]; simpa using hs))
      · exact .inr (.inr (by rw [show t + 1 + m = t + (m + 1) by omega]; simpa using hs)))
    rw [show o + 1 + m = o + (m + 1) by omega, show t + 1 + m = t + (m + 1) by omega] at r1
    rw [show o + 1 + m = o + (m + 1) by omega] at r2
    rw [show t + 1 + m = t + (m + 1) by omega] at r3
    refine ⟨?_, by simpa using r2, by simpa using r3⟩
    rw [gapsP, if_neg (by omega), Int.toNat_natCast, Int.toNat_natCast, Nat.sub_self, Nat.sub_self, List.take_zero, List.take_zero, build, if_pos ⟨rfl, rfl, rfl⟩, build, r1]
    simp
end

section
variable {α : Type} [DecidableEq α]
/-- what is still to be made at line i, where the pending parts began at b, o and t -/
def restAt (base ours theirs : List α) (x y : List Int) (i b o t : Nat) : List (Ck α) := build [] (gapsP ours theirs ((base.drop b).take (i - b)) o t (base.drop i) (x.drop i) (y.drop i))
def gapCk (b o t : List α) : List (Ck α) := if b = [] ∧ o = [] ∧ t = [] then [] else [(kindOf b o t, b, o, t)]
theorem rest_skip {base ours theirs : List α} {x y : List Int} {i b o t : Nat} {z : α} {p q : Int} (hb : b ≤ i) (hz : base[i]? = some z) (hx : x[i]? = some p) (hy : y[i]? = some q) (h : p < 0 ∨ q < 0) :
    restAt base ours theirs x y i b o t = restAt base ours theirs x y (i + 1) b o t := by
  obtain ⟨l1, e1⟩ := List.getElem?_eq_some_iff.1 hz
  obtain ⟨l2, e2⟩ := List.getElem?_eq_some_iff.1 hx
  obtain ⟨l3, e3⟩ := List.getElem?_eq_some_iff.1 hy
  unfold restAt
  rw [List.drop_eq_getElem_cons l1, List.drop_eq_getElem_cons l2, List.drop_eq_getElem_cons l3, e1, e2, e3, gapsP, if_pos h, take_more hb hz]
theorem asc_skip {n lo : Nat} {x : List Int} {i : Nat} (h : Asc n lo (x.drop i)) (hi : i < x.length) : Asc n lo (x.drop (i + 1)) := by
  rw [List.drop_eq_getElem_cons hi] at h
  rcases h with ⟨_, h⟩ | ⟨j, _, hj, _, h⟩
  · exact h
  · exact h.mono (by omega)
theorem asc_at {n lo : Nat} {x : List Int} {i : Nat} {p : Int} (h : Asc n lo (x.drop i)) (hp : x[i]? = some p) (h0 : ¬ p < 0) : ∃ j : Nat, p = (j : Int) ∧ lo ≤ j ∧ j < n ∧ Asc n (j + 1) (x.drop (i + 1)) := by
  obtain ⟨hi, e⟩ := List.getElem?_eq_some_iff.1 hp
  rw [List.drop_eq_getElem_cons hi, e] at h
  rcases h with ⟨h, _⟩ | h
  · omega
  · exact h
theorem rest_run {base ours theirs : List α} {x y : List Int} {i b o t n P Q : Nat} (lx : x.length = base.length) (ly : y.length = base.length) (hi : i < base.length) (hn : 0 < n) (hin : i + n ≤ base.length)
    (hx : Asc ours.length o (x.drop i)) (hy : Asc theirs.length t (y.drop i)) (hk : ∀ k, k < n → x[i + k]? = some ((P + k : Nat) : Int) ∧ y[i + k]? = some ((Q + k : Nat) : Int))
    (hs : i + n = base.length ∨ x[i + n]? ≠ some ((P + n : Nat) : Int) ∨ y[i + n]? ≠ some ((Q + n : Nat) : Int)) :
    restAt base ours theirs x y i b o t = gapCk ((base.drop b).take (i - b)) ((ours.drop o).take (P - o)) ((theirs.drop t).take (Q - t)) ++ (1, (base.drop i).take n, (base.drop i).take n, (base.drop i).take n) :: restAt base ours theirs x y (i + n) (i + n) (P + n) (Q + n) ∧
      Asc ours.length (P + n) (x.drop (i + n)) ∧ Asc theirs.length (Q + n) (y.drop (i + n)) := by
  obtain ⟨hx0, hy0⟩ := hk 0 hn
  simp only [Nat.add_zero] at hx0 hy0
  obtain ⟨j, e1, _, _, ax⟩ := asc_at hx hx0 (by omega)
  obtain ⟨j', e2, _, _, ay⟩ := asc_at hy hy0 (by omega)
  have e1 : P = j := by omega
  have e2 : Q = j' := by omega
  subst e1
  subst e2
  obtain ⟨l2, g2⟩ := List.getElem?_eq_some_iff.1 hx0
  obtain ⟨l3, g3⟩ := List.getElem?_eq_some_iff.1 hy0
  obtain ⟨m, rfl⟩ : ∃ m, n = m + 1 := ⟨n - 1, by omega⟩
  obtain ⟨r1, r2, r3⟩ := build_run ours theirs m [base[i]] (base.drop (i + 1)) (x.drop (i + 1)) (y.drop (i + 1)) (P + 1) (Q + 1) (by simp [lx]) (by simp [ly]) (by simp; omega) ax ay (fun k hk' => by
    rw [List.getElem?_drop, List.getElem?_drop, show i + 1 + k = i + (k + 1) by omega, show P + 1 + k = P + (k + 1) by omega, show Q + 1 + k = Q + (k + 1) by omega]
    exact hk (k + 1) (by omega)) (by
    rw [List.getElem?_drop, List.getElem?_drop, List.length_drop, show i + 1 + m = i + (m + 1) by omega, show P + 1 + m = P + (m + 1) by omega, show Q + 1 + m = Q + (m + 1) by omega]
    rcases hs with hs | hs | hs
    · exact .inl (by omega)
    · exact .inr (.inl hs)
    · exact .inr (.inr hs))
  rw [List.drop_drop, show i + 1 + m = i + (m + 1) by omega, show P + 1 + m = P + (m + 1) by omega] at r2
  rw [List.drop_drop, show i + 1 + m = i + (m + 1) by omega, show Q + 1 + m = Q + (m + 1) by omega] at r3
  refine ⟨?_, r2, r3⟩
  have hrun : [base[i]] ++ (base.drop (i + 1)).take m = (base.drop i).take (m + 1) := by
    rw [List.drop_eq_getElem_cons hi, List.take_succ_cons]
    rfl
  have hgap : ∀ (bb oo tt : List α) (r : List (It α)), build [] (.gap bb oo tt :: r) = gapCk bb oo tt ++ build [] r := fun bb oo tt r => by
    rw [build]
    unfold gapCk
    split
    · simp
    · simp [stab]
  have hne : (base.drop i).take (m + 1) ≠ [] := by
    rw [← hrun]
    simp
  unfold restAt
  rw [List.drop_eq_getElem_cons hi, List.drop_eq_getElem_cons l2, List.drop_eq_getElem_cons l3, g2, g3, gapsP, if_neg (by omega), Int.toNat_natCast, Int.toNat_natCast, hgap, build, List.nil_append, r1, hrun]
  rw [show stab ((base.drop i).take (m + 1)) = [(1, (base.drop i).take (m + 1), (base.drop i).take (m + 1), (base.drop i).take (m + 1))] by rw [stab, if_neg hne]]
  simp only [List.drop_drop, Nat.sub_self, List.take_zero, List.singleton_append]
  rw [show i + 1 + m = i + (m + 1) by omega, show P + 1 + m = P + (m + 1) by omega, show Q + 1 + m = Q + (m + 1) by omega]
  rw [List.drop_eq_getElem_cons hi, List.take_succ_cons]
theorem rest_end {base ours theirs : List α} {x y : List Int} {b o t : Nat} : restAt base ours theirs x y base.length b o t = gapCk (base.drop b) (ours.drop o) (theirs.drop t) := by
  unfold restAt
  rw [List.drop_length, List.take_of_length_le (by simp)]
  rw [gapsP]
  · rw [build]
    unfold gapCk
    split
    · simp [build, stab]
    · simp [build, stab]
  all_goals simp
theorem rest_begin (base ours theirs : List α) : chunksS base ours theirs = restAt base ours theirs (placesS base ours) (placesS base theirs) 0 0 0 0 := by
  unfold chunksS restAt
  simp
end
end Go.Proofs.Ytfldheegebopoaa

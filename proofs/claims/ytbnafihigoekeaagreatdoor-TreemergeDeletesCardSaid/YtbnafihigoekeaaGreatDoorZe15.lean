/-
  TmDe, part 15.
-/
import Derived.Test.YtbnafihigoekeaaGreatDoorZe13
import Derived.Test.YtbnafihigoekeaaGreatDoorZe11
import Derived.Maps.OwnSet
import Derived.Maps.AppendAt
import Derived.DeepKeys4
import Derived.Deep.LoopGhost
namespace Go.Proofs.YtbnafihigoekeaaGreatDoor
abbrev Cor := Nat × Nat × Nat
abbrev Rn := Cor × Cor
def nextC (c : Cor) : Cor := (c.1 + 1, c.2.1 + 1, c.2.2 + 1)
def runStep (l : List Rn) (i : Nat) (p q : Int) : List Rn :=
  if p < 0 ∨ q < 0 then l
  else match l.getLast? with
    | some r => if r.2 = (i, p.toNat, q.toNat) then l.dropLast ++ [(r.1, nextC (i, p.toNat, q.toNat))] else l ++ [((i, p.toNat, q.toNat), nextC (i, p.toNat, q.toNat))]
    | none => [((i, p.toNat, q.toNat), nextC (i, p.toNat, q.toNat))]
def runsUp : Nat → List Rn → List Int → List Int → List Rn
  | i, l, p :: xs, q :: ys => runsUp (i + 1) (runStep l i p q) xs ys
  | _, l, _, _ => l
def runsR : Option Rn → Nat → List Int → List Int → List Rn
  | none, i, p :: xs, q :: ys => if p < 0 ∨ q < 0 then runsR none (i + 1) xs ys else runsR (some ((i, p.toNat, q.toNat), nextC (i, p.toNat, q.toNat))) (i + 1) xs ys
  | some r, i, p :: xs, q :: ys => if p < 0 ∨ q < 0 then runsR (some r) (i + 1) xs ys else if r.2 = (i, p.toNat, q.toNat) then runsR (some (r.1, nextC (i, p.toNat, q.toNat))) (i + 1) xs ys else r :: runsR (some ((i, p.toNat, q.toNat), nextC (i, p.toNat, q.toNat))) (i + 1) xs ys
  | op, _, _, _ => op.toList
theorem runsUp_some (xs : List Int) : ∀ (ys : List Int) (i : Nat) (l : List Rn) (r : Rn), runsUp i (l ++ [r]) xs ys = l ++ runsR (some r) i xs ys := by
  induction xs with
  | nil => intro ys i l r; simp [runsUp, runsR]
  | cons p xs ih =>
    intro ys i l r
    cases ys with
    | nil => simp [runsUp, runsR]
    | cons q ys =>
      rw [runsUp, runsR, runStep]
      split
      · exact ih ys (i + 1) l r
      · rw [List.getLast?_concat, List.dropLast_concat]
        simp only []
        split
        · exact ih ys (i + 1) l _
        · rw [ih ys (i + 1) (l ++ [r]), List.append_assoc]
          rfl
theorem runsUp_none (xs : List Int) : ∀ (ys : List Int) (i : Nat), runsUp i [] xs ys = runsR none i xs ys := by
  induction xs with
  | nil => intro ys i; simp [runsUp, runsR]
  | cons p xs ih =>
    intro ys i
    cases ys with
    | nil => simp [runsUp, runsR]
    | cons q ys =>
      rw [runsUp, runsR, runStep]
      split
      · exact ih ys (i + 1)
      · exact runsUp_some xs ys (i + 1) [] _
section
variable {α : Type}
def cutL (l : List α) (a b : Nat) : List α := (l.drop a).take (b - a)
theorem cutL_nil (l : List α) (a : Nat) : cutL l a a = [] := by simp [cutL]
theorem cutL_snoc {l : List α} {a b : Nat} {z : α} (h : a ≤ b) (hz : l[b]? = some z) : cutL l a b ++ [z] = cutL l a (b + 1) := take_more h hz
theorem cutL_ne {l : List α} {a b : Nat} (h : a < b) (hb : b ≤ l.length) : cutL l a b ≠ [] := by
  intro e
  have := congrArg List.length e
  simp [cutL] at this
  omega
theorem cutL_one {l : List α} {a : Nat} {z : α} (hz : l[a]? = some z) : cutL l a (a + 1) = [z] := by
  have := cutL_snoc (Nat.le_refl a) hz
  rw [cutL_nil] at this
  exact this.symm
theorem cutL_len {l : List α} {a b : Nat} (h : a ≤ b) (hb : b ≤ l.length) : (cutL l a b).length = b - a := by simp [cutL]; omega
theorem cutL_end {l : List α} {a : Nat} : cutL l a l.length = l.drop a := by
  unfold cutL
  rw [List.take_of_length_le]
  simp
def RunsOk (e : Cor) : Cor → List Rn → Prop
  | d, [] => d.1 ≤ e.1 ∧ d.2.1 ≤ e.2.1 ∧ d.2.2 ≤ e.2.2
  | d, (f, t) :: rs => (d.1 ≤ f.1 ∧ d.2.1 ≤ f.2.1 ∧ d.2.2 ≤ f.2.2) ∧ (f.1 ≤ t.1 ∧ f.2.1 ≤ t.2.1 ∧ f.2.2 ≤ t.2.2) ∧ (t.1 ≤ e.1 ∧ t.2.1 ≤ e.2.1 ∧ t.2.2 ≤ e.2.2) ∧ RunsOk e t rs
theorem RunsOk.low {e : Cor} {rs : List Rn} {d d' : Cor} (h : RunsOk e d rs) (h1 : d'.1 ≤ d.1) (h2 : d'.2.1 ≤ d.2.1) (h3 : d'.2.2 ≤ d.2.2) : RunsOk e d' rs := by
  cases rs with
  | nil => exact ⟨Nat.le_trans h1 h.1, Nat.le_trans h2 h.2.1, Nat.le_trans h3 h.2.2⟩
  | cons r rs => exact ⟨⟨Nat.le_trans h1 h.1.1, Nat.le_trans h2 h.1.2.1, Nat.le_trans h3 h.1.2.2⟩, h.2⟩
theorem placesG_kept (s : List (Int × α)) (hK : Kinds s) : ∀ (n i : Nat) (p : Int), (placesG n s)[i]? = some p → ¬ p < 0 → n ≤ p.toNat ∧ (sideS 3 s)[p.toNat - n]? = (sideS 2 s)[i]? ∧ p.toNat - n < (sideS 3 s).length := by
  induction s with
  | nil => intro n i p h; simp [placesG] at h
  | cons e s ih =>
    obtain ⟨k, x⟩ := e
    intro n i p h h0
    rw [sideS_cons, sideS_cons]
    rcases hK (k, x) (List.mem_cons_self ..) with e | e | e
    · simp only at e; subst e
      rw [placesG, if_pos rfl] at h
      rw [if_pos (by simp), if_pos (by simp)]
      cases i with
      | zero =>
        simp only [List.getElem?_cons_zero, Option.some.injEq] at h
        subst h
        simp
      | succ i =>
        simp only [List.getElem?_cons_succ] at h
        obtain ⟨h1, h2, h3⟩ := ih hK.tail (n + 1) i p h h0
        refine ⟨by omega, ?_, by simp; omega⟩
        rw [show p.toNat - n = (p.toNat - (n + 1)) + 1 by omega]
        simpa using h2
    · simp only at e; subst e
      rw [placesG, if_neg (by simp), if_pos rfl] at h
      rw [if_neg (by simp), if_pos (by simp)]
      cases i with
      | zero =>
        simp only [List.getElem?_cons_zero, Option.some.injEq] at h
        omega
      | succ i =>
        simp only [List.getElem?_cons_succ] at h
        obtain ⟨h1, h2, h3⟩ := ih hK.tail n i p h h0
        exact ⟨h1, by simpa using h2, h3⟩
    · simp only at e; subst e
      rw [placesG, if_neg (by simp), if_neg (by simp)] at h
      rw [if_pos (by simp), if_neg (by simp)]
      obtain ⟨h1, h2, h3⟩ := ih hK.tail (n + 1) i p h h0
      refine ⟨by omega, ?_, by simp; omega⟩
      rw [show p.toNat - n = (p.toNat - (n + 1)) + 1 by omega]
      simpa using h2
end
section
variable {α : Type} [DecidableEq α]
theorem placesS_kept {a b : List α} {i : Nat} {p : Int} (h : (placesS a b)[i]? = some p) (h0 : ¬ p < 0) : b[p.toNat]? = a[i]? ∧ p.toNat < b.length := by
  unfold placesS at h
  obtain ⟨k1, s2, s3, _⟩ := scriptS_all a b
  obtain ⟨_, h2, h3⟩ := placesG_kept _ k1 0 i p h h0
  rw [s2, s3] at h2
  rw [s3] at h3
  exact ⟨by simpa using h2, by simpa using h3⟩
variable (base ours theirs : List α)
def ofRuns : Cor → List Rn → List (Ck α)
  | d, [] => gapCk (base.drop d.1) (ours.drop d.2.1) (theirs.drop d.2.2)
  | d, (f, t) :: rs => gapCk (cutL base d.1 f.1) (cutL ours d.2.1 f.2.1) (cutL theirs d.2.2 f.2.2) ++ (1, cutL base f.1 t.1, cutL ours f.2.1 t.2.1, cutL theirs f.2.2 t.2.2) :: ofRuns t rs
theorem gapCk_nil : gapCk ([] : List α) [] [] = [] := by simp [gapCk]
theorem ofRuns_first (f d : Cor) : ∀ (xs ys : List Int) (i : Nat) (t : Cor), ofRuns base ours theirs d (runsR (some (f, t)) i xs ys) = gapCk (cutL base d.1 f.1) (cutL ours d.2.1 f.2.1) (cutL theirs d.2.2 f.2.2) ++ ofRuns base ours theirs f (runsR (some (f, t)) i xs ys) := by
  have one : ∀ (t : Cor) rs, ofRuns base ours theirs d ((f, t) :: rs) = gapCk (cutL base d.1 f.1) (cutL ours d.2.1 f.2.1) (cutL theirs d.2.2 f.2.2) ++ ofRuns base ours theirs f ((f, t) :: rs) := fun t rs => by
    rw [ofRuns, ofRuns, cutL_nil, cutL_nil, cutL_nil, gapCk_nil, List.nil_append]
  intro xs
  induction xs with
  | nil => intro ys i t; rw [runsR]; exact one t []; all_goals simp
  | cons p xs ih =>
    intro ys i t
    cases ys with
    | nil => rw [runsR]; exact one t []; all_goals simp
    | cons q ys =>
      rw [runsR]
      split
      · exact ih ys (i + 1) t
      · split
        · exact ih ys (i + 1) _
        · exact one t _
theorem build_gap (bb oo tt : List α) (r : List (It α)) : build [] (.gap bb oo tt :: r) = gapCk bb oo tt ++ build [] r := by
  rw [build]
  unfold gapCk
  split
  · simp
  · simp [stab]
theorem build_line (z : α) (r : List (It α)) : build [] (.line z :: r) = build [z] r := by rw [build]; rfl
omit [DecidableEq α] in
theorem kept_of {l base : List α} {X : List Int} (hX : ∀ (i : Nat) (p : Int), X[i]? = some p → ¬ p < 0 → l[p.toNat]? = base[i]? ∧ p.toNat < l.length) {i : Nat} {z : α} (hz : base[i]? = some z) {p : Int} {xs : List Int} (hx : X.drop i = p :: xs) (h0 : ¬ p < 0) : l[p.toNat]? = some z := by
  have : X[i]? = some p := by
    have := congrArg List.head? hx
    simpa using this
  rw [(hX i p this h0).1, hz]
theorem drop_next {β : Type} {X : List β} {i : Nat} {p : β} {xs : List β} (hx : X.drop i = p :: xs) : X.drop (i + 1) = xs := by
  have := congrArg (List.drop 1) hx
  rw [List.drop_drop] at this
  simpa using this
theorem drop_at {β : Type} {X : List β} {i : Nat} {p : β} {xs : List β} (hx : X.drop i = p :: xs) : X[i]? = some p := by
  have := congrArg List.head? hx
  simpa using this
variable {X Y : List Int}
theorem build_open (hX : ∀ (i : Nat) (p : Int), X[i]? = some p → ¬ p < 0 → ours[p.toNat]? = base[i]? ∧ p.toNat < ours.length) (hY : ∀ (i : Nat) (p : Int), Y[i]? = some p → ¬ p < 0 → theirs[p.toNat]? = base[i]? ∧ p.toNat < theirs.length) :
    ∀ (bs : List α) (xs ys : List Int) (i : Nat) (f t : Cor), base.drop i = bs → X.drop i = xs → Y.drop i = ys → bs.length = xs.length → bs.length = ys.length → Asc ours.length t.2.1 xs → Asc theirs.length t.2.2 ys →
      f.1 < t.1 → f.2.1 ≤ t.2.1 → f.2.2 ≤ t.2.2 → t.1 ≤ i → i ≤ base.length → t.2.1 ≤ ours.length → t.2.2 ≤ theirs.length → cutL ours f.2.1 t.2.1 = cutL base f.1 t.1 → cutL theirs f.2.2 t.2.2 = cutL base f.1 t.1 →
      build (cutL base f.1 t.1) (gapsP ours theirs (cutL base t.1 i) t.2.1 t.2.2 bs xs ys) = ofRuns base ours theirs f (runsR (some (f, t)) i xs ys) ∧ RunsOk (base.length, ours.length, theirs.length) f (runsR (some (f, t)) i xs ys) := by
  intro bs
  induction bs with
  | nil =>
    intro xs ys i f t hb hx hy l1 l2 ax ay g1 g2 g3 g4 g5 g6 g7 k1 k2
    obtain rfl : xs = [] := List.eq_nil_of_length_eq_zero l1.symm
    obtain rfl : ys = [] := List.eq_nil_of_length_eq_zero l2.symm
    have hi : base.length ≤ i := by simpa using hb
    obtain rfl : i = base.length := by omega
    have hne : cutL base f.1 t.1 ≠ [] := cutL_ne g1 g4
    have e1 : runsR (some (f, t)) base.length [] [] = [(f, t)] := by simp [runsR]
    have e2 : gapsP ours theirs (cutL base t.1 base.length) t.2.1 t.2.2 [] [] [] = [.gap (cutL base t.1 base.length) (ours.drop t.2.1) (theirs.drop t.2.2)] := by simp [gapsP]
    rw [e1, e2]
    refine ⟨?_, ⟨⟨Nat.le_refl _, Nat.le_refl _, Nat.le_refl _⟩, ⟨Nat.le_of_lt g1, g2, g3⟩, ⟨g4, g6, g7⟩, ⟨g4, g6, g7⟩⟩⟩
    rw [ofRuns, ofRuns, cutL_nil, cutL_nil, cutL_nil, gapCk_nil, List.nil_append, k1, k2, cutL_end, gapCk]
    by_cases h : base.drop t.1 = [] ∧ ours.drop t.2.1 = [] ∧ theirs.drop t.2.2 = []
    · rw [build, if_pos h, if_pos h, build, stab, if_neg hne]
    · rw [build, if_neg h, if_neg h, build, stab, if_neg hne]
      simp [stab]
  | cons z bs ih =>
    intro xs ys i f t hb hx hy l1 l2 ax ay g1 g2 g3 g4 g5 g6 g7 k1 k2
    cases xs with
    | nil => simp at l1
    | cons p xs =>
    cases ys with
    | nil => simp at l2
    | cons q ys =>
    have hz := drop_at hb
    have hb' := drop_next hb
    have hx' := drop_next hx
    have hy' := drop_next hy
    have hil : i < base.length := (List.getElem?_eq_some_iff.1 hz).1
    simp only [List.length_cons, Nat.add_right_cancel_iff] at l1 l2
    rw [gapsP, runsR]
    by_cases hf : p < 0 ∨ q < 0
    · rw [if_pos hf, if_pos hf]
      have ax' : Asc ours.length t.2.1 xs := by
        rcases ax with ⟨_, h⟩ | ⟨j, _, hj, _, h⟩
        · exact h
        · exact h.mono (by omega)
      have ay' : Asc theirs.length t.2.2 ys := by
        rcases ay with ⟨_, h⟩ | ⟨j, _, hj, _, h⟩
        · exact h
        · exact h.mono (by omega)
      rw [cutL_snoc g4 hz]
      exact ih xs ys (i + 1) f t hb' hx' hy' l1 l2 ax' ay' g1 g2 g3 (by omega) (by omega) g6 g7 k1 k2
    · rw [if_neg hf, if_neg hf]
      rcases ax with ⟨hp, _⟩ | ⟨j, rfl, j1, j2, ax⟩
      · exact absurd (Or.inl (by omega)) hf
      rcases ay with ⟨hp, _⟩ | ⟨k, rfl, m1, m2, ay⟩
      · exact absurd (Or.inr (by omega)) hf
      have oz : ours[j]? = some z := by simpa using kept_of hX hz hx (by omega)
      have tz : theirs[k]? = some z := by simpa using kept_of hY hz hy (by omega)
      rw [Int.toNat_natCast, Int.toNat_natCast]
      by_cases hc : t = (i, j, k)
      · subst hc
        rw [if_pos rfl, Nat.sub_self, Nat.sub_self, List.take_zero, List.take_zero, cutL_nil, build, if_pos ⟨rfl, rfl, rfl⟩, build, cutL_snoc (Nat.le_of_lt g1) hz]
        have := ih xs ys (i + 1) f (i + 1, j + 1, k + 1) hb' hx' hy' l1 l2 ax ay (by simp only at g1 ⊢; omega) (by simp only at g2 ⊢; omega) (by simp only at g3 ⊢; omega) (Nat.le_refl _) (by omega) (by simp only; omega) (by simp only; omega)
          (by rw [← cutL_snoc g2 oz, ← cutL_snoc (Nat.le_of_lt g1) hz, k1]) (by rw [← cutL_snoc g3 tz, ← cutL_snoc (Nat.le_of_lt g1) hz, k2])
        rw [cutL_nil] at this
        exact this
      · rw [if_neg (by exact hc)]
        have hne : ¬ (cutL base t.1 i = [] ∧ (ours.drop t.2.1).take (j - t.2.1) = [] ∧ (theirs.drop t.2.2).take (k - t.2.2) = []) := by
          rintro ⟨e1, e2, e3⟩
          apply hc
          have f1 : t.1 = i := by
            apply Classical.byContradiction
            intro h
            exact cutL_ne (l := base) (by omega) (by omega) e1
          have f2 : t.2.1 = j := by
            apply Classical.byContradiction
            intro h
            exact cutL_ne (l := ours) (by omega) (by omega) e2
          have f3 : t.2.2 = k := by
            apply Classical.byContradiction
            intro h
            exact cutL_ne (l := theirs) (by omega) (by omega) e3
          rw [← f1, ← f2, ← f3]
        have hrun : cutL base f.1 t.1 ≠ [] := cutL_ne g1 (by omega)
        obtain ⟨r1, r2⟩ := ih xs ys (i + 1) (i, j, k) (i + 1, j + 1, k + 1) hb' hx' hy' l1 l2 ax ay (by simp) (by simp) (by simp) (Nat.le_refl _) (by omega) (by simp only; omega) (by simp only; omega) (by rw [cutL_one oz, cutL_one hz]) (by rw [cutL_one tz, cutL_one hz])
        rw [cutL_one hz, cutL_nil] at r1
        refine ⟨?_, ⟨⟨Nat.le_refl _, Nat.le_refl _, Nat.le_refl _⟩, ⟨Nat.le_of_lt g1, g2, g3⟩, ⟨by simp only; omega, g6, g7⟩, RunsOk.low r2 g4 j1 m1⟩⟩
        rw [build_some _ _ _ _ _ hne, build_gap, build_line, r1, stab, if_neg hrun]
        show _ = ofRuns base ours theirs f ((f, t) :: _)
        rw [ofRuns, cutL_nil, cutL_nil, cutL_nil, gapCk_nil, List.nil_append, k1, k2]
        show _ = _ :: ofRuns base ours theirs t (runsR (some ((i, j, k), (i + 1, j + 1, k + 1))) (i + 1) xs ys)
        rw [ofRuns_first base ours theirs (i, j, k) t]
        rfl
theorem build_shut (hX : ∀ (i : Nat) (p : Int), X[i]? = some p → ¬ p < 0 → ours[p.toNat]? = base[i]? ∧ p.toNat < ours.length) (hY : ∀ (i : Nat) (p : Int), Y[i]? = some p → ¬ p < 0 → theirs[p.toNat]? = base[i]? ∧ p.toNat < theirs.length) :
    ∀ (bs : List α) (xs ys : List Int) (i : Nat), base.drop i = bs → X.drop i = xs → Y.drop i = ys → bs.length = xs.length → bs.length = ys.length → Asc ours.length 0 xs → Asc theirs.length 0 ys → i ≤ base.length →
      build [] (gapsP ours theirs (cutL base 0 i) 0 0 bs xs ys) = ofRuns base ours theirs (0, 0, 0) (runsR none i xs ys) ∧ RunsOk (base.length, ours.length, theirs.length) (0, 0, 0) (runsR none i xs ys) := by
  intro bs
  induction bs with
  | nil =>
    intro xs ys i hb hx hy l1 l2 ax ay g5
    obtain rfl : xs = [] := List.eq_nil_of_length_eq_zero l1.symm
    obtain rfl : ys = [] := List.eq_nil_of_length_eq_zero l2.symm
    have hi : base.length ≤ i := by simpa using hb
    obtain rfl : i = base.length := by omega
    have e1 : runsR none base.length [] [] = [] := by simp [runsR]
    have e2 : gapsP ours theirs (cutL base 0 base.length) 0 0 [] [] [] = [.gap (cutL base 0 base.length) (ours.drop 0) (theirs.drop 0)] := by simp [gapsP]
    rw [e1, e2]
    refine ⟨?_, ⟨Nat.zero_le _, Nat.zero_le _, Nat.zero_le _⟩⟩
    rw [ofRuns, cutL_end, build_gap, build]
    simp [stab]
  | cons z bs ih =>
    intro xs ys i hb hx hy l1 l2 ax ay g5
    cases xs with
    | nil => simp at l1
    | cons p xs =>
    cases ys with
    | nil => simp at l2
    | cons q ys =>
    have hz := drop_at hb
    have hb' := drop_next hb
    have hx' := drop_next hx
    have hy' := drop_next hy
    have hil : i < base.length := (List.getElem?_eq_some_iff.1 hz).1
    simp only [List.length_cons, Nat.add_right_cancel_iff] at l1 l2
    rw [gapsP, runsR]
    by_cases hf : p < 0 ∨ q < 0
    · rw [if_pos hf, if_pos hf]
      have ax' : Asc ours.length 0 xs := by
        rcases ax with ⟨_, h⟩ | ⟨j, _, hj, _, h⟩
        · exact h
        · exact h.mono (by omega)
      have ay' : Asc theirs.length 0 ys := by
        rcases ay with ⟨_, h⟩ | ⟨j, _, hj, _, h⟩
        · exact h
        · exact h.mono (by omega)
      rw [cutL_snoc (Nat.zero_le _) hz]
      exact ih xs ys (i + 1) hb' hx' hy' l1 l2 ax' ay' (by omega)
    · rw [if_neg hf, if_neg hf]
      rcases ax with ⟨hp, _⟩ | ⟨j, rfl, j1, j2, ax⟩
      · exact absurd (Or.inl (by omega)) hf
      rcases ay with ⟨hp, _⟩ | ⟨k, rfl, m1, m2, ay⟩
      · exact absurd (Or.inr (by omega)) hf
      have oz : ours[j]? = some z := by simpa using kept_of hX hz hx (by omega)
      have tz : theirs[k]? = some z := by simpa using kept_of hY hz hy (by omega)
      rw [Int.toNat_natCast, Int.toNat_natCast]
      obtain ⟨r1, r2⟩ := build_open base ours theirs hX hY bs xs ys (i + 1) (i, j, k) (i + 1, j + 1, k + 1) hb' hx' hy' l1 l2 ax ay (by simp) (by simp) (by simp) (Nat.le_refl _) (by omega) (by simp only; omega) (by simp only; omega) (by rw [cutL_one oz, cutL_one hz]) (by rw [cutL_one tz, cutL_one hz])
      rw [cutL_one hz, cutL_nil] at r1
      refine ⟨?_, RunsOk.low r2 (Nat.zero_le _) (Nat.zero_le _) (Nat.zero_le _)⟩
      rw [build_gap, build_line, r1]
      show _ = ofRuns base ours theirs (0, 0, 0) (runsR (some ((i, j, k), (i + 1, j + 1, k + 1))) (i + 1) xs ys)
      rw [ofRuns_first base ours theirs (i, j, k) (0, 0, 0)]
      rfl
theorem chunks_runs (base ours theirs : List α) :
    chunksS base ours theirs = ofRuns base ours theirs (0, 0, 0) (runsUp 0 [] (placesS base ours) (placesS base theirs)) ∧ RunsOk (base.length, ours.length, theirs.length) (0, 0, 0) (runsUp 0 [] (placesS base ours) (placesS base theirs)) := by
  rw [runsUp_none]
  exact build_shut base ours theirs (X := placesS base ours) (Y := placesS base theirs) (fun i p h h0 => placesS_kept h h0) (fun i p h h0 => placesS_kept h h0) base _ _ 0 rfl rfl rfl (placesS_len base ours).symm (placesS_len base theirs).symm (placesS_rise base ours) (placesS_rise base theirs) (Nat.zero_le _)
end
end Go.Proofs.YtbnafihigoekeaaGreatDoor
namespace Go.Proofs.YtbnafihigoekeaaGreatDoor
open Go.RowKit
theorem Tryz.laidOut : laidOutB Tryz.prog = true := by kernel_rfl
theorem Tryz.rowSpot : (203 : TypeId) < Tryz.prog.types.size := of_decide_eq_true (by kernel_rfl)
theorem Tryz.wideSpot : (match Tryz.prog.underlying 203 with | some (.array _ _) | some (.struct _) => true | _ => false) = true := by rw [Tryz.underlying203]
set_option maxRecDepth 100000 in
theorem Tryz.spotLaw : Maps.Keyed Tryz.prog 203 := Maps.Keyed.of_law (deep_law_laid Tryz.laidOut (m := 3) (by omega) Tryz.rowSpot (by kernel_rfl) Tryz.wideSpot)
theorem Tryz.zeroInt (w : World) : (zeroValue 3).run Tryz.prog w = .ok (.int .i64 0) w := by kernel_rfl
def klit (i s : Nat) : Lit := .string (keyBytes [.int .i64 i, .int .u8 s])
theorem spot_key {i s : Nat} (hi : i ≤ 4000000000) (hs : s < 256) : keyOf Tryz.prog 203 (.agg #[.int .i64 i, .int .u8 s]) = some (klit i s) := by
  have hk : Tryz.prog.keyType 203 = true := by kernel_rfl
  have hc : Tryz.prog.cellsOf 203 = 2 := by kernel_rfl
  have hc1 : Tryz.prog.cellsOf 3 = 1 := by kernel_rfl
  have hc2 : Tryz.prog.cellsOf 201 = 1 := by kernel_rfl
  have w1 : (Lit.int .i64 (i : Int)).wf = true := by simp [Lit.wf, IntKind.min, IntKind.max, IntKind.signed, IntKind.bits]; omega
  have w2 : (Lit.int .u8 (s : Int)).wf = true := by simp [Lit.wf, IntKind.min, IntKind.max, IntKind.signed, IntKind.bits]; omega
  obtain ⟨n, hn⟩ : ∃ n, Tryz.prog.types.size + 1 = n + 2 := ⟨Tryz.prog.types.size - 1, by have h : 203 < Tryz.prog.types.size := Tryz.rowSpot; omega⟩
  unfold keyOf
  rw [Tryz.underlying203, hk, hn]
  simp [Value.formed, Tryz.underlying203, hc, Value.cells, Program.keyLits, hc1, hc2, Tryz.underlying3, Tryz.underlying201, w1, w2, klit]
theorem klit_inj {i s j r : Nat} (hi : i ≤ 4000000000) (hs : s < 256) (hj : j ≤ 4000000000) (hr : r < 256) (h : klit i s = klit j r) : i = j ∧ s = r := by
  have := Tryz.spotLaw.inj (spot_key hi hs) (h ▸ spot_key hj hr)
  simp at this
  omega
abbrev MD := DataW Unit
def numD (j : Nat) : MD := .lit (.int .i64 j)
section
variable {α : Type}
def noteD (s : Nat) : MD → Nat → Nat → List (Int × α) → MD
  | D, _, _, [] => D
  | D, i, j, e :: r => if e.1 = 1 then noteD s (D.put (klit i s) (numD j)) (i + 1) (j + 1) r else if e.1 = 2 then noteD s D (i + 1) j r else noteD s D i (j + 1) r
def Shows (D : MD) (kl : Lit) (p : Int) : Prop := (p < 0 → Maps.has D kl = false) ∧ (¬ p < 0 → Maps.has D kl = true ∧ ∀ z, D.atKey kl z = .lit (.int .i64 p))
theorem isKey_klit (i s : Nat) : WideAt.IsKeyLit (klit i s) := trivial
theorem noteD_other {s : Nat} {kl : Lit} : ∀ (r : List (Int × α)) (D : MD) (i j : Nat), (∀ k, i ≤ k → k ≤ i + r.length → kl ≠ klit k s) → Maps.has (noteD s D i j r) kl = Maps.has D kl ∧ ∀ z, (noteD s D i j r).atKey kl z = D.atKey kl z := by
  intro r
  induction r with
  | nil => exact fun _ _ _ _ => ⟨rfl, fun _ => rfl⟩
  | cons e r ih =>
    intro D i j h
    simp only [List.length_cons] at h
    rw [noteD]
    split
    · obtain ⟨h1, h2⟩ := ih (D.put (klit i s) (numD j)) (i + 1) (j + 1) fun k hk hk' => h k (by omega) (by omega)
      have hne : kl ≠ klit i s := h i (Nat.le_refl _) (by omega)
      exact ⟨h1.trans (Maps.has_put_other hne _), fun z => (h2 z).trans (Maps.atKey_put_other hne _ z)⟩
    · split
      · exact ih D (i + 1) j fun k hk hk' => h k (by omega) (by omega)
      · exact ih D i (j + 1) fun k hk hk' => h k hk (by omega)
theorem noteD_map {s : Nat} : ∀ (r : List (Int × α)) (D : MD) (i j : Nat), Maps.IsMap D → Maps.IsMap (noteD s D i j r) := by
  intro r
  induction r with
  | nil => exact fun _ _ _ h => h
  | cons e r ih =>
    intro D i j h
    rw [noteD]
    split
    · exact ih _ _ _ (h.put _ _)
    · split
      · exact ih _ _ _ h
      · exact ih _ _ _ h
theorem noteD_shows {s : Nat} (hs : s < 256) : ∀ (r : List (Int × α)) (D : MD) (i j : Nat), Maps.IsMap D → i + r.length ≤ 4000000000 → (∀ k, i ≤ k → k ≤ i + r.length → Maps.has D (klit k s) = false) → ∀ (k : Nat) (p : Int), (placesG j r)[k]? = some p → Shows (noteD s D i j r) (klit (i + k) s) p := by
  intro r
  induction r with
  | nil => intro D i j _ _ _ k p h; simp [placesG] at h
  | cons e r ih =>
    intro D i j hD hl hn k p h
    simp only [List.length_cons] at hl hn
    rw [placesG] at h
    rw [noteD]
    split at h
    · rename_i h1
      rw [if_pos h1]
      cases k with
      | zero =>
        simp only [List.getElem?_cons_zero, Option.some.injEq] at h
        subst h
        obtain ⟨g1, g2⟩ := noteD_other (s := s) (kl := klit i s) r (D.put (klit i s) (numD j)) (i + 1) (j + 1) fun k hk hk' e => by
          have := (klit_inj (by omega) hs (by omega) hs e).1
          omega
        rw [Nat.add_zero]
        refine ⟨fun h => by omega, fun _ => ⟨g1.trans (Maps.has_put_same hD (isKey_klit i s) _), fun z => (g2 z).trans (Maps.atKey_put_same hD (isKey_klit i s) _ z)⟩⟩
      | succ k =>
        simp only [List.getElem?_cons_succ] at h
        have := ih (D.put (klit i s) (numD j)) (i + 1) (j + 1) (hD.put _ _) (by omega) (fun k hk hk' => by
          rw [Maps.has_put_other]
          · exact hn k (by omega) (by omega)
          · intro e
            have := (klit_inj (by omega) hs (by omega) hs e).1
            omega) k p h
        rw [show i + 1 + k = i + (k + 1) by omega] at this
        exact this
    · rename_i h1
      rw [if_neg h1]
      split at h
      · rename_i h2
        rw [if_pos h2]
        cases k with
        | zero =>
          simp only [List.getElem?_cons_zero, Option.some.injEq] at h
          subst h
          obtain ⟨g1, g2⟩ := noteD_other (s := s) (kl := klit i s) r D (i + 1) j fun k hk hk' e => by
            have := (klit_inj (by omega) hs (by omega) hs e).1
            omega
          rw [Nat.add_zero]
          exact ⟨fun _ => g1.trans (hn i (Nat.le_refl _) (by omega)), fun h => absurd (by decide) h⟩
        | succ k =>
          simp only [List.getElem?_cons_succ] at h
          have := ih D (i + 1) j hD (by omega) (fun k hk hk' => hn k (by omega) (by omega)) k p h
          rw [show i + 1 + k = i + (k + 1) by omega] at this
          exact this
      · rename_i h2
        rw [if_neg h2]
        exact ih D i (j + 1) hD (by omega) (fun k hk hk' => hn k hk (by omega)) k p h
theorem noted_both {s1 s2 : List (Int × α)} (l1 : s1.length ≤ 1000000) (l2 : s2.length ≤ 1000000) :
    (∀ k p, (placesG 0 s1)[k]? = some p → Shows (noteD 1 (noteD 0 (.map []) 0 0 s1) 0 0 s2) (klit k 0) p) ∧ ∀ k p, (placesG 0 s2)[k]? = some p → Shows (noteD 1 (noteD 0 (.map []) 0 0 s1) 0 0 s2) (klit k 1) p := by
  have e0 : ∀ kl, Maps.has (.map [] : MD) kl = false := fun kl => rfl
  constructor
  · intro k p h
    have hk : k < 4000000000 := by
      have h1 := (List.getElem?_eq_some_iff.1 h).1
      have : ∀ (r : List (Int × α)) (j : Nat), (placesG j r).length ≤ r.length := fun r => by
        induction r with
        | nil => intro j; simp [placesG]
        | cons e r ih =>
          intro j
          rw [placesG]
          split
          · simp; exact ih _
          · split
            · simp; exact ih _
            · exact Nat.le_trans (ih _) (by simp)
      have := this s1 0
      omega
    have := noteD_shows (s := 0) (by omega) s1 (.map []) 0 0 Maps.isMap_empty (by omega) (fun _ _ _ => e0 _) k p h
    rw [Nat.zero_add] at this
    obtain ⟨g1, g2⟩ := noteD_other (s := 1) (kl := klit k 0) s2 (noteD 0 (.map []) 0 0 s1) 0 0 fun k' _ hk' e => by
      have := (klit_inj (by omega) (by omega) (by omega) (by omega) e).2
      omega
    exact ⟨fun h => g1.trans (this.1 h), fun h => ⟨g1.trans (this.2 h).1, fun z => (g2 z).trans ((this.2 h).2 z)⟩⟩
  · intro k p h
    have := noteD_shows (s := 1) (by omega) s2 (noteD 0 (.map []) 0 0 s1) 0 0 (noteD_map _ _ _ _ Maps.isMap_empty) (by omega) (fun k' _ hk' => by
      rw [(noteD_other (s := 0) (kl := klit k' 1) s1 (.map []) 0 0 fun j _ hj e => by
        have := (klit_inj (by omega) (by omega) (by omega) (by omega) e).2
        omega).1]
      rfl) k p h
    rw [Nat.zero_add] at this
    exact this
end
abbrev OwnM (w : World) (b n : Nat) (D : MD) : Prop := w.ownsMap Tryz.prog 203 (plainElem Tryz.prog 3) b n D
theorem OwnM.apart {w : World} {b n : Nat} {D : MD} (h : OwnM w b n D) {a : Addr} {v : Value} (hc : w.cell? a = some v) : a.block ≠ b := by
  obtain ⟨es, c, hb, _⟩ := h
  intro e
  unfold World.cell? at hc
  rw [e, hb] at hc
  simp at hc
theorem SlE.grown {w w' : World} {b n : Nat} {D : MD} {v : Value} {es : List (Int × List UInt8)} (h : SlE w v es) (hm : OwnM w b n D) (hg : w.grownBy w' (some b)) : SlE w' v es := by
  obtain ⟨ao, cap, rfl, hn, hcap, hc⟩ := h
  refine ⟨ao, cap, rfl, hn, hcap, fun a ha i e he => ?_⟩
  obtain ⟨h1, h2⟩ := hc a ha i e he
  exact ⟨hg.cell h1 (fun e => hm.apart h1 (Option.some.inj e)), hg.cell h2 (fun e => hm.apart h2 (Option.some.inj e))⟩
theorem note_at {α : Type} {es : List (Int × α)} {k : Nat} {c : Int} {x : α} (h : es[k]? = some (c, x)) (s : Nat) (D : MD) (i j : Nat) :
    noteD s D i j (es.drop k) = if c = 1 then noteD s (D.put (klit i s) (numD j)) (i + 1) (j + 1) (es.drop (k + 1)) else if c = 2 then noteD s D (i + 1) j (es.drop (k + 1)) else noteD s D i (j + 1) (es.drop (k + 1)) := by
  obtain ⟨q, e⟩ := List.getElem?_eq_some_iff.1 h
  rw [List.drop_eq_getElem_cons q, e]
  rfl
section
set_option maxRecDepth 100000
set_option maxHeartbeats 4000000
theorem DNote_any (b n s : Nat) (vs v : Value) (es : List (Int × List UInt8)) (D : MD) (w : World) (hvs : vs = .int .u8 (s : Int)) (hs : s < 256) (hv : SlE w v es) (hm : OwnM w b n D) (hk : Kinds es) (hl : es.length ≤ 1000000) (hn : n ≤ 1000000) :
    Calls Tryz.prog 170 #[.map (some b), vs, v] w fun e w' => e = .returned (.tuple #[]) ∧ OwnM w' b (n + es.length) (noteD s D 0 0 es) ∧ w.grownBy w' (some b) := by
  subst hvs
  obtain ⟨ao, cap, rfl⟩ := hv.form
  have HV := hid hv
  have HM := hid hm
  have HKI := hid hk
  have HS := hid hs
  have HNL := hid (And.intro hl hn)
  clear hv hm hk hs hl hn
  go_enter Tryz.func170, Tryz.ntmps170
  go_wp2_with fail
  go_loopg [6, 7, 12] es.length (fun g i j m wx => ∃ (I J k : Nat) (E : MD), k ≤ es.length ∧ g = es.length - k ∧ i = .int .i64 I ∧ j = .int .i64 J ∧ m = .int .i64 k ∧ Hid (I ≤ k ∧ J ≤ k) ∧ Hid (noteD s E I J (es.drop k) = noteD s D 0 0 es) ∧ Hid (OwnM wx b (n + k) E) ∧ Hid (w.grownBy wx (some b)))
  case atStart => exact ⟨0, 0, 0, D, Nat.zero_le _, rfl, rfl, rfl, rfl, hid ⟨Nat.le_refl _, Nat.le_refl _⟩, hid (by rw [List.drop_zero]), HM, hid ⟨rfl, rfl, rfl, Nat.le_refl _, fun _ _ _ => rfl⟩⟩
  case round =>
    obtain ⟨I, J, k, E, hk, rfl, rfl, rfl, rfl, HIJ, HE, HO, HG⟩ := hrel
    have k0 : (0 : Int) ≤ (k : Int) := Int.natCast_nonneg _
    have I0 : (0 : Int) ≤ (I : Int) := Int.natCast_nonneg _
    have J0 : (0 : Int) ≤ (J : Int) := Int.natCast_nonneg _
    by_cases hlt : k < es.length
    · have k1 : (k : Int) < (es.length : Int) := by omega
      have kw : IntKind.i64.wrap ((k : Int) + 1) = (k : Int) + 1 := IntWalk.i64_in _ (by have := HNL.out; omega)
      have iw : IntKind.i64.wrap ((I : Int) + 1) = (I : Int) + 1 := IntWalk.i64_in _ (by have h1 := HNL.out; have h2 := HIJ.out; omega)
      have jw : IntKind.i64.wrap ((J : Int) + 1) = (J : Int) + 1 := IntWalk.i64_in _ (by have h1 := HNL.out; have h2 := HIJ.out; omega)
      obtain ⟨be, oe, c, x, rfl, hc, hd, he⟩ := (HV.out.grown HM.out HG.out).at' (i := k) hlt
      have HST := hid (note_at he s E I J)
      have HKC := hid (HKI.out _ (List.mem_of_getElem? he))
      clear he
      by_cases h1 : c = 1
      · subst h1
        have HX := hid (show noteD s (E.put (klit I s) (numD J)) (I + 1) (J + 1) (es.drop (k + 1)) = noteD s D 0 0 es by rw [← HE.out, HST.out, if_pos rfl])
        have HKEY := hid (spot_key (i := I) (s := s) (by have h1 := HNL.out; have h2 := HIJ.out; omega) HS.out)
        have HWF := hid (show (Lit.int .i64 (J : Int)).wf = true by have h1 := HNL.out; have h2 := HIJ.out; simp [Lit.wf, IntKind.min, IntKind.max, IntKind.signed, IntKind.bits]; omega)
        have HN := hid (show n + k < maxLen by have h1 := HNL.out; unfold maxLen; omega)
        clear HE HST
        go_wp2_with (at_mapUpdate; refine wpList_mapUpdate_own _ rfl _ _ _ 199 rfl 203 3 Tryz.spotLaw Tryz.underlying199 _ b (n + k) E rfl (HO.out.alloc _) HN.out _ _ (klit I s) rfl rfl HKEY.out (numD J) [] (plainElem_int Tryz.underlying3 HWF.out) ?_; intro w1 hown1 hgrow1; have HO1 := hid hown1; have HG1 := hid (HG.out.trans ((World.grownBy_alloc wr _ (some b)).trans hgrow1)); clear hown1 hgrow1)
        go_wp2_with fail
        go_roundg (es.length - (k + 1))
        case measure => omega
        case rel => exact ⟨I + 1, J + 1, k + 1, _, by omega, rfl, by go_num, by go_num, by go_num, hid (by have := HIJ.out; omega), HX, HO1, HG1⟩
      · have c1b : (c == 1) = false := by simpa using h1
        by_cases h2 : c = 2
        · subst h2
          have HX := hid (show noteD s E (I + 1) J (es.drop (k + 1)) = noteD s D 0 0 es by rw [← HE.out, HST.out, if_neg (by decide), if_pos rfl])
          clear HE HST h1 c1b
          go_wp2_with fail
          go_roundg (es.length - (k + 1))
          case measure => omega
          case rel => exact ⟨I + 1, J, k + 1, E, by omega, rfl, by go_num, rfl, by go_num, hid (by have := HIJ.out; omega), HX, hid ((HO.out.alloc _).mono (by omega)), hid (HG.out.trans (World.grownBy_alloc wr _ (some b)))⟩
        · obtain rfl : c = 3 := by
            have := HKC.out
            simp only at this
            omega
          have HX := hid (show noteD s E I (J + 1) (es.drop (k + 1)) = noteD s D 0 0 es by rw [← HE.out, HST.out, if_neg (by decide), if_neg (by decide)])
          clear HE HST h1 h2 c1b
          go_wp2_with fail
          go_roundg (es.length - (k + 1))
          case measure => omega
          case rel => exact ⟨I, J + 1, k + 1, E, by omega, rfl, rfl, by go_num, by go_num, hid (by have := HIJ.out; omega), HX, hid ((HO.out.alloc _).mono (by omega)), hid (HG.out.trans (World.grownBy_alloc wr _ (some b)))⟩
    · obtain rfl : k = es.length := by omega
      have hneg : ¬ (es.length : Int) < (es.length : Int) := by omega
      have HX := hid (show E = noteD s D 0 0 es by rw [← HE.out, List.drop_length]; rfl)
      clear HE
      go_wp2_with fail
      refine bodyPost_end (results_none rfl _ _ _) rfl ?_
      rw [← HX.out]
      exact ⟨rfl, HO.out, HG.out⟩
end
end Go.Proofs.YtbnafihigoekeaaGreatDoor
namespace Go.Proofs.YtbnafihigoekeaaGreatDoor
open Go.RowKit
theorem grown_of_below {w w' : World} (h : Below w.heap.size w w') (row : Option Nat) : w.grownBy w' row := ⟨h.os, h.tape, h.output, h.size, fun k hk _ => h.block k hk⟩
theorem OwnM.old {w w' : World} {b n : Nat} {D : MD} (h : OwnM w b n D) (hk : Below w.heap.size w w') : OwnM w' b n D := World.ownsMap.kept h (grown_of_below hk none) (by simp)
theorem ownM_made (w : World) (g : Nat) (hg : w.heap.size = g) : OwnM (w.alloc (.map #[] 0)) g 0 (.map []) := hg ▸ World.ownsMap_made w _ _ _
section
set_option maxRecDepth 100000
set_option maxHeartbeats 4000000
theorem DKept_any (va vb vc : Value) (a b c : List (List UInt8)) (w : World) (ha : Sl w va (strCells a)) (hb : Sl w vb (strCells b)) (hc : Sl w vc (strCells c)) (la : a.length ≤ 3000) (lb : b.length ≤ 3000) (lc : c.length ≤ 3000) :
    Calls Tryz.prog 147 #[.agg #[va, vb, vc]] w fun e w' => ∃ g n D, e = .returned (.map (some g)) ∧ w.heap.size ≤ g ∧ g < w'.heap.size ∧ OwnM w' g n D ∧ (∀ k p, (placesS a b)[k]? = some p → Shows D (klit k 0) p) ∧ (∀ k p, (placesS a c)[k]? = some p → Shows D (klit k 1) p) ∧ Below w.heap.size w w' := by
  have hmm := @run_makeMap Tryz.prog
  obtain ⟨aa, ca, rfl⟩ := ha.form
  obtain ⟨ab, cb, rfl⟩ := hb.form
  obtain ⟨ac, cc, rfl⟩ := hc.form
  rw [strCells_length] at ha hb hc ⊢
  rw [strCells_length, strCells_length]
  have l1 : (scriptS a b).length ≤ 1000000 := by
    have := (scriptS_all a b).2.2.2
    omega
  have l2 : (scriptS a c).length ≤ 1000000 := by
    have := (scriptS_all a c).2.2.2
    omega
  have HN := hid (noted_both l1 l2)
  have HK1 := hid (show Kinds (scriptS a b) from (scriptS_all a b).1)
  have HK2 := hid (show Kinds (scriptS a c) from (scriptS_all a c).1)
  have HL := hid (And.intro l1 l2)
  have HLL := hid (And.intro la (And.intro lb lc))
  have HA := hid ha
  have HB := hid hb
  have HC := hid hc
  clear l1 l2 ha hb hc la lb lc
  unfold placesS
  obtain ⟨s1, hs1⟩ : ∃ s, scriptS a b = s := ⟨_, rfl⟩
  obtain ⟨s2, hs2⟩ : ∃ s, scriptS a c = s := ⟨_, rfl⟩
  rw [hs1] at HN HK1 HL
  rw [hs2] at HN HK2 HL
  rw [hs1, hs2]
  have HS1 := hid hs1
  have HS2 := hid hs2
  clear hs1 hs2
  have B1 : Below w.heap.size w ((w.alloc (.cells #[.slice aa a.length ca, .slice ab b.length cb, .slice ac c.length cc] 162)).alloc (.map #[] 0)) := ((Below.refl _ w).alloc (Nat.le_refl _) _).alloc (by simp) _
  have hblk : ((w.alloc (.cells #[.slice aa a.length ca, .slice ab b.length cb, .slice ac c.length cc] 162)).alloc (.map #[] 0)).heap[w.heap.size]? = some (.cells #[.slice aa a.length ca, .slice ab b.length cb, .slice ac c.length cc] 162 (0, 0)) := (Below.heap_alloc _ _ _ (by simp)).trans (heap_alloc_new w _)
  have HM0 := hid (ownM_made (w.alloc (.cells #[.slice aa a.length ca, .slice ab b.length cb, .slice ac c.length cc] 162)) (w.heap.size + 1) (by simp))
  have HSC1 := hid (DScript_any _ _ a b _ (Sl.old HA.out B1) (Sl.old HB.out B1) (by have := HLL.out; omega) (by have := HLL.out; omega))
  rw [HS1.out] at HSC1
  have c0 := blk_cell (i := 0) hblk rfl
  have c1 := blk_cell (i := 1) hblk rfl
  have c2 := blk_cell (i := 2) hblk rfl
  have HBL := hid hblk
  have HB1 := hid B1
  clear hblk B1
  go_enter Tryz.func147, Tryz.ntmps147
  go_wp2_with (go_at_call 171; refine HSC1.out.mono ?_; rintro e w3 ⟨l, rfl, hE, hb3⟩)
  have z3 := hb3.size
  simp only [World.size_alloc] at z3
  have HM3 := hid (OwnM.old HM0.out hb3)
  have HB3 := hid (below_step HB1.out hb3 HB1.out.size)
  obtain ⟨lo, lcap, rfl⟩ := hE.form
  have HN1 := hid (DNote_any _ _ 0 (.int .u8 0) _ s1 _ w3 rfl (by omega) hE.slE HM3.out HK1.out HL.out.1 (Nat.zero_le _))
  have HBL3 := hid ((hb3.block w.heap.size (by simp; omega)).trans HBL.out)
  clear hE hb3 HSC1 HM0 HBL HB1 c0 c1 c2
  go_wp2_with (first
    | (go_at_call 170; with_reducible refine HN1.out.mono ?_; rintro e w4 ⟨rfl, hm4, hg4⟩
       have hb4 : Below w.heap.size w w4 := HB3.out.grown hg4 HB3.out.size (fun j hj => by cases hj; omega)
       have HM4 := hid hm4
       have HB4 := hid hb4
       have hbl4 := (hg4.block w.heap.size (by omega) (by simp)).trans HBL3.out
       have HBL4 := hid hbl4
       have d0 := blk_cell (i := 0) hbl4 rfl
       have d2 := blk_cell (i := 2) hbl4 rfl
       have z4 := hg4.size
       have HSC2 := hid (DScript_any _ _ a c _ (Sl.old HA.out hb4) (Sl.old HC.out hb4) (by have := HLL.out; omega) (by have := HLL.out; omega))
       rw [HS2.out] at HSC2
       clear hm4 hg4 hb4 hbl4 HN1)
    | (go_at_call 171; with_reducible refine HSC2.out.mono ?_; rintro e w5 ⟨l2, rfl, hE5, hb5⟩
       have HM5 := hid (OwnM.old HM4.out hb5)
       have HB5 := hid (below_step HB4.out hb5 HB4.out.size)
       have z5 := hb5.size
       obtain ⟨lo5, lcap5, rfl⟩ := hE5.form
       have HN2 := hid (DNote_any _ _ 1 (.int .u8 1) _ s2 _ w5 rfl (by omega) hE5.slE HM5.out HK2.out HL.out.2 (by have := HL.out.1; omega))
       clear hE5 hb5 HSC2 d0 d2)
    | (go_at_call 170; with_reducible refine HN2.out.mono ?_; rintro e w6 ⟨rfl, hm6, hg6⟩
       have HM6 := hid hm6
       have HB6 := hid (HB5.out.grown hg6 HB5.out.size (fun j hj => by cases hj; omega))
       have z6 := hg6.size
       clear hm6 hg6 HN2))
  go_ret
  exact ⟨_, _, _, rfl, by omega, by omega, HM6.out, HN.out.1, HN.out.2, HB6.out⟩
end
end Go.Proofs.YtbnafihigoekeaaGreatDoor

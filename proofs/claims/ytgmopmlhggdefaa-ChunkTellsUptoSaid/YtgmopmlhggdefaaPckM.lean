/-
  Chunks (P9.1) by firm runs, as the landed code makes them: mathematics.
-/
import Derived.Test.YtgmopmlhggdefaaCkW
namespace Go.Proofs.Ytgmopmlhggdefaa

/-- a place in each of the three texts; a run from one to another one -/
abbrev Cor := Nat × Nat × Nat
abbrev Rn := Cor × Cor
def nextC (c : Cor) : Cor := (c.1 + 1, c.2.1 + 1, c.2.2 + 1)
/-- one line more: it stands at p in ours, at q in theirs -/
def runStep (l : List Rn) (i : Nat) (p q : Int) : List Rn :=
  if p < 0 ∨ q < 0 then l
  else match l.getLast? with
    | some r => if r.2 = (i, p.toNat, q.toNat) then l.dropLast ++ [(r.1, nextC (i, p.toNat, q.toNat))] else l ++ [((i, p.toNat, q.toNat), nextC (i, p.toNat, q.toNat))]
    | none => [((i, p.toNat, q.toNat), nextC (i, p.toNat, q.toNat))]
def runsUp : Nat → List Rn → List Int → List Int → List Rn
  | i, l, p :: xs, q :: ys => runsUp (i + 1) (runStep l i p q) xs ys
  | _, l, _, _ => l
/-- .. the last one open -/
def runsR : Option Rn → Nat → List Int → List Int → List Rn
  | none, i, p :: xs, q :: ys => if p < 0 ∨ q < 0 then runsR none (i + 1) xs ys else runsR (some ((i, p.toNat, q.toNat), nextC (i, p.toNat, q.toNat))) (i + 1) xs ys
  | some r, i, p :: xs, q :: ys => if p < 0 ∨ q < 0 then runsR (some r) (i + 1) xs ys else if r.2 = (i, p.toNat, q.toNat) then runsR (some (r.1, nextC (i, p.toNat, q.toNat))) (i + 1) xs ys else r :: runsR (some ((i, p.toNat, q.toNat), nextC (i, p.toNat, q.toNat))) (i + 1) xs ys
  | op, _, _, _ => op.toList
theorem runsUp_some (xs : List Int) : ∀ (ys : List Int) (i : Nat) (l : List Rn) (r : Rn), runsUp i (l ++ [r]) xs ys = l ++ runsR (some r) i xs ys := by
  induction xs with
  | nil => intro ys i l r; simp [runsUp, runsR]
  | cons p xs ih =>
    intro ys i l r
    cases ys with
    | nil => simp [runsUp, runsR]
    | cons q ys =>
      rw [runsUp, runsR, runStep]
      split
      · exact ih ys (i + 1) l r
      · rw [List.getLast?_concat, List.dropLast_concat]
        simp only []
        split
        · exact ih ys (i + 1) l _
        · rw [ih ys (i + 1) (l ++ [r]), List.append_assoc]
          rfl
theorem runsUp_none (xs : List Int) : ∀ (ys : List Int) (i : Nat), runsUp i [] xs ys = runsR none i xs ys := by
  induction xs with
  | nil => intro ys i; simp [runsUp, runsR]
  | cons p xs ih =>
    intro ys i
    cases ys with
    | nil => simp [runsUp, runsR]
    | cons q ys =>
      rw [runsUp, runsR, runStep]
      split
      · exact ih ys (i + 1)
      · exact runsUp_some xs ys (i + 1) [] _

section
variable {α : Type}
def cutL (l : List α) (a b : Nat) : List α := (l.drop a).take (b - a)
theorem cutL_nil (l : List α) (a : Nat) : cutL l a a = [] := by simp [cutL]
theorem cutL_snoc {l : List α} {a b : Nat} {z : α} (h : a ≤ b) (hz : l[b]? = some z) : cutL l a b ++ [z] = cutL l a (b + 1) := take_more h hz
theorem cutL_ne {l : List α} {a b : Nat} (h : a < b) (hb : b ≤ l.length) : cutL l a b ≠ [] := by
  intro e
  have := congrArg List.length e
  simp [cutL] at this
  omega
theorem cutL_one {l : List α} {a : Nat} {z : α} (hz : l[a]? = some z) : cutL l a (a + 1) = [z] := by
  have := cutL_snoc (Nat.le_refl a) hz
  rw [cutL_nil] at this
  exact this.symm
theorem cutL_len {l : List α} {a b : Nat} (h : a ≤ b) (hb : b ≤ l.length) : (cutL l a b).length = b - a := by simp [cutL]; omega
theorem cutL_end {l : List α} {a : Nat} : cutL l a l.length = l.drop a := by
  unfold cutL
  rw [List.take_of_length_le]
  simp
/-- runs that stand one behind the other, behind d, ahead of e -/
def RunsOk (e : Cor) : Cor → List Rn → Prop
  | d, [] => d.1 ≤ e.1 ∧ d.2.1 ≤ e.2.1 ∧ d.2.2 ≤ e.2.2
  | d, (f, t) :: rs => (d.1 ≤ f.1 ∧ d.2.1 ≤ f.2.1 ∧ d.2.2 ≤ f.2.2) ∧ (f.1 ≤ t.1 ∧ f.2.1 ≤ t.2.1 ∧ f.2.2 ≤ t.2.2) ∧ (t.1 ≤ e.1 ∧ t.2.1 ≤ e.2.1 ∧ t.2.2 ≤ e.2.2) ∧ RunsOk e t rs
theorem RunsOk.low {e : Cor} {rs : List Rn} {d d' : Cor} (h : RunsOk e d rs) (h1 : d'.1 ≤ d.1) (h2 : d'.2.1 ≤ d.2.1) (h3 : d'.2.2 ≤ d.2.2) : RunsOk e d' rs := by
  cases rs with
  | nil => exact ⟨Nat.le_trans h1 h.1, Nat.le_trans h2 h.2.1, Nat.le_trans h3 h.2.2⟩
  | cons r rs => exact ⟨⟨Nat.le_trans h1 h.1.1, Nat.le_trans h2 h.1.2.1, Nat.le_trans h3 h.1.2.2⟩, h.2⟩
/-- kept lines are alike -/
theorem placesG_kept (s : List (Int × α)) (hK : Kinds s) : ∀ (n i : Nat) (p : Int), (placesG n s)[i]? = some p → ¬ p < 0 → n ≤ p.toNat ∧ (sideS 3 s)[p.toNat - n]? = (sideS 2 s)[i]? ∧ p.toNat - n < (sideS 3 s).length := by
  induction s with
  | nil => intro n i p h; simp [placesG] at h
  | cons e s ih =>
    obtain ⟨k, x⟩ := e
    intro n i p h h0
    rw [sideS_cons, sideS_cons]
    rcases hK (k, x) (List.mem_cons_self ..) with e | e | e
    · simp only at e; subst e
      rw [placesG, if_pos rfl] at h
      rw [if_pos (by simp), if_pos (by simp)]
      cases i with
      | zero =>
        simp only [List.getElem?_cons_zero, Option.some.injEq] at h
        subst h
        simp
      | succ i =>
        simp only [List.getElem?_cons_succ] at h
        obtain ⟨h1, h2, h3⟩ := ih hK.tail (n + 1) i p h h0
        refine ⟨by omega, ?_, by simp; omega⟩
        rw [show p.toNat - n = (p.toNat - (n + 1)) + 1 by omega]
        simpa using h2
    · simp only at e; subst e
      rw [placesG, if_neg (by simp), if_pos rfl] at h
      rw [if_neg (by simp), if_pos (by simp)]
      cases i with
      | zero =>
        simp only [List.getElem?_cons_zero, Option.some.injEq] at h
        omega
      | succ i =>
        simp only [List.getElem?_cons_succ] at h
        obtain ⟨h1, h2, h3⟩ := ih hK.tail n i p h h0
        exact ⟨h1, by simpa using h2, h3⟩
    · simp only at e; subst e
      rw [placesG, if_neg (by simp), if_neg (by simp)] at h
      rw [if_pos (by simp), if_neg (by simp)]
      obtain ⟨h1, h2, h3⟩ := ih hK.tail (n + 1) i p h h0
      refine ⟨by omega, ?_, by simp; omega⟩
      rw [show p.toNat - n = (p.toNat - (n + 1)) + 1 by omega]
      simpa using h2
end

section
variable {α : Type} [DecidableEq α]
theorem placesS_kept {a b : List α} (ha : a.length ≤ 400) (hb : b.length ≤ 400) {i : Nat} {p : Int} (h : (placesS a b)[i]? = some p) (h0 : ¬ p < 0) : b[p.toNat]? = a[i]? ∧ p.toNat < b.length := by
  unfold placesS at h
  rw [scriptS_short ha hb] at h
  obtain ⟨_, h2, h3⟩ := placesG_kept _ (goS_kinds a b) 0 i p h h0
  rw [(goS_sides a b).1, (goS_sides a b).2.1] at h2
  rw [(goS_sides a b).2.1] at h3
  exact ⟨by simpa using h2, by simpa using h3⟩
variable (base ours theirs : List α)
def ofRuns : Cor → List Rn → List (Ck α)
  | d, [] => gapCk (base.drop d.1) (ours.drop d.2.1) (theirs.drop d.2.2)
  | d, (f, t) :: rs => gapCk (cutL base d.1 f.1) (cutL ours d.2.1 f.2.1) (cutL theirs d.2.2 f.2.2) ++ (1, cutL base f.1 t.1, cutL ours f.2.1 t.2.1, cutL theirs f.2.2 t.2.2) :: ofRuns t rs
theorem gapCk_nil : gapCk ([] : List α) [] [] = [] := by simp [gapCk]
theorem ofRuns_first (f d : Cor) : ∀ (xs ys : List Int) (i : Nat) (t : Cor), ofRuns base ours theirs d (runsR (some (f, t)) i xs ys) = gapCk (cutL base d.1 f.1) (cutL ours d.2.1 f.2.1) (cutL theirs d.2.2 f.2.2) ++ ofRuns base ours theirs f (runsR (some (f, t)) i xs ys) := by
  have one : ∀ (t : Cor) rs, ofRuns base ours theirs d ((f, t) :: rs) = gapCk (cutL base d.1 f.1) (cutL ours d.2.1 f.2.1) (cutL theirs d.2.2 f.2.2) ++ ofRuns base ours theirs f ((f, t) :: rs) := fun t rs => by
    rw [ofRuns, ofRuns, cutL_nil, cutL_nil, cutL_nil, gapCk_nil, List.nil_append]
  intro xs
  induction xs with
  | nil => intro ys i t; rw [runsR]; exact one t []; all_goals simp
  | cons p xs ih =>
    intro ys i t
    cases ys with
    | nil => rw [runsR]; exact one t []; all_goals simp
    | cons q ys =>
      rw [runsR]
      split
      · exact ih ys (i + 1) t
      · split
        · exact ih ys (i + 1) _
        · exact one t _
theorem build_gap (bb oo tt : List α) (r : List (It α)) : build [] (.gap bb oo tt :: r) = gapCk bb oo tt ++ build [] r := by
  rw [build]
  unfold gapCk
  split
  · simp
  · simp [stab]
theorem build_line (z : α) (r : List (It α)) : build [] (.line z :: r) = build [z] r := by rw [build]; rfl
omit [DecidableEq α] in
theorem kept_of {l base : List α} {X : List Int} (hX : ∀ (i : Nat) (p : Int), X[i]? = some p → ¬ p < 0 → l[p.toNat]? = base[i]? ∧ p.toNat < l.length) {i : Nat} {z : α} (hz : base[i]? = some z) {p : Int} {xs : List Int} (hx : X.drop i = p :: xs) (h0 : ¬ p < 0) : l[p.toNat]? = some z := by
  have : X[i]? = some p := by
    have := congrArg List.head? hx
    simpa using this
  rw [(hX i p this h0).1, hz]
theorem drop_next {β : Type} {X : List β} {i : Nat} {p : β} {xs : List β} (hx : X.drop i = p :: xs) : X.drop (i + 1) = xs := by
  have := congrArg (List.drop 1) hx
  rw [List.drop_drop] at this
  simpa using this
theorem drop_at {β : Type} {X : List β} {i : Nat} {p : β} {xs : List β} (hx : X.drop i = p :: xs) : X[i]? = some p := by
  have := congrArg List.head? hx
  simpa using this
variable {X Y : List Int}
theorem build_open (hX : ∀ (i : Nat) (p : Int), X[i]? = some p → ¬ p < 0 → ours[p.toNat]? = base[i]? ∧ p.toNat < ours.length) (hY : ∀ (i : Nat) (p : Int), Y[i]? = some p → ¬ p < 0 → theirs[p.toNat]? = base[i]? ∧ p.toNat < theirs.length) :
    ∀ (bs : List α) (xs ys : List Int) (i : Nat) (f t : Cor), base.drop i = bs → X.drop i = xs → Y.drop i = ys → bs.length = xs.length → bs.length = ys.length → Asc ours.length t.2.1 xs → Asc theirs.length t.2.2 ys →
      f.1 < t.1 → f.2.1 ≤ t.2.1 → f.2.2 ≤ t.2.2 → t.1 ≤ i → i ≤ base.length → t.2.1 ≤ ours.length → t.2.2 ≤ theirs.length → cutL ours f.2.1 t.2.1 = cutL base f.1 t.1 → cutL theirs f.2.2 t.2.2 = cutL base f.1 t.1 →
      build (cutL base f.1 t.1) (gapsP ours theirs (cutL base t.1 i) t.2.1 t.2.2 bs xs ys) = ofRuns base ours theirs f (runsR (some (f, t)) i xs ys) ∧ RunsOk (base.length, ours.length, theirs.length) f (runsR (some (f, t)) i xs ys) := by
  intro bs
  induction bs with
  | nil =>
    intro xs ys i f t hb hx hy l1 l2 ax ay g1 g2 g3 g4 g5 g6 g7 k1 k2
    obtain rfl : xs = [] := List.eq_nil_of_length_eq_zero l1.symm
    obtain rfl : ys = [] := List.eq_nil_of_length_eq_zero l2.symm
    have hi : base.length ≤ i := by simpa using hb
    obtain rfl : i = base.length := by omega
    have hne : cutL base f.1 t.1 ≠ [] := cutL_ne g1 g4
    have e1 : runsR (some (f, t)) base.length [] [] = [(f, t)] := by simp [runsR]
    have e2 : gapsP ours theirs (cutL base t.1 base.length) t.2.1 t.2.2 [] [] [] = [.gap (cutL base t.1 base.length) (ours.drop t.2.1) (theirs.drop t.2.2)] := by simp [gapsP]
    rw [e1, e2]
    refine ⟨?_, ⟨⟨Nat.le_refl _, Nat.le_refl _, Nat.le_refl _⟩, ⟨Nat.le_of_lt g1, g2, g3⟩, ⟨g4, g6, g7⟩, ⟨g4, g6, g7⟩⟩⟩
    rw [ofRuns, ofRuns, cutL_nil, cutL_nil, cutL_nil, gapCk_nil, List.nil_append, k1, k2, cutL_end, gapCk]
    by_cases h : base.drop t.1 = [] ∧ ours.drop t.2.1 = [] ∧ theirs.drop t.2.2 = []
    · rw [build, if_pos h, if_pos h, build, stab, if_neg hne]
    · rw [build, if_neg h, if_neg h, build, stab, if_neg hne]
      simp [stab]
  | cons z bs ih =>
    intro xs ys i f t hb hx hy l1 l2 ax ay g1 g2 g3 g4 g5 g6 g7 k1 k2
    cases xs with
    | nil => simp at l1
    | cons p xs =>
    cases ys with
    | nil => simp at l2
    | cons q ys =>
    have hz := drop_at hb
    have hb' := drop_next hb
    have hx' := drop_next hx
    have hy' := drop_next hy
    have hil : i < base.length := (List.getElem?_eq_some_iff.1 hz).1
    simp only [List.length_cons, Nat.add_right_cancel_iff] at l1 l2
    rw [gapsP, runsR]
    by_cases hf : p < 0 ∨ q < 0
    · rw [if_pos hf, if_pos hf]
      have ax' : Asc ours.length t.2.1 xs := by
        rcases ax with ⟨_, h⟩ | ⟨j, _, hj, _, h⟩
        · exact h
        · exact h.mono (by omega)
      have ay' : Asc theirs.length t.2.2 ys := by
        rcases ay with ⟨_, h⟩ | ⟨j, _, hj, _, h⟩
        · exact h
        · exact h.mono (by omega)
      rw [cutL_snoc g4 hz]
      exact ih xs ys (i + 1) f t hb' hx' hy' l1 l2 ax' ay' g1 g2 g3 (by omega) (by omega) g6 g7 k1 k2
    · rw [if_neg hf, if_neg hf]
      rcases ax with ⟨hp, _⟩ | ⟨j, rfl, j1, j2, ax⟩
      · exact absurd (Or.inl (by omega)) hf
      rcases ay with ⟨hp, _⟩ | ⟨k, rfl, m1, m2, ay⟩
      · exact absurd (Or.inr (by omega)) hf
      have oz : ours[j]? = some z := by simpa using kept_of hX hz hx (by omega)
      have tz : theirs[k]? = some z := by simpa using kept_of hY hz hy (by omega)
      rw [Int.toNat_natCast, Int.toNat_natCast]
      by_cases hc : t = (i, j, k)
      · subst hc
        rw [if_pos rfl, Nat.sub_self, Nat.sub_self, List.take_zero, List.take_zero, cutL_nil, build, if_pos ⟨rfl, rfl, rfl⟩, build, cutL_snoc (Nat.le_of_lt g1) hz]
        have := ih xs ys (i + 1) f (i + 1, j + 1, k + 1) hb' hx' hy' l1 l2 ax ay (by simp only at g1 ⊢; omega) (by simp only at g2 ⊢; omega) (by simp only at g3 ⊢; omega) (Nat.le_refl _) (by omega) (by simp only; omega) (by simp only; omega)
          (by rw [← cutL_snoc g2 oz, ← cutL_snoc (Nat.le_of_lt g1) hz, k1]) (by rw [← cutL_snoc g3 tz, ← cutL_snoc (Nat.le_of_lt g1) hz, k2])
        rw [cutL_nil] at this
        exact this
      · rw [if_neg (by exact hc)]
        have hne : ¬ (cutL base t.1 i = [] ∧ (ours.drop t.2.1).take (j - t.2.1) = [] ∧ (theirs.drop t.2.2).take (k - t.2.2) = []) := by
          rintro ⟨e1, e2, e3⟩
          apply hc
          have f1 : t.1 = i := by
            apply Classical.byContradiction
            intro h
            exact cutL_ne (l := base) (by omega) (by omega) e1
          have f2 : t.2.1 = j := by
            apply Classical.byContradiction
            intro h
            exact cutL_ne (l := ours) (by omega) (by omega) e2
          have f3 : t.2.2 = k := by
            apply Classical.byContradiction
            intro h
            exact cutL_ne (l := theirs) (by omega) (by omega) e3
          rw [← f1, ← f2, ← f3]
        have hrun : cutL base f.1 t.1 ≠ [] := cutL_ne g1 (by omega)
        obtain ⟨r1, r2⟩ := ih xs ys (i + 1) (i, j, k) (i + 1, j + 1, k + 1) hb' hx' hy' l1 l2 ax ay (by simp) (by simp) (by simp) (Nat.le_refl _) (by omega) (by simp only; omega) (by simp only; omega) (by rw [cutL_one oz, cutL_one hz]) (by rw [cutL_one tz, cutL_one hz])
        rw [cutL_one hz, cutL_nil] at r1
        refine ⟨?_, ⟨⟨Nat.le_refl _, Nat.le_refl _, Nat.le_refl _⟩, ⟨Nat.le_of_lt g1, g2, g3⟩, ⟨by simp only; omega, g6, g7⟩, RunsOk.low r2 g4 j1 m1⟩⟩
        rw [build_some _ _ _ _ _ hne, build_gap, build_line, r1, stab, if_neg hrun]
        show _ = ofRuns base ours theirs f ((f, t) :: _)
        rw [ofRuns, cutL_nil, cutL_nil, cutL_nil, gapCk_nil, List.nil_append, k1, k2]
        show _ = _ :: ofRuns base ours theirs t (runsR (some ((i, j, k), (i + 1, j + 1, k + 1))) (i + 1) xs ys)
        rw [ofRuns_first base ours theirs (i, j, k) t]
        rfl
theorem build_shut (hX : ∀ (i : Nat) (p : Int), X[i]? = some p → ¬ p < 0 → ours[p.toNat]? = base[i]? ∧ p.toNat < ours.length) (hY : ∀ (i : Nat) (p : Int), Y[i]? = some p → ¬ p < 0 → theirs[p.toNat]? = base[i]? ∧ p.toNat < theirs.length) :
    ∀ (bs : List α) (xs ys : List Int) (i : Nat), base.drop i = bs → X.drop i = xs → Y.drop i = ys → bs.length = xs.length → bs.length = ys.length → Asc ours.length 0 xs → Asc theirs.length 0 ys → i ≤ base.length →
      build [] (gapsP ours theirs (cutL base 0 i) 0 0 bs xs ys) = ofRuns base ours theirs (0, 0, 0) (runsR none i xs ys) ∧ RunsOk (base.length, ours.length, theirs.length) (0, 0, 0) (runsR none i xs ys) := by
  intro bs
  induction bs with
  | nil =>
    intro xs ys i hb hx hy l1 l2 ax ay g5
    obtain rfl : xs = [] := List.eq_nil_of_length_eq_zero l1.symm
    obtain rfl : ys = [] := List.eq_nil_of_length_eq_zero l2.symm
    have hi : base.length ≤ i := by simpa using hb
    obtain rfl : i = base.length := by omega
    have e1 : runsR none base.length [] [] = [] := by simp [runsR]
    have e2 : gapsP ours theirs (cutL base 0 base.length) 0 0 [] [] [] = [.gap (cutL base 0 base.length) (ours.drop 0) (theirs.drop 0)] := by simp [gapsP]
    rw [e1, e2]
    refine ⟨?_, ⟨Nat.zero_le _, Nat.zero_le _, Nat.zero_le _⟩⟩
    rw [ofRuns, cutL_end, build_gap, build]
    simp [stab]
  | cons z bs ih =>
    intro xs ys i hb hx hy l1 l2 ax ay g5
    cases xs with
    | nil => simp at l1
    | cons p xs =>
    cases ys with
    | nil => simp at l2
    | cons q ys =>
    have hz := drop_at hb
    have hb' := drop_next hb
    have hx' := drop_next hx
    have hy' := drop_next hy
    have hil : i < base.length := (List.getElem?_eq_some_iff.1 hz).1
    simp only [List.length_cons, Nat.add_right_cancel_iff] at l1 l2
    rw [gapsP, runsR]
    by_cases hf : p < 0 ∨ q < 0
    · rw [if_pos hf, if_pos hf]
      have ax' : Asc ours.length 0 xs := by
        rcases ax with ⟨_, h⟩ | ⟨j, _, hj, _, h⟩
        · exact h
        · exact h.mono (by omega)
      have ay' : Asc theirs.length 0 ys := by
        rcases ay with ⟨_, h⟩ | ⟨j, _, hj, _, h⟩
        · exact h
        · exact h.mono (by omega)
      rw [cutL_snoc (Nat.zero_le _) hz]
      exact ih xs ys (i + 1) hb' hx' hy' l1 l2 ax' ay' (by omega)
    · rw [if_neg hf, if_neg hf]
      rcases ax with ⟨hp, _⟩ | ⟨j, rfl, j1, j2, ax⟩
      · exact absurd (Or.inl (by omega)) hf
      rcases ay with ⟨hp, _⟩ | ⟨k, rfl, m1, m2, ay⟩
      · exact absurd (Or.inr (by omega)) hf
      have oz : ours[j]? = some z := by simpa using kept_of hX hz hx (by omega)
      have tz : theirs[k]? = some z := by simpa using kept_of hY hz hy (by omega)
      rw [Int.toNat_natCast, Int.toNat_natCast]
      obtain ⟨r1, r2⟩ := build_open base ours theirs hX hY bs xs ys (i + 1) (i, j, k) (i + 1, j + 1, k + 1) hb' hx' hy' l1 l2 ax ay (by simp) (by simp) (by simp) (Nat.le_refl _) (by omega) (by simp only; omega) (by simp only; omega) (by rw [cutL_one oz, cutL_one hz]) (by rw [cutL_one tz, cutL_one hz])
      rw [cutL_one hz, cutL_nil] at r1
      refine ⟨?_, RunsOk.low r2 (Nat.zero_le _) (Nat.zero_le _) (Nat.zero_le _)⟩
      rw [build_gap, build_line, r1]
      show _ = ofRuns base ours theirs (0, 0, 0) (runsR (some ((i, j, k), (i + 1, j + 1, k + 1))) (i + 1) xs ys)
      rw [ofRuns_first base ours theirs (i, j, k) (0, 0, 0)]
      rfl
/-- the chunks are those of the runs, which stand one behind the other -/
theorem chunks_runs {base ours theirs : List α} (hb : base.length ≤ 400) (ho : ours.length ≤ 400) (ht : theirs.length ≤ 400) :
    chunksS base ours theirs = ofRuns base ours theirs (0, 0, 0) (runsUp 0 [] (placesS base ours) (placesS base theirs)) ∧ RunsOk (base.length, ours.length, theirs.length) (0, 0, 0) (runsUp 0 [] (placesS base ours) (placesS base theirs)) := by
  rw [runsUp_none]
  exact build_shut base ours theirs (X := placesS base ours) (Y := placesS base theirs) (fun i p h h0 => placesS_kept hb ho h h0) (fun i p h h0 => placesS_kept hb ht h h0) base _ _ 0 rfl rfl rfl (placesS_length hb ho).symm (placesS_length hb ht).symm (placesS_asc hb ho) (placesS_asc hb ht) (Nat.zero_le _)
end
end Go.Proofs.Ytgmopmlhggdefaa

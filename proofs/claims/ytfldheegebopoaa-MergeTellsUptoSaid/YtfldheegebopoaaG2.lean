/-
  Chunks (P9.1) by firm runs, as the landed code makes them: mathematics. Package chunk: where a side has the lines of base (a map keyed by line and side): note, kept. Package chunk: kept. Lists of runs of the call's own: what they show, an append, a store into the last one; corners. Package chunk: runs. Corners that differ. Package chunk: copied, piece. slices.Equal at lists of texts. Package chunk: changed. Package chunk: Clean, Merged. Package chunk: Of, Clean, Merged, each by a contract.
-/
import Derived.Test.YtfldheegebopoaaScG
import Derived.Test.YtfldheegebopoaaG1
import Derived.Maps.OwnSet
import Derived.Maps.AppendAt
import Derived.DeepKeys4
import Derived.Deep.LoopGhost
import Derived.Deep.AppendSrc
import Derived.Laws.Tables
import Derived.Test.YtfldheegebopoaaEdB
import Derived.Deep.RegionHeld3
import Derived.Deep.QuietTactic
import Derived.Test.YtfldheegebopoaaCkB
import Derived.Test.YtfldheegebopoaaCutS
import Derived.Test.YtfldheegebopoaaHelpS
import Derived.Test.YtfldheegebopoaaEdit
import Derived.Deep.DrawnRows
import Derived.Test.YtfldheegebopoaaCkR
namespace Go.Proofs.Ytfldheegebopoaa

/-- a place in each of the three texts; a run from one to another one -/
abbrev Cor := Nat × Nat × Nat
abbrev Rn := Cor × Cor
def nextC (c : Cor) : Cor := (c.1 + 1, c.2.1 + 1, c.2.2 + 1)
/-- one line more: it stands at p in ours, at q in theirs -/
def runStep (l : List Rn) (i : Nat) (p q : Int) : List Rn :=
  if p < 0 ∨ q < 0 then l
  else match l.getLast? with
    | some r => if r.2 = (i, p.toNat, q.toNat) then l.dropLast ++ [(r.1, nextC (i, p.toNat, q.toNat))] else l ++ [((i, p.toNat, q.toNat), nextC (i, p.toNat, q.toNat))]
    | none => [((i, p.toNat, q.toNat), nextC (i, p.toNat, q.toNat))]
def runsUp : Nat → List Rn → List Int → List Int → List Rn
  | i, l, p :: xs, q :: ys => runsUp (i + 1) (runStep l i p q) xs ys
  | _, l, _, _ => l
/-- .. the last one open -/
def runsR : Option Rn → Nat → List Int → List Int → List Rn
  | none, i, p :: xs, q :: ys => if p < 0 ∨ q < 0 then runsR none (i + 1) xs ys else runsR (some ((i, p.toNat, q.toNat), nextC (i, p.toNat, q.toNat))) (i + 1) xs ys
  | some r, i, p :: xs, q :: ys => if p < 0 ∨ q < 0 then runsR (some r) (i + 1) xs ys else if r.2 = (i, p.toNat, q.toNat) then runsR (some (r.1, nextC (i, p.toNat, q.toNat))) (i + 1) xs ys else r :: runsR (some ((i, p.toNat, q.toNat), nextC (i, p.toNat, q.toNat))) (i + 1) xs ys
  | op, _, _, _ => op.toList
theorem runsUp_some (xs : List Int) : ∀ (ys : List Int) (i : Nat) (l : List Rn) (r : Rn), runsUp i (l ++ [r]) xs ys = l ++ runsR (some r) i xs ys := by
  induction xs with
  | nil => intro ys i l r; simp [runsUp, runsR]
  | cons p xs ih =>
    intro ys i l r
    cases ys with
    | nil => simp [runsUp, runsR]
    | cons q ys =>
      rw [runsUp, runsR, runStep]
      split
      · exact ih ys (i + 1) l r
      · rw [List.getLast?_concat, List.dropLast_concat]
        simp only []
        split
        · exact ih ys (i + 1) l _
        · rw [ih ys (i + 1) (l ++ [r]), List.append_assoc]
          rfl
theorem runsUp_none (xs : List Int) : ∀ (ys : List Int) (i : Nat), runsUp i [] xs ys = runsR none i xs ys := by
  induction xs with
  | nil => intro ys i; simp [runsUp, runsR]
  | cons p xs ih =>
    intro ys i
    cases ys with
    | nil => simp [runsUp, runsR]
    | cons q ys =>
      rw [runsUp, runsR, runStep]
      split
      · exact ih ys (i + 1)
      · exact runsUp_some xs ys (i + 1) [] _

section
variable {α : Type}
def cutL (l : List α) (a b : Nat) : List α := (l.drop a).take (b - a)
theorem cutL_nil (l : List α) (a : Nat) : cutL l a a = [] := by simp [cutL]
theorem cutL_snoc {l : List α} {a b : Nat} {z : α} (h : a ≤ b) (hz : l[b]? = some z) : cutL l a b ++ [z] = cutL l a (b + 1) := take_more h hz
theorem cutL_ne {l : List α} {a b : Nat} (h : a < b) (hb : b ≤ l.length) : cutL l a b ≠ [] := by
  intro e
  have := congrArg List.length e
  simp [cutL] at this
  omega
theorem cutL_one {l : List α} {a : Nat} {z : α} (hz : l[a]? = some z) : cutL l a (a + 1) = [z] := by
  have := cutL_snoc (Nat.le_refl a) hz
  rw [cutL_nil] at this
  exact this.symm
theorem cutL_len {l : List α} {a b : Nat} (h : a ≤ b) (hb : b ≤ l.length) : (cutL l a b).length = b - a := by simp [cutL]; omega
theorem cutL_end {l : List α} {a : Nat} : cutL l a l.length = l.drop a := by
  unfold cutL
  rw [List.take_of_length_le]
  simp
/-- runs that stand one behind the other, behind d, ahead of e -/
def RunsOk (e : Cor) : Cor → List Rn → Prop
  | d, [] => d.1 ≤ e.1 ∧ d.2.1 ≤ e.2.1 ∧ d.2.2 ≤ e.2.2
  | d, (f, t) :: rs => (d.1 ≤ f.1 ∧ d.2.1 ≤ f.2.1 ∧ d.2.2 ≤ f.2.2) ∧ (f.1 ≤ t.1 ∧ f.2.1 ≤ t.2.1 ∧ f.2.2 ≤ t.2.2) ∧ (t.1 ≤ e.1 ∧ t.2.1 ≤ e.2.1 ∧ t.2.2 ≤ e.2.2) ∧ RunsOk e t rs
theorem RunsOk.low {e : Cor} {rs : List Rn} {d d' : Cor} (h : RunsOk e d rs) (h1 : d'.1 ≤ d.1) (h2 : d'.2.1 ≤ d.2.1) (h3 : d'.2.2 ≤ d.2.2) : RunsOk e d' rs := by
  cases rs with
  | nil => exact ⟨Nat.le_trans h1 h.1, Nat.le_trans h2 h.2.1, Nat.le_trans h3 h.2.2⟩
  | cons r rs => exact ⟨⟨Nat.le_trans h1 h.1.1, Nat.le_trans h2 h.1.2.1, Nat.le_trans h3 h.1.2.2⟩, h.2⟩
/-- kept lines are alike -/
theorem placesG_kept (s : List (Int × α)) (hK : Kinds s) : ∀ (n i : Nat) (p : Int), (placesG n s)[i]? = some p → ¬ p < 0 → n ≤ p.toNat ∧ (sideS 3 s)[p.toNat - n]? = (sideS 2 s)[i]? ∧ p.toNat - n < (sideS 3 s).length := by
  induction s with
  | nil => intro n i p h; simp [placesG] at h
  | cons e s ih =>
    obtain ⟨k, x⟩ := e
    intro n i p h h0
    rw [sideS_cons, sideS_cons]
    rcases hK (k, x) (List.mem_cons_self ..) with e | e | e
    · simp only at e; subst e
      rw [placesG, if_pos rfl] at h
      rw [if_pos (by simp), if_pos (by simp)]
      cases i with
      | zero =>
        simp only [List.getElem?_cons_zero, Option.some.injEq] at h
        subst h
        simp
      | succ i =>
        simp only [List.getElem?_cons_succ] at h
        obtain ⟨h1, h2, h3⟩ := ih hK.tail (n + 1) i p h h0
        refine ⟨by omega, ?_, by simp; omega⟩
        rw [show p.toNat - n = (p.toNat - (n + 1)) + 1 by omega]
        simpa using h2
    · simp only at e; subst e
      rw [placesG, if_neg (by simp), if_pos rfl] at h
      rw [if_neg (by simp), if_pos (by simp)]
      cases i with
      | zero =>
        simp only [List.getElem?_cons_zero, Option.some.injEq] at h
        omega
      | succ i =>
        simp only [List.getElem?_cons_succ] at h
        obtain ⟨h1, h2, h3⟩ := ih hK.tail n i p h h0
        exact ⟨h1, by simpa using h2, h3⟩
    · simp only at e; subst e
      rw [placesG, if_neg (by simp), if_neg (by simp)] at h
      rw [if_pos (by simp), if_neg (by simp)]
      obtain ⟨h1, h2, h3⟩ := ih hK.tail (n + 1) i p h h0
      refine ⟨by omega, ?_, by simp; omega⟩
      rw [show p.toNat - n = (p.toNat - (n + 1)) + 1 by omega]
      simpa using h2
end

section
variable {α : Type} [DecidableEq α]
theorem placesS_kept {a b : List α} {i : Nat} {p : Int} (h : (placesS a b)[i]? = some p) (h0 : ¬ p < 0) : b[p.toNat]? = a[i]? ∧ p.toNat < b.length := by
  unfold placesS at h
  obtain ⟨k1, s2, s3, _⟩ := scriptS_all a b
  obtain ⟨_, h2, h3⟩ := placesG_kept _ k1 0 i p h h0
  rw [s2, s3] at h2
  rw [s3] at h3
  exact ⟨by simpa using h2, by simpa using h3⟩
variable (base ours theirs : List α)
def ofRuns : Cor → List Rn → List (Ck α)
  | d, [] => gapCk (base.drop d.1) (ours.drop d.2.1) (theirs.drop d.2.2)
  | d, (f, t) :: rs => gapCk (cutL base d.1 f.1) (cutL ours d.2.1 f.2.1) (cutL theirs d.2.2 f.2.2) ++ (1, cutL base f.1 t.1, cutL ours f.2.1 t.2.1, cutL theirs f.2.2 t.2.2) :: ofRuns t rs
theorem gapCk_nil : gapCk ([] : List α) [] [] = [] := by simp [gapCk]
theorem ofRuns_first (f d : Cor) : ∀ (xs ys : List Int) (i : Nat) (t : Cor), ofRuns base ours theirs d (runsR (some (f, t)) i xs ys) = gapCk (cutL base d.1 f.1) (cutL ours d.2.1 f.2.1) (cutL theirs d.2.2 f.2.2) ++ ofRuns base ours theirs f (runsR (some (f, t)) i xs ys) := by
  have one : ∀ (t : Cor) rs, ofRuns base ours theirs d ((f, t) :: rs) = gapCk (cutL base d.1 f.1) (cutL ours d.2.1 f.2.1) (cutL theirs d.2.2 f.2.2) ++ ofRuns base ours theirs f ((f, t) :: rs) := fun t rs => by
    rw [ofRuns, ofRuns, cutL_nil, cutL_nil, cutL_nil, gapCk_nil, List.nil_append]
  intro xs
  induction xs with
  | nil => intro ys i t; rw [runsR]; exact one t []; all_goals simp
  | cons p xs ih =>
    intro ys i t
    cases ys with
    | nil => rw [runsR]; exact one t []; all_goals simp
    | cons q ys =>
      rw [runsR]
      split
      · exact ih ys (i + 1) t
      · split
        · exact ih ys (i + 1) _
        · exact one t _
theorem build_gap (bb oo tt : List α) (r : List (It α)) : build [] (.gap bb oo tt :: r) = gapCk bb oo tt ++ build [] r := by
  rw [build]
  unfold gapCk
  split
  · simp
  · simp [stab]
theorem build_line (z : α) (r : List (It α)) : build [] (.line z :: r) = build [z] r := by rw [build]; rfl
omit [DecidableEq α] in
theorem kept_of {l base : List α} {X : List Int} (hX : ∀ (i : Nat) (p : Int), X[i]? = some p → ¬ p < 0 → l[p.toNat]? = base[i]? ∧ p.toNat < l.length) {i : Nat} {z : α} (hz : base[i]? = some z) {p : Int} {xs : List Int} (hx : X.drop i = p :: xs) (h0 : ¬ p < 0) : l[p.toNat]? = some z := by
  have : X[i]? = some p := by
    have := congrArg List.head? hx
    simpa using this
  rw [(hX i p this h0).1, hz]
theorem drop_next {β : Type} {X : List β} {i : Nat} {p : β} {xs : List β} (hx : X.drop i = p :: xs) : X.drop (i + 1) = xs := by
  have := congrArg (List.drop 1) hx
  rw [List.drop_drop] at this
  simpa using this
theorem drop_at {β : Type} {X : List β} {i : Nat} {p : β} {xs : List β} (hx : X.drop i = p :: xs) : X[i]? = some p := by
  have := congrArg List.head? hx
  simpa using this
variable {X Y : List Int}
theorem build_open (hX : ∀ (i : Nat) (p : Int), X[i]? = some p → ¬ p < 0 → ours[p.toNat]? = base[i]? ∧ p.toNat < ours.length) (hY : ∀ (i : Nat) (p : Int), Y[i]? = some p → ¬ p < 0 → theirs[p.toNat]? = base[i]? ∧ p.toNat < theirs.length) :
    ∀ (bs : List α) (xs ys : List Int) (i : Nat) (f t : Cor), base.drop i = bs → X.drop i = xs → Y.drop i = ys → bs.length = xs.length → bs.length = ys.length → Asc ours.length t.2.1 xs → Asc theirs.length t.2.2 ys →
      f.1 < t.1 → f.2.1 ≤ t.2.1 → f.2.2 ≤ t.2.2 → t.1 ≤ i → i ≤ base.length → t.2.1 ≤ ours.length → t.2.2 ≤ theirs.length → cutL ours f.2.1 t.2.1 = cutL base f.1 t.1 → cutL theirs f.2.2 t.2.2 = cutL base f.1 t.1 →
      build (cutL base f.1 t.1) (gapsP ours theirs (cutL base t.1 i) t.2.1 t.2.2 bs xs ys) = ofRuns base ours theirs f (runsR (some (f, t)) i xs ys) ∧ RunsOk (base.length, ours.length, theirs.length) f (runsR (some (f, t)) i xs ys) := by
  intro bs
  induction bs with
  | nil =>
    intro xs ys i f t hb hx hy l1 l2 ax ay g1 g2 g3 g4 g5 g6 g7 k1 k2
    obtain rfl : xs = [] := List.eq_nil_of_length_eq_zero l1.symm
    obtain rfl : ys = [] := List.eq_nil_of_length_eq_zero l2.symm
    have hi : base.length ≤ i := by simpa using hb
    obtain rfl : i = base.length := by omega
    have hne : cutL base f.1 t.1 ≠ [] := cutL_ne g1 g4
    have e1 : runsR (some (f, t)) base.length [] [] = [(f, t)] := by simp [runsR]
    have e2 : gapsP ours theirs (cutL base t.1 base.length) t.2.1 t.2.2 [] [] [] = [.gap (cutL base t.1 base.length) (ours.drop t.2.1) (theirs.drop t.2.2)] := by simp [gapsP]
    rw [e1, e2]
    refine ⟨?_, ⟨⟨Nat.le_refl _, Nat.le_refl _, Nat.le_refl _⟩, ⟨Nat.le_of_lt g1, g2, g3⟩, ⟨g4, g6, g7⟩, ⟨g4, g6, g7⟩⟩⟩
    rw [ofRuns, ofRuns, cutL_nil, cutL_nil, cutL_nil, gapCk_nil, List.nil_append, k1, k2, cutL_end, gapCk]
    by_cases h : base.drop t.1 = [] ∧ ours.drop t.2.1 = [] ∧ theirs.drop t.2.2 = []
    · rw [build, if_pos h, if_pos h, build, stab, if_neg hne]
    · rw [build, if_neg h, if_neg h, build, stab, if_neg hne]
      simp [stab]
  | cons z bs ih =>
    intro xs ys i f t hb hx hy l1 l2 ax ay g1 g2 g3 g4 g5 g6 g7 k1 k2
    cases xs with
    | nil => simp at l1
    | cons p xs =>
    cases ys with
    | nil => simp at l2
    | cons q ys =>
    have hz := drop_at hb
    have hb' := drop_next hb
    have hx' := drop_next hx
    have hy' := drop_next hy
    have hil : i < base.length := (List.getElem?_eq_some_iff.1 hz).1
    simp only [List.length_cons, Nat.add_right_cancel_iff] at l1 l2
    rw [gapsP, runsR]
    by_cases hf : p < 0 ∨ q < 0
    · rw [if_pos hf, if_pos hf]
      have ax' : Asc ours.length t.2.1 xs := by
        rcases ax with ⟨_, h⟩ | ⟨j, _, hj, _, h⟩
        · exact h
        · exact h.mono (by omega)
      have ay' : Asc theirs.length t.2.2 ys := by
        rcases ay with ⟨_, h⟩ | ⟨j, _, hj, _, h⟩
        · exact h
        · exact h.mono (by omega)
      rw [cutL_snoc g4 hz]
      exact ih xs ys (i + 1) f t hb' hx' hy' l1 l2 ax' ay' g1 g2 g3 (by omega) (by omega) g6 g7 k1 k2
    · rw [if_neg hf, if_neg hf]
      rcases ax with ⟨hp, _⟩ | ⟨j, rfl, j1, j2, ax⟩
      · exact absurd (Or.inl (by omega)) hf
      rcases ay with ⟨hp, _⟩ | ⟨k, rfl, m1, m2, ay⟩
      · exact absurd (Or.inr (by omega)) hf
      have oz : ours[j]? = some z := by simpa using kept_of hX hz hx (by omega)
      have tz : theirs[k]? = some z := by simpa using kept_of hY hz hy (by omega)
      rw [Int.toNat_natCast, Int.toNat_natCast]
      by_cases hc : t = (i, j, k)
      · subst hc
        rw [if_pos rfl, Nat.sub_self, Nat.sub_self, List.take_zero, List.take_zero, cutL_nil, build, if_pos ⟨rfl, rfl, rfl⟩, build, cutL_snoc (Nat.le_of_lt g1) hz]
        have := ih xs ys (i + 1) f (i + 1, j + 1, k + 1) hb' hx' hy' l1 l2 ax ay (by simp only at g1 ⊢; omega) (by simp only at g2 ⊢; omega) (by simp only at g3 ⊢; omega) (Nat.le_refl _) (by omega) (by simp only; omega) (by simp only; omega)
          (by rw [← cutL_snoc g2 oz, ← cutL_snoc (Nat.le_of_lt g1) hz, k1]) (by rw [← cutL_snoc g3 tz, ← cutL_snoc (Nat.le_of_lt g1) hz, k2])
        rw [cutL_nil] at this
        exact this
      · rw [if_neg (by exact hc)]
        have hne : ¬ (cutL base t.1 i = [] ∧ (ours.drop t.2.1).take (j - t.2.1) = [] ∧ (theirs.drop t.2.2).take (k - t.2.2) = []) := by
          rintro ⟨e1, e2, e3⟩
          apply hc
          have f1 : t.1 = i := by
            apply Classical.byContradiction
            intro h
            exact cutL_ne (l := base) (by omega) (by omega) e1
          have f2 : t.2.1 = j := by
            apply Classical.byContradiction
            intro h
            exact cutL_ne (l := ours) (by omega) (by omega) e2
          have f3 : t.2.2 = k := by
            apply Classical.byContradiction
            intro h
            exact cutL_ne (l := theirs) (by omega) (by omega) e3
          rw [← f1, ← f2, ← f3]
        have hrun : cutL base f.1 t.1 ≠ [] := cutL_ne g1 (by omega)
        obtain ⟨r1, r2⟩ := ih xs ys (i + 1) (i, j, k) (i + 1, j + 1, k + 1) hb' hx' hy' l1 l2 ax ay (by simp) (by simp) (by simp) (Nat.le_refl _) (by omega) (by simp only; omega) (by simp only; omega) (by rw [cutL_one oz, cutL_one hz]) (by rw [cutL_one tz, cutL_one hz])
        rw [cutL_one hz, cutL_nil] at r1
        refine ⟨?_, ⟨⟨Nat.le_refl _, Nat.le_refl _, Nat.le_refl _⟩, ⟨Nat.le_of_lt g1, g2, g3⟩, ⟨by simp only; omega, g6, g7⟩, RunsOk.low r2 g4 j1 m1⟩⟩
        rw [build_some _ _ _ _ _ hne, build_gap, build_line, r1, stab, if_neg hrun]
        show _ = ofRuns base ours theirs f ((f, t) :: _)
        rw [ofRuns, cutL_nil, cutL_nil, cutL_nil, gapCk_nil, List.nil_append, k1, k2]
        show _ = _ :: ofRuns base ours theirs t (runsR (some ((i, j, k), (i + 1, j + 1, k + 1))) (i + 1) xs ys)
        rw [ofRuns_first base ours theirs (i, j, k) t]
        rfl
theorem build_shut (hX : ∀ (i : Nat) (p : Int), X[i]? = some p → ¬ p < 0 → ours[p.toNat]? = base[i]? ∧ p.toNat < ours.length) (hY : ∀ (i : Nat) (p : Int), Y[i]? = some p → ¬ p < 0 → theirs[p.toNat]? = base[i]? ∧ p.toNat < theirs.length) :
    ∀ (bs : List α) (xs ys : List Int) (i : Nat), base.drop i = bs → X.drop i = xs → Y.drop i = ys → bs.length = xs.length → bs.length = ys.length → Asc ours.length 0 xs → Asc theirs.length 0 ys → i ≤ base.length →
      build [] (gapsP ours theirs (cutL base 0 i) 0 0 bs xs ys) = ofRuns base ours theirs (0, 0, 0) (runsR none i xs ys) ∧ RunsOk (base.length, ours.length, theirs.length) (0, 0, 0) (runsR none i xs ys) := by
  intro bs
  induction bs with
  | nil =>
    intro xs ys i hb hx hy l1 l2 ax ay g5
    obtain rfl : xs = [] := List.eq_nil_of_length_eq_zero l1.symm
    obtain rfl : ys = [] := List.eq_nil_of_length_eq_zero l2.symm
    have hi : base.length ≤ i := by simpa using hb
    obtain rfl : i = base.length := by omega
    have e1 : runsR none base.length [] [] = [] := by simp [runsR]
    have e2 : gapsP ours theirs (cutL base 0 base.length) 0 0 [] [] [] = [.gap (cutL base 0 base.length) (ours.drop 0) (theirs.drop 0)] := by simp [gapsP]
    rw [e1, e2]
    refine ⟨?_, ⟨Nat.zero_le _, Nat.zero_le _, Nat.zero_le _⟩⟩
    rw [ofRuns, cutL_end, build_gap, build]
    simp [stab]
  | cons z bs ih =>
    intro xs ys i hb hx hy l1 l2 ax ay g5
    cases xs with
    | nil => simp at l1
    | cons p xs =>
    cases ys with
    | nil => simp at l2
    | cons q ys =>
    have hz := drop_at hb
    have hb' := drop_next hb
    have hx' := drop_next hx
    have hy' := drop_next hy
    have hil : i < base.length := (List.getElem?_eq_some_iff.1 hz).1
    simp only [List.length_cons, Nat.add_right_cancel_iff] at l1 l2
    rw [gapsP, runsR]
    by_cases hf : p < 0 ∨ q < 0
    · rw [if_pos hf, if_pos hf]
      have ax' : Asc ours.length 0 xs := by
        rcases ax with ⟨_, h⟩ | ⟨j, _, hj, _, h⟩
        · exact h
        · exact h.mono (by omega)
      have ay' : Asc theirs.length 0 ys := by
        rcases ay with ⟨_, h⟩ | ⟨j, _, hj, _, h⟩
        · exact h
        · exact h.mono (by omega)
      rw [cutL_snoc (Nat.zero_le _) hz]
      exact ih xs ys (i + 1) hb' hx' hy' l1 l2 ax' ay' (by omega)
    · rw [if_neg hf, if_neg hf]
      rcases ax with ⟨hp, _⟩ | ⟨j, rfl, j1, j2, ax⟩
      · exact absurd (Or.inl (by omega)) hf
      rcases ay with ⟨hp, _⟩ | ⟨k, rfl, m1, m2, ay⟩
      · exact absurd (Or.inr (by omega)) hf
      have oz : ours[j]? = some z := by simpa using kept_of hX hz hx (by omega)
      have tz : theirs[k]? = some z := by simpa using kept_of hY hz hy (by omega)
      rw [Int.toNat_natCast, Int.toNat_natCast]
      obtain ⟨r1, r2⟩ := build_open base ours theirs hX hY bs xs ys (i + 1) (i, j, k) (i + 1, j + 1, k + 1) hb' hx' hy' l1 l2 ax ay (by simp) (by simp) (by simp) (Nat.le_refl _) (by omega) (by simp only; omega) (by simp only; omega) (by rw [cutL_one oz, cutL_one hz]) (by rw [cutL_one tz, cutL_one hz])
      rw [cutL_one hz, cutL_nil] at r1
      refine ⟨?_, RunsOk.low r2 (Nat.zero_le _) (Nat.zero_le _) (Nat.zero_le _)⟩
      rw [build_gap, build_line, r1]
      show _ = ofRuns base ours theirs (0, 0, 0) (runsR (some ((i, j, k), (i + 1, j + 1, k + 1))) (i + 1) xs ys)
      rw [ofRuns_first base ours theirs (i, j, k) (0, 0, 0)]
      rfl
/-- the chunks are those of the runs, which stand one behind the other -/
theorem chunks_runs (base ours theirs : List α) :
    chunksS base ours theirs = ofRuns base ours theirs (0, 0, 0) (runsUp 0 [] (placesS base ours) (placesS base theirs)) ∧ RunsOk (base.length, ours.length, theirs.length) (0, 0, 0) (runsUp 0 [] (placesS base ours) (placesS base theirs)) := by
  rw [runsUp_none]
  exact build_shut base ours theirs (X := placesS base ours) (Y := placesS base theirs) (fun i p h h0 => placesS_kept h h0) (fun i p h h0 => placesS_kept h h0) base _ _ 0 rfl rfl rfl (placesS_len base ours).symm (placesS_len base theirs).symm (placesS_rise base ours) (placesS_rise base theirs) (Nat.zero_le _)
end
end Go.Proofs.Ytfldheegebopoaa

namespace Go.Proofs.Ytfldheegebopoaa
open Go.RowKit

theorem Try.laidOut : laidOutB Try.prog = true := by kernel_rfl
theorem Try.rowSpot : (93 : TypeId) < Try.prog.types.size := of_decide_eq_true (by kernel_rfl)
theorem Try.wideSpot : (match Try.prog.underlying 93 with | some (.array _ _) | some (.struct _) => true | _ => false) = true := by rw [Try.underlying93]
set_option maxRecDepth 100000 in
theorem Try.spotLaw : Maps.Keyed Try.prog 93 := Maps.Keyed.of_law (deep_law_laid Try.laidOut (m := 3) (by omega) Try.rowSpot (by kernel_rfl) Try.wideSpot)
theorem Try.zeroInt (w : World) : (zeroValue 3).run Try.prog w = .ok (.int .i64 0) w := by kernel_rfl
def klit (i s : Nat) : Lit := .string (keyBytes [.int .i64 i, .int .u8 s])
theorem spot_key {i s : Nat} (hi : i ≤ 4000000000) (hs : s < 256) : keyOf Try.prog 93 (.agg #[.int .i64 i, .int .u8 s]) = some (klit i s) := by
  have hk : Try.prog.keyType 93 = true := by kernel_rfl
  have hc : Try.prog.cellsOf 93 = 2 := by kernel_rfl
  have hc1 : Try.prog.cellsOf 3 = 1 := by kernel_rfl
  have hc2 : Try.prog.cellsOf 91 = 1 := by kernel_rfl
  have w1 : (Lit.int .i64 (i : Int)).wf = true := by simp [Lit.wf, IntKind.min, IntKind.max, IntKind.signed, IntKind.bits]; omega
  have w2 : (Lit.int .u8 (s : Int)).wf = true := by simp [Lit.wf, IntKind.min, IntKind.max, IntKind.signed, IntKind.bits]; omega
  obtain ⟨n, hn⟩ : ∃ n, Try.prog.types.size + 1 = n + 2 := ⟨Try.prog.types.size - 1, by have h : 93 < Try.prog.types.size := Try.rowSpot; omega⟩
  unfold keyOf
  rw [Try.underlying93, hk, hn]
  simp [Value.formed, Try.underlying93, hc, Value.cells, Program.keyLits, hc1, hc2, Try.underlying3, Try.underlying91, w1, w2, klit]
theorem klit_inj {i s j r : Nat} (hi : i ≤ 4000000000) (hs : s < 256) (hj : j ≤ 4000000000) (hr : r < 256) (h : klit i s = klit j r) : i = j ∧ s = r := by
  have := Try.spotLaw.inj (spot_key hi hs) (h ▸ spot_key hj hr)
  simp at this
  omega

/-! ### What a script writes into the map -/
abbrev MD := DataW Unit
def numD (j : Nat) : MD := .lit (.int .i64 j)
section
variable {α : Type}
def noteD (s : Nat) : MD → Nat → Nat → List (Int × α) → MD
  | D, _, _, [] => D
  | D, i, j, e :: r => if e.1 = 1 then noteD s (D.put (klit i s) (numD j)) (i + 1) (j + 1) r else if e.1 = 2 then noteD s D (i + 1) j r else noteD s D i (j + 1) r
/-- what the map shows at a key: nothing, or a place -/
def Shows (D : MD) (kl : Lit) (p : Int) : Prop := (p < 0 → Maps.has D kl = false) ∧ (¬ p < 0 → Maps.has D kl = true ∧ ∀ z, D.atKey kl z = .lit (.int .i64 p))
theorem isKey_klit (i s : Nat) : WideAt.IsKeyLit (klit i s) := trivial
theorem noteD_other {s : Nat} {kl : Lit} : ∀ (r : List (Int × α)) (D : MD) (i j : Nat), (∀ k, i ≤ k → k ≤ i + r.length → kl ≠ klit k s) → Maps.has (noteD s D i j r) kl = Maps.has D kl ∧ ∀ z, (noteD s D i j r).atKey kl z = D.atKey kl z := by
  intro r
  induction r with
  | nil => exact fun _ _ _ _ => ⟨rfl, fun _ => rfl⟩
  | cons e r ih =>
    intro D i j h
    simp only [List.length_cons] at h
    rw [noteD]
    split
    · obtain ⟨h1, h2⟩ := ih (D.put (klit i s) (numD j)) (i + 1) (j + 1) fun k hk hk' => h k (by omega) (by omega)
      have hne : kl ≠ klit i s := h i (Nat.le_refl _) (by omega)
      exact ⟨h1.trans (Maps.has_put_other hne _), fun z => (h2 z).trans (Maps.atKey_put_other hne _ z)⟩
    · split
      · exact ih D (i + 1) j fun k hk hk' => h k (by omega) (by omega)
      · exact ih D i (j + 1) fun k hk hk' => h k hk (by omega)
theorem noteD_map {s : Nat} : ∀ (r : List (Int × α)) (D : MD) (i j : Nat), Maps.IsMap D → Maps.IsMap (noteD s D i j r) := by
  intro r
  induction r with
  | nil => exact fun _ _ _ h => h
  | cons e r ih =>
    intro D i j h
    rw [noteD]
    split
    · exact ih _ _ _ (h.put _ _)
    · split
      · exact ih _ _ _ h
      · exact ih _ _ _ h
theorem noteD_shows {s : Nat} (hs : s < 256) : ∀ (r : List (Int × α)) (D : MD) (i j : Nat), Maps.IsMap D → i + r.length ≤ 4000000000 → (∀ k, i ≤ k → k ≤ i + r.length → Maps.has D (klit k s) = false) → ∀ (k : Nat) (p : Int), (placesG j r)[k]? = some p → Shows (noteD s D i j r) (klit (i + k) s) p := by
  intro r
  induction r with
  | nil => intro D i j _ _ _ k p h; simp [placesG] at h
  | cons e r ih =>
    intro D i j hD hl hn k p h
    simp only [List.length_cons] at hl hn
    rw [placesG] at h
    rw [noteD]
    split at h
    · rename_i h1
      rw [if_pos h1]
      cases k with
      | zero =>
        simp only [List.getElem?_cons_zero, Option.some.injEq] at h
        subst h
        obtain ⟨g1, g2⟩ := noteD_other (s := s) (kl := klit i s) r (D.put (klit i s) (numD j)) (i + 1) (j + 1) fun k hk hk' e => by
          have := (klit_inj (by omega) hs (by omega) hs e).1
          omega
        rw [Nat.add_zero]
        refine ⟨fun h => by omega, fun _ => ⟨g1.trans (Maps.has_put_same hD (isKey_klit i s) _), fun z => (g2 z).trans (Maps.atKey_put_same hD (isKey_klit i s) _ z)⟩⟩
      | succ k =>
        simp only [List.getElem?_cons_succ] at h
        have := ih (D.put (klit i s) (numD j)) (i + 1) (j + 1) (hD.put _ _) (by omega) (fun k hk hk' => by
          rw [Maps.has_put_other]
          · exact hn k (by omega) (by omega)
          · intro e
            have := (klit_inj (by omega) hs (by omega) hs e).1
            omega) k p h
        rw [show i + 1 + k = i + (k + 1) by omega] at this
        exact this
    · rename_i h1
      rw [if_neg h1]
      split at h
      · rename_i h2
        rw [if_pos h2]
        cases k with
        | zero =>
          simp only [List.getElem?_cons_zero, Option.some.injEq] at h
          subst h
          obtain ⟨g1, g2⟩ := noteD_other (s := s) (kl := klit i s) r D (i + 1) j fun k hk hk' e => by
            have := (klit_inj (by omega) hs (by omega) hs e).1
            omega
          rw [Nat.add_zero]
          exact ⟨fun _ => g1.trans (hn i (Nat.le_refl _) (by omega)), fun h => absurd (by decide) h⟩
        | succ k =>
          simp only [List.getElem?_cons_succ] at h
          have := ih D (i + 1) j hD (by omega) (fun k hk hk' => hn k (by omega) (by omega)) k p h
          rw [show i + 1 + k = i + (k + 1) by omega] at this
          exact this
      · rename_i h2
        rw [if_neg h2]
        exact ih D i (j + 1) hD (by omega) (fun k hk hk' => hn k hk (by omega)) k p h
/-- both scripts, one behind the other -/
theorem noted_both {s1 s2 : List (Int × α)} (l1 : s1.length ≤ 1000000) (l2 : s2.length ≤ 1000000) :
    (∀ k p, (placesG 0 s1)[k]? = some p → Shows (noteD 1 (noteD 0 (.map []) 0 0 s1) 0 0 s2) (klit k 0) p) ∧ ∀ k p, (placesG 0 s2)[k]? = some p → Shows (noteD 1 (noteD 0 (.map []) 0 0 s1) 0 0 s2) (klit k 1) p := by
  have e0 : ∀ kl, Maps.has (.map [] : MD) kl = false := fun kl => rfl
  constructor
  · intro k p h
    have hk : k < 4000000000 := by
      have h1 := (List.getElem?_eq_some_iff.1 h).1
      have : ∀ (r : List (Int × α)) (j : Nat), (placesG j r).length ≤ r.length := fun r => by
        induction r with
        | nil => intro j; simp [placesG]
        | cons e r ih =>
          intro j
          rw [placesG]
          split
          · simp; exact ih _
          · split
            · simp; exact ih _
            · exact Nat.le_trans (ih _) (by simp)
      have := this s1 0
      omega
    have := noteD_shows (s := 0) (by omega) s1 (.map []) 0 0 Maps.isMap_empty (by omega) (fun _ _ _ => e0 _) k p h
    rw [Nat.zero_add] at this
    obtain ⟨g1, g2⟩ := noteD_other (s := 1) (kl := klit k 0) s2 (noteD 0 (.map []) 0 0 s1) 0 0 fun k' _ hk' e => by
      have := (klit_inj (by omega) (by omega) (by omega) (by omega) e).2
      omega
    exact ⟨fun h => g1.trans (this.1 h), fun h => ⟨g1.trans (this.2 h).1, fun z => (g2 z).trans ((this.2 h).2 z)⟩⟩
  · intro k p h
    have := noteD_shows (s := 1) (by omega) s2 (noteD 0 (.map []) 0 0 s1) 0 0 (noteD_map _ _ _ _ Maps.isMap_empty) (by omega) (fun k' _ hk' => by
      rw [(noteD_other (s := 0) (kl := klit k' 1) s1 (.map []) 0 0 fun j _ hj e => by
        have := (klit_inj (by omega) (by omega) (by omega) (by omega) e).2
        omega).1]
      rfl) k p h
    rw [Nat.zero_add] at this
    exact this
end

/-! ### The map in memory -/
abbrev OwnM (w : World) (b n : Nat) (D : MD) : Prop := w.ownsMap Try.prog 93 (plainElem Try.prog 3) b n D
theorem OwnM.apart {w : World} {b n : Nat} {D : MD} (h : OwnM w b n D) {a : Addr} {v : Value} (hc : w.cell? a = some v) : a.block ≠ b := by
  obtain ⟨es, c, hb, _⟩ := h
  intro e
  unfold World.cell? at hc
  rw [e, hb] at hc
  simp at hc
theorem SlE.grown {w w' : World} {b n : Nat} {D : MD} {v : Value} {es : List (Int × List UInt8)} (h : SlE w v es) (hm : OwnM w b n D) (hg : w.grownBy w' (some b)) : SlE w' v es := by
  obtain ⟨ao, cap, rfl, hn, hcap, hc⟩ := h
  refine ⟨ao, cap, rfl, hn, hcap, fun a ha i e he => ?_⟩
  obtain ⟨h1, h2⟩ := hc a ha i e he
  exact ⟨hg.cell h1 (fun e => hm.apart h1 (Option.some.inj e)), hg.cell h2 (fun e => hm.apart h2 (Option.some.inj e))⟩
theorem note_at {α : Type} {es : List (Int × α)} {k : Nat} {c : Int} {x : α} (h : es[k]? = some (c, x)) (s : Nat) (D : MD) (i j : Nat) :
    noteD s D i j (es.drop k) = if c = 1 then noteD s (D.put (klit i s) (numD j)) (i + 1) (j + 1) (es.drop (k + 1)) else if c = 2 then noteD s D (i + 1) j (es.drop (k + 1)) else noteD s D i (j + 1) (es.drop (k + 1)) := by
  obtain ⟨q, e⟩ := List.getElem?_eq_some_iff.1 h
  rw [List.drop_eq_getElem_cons q, e]
  rfl
section
set_option maxRecDepth 100000
set_option maxHeartbeats 4000000
theorem DNote_any (b n s : Nat) (vs v : Value) (es : List (Int × List UInt8)) (D : MD) (w : World) (hvs : vs = .int .u8 (s : Int)) (hs : s < 256) (hv : SlE w v es) (hm : OwnM w b n D) (hk : Kinds es) (hl : es.length ≤ 1000000) (hn : n ≤ 1000000) :
    Calls Try.prog 64 #[.map (some b), vs, v] w fun e w' => e = .returned (.tuple #[]) ∧ OwnM w' b (n + es.length) (noteD s D 0 0 es) ∧ w.grownBy w' (some b) := by
  subst hvs
  obtain ⟨ao, cap, rfl⟩ := hv.form
  have HV := hid hv
  have HM := hid hm
  have HKI := hid hk
  have HS := hid hs
  have HNL := hid (And.intro hl hn)
  clear hv hm hk hs hl hn
  go_enter Try.func64, Try.ntmps64
  go_wp2_with fail
  go_loopg [6, 7, 12] es.length (fun g i j m wx => ∃ (I J k : Nat) (E : MD), k ≤ es.length ∧ g = es.length - k ∧ i = .int .i64 I ∧ j = .int .i64 J ∧ m = .int .i64 k ∧ Hid (I ≤ k ∧ J ≤ k) ∧ Hid (noteD s E I J (es.drop k) = noteD s D 0 0 es) ∧ Hid (OwnM wx b (n + k) E) ∧ Hid (w.grownBy wx (some b)))
  case atStart => exact ⟨0, 0, 0, D, Nat.zero_le _, rfl, rfl, rfl, rfl, hid ⟨Nat.le_refl _, Nat.le_refl _⟩, hid (by rw [List.drop_zero]), HM, hid ⟨rfl, rfl, rfl, Nat.le_refl _, fun _ _ _ => rfl⟩⟩
  case round =>
    obtain ⟨I, J, k, E, hk, rfl, rfl, rfl, rfl, HIJ, HE, HO, HG⟩ := hrel
    have k0 : (0 : Int) ≤ (k : Int) := Int.natCast_nonneg _
    have I0 : (0 : Int) ≤ (I : Int) := Int.natCast_nonneg _
    have J0 : (0 : Int) ≤ (J : Int) := Int.natCast_nonneg _
    by_cases hlt : k < es.length
    · have k1 : (k : Int) < (es.length : Int) := by omega
      have kw : IntKind.i64.wrap ((k : Int) + 1) = (k : Int) + 1 := IntWalk.i64_in _ (by have := HNL.out; omega)
      have iw : IntKind.i64.wrap ((I : Int) + 1) = (I : Int) + 1 := IntWalk.i64_in _ (by have h1 := HNL.out; have h2 := HIJ.out; omega)
      have jw : IntKind.i64.wrap ((J : Int) + 1) = (J : Int) + 1 := IntWalk.i64_in _ (by have h1 := HNL.out; have h2 := HIJ.out; omega)
      obtain ⟨be, oe, c, x, rfl, hc, hd, he⟩ := (HV.out.grown HM.out HG.out).at' (i := k) hlt
      have HST := hid (note_at he s E I J)
      have HKC := hid (HKI.out _ (List.mem_of_getElem? he))
      clear he
      by_cases h1 : c = 1
      · subst h1
        have HX := hid (show noteD s (E.put (klit I s) (numD J)) (I + 1) (J + 1) (es.drop (k + 1)) = noteD s D 0 0 es by rw [← HE.out, HST.out, if_pos rfl])
        have HKEY := hid (spot_key (i := I) (s := s) (by have h1 := HNL.out; have h2 := HIJ.out; omega) HS.out)
        have HWF := hid (show (Lit.int .i64 (J : Int)).wf = true by have h1 := HNL.out; have h2 := HIJ.out; simp [Lit.wf, IntKind.min, IntKind.max, IntKind.signed, IntKind.bits]; omega)
        have HN := hid (show n + k < maxLen by have h1 := HNL.out; unfold maxLen; omega)
        clear HE HST
        go_wp2_with (at_mapUpdate; refine wpList_mapUpdate_own _ rfl _ _ _ 88 rfl 93 3 Try.spotLaw Try.underlying88 _ b (n + k) E rfl (HO.out.alloc _) HN.out _ _ (klit I s) rfl rfl HKEY.out (numD J) [] (plainElem_int Try.underlying3 HWF.out) ?_; intro w1 hown1 hgrow1; have HO1 := hid hown1; have HG1 := hid (HG.out.trans ((World.grownBy_alloc wr _ (some b)).trans hgrow1)); clear hown1 hgrow1)
        go_wp2_with fail
        go_roundg (es.length - (k + 1))
        case measure => omega
        case rel => exact ⟨I + 1, J + 1, k + 1, _, by omega, rfl, by go_num, by go_num, by go_num, hid (by have := HIJ.out; omega), HX, HO1, HG1⟩
      · have c1b : (c == 1) = false := by simpa using h1
        by_cases h2 : c = 2
        · subst h2
          have HX := hid (show noteD s E (I + 1) J (es.drop (k + 1)) = noteD s D 0 0 es by rw [← HE.out, HST.out, if_neg (by decide), if_pos rfl])
          clear HE HST h1 c1b
          go_wp2_with fail
          go_roundg (es.length - (k + 1))
          case measure => omega
          case rel => exact ⟨I + 1, J, k + 1, E, by omega, rfl, by go_num, rfl, by go_num, hid (by have := HIJ.out; omega), HX, hid ((HO.out.alloc _).mono (by omega)), hid (HG.out.trans (World.grownBy_alloc wr _ (some b)))⟩
        · obtain rfl : c = 3 := by
            have := HKC.out
            simp only at this
            omega
          have HX := hid (show noteD s E I (J + 1) (es.drop (k + 1)) = noteD s D 0 0 es by rw [← HE.out, HST.out, if_neg (by decide), if_neg (by decide)])
          clear HE HST h1 h2 c1b
          go_wp2_with fail
          go_roundg (es.length - (k + 1))
          case measure => omega
          case rel => exact ⟨I, J + 1, k + 1, E, by omega, rfl, rfl, by go_num, by go_num, hid (by have := HIJ.out; omega), HX, hid ((HO.out.alloc _).mono (by omega)), hid (HG.out.trans (World.grownBy_alloc wr _ (some b)))⟩
    · obtain rfl : k = es.length := by omega
      have hneg : ¬ (es.length : Int) < (es.length : Int) := by omega
      have HX := hid (show E = noteD s D 0 0 es by rw [← HE.out, List.drop_length]; rfl)
      clear HE
      go_wp2_with fail
      refine bodyPost_end (results_none rfl _ _ _) rfl ?_
      rw [← HX.out]
      exact ⟨rfl, HO.out, HG.out⟩
end
end Go.Proofs.Ytfldheegebopoaa

namespace Go.Proofs.Ytfldheegebopoaa
open Go.RowKit

theorem grown_of_below {w w' : World} (h : Below w.heap.size w w') (row : Option Nat) : w.grownBy w' row := ⟨h.os, h.tape, h.output, h.size, fun k hk _ => h.block k hk⟩
theorem OwnM.old {w w' : World} {b n : Nat} {D : MD} (h : OwnM w b n D) (hk : Below w.heap.size w w') : OwnM w' b n D := World.ownsMap.kept h (grown_of_below hk none) (by simp)
theorem ownM_made (w : World) (g : Nat) (hg : w.heap.size = g) : OwnM (w.alloc (.map #[] 0)) g 0 (.map []) := hg ▸ World.ownsMap_made w _ _ _
section
set_option maxRecDepth 100000
set_option maxHeartbeats 4000000
theorem DKept_any (va vb vc : Value) (a b c : List (List UInt8)) (w : World) (ha : Sl w va (strCells a)) (hb : Sl w vb (strCells b)) (hc : Sl w vc (strCells c)) (la : a.length ≤ 1000) (lb : b.length ≤ 1000) (lc : c.length ≤ 1000) :
    Calls Try.prog 54 #[.agg #[va, vb, vc]] w fun e w' => ∃ g n D, e = .returned (.map (some g)) ∧ w.heap.size ≤ g ∧ g < w'.heap.size ∧ OwnM w' g n D ∧ (∀ k p, (placesS a b)[k]? = some p → Shows D (klit k 0) p) ∧ (∀ k p, (placesS a c)[k]? = some p → Shows D (klit k 1) p) ∧ Below w.heap.size w w' := by
  have hmm := @run_makeMap Try.prog
  obtain ⟨aa, ca, rfl⟩ := ha.form
  obtain ⟨ab, cb, rfl⟩ := hb.form
  obtain ⟨ac, cc, rfl⟩ := hc.form
  rw [strCells_length] at ha hb hc ⊢
  rw [strCells_length, strCells_length]
  have l1 : (scriptS a b).length ≤ 1000000 := by
    have := (scriptS_all a b).2.2.2
    omega
  have l2 : (scriptS a c).length ≤ 1000000 := by
    have := (scriptS_all a c).2.2.2
    omega
  have HN := hid (noted_both l1 l2)
  have HK1 := hid (show Kinds (scriptS a b) from (scriptS_all a b).1)
  have HK2 := hid (show Kinds (scriptS a c) from (scriptS_all a c).1)
  have HL := hid (And.intro l1 l2)
  have HLL := hid (And.intro la (And.intro lb lc))
  have HA := hid ha
  have HB := hid hb
  have HC := hid hc
  clear l1 l2 ha hb hc la lb lc
  unfold placesS
  obtain ⟨s1, hs1⟩ : ∃ s, scriptS a b = s := ⟨_, rfl⟩
  obtain ⟨s2, hs2⟩ : ∃ s, scriptS a c = s := ⟨_, rfl⟩
  rw [hs1] at HN HK1 HL
  rw [hs2] at HN HK2 HL
  rw [hs1, hs2]
  have HS1 := hid hs1
  have HS2 := hid hs2
  clear hs1 hs2
  have B1 : Below w.heap.size w ((w.alloc (.cells #[.slice aa a.length ca, .slice ab b.length cb, .slice ac c.length cc] 70)).alloc (.map #[] 0)) := ((Below.refl _ w).alloc (Nat.le_refl _) _).alloc (by simp) _
  have hblk : ((w.alloc (.cells #[.slice aa a.length ca, .slice ab b.length cb, .slice ac c.length cc] 70)).alloc (.map #[] 0)).heap[w.heap.size]? = some (.cells #[.slice aa a.length ca, .slice ab b.length cb, .slice ac c.length cc] 70 (0, 0)) := (Below.heap_alloc _ _ _ (by simp)).trans (heap_alloc_new w _)
  have HM0 := hid (ownM_made (w.alloc (.cells #[.slice aa a.length ca, .slice ab b.length cb, .slice ac c.length cc] 70)) (w.heap.size + 1) (by simp))
  have HSC1 := hid (DScript_any _ _ a b _ (Sl.old HA.out B1) (Sl.old HB.out B1) (by have := HLL.out; omega) (by have := HLL.out; omega))
  rw [HS1.out] at HSC1
  have c0 := blk_cell (i := 0) hblk rfl
  have c1 := blk_cell (i := 1) hblk rfl
  have c2 := blk_cell (i := 2) hblk rfl
  have HBL := hid hblk
  have HB1 := hid B1
  clear hblk B1
  go_enter Try.func54, Try.ntmps54
  go_wp2_with (go_at_call 65; refine HSC1.out.mono ?_; rintro e w3 ⟨l, rfl, hE, hb3⟩)
  have z3 := hb3.size
  simp only [World.size_alloc] at z3
  have HM3 := hid (OwnM.old HM0.out hb3)
  have HB3 := hid (below_step HB1.out hb3 HB1.out.size)
  obtain ⟨lo, lcap, rfl⟩ := hE.form
  have HN1 := hid (DNote_any _ _ 0 (.int .u8 0) _ s1 _ w3 rfl (by omega) hE.slE HM3.out HK1.out HL.out.1 (Nat.zero_le _))
  have HBL3 := hid ((hb3.block w.heap.size (by simp; omega)).trans HBL.out)
  clear hE hb3 HSC1 HM0 HBL HB1 c0 c1 c2
  go_wp2_with (first
    | (go_at_call 64; with_reducible refine HN1.out.mono ?_; rintro e w4 ⟨rfl, hm4, hg4⟩
       have hb4 : Below w.heap.size w w4 := HB3.out.grown hg4 HB3.out.size (fun j hj => by cases hj; omega)
       have HM4 := hid hm4
       have HB4 := hid hb4
       have hbl4 := (hg4.block w.heap.size (by omega) (by simp)).trans HBL3.out
       have HBL4 := hid hbl4
       have d0 := blk_cell (i := 0) hbl4 rfl
       have d2 := blk_cell (i := 2) hbl4 rfl
       have z4 := hg4.size
       have HSC2 := hid (DScript_any _ _ a c _ (Sl.old HA.out hb4) (Sl.old HC.out hb4) (by have := HLL.out; omega) (by have := HLL.out; omega))
       rw [HS2.out] at HSC2
       clear hm4 hg4 hb4 hbl4 HN1)
    | (go_at_call 65; with_reducible refine HSC2.out.mono ?_; rintro e w5 ⟨l2, rfl, hE5, hb5⟩
       have HM5 := hid (OwnM.old HM4.out hb5)
       have HB5 := hid (below_step HB4.out hb5 HB4.out.size)
       have z5 := hb5.size
       obtain ⟨lo5, lcap5, rfl⟩ := hE5.form
       have HN2 := hid (DNote_any _ _ 1 (.int .u8 1) _ s2 _ w5 rfl (by omega) hE5.slE HM5.out HK2.out HL.out.2 (by have := HL.out.1; omega))
       clear hE5 hb5 HSC2 d0 d2)
    | (go_at_call 64; with_reducible refine HN2.out.mono ?_; rintro e w6 ⟨rfl, hm6, hg6⟩
       have HM6 := hid hm6
       have HB6 := hid (HB5.out.grown hg6 HB5.out.size (fun j hj => by cases hj; omega))
       have z6 := hg6.size
       clear hm6 hg6 HN2))
  go_ret
  exact ⟨_, _, _, rfl, by omega, by omega, HM6.out, HN.out.1, HN.out.2, HB6.out⟩
end
end Go.Proofs.Ytfldheegebopoaa

namespace Go.Proofs.Ytfldheegebopoaa
open Go.RowKit

def corCells (c : Cor) : List Value := [.int .i64 c.1, .int .i64 c.2.1, .int .i64 c.2.2]
def runCells (r : Rn) : List Value := [.int .i64 r.1.1, .int .i64 r.1.2.1, .int .i64 r.1.2.2, .int .i64 r.2.1, .int .i64 r.2.2.1, .int .i64 r.2.2.2]
def runFlat (rs : List Rn) : List Value := rs.flatMap runCells
theorem runFlat_length (rs : List Rn) : (runFlat rs).length = rs.length * 6 := by
  induction rs with
  | nil => rfl
  | cons r rs ih => rw [runFlat, List.flatMap_cons, List.length_append, ← runFlat, ih, List.length_cons]; simp [runCells]; omega
theorem runFlat_append (a b : List Rn) : runFlat (a ++ b) = runFlat a ++ runFlat b := by simp [runFlat]
theorem runFlat_drop (rs : List Rn) (i : Nat) : (runFlat rs).drop (i * 6) = runFlat (rs.drop i) := by
  induction rs generalizing i with
  | nil => simp [runFlat]
  | cons r rs ih =>
    cases i with
    | zero => simp
    | succ i =>
      rw [runFlat, List.flatMap_cons, ← runFlat, List.drop_succ_cons, ← ih i, show (i + 1) * 6 = 6 + i * 6 by omega, ← List.drop_drop]
      rfl
theorem runFlat_at {rs : List Rn} {i : Nat} {r : Rn} (h : rs[i]? = some r) (j : Nat) (hj : j < 6) : (runFlat rs)[i * 6 + j]? = (runCells r)[j]? := by
  obtain ⟨q, e⟩ := List.getElem?_eq_some_iff.1 h
  rw [← List.getElem?_drop, runFlat_drop, List.drop_eq_getElem_cons q, e, runFlat, List.flatMap_cons, List.getElem?_append_left (by simpa [runCells] using hj)]
def OwnRn (w : World) (base : Nat) (v : Value) (rs : List Rn) : Prop := w.ownsRow base 76 6 v rs.length (runFlat rs)
theorem OwnRn.nil (w : World) (base : Nat) : OwnRn w base (.slice none 0 0) [] := World.ownsRow_nil _ _ _ _
theorem OwnRn.form {w : World} {base : Nat} {v : Value} {rs : List Rn} (h : OwnRn w base v rs) : ∃ ao cap, v = .slice ao rs.length cap := owns_form h
/-- What a slice of runs shows. -/
def SlRn (w : World) (v : Value) (rs : List Rn) : Prop :=
  ∃ ao cap, v = .slice ao rs.length cap ∧ (ao = none → rs = []) ∧ rs.length ≤ cap ∧ ∀ a, ao = some a → ∃ g, a = ⟨g, 0, none⟩ ∧ ∀ i r, rs[i]? = some r → ∀ j, j < 6 → w.cell? ⟨g, i * 6 + j, none⟩ = (runCells r)[j]?
theorem OwnRn.sl {w : World} {base : Nat} {v : Value} {rs : List Rn} (h : OwnRn w base v rs) : SlRn w v rs := by
  rcases h.2 with ⟨rfl, h0⟩ | ⟨g, cap, cur, rfl, r⟩
  · have : rs = [] := List.eq_nil_of_length_eq_zero h0
    subst this
    exact ⟨none, 0, rfl, fun _ => rfl, Nat.le_refl _, fun a h => by cases h⟩
  · refine ⟨some ⟨g, 0, none⟩, cap, rfl, (fun h => by cases h), r.2.2.1, fun a ha => ?_⟩
    cases ha
    refine ⟨g, rfl, fun i x hx j hj => ?_⟩
    have e := runFlat_at hx j hj
    have hl : j < (runCells x).length := by simpa [runCells] using hj
    have := h.cells rfl (i * 6 + j) (runCells x)[j] (by rw [e, List.getElem?_eq_getElem hl])
    rw [Addr.add_lit, Nat.zero_add] at this
    rw [this, List.getElem?_eq_getElem hl]
theorem SlRn.old {w w' : World} {v : Value} {rs : List Rn} (h : SlRn w v rs) (hk : Below w.heap.size w w') : SlRn w' v rs := by
  obtain ⟨ao, cap, rfl, hn, hcap, hc⟩ := h
  refine ⟨ao, cap, rfl, hn, hcap, fun a ha => ?_⟩
  obtain ⟨g, rfl, h⟩ := hc a ha
  refine ⟨g, rfl, fun i r hr j hj => ?_⟩
  have e := h i r hr j hj
  have hl : j < (runCells r).length := by simpa [runCells] using hj
  rw [List.getElem?_eq_getElem hl] at e ⊢
  exact (World.cell?_of_block (w := w) (hk.block _ (World.block_lt_of_cell? w _ e))).trans e
theorem SlRn.form {w : World} {v : Value} {rs : List Rn} (h : SlRn w v rs) : ∃ ao cap, v = .slice ao rs.length cap := by
  obtain ⟨ao, cap, rfl, _⟩ := h
  exact ⟨ao, cap, rfl⟩
theorem SlRn.at' {w : World} {ao : Option Addr} {n cap : Nat} {rs : List Rn} (h : SlRn w (.slice ao n cap) rs) {i : Nat} (hi : i < rs.length) :
    ∃ (g x1 x2 x3 y1 y2 y3 : Nat), ao = some ⟨g, 0, none⟩ ∧ rs[i]? = some ((x1, x2, x3), (y1, y2, y3)) ∧ w.cell? ⟨g, i * 6, none⟩ = some (.int .i64 x1) ∧ w.cell? ⟨g, i * 6 + 1, none⟩ = some (.int .i64 x2) ∧ w.cell? ⟨g, i * 6 + 2, none⟩ = some (.int .i64 x3) ∧
      w.cell? ⟨g, i * 6 + 3, none⟩ = some (.int .i64 y1) ∧ w.cell? ⟨g, i * 6 + 4, none⟩ = some (.int .i64 y2) ∧ w.cell? ⟨g, i * 6 + 5, none⟩ = some (.int .i64 y3) := by
  obtain ⟨ao', cap', hv, hn, _, hc⟩ := h
  obtain ⟨rfl, _, _⟩ := Value.slice.inj hv
  cases ao with
  | none => rw [hn rfl] at hi; cases hi
  | some a =>
    obtain ⟨g, rfl, h⟩ := hc _ rfl
    have := h i _ (List.getElem?_eq_getElem hi)
    exact ⟨g, _, _, _, _, _, _, rfl, List.getElem?_eq_getElem hi, this 0 (by omega), this 1 (by omega), this 2 (by omega), this 3 (by omega), this 4 (by omega), this 5 (by omega)⟩
theorem OwnRn.old {w w' : World} {base : Nat} {v : Value} {rs : List Rn} (h : OwnRn w base v rs) (hk : Below w.heap.size w w') : OwnRn w' base v rs := World.ownsRow.kept h (grown_of_below hk none) (by cases hv : v.ownBlock <;> simp)
theorem OwnRn.low {w : World} {b b' : Nat} {v : Value} {rs : List Rn} (h : OwnRn w b v rs) (hb : b' ≤ b) : OwnRn w b' v rs := by
  refine ⟨h.1, ?_⟩
  rcases h.2 with hn | ⟨g, cap, cur, rfl, hbg, rest⟩
  · exact .inl hn
  · exact .inr ⟨g, cap, cur, rfl, Nat.le_trans hb hbg, rest⟩
theorem OwnRn.last {w : World} {base : Nat} {v : Value} {L : List Rn} {r : Rn} (h : OwnRn w base v (L ++ [r])) : ∃ g cap, v = .slice (some ⟨g, 0, none⟩) (L.length + 1) cap ∧ base ≤ g ∧ g < w.heap.size := by
  rcases h.2 with ⟨_, h0⟩ | ⟨g, cap, cur, rfl, r1, r2, _⟩
  · simp at h0
  · exact ⟨g, cap, by rw [List.length_append, List.length_singleton], r1, (Array.getElem?_eq_some_iff.1 r2).1⟩
theorem Try.infoRn : (Try.prog.info? 76).map (fun i => (i.zero, i.size, i.bytes)) = some (some (.agg #[.int .i64 0, .int .i64 0, .int .i64 0, .int .i64 0, .int .i64 0, .int .i64 0]), 6, 48) := by kernel_rfl
theorem Try.sizeCor : (Try.prog.info? 72).map (·.size) = some 3 := by kernel_rfl
section
variable {w : World}
theorem wpList_append_rn {ops : Array Oper} {rest : List Oper} {o : Oper} {a : Act} {Q : Exit → Act → World → Prop} (hgd : o.guard = none) (s sx : Operand)
    (ho : o.op = .call { callee := .builtin .append, args := #[s, sx], argTypes := #[73, 73] })
    (base : Nat) (v : Value) (rs : List Rn) (r : Rn) (he : a.eval s = v) (hown : OwnRn w base v rs) (hx : a.eval sx = .slice (some ⟨w.heap.size, 0, none⟩) 1 1) (hlen : rs.length ≤ 4000000) (hbase : base ≤ w.heap.size)
    (h : ∀ v' w', OwnRn w' base v' (rs ++ [r]) → Below base w w' → (∀ b, b < w.heap.size → v.ownBlock ≠ some b → w'.heap[b]? = w.heap[b]?) → wpList Try.prog ops Q rest (a.put o.dst v') w') : wpList Try.prog ops Q (o :: rest) a (w.alloc (.cells #[.int .i64 r.1.1, .int .i64 r.1.2.1, .int .i64 r.1.2.2, .int .i64 r.2.1, .int .i64 r.2.2.1, .int .i64 r.2.2.2] 76)) := by
  obtain ⟨i0, hi0, hi1, hi2, hi3⟩ := info_parts Try.infoRn
  have hz : (w.alloc (.cells #[.int .i64 r.1.1, .int .i64 r.1.2.1, .int .i64 r.1.2.2, .int .i64 r.2.1, .int .i64 r.2.2.1, .int .i64 r.2.2.2] 76)).heap.size = w.heap.size + 1 := by simp
  refine wpList_plain hgd fun _ hK => wp_append_any _ s sx _ _ ho base 76 i0 _ 6 48 Try.underlying73 hi0 hi1 hi2 hi3 rfl (by omega) v _ _ he (World.ownsRow.alloc hown _) _ 1 (runCells r) hx
    (Src.ofSlice _ Try.underlying73 ⟨w.heap.size, 0, none⟩ 1 1 (runCells r) (by rfl) (World.news_of_block (cs := #[.int .i64 r.1.1, .int .i64 r.1.2.1, .int .i64 r.1.2.2, .int .i64 r.2.1, .int .i64 r.2.2.1, .int .i64 r.2.2.2]) (t := 76) (fr := (0, 0)) (heap_alloc_new w _)) (fun u hu => ?_)) (by unfold maxLen; omega) (by omega) (by omega) fun v' w' q1 q2 q3 => hK _ _ (h v' w' ?_ ?_ fun b hb hne => (q2.block b (by omega) (fun e => hne e.symm)).trans (Below.heap_alloc w _ b hb))
  · simp only [runCells, List.mem_cons, List.not_mem_nil, or_false] at hu
    rcases hu with rfl | rfl | rfl | rfl | rfl | rfl <;> rfl
  · unfold OwnRn
    rw [runFlat_append, List.length_append]
    simpa [runFlat] using q1
  · exact ((Below.refl base w).alloc hbase _).grown q2 (by omega) (fun j hj => (World.ownsRow.lt hown j hj).1)
/-- A struct stored into a row: the block behind it. -/
theorem wpList_store_in {P : Program} {ops : Array Oper} {rest : List Oper} {o : Oper} {a : Act} {Q : Exit → Act → World → Prop} (hgd : o.guard = none) (ty : TypeId) (x y : Operand) (ho : o.op = .store ty x y)
    (g off : Nat) (cells : Array Value) (hx : a.eval x = .pointer (some ⟨g, off, none⟩)) (hy : a.eval y = .agg cells)
    (t : TypeId) (old : Array Value) (hg : w.heap[g]? = some (.cells old t (0, 0))) (hi : (P.info? ty).map (·.size) = some cells.size)
    (hold : off + cells.size ≤ old.size) (h1 : cells.all (·.oneCell') = true)
    (h : ∀ w', w'.heap[g]? = some (.cells (old.toList.take off ++ cells.toList ++ old.toList.drop (off + cells.size)).toArray t (0, 0)) → Keep (· = g) w w' → wpList P ops Q rest (a.put o.dst undef) w') : wpList P ops Q (o :: rest) a w := by
  refine wpList_plain hgd fun _ hK => ?_
  have hst := run_storeCells_at P g off t cells.toList 0 old w hg (by simpa using hold) (fun v hv => (Array.all_eq_true_iff_forall_mem.1 h1) v (by simpa using hv))
  have hrun : (storeVar ty ⟨g, off, none⟩ (.agg cells)).run P w = .ok () (w.setRow g (old.toList.take off ++ cells.toList ++ old.toList.drop (off + cells.size)).toArray) := by
    cases hq : P.info? ty with
    | none => simp [hq] at hi
    | some i =>
      have hs : cells.size = i.size := by simp [hq] at hi; omega
      simp [storeVar, sizeOf, typeInfo, hq, Value.cells, hs] at hst ⊢
      rw [← hs] at hst ⊢
      exact hst
  unfold Oper.wp execOp
  simp only [ho, hx, hy, Instr.storeAt, Instr.sureAddr, Sem.run_bind, Sem.run_pure, Result.andThen_ok, hrun]
  exact hK _ _ (h _ (setRow_heap w g old _ t _ hg) ⟨rfl, rfl, rfl, by simp [World.setRow], fun k _ hk => setRow_other w g k _ hk⟩)
/-- The last run's end, stored. -/
theorem wpList_store_end {ops : Array Oper} {rest : List Oper} {o : Oper} {a : Act} {Q : Exit → Act → World → Prop} (hgd : o.guard = none) (x y : Operand) (ho : o.op = .store 72 x y)
    (base g n cap : Nat) (rs : List Rn) (r : Rn) (c : Cor) (hown : OwnRn w base (.slice (some ⟨g, 0, none⟩) n cap) (rs ++ [r])) (off : Nat) (hoff : off = rs.length * 6 + 3) (hx : a.eval x = .pointer (some ⟨g, off, none⟩)) (hy : a.eval y = .agg #[.int .i64 c.1, .int .i64 c.2.1, .int .i64 c.2.2])
    (h : ∀ w', OwnRn w' base (.slice (some ⟨g, 0, none⟩) n cap) (rs ++ [(r.1, c)]) → Keep (· = g) w w' → wpList Try.prog ops Q rest (a.put o.dst undef) w') : wpList Try.prog ops Q (o :: rest) a w := by
  subst hoff
  rcases hown.2 with ⟨hv, _⟩ | ⟨g', cap', cur, hv, q1, q2, q3, q4, q5, q6⟩
  · cases hv
  · cases hv
    rw [List.length_append, List.length_singleton] at q3 q6 hown
    have hcs : rs.length * 6 + 6 ≤ cur.size := by rw [q5]; omega
    refine wpList_store_in hgd 72 x y ho g (rs.length * 6 + 3) #[.int .i64 c.1, .int .i64 c.2.1, .int .i64 c.2.2] hx hy 76 cur q2 Try.sizeCor (by simp; omega) (by simp [Value.oneCell']) fun w' hg hk => h w' ?_ hk
    refine ⟨by rw [runFlat_length], .inr ⟨g, cap, _, by rw [List.length_append, List.length_append]; rfl, q1, hg, by simpa using q3, q4, by simp; omega, ?_⟩⟩
    have e : cur.toList.take (rs.length * 6 + 3) = runFlat rs ++ [.int .i64 r.1.1, .int .i64 r.1.2.1, .int .i64 r.1.2.2] := by
      have := congrArg (List.take (rs.length * 6 + 3)) q6
      rw [List.take_take, Nat.min_eq_left (by omega)] at this
      rw [this, runFlat_append, List.take_append, runFlat_length, List.take_of_length_le (by rw [runFlat_length]; omega), show rs.length * 6 + 3 - rs.length * 6 = 3 by omega]
      rfl
    simp only [List.length_append, List.length_singleton]
    rw [e, List.take_append_of_le_length (by simp [runFlat_length]; omega), runFlat_append, List.take_of_length_le (by simp [runFlat_length]; omega), List.append_assoc]
    rfl
end
end Go.Proofs.Ytfldheegebopoaa

namespace Go.Proofs.Ytfldheegebopoaa
open Go.RowKit

theorem runs_at {X Y : List Int} {k : Nat} {p q : Int} (hx : X[k]? = some p) (hy : Y[k]? = some q) (rs : List Rn) : runsUp k rs (X.drop k) (Y.drop k) = runsUp (k + 1) (runStep rs k p q) (X.drop (k + 1)) (Y.drop (k + 1)) := by
  obtain ⟨l1, e1⟩ := List.getElem?_eq_some_iff.1 hx
  obtain ⟨l2, e2⟩ := List.getElem?_eq_some_iff.1 hy
  rw [List.drop_eq_getElem_cons l1, List.drop_eq_getElem_cons l2, e1, e2, runsUp]
theorem runStep_no {p q : Int} (h : p < 0 ∨ q < 0) (rs : List Rn) (k : Nat) : runStep rs k p q = rs := by rw [runStep, if_pos h]
theorem runStep_nil (k P Q : Nat) : runStep [] k (P : Int) (Q : Int) = [((k, P, Q), (k + 1, P + 1, Q + 1))] := by rw [runStep, if_neg (by omega)]; rfl
theorem runStep_on (rs : List Rn) (f : Cor) (k P Q : Nat) : runStep (rs ++ [(f, (k, P, Q))]) k (P : Int) (Q : Int) = rs ++ [(f, (k + 1, P + 1, Q + 1))] := by
  rw [runStep, if_neg (by omega), List.getLast?_concat, List.dropLast_concat]
  simp [nextC]
theorem runStep_new (rs : List Rn) (f : Cor) (t : Cor) (k P Q : Nat) (h : t ≠ (k, P, Q)) : runStep (rs ++ [(f, t)]) k (P : Int) (Q : Int) = rs ++ [(f, t)] ++ [((k, P, Q), (k + 1, P + 1, Q + 1))] := by
  rw [runStep, if_neg (by omega), List.getLast?_concat]
  simp only [Int.toNat_natCast]
  rw [if_neg h]
  rfl
section
variable {w : World} {ops : Array Oper} {rest : List Oper} {o : Oper} {a : Act} {Q : Exit → Act → World → Prop}
theorem wpList_look_no (hg : o.guard = none) (m x : Operand) (hop : o.op = Op.lookup 88 m x true) (b n : Nat) (D : MD) (hm : a.eval m = .map (some b)) (hown : OwnM w b n D) (key : Value) (kl : Lit) (hx : a.eval x = key) (hkey : keyOf Try.prog 93 key = some kl)
    (hh : Maps.has D kl = false) (hK : wpList Try.prog ops Q rest (a.put o.dst (.tuple #[.int .i64 0, .bool false])) w) : wpList Try.prog ops Q (o :: rest) a w := by
  refine wpList_lookup_own_ok_int w hg m x 88 hop 93 3 .i64 Try.spotLaw Try.underlying88 Try.underlying3 (Try.zeroInt _) b n D hm hown key kl hx hkey fun c hat _ => ?_
  rw [Maps.atKey_of_not_has hh] at hat
  cases hat
  rw [hh]
  exact hK
theorem wpList_look_yes (hg : o.guard = none) (m x : Operand) (hop : o.op = Op.lookup 88 m x true) (b n : Nat) (D : MD) (hm : a.eval m = .map (some b)) (hown : OwnM w b n D) (key : Value) (kl : Lit) (hx : a.eval x = key) (hkey : keyOf Try.prog 93 key = some kl)
    (p : Int) (hh : Maps.has D kl = true) (hp : ∀ z, D.atKey kl z = .lit (.int .i64 p)) (hK : wpList Try.prog ops Q rest (a.put o.dst (.tuple #[.int .i64 p, .bool true])) w) : wpList Try.prog ops Q (o :: rest) a w := by
  refine wpList_lookup_own_ok_int w hg m x 88 hop 93 3 .i64 Try.spotLaw Try.underlying88 Try.underlying3 (Try.zeroInt _) b n D hm hown key kl hx hkey fun c hat _ => ?_
  rw [hp] at hat
  cases hat
  rw [hh]
  exact hK
end
section
set_option maxRecDepth 100000
set_option maxHeartbeats 4000000
theorem DNext_any (x y z : Nat) (w : World) (hx : x ≤ 1000000) (hy : y ≤ 1000000) (hz : z ≤ 1000000) :
    Calls Try.prog 55 #[.agg #[.int .i64 x, .int .i64 y, .int .i64 z]] w fun e w' => e = .returned (.agg #[.int .i64 ((x + 1 : Nat) : Int), .int .i64 ((y + 1 : Nat) : Int), .int .i64 ((z + 1 : Nat) : Int)]) ∧ Below w.heap.size w w' := by
  have xw : IntKind.i64.wrap ((x : Int) + 1) = (x : Int) + 1 := IntWalk.i64_in _ (by omega)
  have yw : IntKind.i64.wrap ((y : Int) + 1) = (y : Int) + 1 := IntWalk.i64_in _ (by omega)
  have zw : IntKind.i64.wrap ((z : Int) + 1) = (z : Int) + 1 := IntWalk.i64_in _ (by omega)
  have hb1 : ∀ o, ((w.alloc (.cells #[.int .i64 x, .int .i64 y, .int .i64 z] 72)).alloc o).heap[w.heap.size]? = some (.cells #[.int .i64 x, .int .i64 y, .int .i64 z] 72 (0, 0)) := fun o => (Below.heap_alloc _ _ _ (by simp)).trans (heap_alloc_new w _)
  have hb2 := heap_alloc_new (w.alloc (.cells #[.int .i64 x, .int .i64 y, .int .i64 z] 72)) (.cells #[.int .i64 0, .int .i64 0, .int .i64 0] 72)
  have c0 := blk_cell (i := 0) (hb1 (.cells #[.int .i64 0, .int .i64 0, .int .i64 0] 72)) rfl
  have c1 := blk_cell (i := 1) (hb1 (.cells #[.int .i64 0, .int .i64 0, .int .i64 0] 72)) rfl
  have c2 := blk_cell (i := 2) (hb1 (.cells #[.int .i64 0, .int .i64 0, .int .i64 0] 72)) rfl
  have HB2 := hid hb2
  clear hb1 hb2
  go_enter Try.func55, Try.ntmps55
  go_wp2
  refine bodyPost_ret (results_cell_row rfl _ _ (w.heap.size + 1) 72 #[.int .i64 ((x : Int) + 1), .int .i64 ((y : Int) + 1), .int .i64 ((z : Int) + 1)] (0, 0) _ rfl (by simpa using heap_alloc_new (w.alloc (.cells #[.int .i64 x, .int .i64 y, .int .i64 z] 72)) (.cells #[.int .i64 ((x : Int) + 1), .int .i64 ((y : Int) + 1), .int .i64 ((z : Int) + 1)] 72)) Try.underlying72 rfl Try.sizeCor) rfl ?_
  exact ⟨rfl, ((Below.refl _ w).alloc (Nat.le_refl _) _).alloc (by simp) _⟩
theorem DEnd_any (va vb vc : Value) (a b c : List (List UInt8)) (w : World) (ha : Sl w va (strCells a)) (hb : Sl w vb (strCells b)) (hc : Sl w vc (strCells c)) :
    Calls Try.prog 45 #[.agg #[va, vb, vc]] w fun e w' => e = .returned (.agg #[.int .i64 a.length, .int .i64 b.length, .int .i64 c.length]) ∧ Below w.heap.size w w' := by
  obtain ⟨aa, ca, rfl⟩ := ha.form
  obtain ⟨ab, cb, rfl⟩ := hb.form
  obtain ⟨ac, cc, rfl⟩ := hc.form
  rw [strCells_length, strCells_length, strCells_length]
  clear ha hb hc
  have hb1 : ∀ o, ((w.alloc (.cells #[.slice aa a.length ca, .slice ab b.length cb, .slice ac c.length cc] 70)).alloc o).heap[w.heap.size]? = some (.cells #[.slice aa a.length ca, .slice ab b.length cb, .slice ac c.length cc] 70 (0, 0)) := fun o => (Below.heap_alloc _ _ _ (by simp)).trans (heap_alloc_new w _)
  have c0 := blk_cell (i := 0) (hb1 (.cells #[.int .i64 0, .int .i64 0, .int .i64 0] 72)) rfl
  have c1 := blk_cell (i := 1) (hb1 (.cells #[.int .i64 0, .int .i64 0, .int .i64 0] 72)) rfl
  have c2 := blk_cell (i := 2) (hb1 (.cells #[.int .i64 0, .int .i64 0, .int .i64 0] 72)) rfl
  clear hb1
  go_enter Try.func45, Try.ntmps45
  go_wp2
  refine bodyPost_ret (results_cell_row rfl _ _ (w.heap.size + 1) 72 #[.int .i64 a.length, .int .i64 b.length, .int .i64 c.length] (0, 0) _ rfl (by simpa using heap_alloc_new (w.alloc (.cells #[.slice aa a.length ca, .slice ab b.length cb, .slice ac c.length cc] 70)) (.cells #[.int .i64 a.length, .int .i64 b.length, .int .i64 c.length] 72)) Try.underlying72 rfl Try.sizeCor) rfl ?_
  exact ⟨rfl, ((Below.refl _ w).alloc (Nat.le_refl _) _).alloc (by simp) _⟩
end
section
set_option maxRecDepth 100000
set_option maxHeartbeats 4000000
theorem DRuns_any (va vb vc : Value) (a b c : List (List UInt8)) (w : World) (ha : Sl w va (strCells a)) (hb : Sl w vb (strCells b)) (hc : Sl w vc (strCells c)) (la : a.length ≤ 1000) (lb : b.length ≤ 1000) (lc : c.length ≤ 1000) :
    Calls Try.prog 42 #[.agg #[va, vb, vc]] w fun e w' => ∃ u, e = .returned u ∧ OwnRn w' w.heap.size u (runsUp 0 [] (placesS a b) (placesS a c)) ∧ (runsUp 0 [] (placesS a b) (placesS a c)).length ≤ a.length ∧ Below w.heap.size w w' := by
  have hb0 := heap_alloc_new w (.cells #[va, vb, vc] 70)
  have B0 : Below w.heap.size w (w.alloc (.cells #[va, vb, vc] 70)) := (Below.refl _ w).alloc (Nat.le_refl _) _
  have HKP := hid (DKept_any va vb vc a b c _ (Sl.old ha B0) (Sl.old hb B0) (Sl.old hc B0) la lb lc)
  obtain ⟨aa, ca, rfl⟩ := ha.form
  obtain ⟨ab, cb, rfl⟩ := hb.form
  obtain ⟨ac, cc, rfl⟩ := hc.form
  have HXL := hid (placesS_len a b)
  have HYL := hid (placesS_len a c)
  have HXA := hid (placesS_rise a b)
  have HYA := hid (placesS_rise a c)
  obtain ⟨X, hX⟩ : ∃ X, placesS a b = X := ⟨_, rfl⟩
  obtain ⟨Y, hY⟩ : ∃ Y, placesS a c = Y := ⟨_, rfl⟩
  rw [hX] at HKP HXL HXA ⊢
  rw [hY] at HKP HYL HYA ⊢
  simp only [strCells_length] at HKP hb0 B0 ⊢
  have HBL := hid hb0
  have HB0 := hid B0
  have HL := hid (And.intro la (And.intro lb lc))
  have c0 := blk_cell (i := 0) hb0 rfl
  clear ha hb hc la lb lc hX hY hb0 B0
  go_enter Try.func42, Try.ntmps42
  go_wp2_with (go_at_call 54; refine HKP.out.mono ?_; rintro e w1 ⟨g, n, D, rfl, hg1, hg2, hm, hsx, hsy, hb1⟩; have d0 := blk_cell (i := 0) ((hb1.block w.heap.size (by simp)).trans HBL.out) rfl)
  have HB1 := hid (below_step HB0.out hb1 HB0.out.size)
  have HM := hid hm
  have HSX := hid hsx
  have HSY := hid hsy
  clear hb1 hm hsx hsy HKP HB0 HBL c0 hg1 hg2
  clear d0
  go_loopg [4, 16] a.length (fun gh l i wx => ∃ (k : Nat) (rs : List Rn), k ≤ a.length ∧ gh = a.length - k ∧ i = .int .i64 k ∧ Hid (rs.length ≤ k) ∧ Hid (runsUp k rs (X.drop k) (Y.drop k) = runsUp 0 [] X Y) ∧ Hid (OwnRn wx w1.heap.size l rs) ∧ Below w1.heap.size w1 wx)
  case atStart => exact ⟨0, [], Nat.zero_le _, rfl, rfl, hid (Nat.le_refl _), hid (by rw [List.drop_zero, List.drop_zero]), hid (OwnRn.nil _ _), Below.refl _ _⟩
  case round =>
    obtain ⟨k, rs, hk, rfl, rfl, HRL, HRU, HO, hbx⟩ := hrel
    have hzx := hbx.size
    obtain ⟨lo, lcap, rfl⟩ := HO.out.form
    have k0 : (0 : Int) ≤ (k : Int) := Int.natCast_nonneg _
    by_cases hlt : k < a.length
    · have k1 : (k : Int) < (a.length : Int) := by omega
      have kw : IntKind.i64.wrap ((k : Int) + 1) = (k : Int) + 1 := IntWalk.i64_in _ (by have := HL.out; omega)
      obtain ⟨p, hp⟩ : ∃ p, X[k]? = some p := ⟨_, List.getElem?_eq_getElem (by have := HXL.out; omega)⟩
      obtain ⟨q, hq⟩ : ∃ q, Y[k]? = some q := ⟨_, List.getElem?_eq_getElem (by have := HYL.out; omega)⟩
      have HST := hid (runs_at hp hq rs)
      have HPX := hid (HSX.out k p hp)
      have HPY := hid (HSY.out k q hq)
      have HK0 := hid (spot_key (i := k) (s := 0) (by have := HL.out; omega) (by omega))
      have HK1 := hid (spot_key (i := k) (s := 1) (by have := HL.out; omega) (by omega))
      have HMX := hid (OwnM.old HM.out hbx)
      have HPB := hid (show p < 1000000 ∧ q < 1000000 by
        have h1 := HXA.out
        have h2 := HYA.out
        have h3 := HL.out
        constructor
        · by_cases h : p < 0
          · omega
          · obtain ⟨P, rfl⟩ := Int.eq_ofNat_of_zero_le (show 0 ≤ p by omega)
            have := asc_bound h1 hp
            omega
        · by_cases h : q < 0
          · omega
          · obtain ⟨P, rfl⟩ := Int.eq_ofNat_of_zero_le (show 0 ≤ q by omega)
            have := asc_bound h2 hq
            omega)
      clear hp hq
      by_cases hpq : p < 0 ∨ q < 0
      · have HN := hid (show runsUp (k + 1) rs (X.drop (k + 1)) (Y.drop (k + 1)) = runsUp 0 [] X Y by rw [← HRU.out, HST.out, runStep_no hpq])
        clear HST HRU
        rcases (show (p < 0 ∧ q < 0) ∨ (p < 0 ∧ ¬ q < 0) ∨ (¬ p < 0 ∧ q < 0) by omega) with ⟨h1, h2⟩ | ⟨h1, h2⟩ | ⟨h1, h2⟩
        · have N0 := hid (HPX.out.1 h1)
          have N1 := hid (HPY.out.1 h2)
          clear hpq h1 h2
          go_wp2_with (first
            | (at_lookup; refine wpList_look_no rfl _ _ rfl g n D rfl HMX.out _ _ rfl HK0.out N0.out ?_)
            | (at_lookup; refine wpList_look_no rfl _ _ rfl g n D rfl HMX.out _ _ rfl HK1.out N1.out ?_))
          go_roundg (a.length - (k + 1))
          case measure => omega
          case rel => exact ⟨k + 1, rs, by omega, rfl, by go_num, hid (by have := HRL.out; omega), HN, HO, hbx⟩
        · have N0 := hid (HPX.out.1 h1)
          have Y1 := hid (HPY.out.2 h2)
          clear hpq h1 h2
          go_wp2_with (first
            | (at_lookup; refine wpList_look_no rfl _ _ rfl g n D rfl HMX.out _ _ rfl HK0.out N0.out ?_)
            | (at_lookup; refine wpList_look_yes rfl _ _ rfl g n D rfl HMX.out _ _ rfl HK1.out q Y1.out.1 Y1.out.2 ?_))
          go_roundg (a.length - (k + 1))
          case measure => omega
          case rel => exact ⟨k + 1, rs, by omega, rfl, by go_num, hid (by have := HRL.out; omega), HN, HO, hbx⟩
        · have Y0 := hid (HPX.out.2 h1)
          have N1 := hid (HPY.out.1 h2)
          clear hpq h1 h2
          go_wp2_with (first
            | (at_lookup; refine wpList_look_yes rfl _ _ rfl g n D rfl HMX.out _ _ rfl HK0.out p Y0.out.1 Y0.out.2 ?_)
            | (at_lookup; refine wpList_look_no rfl _ _ rfl g n D rfl HMX.out _ _ rfl HK1.out N1.out ?_))
          go_roundg (a.length - (k + 1))
          case measure => omega
          case rel => exact ⟨k + 1, rs, by omega, rfl, by go_num, hid (by have := HRL.out; omega), HN, HO, hbx⟩
      · have Y0 := hid (HPX.out.2 (by omega))
        have Y1 := hid (HPY.out.2 (by omega))
        obtain ⟨P, rfl⟩ := Int.eq_ofNat_of_zero_le (show 0 ≤ p by omega)
        obtain ⟨Q, rfl⟩ := Int.eq_ofNat_of_zero_le (show 0 ≤ q by omega)
        have P0 : (0 : Int) ≤ (P : Int) := Int.natCast_nonneg _
        have Q0 : (0 : Int) ≤ (Q : Int) := Int.natCast_nonneg _
        clear hpq
        go_wp2_with (first
            | (at_lookup; refine wpList_look_yes rfl _ _ rfl g n D rfl HMX.out _ _ rfl HK0.out P Y0.out.1 Y0.out.2 ?_)
            | (at_lookup; refine wpList_look_yes rfl _ _ rfl g n D rfl HMX.out _ _ rfl HK1.out Q Y1.out.1 Y1.out.2 ?_))
        have HB2 := hid (hbx.alloc hzx (.cells #[.int .i64 k, .int .i64 P, .int .i64 Q] 72))
        have HG2 := hid (heap_alloc_new wr (.cells #[.int .i64 k, .int .i64 P, .int .i64 Q] 72))
        have HO2 := hid (show OwnRn (wr.alloc (.cells #[.int .i64 k, .int .i64 P, .int .i64 Q] 72)) w1.heap.size (.slice lo rs.length lcap) rs from World.ownsRow.alloc HO.out _)
        have HZ2 := hid (show wr.heap.size < (wr.alloc (.cells #[.int .i64 k, .int .i64 P, .int .i64 Q] 72)).heap.size by simp)
        have HLT := hid (fun j (hj : (Value.slice lo rs.length lcap).ownBlock = some j) => (World.ownsRow.lt HO.out j hj).2)
        generalize wr.alloc (.cells #[.int .i64 k, .int .i64 P, .int .i64 Q] 72) = W2 at HB2 HG2 HO2 HZ2 ⊢
        obtain ⟨gc, hgc⟩ : ∃ z, wr.heap.size = z := ⟨_, rfl⟩
        rw [hgc] at hzx HG2 HZ2 HLT ⊢
        clear hgc HO HMX Y0 Y1 HPX HPY HK0 HK1 hbx
        have hcase : rs = [] ∨ ∃ L f t, rs = L ++ [((f, t) : Rn)] := by
          rcases List.eq_nil_or_concat rs with h | ⟨L, r, h⟩
          · exact .inl h
          · exact .inr ⟨L, r.1, r.2, by rw [h, List.concat_eq_append]⟩
        rcases hcase with rfl | ⟨L, f, t, rfl⟩
        · have HN := hid (show runsUp (k + 1) ([] ++ [((k, P, Q), (k + 1, P + 1, Q + 1))]) (X.drop (k + 1)) (Y.drop (k + 1)) = runsUp 0 [] X Y by rw [← HRU.out, HST.out, runStep_nil]; rfl)
          have HLB := hid (show ([] : List Rn).length ≤ 400 from Nat.zero_le _)
          have HNE := hid (show (Value.slice lo ([] : List Rn).length lcap).ownBlock ≠ some gc from fun e => Nat.lt_irrefl _ (HLT.out gc e))
          clear HST HRU
          go_quiet (fail)
          have HB3 := hid (show Below w1.heap.size w1 (W2.drewN nq) from HB2.out.trans ⟨rfl, rfl, rfl, Nat.le_refl _, fun _ _ => rfl⟩)
          have HG3 := hid (show (W2.drewN nq).heap[gc]? = _ from HG2.out)
          have HO3 := hid (show OwnRn (W2.drewN nq) w1.heap.size _ _ from HO2.out)
          have HZ3 := hid (show gc < (W2.drewN nq).heap.size from HZ2.out)
          clear HO2 HB2 HG2 HZ2
          generalize W2.drewN nq = W3 at HB3 HG3 HO3 HZ3 ⊢
          have f0 := blk_cell (i := 0) HG3.out rfl
          have f1 := blk_cell (i := 1) HG3.out rfl
          have f2 := blk_cell (i := 2) HG3.out rfl
          go_wp2_with (first
            | (refine wpList_append_rn rfl (.tmp 57) (.tmp 60) rfl w1.heap.size _ [] ((k, P, Q), (0, 0, 0)) rfl HO3.out rfl (by have h1 := HL.out; have h2 := HRL.out; omega) (by have := HB3.out.size; omega) ?_; intro v4 W4 hO4 hb4 hK4
               have hG4 := (hK4 gc HZ3.out HNE.out).trans HG3.out
               have hB4 := HB3.out.trans hb4
               clear hb4 hK4
               obtain ⟨g4, cap4, rfl, hg4, hl4⟩ := hO4.last
               obtain ⟨m4, hm4⟩ : ∃ z, ([] : List Rn).length + 1 = z := ⟨_, rfl⟩
               obtain ⟨j4, hj4⟩ : ∃ z, ([] : List Rn).length = z := ⟨_, rfl⟩
               have HJ4 := hid hj4
               have HL4 := hid hg4
               have b0 : (0 : Int) ≤ (j4 : Int) := Int.natCast_nonneg _
               have b1 : (j4 : Int) < (m4 : Int) := by omega
               have b2 : IntKind.i64.wrap ((m4 : Int) - 1) = (j4 : Int) := (IntWalk.i64_in _ (by have h1 := HL.out; have h2 := HRL.out; omega)).trans (by omega)
               rw [hm4] at hO4 ⊢
               have HO4 := hid hO4
               have HB4 := hid hB4
               have HG4 := hid hG4
               have c0 := blk_cell (i := 0) hG4 rfl
               have c1 := blk_cell (i := 1) hG4 rfl
               have c2 := blk_cell (i := 2) hG4 rfl
               have HNX := hid (DNext_any k P Q W4 (by have := HL.out; omega) (by have := HPB.out; omega) (by have := HPB.out; omega))
               clear hm4 hj4 hO4 hB4 hG4 hg4 hl4)
            | (go_at_call 55; with_reducible refine HNX.out.mono ?_; rintro e w5 ⟨rfl, hb5⟩
               have HO5 := hid (OwnRn.old HO4.out hb5)
               have HB5 := hid (below_step HB4.out hb5 HB4.out.size)
               clear hb5)
            | (refine wpList_store_end rfl _ _ rfl w1.heap.size g4 m4 cap4 _ _ (k + 1, P + 1, Q + 1) HO5.out (j4 * 6 + 3) (by rw [HJ4.out]) rfl rfl ?_; intro w6 hO6 hk6
               have HO6 := hid hO6
               have HB6 := hid (HB5.out.trans (hk6.below (by have := HB5.out.size; omega) (fun b hb e => by have := HL4.out; omega)))
               clear hO6 hk6))
          go_roundg (a.length - (k + 1))
          case measure => omega
          case rel => exact ⟨k + 1, _, by omega, rfl, by go_num, hid (by simp), HN, HO6, HB6.out⟩
        · obtain ⟨lo', lcap', hv, hlo, hlz⟩ := HO2.out.last
          obtain ⟨g', r1, r2, r3, r4, r5, r6, hlo', he, -, -, -, e3, e4, e5⟩ := HO2.out.sl.at' (i := L.length) (by simp)
          rw [List.getElem?_concat_length] at he
          cases he
          rw [List.length_append, List.length_singleton] at hv
          cases hv
          cases hlo'
          rw [List.length_append, List.length_singleton] at HO2 HLT HRL ⊢
          obtain ⟨m, hm⟩ : ∃ m, L.length + 1 = m := ⟨_, rfl⟩
          obtain ⟨j, hj⟩ : ∃ j, L.length = j := ⟨_, rfl⟩
          have HJ := hid hj
          have HMJ := hid hm
          rw [hm] at HO2 HLT HRL ⊢
          rw [hj] at e3 e4 e5
          have m0 : (0 : Int) ≤ (m : Int) := Int.natCast_nonneg _
          have j0 : (0 : Int) ≤ (j : Int) := Int.natCast_nonneg _
          have jm : (j : Int) < (m : Int) := by omega
          have mne : ((m : Int) == 0) = false := by simp; omega
          have mw : IntKind.i64.wrap ((m : Int) - 1) = (j : Int) := (IntWalk.i64_in _ (by have h1 := HL.out; have h2 := HRL.out; omega)).trans (by omega)
          clear hm hj
          have f0 := blk_cell (i := 0) HG2.out rfl
          have f1 := blk_cell (i := 1) HG2.out rfl
          have f2 := blk_cell (i := 2) HG2.out rfl
          by_cases ht : (r4, r5, r6) = (k, P, Q)
          · cases ht
            have HN := hid (show runsUp (k + 1) (L ++ [((r1, r2, r3), (k + 1, P + 1, Q + 1))]) (X.drop (k + 1)) (Y.drop (k + 1)) = runsUp 0 [] X Y by rw [← HRU.out, HST.out, runStep_on])
            clear HST HRU
            go_quiet (fail)
            have HB3 := hid (show Below w1.heap.size w1 (W2.drewN nq) from HB2.out.trans ⟨rfl, rfl, rfl, Nat.le_refl _, fun _ _ => rfl⟩)
            have HG3 := hid (show (W2.drewN nq).heap[gc]? = _ from HG2.out)
            have HO3 := hid (show OwnRn (W2.drewN nq) w1.heap.size _ _ from HO2.out)
            have HZ3 := hid (show gc < (W2.drewN nq).heap.size from HZ2.out)
            clear HO2 HB2 HG2 HZ2 e3 e4 e5 f0 f1 f2
            generalize W2.drewN nq = W3 at HB3 HG3 HO3 HZ3 ⊢
            have HJ4 := HJ
            have HL4 := hid hlo
            have HO4 := HO3
            have HB4 := HB3
            have f0 := blk_cell (i := 0) HG3.out rfl
            have f1 := blk_cell (i := 1) HG3.out rfl
            have f2 := blk_cell (i := 2) HG3.out rfl
            have HNX := hid (DNext_any k P Q W3 (by have := HL.out; omega) (by have := HPB.out; omega) (by have := HPB.out; omega))
            go_wp2_with (first
              | (go_at_call 55; with_reducible refine HNX.out.mono ?_; rintro e w5 ⟨rfl, hb5⟩
                 have HO5 := hid (OwnRn.old HO4.out hb5)
                 have HB5 := hid (below_step HB4.out hb5 HB4.out.size)
                 clear hb5)
              | (refine wpList_store_end rfl _ _ rfl w1.heap.size lo' m lcap _ _ (k + 1, P + 1, Q + 1) HO5.out (j * 6 + 3) (by rw [HJ4.out]) rfl rfl ?_; intro w6 hO6 hk6
                 have HO6 := hid hO6
                 have HB6 := hid (HB5.out.trans (hk6.below (by have := HB5.out.size; omega) (fun b hb e => by have := HL4.out; omega)))
                 clear hO6 hk6))
            go_roundg (a.length - (k + 1))
            case measure => omega
            case rel => exact ⟨k + 1, _, by omega, rfl, by go_num, hid (by have h1 := HRL.out; have h2 := HMJ.out; simp; omega), HN, HO6, HB6.out⟩
          · have hnn : r4 ≠ k ∨ (k = r4 ∧ r5 ≠ P) ∨ (k = r4 ∧ P = r5 ∧ r6 ≠ Q) := by
              apply Classical.byContradiction
              intro h
              apply ht
              have : r4 = k ∧ r5 = P ∧ r6 = Q := by omega
              rw [this.1, this.2.1, this.2.2]
            have HT := hid ht
            clear ht
            rcases hnn with h4 | ⟨rfl, h5⟩ | ⟨rfl, rfl, h6⟩
            · have n4 : ((r4 : Int) == (k : Int)) = false := by simp; omega
              have n4' : (r4 == k) = false := by simpa using h4
              have HN := hid (show runsUp (k + 1) (L ++ [((r1, r2, r3), (r4, r5, r6))] ++ [((k, P, Q), (k + 1, P + 1, Q + 1))]) (X.drop (k + 1)) (Y.drop (k + 1)) = runsUp 0 [] X Y by rw [← HRU.out, HST.out, runStep_new _ _ _ _ _ _ HT.out])
              have HLB := hid (show (L ++ [((r1, r2, r3), (r4, r5, r6))]).length ≤ k ∧ k ≤ 1000 by have h1 := HRL.out; have h2 := HMJ.out; have h3 := HL.out; simp; omega)
              have HNE := hid (show (Value.slice (some ⟨lo', 0, none⟩) m lcap).ownBlock ≠ some gc from fun e => Nat.lt_irrefl _ (HLT.out gc e))
              clear HST HRU
              go_quiet (fail)
              have HB3 := hid (show Below w1.heap.size w1 (W2.drewN nq) from HB2.out.trans ⟨rfl, rfl, rfl, Nat.le_refl _, fun _ _ => rfl⟩)
              have HG3 := hid (show (W2.drewN nq).heap[gc]? = _ from HG2.out)
              have HO3 := hid (show OwnRn (W2.drewN nq) w1.heap.size _ _ from HO2.out)
              have HZ3 := hid (show gc < (W2.drewN nq).heap.size from HZ2.out)
              clear HO2 HB2 HG2 HZ2 e3 e4 e5 f0 f1 f2
              generalize W2.drewN nq = W3 at HB3 HG3 HO3 HZ3 ⊢
              have f0 := blk_cell (i := 0) HG3.out rfl
              have f1 := blk_cell (i := 1) HG3.out rfl
              have f2 := blk_cell (i := 2) HG3.out rfl
              go_wp2_with (first
                | (refine wpList_append_rn rfl (.tmp 57) (.tmp 60) rfl w1.heap.size _ (L ++ [((r1, r2, r3), (r4, r5, r6))]) ((k, P, Q), (0, 0, 0)) rfl HO3.out rfl (by have h2 := HLB.out; omega) (by have := HB3.out.size; omega) ?_; intro v4 W4 hO4 hb4 hK4
                   have hG4 := (hK4 gc HZ3.out HNE.out).trans HG3.out
                   have hB4 := HB3.out.trans hb4
                   clear hb4 hK4
                   obtain ⟨g4, cap4, rfl, hg4, hl4⟩ := hO4.last
                   obtain ⟨m4, hm4⟩ : ∃ z, (L ++ [((r1, r2, r3), (r4, r5, r6))]).length + 1 = z := ⟨_, rfl⟩
                   obtain ⟨j4, hj4⟩ : ∃ z, (L ++ [((r1, r2, r3), (r4, r5, r6))]).length = z := ⟨_, rfl⟩
                   have HJ4 := hid hj4
                   have HL4 := hid hg4
                   have b0 : (0 : Int) ≤ (j4 : Int) := Int.natCast_nonneg _
                   have b1 : (j4 : Int) < (m4 : Int) := by omega
                   have b2 : IntKind.i64.wrap ((m4 : Int) - 1) = (j4 : Int) := (IntWalk.i64_in _ (by have h1 := HL.out; have h2 := HLB.out; omega)).trans (by omega)
                   rw [hm4] at hO4 ⊢
                   have HO4 := hid hO4
                   have HB4 := hid hB4
                   have HG4 := hid hG4
                   have c0 := blk_cell (i := 0) hG4 rfl
                   have c1 := blk_cell (i := 1) hG4 rfl
                   have c2 := blk_cell (i := 2) hG4 rfl
                   have HNX := hid (DNext_any k P Q W4 (by have := HL.out; omega) (by have := HPB.out; omega) (by have := HPB.out; omega))
                   clear hm4 hj4 hO4 hB4 hG4 hg4 hl4)
                | (go_at_call 55; with_reducible refine HNX.out.mono ?_; rintro e w5 ⟨rfl, hb5⟩
                   have HO5 := hid (OwnRn.old HO4.out hb5)
                   have HB5 := hid (below_step HB4.out hb5 HB4.out.size)
                   clear hb5)
                | (refine wpList_store_end rfl _ _ rfl w1.heap.size g4 m4 cap4 _ _ (k + 1, P + 1, Q + 1) HO5.out (j4 * 6 + 3) (by rw [HJ4.out]) rfl rfl ?_; intro w6 hO6 hk6
                   have HO6 := hid hO6
                   have HB6 := hid (HB5.out.trans (hk6.below (by have := HB5.out.size; omega) (fun b hb e => by have := HL4.out; omega)))
                   clear hO6 hk6))
              go_roundg (a.length - (k + 1))
              case measure => omega
              case rel => exact ⟨k + 1, _, by omega, rfl, by go_num, hid (by have h1 := HLB.out; rw [List.length_append, List.length_singleton]; omega), HN, HO6, HB6.out⟩
            · have n5 : ((r5 : Int) == (P : Int)) = false := by simp; omega
              have n5' : (r5 == P) = false := by simpa using h5
              have HN := hid (show runsUp (k + 1) (L ++ [((r1, r2, r3), (k, r5, r6))] ++ [((k, P, Q), (k + 1, P + 1, Q + 1))]) (X.drop (k + 1)) (Y.drop (k + 1)) = runsUp 0 [] X Y by rw [← HRU.out, HST.out, runStep_new _ _ _ _ _ _ HT.out])
              have HLB := hid (show (L ++ [((r1, r2, r3), (k, r5, r6))]).length ≤ k ∧ k ≤ 1000 by have h1 := HRL.out; have h2 := HMJ.out; have h3 := HL.out; simp; omega)
              have HNE := hid (show (Value.slice (some ⟨lo', 0, none⟩) m lcap).ownBlock ≠ some gc from fun e => Nat.lt_irrefl _ (HLT.out gc e))
              clear HST HRU
              go_quiet (fail)
              have HB3 := hid (show Below w1.heap.size w1 (W2.drewN nq) from HB2.out.trans ⟨rfl, rfl, rfl, Nat.le_refl _, fun _ _ => rfl⟩)
              have HG3 := hid (show (W2.drewN nq).heap[gc]? = _ from HG2.out)
              have HO3 := hid (show OwnRn (W2.drewN nq) w1.heap.size _ _ from HO2.out)
              have HZ3 := hid (show gc < (W2.drewN nq).heap.size from HZ2.out)
              clear HO2 HB2 HG2 HZ2 e3 e4 e5 f0 f1 f2
              generalize W2.drewN nq = W3 at HB3 HG3 HO3 HZ3 ⊢
              have f0 := blk_cell (i := 0) HG3.out rfl
              have f1 := blk_cell (i := 1) HG3.out rfl
              have f2 := blk_cell (i := 2) HG3.out rfl
              go_wp2_with (first
                | (refine wpList_append_rn rfl (.tmp 57) (.tmp 60) rfl w1.heap.size _ (L ++ [((r1, r2, r3), (k, r5, r6))]) ((k, P, Q), (0, 0, 0)) rfl HO3.out rfl (by have h2 := HLB.out; omega) (by have := HB3.out.size; omega) ?_; intro v4 W4 hO4 hb4 hK4
                   have hG4 := (hK4 gc HZ3.out HNE.out).trans HG3.out
                   have hB4 := HB3.out.trans hb4
                   clear hb4 hK4
                   obtain ⟨g4, cap4, rfl, hg4, hl4⟩ := hO4.last
                   obtain ⟨m4, hm4⟩ : ∃ z, (L ++ [((r1, r2, r3), (k, r5, r6))]).length + 1 = z := ⟨_, rfl⟩
                   obtain ⟨j4, hj4⟩ : ∃ z, (L ++ [((r1, r2, r3), (k, r5, r6))]).length = z := ⟨_, rfl⟩
                   have HJ4 := hid hj4
                   have HL4 := hid hg4
                   have b0 : (0 : Int) ≤ (j4 : Int) := Int.natCast_nonneg _
                   have b1 : (j4 : Int) < (m4 : Int) := by omega
                   have b2 : IntKind.i64.wrap ((m4 : Int) - 1) = (j4 : Int) := (IntWalk.i64_in _ (by have h1 := HL.out; have h2 := HLB.out; omega)).trans (by omega)
                   rw [hm4] at hO4 ⊢
                   have HO4 := hid hO4
                   have HB4 := hid hB4
                   have HG4 := hid hG4
                   have c0 := blk_cell (i := 0) hG4 rfl
                   have c1 := blk_cell (i := 1) hG4 rfl
                   have c2 := blk_cell (i := 2) hG4 rfl
                   have HNX := hid (DNext_any k P Q W4 (by have := HL.out; omega) (by have := HPB.out; omega) (by have := HPB.out; omega))
                   clear hm4 hj4 hO4 hB4 hG4 hg4 hl4)
                | (go_at_call 55; with_reducible refine HNX.out.mono ?_; rintro e w5 ⟨rfl, hb5⟩
                   have HO5 := hid (OwnRn.old HO4.out hb5)
                   have HB5 := hid (below_step HB4.out hb5 HB4.out.size)
                   clear hb5)
                | (refine wpList_store_end rfl _ _ rfl w1.heap.size g4 m4 cap4 _ _ (k + 1, P + 1, Q + 1) HO5.out (j4 * 6 + 3) (by rw [HJ4.out]) rfl rfl ?_; intro w6 hO6 hk6
                   have HO6 := hid hO6
                   have HB6 := hid (HB5.out.trans (hk6.below (by have := HB5.out.size; omega) (fun b hb e => by have := HL4.out; omega)))
                   clear hO6 hk6))
              go_roundg (a.length - (k + 1))
              case measure => omega
              case rel => exact ⟨k + 1, _, by omega, rfl, by go_num, hid (by have h1 := HLB.out; rw [List.length_append, List.length_singleton]; omega), HN, HO6, HB6.out⟩
            · have n6 : ((r6 : Int) == (Q : Int)) = false := by simp; omega
              have n6' : (r6 == Q) = false := by simpa using h6
              have HN := hid (show runsUp (k + 1) (L ++ [((r1, r2, r3), (k, P, r6))] ++ [((k, P, Q), (k + 1, P + 1, Q + 1))]) (X.drop (k + 1)) (Y.drop (k + 1)) = runsUp 0 [] X Y by rw [← HRU.out, HST.out, runStep_new _ _ _ _ _ _ HT.out])
              have HLB := hid (show (L ++ [((r1, r2, r3), (k, P, r6))]).length ≤ k ∧ k ≤ 1000 by have h1 := HRL.out; have h2 := HMJ.out; have h3 := HL.out; simp; omega)
              have HNE := hid (show (Value.slice (some ⟨lo', 0, none⟩) m lcap).ownBlock ≠ some gc from fun e => Nat.lt_irrefl _ (HLT.out gc e))
              clear HST HRU
              go_quiet (fail)
              have HB3 := hid (show Below w1.heap.size w1 (W2.drewN nq) from HB2.out.trans ⟨rfl, rfl, rfl, Nat.le_refl _, fun _ _ => rfl⟩)
              have HG3 := hid (show (W2.drewN nq).heap[gc]? = _ from HG2.out)
              have HO3 := hid (show OwnRn (W2.drewN nq) w1.heap.size _ _ from HO2.out)
              have HZ3 := hid (show gc < (W2.drewN nq).heap.size from HZ2.out)
              clear HO2 HB2 HG2 HZ2 e3 e4 e5 f0 f1 f2
              generalize W2.drewN nq = W3 at HB3 HG3 HO3 HZ3 ⊢
              have f0 := blk_cell (i := 0) HG3.out rfl
              have f1 := blk_cell (i := 1) HG3.out rfl
              have f2 := blk_cell (i := 2) HG3.out rfl
              go_wp2_with (first
                | (refine wpList_append_rn rfl (.tmp 57) (.tmp 60) rfl w1.heap.size _ (L ++ [((r1, r2, r3), (k, P, r6))]) ((k, P, Q), (0, 0, 0)) rfl HO3.out rfl (by have h2 := HLB.out; omega) (by have := HB3.out.size; omega) ?_; intro v4 W4 hO4 hb4 hK4
                   have hG4 := (hK4 gc HZ3.out HNE.out).trans HG3.out
                   have hB4 := HB3.out.trans hb4
                   clear hb4 hK4
                   obtain ⟨g4, cap4, rfl, hg4, hl4⟩ := hO4.last
                   obtain ⟨m4, hm4⟩ : ∃ z, (L ++ [((r1, r2, r3), (k, P, r6))]).length + 1 = z := ⟨_, rfl⟩
                   obtain ⟨j4, hj4⟩ : ∃ z, (L ++ [((r1, r2, r3), (k, P, r6))]).length = z := ⟨_, rfl⟩
                   have HJ4 := hid hj4
                   have HL4 := hid hg4
                   have b0 : (0 : Int) ≤ (j4 : Int) := Int.natCast_nonneg _
                   have b1 : (j4 : Int) < (m4 : Int) := by omega
                   have b2 : IntKind.i64.wrap ((m4 : Int) - 1) = (j4 : Int) := (IntWalk.i64_in _ (by have h1 := HL.out; have h2 := HLB.out; omega)).trans (by omega)
                   rw [hm4] at hO4 ⊢
                   have HO4 := hid hO4
                   have HB4 := hid hB4
                   have HG4 := hid hG4
                   have c0 := blk_cell (i := 0) hG4 rfl
                   have c1 := blk_cell (i := 1) hG4 rfl
                   have c2 := blk_cell (i := 2) hG4 rfl
                   have HNX := hid (DNext_any k P Q W4 (by have := HL.out; omega) (by have := HPB.out; omega) (by have := HPB.out; omega))
                   clear hm4 hj4 hO4 hB4 hG4 hg4 hl4)
                | (go_at_call 55; with_reducible refine HNX.out.mono ?_; rintro e w5 ⟨rfl, hb5⟩
                   have HO5 := hid (OwnRn.old HO4.out hb5)
                   have HB5 := hid (below_step HB4.out hb5 HB4.out.size)
                   clear hb5)
                | (refine wpList_store_end rfl _ _ rfl w1.heap.size g4 m4 cap4 _ _ (k + 1, P + 1, Q + 1) HO5.out (j4 * 6 + 3) (by rw [HJ4.out]) rfl rfl ?_; intro w6 hO6 hk6
                   have HO6 := hid hO6
                   have HB6 := hid (HB5.out.trans (hk6.below (by have := HB5.out.size; omega) (fun b hb e => by have := HL4.out; omega)))
                   clear hO6 hk6))
              go_roundg (a.length - (k + 1))
              case measure => omega
              case rel => exact ⟨k + 1, _, by omega, rfl, by go_num, hid (by have h1 := HLB.out; rw [List.length_append, List.length_singleton]; omega), HN, HO6, HB6.out⟩
    · obtain rfl : k = a.length := by omega
      have hneg : ¬ (a.length : Int) < (a.length : Int) := by omega
      have HX : Hid (rs = runsUp 0 [] X Y) := hid (by
        rw [← HRU.out, List.drop_of_length_le (by have := HXL.out; omega), runsUp]
        simp)
      have HSL := hid (HO.out.low HB1.out.size)
      go_wp2_with fail
      go_ret
      rw [← HX.out]
      exact ⟨_, rfl, HSL.out, HRL.out, below_step HB1.out hbx HB1.out.size⟩
end
end Go.Proofs.Ytfldheegebopoaa

namespace Go.Proofs.Ytfldheegebopoaa
open Go.RowKit
theorem run_neq_cor {x1 x2 x3 y1 y2 y3 : Nat} (h : (x1, x2, x3) ≠ (y1, y2, y3)) (wx : World) : (binOp .neq 72 (.agg #[.int .i64 x1, .int .i64 x2, .int .i64 x3]) (.agg #[.int .i64 y1, .int .i64 y2, .int .i64 y3])).run Try.prog wx = .ok (.bool true) wx := by
  have hnn : x1 ≠ y1 ∨ (x1 = y1 ∧ x2 ≠ y2) ∨ (x1 = y1 ∧ x2 = y2 ∧ x3 ≠ y3) := by
    apply Classical.byContradiction
    intro hc
    apply h
    have : x1 = y1 ∧ x2 = y2 ∧ x3 = y3 := by omega
    rw [this.1, this.2.1, this.2.2]
  clear h
  rcases hnn with h4 | ⟨rfl, h5⟩ | ⟨rfl, rfl, h6⟩
  · have n4 : ((x1 : Int) == (y1 : Int)) = false := by simp; omega
    clear h4
    go_simp
  · have n4 : ((x2 : Int) == (y2 : Int)) = false := by simp; omega
    clear h5
    go_simp
  · have n4 : ((x3 : Int) == (y3 : Int)) = false := by simp; omega
    clear h6
    go_simp
end Go.Proofs.Ytfldheegebopoaa

namespace Go.Proofs.Ytfldheegebopoaa
open Go.RowKit

/-- the four blocks that piece makes: its arguments' as they were, with what it makes last of all above -/
structure Live (w : World) (T F E : Array Value) (wx : World) : Prop where
  below : Below w.heap.size w wx
  big : w.heap.size + 1 + 1 + 1 < wx.heap.size
  t : wx.heap[w.heap.size]? = some (.cells T 70 (0, 0))
  f : wx.heap[w.heap.size + 1]? = some (.cells F 72 (0, 0))
  e : wx.heap[w.heap.size + 1 + 1]? = some (.cells E 72 (0, 0))
structure LiveZ (w : World) (T F E : Array Value) (wx : World) : Prop where
  live : Live w T F E wx
  z : wx.heap[w.heap.size + 1 + 1 + 1]? = some (.cells #[.int .i64 0, .slice none 0 0, .slice none 0 0, .slice none 0 0] 34 (0, 0))
theorem Live.set {w wx : World} {T F E : Array Value} (h : Live w T F E wx) (i : Nat) (u : Value) : Live w T F E (wx.setCell ⟨w.heap.size + 1 + 1 + 1, i, none⟩ u) :=
  ⟨h.below.setCell (by simp only; omega) _, by have := h.big; simp [World.setCell]; omega, (Below.heap_setCell _ _ _ _ (by simp only; omega)).trans h.t, (Below.heap_setCell _ _ _ _ (by simp only; omega)).trans h.f, (Below.heap_setCell _ _ _ _ (by simp only; omega)).trans h.e⟩
theorem LiveZ.step {w wx w' : World} {T F E : Array Value} (h : LiveZ w T F E wx) (k : Below wx.heap.size wx w') : LiveZ w T F E w' := by
  have hb := h.live.big
  exact ⟨⟨below_step h.live.below k h.live.below.size, Nat.lt_of_lt_of_le hb k.size, (k.block _ (by omega)).trans h.live.t, (k.block _ (by omega)).trans h.live.f, (k.block _ (by omega)).trans h.live.e⟩, (k.block _ hb).trans h.z⟩
theorem LiveZ.start (w : World) (T F E : Array Value) : LiveZ w T F E ((((w.alloc (.cells T 70)).alloc (.cells F 72)).alloc (.cells E 72)).alloc (.cells #[.int .i64 0, .slice none 0 0, .slice none 0 0, .slice none 0 0] 34)) := by
  have z1 : (w.alloc (.cells T 70)).heap.size = w.heap.size + 1 := by simp
  have z2 : ((w.alloc (.cells T 70)).alloc (.cells F 72)).heap.size = w.heap.size + 1 + 1 := by simp
  have z3 : (((w.alloc (.cells T 70)).alloc (.cells F 72)).alloc (.cells E 72)).heap.size = w.heap.size + 1 + 1 + 1 := by simp
  refine ⟨⟨((((Below.refl _ w).alloc (Nat.le_refl _) _).alloc (by omega) _).alloc (by omega) _).alloc (by omega) _, by simp, ?_, ?_, ?_⟩, ?_⟩
  · exact (Below.heap_alloc _ _ _ (by omega)).trans ((Below.heap_alloc _ _ _ (by omega)).trans ((Below.heap_alloc _ _ _ (by omega)).trans (heap_alloc_new _ _)))
  · exact (Below.heap_alloc _ _ _ (by omega)).trans ((Below.heap_alloc _ _ _ (by omega)).trans (z1 ▸ heap_alloc_new _ _))
  · exact (Below.heap_alloc _ _ _ (by omega)).trans (z2 ▸ heap_alloc_new _ _)
  · exact z3 ▸ heap_alloc_new _ _
theorem set4 {wx : World} {z : Nat} {c0 c1 c2 c3 : Value} {t : TypeId} (h : wx.heap[z]? = some (.cells #[c0, c1, c2, c3] t (0, 0))) (d0 d1 d2 d3 : Value) : ((((wx.setCell ⟨z, 0, none⟩ d0).setCell ⟨z, 1, none⟩ d1).setCell ⟨z, 2, none⟩ d2).setCell ⟨z, 3, none⟩ d3).heap[z]? = some (.cells #[d0, d1, d2, d3] t (0, 0)) := by
  have e1 := blk_set (i := 0) (u := d0) h
  have e2 := blk_set (i := 1) (u := d1) e1
  have e3 := blk_set (i := 2) (u := d2) e2
  exact blk_set (i := 3) (u := d3) e3
theorem set4_other (wx : World) (z : Nat) (d0 d1 d2 d3 : Value) (k : Nat) (hk : k ≠ z) : ((((wx.setCell ⟨z, 0, none⟩ d0).setCell ⟨z, 1, none⟩ d1).setCell ⟨z, 2, none⟩ d2).setCell ⟨z, 3, none⟩ d3).heap[k]? = wx.heap[k]? :=
  (Below.heap_setCell _ _ _ _ hk).trans ((Below.heap_setCell _ _ _ _ hk).trans ((Below.heap_setCell _ _ _ _ hk).trans (Below.heap_setCell _ _ _ _ hk)))
theorem owns_z {w w' : World} {base z : Nat} {v : Value} {n : Nat} {xs : List Value} {cs : Array Value} (h : w.ownsRow base 9 1 v n xs) (hz : w.heap[z]? = some (.cells cs 34 (0, 0))) (hk : ∀ k, k ≠ z → w'.heap[k]? = w.heap[k]?) : w'.ownsRow base 9 1 v n xs := by
  refine ⟨h.1, ?_⟩
  rcases h.2 with hn | ⟨g, cap, cur, rfl, r1, r2, r3⟩
  · exact .inl hn
  · refine .inr ⟨g, cap, cur, rfl, r1, (hk g fun e => ?_).trans r2, r3⟩
    rw [e, hz] at r2
    simp at r2
theorem piece_end {w wx : World} {T F E : Array Value} {A B C : List (List UInt8)} {ua ub uc : Value} (k : Value) (h : LiveZ w T F E wx) (ha : wx.ownsRow w.heap.size 9 1 ua A.length (strCells A)) (hb : wx.ownsRow w.heap.size 9 1 ub B.length (strCells B)) (hc : wx.ownsRow w.heap.size 9 1 uc C.length (strCells C)) :
    ((((wx.setCell ⟨w.heap.size + 1 + 1 + 1, 0, none⟩ k).setCell ⟨w.heap.size + 1 + 1 + 1, 1, none⟩ ua).setCell ⟨w.heap.size + 1 + 1 + 1, 2, none⟩ ub).setCell ⟨w.heap.size + 1 + 1 + 1, 3, none⟩ uc).heap[w.heap.size + 1 + 1 + 1]? = some (.cells #[k, ua, ub, uc] 34 (0, 0)) ∧
      Three ((((wx.setCell ⟨w.heap.size + 1 + 1 + 1, 0, none⟩ k).setCell ⟨w.heap.size + 1 + 1 + 1, 1, none⟩ ua).setCell ⟨w.heap.size + 1 + 1 + 1, 2, none⟩ ub).setCell ⟨w.heap.size + 1 + 1 + 1, 3, none⟩ uc) w.heap.size ua ub uc A B C ∧
      Below w.heap.size w ((((wx.setCell ⟨w.heap.size + 1 + 1 + 1, 0, none⟩ k).setCell ⟨w.heap.size + 1 + 1 + 1, 1, none⟩ ua).setCell ⟨w.heap.size + 1 + 1 + 1, 2, none⟩ ub).setCell ⟨w.heap.size + 1 + 1 + 1, 3, none⟩ uc) :=
  ⟨set4 h.z _ _ _ _, ⟨owns_z ha h.z (set4_other _ _ _ _ _ _), owns_z hb h.z (set4_other _ _ _ _ _ _), owns_z hc h.z (set4_other _ _ _ _ _ _)⟩, ((((h.live.set _ _).set _ _).set _ _).set _ _).below⟩
theorem owns_on {w w' : World} {base : Nat} {v : Value} {n : Nat} {xs : List Value} (h : w.ownsRow base 9 1 v n xs) (hk : Below w.heap.size w w') : w'.ownsRow base 9 1 v n xs := owns_kept h fun g _ hg => hk.block g hg
section
set_option maxRecDepth 100000
set_option maxHeartbeats 4000000
theorem DCopied_any (v : Value) (xs : List (List UInt8)) (w : World) (hv : Sl w v (strCells xs)) (hl : xs.length ≤ 1000000) :
    Calls Try.prog 57 #[v] w fun e w' => ∃ u, e = .returned u ∧ w'.ownsRow w.heap.size 9 1 u xs.length (strCells xs) ∧ Below w.heap.size w w' := by
  obtain ⟨ao, cap, rfl⟩ := hv.form
  rw [strCells_length] at hv ⊢
  have HV := hid hv
  clear hv
  go_enter Try.func57, Try.ntmps57
  go_wp2_with (refine wpList_append_ss rfl (.const (.slice none 0 0)) (.tmp 3) rfl w.heap.size _ [] xs rfl (World.ownsRow_nil _ _ _ _) _ rfl HV.out (by simp; omega) (Nat.le_refl _) ?_; intro u1 w1 p1 q1; rw [List.nil_append] at p1; have HP1 := hid p1; have HQ1 := hid q1; clear p1 q1)
  go_ret
  exact ⟨_, rfl, HP1.out, HQ1.out⟩
theorem DPiece_any (kind : Int) (va vb vc : Value) (a b c : List (List UInt8)) (f1 f2 f3 t1 t2 t3 : Nat) (w : World) (ha : Sl w va (strCells a)) (hb : Sl w vb (strCells b)) (hc : Sl w vc (strCells c)) (la : a.length ≤ 1000000) (lb : b.length ≤ 1000000) (lc : c.length ≤ 1000000)
    (h1 : f1 ≤ t1) (h1' : t1 ≤ a.length) (h2 : f2 ≤ t2) (h2' : t2 ≤ b.length) (h3 : f3 ≤ t3) (h3' : t3 ≤ c.length) :
    Calls Try.prog 44 #[.agg #[va, vb, vc], .int .i64 kind, .agg #[.int .i64 f1, .int .i64 f2, .int .i64 f3], .agg #[.int .i64 t1, .int .i64 t2, .int .i64 t3]] w fun e w' => ∃ ua ub uc, e = .returned (.agg #[.int .i64 kind, ua, ub, uc]) ∧ Three w' w.heap.size ua ub uc (cutL a f1 t1) (cutL b f2 t2) (cutL c f3 t3) ∧ Below w.heap.size w w' := by
  obtain ⟨xa, ya, ra, sa⟩ := cutS_mid ha f1 t1 h1 h1'
  obtain ⟨xb, yb, rb, sb⟩ := cutS_mid hb f2 t2 h2 h2'
  obtain ⟨xc, yc, rc, sc⟩ := cutS_mid hc f3 t3 h3 h3'
  have ka : (cutL a f1 t1).length = t1 - f1 := cutL_len h1 h1'
  have kb : (cutL b f2 t2).length = t2 - f2 := cutL_len h2 h2'
  have kc : (cutL c f3 t3).length = t3 - f3 := cutL_len h3 h3'
  have hla : (cutL a f1 t1).length ≤ 1000000 := by omega
  have hlb : (cutL b f2 t2).length ≤ 1000000 := by omega
  have hlc : (cutL c f3 t3).length ≤ 1000000 := by omega
  have HSA := hid (show Sl w (.slice xa (t1 - f1) ya) (strCells (cutL a f1 t1)) from sa)
  have HSB := hid (show Sl w (.slice xb (t2 - f2) yb) (strCells (cutL b f2 t2)) from sb)
  have HSC := hid (show Sl w (.slice xc (t3 - f3) yc) (strCells (cutL c f3 t3)) from sc)
  generalize cutL a f1 t1 = A at hla HSA ⊢
  generalize cutL b f2 t2 = B at hlb HSB ⊢
  generalize cutL c f3 t3 = C at hlc HSC ⊢
  generalize t1 - f1 = na at ra HSA
  generalize t2 - f2 = nb at rb HSB
  generalize t3 - f3 = nc at rc HSC
  have HLE := hid (And.intro hla (And.intro hlb hlc))
  clear sa sb sc ka kb kc hla hlb hlc ha hb hc la lb lc h1 h1' h2 h2' h3 h3'
  go_enter Try.func44, Try.ntmps44
  go_wp2_with fail
  have HV0 := LiveZ.start w #[va, vb, vc] #[.int .i64 f1, .int .i64 f2, .int .i64 f3] #[.int .i64 t1, .int .i64 t2, .int .i64 t3]
  have HCa := hid (show ∀ wx, LiveZ w #[va, vb, vc] #[.int .i64 f1, .int .i64 f2, .int .i64 f3] #[.int .i64 t1, .int .i64 t2, .int .i64 t3] wx → Calls Try.prog 57 #[.slice xa na ya] wx fun e w' => ∃ u, e = .returned u ∧ w'.ownsRow w.heap.size 9 1 u A.length (strCells A) ∧ Below wx.heap.size wx w' ∧ LiveZ w #[va, vb, vc] #[.int .i64 f1, .int .i64 f2, .int .i64 f3] #[.int .i64 t1, .int .i64 t2, .int .i64 t3] w' from fun wx hx => by
    refine (DCopied_any _ A wx (Sl.old HSA.out hx.live.below) HLE.out.1).mono ?_
    rintro e w' ⟨u, rfl, q1, q2⟩
    exact ⟨u, rfl, owns_low q1 hx.live.below.size, q2, hx.step q2⟩)
  have HCb := hid (show ∀ wx, LiveZ w #[va, vb, vc] #[.int .i64 f1, .int .i64 f2, .int .i64 f3] #[.int .i64 t1, .int .i64 t2, .int .i64 t3] wx → Calls Try.prog 57 #[.slice xb nb yb] wx fun e w' => ∃ u, e = .returned u ∧ w'.ownsRow w.heap.size 9 1 u B.length (strCells B) ∧ Below wx.heap.size wx w' ∧ LiveZ w #[va, vb, vc] #[.int .i64 f1, .int .i64 f2, .int .i64 f3] #[.int .i64 t1, .int .i64 t2, .int .i64 t3] w' from fun wx hx => by
    refine (DCopied_any _ B wx (Sl.old HSB.out hx.live.below) HLE.out.2.1).mono ?_
    rintro e w' ⟨u, rfl, q1, q2⟩
    exact ⟨u, rfl, owns_low q1 hx.live.below.size, q2, hx.step q2⟩)
  have HCc := hid (show ∀ wx, LiveZ w #[va, vb, vc] #[.int .i64 f1, .int .i64 f2, .int .i64 f3] #[.int .i64 t1, .int .i64 t2, .int .i64 t3] wx → Calls Try.prog 57 #[.slice xc nc yc] wx fun e w' => ∃ u, e = .returned u ∧ w'.ownsRow w.heap.size 9 1 u C.length (strCells C) ∧ Below wx.heap.size wx w' ∧ LiveZ w #[va, vb, vc] #[.int .i64 f1, .int .i64 f2, .int .i64 f3] #[.int .i64 t1, .int .i64 t2, .int .i64 t3] w' from fun wx hx => by
    refine (DCopied_any _ C wx (Sl.old HSC.out hx.live.below) HLE.out.2.2).mono ?_
    rintro e w' ⟨u, rfl, q1, q2⟩
    exact ⟨u, rfl, owns_low q1 hx.live.below.size, q2, hx.step q2⟩)
  have LS := hid (show ∀ wy, Live w #[va, vb, vc] #[.int .i64 f1, .int .i64 f2, .int .i64 f3] #[.int .i64 t1, .int .i64 t2, .int .i64 t3] wy → wy.cell? ⟨w.heap.size, 0, none⟩ = some va ∧ wy.cell? ⟨w.heap.size, 1, none⟩ = some vb ∧ wy.cell? ⟨w.heap.size, 2, none⟩ = some vc ∧ wy.cell? ⟨w.heap.size + 1, 0, none⟩ = some (.int .i64 f1) ∧ wy.cell? ⟨w.heap.size + 1, 1, none⟩ = some (.int .i64 f2) ∧ wy.cell? ⟨w.heap.size + 1, 2, none⟩ = some (.int .i64 f3) ∧ wy.cell? ⟨w.heap.size + 1 + 1, 0, none⟩ = some (.int .i64 t1) ∧ wy.cell? ⟨w.heap.size + 1 + 1, 1, none⟩ = some (.int .i64 t2) ∧ wy.cell? ⟨w.heap.size + 1 + 1, 2, none⟩ = some (.int .i64 t3) from fun wy h => ⟨blk_cell (i := 0) h.t rfl, blk_cell (i := 1) h.t rfl, blk_cell (i := 2) h.t rfl, blk_cell (i := 0) h.f rfl, blk_cell (i := 1) h.f rfl, blk_cell (i := 2) h.f rfl, blk_cell (i := 0) h.e rfl, blk_cell (i := 1) h.e rfl, blk_cell (i := 2) h.e rfl⟩)
  generalize (((w.alloc (.cells #[va, vb, vc] 70)).alloc (.cells #[.int .i64 f1, .int .i64 f2, .int .i64 f3] 72)).alloc (.cells #[.int .i64 t1, .int .i64 t2, .int .i64 t3] 72)).alloc (.cells #[.int .i64 0, .slice none 0 0, .slice none 0 0, .slice none 0 0] 34) = W0 at HV0 ⊢
  have HV1 := HV0.step (Below.drew (Below.refl _ W0))
  clear HV0
  go_region_held3 (fun wy => wy.cell? ⟨w.heap.size, 0, none⟩ = some va ∧ wy.cell? ⟨w.heap.size, 1, none⟩ = some vb ∧ wy.cell? ⟨w.heap.size, 2, none⟩ = some vc ∧ wy.cell? ⟨w.heap.size + 1, 0, none⟩ = some (.int .i64 f1) ∧ wy.cell? ⟨w.heap.size + 1, 1, none⟩ = some (.int .i64 f2) ∧ wy.cell? ⟨w.heap.size + 1, 2, none⟩ = some (.int .i64 f3) ∧ wy.cell? ⟨w.heap.size + 1 + 1, 0, none⟩ = some (.int .i64 t1) ∧ wy.cell? ⟨w.heap.size + 1 + 1, 1, none⟩ = some (.int .i64 t2) ∧ wy.cell? ⟨w.heap.size + 1 + 1, 2, none⟩ = some (.int .i64 t3)) (first | exact LS.out _ (LiveZ.live (by assumption)) | exact LS.out _ (((((LiveZ.live (by assumption)).set _ _).set _ _).set _ _).set _ _)) ((go_at_call 57; first
      | (with_reducible refine (HCa.out _ (by assumption)).mono ?_; rintro e wa ⟨ua, rfl, hOa, hba, hka⟩
         obtain ⟨pa, qa, rfl⟩ := owns_form hOa
         have HOa := hid hOa
         have HBa := hid hba
         have hz := hka.z
         have z0 := blk_cell (i := 0) hz rfl
         have z1 := blk_cell (i := 1) hz rfl
         have z2 := blk_cell (i := 2) hz rfl
         have z3 := blk_cell (i := 3) hz rfl
         have g0 := blk_free (i := 0) hz
         have g1 := blk_free (i := 1) hz
         have g2 := blk_free (i := 2) hz
         have g3 := blk_free (i := 3) hz
         clear hOa hba hz)
      | (with_reducible refine (HCb.out _ (by assumption)).mono ?_; rintro e wb ⟨ub, rfl, hOb, hbb, hkb⟩
         obtain ⟨pb, qb, rfl⟩ := owns_form hOb
         have HOb := hid hOb
         have HBb := hid hbb
         have hz := hkb.z
         have z0 := blk_cell (i := 0) hz rfl
         have z1 := blk_cell (i := 1) hz rfl
         have z2 := blk_cell (i := 2) hz rfl
         have z3 := blk_cell (i := 3) hz rfl
         have g0 := blk_free (i := 0) hz
         have g1 := blk_free (i := 1) hz
         have g2 := blk_free (i := 2) hz
         have g3 := blk_free (i := 3) hz
         clear hOb hbb hz)
      | (with_reducible refine (HCc.out _ (by assumption)).mono ?_; rintro e wc ⟨uc, rfl, hOc, hbc, hkc⟩
         obtain ⟨pc, qc, rfl⟩ := owns_form hOc
         have HOc := hid hOc
         have HBc := hid hbc
         have hz := hkc.z
         have z0 := blk_cell (i := 0) hz rfl
         have z1 := blk_cell (i := 1) hz rfl
         have z2 := blk_cell (i := 2) hz rfl
         have z3 := blk_cell (i := 3) hz rfl
         have g0 := blk_free (i := 0) hz
         have g1 := blk_free (i := 1) hz
         have g2 := blk_free (i := 2) hz
         have g3 := blk_free (i := 3) hz
         clear hOc hbc hz)))
  all_goals
    first
    | (have hfin := piece_end (.int .i64 kind) hkc (owns_on (owns_on HOa.out HBb.out) HBc.out) (owns_on HOb.out HBc.out) HOc.out
       have HFZ := hid hfin.1
       have HFT := hid hfin.2
       clear hfin)
    | (have hfin := piece_end (.int .i64 kind) hkb (owns_on (owns_on HOa.out HBc.out) HBb.out) HOb.out (owns_on HOc.out HBb.out)
       have HFZ := hid hfin.1
       have HFT := hid hfin.2
       clear hfin)
    | (have hfin := piece_end (.int .i64 kind) hkc (owns_on HOa.out HBc.out) (owns_on (owns_on HOb.out HBa.out) HBc.out) HOc.out
       have HFZ := hid hfin.1
       have HFT := hid hfin.2
       clear hfin)
    | (have hfin := piece_end (.int .i64 kind) hka HOa.out (owns_on (owns_on HOb.out HBc.out) HBa.out) (owns_on HOc.out HBa.out)
       have HFZ := hid hfin.1
       have HFT := hid hfin.2
       clear hfin)
    | (have hfin := piece_end (.int .i64 kind) hkb (owns_on HOa.out HBb.out) HOb.out (owns_on (owns_on HOc.out HBa.out) HBb.out)
       have HFZ := hid hfin.1
       have HFT := hid hfin.2
       clear hfin)
    | (have hfin := piece_end (.int .i64 kind) hka HOa.out (owns_on HOb.out HBa.out) (owns_on (owns_on HOc.out HBb.out) HBa.out)
       have HFZ := hid hfin.1
       have HFT := hid hfin.2
       clear hfin)
    go_wp2_with fail
    exact bodyPost_ret (results_cell_row rfl _ _ (w.heap.size + 1 + 1 + 1) 34 _ (0, 0) _ rfl HFZ.out Try.underlying34 rfl Try.sizeCk) rfl ⟨_, _, _, rfl, HFT.out.1, HFT.out.2⟩
end
end Go.Proofs.Ytfldheegebopoaa

namespace Go.Proofs.Ytfldheegebopoaa
open Go.RowKit

section
set_option maxRecDepth 100000
set_option maxHeartbeats 2000000
theorem SEqualL_any (a b : Value) (x y : List (List UInt8)) (w : World) (ha : Sl w a (strCells x)) (hb : Sl w b (strCells y)) (hx : x.length ≤ maxLen) :
    Calls Try.prog 56 #[a, b] w fun e w' => e = .returned (.bool (x == y)) ∧ ∃ m, w' = w.drewN m := by
  obtain ⟨aa, ca, rfl⟩ := ha.form
  obtain ⟨ab, cb, rfl⟩ := hb.form
  rw [strCells_length] at ha hb ⊢
  rw [strCells_length]
  unfold maxLen at hx
  by_cases hl : x.length = y.length
  · have hne : (x.length != y.length) = false := by simp [hl]
    have hne' : ((x.length : Int) != (y.length : Int)) = false := by simp [hl]
    have HL := hid hl
    clear hl
    go_enter Try.func56, Try.ntmps56
    go_wp2
    go_loopw [13] (fun i wr => ∃ k : Nat, k ≤ x.length ∧ i = .int .i64 k ∧ x.take k = y.take k ∧ ∃ q, wr = w.drewN q) (fun i _ => x.length - (intOf i).toNat)
    case atStart => exact ⟨0, Nat.zero_le _, rfl, rfl, 0, rfl⟩
    case round =>
      obtain ⟨k, hk, rfl, heq, q, rfl⟩ := hrel
      by_cases hlt : k < x.length
      · obtain ⟨a1, b1, rfl, hc1, hb1⟩ := ha.strAt' (i := k) hlt
        obtain ⟨a2, b2, rfl, hc2, hb2⟩ := hb.strAt' (i := k) (by rw [← HL.out]; exact hlt)
        have hlt2 : k < y.length := by rw [← HL.out]; exact hlt
        have i0 : (0 : Int) ≤ (k : Int) := Int.natCast_nonneg _
        have i1 : (k : Int) < (x.length : Int) := by omega
        have i2 : (k : Int) < (y.length : Int) := by omega
        by_cases he : b1 = b2
        · subst he
          have hbe : (b1 == b1) = true := by simp
          have HEQ := hid (show x.take (k + 1) = y.take (k + 1) by rw [take_snoc hb1, take_snoc hb2, heq])
          clear hb1 hb2 heq
          go_wp2_with fail
          go_quiet (fail)
          go_wp2
          go_roundw
          case rel => exact ⟨k + 1, by omega, by go_num, HEQ.out, _, rfl⟩
          case measure => simp [intOf]; omega
        · have hbe : (b1 == b2) = false := by simpa using he
          have hxy := hid (show (x == y) = false by
            simp
            rintro rfl
            rw [hb1] at hb2
            exact he (by simpa using hb2))
          clear hb1 hb2 heq he
          go_wp2_with fail
          go_quiet (fail)
          go_wp2
          go_ret
          rw [hxy.out]
          exact ⟨rfl, _, World.drewN_drewN _ _ _⟩
      · obtain rfl : k = x.length := by omega
        have hxy := hid (show (x == y) = true by
          rw [List.take_length, HL.out, List.take_length] at heq
          simpa using heq)
        clear heq
        go_wp2
        go_ret
        rw [hxy.out]
        exact ⟨rfl, _, rfl⟩
  · have hne : (x.length != y.length) = true := by simpa using hl
    have hne' : ((x.length : Int) != (y.length : Int)) = true := by simp; omega
    have hxy := hid (show (x == y) = false by
      simp
      rintro rfl
      exact hl rfl)
    clear hl
    go_enter Try.func56, Try.ntmps56
    go_wp2
    go_ret
    rw [hxy.out]
    exact ⟨rfl, 0, rfl⟩

end
end Go.Proofs.Ytfldheegebopoaa

namespace Go.Proofs.Ytfldheegebopoaa
open Go.RowKit

/-- what stands when the kinds are asked: the chunk in block g, the result's block, what is the call's own -/
def Chg (w : World) (g z : Nat) (k : Value) (ua ub uc : Value) (A B C : List (List UInt8)) (wx : World) : Prop :=
  wx.heap[g]? = some (.cells #[k, ua, ub, uc] 34 (0, 0)) ∧ wx.heap[z]? = some (.cells #[.int .i64 0, .slice none 0 0, .slice none 0 0, .slice none 0 0] 34 (0, 0)) ∧
    (Three wx w.heap.size ua ub uc A B C ∧ Below w.heap.size w wx ∧ w.heap.size ≤ z ∧ w.heap.size ≤ g ∧ g ≠ z)
theorem Chg.drew {w wx : World} {g z : Nat} {k ua ub uc : Value} {A B C : List (List UInt8)} (h : Chg w g z k ua ub uc A B C wx) (n : Nat) : Chg w g z k ua ub uc A B C (wx.drewN n) :=
  ⟨h.1, h.2.1, ⟨h.2.2.1.1, h.2.2.1.2.1, h.2.2.1.2.2⟩, h.2.2.2.1.trans ⟨rfl, rfl, rfl, Nat.le_refl _, fun _ _ => rfl⟩, h.2.2.2.2⟩
theorem owns_not {w : World} {base g : Nat} {v : Value} {n : Nat} {xs : List Value} {cs : Array Value} (h : w.ownsRow base 9 1 v n xs) (hg : v.ownBlock = some g) (hz : w.heap[g]? = some (.cells cs 34 (0, 0))) : False := by
  rcases h.2 with ⟨rfl, _⟩ | ⟨g', cap, cur, rfl, r1, r2, r3⟩
  · cases hg
  · cases hg
    simp only [r2] at hz
    simp at hz
theorem three_z {w w' : World} {base z : Nat} {ua ub uc : Value} {A B C : List (List UInt8)} {cs : Array Value} (h : Three w base ua ub uc A B C) (hz : w.heap[z]? = some (.cells cs 34 (0, 0))) (hk : ∀ k, k < w.heap.size → k ≠ z → w'.heap[k]? = w.heap[k]?) : Three w' base ua ub uc A B C :=
  ⟨owns_kept h.1 fun g hg hl => hk g hl fun e => by subst e; exact owns_not h.1 hg hz, owns_kept h.2.1 fun g hg hl => hk g hl fun e => by subst e; exact owns_not h.2.1 hg hz, owns_kept h.2.2 fun g hg hl => hk g hl fun e => by subst e; exact owns_not h.2.2 hg hz⟩
theorem Chg.set {w wx : World} {g z : Nat} {k ua ub uc : Value} {A B C : List (List UInt8)} (h : Chg w g z k ua ub uc A B C wx) (u : Value) : Chg w g z u ua ub uc A B C (wx.setCell ⟨g, 0, none⟩ u) :=
  ⟨blk_set (i := 0) (u := u) h.1, (Below.heap_setCell _ _ _ _ (Ne.symm h.2.2.2.2.2.2)).trans h.2.1, three_z h.2.2.1 h.1 fun _ _ hk => Below.heap_setCell _ _ _ _ hk, h.2.2.2.1.setCell h.2.2.2.2.2.1 _, h.2.2.2.2⟩
theorem Chg.fin {w wx w' : World} {g z : Nat} {k ua ub uc : Value} {A B C : List (List UInt8)} (h : Chg w g z k ua ub uc A B C wx) (hk : Keep (· = z) wx w') : Three w' w.heap.size ua ub uc A B C ∧ Below w.heap.size w w' :=
  ⟨three_z h.2.2.1 h.2.1 fun k hl hne => hk.block k hl hne, h.2.2.2.1.trans (hk.below (Nat.le_trans (Nat.le_refl _) h.2.2.2.1.size) (fun j hj e => by have := h.2.2.2.2.1; omega))⟩
section
set_option maxRecDepth 100000
set_option maxHeartbeats 4000000
theorem DChanged_any (va vb vc : Value) (a b c : List (List UInt8)) (f1 f2 f3 t1 t2 t3 : Nat) (w : World) (ha : Sl w va (strCells a)) (hb : Sl w vb (strCells b)) (hc : Sl w vc (strCells c)) (la : a.length ≤ 1000000) (lb : b.length ≤ 1000000) (lc : c.length ≤ 1000000)
    (h1 : f1 ≤ t1) (h1' : t1 ≤ a.length) (h2 : f2 ≤ t2) (h2' : t2 ≤ b.length) (h3 : f3 ≤ t3) (h3' : t3 ≤ c.length) :
    Calls Try.prog 43 #[.agg #[va, vb, vc], .agg #[.int .i64 f1, .int .i64 f2, .int .i64 f3], .agg #[.int .i64 t1, .int .i64 t2, .int .i64 t3]] w fun e w' => ∃ ua ub uc, e = .returned (.agg #[.int .i64 (kindOf (cutL a f1 t1) (cutL b f2 t2) (cutL c f3 t3)), ua, ub, uc]) ∧ Three w' w.heap.size ua ub uc (cutL a f1 t1) (cutL b f2 t2) (cutL c f3 t3) ∧ Below w.heap.size w w' := by
  have hla : (cutL a f1 t1).length ≤ 1000000 := by rw [cutL_len h1 h1']; omega
  have hlb : (cutL b f2 t2).length ≤ 1000000 := by rw [cutL_len h2 h2']; omega
  have hlc : (cutL c f3 t3).length ≤ 1000000 := by rw [cutL_len h3 h3']; omega
  have HV0 := LiveZ.start w #[va, vb, vc] #[.int .i64 f1, .int .i64 f2, .int .i64 f3] #[.int .i64 t1, .int .i64 t2, .int .i64 t3]
  have HP := hid (DPiece_any 5 va vb vc a b c f1 f2 f3 t1 t2 t3 _ (Sl.old ha HV0.live.below) (Sl.old hb HV0.live.below) (Sl.old hc HV0.live.below) la lb lc h1 h1' h2 h2' h3 h3')
  generalize cutL a f1 t1 = A at hla HP ⊢
  generalize cutL b f2 t2 = B at hlb HP ⊢
  generalize cutL c f3 t3 = C at hlc HP ⊢
  have HLE := hid (And.intro hla (And.intro hlb hlc))
  have HVZ := hid HV0
  have kt0 := blk_cell (i := 0) HV0.live.t rfl
  have kt1 := blk_cell (i := 1) HV0.live.t rfl
  have kt2 := blk_cell (i := 2) HV0.live.t rfl
  have kf0 := blk_cell (i := 0) HV0.live.f rfl
  have kf1 := blk_cell (i := 1) HV0.live.f rfl
  have kf2 := blk_cell (i := 2) HV0.live.f rfl
  have ke0 := blk_cell (i := 0) HV0.live.e rfl
  have ke1 := blk_cell (i := 1) HV0.live.e rfl
  have ke2 := blk_cell (i := 2) HV0.live.e rfl
  clear hla hlb hlc ha hb hc la lb lc h1 h1' h2 h2' h3 h3' HV0
  go_enter Try.func43, Try.ntmps43
  go_wp2_with (first
    | (go_at_call 44; refine HP.out.mono ?_; rintro e w3 ⟨ua, ub, uc, rfl, hT3, hb3⟩
       obtain ⟨xa, ya, rfl⟩ := owns_form hT3.1
       obtain ⟨xb, yb, rfl⟩ := owns_form hT3.2.1
       obtain ⟨xc, yc, rfl⟩ := owns_form hT3.2.2
       have HT3 := hid hT3
       have HV3 := hid (HVZ.out.step hb3)
       have g4 := heap_alloc_new w3 (.cells #[.int .i64 5, .slice xa A.length ya, .slice xb B.length yb, .slice xc C.length yc] 34)
       have l0 := blk_cell (i := 0) g4 rfl
       have l1 := blk_cell (i := 1) g4 rfl
       have l2 := blk_cell (i := 2) g4 rfl
       have l3 := blk_cell (i := 3) g4 rfl
       have hz3 := HV3.out.live.big
       have HC4 := hid (show Chg w w3.heap.size (w.heap.size + 1 + 1 + 1) (.int .i64 5) (.slice xa A.length ya) (.slice xb B.length yb) (.slice xc C.length yc) A B C (w3.alloc (.cells #[.int .i64 5, .slice xa A.length ya, .slice xb B.length yb, .slice xc C.length yc] 34)) from
         ⟨g4, (Below.heap_alloc w3 _ _ hz3).trans HV3.out.z, ⟨World.ownsRow.alloc (owns_low hT3.1 HVZ.out.live.below.size) _, World.ownsRow.alloc (owns_low hT3.2.1 HVZ.out.live.below.size) _, World.ownsRow.alloc (owns_low hT3.2.2 HVZ.out.live.below.size) _⟩, HV3.out.live.below.alloc HV3.out.live.below.size _, by omega, by omega, by omega⟩)
       clear hT3 hb3 hz3 g4))
  have HLB := hid (Sl.ofOwns HC4.out.2.2.1.2.1)
  have HLA := hid (Sl.ofOwns HC4.out.2.2.1.1)
  have HLC := hid (Sl.ofOwns HC4.out.2.2.1.2.2)
  generalize w3.alloc (.cells #[.int .i64 5, .slice xa A.length ya, .slice xb B.length yb, .slice xc C.length yc] 34) = W4 at l0 l1 l2 l3 HC4 HLB HLA HLC ⊢
  refine (SEqualL_any _ _ B A _ HLB.out HLA.out (by have := HLE.out; unfold maxLen; omega)).mono ?_
  rintro e w5 ⟨rfl, m, rfl⟩
  by_cases e1 : B = A
  · have HKD := hid (show kindOf A B C = 3 by rw [kindOf, if_pos e1])
    have d1 : (B == A) = true := by simpa using e1
    rw [d1]
    have H5 := hid (Chg.drew HC4.out m)
    clear e1 l0 l1 l2 l3
    generalize W4.drewN m = W5 at H5 ⊢
    have c5 := blk_cell (i := 0) H5.out.1 rfl
    have f5 := blk_free (i := 0) H5.out.1
    have g6 := blk_set (i := 0) (u := .int .i64 3) H5.out.1
    have HC6 := hid (Chg.set H5.out (.int .i64 3))
    have l0 := blk_cell (i := 0) g6 (v := .int .i64 3) rfl
    have l1 := blk_cell (i := 1) g6 (v := .slice xa A.length ya) rfl
    have l2 := blk_cell (i := 2) g6 (v := .slice xb B.length yb) rfl
    have l3 := blk_cell (i := 3) g6 (v := .slice xc C.length yc) rfl
    clear g6
    go_wp2_with (refine wpList_store_whole rfl 34 _ _ rfl (w.heap.size + 1 + 1 + 1) #[.int .i64 3, .slice xa A.length ya, .slice xb B.length yb, .slice xc C.length yc] rfl rfl _ _ HC6.out.2.1 4 Try.sizeCk rfl rfl (by simp [Value.oneCell']) ?_; intro w9 hg9 hk9)
    obtain ⟨HT9, HB9⟩ := HC6.out.fin hk9
    exact bodyPost_ret (results_cell_row rfl _ _ (w.heap.size + 1 + 1 + 1) 34 _ (0, 0) _ rfl hg9 Try.underlying34 rfl Try.sizeCk) rfl ⟨_, _, _, by rw [HKD.out], HT9, HB9⟩
  have d1 : (B == A) = false := by simpa using e1
  rw [d1]
  go_wp2_with fail
  refine (SEqualL_any _ _ C A _ (Sl.old HLC.out (below_drewN _ _)) (Sl.old HLA.out (below_drewN _ _)) (by have := HLE.out; unfold maxLen; omega)).mono ?_
  rintro e w5 ⟨rfl, m1, rfl⟩
  rw [World.drewN_drewN]
  by_cases e2 : C = A
  · have HKD := hid (show kindOf A B C = 2 by rw [kindOf, if_neg e1, if_pos e2])
    have d2 : (C == A) = true := by simpa using e2
    rw [d2]
    have H5 := hid (Chg.drew HC4.out (m + m1))
    clear e1 e2 l0 l1 l2 l3
    generalize W4.drewN (m + m1) = W5 at H5 ⊢
    have c5 := blk_cell (i := 0) H5.out.1 rfl
    have f5 := blk_free (i := 0) H5.out.1
    have g6 := blk_set (i := 0) (u := .int .i64 2) H5.out.1
    have HC6 := hid (Chg.set H5.out (.int .i64 2))
    have l0 := blk_cell (i := 0) g6 (v := .int .i64 2) rfl
    have l1 := blk_cell (i := 1) g6 (v := .slice xa A.length ya) rfl
    have l2 := blk_cell (i := 2) g6 (v := .slice xb B.length yb) rfl
    have l3 := blk_cell (i := 3) g6 (v := .slice xc C.length yc) rfl
    clear g6
    go_wp2_with (refine wpList_store_whole rfl 34 _ _ rfl (w.heap.size + 1 + 1 + 1) #[.int .i64 2, .slice xa A.length ya, .slice xb B.length yb, .slice xc C.length yc] rfl rfl _ _ HC6.out.2.1 4 Try.sizeCk rfl rfl (by simp [Value.oneCell']) ?_; intro w9 hg9 hk9)
    obtain ⟨HT9, HB9⟩ := HC6.out.fin hk9
    exact bodyPost_ret (results_cell_row rfl _ _ (w.heap.size + 1 + 1 + 1) 34 _ (0, 0) _ rfl hg9 Try.underlying34 rfl Try.sizeCk) rfl ⟨_, _, _, by rw [HKD.out], HT9, HB9⟩
  have d2 : (C == A) = false := by simpa using e2
  rw [d2]
  go_wp2_with fail
  refine (SEqualL_any _ _ B C _ (Sl.old HLB.out (below_drewN _ _)) (Sl.old HLC.out (below_drewN _ _)) (by have := HLE.out; unfold maxLen; omega)).mono ?_
  rintro e w5 ⟨rfl, m2, rfl⟩
  rw [World.drewN_drewN]
  have H5 := hid (Chg.drew HC4.out (m + m1 + m2))
  by_cases e3 : B = C
  · have HKD := hid (show kindOf A B C = 4 by rw [kindOf, if_neg e1, if_neg e2, if_pos e3])
    have d3 : (B == C) = true := by simpa using e3
    rw [d3]
    clear e1 e2 e3 l0 l1 l2 l3
    generalize W4.drewN (m + m1 + m2) = W5 at H5 ⊢
    have c5 := blk_cell (i := 0) H5.out.1 rfl
    have f5 := blk_free (i := 0) H5.out.1
    have g6 := blk_set (i := 0) (u := .int .i64 4) H5.out.1
    have HC6 := hid (Chg.set H5.out (.int .i64 4))
    have l0 := blk_cell (i := 0) g6 (v := .int .i64 4) rfl
    have l1 := blk_cell (i := 1) g6 (v := .slice xa A.length ya) rfl
    have l2 := blk_cell (i := 2) g6 (v := .slice xb B.length yb) rfl
    have l3 := blk_cell (i := 3) g6 (v := .slice xc C.length yc) rfl
    clear g6
    go_wp2_with (refine wpList_store_whole rfl 34 _ _ rfl (w.heap.size + 1 + 1 + 1) #[.int .i64 4, .slice xa A.length ya, .slice xb B.length yb, .slice xc C.length yc] rfl rfl _ _ HC6.out.2.1 4 Try.sizeCk rfl rfl (by simp [Value.oneCell']) ?_; intro w9 hg9 hk9)
    obtain ⟨HT9, HB9⟩ := HC6.out.fin hk9
    exact bodyPost_ret (results_cell_row rfl _ _ (w.heap.size + 1 + 1 + 1) 34 _ (0, 0) _ rfl hg9 Try.underlying34 rfl Try.sizeCk) rfl ⟨_, _, _, by rw [HKD.out], HT9, HB9⟩
  have HKD := hid (show kindOf A B C = 5 by rw [kindOf, if_neg e1, if_neg e2, if_neg e3])
  have d3 : (B == C) = false := by simpa using e3
  rw [d3]
  clear e1 e2 e3 l0 l1 l2 l3
  generalize W4.drewN (m + m1 + m2) = W5 at H5 ⊢
  have HC6 := H5
  have l0 := blk_cell (i := 0) H5.out.1 (v := .int .i64 5) rfl
  have l1 := blk_cell (i := 1) H5.out.1 (v := .slice xa A.length ya) rfl
  have l2 := blk_cell (i := 2) H5.out.1 (v := .slice xb B.length yb) rfl
  have l3 := blk_cell (i := 3) H5.out.1 (v := .slice xc C.length yc) rfl
  go_wp2_with (refine wpList_store_whole rfl 34 _ _ rfl (w.heap.size + 1 + 1 + 1) #[.int .i64 5, .slice xa A.length ya, .slice xb B.length yb, .slice xc C.length yc] rfl rfl _ _ HC6.out.2.1 4 Try.sizeCk rfl rfl (by simp [Value.oneCell']) ?_; intro w9 hg9 hk9)
  obtain ⟨HT9, HB9⟩ := HC6.out.fin hk9
  exact bodyPost_ret (results_cell_row rfl _ _ (w.heap.size + 1 + 1 + 1) 34 _ (0, 0) _ rfl hg9 Try.underlying34 rfl Try.sizeCk) rfl ⟨_, _, _, by rw [HKD.out], HT9, HB9⟩
end
end Go.Proofs.Ytfldheegebopoaa

namespace Go.Proofs.Ytfldheegebopoaa
open Go.RowKit

section
set_option maxRecDepth 100000
set_option maxHeartbeats 4000000
theorem DClean_any (v : Value) (cs : List CkS) (w : World) (hv : SlC w v cs) (hl : cs.length ≤ 4000000) :
    Calls Try.prog 28 #[v] w fun e w' => e = .returned (.bool (cleanS cs)) ∧ Below w.heap.size w w' := by
  obtain ⟨ao, cap, rfl⟩ := hv.form
  have HV := hid hv
  clear hv
  go_enter Try.func28, Try.ntmps28
  go_wp2_with fail
  go_loopg [7] cs.length (fun g i wr => ∃ k : Nat, k ≤ cs.length ∧ cs.length - k = g ∧ i = .int .i64 k ∧ Hid (cleanS cs = cleanS (cs.drop k)) ∧ Below w.heap.size w wr)
  case atStart => exact ⟨0, Nat.zero_le _, rfl, rfl, hid rfl, Below.refl _ _⟩
  case round =>
    obtain ⟨k, hk, rfl, rfl, HC, hbel⟩ := hrel
    have hz := hbel.size
    have k0 : (0 : Int) ≤ (k : Int) := Int.natCast_nonneg _
    by_cases hlt : k < cs.length
    · have k1 : (k : Int) < (cs.length : Int) := by omega
      have kw : IntKind.i64.wrap ((k : Int) + 1) = (k : Int) + 1 := IntWalk.i64_in _ (by omega)
      obtain ⟨b, o, z, xb, xo, xt, vb, vo, vt, rfl, c1, c2, c3, c4, s1, s2, s3, he⟩ := (HV.out.old hbel).at' (i := k) hlt
      have hd : cs.drop k = (z, xb, xo, xt) :: cs.drop (k + 1) := by
        obtain ⟨q, e⟩ := List.getElem?_eq_some_iff.1 he
        rw [List.drop_eq_getElem_cons q, e]
      have HN := hid (show cleanS cs = (z != 5 && cleanS (cs.drop (k + 1))) by rw [HC.out, hd]; rfl)
      have HBA := hid (fun o : Obj => hbel.alloc hz o)
      obtain ⟨_, _, rfl⟩ := s1.form
      obtain ⟨_, _, rfl⟩ := s2.form
      obtain ⟨_, _, rfl⟩ := s3.form
      clear s1 s2 s3 he hd HC
      by_cases h5 : z = 5
      · subst h5
        go_wp2_with fail
        go_ret
        exact ⟨by rw [HN.out]; rfl, HBA.out _⟩
      · have hb : (z == 5) = false := by simpa using h5
        have HN2 := hid (show cleanS cs = cleanS (cs.drop (k + 1)) by rw [HN.out, bne, hb]; rfl)
        clear h5 HN
        go_wp2_with fail
        go_roundg (cs.length - (k + 1))
        case measure => omega
        case rel => exact ⟨k + 1, by omega, rfl, rfl, HN2, HBA.out _⟩
    · obtain rfl : k = cs.length := by omega
      have hneg : ¬ (cs.length : Int) < (cs.length : Int) := by omega
      have HN := hid (show cleanS cs = true by rw [HC.out, List.drop_length]; rfl)
      go_wp2_with fail
      go_ret
      exact ⟨by rw [HN.out]; rfl, hbel⟩
theorem DMerged_any (v : Value) (cs : List CkS) (w : World) (hv : SlC w v cs) (hl : cs.length ≤ 1000) (hf : ckFew cs) :
    Calls Try.prog 30 #[v] w fun e w' => ∃ u, e = .returned u ∧ Sl w' u (strCells (mergedS cs)) ∧ Below w.heap.size w w' := by
  obtain ⟨ao, cap, rfl⟩ := hv.form
  have HV := hid hv
  have HF := hid hf
  clear hv hf
  go_enter Try.func30, Try.ntmps30
  go_wp2_with fail
  go_loopg [3, 8] cs.length (fun g out i wr => ∃ (k : Nat) (X : List (List UInt8)), k ≤ cs.length ∧ cs.length - k = g ∧ i = .int .i64 k ∧ Hid (X = mergedS (cs.take k)) ∧ X.length ≤ k * 4000000 ∧ Hid (wr.ownsRow w.heap.size 9 1 out X.length (strCells X)) ∧ Below w.heap.size w wr)
  case atStart => exact ⟨0, [], Nat.zero_le _, rfl, rfl, hid rfl, Nat.zero_le _, hid (World.ownsRow_nil _ _ _ _), Below.refl _ _⟩
  case round =>
    obtain ⟨k, X, hk, rfl, rfl, HX, hXl, HN, hbel⟩ := hrel
    have hz := hbel.size
    have k0 : (0 : Int) ≤ (k : Int) := Int.natCast_nonneg _
    obtain ⟨no, nc, rfl⟩ := owns_form HN.out
    by_cases hlt : k < cs.length
    · have k1 : (k : Int) < (cs.length : Int) := by omega
      have kw : IntKind.i64.wrap ((k : Int) + 1) = (k : Int) + 1 := IntWalk.i64_in _ (by omega)
      obtain ⟨b, o, z, xb, xo, xt, vb, vo, vt, rfl, c1, c2, c3, c4, s1, s2, s3, he⟩ := (HV.out.old hbel).at' (i := k) hlt
      have hm : mergedS (cs.take (k + 1)) = X ++ (if z = 3 then xt else xo) := by
        rw [take_snoc he, HX.out]
        simp [mergedS]
      have hfl := HF.out.at he
      have S2 := hid s2
      have S3 := hid s3
      have HBA := hid (fun o : Obj => hbel.alloc hz o)
      obtain ⟨_, _, rfl⟩ := s1.form
      obtain ⟨_, _, rfl⟩ := s2.form
      obtain ⟨_, _, rfl⟩ := s3.form
      clear he s1 s2 s3
      by_cases h3 : z = 3
      · subst h3
        have HM := hid (show X ++ xt = mergedS (cs.take (k + 1)) by rw [hm, if_pos rfl])
        have hln : X.length + xt.length ≤ (k + 1) * 4000000 := by have := hfl.2.2; omega
        clear hm S2 hfl
        go_wp2_with (refine wpList_append_ss rfl (.tmp 15) (.tmp 17) rfl w.heap.size _ X xt rfl (World.ownsRow.alloc HN.out _) _ rfl (Sl.alloc S3.out _) (by omega) (by simp; omega) ?_; intro v5 w5 hO5 hb5; have HO5 := hid hO5; have hb6 := (HBA.out _).trans hb5; clear hO5 hb5)
        go_wp2_with fail
        go_roundg (cs.length - (k + 1))
        case measure => omega
        case rel => exact ⟨k + 1, X ++ xt, by omega, rfl, rfl, HM, by rw [List.length_append]; exact hln, HO5, hb6⟩
      · have hb : (z == 3) = false := by simpa using h3
        have HM := hid (show X ++ xo = mergedS (cs.take (k + 1)) by rw [hm, if_neg h3])
        have hln : X.length + xo.length ≤ (k + 1) * 4000000 := by have := hfl.2.1; omega
        clear hm S3 hfl h3
        go_wp2_with (refine wpList_append_ss rfl (.tmp 19) (.tmp 21) rfl w.heap.size _ X xo rfl (World.ownsRow.alloc HN.out _) _ rfl (Sl.alloc S2.out _) (by omega) (by simp; omega) ?_; intro v5 w5 hO5 hb5; have HO5 := hid hO5; have hb6 := (HBA.out _).trans hb5; clear hO5 hb5)
        go_wp2_with fail
        go_roundg (cs.length - (k + 1))
        case measure => omega
        case rel => exact ⟨k + 1, X ++ xo, by omega, rfl, rfl, HM, by rw [List.length_append]; exact hln, HO5, hb6⟩
    · obtain rfl : k = cs.length := by omega
      have hneg : ¬ (cs.length : Int) < (cs.length : Int) := by omega
      have HM := hid (show X = mergedS cs by rw [HX.out, List.take_length])
      have HSL := hid (Sl.ofOwns HN.out)
      clear hXl
      go_wp2_with fail
      go_ret
      rw [← HM.out]
      exact ⟨_, rfl, HSL.out, hbel⟩
end
end Go.Proofs.Ytfldheegebopoaa

namespace Go.Proofs.Ytfldheegebopoaa
open Go.RowKit

/-- where Of stands: the texts, what is done, and what was there -/
structure Of9 (w w1 : World) (T : Array Value) (d1 d2 d3 : Nat) (wx : World) : Prop where
  below : Below w.heap.size w wx
  size : w1.heap.size ≤ wx.heap.size
  old : ∀ k, k < w1.heap.size → k ≠ w.heap.size + 1 → wx.heap[k]? = w1.heap[k]?
  tx : wx.heap[w.heap.size]? = some (.cells T 70 (0, 0))
  dn : wx.heap[w.heap.size + 1]? = some (.cells #[.int .i64 d1, .int .i64 d2, .int .i64 d3] 72 (0, 0))
  big : w.heap.size + 1 < w1.heap.size
theorem Of9.step {w w1 wx w' : World} {T : Array Value} {d1 d2 d3 : Nat} (h : Of9 w w1 T d1 d2 d3 wx) (k : Below w1.heap.size wx w') : Of9 w w1 T d1 d2 d3 w' :=
  ⟨h.below.trans (k.mono (by have := h.big; omega)), Nat.le_trans h.size k.size, fun j hj hne => (k.block j hj).trans (h.old j hj hne), (k.block _ (by have := h.big; omega)).trans h.tx, (k.block _ h.big).trans h.dn, h.big⟩
theorem Of9.put {w w1 wx w' : World} {T : Array Value} {d1 d2 d3 f1 f2 f3 : Nat} (h : Of9 w w1 T d1 d2 d3 wx) (k : Keep (· = w.heap.size + 1) wx w') (hd : w'.heap[w.heap.size + 1]? = some (.cells #[.int .i64 f1, .int .i64 f2, .int .i64 f3] 72 (0, 0))) : Of9 w w1 T f1 f2 f3 w' :=
  ⟨h.below.trans (k.below h.below.size (fun j hj e => by omega)), Nat.le_trans h.size k.size, fun j hj hne => (k.block j (Nat.lt_of_lt_of_le hj h.size) hne).trans (h.old j hj hne), (k.block _ (by have := h.big; have := h.size; omega) (by omega)).trans h.tx, hd, h.big⟩
theorem Of9.runs {w w1 wx : World} {T : Array Value} {d1 d2 d3 : Nat} {u : Value} {rs : List Rn} (h : Of9 w w1 T d1 d2 d3 wx) (ho : OwnRn w1 (w.heap.size + 1 + 1) u rs) : OwnRn wx (w.heap.size + 1 + 1) u rs :=
  owns_kept ho fun g hg hl => h.old g hl (by have := (World.ownsRow.lt ho g hg).1; omega)
section
variable {α : Type} [DecidableEq α]
theorem gap_ne {a b c : List α} {d1 d2 d3 f1 f2 f3 : Nat} (h1 : d1 ≤ f1) (h2 : d2 ≤ f2) (h3 : d3 ≤ f3) (e1 : f1 ≤ a.length) (e2 : f2 ≤ b.length) (e3 : f3 ≤ c.length) (hne : (f1, f2, f3) ≠ (d1, d2, d3)) :
    gapCk (cutL a d1 f1) (cutL b d2 f2) (cutL c d3 f3) = [(kindOf (cutL a d1 f1) (cutL b d2 f2) (cutL c d3 f3), cutL a d1 f1, cutL b d2 f2, cutL c d3 f3)] := by
  rw [gapCk, if_neg]
  rintro ⟨q1, q2, q3⟩
  apply hne
  have g1 : f1 = d1 := by
    apply Classical.byContradiction
    intro h
    exact cutL_ne (l := a) (by omega) e1 q1
  have g2 : f2 = d2 := by
    apply Classical.byContradiction
    intro h
    exact cutL_ne (l := b) (by omega) e2 q2
  have g3 : f3 = d3 := by
    apply Classical.byContradiction
    intro h
    exact cutL_ne (l := c) (by omega) e3 q3
  rw [g1, g2, g3]
end
theorem nestL_put {w w' : World} {p d1 d2 d3 : Nat} {t : TypeId} {v u : Value} {xs : List (List UInt8)} (h : NestL w v u xs) (hk : Keep (· = p) w w') (hd : w.heap[p]? = some (.cells #[.int .i64 d1, .int .i64 d2, .int .i64 d3] t (0, 0))) : NestL w' v u xs := by
  by_cases hx : xs = []
  · subst hx
    obtain ⟨ao, cap, rfl, h1, h2, _⟩ := h.1
    exact ⟨⟨ao, cap, rfl, fun _ => rfl, h2, fun a _ j x hx => by simp [strCells] at hx⟩, fun h => absurd rfl h⟩
  · have hn := h.2 hx
    have hne : ∀ a n c, u = .slice (some a) n c → a.block ≠ p := fun a n c e hp => by
      subst e
      obtain ⟨ao, cap, hv, h1, h2, hc⟩ := h.1
      cases hv
      cases xs with
      | nil => exact hx rfl
      | cons x l =>
        have := hc a rfl 0 (strV x) (by simp [strCells])
        obtain ⟨bl, off, sp⟩ := a
        simp only at hp
        subst hp
        rw [show (⟨bl, off, sp⟩ : Addr).add 0 = ⟨bl, off, sp⟩ from rfl] at this
        have hsp : sp = none := World.cell?_spot this
        subst hsp
        simp only [World.cell?, hd] at this
        match off, this with
        | 0, h => simp [strV] at h
        | 1, h => simp [strV] at h
        | 2, h => simp [strV] at h
        | n + 3, h => simp at h
    have hs : Sl w' u (strCells xs) := h.1.kept fun a n c e hlt => hk.block _ hlt (hne a n c e)
    exact Nest.toL ⟨hs, fun a n c e => ⟨Nat.lt_of_lt_of_le (hn.2 a n c e).1 hk.size, (hn.2 a n c e).2⟩⟩
/-- a corner's block is no part of a list of chunks, nor of its texts -/
theorem ownCk_put {w w' : World} {base p d1 d2 d3 : Nat} {v : Value} {cs : List CkS} (h : OwnCk w base v cs) (hk : Keep (· = p) w w') (hp : p < base) (hd : w.heap[p]? = some (.cells #[.int .i64 d1, .int .i64 d2, .int .i64 d3] 72 (0, 0))) : OwnCk w' base v cs := by
  obtain ⟨flat, h1, h2⟩ := h
  refine ⟨flat, owns_kept h1 fun g hg hl => hk.block g hl (by have := (h1.lt g hg).1; omega), fun i x hx => ?_⟩
  obtain ⟨vb, vo, vt, e1, e2, e3, e4, n1, n2, n3⟩ := h2 i x hx
  exact ⟨vb, vo, vt, e1, e2, e3, e4, nestL_put n1 hk hd, nestL_put n2 hk hd, nestL_put n3 hk hd⟩
theorem own_ne {w : World} {base g : Nat} {v : Value} {cs : List CkS} {x : Array Value} (h : OwnCk w base v cs) (hg : w.heap[g]? = some (.cells x 76 (0, 0))) : v.ownBlock ≠ some g := by
  intro e
  obtain ⟨flat, h1, _⟩ := h
  rcases h1.2 with ⟨rfl, _⟩ | ⟨g', cap, cur, rfl, r1, r2, r3⟩
  · cases e
  · cases e
    simp only [r2] at hg
    simp at hg
section
set_option maxRecDepth 100000
set_option maxHeartbeats 2000000
theorem DOf_any (va vb vc : Value) (a b c : List (List UInt8)) (w : World) (ha : Sl w va (strCells a)) (hb : Sl w vb (strCells b)) (hc : Sl w vc (strCells c)) (la : a.length ≤ 1000) (lb : b.length ≤ 1000) (lc : c.length ≤ 1000) :
    Calls Try.prog 26 #[va, vb, vc] w fun e w' => ∃ u, e = .returned u ∧ SlC w' u (chunksS a b c) ∧ Below w.heap.size w w' := by
  obtain ⟨HCR, HROK⟩ := chunks_runs a b c
  obtain ⟨aa, ca, rfl⟩ := ha.form
  obtain ⟨ab, cb, rfl⟩ := hb.form
  obtain ⟨ac, cc, rfl⟩ := hc.form
  rw [strCells_length] at ha hb hc ⊢
  rw [strCells_length, strCells_length]
  have B0 : Below w.heap.size w ((w.alloc (.cells #[.slice aa a.length ca, .slice ab b.length cb, .slice ac c.length cc] 70)).alloc (.cells #[.int .i64 0, .int .i64 0, .int .i64 0] 72)) := ((Below.refl _ w).alloc (Nat.le_refl _) _).alloc (by simp) _
  have HRS := hid (DRuns_any _ _ _ a b c _ (Sl.old ha B0) (Sl.old hb B0) (Sl.old hc B0) la lb lc)
  obtain ⟨rs, hrs⟩ : ∃ rs, runsUp 0 [] (placesS a b) (placesS a c) = rs := ⟨_, rfl⟩
  rw [hrs] at HRS HCR HROK
  obtain ⟨Z, hZ⟩ : ∃ Z, chunksS a b c = Z := ⟨_, rfl⟩
  rw [hZ] at HCR ⊢
  have HZ := hid HCR
  have HRO := hid HROK
  have HA := hid ha
  have HB := hid hb
  have HC := hid hc
  have HL := hid (And.intro la (And.intro lb lc))
  have HB0 := hid B0
  have htx : ((w.alloc (.cells #[.slice aa a.length ca, .slice ab b.length cb, .slice ac c.length cc] 70)).alloc (.cells #[.int .i64 0, .int .i64 0, .int .i64 0] 72)).heap[w.heap.size]? = some (.cells #[.slice aa a.length ca, .slice ab b.length cb, .slice ac c.length cc] 70 (0, 0)) := (Below.heap_alloc _ _ _ (by simp)).trans (heap_alloc_new w _)
  have hdn : ((w.alloc (.cells #[.slice aa a.length ca, .slice ab b.length cb, .slice ac c.length cc] 70)).alloc (.cells #[.int .i64 0, .int .i64 0, .int .i64 0] 72)).heap[w.heap.size + 1]? = some (.cells #[.int .i64 0, .int .i64 0, .int .i64 0] 72 (0, 0)) := by simpa using heap_alloc_new (w.alloc (.cells #[.slice aa a.length ca, .slice ab b.length cb, .slice ac c.length cc] 70)) (.cells #[.int .i64 0, .int .i64 0, .int .i64 0] 72)
  have hsz : ((w.alloc (.cells #[.slice aa a.length ca, .slice ab b.length cb, .slice ac c.length cc] 70)).alloc (.cells #[.int .i64 0, .int .i64 0, .int .i64 0] 72)).heap.size = w.heap.size + 1 + 1 := by simp
  have HTX := hid htx
  have HDN := hid hdn
  have HSZ := hid hsz
  have t0 := blk_cell (i := 0) htx rfl
  have t1 := blk_cell (i := 1) htx rfl
  have t2 := blk_cell (i := 2) htx rfl
  clear ha hb hc la lb lc hrs hZ HCR HROK B0 htx hdn hsz
  go_enter Try.func26, Try.ntmps26
  go_wp2_with (first
    | (go_at_call 42; refine HRS.out.mono ?_; rintro e w1 ⟨u, rfl, hO1, hrl, hb1⟩
       obtain ⟨uo, uc, rfl⟩ := hO1.form
       have HU := hid (show OwnRn w1 (w.heap.size + 1 + 1) _ rs from HSZ.out ▸ hO1)
       have HRL := hid hrl
       have H9 := hid (show Of9 w w1 #[.slice aa a.length ca, .slice ab b.length cb, .slice ac c.length cc] 0 0 0 w1 from ⟨below_step HB0.out hb1 HB0.out.size, Nat.le_refl _, fun _ _ _ => rfl, (hb1.block _ (by rw [HSZ.out]; omega)).trans HTX.out, (hb1.block _ (by rw [HSZ.out]; omega)).trans HDN.out, by have h1 := hb1.size; have h2 := HSZ.out; omega⟩)
       clear hO1 hrl hb1))
  clear HRS HTX HDN HB0 HSZ t0 t1 t2
  go_loopg [8, 21] rs.length (fun gh l i wx => ∃ (k : Nat) (cs : List CkS) (d1 d2 d3 : Nat), k ≤ rs.length ∧ gh = rs.length - k ∧ i = .int .i64 k ∧ Hid (Z = cs ++ ofRuns a b c (d1, d2, d3) (rs.drop k)) ∧ Hid (RunsOk (a.length, b.length, c.length) (d1, d2, d3) (rs.drop k)) ∧ Hid (OwnCk wx w1.heap.size l cs) ∧ Hid (cs.length ≤ 2 * k) ∧ Hid (Of9 w w1 #[.slice aa a.length ca, .slice ab b.length cb, .slice ac c.length cc] d1 d2 d3 wx))
  case atStart => exact ⟨0, [], 0, 0, 0, Nat.zero_le _, rfl, rfl, hid (by rw [List.drop_zero, HZ.out]; rfl), hid (by rw [List.drop_zero]; exact HRO.out), hid (OwnCk.nil _ _), hid (Nat.zero_le _), H9⟩
  case round =>
    obtain ⟨k, cs, d1, d2, d3, hk, rfl, rfl, HE, HR, HO, HCL, HW⟩ := hrel
    clear H9
    have k0 : (0 : Int) ≤ (k : Int) := Int.natCast_nonneg _
    obtain ⟨lo, lcap, rfl⟩ := HO.out.form
    by_cases hlt : k < rs.length
    · have k1 : (k : Int) < (rs.length : Int) := by omega
      have kw : IntKind.i64.wrap ((k : Int) + 1) = (k : Int) + 1 := IntWalk.i64_in _ (by have h1 := HRL.out; have h2 := HL.out; omega)
      obtain ⟨g, f1, f2, f3, t1, t2, t3, rfl, he, e0, e1, e2, e3, e4, e5⟩ := (HW.out.runs HU.out).sl.at' (i := k) hlt
      have hdr : rs.drop k = ((f1, f2, f3), (t1, t2, t3)) :: rs.drop (k + 1) := by
        obtain ⟨q, e⟩ := List.getElem?_eq_some_iff.1 he
        rw [List.drop_eq_getElem_cons q, e]
      have hr := HR.out
      rw [hdr] at hr
      obtain ⟨⟨r1, r2, r3⟩, ⟨s1, s2, s3⟩, ⟨u1, u2, u3⟩, hr'⟩ := hr
      simp only at r1 r2 r3 s1 s2 s3 u1 u2 u3
      have HR2 := hid hr'
      have he2 := HE.out
      rw [hdr, ofRuns] at he2
      simp only at he2
      have HE2 := hid he2
      have HORD := hid (And.intro (And.intro r1 (And.intro r2 r3)) (And.intro (And.intro s1 (And.intro s2 s3)) (And.intro u1 (And.intro u2 u3))))
      clear he hdr hr' he2 r1 r2 r3 s1 s2 s3 u1 u2 u3 HE HR
      have HWA := hid (HW.out.step ((Below.refl w1.heap.size wr).alloc HW.out.size (.cells #[.int .i64 f1, .int .i64 f2, .int .i64 f3, .int .i64 t1, .int .i64 t2, .int .i64 t3] 76)))
      have HOA := hid (HO.out.old ((Below.refl wr.heap.size wr).alloc (Nat.le_refl _) (.cells #[.int .i64 f1, .int .i64 f2, .int .i64 f3, .int .i64 t1, .int .i64 t2, .int .i64 t3] 76)))
      have HRA := hid (heap_alloc_new wr (.cells #[.int .i64 f1, .int .i64 f2, .int .i64 f3, .int .i64 t1, .int .i64 t2, .int .i64 t3] 76))
      have HSA := hid (show wr.heap.size < (wr.alloc (.cells #[.int .i64 f1, .int .i64 f2, .int .i64 f3, .int .i64 t1, .int .i64 t2, .int .i64 t3] 76)).heap.size by simp)
      have HLO := hid (show ∀ j, (Value.slice lo cs.length lcap).ownBlock = some j → j < wr.heap.size from fun j hj => (HO.out.lt j hj).2)
      have HWS := hid HW.out.size
      by_cases hd : (f1, f2, f3) = (d1, d2, d3)
      · obtain ⟨rfl, rfl, rfl⟩ : f1 = d1 ∧ f2 = d2 ∧ f3 = d3 := ⟨congrArg Prod.fst hd, congrArg (fun x => x.2.1) hd, congrArg (fun x => x.2.2) hd⟩
        clear hd
        have HE3 := hid (show Z = (cs ++ [(1, cutL a f1 t1, cutL b f2 t2, cutL c f3 t3)]) ++ ofRuns a b c (t1, t2, t3) (rs.drop (k + 1)) by
          rw [HE2.out, cutL_nil, cutL_nil, cutL_nil, gapCk_nil, List.nil_append, List.append_assoc]
          rfl)
        have HPC := hid (DPiece_any 1 _ _ _ a b c f1 f2 f3 t1 t2 t3 _ (Sl.old HA.out HWA.out.below) (Sl.old HB.out HWA.out.below) (Sl.old HC.out HWA.out.below) (by have := HL.out; omega) (by have := HL.out; omega) (by have := HL.out; omega) HORD.out.2.1.1 HORD.out.2.2.1 HORD.out.2.1.2.1 HORD.out.2.2.2.1 HORD.out.2.1.2.2 HORD.out.2.2.2.2)
        have kt0 := blk_cell (i := 0) HWA.out.tx rfl
        have kt1 := blk_cell (i := 1) HWA.out.tx rfl
        have kt2 := blk_cell (i := 2) HWA.out.tx rfl
        have kd0 := blk_cell (i := 0) HWA.out.dn rfl
        have kd1 := blk_cell (i := 1) HWA.out.dn rfl
        have kd2 := blk_cell (i := 2) HWA.out.dn rfl
        have kr0 := blk_cell (i := 0) HRA.out rfl
        have kr1 := blk_cell (i := 1) HRA.out rfl
        have kr2 := blk_cell (i := 2) HRA.out rfl
        have kr3 := blk_cell (i := 3) HRA.out rfl
        have kr4 := blk_cell (i := 4) HRA.out rfl
        have kr5 := blk_cell (i := 5) HRA.out rfl
        go_wp2_with (first
          | (go_at_call 44; refine HPC.out.mono ?_; rintro e w3 ⟨ua, ub, uc, rfl, hT3, hb3⟩
             obtain ⟨xa, ya, rfl⟩ := owns_form hT3.1
             obtain ⟨xb, yb, rfl⟩ := owns_form hT3.2.1
             obtain ⟨xc, yc, rfl⟩ := owns_form hT3.2.2
             have HT3 := hid hT3
             have HW3 := hid (HWA.out.step (hb3.mono HWA.out.size))
             have HO3 := hid (HOA.out.old hb3)
             have HR3 := hid ((hb3.block _ HSA.out).trans HRA.out)
             have HZ3 := hid (Nat.lt_of_lt_of_le HSA.out hb3.size)
             clear hT3 hb3)
          | (refine wpList_append_ck rfl (.tmp 37) (.tmp 44) rfl w1.heap.size _ cs 1 (cutL a f1 t1) (cutL b f2 t2) (cutL c f3 t3) _ _ _ rfl HO3.out (nestL_own HT3.out.1 (fun j hj => Nat.lt_trans (HLO.out j hj) HSA.out)) (nestL_own HT3.out.2.1 (fun j hj => Nat.lt_trans (HLO.out j hj) HSA.out)) (nestL_own HT3.out.2.2 (fun j hj => Nat.lt_trans (HLO.out j hj) HSA.out)) rfl rfl rfl rfl (by have h1 := HCL.out; have h2 := HRL.out; have h3 := HL.out; omega) HW3.out.size ?_; intro v4 w4 hO4 hb4 hk4
             have HO4 := hid hO4
             have HW4 := hid (HW3.out.step hb4)
             have hr4 := (hk4 _ HZ3.out (fun e => Nat.lt_irrefl _ (HLO.out _ e))).trans HR3.out
             have HR4 := hid hr4
             have m3 := blk_cell (i := 3) hr4 rfl
             have m4 := blk_cell (i := 4) hr4 rfl
             have m5 := blk_cell (i := 5) hr4 rfl
             clear hO4 hb4 hk4 hr4)
          | (refine wpList_store_whole rfl 72 _ _ rfl (w.heap.size + 1) #[.int .i64 t1, .int .i64 t2, .int .i64 t3] rfl rfl _ _ HW4.out.dn 3 Try.sizeCor rfl rfl (by simp [Value.oneCell']) ?_; intro w9 hg9 hk9
             have HW9 := hid (HW4.out.put hk9 hg9)
             have HO9 := hid (ownCk_put HO4.out hk9 HW4.out.big HW4.out.dn)
             clear hg9 hk9))
        go_roundg (rs.length - (k + 1))
        case measure => omega
        case rel => exact ⟨k + 1, _, t1, t2, t3, by omega, rfl, by go_num, HE3, HR2, HO9, hid (by have := HCL.out; rw [List.length_append, List.length_singleton]; omega), HW9⟩
      · have hd0 : Hid ((f1, f2, f3) ≠ (d1, d2, d3)) := hid hd
        have hneq := run_neq_cor hd
        have HE3 := hid (show Z = ((cs ++ [(kindOf (cutL a d1 f1) (cutL b d2 f2) (cutL c d3 f3), cutL a d1 f1, cutL b d2 f2, cutL c d3 f3)]) ++ [(1, cutL a f1 t1, cutL b f2 t2, cutL c f3 t3)]) ++ ofRuns a b c (t1, t2, t3) (rs.drop (k + 1)) by
          rw [HE2.out, gap_ne HORD.out.1.1 HORD.out.1.2.1 HORD.out.1.2.2 (Nat.le_trans HORD.out.2.1.1 HORD.out.2.2.1) (Nat.le_trans HORD.out.2.1.2.1 HORD.out.2.2.2.1) (Nat.le_trans HORD.out.2.1.2.2 HORD.out.2.2.2.2) hd, List.append_assoc, List.append_assoc]
          rfl)
        clear hd
        have HCH := hid (DChanged_any _ _ _ a b c d1 d2 d3 f1 f2 f3 _ (Sl.old HA.out HWA.out.below) (Sl.old HB.out HWA.out.below) (Sl.old HC.out HWA.out.below) (by have := HL.out; omega) (by have := HL.out; omega) (by have := HL.out; omega) HORD.out.1.1 (Nat.le_trans HORD.out.2.1.1 HORD.out.2.2.1) HORD.out.1.2.1 (Nat.le_trans HORD.out.2.1.2.1 HORD.out.2.2.2.1) HORD.out.1.2.2 (Nat.le_trans HORD.out.2.1.2.2 HORD.out.2.2.2.2))
        obtain ⟨kd, hkd⟩ : ∃ z, kindOf (cutL a d1 f1) (cutL b d2 f2) (cutL c d3 f3) = z := ⟨_, rfl⟩
        rw [hkd] at HE3 HCH
        clear hkd
        obtain ⟨A, hA⟩ : ∃ z, cutL a d1 f1 = z := ⟨_, rfl⟩
        obtain ⟨B, hB⟩ : ∃ z, cutL b d2 f2 = z := ⟨_, rfl⟩
        obtain ⟨C, hC⟩ : ∃ z, cutL c d3 f3 = z := ⟨_, rfl⟩
        rw [hA, hB, hC] at HE3 HCH
        clear hA hB hC HE2
        have kt0 := blk_cell (i := 0) HWA.out.tx rfl
        have kt1 := blk_cell (i := 1) HWA.out.tx rfl
        have kt2 := blk_cell (i := 2) HWA.out.tx rfl
        have kd0 := blk_cell (i := 0) HWA.out.dn rfl
        have kd1 := blk_cell (i := 1) HWA.out.dn rfl
        have kd2 := blk_cell (i := 2) HWA.out.dn rfl
        have kr0 := blk_cell (i := 0) HRA.out rfl
        have kr1 := blk_cell (i := 1) HRA.out rfl
        have kr2 := blk_cell (i := 2) HRA.out rfl
        have kr3 := blk_cell (i := 3) HRA.out rfl
        have kr4 := blk_cell (i := 4) HRA.out rfl
        have kr5 := blk_cell (i := 5) HRA.out rfl
        go_wp2_with (first
          | (go_at_call 43; with_reducible refine HCH.out.mono ?_; rintro e w3 ⟨ua, ub, uc, rfl, hT3, hb3⟩
             obtain ⟨xa, ya, rfl⟩ := owns_form hT3.1
             obtain ⟨xb, yb, rfl⟩ := owns_form hT3.2.1
             obtain ⟨xc, yc, rfl⟩ := owns_form hT3.2.2
             have HT3 := hid hT3
             have HW3 := hid (HWA.out.step (hb3.mono HWA.out.size))
             have HO3 := hid (HOA.out.old hb3)
             have HR3 := hid ((hb3.block _ HSA.out).trans HRA.out)
             have HZ3 := hid (Nat.lt_of_lt_of_le HSA.out hb3.size)
             clear hT3 hb3)
          | (refine wpList_append_ck rfl (.tmp 29) (.tmp 35) rfl w1.heap.size _ cs kd A B C _ _ _ rfl HO3.out (nestL_own HT3.out.1 (fun j hj => Nat.lt_trans (HLO.out j hj) HSA.out)) (nestL_own HT3.out.2.1 (fun j hj => Nat.lt_trans (HLO.out j hj) HSA.out)) (nestL_own HT3.out.2.2 (fun j hj => Nat.lt_trans (HLO.out j hj) HSA.out)) rfl rfl rfl rfl (by have h1 := HCL.out; have h2 := HRL.out; have h3 := HL.out; omega) HW3.out.size ?_; intro v4 w4 hO4 hb4 hk4
             obtain ⟨lo4, lcap4, hv4⟩ := hO4.form
             rw [List.length_append, List.length_singleton] at hv4
             subst hv4
             have HO4 := hid hO4
             have HW4 := hid (HW3.out.step hb4)
             have hr4 := (hk4 _ HZ3.out (fun e => Nat.lt_irrefl _ (HLO.out _ e))).trans HR3.out
             have HR4 := hid hr4
             have HZ4 := hid (show wr.heap.size < w4.heap.size from lt_of_block hr4)
             have HPC := hid (DPiece_any 1 _ _ _ a b c f1 f2 f3 t1 t2 t3 _ (Sl.old HA.out HW4.out.below) (Sl.old HB.out HW4.out.below) (Sl.old HC.out HW4.out.below) (by have := HL.out; omega) (by have := HL.out; omega) (by have := HL.out; omega) HORD.out.2.1.1 HORD.out.2.2.1 HORD.out.2.1.2.1 HORD.out.2.2.2.1 HORD.out.2.1.2.2 HORD.out.2.2.2.2)
             have mt0 := blk_cell (i := 0) HW4.out.tx rfl
             have mt1 := blk_cell (i := 1) HW4.out.tx rfl
             have mt2 := blk_cell (i := 2) HW4.out.tx rfl
             have mr0 := blk_cell (i := 0) hr4 rfl
             have mr1 := blk_cell (i := 1) hr4 rfl
             have mr2 := blk_cell (i := 2) hr4 rfl
             have mr3 := blk_cell (i := 3) hr4 rfl
             have mr4 := blk_cell (i := 4) hr4 rfl
             have mr5 := blk_cell (i := 5) hr4 rfl
             clear hO4 hb4 hk4 hr4)
          | (go_at_call 44; with_reducible refine HPC.out.mono ?_; rintro e w5 ⟨ua, ub, uc, rfl, hT5, hb5⟩
             obtain ⟨xa5, ya5, rfl⟩ := owns_form hT5.1
             obtain ⟨xb5, yb5, rfl⟩ := owns_form hT5.2.1
             obtain ⟨xc5, yc5, rfl⟩ := owns_form hT5.2.2
             have HT5 := hid hT5
             have HW5 := hid (HW4.out.step (hb5.mono HW4.out.size))
             have HO5 := hid (HO4.out.old hb5)
             have HR5 := hid ((hb5.block _ HZ4.out).trans HR4.out)
             have HZ5 := hid (Nat.lt_of_lt_of_le HZ4.out hb5.size)
             clear hT5 hb5)
          | (refine wpList_append_ck rfl (.tmp 37) (.tmp 44) rfl w1.heap.size _ _ 1 (cutL a f1 t1) (cutL b f2 t2) (cutL c f3 t3) _ _ _ rfl HO5.out (nestL_own HT5.out.1 (fun j hj => (HO4.out.lt j hj).2)) (nestL_own HT5.out.2.1 (fun j hj => (HO4.out.lt j hj).2)) (nestL_own HT5.out.2.2 (fun j hj => (HO4.out.lt j hj).2)) rfl rfl rfl rfl (by have h1 := HCL.out; have h2 := HRL.out; have h3 := HL.out; rw [List.length_append, List.length_singleton]; omega) HW5.out.size ?_; intro v6 w6 hO6 hb6 hk6
             have HO6 := hid hO6
             have HW6 := hid (HW5.out.step hb6)
             have hr6 := (hk6 _ HZ5.out (own_ne HO5.out HR5.out)).trans HR5.out
             have n3 := blk_cell (i := 3) hr6 rfl
             have n4 := blk_cell (i := 4) hr6 rfl
             have n5 := blk_cell (i := 5) hr6 rfl
             clear hO6 hb6 hk6 hr6)
          | (refine wpList_store_whole rfl 72 _ _ rfl (w.heap.size + 1) #[.int .i64 t1, .int .i64 t2, .int .i64 t3] rfl rfl _ _ HW6.out.dn 3 Try.sizeCor rfl rfl (by simp [Value.oneCell']) ?_; intro w9 hg9 hk9
             have HW9 := hid (HW6.out.put hk9 hg9)
             have HO9 := hid (ownCk_put HO6.out hk9 HW6.out.big HW6.out.dn)
             clear hg9 hk9))
        go_roundg (rs.length - (k + 1))
        case measure => omega
        case rel => exact ⟨k + 1, _, t1, t2, t3, by omega, rfl, by go_num, HE3, HR2, HO9, hid (by have := HCL.out; rw [List.length_append, List.length_append, List.length_singleton, List.length_singleton]; omega), HW9⟩
    · obtain rfl : k = rs.length := by omega
      have hneg : ¬ (rs.length : Int) < (rs.length : Int) := by omega
      have hr := HR.out
      rw [List.drop_length] at hr
      have HORD := hid hr
      have he := HE.out
      rw [List.drop_length, ofRuns, ← cutL_end, ← cutL_end, ← cutL_end] at he
      simp only at he
      have HE2 := hid he
      clear hr he HE HR
      have HLO := hid (show ∀ j, (Value.slice lo cs.length lcap).ownBlock = some j → j < wr.heap.size from fun j hj => (HO.out.lt j hj).2)
      have HEN := hid (DEnd_any _ _ _ a b c wr (Sl.old HA.out HW.out.below) (Sl.old HB.out HW.out.below) (Sl.old HC.out HW.out.below))
      have kt0 := blk_cell (i := 0) HW.out.tx rfl
      have kt1 := blk_cell (i := 1) HW.out.tx rfl
      have kt2 := blk_cell (i := 2) HW.out.tx rfl
      by_cases hd : (a.length, b.length, c.length) = (d1, d2, d3)
      · obtain ⟨e1, e2, e3⟩ : a.length = d1 ∧ b.length = d2 ∧ c.length = d3 := ⟨congrArg Prod.fst hd, congrArg (fun x => x.2.1) hd, congrArg (fun x => x.2.2) hd⟩
        have HZE := hid (show Z = cs by rw [HE2.out, e1, e2, e3, cutL_nil, cutL_nil, cutL_nil, gapCk_nil, List.append_nil])
        have HEQ := hid (And.intro e1 (And.intro e2 e3))
        clear hd e1 e2 e3 HE2
        go_wp2_with (first
          | (go_at_call 45; with_reducible refine HEN.out.mono ?_; rintro e w2 ⟨rfl, hb2⟩
             rw [HEQ.out.1, HEQ.out.2.1, HEQ.out.2.2]
             have hb3 := hb2.alloc hb2.size (.cells #[.int .i64 d1, .int .i64 d2, .int .i64 d3] 72)
             have HW3 := hid (HW.out.step (hb3.mono HW.out.size))
             have HO3 := hid (HO.out.old hb3)
             have kd0 := blk_cell (i := 0) HW3.out.dn rfl
             have kd1 := blk_cell (i := 1) HW3.out.dn rfl
             have kd2 := blk_cell (i := 2) HW3.out.dn rfl
             clear hb2 hb3))
        go_ret
        rw [HZE.out]
        exact ⟨_, rfl, HO3.out.slC, HW3.out.below⟩
      · have hneq := run_neq_cor hd
        have HZE := hid (show Z = cs ++ [(kindOf (cutL a d1 a.length) (cutL b d2 b.length) (cutL c d3 c.length), cutL a d1 a.length, cutL b d2 b.length, cutL c d3 c.length)] by
          rw [HE2.out, gap_ne HORD.out.1 HORD.out.2.1 HORD.out.2.2 (Nat.le_refl _) (Nat.le_refl _) (Nat.le_refl _) hd])
        clear hd HE2
        go_wp2_with (first
          | (go_at_call 45; with_reducible refine HEN.out.mono ?_; rintro e w2 ⟨rfl, hb2⟩
             have hb3 := hb2.alloc hb2.size (.cells #[.int .i64 a.length, .int .i64 b.length, .int .i64 c.length] 72)
             have HW3 := hid (HW.out.step (hb3.mono HW.out.size))
             have HO3 := hid (HO.out.old hb3)
             have HZ3 := hid hb3.size
             have hen := heap_alloc_new w2 (.cells #[.int .i64 a.length, .int .i64 b.length, .int .i64 c.length] 72)
             have ke0 := blk_cell (i := 0) hen rfl
             have ke1 := blk_cell (i := 1) hen rfl
             have ke2 := blk_cell (i := 2) hen rfl
             have kd0 := blk_cell (i := 0) HW3.out.dn rfl
             have kd1 := blk_cell (i := 1) HW3.out.dn rfl
             have kd2 := blk_cell (i := 2) HW3.out.dn rfl
             have mt0 := blk_cell (i := 0) HW3.out.tx rfl
             have mt1 := blk_cell (i := 1) HW3.out.tx rfl
             have mt2 := blk_cell (i := 2) HW3.out.tx rfl
             have HCH := hid (DChanged_any _ _ _ a b c d1 d2 d3 a.length b.length c.length _ (Sl.old HA.out HW3.out.below) (Sl.old HB.out HW3.out.below) (Sl.old HC.out HW3.out.below) (by have := HL.out; omega) (by have := HL.out; omega) (by have := HL.out; omega) HORD.out.1 (Nat.le_refl _) HORD.out.2.1 (Nat.le_refl _) HORD.out.2.2 (Nat.le_refl _))
             clear hb2 hb3 hen)
          | (go_at_call 43; with_reducible refine HCH.out.mono ?_; rintro e w4 ⟨ua, ub, uc, rfl, hT4, hb4⟩
             obtain ⟨xa, ya, rfl⟩ := owns_form hT4.1
             obtain ⟨xb, yb, rfl⟩ := owns_form hT4.2.1
             obtain ⟨xc, yc, rfl⟩ := owns_form hT4.2.2
             have HT4 := hid hT4
             have HW4 := hid (HW3.out.step (hb4.mono HW3.out.size))
             have HO4 := hid (HO3.out.old hb4)
             clear hT4 hb4)
          | (refine wpList_append_ck rfl (.tmp 54) (.tmp 59) rfl w1.heap.size _ cs _ _ _ _ _ _ _ rfl HO4.out (nestL_own HT4.out.1 (fun j hj => (HO3.out.lt j hj).2)) (nestL_own HT4.out.2.1 (fun j hj => (HO3.out.lt j hj).2)) (nestL_own HT4.out.2.2 (fun j hj => (HO3.out.lt j hj).2)) rfl rfl rfl rfl (by have h1 := HCL.out; have h2 := HRL.out; have h3 := HL.out; omega) HW4.out.size ?_; intro v6 w6 hO6 hb6 hk6
             have HO6 := hid hO6
             have HW6 := hid (HW4.out.step hb6)
             clear hO6 hb6 hk6))
        go_ret
        rw [HZE.out]
        exact ⟨_, rfl, HO6.out.slC, HW6.out.below⟩
end
end Go.Proofs.Ytfldheegebopoaa

/-
  Names of files (P11.1, P11.2), as mathematics.
-/
import Derived.Test.YtnpgfbgnbonhfaaLinM
namespace Go.Proofs.Ytnpgfbgnbonhfaa

/-- what stands between slashes; what of the first one is read already -/
def partsG : List UInt8 → List UInt8 → List (List UInt8)
  | cur, [] => [cur]
  | cur, c :: r => if c = 47 then cur :: partsG [] r else partsG (cur ++ [c]) r
def partsS (p : List UInt8) : List (List UInt8) := partsG [] p
def okByte (c : UInt8) : Bool := decide (33 ≤ c.toNat ∧ c.toNat ≤ 126)
def okPart (x : List UInt8) : Bool := x != [] && (x != [46] && x != [46, 46])
def rightS (p : List UInt8) : Bool := decide (1 ≤ p.length ∧ p.length ≤ 100) && (p.all okByte && (partsS p).all okPart)
def withinS (p d : List UInt8) : Bool := decide (d.length < p.length) && ((p.take d.length == d) && (p[d.length]? == some 47))
def clashS (a b : List UInt8) : Bool := a == b || (withinS a b || withinS b a)

theorem partsG_ne (cur p : List UInt8) : partsG cur p ≠ [] := by
  induction p generalizing cur with
  | nil => simp [partsG]
  | cons c r ih =>
    rw [partsG]
    split
    · simp
    · exact ih _
theorem partsG_len (cur p : List UInt8) : (partsG cur p).length ≤ p.length + 1 := by
  induction p generalizing cur with
  | nil => simp [partsG]
  | cons c r ih =>
    rw [partsG]
    split
    · have := ih []; simp; omega
    · have := ih (cur ++ [c]); simp; omega
theorem partsS_len (p : List UInt8) : (partsS p).length ≤ p.length + 1 := partsG_len [] p
/-- with slashes between they are the name -/
def joinSl : List (List UInt8) → List UInt8
  | [] => []
  | [x] => x
  | x :: y :: r => x ++ 47 :: joinSl (y :: r)
theorem joinSl_cons {x : List UInt8} {l : List (List UInt8)} (h : l ≠ []) : joinSl (x :: l) = x ++ 47 :: joinSl l := by
  cases l with
  | nil => exact absurd rfl h
  | cons y r => rfl
theorem partsG_noslash (cur x r : List UInt8) (h : ∀ c ∈ x, c ≠ 47) : partsG cur (x ++ r) = partsG (cur ++ x) r := by
  induction x generalizing cur with
  | nil => simp
  | cons c x ih =>
    rw [List.cons_append, partsG, if_neg (h c (by simp)), ih _ (fun d hd => h d (by simp [hd]))]
    simp
theorem partsS_join {l : List (List UInt8)} (hl : l ≠ []) (h : ∀ x ∈ l, ∀ c ∈ x, c ≠ 47) : partsS (joinSl l) = l := by
  induction l with
  | nil => exact absurd rfl hl
  | cons x l ih =>
    by_cases hn : l = []
    · subst hn
      have := partsG_noslash [] x [] (h x (by simp))
      rw [List.append_nil] at this
      rw [partsS, joinSl, this]
      simp [partsG]
    · rw [joinSl_cons hn, partsS, partsG_noslash [] x _ (h x (by simp)), partsG, if_pos rfl]
      have := ih hn fun y hy => h y (by simp [hy])
      rw [partsS] at this
      rw [this]
      simp
/-- behind a slash the parts are those of what stands behind it -/
theorem partsG_slash (cur a b : List UInt8) : partsG cur (a ++ 47 :: b) = partsG cur a ++ partsG [] b := by
  induction a generalizing cur with
  | nil => simp [partsG]
  | cons c a ih =>
    rw [List.cons_append, partsG, partsG]
    split
    · rw [ih]; simp
    · exact ih _
theorem partsS_slash (a b : List UInt8) : partsS (a ++ 47 :: b) = partsS a ++ partsS b := partsG_slash [] a b
/-- one part, and it has no slash -/
theorem partsG_one {cur x : List UInt8} (h : (partsG cur x).length = 1) : ∀ c ∈ x, c ≠ 47 := by
  induction x generalizing cur with
  | nil => intro c hc; cases hc
  | cons d x ih =>
    rw [partsG] at h
    split at h
    · rw [List.length_cons] at h
      exact absurd (List.eq_nil_of_length_eq_zero (by omega)) (partsG_ne [] x)
    · rename_i hd
      intro c hc
      rcases List.mem_cons.1 hc with rfl | hc
      · exact hd
      · exact ih h c hc
theorem joinSl_snoc {L : List (List UInt8)} (h : L ≠ []) (x : List UInt8) : joinSl (L ++ [x]) = joinSl L ++ 47 :: x := by
  induction L with
  | nil => exact absurd rfl h
  | cons y L ih =>
    by_cases hn : L = []
    · subst hn; rfl
    · rw [List.cons_append, joinSl_cons (by simp), ih hn, joinSl_cons hn]
      simp
theorem partsS_noslash {x : List UInt8} (h : ∀ c ∈ x, c ≠ 47) : partsS x = [x] := by
  have := partsG_noslash [] x [] h
  rw [List.append_nil] at this
  rw [partsS, this]
  rfl
/-- a right part of a name -/
def goodPart (x : List UInt8) : Bool := rightS x && decide ((partsS x).length = 1)
theorem goodPart_iff {x : List UInt8} (h : goodPart x = true) : (∀ c ∈ x, c ≠ 47) ∧ x ≠ [] ∧ x.all okByte = true ∧ okPart x = true := by
  unfold goodPart rightS at h
  simp only [Bool.and_eq_true, decide_eq_true_eq] at h
  obtain ⟨⟨⟨h1, _⟩, h2, h3⟩, h4⟩ := h
  have hs := partsG_one h4
  refine ⟨hs, fun e => by rw [e] at h1; simp at h1, h2, ?_⟩
  rw [partsS_noslash hs] at h3
  simpa using h3
theorem joinSl_bytes {l : List (List UInt8)} (h : ∀ x ∈ l, x.all okByte = true) : (joinSl l).all okByte = true := by
  induction l with
  | nil => rfl
  | cons x l ih =>
    by_cases hn : l = []
    · subst hn
      exact h x (by simp)
    · rw [joinSl_cons hn, List.all_append, h x (by simp), List.all_cons, ih fun y hy => h y (by simp [hy])]
      rfl
/-- right parts, with slashes between, are a right name -/
theorem right_join {l : List (List UInt8)} (hl : l ≠ []) (h : l.all goodPart = true) (hn : (joinSl l).length ≤ 100) : rightS (joinSl l) = true ∧ partsS (joinSl l) = l := by
  have hg : ∀ x ∈ l, goodPart x = true := fun x hx => List.all_eq_true.1 h x hx
  have hp := partsS_join hl fun x hx => (goodPart_iff (hg x hx)).1
  refine ⟨?_, hp⟩
  have h1 : 1 ≤ (joinSl l).length := by
    cases l with
    | nil => exact absurd rfl hl
    | cons x r =>
      have hx : 0 < x.length := List.length_pos_iff.2 (goodPart_iff (hg x (by simp))).2.1
      by_cases hr : r = []
      · subst hr; exact hx
      · rw [joinSl_cons hr]; simp; omega
  unfold rightS
  rw [decide_eq_true ⟨h1, hn⟩, joinSl_bytes fun x hx => (goodPart_iff (hg x hx)).2.2.1, hp]
  simp only [Bool.true_and, List.all_eq_true]
  exact fun x hx => (goodPart_iff (hg x hx)).2.2.2
theorem right_not {p : List UInt8} {x : List UInt8} (hx : x ∈ partsS p) (h : okPart x = false) : rightS p = false := by
  unfold rightS
  have : (partsS p).all okPart = false := by
    rw [List.all_eq_false]
    exact ⟨x, hx, by rw [h]; simp⟩
  rw [this]
  simp
theorem right_slash (s : List UInt8) : rightS (s ++ [47]) = false := right_not (x := []) (by rw [show s ++ [47] = s ++ 47 :: [] from rfl, partsS_slash]; exact List.mem_append_right _ (by simp [partsS, partsG])) rfl
theorem slash_right (s : List UInt8) : rightS (47 :: s) = false := right_not (x := []) (by rw [show 47 :: s = [] ++ 47 :: s from rfl, partsS_slash]; exact List.mem_append_left _ (by simp [partsS, partsG])) rfl
theorem right_dots (s : List UInt8) : rightS (s ++ [47, 46, 46, 47, 97]) = false := right_not (x := [46, 46]) (by rw [show s ++ [47, 46, 46, 47, 97] = s ++ 47 :: ([46, 46] ++ 47 :: [97]) from rfl, partsS_slash, partsS_slash]; exact List.mem_append_right _ (List.mem_append_left _ (by decide))) rfl
theorem right_byte (c : UInt8) : rightS [c] = (okByte c && (c != 46 && c != 47)) := by
  unfold rightS
  by_cases h : c = 47
  · subst h; rfl
  · rw [partsS_noslash (x := [c]) (by simpa using h)]
    by_cases h2 : c = 46
    · subst h2; rfl
    · have h3 : okPart [c] = true := by simp [okPart, h2]
      simp [h3, h, h2]
theorem right_long {m : Nat} (h : 90 ≤ m) : rightS (List.replicate m 97) = decide (m ≤ 100) := by
  have hs : ∀ c ∈ List.replicate m (97 : UInt8), c ≠ 47 := fun c hc => by rw [(List.mem_replicate.1 hc).2]; decide
  have h1 : (List.replicate m (97 : UInt8)).all okByte = true := List.all_eq_true.2 fun c hc => by rw [(List.mem_replicate.1 hc).2]; rfl
  have hne : ∀ y : List UInt8, y.length < 90 → (List.replicate m (97 : UInt8) == y) = false := fun y hy => by
    apply beq_false_of_ne
    intro e
    have := congrArg List.length e
    simp at this
    omega
  have h2 : okPart (List.replicate m (97 : UInt8)) = true := by
    unfold okPart bne
    rw [hne [] (by simp), hne [46] (by simp), hne [46, 46] (by simp)]
    rfl
  unfold rightS
  rw [partsS_noslash hs, h1, List.all_cons, h2, List.length_replicate]
  by_cases hm : m ≤ 100
  · rw [decide_eq_true hm, decide_eq_true ⟨by omega, hm⟩]; rfl
  · rw [decide_eq_false hm, decide_eq_false (fun h => hm h.2)]; rfl
theorem withinS_iff (p d : List UInt8) : withinS p d = true ↔ ∃ r, p = d ++ 47 :: r := by
  unfold withinS
  constructor
  · intro h
    rw [Bool.and_eq_true, Bool.and_eq_true] at h
    obtain ⟨_, h2, h3⟩ := h
    have h2 : p.take d.length = d := by simpa using h2
    have h3 : p[d.length]? = some 47 := by simpa using h3
    obtain ⟨q, e⟩ := List.getElem?_eq_some_iff.1 h3
    refine ⟨p.drop (d.length + 1), ?_⟩
    have := List.take_append_drop d.length p
    rw [List.drop_eq_getElem_cons q, e, h2] at this
    exact this.symm
  · rintro ⟨r, rfl⟩
    simp
theorem withinS_not {p d : List UInt8} (h : ¬ ∃ r, p = d ++ 47 :: r) : withinS p d = false := by
  cases hb : withinS p d with
  | false => rfl
  | true => exact absurd ((withinS_iff p d).1 hb) h
theorem beq_comm (a b : List UInt8) : (a == b) = (b == a) := by
  by_cases h : a = b
  · rw [h]
  · rw [show (a == b) = false by simpa using h, show (b == a) = false by simpa using fun e => h e.symm]
theorem clash_comm (a b : List UInt8) : clashS a b = clashS b a := by
  unfold clashS
  rw [Bool.or_comm (withinS a b), beq_comm]
theorem clash_self (a : List UInt8) : clashS a a = true := by simp [clashS]
theorem within_self (a : List UInt8) : withinS a a = false := withinS_not (by
  rintro ⟨r, h⟩
  have := congrArg List.length h
  simp at this)
theorem within_put (a b : List UInt8) : withinS (a ++ 47 :: b) a = true := (withinS_iff _ _).2 ⟨b, rfl⟩
theorem within_both (a b : List UInt8) : (withinS a b && withinS b a) = false := by
  rw [Bool.and_eq_false_iff]
  by_cases h : ∃ r, a = b ++ 47 :: r
  · right
    refine withinS_not ?_
    rintro ⟨r, h2⟩
    obtain ⟨s, h⟩ := h
    have h3 := congrArg List.length h
    have h4 := congrArg List.length h2
    simp at h3 h4
    omega
  · exact .inl (withinS_not h)
end Go.Proofs.Ytnpgfbgnbonhfaa

/-
  Hunks of a script, further: one by one, the last first; as many as runs of changes; what they delete and insert; apart.
-/
import Derived.Test.YtbcmecclaofmgaaHkT
namespace Go.Proofs.Ytbcmecclaofmgaa

section
variable {α : Type}
theorem drop_split (l : List α) (p q : Nat) (h : p ≤ q) : l.drop p = (l.take q).drop p ++ l.drop q := by
  rw [List.drop_take, show l.drop q = (l.drop p).drop (q - p) by rw [List.drop_drop]; congr 1; omega, List.take_append_drop]

/-- how many runs of changes there are -/
def runsG : Bool → List (Int × α) → Nat
  | _, [] => 0
  | r, e :: l => (if e.1 = 1 then 0 else if r then 0 else 1) + runsG (e.1 != 1) l
theorem hunks_count (l : List (Int × α)) : (∀ at' : Nat, Kinds l → (hunksG none at' l).length = runsG false l) ∧ (∀ (s at' : Nat) (o n : List α), Kinds l → (hunksG (some (s, o, n)) at' l).length = 1 + runsG true l) := by
  induction l with
  | nil => exact ⟨fun _ _ => rfl, fun _ _ _ _ _ => rfl⟩
  | cons e l ih =>
    obtain ⟨k, x⟩ := e
    refine ⟨fun at' hK => ?_, fun s at' o n hK => ?_⟩
    · rcases hK (k, x) (List.mem_cons_self ..) with hk | hk | hk
      · simp only at hk; subst hk
        rw [hunksG, if_pos rfl, ih.1 _ hK.tail]; show _ = 0 + _; rw [Nat.zero_add]; rfl
      · simp only at hk; subst hk
        rw [hunksG, if_neg (by decide), if_pos rfl, ih.2 _ _ _ _ hK.tail]; rfl
      · simp only at hk; subst hk
        rw [hunksG, if_neg (by decide), if_neg (by decide), if_pos rfl, ih.2 _ _ _ _ hK.tail]; rfl
    · rcases hK (k, x) (List.mem_cons_self ..) with hk | hk | hk
      · simp only at hk; subst hk
        rw [hunksG, if_pos rfl, List.length_cons, ih.1 _ hK.tail]; show _ = 1 + (0 + runsG false l); omega
      · simp only at hk; subst hk
        rw [hunksG, if_neg (by decide), if_pos rfl, ih.2 _ _ _ _ hK.tail]; show _ = 1 + (0 + runsG true l); omega
      · simp only at hk; subst hk
        rw [hunksG, if_neg (by decide), if_neg (by decide), if_pos rfl, ih.2 _ _ _ _ hK.tail]; show _ = 1 + (0 + runsG true l); omega

/-- how many lines they delete and insert -/
def lenS : List (Hk α) → Nat
  | [] => 0
  | h :: t => h.2.1.length + h.2.2.length + lenS t
theorem hunks_len (l : List (Int × α)) : (∀ at' : Nat, Kinds l → lenS (hunksG none at' l) = distS l) ∧ (∀ (s at' : Nat) (o n : List α), Kinds l → lenS (hunksG (some (s, o, n)) at' l) = o.length + n.length + distS l) := by
  induction l with
  | nil => exact ⟨fun _ _ => rfl, fun _ _ _ _ _ => rfl⟩
  | cons e l ih =>
    obtain ⟨k, x⟩ := e
    refine ⟨fun at' hK => ?_, fun s at' o n hK => ?_⟩
    · rw [distS_cons]
      rcases hK (k, x) (List.mem_cons_self ..) with hk | hk | hk
      · simp only at hk; subst hk
        rw [hunksG, if_pos rfl, if_pos rfl, ih.1 _ hK.tail]
      · simp only at hk; subst hk
        rw [hunksG, if_neg (by decide), if_pos rfl, if_neg (by simp), ih.2 _ _ _ _ hK.tail]; simp; omega
      · simp only at hk; subst hk
        rw [hunksG, if_neg (by decide), if_neg (by decide), if_pos rfl, if_neg (by simp), ih.2 _ _ _ _ hK.tail]; simp; omega
    · rw [distS_cons]
      rcases hK (k, x) (List.mem_cons_self ..) with hk | hk | hk
      · simp only at hk; subst hk
        rw [hunksG, if_pos rfl, if_pos rfl, lenS, ih.1 _ hK.tail]
      · simp only at hk; subst hk
        rw [hunksG, if_neg (by decide), if_pos rfl, if_neg (by simp), ih.2 _ _ _ _ hK.tail]; simp; omega
      · simp only at hk; subst hk
        rw [hunksG, if_neg (by decide), if_neg (by decide), if_pos rfl, if_neg (by simp), ih.2 _ _ _ _ hK.tail]; simp; omega

/-- a line is kept between two of them -/
def apart (lo : Int) : List (Hk α) → Prop
  | [] => True
  | h :: t => lo < h.1 ∧ apart (h.1 + h.2.1.length) t
theorem hunks_apart (l : List (Int × α)) : (∀ (at' : Nat) (lo : Int), Kinds l → lo < (at' : Int) → apart lo (hunksG none at' l)) ∧ (∀ (s at' : Nat) (o n : List α) (lo : Int), Kinds l → lo < (s : Int) → s + o.length = at' → apart lo (hunksG (some (s, o, n)) at' l)) := by
  induction l with
  | nil => exact ⟨fun _ _ _ _ => trivial, fun _ _ _ _ _ _ h _ => ⟨h, trivial⟩⟩
  | cons e l ih =>
    obtain ⟨k, x⟩ := e
    refine ⟨fun at' lo hK h => ?_, fun s at' o n lo hK h h2 => ?_⟩
    · rcases hK (k, x) (List.mem_cons_self ..) with hk | hk | hk
      · simp only at hk; subst hk
        rw [hunksG, if_pos rfl]; exact ih.1 _ _ hK.tail (by omega)
      · simp only at hk; subst hk
        rw [hunksG, if_neg (by decide), if_pos rfl]; exact ih.2 _ _ _ _ _ hK.tail h rfl
      · simp only at hk; subst hk
        rw [hunksG, if_neg (by decide), if_neg (by decide), if_pos rfl]; exact ih.2 _ _ _ _ _ hK.tail h rfl
    · rcases hK (k, x) (List.mem_cons_self ..) with hk | hk | hk
      · simp only at hk; subst hk
        rw [hunksG, if_pos rfl]; exact ⟨h, ih.1 _ _ hK.tail (by show (s : Int) + (o.length : Int) < _; omega)⟩
      · simp only at hk; subst hk
        rw [hunksG, if_neg (by decide), if_pos rfl]; exact ih.2 _ _ _ _ _ hK.tail h (by rw [List.length_append]; simp; omega)
      · simp only at hk; subst hk
        rw [hunksG, if_neg (by decide), if_neg (by decide), if_pos rfl]; exact ih.2 _ _ _ _ _ hK.tail h h2
theorem apart_at {lo : Int} {hs : List (Hk α)} (h : apart lo hs) : ∀ (i : Nat) (p q : Hk α), hs[i]? = some p → hs[i + 1]? = some q → p.1 + (p.2.1.length : Int) < q.1 := by
  induction hs generalizing lo with
  | nil => intro i p q hp; simp at hp
  | cons x t ih =>
    intro i p q hp hq
    cases i with
    | zero =>
      simp at hp
      subst hp
      cases t with
      | nil => simp at hq
      | cons y t => simp at hq; subst hq; exact h.2.1
    | succ i => exact ih h.2 i p q (by simpa using hp) (by simpa using hq)
theorem lenS_snoc {hs : List (Hk α)} {i : Nat} {p : Hk α} (h : hs[i]? = some p) : lenS (hs.take (i + 1)) = lenS (hs.take i) + p.2.1.length + p.2.2.length := by
  induction hs generalizing i with
  | nil => simp at h
  | cons x t ih =>
    cases i with
    | zero => simp at h; subst h; simp [lenS]
    | succ i =>
      have := ih (by simpa using h : t[i]? = some p)
      simp only [List.take_succ_cons, lenS, this]
      omega
theorem lenS_take_le (hs : List (Hk α)) (i : Nat) : lenS (hs.take i) ≤ lenS hs := by
  induction hs generalizing i with
  | nil => simp [lenS]
  | cons x t ih =>
    cases i with
    | zero => simp [lenS]
    | succ i => have := ih i; simp only [List.take_succ_cons, lenS]; omega
/-- is a run under way ahead of the i-th edit? -/
def inRun (l : List (Int × α)) (i : Nat) : Bool := if i = 0 then false else match l[i - 1]? with
  | some e => e.1 != 1
  | none => false
theorem runs_step {l : List (Int × α)} {i : Nat} {e : Int × α} (h : l[i]? = some e) (r : Bool) : runsG r (l.drop i) = (if e.1 = 1 then 0 else if r then 0 else 1) + runsG (inRun l (i + 1)) (l.drop (i + 1)) := by
  obtain ⟨q, hq⟩ := List.getElem?_eq_some_iff.1 h
  rw [List.drop_eq_getElem_cons q, hq, runsG]
  have : inRun l (i + 1) = (e.1 != 1) := by
    unfold inRun
    rw [if_neg (Nat.succ_ne_zero i), Nat.add_sub_cancel, h]
  rw [this]
theorem inRun_at {l : List (Int × α)} {i : Nat} {e : Int × α} (h : l[i]? = some e) : inRun l (i + 1) = (e.1 != 1) := by
  unfold inRun
  rw [if_neg (Nat.succ_ne_zero i), Nat.add_sub_cancel, h]
theorem runs_le (l : List (Int × α)) (r : Bool) : runsG r l ≤ l.length := by
  induction l generalizing r with
  | nil => exact Nat.le_refl _
  | cons e l ih =>
    have := ih (e.1 != 1)
    rw [runsG, List.length_cons]
    split
    · omega
    · split <;> omega
end

section
variable {α : Type} [DecidableEq α]
theorem apply_early (a : List α) (t : List (Hk α)) (lo : Int) (q p : Nat) (r : List α) (hr : rightFrom lo t = true) (hpq : p ≤ q) (hq : (q : Int) ≤ lo) (hz : applyFrom a q t = some r) : applyFrom a p t = some ((a.take q).drop p ++ r) := by
  cases t with
  | nil =>
    rw [applyFrom] at hz ⊢
    cases hz
    rw [← drop_split a p q hpq]
  | cons h t =>
    rw [rightFrom, Bool.and_eq_true, Bool.and_eq_true, decide_eq_true_iff] at hr
    rw [applyFrom] at hz ⊢
    split at hz
    · obtain ⟨r', e, rfl⟩ := Option.map_eq_some_iff.1 hz
      have := drop_split (a.take h.1.toNat) p q hpq
      rw [List.take_take, Nat.min_eq_left (by omega)] at this
      rw [if_pos ‹_›, e, Option.map_some, this, List.append_assoc]
    · cases hz

theorem one_back {a : List α} {lo : Int} {h : Hk α} {t : List (Hk α)} {z : List α} (hr : rightFrom lo (h :: t) = true) (hz : applyFrom a 0 (h :: t) = some z) : ∃ y, applyFrom a 0 t = some y ∧ applyS y [h] = (z, 0) := by
  rw [rightFrom, Bool.and_eq_true, Bool.and_eq_true] at hr
  obtain ⟨⟨hk, _⟩, h4⟩ := hr
  obtain ⟨h0, h1, h2⟩ := okOne_iff.1 hk
  obtain ⟨at', old, new⟩ := h
  simp only at h0 h1 h2 h4
  obtain ⟨H, rfl⟩ := Int.eq_ofNat_of_zero_le h0
  rw [applyFrom] at hz
  split at hz
  case isFalse => cases hz
  rename_i hst
  obtain ⟨r, hr', rfl⟩ := Option.map_eq_some_iff.1 hz
  simp only [Int.toNat_natCast] at hr' ⊢
  have hst' := hst
  unfold stands at hst'
  rw [Bool.and_eq_true, decide_eq_true_iff, decide_eq_true_iff] at hst'
  simp only [Int.toNat_natCast] at hst'
  obtain ⟨s1, s2⟩ := hst'
  have hE := apply_early a t _ (H + old.length) 0 r h4 (Nat.zero_le _) (by omega) hr'
  rw [List.drop_zero] at hE
  have lE : (a.take (H + old.length)).length = H + old.length := by rw [List.length_take]; omega
  refine ⟨_, hE, ?_⟩
  have hst2 : stands (a.take (H + old.length) ++ r) ((H : Int), old, new) = true := by
    unfold stands
    rw [Bool.and_eq_true, decide_eq_true_iff, decide_eq_true_iff]
    simp only [Int.toNat_natCast]
    refine ⟨by rw [List.length_append, lE]; omega, ?_⟩
    rw [List.drop_append_of_le_length (by omega), List.drop_take, show H + old.length - H = old.length by omega, s2]
    exact List.take_left' rfl
  unfold applyS rightS
  rw [show rightFrom 0 [((H : Int), old, new)] = true by rw [rightFrom, rightFrom, hk]; simp, if_pos rfl, applyFrom, hst2, if_pos rfl, applyFrom]
  simp only [Int.toNat_natCast, Option.map_some, List.drop_zero]
  rw [List.take_append_of_le_length (by omega), List.take_take, Nat.min_eq_left (by omega), List.drop_left' lE]

theorem many_at {a : List α} {hs : List (Hk α)} {b : List α} (hr : rightS hs = true) (hb : applyFrom a 0 hs = some b) : ∀ i, i ≤ hs.length → (∃ lo, rightFrom lo (hs.drop i) = true) ∧ ∃ z, applyFrom a 0 (hs.drop i) = some z := by
  intro i
  induction i with
  | zero => exact fun _ => ⟨⟨0, hr⟩, b, hb⟩
  | succ i ih =>
    intro hi
    obtain ⟨⟨lo, h1⟩, z, h2⟩ := ih (by omega)
    rw [List.drop_eq_getElem_cons (by omega)] at h1 h2
    obtain ⟨y, h3, _⟩ := one_back h1 h2
    rw [rightFrom, Bool.and_eq_true] at h1
    exact ⟨⟨_, h1.2⟩, y, h3⟩
theorem many_step {a : List α} {hs : List (Hk α)} {b : List α} (hr : rightS hs = true) (hb : applyFrom a 0 hs = some b) (i : Nat) (hi : i < hs.length) (y : List α) (hy : applyFrom a 0 (hs.drop (i + 1)) = some y) :
    ∃ p z, hs[i]? = some p ∧ applyFrom a 0 (hs.drop i) = some z ∧ applyS y [p] = (z, 0) := by
  obtain ⟨⟨lo, h1⟩, z, h2⟩ := many_at hr hb i (by omega)
  refine ⟨hs[i], z, List.getElem?_eq_getElem hi, h2, ?_⟩
  rw [List.drop_eq_getElem_cons hi] at h1 h2
  obtain ⟨y', h3, h4⟩ := one_back h1 h2
  rw [hy] at h3
  cases h3
  exact h4
theorem apply_len {a : List α} (B : Nat) (t : List (Hk α)) : ∀ (p : Nat) (r : List α), applyFrom a p t = some r → (∀ h ∈ t, h.2.2.length ≤ B) → r.length ≤ (t.length + 1) * (a.length + B) := by
  induction t with
  | nil =>
    intro p r h _
    rw [applyFrom] at h
    cases h
    rw [List.length_drop]
    simp
    omega
  | cons h t ih =>
    intro p r hz hB
    rw [applyFrom] at hz
    split at hz
    · obtain ⟨r', e, rfl⟩ := Option.map_eq_some_iff.1 hz
      have h1 := ih _ _ e fun q hq => hB q (List.mem_cons_of_mem _ hq)
      have h2 := hB h (List.mem_cons_self ..)
      rw [List.length_append, List.length_append, List.length_drop, List.length_take, List.length_cons, show (t.length + 1 + 1) * (a.length + B) = (t.length + 1) * (a.length + B) + (a.length + B) by rw [Nat.add_mul (t.length + 1)]; omega]
      have : min h.1.toNat a.length ≤ a.length := Nat.min_le_right ..
      omega
    · cases hz
theorem apply_few {a : List α} {t : List (Hk α)} {p : Nat} {r : List α} (h : applyFrom a p t = some r) (hB : ∀ h ∈ t, h.2.2.length ≤ 200) (ha : a.length ≤ 200) (ht : t.length ≤ 200) : r.length ≤ 100000 := by
  have h1 := apply_len 200 t p r h hB
  have h2 : (t.length + 1) * (a.length + 200) ≤ 201 * 400 := Nat.mul_le_mul (by omega) (by omega)
  omega
end
end Go.Proofs.Ytbcmecclaofmgaa

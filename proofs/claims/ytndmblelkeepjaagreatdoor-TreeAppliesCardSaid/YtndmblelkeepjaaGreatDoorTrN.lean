/-
  Trees, as mathematics, in the words of the landed code: where a path stands, folders, places.
-/
import Derived.Test.YtndmblelkeepjaaGreatDoorTrM
namespace Go.Proofs.YtndmblelkeepjaaGreatDoor

theorem found_at {l : List FileS} {p : Txt} (hr : Rise l) (hs : (findS l p).isSome = true) : ∃ g, l[aheadS l p]? = some g ∧ g.1 = p := by
  obtain ⟨g, hg⟩ := Option.isSome_iff_exists.1 hs
  obtain ⟨h1, h2⟩ := find_some hg
  obtain ⟨q, hq⟩ := List.mem_iff_getElem?.1 h1
  have hql := (List.getElem?_eq_some_iff.1 hq).1
  have hat : ∀ {h : Nat} {f : FileS}, l[h]? = some f → ltS f.1 p = decide (h < aheadS l p) := by
    intro h f he
    by_cases hlt : h < aheadS l p
    · rw [decide_eq_true hlt]
      exact ahead_take l p f (List.mem_iff_getElem?.2 ⟨h, by rw [List.getElem?_take_of_lt hlt]; exact he⟩)
    · rw [decide_eq_false hlt]
      exact ahead_drop l p hr f (List.mem_iff_getElem?.2 ⟨h - aheadS l p, by rw [List.getElem?_drop, show aheadS l p + (h - aheadS l p) = h by omega]; exact he⟩)
  have a1 := hat hq
  rw [h2, lt_irr] at a1
  have a2 := of_decide_eq_false a1.symm
  have e : aheadS l p = q := by
    by_cases e : aheadS l p = q
    · exact e
    · have hlt : aheadS l p < q := by omega
      have hl : aheadS l p < l.length := by omega
      have a3 := hat (List.getElem?_eq_getElem hl)
      have a4 := List.pairwise_iff_getElem.1 hr (aheadS l p) q hl hql hlt
      rw [(List.getElem?_eq_some_iff.1 hq).2, h2] at a4
      rw [a4, decide_eq_false (Nat.lt_irrefl _)] at a3
      cases a3
  rw [e]
  exact ⟨g, hq, h2⟩
theorem ahead_append (a b : List FileS) (p : Txt) (ha : ∀ g ∈ a, ltS g.1 p = true) (hb : ∀ g, b.head? = some g → ltS g.1 p = false) : aheadS (a ++ b) p = a.length := by
  induction a with
  | nil =>
    cases b with
    | nil => rfl
    | cons g b => rw [List.nil_append, aheadS, if_neg (by rw [hb g rfl]; simp)]; rfl
  | cons x a ih =>
    rw [List.cons_append, aheadS, if_pos (ha x (List.mem_cons_self ..)), ih fun g hg => ha g (List.mem_cons_of_mem _ hg)]
    rfl
theorem split_at {l : List FileS} {k : Nat} {g : FileS} (h : l[k]? = some g) : l = l.take k ++ g :: l.drop (k + 1) := by
  rw [← drop_one h, List.take_append_drop]
theorem without_cut {l : List FileS} {p : Txt} (hr : Rise l) (hs : (findS l p).isSome = true) : aheadS l p < l.length ∧ withoutS l p = l.take (aheadS l p) ++ l.drop (aheadS l p + 1) := by
  obtain ⟨g, hg, e⟩ := found_at hr hs
  refine ⟨(List.getElem?_eq_some_iff.1 hg).1, ?_⟩
  have h0 := split_at hg
  have h1 := ahead_take l p
  have hr2 := hr
  rw [Rise, h0] at hr2
  have h2 := (List.pairwise_append.1 hr2).2.1
  rw [List.pairwise_cons] at h2
  have h3 : withoutS (l.take (aheadS l p)) p = l.take (aheadS l p) := without_none fun f hf => lt_ne (h1 f hf)
  have h4 : withoutS (l.drop (aheadS l p + 1)) p = l.drop (aheadS l p + 1) := without_none fun f hf e' => lt_ne (h2.1 f hf) (by rw [e, e'])
  have h5 : withoutS l p = withoutS (l.take (aheadS l p) ++ g :: l.drop (aheadS l p + 1)) p := congrArg (withoutS · p) h0
  rw [h5]
  unfold withoutS at h3 h4 ⊢
  rw [List.filter_append, List.filter_cons_of_neg (by simp [e]), h3, h4]
theorem sorted_cut {l : List FileS} {f : FileS} (hr : Rise l) (hs : (findS l f.1).isSome = true) : sortedS (withoutS l f.1) f = l.take (aheadS l f.1) ++ [f] ++ l.drop (aheadS l f.1 + 1) := by
  obtain ⟨h1, h2⟩ := without_cut hr hs
  have hr3 : Rise (withoutS l f.1) := List.Pairwise.filter _ hr
  have h3 : aheadS (withoutS l f.1) f.1 = (l.take (aheadS l f.1)).length := by
    rw [h2]
    refine ahead_append _ _ _ (ahead_take l f.1) fun g hg => ?_
    obtain ⟨x, hx, e⟩ := found_at hr hs
    have h0 := split_at hx
    have hr2 := hr
    rw [Rise, h0] at hr2
    have h2 := (List.pairwise_append.1 hr2).2.1
    rw [List.pairwise_cons] at h2
    have := h2.1 g (List.mem_of_head? hg)
    rw [e] at this
    exact lt_asym this
  unfold sortedS
  rw [h3, h2, List.take_append_of_le_length (Nat.le_refl _), List.take_length, List.drop_append_of_le_length (Nat.le_refl _), List.drop_length, List.nil_append]
/-- may a file of that path not stand beside these? -/
theorem any_clash {l : List FileS} {p : Txt} (hn : findS l p = none) : (l.any fun f => clashS f.1 p) = clashesS l p := by
  rw [find_none] at hn
  unfold clashesS
  induction l with
  | nil => rfl
  | cons x r ih =>
    rw [List.any_cons, List.any_cons, ih fun f hf => hn f (List.mem_cons_of_mem _ hf)]
    have : (x.1 != p) = true := by simpa using hn x (List.mem_cons_self ..)
    rw [this, Bool.true_and]

/-! ### Folders -/
def foldK (p : Txt) : Nat → List Txt
  | 0 => []
  | k + 1 => if p[k]? = some 47 then foldK p k ++ [p.take k] else foldK p k
theorem foldK_len (p : Txt) (k : Nat) : (foldK p k).length ≤ k := by
  induction k with
  | zero => simp [foldK]
  | succ k ih =>
    rw [foldK]
    split
    · simp; exact ih
    · omega
theorem foldK_mem (p : Txt) (k : Nat) (d : Txt) : d ∈ foldK p k ↔ ∃ i, i < k ∧ p[i]? = some 47 ∧ d = p.take i := by
  induction k with
  | zero => simp [foldK]
  | succ k ih =>
    rw [foldK]
    constructor
    · intro h
      split at h
      · rename_i hk
        rw [List.mem_append, ih, List.mem_singleton] at h
        rcases h with ⟨i, h1, h2, h3⟩ | h
        · exact ⟨i, by omega, h2, h3⟩
        · exact ⟨k, by omega, hk, h⟩
      · obtain ⟨i, h1, h2, h3⟩ := ih.1 h
        exact ⟨i, by omega, h2, h3⟩
    · rintro ⟨i, h1, h2, h3⟩
      by_cases e : i = k
      · subst e
        rw [if_pos h2, List.mem_append, List.mem_singleton]
        exact .inr h3
      · have := ih.2 ⟨i, by omega, h2, h3⟩
        split
        · rw [List.mem_append]; exact .inl this
        · exact this
def foldersS (p : Txt) : List Txt := foldK p p.length
theorem folders_mem (p d : Txt) : d ∈ foldersS p ↔ withinS p d = true := by
  unfold foldersS
  rw [foldK_mem, withinS_iff]
  constructor
  · rintro ⟨i, h1, h2, rfl⟩
    refine ⟨p.drop (i + 1), ?_⟩
    obtain ⟨q, e⟩ := List.getElem?_eq_some_iff.1 h2
    rw [show (47 : UInt8) :: p.drop (i + 1) = p.drop i by rw [List.drop_eq_getElem_cons q, e], List.take_append_drop]
  · rintro ⟨r, rfl⟩
    exact ⟨d.length, by simp, by simp, by simp⟩
def nestedS (l : List FileS) : Bool := l.any fun f => (foldersS f.1).any fun d => inS (l.map (·.1)) d
theorem nested_iff (l : List FileS) : nestedS l = true ↔ ∃ f ∈ l, ∃ g ∈ l, withinS f.1 g.1 = true := by
  unfold nestedS inS
  simp only [List.any_eq_true, List.mem_map, beq_iff_eq]
  constructor
  · rintro ⟨f, hf, d, hd, q, ⟨g, hg, rfl⟩, rfl⟩
    exact ⟨f, hf, g, hg, (folders_mem _ _).1 hd⟩
  · rintro ⟨f, hf, g, hg, h⟩
    exact ⟨f, hf, g.1, (folders_mem _ _).2 h, g.1, ⟨g, hg, rfl⟩, rfl⟩
theorem within_lt {p d : Txt} (h : withinS p d = true) : ltS d p = true := by
  obtain ⟨r, rfl⟩ := (withinS_iff p d).1 h
  exact lt_app d 47 r
/-- is each file right, by itself, and behind the one ahead of it? -/
def okD (pre : List FileS) (f : FileS) : Bool := okOne f && (match pre.getLast? with | some g => !(ltS f.1 g.1 || f.1 == g.1) | none => true)
def okAllD : List FileS → List FileS → Bool
  | _, [] => true
  | pre, f :: r => okD pre f && okAllD (pre ++ [f]) r
def rightD (l : List FileS) : Bool := decide (l.length ≤ 100) && (okAllD [] l && !nestedS l)
theorem okAllD_iff : ∀ (l pre : List FileS), Rise pre → (okAllD pre l = true ↔ (∀ f ∈ l, okOne f = true) ∧ Rise (pre ++ l))
  | [], pre, hp => by simp [okAllD, hp]
  | f :: r, pre, hp => by
    rw [okAllD, Bool.and_eq_true]
    have hf : okD pre f = true ↔ okOne f = true ∧ ∀ g ∈ pre, ltS g.1 f.1 = true := by
      unfold okD
      rw [Bool.and_eq_true]
      exact ⟨fun ⟨a, b⟩ => ⟨a, (last_lt hp f).1 b⟩, fun ⟨a, b⟩ => ⟨a, (last_lt hp f).2 b⟩⟩
    rw [hf]
    constructor
    · rintro ⟨⟨h1, h2⟩, h4⟩
      obtain ⟨k1, k2⟩ := (okAllD_iff r (pre ++ [f]) (rise_snoc hp h2)).1 h4
      refine ⟨fun x hx => ?_, by simpa using k2⟩
      rcases List.mem_cons.1 hx with rfl | hx
      · exact h1
      · exact k1 x hx
    · rintro ⟨h1, h2⟩
      have hr := List.pairwise_append.1 h2
      have hl : ∀ g ∈ pre, ltS g.1 f.1 = true := fun g hg => hr.2.2 g hg f (List.mem_cons_self ..)
      exact ⟨⟨h1 f (List.mem_cons_self ..), hl⟩, (okAllD_iff r (pre ++ [f]) (rise_snoc hp hl)).2 ⟨fun x hx => h1 x (List.mem_cons_of_mem _ hx), by simpa using h2⟩⟩
theorem apart_nested {l : List FileS} (hr : Rise l) : Apart l ↔ nestedS l = false := by
  constructor
  · intro h
    cases e : nestedS l with
    | false => rfl
    | true =>
      obtain ⟨f, hf, g, hg, hw⟩ := (nested_iff l).1 e
      have hne : f ≠ g := fun e' => by rw [e', within_self] at hw; cases hw
      have := h.two hf hg hne
      unfold clashS at this
      rw [hw] at this
      simp at this
  · intro h
    refine apart_of hr fun f hf g hg e => ?_
    have hn : ∀ x ∈ l, ∀ y ∈ l, withinS x.1 y.1 = false := fun x hx y hy => by
      cases e : withinS x.1 y.1 with
      | false => rfl
      | true => rw [(nested_iff l).2 ⟨x, hx, y, hy, e⟩] at h; cases h
    have hp : (f.1 == g.1) = false := beq_false_of_ne fun e' => e (hr.one hf hg e')
    unfold clashS
    rw [hp, hn f hf g hg, hn g hg f hf]
    rfl
theorem rightD_eq (l : List FileS) : rightD l = rightT l := by
  have h : rightD l = true ↔ rightT l = true := by
    rw [rightT_iff]
    unfold rightD
    rw [Bool.and_eq_true, Bool.and_eq_true, decide_eq_true_eq, okAllD_iff l [] List.Pairwise.nil, Bool.not_eq_true']
    constructor
    · rintro ⟨h1, ⟨h2, h3⟩, h4⟩
      have h3 : Rise l := by simpa using h3
      exact ⟨h1, h2, h3, (apart_nested h3).2 h4⟩
    · intro h
      exact ⟨h.len, ⟨h.ok, by simpa using h.rise⟩, (apart_nested h.rise).1 h.apart⟩
  cases e : rightD l with
  | true => exact (h.1 e).symm
  | false =>
    cases e' : rightT l with
    | false => rfl
    | true => rw [h.2 e'] at e; cases e
end Go.Proofs.YtndmblelkeepjaaGreatDoor

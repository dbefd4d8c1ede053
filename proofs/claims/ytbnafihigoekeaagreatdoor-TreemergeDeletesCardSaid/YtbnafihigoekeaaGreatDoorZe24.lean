/-
  TmDe, part 24.
-/
import Derived.Test.YtbnafihigoekeaaGreatDoorZe23
namespace Go.Proofs.YtbnafihigoekeaaGreatDoor
def foldK (p : Txt) : Nat → List Txt
  | 0 => []
  | k + 1 => if p[k]? = some 47 then foldK p k ++ [p.take k] else foldK p k
theorem foldK_len (p : Txt) (k : Nat) : (foldK p k).length ≤ k := by
  induction k with
  | zero => simp [foldK]
  | succ k ih =>
    rw [foldK]
    split
    · simp; exact ih
    · omega
theorem foldK_mem (p : Txt) (k : Nat) (d : Txt) : d ∈ foldK p k ↔ ∃ i, i < k ∧ p[i]? = some 47 ∧ d = p.take i := by
  induction k with
  | zero => simp [foldK]
  | succ k ih =>
    rw [foldK]
    constructor
    · intro h
      split at h
      · rename_i hk
        rw [List.mem_append, ih, List.mem_singleton] at h
        rcases h with ⟨i, h1, h2, h3⟩ | h
        · exact ⟨i, by omega, h2, h3⟩
        · exact ⟨k, by omega, hk, h⟩
      · obtain ⟨i, h1, h2, h3⟩ := ih.1 h
        exact ⟨i, by omega, h2, h3⟩
    · rintro ⟨i, h1, h2, h3⟩
      by_cases e : i = k
      · subst e
        rw [if_pos h2, List.mem_append, List.mem_singleton]
        exact .inr h3
      · have := ih.2 ⟨i, by omega, h2, h3⟩
        split
        · rw [List.mem_append]; exact .inl this
        · exact this
def foldersS (p : Txt) : List Txt := foldK p p.length
theorem folders_mem (p d : Txt) : d ∈ foldersS p ↔ withinS p d = true := by
  unfold foldersS
  rw [foldK_mem, withinS_iff]
  constructor
  · rintro ⟨i, h1, h2, rfl⟩
    refine ⟨p.drop (i + 1), ?_⟩
    obtain ⟨q, e⟩ := List.getElem?_eq_some_iff.1 h2
    rw [show (47 : UInt8) :: p.drop (i + 1) = p.drop i by rw [List.drop_eq_getElem_cons q, e], List.take_append_drop]
  · rintro ⟨r, rfl⟩
    exact ⟨d.length, by simp, by simp, by simp⟩
def nestedS (l : List FileS) : Bool := l.any fun f => (foldersS f.1).any fun d => inS (l.map (·.1)) d
theorem nested_iff (l : List FileS) : nestedS l = true ↔ ∃ f ∈ l, ∃ g ∈ l, withinS f.1 g.1 = true := by
  unfold nestedS inS
  simp only [List.any_eq_true, List.mem_map, beq_iff_eq]
  constructor
  · rintro ⟨f, hf, d, hd, q, ⟨g, hg, rfl⟩, rfl⟩
    exact ⟨f, hf, g, hg, (folders_mem _ _).1 hd⟩
  · rintro ⟨f, hf, g, hg, h⟩
    exact ⟨f, hf, g.1, (folders_mem _ _).2 h, g.1, ⟨g, hg, rfl⟩, rfl⟩
def okD (pre : List FileS) (f : FileS) : Bool := okOne f && (match pre.getLast? with | some g => !(ltS f.1 g.1 || f.1 == g.1) | none => true)
def okAllD : List FileS → List FileS → Bool
  | _, [] => true
  | pre, f :: r => okD pre f && okAllD (pre ++ [f]) r
def rightD (l : List FileS) : Bool := decide (l.length ≤ 100) && (okAllD [] l && !nestedS l)
theorem okAllD_iff : ∀ (l pre : List FileS), Rise pre → (okAllD pre l = true ↔ (∀ f ∈ l, okOne f = true) ∧ Rise (pre ++ l))
  | [], pre, hp => by simp [okAllD, hp]
  | f :: r, pre, hp => by
    rw [okAllD, Bool.and_eq_true]
    have hf : okD pre f = true ↔ okOne f = true ∧ ∀ g ∈ pre, ltS g.1 f.1 = true := by
      unfold okD
      rw [Bool.and_eq_true]
      exact ⟨fun ⟨a, b⟩ => ⟨a, (last_lt hp f).1 b⟩, fun ⟨a, b⟩ => ⟨a, (last_lt hp f).2 b⟩⟩
    rw [hf]
    constructor
    · rintro ⟨⟨h1, h2⟩, h4⟩
      obtain ⟨k1, k2⟩ := (okAllD_iff r (pre ++ [f]) (rise_snoc hp h2)).1 h4
      refine ⟨fun x hx => ?_, by simpa using k2⟩
      rcases List.mem_cons.1 hx with rfl | hx
      · exact h1
      · exact k1 x hx
    · rintro ⟨h1, h2⟩
      have hr := List.pairwise_append.1 h2
      have hl : ∀ g ∈ pre, ltS g.1 f.1 = true := fun g hg => hr.2.2 g hg f (List.mem_cons_self ..)
      exact ⟨⟨h1 f (List.mem_cons_self ..), hl⟩, (okAllD_iff r (pre ++ [f]) (rise_snoc hp hl)).2 ⟨fun x hx => h1 x (List.mem_cons_of_mem _ hx), by simpa using h2⟩⟩
theorem apart_nested {l : List FileS} (hr : Rise l) : Apart l ↔ nestedS l = false := by
  constructor
  · intro h
    cases e : nestedS l with
    | false => rfl
    | true =>
      obtain ⟨f, hf, g, hg, hw⟩ := (nested_iff l).1 e
      have hne : f ≠ g := fun e' => by rw [e', within_self] at hw; cases hw
      have := h.two hf hg hne
      unfold clashS at this
      rw [hw] at this
      simp at this
  · intro h
    refine apart_of hr fun f hf g hg e => ?_
    have hn : ∀ x ∈ l, ∀ y ∈ l, withinS x.1 y.1 = false := fun x hx y hy => by
      cases e : withinS x.1 y.1 with
      | false => rfl
      | true => rw [(nested_iff l).2 ⟨x, hx, y, hy, e⟩] at h; cases h
    have hp : (f.1 == g.1) = false := beq_false_of_ne fun e' => e (hr.one hf hg e')
    unfold clashS
    rw [hp, hn f hf g hg, hn g hg f hf]
    rfl
theorem rightD_eq (l : List FileS) : rightD l = rightT l := by
  have h : rightD l = true ↔ rightT l = true := by
    rw [rightT_iff]
    unfold rightD
    rw [Bool.and_eq_true, Bool.and_eq_true, decide_eq_true_eq, okAllD_iff l [] List.Pairwise.nil, Bool.not_eq_true']
    constructor
    · rintro ⟨h1, ⟨h2, h3⟩, h4⟩
      have h3 : Rise l := by simpa using h3
      exact ⟨h1, h2, h3, (apart_nested h3).2 h4⟩
    · intro h
      exact ⟨h.len, ⟨h.ok, by simpa using h.rise⟩, (apart_nested h.rise).1 h.apart⟩
  cases e : rightD l with
  | true => exact (h.1 e).symm
  | false =>
    cases e' : rightT l with
    | false => rfl
    | true => rw [h.2 e'] at e; cases e
end Go.Proofs.YtbnafihigoekeaaGreatDoor

/-
  Trees, as mathematics: what a tree is, what is found, put, dropped, applied and told as changes; nothing of memory.
-/
import Derived.Test.YtnpgfbgnbonhfaaRtrF
namespace Go.Proofs.Ytnpgfbgnbonhfaa

/-! ### Texts, byte by byte -/
theorem lt_irr : ∀ x : List UInt8, ltS x x = false
  | [] => rfl
  | a :: x => by
    have : ¬ a < a := by rw [UInt8.lt_iff_toNat_lt]; omega
    simp only [ltS, Op.bytesLess] at *
    rw [show Op.bytesLess x x = false from lt_irr x]
    simp [this]
theorem lt_cons (a b : UInt8) (x y : List UInt8) : ltS (a :: x) (b :: y) = true ↔ a < b ∨ (a = b ∧ ltS x y = true) := by simp [ltS, Op.bytesLess]
theorem lt_trans' : ∀ x y z : List UInt8, ltS x y = true → ltS y z = true → ltS x z = true
  | [], [], z, h, _ => by simp [ltS, Op.bytesLess] at h
  | [], _ :: _, [], _, h => by simp [ltS, Op.bytesLess] at h
  | [], _ :: _, _ :: _, _, _ => rfl
  | _ :: _, [], _, h, _ => by simp [ltS, Op.bytesLess] at h
  | _ :: _, _ :: _, [], _, h => by simp [ltS, Op.bytesLess] at h
  | a :: x, b :: y, c :: z, h, h' => by
    rw [lt_cons] at h h' ⊢
    simp only [UInt8.lt_iff_toNat_lt] at *
    rcases h with h | ⟨rfl, h⟩
    · rcases h' with h' | ⟨rfl, h'⟩
      · exact .inl (by omega)
      · exact .inl h
    · rcases h' with h' | ⟨rfl, h'⟩
      · exact .inl h'
      · exact .inr ⟨rfl, lt_trans' x y z h h'⟩
theorem lt_tri : ∀ x y : List UInt8, ltS x y = false → ltS y x = false → x = y
  | [], [], _, _ => rfl
  | [], _ :: _, h, _ => by simp [ltS, Op.bytesLess] at h
  | _ :: _, [], _, h => by simp [ltS, Op.bytesLess] at h
  | a :: x, b :: y, h, h' => by
    have h1 : ¬ ltS (a :: x) (b :: y) = true := by simp [h]
    have h2 : ¬ ltS (b :: y) (a :: x) = true := by simp [h']
    rw [lt_cons] at h1 h2
    simp only [UInt8.lt_iff_toNat_lt, not_or, not_and] at h1 h2
    have e : a = b := UInt8.toNat_inj.1 (by omega)
    subst e
    have h3 := h1.2 rfl
    have h4 := h2.2 rfl
    rw [lt_tri x y (by simpa using h3) (by simpa using h4)]
theorem lt_asym {x y : List UInt8} (h : ltS x y = true) : ltS y x = false := by
  cases e : ltS y x with
  | false => rfl
  | true => exact absurd (lt_trans' x y x h e) (by rw [lt_irr]; simp)
theorem lt_ne {x y : List UInt8} (h : ltS x y = true) : x ≠ y := fun e => by rw [e, lt_irr] at h; cases h
theorem lt_app (x : List UInt8) (a : UInt8) (y : List UInt8) : ltS x (x ++ a :: y) = true := by
  induction x with
  | nil => rfl
  | cons b x ih =>
    rw [List.cons_append, lt_cons]
    exact .inr ⟨rfl, ih⟩

/-! ### Lists in a strict order -/
section
variable {α : Type} {R : α → α → Prop}
theorem sorted_ext (asym : ∀ x y, R x y → ¬ R y x) : ∀ a b : List α, a.Pairwise R → b.Pairwise R → (∀ x, x ∈ a ↔ x ∈ b) → a = b
  | [], [], _, _, _ => rfl
  | [], y :: b, _, _, h => absurd ((h y).2 (List.mem_cons_self ..)) (by simp)
  | x :: a, [], _, _, h => absurd ((h x).1 (List.mem_cons_self ..)) (by simp)
  | x :: a, y :: b, ha, hb, h => by
    rw [List.pairwise_cons] at ha hb
    have irr : ∀ z, ¬ R z z := fun z hz => asym z z hz hz
    have e : x = y := by
      have h1 := (h x).1 (List.mem_cons_self ..)
      have h2 := (h y).2 (List.mem_cons_self ..)
      rw [List.mem_cons] at h1 h2
      rcases h1 with h1 | h1
      · exact h1
      · rcases h2 with h2 | h2
        · exact h2.symm
        · exact absurd (hb.1 x h1) (asym _ _ (ha.1 y h2))
    subst e
    refine congrArg _ (sorted_ext asym a b ha.2 hb.2 fun z => ?_)
    have hz := h z
    rw [List.mem_cons, List.mem_cons] at hz
    constructor
    · intro hm
      rcases hz.1 (.inr hm) with rfl | h'
      · exact absurd (ha.1 _ hm) (irr _)
      · exact h'
    · intro hm
      rcases hz.2 (.inr hm) with rfl | h'
      · exact absurd (hb.1 _ hm) (irr _)
      · exact h'
end
theorem nodup_len {α : Type} : ∀ a b : List α, a.Nodup → (∀ x ∈ a, x ∈ b) → a.length ≤ b.length
  | [], _, _, _ => Nat.zero_le _
  | x :: a, b, ha, h => by
    rw [List.nodup_cons] at ha
    obtain ⟨b1, b2, rfl⟩ := List.append_of_mem (h x (List.mem_cons_self ..))
    have := nodup_len a (b1 ++ b2) ha.2 fun y hy => by
      have h1 := h y (List.mem_cons_of_mem _ hy)
      rw [List.mem_append, List.mem_cons] at h1
      rw [List.mem_append]
      rcases h1 with h1 | rfl | h1
      · exact .inl h1
      · exact absurd hy ha.1
      · exact .inr h1
    simp only [List.length_cons, List.length_append] at this ⊢
    omega

/-! ### What a tree is -/
def Rise (l : List FileS) : Prop := l.Pairwise fun g f => ltS g.1 f.1 = true
def Apart (l : List FileS) : Prop := l.Pairwise fun g f => clashS g.1 f.1 = false
def okOne (f : FileS) : Bool := rightS f.1 && decide (f.2.2.length ≤ 20000)
structure IsTree (l : List FileS) : Prop where
  len : l.length ≤ 100
  ok : ∀ f ∈ l, okOne f = true
  rise : Rise l
  apart : Apart l
theorem last_lt {pre : List FileS} (hp : Rise pre) (f : FileS) : (match pre.getLast? with | some g => !(ltS f.1 g.1 || f.1 == g.1) | none => true) = true ↔ ∀ g ∈ pre, ltS g.1 f.1 = true := by
  rcases List.eq_nil_or_concat pre with rfl | ⟨q, g, rfl⟩
  · simp
  · rw [List.concat_eq_append] at hp ⊢
    rw [List.getLast?_concat]
    have hq := List.pairwise_append.1 hp
    constructor
    · intro h x hx
      have hg : ltS g.1 f.1 = true := by
        simp only [Bool.not_or, Bool.and_eq_true, Bool.not_eq_true'] at h
        cases e : ltS g.1 f.1 with
        | true => rfl
        | false =>
          have := lt_tri _ _ e h.1
          rw [this] at h
          simp at h
      rw [List.mem_append] at hx
      rcases hx with hx | hx
      · exact lt_trans' _ _ _ (hq.2.2 x hx g (List.mem_singleton.2 rfl)) hg
      · rw [List.mem_singleton.1 hx]; exact hg
    · intro h
      have hg := h g (by simp)
      have h2 : (f.1 == g.1) = false := by
        have := lt_ne hg
        exact beq_false_of_ne fun e => this e.symm
      simp [lt_asym hg, h2]
theorem rise_snoc {pre : List FileS} (hp : Rise pre) {f : FileS} (h : ∀ g ∈ pre, ltS g.1 f.1 = true) : Rise (pre ++ [f]) :=
  List.pairwise_append.2 ⟨hp, List.pairwise_singleton _ _, fun x hx y hy => by rw [List.mem_singleton.1 hy]; exact h x hx⟩
theorem okAll_iff : ∀ (l pre : List FileS), Rise pre → (okAll pre l = true ↔ (∀ f ∈ l, okOne f = true) ∧ Rise (pre ++ l) ∧ (∀ g ∈ pre, ∀ f ∈ l, clashS g.1 f.1 = false) ∧ Apart l)
  | [], pre, hp => by simp [okAll, Apart, hp]
  | f :: r, pre, hp => by
    rw [okAll, Bool.and_eq_true]
    have hf : okFile pre f = true ↔ okOne f = true ∧ (∀ g ∈ pre, ltS g.1 f.1 = true) ∧ ∀ g ∈ pre, clashS g.1 f.1 = false := by
      unfold okFile okOne
      rw [Bool.and_eq_true, Bool.and_eq_true, Bool.and_eq_true, Bool.and_eq_true]
      simp only [List.all_eq_true, Bool.not_eq_true']
      constructor
      · exact fun ⟨a, b, c, d⟩ => ⟨⟨a, b⟩, (last_lt hp f).1 c, d⟩
      · exact fun ⟨⟨a, b⟩, c, d⟩ => ⟨a, b, (last_lt hp f).2 c, d⟩
    rw [hf]
    constructor
    · rintro ⟨⟨h1, h2, h3⟩, h4⟩
      obtain ⟨k1, k2, k3, k4⟩ := (okAll_iff r (pre ++ [f]) (rise_snoc hp h2)).1 h4
      refine ⟨fun x hx => ?_, by simpa using k2, fun g hg x hx => ?_, ?_⟩
      · rcases List.mem_cons.1 hx with rfl | hx
        · exact h1
        · exact k1 x hx
      · rcases List.mem_cons.1 hx with rfl | hx
        · exact h3 g hg
        · exact k3 g (by simp [hg]) x hx
      · exact List.pairwise_cons.2 ⟨fun x hx => k3 f (by simp) x hx, k4⟩
    · rintro ⟨h1, h2, h3, h4⟩
      have hr := List.pairwise_append.1 h2
      have hl : ∀ g ∈ pre, ltS g.1 f.1 = true := fun g hg => hr.2.2 g hg f (List.mem_cons_self ..)
      rw [Apart, List.pairwise_cons] at h4
      refine ⟨⟨h1 f (List.mem_cons_self ..), hl, fun g hg => h3 g hg f (List.mem_cons_self ..)⟩, (okAll_iff r (pre ++ [f]) (rise_snoc hp hl)).2 ⟨fun x hx => h1 x (List.mem_cons_of_mem _ hx), by simpa using h2, fun g hg x hx => ?_, h4.2⟩⟩
      rw [List.mem_append, List.mem_singleton] at hg
      rcases hg with hg | rfl
      · exact h3 g hg x (List.mem_cons_of_mem _ hx)
      · exact h4.1 x hx
theorem rightT_iff (l : List FileS) : rightT l = true ↔ IsTree l := by
  unfold rightT
  rw [Bool.and_eq_true, decide_eq_true_eq, okAll_iff l [] List.Pairwise.nil]
  constructor
  · exact fun ⟨h, k⟩ => ⟨h, k.1, by simpa using k.2.1, k.2.2.2⟩
  · exact fun h => ⟨h.len, h.ok, by simpa using h.rise, by simp, h.apart⟩
theorem IsTree.nil : IsTree [] := ⟨by simp, by simp, List.Pairwise.nil, List.Pairwise.nil⟩
theorem right_false {l : List FileS} (h : ¬ IsTree l) : rightT l = false := by
  cases e : rightT l with
  | false => rfl
  | true => exact absurd ((rightT_iff l).1 e) h
theorem Rise.one {l : List FileS} (h : Rise l) {f g : FileS} (hf : f ∈ l) (hg : g ∈ l) (e : f.1 = g.1) : f = g := by
  induction l with
  | nil => cases hf
  | cons x l ih =>
    rw [Rise, List.pairwise_cons] at h
    rcases List.mem_cons.1 hf with e1 | hf'
    · rcases List.mem_cons.1 hg with e2 | hg'
      · rw [e1, e2]
      · exact absurd e (by rw [e1]; exact lt_ne (h.1 _ hg'))
    · rcases List.mem_cons.1 hg with e2 | hg'
      · exact absurd e.symm (by rw [e2]; exact lt_ne (h.1 _ hf'))
      · exact ih h.2 hf' hg'
theorem Apart.two {l : List FileS} (h : Apart l) {f g : FileS} (hf : f ∈ l) (hg : g ∈ l) (e : f ≠ g) : clashS f.1 g.1 = false := by
  induction l with
  | nil => cases hf
  | cons x l ih =>
    rw [Apart, List.pairwise_cons] at h
    rcases List.mem_cons.1 hf with e1 | hf'
    · rcases List.mem_cons.1 hg with e2 | hg'
      · exact absurd (e1.trans e2.symm) e
      · rw [e1]; exact h.1 _ hg'
    · rcases List.mem_cons.1 hg with e2 | hg'
      · rw [clash_comm, e2]; exact h.1 _ hf'
      · exact ih h.2 hf' hg'

/-! ### What is found -/
theorem find_some {l : List FileS} {p : Txt} {f : FileS} (h : findS l p = some f) : f ∈ l ∧ f.1 = p := by
  refine ⟨List.mem_of_find?_eq_some h, ?_⟩
  have := List.find?_some h
  simpa using this
theorem find_none {l : List FileS} {p : Txt} : findS l p = none ↔ ∀ f ∈ l, f.1 ≠ p := by
  unfold findS
  rw [List.find?_eq_none]
  simp
theorem Rise.find {l : List FileS} (h : Rise l) {f : FileS} (hf : f ∈ l) : findS l f.1 = some f := by
  cases e : findS l f.1 with
  | none => exact absurd rfl (find_none.1 e f hf)
  | some g =>
    obtain ⟨h1, h2⟩ := find_some e
    rw [h.one h1 hf h2]
theorem Rise.find_iff {l : List FileS} (h : Rise l) {p : Txt} {f : FileS} : findS l p = some f ↔ f ∈ l ∧ f.1 = p :=
  ⟨find_some, fun ⟨h1, h2⟩ => by rw [← h2]; exact h.find h1⟩
theorem tree_ext {a b : List FileS} (ha : Rise a) (hb : Rise b) (h : ∀ p, findS a p = findS b p) : a = b := by
  refine sorted_ext (R := fun g f : FileS => ltS g.1 f.1 = true) (fun x y h1 h2 => by rw [lt_asym h1] at h2; cases h2) a b ha hb fun x => ?_
  constructor
  · intro hx
    have := ha.find hx
    rw [h] at this
    exact (find_some this).1
  · intro hx
    have := hb.find hx
    rw [← h] at this
    exact (find_some this).1
theorem Rise.nodup {l : List FileS} (h : Rise l) : (l.map (·.1)).Nodup :=
  List.pairwise_map.2 (h.imp fun hx => lt_ne hx)

/-! ### One more, in its place; without one -/
theorem ahead_take : ∀ (l : List FileS) (p : Txt), ∀ g ∈ l.take (aheadS l p), ltS g.1 p = true
  | [], _, g, hg => by simp [aheadS] at hg
  | f :: r, p, g, hg => by
    rw [aheadS] at hg
    split at hg
    · rename_i h
      rw [List.take_succ_cons, List.mem_cons] at hg
      rcases hg with rfl | hg
      · exact h
      · exact ahead_take r p g hg
    · simp at hg
theorem ahead_drop : ∀ (l : List FileS) (p : Txt), Rise l → ∀ g ∈ l.drop (aheadS l p), ltS g.1 p = false
  | [], _, _, g, hg => by simp at hg
  | f :: r, p, hr, g, hg => by
    rw [Rise, List.pairwise_cons] at hr
    rw [aheadS] at hg
    split at hg
    · exact ahead_drop r p hr.2 g (by simpa using hg)
    · rename_i h
      rw [List.drop_zero, List.mem_cons] at hg
      rcases hg with rfl | hg
      · simpa using h
      · cases e : ltS g.1 p with
        | false => rfl
        | true => exact absurd (lt_trans' _ _ _ (hr.1 g hg) e) h
theorem sorted_mem (l : List FileS) (f x : FileS) : x ∈ sortedS l f ↔ x = f ∨ x ∈ l := by
  unfold sortedS
  rw [List.append_assoc, List.mem_append, List.mem_append, List.mem_singleton]
  conv => rhs; rw [← List.take_append_drop (aheadS l f.1) l, List.mem_append]
  constructor
  · rintro (h | h | h)
    · exact .inr (.inl h)
    · exact .inl h
    · exact .inr (.inr h)
  · rintro (h | h | h)
    · exact .inr (.inl h)
    · exact .inl h
    · exact .inr (.inr h)
theorem sorted_len (l : List FileS) (f : FileS) : (sortedS l f).length = l.length + 1 := by
  unfold sortedS
  have := aheadS_le l f.1
  simp only [List.length_append, List.length_take, List.length_drop, List.length_singleton]
  omega
theorem sorted_rise {l : List FileS} (h : Rise l) {f : FileS} (hf : ∀ g ∈ l, g.1 ≠ f.1) : Rise (sortedS l f) := by
  unfold sortedS
  have h0 : Rise (l.take (aheadS l f.1) ++ l.drop (aheadS l f.1)) := by rw [List.take_append_drop]; exact h
  have h1 := List.pairwise_append.1 h0
  have h2 := ahead_take l f.1
  have h3 : ∀ g ∈ l.drop (aheadS l f.1), ltS f.1 g.1 = true := fun g hg => by
    have e := ahead_drop l f.1 h g hg
    cases e' : ltS f.1 g.1 with
    | true => rfl
    | false => exact absurd (lt_tri _ _ e e') (hf g (List.mem_of_mem_drop hg))
  rw [List.append_assoc]
  refine List.pairwise_append.2 ⟨h1.1, List.pairwise_append.2 ⟨List.pairwise_singleton _ _, h1.2.1, fun x hx y hy => ?_⟩, fun x hx y hy => ?_⟩
  · rw [List.mem_singleton.1 hx]; exact h3 y hy
  · rw [List.mem_append, List.mem_singleton] at hy
    rcases hy with rfl | hy
    · exact h2 x hx
    · exact h1.2.2 x hx y hy
theorem without_mem {l : List FileS} {p : Txt} {x : FileS} : x ∈ withoutS l p ↔ x ∈ l ∧ x.1 ≠ p := by simp [withoutS]
theorem without_none {l : List FileS} {p : Txt} (h : ∀ f ∈ l, f.1 ≠ p) : withoutS l p = l := by
  unfold withoutS
  rw [List.filter_eq_self]
  intro f hf
  simpa using h f hf
theorem without_len (l : List FileS) (p : Txt) : (withoutS l p).length ≤ l.length := List.length_filter_le _ _
theorem without_lt {l : List FileS} {p : Txt} {f : FileS} (hf : f ∈ l) (e : f.1 = p) : (withoutS l p).length + 1 ≤ l.length := by
  obtain ⟨a, b, rfl⟩ := List.append_of_mem hf
  have h1 := List.length_filter_le (fun g : FileS => g.1 != p) a
  have h2 := List.length_filter_le (fun g : FileS => g.1 != p) b
  unfold withoutS
  rw [List.filter_append, List.filter_cons_of_neg (by simp [e])]
  simp only [List.length_append, List.length_cons]
  omega
theorem IsTree.sub {l : List FileS} (h : IsTree l) (p : Txt) : IsTree (withoutS l p) :=
  ⟨Nat.le_trans (without_len l p) h.len, fun f hf => h.ok f (without_mem.1 hf).1, List.Pairwise.filter _ h.rise, List.Pairwise.filter _ h.apart⟩
theorem apart_of {l : List FileS} (hr : Rise l) (h : ∀ f ∈ l, ∀ g ∈ l, f ≠ g → clashS f.1 g.1 = false) : Apart l := by
  induction l with
  | nil => exact List.Pairwise.nil
  | cons x l ih =>
    rw [Rise, List.pairwise_cons] at hr
    refine List.pairwise_cons.2 ⟨fun y hy => h x (by simp) y (by simp [hy]) fun e => ?_, ih hr.2 fun f hf g hg e => h f (by simp [hf]) g (by simp [hg]) e⟩
    have := hr.1 y hy
    rw [e, lt_irr] at this
    cases this
/-- what is put -/
theorem put_ok {l : List FileS} {f : FileS} (h : IsTree l) (hf : okOne f = true) (hc : ∀ g ∈ l, g.1 ≠ f.1 → clashS g.1 f.1 = false) (hn : (findS l f.1).isSome = true ∨ l.length < 100) :
    putS l f = (sortedS (withoutS l f.1) f, 0) ∧ IsTree (sortedS (withoutS l f.1) f) ∧ ∀ p, findS (sortedS (withoutS l f.1) f) p = if p = f.1 then some f else findS l p := by
  have hk := hf
  unfold okOne at hf
  rw [Bool.and_eq_true, decide_eq_true_eq] at hf
  have hcl : clashesS l f.1 = false := by
    unfold clashesS
    rw [List.any_eq_false]
    intro g hg
    by_cases e : g.1 = f.1
    · simp [e]
    · simp [hc g hg e]
  have hw := h.sub f.1
  have hne : ∀ g ∈ withoutS l f.1, g.1 ≠ f.1 := fun g hg => (without_mem.1 hg).2
  have hrise := sorted_rise hw.rise hne
  refine ⟨?_, ⟨?_, ?_, hrise, ?_⟩, fun p => ?_⟩
  · unfold putS
    rw [if_pos ((rightT_iff l).2 h), if_pos hf.1, if_pos hf.2, hcl, Bool.and_false, if_neg (by simp)]
    rw [if_neg]
    intro hx
    rw [Bool.and_eq_true, decide_eq_true_eq, Bool.not_eq_true'] at hx
    rcases hn with hn | hn
    · rw [hn] at hx; cases hx.1
    · omega
  · rw [sorted_len]
    rcases hn with hn | hn
    · obtain ⟨g, hg⟩ := Option.isSome_iff_exists.1 hn
      obtain ⟨h1, h2⟩ := find_some hg
      have := without_lt h1 h2
      have := h.len
      omega
    · have := without_len l f.1
      omega
  · intro x hx
    rcases (sorted_mem _ _ _).1 hx with rfl | hx
    · exact hk
    · exact hw.ok x hx
  · refine apart_of hrise fun x hx y hy e => ?_
    rcases (sorted_mem _ _ _).1 hx with rfl | hx
    · rcases (sorted_mem _ _ _).1 hy with rfl | hy
      · exact absurd rfl e
      · rw [clash_comm]; exact hc y (without_mem.1 hy).1 (without_mem.1 hy).2
    · rcases (sorted_mem _ _ _).1 hy with rfl | hy
      · exact hc x (without_mem.1 hx).1 (without_mem.1 hx).2
      · exact hw.apart.two hx hy e
  · split
    · rename_i e
      rw [e]
      exact hrise.find ((sorted_mem _ _ _).2 (.inl rfl))
    · rename_i e
      cases hq : findS l p with
      | none =>
        rw [find_none] at hq ⊢
        intro x hx
        rcases (sorted_mem _ _ _).1 hx with rfl | hx
        · exact fun h => e h.symm
        · exact hq x (without_mem.1 hx).1
      | some g =>
        obtain ⟨h1, h2⟩ := find_some hq
        exact hrise.find_iff.2 ⟨(sorted_mem _ _ _).2 (.inr (without_mem.2 ⟨h1, by rw [h2]; exact e⟩)), h2⟩
theorem put_spec {l : List FileS} {f : FileS} (h0 : (putS l f).2 = 0) : IsTree l ∧ okOne f = true ∧ (∀ g ∈ l, g.1 ≠ f.1 → clashS g.1 f.1 = false) ∧ ((findS l f.1).isSome = true ∨ l.length < 100) := by
  unfold putS at h0
  split at h0
  · rename_i ht
    have h := (rightT_iff l).1 ht
    split at h0
    · rename_i hr
      split at h0
      · rename_i hx
        split at h0
        · simp at h0
        · rename_i hc
          split at h0
          · simp at h0
          · rename_i hl
            refine ⟨h, by unfold okOne; rw [hr, decide_eq_true hx]; rfl, fun g hg e => ?_, ?_⟩
            · cases hs : (findS l f.1).isSome with
              | true =>
                obtain ⟨y, hy⟩ := Option.isSome_iff_exists.1 hs
                obtain ⟨h1, h2⟩ := find_some hy
                rw [← h2]
                exact h.apart.two hg h1 fun e' => e (by rw [e', h2])
              | false =>
                rw [hs] at hc
                have hc' : clashesS l f.1 = false := by simpa using hc
                unfold clashesS at hc'
                rw [List.any_eq_false] at hc'
                have := hc' g hg
                have hn : (g.1 != f.1) = true := by simpa using e
                rw [hn] at this
                simpa using this
            · cases hs : (findS l f.1).isSome with
              | true => exact .inl rfl
              | false =>
                rw [hs] at hl
                refine .inr ?_
                have : ¬ 100 ≤ l.length := by simpa using hl
                omega
      · simp at h0
    · simp at h0
  · simp at h0
theorem put_did {l : List FileS} {f : FileS} (h0 : (putS l f).2 = 0) : IsTree (putS l f).1 ∧ (∀ p, findS (putS l f).1 p = if p = f.1 then some f else findS l p) ∧ ∀ x, x ∈ (putS l f).1 ↔ x = f ∨ (x ∈ l ∧ x.1 ≠ f.1) := by
  obtain ⟨h1, h2, h3, h4⟩ := put_spec h0
  obtain ⟨k1, k2, k3⟩ := put_ok h1 h2 h3 h4
  rw [k1]
  exact ⟨k2, k3, fun x => by rw [sorted_mem, without_mem]⟩
theorem put_bad {l : List FileS} {f : FileS} (h0 : (putS l f).2 ≠ 0) : (putS l f).1 = [] := by
  unfold putS at h0 ⊢
  by_cases h1 : rightT l = true
  · rw [if_pos h1] at h0 ⊢
    by_cases h2 : rightS f.1 = true
    · rw [if_pos h2] at h0 ⊢
      by_cases h3 : f.2.2.length ≤ 20000
      · rw [if_pos h3] at h0 ⊢
        split
        · rfl
        · rename_i h4
          rw [if_neg h4] at h0
          split
          · rfl
          · rename_i h5
            rw [if_neg h5] at h0
            exact absurd rfl h0
      · rw [if_neg h3]
    · rw [if_neg h2]
  · rw [if_neg h1]
theorem drop_ok {l : List FileS} {p : Txt} (h : IsTree l) (hs : (findS l p).isSome = true) :
    dropS l p = (withoutS l p, 0) ∧ IsTree (withoutS l p) ∧ ∀ q, findS (withoutS l p) q = if q = p then none else findS l q := by
  refine ⟨?_, h.sub p, fun q => ?_⟩
  · unfold dropS
    rw [if_pos ((rightT_iff l).2 h), if_pos hs]
  · split
    · rename_i e
      rw [e, find_none]
      exact fun x hx => (without_mem.1 hx).2
    · rename_i e
      cases hq : findS l q with
      | none =>
        rw [find_none] at hq ⊢
        exact fun x hx => hq x (without_mem.1 hx).1
      | some g =>
        obtain ⟨h1, h2⟩ := find_some hq
        exact (h.sub p).rise.find_iff.2 ⟨without_mem.2 ⟨h1, by rw [h2]; exact e⟩, h2⟩
theorem drop_spec {l : List FileS} {p : Txt} (h0 : (dropS l p).2 = 0) : IsTree l ∧ (findS l p).isSome = true := by
  unfold dropS at h0
  split at h0
  · rename_i ht
    split at h0
    · rename_i hs
      exact ⟨(rightT_iff l).1 ht, hs⟩
    · simp at h0
  · simp at h0
theorem drop_did {l : List FileS} {p : Txt} (h0 : (dropS l p).2 = 0) : IsTree (dropS l p).1 ∧ ∀ q, findS (dropS l p).1 q = if q = p then none else findS l q := by
  obtain ⟨h1, h2⟩ := drop_spec h0
  obtain ⟨k1, k2, k3⟩ := drop_ok h1 h2
  rw [k1]
  exact ⟨k2, k3⟩
theorem drop_bad {l : List FileS} {p : Txt} (h0 : (dropS l p).2 ≠ 0) : (dropS l p).1 = [] := by
  unfold dropS at h0 ⊢
  by_cases h1 : rightT l = true
  · rw [if_pos h1] at h0 ⊢
    split
    · rename_i h2
      rw [if_pos h2] at h0
      exact absurd rfl h0
    · rfl
  · rw [if_neg h1]
theorem step_tree {l : List FileS} {c : ChangeS} (h0 : (stepS l c).2 = 0) : IsTree (stepS l c).1 := by
  unfold stepS at h0 ⊢
  split at h0
  · rename_i h
    rw [if_pos h]
    exact (drop_did h0).1
  · rename_i h
    rw [if_neg h]
    exact (put_did h0).1

/-! ### A tree of raw files -/
theorem treeOne_inv {X : List FileS} {f : FileS} {k : Nat} (h : IsTree X ∧ X.length ≤ k ∧ ∀ g ∈ X, g.2.2.length ≤ 2000) : IsTree (treeOne X f) ∧ (treeOne X f).length ≤ k + 1 ∧ ∀ g ∈ treeOne X f, g.2.2.length ≤ 2000 := by
  obtain ⟨h1, h2, h3⟩ := h
  unfold treeOne
  split
  · exact ⟨h1, by omega, h3⟩
  · rename_i ht
    split
    · rename_i h0
      obtain ⟨k1, k2, k3⟩ := put_did h0
      refine ⟨k1, ?_, fun g hg => ?_⟩
      · obtain ⟨a, b, c, d⟩ := put_spec h0
        rw [(put_ok a b c d).1]
        show (sortedS _ _).length ≤ _
        rw [sorted_len]
        have := without_len X f.1
        omega
      · rcases (k3 g).1 hg with rfl | hg
        · omega
        · exact h3 g hg.1
    · exact ⟨h1, by omega, h3⟩
theorem tree_fold : ∀ (l X : List FileS) (k : Nat), (IsTree X ∧ X.length ≤ k ∧ ∀ g ∈ X, g.2.2.length ≤ 2000) → (IsTree (l.foldl treeOne X) ∧ (l.foldl treeOne X).length ≤ k + l.length ∧ ∀ g ∈ l.foldl treeOne X, g.2.2.length ≤ 2000)
  | [], _, _, h => h
  | f :: l, X, k, h => by
    have := tree_fold l (treeOne X f) (k + 1) (treeOne_inv h)
    rw [List.foldl_cons, List.length_cons]
    refine ⟨this.1, by have := this.2.1; omega, this.2.2⟩
theorem treeS_is (l : List FileS) : IsTree (treeS l) ∧ (treeS l).length ≤ 30 ∧ ∀ g ∈ treeS l, g.2.2.length ≤ 2000 := by
  have := tree_fold (l.take 30) [] 0 ⟨IsTree.nil, by simp, by simp⟩
  refine ⟨this.1, ?_, this.2.2⟩
  have h2 := this.2.1
  rw [List.length_take] at h2
  unfold treeS
  omega
end Go.Proofs.Ytnpgfbgnbonhfaa

/-
  How alike two texts are, and what is asked of the files that moved (P13.1, P13.2), as mathematics.
-/
import Derived.Test.YtnpgfbgnbonhfaaTrQ
import Derived.Test.YtnpgfbgnbonhfaaDifM
import Derived.Test.YtnpgfbgnbonhfaaLinM
namespace Go.Proofs.Ytnpgfbgnbonhfaa

/-! ### How alike -/
def ratioL (x y : List Txt) : Nat := if x.length + y.length = 0 then 100 else if 400 < x.length ∨ 400 < y.length then 0 else 200 * lcs x y / (x.length + y.length)
def ratioS (a b : Txt) : Nat := ratioL (linesOf a) (linesOf b)
theorem ratioL_le (x y : List Txt) : ratioL x y ≤ 100 := by
  unfold ratioL
  split
  · exact Nat.le_refl _
  · split
    · omega
    · rename_i h _
      obtain ⟨h1, h2⟩ := lcs_le x y
      exact Nat.div_le_of_le_mul (by omega)
theorem ratioL_comm (x y : List Txt) : ratioL x y = ratioL y x := by
  unfold ratioL
  rw [lcs_comm x y, Nat.add_comm x.length y.length]
  split
  · rfl
  · by_cases h : 400 < x.length ∨ 400 < y.length
    · rw [if_pos h, if_pos h.symm]
    · rw [if_neg h, if_neg fun k => h k.symm]
theorem ratioL_self {x : List Txt} (h : x.length ≤ 400) : ratioL x x = 100 := by
  unfold ratioL
  split
  · rfl
  · rename_i h0
    rw [if_neg (by omega), lcs_self]
    exact Nat.div_eq_of_eq_mul_left (by omega) (by omega)
theorem ratioS_le (a b : Txt) : ratioS a b ≤ 100 := ratioL_le _ _
theorem ratioS_comm (a b : Txt) : ratioS a b = ratioS b a := ratioL_comm _ _
theorem ratioS_self {a : Txt} (h : a.length ≤ 400) : ratioS a a = 100 := ratioL_self (by have := linesOf_count a; omega)
/-- lists whose rests have nothing in common -/
theorem ratioL_half (s a b : List Txt) (h : ∀ x ∈ a, x ∉ b) (hl : b.length = a.length) (h0 : 0 < a.length) (h4 : s.length + a.length ≤ 400) :
    ratioL (s ++ a) (s ++ b) = 100 * s.length / (s.length + a.length) := by
  unfold ratioL
  rw [lcs_prefix, lcs_apart h, List.length_append, List.length_append, hl, if_neg (by omega), if_neg (by omega)]
  rw [show s.length + a.length + (s.length + a.length) = 2 * (s.length + a.length) by omega, show 200 * (s.length + 0) = 2 * (100 * s.length) by omega, Nat.mul_div_mul_left _ _ (by omega)]

/-! ### Lines written one by one -/
theorem linesOf_flat : ∀ ls : List Txt, (∀ x ∈ ls, ∃ y : Txt, x = y ++ [10] ∧ ∀ b ∈ y, b ≠ 10) → linesOf ls.flatten = ls
  | [], _ => rfl
  | x :: ls, h => by
    obtain ⟨y, rfl, hy⟩ := h x (List.mem_cons_self ..)
    rw [List.flatten_cons, List.append_assoc, List.singleton_append, linesOf_line y _ hy, linesOf_flat ls fun z hz => h z (List.mem_cons_of_mem _ hz)]

/-! ### What moved -/
abbrev RenS := Txt × Txt
/-- the others have no such path, and there is a text -/
def leftF (other : List FileS) (f : FileS) : Prop := findS other f.1 = none ∧ f.2.2 ≠ []
def alikeF (x y : FileS) : Prop := x.2.2 = y.2.2 ∨ 50 ≤ ratioS x.2.2 y.2.2
structure RenOk (a b : List FileS) (r : List RenS) : Prop where
  there : ∀ p ∈ r, ∃ x y, x ∈ a ∧ y ∈ b ∧ x.1 = p.1 ∧ y.1 = p.2 ∧ leftF b x ∧ leftF a y ∧ alikeF x y
  rise : r.Pairwise fun p q => ltS p.1 q.1 = true
  once : r.Pairwise fun p q => p.2 ≠ q.2
  most : ∀ x ∈ a, ∀ y ∈ b, leftF b x → leftF a y → alikeF x y → (∃ p ∈ r, p.1 = x.1) ∨ ∃ p ∈ r, p.2 = y.1
theorem RenOk.nil_a {a b : List FileS} {r : List RenS} (h : RenOk a b r) (ha : ∀ x ∈ a, ¬ leftF b x) : r = [] := by
  cases r with
  | nil => rfl
  | cons p r =>
    obtain ⟨x, _, hx, _, _, _, hl, _⟩ := h.there p (List.mem_cons_self ..)
    exact absurd hl (ha x hx)
theorem RenOk.nil_b {a b : List FileS} {r : List RenS} (h : RenOk a b r) (hb : ∀ y ∈ b, ¬ leftF a y) : r = [] := by
  cases r with
  | nil => rfl
  | cons p r =>
    obtain ⟨_, y, _, hy, _, _, _, hl, _⟩ := h.there p (List.mem_cons_self ..)
    exact absurd hl (hb y hy)
/-- nothing moved -/
theorem RenOk.same {a : List FileS} {r : List RenS} (h : RenOk a a r) : r = [] :=
  h.nil_a fun x hx hl => find_none.1 hl.1 x hx rfl
theorem RenOk.none_right {a : List FileS} {r : List RenS} (h : RenOk a [] r) : r = [] := h.nil_b fun y hy => by cases hy
theorem RenOk.none_left {b : List FileS} {r : List RenS} (h : RenOk [] b r) : r = [] := h.nil_a fun y hy => by cases hy
/-- one file alone could have moved, to one place alone -/
theorem RenOk.one {a b : List FileS} {r : List RenS} (h : RenOk a b r) {f g : FileS} (hf : f ∈ a) (hg : g ∈ b) (ha : ∀ x ∈ a, leftF b x → x = f) (hb : ∀ y ∈ b, leftF a y → y = g)
    (lf : leftF b f) (lg : leftF a g) (al : alikeF f g) : r = [(f.1, g.1)] := by
  have all : ∀ p ∈ r, p = (f.1, g.1) := fun p hp => by
    obtain ⟨x, y, hx, hy, ex, ey, lx, ly, _⟩ := h.there p hp
    rw [ha x hx lx] at ex
    rw [hb y hy ly] at ey
    exact Prod.ext ex.symm ey.symm
  cases r with
  | nil => rcases h.most f hf g hg lf lg al with ⟨p, hp, _⟩ | ⟨p, hp, _⟩ <;> cases hp
  | cons p r =>
    cases r with
    | nil => rw [all p (List.mem_cons_self ..)]
    | cons q r =>
      have e := h.rise
      rw [List.pairwise_cons] at e
      have := e.1 q (List.mem_cons_self ..)
      rw [all p (List.mem_cons_self ..), all q (List.mem_cons_of_mem _ (List.mem_cons_self ..)), lt_irr] at this
      cases this
/-- two files alone: moved, or not -/
theorem RenOk.two {f g : FileS} {r : List RenS} (h : RenOk [f] [g] r) (hp : f.1 ≠ g.1) (hf : f.2.2 ≠ []) (hg : g.2.2 ≠ []) (hne : f.2.2 ≠ g.2.2) :
    r = if 50 ≤ ratioS f.2.2 g.2.2 then [(f.1, g.1)] else [] := by
  have lf : leftF [g] f := ⟨find_none.2 fun x hx => by rw [List.mem_singleton.1 hx]; exact hp.symm, hf⟩
  have lg : leftF [f] g := ⟨find_none.2 fun x hx => by rw [List.mem_singleton.1 hx]; exact hp, hg⟩
  split
  · rename_i h5
    exact h.one (List.mem_singleton.2 rfl) (List.mem_singleton.2 rfl) (fun x hx _ => List.mem_singleton.1 hx) (fun x hx _ => List.mem_singleton.1 hx) lf lg (.inr h5)
  · rename_i h5
    cases r with
    | nil => rfl
    | cons p r =>
      obtain ⟨x, y, hx, hy, _, _, _, _, ha⟩ := h.there p (List.mem_cons_self ..)
      rw [List.mem_singleton.1 hx, List.mem_singleton.1 hy] at ha
      exact absurd ha (not_or.2 ⟨hne, h5⟩)
/-- two files of the same text -/
theorem RenOk.two_same {f g : FileS} {r : List RenS} (h : RenOk [f] [g] r) (hp : f.1 ≠ g.1) (hf : f.2.2 ≠ []) (he : f.2.2 = g.2.2) : r = [(f.1, g.1)] := by
  have lf : leftF [g] f := ⟨find_none.2 fun x hx => by rw [List.mem_singleton.1 hx]; exact hp.symm, hf⟩
  have lg : leftF [f] g := ⟨find_none.2 fun x hx => by rw [List.mem_singleton.1 hx]; exact hp, by rw [← he]; exact hf⟩
  exact h.one (List.mem_singleton.2 rfl) (List.mem_singleton.2 rfl) (fun x hx _ => List.mem_singleton.1 hx) (fun x hx _ => List.mem_singleton.1 hx) lf lg (.inl he)
/-- a file that moves as it is -/
theorem moved_ren {A : List FileS} {f : FileS} {tt : Txt} {r : List RenS} (hf : f ∈ A) (h1 : (dropS A f.1).2 = 0) (hto : findS A tt = none) (h2 : (putS (dropS A f.1).1 (tt, f.2)).2 = 0) (ht : f.2.2 ≠ [])
    (h : RenOk A (putS (dropS A f.1).1 (tt, f.2)).1 r) : r = [(f.1, tt)] := by
  obtain ⟨tA, _⟩ := drop_spec h1
  obtain ⟨d1, d2⟩ := drop_did h1
  obtain ⟨p1, p2, p3⟩ := put_did h2
  generalize (putS (dropS A f.1).1 (tt, f.2)).1 = B at *
  generalize (dropS A f.1).1 = D at *
  have hne : f.1 ≠ tt := find_none.1 hto f hf
  have lf : leftF B f := ⟨by rw [p2, if_neg hne, d2, if_pos rfl], ht⟩
  have hg : (tt, f.2) ∈ B := (p3 _).2 (.inl rfl)
  refine h.one (g := (tt, f.2)) hf hg (fun x hx lx => ?_) (fun y hy ly => ?_) lf ⟨hto, ht⟩ (.inl rfl)
  · have e := lx.1
    rw [p2] at e
    split at e
    · cases e
    · rw [d2] at e
      split at e
      · rename_i e2
        exact tA.rise.one hx hf e2
      · rw [tA.rise.find hx] at e
        cases e
  · rcases (p3 y).1 hy with rfl | ⟨hy', _⟩
    · rfl
    · have e := d1.rise.find hy'
      rw [d2] at e
      split at e
      · cases e
      · rw [ly.1] at e
        cases e
/-- what holds of each pair, as it is asked -/
theorem RenOk.find {a b : List FileS} {r : List RenS} (h : RenOk a b r) (ha : Rise a) (hb : Rise b) {p : RenS} (hp : p ∈ r) :
    ∃ x y, findS a p.1 = some x ∧ findS b p.2 = some y ∧ findS b p.1 = none ∧ findS a p.2 = none ∧ x.2.2 ≠ [] ∧ (x.2.2 = y.2.2 ∨ 50 ≤ ratioS x.2.2 y.2.2) := by
  obtain ⟨x, y, hx, hy, ex, ey, lx, ly, al⟩ := h.there p hp
  rw [← ex, ← ey]
  exact ⟨x, y, ha.find hx, hb.find hy, lx.1, ly.1, lx.2, al⟩
end Go.Proofs.Ytnpgfbgnbonhfaa

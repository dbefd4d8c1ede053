/-
  Paths in their order: those that are put one by one, and those that are sorted and made compact, are the same.
-/
import Derived.Test.YtndmblelkeepjaaGreatDoorTrM
import Derived.Lib.SlicesCompact
namespace Go.Proofs.YtndmblelkeepjaaGreatDoor

abbrev RiseP (X : List Txt) : Prop := X.Pairwise fun p q => ltS p q = true
def mkF (p : Txt) : FileS := (p, false, [])
theorem ahead_mk (X : List Txt) (p : Txt) : aheadS (X.map mkF) p = aheadP X p := by
  induction X with
  | nil => rfl
  | cons q X ih =>
    rw [List.map_cons, aheadS, aheadP, ih]
    rfl
theorem put_mk (X : List Txt) (p : Txt) : (putPath X p).map mkF = sortedS (X.map mkF) (mkF p) := by
  unfold putPath sortedS
  rw [show (mkF p).1 = p from rfl, ahead_mk, List.map_append, List.map_append, List.map_take, List.map_drop]
  rfl
theorem rise_mk (X : List Txt) : Rise (X.map mkF) ↔ RiseP X := List.pairwise_map
theorem in_iff (X : List Txt) (p : Txt) : inS X p = true ↔ p ∈ X := by simp [inS]
theorem step_inv {X : List Txt} (h : RiseP X) (f : FileS) : RiseP (pathStep X f) ∧ ∀ p, p ∈ pathStep X f ↔ p = f.1 ∨ p ∈ X := by
  unfold pathStep
  by_cases hi : inS X f.1 = true
  · rw [if_pos hi]
    refine ⟨h, fun p => ⟨.inr, ?_⟩⟩
    rintro (rfl | hp)
    · exact (in_iff _ _).1 hi
    · exact hp
  · rw [if_neg hi]
    have hn : f.1 ∉ X := fun hx => hi ((in_iff _ _).2 hx)
    have h1 : Rise ((putPath X f.1).map mkF) := by
      rw [put_mk]
      refine sorted_rise ((rise_mk X).2 h) fun g hg e => ?_
      obtain ⟨q, hq, rfl⟩ := List.mem_map.1 hg
      exact hn (by rw [← show q = f.1 from e]; exact hq)
    refine ⟨(rise_mk _).1 h1, fun p => ?_⟩
    have h2 := sorted_mem (X.map mkF) (mkF f.1) (mkF p)
    rw [← put_mk] at h2
    have hm : ∀ Y : List Txt, mkF p ∈ Y.map mkF ↔ p ∈ Y := fun Y => by
      rw [List.mem_map]
      constructor
      · rintro ⟨q, hq, e⟩
        rw [← show q = p from congrArg Prod.fst e]; exact hq
      · exact fun hp => ⟨p, hp, rfl⟩
    rw [hm, hm] at h2
    rw [h2]
    constructor
    · rintro (e | hp)
      · exact .inl (congrArg Prod.fst e)
      · exact .inr hp
    · rintro (rfl | hp)
      · exact .inl rfl
      · exact .inr hp
theorem fold_inv : ∀ (l : List FileS) (X : List Txt), RiseP X → RiseP (l.foldl pathStep X) ∧ ∀ p, p ∈ l.foldl pathStep X ↔ p ∈ X ∨ ∃ f ∈ l, f.1 = p
  | [], X, h => ⟨h, by simp⟩
  | f :: l, X, h => by
    obtain ⟨h1, h2⟩ := step_inv h f
    obtain ⟨k1, k2⟩ := fold_inv l (pathStep X f) h1
    refine ⟨k1, fun p => ?_⟩
    rw [List.foldl_cons, k2, h2]
    constructor
    · rintro ((rfl | hp) | ⟨g, hg, e⟩)
      · exact .inr ⟨f, by simp, rfl⟩
      · exact .inl hp
      · exact .inr ⟨g, by simp [hg], e⟩
    · rintro (hp | ⟨g, hg, e⟩)
      · exact .inl (.inr hp)
      · rcases List.mem_cons.1 hg with rfl | hg
        · exact .inl (.inl e.symm)
        · exact .inr ⟨g, hg, e⟩
theorem paths_rise (l : List FileS) : RiseP (pathsOf l) := (fold_inv l [] List.Pairwise.nil).1
theorem paths_mem (l : List FileS) (p : Txt) : p ∈ pathsOf l ↔ ∃ f ∈ l, f.1 = p := by
  have := (fold_inv l [] List.Pairwise.nil).2 p
  unfold pathsOf
  rw [this]
  simp

theorem compact_inv (zs : List Txt) (hs : zs.Pairwise fun x y => ltS y x = false) : ∀ m, m ≤ zs.length → RiseP (Lib.compactUpTo zs.toArray m) ∧ ∀ x, x ∈ Lib.compactUpTo zs.toArray m ↔ ∃ j, j < m ∧ zs[j]? = some x
  | 0, _ => by simp [Lib.compactUpTo]
  | m + 1, hm => by
    obtain ⟨h1, h2⟩ := compact_inv zs hs m (by omega)
    have hz : ∀ j (hj : j < zs.length), zs.toArray[j]! = zs[j] := fun j hj => by simp [hj]
    have hml : m < zs.length := by omega
    rw [Lib.compactUpTo_succ]
    by_cases hk : Lib.keeps zs.toArray m = true
    · rw [if_pos hk, hz m hml]
      have hlt : ∀ x ∈ Lib.compactUpTo zs.toArray m, ltS x zs[m] = true := fun x hx => by
        obtain ⟨j, hj, hjx⟩ := (h2 x).1 hx
        obtain ⟨hjl, rfl⟩ := List.getElem?_eq_some_iff.1 hjx
        have e1 := List.pairwise_iff_getElem.1 hs j m hjl hml hj
        cases e2 : ltS zs[j] zs[m] with
        | true => rfl
        | false =>
          exfalso
          have e3 := lt_tri _ _ e2 e1
          have hm1 : m - 1 < zs.length := by omega
          have e4 : zs[m - 1] = zs[m] := by
            by_cases hjm : j = m - 1
            · subst hjm; exact e3
            · have a1 := List.pairwise_iff_getElem.1 hs j (m - 1) hjl hm1 (by omega)
              have a2 := List.pairwise_iff_getElem.1 hs (m - 1) m hm1 hml (by omega)
              rw [e3] at a1
              exact lt_tri _ _ a1 a2
          have : Lib.keeps zs.toArray m = false := Lib.keeps_neg (by omega) (by rw [hz m hml, hz (m - 1) hm1, e4])
          rw [this] at hk
          cases hk
      refine ⟨List.pairwise_append.2 ⟨h1, List.pairwise_singleton _ _, fun x hx y hy => by rw [List.mem_singleton.1 hy]; exact hlt x hx⟩, fun x => ?_⟩
      rw [List.mem_append, List.mem_singleton, h2]
      constructor
      · rintro (⟨j, hj, e⟩ | rfl)
        · exact ⟨j, by omega, e⟩
        · exact ⟨m, by omega, List.getElem?_eq_getElem hml⟩
      · rintro ⟨j, hj, e⟩
        by_cases hjm : j = m
        · subst hjm
          exact .inr (List.getElem?_eq_some_iff.1 e).2.symm
        · exact .inl ⟨j, by omega, e⟩
    · rw [if_neg hk, List.append_nil]
      refine ⟨h1, fun x => ?_⟩
      rw [h2]
      constructor
      · rintro ⟨j, hj, e⟩
        exact ⟨j, by omega, e⟩
      · rintro ⟨j, hj, e⟩
        by_cases hjm : j = m
        · subst hjm
          have h0 : 0 < j := by
            rcases Nat.eq_zero_or_pos j with h | h
            · subst h
              exact absurd (Lib.keeps_lt_one zs.toArray 0 (by omega)) hk
            · exact h
          have hj1 : j - 1 < zs.length := by omega
          by_cases e4 : zs[j] = zs[j - 1]
          · refine ⟨j - 1, by omega, ?_⟩
            rw [List.getElem?_eq_getElem hj1, ← e4, ← List.getElem?_eq_getElem hml]
            exact e
          · exact absurd (Lib.keeps_pos (by rw [hz j hml, hz (j - 1) hj1]; exact e4)) hk
        · exact ⟨j, by omega, e⟩
theorem le_lt (x y : Txt) : decide (x ≤ y) = !ltS y x := by
  have h : ∀ a b : Txt, ltS a b = true ↔ a < b := by
    intro a
    induction a with
    | nil =>
      intro b
      cases b with
      | nil => simp [ltS, Op.bytesLess]
      | cons c b => simp [ltS, Op.bytesLess]
    | cons c a ih =>
      intro b
      cases b with
      | nil => simp [ltS, Op.bytesLess]
      | cons d b => rw [lt_cons, ih, List.cons_lt_cons_iff]
  have e : (x ≤ y) = ¬ (y < x) := rfl
  cases hl : ltS y x with
  | true => rw [decide_eq_false]; rfl; rw [e]; exact fun hn => hn ((h _ _).1 hl)
  | false => rw [decide_eq_true]; rfl; rw [e]; exact fun hn => by rw [(h _ _).2 hn] at hl; cases hl
/-- sorted, and each once -/
theorem sort_compact (l : List Txt) : RiseP (Lib.compact (l.mergeSort fun x y => decide (x ≤ y))) ∧ ∀ p, p ∈ Lib.compact (l.mergeSort fun x y => decide (x ≤ y)) ↔ p ∈ l := by
  have hs : (l.mergeSort fun x y => decide (x ≤ y)).Pairwise fun x y => ltS y x = false := by
    have h := List.pairwise_mergeSort (le := fun x y : Txt => decide (x ≤ y)) (fun a b c hab hbc => by
      rw [le_lt, Bool.not_eq_true'] at hab hbc ⊢
      cases e : ltS c a with
      | false => rfl
      | true =>
        exfalso
        cases e2 : ltS a b with
        | true => rw [lt_trans' _ _ _ e e2] at hbc; cases hbc
        | false =>
          have := lt_tri _ _ e2 hab
          rw [this, hbc] at e
          cases e) (fun a b => by
      rw [le_lt, le_lt]
      cases e : ltS b a with
      | false => rfl
      | true => rw [lt_asym e]; rfl) l
    refine h.imp fun {x y} hxy => ?_
    rw [le_lt] at hxy
    simpa using hxy
  obtain ⟨h1, h2⟩ := compact_inv _ hs _ (Nat.le_refl _)
  refine ⟨h1, fun p => ?_⟩
  unfold Lib.compact
  rw [h2, ← List.mem_mergeSort (l := l) (le := fun x y => decide (x ≤ y)), List.mem_iff_getElem?]
  constructor
  · rintro ⟨j, _, e⟩
    exact ⟨j, e⟩
  · rintro ⟨j, e⟩
    exact ⟨j, (List.getElem?_eq_some_iff.1 e).1, e⟩
theorem paths_eq (a b : List FileS) : Lib.compact ((a.map (·.1) ++ b.map (·.1)).mergeSort fun x y => decide (x ≤ y)) = pathsOf (a ++ b) := by
  obtain ⟨h1, h2⟩ := sort_compact (a.map (·.1) ++ b.map (·.1))
  refine sorted_ext (fun x y hxy hyx => by rw [lt_asym hxy] at hyx; cases hyx) _ _ h1 (paths_rise (a ++ b)) fun p => ?_
  rw [h2, paths_mem]
  simp only [List.mem_append, List.mem_map]
  constructor
  · rintro (⟨f, hf, e⟩ | ⟨f, hf, e⟩)
    · exact ⟨f, .inl hf, e⟩
    · exact ⟨f, .inr hf, e⟩
  · rintro ⟨f, hf | hf, e⟩
    · exact .inl ⟨f, hf, e⟩
    · exact .inr ⟨f, hf, e⟩
end Go.Proofs.YtndmblelkeepjaaGreatDoor

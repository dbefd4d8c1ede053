/-
  A list of lists of texts of the call's own: one appended to it; all of another one appended to none.
-/
import Derived.Test.YtikemkgedmbijaaNest
import Derived.Test.YtikemkgedmbijaaBlO
import Derived.Test.YtikemkgedmbijaaEdB
namespace Go.Proofs.Ytikemkgedmbijaa
open Go.RowKit

/-- apart from v's own block, or empty -/
def NestL (w : World) (v u : Value) (xs : List (List UInt8)) : Prop := Sl w u (strCells xs) ∧ (xs ≠ [] → Nest w v u xs)
theorem Nest.toL {w : World} {v u : Value} {xs : List (List UInt8)} (h : Nest w v u xs) : NestL w v u xs := ⟨h.1, fun _ => h⟩
theorem NestL.kept {w w' : World} {v v' u : Value} {xs : List (List UInt8)} (h : NestL w v u xs) (hk : ∀ b, b < w.heap.size → v.ownBlock ≠ some b → w'.heap[b]? = w.heap[b]?) (hz : w.heap.size ≤ w'.heap.size) (hv : v'.ownBlock = v.ownBlock ∨ ∃ f, v'.ownBlock = some f ∧ w.heap.size ≤ f) : NestL w' v' u xs := by
  by_cases hx : xs = []
  · subst hx
    obtain ⟨ao, cap, rfl, h1, h2, _⟩ := h.1
    exact ⟨⟨ao, cap, rfl, fun _ => rfl, h2, fun a _ j x hx => by simp [strCells] at hx⟩, fun h => absurd rfl h⟩
  · have := (h.2 hx).kept hk hz hv
    exact this.toL
theorem NestL.new {w w' : World} {v u : Value} {xs : List (List UInt8)} (h : Sl w u (strCells xs)) (hk : ∀ b, b < w.heap.size → w'.heap[b]? = w.heap[b]?) (hz : w.heap.size ≤ w'.heap.size) (hv : ∀ j, v.ownBlock = some j → w.heap.size ≤ j) : NestL w' v u xs := by
  refine ⟨?_, fun hx => ⟨h.kept fun a n c e hlt => hk _ hlt, fun a n c e => ?_⟩⟩
  · exact h.kept fun a n c e hlt => hk _ hlt
  · subst e
    have hb := h.lt (i := 0) (by cases xs with | nil => exact absurd rfl hx | cons y l => simp [strCells])
    exact ⟨Nat.lt_of_lt_of_le hb hz, fun e => Nat.lt_irrefl _ (Nat.lt_of_lt_of_le hb (hv _ e))⟩
/-- what is owned from where the world ends on is apart from all that lay there -/
theorem nestL_own {w0 w : World} {v u : Value} {xs : List (List UInt8)} (h : w.ownsRow w0.heap.size 9 1 u xs.length (strCells xs)) (hv : ∀ j, v.ownBlock = some j → j < w0.heap.size) : NestL w v u xs := by
  refine Nest.toL ⟨Sl.ofOwns h, fun a n c e => ?_⟩
  rcases h.2 with ⟨rfl, _⟩ | ⟨g, cap, cur, rfl, r1, r2, r3⟩
  · cases e
  · cases e
    refine ⟨lt_of_block r2, fun e => ?_⟩
    have := hv _ e
    simp only at this
    omega
def OwnLL (w : World) (base : Nat) (v : Value) (ls : List (List (List UInt8))) : Prop :=
  ∃ flat, w.ownsRow base 23 1 v ls.length flat ∧ ∀ (i : Nat) (l : List (List UInt8)), ls[i]? = some l → ∃ u, flat[i]? = some u ∧ NestL w v u l
theorem OwnLL.nil (w : World) (base : Nat) : OwnLL w base (.slice none 0 0) [] := ⟨[], World.ownsRow_nil _ _ _ _, fun i h hi => by simp at hi⟩
theorem OwnLL.form {w : World} {base : Nat} {v : Value} {ls : List (List (List UInt8))} (h : OwnLL w base v ls) : ∃ ao cap, v = .slice ao ls.length cap := by
  obtain ⟨flat, h, _⟩ := h
  exact owns_form h
theorem OwnLL.lt {w : World} {base : Nat} {v : Value} {ls : List (List (List UInt8))} (h : OwnLL w base v ls) : ∀ j, v.ownBlock = some j → base ≤ j ∧ j < w.heap.size := by
  obtain ⟨flat, h, _⟩ := h
  exact h.lt
theorem OwnLL.slLL {w : World} {base : Nat} {v : Value} {ls : List (List (List UInt8))} (h : OwnLL w base v ls) : SlLL w v ls := by
  obtain ⟨flat, h1, h2⟩ := h
  rcases h1.2 with ⟨rfl, hn⟩ | ⟨g, cap, cur, rfl, r⟩
  · have : ls = [] := List.eq_nil_of_length_eq_zero hn
    subst this
    exact SlLL.nil w
  · refine ⟨some ⟨g, 0, none⟩, cap, rfl, (fun h => by cases h), r.2.2.1, fun a ha i x hx => ?_⟩
    cases ha
    obtain ⟨u, e1, n1⟩ := h2 i x hx
    exact ⟨u, h1.cells rfl _ _ e1, n1.1⟩
/-- what keeps all that was there keeps the list -/
theorem OwnLL.old {w w' : World} {base : Nat} {v : Value} {ls : List (List (List UInt8))} (h : OwnLL w base v ls) (hk : Below w.heap.size w w') : OwnLL w' base v ls := by
  obtain ⟨flat, h1, h2⟩ := h
  refine ⟨flat, owns_kept h1 fun g _ hg => hk.block g hg, fun i x hx => ?_⟩
  obtain ⟨u, e1, n1⟩ := h2 i x hx
  exact ⟨u, e1, n1.kept (fun b hb _ => hk.block b hb) hk.size (.inl rfl)⟩
theorem Try.infoSs : (Try.prog.info? 23).map (fun i => (i.zero, i.size, i.bytes)) = some (some (.slice none 0 0), 1, 24) := by kernel_rfl

section
variable {w : World}
theorem wp_append_ll {o : Oper} {a : Act} {K : Act → World → Prop} {Q : Exit → Act → World → Prop} (s sx : Operand)
    (ho : o.op = .call { callee := .builtin .append, args := #[s, sx], argTypes := #[22, 22] })
    (base : Nat) (v : Value) (ls : List (List (List UInt8))) (l : List (List UInt8)) (u : Value) (he : a.eval s = v) (hown : OwnLL w base v ls) (hn1 : NestL w v u l)
    (hx : a.eval sx = .slice (some ⟨w.heap.size, 0, none⟩) 1 1) (c1 : u.oneCell' = true) (hlen : ls.length ≤ 4000000) (hbase : base ≤ w.heap.size)
    (h : ∀ v' w', OwnLL w' base v' (ls ++ [l]) → Below base w w' → (∀ b, b < w.heap.size → v.ownBlock ≠ some b → w'.heap[b]? = w.heap[b]?) → K (a.put o.dst v') w') : o.wp Try.prog a (w.alloc (.cells #[u] 23)) K Q := by
  obtain ⟨flat, h1, h2⟩ := hown
  obtain ⟨i0, hi0, hi1, hi2, hi3⟩ := info_parts Try.infoSs
  have hz : (w.alloc (.cells #[u] 23)).heap.size = w.heap.size + 1 := by simp
  refine wp_append_any _ s sx _ _ ho base 23 i0 _ 1 24 Try.underlying22 hi0 hi1 hi2 hi3 rfl (by omega) v _ _ he (h1.alloc _) _ 1 [u] hx
    (Src.ofSlice _ Try.underlying22 ⟨w.heap.size, 0, none⟩ 1 1 [u] (by rfl) (World.news_of_block (cs := #[u]) (t := 23) (fr := (0, 0)) (heap_alloc_new w _)) (by intro x hx; rcases List.mem_singleton.1 hx with rfl; exact c1)) (by unfold maxLen; omega) (by omega) (by omega) fun v' w' q1 q2 q3 => ?_
  have keep : ∀ b, b < w.heap.size → v.ownBlock ≠ some b → w'.heap[b]? = w.heap[b]? := fun b hb hne => (q2.block b (by omega) (fun e => hne e.symm)).trans (Below.heap_alloc w _ b hb)
  have hv : v'.ownBlock = v.ownBlock ∨ ∃ f, v'.ownBlock = some f ∧ w.heap.size ≤ f := by
    rcases q3 with e | e
    · exact .inl e
    · exact .inr ⟨_, e, by omega⟩
  have hsz : w.heap.size ≤ w'.heap.size := by have := q2.size; omega
  refine h v' w' ⟨flat ++ [u], by rw [List.length_append]; exact q1, fun i x hx => ?_⟩ ?_ keep
  · have hl := h1.1
    by_cases hi : i < ls.length
    · rw [List.getElem?_append_left hi] at hx
      obtain ⟨b, e1, n1⟩ := h2 i x hx
      exact ⟨b, by rw [List.getElem?_append_left (by omega)]; exact e1, n1.kept keep hsz hv⟩
    · have hlt := (List.getElem?_eq_some_iff.1 hx).1
      rw [List.length_append, List.length_singleton] at hlt
      obtain rfl : i = ls.length := by omega
      rw [List.getElem?_append_right (Nat.le_refl _), Nat.sub_self] at hx
      cases hx
      exact ⟨u, by rw [List.getElem?_append_right (by omega), show ls.length - flat.length = 0 by omega]; rfl, hn1.kept keep hsz hv⟩
  · exact ((Below.refl base w).alloc hbase _).grown q2 (by omega) (fun j hj => (h1.lt j hj).1)
theorem wpList_append_ll {ops : Array Oper} {rest : List Oper} {o : Oper} {a : Act} {Q : Exit → Act → World → Prop} (hgd : o.guard = none) (s sx : Operand)
    (ho : o.op = .call { callee := .builtin .append, args := #[s, sx], argTypes := #[22, 22] })
    (base : Nat) (v : Value) (ls : List (List (List UInt8))) (l : List (List UInt8)) (u : Value) (he : a.eval s = v) (hown : OwnLL w base v ls) (hn1 : NestL w v u l)
    (hx : a.eval sx = .slice (some ⟨w.heap.size, 0, none⟩) 1 1) (c1 : u.oneCell' = true) (hlen : ls.length ≤ 4000000) (hbase : base ≤ w.heap.size)
    (h : ∀ v' w', OwnLL w' base v' (ls ++ [l]) → Below base w w' → (∀ b, b < w.heap.size → v.ownBlock ≠ some b → w'.heap[b]? = w.heap[b]?) → wpList Try.prog ops Q rest (a.put o.dst v') w') : wpList Try.prog ops Q (o :: rest) a (w.alloc (.cells #[u] 23)) :=
  wpList_plain hgd fun _ hK => wp_append_ll s sx ho base v ls l u he hown hn1 hx c1 hlen hbase fun v' w' h2 h3 h4 => hK _ _ (h v' w' h2 h3 h4)
/-- all of a list, appended to none -/
theorem wpList_append_lls {ops : Array Oper} {rest : List Oper} {o : Oper} {a : Act} {Q : Exit → Act → World → Prop} (hgd : o.guard = none) (sx : Operand)
    (ho : o.op = .call { callee := .builtin .append, args := #[.const (.slice none 0 0), sx], argTypes := #[22, 22] })
    (ls : List (List (List UInt8))) (u : Value) (hx : a.eval sx = u) (hu : SlLL w u ls) (hlen : ls.length ≤ 4000000)
    (h : ∀ v' w', OwnLL w' w.heap.size v' ls → Below w.heap.size w w' → wpList Try.prog ops Q rest (a.put o.dst v') w') : wpList Try.prog ops Q (o :: rest) a w := by
  obtain ⟨ao, cap, rfl, hn, hcap, hc⟩ := hu
  obtain ⟨i0, hi0, hi1, hi2, hi3⟩ := info_parts Try.infoSs
  obtain ⟨flat, hfl, hf⟩ : ∃ flat : List Value, flat.length = ls.length ∧ ∀ (i : Nat) (l : List (List UInt8)), ls[i]? = some l → ∃ x, flat[i]? = some x ∧ Sl w x (strCells l) ∧ ∀ a', ao = some a' → w.cell? (a'.add i) = some x := by
    cases ao with
    | none => rw [hn rfl]; exact ⟨[], rfl, fun i l h => by simp at h⟩
    | some a' =>
      have : ∀ i : Fin ls.length, ∃ x, w.cell? (a'.add i) = some x ∧ ∀ l, ls[i.1]? = some l → Sl w x (strCells l) := fun i => by
        obtain ⟨x, h1, h2⟩ := hc a' rfl i _ (List.getElem?_eq_getElem i.2)
        refine ⟨x, h1, fun l hl => ?_⟩
        rw [List.getElem?_eq_getElem i.2] at hl
        cases hl
        exact h2
      refine ⟨List.ofFn fun i => (this i).choose, by simp, fun i l hi => ?_⟩
      obtain ⟨hlt, e⟩ := List.getElem?_eq_some_iff.1 hi
      refine ⟨(this ⟨i, hlt⟩).choose, by simp [hlt], (this ⟨i, hlt⟩).choose_spec.2 l hi, fun b hb => ?_⟩
      cases hb
      exact (this ⟨i, hlt⟩).choose_spec.1
  have hsl : Sl w (.slice ao ls.length cap) flat := ⟨ao, cap, by rw [hfl], fun h => List.eq_nil_of_length_eq_zero (by rw [hfl, hn h]; rfl), by omega, fun a' ha i x hx => by
    have hlt := (List.getElem?_eq_some_iff.1 hx).1
    obtain ⟨y, h1, _, h3⟩ := hf i _ (List.getElem?_eq_getElem (by omega))
    rw [h1] at hx
    cases hx
    exact h3 a' ha⟩
  have hone : ∀ x ∈ flat, x.oneCell' = true := fun x hx => by
    obtain ⟨i, hi⟩ := List.getElem?_of_mem hx
    have hlt := (List.getElem?_eq_some_iff.1 hi).1
    obtain ⟨y, h1, h2, _⟩ := hf i _ (List.getElem?_eq_getElem (by omega))
    rw [h1] at hi
    cases hi
    obtain ⟨_, _, rfl⟩ := h2.form
    rfl
  have hs := hsl.src (P := Try.prog) Try.underlying22 hone
  rw [hfl] at hs
  refine wpList_append_any w hgd (.const (.slice none 0 0)) sx _ _ ho w.heap.size 23 i0 _ 1 24 Try.underlying22 hi0 hi1 hi2 hi3 rfl (by omega) (.slice none 0 0) 0 [] rfl (World.ownsRow_nil _ _ _ _) _ _ _ hx hs (by unfold maxLen; omega) (by omega) (Nat.le_refl _) fun v' w' q1 q2 q3 => h v' w' ⟨flat, by rw [Nat.zero_add] at q1; exact q1, fun i l hi => ?_⟩ ?_
  · obtain ⟨x, h1, h2, _⟩ := hf i l hi
    have keep : ∀ b, b < w.heap.size → w'.heap[b]? = w.heap[b]? := fun b hb => q2.block b hb (fun e => by cases e)
    exact ⟨x, h1, NestL.new h2 keep q2.size (fun j hj => by
      rcases q3 with e | e
      · rw [e] at hj; cases hj
      · rw [e] at hj; cases hj; exact Nat.le_refl _)⟩
  · exact (Below.refl _ w).grown q2 (Nat.le_refl _) (fun j hj => by cases hj)
end
/-- what lay there before the list was begun is apart from it -/
theorem nestL_far {w0 w1 w2 : World} {v u : Value} {ls : List (List (List UInt8))} {l : List (List UInt8)} (h : OwnLL w2 w1.heap.size v ls) (hz : w0.heap.size ≤ w1.heap.size) (hu : Sl w2 u (strCells l)) (h0 : Sl w0 u (strCells l)) : NestL w2 v u l := by
  refine ⟨hu, fun hx => ⟨hu, fun a n c e => ?_⟩⟩
  subst e
  have hb := h0.lt (i := 0) (by cases l with | nil => exact absurd rfl hx | cons y l => simp [strCells])
  have hb2 := hu.lt (i := 0) (by cases l with | nil => exact absurd rfl hx | cons y l => simp [strCells])
  exact ⟨hb2, fun e => by have := (h.lt _ e).1; omega⟩
end Go.Proofs.Ytikemkgedmbijaa

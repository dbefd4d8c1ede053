/-
  's[l:h]', cut in the middle. Nothing of the program.
-/
import Derived.Test.YtbcpfakdmnccmaaDoorLaw2
namespace Go.Proofs.YtbcpfakdmnccmaaDoor
open Go.RowKit

theorem run_slice_mid {P : Program} {w : World} {v : Value} {cs : List Value} (t e : TypeId) {i : TypeInfo} (ht : P.underlying t = some (.slice e)) (hi : P.info? e = some i) (hsz : i.size = 1) (h : Sl w v cs) (n m : Nat) (hnm : n ≤ m) (hm : m ≤ cs.length) :
    ∃ ao c, (∀ wx, (Instr.slice t v (some (.int .i64 n)) (some (.int .i64 m)) none).run P wx = .ok (.slice ao (m - n) c) wx) ∧ Sl w (.slice ao (m - n) c) ((cs.drop n).take (m - n)) ∧ (∀ a, ao = some a → ∃ a' k' c', v = .slice (some a') k' c' ∧ a.block = a'.block) := by
  obtain ⟨ao, cap, rfl, hnone, hcap, hc⟩ := h
  have hl : ((cs.drop n).take (m - n)).length = m - n := by rw [List.length_take, List.length_drop]; omega
  refine ⟨if cap = n then ao else ao.map (·.add n), cap - n, fun wx => ?_, ⟨_, cap - n, by rw [hl], fun h => ?_, by rw [hl]; omega, fun a ha j u hu => ?_⟩, fun a e => ?_⟩
  · have h1 : (n : Int) ≤ m := by omega
    have h2 : (m : Int) ≤ cap := by omega
    simp [Instr.slice, run_underlying ht, Instr.sliceBounds, run_sliceBound, sizeOf, typeInfo, hi, hsz, h1, h2]
  · have : ao = none := by
      split at h
      · exact h
      · simpa using h
    simp [hnone this]
  · rw [List.getElem?_take] at hu
    split at hu
    · rw [List.getElem?_drop] at hu
      have hlt := (List.getElem?_eq_some_iff.1 hu).1
      rw [if_neg (by omega)] at ha
      cases ao with
      | none => cases ha
      | some b =>
        cases ha
        rw [addr_add_add]
        exact hc b rfl _ u hu
    · cases hu
  · split at e
    · exact ⟨a, _, _, by rw [e], rfl⟩
    · cases ao with
      | none => simp at e
      | some b =>
        simp at e
        exact ⟨b, _, _, rfl, by rw [← e, addr_add_block]⟩

/-- 'append' within the capacity of a block that is known whole: the block behind it. -/
theorem run_append_exact {P : Program} {w : World} (t tx ty e : TypeId) {i : TypeInfo} (size : Nat) (ht : P.underlying t = some (.slice e)) (hi : P.info? e = some i) (hsize : i.size = size)
    (g n cap : Nat) (cur : Array Value) (hg : w.heap[g]? = some (.cells cur e (0, 0))) (x : Value) (m : Nat) (news : List Value) (hs : Src P size tx x m news w) (hroom : n + m ≤ cap) (hfit : n * size + news.length ≤ cur.size) :
    (Builtin.append_ #[t, tx] ty #[.slice (some ⟨g, 0, none⟩) n cap, x]).run P w = .ok (.slice (some ⟨g, 0, none⟩) (n + m) cap) (w.setRow g (cur.toList.take (n * size) ++ news ++ cur.toList.drop (n * size + news.length)).toArray) := by
  subst hsize
  have hst := run_storeCells_at P g (n * i.size) e news 0 cur w hg (by simpa using hfit) hs.one
  simp only [Nat.add_zero] at hst
  have hc := hs.cells
  have hln := hs.len
  rcases hs.kind with ⟨e', hk⟩ | hk <;>
    simp [Builtin.append_, run_underlying ht, run_underlying hk, sizeOf, typeInfo, hi, hln, hroom, hc, Addr.add_lit, hst]

theorem wpList_append_exact {P : Program} {w : World} {ops : Array Oper} {rest : List Oper} {o : Oper} {a : Act} {Q : Exit → Act → World → Prop} (hgd : o.guard = none) (s sx : Operand) (t tx : TypeId)
    (ho : o.op = .call { callee := .builtin .append, args := #[s, sx], argTypes := #[t, tx] })
    (e : TypeId) {i : TypeInfo} (size : Nat) (ht : P.underlying t = some (.slice e)) (hi : P.info? e = some i) (hsize : i.size = size)
    (g n cap : Nat) (cur : Array Value) (he : a.eval s = .slice (some ⟨g, 0, none⟩) n cap) (hg : w.heap[g]? = some (.cells cur e (0, 0))) (x : Value) (m : Nat) (news : List Value) (hx : a.eval sx = x) (hs : Src P size tx x m news w)
    (hroom : n + m ≤ cap) (hfit : n * size + news.length ≤ cur.size)
    (h : ∀ w', w'.heap[g]? = some (.cells (cur.toList.take (n * size) ++ news ++ cur.toList.drop (n * size + news.length)).toArray e (0, 0)) → Keep (· = g) w w' → wpList P ops Q rest (a.put o.dst (.slice (some ⟨g, 0, none⟩) (n + m) cap)) w') : wpList P ops Q (o :: rest) a w := by
  refine wpList_plain hgd fun K hK => ?_
  have hr := run_append_exact (P := P) t tx o.type e size ht hi hsize g n cap cur hg x m news hs hroom hfit
  unfold Oper.wp execOp
  simp only [ho, resolve, invoke, builtin, Sem.run_bind, Sem.run_pure, Result.andThen_ok, List.map_toArray, List.map_cons, List.map_nil, he, hx, hr]
  exact hK _ _ (h _ (setRow_heap w g cur _ e _ hg) ⟨rfl, rfl, rfl, by simp [World.setRow], fun k _ hk => setRow_other w g k _ hk⟩)
end Go.Proofs.YtbcpfakdmnccmaaDoor

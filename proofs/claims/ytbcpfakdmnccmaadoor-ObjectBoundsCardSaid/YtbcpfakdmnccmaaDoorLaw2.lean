/-
  What slices show, cut, read as a string, read one by one. Nothing of the program.
-/
import Derived.Test.YtbcpfakdmnccmaaDoorLaw
import Derived.Laws.BytesArg
import Derived.IntWalk
import Derived.Deep.AppendLies
import Derived.Laws.BitsAllLaws
import Derived.Laws.Bits64
namespace Go.Proofs.YtbcpfakdmnccmaaDoor
open Go.RowKit

theorem addr_add_block (a : Addr) (j : Nat) : (a.add j).block = a.block := by unfold Addr.add; split <;> rfl
theorem addr_add_add (a : Addr) (i j : Nat) : (a.add i).add j = a.add (i + j) := by
  unfold Addr.add
  by_cases hi : i = 0
  · simp [hi]
  · by_cases hj : j = 0
    · simp [hj]
    · simp [hi, hj, Nat.add_assoc]

theorem run_loadCells_sl {P : Program} {w : World} {a : Addr} (cs : List Value) (hc : ∀ j u, cs[j]? = some u → w.cell? (a.add j) = some u) : (loadCells a cs.length).run P w = .ok cs.toArray w :=
  run_loadCells_list (P := P) w a cs (fun j v hj => hc j v hj)

theorem run_string_of {P : Program} {w : World} {v : Value} {bs : List UInt8} (src dst e : TypeId) (hs : P.underlying src = some (.slice e)) (he : P.underlying e = some (.int .u8)) (hd : P.underlying dst = some .string)
    (h : Sl w v (Lib.byteCells bs)) : (convert src dst v).run P w = .ok (.string ⟨bs.toArray⟩) w := by
  obtain ⟨ao, cap, rfl, hn, _, hc⟩ := h
  cases ao with
  | none =>
    have : bs = [] := by simpa [Lib.byteCells] using hn rfl
    subst this
    exact run_convert_bytes_nil w src e hs he _ _ dst hd
  | some a =>
    have hl := run_loadCells_sl (P := P) (w := w) (a := a) (Lib.byteCells bs) (hc a rfl)
    have hm : Lib.byteCells bs = (bs.map fun b => (b.toNat : Int)).map (Value.int .u8) := by simp [Lib.byteCells]
    rw [run_convert_bytes_string w src dst e _ _ cap hs he hd, run_bytesToString w a _ cap (bs.map fun b => (b.toNat : Int)) (by rw [← hm]; exact hl), foldl_push_bytes]
    have hb : (bs.map fun b => (b.toNat : Int)).map (fun n => UInt8.ofNat n.toNat) = bs := by
      rw [List.map_map]
      exact List.map_id'' (fun b => by simp) bs
    rw [hb]
    simp [ByteArray.empty, ByteArray.emptyWithCapacity]
    rfl

/-- 's[:n]'. -/
theorem run_slice_to {P : Program} {w : World} {v : Value} {cs : List Value} (t e : TypeId) {i : TypeInfo} (ht : P.underlying t = some (.slice e)) (hi : P.info? e = some i) (h : Sl w v cs) (n : Nat) (hn : n ≤ cs.length) :
    ∃ v', (∀ wx, (Instr.slice t v none (some (.int .i64 n)) none).run P wx = .ok v' wx) ∧ Sl w v' (cs.take n) ∧ (∀ a k c, v' = .slice (some a) k c → ∃ a' k' c', v = .slice (some a') k' c' ∧ a.block = a'.block) ∧ (∃ ao c, v' = .slice ao n c) := by
  obtain ⟨ao, cap, rfl, hnone, hcap, hc⟩ := h
  refine ⟨.slice ao n cap, fun wx => ?_, ⟨ao, cap, by rw [List.length_take, Nat.min_eq_left hn], fun h => by simp [hnone h], by rw [List.length_take]; omega, fun a ha j u hu => ?_⟩, fun a k c e => ?_, ao, cap, rfl⟩
  · have h2 : (n : Int) ≤ cap := by omega
    simp [Instr.slice, run_underlying ht, Instr.sliceBounds, run_sliceBound, sizeOf, typeInfo, hi, h2]
    intro _
    cases ao <;> simp [Addr.add]
  · rw [List.getElem?_take] at hu
    split at hu
    · exact hc a ha j u hu
    · cases hu
  · cases e
    exact ⟨a, _, _, rfl, rfl⟩

/-- 's[n:]'. -/
theorem run_slice_from {P : Program} {w : World} {v : Value} {cs : List Value} (t e : TypeId) {i : TypeInfo} (ht : P.underlying t = some (.slice e)) (hi : P.info? e = some i) (hsz : i.size = 1) (h : Sl w v cs) (n : Nat) (hn : n ≤ cs.length) :
    ∃ v', (∀ wx, (Instr.slice t v (some (.int .i64 n)) none none).run P wx = .ok v' wx) ∧ Sl w v' (cs.drop n) ∧ (∀ a k c, v' = .slice (some a) k c → ∃ a' k' c', v = .slice (some a') k' c' ∧ a.block = a'.block) ∧ (∃ ao c, v' = .slice ao (cs.length - n) c) := by
  obtain ⟨ao, cap, rfl, hnone, hcap, hc⟩ := h
  refine ⟨.slice (if cap = n then ao else ao.map (·.add n)) (cs.length - n) (cap - n), fun wx => ?_, ⟨_, cap - n, by rw [List.length_drop], fun h => ?_, by rw [List.length_drop]; omega, fun a ha j u hu => ?_⟩, fun a k c e => ?_, _, _, rfl⟩
  · have h2 : (n : Int) ≤ cs.length := by omega
    simp [Instr.slice, run_underlying ht, Instr.sliceBounds, run_sliceBound, sizeOf, typeInfo, hi, hsz, h2]
  · have : ao = none := by
      split at h
      · exact h
      · simpa using h
    simp [hnone this]
  · rw [List.getElem?_drop] at hu
    have hlt := (List.getElem?_eq_some_iff.1 hu).1
    rw [if_neg (by omega)] at ha
    cases ao with
    | none => cases ha
    | some b =>
      cases ha
      rw [addr_add_add]
      exact hc b rfl _ u hu
  · simp only [Value.slice.injEq] at e
    split at e
    · exact ⟨a, _, _, by rw [e.1], rfl⟩
    · cases ao with
      | none => simp at e
      | some b =>
        simp at e
        exact ⟨b, _, _, rfl, by rw [← e.1, addr_add_block]⟩

/-- 's[i]', read. -/
theorem Sl.at {w : World} {v : Value} {cs : List Value} (h : Sl w v cs) {i : Nat} (hi : i < cs.length) : ∃ a c, v = .slice (some a) cs.length c ∧ w.cell? (a.add i) = some cs[i] := by
  obtain ⟨ao, cap, rfl, hn, hcap, hc⟩ := h
  cases ao with
  | none => rw [hn rfl] at hi; simp at hi
  | some a => exact ⟨a, cap, rfl, hc a rfl i _ (List.getElem?_eq_getElem hi)⟩
/-- A byte, read: the byte behind a name. -/
theorem Sl.byteAt {w : World} {v : Value} {l : List UInt8} (h : Sl w v (Lib.byteCells l)) {i : Nat} (hi : i < l.length) :
    ∃ a c b, v = .slice (some a) l.length c ∧ w.cell? (a.add i) = some (.int .u8 (UInt8.toNat b)) ∧ l[i]? = some b := by
  obtain ⟨a, c, hv, hc⟩ := h.at (i := i) (by rw [Lib.byteCells_length]; exact hi)
  rw [Lib.byteCells_length] at hv
  exact ⟨a, c, l[i], hv, by simpa [Lib.byteCells] using hc, List.getElem?_eq_getElem hi⟩

theorem Sl.form {w : World} {v : Value} {cs : List Value} (h : Sl w v cs) : ∃ ao cap, v = .slice ao cs.length cap := by
  obtain ⟨ao, cap, rfl, _⟩ := h
  exact ⟨ao, cap, rfl⟩
theorem Sl.byteAt' {w : World} {ao : Option Addr} {n cap : Nat} {l : List UInt8} (h : Sl w (.slice ao n cap) (Lib.byteCells l)) {i : Nat} (hi : i < l.length) :
    ∃ a b, ao = some a ∧ w.cell? (a.add i) = some (.int .u8 (UInt8.toNat b)) ∧ l[i]? = some b := by
  obtain ⟨a, c, b, hv, h1, h2⟩ := h.byteAt hi
  exact ⟨a, b, by simpa using (Value.slice.inj hv).1, h1, h2⟩
/-- A slice's element, read, behind a name. -/
theorem Sl.elemAt' {α : Type} {f : α → Value} {w : World} {ao : Option Addr} {n cap : Nat} {l : List α} (h : Sl w (.slice ao n cap) (l.map f)) {i : Nat} (hi : i < l.length) :
    ∃ a x, ao = some a ∧ w.cell? (a.add i) = some (f x) ∧ l[i]? = some x := by
  obtain ⟨a, c, hv, h1⟩ := h.at (i := i) (by rw [List.length_map]; exact hi)
  exact ⟨a, l[i], by simpa using (Value.slice.inj hv).1, by simpa using h1, List.getElem?_eq_getElem hi⟩

/-- What is old stays, whatever a block that came later does. -/
theorem Sl.far {w0 w w' : World} {v : Value} {cs : List Value} {br : Nat} (h : Sl w v cs) (h0 : Sl w0 v cs) (hb : w0.heap.size ≤ br) (hk : Keep (· = br) w w') : Sl w' v cs := by
  obtain ⟨ao, cap, rfl, hn, hcap, hc⟩ := h
  obtain ⟨ao', cap', hv, _, _, hc'⟩ := h0
  obtain ⟨rfl, _, rfl⟩ := Value.slice.inj hv
  refine ⟨ao, cap, rfl, hn, hcap, fun a ha j u hu => ?_⟩
  have e1 := World.block_lt_of_cell? w0 _ (hc' a ha j u hu)
  have e2 := World.block_lt_of_cell? w _ (hc a ha j u hu)
  exact (World.cell?_of_block (w := w) (hk.block _ e2 (by show ¬ _ = br; omega))).trans (hc a ha j u hu)

theorem Sl.lt {w : World} {a : Addr} {n c : Nat} {cs : List Value} (h : Sl w (.slice (some a) n c) cs) {i : Nat} (hi : i < cs.length) : a.block < w.heap.size := by
  obtain ⟨a', c', hv, h1⟩ := h.at hi
  obtain ⟨e, _, _⟩ := Value.slice.inj hv
  obtain rfl : a = a' := by simpa using e
  have := World.block_lt_of_cell? w _ h1
  rwa [addr_add_block] at this
/-- A cell of a block that came earlier stays. -/
theorem Keep.cell {w w' : World} {br : Nat} (hk : Keep (· = br) w w') {a : Addr} {j : Nat} {v : Value} (h : w.cell? (a.add j) = some v) (hne : a.block ≠ br) : w'.cell? (a.add j) = some v := by
  have hlt := World.block_lt_of_cell? w _ h
  exact (World.cell?_of_block (w := w) (hk.block _ hlt (by rw [addr_add_block]; exact hne))).trans h

/-- The number that bytes make, the lowest first. -/
def numOf : List UInt8 → Nat
  | [] => 0
  | b :: l => b.toNat + 256 * numOf l
theorem numOf_snoc (l : List UInt8) (b : UInt8) : numOf (l ++ [b]) = numOf l + b.toNat * 2 ^ (8 * l.length) := by
  induction l with
  | nil => simp [numOf]
  | cons a l ih =>
    rw [List.cons_append, numOf, numOf, ih, List.length_cons, show 8 * (l.length + 1) = 8 + 8 * l.length from by omega, Nat.pow_add, Nat.mul_add]
    rw [show (2 : Nat) ^ 8 = 256 from rfl]
    rw [← Nat.add_assoc]
    congr 1
    rw [Nat.mul_left_comm]
theorem numOf_lt (l : List UInt8) : numOf l < 2 ^ (8 * l.length) := by
  induction l with
  | nil => simp [numOf]
  | cons a l ih =>
    rw [numOf, List.length_cons, show 8 * (l.length + 1) = 8 + 8 * l.length from by omega, Nat.pow_add]
    have := a.toNat_lt
    have h2 : (2 : Nat) ^ 8 = 256 := rfl
    rw [h2]
    have : 256 * numOf l + 256 ≤ 256 * 2 ^ (8 * l.length) := by rw [← Nat.mul_succ]; exact Nat.mul_le_mul_left _ ih
    omega
theorem take_snoc {α : Type} {l : List α} {k : Nat} {b : α} (h : l[k]? = some b) : l.take (k + 1) = l.take k ++ [b] := by
  rw [List.take_add_one, h]
  rfl

/-- One byte more of a number: 'v | uint64(b) << (8*k)'. -/
theorem or_step (a b k : Nat) (ha : a < 2 ^ (8 * k)) (hb : b < 256) (hk : k < 8) :
    bits .or .u64 (a : Int) (IntKind.u64.wrap (IntKind.u64.wrap (b : Int) * 2 ^ (8 * k))) = ((a + b * 2 ^ (8 * k) : Nat) : Int) := by
  have hp : (2 : Nat) ^ (8 * k) ≤ 2 ^ 56 := Nat.pow_le_pow_right (by omega) (by omega)
  have h56 : (2 : Nat) ^ 56 = 72057594037927936 := by decide
  have hbp : b * 2 ^ (8 * k) < 18446744073709551616 := by
    have : b * 2 ^ (8 * k) ≤ 255 * 2 ^ 56 := Nat.mul_le_mul (by omega) hp
    omega
  have e1 : IntKind.u64.wrap (b : Int) = (b : Int) := by rw [IntKind.wrap_u64]; omega
  have e2 : (b : Int) * 2 ^ (8 * k) = ((b * 2 ^ (8 * k) : Nat) : Int) := by simp
  have e3 : IntKind.u64.wrap ((b * 2 ^ (8 * k) : Nat) : Int) = ((b * 2 ^ (8 * k) : Nat) : Int) := by rw [IntKind.wrap_u64]; omega
  rw [e1, e2, e3, u64_or_nat _ _ (by omega) hbp, Nat.or_comm, nat_join (8 * k) _ _ (Nat.mul_mod_left _ _) ha, Nat.add_comm]

/-- A block that is known whole, as a slice of its own. -/
theorem Sl.ofBlock {w : World} {b : Nat} {cs : Array Value} {t : TypeId} {fr : Nat × Nat} (h : w.heap[b]? = some (.cells cs t fr)) : Sl w (.slice (some ⟨b, 0, none⟩) cs.size cs.size) cs.toList :=
  ⟨some ⟨b, 0, none⟩, cs.size, by rw [Array.length_toList], (fun h => by cases h), by rw [Array.length_toList]; exact Nat.le_refl _, fun a ha => by cases ha; exact World.news_of_block h⟩
end Go.Proofs.YtbcpfakdmnccmaaDoor

/-
  bytes.IndexByte at a slice that shows bytes; '[]byte(s)' as a slice that shows a string's bytes; a text's first line, as mathematics.
-/
import Derived.Test.YtikemkgedmbijaaLinM
import Derived.Test.YtikemkgedmbijaaHelpS
import Derived.Test.YtikemkgedmbijaaStr
import Derived.Lib.BytesEntry
import Derived.Shelf.Bytes.SlIndexAt
import Derived.Laws.IdiomStrings
namespace Go.Proofs.Ytikemkgedmbijaa
open Go.RowKit

section
variable {P : Program}
/-- The model's own look for a byte, at a slice that shows these bytes. -/
theorem run_indexByte_sl (w : World) {v : Value} {l : List UInt8} (h : Sl w v (Lib.byteCells l)) (c : UInt8) :
    (Extern.BytealgIndexByte.indexByte #[v, .int .u8 (c.toNat : Int)]).run P w = .ok (.int .i64 (Lib.indexByte l c)) w := by
  obtain ⟨ao, cap, rfl, hn, _, hc⟩ := h
  cases ao with
  | none =>
    have : l = [] := by simpa [Lib.byteCells] using hn rfl
    subst this
    exact Lib.run_indexByteNil w _ cap _
  | some a =>
    have hr := Lib.run_indexByteAt (P := P) w a l.length cap (l.map fun b => (b.toNat : Int)) (by simp) (fun i hi => by
      refine hc a rfl i _ ?_
      simp [Lib.byteCells, hi]) (c.toNat : Int)
    have hb : Lib.bytesOf (l.map fun b => (b.toNat : Int)) = l := by
      unfold Lib.bytesOf
      rw [List.map_map]
      exact List.map_id'' (fun b => by simp) l
    rw [hb, show ((c.toNat : Int)).toNat.toUInt8 = c by simp] at hr
    rw [Lib.byteCells_length]
    exact hr

/-- '[]byte(s)'. -/
theorem conv_sl (w : World) (src dst e : TypeId) (l : List UInt8) (hs : P.underlying src = some .string) (hd : P.underlying dst = some (.slice e)) (he : P.underlying e = some (.int .u8)) :
    ∃ cap w', (convert src dst (.string ⟨l.toArray⟩)).run P w = .ok (.slice (some ⟨w.heap.size, 0, none⟩) l.length cap) w' ∧ Sl w' (.slice (some ⟨w.heap.size, 0, none⟩) l.length cap) (Lib.byteCells l) ∧ w'.heap.size = w.heap.size + 1 ∧ Below w.heap.size w w' := by
  have hr := run_bytes_of_string (P := P) w src dst e ⟨l.toArray⟩ hs hd he
  have hsz : (ByteArray.mk l.toArray).size = l.length := by
    show l.toArray.size = l.length
    simp
  rw [hsz] at hr
  have hge := grownCap_ge w l.length 0 e
  have hg := heap_alloc_new w.drew (.cells (bytesRow ⟨l.toArray⟩ (grownCap w l.length 0 e)) e ((bytesRow ⟨l.toArray⟩ (grownCap w l.length 0 e)).size, (bytesRow ⟨l.toArray⟩ (grownCap w l.length 0 e)).size + 1))
  rw [show w.drew.heap.size = w.heap.size from rfl] at hg
  refine ⟨_, _, hr, ⟨_, _, by rw [Lib.byteCells_length], (fun h => by cases h), by rw [Lib.byteCells_length]; exact hge, fun a ha j u hu => ?_⟩, by simp, ((Below.refl _ _).drew).alloc (Nat.le_refl _) _⟩
  cases ha
  rw [Addr.add_lit, Nat.zero_add]
  have hj : j < l.length := by
    have := (List.getElem?_eq_some_iff.1 hu).1
    rwa [Lib.byteCells_length] at this
  simp only [World.cell?, hg]
  show (bytesRow ⟨l.toArray⟩ (grownCap w l.length 0 e))[j]? = _
  rw [bytesRow, Array.getElem?_append_left (by simpa using hj), ← hu]
  simp [Lib.byteCells]
end

/-- How many bytes a text's first line takes. -/
def lineLen : List UInt8 → Nat
  | [] => 0
  | b :: s => if b = 10 then 1 else lineLen s + 1
theorem lineLen_le (s : List UInt8) : lineLen s ≤ s.length := by
  induction s with
  | nil => simp [lineLen]
  | cons b s ih =>
    simp only [lineLen, List.length_cons]
    split <;> omega
theorem lineLen_pos {s : List UInt8} (h : 0 < s.length) : 0 < lineLen s := by
  cases s with
  | nil => simp at h
  | cons b s => simp only [lineLen]; split <;> omega
theorem lineLen_index (s : List UInt8) : Lib.indexByte s 10 = -1 ∧ lineLen s = s.length ∨ 0 ≤ Lib.indexByte s 10 ∧ Lib.indexByte s 10 + 1 = (lineLen s : Int) := by
  induction s with
  | nil => left; simp [Lib.indexByte, lineLen]
  | cons b s ih =>
    by_cases hb : b = 10
    · right
      subst hb
      simp [Lib.indexByte, lineLen]
    · have hb' : (b == 10) = false := by simpa using hb
      simp only [Lib.indexByte, lineLen, hb', if_neg hb, List.length_cons]
      rcases ih with ⟨h1, h2⟩ | ⟨h1, h2⟩
      · left
        simp [h1, h2]
      · right
        have : (Lib.indexByte s 10 == -1) = false := by simp; omega
        simp [this]
        omega
theorem linesOf_first {s : List UInt8} (h : 0 < s.length) : linesOf s = s.take (lineLen s) :: linesOf (s.drop (lineLen s)) := by
  induction s with
  | nil => simp at h
  | cons b s ih =>
    by_cases hb : b = 10
    · simp [linesOf, lineLen, hb]
    · simp only [linesOf, lineLen, if_neg hb, List.take_succ_cons, List.drop_succ_cons]
      by_cases hs : 0 < s.length
      · rw [ih hs]
      · have : s = [] := List.eq_nil_of_length_eq_zero (by omega)
        subst this
        simp [linesOf]
/-- A line's end. -/
def endedB (x : List UInt8) : Bool := x.getLast? == some 10
/-- What is split into itself, line by line. -/
def wholeB : List (List UInt8) → Bool
  | [] => true
  | x :: l => (decide (0 < x.length) && (lineLen x == x.length)) && (l.isEmpty || endedB x) && wholeB l

theorem lineLen_one {x r : List UInt8} (hx : 0 < x.length) (h : lineLen x = x.length) (he : endedB x = true) : lineLen (x ++ r) = x.length := by
  induction x with
  | nil => simp at hx
  | cons b x ih =>
    by_cases hb : b = 10
    · simp only [lineLen, if_pos hb, List.length_cons] at h
      simp only [List.cons_append, lineLen, if_pos hb, List.length_cons]
      omega
    · simp only [lineLen, if_neg hb, List.length_cons] at h
      simp only [List.cons_append, lineLen, if_neg hb, List.length_cons]
      by_cases hx' : 0 < x.length
      · rw [ih hx' (by omega) (by
          cases x with
          | nil => simp at hx'
          | cons c y => simpa [endedB] using he)]
      · have : x = [] := List.eq_nil_of_length_eq_zero (by omega)
        subst this
        simp [endedB] at he
        exact absurd he hb
theorem lineLen_take (s : List UInt8) : lineLen (s.take (lineLen s)) = lineLen s := by
  induction s with
  | nil => simp [lineLen]
  | cons b s ih =>
    by_cases hb : b = 10
    · simp [lineLen, hb]
    · simp only [lineLen, if_neg hb, List.take_succ_cons, ih]
theorem ended_take {s : List UInt8} (h : lineLen s < s.length) : endedB (s.take (lineLen s)) = true := by
  induction s with
  | nil => simp at h
  | cons b s ih =>
    by_cases hb : b = 10
    · simp [lineLen, hb, endedB]
    · simp only [lineLen, if_neg hb, List.length_cons] at h
      have hp : 0 < lineLen s := lineLen_pos (by omega)
      have := ih (by omega)
      simp only [lineLen, if_neg hb, List.take_succ_cons]
      obtain ⟨c, y, hy⟩ : ∃ c y, s.take (lineLen s) = c :: y := by
        cases hq : s.take (lineLen s) with
        | nil =>
          have := congrArg List.length hq
          rw [List.length_take, Nat.min_eq_left (by omega), List.length_nil] at this
          omega
        | cons c y => exact ⟨c, y, rfl⟩
      rw [hy] at this ⊢
      simpa [endedB] using this

theorem whole_iff (l : List (List UInt8)) : wholeB l = (linesOf l.flatten == l) := by
  induction l with
  | nil => simp [wholeB, linesOf]
  | cons x l ih =>
    rw [Bool.eq_iff_iff]
    simp only [wholeB, Bool.and_eq_true, Bool.or_eq_true, decide_eq_true_eq, beq_iff_eq, ih, List.flatten_cons, List.isEmpty_iff]
    constructor
    · rintro ⟨⟨⟨hx, h1⟩, h2⟩, h3⟩
      rcases h2 with rfl | h2
      · simp only [List.flatten_nil, List.append_nil]
        rw [linesOf_first hx, h1]
        simp [linesOf]
      · have hL := lineLen_one (r := l.flatten) hx h1 h2
        rw [linesOf_first (by rw [List.length_append]; omega), hL]
        simp [h3]
    · intro h
      have hx : 0 < x.length := by
        have h1 := linesOf_ne (x ++ l.flatten)
        rw [h] at h1
        have := h1 x (List.mem_cons_self ..)
        exact List.length_pos_iff.2 this
      have hp : 0 < (x ++ l.flatten).length := by rw [List.length_append]; omega
      have hle := lineLen_le (x ++ l.flatten)
      rw [linesOf_first hp] at h
      obtain ⟨h1, h2⟩ := List.cons.inj h
      have hll : lineLen (x ++ l.flatten) = x.length := by
        have := congrArg List.length h1
        rw [List.length_take, Nat.min_eq_left hle] at this
        exact this
      have h4 := lineLen_take (x ++ l.flatten)
      rw [h1, hll] at h4
      rw [hll, List.drop_left] at h2
      refine ⟨⟨⟨hx, h4⟩, ?_⟩, h2⟩
      by_cases hl : l = []
      · exact Or.inl hl
      · right
        have hne : 0 < l.flatten.length := by
          cases l with
          | nil => exact absurd rfl hl
          | cons y l' =>
            have h5 := linesOf_ne ((y :: l').flatten)
            rw [h2] at h5
            have := List.length_pos_iff.2 (h5 y (List.mem_cons_self ..))
            simp only [List.flatten_cons, List.length_append]
            omega
        have := ended_take (s := x ++ l.flatten) (by rw [hll, List.length_append]; omega)
        rwa [h1] at this
end Go.Proofs.Ytikemkgedmbijaa

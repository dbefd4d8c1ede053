/-
  bytes.IndexByte at a slice that shows bytes; '[]byte(s)' as a slice that shows a string's bytes; a text's first line, as mathematics. Package lines: Split, by a contract.
-/
import Derived.Test.YtnpgfbgnbonhfaaLinM
import Derived.Test.YtnpgfbgnbonhfaaHelpS
import Derived.Test.YtnpgfbgnbonhfaaStr
import Derived.Test.YtnpgfbgnbonhfaaConv
import Derived.Lib.BytesEntry
import Derived.Shelf.Bytes.SlIndexAt
import Derived.Laws.IdiomStrings
namespace Go.Proofs.Ytnpgfbgnbonhfaa
open Go.RowKit

section
variable {P : Program}
/-- The model's own look for a byte, at a slice that shows these bytes. -/
theorem run_indexByte_sl (w : World) {v : Value} {l : List UInt8} (h : Sl w v (Lib.byteCells l)) (c : UInt8) :
    (Extern.BytealgIndexByte.indexByte #[v, .int .u8 (c.toNat : Int)]).run P w = .ok (.int .i64 (Lib.indexByte l c)) w := by
  obtain ⟨ao, cap, rfl, hn, _, hc⟩ := h
  cases ao with
  | none =>
    have : l = [] := by simpa [Lib.byteCells] using hn rfl
    subst this
    exact Lib.run_indexByteNil w _ cap _
  | some a =>
    have hr := Lib.run_indexByteAt (P := P) w a l.length cap (l.map fun b => (b.toNat : Int)) (by simp) (fun i hi => by
      refine hc a rfl i _ ?_
      simp [Lib.byteCells, hi]) (c.toNat : Int)
    have hb : Lib.bytesOf (l.map fun b => (b.toNat : Int)) = l := by
      unfold Lib.bytesOf
      rw [List.map_map]
      exact List.map_id'' (fun b => by simp) l
    rw [hb, show ((c.toNat : Int)).toNat.toUInt8 = c by simp] at hr
    rw [Lib.byteCells_length]
    exact hr

end

/-- How many bytes a text's first line takes. -/
def lineLen : List UInt8 → Nat
  | [] => 0
  | b :: s => if b = 10 then 1 else lineLen s + 1
theorem lineLen_le (s : List UInt8) : lineLen s ≤ s.length := by
  induction s with
  | nil => simp [lineLen]
  | cons b s ih =>
    simp only [lineLen, List.length_cons]
    split <;> omega
theorem lineLen_pos {s : List UInt8} (h : 0 < s.length) : 0 < lineLen s := by
  cases s with
  | nil => simp at h
  | cons b s => simp only [lineLen]; split <;> omega
theorem lineLen_index (s : List UInt8) : Lib.indexByte s 10 = -1 ∧ lineLen s = s.length ∨ 0 ≤ Lib.indexByte s 10 ∧ Lib.indexByte s 10 + 1 = (lineLen s : Int) := by
  induction s with
  | nil => left; simp [Lib.indexByte, lineLen]
  | cons b s ih =>
    by_cases hb : b = 10
    · right
      subst hb
      simp [Lib.indexByte, lineLen]
    · have hb' : (b == 10) = false := by simpa using hb
      simp only [Lib.indexByte, lineLen, hb', if_neg hb, List.length_cons]
      rcases ih with ⟨h1, h2⟩ | ⟨h1, h2⟩
      · left
        simp [h1, h2]
      · right
        have : (Lib.indexByte s 10 == -1) = false := by simp; omega
        simp [this]
        omega
theorem linesOf_first {s : List UInt8} (h : 0 < s.length) : linesOf s = s.take (lineLen s) :: linesOf (s.drop (lineLen s)) := by
  induction s with
  | nil => simp at h
  | cons b s ih =>
    by_cases hb : b = 10
    · simp [linesOf, lineLen, hb]
    · simp only [linesOf, lineLen, if_neg hb, List.take_succ_cons, List.drop_succ_cons]
      by_cases hs : 0 < s.length
      · rw [ih hs]
      · have : s = [] := List.eq_nil_of_length_eq_zero (by omega)
        subst this
        simp [linesOf]
/-- A line's end. -/
def endedB (x : List UInt8) : Bool := x.getLast? == some 10
/-- What is split into itself, line by line. -/
def wholeB : List (List UInt8) → Bool
  | [] => true
  | x :: l => (decide (0 < x.length) && (lineLen x == x.length)) && (l.isEmpty || endedB x) && wholeB l

theorem lineLen_one {x r : List UInt8} (hx : 0 < x.length) (h : lineLen x = x.length) (he : endedB x = true) : lineLen (x ++ r) = x.length := by
  induction x with
  | nil => simp at hx
  | cons b x ih =>
    by_cases hb : b = 10
    · simp only [lineLen, if_pos hb, List.length_cons] at h
      simp only [List.cons_append, lineLen, if_pos hb, List.length_cons]
      omega
    · simp only [lineLen, if_neg hb, List.length_cons] at h
      simp only [List.cons_append, lineLen, if_neg hb, List.length_cons]
      by_cases hx' : 0 < x.length
      · rw [ih hx' (by omega) (by
          cases x with
          | nil => simp at hx'
          | cons c y => simpa [endedB] using he)]
      · have : x = [] := List.eq_nil_of_length_eq_zero (by omega)
        subst this
        simp [endedB] at he
        exact absurd he hb
theorem lineLen_take (s : List UInt8) : lineLen (s.take (lineLen s)) = lineLen s := by
  induction s with
  | nil => simp [lineLen]
  | cons b s ih =>
    by_cases hb : b = 10
    · simp [lineLen, hb]
    · simp only [lineLen, if_neg hb, List.take_succ_cons, ih]
theorem ended_take {s : List UInt8} (h : lineLen s < s.length) : endedB (s.take (lineLen s)) = true := by
  induction s with
  | nil => simp at h
  | cons b s ih =>
    by_cases hb : b = 10
    · simp [lineLen, hb, endedB]
    · simp only [lineLen, if_neg hb, List.length_cons] at h
      have hp : 0 < lineLen s := lineLen_pos (by omega)
      have := ih (by omega)
      simp only [lineLen, if_neg hb, List.take_succ_cons]
      obtain ⟨c, y, hy⟩ : ∃ c y, s.take (lineLen s) = c :: y := by
        cases hq : s.take (lineLen s) with
        | nil =>
          have := congrArg List.length hq
          rw [List.length_take, Nat.min_eq_left (by omega), List.length_nil] at this
          omega
        | cons c y => exact ⟨c, y, rfl⟩
      rw [hy] at this ⊢
      simpa [endedB] using this

theorem whole_iff (l : List (List UInt8)) : wholeB l = (linesOf l.flatten == l) := by
  induction l with
  | nil => simp [wholeB, linesOf]
  | cons x l ih =>
    rw [Bool.eq_iff_iff]
    simp only [wholeB, Bool.and_eq_true, Bool.or_eq_true, decide_eq_true_eq, beq_iff_eq, ih, List.flatten_cons, List.isEmpty_iff]
    constructor
    · rintro ⟨⟨⟨hx, h1⟩, h2⟩, h3⟩
      rcases h2 with rfl | h2
      · simp only [List.flatten_nil, List.append_nil]
        rw [linesOf_first hx, h1]
        simp [linesOf]
      · have hL := lineLen_one (r := l.flatten) hx h1 h2
        rw [linesOf_first (by rw [List.length_append]; omega), hL]
        simp [h3]
    · intro h
      have hx : 0 < x.length := by
        have h1 := linesOf_ne (x ++ l.flatten)
        rw [h] at h1
        have := h1 x (List.mem_cons_self ..)
        exact List.length_pos_iff.2 this
      have hp : 0 < (x ++ l.flatten).length := by rw [List.length_append]; omega
      have hle := lineLen_le (x ++ l.flatten)
      rw [linesOf_first hp] at h
      obtain ⟨h1, h2⟩ := List.cons.inj h
      have hll : lineLen (x ++ l.flatten) = x.length := by
        have := congrArg List.length h1
        rw [List.length_take, Nat.min_eq_left hle] at this
        exact this
      have h4 := lineLen_take (x ++ l.flatten)
      rw [h1, hll] at h4
      rw [hll, List.drop_left] at h2
      refine ⟨⟨⟨hx, h4⟩, ?_⟩, h2⟩
      by_cases hl : l = []
      · exact Or.inl hl
      · right
        have hne : 0 < l.flatten.length := by
          cases l with
          | nil => exact absurd rfl hl
          | cons y l' =>
            have h5 := linesOf_ne ((y :: l').flatten)
            rw [h2] at h5
            have := List.length_pos_iff.2 (h5 y (List.mem_cons_self ..))
            simp only [List.flatten_cons, List.length_append]
            omega
        have := ended_take (s := x ++ l.flatten) (by rw [hll, List.length_append]; omega)
        rwa [h1] at this
end Go.Proofs.Ytnpgfbgnbonhfaa

namespace Go.Proofs.Ytnpgfbgnbonhfaa
open Go.RowKit

section
set_option maxRecDepth 100000
set_option maxHeartbeats 2000000

theorem PIdx_any (v : Value) (l : List UInt8) (w : World) (hv : Sl w v (Lib.byteCells l)) :
    Calls Try.prog 52 #[v, .int .u8 10] w fun e w' => e = .returned (.int .i64 (Lib.indexByte l 10)) ∧ w = w' := by
  obtain ⟨ao, cap, rfl⟩ := hv.form
  have hr := run_indexByte_sl (P := Try.prog) w hv 10
  rw [show ((UInt8.toNat 10 : Nat) : Int) = 10 from rfl] at hr
  go_enter Try.func52, Try.ntmps52
  go_wp2
  rw [run_callFunc_extern Try.func64 (by kernel_rfl) (by kernel_rfl) (by kernel_rfl) (e := Extern.BytealgIndexByte.indexByte) (by kernel_rfl), hr]
  simp only [Result.andThen]
  rw [Oper.upon_value]
  go_wp2
  go_ret
  exact ⟨rfl, rfl⟩

theorem PFirst_any (v : Value) (l : List UInt8) (w : World) (hv : Sl w v (Lib.byteCells l)) (hl : l.length ≤ 1099511627776) :
    Calls Try.prog 37 #[v] w fun e w' => e = .returned (.int .i64 (lineLen l : Nat)) ∧ w = w' := by
  obtain ⟨ao, cap, rfl⟩ := hv.form
  have hx := lineLen_index l
  have hc := hid (PIdx_any _ l w hv)
  have hle := lineLen_le l
  rw [Lib.byteCells_length] at hc ⊢
  generalize Lib.indexByte l 10 = x at hx hc
  clear hv
  go_enter Try.func37, Try.ntmps37
  go_wp2_with fail
  refine hc.out.mono ?_
  rintro e w1 ⟨rfl, rfl⟩
  rcases hx with ⟨rfl, h2⟩ | ⟨h1, h2⟩
  · have H2 := hid h2
    clear h2 hle
    go_wp2
    go_ret
    exact ⟨ret_int (by rw [H2.out]), rfl⟩
  · have h1' : ¬ x < 0 := by omega
    have hw : IntKind.i64.wrap (x + 1) = x + 1 := IntWalk.i64_in _ (by omega)
    have H2 := hid h2
    clear h2 hle
    go_wp2
    go_ret
    exact ⟨ret_int H2.out, rfl⟩

theorem owns_base {w : World} {b b' : Nat} {e : TypeId} {size : Nat} {v : Value} {n : Nat} {xs : List Value} (h : w.ownsRow b e size v n xs) (hb : b' ≤ b) : w.ownsRow b' e size v n xs := by
  refine ⟨h.1, ?_⟩
  rcases h.2 with hn | ⟨g, cap, cur, rfl, hg, rest⟩
  · exact .inl hn
  · exact .inr ⟨g, cap, cur, rfl, Nat.le_trans hb hg, rest⟩

theorem PSplit_row (s : List UInt8) (w : World) (hlen : s.length ≤ 1099511627776) :
    Calls Try.prog 19 #[strV s] w fun e w' => ∃ v, e = .returned v ∧ w'.ownsRow w.heap.size 9 1 v (linesOf s).length (strCells (linesOf s)) ∧ Below w.heap.size w w' := by
  obtain ⟨i0, hi0, hi1, hi2, hi3⟩ := info_parts Try.infoStr
  obtain ⟨j0, hj0, hj1, hj2, hj3⟩ := info_parts Try.info5
  unfold strV
  obtain ⟨cap, wc, hcv, hsc, hzc, hbc⟩ := conv_sl (P := Try.prog) w 9 59 5 s Try.underlying9 Try.underlying59 Try.underlying5
  have HSC := hid hsc
  have HBC := hid hbc
  clear hsc hbc
  go_enter Try.func19, Try.ntmps19
  go_wp2_with fail
  go_loopw [3, 4] (fun l f wr => ∃ (ds : List (List UInt8)) (r : List UInt8) (ao : Option Addr) (cr : Nat), Hid (linesOf s = ds ++ linesOf r) ∧ r.length + ds.length ≤ s.length ∧ f = .slice ao r.length cr ∧ Hid (∀ a, ao = some a → a.block = w.heap.size) ∧ Hid (Sl wr f (Lib.byteCells r)) ∧ Hid (wr.ownsRow wc.heap.size 9 1 l ds.length (strCells ds)) ∧ Hid (Below wc.heap.size wc wr)) (fun _ f _ => match f with | .slice _ n _ => n | _ => 0)
  case atStart => exact ⟨[], s, _, _, hid (by simp), by simp, rfl, hid (fun a h => by cases h; rfl), HSC, hid (World.ownsRow_nil _ _ _ _), hid (Below.refl _ _)⟩
  case round =>
    obtain ⟨ds, r, ao, cr, HL, hlr, rfl, HB, HS, HO, HW⟩ := hrel
    have hz := HW.out.size
    by_cases h0 : 0 < r.length
    · have k0 : (0 : Int) < (r.length : Int) := by omega
      have hcf := hid (PFirst_any _ r wr HS.out (by omega))
      have hle := lineLen_le r
      have hpos := lineLen_pos h0
      obtain ⟨x, hx⟩ : ∃ x, r.take (lineLen r) = x := ⟨_, rfl⟩
      obtain ⟨y, hy⟩ : ∃ y, r.drop (lineLen r) = y := ⟨_, rfl⟩
      have hxl : x.length = lineLen r := by rw [← hx, List.length_take, Nat.min_eq_left hle]
      have hyl : r.length - lineLen r = y.length := by rw [← hy, List.length_drop]
      have HN := hid (show linesOf s = (ds ++ [x]) ++ linesOf y by rw [HL.out, linesOf_first h0, hx, hy]; simp)
      obtain ⟨v1, s1, hs1, _, a1, c1, rfl⟩ := run_slice_to (P := Try.prog) 59 5 Try.underlying59 hj0 HS.out (lineLen r) (by rw [Lib.byteCells_length]; exact hle)
      rw [← byteCells_take, hx] at hs1
      have hcs := run_string_of (P := Try.prog) 59 9 5 Try.underlying59 Try.underlying5 Try.underlying9 hs1
      obtain ⟨al, cl, hfl⟩ := owns_form HO.out
      subst hfl
      have g3 : ds.length + 1 ≤ maxLen := by unfold maxLen; omega
      have g4 : (ds.length + 1) * 16 ≤ 140737488355328 := by omega
      have hbase : wc.heap.size ≤ (wr.alloc (.cells #[.string ⟨x.toArray⟩] 9)).heap.size := by simp; omega
      obtain ⟨v2, s2, hs2, hb2, a2, c2, rfl⟩ := run_slice_from (P := Try.prog) 59 5 Try.underlying59 hj0 hj2 HS.out (lineLen r) (by rw [Lib.byteCells_length]; exact hle)
      rw [← byteCells_drop, hy] at hs2
      rw [Lib.byteCells_length, hyl] at s2 hs2 hb2
      have HB2 := hid (show ∀ a, a2 = some a → a.block = w.heap.size from fun a ha => by
        obtain ⟨a', k', c', e, e2⟩ := hb2 a _ _ (by rw [ha])
        rw [e2]
        exact HB.out a' (Value.slice.inj e).1)
      have HS2 := hid hs2
      have HXL := hid hxl
      have HYL := hid hyl
      have hpy : y.length < r.length := by omega
      have hcnt : y.length + (ds.length + 1) ≤ s.length := by omega
      clear hs1 hs2 hb2 hx hy hxl hyl hle h0 HL
      go_wp2_with fail
      refine hcf.out.mono ?_
      rintro e w1 ⟨rfl, rfl⟩
      go_wp2_with (refine wpList_append_any _ rfl (.tmp 13) (.tmp 18) _ _ rfl wc.heap.size 9 i0 _ 1 16 Try.underlying47 hi0 hi1 hi2 hi3 rfl (by omega) (.slice al ds.length cl) _ _ rfl (HO.out.alloc _) _ 1 [.string ⟨x.toArray⟩] rfl (Src.ofSlice _ Try.underlying47 ⟨wr.heap.size, 0, none⟩ 1 1 [.string ⟨x.toArray⟩] (by rfl) (World.news_of_block (cs := #[.string ⟨x.toArray⟩]) (t := 9) (fr := (0, 0)) (heap_alloc_new wr _)) (by simp [Value.oneCell'])) g3 g4 hbase ?_; intro v5 w5 hown5 hgrow5 hat5)
      have hlt5 := fun j hj => (HO.out.lt j hj).1
      have hb5 : Below wc.heap.size wc w5 := (HW.out.alloc hz _).grown hgrow5 hbase hlt5
      have R : w5.ownsRow wc.heap.size 9 1 v5 (ds ++ [x]).length (strCells (ds ++ [x])) := by
        rw [strCells_append, List.length_append]
        exact hown5
      have S5 : Sl w5 (.slice a2 y.length c2) (Lib.byteCells y) := by
        refine (Sl.alloc HS2.out (.cells #[.string ⟨x.toArray⟩] 9)).kept fun a n c e hlt => ?_
        have hbk := HB2.out a (Value.slice.inj e).1
        exact hgrow5.block _ hlt (fun e' => by have := hlt5 _ e'.symm; omega)
      have HR := hid R
      have H5 := hid S5
      have HB5 := hid hb5
      clear hown5 hgrow5 hat5 R S5 hb5 hlt5
      go_roundw
      case rel => exact ⟨ds ++ [x], y, a2, c2, HN, by simp; omega, rfl, HB2, H5, HR, HB5⟩
      case measure => simpa using hpy
    · have hr0 : r = [] := List.eq_nil_of_length_eq_zero (by omega)
      subst hr0
      have HE := hid (show linesOf s = ds by rw [HL.out]; simp [linesOf])
      clear HL h0
      go_wp2
      go_ret
      refine ⟨_, rfl, ?_, HBC.out.trans (HW.out.mono (by omega))⟩
      rw [HE.out]
      exact owns_base HO.out (by omega)

theorem PSplit_any (s : List UInt8) (w : World) (hlen : s.length ≤ 1099511627776) :
    Calls Try.prog 19 #[strV s] w fun e w' => ∃ v, e = .returned v ∧ Sl w' v (strCells (linesOf s)) ∧ Below w.heap.size w w' :=
  (PSplit_row s w hlen).mono fun _ _ ⟨v, h1, h2, h3⟩ => ⟨v, h1, Sl.ofOwns h2, h3⟩
end
end Go.Proofs.Ytnpgfbgnbonhfaa

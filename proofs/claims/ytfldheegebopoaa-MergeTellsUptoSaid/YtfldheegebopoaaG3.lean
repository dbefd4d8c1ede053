/-
  bytes.IndexByte at a slice that shows bytes; '[]byte(s)' as a slice that shows a string's bytes; a text's first line, as mathematics. Package lines: Split, by a contract. strings.Join: the shelf's contract, laid at this program; then at a slice that shows texts. Three texts in one (P10.1, P10.2), as mathematics. What follows of three texts in one: mathematics. A list of chunks of the call's own whose last one grows: its three lists are the call's own, too, apart from all else. Three texts in one (the document's own): marks, ended, mark, Plain. Three texts in one (the document's own): Merged of any chunks, Merge. Three texts in one (the document's own): Parse. Package merge3: the marks as a map; which line is a mark, and whether a line ends; each by a contract. Package merge3: marked, Pick, each by a contract (and Join of package lines). Package merge3: conflict, by a contract. Package merge3: Merge, by a contract. Package merge3: Plain. Package merge3: stableLast and put, each by a contract. Package merge3: put, by a contract. Package merge3: Parse, by a contract. The contracts of package merge3 that the laws of stage 10 use, in one place. few, awake (merge3).
-/
import Derived.Test.YtfldheegebopoaaLinM
import Derived.Test.YtfldheegebopoaaHelpS
import Derived.Test.YtfldheegebopoaaStr
import Derived.Lib.BytesEntry
import Derived.Shelf.Bytes.SlIndexAt
import Derived.Laws.IdiomStrings
import Derived.Shelf.Strings.OnBuilder
import Derived.Test.YtfldheegebopoaaProg
import Derived.Test.YtfldheegebopoaaScG
import Derived.Test.YtfldheegebopoaaLinE
import Derived.Test.YtfldheegebopoaaCkB
import Derived.Test.YtfldheegebopoaaRlnA
import Derived.Deep.LoopGhost
import Derived.Deep.QuietTactic
import Derived.Test.YtfldheegebopoaaCkF
import Derived.Deep.RegionLaw
import Derived.Deep.DeepCutAuto
import Derived.Deep.CutBlock
import Derived.Deep.CutRange
import Derived.Test.YtfldheegebopoaaBase
import Derived.Test.YtfldheegebopoaaLaw3
import Derived.Laws.IdiomMaps
import Derived.Maps.OwnSet
import Derived.Test.YtfldheegebopoaaEdB
import Derived.Test.YtfldheegebopoaaG2
namespace Go.Proofs.Ytfldheegebopoaa
open Go.RowKit

section
variable {P : Program}
/-- The model's own look for a byte, at a slice that shows these bytes. -/
theorem run_indexByte_sl (w : World) {v : Value} {l : List UInt8} (h : Sl w v (Lib.byteCells l)) (c : UInt8) :
    (Extern.BytealgIndexByte.indexByte #[v, .int .u8 (c.toNat : Int)]).run P w = .ok (.int .i64 (Lib.indexByte l c)) w := by
  obtain ⟨ao, cap, rfl, hn, _, hc⟩ := h
  cases ao with
  | none =>
    have : l = [] := by simpa [Lib.byteCells] using hn rfl
    subst this
    exact Lib.run_indexByteNil w _ cap _
  | some a =>
    have hr := Lib.run_indexByteAt (P := P) w a l.length cap (l.map fun b => (b.toNat : Int)) (by simp) (fun i hi => by
      refine hc a rfl i _ ?_
      simp [Lib.byteCells, hi]) (c.toNat : Int)
    have hb : Lib.bytesOf (l.map fun b => (b.toNat : Int)) = l := by
      unfold Lib.bytesOf
      rw [List.map_map]
      exact List.map_id'' (fun b => by simp) l
    rw [hb, show ((c.toNat : Int)).toNat.toUInt8 = c by simp] at hr
    rw [Lib.byteCells_length]
    exact hr

/-- '[]byte(s)'. -/
theorem conv_sl (w : World) (src dst e : TypeId) (l : List UInt8) (hs : P.underlying src = some .string) (hd : P.underlying dst = some (.slice e)) (he : P.underlying e = some (.int .u8)) :
    ∃ cap w', (convert src dst (.string ⟨l.toArray⟩)).run P w = .ok (.slice (some ⟨w.heap.size, 0, none⟩) l.length cap) w' ∧ Sl w' (.slice (some ⟨w.heap.size, 0, none⟩) l.length cap) (Lib.byteCells l) ∧ w'.heap.size = w.heap.size + 1 ∧ Below w.heap.size w w' := by
  have hr := run_bytes_of_string (P := P) w src dst e ⟨l.toArray⟩ hs hd he
  have hsz : (ByteArray.mk l.toArray).size = l.length := by
    show l.toArray.size = l.length
    simp
  rw [hsz] at hr
  have hge := grownCap_ge w l.length 0 e
  have hg := heap_alloc_new w.drew (.cells (bytesRow ⟨l.toArray⟩ (grownCap w l.length 0 e)) e ((bytesRow ⟨l.toArray⟩ (grownCap w l.length 0 e)).size, (bytesRow ⟨l.toArray⟩ (grownCap w l.length 0 e)).size + 1))
  rw [show w.drew.heap.size = w.heap.size from rfl] at hg
  refine ⟨_, _, hr, ⟨_, _, by rw [Lib.byteCells_length], (fun h => by cases h), by rw [Lib.byteCells_length]; exact hge, fun a ha j u hu => ?_⟩, by simp, ((Below.refl _ _).drew).alloc (Nat.le_refl _) _⟩
  cases ha
  rw [Addr.add_lit, Nat.zero_add]
  have hj : j < l.length := by
    have := (List.getElem?_eq_some_iff.1 hu).1
    rwa [Lib.byteCells_length] at this
  simp only [World.cell?, hg]
  show (bytesRow ⟨l.toArray⟩ (grownCap w l.length 0 e))[j]? = _
  rw [bytesRow, Array.getElem?_append_left (by simpa using hj), ← hu]
  simp [Lib.byteCells]
end

/-- How many bytes a text's first line takes. -/
def lineLen : List UInt8 → Nat
  | [] => 0
  | b :: s => if b = 10 then 1 else lineLen s + 1
theorem lineLen_le (s : List UInt8) : lineLen s ≤ s.length := by
  induction s with
  | nil => simp [lineLen]
  | cons b s ih =>
    simp only [lineLen, List.length_cons]
    split <;> omega
theorem lineLen_pos {s : List UInt8} (h : 0 < s.length) : 0 < lineLen s := by
  cases s with
  | nil => simp at h
  | cons b s => simp only [lineLen]; split <;> omega
theorem lineLen_index (s : List UInt8) : Lib.indexByte s 10 = -1 ∧ lineLen s = s.length ∨ 0 ≤ Lib.indexByte s 10 ∧ Lib.indexByte s 10 + 1 = (lineLen s : Int) := by
  induction s with
  | nil => left; simp [Lib.indexByte, lineLen]
  | cons b s ih =>
    by_cases hb : b = 10
    · right
      subst hb
      simp [Lib.indexByte, lineLen]
    · have hb' : (b == 10) = false := by simpa using hb
      simp only [Lib.indexByte, lineLen, hb', if_neg hb, List.length_cons]
      rcases ih with ⟨h1, h2⟩ | ⟨h1, h2⟩
      · left
        simp [h1, h2]
      · right
        have : (Lib.indexByte s 10 == -1) = false := by simp; omega
        simp [this]
        omega
theorem linesOf_first {s : List UInt8} (h : 0 < s.length) : linesOf s = s.take (lineLen s) :: linesOf (s.drop (lineLen s)) := by
  induction s with
  | nil => simp at h
  | cons b s ih =>
    by_cases hb : b = 10
    · simp [linesOf, lineLen, hb]
    · simp only [linesOf, lineLen, if_neg hb, List.take_succ_cons, List.drop_succ_cons]
      by_cases hs : 0 < s.length
      · rw [ih hs]
      · have : s = [] := List.eq_nil_of_length_eq_zero (by omega)
        subst this
        simp [linesOf]
/-- A line's end. -/
def endedB (x : List UInt8) : Bool := x.getLast? == some 10
/-- What is split into itself, line by line. -/
def wholeB : List (List UInt8) → Bool
  | [] => true
  | x :: l => (decide (0 < x.length) && (lineLen x == x.length)) && (l.isEmpty || endedB x) && wholeB l

theorem lineLen_one {x r : List UInt8} (hx : 0 < x.length) (h : lineLen x = x.length) (he : endedB x = true) : lineLen (x ++ r) = x.length := by
  induction x with
  | nil => simp at hx
  | cons b x ih =>
    by_cases hb : b = 10
    · simp only [lineLen, if_pos hb, List.length_cons] at h
      simp only [List.cons_append, lineLen, if_pos hb, List.length_cons]
      omega
    · simp only [lineLen, if_neg hb, List.length_cons] at h
      simp only [List.cons_append, lineLen, if_neg hb, List.length_cons]
      by_cases hx' : 0 < x.length
      · rw [ih hx' (by omega) (by
          cases x with
          | nil => simp at hx'
          | cons c y => simpa [endedB] using he)]
      · have : x = [] := List.eq_nil_of_length_eq_zero (by omega)
        subst this
        simp [endedB] at he
        exact absurd he hb
theorem lineLen_take (s : List UInt8) : lineLen (s.take (lineLen s)) = lineLen s := by
  induction s with
  | nil => simp [lineLen]
  | cons b s ih =>
    by_cases hb : b = 10
    · simp [lineLen, hb]
    · simp only [lineLen, if_neg hb, List.take_succ_cons, ih]
theorem ended_take {s : List UInt8} (h : lineLen s < s.length) : endedB (s.take (lineLen s)) = true := by
  induction s with
  | nil => simp at h
  | cons b s ih =>
    by_cases hb : b = 10
    · simp [lineLen, hb, endedB]
    · simp only [lineLen, if_neg hb, List.length_cons] at h
      have hp : 0 < lineLen s := lineLen_pos (by omega)
      have := ih (by omega)
      simp only [lineLen, if_neg hb, List.take_succ_cons]
      obtain ⟨c, y, hy⟩ : ∃ c y, s.take (lineLen s) = c :: y := by
        cases hq : s.take (lineLen s) with
        | nil =>
          have := congrArg List.length hq
          rw [List.length_take, Nat.min_eq_left (by omega), List.length_nil] at this
          omega
        | cons c y => exact ⟨c, y, rfl⟩
      rw [hy] at this ⊢
      simpa [endedB] using this

theorem whole_iff (l : List (List UInt8)) : wholeB l = (linesOf l.flatten == l) := by
  induction l with
  | nil => simp [wholeB, linesOf]
  | cons x l ih =>
    rw [Bool.eq_iff_iff]
    simp only [wholeB, Bool.and_eq_true, Bool.or_eq_true, decide_eq_true_eq, beq_iff_eq, ih, List.flatten_cons, List.isEmpty_iff]
    constructor
    · rintro ⟨⟨⟨hx, h1⟩, h2⟩, h3⟩
      rcases h2 with rfl | h2
      · simp only [List.flatten_nil, List.append_nil]
        rw [linesOf_first hx, h1]
        simp [linesOf]
      · have hL := lineLen_one (r := l.flatten) hx h1 h2
        rw [linesOf_first (by rw [List.length_append]; omega), hL]
        simp [h3]
    · intro h
      have hx : 0 < x.length := by
        have h1 := linesOf_ne (x ++ l.flatten)
        rw [h] at h1
        have := h1 x (List.mem_cons_self ..)
        exact List.length_pos_iff.2 this
      have hp : 0 < (x ++ l.flatten).length := by rw [List.length_append]; omega
      have hle := lineLen_le (x ++ l.flatten)
      rw [linesOf_first hp] at h
      obtain ⟨h1, h2⟩ := List.cons.inj h
      have hll : lineLen (x ++ l.flatten) = x.length := by
        have := congrArg List.length h1
        rw [List.length_take, Nat.min_eq_left hle] at this
        exact this
      have h4 := lineLen_take (x ++ l.flatten)
      rw [h1, hll] at h4
      rw [hll, List.drop_left] at h2
      refine ⟨⟨⟨hx, h4⟩, ?_⟩, h2⟩
      by_cases hl : l = []
      · exact Or.inl hl
      · right
        have hne : 0 < l.flatten.length := by
          cases l with
          | nil => exact absurd rfl hl
          | cons y l' =>
            have h5 := linesOf_ne ((y :: l').flatten)
            rw [h2] at h5
            have := List.length_pos_iff.2 (h5 y (List.mem_cons_self ..))
            simp only [List.flatten_cons, List.length_append]
            omega
        have := ended_take (s := x ++ l.flatten) (by rw [hll, List.length_append]; omega)
        rwa [h1] at this
end Go.Proofs.Ytfldheegebopoaa

namespace Go.Proofs.Ytfldheegebopoaa
open Go.RowKit

section
set_option maxRecDepth 100000
set_option maxHeartbeats 2000000

theorem PIdx_any (v : Value) (l : List UInt8) (w : World) (hv : Sl w v (Lib.byteCells l)) :
    Calls Try.prog 58 #[v, .int .u8 10] w fun e w' => e = .returned (.int .i64 (Lib.indexByte l 10)) ∧ w = w' := by
  obtain ⟨ao, cap, rfl⟩ := hv.form
  have hr := run_indexByte_sl (P := Try.prog) w hv 10
  rw [show ((UInt8.toNat 10 : Nat) : Int) = 10 from rfl] at hr
  go_enter Try.func58, Try.ntmps58
  go_wp2
  rw [run_callFunc_extern Try.func66 (by kernel_rfl) (by kernel_rfl) (by kernel_rfl) (e := Extern.BytealgIndexByte.indexByte) (by kernel_rfl), hr]
  simp only [Result.andThen]
  rw [Oper.upon_value]
  go_wp2
  go_ret
  exact ⟨rfl, rfl⟩

theorem PFirst_any (v : Value) (l : List UInt8) (w : World) (hv : Sl w v (Lib.byteCells l)) (hl : l.length ≤ 1099511627776) :
    Calls Try.prog 46 #[v] w fun e w' => e = .returned (.int .i64 (lineLen l : Nat)) ∧ w = w' := by
  obtain ⟨ao, cap, rfl⟩ := hv.form
  have hx := lineLen_index l
  have hc := hid (PIdx_any _ l w hv)
  have hle := lineLen_le l
  rw [Lib.byteCells_length] at hc ⊢
  generalize Lib.indexByte l 10 = x at hx hc
  clear hv
  go_enter Try.func46, Try.ntmps46
  go_wp2_with fail
  refine hc.out.mono ?_
  rintro e w1 ⟨rfl, rfl⟩
  rcases hx with ⟨rfl, h2⟩ | ⟨h1, h2⟩
  · have H2 := hid h2
    clear h2 hle
    go_wp2
    go_ret
    exact ⟨ret_int (by rw [H2.out]), rfl⟩
  · have h1' : ¬ x < 0 := by omega
    have hw : IntKind.i64.wrap (x + 1) = x + 1 := IntWalk.i64_in _ (by omega)
    have H2 := hid h2
    clear h2 hle
    go_wp2
    go_ret
    exact ⟨ret_int H2.out, rfl⟩

theorem owns_base {w : World} {b b' : Nat} {e : TypeId} {size : Nat} {v : Value} {n : Nat} {xs : List Value} (h : w.ownsRow b e size v n xs) (hb : b' ≤ b) : w.ownsRow b' e size v n xs := by
  refine ⟨h.1, ?_⟩
  rcases h.2 with hn | ⟨g, cap, cur, rfl, hg, rest⟩
  · exact .inl hn
  · exact .inr ⟨g, cap, cur, rfl, Nat.le_trans hb hg, rest⟩

theorem PSplit_row (s : List UInt8) (w : World) (hlen : s.length ≤ 1099511627776) :
    Calls Try.prog 27 #[strV s] w fun e w' => ∃ v, e = .returned v ∧ w'.ownsRow w.heap.size 9 1 v (linesOf s).length (strCells (linesOf s)) ∧ Below w.heap.size w w' := by
  obtain ⟨i0, hi0, hi1, hi2, hi3⟩ := info_parts Try.infoStr
  obtain ⟨j0, hj0, hj1, hj2, hj3⟩ := info_parts Try.info5
  unfold strV
  obtain ⟨cap, wc, hcv, hsc, hzc, hbc⟩ := conv_sl (P := Try.prog) w 9 68 5 s Try.underlying9 Try.underlying68 Try.underlying5
  have HSC := hid hsc
  have HBC := hid hbc
  clear hsc hbc
  go_enter Try.func27, Try.ntmps27
  go_wp2_with fail
  go_loopw [3, 4] (fun l f wr => ∃ (ds : List (List UInt8)) (r : List UInt8) (ao : Option Addr) (cr : Nat), Hid (linesOf s = ds ++ linesOf r) ∧ r.length + ds.length ≤ s.length ∧ f = .slice ao r.length cr ∧ Hid (∀ a, ao = some a → a.block = w.heap.size) ∧ Hid (Sl wr f (Lib.byteCells r)) ∧ Hid (wr.ownsRow wc.heap.size 9 1 l ds.length (strCells ds)) ∧ Hid (Below wc.heap.size wc wr)) (fun _ f _ => match f with | .slice _ n _ => n | _ => 0)
  case atStart => exact ⟨[], s, _, _, hid (by simp), by simp, rfl, hid (fun a h => by cases h; rfl), HSC, hid (World.ownsRow_nil _ _ _ _), hid (Below.refl _ _)⟩
  case round =>
    obtain ⟨ds, r, ao, cr, HL, hlr, rfl, HB, HS, HO, HW⟩ := hrel
    have hz := HW.out.size
    by_cases h0 : 0 < r.length
    · have k0 : (0 : Int) < (r.length : Int) := by omega
      have hcf := hid (PFirst_any _ r wr HS.out (by omega))
      have hle := lineLen_le r
      have hpos := lineLen_pos h0
      obtain ⟨x, hx⟩ : ∃ x, r.take (lineLen r) = x := ⟨_, rfl⟩
      obtain ⟨y, hy⟩ : ∃ y, r.drop (lineLen r) = y := ⟨_, rfl⟩
      have hxl : x.length = lineLen r := by rw [← hx, List.length_take, Nat.min_eq_left hle]
      have hyl : r.length - lineLen r = y.length := by rw [← hy, List.length_drop]
      have HN := hid (show linesOf s = (ds ++ [x]) ++ linesOf y by rw [HL.out, linesOf_first h0, hx, hy]; simp)
      obtain ⟨v1, s1, hs1, _, a1, c1, rfl⟩ := run_slice_to (P := Try.prog) 68 5 Try.underlying68 hj0 HS.out (lineLen r) (by rw [Lib.byteCells_length]; exact hle)
      rw [← byteCells_take, hx] at hs1
      have hcs := run_string_of (P := Try.prog) 68 9 5 Try.underlying68 Try.underlying5 Try.underlying9 hs1
      obtain ⟨al, cl, hfl⟩ := owns_form HO.out
      subst hfl
      have g3 : ds.length + 1 ≤ maxLen := by unfold maxLen; omega
      have g4 : (ds.length + 1) * 16 ≤ 140737488355328 := by omega
      have hbase : wc.heap.size ≤ (wr.alloc (.cells #[.string ⟨x.toArray⟩] 9)).heap.size := by simp; omega
      obtain ⟨v2, s2, hs2, hb2, a2, c2, rfl⟩ := run_slice_from (P := Try.prog) 68 5 Try.underlying68 hj0 hj2 HS.out (lineLen r) (by rw [Lib.byteCells_length]; exact hle)
      rw [← byteCells_drop, hy] at hs2
      rw [Lib.byteCells_length, hyl] at s2 hs2 hb2
      have HB2 := hid (show ∀ a, a2 = some a → a.block = w.heap.size from fun a ha => by
        obtain ⟨a', k', c', e, e2⟩ := hb2 a _ _ (by rw [ha])
        rw [e2]
        exact HB.out a' (Value.slice.inj e).1)
      have HS2 := hid hs2
      have HXL := hid hxl
      have HYL := hid hyl
      have hpy : y.length < r.length := by omega
      have hcnt : y.length + (ds.length + 1) ≤ s.length := by omega
      clear hs1 hs2 hb2 hx hy hxl hyl hle h0 HL
      go_wp2_with fail
      refine hcf.out.mono ?_
      rintro e w1 ⟨rfl, rfl⟩
      go_wp2_with (refine wpList_append_any _ rfl (.tmp 13) (.tmp 18) _ _ rfl wc.heap.size 9 i0 _ 1 16 Try.underlying32 hi0 hi1 hi2 hi3 rfl (by omega) (.slice al ds.length cl) _ _ rfl (HO.out.alloc _) _ 1 [.string ⟨x.toArray⟩] rfl (Src.ofSlice _ Try.underlying32 ⟨wr.heap.size, 0, none⟩ 1 1 [.string ⟨x.toArray⟩] (by rfl) (World.news_of_block (cs := #[.string ⟨x.toArray⟩]) (t := 9) (fr := (0, 0)) (heap_alloc_new wr _)) (by simp [Value.oneCell'])) g3 g4 hbase ?_; intro v5 w5 hown5 hgrow5 hat5)
      have hlt5 := fun j hj => (HO.out.lt j hj).1
      have hb5 : Below wc.heap.size wc w5 := (HW.out.alloc hz _).grown hgrow5 hbase hlt5
      have R : w5.ownsRow wc.heap.size 9 1 v5 (ds ++ [x]).length (strCells (ds ++ [x])) := by
        rw [strCells_append, List.length_append]
        exact hown5
      have S5 : Sl w5 (.slice a2 y.length c2) (Lib.byteCells y) := by
        refine (Sl.alloc HS2.out (.cells #[.string ⟨x.toArray⟩] 9)).kept fun a n c e hlt => ?_
        have hbk := HB2.out a (Value.slice.inj e).1
        exact hgrow5.block _ hlt (fun e' => by have := hlt5 _ e'.symm; omega)
      have HR := hid R
      have H5 := hid S5
      have HB5 := hid hb5
      clear hown5 hgrow5 hat5 R S5 hb5 hlt5
      go_roundw
      case rel => exact ⟨ds ++ [x], y, a2, c2, HN, by simp; omega, rfl, HB2, H5, HR, HB5⟩
      case measure => simpa using hpy
    · have hr0 : r = [] := List.eq_nil_of_length_eq_zero (by omega)
      subst hr0
      have HE := hid (show linesOf s = ds by rw [HL.out]; simp [linesOf])
      clear HL h0
      go_wp2
      go_ret
      refine ⟨_, rfl, ?_, HBC.out.trans (HW.out.mono (by omega))⟩
      rw [HE.out]
      exact owns_base HO.out (by omega)

theorem PSplit_any (s : List UInt8) (w : World) (hlen : s.length ≤ 1099511627776) :
    Calls Try.prog 27 #[strV s] w fun e w' => ∃ v, e = .returned v ∧ Sl w' v (strCells (linesOf s)) ∧ Below w.heap.size w w' :=
  (PSplit_row s w hlen).mono fun _ _ ⟨v, h1, h2, h3⟩ => ⟨v, h1, Sl.ofOwns h2, h3⟩
end
end Go.Proofs.Ytfldheegebopoaa

namespace Go.Proofs.Ytfldheegebopoaa
open Go.RowKit Go.Shelf

def Try.lays156_ren : Go.Shelf.Ren := ⟨fun | 156 => 47 | 165 => 59 | 166 => 60 | 169 => 61 | 240 => 67 | 241 => 68 | 276 => 72 | 277 => 73 | n => n, fun | 31 => 32 | 9 => 9 | 3 => 3 | 4 => 4 | 0 => 0 | 20 => 20 | 72 => 98 | 76 => 102 | 70 => 96 | 37 => 68 | 75 => 101 | 127 => 108 | 164 => 112 | 5 => 5 | 80 => 104 | n => n, fun | n => n⟩
theorem Try.lays156 : Go.Proofs.Lays.n156 Try.prog Try.lays156_ren := {
  mixed := by kernel_rfl
  f156 := Try.func47.trans (congrArg some (by kernel_rfl))
  f165 := Try.func59.trans (congrArg some (by kernel_rfl))
  f166 := Try.func60.trans (congrArg some (by kernel_rfl))
  f169 := Try.func61.trans (congrArg some (by kernel_rfl))
  f240 := Try.func67.trans (congrArg some (by kernel_rfl))
  f241 := Try.func68.trans (congrArg some (by kernel_rfl))
  f276 := Try.func72.trans (congrArg some (by kernel_rfl))
  f277 := Try.func73.trans (congrArg some (by kernel_rfl))
  t0 := Try.underlying0
  a0 := Try.isAgg0
  z0 := Try.sizeOf0
  v0 := Try.zeroValue0
  t3 := Try.underlying3
  a3 := Try.isAgg3
  z3 := Try.sizeOf3
  v3 := Try.zeroValue3
  t4 := Try.underlying4
  a4 := Try.isAgg4
  z4 := Try.sizeOf4
  v4 := Try.zeroValue4
  t9 := Try.underlying9
  a9 := Try.isAgg9
  z9 := Try.sizeOf9
  v9 := Try.zeroValue9
  t20 := Try.underlying20
  a20 := Try.isAgg20
  z20 := Try.sizeOf20
  v20 := Try.zeroValue20
  t31 := Try.underlying32
  a31 := Try.isAgg32
  z31 := Try.sizeOf32
  v31 := Try.zeroValue32
  t37 := Try.underlying68
  a37 := Try.isAgg68
  z37 := Try.sizeOf68
  v37 := Try.zeroValue68
  t70 := Try.underlying96
  a70 := Try.isAgg96
  z70 := Try.sizeOf96
  v70 := Try.zeroValue96
  t72 := Try.underlying98
  a72 := Try.isAgg98
  z72 := Try.sizeOf98
  v72 := Try.zeroValue98
  t75 := Try.underlying101
  a75 := Try.isAgg101
  z75 := Try.sizeOf101
  v75 := Try.zeroValue101
  t76 := Try.underlying102
  a76 := Try.isAgg102
  z76 := Try.sizeOf102
  v76 := Try.zeroValue102
  t127 := Try.underlying108
  a127 := Try.isAgg108
  z127 := Try.sizeOf108
  v127 := Try.zeroValue108
  t164 := Try.underlying112
  a164 := Try.isAgg112
  z164 := Try.sizeOf112
  v164 := Try.zeroValue112 }
theorem Try.Builder_Extra_156 : Builder.Extra Try.prog Try.lays156_ren := {
  sizeBuilder := by kernel_rfl
  liesBuilder := by kernel_rfl
  t5 := Try.underlying5
  a5 := Try.isAgg5
  z5 := Try.sizeOf5
  v5 := Try.zeroValue5
  infoByte := by kernel_rfl
  cellsByte := by kernel_rfl
  sizeByte := by kernel_rfl
  neB5 := by decide }

theorem join_flat (l : List (List UInt8)) : Lib.join l [] = l.flatten := by
  cases l with
  | nil => rfl
  | cons x l =>
    rw [Lib.join_cons, List.flatten_cons]
    congr 1
    induction l with
    | nil => rfl
    | cons y l _ => simp [Lib.joinTail]

/-- strings.Join, of texts, nothing between them. -/
theorem SJoin_any (v : Value) (l : List (List UInt8)) (w : World) (hv : Sl w v (strCells l)) (hlen : l.flatten.length ≤ 1099511627776) (hn : l.length ≤ 1099511627776) :
    Calls Try.prog 47 #[v, .string ⟨#[]⟩] w fun e w' => e = .returned (strV l.flatten) ∧ Below w.heap.size w w' := by
  obtain ⟨ao, cap, rfl, hnone, hcap, hc⟩ := hv
  rw [strCells_length] at hcap ⊢
  by_cases h0 : l.length = 0
  · have hl : l = [] := List.eq_nil_of_length_eq_zero h0
    subst hl
    refine (Any.strings_Join_none Try.lays156 Try.Builder_Extra_156 ao cap ⟨#[]⟩ w).mono ?_
    rintro e w' ⟨rfl, rfl⟩
    exact ⟨rfl, Below.refl _ _⟩
  · cases ao with
    | none =>
      have := hnone rfl
      simp [strCells] at this
      subst this
      simp at h0
    | some a =>
      have hcell : ∀ (j : Nat) (x : List UInt8), l[j]? = some x → w.cell? (a.add j) = some (strV x) := fun j x hj => hc a rfl j _ (by simp [strCells, hj])
      obtain ⟨x0, hx0⟩ : ∃ x, l[0]? = some x := ⟨_, List.getElem?_eq_getElem (by omega)⟩
      have h00 := hcell 0 x0 hx0
      obtain ⟨b, o, sp⟩ := a
      have hsp : sp = none := by
        cases sp with
        | none => rfl
        | some k =>
          simp [Addr.add, World.cell?] at h00
          split at h00 <;> simp at h00
      subst hsp
      have hblk : b < w.heap.size := by
        have := World.block_lt_of_cell? w _ h00
        simpa [Addr.add] using this
      have hm : (l.map fun x => (⟨x.toArray⟩ : ByteArray)).map (·.data.toList) = l := by
        rw [List.map_map]
        exact List.map_id'' (fun x => by simp) l
      have hj : Lib.join ((l.map fun x => (⟨x.toArray⟩ : ByteArray)).map (·.data.toList)) (⟨#[]⟩ : ByteArray).data.toList = l.flatten := by
        rw [hm]
        exact join_flat l
      have key := Any.strings_Join Try.lays156 Try.Builder_Extra_156 b o cap (l.map fun x => (⟨x.toArray⟩ : ByteArray)) ⟨#[]⟩ w (fun j x hx => by
        simp only [List.getElem?_map, Option.map_eq_some_iff] at hx
        obtain ⟨y, hy, rfl⟩ := hx
        have := hcell j y hy
        rwa [Addr.add_lit] at this) hblk (by rw [List.length_map]; omega) (by rw [List.length_map]; exact hcap) (by rw [hj]; omega)
      rw [hj, List.length_map] at key
      exact key
end Go.Proofs.Ytfldheegebopoaa

namespace Go.Proofs.Ytfldheegebopoaa

abbrev Tx := List UInt8
def mk0 : Tx := [60, 60, 60, 60, 60, 60, 60, 32, 111, 117, 114, 115, 10]
def mk1 : Tx := [124, 124, 124, 124, 124, 124, 124, 32, 98, 97, 115, 101, 10]
def mk2 : Tx := [61, 61, 61, 61, 61, 61, 61, 10]
def mk3 : Tx := [62, 62, 62, 62, 62, 62, 62, 32, 116, 104, 101, 105, 114, 115, 10]
def endedS (s : Tx) : Tx := if s = [] ∨ s.getLast? = some 10 then s else s ++ [10]
def markS (x : Tx) : Int := if x = mk0 then 0 else if x = mk1 then 1 else if x = mk2 then 2 else if x = mk3 then 3 else -1
/-- what a chunk comes to, if it is no conflict -/
def ckOne (c : Ck Tx) : List Tx := if c.1 = 3 then c.2.2.2 else c.2.2.1
def mergeOut : Tx → List (Ck Tx) → Tx
  | out, [] => out
  | out, c :: r => if c.1 = 5 then mergeOut (endedS out ++ mk0 ++ endedS c.2.2.1.flatten ++ mk1 ++ endedS c.2.1.flatten ++ mk2 ++ endedS c.2.2.2.flatten ++ mk3) r else mergeOut (out ++ (ckOne c).flatten) r
def mergeS (b o t : Tx) : Tx × Bool :=
  if cleanS (chunksS (linesOf b) (linesOf o) (linesOf t)) then ((mergedS (chunksS (linesOf b) (linesOf o) (linesOf t))).flatten, true) else (mergeOut [] (chunksS (linesOf b) (linesOf o) (linesOf t)), false)
def plainS (s : Tx) : Bool := (linesOf s).all fun x => decide (markS (endedS x) < 0)
/-- a line more in the last one -/
def addLn (out : List (Ck Tx)) (st : Int) (x : Tx) : List (Ck Tx) :=
  match out.getLast? with
  | some c => out.dropLast ++ [(c.1, if st = -1 ∨ st = 1 then c.2.1 ++ [x] else c.2.1, if st = -1 ∨ st = 0 then c.2.2.1 ++ [x] else c.2.2.1, if st = -1 ∨ st = 2 then c.2.2.2 ++ [x] else c.2.2.2)]
  | none => out
/-- outside of a conflict, with no Stable chunk at hand -/
def needS (out : List (Ck Tx)) (st : Int) : Bool := decide (st = -1) && (match out.getLast? with | some c => decide (c.1 = 5) | none => true)
def pStep (out : List (Ck Tx)) (st : Int) (x : Tx) : Option (List (Ck Tx) × Int) :=
  if 0 ≤ markS x then
    if markS x ≠ st + 1 then none
    else some (if markS x = 0 then out ++ [(5, [], [], [])] else out, if markS x = 3 then -1 else markS x)
  else some (addLn (if needS out st then out ++ [(1, [], [], [])] else out) st x, st)
def pRun : List (Ck Tx) → Int → List Tx → Option (List (Ck Tx) × Int)
  | out, st, [] => some (out, st)
  | out, st, x :: r => match pStep out st x with
    | some (o, s) => pRun o s r
    | none => none
def parseS (s : Tx) : Option (List (Ck Tx)) := match pRun [] (-1) (linesOf s) with
  | some (l, st) => if st = -1 then some l else none
  | none => none
def pickS (ours : Bool) (l : List (Ck Tx)) : Tx := l.flatMap fun c => (if ours then c.2.2.1 else c.2.2.2).flatten

/-! ### Marks -/
theorem markS_mk : markS mk0 = 0 ∧ markS mk1 = 1 ∧ markS mk2 = 2 ∧ markS mk3 = 3 := by decide
theorem markS_cases (x : Tx) : markS x = -1 ∨ markS x = 0 ∨ markS x = 1 ∨ markS x = 2 ∨ markS x = 3 := by
  unfold markS
  split
  · simp
  · split
    · simp
    · split
      · simp
      · split <;> simp
theorem markS_at {x : Tx} : (markS x = 0 → x = mk0) ∧ (markS x = 1 → x = mk1) ∧ (markS x = 2 → x = mk2) ∧ (markS x = 3 → x = mk3) := by
  unfold markS
  split
  · exact ⟨fun _ => by assumption, fun h => by simp at h, fun h => by simp at h, fun h => by simp at h⟩
  · split
    · exact ⟨fun h => by simp at h, fun _ => by assumption, fun h => by simp at h, fun h => by simp at h⟩
    · split
      · exact ⟨fun h => by simp at h, fun h => by simp at h, fun _ => by assumption, fun h => by simp at h⟩
      · split
        · exact ⟨fun h => by simp at h, fun h => by simp at h, fun h => by simp at h, fun _ => by assumption⟩
        · exact ⟨fun h => by simp at h, fun h => by simp at h, fun h => by simp at h, fun h => by simp at h⟩
theorem pRun_append (xs ys : List Tx) : ∀ (out : List (Ck Tx)) (st : Int), pRun out st (xs ++ ys) = match pRun out st xs with | some (o, s) => pRun o s ys | none => none := by
  induction xs with
  | nil => intro out st; rfl
  | cons x xs ih =>
    intro out st
    rw [List.cons_append, pRun, pRun]
    cases pStep out st x with
    | none => rfl
    | some p => exact ih p.1 p.2

/-! ### What is read back -/
def confN (l : List (Ck Tx)) : Nat := l.countP fun c => decide (c.1 = 5)
theorem confN_append (a b : List (Ck Tx)) : confN (a ++ b) = confN a + confN b := by simp [confN]
theorem pickS_append (q : Bool) (a b : List (Ck Tx)) : pickS q (a ++ b) = pickS q a ++ pickS q b := by simp [pickS]
/-- lines that are no marks -/
def NoMark (xs : List Tx) : Prop := ∀ x ∈ xs, markS x < 0
theorem addLn_snoc (out : List (Ck Tx)) (c : Ck Tx) (st : Int) (x : Tx) : addLn (out ++ [c]) st x = out ++ [(c.1, if st = -1 ∨ st = 1 then c.2.1 ++ [x] else c.2.1, if st = -1 ∨ st = 0 then c.2.2.1 ++ [x] else c.2.2.1, if st = -1 ∨ st = 2 then c.2.2.2 ++ [x] else c.2.2.2)] := by
  unfold addLn
  rw [List.getLast?_concat, List.dropLast_concat]
/-- outside: each line is in all three -/
theorem pStep_out {out : List (Ck Tx)} {x : Tx} (h : markS x < 0) : ∃ o, pStep out (-1) x = some (o, -1) ∧ confN o = confN out ∧ ∀ q, pickS q o = pickS q out ++ x := by
  rw [pStep, if_neg (by omega)]
  refine ⟨_, rfl, ?_⟩
  rcases List.eq_nil_or_concat out with rfl | ⟨L, c, rfl⟩
  · have : needS [] (-1) = true := by decide
    rw [this, if_pos rfl, addLn_snoc]
    exact ⟨by simp [confN], fun q => by cases q <;> simp [pickS]⟩
  · rw [List.concat_eq_append]
    by_cases hc : c.1 = 5
    · have : needS (L ++ [c]) (-1) = true := by unfold needS; rw [List.getLast?_concat]; simp [hc]
      rw [this, if_pos rfl, addLn_snoc]
      exact ⟨by rw [confN_append]; simp [confN], fun q => by rw [pickS_append]; cases q <;> simp [pickS]⟩
    · have : needS (L ++ [c]) (-1) = false := by unfold needS; rw [List.getLast?_concat]; simp [hc]
      rw [this, if_neg (by simp), addLn_snoc]
      refine ⟨by simp [confN], fun q => ?_⟩
      rw [pickS_append, pickS_append, List.append_assoc]
      cases q <;> simp [pickS]
theorem pRun_out : ∀ {xs : List Tx}, NoMark xs → ∀ out, ∃ o, pRun out (-1) xs = some (o, -1) ∧ confN o = confN out ∧ ∀ q, pickS q o = pickS q out ++ xs.flatten := by
  intro xs
  induction xs with
  | nil => exact fun _ out => ⟨out, rfl, rfl, fun q => by simp⟩
  | cons x xs ih =>
    intro h out
    obtain ⟨o, h1, h2, h3⟩ := pStep_out (out := out) (h x (List.mem_cons_self ..))
    obtain ⟨o', g1, g2, g3⟩ := ih (fun y hy => h y (List.mem_cons_of_mem _ hy)) o
    refine ⟨o', ?_, by rw [g2, h2], fun q => by rw [g3, h3]; simp⟩
    rw [pRun, h1]
    exact g1
/-- within: each line is in one -/
theorem pRun_in : ∀ {xs : List Tx}, NoMark xs → ∀ (st : Int) (_ : 0 ≤ st) (out : List (Ck Tx)) (k : Int) (b o t : List Tx),
    pRun (out ++ [(k, b, o, t)]) st xs = some (out ++ [(k, if st = 1 then b ++ xs else b, if st = 0 then o ++ xs else o, if st = 2 then t ++ xs else t)], st) := by
  intro xs
  induction xs with
  | nil => intro _ st _ out k b o t; simp [pRun]
  | cons x xs ih =>
    intro h st h0 out k b o t
    have hx := h x (List.mem_cons_self ..)
    have hn : needS (out ++ [(k, b, o, t)]) st = false := by unfold needS; rw [show decide (st = -1) = false from decide_eq_false (by omega)]; rfl
    rw [pRun, pStep, if_neg (by omega), hn]
    simp only [Bool.false_eq_true, if_false]
    rw [addLn_snoc]
    have e1 : (st = -1 ∨ st = 1) ↔ st = 1 := by omega
    have e0 : (st = -1 ∨ st = 0) ↔ st = 0 := by omega
    have e2 : (st = -1 ∨ st = 2) ↔ st = 2 := by omega
    simp only [e1, e0, e2]
    rw [ih (fun y hy => h y (List.mem_cons_of_mem _ hy)) st h0]
    rcases (show st = 0 ∨ st = 1 ∨ st = 2 ∨ (st ≠ 0 ∧ st ≠ 1 ∧ st ≠ 2) by omega) with rfl | rfl | rfl | ⟨g0, g1, g2⟩
    · simp
    · simp
    · simp
    · simp [g0, g1, g2]
theorem pRun_mark (out : List (Ck Tx)) (st : Int) (x : Tx) (r : List Tx) (h : markS x = st + 1) (h0 : 0 ≤ markS x) : pRun out st (x :: r) = pRun (if markS x = 0 then out ++ [(5, [], [], [])] else out) (if markS x = 3 then -1 else markS x) r := by
  rw [pRun, pStep, if_pos h0, if_neg (by omega)]
/-- a conflict's lines, with its marks -/
def ckLines (c : Ck Tx) : List Tx := if c.1 = 5 then mk0 :: c.2.2.1 ++ mk1 :: c.2.1 ++ mk2 :: c.2.2.2 ++ [mk3] else ckOne c
theorem pRun_conf (out : List (Ck Tx)) {b o t : List Tx} (hb : NoMark b) (ho : NoMark o) (ht : NoMark t) : pRun out (-1) (mk0 :: o ++ mk1 :: b ++ mk2 :: t ++ [mk3]) = some (out ++ [(5, b, o, t)], -1) := by
  obtain ⟨m0, m1, m2, m3⟩ := markS_mk
  have e : mk0 :: o ++ mk1 :: b ++ mk2 :: t ++ [mk3] = mk0 :: (o ++ mk1 :: (b ++ mk2 :: (t ++ [mk3]))) := by simp
  rw [e, pRun_mark _ _ _ _ (by omega) (by omega), if_pos m0, if_neg (by omega), m0, pRun_append, pRun_in ho 0 (by omega)]
  simp only [List.nil_append, if_true, Int.reduceEq, reduceIte]
  rw [pRun_mark _ _ _ _ (by omega) (by omega), if_neg (by omega), if_neg (by omega), m1, pRun_append, pRun_in hb 1 (by omega)]
  simp only [List.nil_append, if_true, Int.reduceEq, reduceIte]
  rw [pRun_mark _ _ _ _ (by omega) (by omega), if_neg (by omega), if_neg (by omega), m2, pRun_append, pRun_in ht 2 (by omega)]
  simp only [List.nil_append, if_true, Int.reduceEq, reduceIte]
  rw [pRun_mark _ _ _ _ (by omega) (by omega), if_neg (by omega), if_pos m3]
  simp [pRun]
/-- no line of a chunk is a mark -/
def CkPlain (c : Ck Tx) : Prop := NoMark c.2.1 ∧ NoMark c.2.2.1 ∧ NoMark c.2.2.2
theorem CkPlain.one {c : Ck Tx} (h : CkPlain c) : NoMark (ckOne c) := by
  unfold ckOne
  split
  · exact h.2.2
  · exact h.2.1
/-- what is picked of a chunk as it was -/
def ckPick (q : Bool) (c : Ck Tx) : Tx := if c.1 = 5 then (if q then c.2.2.1 else c.2.2.2).flatten else (ckOne c).flatten
theorem pRun_all : ∀ {l : List (Ck Tx)}, (∀ c ∈ l, CkPlain c) → ∀ out, ∃ o, pRun out (-1) (l.flatMap ckLines) = some (o, -1) ∧ confN o = confN out + confN l ∧ ∀ q, pickS q o = pickS q out ++ l.flatMap (ckPick q) := by
  intro l
  induction l with
  | nil => exact fun _ out => ⟨out, rfl, by simp [confN], fun q => by simp⟩
  | cons c l ih =>
    intro h out
    have hc := h c (List.mem_cons_self ..)
    rw [List.flatMap_cons, pRun_append]
    by_cases h5 : c.1 = 5
    · have e1 : ckLines c = mk0 :: c.2.2.1 ++ mk1 :: c.2.1 ++ mk2 :: c.2.2.2 ++ [mk3] := by rw [ckLines, if_pos h5]
      rw [e1, pRun_conf out hc.1 hc.2.1 hc.2.2]
      obtain ⟨o, g1, g2, g3⟩ := ih (fun y hy => h y (List.mem_cons_of_mem _ hy)) (out ++ [(5, c.2.1, c.2.2.1, c.2.2.2)])
      refine ⟨o, g1, ?_, fun q => ?_⟩
      · rw [g2, confN_append]
        simp [confN, h5]
        omega
      · rw [g3, pickS_append, List.flatMap_cons, ckPick, if_pos h5, List.append_assoc]
        simp [pickS]
    · have e1 : ckLines c = ckOne c := by rw [ckLines, if_neg h5]
      rw [e1]
      obtain ⟨o1, f1, f2, f3⟩ := pRun_out hc.one out
      rw [f1]
      obtain ⟨o, g1, g2, g3⟩ := ih (fun y hy => h y (List.mem_cons_of_mem _ hy)) o1
      refine ⟨o, g1, ?_, fun q => ?_⟩
      · rw [g2, f2]
        simp [confN, h5]
      · rw [g3, f3, List.flatMap_cons, ckPick, if_neg h5, List.append_assoc]
/-! ### Lines of what is written -/
/-- a line with its end -/
def Line (x : Tx) : Prop := ∃ y, (∀ b ∈ y, b ≠ 10) ∧ x = y ++ [10]
theorem Line.lines {xs : List Tx} (h : ∀ x ∈ xs, Line x) : linesOf xs.flatten = xs := by
  induction xs with
  | nil => rfl
  | cons x xs ih =>
    obtain ⟨y, hy, rfl⟩ := h x (List.mem_cons_self ..)
    rw [List.flatten_cons, List.append_assoc]
    show linesOf (y ++ 10 :: xs.flatten) = _
    rw [linesOf_line y _ hy, ih fun z hz => h z (List.mem_cons_of_mem _ hz)]
theorem Line.closed {xs : List Tx} (h : ∀ x ∈ xs, Line x) : Closed xs.flatten := by
  rcases List.eq_nil_or_concat xs with rfl | ⟨L, x, rfl⟩
  · exact .inl rfl
  · obtain ⟨y, _, rfl⟩ := h x (by rw [List.concat_eq_append]; simp)
    rw [List.concat_eq_append, List.flatten_append]
    exact .inr ⟨L.flatten ++ y, by simp⟩
theorem Closed.ended {s : Tx} (h : Closed s) : endedS s = s := by
  unfold endedS
  rcases h with rfl | ⟨t, rfl⟩
  · simp
  · rw [if_pos (.inr (by rw [List.getLast?_concat]))]
theorem line_mk : Line mk0 ∧ Line mk1 ∧ Line mk2 ∧ Line mk3 := by
  refine ⟨⟨mk0.dropLast, ?_, by decide⟩, ⟨mk1.dropLast, ?_, by decide⟩, ⟨mk2.dropLast, ?_, by decide⟩, ⟨mk3.dropLast, ?_, by decide⟩⟩ <;> decide
def CkLine (c : Ck Tx) : Prop := (∀ x ∈ c.2.1, Line x) ∧ (∀ x ∈ c.2.2.1, Line x) ∧ ∀ x ∈ c.2.2.2, Line x
theorem CkLine.one {c : Ck Tx} (h : CkLine c) : ∀ x ∈ ckOne c, Line x := by
  unfold ckOne
  split
  · exact h.2.2
  · exact h.2.1
theorem CkLine.all {c : Ck Tx} (h : CkLine c) : ∀ x ∈ ckLines c, Line x := by
  intro x hx
  unfold ckLines at hx
  split at hx
  · simp only [List.cons_append, List.append_assoc, List.mem_cons, List.mem_append, List.not_mem_nil, or_false] at hx
    obtain ⟨a0, a1, a2, a3⟩ := line_mk
    rcases hx with rfl | hx | rfl | hx | rfl | hx | rfl
    · exact a0
    · exact h.2.1 x hx
    · exact a1
    · exact h.1 x hx
    · exact a2
    · exact h.2.2 x hx
    · exact a3
  · exact h.one x hx
theorem mergeOut_lines : ∀ {l : List (Ck Tx)}, (∀ c ∈ l, CkLine c) → ∀ {xs : List Tx}, (∀ x ∈ xs, Line x) → mergeOut xs.flatten l = (xs ++ l.flatMap ckLines).flatten := by
  intro l
  induction l with
  | nil => intro _ xs _; simp [mergeOut]
  | cons c l ih =>
    intro h xs hx
    have hc := h c (List.mem_cons_self ..)
    have hl : ∀ y ∈ xs ++ ckLines c, Line y := fun y hy => by
      rcases List.mem_append.1 hy with hy | hy
      · exact hx y hy
      · exact hc.all y hy
    rw [mergeOut, List.flatMap_cons, ← List.append_assoc, ← ih (fun y hy => h y (List.mem_cons_of_mem _ hy)) hl]
    split
    · rename_i h5
      rw [(Line.closed hx).ended, (Line.closed hc.1).ended, (Line.closed hc.2.1).ended, (Line.closed hc.2.2).ended, ckLines, if_pos h5]
      congr 1
      simp
    · rename_i h5
      rw [ckLines, if_neg h5]
      congr 1
      simp
end Go.Proofs.Ytfldheegebopoaa

namespace Go.Proofs.Ytfldheegebopoaa

theorem linesOf_line_all : ∀ {s : Tx}, Closed s → ∀ x ∈ linesOf s, Line x := by
  intro s
  induction s with
  | nil => intro _ x hx; simp [linesOf] at hx
  | cons b s ih =>
    intro h x hx
    have hs : (s = [] ∧ b = 10) ∨ (s ≠ [] ∧ Closed s) := by
      rcases h with h | ⟨t, h⟩
      · cases h
      · cases t with
        | nil =>
          simp only [List.nil_append, List.cons.injEq] at h
          exact .inl ⟨h.2, h.1⟩
        | cons c t =>
          simp only [List.cons_append, List.cons.injEq] at h
          exact .inr ⟨by rw [h.2]; simp, .inr ⟨t, h.2⟩⟩
    rcases hs with ⟨rfl, rfl⟩ | ⟨hne, hc⟩
    · simp only [linesOf, if_true, List.mem_singleton] at hx
      subst hx
      exact ⟨[], by simp, rfl⟩
    · have ih := ih hc
      simp only [linesOf] at hx
      split at hx
      · rename_i hb
        rcases List.mem_cons.1 hx with rfl | hx
        · exact ⟨[], by simp, by rw [hb]; rfl⟩
        · exact ih x hx
      · rename_i hb
        cases hl : linesOf s with
        | nil => exact absurd ((linesOf_nil_iff s).1 hl) hne
        | cons l ls =>
          rw [hl] at hx ih
          simp only at hx
          rcases List.mem_cons.1 hx with rfl | hx
          · obtain ⟨y, hy, rfl⟩ := ih l (List.mem_cons_self ..)
            exact ⟨b :: y, fun c hcm => by
              rcases List.mem_cons.1 hcm with rfl | hcm
              · exact hb
              · exact hy c hcm, rfl⟩
          · exact ih x (List.mem_cons_of_mem _ hx)
theorem plain_nomark {s : Tx} (h : Closed s) (hp : plainS s = true) : NoMark (linesOf s) := by
  intro x hx
  have h1 := (List.all_eq_true.1 hp) x hx
  have h2 := linesOf_line_all h x hx
  have h3 : endedS x = x := by
    obtain ⟨y, _, rfl⟩ := h2
    exact Closed.ended (.inr ⟨y, rfl⟩)
  rw [h3] at h1
  simpa using h1
theorem clean_conf (l : List (Ck Tx)) : cleanS l = true ↔ confN l = 0 := by
  simp [cleanS, confN]
theorem merged_lines {l : List (Ck Tx)} (h : cleanS l = true) : mergedS l = l.flatMap ckLines := by
  induction l with
  | nil => rfl
  | cons c l ih =>
    simp only [cleanS, List.all_cons, Bool.and_eq_true, bne_iff_ne, ne_eq] at h
    rw [List.flatMap_cons, ← ih h.2, ckLines, if_neg h.1]
    rfl
theorem pick_lines {l : List (Ck Tx)} (h : cleanS l = true) (q : Bool) : l.flatMap (ckPick q) = (l.flatMap ckLines).flatten := by
  induction l with
  | nil => rfl
  | cons c l ih =>
    simp only [cleanS, List.all_cons, Bool.and_eq_true, bne_iff_ne, ne_eq] at h
    rw [List.flatMap_cons, ih h.2, List.flatMap_cons, List.flatten_append, ckPick, if_neg h.1, ckLines, if_neg h.1]
/-- what is written is read back -/
theorem merge_parse {b o t : Tx} (cb : Closed b) (co : Closed o) (ct : Closed t) (pb : plainS b = true) (po : plainS o = true) (pt : plainS t = true) :
    ∃ l, parseS (mergeS b o t).1 = some l ∧ confN l = confN (chunksS (linesOf b) (linesOf o) (linesOf t)) ∧ (mergeS b o t).2 = decide (confN l = 0) ∧ (∀ q, pickS q l = (chunksS (linesOf b) (linesOf o) (linesOf t)).flatMap (ckPick q)) ∧
      ((mergeS b o t).2 = true → (mergeS b o t).1 = (chunksS (linesOf b) (linesOf o) (linesOf t)).flatMap (ckPick true) ∧ plainS (mergeS b o t).1 = true) := by
  obtain ⟨s1, s2, s3, _⟩ := chunks_sides (linesOf b) (linesOf o) (linesOf t)
  obtain ⟨L, hL⟩ : ∃ L, chunksS (linesOf b) (linesOf o) (linesOf t) = L := ⟨_, rfl⟩
  have hm : mergeS b o t = if cleanS L then ((mergedS L).flatten, true) else (mergeOut [] L, false) := by rw [mergeS, hL]
  rw [hL] at s1 s2 s3
  rw [hm, hL]
  have inb : ∀ c ∈ L, ∀ x ∈ c.2.1, x ∈ linesOf b := fun c hc x hx => by rw [← s1]; exact List.mem_flatMap.2 ⟨c, hc, hx⟩
  have ino : ∀ c ∈ L, ∀ x ∈ c.2.2.1, x ∈ linesOf o := fun c hc x hx => by rw [← s2]; exact List.mem_flatMap.2 ⟨c, hc, hx⟩
  have int : ∀ c ∈ L, ∀ x ∈ c.2.2.2, x ∈ linesOf t := fun c hc x hx => by rw [← s3]; exact List.mem_flatMap.2 ⟨c, hc, hx⟩
  have hp : ∀ c ∈ L, CkPlain c := fun c hc => ⟨fun x hx => plain_nomark cb pb x (inb c hc x hx), fun x hx => plain_nomark co po x (ino c hc x hx), fun x hx => plain_nomark ct pt x (int c hc x hx)⟩
  have hl : ∀ c ∈ L, CkLine c := fun c hc => ⟨fun x hx => linesOf_line_all cb x (inb c hc x hx), fun x hx => linesOf_line_all co x (ino c hc x hx), fun x hx => linesOf_line_all ct x (int c hc x hx)⟩
  have hall : ∀ x ∈ L.flatMap ckLines, Line x := fun x hx => by
    obtain ⟨c, hc, hx⟩ := List.mem_flatMap.1 hx
    exact (hl c hc).all x hx
  have htext : (if cleanS L = true then ((mergedS L).flatten, true) else (mergeOut [] L, false)).1 = (L.flatMap ckLines).flatten := by
    split
    · rename_i hc
      simp only
      rw [merged_lines hc]
    · have := mergeOut_lines hl (xs := []) (fun x hx => by cases hx)
      simpa using this
  obtain ⟨r, g1, g2, g3⟩ := pRun_all hp []
  have hparse : parseS (L.flatMap ckLines).flatten = some r := by
    rw [parseS, Line.lines hall, g1]
    simp
  have hconf : confN r = confN L := by rw [g2]; simp [confN]
  refine ⟨r, by rw [htext]; exact hparse, hconf, ?_, fun q => by rw [g3]; simp [pickS], fun h => ?_⟩
  · rw [hconf]
    by_cases hc : cleanS L = true
    · rw [if_pos hc, decide_eq_true ((clean_conf L).1 hc)]
    · rw [if_neg hc, decide_eq_false fun h => hc ((clean_conf L).2 h)]
  · have hc : cleanS L = true := by
      by_cases hc : cleanS L = true
      · exact hc
      · rw [if_neg hc] at h; simp at h
    rw [htext]
    refine ⟨(pick_lines hc true).symm, ?_⟩
    rw [plainS, Line.lines hall]
    refine List.all_eq_true.2 fun x hx => ?_
    have h3 : endedS x = x := by
      obtain ⟨y, _, rfl⟩ := hall x hx
      exact Closed.ended (.inr ⟨y, rfl⟩)
    rw [h3]
    obtain ⟨c, hcm, hx⟩ := List.mem_flatMap.1 hx
    have h5 : c.1 ≠ 5 := by
      have := (List.all_eq_true.1 hc) c hcm
      simpa using this
    rw [ckLines, if_neg h5] at hx
    exact decide_eq_true ((hp c hcm).one x hx)
/-- where one changed -/
theorem merge_one {a b : Tx} (ha : a.length ≤ 400) (hb : b.length ≤ 400) : mergeS a a b = (b, true) ∧ mergeS a b a = (b, true) ∧ mergeS a b b = (b, true) := by
  have h1 := linesOf_count a
  have h2 := linesOf_count b
  obtain ⟨⟨c1, m1⟩, ⟨c2, m2⟩, c3, m3⟩ := chunks_one (a := linesOf a) (b := linesOf b) (by omega) (by omega)
  refine ⟨?_, ?_, ?_⟩
  · rw [mergeS, if_pos c1, m1, linesOf_join]
  · rw [mergeS, if_pos c2, m2, linesOf_join]
  · rw [mergeS, if_pos c3, m3, linesOf_join]

/-! ### Marks in any order -/
def tok (k : Nat) : Tx := if k = 0 then mk0 else if k = 1 then mk1 else if k = 2 then mk2 else if k = 3 then mk3 else [120, 10]
theorem tok_line (k : Nat) : Line (tok k) := by
  obtain ⟨h0, h1, h2, h3⟩ := line_mk
  unfold tok
  split
  · exact h0
  · split
    · exact h1
    · split
      · exact h2
      · split
        · exact h3
        · exact ⟨[120], by decide, rfl⟩
/-- is all in its place, and where it stands -/
def marksGo : Bool → Nat → List Nat → Bool × Nat
  | r, a, [] => (r, a)
  | r, a, k :: l => if k = 4 then marksGo r a l else marksGo (r && decide (k = a)) ((k + 1) % 4) l
theorem marksGo_false : ∀ (l : List Nat) (a : Nat), (marksGo false a l).1 = false := by
  intro l
  induction l with
  | nil => exact fun _ => rfl
  | cons k l ih =>
    intro a
    rw [marksGo]
    split
    · exact ih a
    · exact ih _
theorem tok_mark {k : Nat} (hk : k < 4) : markS (tok k) = (k : Int) := by
  obtain ⟨m0, m1, m2, m3⟩ := markS_mk
  rcases (show k = 0 ∨ k = 1 ∨ k = 2 ∨ k = 3 by omega) with rfl | rfl | rfl | rfl
  · exact m0
  · exact m1
  · exact m2
  · exact m3
theorem marks_run : ∀ (l : List Nat), (∀ k ∈ l, k < 5) → ∀ (a : Nat) (out : List (Ck Tx)), a < 4 →
    if (marksGo true a l).1 then ∃ o, pRun out ((a : Int) - 1) (l.map tok) = some (o, ((marksGo true a l).2 : Int) - 1) else pRun out ((a : Int) - 1) (l.map tok) = none := by
  intro l
  induction l with
  | nil => intro _ a out _; simp [marksGo, pRun]
  | cons k l ih =>
    intro h a out ha
    have hk := h k (List.mem_cons_self ..)
    have hl : ∀ k ∈ l, k < 5 := fun x hx => h x (List.mem_cons_of_mem _ hx)
    rw [marksGo, List.map_cons, pRun]
    by_cases h4 : k = 4
    · subst h4
      have hm : ¬ 0 ≤ markS (tok 4) := by decide
      have e : pStep out ((a : Int) - 1) (tok 4) = some (addLn (if needS out ((a : Int) - 1) then out ++ [(1, [], [], [])] else out) ((a : Int) - 1) (tok 4), (a : Int) - 1) := by rw [pStep, if_neg hm]
      rw [if_pos rfl, e]
      exact ih hl a _ ha
    · rw [if_neg h4]
      have hm := tok_mark (k := k) (by omega)
      by_cases hka : k = a
      · subst hka
        have hst : (if (k : Int) = 3 then (-1 : Int) else (k : Int)) = (((k + 1) % 4 : Nat) : Int) - 1 := by
          split <;> omega
        have e : pStep out ((k : Int) - 1) (tok k) = some (if (k : Int) = 0 then out ++ [(5, [], [], [])] else out, (((k + 1) % 4 : Nat) : Int) - 1) := by
          rw [pStep, hm, if_pos (by omega), if_neg (by omega), hst]
        rw [e]
        simp only [decide_true, Bool.and_true]
        exact ih hl _ _ (by omega)
      · have e : pStep out ((a : Int) - 1) (tok k) = none := by
          rw [pStep, hm, if_pos (by omega), if_pos (by omega)]
        rw [e, decide_eq_false hka, Bool.and_false, marksGo_false]
        simp
theorem parse_marks (l : List Nat) (h : ∀ k ∈ l, k < 5) : (parseS (l.map tok).flatten).isSome = ((marksGo true 0 l).1 && decide ((marksGo true 0 l).2 = 0)) := by
  have hl : linesOf (l.map tok).flatten = l.map tok := Line.lines fun x hx => by
    obtain ⟨k, _, rfl⟩ := List.mem_map.1 hx
    exact tok_line k
  have hr := marks_run l h 0 [] (by omega)
  rw [parseS, hl]
  simp only [Int.natCast_zero, Int.zero_sub] at hr
  by_cases hg : (marksGo true 0 l).1 = true
  · rw [if_pos hg] at hr
    obtain ⟨o, hr⟩ := hr
    have hr' : pRun [] (-1) (l.map tok) = some (o, ((marksGo true 0 l).2 : Int) - 1) := hr
    rw [hr', hg, Bool.true_and]
    by_cases hz : (marksGo true 0 l).2 = 0
    · simp [hz]
    · rw [decide_eq_false hz]
      simp only
      rw [if_neg (by omega)]
      rfl
  · rw [if_neg hg] at hr
    have hr' : pRun [] (-1) (l.map tok) = none := hr
    rw [hr', show (marksGo true 0 l).1 = false by simpa using hg]
    rfl

/-! ### One line that both changed -/
theorem goS_one {x y : Tx} {T : List Tx} (hxy : x ≠ y) (hy : y ∉ T) : goS (x :: T) (y :: T) = (2, x) :: (3, y) :: T.map (fun z => ((1 : Int), z)) := by
  have l1 : lcs (x :: T) T = T.length := Nat.le_antisymm (lcs_le _ _).2 (lcs_most _ _ T (List.sublist_cons_self x T) (List.Sublist.refl T))
  have l2 : lcs T (y :: T) = T.length := Nat.le_antisymm (lcs_le _ _).1 (lcs_most _ _ T (List.Sublist.refl T) (List.sublist_cons_self y T))
  rw [goS_cons, if_neg hxy, if_pos (by omega)]
  congr 1
  cases T with
  | nil => rfl
  | cons t T =>
    have hty : t ≠ y := fun e => hy (by rw [e]; exact List.mem_cons_self ..)
    have l3 := lcs_self (t :: T)
    have l4 := (lcs_le T (y :: t :: T)).1
    rw [goS_cons, if_neg hty, if_neg (by rw [l3, List.length_cons]; omega)]
    rw [goS_self]
def gapLine (x : Tx) : List (It Tx) := [.gap [] [] [], .line x]
theorem build_lines (H : List Tx) (r : List (It Tx)) : ∀ run, build run (H.flatMap gapLine ++ r) = build (run ++ H) r := by
  induction H with
  | nil => intro run; simp
  | cons h H ih =>
    intro run
    show build run (.gap [] [] [] :: .line h :: (H.flatMap gapLine ++ r)) = _
    rw [build, if_pos ⟨rfl, rfl, rfl⟩, build, ih]
    simp
theorem gq_lines (H : List Tx) {s1 s2 : List (Int × Tx)} {I : List (It Tx)} (h : GQ [] [] [] s1 s2 I) : GQ [] [] [] (H.map (fun x => ((1 : Int), x)) ++ s1) (H.map (fun x => ((1 : Int), x)) ++ s2) (H.flatMap gapLine ++ I) := by
  induction H with
  | nil => exact h
  | cons x H ih => exact .firm ih
theorem gq_clash (x y z : Tx) (T : List Tx) : ∃ I, GQ [] [] [] ((2, x) :: (3, y) :: T.map (fun w => ((1 : Int), w))) ((2, x) :: (3, z) :: T.map (fun w => ((1 : Int), w))) I ∧ ∀ run, build run I = stab run ++ (kindOf [x] [y] [z], [x], [y], [z]) :: stab T := by
  have hne : ¬ (([x] : List Tx) = [] ∧ ([y] : List Tx) = [] ∧ ([z] : List Tx) = []) := by simp
  cases T with
  | nil =>
    refine ⟨_, .kd (.insO (.insT (.done _ _ _))), fun run => ?_⟩
    simp only [List.nil_append]
    rw [build, if_neg hne, build]
  | cons t T =>
    have h : GQ [] [] [] (T.map (fun w => ((1 : Int), w))) (T.map (fun w => ((1 : Int), w))) (T.flatMap gapLine ++ [.gap [] [] []]) := by
      have := gq_lines T (GQ.done [] [] [])
      simpa using this
    refine ⟨_, .kd (.insO (.insT (.firm h))), fun run => ?_⟩
    simp only [List.nil_append]
    rw [build, if_neg hne, build, build_lines, build, if_pos ⟨rfl, rfl, rfl⟩, build]
    rfl
theorem merge_clash {H T : List Tx} {x y z : Tx} (hx : Line x) (hy : Line y) (hz : Line z) (hH : ∀ w ∈ H, Line w) (hT : ∀ w ∈ T, Line w) (hxy : x ≠ y) (hxz : x ≠ z) (hyz : y ≠ z) (yT : y ∉ T) (zT : z ∉ T) (hl : H.length + T.length + 1 ≤ 400) :
    mergeS (H ++ x :: T).flatten (H ++ y :: T).flatten (H ++ z :: T).flatten = (H.flatten ++ mk0 ++ y ++ mk1 ++ x ++ mk2 ++ z ++ mk3 ++ T.flatten, false) := by
  have lines : ∀ w, Line w → linesOf (H ++ w :: T).flatten = H ++ w :: T := fun w hw => Line.lines fun v hv => by
    rcases List.mem_append.1 hv with hv | hv
    · exact hH v hv
    · rcases List.mem_cons.1 hv with rfl | hv
      · exact hw
      · exact hT v hv
  obtain ⟨I, hI, hB⟩ := gq_clash x y z T
  have hc : chunksS (H ++ x :: T) (H ++ y :: T) (H ++ z :: T) = stab H ++ (5, [x], [y], [z]) :: stab T := by
    have e1 : scriptS (H ++ x :: T) (H ++ y :: T) = H.map (fun w => ((1 : Int), w)) ++ (2, x) :: (3, y) :: T.map (fun w => ((1 : Int), w)) := by
      rw [scriptS_short (by simp; omega) (by simp; omega), goS_front, goS_one hxy yT]
    have e2 : scriptS (H ++ x :: T) (H ++ z :: T) = H.map (fun w => ((1 : Int), w)) ++ (2, x) :: (3, z) :: T.map (fun w => ((1 : Int), w)) := by
      rw [scriptS_short (by simp; omega) (by simp; omega), goS_front, goS_one hxz zT]
    have hg := gq_lines H hI
    rw [← e1, ← e2] at hg
    rw [chunks_of_items hg, build_lines, hB, List.nil_append]
    have hk : kindOf [x] [y] [z] = 5 := by
      rw [kindOf, if_neg (by simpa using Ne.symm hxy), if_neg (by simpa using Ne.symm hxz), if_neg (by simpa using hyz)]
    rw [hk]
  rw [mergeS, lines x hx, lines y hy, lines z hz, hc]
  have hcl : cleanS (stab H ++ (5, [x], [y], [z]) :: stab T) = false := by
    simp [cleanS]
  rw [hcl, if_neg (by simp)]
  have hs : ∀ {K : List Tx}, (∀ w ∈ K, Line w) → ∀ c ∈ stab K, CkLine c := fun hK c hcm => by
    unfold stab at hcm
    split at hcm
    · cases hcm
    · rcases List.mem_singleton.1 hcm with rfl
      exact ⟨hK, hK, hK⟩
  have one : ∀ {w : Tx}, Line w → ∀ v ∈ [w], Line v := fun hw v hv => by
    rcases List.mem_singleton.1 hv with rfl
    exact hw
  have hCL : ∀ c ∈ stab H ++ (5, [x], [y], [z]) :: stab T, CkLine c := fun c hcm => by
    rcases List.mem_append.1 hcm with h | h
    · exact hs hH c h
    · rcases List.mem_cons.1 h with rfl | h
      · exact ⟨one hx, one hy, one hz⟩
      · exact hs hT c h
  have hm := mergeOut_lines hCL (xs := []) (fun w hw => by cases hw)
  rw [show mergeOut [] (stab H ++ (5, [x], [y], [z]) :: stab T) = _ from hm]
  have st : ∀ K : List Tx, (stab K).flatMap ckLines = K := fun K => by
    unfold stab
    split
    · rename_i h; rw [h]; rfl
    · simp [ckLines, ckOne]
  rw [List.nil_append, List.flatMap_append, List.flatMap_cons, st, st, ckLines, if_pos rfl]
  simp
end Go.Proofs.Ytfldheegebopoaa

namespace Go.Proofs.Ytfldheegebopoaa
open Go.RowKit

/-- a list of texts apart from what is written -/
def Off (w : World) (v : Value) (vs : Nat → Value) (u : Value) (ys : List Tx) : Prop :=
  Sl w u (strCells ys) ∧ (ys ≠ [] → ∀ a n c, u = .slice (some a) n c → a.block < w.heap.size ∧ v.ownBlock ≠ some a.block ∧ ∀ j, j < 3 → (vs j).ownBlock ≠ some a.block)
structure PAt (w : World) (base : Nat) (v : Value) (L : List CkS) (k : Int) (vs : Nat → Value) (xs : Nat → List Tx) : Prop where
  row : ∃ flat : List Value, w.ownsRow base 34 4 v (L.length + 1) (flat ++ [.int .i64 k, vs 0, vs 1, vs 2]) ∧ flat.length = L.length * 4 ∧
    ∀ (i : Nat) (x : CkS), L[i]? = some x → ∃ ub uo ut, flat[i * 4]? = some (.int .i64 x.1) ∧ flat[i * 4 + 1]? = some ub ∧ flat[i * 4 + 2]? = some uo ∧ flat[i * 4 + 3]? = some ut ∧ Off w v vs ub x.2.1 ∧ Off w v vs uo x.2.2.1 ∧ Off w v vs ut x.2.2.2
  own : ∀ j, j < 3 → w.ownsRow base 9 1 (vs j) (xs j).length (strCells (xs j))
  apart : ∀ i j, i < 3 → j < 3 → i ≠ j → ∀ g, (vs i).ownBlock = some g → (vs j).ownBlock ≠ some g
/-- the row's block is none of the lists' -/
theorem PAt.rowNe {w : World} {base : Nat} {v : Value} {L : List CkS} {k : Int} {vs : Nat → Value} {xs : Nat → List Tx} (h : PAt w base v L k vs xs) {j : Nat} (hj : j < 3) {g : Nat} (hv : v.ownBlock = some g) : (vs j).ownBlock ≠ some g := by
  intro e
  obtain ⟨flat, hr, _⟩ := h.row
  have ho := h.own j hj
  rcases hr.2 with ⟨_, h0⟩ | ⟨g1, c1, cur, hv1, _, q1, _⟩
  · cases h0
  · rcases ho.2 with ⟨hv2, _⟩ | ⟨g2, c2, cur2, hv2, _, q2, _⟩
    · rw [hv2] at e; cases e
    · rw [hv1] at hv; rw [hv2] at e
      cases hv; cases e
      rw [q1] at q2
      simp at q2
theorem PAt.form {w : World} {base : Nat} {v : Value} {L : List CkS} {k : Int} {vs : Nat → Value} {xs : Nat → List Tx} (h : PAt w base v L k vs xs) :
    ∃ g cap, v = .slice (some ⟨g, 0, none⟩) (L.length + 1) cap ∧ base ≤ g ∧ g < w.heap.size ∧ w.cell? ⟨g, L.length * 4, none⟩ = some (.int .i64 k) ∧ w.cell? ⟨g, L.length * 4 + 1, none⟩ = some (vs 0) ∧ w.cell? ⟨g, L.length * 4 + 2, none⟩ = some (vs 1) ∧ w.cell? ⟨g, L.length * 4 + 3, none⟩ = some (vs 2) ∧
      ∃ cur, w.heap[g]? = some (.cells cur 34 (0, 0)) ∧ L.length * 4 + 4 ≤ cur.size := by
  obtain ⟨flat, hr, hf, _⟩ := h.row
  have hr0 := hr
  rcases hr.2 with ⟨_, h0⟩ | ⟨g, cap, cur, rfl, q0, q1, q2, q3, q4, q5⟩
  · cases h0
  · have at' : ∀ i u, ([.int .i64 k, vs 0, vs 1, vs 2] : List Value)[i]? = some u → w.cell? ⟨g, L.length * 4 + i, none⟩ = some u := fun i u hu => by
      have := hr0.cells rfl (L.length * 4 + i) u (by rw [List.getElem?_append_right (by omega), show L.length * 4 + i - flat.length = i by omega]; exact hu)
      rw [Addr.add_lit, Nat.zero_add] at this
      exact this
    exact ⟨g, cap, rfl, q0, lt_of_block q1, at' 0 _ rfl, at' 1 _ rfl, at' 2 _ rfl, at' 3 _ rfl, cur, q1, by rw [q4]; omega⟩
theorem Off.nestL {w : World} {v : Value} {vs : Nat → Value} {u : Value} {ys : List Tx} (h : Off w v vs u ys) : NestL w v u ys := ⟨h.1, fun hx => ⟨h.1, fun a n c e => ⟨(h.2 hx a n c e).1, (h.2 hx a n c e).2.1⟩⟩⟩
/-- the list as it stands -/
theorem PAt.list {w : World} {base : Nat} {v : Value} {L : List CkS} {k : Int} {vs : Nat → Value} {xs : Nat → List Tx} (h : PAt w base v L k vs xs) : OwnCk w base v (L ++ [(k, xs 0, xs 1, xs 2)]) := by
  obtain ⟨flat, hr, hf, hl⟩ := h.row
  have hn : ∀ j, j < 3 → NestL w v (vs j) (xs j) := fun j hj => Nest.toL ⟨Sl.ofOwns (h.own j hj), fun a n c e => by
    rcases (h.own j hj).2 with ⟨e2, _⟩ | ⟨g2, c2, cur2, e2, _, q2, _⟩
    · rw [e2] at e; cases e
    · rw [e2] at e
      cases e
      exact ⟨lt_of_block q2, fun hv => h.rowNe hj hv (by rw [e2]; rfl)⟩⟩
  refine ⟨flat ++ [.int .i64 k, vs 0, vs 1, vs 2], by rw [List.length_append]; exact hr, fun i x hx => ?_⟩
  by_cases hi : i < L.length
  · rw [List.getElem?_append_left hi] at hx
    obtain ⟨a, b, c, e1, e2, e3, e4, n1, n2, n3⟩ := hl i x hx
    refine ⟨a, b, c, ?_, ?_, ?_, ?_, n1.nestL, n2.nestL, n3.nestL⟩
    · rw [List.getElem?_append_left (by omega)]; exact e1
    · rw [List.getElem?_append_left (by omega)]; exact e2
    · rw [List.getElem?_append_left (by omega)]; exact e3
    · rw [List.getElem?_append_left (by omega)]; exact e4
  · have hlt := (List.getElem?_eq_some_iff.1 hx).1
    rw [List.length_append, List.length_singleton] at hlt
    obtain rfl : i = L.length := by omega
    rw [List.getElem?_append_right (Nat.le_refl _), Nat.sub_self] at hx
    cases hx
    refine ⟨vs 0, vs 1, vs 2, ?_, ?_, ?_, ?_, hn 0 (by omega), hn 1 (by omega), hn 2 (by omega)⟩
    · rw [List.getElem?_append_right (by omega), show L.length * 4 - flat.length = 0 by omega]; rfl
    · rw [List.getElem?_append_right (by omega), show L.length * 4 + 1 - flat.length = 1 by omega]; rfl
    · rw [List.getElem?_append_right (by omega), show L.length * 4 + 2 - flat.length = 2 by omega]; rfl
    · rw [List.getElem?_append_right (by omega), show L.length * 4 + 3 - flat.length = 3 by omega]; rfl
theorem Off.kept {w w' : World} {v : Value} {vs vs' : Nat → Value} {u : Value} {ys : List Tx} (h : Off w v vs u ys) (hk : ∀ g, g < w.heap.size → v.ownBlock ≠ some g → (∀ j, j < 3 → (vs j).ownBlock ≠ some g) → w'.heap[g]? = w.heap[g]?) (hz : w.heap.size ≤ w'.heap.size)
    (hv : ∀ j, j < 3 → (vs' j).ownBlock = (vs j).ownBlock ∨ ∃ f, (vs' j).ownBlock = some f ∧ w.heap.size ≤ f) : Off w' v vs' u ys := by
  by_cases hx : ys = []
  · subst hx
    obtain ⟨ao, cap, rfl, h1, h2, _⟩ := h.1
    exact ⟨⟨ao, cap, rfl, fun _ => rfl, h2, fun a _ j x hx => by simp [strCells] at hx⟩, fun h => absurd rfl h⟩
  · have h2 := h.2 hx
    refine ⟨h.1.kept fun a n c e hlt => hk _ hlt (h2 a n c e).2.1 (h2 a n c e).2.2, fun _ a n c e => ⟨Nat.lt_of_lt_of_le (h2 a n c e).1 hz, (h2 a n c e).2.1, fun j hj => ?_⟩⟩
    rcases hv j hj with hv | ⟨f, hv, hf⟩
    · rw [hv]; exact (h2 a n c e).2.2 j hj
    · rw [hv]
      intro e'
      have := (h2 a n c e).1
      cases e'
      omega
theorem PAt.old {w w' : World} {base : Nat} {v : Value} {L : List CkS} {k : Int} {vs : Nat → Value} {xs : Nat → List Tx} (h : PAt w base v L k vs xs) (hk : Below w.heap.size w w') : PAt w' base v L k vs xs := by
  obtain ⟨flat, hr, hf, hl⟩ := h.row
  have o : ∀ {u ys}, Off w v vs u ys → Off w' v vs u ys := fun q => q.kept (fun g hg _ _ => hk.block g hg) hk.size (fun j _ => .inl rfl)
  refine ⟨⟨flat, owns_kept hr fun g _ hg => hk.block g hg, hf, fun i x hx => ?_⟩, fun j hj => owns_kept (h.own j hj) fun g _ hg => hk.block g hg, h.apart⟩
  obtain ⟨a, b, c, e1, e2, e3, e4, n1, n2, n3⟩ := hl i x hx
  exact ⟨a, b, c, e1, e2, e3, e4, o n1, o n2, o n3⟩
def updV (vs : Nat → Value) (j : Nat) (u : Value) : Nat → Value := fun i => if i = j then u else vs i
def updX (xs : Nat → List Tx) (j : Nat) (x : Tx) : Nat → List Tx := fun i => if i = j then xs i ++ [x] else xs i
/-- a line more in one of the three: appended, and the slice stored -/
theorem PAt.put {w w1 : World} {base : Nat} {v : Value} {L : List CkS} {k : Int} {vs : Nat → Value} {xs : Nat → List Tx} (h : PAt w base v L k vs xs) {j : Nat} (hj : j < 3) {x : Tx} {u : Value} (ho : w1.ownsRow base 9 1 u (xs j ++ [x]).length (strCells (xs j ++ [x])))
    (hg : w.grownBy w1 (vs j).ownBlock) (hu : u.ownBlock = (vs j).ownBlock ∨ u.ownBlock = some w.heap.size) {g n cap : Nat} (hv : v = .slice (some ⟨g, 0, none⟩) n cap) :
    PAt (w1.setCell ⟨g, L.length * 4 + 1 + j, none⟩ u) base v L k (updV vs j u) (updX xs j x) := by
  obtain ⟨flat, hr, hf, hl⟩ := h.row
  have hvb : v.ownBlock = some g := by rw [hv]; rfl
  have hgl : g < w.heap.size := (hr.lt g hvb).2
  have hne : (vs j).ownBlock ≠ some g := h.rowNe hj hvb
  have hgg : w1.heap[g]? = w.heap[g]? := hg.block g hgl (fun e => hne e.symm)
  have keep : ∀ b, b < w.heap.size → v.ownBlock ≠ some b → (∀ i, i < 3 → (vs i).ownBlock ≠ some b) → (w1.setCell ⟨g, L.length * 4 + 1 + j, none⟩ u).heap[b]? = w.heap[b]? := fun b hb h1 h2 =>
    (Below.heap_setCell _ _ _ _ (fun e => h1 (by rw [hvb]; simp only at e; rw [e]))).trans (hg.block b hb (fun e => h2 j hj e.symm))
  have hsz : w.heap.size ≤ (w1.setCell ⟨g, L.length * 4 + 1 + j, none⟩ u).heap.size := by have := hg.size; simpa [World.setCell] using this
  have hvs : ∀ i, i < 3 → (updV vs j u i).ownBlock = (vs i).ownBlock ∨ ∃ f, (updV vs j u i).ownBlock = some f ∧ w.heap.size ≤ f := fun i _ => by
    unfold updV
    by_cases e : i = j
    · subst e
      rw [if_pos rfl]
      rcases hu with hu | hu
      · exact .inl hu
      · exact .inr ⟨_, hu, Nat.le_refl _⟩
    · rw [if_neg e]; exact .inl rfl
  have o : ∀ {q ys}, Off w v vs q ys → Off (w1.setCell ⟨g, L.length * 4 + 1 + j, none⟩ u) v (updV vs j u) q ys := fun q => q.kept keep hsz hvs
  refine ⟨⟨flat, ?_, hf, fun i y hy => ?_⟩, fun i hi => ?_, fun i i' hi hi' hii b hb => ?_⟩
  · rcases hr.2 with ⟨_, h0⟩ | ⟨g1, c1, cur, hv1, q0, q1, q2, q3, q4, q5⟩
    · cases h0
    · have hgg1 : g1 = g := by rw [hv1] at hvb; exact Option.some.inj hvb
      subst hgg1
      have hb := blk_set (i := L.length * 4 + 1 + j) (u := u) (hgg.trans q1)
      refine ⟨by have := hr.1; simp at this ⊢; omega, .inr ⟨g1, c1, _, hv1, q0, hb, q2, q3, by simpa using q4, ?_⟩⟩
      have hj3 : j = 0 ∨ j = 1 ∨ j = 2 := by omega
      rw [Array.toList_setIfInBounds, List.take_set, q5, List.set_append_right _ _ (by omega)]
      congr 1
      rw [show L.length * 4 + 1 + j - flat.length = 1 + j by omega]
      rcases hj3 with rfl | rfl | rfl <;> simp [updV]
  · obtain ⟨a, b, c, e1, e2, e3, e4, n1, n2, n3⟩ := hl i y hy
    exact ⟨a, b, c, e1, e2, e3, e4, o n1, o n2, o n3⟩
  · unfold updV updX
    by_cases e : i = j
    · subst e
      rw [if_pos rfl, if_pos rfl]
      refine owns_kept ho fun b hb _ => Below.heap_setCell _ _ _ _ (fun e => ?_)
      simp only at e
      subst e
      rcases hu with hu | hu
      · rw [hb] at hu; exact hne hu.symm
      · rw [hb] at hu; cases hu; omega
    · rw [if_neg e, if_neg e]
      refine owns_kept (h.own i hi) fun b hb hlt => (Below.heap_setCell _ _ _ _ (fun e' => ?_)).trans (hg.block b hlt fun e' => h.apart i j hi hj e b hb e'.symm)
      simp only at e'
      subst e'
      exact h.rowNe hi hvb hb
  · have hlt : ∀ i, i < 3 → ∀ b, (vs i).ownBlock = some b → b < w.heap.size := fun i hi b hb => ((h.own i hi).lt b hb).2
    unfold updV at hb ⊢
    by_cases e : i = j
    · subst e
      rw [if_pos rfl] at hb
      rw [if_neg (fun e => hii e.symm)]
      rcases hu with hu | hu
      · exact h.apart i i' hi hi' hii b (by rw [← hu]; exact hb)
      · rw [hu] at hb
        cases hb
        intro e
        have := hlt i' hi' _ e
        omega
    · rw [if_neg e] at hb
      by_cases e' : i' = j
      · subst e'
        rw [if_pos rfl]
        rcases hu with hu | hu
        · rw [hu]; exact h.apart i i' hi hi' hii b hb
        · rw [hu]
          intro e2
          cases e2
          have := hlt i hi _ hb
          omega
      · rw [if_neg e']; exact h.apart i i' hi hi' hii b hb
section
variable {w : World}
/-- the append of one line, in a region; the store behind it is named -/
theorem step_append_pt {ops : Array Oper} {o : Oper} {a : Act} {K : Act → World → Prop} {Q : Exit → Act → World → Prop} {E : Prop} (hgd : o.guard = none) (s sx : Operand)
    (ho : o.op = .call { callee := .builtin .append, args := #[s, sx], argTypes := #[32, 32] })
    (base : Nat) (v : Value) (L : List CkS) (k : Int) (vs : Nat → Value) (xs : Nat → List Tx) (hown : PAt w base v L k vs xs) (j : Nat) (hj : j < 3) (x : Tx) (he : a.eval s = vs j) (hx : a.eval sx = .slice (some ⟨w.heap.size, 0, none⟩) 1 1)
    (g n cap : Nat) (hv : v = .slice (some ⟨g, 0, none⟩) n cap) (hlen : (xs j).length ≤ 4000000) (hbase : base ≤ w.heap.size)
    (h : ∀ u w', w'.cell? ⟨g, L.length * 4 + 1 + j, none⟩ = some (vs j) → w'.frozen? ⟨g, L.length * 4 + 1 + j, none⟩ = false → PAt (w'.setCell ⟨g, L.length * 4 + 1 + j, none⟩ u) base v L k (updV vs j u) (updX xs j x) → Below base w (w'.setCell ⟨g, L.length * 4 + 1 + j, none⟩ u) → (∃ ao cap, u = .slice ao ((xs j).length + 1) cap) → K (a.put o.dst u) w') :
    if Region.wanted o (yielded ops a.tmps) = true then Oper.wp Try.prog o a (w.alloc (.cells #[.string ⟨x.toArray⟩] 9)) K Q else E := by
  obtain ⟨i0, hi0, hi1, hi2, hi3⟩ := info_parts Try.infoStr
  have hal := hown.old ((Below.refl _ w).alloc (Nat.le_refl _) (.cells #[.string ⟨x.toArray⟩] 9))
  refine step_append_any _ hgd s sx _ _ ho base 9 i0 _ 1 16 Try.underlying32 hi0 hi1 hi2 hi3 rfl (by omega) (vs j) _ _ he (hal.own j hj) _ 1 [.string ⟨x.toArray⟩] hx
    (Src.ofSlice _ Try.underlying32 ⟨w.heap.size, 0, none⟩ 1 1 [.string ⟨x.toArray⟩] (by rfl) (World.news_of_block (cs := #[.string ⟨x.toArray⟩]) (t := 9) (fr := (0, 0)) (heap_alloc_new w _)) (by simp [Value.oneCell'])) (by unfold maxLen; omega) (by omega) (by simp; omega) fun u w' h2 h3 h4 => ?_
  have hrow : w'.ownsRow base 9 1 u (xs j ++ [x]).length (strCells (xs j ++ [x])) := by
    rw [List.length_append, strCells_append]
    exact h2
  have hp := hal.put hj hrow h3 h4 hv
  have hvb : v.ownBlock = some g := by rw [hv]; rfl
  obtain ⟨g', cap', hv', hb', hl', d0, d1, d2, d3, cur, hcur, hcs⟩ := hal.form
  have hgg : g' = g := by rw [hv'] at hvb; exact Option.some.inj hvb
  subst hgg
  have hsame := h3.block g' hl' (fun e => hal.rowNe hj hvb e.symm)
  have hcell : ∀ i, (w'.cell? ⟨g', i, none⟩) = (w.alloc (.cells #[.string ⟨x.toArray⟩] 9)).cell? ⟨g', i, none⟩ := fun i => World.cell?_of_block (w := w.alloc (.cells #[.string ⟨x.toArray⟩] 9)) hsame
  have hj3 : j = 0 ∨ j = 1 ∨ j = 2 := by omega
  refine h u w' ?_ (blk_free (i := L.length * 4 + 1 + j) (hsame.trans hcur)) hp ?_ ?_
  · rw [hcell]
    rcases hj3 with rfl | rfl | rfl
    · exact d1
    · exact d2
    · exact d3
  · have hb1 : Below base w w' := ((Below.refl base w).alloc hbase _).grown h3 (by simp; omega) (fun b hb => ((hal.own j hj).lt b hb).1)
    exact hb1.setCell hb' _
  · obtain ⟨ao, cp, e⟩ := owns_form h2
    exact ⟨ao, cp, e⟩
/-- a new chunk, with nothing in it -/
theorem wpList_append_pt {ops : Array Oper} {rest : List Oper} {o : Oper} {a : Act} {Q : Exit → Act → World → Prop} (hgd : o.guard = none) (s sx : Operand)
    (ho : o.op = .call { callee := .builtin .append, args := #[s, sx], argTypes := #[22, 22] })
    (base : Nat) (v : Value) (cs : List CkS) (k : Int) (he : a.eval s = v) (hown : OwnCk w base v cs) (hx : a.eval sx = .slice (some ⟨w.heap.size, 0, none⟩) 1 1) (hlen : cs.length ≤ 4000000) (hbase : base ≤ w.heap.size)
    (h : ∀ v' w', PAt w' base v' cs k (fun _ => .slice none 0 0) (fun _ => []) → Below base w w' → wpList Try.prog ops Q rest (a.put o.dst v') w') : wpList Try.prog ops Q (o :: rest) a (w.alloc (.cells #[.int .i64 k, .slice none 0 0, .slice none 0 0, .slice none 0 0] 34)) := by
  obtain ⟨flat, h1, h2⟩ := hown
  obtain ⟨i0, hi0, hi1, hi2, hi3⟩ := info_parts Try.infoCk
  refine wpList_plain hgd fun _ hK => wp_append_any _ s sx _ _ ho base 34 i0 _ 4 80 Try.underlying22 hi0 hi1 hi2 hi3 rfl (by omega) v _ _ he (h1.alloc _) _ 1 [.int .i64 k, .slice none 0 0, .slice none 0 0, .slice none 0 0] hx
    (Src.ofSlice _ Try.underlying22 ⟨w.heap.size, 0, none⟩ 1 1 [.int .i64 k, .slice none 0 0, .slice none 0 0, .slice none 0 0] (by rfl) (World.news_of_block (cs := #[.int .i64 k, .slice none 0 0, .slice none 0 0, .slice none 0 0]) (t := 34) (fr := (0, 0)) (heap_alloc_new w _)) (fun u hu => ?_)) (by unfold maxLen; omega) (by omega) (by simp; omega) fun v' w' q1 q2 q3 => hK _ _ (h v' w' ?_ (((Below.refl base w).alloc hbase _).grown q2 (by simp; omega) (fun j hj => (h1.lt j hj).1)))
  · simp only [List.mem_cons, List.not_mem_nil, or_false] at hu
    rcases hu with rfl | rfl | rfl | rfl <;> rfl
  · have hl := ck_appended (k := k) h1 h2 (xb := []) (xo := []) (xt := []) (vb := .slice none 0 0) (vo := .slice none 0 0) (vt := .slice none 0 0) ⟨Sl.nil _, fun h => absurd rfl h⟩ ⟨Sl.nil _, fun h => absurd rfl h⟩ ⟨Sl.nil _, fun h => absurd rfl h⟩ q1 q2 q3
    have hz : (w.alloc (.cells #[.int .i64 k, .slice none 0 0, .slice none 0 0, .slice none 0 0] 34)).heap.size = w.heap.size + 1 := by simp
    have hvn : v'.ownBlock = v.ownBlock ∨ ∃ f, v'.ownBlock = some f ∧ w.heap.size ≤ f := by
      rcases q3 with e | e
      · exact .inl e
      · exact .inr ⟨_, e, by omega⟩
    have keep : ∀ b, b < w.heap.size → v.ownBlock ≠ some b → w'.heap[b]? = w.heap[b]? := fun b hb hne => (q2.block b (by omega) (fun e => hne e.symm)).trans (Below.heap_alloc w _ b hb)
    have hsz : w.heap.size ≤ w'.heap.size := by have := q2.size; omega
    have o : ∀ {u : Value} {ys : List Tx}, NestL w v u ys → Off w' v' (fun _ => .slice none 0 0) u ys := fun {u ys} q => by
      have q' := q.kept keep hsz hvn
      exact ⟨q'.1, fun hx a n c e => ⟨((q'.2 hx).2 a n c e).1, ((q'.2 hx).2 a n c e).2, fun j _ => by simp [Value.ownBlock]⟩⟩
    refine ⟨⟨flat, q1, by have := h1.1; omega, fun i x hx => ?_⟩, fun j _ => World.ownsRow_nil _ _ _ _, fun i j _ _ _ g e => by cases e⟩
    obtain ⟨a, b, c, e1, e2, e3, e4, n1, n2, n3⟩ := h2 i x hx
    exact ⟨a, b, c, e1, e2, e3, e4, o n1, o n2, o n3⟩
end
end Go.Proofs.Ytfldheegebopoaa

namespace Go.Proofs.Ytfldheegebopoaa
open Go.RowKit

def mkAt (k : Nat) : Tx := if k = 0 then mk0 else if k = 1 then mk1 else if k = 2 then mk2 else mk3
def marksV : Array Value := #[strV mk0, strV mk1, strV mk2, strV mk3]
theorem marksV_at {k : Nat} (h : k < 4) : marksV[k]? = some (strV (mkAt k)) := by
  rcases (show k = 0 ∨ k = 1 ∨ k = 2 ∨ k = 3 by omega) with rfl | rfl | rfl | rfl <;> rfl
theorem mark_at {x : Tx} {k : Nat} (h : k < 4) (hx : x = mkAt k) : markS x = (k : Int) := by
  obtain ⟨m0, m1, m2, m3⟩ := markS_mk
  subst hx
  rcases (show k = 0 ∨ k = 1 ∨ k = 2 ∨ k = 3 by omega) with rfl | rfl | rfl | rfl
  · exact m0
  · exact m1
  · exact m2
  · exact m3
theorem mark_none {x : Tx} (h : ∀ k, k < 4 → x ≠ mkAt k) : markS x = -1 := by
  have h0 : x ≠ mk0 := h 0 (by omega)
  have h1 : x ≠ mk1 := h 1 (by omega)
  have h2 : x ≠ mk2 := h 2 (by omega)
  have h3 : x ≠ mk3 := h 3 (by omega)
  rw [markS, if_neg h0, if_neg h1, if_neg h2, if_neg h3]
theorem Try.sizeMk : (Try.prog.info? 52).map (·.size) = some 4 := by kernel_rfl
section
set_option maxRecDepth 100000
set_option maxHeartbeats 2000000
theorem RMarks_any (w : World) : Calls Try.prog 33 #[] w fun e w' => e = .returned (.agg marksV) ∧ Below w.heap.size w w' := by
  go_enter Try.func33, Try.ntmps33
  go_wp2_with fail
  refine bodyPost_ret (results_cell_row rfl _ _ w.heap.size 52 marksV (0, 0) _ rfl (heap_alloc_new w _) Try.underlying52 rfl Try.sizeMk) rfl ?_
  exact ⟨rfl, (Below.refl _ w).alloc (Nat.le_refl _) _⟩
theorem REnded_any (s : Tx) (w : World) (hl : s.length ≤ 4611686018427387904) : Calls Try.prog 34 #[strV s] w fun e w' => e = .returned (strV (endedS s)) ∧ w = w' := by
  unfold strV
  rcases List.eq_nil_or_concat s with rfl | ⟨t, c, rfl⟩
  · have he : endedS ([] : Tx) = [] := rfl
    rw [he]
    have h0 : ¬ (0 : Int) < 0 := by omega
    clear hl
    go_enter Try.func34, Try.ntmps34
    go_wp2_with fail
    go_ret
    exact ⟨rfl, rfl⟩
  · rw [List.concat_eq_append] at hl ⊢
    have hat : (t ++ [c])[t.length]? = some c := by simp
    have hix := run_str_at (P := Try.prog) 9 Try.underlying9 hat
    have hadd := run_str_add (P := Try.prog) (t ++ [c]) [10] (by simp at hl ⊢; omega)
    have hE : endedS (t ++ [c]) = if c = 10 then t ++ [c] else t ++ [c] ++ [10] := by
      unfold endedS
      rw [List.getLast?_concat]
      by_cases h : c = 10
      · rw [if_pos (.inr (by rw [h])), if_pos h]
      · rw [if_neg (by simp [h]), if_neg h]
    obtain ⟨s, hs⟩ : ∃ s, t ++ [c] = s := ⟨_, rfl⟩
    have hsl : s.length = t.length + 1 := by rw [← hs]; simp
    rw [hs] at hix hadd hE hl ⊢
    obtain ⟨m, hm⟩ : ∃ m, s.length = m := ⟨_, rfl⟩
    obtain ⟨j, hj⟩ : ∃ j, t.length = j := ⟨_, rfl⟩
    rw [hj] at hix
    have hlen := hid hm
    have m0 : (0 : Int) < (m : Int) := by omega
    have mw : IntKind.i64.wrap ((m : Int) - 1) = (j : Int) := (IntWalk.i64_in _ (by omega)).trans (by omega)
    have HS := hid (rfl : (⟨s.toArray⟩ : ByteArray).size = s.length)
    have mlen : s.length = m := hm
    clear hs hsl hj hat hm
    by_cases h10 : c = 10
    · subst h10
      have hbe : ((UInt8.toNat 10 : Nat) : Int) = 10 := rfl
      rw [hbe] at hix
      rw [if_pos rfl] at hE
      have HE := hid hE
      clear hE hadd
      go_enter Try.func34, Try.ntmps34
      go_wp2_with fail
      go_ret
      exact ⟨by rw [HE.out]; rfl, rfl⟩
    · have hbe : (((c.toNat : Nat) : Int) == 10) = false := by
        simp
        intro h
        exact h10 (UInt8.toNat_inj.1 (by rw [show UInt8.toNat 10 = 10 from rfl]; omega))
      rw [if_neg h10] at hE
      have HE := hid hE
      clear hE h10
      go_enter Try.func34, Try.ntmps34
      go_wp2_with fail
      go_ret
      exact ⟨by rw [HE.out]; rfl, rfl⟩
theorem RMark_any (x : Tx) (w : World) : Calls Try.prog 37 #[strV x] w fun e w' => e = .returned (.int .i64 (markS x)) ∧ Below w.heap.size w w' := by
  unfold strV
  go_enter Try.func37, Try.ntmps37
  go_wp2_with fail
  refine (RMarks_any w).mono ?_
  rintro e w1 ⟨rfl, hb1⟩
  have hg := heap_alloc_new w1 (.cells marksV 52)
  have HC := hid (fun (k : Nat) (h : k < 4) => blk_cell (i := k) hg (marksV_at h))
  have HB := hid (hb1.alloc hb1.size (.cells marksV 52))
  unfold marksV strV at HC HB ⊢
  clear hg hb1
  go_wp2_with fail
  generalize w1.alloc (.cells #[.string ⟨mk0.toArray⟩, .string ⟨mk1.toArray⟩, .string ⟨mk2.toArray⟩, .string ⟨mk3.toArray⟩] 52) = W at HC HB ⊢
  go_loopg [4] 4 (fun g i wx => ∃ k : Nat, k ≤ 4 ∧ 4 - k = g ∧ i = .int .i64 k ∧ Hid (∀ j, j < k → x ≠ mkAt j) ∧ wx = W)
  case atStart => exact ⟨0, Nat.zero_le _, rfl, rfl, hid (fun j hj => by omega), rfl⟩
  case round =>
    obtain ⟨k, hk, rfl, rfl, HJ, rfl⟩ := hrel
    have k0 : (0 : Int) ≤ (k : Int) := Int.natCast_nonneg _
    by_cases hlt : k < 4
    · have k1 : (k : Int) < 4 := by omega
      have kw : IntKind.i64.wrap ((k : Int) + 1) = (k : Int) + 1 := IntWalk.i64_in _ (by omega)
      have hc := HC.out k hlt
      obtain ⟨y, hy⟩ : ∃ y, mkAt k = y := ⟨_, rfl⟩
      rw [hy] at hc
      have HY := hid hy
      clear hy
      by_cases hx : x = y
      · have hb : (x == y) = true := by simpa using hx
        have HM := hid (mark_at hlt (hx.trans HY.out.symm))
        clear hx
        go_wp2_with fail
        go_ret
        exact ⟨by rw [HM.out]; rfl, HB.out⟩
      · have hb : (x == y) = false := by simpa using hx
        have HN := hid (show ∀ j, j < k + 1 → x ≠ mkAt j from fun j hj => by
          rcases (show j < k ∨ j = k by omega) with h | rfl
          · exact HJ.out j h
          · rw [HY.out]; exact hx)
        clear hx
        go_wp2_with fail
        go_roundg (4 - (k + 1))
        case measure => omega
        case rel => exact ⟨k + 1, by omega, rfl, by go_num, HN, rfl⟩
    · obtain rfl : k = 4 := by omega
      have HM := hid (mark_none HJ.out)
      have k4 : ¬ (4 : Int) < 4 := by omega
      go_wp2_with fail
      go_ret
      exact ⟨by rw [HM.out]; rfl, HB.out⟩
theorem RPlainT_any (s : Tx) (w : World) (hlen : s.length ≤ 1099511627776) : Calls Try.prog 15 #[strV s] w fun e w' => e = .returned (.bool (plainS s)) ∧ Below w.heap.size w w' := by
  have hcnt := linesOf_count s
  have HSP := hid (RSplit_any s w hlen)
  have HJL := hid (fun x (hx : x ∈ linesOf s) => Nat.le_trans (mem_flatten_len hx) (by rw [linesOf_join]; exact hlen))
  obtain ⟨L, hL⟩ : ∃ L, linesOf s = L := ⟨_, rfl⟩
  have hP : plainS s = L.all fun x => decide (markS (endedS x) < 0) := by rw [plainS, hL]
  rw [hL] at HSP HJL hcnt
  rw [hP]
  clear hP hL
  have HCN := hid (show L.length ≤ 1099511627776 by omega)
  clear hcnt hlen
  unfold strV at *
  go_enter Try.func15, Try.ntmps15
  go_wp2_with fail
  refine HSP.out.mono ?_
  rintro e w1 ⟨v, rfl, ho, hb1⟩
  obtain ⟨lo, lc, rfl⟩ := owns_form ho
  have HS := hid (Sl.ofOwns ho)
  clear ho HSP
  go_wp2_with fail
  go_loopg [4] L.length (fun g i wx => ∃ k : Nat, k ≤ L.length ∧ L.length - k = g ∧ i = .int .i64 k ∧ Hid ((L.all fun x => decide (markS (endedS x) < 0)) = (L.drop k).all fun x => decide (markS (endedS x) < 0)) ∧ Below w1.heap.size w1 wx)
  case atStart => exact ⟨0, Nat.zero_le _, rfl, rfl, hid rfl, Below.refl _ _⟩
  case round =>
    obtain ⟨k, hk, rfl, rfl, HA, hbx⟩ := hrel
    have k0 : (0 : Int) ≤ (k : Int) := Int.natCast_nonneg _
    by_cases hlt : k < L.length
    · have k1 : (k : Int) < (L.length : Int) := by omega
      have kw : IntKind.i64.wrap ((k : Int) + 1) = (k : Int) + 1 := IntWalk.i64_in _ (by have := HCN.out; omega)
      obtain ⟨a, x, rfl, hc, hx⟩ := (Sl.old HS.out hbx).strAt' (i := k) hlt
      have hd : L.drop k = x :: L.drop (k + 1) := by
        obtain ⟨q, e⟩ := List.getElem?_eq_some_iff.1 hx
        rw [List.drop_eq_getElem_cons q, e]
      have HX := hid (show (L.all fun x => decide (markS (endedS x) < 0)) = (decide (markS (endedS x) < 0) && (L.drop (k + 1)).all fun x => decide (markS (endedS x) < 0)) by rw [HA.out, hd]; rfl)
      have HEN := hid (REnded_any x wr (by have := HJL.out x (List.mem_of_getElem? hx); omega))
      have HMK := hid (RMark_any (endedS x) wr)
      unfold strV at HEN HMK
      have hzx := hbx.size
      clear hx hd HA
      by_cases hm : markS (endedS x) < 0
      · have hge : decide (0 ≤ markS (endedS x)) = false := decide_eq_false (by omega)
        have HX2 := hid (show (L.all fun x => decide (markS (endedS x) < 0)) = (L.drop (k + 1)).all fun x => decide (markS (endedS x) < 0) by rw [HX.out, decide_eq_true hm, Bool.true_and])
        obtain ⟨y, hy⟩ : ∃ y, endedS x = y := ⟨_, rfl⟩
        obtain ⟨z, hz⟩ : ∃ z, markS y = z := ⟨_, rfl⟩
        rw [hy] at HEN HMK hge
        rw [hz] at HMK hge
        clear hy hz hm HX
        go_wp2_with (first
          | (go_at_call 34; with_reducible refine HEN.out.mono ?_; rintro e _ ⟨rfl, rfl⟩)
          | (go_at_call 37; with_reducible refine HMK.out.mono ?_; rintro e w2 ⟨rfl, hb2⟩; have HB2 := hid (below_step hbx hb2 hzx); clear hb2))
        go_roundg (L.length - (k + 1))
        case measure => omega
        case rel => exact ⟨k + 1, by omega, rfl, by go_num, HX2, HB2.out⟩
      · have hge : decide (0 ≤ markS (endedS x)) = true := decide_eq_true (by omega)
        have HX2 := hid (show (L.all fun x => decide (markS (endedS x) < 0)) = false by rw [HX.out, decide_eq_false hm, Bool.false_and])
        obtain ⟨y, hy⟩ : ∃ y, endedS x = y := ⟨_, rfl⟩
        obtain ⟨z, hz⟩ : ∃ z, markS y = z := ⟨_, rfl⟩
        rw [hy] at HEN HMK hge
        rw [hz] at HMK hge
        clear hy hz hm HX
        go_wp2_with (first
          | (go_at_call 34; with_reducible refine HEN.out.mono ?_; rintro e _ ⟨rfl, rfl⟩)
          | (go_at_call 37; with_reducible refine HMK.out.mono ?_; rintro e w2 ⟨rfl, hb2⟩; have HB2 := hid (below_step hbx hb2 hzx); clear hb2))
        go_ret
        exact ⟨by rw [HX2.out]; rfl, below_step hb1 HB2.out hb1.size⟩
    · obtain rfl : k = L.length := by omega
      have hneg : ¬ (L.length : Int) < (L.length : Int) := by omega
      have HX := hid (show (L.all fun x => decide (markS (endedS x) < 0)) = true by rw [HA.out, List.drop_length]; rfl)
      go_wp2_with fail
      go_ret
      exact ⟨by rw [HX.out]; rfl, below_step hb1 hbx hb1.size⟩
theorem RPick_any (v : Value) (l : List CkS) (q : Bool) (w : World) (hv : SlC w v l) (hl : l.length ≤ 4000000) (hf : ckFew l) (hp : (pickS q l).length ≤ 4611686018427387904) :
    Calls Try.prog 19 #[v, .bool q] w fun e w' => e = .returned (strV (pickS q l)) ∧ w = w' := by
  obtain ⟨ao, cap, rfl⟩ := hv.form
  have HV := hid hv
  have HF := hid hf
  have HP := hid hp
  clear hv hf hp
  go_enter Try.func19, Try.ntmps19
  go_wp2_with fail
  go_loopg [5, 6] l.length (fun g o i wx => ∃ k : Nat, k ≤ l.length ∧ l.length - k = g ∧ i = .int .i64 k ∧ o = .string ⟨(pickS q (l.take k)).toArray⟩ ∧ wx = w)
  case atStart => exact ⟨0, Nat.zero_le _, rfl, rfl, by simp [pickS], rfl⟩
  case round =>
    obtain ⟨k, hk, rfl, rfl, rfl, rfl⟩ := hrel
    have k0 : (0 : Int) ≤ (k : Int) := Int.natCast_nonneg _
    by_cases hlt : k < l.length
    · have k1 : (k : Int) < (l.length : Int) := by omega
      have kw : IntKind.i64.wrap ((k : Int) + 1) = (k : Int) + 1 := IntWalk.i64_in _ (by omega)
      obtain ⟨b, o, z, xb, xo, xt, vb, vo, vt, rfl, c1, c2, c3, c4, s1, s2, s3, he⟩ := HV.out.at' (i := k) hlt
      have e1 : pickS q (l.take (k + 1)) = pickS q (l.take k) ++ (if q then xo else xt).flatten := by rw [take_snoc he, pickS_append]; simp [pickS]
      have hle : (pickS q (l.take (k + 1))).length ≤ (pickS q l).length := by
        conv => rhs; rw [← List.take_append_drop (k + 1) l]
        rw [pickS_append, List.length_append]
        omega
      have hfl := HF.out.at he
      have hsm := HP.out
      rw [e1, List.length_append] at hle
      obtain ⟨p, hp⟩ : ∃ p, pickS q (l.take k) = p := ⟨_, rfl⟩
      rw [hp] at e1 hle ⊢
      obtain ⟨po, pc, rfl⟩ := s2.form
      obtain ⟨qo, qc, rfl⟩ := s3.form
      cases q with
      | true =>
        simp only [if_true] at e1 hle
        have hadd := run_str_add (P := Try.prog) p xo.flatten (by omega)
        have HJ := hid (RJoin_any _ xo wr s2 (by omega) (by unfold maxLen; omega))
        have HE := hid e1
        rw [strCells_length] at c3 HJ
        unfold strV at HJ
        clear e1 hle hp he s1 s2 s3 c1 c2 c4 hfl hsm
        go_wp2_with (go_at_call 22; with_reducible refine HJ.out.mono ?_; rintro e _ ⟨rfl, rfl⟩)
        go_roundg (l.length - (k + 1))
        case measure => omega
        case rel => exact ⟨k + 1, by omega, rfl, by go_num, by rw [HE.out], rfl⟩
      | false =>
        simp only [Bool.false_eq_true, if_false] at e1 hle
        have hadd := run_str_add (P := Try.prog) p xt.flatten (by omega)
        have HJ := hid (RJoin_any _ xt wr s3 (by omega) (by unfold maxLen; omega))
        have HE := hid e1
        rw [strCells_length] at c4 HJ
        unfold strV at HJ
        clear e1 hle hp he s1 s2 s3 c1 c2 c3 hfl hsm
        go_wp2_with (go_at_call 22; with_reducible refine HJ.out.mono ?_; rintro e _ ⟨rfl, rfl⟩)
        go_roundg (l.length - (k + 1))
        case measure => omega
        case rel => exact ⟨k + 1, by omega, rfl, by go_num, by rw [HE.out], rfl⟩
    · obtain rfl : k = l.length := by omega
      have hneg : ¬ (l.length : Int) < (l.length : Int) := by omega
      rw [List.take_length]
      go_wp2_with fail
      go_ret
      exact ⟨rfl, rfl⟩
end
end Go.Proofs.Ytfldheegebopoaa

namespace Go.Proofs.Ytfldheegebopoaa
open Go.RowKit

theorem endedS_len (s : Tx) : (endedS s).length ≤ s.length + 1 := by
  unfold endedS
  split
  · omega
  · simp
/-- one chunk of a list, as a slice -/
theorem cut_ck {w : World} {ao : Option Addr} {n cap : Nat} {cs : List CkS} (h : SlC w (.slice ao n cap) cs) {i : Nat} {p : CkS} (hp : cs[i]? = some p) :
    ∃ ao' c', (∀ wx, (Instr.slice 22 (.slice ao n cap) (some (.int .i64 (i : Int))) (some (.int .i64 ((i : Int) + 1))) none).run Try.prog wx = .ok (.slice ao' 1 c') wx) ∧ SlC w (.slice ao' 1 c') [p] := by
  obtain ⟨i0, hi0, hi1, hi2, hi3⟩ := info_parts Try.infoCk
  obtain ⟨ao', cap', hv, hnone, hcap, hc⟩ := h
  obtain ⟨rfl, rfl, rfl⟩ := Value.slice.inj hv
  have hlt := (List.getElem?_eq_some_iff.1 hp).1
  refine ⟨if cap = i then ao else ao.map (·.add (i * 4)), cap - i, fun wx => ?_, ⟨_, cap - i, rfl, fun h => ?_, by simp; omega, fun a ha j u hu => ?_⟩⟩
  · have e1 : (i : Int) + 1 = ((i + 1 : Nat) : Int) := by omega
    have h1 : (i : Int) ≤ ((i + 1 : Nat) : Int) := by omega
    have h2 : ((i + 1 : Nat) : Int) ≤ cap := by omega
    have h3 : i + 1 - i = 1 := by omega
    rw [e1]
    generalize hm : i + 1 = m at h1 h2 h3 ⊢
    simp [Instr.slice, run_underlying Try.underlying22, Instr.sliceBounds, run_sliceBound, sizeOf, typeInfo, hi0, hi2, h1, h2, h3]
  · have : ao = none := by
      split at h
      · exact h
      · simpa using h
    rw [hnone this] at hlt
    cases hlt
  · obtain ⟨rfl, rfl⟩ : j = 0 ∧ u = p := by
      cases j with
      | zero => exact ⟨rfl, by simpa using hu.symm⟩
      | succ j => simp at hu
    rw [if_neg (by omega)] at ha
    cases ao with
    | none => cases ha
    | some b =>
      cases ha
      obtain ⟨vb, vo, vt, h1, h2, h3, h4, h5, h6, h7⟩ := hc b rfl i _ hp
      refine ⟨vb, vo, vt, ?_, ?_, ?_, ?_, h5, h6, h7⟩
      · rw [addr_add_add]; simpa using h1
      · rw [addr_add_add]; simpa using h2
      · rw [addr_add_add]; simpa using h3
      · rw [addr_add_add]; simpa using h4
theorem mergedS_append (a b : List CkS) : mergedS (a ++ b) = mergedS a ++ mergedS b := by simp [mergedS]
section
set_option maxRecDepth 100000
set_option maxHeartbeats 4000000
/-- Merged, bounded by what it comes to. -/
theorem RMergedL_any (v : Value) (cs : List CkS) (w : World) (hv : SlC w v cs) (hl : cs.length ≤ 4000000) (hm : (mergedS cs).length ≤ 1000000000) :
    Calls Try.prog 23 #[v] w fun e w' => ∃ u, e = .returned u ∧ w'.ownsRow w.heap.size 9 1 u (mergedS cs).length (strCells (mergedS cs)) ∧ Below w.heap.size w w' := by
  obtain ⟨ao, cap, rfl⟩ := hv.form
  have HV := hid hv
  have HM := hid hm
  clear hv hm
  go_enter Try.func23, Try.ntmps23
  go_wp2_with fail
  go_loopg [3, 4] cs.length (fun g out i wr => ∃ (k : Nat) (X : List Tx), k ≤ cs.length ∧ cs.length - k = g ∧ i = .int .i64 k ∧ Hid (X = mergedS (cs.take k)) ∧ Hid (wr.ownsRow w.heap.size 9 1 out X.length (strCells X)) ∧ Below w.heap.size w wr)
  case atStart => exact ⟨0, [], Nat.zero_le _, rfl, rfl, hid rfl, hid (World.ownsRow_nil _ _ _ _), Below.refl _ _⟩
  case round =>
    obtain ⟨k, X, hk, rfl, rfl, HX, HN, hbel⟩ := hrel
    have hz := hbel.size
    have k0 : (0 : Int) ≤ (k : Int) := Int.natCast_nonneg _
    obtain ⟨no, nc, rfl⟩ := owns_form HN.out
    by_cases hlt : k < cs.length
    · have k1 : (k : Int) < (cs.length : Int) := by omega
      have kw : IntKind.i64.wrap ((k : Int) + 1) = (k : Int) + 1 := IntWalk.i64_in _ (by omega)
      obtain ⟨b, o, z, xb, xo, xt, vb, vo, vt, rfl, c1, c2, c3, c4, s1, s2, s3, he⟩ := (HV.out.old hbel).at' (i := k) hlt
      have hm : mergedS (cs.take (k + 1)) = X ++ (if z = 3 then xt else xo) := by
        rw [take_snoc he, HX.out]
        simp [mergedS]
      have hle : (mergedS (cs.take (k + 1))).length ≤ (mergedS cs).length := by
        conv => rhs; rw [← List.take_append_drop (k + 1) cs]
        rw [mergedS_append, List.length_append]
        omega
      have hmx := HM.out
      rw [hm, List.length_append] at hle
      clear he c2 s1
      by_cases h3 : z = 3
      · subst h3
        rw [if_pos rfl] at hle
        have HMM := hid (show X ++ xt = mergedS (cs.take (k + 1)) by rw [hm, if_pos rfl])
        clear hm c3 s2
        go_wp2_with (at_builtin; refine wpList_append_ss rfl (.tmp 17) (.tmp 22) rfl w.heap.size _ X xt rfl HN.out _ rfl s3 (by omega) hz ?_; intro v5 w5 hO5 hb5; have HO5 := hid hO5; have hb6 := hbel.trans hb5; clear hO5 hb5)
        go_wp2_with fail
        go_roundg (cs.length - (k + 1))
        case measure => omega
        case rel => exact ⟨k + 1, X ++ xt, by omega, rfl, rfl, HMM, HO5, hb6⟩
      · have hb : (z == 3) = false := by simpa using h3
        rw [if_neg h3] at hle
        have HMM := hid (show X ++ xo = mergedS (cs.take (k + 1)) by rw [hm, if_neg h3])
        clear hm c4 s3 h3
        go_wp2_with (at_builtin; refine wpList_append_ss rfl (.tmp 24) (.tmp 29) rfl w.heap.size _ X xo rfl HN.out _ rfl s2 (by omega) hz ?_; intro v5 w5 hO5 hb5; have HO5 := hid hO5; have hb6 := hbel.trans hb5; clear hO5 hb5)
        go_wp2_with fail
        go_roundg (cs.length - (k + 1))
        case measure => omega
        case rel => exact ⟨k + 1, X ++ xo, by omega, rfl, rfl, HMM, HO5, hb6⟩
    · obtain rfl : k = cs.length := by omega
      have hneg : ¬ (cs.length : Int) < (cs.length : Int) := by omega
      have HMM := hid (show X = mergedS cs by rw [HX.out, List.take_length])
      go_wp2_with fail
      go_ret
      rw [← HMM.out]
      exact ⟨_, rfl, HN.out, hbel⟩
/-- each chunk's lines, joined, are no longer than the texts -/
theorem chunk_flat {b o t : Tx} (hb : b.length ≤ 1000) (ho : o.length ≤ 1000) (ht : t.length ≤ 1000) : ∀ c ∈ chunksS (linesOf b) (linesOf o) (linesOf t), c.2.1.flatten.length ≤ 1000 ∧ c.2.2.1.flatten.length ≤ 1000 ∧ c.2.2.2.flatten.length ≤ 1000 := by
  obtain ⟨h1, h2, h3, _⟩ := chunks_sides (linesOf b) (linesOf o) (linesOf t)
  have key : ∀ (f : CkS → List Tx) (l : List CkS) (c : CkS), c ∈ l → (f c).flatten.length ≤ (l.flatMap f).flatten.length := fun f l c hc => by
    induction l with
    | nil => cases hc
    | cons x l ih =>
      rw [List.flatMap_cons, List.flatten_append, List.length_append]
      rcases List.mem_cons.1 hc with rfl | hc
      · omega
      · have := ih hc; omega
  intro c hc
  have e1 := key (fun k => k.2.1) _ c hc
  have e2 := key (fun k => k.2.2.1) _ c hc
  have e3 := key (fun k => k.2.2.2) _ c hc
  rw [h1, linesOf_join] at e1
  rw [h2, linesOf_join] at e2
  rw [h3, linesOf_join] at e3
  omega
/-- what they come to is no longer than two of them -/
theorem merged_flat {l : List CkS} {n : Nat} (h : ∀ c ∈ l, c.2.1.flatten.length ≤ n ∧ c.2.2.1.flatten.length ≤ n ∧ c.2.2.2.flatten.length ≤ n) : (mergedS l).flatten.length ≤ l.length * n := by
  induction l with
  | nil => simp [mergedS]
  | cons c l ih =>
    have h1 := h c (List.mem_cons_self ..)
    have h2 := ih fun x hx => h x (List.mem_cons_of_mem _ hx)
    have e : mergedS (c :: l) = (if c.1 = 3 then c.2.2.2 else c.2.2.1) ++ mergedS l := by simp [mergedS]
    rw [e, List.flatten_append, List.length_append, List.length_cons, Nat.succ_mul]
    split <;> omega
theorem merged_count {l : List CkS} {n : Nat} (h : ∀ c ∈ l, c.2.2.1.length ≤ n ∧ c.2.2.2.length ≤ n) : (mergedS l).length ≤ l.length * n := by
  induction l with
  | nil => simp [mergedS]
  | cons c l ih =>
    have h1 := h c (List.mem_cons_self ..)
    have h2 := ih fun x hx => h x (List.mem_cons_of_mem _ hx)
    have e : mergedS (c :: l) = (if c.1 = 3 then c.2.2.2 else c.2.2.1) ++ mergedS l := by simp [mergedS]
    rw [e, List.length_append, List.length_cons, Nat.succ_mul]
    split <;> omega
theorem chunk_lines {b o t : List Tx} (_ : b.length ≤ 1000) (ho : o.length ≤ 1000) (ht : t.length ≤ 1000) : ∀ c ∈ chunksS b o t, c.2.2.1.length ≤ 1000 ∧ c.2.2.2.length ≤ 1000 := fun c hc => by
  obtain ⟨h1, h2, h3, _⟩ := chunks_sides b o t
  have e2 := flat_len (f := fun k : CkS => k.2.2.1) hc
  have e3 := flat_len (f := fun k : CkS => k.2.2.2) hc
  rw [h2] at e2
  rw [h3] at e3
  omega
theorem RMerge_any (tb tw tt : Tx) (w : World) (lb : tb.length ≤ 1000) (lo : tw.length ≤ 1000) (lt : tt.length ≤ 1000) :
    Calls Try.prog 11 #[strV tb, strV tw, strV tt] w fun e w' => e = .returned (.tuple #[strV (mergeS tb tw tt).1, .bool (mergeS tb tw tt).2]) ∧ Below w.heap.size w w' := by
  have n1 := linesOf_count tb
  have n2 := linesOf_count tw
  have n3 := linesOf_count tt
  have HFL := hid (chunk_flat lb lo lt)
  have HLN := hid (chunk_lines (b := linesOf tb) (o := linesOf tw) (t := linesOf tt) (by omega) (by omega) (by omega))
  obtain ⟨hfew, hcl, _⟩ := chunks_few (a := linesOf tb) (b := linesOf tw) (c := linesOf tt) (by omega) (by omega) (by omega)
  have hM : mergeS tb tw tt = if cleanS (chunksS (linesOf tb) (linesOf tw) (linesOf tt)) then ((mergedS (chunksS (linesOf tb) (linesOf tw) (linesOf tt))).flatten, true) else (mergeOut [] (chunksS (linesOf tb) (linesOf tw) (linesOf tt)), false) := rfl
  have HSB := hid (fun wx => RSplit_any tb wx (by omega))
  have HSO := hid (fun wx => RSplit_any tw wx (by omega))
  have HST := hid (fun wx => RSplit_any tt wx (by omega))
  obtain ⟨Lb, hLb⟩ : ∃ L, linesOf tb = L := ⟨_, rfl⟩
  obtain ⟨Lo, hLo⟩ : ∃ L, linesOf tw = L := ⟨_, rfl⟩
  obtain ⟨Lt, hLt⟩ : ∃ L, linesOf tt = L := ⟨_, rfl⟩
  rw [hLb] at HSB hM HFL HLN hfew hcl n1
  rw [hLo] at HSO hM HFL HLN hfew hcl n2
  rw [hLt] at HST hM HFL HLN hfew hcl n3
  have HNN := hid (show Lb.length ≤ 1000 ∧ Lo.length ≤ 1000 ∧ Lt.length ≤ 1000 by omega)
  have HOF := hid (fun (va vb vc : Value) (wx : World) (h1 : Sl wx va (strCells Lb)) (h2 : Sl wx vb (strCells Lo)) (h3 : Sl wx vc (strCells Lt)) => ROf_any va vb vc Lb Lo Lt wx h1 h2 h3 HNN.out.1 HNN.out.2.1 HNN.out.2.2)
  obtain ⟨l, hl⟩ : ∃ l, chunksS Lb Lo Lt = l := ⟨_, rfl⟩
  rw [hl] at hM HFL HLN hfew hcl HOF
  have HML := hid hM
  have HFW := hid hfew
  have HCL := hid hcl
  clear hM hLb hLo hLt hl n1 n2 n3 lb lo lt hfew hcl HNN
  obtain ⟨R, hR⟩ : ∃ R, mergeS tb tw tt = R := ⟨_, rfl⟩
  rw [hR] at HML ⊢
  clear hR
  unfold strV at HSB HSO HST ⊢
  go_enter Try.func11, Try.ntmps11
  go_wp2_with fail
  refine (HSB.out w).mono ?_
  rintro e x1 ⟨v1, rfl, o1, hb1⟩
  obtain ⟨p1, r1, rfl⟩ := owns_form o1
  have S1 := hid (Sl.ofOwns o1)
  clear o1
  go_wp2_with fail
  refine (HSO.out x1).mono ?_
  rintro e x2 ⟨v2, rfl, o2, hb2⟩
  obtain ⟨p2, r2, rfl⟩ := owns_form o2
  have S1 := hid (Sl.old S1.out hb2)
  have S2 := hid (Sl.ofOwns o2)
  have hb2 := below_step hb1 hb2 hb1.size
  clear o2 hb1
  go_wp2_with fail
  refine (HST.out x2).mono ?_
  rintro e x3 ⟨v3, rfl, o3, hb3⟩
  obtain ⟨p3, r3, rfl⟩ := owns_form o3
  have S1 := hid (Sl.old S1.out hb3)
  have S2 := hid (Sl.old S2.out hb3)
  have S3 := hid (Sl.ofOwns o3)
  have hb3 := below_step hb2 hb3 hb2.size
  clear o3 hb2
  go_wp2_with fail
  refine (HOF.out _ _ _ x3 S1.out S2.out S3.out).mono ?_
  rintro e x4 ⟨v4, rfl, o4, hb4⟩
  obtain ⟨p4, r4, rfl⟩ := o4.form
  have S4 := hid o4
  have hb4 := below_step hb3 hb4 hb3.size
  clear o4 hb3 S1 S2 S3 HOF HSB HSO HST
  have HCLN := hid (RClean_any _ l x4 S4.out (by have := HCL.out; omega))
  go_wp2_with fail
  refine HCLN.out.mono ?_
  rintro e _ ⟨rfl, rfl⟩
  clear HCLN
  by_cases hc : cleanS l = true
  · have HR := hid (show R = ((mergedS l).flatten, true) by rw [HML.out, if_pos hc])
    rw [hc]
    have HMG := hid (RMergedL_any _ l x4 S4.out (by have := HCL.out; omega) (by have h1 := merged_count (l := l) (n := 1000) HLN.out; have h2 := HCL.out; omega))
    clear hc HML
    go_wp2_with fail
    refine HMG.out.mono ?_
    rintro e x5 ⟨v5, rfl, o5, hb5⟩
    obtain ⟨p5, r5, rfl⟩ := owns_form o5
    have S5 := hid (Sl.ofOwns o5)
    have hb5 := below_step hb4 hb5 hb4.size
    clear o5
    have HJ := hid (RJoin_any _ (mergedS l) x5 S5.out (by have h1 := merged_flat HFL.out; have h2 := HCL.out; omega) (by have h1 := merged_count (l := l) (n := 1000) HLN.out; have h2 := HCL.out; unfold maxLen; omega))
    unfold strV at HJ
    go_wp2_with fail
    refine HJ.out.mono ?_
    rintro e _ ⟨rfl, rfl⟩
    go_wp2_with fail
    refine bodyPost_ret (results_tmp2 rfl _ _ _) rfl ?_
    exact ⟨by rw [HR.out]; rfl, hb5⟩
  · have HR := hid (show R = (mergeOut [] l, false) by rw [HML.out, if_neg hc])
    rw [show cleanS l = false by simpa using hc]
    clear hc HML
    go_wp2_with fail
    refine (RMarks_any x4).mono ?_
    rintro e x5 ⟨rfl, hb5⟩
    have hg := heap_alloc_new x5 (.cells marksV 52)
    have HMK := hid (fun (k : Nat) (h : k < 4) => blk_cell (i := k) hg (marksV_at h))
    have HB := hid ((below_step hb4 hb5 hb4.size).alloc (Nat.le_trans hb4.size hb5.size) (.cells marksV 52))
    have HS := hid ((S4.out.old hb5).old ((Below.refl _ x5).alloc (Nat.le_refl _) (.cells marksV 52)))
    unfold marksV strV at HMK HB HS ⊢
    clear hg hb4 hb5 S4
    go_wp2_with fail
    generalize x5.alloc (.cells #[.string ⟨mk0.toArray⟩, .string ⟨mk1.toArray⟩, .string ⟨mk2.toArray⟩, .string ⟨mk3.toArray⟩] 52) = W at HMK HB HS ⊢
    generalize x5.heap.size = gm at HMK ⊢
    go_loopg [10, 11] l.length (fun g o i wx => ∃ (k : Nat) (p : Tx), k ≤ l.length ∧ l.length - k = g ∧ i = .int .i64 k ∧ o = .string ⟨p.toArray⟩ ∧ Hid (mergeOut [] l = mergeOut p (l.drop k)) ∧ Hid (p.length ≤ k * 5000) ∧ Below W.heap.size W wx)
    case atStart => exact ⟨0, [], Nat.zero_le _, rfl, rfl, rfl, hid rfl, hid (Nat.zero_le _), Below.refl _ _⟩
    case round =>
      obtain ⟨k, p, hk, rfl, rfl, rfl, HM, HPL, hbx⟩ := hrel
      have hzx := hbx.size
      have k0 : (0 : Int) ≤ (k : Int) := Int.natCast_nonneg _
      have hcl := HCL.out
      by_cases hlt : k < l.length
      · have k1 : (k : Int) < (l.length : Int) := by omega
        have kw : IntKind.i64.wrap ((k : Int) + 1) = (k : Int) + 1 := IntWalk.i64_in _ (by omega)
        have hpl := HPL.out
        obtain ⟨b, o, z, xb, xo, xt, vb, vo, vt, hao, c1, c2, c3, c4, s1, s2, s3, he⟩ := (HS.out.old hbx).at' (i := k) hlt
        subst hao
        have hd : l.drop k = (z, xb, xo, xt) :: l.drop (k + 1) := by
          obtain ⟨q, e⟩ := List.getElem?_eq_some_iff.1 he
          rw [List.drop_eq_getElem_cons q, e]
        have hfl := HFW.out.at he
        obtain ⟨_, _, rfl⟩ := s1.form
        obtain ⟨_, _, rfl⟩ := s2.form
        obtain ⟨_, _, rfl⟩ := s3.form
        by_cases h5 : z = 5
        · subst h5
          have hfo : xo.flatten.length ≤ 1000 := (HFL.out _ (List.mem_of_getElem? he)).2.1
          have hfb : xb.flatten.length ≤ 1000 := (HFL.out _ (List.mem_of_getElem? he)).1
          have hft : xt.flatten.length ≤ 1000 := (HFL.out _ (List.mem_of_getElem? he)).2.2
          have HRX := hid (show mergeOut [] l = mergeOut (endedS p ++ mk0 ++ endedS xo.flatten ++ mk1 ++ endedS xb.flatten ++ mk2 ++ endedS xt.flatten ++ mk3) (l.drop (k + 1)) by rw [HM.out, hd, mergeOut, if_pos rfl])
          have J1 := hid (fun n => (RJoin_any _ xo (wr.drewN n) (Sl.old s2 (below_drewN wr n)) (by omega) (by have := hfl.2.1; unfold maxLen; omega)).mono fun _ _ ⟨he, hm⟩ => (⟨he, hm.symm⟩ : _ ∧ _))
          have J2 := hid (fun n => (RJoin_any _ xb (wr.drewN n) (Sl.old s1 (below_drewN wr n)) (by omega) (by have := hfl.1; unfold maxLen; omega)).mono fun _ _ ⟨he, hm⟩ => (⟨he, hm.symm⟩ : _ ∧ _))
          have J3 := hid (fun n => (RJoin_any _ xt (wr.drewN n) (Sl.old s3 (below_drewN wr n)) (by omega) (by have := hfl.2.2; unfold maxLen; omega)).mono fun _ _ ⟨he, hm⟩ => (⟨he, hm.symm⟩ : _ ∧ _))
          have E0 := hid (fun n => (REnded_any p (wr.drewN n) (by omega)).mono fun _ _ ⟨he, hm⟩ => (⟨he, hm.symm⟩ : _ ∧ _))
          have E1 := hid (fun n => (REnded_any xo.flatten (wr.drewN n) (by omega)).mono fun _ _ ⟨he, hm⟩ => (⟨he, hm.symm⟩ : _ ∧ _))
          have E2 := hid (fun n => (REnded_any xb.flatten (wr.drewN n) (by omega)).mono fun _ _ ⟨he, hm⟩ => (⟨he, hm.symm⟩ : _ ∧ _))
          have E3 := hid (fun n => (REnded_any xt.flatten (wr.drewN n) (by omega)).mono fun _ _ ⟨he, hm⟩ => (⟨he, hm.symm⟩ : _ ∧ _))
          have l0 := endedS_len p
          have l1 := endedS_len xo.flatten
          have l2 := endedS_len xb.flatten
          have l3 := endedS_len xt.flatten
          obtain ⟨s0, hs0⟩ : ∃ z, endedS p = z := ⟨_, rfl⟩
          obtain ⟨s1', hs1⟩ : ∃ z, endedS xo.flatten = z := ⟨_, rfl⟩
          obtain ⟨s2', hs2⟩ : ∃ z, endedS xb.flatten = z := ⟨_, rfl⟩
          obtain ⟨s3', hs3⟩ : ∃ z, endedS xt.flatten = z := ⟨_, rfl⟩
          rw [hs0] at HRX l0 E0
          rw [hs1] at HRX l1 E1
          rw [hs2] at HRX l2 E2
          rw [hs3] at HRX l3 E3
          have q0 : mk0.length = 13 := rfl
          have q1 : mk1.length = 13 := rfl
          have q2 : mk2.length = 8 := rfl
          have q3 : mk3.length = 15 := rfl
          obtain ⟨a0, ha0⟩ : ∃ z, s0 ++ mk0 = z := ⟨_, rfl⟩
          have len_a0 : a0.length = s0.length + mk0.length := by rw [← ha0, List.length_append]
          have add0 := run_str_add (P := Try.prog) s0 mk0 (by omega)
          rw [ha0] at add0 HRX
          obtain ⟨a1, ha1⟩ : ∃ z, a0 ++ s1' = z := ⟨_, rfl⟩
          have len_a1 : a1.length = a0.length + s1'.length := by rw [← ha1, List.length_append]
          have add1 := run_str_add (P := Try.prog) a0 s1' (by omega)
          rw [ha1] at add1 HRX
          obtain ⟨a2, ha2⟩ : ∃ z, a1 ++ mk1 = z := ⟨_, rfl⟩
          have len_a2 : a2.length = a1.length + mk1.length := by rw [← ha2, List.length_append]
          have add2 := run_str_add (P := Try.prog) a1 mk1 (by omega)
          rw [ha2] at add2 HRX
          obtain ⟨a3, ha3⟩ : ∃ z, a2 ++ s2' = z := ⟨_, rfl⟩
          have len_a3 : a3.length = a2.length + s2'.length := by rw [← ha3, List.length_append]
          have add3 := run_str_add (P := Try.prog) a2 s2' (by omega)
          rw [ha3] at add3 HRX
          obtain ⟨a4, ha4⟩ : ∃ z, a3 ++ mk2 = z := ⟨_, rfl⟩
          have len_a4 : a4.length = a3.length + mk2.length := by rw [← ha4, List.length_append]
          have add4 := run_str_add (P := Try.prog) a3 mk2 (by omega)
          rw [ha4] at add4 HRX
          obtain ⟨a5, ha5⟩ : ∃ z, a4 ++ s3' = z := ⟨_, rfl⟩
          have len_a5 : a5.length = a4.length + s3'.length := by rw [← ha5, List.length_append]
          have add5 := run_str_add (P := Try.prog) a4 s3' (by omega)
          rw [ha5] at add5 HRX
          obtain ⟨a6, ha6⟩ : ∃ z, a5 ++ mk3 = z := ⟨_, rfl⟩
          have len_a6 : a6.length = a5.length + mk3.length := by rw [← ha6, List.length_append]
          have add6 := run_str_add (P := Try.prog) a5 mk3 (by omega)
          rw [ha6] at add6 HRX
          have HLN2 := hid (show a6.length ≤ (k + 1) * 5000 by omega)
          rw [strCells_length] at J1 J2 J3
          unfold strV at J1 J2 J3 E0 E1 E2 E3
          have hk0 : W.cell? ⟨gm, 0, none⟩ = _ := HMK.out 0 (by omega)
          have hk1 : W.cell? ⟨gm, 1, none⟩ = _ := HMK.out 1 (by omega)
          have hk2 : W.cell? ⟨gm, 2, none⟩ = _ := HMK.out 2 (by omega)
          have hk3 : W.cell? ⟨gm, 3, none⟩ = _ := HMK.out 3 (by omega)
          have ck0 : wr.cell? ⟨gm, 0, none⟩ = some (.string ⟨mk0.toArray⟩) := (World.cell?_of_block (w := W) (hbx.block _ (World.block_lt_of_cell? W _ hk0))).trans hk0
          have ck1 : wr.cell? ⟨gm, 1, none⟩ = some (.string ⟨mk1.toArray⟩) := (World.cell?_of_block (w := W) (hbx.block _ (World.block_lt_of_cell? W _ hk1))).trans hk1
          have ck2 : wr.cell? ⟨gm, 2, none⟩ = some (.string ⟨mk2.toArray⟩) := (World.cell?_of_block (w := W) (hbx.block _ (World.block_lt_of_cell? W _ hk2))).trans hk2
          have ck3 : wr.cell? ⟨gm, 3, none⟩ = some (.string ⟨mk3.toArray⟩) := (World.cell?_of_block (w := W) (hbx.block _ (World.block_lt_of_cell? W _ hk3))).trans hk3
          simp only [strCells_length] at c2 c3 c4 s1 s2 s3
          clear hk0 hk1 hk2 hk3 he hd hfl s1 s2 s3 l0 l1 l2 l3 hs0 hs1 hs2 hs3 q0 q1 q2 q3 hfo hfb hft ha0 ha1 ha2 ha3 ha4 ha5 ha6 len_a0 len_a1 len_a2 len_a3 len_a4 len_a5 len_a6 hpl
          go_wp2_with fail
          go_quiet ((first
            | (go_at_call 22; with_reducible exact Calls.quiet_of_same (J1.out _))
            | (go_at_call 22; with_reducible exact Calls.quiet_of_same (J2.out _))
            | (go_at_call 22; with_reducible exact Calls.quiet_of_same (J3.out _))
            | (go_at_call 34; with_reducible exact Calls.quiet_of_same (E0.out _))
            | (go_at_call 34; with_reducible exact Calls.quiet_of_same (E1.out _))
            | (go_at_call 34; with_reducible exact Calls.quiet_of_same (E2.out _))
            | (go_at_call 34; with_reducible exact Calls.quiet_of_same (E3.out _))))
          go_wp2_with fail
          go_roundg (l.length - (k + 1))
          case measure => omega
          case rel => exact ⟨k + 1, a6, by omega, rfl, by go_num, rfl, HRX, HLN2, hbx.trans ⟨rfl, rfl, rfl, Nat.le_refl _, fun _ _ => rfl⟩⟩
        · have hne : (z != 5) = true := by simpa using h5
          obtain ⟨so, sc, hsl, ss⟩ := cut_ck (HS.out.old hbx) he
          have hone : mergedS [(z, xb, xo, xt)] = ckOne (z, xb, xo, xt) := by simp [mergedS, ckOne]
          have hof : (ckOne (z, xb, xo, xt)).flatten.length ≤ 1000 := by
            have h := HFL.out _ (List.mem_of_getElem? he)
            unfold ckOne
            split
            · exact h.2.2
            · exact h.2.1
          have hol : (ckOne (z, xb, xo, xt)).length ≤ 1000 := by
            have h := HLN.out _ (List.mem_of_getElem? he)
            unfold ckOne
            split
            · exact h.2
            · exact h.1
          have HMG := RMergedL_any _ [(z, xb, xo, xt)] wr ss (by simp) (by rw [hone]; omega)
          rw [hone] at HMG
          have HRX := hid (show mergeOut [] l = mergeOut (p ++ (ckOne (z, xb, xo, xt)).flatten) (l.drop (k + 1)) by rw [HM.out, hd, mergeOut, if_neg h5])
          obtain ⟨M, hMM⟩ : ∃ M, ckOne (z, xb, xo, xt) = M := ⟨_, rfl⟩
          rw [hMM] at HMG HRX hof hol
          have hadd := run_str_add (P := Try.prog) p M.flatten (by omega)
          have HLN2 := hid (show (p ++ M.flatten).length ≤ (k + 1) * 5000 by rw [List.length_append]; omega)
          have HMH := hid HMG
          have HOL := hid (And.intro hof hol)
          clear HMG hMM hof hol hone he hd hfl s1 s2 s3 c2 c3 c4 h5 hpl ss
          go_wp2_with (first
            | (go_at_call 23; refine HMH.out.mono ?_; rintro e y1 ⟨u1, rfl, o1, hb1⟩
               obtain ⟨uo, uc, rfl⟩ := owns_form o1
               have HJ := hid (RJoin_any _ M y1 (Sl.ofOwns o1) (by have := HOL.out.1; omega) (by have := HOL.out.2; unfold maxLen; omega))
               unfold strV at HJ
               have HB1 := hid (below_step hbx hb1 hzx)
               clear o1 hb1)
            | (go_at_call 22; refine HJ.out.mono ?_; rintro e _ ⟨rfl, rfl⟩))
          go_roundg (l.length - (k + 1))
          case measure => omega
          case rel => exact ⟨k + 1, _, by omega, rfl, by go_num, rfl, HRX, HLN2, HB1.out⟩
      · obtain rfl : k = l.length := by omega
        have hneg : ¬ (l.length : Int) < (l.length : Int) := by omega
        have HP := hid (show mergeOut [] l = p by rw [HM.out, List.drop_length]; rfl)
        go_wp2_with fail
        refine bodyPost_ret (results_tmp2 rfl _ _ _) rfl ?_
        exact ⟨by rw [HR.out, HP.out]; rfl, below_step HB.out hbx HB.out.size⟩
end
end Go.Proofs.Ytfldheegebopoaa

namespace Go.Proofs.Ytfldheegebopoaa
open Go.RowKit

/-- where Parse stands: nothing yet, or a list whose last chunk grows -/
def PState (w : World) (base : Nat) (v : Value) (out : List CkS) : Prop :=
  (out = [] ∧ v = .slice none 0 0) ∨ ∃ L k vs xs, out = L ++ [(k, xs 0, xs 1, xs 2)] ∧ PAt w base v L k vs xs
theorem PState.list {w : World} {base : Nat} {v : Value} {out : List CkS} (h : PState w base v out) : OwnCk w base v out := by
  rcases h with ⟨rfl, rfl⟩ | ⟨L, k, vs, xs, rfl, h⟩
  · exact OwnCk.nil _ _
  · exact h.list
theorem PState.old {w w' : World} {base : Nat} {v : Value} {out : List CkS} (h : PState w base v out) (hk : Below w.heap.size w w') : PState w' base v out := by
  rcases h with h | ⟨L, k, vs, xs, e, h⟩
  · exact .inl h
  · exact .inr ⟨L, k, vs, xs, e, h.old hk⟩
/-- no list of it has more than n lines -/
def CkUpto (n : Nat) (out : List CkS) : Prop := ∀ c ∈ out, c.2.1.length ≤ n ∧ c.2.2.1.length ≤ n ∧ c.2.2.2.length ≤ n
theorem CkUpto.mono {n m : Nat} {out : List CkS} (h : CkUpto n out) (hn : n ≤ m) : CkUpto m out := fun c hc => by have := h c hc; omega
theorem CkUpto.snoc {n : Nat} {L : List CkS} {c : CkS} (h : CkUpto n L) (hc : c.2.1.length ≤ n ∧ c.2.2.1.length ≤ n ∧ c.2.2.2.length ≤ n) : CkUpto n (L ++ [c]) := fun d hd => by
  rcases List.mem_append.1 hd with hd | hd
  · exact h d hd
  · rcases List.mem_singleton.1 hd with rfl
    exact hc
theorem CkUpto.front {n : Nat} {L : List CkS} {c : CkS} (h : CkUpto n (L ++ [c])) : CkUpto n L := fun d hd => h d (List.mem_append_left _ hd)
theorem CkUpto.last {n : Nat} {L : List CkS} {c : CkS} (h : CkUpto n (L ++ [c])) : c.2.1.length ≤ n ∧ c.2.2.1.length ≤ n ∧ c.2.2.2.length ≤ n := h c (by simp)
theorem pRun_at {Ln : List Tx} {m : Nat} {x : Tx} (h : Ln[m]? = some x) (out : List CkS) (st : Int) : pRun out st (Ln.drop m) = match pStep out st x with | some (o, s) => pRun o s (Ln.drop (m + 1)) | none => none := by
  obtain ⟨q, e⟩ := List.getElem?_eq_some_iff.1 h
  rw [List.drop_eq_getElem_cons q, e, pRun]
  try rfl
/-- the answers: which list, and whether it is one -/
def parseL (s : Tx) : List CkS := (parseS s).getD []
def parseE (s : Tx) : Int := if (parseS s).isSome then 0 else 5
theorem PAt.at {w : World} {base g n cap : Nat} {L : List CkS} {k : Int} {vs : Nat → Value} {xs : Nat → List Tx} (h : PAt w base (.slice (some ⟨g, 0, none⟩) n cap) L k vs xs) {j : Nat} (hj : L.length = j) :
    base ≤ g ∧ g < w.heap.size ∧ w.cell? ⟨g, j * 4, none⟩ = some (.int .i64 k) ∧ w.cell? ⟨g, j * 4 + 1, none⟩ = some (vs 0) ∧ w.cell? ⟨g, j * 4 + 2, none⟩ = some (vs 1) ∧ w.cell? ⟨g, j * 4 + 3, none⟩ = some (vs 2) := by
  subst hj
  obtain ⟨g', cap', hv', hgb', hgl', d0, d1, d2, d3, _⟩ := h.form
  cases hv'
  exact ⟨hgb', hgl', d0, d1, d2, d3⟩
/-- behind the question whether a new chunk is wanted, outside of a conflict -/
def CutQ (w1 : World) (base m : Nat) (Ln : List Tx) (x : Tx) (v5 : Value) (wx : World) : Prop :=
  ∃ (g n cap j : Nat) (L : List CkS) (k : Int) (vs : Nat → Value) (xs : Nat → List Tx), v5 = .slice (some ⟨g, 0, none⟩) n cap ∧ L.length = j ∧ n = j + 1 ∧ j ≤ 1000000 ∧ PAt wx base v5 L k vs xs ∧ Below base w1 wx ∧
    pRun [] (-1) Ln = pRun (L ++ [(k, xs 0 ++ [x], xs 1 ++ [x], xs 2 ++ [x])]) (-1) (Ln.drop (m + 1)) ∧ CkUpto m L ∧ ((xs 0).length ≤ m ∧ (xs 1).length ≤ m ∧ (xs 2).length ≤ m) ∧ L.length ≤ m
/-- behind one of the three appends -/
def CutP (w1 : World) (base : Nat) (v : Value) (L : List CkS) (k : Int) (xs : Nat → List Tx) (wx : World) : Prop := ∃ vs, PAt wx base v L k vs xs ∧ Below base w1 wx
theorem upd3 (xs : Nat → List Tx) (x : Tx) : updX (updX (updX xs 1 x) 0 x) 2 x 0 = xs 0 ++ [x] ∧ updX (updX (updX xs 1 x) 0 x) 2 x 1 = xs 1 ++ [x] ∧ updX (updX (updX xs 1 x) 0 x) 2 x 2 = xs 2 ++ [x] := by
  simp [updX]
section
set_option maxRecDepth 100000
set_option maxHeartbeats 4000000
theorem RParse_any (s : Tx) (w : World) (hlen : s.length ≤ 1000000) :
    Calls Try.prog 13 #[strV s] w fun e w' => ∃ u, e = .returned (.tuple #[u, .int .i64 (parseE s)]) ∧ SlC w' u (parseL s) ∧ CkUpto s.length (parseL s) ∧ (parseL s).length ≤ s.length ∧ Below w.heap.size w w' := by
  have hcnt := linesOf_count s
  have HSP := hid (RSplit_any s w (by omega))
  obtain ⟨Ln, hL⟩ : ∃ L, linesOf s = L := ⟨_, rfl⟩
  have hP : parseS s = match pRun [] (-1) Ln with
    | some (l, st) => if st = -1 then some l else none
    | none => none := by rw [parseS, hL]; try rfl
  rw [hL] at HSP hcnt
  have HP := hid hP
  have HCN := hid (And.intro hcnt hlen)
  clear hP hL hcnt hlen
  unfold strV at HSP ⊢
  go_enter Try.func13, Try.ntmps13
  go_wp2_with fail
  refine HSP.out.mono ?_
  rintro e w1 ⟨v, rfl, ho, hb1⟩
  obtain ⟨lo, lc, rfl⟩ := owns_form ho
  have HS := hid (Sl.ofOwns ho)
  clear ho HSP
  go_wp2_with fail
  go_loopg [5, 6, 7] Ln.length (fun g v inn i wx => ∃ (m : Nat) (out : List CkS) (st : Int), m ≤ Ln.length ∧ Ln.length - m = g ∧ i = .int .i64 m ∧ inn = .int .i64 st ∧ Hid (pRun [] (-1) Ln = pRun out st (Ln.drop m)) ∧ Hid (PState wx w1.heap.size v out) ∧ Hid (-1 ≤ st ∧ st ≤ 2 ∧ (0 ≤ st → out ≠ [])) ∧ Hid (CkUpto m out ∧ out.length ≤ m) ∧ Below w1.heap.size w1 wx)
  case atStart => exact ⟨0, [], -1, Nat.zero_le _, rfl, rfl, rfl, hid rfl, hid (.inl ⟨rfl, rfl⟩), hid ⟨by omega, by omega, fun h => by omega⟩, hid ⟨fun c hc => (by cases hc), Nat.zero_le _⟩, Below.refl _ _⟩
  case round =>
    obtain ⟨m, out, st, hm, rfl, rfl, rfl, HR, HT, HI, HU, hbx⟩ := hrel
    have hzx := hbx.size
    have m0 : (0 : Int) ≤ (m : Int) := Int.natCast_nonneg _
    obtain ⟨vo, vc, rfl⟩ := HT.out.list.form
    by_cases hlt : m < Ln.length
    · have m1 : (m : Int) < (Ln.length : Int) := by omega
      have mw : IntKind.i64.wrap ((m : Int) + 1) = (m : Int) + 1 := IntWalk.i64_in _ (by have := HCN.out; omega)
      obtain ⟨⟨la, loff, lsp⟩, x, hla, hc1, hx⟩ := HS.out.strAt' (i := m) hlt
      subst hla
      have hlb := World.block_lt_of_cell? w1 _ hc1
      have hc := (World.cell?_of_block (w := w1) (hbx.block _ hlb)).trans hc1
      have HL1 := hid (And.intro hlb hc1)
      clear hlb hc1
      have HX := hid hx
      have HST := hid (pRun_at hx out st)
      have HMK := hid (RMark_any x wr)
      have HIC := HI.out
      unfold strV at HMK
      have hmc := markS_cases x
      clear hx
      by_cases hge : 0 ≤ markS x
      · by_cases hok : markS x = st + 1
        · have hps : pStep out st x = some (if markS x = 0 then out ++ [(5, [], [], [])] else out, if markS x = 3 then -1 else markS x) := by rw [pStep, if_pos hge, if_neg (by omega)]
          have HR2 := hid (show pRun [] (-1) Ln = pRun (if markS x = 0 then out ++ [(5, [], [], [])] else out) (if markS x = 3 then -1 else markS x) (Ln.drop (m + 1)) by rw [HR.out, HST.out, hps])
          clear hps HST HR
          obtain ⟨mk, hmk⟩ : ∃ z, markS x = z := ⟨_, rfl⟩
          rw [hmk] at HR2 HMK hge hok hmc
          clear hmk
          have hmk4 : mk = 0 ∨ mk = 1 ∨ mk = 2 ∨ mk = 3 := by omega
          rcases hmk4 with rfl | rfl | rfl | rfl
          · obtain rfl : st = -1 := by omega
            have HR3 := hid (show pRun [] (-1) Ln = pRun (out ++ [(5, [], [], [])]) 0 (Ln.drop (m + 1)) by have := HR2.out; simpa using this)
            clear HR2 hok hge hmc HIC
            go_wp2_with (first
              | (go_at_call 37; with_reducible refine HMK.out.mono ?_; rintro e w2 ⟨rfl, hb2⟩
                 have HT2 := hid (HT.out.old hb2)
                 have HB2 := hid (below_step hbx hb2 hzx)
                 clear hb2)
              | (at_builtin; refine wpList_append_pt rfl (.tmp 41) (.tmp 43) rfl w1.heap.size _ out 5 rfl HT2.out.list rfl (by have h1 := HU.out.2; have h2 := HCN.out; omega) HB2.out.size ?_; intro v4 w4 hp4 hb4
                 have HT4 := hid (show PState w4 w1.heap.size v4 (out ++ [(5, [], [], [])]) from .inr ⟨_, _, _, _, rfl, hp4⟩)
                 have HB4 := hid (HB2.out.trans hb4)
                 clear hp4 hb4))
            go_roundg (Ln.length - (m + 1))
            case measure => omega
            case rel => exact ⟨m + 1, _, 0, by omega, rfl, by go_num, rfl, HR3, HT4, hid ⟨by omega, by omega, fun _ => by simp⟩, hid ⟨(HU.out.1.mono (by omega)).snoc ⟨Nat.zero_le _, Nat.zero_le _, Nat.zero_le _⟩, by have := HU.out.2; rw [List.length_append, List.length_singleton]; omega⟩, HB4.out⟩
          · obtain rfl : st = 0 := by omega
            have HR3 := hid (show pRun [] (-1) Ln = pRun out 1 (Ln.drop (m + 1)) by have := HR2.out; simpa using this)
            clear HR2 hok hge hmc HIC
            go_wp2_with (first
              | (go_at_call 37; with_reducible refine HMK.out.mono ?_; rintro e w2 ⟨rfl, hb2⟩
                 have HT2 := hid (HT.out.old hb2)
                 have HB2 := hid (below_step hbx hb2 hzx)
                 clear hb2))
            go_roundg (Ln.length - (m + 1))
            case measure => omega
            case rel => exact ⟨m + 1, out, 1, by omega, rfl, by go_num, rfl, HR3, HT2, hid ⟨by omega, by omega, fun _ => HI.out.2.2 (by omega)⟩, hid ⟨HU.out.1.mono (by omega), by have := HU.out.2; omega⟩, HB2.out⟩
          · obtain rfl : st = 1 := by omega
            have HR3 := hid (show pRun [] (-1) Ln = pRun out 2 (Ln.drop (m + 1)) by have := HR2.out; simpa using this)
            clear HR2 hok hge hmc HIC
            go_wp2_with (first
              | (go_at_call 37; with_reducible refine HMK.out.mono ?_; rintro e w2 ⟨rfl, hb2⟩
                 have HT2 := hid (HT.out.old hb2)
                 have HB2 := hid (below_step hbx hb2 hzx)
                 clear hb2))
            go_roundg (Ln.length - (m + 1))
            case measure => omega
            case rel => exact ⟨m + 1, out, 2, by omega, rfl, by go_num, rfl, HR3, HT2, hid ⟨by omega, by omega, fun _ => HI.out.2.2 (by omega)⟩, hid ⟨HU.out.1.mono (by omega), by have := HU.out.2; omega⟩, HB2.out⟩
          · obtain rfl : st = 2 := by omega
            have HR3 := hid (show pRun [] (-1) Ln = pRun out (-1) (Ln.drop (m + 1)) by have := HR2.out; simpa using this)
            clear HR2 hok hge hmc HIC
            go_wp2_with (first
              | (go_at_call 37; with_reducible refine HMK.out.mono ?_; rintro e w2 ⟨rfl, hb2⟩
                 have HT2 := hid (HT.out.old hb2)
                 have HB2 := hid (below_step hbx hb2 hzx)
                 clear hb2))
            go_roundg (Ln.length - (m + 1))
            case measure => omega
            case rel => exact ⟨m + 1, out, -1, by omega, rfl, by go_num, rfl, HR3, HT2, hid ⟨by omega, by omega, fun h => by omega⟩, hid ⟨HU.out.1.mono (by omega), by have := HU.out.2; omega⟩, HB2.out⟩
        · have hps : pStep out st x = none := by rw [pStep, if_pos hge, if_pos hok]
          have hnone : pRun [] (-1) Ln = none := by rw [HR.out, HST.out, hps]
          have HE := hid (show parseE s = 5 ∧ parseL s = [] by
            have h : parseS s = none := by rw [HP.out, hnone]
            exact ⟨by rw [parseE, h]; rfl, by rw [parseL, h]; rfl⟩)
          clear hps hnone HST HR
          obtain ⟨mk, hmk⟩ : ∃ z, markS x = z := ⟨_, rfl⟩
          rw [hmk] at HMK hge hok hmc
          clear hmk
          have hg : decide (0 ≤ mk) = true := decide_eq_true hge
          rcases (show st = -1 ∨ st = 0 ∨ st = 1 ∨ st = 2 by omega) with rfl | rfl | rfl | rfl
          · have hb : (mk != 0) = true := by simp; omega
            clear hge hok hmc HIC
            go_wp2_with (first
              | (go_at_call 37; with_reducible refine HMK.out.mono ?_; rintro e w2 ⟨rfl, hb2⟩
                 have HT2 := hid (HT.out.old hb2)
                 have HB2 := hid (below_step hbx hb2 hzx)
                 clear hb2))
            refine bodyPost_ret (results_tmp2 rfl _ _ _) rfl ?_
            refine ⟨.slice none 0 0, by rw [HE.out.1]; rfl, ?_, ?_, ?_, below_step hb1 HB2.out hb1.size⟩
            · rw [HE.out.2]; exact SlC.nil _
            · rw [HE.out.2]; exact fun c hc => by cases hc
            · rw [HE.out.2]; exact Nat.zero_le _
          · have hb : (mk != 1) = true := by simp; omega
            clear hge hok hmc HIC
            go_wp2_with (first
              | (go_at_call 37; with_reducible refine HMK.out.mono ?_; rintro e w2 ⟨rfl, hb2⟩
                 have HT2 := hid (HT.out.old hb2)
                 have HB2 := hid (below_step hbx hb2 hzx)
                 clear hb2))
            refine bodyPost_ret (results_tmp2 rfl _ _ _) rfl ?_
            refine ⟨.slice none 0 0, by rw [HE.out.1]; rfl, ?_, ?_, ?_, below_step hb1 HB2.out hb1.size⟩
            · rw [HE.out.2]; exact SlC.nil _
            · rw [HE.out.2]; exact fun c hc => by cases hc
            · rw [HE.out.2]; exact Nat.zero_le _
          · have hb : (mk != 2) = true := by simp; omega
            clear hge hok hmc HIC
            go_wp2_with (first
              | (go_at_call 37; with_reducible refine HMK.out.mono ?_; rintro e w2 ⟨rfl, hb2⟩
                 have HT2 := hid (HT.out.old hb2)
                 have HB2 := hid (below_step hbx hb2 hzx)
                 clear hb2))
            refine bodyPost_ret (results_tmp2 rfl _ _ _) rfl ?_
            refine ⟨.slice none 0 0, by rw [HE.out.1]; rfl, ?_, ?_, ?_, below_step hb1 HB2.out hb1.size⟩
            · rw [HE.out.2]; exact SlC.nil _
            · rw [HE.out.2]; exact fun c hc => by cases hc
            · rw [HE.out.2]; exact Nat.zero_le _
          · have hb : (mk != 3) = true := by simp; omega
            clear hge hok hmc HIC
            go_wp2_with (first
              | (go_at_call 37; with_reducible refine HMK.out.mono ?_; rintro e w2 ⟨rfl, hb2⟩
                 have HT2 := hid (HT.out.old hb2)
                 have HB2 := hid (below_step hbx hb2 hzx)
                 clear hb2))
            refine bodyPost_ret (results_tmp2 rfl _ _ _) rfl ?_
            refine ⟨.slice none 0 0, by rw [HE.out.1]; rfl, ?_, ?_, ?_, below_step hb1 HB2.out hb1.size⟩
            · rw [HE.out.2]; exact SlC.nil _
            · rw [HE.out.2]; exact fun c hc => by cases hc
            · rw [HE.out.2]; exact Nat.zero_le _
      · have hps : pStep out st x = some (addLn (if needS out st then out ++ [(1, [], [], [])] else out) st x, st) := by rw [pStep, if_neg hge]
        have HR2 := hid (show pRun [] (-1) Ln = pRun (addLn (if needS out st then out ++ [(1, [], [], [])] else out) st x) st (Ln.drop (m + 1)) by rw [HR.out, HST.out, hps])
        have hm1 : markS x = -1 := by omega
        rw [hm1] at HMK
        clear hps HST HR hge hmc hm1
        by_cases hst : st = -1
        · subst hst
          clear HIC
          obtain ⟨j, hj⟩ : ∃ z, out.length = z := ⟨_, rfl⟩
          have hju : j ≤ 1000000 := by have h1 := HU.out.2; have h2 := HCN.out; omega
          have j0 : (0 : Int) ≤ (j : Int) := Int.natCast_nonneg _
          rw [hj] at HT ⊢
          have HJ := hid hj
          go_upto_region 16 with (first
            | (go_at_call 37; with_reducible refine HMK.out.mono ?_; rintro e w2 ⟨rfl, hb2⟩
               have HT2 := hid (HT.out.old hb2)
               have HB2 := hid (below_step hbx hb2 hzx)
               clear hb2))
          go_cut [63] from 12 to 129 (fun c wx => c = .bool (needS out (-1)) ∧ Hid (PState wx w1.heap.size (.slice vo j vc) out) ∧ Hid (Below w1.heap.size w1 wx))
          case first =>
            rcases HT2.out with ⟨e0, e⟩ | ⟨L, k, vs, xs, e0, hp⟩
            · have hj0 : j = 0 := by rw [← hj, e0]; rfl
              rw [hj0] at e
              cases e
              have jz : ((j : Int) == 0) = true := by rw [hj0]; rfl
              have HNS := hid (show needS out (-1) = true by rw [e0]; decide)
              clear e0 hj0 hj hju
              go_wp2_with fail
              go_meet
              exact ⟨by rw [HNS.out], by first | exact HT2 | exact hid (HT2.out.old ((Below.refl _ _).drew)), by first | exact HB2 | exact hid HB2.out.drew⟩
            · have hL1 : L.length + 1 = j := by rw [← hj, e0]; simp
              have HNS := hid (show needS out (-1) = decide (k = 5) by unfold needS; rw [e0, List.getLast?_concat]; simp)
              obtain ⟨i, hi⟩ : ∃ z, L.length = z := ⟨_, rfl⟩
              have i0 : (0 : Int) ≤ (i : Int) := Int.natCast_nonneg _
              have ij : (i : Int) < (j : Int) := by omega
              have jne : ((j : Int) == 0) = false := by simp; omega
              have jw : IntKind.i64.wrap ((j : Int) - 1) = (i : Int) := (IntWalk.i64_in _ (by omega)).trans (by omega)
              obtain ⟨g0, cap, hv, _⟩ := hp.form
              rw [hL1] at hv
              cases hv
              obtain ⟨_, eg, e0', e1', e2', e3'⟩ := hp.at hi
              clear e0 hp hj hju hL1 hi
              by_cases h5 : k = 5
              · subst h5
                go_wp2_with fail
                go_meet
                exact ⟨by rw [HNS.out]; rfl, by first | exact HT2 | exact hid (HT2.out.old ((Below.refl _ _).drew)), by first | exact HB2 | exact hid HB2.out.drew⟩
              · have hk5 : (k == 5) = false := by simpa using h5
                go_wp2_with fail
                go_meet
                exact ⟨by rw [HNS.out, decide_eq_false h5], by first | exact HT2 | exact hid (HT2.out.old ((Below.refl _ _).drew)), by first | exact HB2 | exact hid HB2.out.drew⟩
          case rest =>
            obtain ⟨rfl, HT3, HB3⟩ := hcut
            go_upto_if 63 with fail
            go_cut [5] from 12 to 129 (fun v5 wx => CutQ w1 w1.heap.size m Ln x v5 wx)
            case first =>
              cases hneed : needS out (-1) with
              | true =>
                have HR3 := hid (show pRun [] (-1) Ln = pRun (out ++ [(1, [x], [x], [x])]) (-1) (Ln.drop (m + 1)) by
                  rw [HR2.out, if_pos hneed, addLn_snoc]
                  simp)
                clear hneed
                go_wp2_with (first
                  | (at_builtin; refine wpList_append_pt rfl (.tmp 64) (.tmp 66) rfl w1.heap.size _ out 1 rfl HT3.out.list rfl (by have h1 := HU.out.2; have h2 := HCN.out; omega) HB3.out.size ?_; intro v0 w0 hp0 hb0
                     have HP0 := hid hp0
                     have HB0 := hid (HB3.out.trans hb0)
                     clear hp0 hb0))
                go_meet
                obtain ⟨g, vc0, hv0, _⟩ := HP0.out.form
                exact ⟨g, out.length + 1, vc0, out.length, out, 1, _, _, hv0, rfl, rfl, by rw [hj]; exact hju, HP0.out, HB0.out, HR3.out, HU.out.1, ⟨Nat.zero_le _, Nat.zero_le _, Nat.zero_le _⟩, HU.out.2⟩
              | false =>
                have HR3 := hid (show pRun [] (-1) Ln = pRun (addLn out (-1) x) (-1) (Ln.drop (m + 1)) by rw [HR2.out, if_neg (by rw [hneed]; simp)])
                have HNF := hid hneed
                clear hneed
                go_wp2_with fail
                go_meet
                rcases HT3.out with ⟨e0, _⟩ | ⟨L, k, vs, xs, e0, hp⟩
                · have := HNF.out
                  rw [e0] at this
                  exact absurd this (by decide)
                · obtain ⟨g, cp, hv0, _⟩ := hp.form
                  have hls := HU.out.1
                  have hl2 := HU.out.2
                  have hr3 := HR3.out
                  rw [e0] at hls hl2
                  rw [e0, addLn_snoc] at hr3
                  rw [List.length_append, List.length_singleton] at hl2
                  exact ⟨g, L.length + 1, cp, L.length, L, k, vs, xs, hv0, rfl, rfl, by have := HCN.out; omega, hp, HB3.out, by rw [hr3]; simp, hls.front, hls.last, by omega⟩
            case rest =>
              obtain ⟨g, n, cap, j', L, k, vs, xs, rfl, hj', hn', hju', hp, hb, hr, huf, hls, hll⟩ := hcut
              clear HT3 HB3 HT HR2 HU HJ hj hju j0
              obtain ⟨j, rfl⟩ : ∃ z, z = j' := ⟨_, rfl⟩
              have HJ := hid hj'
              have HR4 := hid hr
              have HUF := hid huf
              have HLS := hid hls
              have HLL := hid hll
              have HP0 := hid hp
              have HB0 := hid hb
              have n0 : (0 : Int) ≤ (n : Int) := Int.natCast_nonneg _
              have j0 : (0 : Int) ≤ (j : Int) := Int.natCast_nonneg _
              have jn : (j : Int) < (n : Int) := by omega
              have nw : IntKind.i64.wrap ((n : Int) - 1) = (j : Int) := (IntWalk.i64_in _ (by omega)).trans (by omega)
              obtain ⟨_, dg, d0, d1, d2, d3⟩ := hp.at hj'
              have hc0 := (World.cell?_of_block (w := w1) (hb.block _ HL1.out.1)).trans HL1.out.2
              clear hj' hn' hju' hp hb hr huf hls hll
              go_upto_region 20 with fail
              go_cut [] from 12 to 129 (fun wx => CutP w1 w1.heap.size (.slice (some ⟨g, 0, none⟩) n cap) L k (updX (xs) 1 x) wx)
              case first =>
                go_region_law (refine step_append_pt (by rfl) (.tmp 83) (.tmp 88) (by rfl) w1.heap.size _ L k (vs) (xs) (HP0.out.old ((Below.refl _ _).drew)) 1 (by omega) x (by rfl) (by rfl) g n cap (by rfl) (by have h2 := HCN.out; have h3 : (xs 0).length ≤ m := HLS.out.1; have h4 : (xs 1).length ≤ m := HLS.out.2.1; have h5 : (xs 2).length ≤ m := HLS.out.2.2; first | omega | (simp [updX]; omega)) (by first | exact HB0.out.size | exact Nat.le_trans HB0.out.size (Nat.le_refl _)) ?_; intro u3 y3 c3 f3 p3 b3 hu3; obtain ⟨ua3, uc3, hu3⟩ := hu3; subst hu3; rw [HJ.out] at c3 f3 p3 b3; have c3 : y3.cell? ⟨g, j * 4 + 2, none⟩ = some ((vs) 1) := c3; have f3 : y3.frozen? ⟨g, j * 4 + 2, none⟩ = false := f3; have HQ3 := hid p3; have HZ3 := hid b3; clear p3 b3)
                all_goals (
                  go_wp2_with fail
                  go_meet
                  exact ⟨_, HQ3.out, HB0.out.drew.trans HZ3.out⟩)
              case rest =>
                obtain ⟨vs3, hp3, hb3⟩ := hcut
                have HP3 := hid hp3
                have HB3 := hid hb3
                clear hp3 hb3
                have hc3 := (World.cell?_of_block (w := w1) (HB3.out.block _ HL1.out.1)).trans HL1.out.2
                obtain ⟨_, dg3, d03, d13, d23, d33⟩ := HP3.out.at HJ.out
                go_upto_region 22 with fail
                go_cut [] from 12 to 129 (fun wx => CutP w1 w1.heap.size (.slice (some ⟨g, 0, none⟩) n cap) L k (updX (updX (xs) 1 x) 0 x) wx)
                case first =>
                  go_region_law (refine step_append_pt (by rfl) (.tmp 102) (.tmp 107) (by rfl) w1.heap.size _ L k (vs3) (updX (xs) 1 x) (HP3.out.old ((Below.refl _ _).drew)) 0 (by omega) x (by rfl) (by rfl) g n cap (by rfl) (by have h2 := HCN.out; have h3 : (xs 0).length ≤ m := HLS.out.1; have h4 : (xs 1).length ≤ m := HLS.out.2.1; have h5 : (xs 2).length ≤ m := HLS.out.2.2; first | omega | (simp [updX]; omega)) (by first | exact HB3.out.size | exact Nat.le_trans HB3.out.size (Nat.le_refl _)) ?_; intro u4 y4 c4 f4 p4 b4 hu4; obtain ⟨ua4, uc4, hu4⟩ := hu4; subst hu4; rw [HJ.out] at c4 f4 p4 b4; have c4 : y4.cell? ⟨g, j * 4 + 1, none⟩ = some ((vs3) 0) := c4; have f4 : y4.frozen? ⟨g, j * 4 + 1, none⟩ = false := f4; have HQ4 := hid p4; have HZ4 := hid b4; clear p4 b4)
                  all_goals (
                    go_wp2_with fail
                    go_meet
                    exact ⟨_, HQ4.out, HB3.out.drew.trans HZ4.out⟩)
                case rest =>
                  obtain ⟨vs4, hp4, hb4⟩ := hcut
                  have HP4 := hid hp4
                  have HB4 := hid hb4
                  clear hp4 hb4
                  have hc4 := (World.cell?_of_block (w := w1) (HB4.out.block _ HL1.out.1)).trans HL1.out.2
                  obtain ⟨_, dg4, d04, d14, d24, d34⟩ := HP4.out.at HJ.out
                  go_wp2_with fail
                  go_region_law (refine step_append_pt (by rfl) (.tmp 121) (.tmp 126) (by rfl) w1.heap.size _ L k (vs4) (updX (updX (xs) 1 x) 0 x) (HP4.out.old ((Below.refl _ _).drew)) 2 (by omega) x (by rfl) (by rfl) g n cap (by rfl) (by have h2 := HCN.out; have h3 : (xs 0).length ≤ m := HLS.out.1; have h4 : (xs 1).length ≤ m := HLS.out.2.1; have h5 : (xs 2).length ≤ m := HLS.out.2.2; first | omega | (simp [updX]; omega)) (by first | exact HB4.out.size | exact Nat.le_trans HB4.out.size (Nat.le_refl _)) ?_; intro u5 y5 c5 f5 p5 b5 hu5; obtain ⟨ua5, uc5, hu5⟩ := hu5; subst hu5; rw [HJ.out] at c5 f5 p5 b5; have c5 : y5.cell? ⟨g, j * 4 + 3, none⟩ = some ((vs4) 2) := c5; have f5 : y5.frozen? ⟨g, j * 4 + 3, none⟩ = false := f5; have HQ5 := hid p5; have HZ5 := hid b5; clear p5 b5)
                  all_goals (
                    go_wp2_with fail
                    go_roundg (Ln.length - (m + 1))
                    case measure => omega
                    case rel => exact ⟨m + 1, L ++ [(k, xs 0 ++ [x], xs 1 ++ [x], xs 2 ++ [x])], -1, by omega, rfl, by go_num, rfl, HR4, hid (.inr ⟨L, k, _, _, by simp [updX], HQ5.out⟩), hid ⟨by omega, by omega, fun _ => by simp⟩, hid ⟨(HUF.out.mono (by omega)).snoc (by have h1 := HLS.out; simp only [List.length_append, List.length_singleton]; omega), by have := HLL.out; simp only [List.length_append, List.length_singleton]; omega⟩, HB4.out.drew.trans HZ5.out⟩)
        · have hnn : needS out st = false := by unfold needS; rw [decide_eq_false hst]; rfl
          have hout : out ≠ [] := by
            intro e
            subst e
            exact HIC.2.2 (by omega) rfl
          rcases HT.out with ⟨e, _⟩ | ⟨L, k, vs, xs, rfl, hp⟩
          · exact absurd e hout
          have hls := HU.out.1.last
          have HUF := hid HU.out.1.front
          rw [if_neg (by rw [hnn]; simp), addLn_snoc] at HR2
          obtain ⟨g, cap, hv, hgb, hgl, d0, d1, d2, d3, _⟩ := hp.form
          rw [List.length_append, List.length_singleton] at hv hp HT ⊢
          cases hv
          have HPT := hid hp
          obtain ⟨n, hn⟩ : ∃ z, L.length + 1 = z := ⟨_, rfl⟩
          obtain ⟨j, hj⟩ : ∃ z, L.length = z := ⟨_, rfl⟩
          rw [hn] at HT HPT ⊢
          have hnj : n = j + 1 := by omega
          have hju : j ≤ 1000000 := by have h1 := HU.out.2; have h2 := HCN.out; rw [List.length_append, List.length_singleton] at h1; omega
          have HJ := hid hj
          have HN := hid hn
          have n0 : (0 : Int) ≤ (n : Int) := Int.natCast_nonneg _
          have j0 : (0 : Int) ≤ (j : Int) := Int.natCast_nonneg _
          have jn : (j : Int) < (n : Int) := by omega
          have nne : ((n : Int) == 0) = false := by simp; omega
          have nw : IntKind.i64.wrap ((n : Int) - 1) = (j : Int) := (IntWalk.i64_in _ (by omega)).trans (by omega)
          have HLS := hid hls
          have HGB := hid hgb
          clear hout hp hj hn hls d0 d1 d2 d3 hgl hgb hnj hju
          rcases (show st = 0 ∨ st = 1 ∨ st = 2 by omega) with rfl | rfl | rfl
          · clear hnn HIC
            go_wp2_with (first
              | (go_at_call 37; with_reducible refine HMK.out.mono ?_; rintro e w2 ⟨rfl, hb2⟩
                 have HPT2 := hid (HPT.out.old hb2)
                 have HB2 := hid (below_step hbx hb2 hzx)
                 have hc2 := (World.cell?_of_block (w := w1) (HB2.out.block _ HL1.out.1)).trans HL1.out.2
                 obtain ⟨_, dg, d0, d1, d2, d3⟩ := HPT2.out.at HJ.out
                 clear hb2))
            go_region_law (refine step_append_pt (by rfl) (.tmp 83) (.tmp 88) (by rfl) w1.heap.size _ L k (vs) (xs) (HPT2.out.old ((Below.refl _ _).drew)) 1 (by omega) x (by rfl) (by rfl) g n vc (by rfl) (by have h2 := HCN.out; have h3 : (xs 0).length ≤ m := HLS.out.1; have h4 : (xs 1).length ≤ m := HLS.out.2.1; have h5 : (xs 2).length ≤ m := HLS.out.2.2; first | omega | (simp [updX]; omega)) (by first | exact HB2.out.size | exact Nat.le_trans HB2.out.size (Nat.le_refl _)) ?_; intro u3 y3 c3 f3 p3 b3 hu3; obtain ⟨ua3, uc3, hu3⟩ := hu3; subst hu3; rw [HJ.out] at c3 f3 p3 b3; have c3 : y3.cell? ⟨g, j * 4 + 2, none⟩ = some ((vs) 1) := c3; have f3 : y3.frozen? ⟨g, j * 4 + 2, none⟩ = false := f3; have HQ3 := hid p3; have HZ3 := hid b3; clear p3 b3)
            all_goals (
              go_wp2_with fail
              go_roundg (Ln.length - (m + 1))
              case measure => omega
              case rel => exact ⟨m + 1, L ++ [(k, xs 0, xs 1 ++ [x], xs 2)], 0, by omega, rfl, by go_num, rfl, hid (by rw [HR2.out]; simp), hid (.inr ⟨L, k, _, _, by simp [updX], HQ3.out⟩), hid ⟨by omega, by omega, fun _ => by simp⟩, hid ⟨(HUF.out.mono (by omega)).snoc (by have h1 := HLS.out; simp only [List.length_append, List.length_singleton] at h1 ⊢; omega), by have := HU.out.2; simp only [List.length_append, List.length_singleton] at this ⊢; omega⟩, HB2.out.drew.trans HZ3.out⟩)
          · clear hnn HIC
            go_wp2_with (first
              | (go_at_call 37; with_reducible refine HMK.out.mono ?_; rintro e w2 ⟨rfl, hb2⟩
                 have HPT2 := hid (HPT.out.old hb2)
                 have HB2 := hid (below_step hbx hb2 hzx)
                 have hc2 := (World.cell?_of_block (w := w1) (HB2.out.block _ HL1.out.1)).trans HL1.out.2
                 obtain ⟨_, dg, d0, d1, d2, d3⟩ := HPT2.out.at HJ.out
                 clear hb2))
            go_region_law (refine step_append_pt (by rfl) (.tmp 102) (.tmp 107) (by rfl) w1.heap.size _ L k (vs) (xs) (HPT2.out.old ((Below.refl _ _).drew)) 0 (by omega) x (by rfl) (by rfl) g n vc (by rfl) (by have h2 := HCN.out; have h3 : (xs 0).length ≤ m := HLS.out.1; have h4 : (xs 1).length ≤ m := HLS.out.2.1; have h5 : (xs 2).length ≤ m := HLS.out.2.2; first | omega | (simp [updX]; omega)) (by first | exact HB2.out.size | exact Nat.le_trans HB2.out.size (Nat.le_refl _)) ?_; intro u3 y3 c3 f3 p3 b3 hu3; obtain ⟨ua3, uc3, hu3⟩ := hu3; subst hu3; rw [HJ.out] at c3 f3 p3 b3; have c3 : y3.cell? ⟨g, j * 4 + 1, none⟩ = some ((vs) 0) := c3; have f3 : y3.frozen? ⟨g, j * 4 + 1, none⟩ = false := f3; have HQ3 := hid p3; have HZ3 := hid b3; clear p3 b3)
            all_goals (
              go_wp2_with fail
              go_roundg (Ln.length - (m + 1))
              case measure => omega
              case rel => exact ⟨m + 1, L ++ [(k, xs 0 ++ [x], xs 1, xs 2)], 1, by omega, rfl, by go_num, rfl, hid (by rw [HR2.out]; simp), hid (.inr ⟨L, k, _, _, by simp [updX], HQ3.out⟩), hid ⟨by omega, by omega, fun _ => by simp⟩, hid ⟨(HUF.out.mono (by omega)).snoc (by have h1 := HLS.out; simp only [List.length_append, List.length_singleton] at h1 ⊢; omega), by have := HU.out.2; simp only [List.length_append, List.length_singleton] at this ⊢; omega⟩, HB2.out.drew.trans HZ3.out⟩)
          · clear hnn HIC
            go_wp2_with (first
              | (go_at_call 37; with_reducible refine HMK.out.mono ?_; rintro e w2 ⟨rfl, hb2⟩
                 have HPT2 := hid (HPT.out.old hb2)
                 have HB2 := hid (below_step hbx hb2 hzx)
                 have hc2 := (World.cell?_of_block (w := w1) (HB2.out.block _ HL1.out.1)).trans HL1.out.2
                 obtain ⟨_, dg, d0, d1, d2, d3⟩ := HPT2.out.at HJ.out
                 clear hb2))
            go_region_law (refine step_append_pt (by rfl) (.tmp 121) (.tmp 126) (by rfl) w1.heap.size _ L k (vs) (xs) (HPT2.out.old ((Below.refl _ _).drew)) 2 (by omega) x (by rfl) (by rfl) g n vc (by rfl) (by have h2 := HCN.out; have h3 : (xs 0).length ≤ m := HLS.out.1; have h4 : (xs 1).length ≤ m := HLS.out.2.1; have h5 : (xs 2).length ≤ m := HLS.out.2.2; first | omega | (simp [updX]; omega)) (by first | exact HB2.out.size | exact Nat.le_trans HB2.out.size (Nat.le_refl _)) ?_; intro u3 y3 c3 f3 p3 b3 hu3; obtain ⟨ua3, uc3, hu3⟩ := hu3; subst hu3; rw [HJ.out] at c3 f3 p3 b3; have c3 : y3.cell? ⟨g, j * 4 + 3, none⟩ = some ((vs) 2) := c3; have f3 : y3.frozen? ⟨g, j * 4 + 3, none⟩ = false := f3; have HQ3 := hid p3; have HZ3 := hid b3; clear p3 b3)
            all_goals (
              go_wp2_with fail
              go_roundg (Ln.length - (m + 1))
              case measure => omega
              case rel => exact ⟨m + 1, L ++ [(k, xs 0, xs 1, xs 2 ++ [x])], 2, by omega, rfl, by go_num, rfl, hid (by rw [HR2.out]; simp), hid (.inr ⟨L, k, _, _, by simp [updX], HQ3.out⟩), hid ⟨by omega, by omega, fun _ => by simp⟩, hid ⟨(HUF.out.mono (by omega)).snoc (by have h1 := HLS.out; simp only [List.length_append, List.length_singleton] at h1 ⊢; omega), by have := HU.out.2; simp only [List.length_append, List.length_singleton] at this ⊢; omega⟩, HB2.out.drew.trans HZ3.out⟩)
    · obtain rfl : m = Ln.length := by omega
      have hneg : ¬ (Ln.length : Int) < (Ln.length : Int) := by omega
      have hr : pRun [] (-1) Ln = some (out, st) := by rw [HR.out, List.drop_length]; rfl
      have HSL := hid HT.out.list.slC
      clear HR
      by_cases hst : st = -1
      · subst hst
        have HE := hid (show parseE s = 0 ∧ parseL s = out by
          have h : parseS s = some out := by rw [HP.out, hr]; rfl
          exact ⟨by rw [parseE, h]; rfl, by rw [parseL, h]; rfl⟩)
        clear hr
        go_wp2_with fail
        refine bodyPost_ret (results_tmp2 rfl _ _ _) rfl ?_
        refine ⟨_, by rw [HE.out.1]; rfl, by rw [HE.out.2]; exact HSL.out, by rw [HE.out.2]; exact HU.out.1.mono HCN.out.1, by rw [HE.out.2]; exact Nat.le_trans HU.out.2 HCN.out.1, below_step hb1 hbx hb1.size⟩
      · have hne : (st != -1) = true := by simpa using hst
        have HE := hid (show parseE s = 5 ∧ parseL s = [] by
          have h : parseS s = none := by
            rw [HP.out, hr]
            simp only
            rw [if_neg hst]
          exact ⟨by rw [parseE, h]; rfl, by rw [parseL, h]; rfl⟩)
        clear hr hst
        go_wp2_with fail
        refine bodyPost_ret (results_tmp2 rfl _ _ _) rfl ?_
        refine ⟨.slice none 0 0, by rw [HE.out.1]; rfl, ?_, ?_, ?_, below_step hb1 hbx hb1.size⟩
        · rw [HE.out.2]; exact SlC.nil _
        · rw [HE.out.2]; exact fun c hc => by cases hc
        · rw [HE.out.2]; exact Nat.zero_le _
end
end Go.Proofs.Ytfldheegebopoaa

namespace Go.Proofs.Ytfldheegebopoaa
open Go.RowKit

/-! ### The map, as a datum -/
abbrev MT := DataW Unit
def turnD (a b : Int) : MT := .agg [.lit (.int .u8 a), .lit (.int .u8 b)]
def turnElem : Value → Option (MT × List MemPlace)
  | .agg cs => match cs.toList with
    | [.int .u8 a, .int .u8 b] => some (turnD a b, [])
    | _ => none
  | _ => none
theorem turnElem_mk (a b : Int) : turnElem (.agg #[.int .u8 a, .int .u8 b]) = some (turnD a b, []) := rfl
theorem turnElem_inv {v : Value} {a b : Int} {ps : List MemPlace} (h : turnElem v = some (turnD a b, ps)) : v = .agg #[.int .u8 a, .int .u8 b] := by
  cases v with
  | agg cs =>
    obtain ⟨l⟩ := cs
    simp only [turnElem] at h
    split at h
    · rename_i c d hl
      simp only [turnD, Option.some.injEq, Prod.mk.injEq, DataW.agg.injEq, List.cons.injEq, DataW.lit.injEq, Lit.int.injEq, and_true, true_and] at h
      obtain ⟨⟨rfl, rfl⟩, _⟩ := h
      rfl
    · cases h
  | _ => simp [turnElem] at h
/-- what a mark does: from, to -/
def turnOf (k : Int) : Int × Int := if k = 0 then (0, 1) else if k = 1 then (1, 2) else if k = 2 then (2, 3) else if k = 3 then (3, 0) else (0, 0)
def turnV (k : Int) : Value := .agg #[.int .u8 (turnOf k).1, .int .u8 (turnOf k).2]
def markD : MT := (((((.map [] : MT).put (.string mk0) (turnD 0 1)).put (.string mk1) (turnD 1 2)).put (.string mk2) (turnD 2 3)).put (.string mk3) (turnD 3 0))
theorem isKey_str (y : Tx) : WideAt.IsKeyLit (.string y) := trivial
theorem strlit_ne {x y : Tx} (h : x ≠ y) : Lit.string x ≠ Lit.string y := fun e => h (Lit.string.inj e)
theorem markD_at (x : Tx) : Maps.has markD (.string x) = decide (0 ≤ markS x) ∧ markD.atKey (.string x) (turnD 0 0) = turnD (turnOf (markS x)).1 (turnOf (markS x)).2 := by
  have m1 : Maps.IsMap (((.map [] : MT).put (.string mk0) (turnD 0 1))) := Maps.isMap_empty.put _ _
  have m2 := m1.put (.string mk1) (turnD 1 2)
  have m3 := m2.put (.string mk2) (turnD 2 3)
  obtain ⟨e0, e1, e2, e3⟩ := markS_mk
  by_cases h3 : x = mk3
  · subst h3
    rw [e3]
    exact ⟨Maps.has_put_same m3 (isKey_str _) _, Maps.atKey_put_same m3 (isKey_str _) _ _⟩
  · by_cases h2 : x = mk2
    · subst h2
      rw [e2]
      exact ⟨(Maps.has_put_other (strlit_ne h3) _).trans (Maps.has_put_same m2 (isKey_str _) _), (Maps.atKey_put_other (strlit_ne h3) _ _).trans (Maps.atKey_put_same m2 (isKey_str _) _ _)⟩
    · by_cases h1 : x = mk1
      · subst h1
        rw [e1]
        exact ⟨((Maps.has_put_other (strlit_ne h3) _).trans (Maps.has_put_other (strlit_ne h2) _)).trans (Maps.has_put_same m1 (isKey_str _) _), ((Maps.atKey_put_other (strlit_ne h3) _ _).trans (Maps.atKey_put_other (strlit_ne h2) _ _)).trans (Maps.atKey_put_same m1 (isKey_str _) _ _)⟩
      · by_cases h0 : x = mk0
        · subst h0
          rw [e0]
          exact ⟨(((Maps.has_put_other (strlit_ne h3) _).trans (Maps.has_put_other (strlit_ne h2) _)).trans (Maps.has_put_other (strlit_ne h1) _)).trans (Maps.has_put_same Maps.isMap_empty (isKey_str _) _), (((Maps.atKey_put_other (strlit_ne h3) _ _).trans (Maps.atKey_put_other (strlit_ne h2) _ _)).trans (Maps.atKey_put_other (strlit_ne h1) _ _)).trans (Maps.atKey_put_same Maps.isMap_empty (isKey_str _) _ _)⟩
        · have hm : markS x = -1 := by rw [markS, if_neg h0, if_neg h1, if_neg h2, if_neg h3]
          rw [hm]
          exact ⟨(((Maps.has_put_other (strlit_ne h3) _).trans (Maps.has_put_other (strlit_ne h2) _)).trans (Maps.has_put_other (strlit_ne h1) _)).trans (Maps.has_put_other (strlit_ne h0) _), (((Maps.atKey_put_other (strlit_ne h3) _ _).trans (Maps.atKey_put_other (strlit_ne h2) _ _)).trans (Maps.atKey_put_other (strlit_ne h1) _ _)).trans (Maps.atKey_put_other (strlit_ne h0) _ _)⟩

/-! ### The map in memory -/
/-- block b is a map as far as it is built -/
abbrev OwnT (w : World) (b n : Nat) (D : MT) : Prop := w.ownsMap Try.prog 9 turnElem b n D
/-- block b is the map of the marks -/
abbrev Marks (w : World) (b : Nat) : Prop := OwnT w b 4 markD
theorem OwnT.below {w w' : World} {b n : Nat} {D : MT} (h : OwnT w b n D) (hk : Below w.heap.size w w') : OwnT w' b n D := World.ownsMap.kept (row := none) h ⟨hk.os, hk.tape, hk.output, hk.size, fun k hk' _ => hk.block k hk'⟩ (by simp)
theorem OwnT.belowAt {w w' : World} {b n B : Nat} {D : MT} (h : OwnT w b n D) (hk : Below B w w') (hb : b < B) : OwnT w' b n D := by
  obtain ⟨es, clock, e, r⟩ := h
  exact ⟨es, clock, (hk.block b hb).trans e, r⟩
theorem ownT_made (w : World) (g : Nat) (hg : w.heap.size = g) : OwnT (w.alloc (.map #[] 0)) g 0 (.map []) := hg ▸ World.ownsMap_made w _ _ _
theorem zeroTurn (w : World) : (zeroValue 59).run Try.prog w = .ok (.agg #[.int .u8 0, .int .u8 0]) w := by kernel_rfl
theorem tx_key {x : Tx} (h : x.length ≤ 1099511627776) : keyOf Try.prog 9 (.string ⟨x.toArray⟩) = some (.string x) := by
  have := WideMaps.keyOf_string_mk (P := Try.prog) Try.underlying9 (s := ⟨x.toArray⟩) (by simp [ByteArray.size, maxLen]; omega)
  simpa using this
section
variable {w : World}
theorem wpList_insert_mk {ops : Array Oper} {rest : List Oper} {o : Oper} {a : Act} {Q : Exit → Act → World → Prop} (hg : o.guard = none) (m x v : Operand) (hop : o.op = Op.insert 55 m x v)
    (b n : Nat) (D : MT) (hm : a.eval m = .map (some b)) (hown : OwnT w b n D) (hn : n < maxLen) (key : Tx) (hx : a.eval x = .string ⟨key.toArray⟩) (hl : key.length ≤ 1099511627776) (p q : Int) (hv : a.eval v = .agg #[.int .u8 p, .int .u8 q])
    (hK : ∀ w', OwnT w' b (n + 1) (D.put (.string key) (turnD p q)) → w.grownBy w' (some b) → wpList Try.prog ops Q rest (a.put o.dst undef) w') : wpList Try.prog ops Q (o :: rest) a w := by
  refine wpList_plain hg fun K' hK' => ?_
  obtain ⟨w', hrun, r1, r2⟩ := hown.update (Maps.string_keyed Try.underlying9) Try.underlying55 hn (tx_key hl) (turnElem_mk p q)
  unfold Oper.wp
  simp [execOp, hop, hm, hx, hv, hrun, Result.andThen]
  exact hK' _ _ (hK w' r1 r2)
theorem wpList_lookup_mk {ops : Array Oper} {rest : List Oper} {o : Oper} {a : Act} {Q : Exit → Act → World → Prop} (hg : o.guard = none) (m x : Operand) (hop : o.op = Op.lookup 55 m x true)
    (b : Nat) (hm : a.eval m = .map (some b)) (hown : Marks w b) (key : Tx) (hx : a.eval x = .string ⟨key.toArray⟩) (hl : key.length ≤ 1099511627776) (k : Int) (hk : markS key = k) (tv : Value) (ht : turnV k = tv) (bb : Bool) (hb : decide (0 ≤ k) = bb)
    (hK : wpList Try.prog ops Q rest (a.put o.dst (.tuple #[tv, .bool bb])) w) : wpList Try.prog ops Q (o :: rest) a w :=
  wpList_lookup_own_ok w hg m x 55 hop 9 59 (Maps.string_keyed Try.underlying9) Try.underlying55 turnElem (zeroTurn w) (turnD 0 0) [] (turnElem_mk 0 0) b 4 markD hm hown _ (.string key) hx (tx_key hl) (fun v ps hv => by
    obtain ⟨h1, h2⟩ := markD_at key
    rw [h2] at hv
    have hv' := turnElem_inv hv
    rw [h1, hk, hb, hv', hk]
    rw [← ht] at hK
    exact hK)
end
section
set_option maxRecDepth 100000
set_option maxHeartbeats 4000000
theorem DMarks_any (w : World) : Calls Try.prog 35 #[] w fun e w' => ∃ g, e = .returned (.map (some g)) ∧ Marks w' g ∧ w.heap.size ≤ g ∧ g < w'.heap.size ∧ Below w.heap.size w w' := by
  have hmm := @run_makeMap Try.prog
  have HM0 := hid (ownT_made w w.heap.size rfl)
  have HB0 := hid ((Below.refl _ w).alloc (Nat.le_refl w.heap.size) (.map #[] 0))
  go_enter Try.func35, Try.ntmps35
  go_wp2_with (first
    | (refine wpList_insert_mk rfl _ _ _ rfl w.heap.size 0 (.map []) rfl HM0.out (by unfold maxLen; omega) mk0 rfl (by decide) 0 1 rfl ?_; intro w1 ho1 hg1; have HM1 := hid ho1; have HB1 := hid (HB0.out.grown hg1 HB0.out.size (fun j hj => by cases hj; exact Nat.le_refl _)); clear ho1 hg1 HM0 HB0)
    | (refine wpList_insert_mk rfl _ _ _ rfl w.heap.size 1 _ rfl HM1.out (by unfold maxLen; omega) mk1 rfl (by decide) 1 2 rfl ?_; intro w2 ho2 hg2; have HM2 := hid ho2; have HB2 := hid (HB1.out.grown hg2 HB1.out.size (fun j hj => by cases hj; exact Nat.le_refl _)); clear ho2 hg2 HM1 HB1)
    | (refine wpList_insert_mk rfl _ _ _ rfl w.heap.size 2 _ rfl HM2.out (by unfold maxLen; omega) mk2 rfl (by decide) 2 3 rfl ?_; intro w3 ho3 hg3; have HM3 := hid ho3; have HB3 := hid (HB2.out.grown hg3 HB2.out.size (fun j hj => by cases hj; exact Nat.le_refl _)); clear ho3 hg3 HM2 HB2)
    | (refine wpList_insert_mk rfl _ _ _ rfl w.heap.size 3 _ rfl HM3.out (by unfold maxLen; omega) mk3 rfl (by decide) 3 0 rfl ?_; intro w4 ho4 hg4; have HM4 := hid ho4; have HB4 := hid (HB3.out.grown hg4 HB3.out.size (fun j hj => by cases hj; exact Nat.le_refl _)); clear ho4 hg4 HM3 HB3))
  go_ret
  exact ⟨_, rfl, HM4.out, Nat.le_refl _, HM4.out.lt, HB4.out⟩
/-- whether a line has its end -/
def hasEnd (s : Tx) : Bool := decide (s.getLast? = some 10)
/-- a line with its end -/
def lineEnded (s : Tx) : Tx := if hasEnd s then s else s ++ [10]
theorem PHas_any (s : Tx) (w : World) (hlen : s.length ≤ 4611686018427387904) : Calls Try.prog 62 #[strV s, strV [10]] w fun e w' => e = .returned (.bool (hasEnd s)) ∧ w = w' := by
  unfold strV
  rcases List.eq_nil_or_concat s with rfl | ⟨t, c, rfl⟩
  · clear hlen
    go_enter Try.func62, Try.ntmps62
    go_wp2_with fail
    go_ret
    exact ⟨rfl, rfl⟩
  · rw [List.concat_eq_append] at hlen ⊢
    have hsl := run_str_from (P := Try.prog) 9 Try.underlying9 (t ++ [c]) t.length (by simp)
    rw [List.drop_left] at hsl
    have hE : hasEnd (t ++ [c]) = (c == 10) := by
      unfold hasEnd
      rw [List.getLast?_concat]
      by_cases h : c = 10 <;> simp [h]
    have hl : (t ++ [c]).length = t.length + 1 := by simp
    obtain ⟨s, hs⟩ : ∃ s, t ++ [c] = s := ⟨_, rfl⟩
    rw [hs] at hsl hE hl hlen ⊢
    obtain ⟨m, hm⟩ : ∃ m, s.length = m := ⟨_, rfl⟩
    obtain ⟨j, hj⟩ : ∃ j, t.length = j := ⟨_, rfl⟩
    rw [hj] at hsl hl
    have h1 : (1 : Int) ≤ (m : Int) := by omega
    have mw : IntKind.i64.wrap ((m : Int) - 1) = (j : Int) := (IntWalk.i64_in _ (by omega)).trans (by omega)
    have mlen : s.length = m := hm
    have HE := hid hE
    clear hE hs hj hm hl hlen
    go_enter Try.func62, Try.ntmps62
    go_wp2_with fail
    go_ret
    exact ⟨by rw [HE.out]; rfl, rfl⟩
theorem DHas_any (s : Tx) (w : World) (hlen : s.length ≤ 4611686018427387904) : Calls Try.prog 50 #[strV s, strV [10]] w fun e w' => e = .returned (.bool (hasEnd s)) ∧ w = w' := by
  have H := hid (PHas_any s w hlen)
  unfold strV at H ⊢
  clear hlen
  go_enter Try.func50, Try.ntmps50
  go_wp2_with fail
  refine H.out.mono ?_
  rintro e _ ⟨rfl, rfl⟩
  go_wp2_with fail
  go_ret
  exact ⟨rfl, rfl⟩
theorem DEnded_any (s : Tx) (w : World) (hlen : s.length ≤ 4611686018427387904) : Calls Try.prog 38 #[strV s] w fun e w' => e = .returned (strV (lineEnded s)) ∧ w = w' := by
  have H := hid (DHas_any s w hlen)
  have hadd := run_str_add (P := Try.prog) s [10] (by simp; omega)
  obtain ⟨q, hq⟩ : ∃ q, hasEnd s = q := ⟨_, rfl⟩
  unfold lineEnded
  rw [hq] at H ⊢
  unfold strV at H ⊢
  clear hlen hq
  go_enter Try.func38, Try.ntmps38
  go_wp2_with fail
  refine H.out.mono ?_
  rintro e _ ⟨rfl, rfl⟩
  cases q with
  | true =>
    go_wp2_with fail
    go_ret
    exact ⟨rfl, rfl⟩
  | false =>
    go_wp2_with fail
    go_ret
    exact ⟨rfl, rfl⟩
theorem endedS_le (s : Tx) : (endedS s).length ≤ s.length + 1 := by
  unfold endedS
  split
  · omega
  · simp
theorem lineEnded_ne {s : Tx} (h : s ≠ []) : lineEnded s = endedS s := by
  unfold lineEnded endedS hasEnd
  by_cases hq : s.getLast? = some 10
  · rw [if_pos (by simpa using hq), if_pos (.inr hq)]
  · rw [if_neg (by simpa using hq), if_neg (by simp [h, hq])]
end
end Go.Proofs.Ytfldheegebopoaa

namespace Go.Proofs.Ytfldheegebopoaa
open Go.RowKit

/-- the lines with a mark behind them -/
def markedT (T : List Tx) (m : Tx) : List Tx := (match T.getLast? with | some x => T.dropLast ++ [lineEnded x] | none => []) ++ [m]
/-- one element of a row of one's own is written -/
theorem owns_store {w : World} {base : Nat} {e : TypeId} {v : Value} {n : Nat} {xs : List Value} (h : w.ownsRow base e 1 v n xs) {g cap : Nat} (hv : v = .slice (some ⟨g, 0, none⟩) n cap) (j : Nat) (u : Value) :
    (w.setCell ⟨g, j, none⟩ u).ownsRow base e 1 v n (xs.set j u) := by
  rcases h.2 with ⟨e0, _⟩ | ⟨g1, c1, cur, hv1, q0, q1, q2, q3, q4, q5⟩
  · rw [hv] at e0; cases e0
  · have : g1 = g := by rw [hv1] at hv; cases hv; rfl
    subst this
    refine ⟨by have := h.1; simpa using this, .inr ⟨g1, c1, _, hv1, q0, blk_set q1, q2, q3, by simpa using q4, ?_⟩⟩
    rw [Array.toList_setIfInBounds, List.take_set, q5]
/-- all but some blocks of one's own, and what is new, stays; and one block of those stays, too -/
abbrev Aside9 (base bx : Nat) : Nat → Prop := fun k => base ≤ k ∧ k ≠ bx
theorem aside_grown {base bx : Nat} {w0 w w' : World} {row : Option Nat} (h : Keep (Aside9 base bx) w0 w) (hg : w.grownBy w' row) (hr : ∀ k, row = some k → base ≤ k ∧ k ≠ bx) : Keep (Aside9 base bx) w0 w' := h.grown hg fun k _ e => hr k e
section
variable {w : World}
theorem wpList_append_s9 {ops : Array Oper} {rest : List Oper} {o : Oper} {a : Act} {Q : Exit → Act → World → Prop} (hgd : o.guard = none) (s sx : Operand)
    (ho : o.op = .call { callee := .builtin .append, args := #[s, sx], argTypes := #[32, 32] })
    (base : Nat) (v : Value) (xs ys : List (List UInt8)) (he : a.eval s = v) (hown : w.ownsRow base 9 1 v xs.length (strCells xs)) (u : Value) (hx : a.eval sx = u) (hu : Sl w u (strCells ys))
    (hlen : xs.length + ys.length ≤ 8000000000000) (hbase : base ≤ w.heap.size)
    (h : ∀ v' w', w'.ownsRow base 9 1 v' (xs ++ ys).length (strCells (xs ++ ys)) → w.grownBy w' v.ownBlock → (v'.ownBlock = v.ownBlock ∨ v'.ownBlock = some w.heap.size) → wpList Try.prog ops Q rest (a.put o.dst v') w') : wpList Try.prog ops Q (o :: rest) a w := by
  obtain ⟨i0, hi0, hi1, hi2, hi3⟩ := info_parts Try.infoStr
  have hs := hu.src (P := Try.prog) Try.underlying32 (str_one _)
  rw [strCells_length] at hs
  refine wpList_append_any w hgd s sx _ _ ho base 9 i0 _ 1 16 Try.underlying32 hi0 hi1 hi2 hi3 rfl (by omega) v _ _ he hown u _ _ hx hs (by unfold maxLen; omega) (by omega) hbase fun v' w' h2 h3 h4 => h v' w' ?_ h3 h4
  rw [List.length_append, strCells_append]
  exact h2
theorem step_append_s9 {ops : Array Oper} {o : Oper} {a : Act} {K : Act → World → Prop} {Q : Exit → Act → World → Prop} {E : Prop} (hgd : o.guard = none) (s sx : Operand)
    (ho : o.op = .call { callee := .builtin .append, args := #[s, sx], argTypes := #[32, 32] })
    (base : Nat) (v : Value) (xs ys : List (List UInt8)) (he : a.eval s = v) (hown : w.ownsRow base 9 1 v xs.length (strCells xs)) (u : Value) (hx : a.eval sx = u) (hu : Sl w u (strCells ys))
    (hlen : xs.length + ys.length ≤ 8000000000000) (hbase : base ≤ w.heap.size)
    (h : ∀ v' w', w'.ownsRow base 9 1 v' (xs ++ ys).length (strCells (xs ++ ys)) → w.grownBy w' v.ownBlock → (v'.ownBlock = v.ownBlock ∨ v'.ownBlock = some w.heap.size) → K (a.put o.dst v') w') :
    if Region.wanted o (yielded ops a.tmps) = true then Oper.wp Try.prog o a w K Q else E := by
  obtain ⟨i0, hi0, hi1, hi2, hi3⟩ := info_parts Try.infoStr
  have hs := hu.src (P := Try.prog) Try.underlying32 (str_one _)
  rw [strCells_length] at hs
  refine step_append_any w hgd s sx _ _ ho base 9 i0 _ 1 16 Try.underlying32 hi0 hi1 hi2 hi3 rfl (by omega) v _ _ he hown u _ _ hx hs (by unfold maxLen; omega) (by omega) hbase fun v' w' h2 h3 h4 => h v' w' ?_ h3 h4
  rw [List.length_append, strCells_append]
  exact h2
end
section
set_option maxRecDepth 100000
set_option maxHeartbeats 4000000
theorem PJoinL_any (v : Value) (l : List Tx) (w : World) (hv : Sl w v (strCells l)) (hlen : l.flatten.length ≤ 1099511627776) (hn : l.length ≤ 1099511627776) :
    Calls Try.prog 29 #[v] w fun e w' => e = .returned (strV l.flatten) ∧ Below w.heap.size w w' := by
  have hc := hid (SJoin_any v l w hv hlen hn)
  clear hv hlen hn
  go_enter Try.func29, Try.ntmps29
  go_wp2_with fail
  refine hc.out.mono ?_
  rintro e w' ⟨rfl, hb⟩
  unfold strV
  go_wp2
  go_ret
  exact ⟨rfl, hb⟩
/-- marked: the row stays one's own, apart from one block -/
theorem DMarked_any (base bx : Nat) (v : Value) (T : List Tx) (m : Tx) (w : World) (ho : w.ownsRow base 9 1 v T.length (strCells T)) (hl : T.length ≤ 1000000000) (hx : ∀ x ∈ T, x.length ≤ 1099511627776) (hb : base ≤ w.heap.size) (hbx : bx < w.heap.size) (hne : v.ownBlock ≠ some bx) :
    Calls Try.prog 48 #[v, strV m] w fun e w' => ∃ u, e = .returned u ∧ w'.ownsRow base 9 1 u (markedT T m).length (strCells (markedT T m)) ∧ u.ownBlock ≠ some bx ∧ Keep (Aside9 base bx) w w' := by
  have hlast : ∀ (wx : World) (vx : Value) (xs : List Tx) (o : Obj), wx.ownsRow base 9 1 vx xs.length (strCells xs) → Keep (Aside9 base bx) w wx → w.heap.size ≤ wx.heap.size → vx.ownBlock ≠ some bx → ∀ (u : Value) (w5 : World), (wx.alloc o).grownBy w5 vx.ownBlock → (u.ownBlock = vx.ownBlock ∨ u.ownBlock = some (wx.alloc o).heap.size) → u.ownBlock ≠ some bx ∧ Keep (Aside9 base bx) w w5 := fun wx vx xs o h1 h2 h3 h4 u w5 hg hd => by
    refine ⟨?_, (h2.alloc o).grown hg fun k _ e => ⟨(h1.lt k e).1, fun e' => h4 (e' ▸ e)⟩⟩
    rcases hd with e | e
    · rw [e]; exact h4
    · rw [e]
      intro e'
      have := Option.some.inj e'
      simp at this
      omega
  have HLS := hid hlast
  clear hlast
  rcases List.eq_nil_or_concat T with rfl | ⟨T0, x, rfl⟩
  · obtain ⟨ao, cap, rfl⟩ := owns_form ho
    have HO := hid ho
    have HB := hid (And.intro hb hbx)
    have HN := hid hne
    unfold strV
    clear ho hl hx hb hbx hne
    go_enter Try.func48, Try.ntmps48
    go_wp2_with (at_builtin; refine wpList_append_s9 rfl (.tmp 20) (.tmp 22) rfl base _ [] [m] rfl (HO.out.alloc _) _ rfl (show Sl _ (.slice (some ⟨w.heap.size, 0, none⟩) 1 1) (strCells [m]) from Sl.ofBlock (heap_alloc_new w _)) (by simp) (by have := HB.out.1; simp; omega) ?_; intro v5 w5 o5 g5 d5; have HO5 := hid o5; have HG5 := hid g5; have HD5 := hid d5; clear o5 g5 d5)
    go_ret
    exact ⟨_, rfl, HO5.out, HLS.out w _ [] _ HO.out (Keep.refl _ _) (Nat.le_refl _) HN.out _ _ HG5.out HD5.out⟩
  · rw [List.concat_eq_append] at ho hl hx ⊢
    have hm : markedT (T0 ++ [x]) m = T0 ++ [lineEnded x] ++ [m] := by unfold markedT; rw [List.getLast?_concat, List.dropLast_concat]
    rw [hm]
    obtain ⟨ao, cap, rfl⟩ := owns_form ho
    rw [strCells_append] at ho
    have hn : (T0 ++ [x]).length = T0.length + 1 := by simp
    rcases ho.2 with ⟨e0, h0⟩ | ⟨g, c1, cur, hv1, q0, q1, q2, q3, q4, q5⟩
    · simp at h0
    obtain ⟨rfl, _, rfl⟩ := Value.slice.inj hv1
    have hc0 := ho.cells (g := g) rfl T0.length (strV x) (by rw [List.getElem?_append_right (by simp [strCells])]; simp [strCells])
    rw [Addr.add_lit, Nat.zero_add] at hc0
    have hfz : w.frozen? ⟨g, T0.length, none⟩ = false := blk_free q1
    have HST := hid (owns_store ho rfl T0.length (strV (lineEnded x)))
    have HEN := hid (DEnded_any x w (by have := hx x (by simp); omega))
    have HK := hid ((Keep.refl (Aside9 base bx) w).setCell (p := ⟨g, T0.length, none⟩) ⟨q0, fun e => hne (by rw [← e]; rfl)⟩ (strV (lineEnded x)))
    have HB := hid (And.intro hb hbx)
    have HN := hid hne
    obtain ⟨y, hy⟩ : ∃ y, lineEnded x = y := ⟨_, rfl⟩
    rw [hy] at HST HEN HK ⊢
    have HST := hid (show (w.setCell ⟨g, T0.length, none⟩ (strV y)).ownsRow base 9 1 (.slice (some ⟨g, 0, none⟩) (T0 ++ [x]).length cap) (T0 ++ [y]).length (strCells (T0 ++ [y])) by
      have h := HST.out
      rw [show (strCells T0 ++ strCells [x]).set T0.length (strV y) = strCells (T0 ++ [y]) by
        rw [List.set_append_right _ _ (by simp [strCells])]
        simp [strCells]] at h
      rw [show (T0 ++ [y]).length = (T0 ++ [x]).length by simp]
      exact h)
    obtain ⟨n, hnn⟩ : ∃ z, (T0 ++ [x]).length = z := ⟨_, rfl⟩
    obtain ⟨j, hj⟩ : ∃ z, T0.length = z := ⟨_, rfl⟩
    rw [hnn] at hn hl HST HN ⊢
    rw [hj] at hn hc0 hfz HST HK
    have n0 : (0 : Int) < (n : Int) := by omega
    have j0 : (0 : Int) ≤ (j : Int) := Int.natCast_nonneg _
    have jn : (j : Int) < (n : Int) := by omega
    have nw : IntKind.i64.wrap ((n : Int) - 1) = (j : Int) := (IntWalk.i64_in _ (by omega)).trans (by omega)
    have HLL := hid (show (T0 ++ [y]).length ≤ 1000000000 by simp; omega)
    have HSL := hid (show Sl ((w.setCell ⟨g, j, none⟩ (strV y)).alloc (.cells #[strV m] 9)) (.slice (some ⟨w.heap.size, 0, none⟩) 1 1) (strCells [m]) from Sl.ofBlock (cs := #[strV m]) (t := 9) (fr := (0, 0)) (by have h := heap_alloc_new (w.setCell ⟨g, j, none⟩ (strV y)) (.cells #[strV m] 9); simpa using h))
    unfold strV at hc0 HEN HST HK HSL ⊢
    clear ho hl hx hb hbx hne hm hn hnn hj hy hv1 q0 q1 q2 q3 q4 q5
    go_enter Try.func48, Try.ntmps48
    go_wp2_with (first
      | (go_at_call 38; with_reducible refine HEN.out.mono ?_; rintro e _ ⟨rfl, rfl⟩)
      | (at_builtin; refine wpList_append_s9 rfl (.tmp 20) (.tmp 22) rfl base _ (T0 ++ [y]) [m] rfl (HST.out.alloc _) _ rfl HSL.out (by have := HLL.out; simp only [List.length_singleton]; omega) (by have := HB.out.1; simp; omega) ?_; intro v5 w5 o5 g5 d5; have HO5 := hid o5; have HG5 := hid g5; have HD5 := hid d5; clear o5 g5 d5))
    go_ret
    exact ⟨_, rfl, HO5.out, HLS.out _ _ (T0 ++ [y]) _ HST.out HK.out HK.out.size HN.out _ _ HG5.out HD5.out⟩
/-- the lines of one side of each chunk -/
def pickL (q : Bool) (l : List CkS) : List Tx := l.flatMap fun c => if q then c.2.2.1 else c.2.2.2
theorem pickL_flat (q : Bool) (l : List CkS) : (pickL q l).flatten = pickS q l := by
  induction l with
  | nil => rfl
  | cons c l ih =>
    unfold pickL pickS at ih ⊢
    rw [List.flatMap_cons, List.flatMap_cons, List.flatten_append, ih]
theorem pickL_append (q : Bool) (a b : List CkS) : pickL q (a ++ b) = pickL q a ++ pickL q b := by simp [pickL]
theorem DPick_any (v : Value) (l : List CkS) (q : Bool) (w : World) (hv : SlC w v l) (hl : l.length ≤ 4000000) (hn : (pickL q l).length ≤ 1000000000000) (hp : (pickS q l).length ≤ 1099511627776) :
    Calls Try.prog 18 #[v, .bool q] w fun e w' => e = .returned (strV (pickS q l)) ∧ Below w.heap.size w w' := by
  obtain ⟨ao, cap, rfl⟩ := hv.form
  have HV := hid hv
  have HN0 := hid hn
  rw [← pickL_flat] at hp ⊢
  have HP := hid hp
  clear hv hn hp
  unfold strV
  go_enter Try.func18, Try.ntmps18
  go_wp2_with fail
  go_loopg [5, 10] l.length (fun g out i wr => ∃ (k : Nat) (X : List Tx), k ≤ l.length ∧ l.length - k = g ∧ i = .int .i64 k ∧ Hid (X = pickL q (l.take k)) ∧ Hid (wr.ownsRow w.heap.size 9 1 out X.length (strCells X)) ∧ Below w.heap.size w wr)
  case atStart => exact ⟨0, [], Nat.zero_le _, rfl, rfl, hid rfl, hid (World.ownsRow_nil _ _ _ _), Below.refl _ _⟩
  case round =>
    obtain ⟨k, X, hk, rfl, rfl, HX, HN, hbel⟩ := hrel
    have hz := hbel.size
    have k0 : (0 : Int) ≤ (k : Int) := Int.natCast_nonneg _
    obtain ⟨no, nc, rfl⟩ := owns_form HN.out
    by_cases hlt : k < l.length
    · have k1 : (k : Int) < (l.length : Int) := by omega
      have kw : IntKind.i64.wrap ((k : Int) + 1) = (k : Int) + 1 := IntWalk.i64_in _ (by omega)
      obtain ⟨b, o, z, xb, xo, xt, vb, vo, vt, rfl, c1, c2, c3, c4, s1, s2, s3, he⟩ := (HV.out.old hbel).at' (i := k) hlt
      have hm : pickL q (l.take (k + 1)) = X ++ (if q then xo else xt) := by
        rw [take_snoc he, HX.out, pickL_append]
        simp [pickL]
      have hle : (pickL q (l.take (k + 1))).length ≤ (pickL q l).length := by
        conv => rhs; rw [← List.take_append_drop (k + 1) l]
        rw [pickL_append, List.length_append]
        omega
      have hmx := HN0.out
      rw [hm, List.length_append] at hle
      have S2 := hid s2
      have S3 := hid s3
      have HBA := hid (fun o : Obj => hbel.alloc hz o)
      obtain ⟨_, _, rfl⟩ := s1.form
      obtain ⟨_, _, rfl⟩ := s2.form
      obtain ⟨_, _, rfl⟩ := s3.form
      cases q with
      | true =>
        simp only [if_true] at hle hm
        have HLE := hid (show X.length + xo.length ≤ 8000000000000 by omega)
        have HM := hid hm.symm
        clear he s1 s2 s3 hle hm hmx S3
        go_wp2_with (at_builtin; refine wpList_append_s9 rfl (.tmp 15) (.tmp 17) rfl w.heap.size _ X xo rfl (World.ownsRow.alloc HN.out _) _ rfl (Sl.alloc S2.out _) HLE.out (by simp; omega) ?_; intro v5 w5 hO5 hg5 _; have HO5 := hid hO5; have hb6 := (HBA.out _).grown hg5 (HBA.out _).size (fun j hj => (HN.out.lt j hj).1); clear hO5 hg5)
        go_roundg (l.length - (k + 1))
        case measure => omega
        case rel => exact ⟨k + 1, X ++ xo, by omega, rfl, by go_num, HM, HO5, hb6⟩
      | false =>
        simp only [Bool.false_eq_true, if_false] at hle hm
        have HLE := hid (show X.length + xt.length ≤ 8000000000000 by omega)
        have HM := hid hm.symm
        clear he s1 s2 s3 hle hm hmx S2
        go_wp2_with (at_builtin; refine wpList_append_s9 rfl (.tmp 19) (.tmp 21) rfl w.heap.size _ X xt rfl (World.ownsRow.alloc HN.out _) _ rfl (Sl.alloc S3.out _) HLE.out (by simp; omega) ?_; intro v5 w5 hO5 hg5 _; have HO5 := hid hO5; have hb6 := (HBA.out _).grown hg5 (HBA.out _).size (fun j hj => (HN.out.lt j hj).1); clear hO5 hg5)
        go_roundg (l.length - (k + 1))
        case measure => omega
        case rel => exact ⟨k + 1, X ++ xt, by omega, rfl, by go_num, HM, HO5, hb6⟩
    · obtain rfl : k = l.length := by omega
      have hneg : ¬ (l.length : Int) < (l.length : Int) := by omega
      have hX : X = pickL q l := by rw [HX.out, List.take_length]
      subst hX
      have HJ := hid (PJoinL_any _ _ wr (Sl.ofOwns HN.out) HP.out (by have := HN0.out; omega))
      unfold strV at HJ
      go_wp2_with (go_at_call 29; with_reducible refine HJ.out.mono ?_; rintro e w6 ⟨rfl, hb6⟩)
      go_ret
      exact ⟨rfl, below_step hbel hb6 hz⟩
end
end Go.Proofs.Ytfldheegebopoaa

namespace Go.Proofs.Ytfldheegebopoaa
open Go.RowKit

/-- the lines with a conflict's behind them, and the marks about it -/
def confT (T : List Tx) (c : CkS) : List Tx := markedT (markedT (markedT (markedT T mk0 ++ c.2.2.1) mk1 ++ c.2.1) mk2 ++ c.2.2.2) mk3
theorem markedT_len (T : List Tx) (m : Tx) : (markedT T m).length = T.length + 1 := by
  unfold markedT
  rcases List.eq_nil_or_concat T with rfl | ⟨L, x, rfl⟩
  · rfl
  · rw [List.concat_eq_append, List.getLast?_concat, List.dropLast_concat]; simp
theorem lineEnded_len (x : Tx) : (lineEnded x).length ≤ x.length + 1 := by
  unfold lineEnded
  split
  · omega
  · simp
theorem markedT_each {T : List Tx} {m : Tx} {n : Nat} (h : ∀ x ∈ T, x.length ≤ n) (hm : m.length ≤ n + 1) : ∀ x ∈ markedT T m, x.length ≤ n + 1 := by
  unfold markedT
  rcases List.eq_nil_or_concat T with rfl | ⟨L, y, rfl⟩
  · intro x hx
    simp at hx
    rw [hx]; exact hm
  · rw [List.concat_eq_append] at h ⊢
    rw [List.getLast?_concat, List.dropLast_concat]
    intro x hx
    simp only [List.mem_append, List.mem_singleton] at hx
    rcases hx with (hx | hx) | hx
    · have := h x (by simp [hx]); omega
    · rw [hx]
      have := lineEnded_len y
      have := h y (by simp)
      omega
    · rw [hx]; exact hm
/-- where conflict stands -/
structure C9 (w : World) (base : Nat) (k : Int) (vb vo vt : Value) (u : Value) (T : List Tx) (wx : World) : Prop where
  own : wx.ownsRow base 9 1 u T.length (strCells T)
  ne : u.ownBlock ≠ some w.heap.size
  keep : Keep (Aside9 base w.heap.size) (w.alloc (.cells #[.int .i64 k, vb, vo, vt] 34)) wx
  at0 : base ≤ w.heap.size
section
variable {w : World} {base : Nat} {k : Int} {vb vo vt u : Value} {T : List Tx} {wx : World}
theorem C9.size (h : C9 w base k vb vo vt u T wx) : w.heap.size < wx.heap.size ∧ base ≤ wx.heap.size := by
  have h1 := h.keep.size
  have h2 := h.at0
  rw [World.size_alloc] at h1
  omega
theorem C9.blk (h : C9 w base k vb vo vt u T wx) : wx.heap[w.heap.size]? = some (.cells #[.int .i64 k, vb, vo, vt] 34 (0, 0)) :=
  (h.keep.block w.heap.size (by simp) (fun e => e.2 rfl)).trans (heap_alloc_new w _)
theorem C9.below (h : C9 w base k vb vo vt u T wx) : Below base w wx :=
  (((Below.refl base w).alloc h.at0 _)).trans (h.keep.below (by have := h.at0; simp; omega) (fun j hj e => by have := e.1; omega))
theorem C9.put {w2 : World} {u2 : Value} {T2 : List Tx} (h : C9 w base k vb vo vt u T wx) (ho : w2.ownsRow base 9 1 u2 T2.length (strCells T2)) (hn : u2.ownBlock ≠ some w.heap.size) (hk : Keep (Aside9 base w.heap.size) wx w2) : C9 w base k vb vo vt u2 T2 w2 := ⟨ho, hn, h.keep.trans hk, h.at0⟩
theorem C9.drew (h : C9 w base k vb vo vt u T wx) : C9 w base k vb vo vt u T wx.drew := ⟨h.own, h.ne, h.keep.drew, h.at0⟩
/-- an append behind it -/
theorem C9.grown {w2 : World} {u2 : Value} {T2 : List Tx} (h : C9 w base k vb vo vt u T wx) (ho : w2.ownsRow base 9 1 u2 T2.length (strCells T2)) (hg : wx.grownBy w2 u.ownBlock) (hd : u2.ownBlock = u.ownBlock ∨ u2.ownBlock = some wx.heap.size) : C9 w base k vb vo vt u2 T2 w2 := by
  refine h.put ho ?_ ((Keep.refl _ _).grown hg fun j _ e => ⟨(h.own.lt j e).1, fun e' => h.ne (e' ▸ e)⟩)
  rcases hd with e | e
  · rw [e]; exact h.ne
  · rw [e]
    intro e'
    have := Option.some.inj e'
    have := h.size
    omega
theorem C9.marked (h : C9 w base k vb vo vt u T wx) (m : Tx) (hl : T.length ≤ 1000000000) (hx : ∀ x ∈ T, x.length ≤ 1099511627776) :
    Calls Try.prog 48 #[u, strV m] wx fun e w' => ∃ u', e = .returned u' ∧ C9 w base k vb vo vt u' (markedT T m) w' :=
  (DMarked_any base w.heap.size u T m wx h.own hl hx h.size.2 h.size.1 h.ne).mono fun _ _ ⟨u', e, h1, h2, h3⟩ => ⟨u', e, h.put h1 h2 h3⟩
end
section
set_option maxRecDepth 100000
set_option maxHeartbeats 4000000
theorem DConflict_any (base : Nat) (v : Value) (T : List Tx) (k : Int) (xb xo xt : List Tx) (vb vo vt : Value) (w : World) (ho : w.ownsRow base 9 1 v T.length (strCells T))
    (hS : ∀ wx, Below base w wx → Sl wx vb (strCells xb) ∧ Sl wx vo (strCells xo) ∧ Sl wx vt (strCells xt))
    (hl : T.length ≤ 900000000 ∧ xb.length ≤ 1000000 ∧ xo.length ≤ 1000000 ∧ xt.length ≤ 1000000) (hx : (∀ x ∈ T, x.length ≤ 1000000000) ∧ (∀ x ∈ xb, x.length ≤ 1000000000) ∧ (∀ x ∈ xo, x.length ≤ 1000000000) ∧ ∀ x ∈ xt, x.length ≤ 1000000000) (hb : base ≤ w.heap.size) :
    Calls Try.prog 31 #[v, .agg #[.int .i64 k, vb, vo, vt]] w fun e w' => ∃ u, e = .returned u ∧ w'.ownsRow base 9 1 u (confT T (k, xb, xo, xt)).length (strCells (confT T (k, xb, xo, xt))) ∧ Below base w w' := by
  have h0 : C9 w base k vb vo vt v T (w.alloc (.cells #[.int .i64 k, vb, vo, vt] 34)) := ⟨ho.alloc _, fun e => by have := (ho.lt _ e).2; omega, Keep.refl _ _, hb⟩
  have l0 : mk0.length = 13 := rfl
  have l1 : mk1.length = 13 := rfl
  have l2 : mk2.length = 8 := rfl
  have e1 := markedT_each (m := mk0) hx.1 (by omega)
  have n1 := markedT_len T mk0
  have a1 : ∀ x ∈ markedT T mk0 ++ xo, x.length ≤ 1000000001 := fun x h => by
    rcases List.mem_append.1 h with h | h
    · exact e1 x h
    · have := hx.2.2.1 x h; omega
  have e2 := markedT_each (m := mk1) a1 (by omega)
  have n2 := markedT_len (markedT T mk0 ++ xo) mk1
  have a2 : ∀ x ∈ markedT (markedT T mk0 ++ xo) mk1 ++ xb, x.length ≤ 1000000002 := fun x h => by
    rcases List.mem_append.1 h with h | h
    · exact e2 x h
    · have := hx.2.1 x h; omega
  have e3 := markedT_each (m := mk2) a2 (by omega)
  have n3 := markedT_len (markedT (markedT T mk0 ++ xo) mk1 ++ xb) mk2
  have a3 : ∀ x ∈ markedT (markedT (markedT T mk0 ++ xo) mk1 ++ xb) mk2 ++ xt, x.length ≤ 1000000003 := fun x h => by
    rcases List.mem_append.1 h with h | h
    · exact e3 x h
    · have := hx.2.2.2 x h; omega
  rw [List.length_append] at n2 n3
  have HL := hid (show (markedT T mk0).length ≤ 900000001 ∧ (markedT (markedT T mk0 ++ xo) mk1).length ≤ 901000003 ∧ (markedT (markedT (markedT T mk0 ++ xo) mk1 ++ xb) mk2).length ≤ 902000004 by omega)
  have HC := hid h0
  have HS := hid hS
  have HM1 := hid (fun wx (h : C9 w base k vb vo vt v T wx) => h.marked mk0 (by omega) (fun x hx' => by have := hx.1 x hx'; omega))
  have HM2 := hid (fun u wx (h : C9 w base k vb vo vt u (markedT T mk0 ++ xo) wx) => h.marked mk1 (by rw [List.length_append]; omega) (fun x hx' => by have := a1 x hx'; omega))
  have HM3 := hid (fun u wx (h : C9 w base k vb vo vt u (markedT (markedT T mk0 ++ xo) mk1 ++ xb) wx) => h.marked mk2 (by rw [List.length_append]; omega) (fun x hx' => by have := a2 x hx'; omega))
  have HM4 := hid (fun u wx (h : C9 w base k vb vo vt u (markedT (markedT (markedT T mk0 ++ xo) mk1 ++ xb) mk2 ++ xt) wx) => h.marked mk3 (by rw [List.length_append]; omega) (fun x hx' => by have := a3 x hx'; omega))
  have HLX := hid hl.2
  have HCT := hid (show confT T (k, xb, xo, xt) = markedT (markedT (markedT (markedT T mk0 ++ xo) mk1 ++ xb) mk2 ++ xt) mk3 from rfl)
  obtain ⟨R, hR⟩ : ∃ R, confT T (k, xb, xo, xt) = R := ⟨_, rfl⟩
  rw [hR] at HCT ⊢
  clear h0 l0 l1 l2 e1 e2 e3 n1 n2 n3 a1 a2 a3 hR ho hS hl hx hb
  obtain ⟨T1, hT1⟩ : ∃ z, markedT T mk0 = z := ⟨_, rfl⟩
  rw [hT1] at HL HM1 HM2 HM3 HM4 HCT
  obtain ⟨T2, hT2⟩ : ∃ z, markedT (T1 ++ xo) mk1 = z := ⟨_, rfl⟩
  rw [hT2] at HL HM2 HM3 HM4 HCT
  obtain ⟨T3, hT3⟩ : ∃ z, markedT (T2 ++ xb) mk2 = z := ⟨_, rfl⟩
  rw [hT3] at HL HM3 HM4 HCT
  rw [← HCT.out] at HM4
  clear hT1 hT2 hT3
  unfold strV mk0 at HM1
  unfold strV mk1 at HM2
  unfold strV mk2 at HM3
  unfold strV mk3 at HM4
  have c1 := blk_cell (i := 1) HC.out.blk rfl
  have c2 := blk_cell (i := 2) HC.out.blk rfl
  have c3 := blk_cell (i := 3) HC.out.blk rfl
  go_enter Try.func31, Try.ntmps31
  go_upto_region 1 with fail
  go_cut [0] from 5 to 9 (fun v0 wx => C9 w base k vb vo vt v0 (T1 ++ xo) wx)
  case first =>
    go_region_law (first
      | (go_simp; go_at_call 48; refine (HM1.out _ HC.out.drew).mono ?_; rintro e w2 ⟨u2, rfl, hc2⟩; have q1 := blk_cell (i := 1) hc2.blk rfl; have q2 := blk_cell (i := 2) hc2.blk rfl; have q3 := blk_cell (i := 3) hc2.blk rfl; have HC2 := hid hc2; clear hc2; go_simp)
      | (refine step_append_s9 rfl (.tmp 6) (.tmp 8) rfl base _ T1 xo rfl HC2.out.own _ rfl (HS.out _ HC2.out.below).2.1 (by have h1 := HL.out; have h2 := HLX.out; omega) HC2.out.size.2 ?_; intro u3 w3 o3 g3 d3; have HC3 := hid (HC2.out.grown o3 g3 d3); clear o3 g3 d3))
    all_goals (
      go_wp2_with fail
      go_meet
      exact HC3.out)
  case rest =>
    have HD1 := hid hcut
    have c1 := blk_cell (i := 1) hcut.blk rfl
    have c2 := blk_cell (i := 2) hcut.blk rfl
    have c3 := blk_cell (i := 3) hcut.blk rfl
    clear hcut
    go_upto_region 2 with fail
    go_cut [0] from 10 to 14 (fun v0 wx => C9 w base k vb vo vt v0 (T2 ++ xb) wx)
    case first =>
      go_region_law (first
        | (go_simp; go_at_call 48; refine (HM2.out _ _ HD1.out.drew).mono ?_; rintro e w2 ⟨u2, rfl, hc2⟩; have q1 := blk_cell (i := 1) hc2.blk rfl; have q2 := blk_cell (i := 2) hc2.blk rfl; have q3 := blk_cell (i := 3) hc2.blk rfl; have HC2 := hid hc2; clear hc2; go_simp)
        | (refine step_append_s9 rfl (.tmp 11) (.tmp 13) rfl base _ T2 xb rfl HC2.out.own _ rfl (HS.out _ HC2.out.below).1 (by have h1 := HL.out; have h2 := HLX.out; omega) HC2.out.size.2 ?_; intro u3 w3 o3 g3 d3; have HC3 := hid (HC2.out.grown o3 g3 d3); clear o3 g3 d3))
      all_goals (
        go_wp2_with fail
        go_meet
        exact HC3.out)
    case rest =>
      have HD2 := hid hcut
      have c1 := blk_cell (i := 1) hcut.blk rfl
      have c2 := blk_cell (i := 2) hcut.blk rfl
      have c3 := blk_cell (i := 3) hcut.blk rfl
      clear hcut
      go_upto_region 3 with fail
      go_cut [0] from 15 to 19 (fun v0 wx => C9 w base k vb vo vt v0 (T3 ++ xt) wx)
      case first =>
        go_region_law (first
          | (go_simp; go_at_call 48; refine (HM3.out _ _ HD2.out.drew).mono ?_; rintro e w2 ⟨u2, rfl, hc2⟩; have q1 := blk_cell (i := 1) hc2.blk rfl; have q2 := blk_cell (i := 2) hc2.blk rfl; have q3 := blk_cell (i := 3) hc2.blk rfl; have HC2 := hid hc2; clear hc2; go_simp)
          | (refine step_append_s9 rfl (.tmp 16) (.tmp 18) rfl base _ T3 xt rfl HC2.out.own _ rfl (HS.out _ HC2.out.below).2.2 (by have h1 := HL.out; have h2 := HLX.out; omega) HC2.out.size.2 ?_; intro u3 w3 o3 g3 d3; have HC3 := hid (HC2.out.grown o3 g3 d3); clear o3 g3 d3))
        all_goals (
          go_wp2_with fail
          go_meet
          exact HC3.out)
      case rest =>
        have HD3 := hid hcut
        have c1 := blk_cell (i := 1) hcut.blk rfl
        have c2 := blk_cell (i := 2) hcut.blk rfl
        have c3 := blk_cell (i := 3) hcut.blk rfl
        clear hcut
        go_wp2_with (go_at_call 48; refine (HM4.out _ _ HD3.out).mono ?_; rintro e w4 ⟨u4, rfl, hc4⟩; have HC4 := hid hc4; clear hc4)
        go_ret
        exact ⟨_, rfl, HC4.out.own, HC4.out.below⟩
end
end Go.Proofs.Ytfldheegebopoaa

namespace Go.Proofs.Ytfldheegebopoaa
open Go.RowKit

theorem endedS_append {x : Tx} (a : Tx) (h : x ≠ []) : endedS (a ++ x) = a ++ endedS x := by
  rcases List.eq_nil_or_concat x with rfl | ⟨y, c, rfl⟩
  · exact absurd rfl h
  · rw [List.concat_eq_append]
    unfold endedS
    rw [← List.append_assoc, List.getLast?_concat, List.getLast?_concat]
    by_cases hc : c = 10
    · rw [if_pos (.inr (by rw [hc])), if_pos (.inr (by rw [hc]))]
      simp
    · rw [if_neg (by simp [hc]), if_neg (by simp [hc])]
      simp
theorem endedS_mark (a y : Tx) {m : Tx} (h : m.getLast? = some 10) : endedS (a ++ m ++ y) = a ++ m ++ endedS y := by
  by_cases hy : y = []
  · subst hy
    rw [List.append_nil, show endedS ([] : Tx) = [] from rfl, List.append_nil]
    rcases List.eq_nil_or_concat m with rfl | ⟨z, c, rfl⟩
    · cases h
    · rw [List.concat_eq_append, List.getLast?_concat] at h
      unfold endedS
      rw [List.concat_eq_append, ← List.append_assoc, List.getLast?_concat, if_pos (.inr h)]
  · exact endedS_append _ hy
theorem flat_ne {T : List Tx} (h : ∀ x ∈ T, x ≠ []) : T.flatten = [] → T = [] := by
  cases T with
  | nil => exact fun _ => rfl
  | cons x T =>
    intro e
    rw [List.flatten_cons] at e
    exact absurd (List.append_eq_nil_iff.1 e).1 (h x (by simp))
theorem flat_count {T : List Tx} (h : ∀ x ∈ T, x ≠ []) : T.length ≤ T.flatten.length := by
  induction T with
  | nil => simp
  | cons x T ih =>
    have h1 := ih fun y hy => h y (List.mem_cons_of_mem _ hy)
    have h2 : 0 < x.length := List.length_pos_iff.2 (h x (by simp))
    rw [List.flatten_cons, List.length_append, List.length_cons]
    omega
theorem markedT_flat {T : List Tx} (h : ∀ x ∈ T, x ≠ []) (m : Tx) : (markedT T m).flatten = endedS T.flatten ++ m := by
  unfold markedT
  rcases List.eq_nil_or_concat T with rfl | ⟨L, x, rfl⟩
  · simp [endedS]
  · rw [List.concat_eq_append] at h ⊢
    have hx := h x (by simp)
    rw [List.getLast?_concat, List.dropLast_concat, List.flatten_append, List.flatten_append, List.flatten_append]
    simp only [List.flatten_singleton]
    rw [endedS_append _ hx, lineEnded_ne hx]
theorem lineEnded_nil {x : Tx} (h : x ≠ []) : lineEnded x ≠ [] := by
  unfold lineEnded
  split
  · exact h
  · simp
theorem markedT_lines {T : List Tx} {m : Tx} (h : ∀ x ∈ T, x ≠ []) (hm : m ≠ []) : ∀ x ∈ markedT T m, x ≠ [] := by
  unfold markedT
  rcases List.eq_nil_or_concat T with rfl | ⟨L, y, rfl⟩
  · intro x hx
    simp at hx
    rw [hx]; exact hm
  · rw [List.concat_eq_append] at h ⊢
    rw [List.getLast?_concat, List.dropLast_concat]
    intro x hx
    simp only [List.mem_append, List.mem_singleton] at hx
    rcases hx with (hx | hx) | hx
    · exact h x (by simp [hx])
    · rw [hx]; exact lineEnded_nil (h y (by simp))
    · rw [hx]; exact hm
theorem two_lines {A B : List Tx} (ha : ∀ x ∈ A, x ≠ []) (hb : ∀ x ∈ B, x ≠ []) : ∀ x ∈ A ++ B, x ≠ [] := fun x hx => (List.mem_append.1 hx).elim (ha x) (hb x)
theorem confT_flat {T : List Tx} {k : Int} {xb xo xt : List Tx} (h : ∀ x ∈ T, x ≠ []) (hb : ∀ x ∈ xb, x ≠ []) (ho : ∀ x ∈ xo, x ≠ []) (ht : ∀ x ∈ xt, x ≠ []) :
    (confT T (k, xb, xo, xt)).flatten = endedS T.flatten ++ mk0 ++ endedS xo.flatten ++ mk1 ++ endedS xb.flatten ++ mk2 ++ endedS xt.flatten ++ mk3 ∧ ∀ x ∈ confT T (k, xb, xo, xt), x ≠ [] := by
  have n0 : mk0 ≠ [] := by decide
  have n1 : mk1 ≠ [] := by decide
  have n2 : mk2 ≠ [] := by decide
  have n3 : mk3 ≠ [] := by decide
  have g1 := two_lines (markedT_lines h n0) ho
  have g2 := two_lines (markedT_lines g1 n1) hb
  have g3 := two_lines (markedT_lines g2 n2) ht
  unfold confT
  refine ⟨?_, markedT_lines g3 n3⟩
  simp only
  rw [markedT_flat g3, List.flatten_append, markedT_flat g2, List.flatten_append, markedT_flat g1, List.flatten_append, markedT_flat h]
  rw [endedS_mark _ xo.flatten (show mk0.getLast? = some 10 from rfl), endedS_mark _ xb.flatten (show mk1.getLast? = some 10 from rfl), endedS_mark _ xt.flatten (show mk2.getLast? = some 10 from rfl)]
theorem chunk_ne {b o t : Tx} : ∀ c ∈ chunksS (linesOf b) (linesOf o) (linesOf t), (∀ x ∈ c.2.1, x ≠ []) ∧ (∀ x ∈ c.2.2.1, x ≠ []) ∧ ∀ x ∈ c.2.2.2, x ≠ [] := by
  obtain ⟨h1, h2, h3, _⟩ := chunks_sides (linesOf b) (linesOf o) (linesOf t)
  intro c hc
  refine ⟨fun x hx => ?_, fun x hx => ?_, fun x hx => ?_⟩
  · exact linesOf_ne b x (h1 ▸ List.mem_flatMap.2 ⟨c, hc, hx⟩)
  · exact linesOf_ne o x (h2 ▸ List.mem_flatMap.2 ⟨c, hc, hx⟩)
  · exact linesOf_ne t x (h3 ▸ List.mem_flatMap.2 ⟨c, hc, hx⟩)
section
set_option maxRecDepth 100000
set_option maxHeartbeats 4000000
/-- Merged, bounded by what it comes to. -/
theorem DMergedL_any (v : Value) (cs : List CkS) (w : World) (hv : SlC w v cs) (hl : cs.length ≤ 4000000) (hm : (mergedS cs).length ≤ 1000000000) :
    Calls Try.prog 30 #[v] w fun e w' => ∃ u, e = .returned u ∧ Sl w' u (strCells (mergedS cs)) ∧ Below w.heap.size w w' := by
  obtain ⟨ao, cap, rfl⟩ := hv.form
  have HV := hid hv
  have HMX := hid hm
  clear hv hm
  go_enter Try.func30, Try.ntmps30
  go_wp2_with fail
  go_loopg [3, 8] cs.length (fun g out i wr => ∃ (k : Nat) (X : List Tx), k ≤ cs.length ∧ cs.length - k = g ∧ i = .int .i64 k ∧ Hid (X = mergedS (cs.take k)) ∧ Hid (wr.ownsRow w.heap.size 9 1 out X.length (strCells X)) ∧ Below w.heap.size w wr)
  case atStart => exact ⟨0, [], Nat.zero_le _, rfl, rfl, hid rfl, hid (World.ownsRow_nil _ _ _ _), Below.refl _ _⟩
  case round =>
    obtain ⟨k, X, hk, rfl, rfl, HX, HN, hbel⟩ := hrel
    have hz := hbel.size
    have k0 : (0 : Int) ≤ (k : Int) := Int.natCast_nonneg _
    obtain ⟨no, nc, rfl⟩ := owns_form HN.out
    by_cases hlt : k < cs.length
    · have k1 : (k : Int) < (cs.length : Int) := by omega
      have kw : IntKind.i64.wrap ((k : Int) + 1) = (k : Int) + 1 := IntWalk.i64_in _ (by omega)
      obtain ⟨b, o, z, xb, xo, xt, vb, vo, vt, rfl, c1, c2, c3, c4, s1, s2, s3, he⟩ := (HV.out.old hbel).at' (i := k) hlt
      have hm : mergedS (cs.take (k + 1)) = X ++ (if z = 3 then xt else xo) := by
        rw [take_snoc he, HX.out]
        simp [mergedS]
      have hle : (mergedS (cs.take (k + 1))).length ≤ (mergedS cs).length := by
        conv => rhs; rw [← List.take_append_drop (k + 1) cs]
        rw [mergedS_append, List.length_append]
        omega
      have hmx := HMX.out
      rw [hm, List.length_append] at hle
      have S2 := hid s2
      have S3 := hid s3
      have HBA := hid (fun o : Obj => hbel.alloc hz o)
      obtain ⟨_, _, rfl⟩ := s1.form
      obtain ⟨_, _, rfl⟩ := s2.form
      obtain ⟨_, _, rfl⟩ := s3.form
      clear he s1 s2 s3
      by_cases h3 : z = 3
      · subst h3
        rw [if_pos rfl] at hle
        have HM := hid (show X ++ xt = mergedS (cs.take (k + 1)) by rw [hm, if_pos rfl])
        have HLE := hid (show X.length + xt.length ≤ 4000000000 by omega)
        clear hm S2 hle hmx
        go_wp2_with (refine wpList_append_ss rfl (.tmp 15) (.tmp 17) rfl w.heap.size _ X xt rfl (World.ownsRow.alloc HN.out _) _ rfl (Sl.alloc S3.out _) HLE.out (by simp; omega) ?_; intro v5 w5 hO5 hb5; have HO5 := hid hO5; have hb6 := (HBA.out _).trans hb5; clear hO5 hb5)
        go_wp2_with fail
        go_roundg (cs.length - (k + 1))
        case measure => omega
        case rel => exact ⟨k + 1, X ++ xt, by omega, rfl, rfl, HM, HO5, hb6⟩
      · have hb : (z == 3) = false := by simpa using h3
        rw [if_neg h3] at hle
        have HM := hid (show X ++ xo = mergedS (cs.take (k + 1)) by rw [hm, if_neg h3])
        have HLE := hid (show X.length + xo.length ≤ 4000000000 by omega)
        clear hm S3 h3 hle hmx
        go_wp2_with (refine wpList_append_ss rfl (.tmp 19) (.tmp 21) rfl w.heap.size _ X xo rfl (World.ownsRow.alloc HN.out _) _ rfl (Sl.alloc S2.out _) HLE.out (by simp; omega) ?_; intro v5 w5 hO5 hb5; have HO5 := hid hO5; have hb6 := (HBA.out _).trans hb5; clear hO5 hb5)
        go_wp2_with fail
        go_roundg (cs.length - (k + 1))
        case measure => omega
        case rel => exact ⟨k + 1, X ++ xo, by omega, rfl, rfl, HM, HO5, hb6⟩
    · obtain rfl : k = cs.length := by omega
      have hneg : ¬ (cs.length : Int) < (cs.length : Int) := by omega
      have HM := hid (show X = mergedS cs by rw [HX.out, List.take_length])
      have HSL := hid (Sl.ofOwns HN.out)
      go_wp2_with fail
      go_ret
      rw [← HM.out]
      exact ⟨_, rfl, HSL.out, hbel⟩
theorem DMerge_any (tb tw tt : Tx) (w : World) (lb : tb.length ≤ 1000) (lo : tw.length ≤ 1000) (lt : tt.length ≤ 1000) :
    Calls Try.prog 10 #[strV tb, strV tw, strV tt] w fun e w' => e = .returned (.tuple #[strV (mergeS tb tw tt).1, .bool (mergeS tb tw tt).2]) ∧ Below w.heap.size w w' := by
  have n1 := linesOf_count tb
  have n2 := linesOf_count tw
  have n3 := linesOf_count tt
  have HFL := hid (chunk_flat lb lo lt)
  have HNE := hid (chunk_ne (b := tb) (o := tw) (t := tt))
  have HLN := hid (chunk_lines (b := linesOf tb) (o := linesOf tw) (t := linesOf tt) (by omega) (by omega) (by omega))
  obtain ⟨hfew, hcl, _⟩ := chunks_few (a := linesOf tb) (b := linesOf tw) (c := linesOf tt) (by omega) (by omega) (by omega)
  have hM : mergeS tb tw tt = if cleanS (chunksS (linesOf tb) (linesOf tw) (linesOf tt)) then ((mergedS (chunksS (linesOf tb) (linesOf tw) (linesOf tt))).flatten, true) else (mergeOut [] (chunksS (linesOf tb) (linesOf tw) (linesOf tt)), false) := rfl
  have HSB := hid (fun wx => PSplit_row tb wx (by omega))
  have HSO := hid (fun wx => PSplit_row tw wx (by omega))
  have HST := hid (fun wx => PSplit_row tt wx (by omega))
  obtain ⟨Lb, hLb⟩ : ∃ L, linesOf tb = L := ⟨_, rfl⟩
  obtain ⟨Lo, hLo⟩ : ∃ L, linesOf tw = L := ⟨_, rfl⟩
  obtain ⟨Lt, hLt⟩ : ∃ L, linesOf tt = L := ⟨_, rfl⟩
  rw [hLb] at HSB hM HFL HNE HLN hfew hcl n1
  rw [hLo] at HSO hM HFL HNE HLN hfew hcl n2
  rw [hLt] at HST hM HFL HNE HLN hfew hcl n3
  have HNN := hid (show Lb.length ≤ 1000 ∧ Lo.length ≤ 1000 ∧ Lt.length ≤ 1000 by omega)
  have HOF := hid (fun (va vb vc : Value) (wx : World) (h1 : Sl wx va (strCells Lb)) (h2 : Sl wx vb (strCells Lo)) (h3 : Sl wx vc (strCells Lt)) => DOf_any va vb vc Lb Lo Lt wx h1 h2 h3 HNN.out.1 HNN.out.2.1 HNN.out.2.2)
  obtain ⟨l, hl⟩ : ∃ l, chunksS Lb Lo Lt = l := ⟨_, rfl⟩
  rw [hl] at hM HFL HNE HLN hfew hcl HOF
  have HML := hid hM
  have HFW := hid hfew
  have HCL := hid hcl
  clear hM hLb hLo hLt hl n1 n2 n3 lb lo lt hfew hcl HNN
  obtain ⟨R, hR⟩ : ∃ R, mergeS tb tw tt = R := ⟨_, rfl⟩
  rw [hR] at HML ⊢
  clear hR
  unfold strV at HSB HSO HST ⊢
  go_enter Try.func10, Try.ntmps10
  go_wp2_with fail
  refine (HSB.out w).mono ?_
  rintro e x1 ⟨v1, rfl, o1, hb1⟩
  obtain ⟨p1, r1, rfl⟩ := owns_form o1
  have S1 := hid (Sl.ofOwns o1)
  clear o1
  go_wp2_with fail
  refine (HSO.out x1).mono ?_
  rintro e x2 ⟨v2, rfl, o2, hb2⟩
  obtain ⟨p2, r2, rfl⟩ := owns_form o2
  have S1 := hid (Sl.old S1.out hb2)
  have S2 := hid (Sl.ofOwns o2)
  have hb2 := below_step hb1 hb2 hb1.size
  clear o2 hb1
  go_wp2_with fail
  refine (HST.out x2).mono ?_
  rintro e x3 ⟨v3, rfl, o3, hb3⟩
  obtain ⟨p3, r3, rfl⟩ := owns_form o3
  have S1 := hid (Sl.old S1.out hb3)
  have S2 := hid (Sl.old S2.out hb3)
  have S3 := hid (Sl.ofOwns o3)
  have hb3 := below_step hb2 hb3 hb2.size
  clear o3 hb2
  go_wp2_with fail
  refine (HOF.out _ _ _ x3 S1.out S2.out S3.out).mono ?_
  rintro e x4 ⟨v4, rfl, o4, hb4⟩
  obtain ⟨p4, r4, rfl⟩ := o4.form
  have S4 := hid o4
  have hb4 := below_step hb3 hb4 hb3.size
  clear o4 hb3 S1 S2 S3 HOF HSB HSO HST
  have HCLN := hid (DClean_any _ l x4 S4.out (by have := HCL.out; omega))
  go_wp2_with fail
  refine HCLN.out.mono ?_
  rintro e x5 ⟨rfl, hb5⟩
  have S5 := hid (S4.out.old hb5)
  have hb5 := below_step hb4 hb5 hb4.size
  clear HCLN S4 hb4
  by_cases hc : cleanS l = true
  · have HR := hid (show R = ((mergedS l).flatten, true) by rw [HML.out, if_pos hc])
    rw [hc]
    have HMG := hid (DMergedL_any _ l x5 S5.out (by have := HCL.out; omega) (by have h1 := merged_count (l := l) (n := 1000) HLN.out; have h2 := HCL.out; omega))
    clear hc HML
    go_wp2_with fail
    refine HMG.out.mono ?_
    rintro e x6 ⟨v6, rfl, o6, hb6⟩
    obtain ⟨p6, r6, rfl⟩ := o6.form
    have hb6 := below_step hb5 hb6 hb5.size
    have HJ := hid (PJoinL_any _ (mergedS l) x6 o6 (by have h1 := merged_flat HFL.out; have h2 := HCL.out; omega) (by have h1 := merged_count (l := l) (n := 1000) HLN.out; have h2 := HCL.out; omega))
    unfold strV at HJ
    clear o6
    go_wp2_with fail
    refine HJ.out.mono ?_
    rintro e x7 ⟨rfl, hb7⟩
    go_wp2_with fail
    refine bodyPost_ret (results_tmp2 rfl _ _ _) rfl ?_
    exact ⟨by rw [HR.out]; rfl, below_step hb6 hb7 hb6.size⟩
  · have HR := hid (show R = (mergeOut [] l, false) by rw [HML.out, if_neg hc])
    rw [show cleanS l = false by simpa using hc]
    clear hc HML
    have HB5 := hid hb5
    clear hb5
    go_wp2_with fail
    go_loopg [9, 26] l.length (fun g o i wx => ∃ (k : Nat) (T : List Tx), k ≤ l.length ∧ l.length - k = g ∧ i = .int .i64 k ∧ Hid (wx.ownsRow x5.heap.size 9 1 o T.length (strCells T)) ∧ Hid (mergeOut [] l = mergeOut T.flatten (l.drop k)) ∧ Hid (T.flatten.length ≤ k * 5000) ∧ Hid (∀ x ∈ T, x ≠ []) ∧ Below x5.heap.size x5 wx)
    case atStart => exact ⟨0, [], Nat.zero_le _, rfl, rfl, hid (World.ownsRow_nil _ _ _ _), hid rfl, hid (Nat.zero_le _), hid (fun x hx => by cases hx), Below.refl _ _⟩
    case round =>
      obtain ⟨k, T, hk, rfl, rfl, HO, HM, HPL, HTN, hbx⟩ := hrel
      obtain ⟨ot, tc, rfl⟩ := owns_form HO.out
      have hzx := hbx.size
      have k0 : (0 : Int) ≤ (k : Int) := Int.natCast_nonneg _
      have hcl := HCL.out
      by_cases hlt : k < l.length
      · have k1 : (k : Int) < (l.length : Int) := by omega
        have kw : IntKind.i64.wrap ((k : Int) + 1) = (k : Int) + 1 := IntWalk.i64_in _ (by omega)
        have hpl := HPL.out
        obtain ⟨b, o, z, xb, xo, xt, vb, vo, vt, hao, c1, c2, c3, c4, s1, s2, s3, he⟩ := S5.out.at' (i := k) hlt
        subst hao
        have up : ∀ {a : Addr} {v : Value}, x5.cell? a = some v → wr.cell? a = some v := fun {a v} hc => (World.cell?_of_block (w := x5) (hbx.block _ (World.block_lt_of_cell? x5 _ hc))).trans hc
        have c1 := up c1
        have c2 := up c2
        have c3 := up c3
        have c4 := up c4
        have hd : l.drop k = (z, xb, xo, xt) :: l.drop (k + 1) := by
          obtain ⟨q, e⟩ := List.getElem?_eq_some_iff.1 he
          rw [List.drop_eq_getElem_cons q, e]
        have hfl := HFW.out.at he
        have hne := HNE.out _ (List.mem_of_getElem? he)
        simp only at hne
        have hfo : xo.flatten.length ≤ 1000 := (HFL.out _ (List.mem_of_getElem? he)).2.1
        have hfb : xb.flatten.length ≤ 1000 := (HFL.out _ (List.mem_of_getElem? he)).1
        have hft : xt.flatten.length ≤ 1000 := (HFL.out _ (List.mem_of_getElem? he)).2.2
        obtain ⟨ab, cb, rfl⟩ := s1.form
        obtain ⟨ao, co, rfl⟩ := s2.form
        obtain ⟨ah, ch, rfl⟩ := s3.form
        rw [strCells_length] at c2 c3 c4 s1 s2 s3
        have HBA := hid (fun o : Obj => hbx.alloc hzx o)
        by_cases h5 : z = 5
        · subst h5
          obtain ⟨hcf, hcn⟩ := confT_flat (k := (5 : Int)) HTN.out hne.1 hne.2.1 hne.2.2
          have HRX := hid (show mergeOut [] l = mergeOut (confT T (5, xb, xo, xt)).flatten (l.drop (k + 1)) by rw [hcf, HM.out, hd, mergeOut, if_pos rfl])
          have hlen : (confT T (5, xb, xo, xt)).flatten.length ≤ (k + 1) * 5000 := by
            have q0 : mk0.length = 13 := rfl
            have q1 : mk1.length = 13 := rfl
            have q2 : mk2.length = 8 := rfl
            have q3 : mk3.length = 15 := rfl
            have l0 := endedS_len T.flatten
            have l1 := endedS_len xo.flatten
            have l2 := endedS_len xb.flatten
            have l3 := endedS_len xt.flatten
            rw [hcf]
            simp only [List.length_append]
            omega
          have HLEN := hid hlen
          have HCN := hid hcn
          have tl := flat_count HTN.out
          have tb := flat_count hne.1
          have t1 := flat_count hne.2.1
          have t2 := flat_count hne.2.2
          have HCF := hid (DConflict_any x5.heap.size (.slice ot T.length tc) T 5 xb xo xt _ _ _ (wr.alloc (.cells #[.int .i64 5, .slice ab xb.length cb, .slice ao xo.length co, .slice ah xt.length ch] 34)) (HO.out.alloc _) (fun wy hy => ⟨Sl.old s1 ((HBA.out _).trans hy), Sl.old s2 ((HBA.out _).trans hy), Sl.old s3 ((HBA.out _).trans hy)⟩) (by omega)
            ⟨fun x hx => by have := mem_flatten_len hx; omega, fun x hx => by have := mem_flatten_len hx; omega, fun x hx => by have := mem_flatten_len hx; omega, fun x hx => by have := mem_flatten_len hx; omega⟩ (by simp; omega))
          rw [strCells_length] at *
          clear hcf hcn hlen tl tb t1 t2 hpl he hd hfl hne hfo hfb hft s1 s2 s3
          go_wp2_with (go_at_call 31; refine HCF.out.mono ?_; rintro e w6 ⟨u6, rfl, o6, hb6⟩; have HO6 := hid o6; have HB6 := hid ((HBA.out _).trans hb6); clear o6 hb6)
          go_roundg (l.length - (k + 1))
          case measure => omega
          case rel => exact ⟨k + 1, _, by omega, rfl, by go_num, HO6.out, HRX, HLEN, HCN, HB6.out⟩
        · have hne5 : (z == 5) = false := by simpa using h5
          obtain ⟨so, sc, hsl, ss⟩ := cut_ck (S5.out.old hbx) he
          have hone : mergedS [(z, xb, xo, xt)] = ckOne (z, xb, xo, xt) := by simp [mergedS, ckOne]
          have hof : (ckOne (z, xb, xo, xt)).flatten.length ≤ 1000 := by
            unfold ckOne
            split
            · exact hft
            · exact hfo
          have hnn : ∀ x ∈ ckOne (z, xb, xo, xt), x ≠ [] := by
            unfold ckOne
            split
            · exact hne.2.2
            · exact hne.2.1
          have hol : (ckOne (z, xb, xo, xt)).length ≤ 1000 := Nat.le_trans (flat_count hnn) hof
          have HMG := fun (o : Obj) => DMergedL_any _ [(z, xb, xo, xt)] (wr.alloc o) (ss.old ((Below.refl _ wr).alloc (Nat.le_refl _) o)) (by simp) (by rw [hone]; omega)
          rw [hone] at HMG
          have HRX := hid (show mergeOut [] l = mergeOut (T ++ ckOne (z, xb, xo, xt)).flatten (l.drop (k + 1)) by rw [HM.out, hd, mergeOut, if_neg h5, List.flatten_append])
          have HNN := hid (two_lines HTN.out hnn)
          have tl := flat_count HTN.out
          obtain ⟨M, hMM⟩ : ∃ M, ckOne (z, xb, xo, xt) = M := ⟨_, rfl⟩
          rw [hMM] at HMG HRX HNN hof hol
          have HLN2 := hid (show (T ++ M).flatten.length ≤ (k + 1) * 5000 by rw [List.flatten_append, List.length_append]; omega)
          have HTL := hid (show T.length + M.length ≤ 4000000000 by omega)
          have HMH := hid HMG
          clear HMG hMM hof hol hone he hd hfl s1 s2 s3 h5 hpl ss hfo hfb hft hnn tl hne
          go_wp2_with (first
            | (go_at_call 30; refine (HMH.out _).mono ?_; rintro e y1 ⟨u1, rfl, o1, hb1⟩
               obtain ⟨uo, uc, rfl⟩ := o1.form
               have HO1 := hid o1
               have HT1 := hid (owns_kept (HO.out.alloc _) fun g _ hg => hb1.block g hg)
               have HB1 := hid (below_step (HBA.out _) hb1 (HBA.out _).size)
               clear o1 hb1)
            | (at_builtin; refine wpList_append_ss rfl (.tmp 37) (.tmp 43) rfl x5.heap.size _ T M rfl HT1.out _ rfl HO1.out HTL.out HB1.out.size ?_; intro v6 w6 o6 hb6; have HO6 := hid o6; have HB6 := hid (HB1.out.trans hb6); clear o6 hb6))
          go_roundg (l.length - (k + 1))
          case measure => omega
          case rel => exact ⟨k + 1, _, by omega, rfl, by go_num, HO6.out, HRX, HLN2, HNN, HB6.out⟩
      · obtain rfl : k = l.length := by omega
        have hneg : ¬ (l.length : Int) < (l.length : Int) := by omega
        have HP := hid (show mergeOut [] l = T.flatten by rw [HM.out, List.drop_length]; rfl)
        have hpl := HPL.out
        have tl := flat_count HTN.out
        have HJ := hid (PJoinL_any _ T wr (Sl.ofOwns HO.out) (by omega) (by omega))
        unfold strV at HJ
        clear tl hpl
        go_wp2_with (go_at_call 29; with_reducible refine HJ.out.mono ?_; rintro e w6 ⟨rfl, hb6⟩)
        refine bodyPost_ret (results_tmp2 rfl _ _ _) rfl ?_
        exact ⟨by rw [HR.out, HP.out]; rfl, below_step HB5.out (below_step hbx hb6 hzx) HB5.out.size⟩
end
end Go.Proofs.Ytfldheegebopoaa

namespace Go.Proofs.Ytfldheegebopoaa
open Go.RowKit

section
set_option maxRecDepth 100000
set_option maxHeartbeats 4000000
theorem DPlainT_any (s : Tx) (w : World) (hlen : s.length ≤ 1000000000000) : Calls Try.prog 14 #[strV s] w fun e w' => e = .returned (.bool (plainS s)) ∧ Below w.heap.size w w' := by
  have hcnt := linesOf_count s
  have hpos := linesOf_ne s
  have HSP := hid (fun wx => PSplit_row s wx (by omega))
  have HJL := hid (fun x (hx : x ∈ linesOf s) => Nat.le_trans (mem_flatten_len hx) (by rw [linesOf_join]; exact hlen))
  obtain ⟨L, hL⟩ : ∃ L, linesOf s = L := ⟨_, rfl⟩
  have hP : plainS s = L.all fun x => decide (markS (endedS x) < 0) := by rw [plainS, hL]
  rw [hL] at HSP HJL hcnt hpos
  rw [hP]
  have HPO := hid hpos
  clear hP hL hpos
  have HCN := hid (show L.length ≤ 1099511627776 by omega)
  clear hcnt hlen
  unfold strV at *
  go_enter Try.func14, Try.ntmps14
  go_wp2_with fail
  refine (DMarks_any w).mono ?_
  rintro e w0 ⟨gm, rfl, hm, hgm, hgs, hb0⟩
  have HM := hid hm
  have HGS := hid hgs
  clear hm hgs hgm
  go_wp2_with fail
  refine (HSP.out w0).mono ?_
  rintro e w1 ⟨v, rfl, ho, hb1⟩
  obtain ⟨lo, lc, rfl⟩ := owns_form ho
  have HS := hid (Sl.ofOwns ho)
  have HM := hid (OwnT.below HM.out hb1)
  have HB := hid (below_step hb0 hb1 hb0.size)
  clear ho HSP hb0 hb1
  go_wp2_with fail
  go_loopg [12] L.length (fun g i wx => ∃ k : Nat, k ≤ L.length ∧ L.length - k = g ∧ i = .int .i64 k ∧ Hid ((L.all fun x => decide (markS (endedS x) < 0)) = (L.drop k).all fun x => decide (markS (endedS x) < 0)) ∧ Below w1.heap.size w1 wx)
  case atStart => exact ⟨0, Nat.zero_le _, rfl, rfl, hid rfl, Below.refl _ _⟩
  case round =>
    obtain ⟨k, hk, rfl, rfl, HA, hbx⟩ := hrel
    have k0 : (0 : Int) ≤ (k : Int) := Int.natCast_nonneg _
    by_cases hlt : k < L.length
    · have k1 : (k : Int) < (L.length : Int) := by omega
      have kw : IntKind.i64.wrap ((k : Int) + 1) = (k : Int) + 1 := IntWalk.i64_in _ (by have := HCN.out; omega)
      obtain ⟨a, x, rfl, hc, hx⟩ := (Sl.old HS.out hbx).strAt' (i := k) hlt
      have hd : L.drop k = x :: L.drop (k + 1) := by
        obtain ⟨q, e⟩ := List.getElem?_eq_some_iff.1 hx
        rw [List.drop_eq_getElem_cons q, e]
      have hlx := HJL.out x (List.mem_of_getElem? hx)
      have hle := endedS_le x
      have HX := hid (show (L.all fun x => decide (markS (endedS x) < 0)) = (decide (markS (endedS x) < 0) && (L.drop (k + 1)).all fun x => decide (markS (endedS x) < 0)) by rw [HA.out, hd]; rfl)
      have HEN := DEnded_any x wr (by omega)
      rw [lineEnded_ne (HPO.out x (List.mem_of_getElem? hx))] at HEN
      have HEN := hid HEN
      have HMK := hid (OwnT.below HM.out hbx)
      have HBA := hid (hbx.alloc hbx.size)
      unfold strV at HEN
      have HLE := hid (show (endedS x).length ≤ 1099511627776 by omega)
      clear hx hd HA hlx hle
      by_cases hm : markS (endedS x) < 0
      · have hge : decide (0 ≤ markS (endedS x)) = false := decide_eq_false (by omega)
        have HX2 := hid (show (L.all fun x => decide (markS (endedS x) < 0)) = (L.drop (k + 1)).all fun x => decide (markS (endedS x) < 0) by rw [HX.out, decide_eq_true hm, Bool.true_and])
        obtain ⟨y, hy⟩ : ∃ y, endedS x = y := ⟨_, rfl⟩
        rw [hy] at HEN hge HLE
        have HG := hid hge
        clear hy hm HX hge
        go_wp2_with (first
          | (go_at_call 38; with_reducible refine HEN.out.mono ?_; rintro e _ ⟨rfl, rfl⟩)
          | (refine wpList_lookup_mk rfl _ _ rfl gm rfl HMK.out y rfl HLE.out _ rfl (.agg #[.int .u8 (turnOf (markS y)).1, .int .u8 (turnOf (markS y)).2]) rfl false HG.out ?_; generalize (turnOf (markS y)).1 = q1; generalize (turnOf (markS y)).2 = q2))
        go_roundg (L.length - (k + 1))
        case measure => omega
        case rel => exact ⟨k + 1, by omega, rfl, by go_num, HX2, HBA.out _⟩
      · have hge : decide (0 ≤ markS (endedS x)) = true := decide_eq_true (by omega)
        have HX2 := hid (show (L.all fun x => decide (markS (endedS x) < 0)) = false by rw [HX.out, decide_eq_false hm, Bool.false_and])
        obtain ⟨y, hy⟩ : ∃ y, endedS x = y := ⟨_, rfl⟩
        rw [hy] at HEN hge HLE
        have HG := hid hge
        clear hy hm HX hge
        go_wp2_with (first
          | (go_at_call 38; with_reducible refine HEN.out.mono ?_; rintro e _ ⟨rfl, rfl⟩)
          | (refine wpList_lookup_mk rfl _ _ rfl gm rfl HMK.out y rfl HLE.out _ rfl (.agg #[.int .u8 (turnOf (markS y)).1, .int .u8 (turnOf (markS y)).2]) rfl true HG.out ?_; generalize (turnOf (markS y)).1 = q1; generalize (turnOf (markS y)).2 = q2))
        go_ret
        exact ⟨by rw [HX2.out]; rfl, below_step HB.out (HBA.out _) HB.out.size⟩
    · obtain rfl : k = L.length := by omega
      have hneg : ¬ (L.length : Int) < (L.length : Int) := by omega
      have HX := hid (show (L.all fun x => decide (markS (endedS x) < 0)) = true by rw [HA.out, List.drop_length]; rfl)
      go_wp2_with fail
      go_ret
      exact ⟨by rw [HX.out]; rfl, below_step HB.out hbx HB.out.size⟩
end
end Go.Proofs.Ytfldheegebopoaa

namespace Go.Proofs.Ytfldheegebopoaa
open Go.RowKit

section
variable {w : World}
/-- the append of one line; the store behind it is named -/
theorem wpList_append_one {ops : Array Oper} {rest : List Oper} {o : Oper} {a : Act} {Q : Exit → Act → World → Prop} (hgd : o.guard = none) (s sx : Operand)
    (ho : o.op = .call { callee := .builtin .append, args := #[s, sx], argTypes := #[32, 32] })
    (base : Nat) (v : Value) (L : List CkS) (k : Int) (vs : Nat → Value) (xs : Nat → List Tx) (hown : PAt w base v L k vs xs) (j : Nat) (hj : j < 3) (x : Tx) (he : a.eval s = vs j) (q : Nat) (hx : a.eval sx = .slice (some ⟨q, 0, none⟩) 1 1) (hq : w.heap.size = q)
    (g n cap : Nat) (hv : v = .slice (some ⟨g, 0, none⟩) n cap) (hlen : (xs j).length ≤ 4000000) (hbase : base ≤ w.heap.size)
    (h : ∀ u w', (∀ i, w'.cell? ⟨g, i, none⟩ = w.cell? ⟨g, i, none⟩) → w'.frozen? ⟨g, L.length * 4 + 1 + j, none⟩ = false → PAt (w'.setCell ⟨g, L.length * 4 + 1 + j, none⟩ u) base v L k (updV vs j u) (updX xs j x) → Below base w (w'.setCell ⟨g, L.length * 4 + 1 + j, none⟩ u) → (∃ ao cap, u = .slice ao ((xs j).length + 1) cap) → wpList Try.prog ops Q rest (a.put o.dst u) w') :
    wpList Try.prog ops Q (o :: rest) a (w.alloc (.cells #[.string ⟨x.toArray⟩] 9)) := by
  subst hq
  obtain ⟨i0, hi0, hi1, hi2, hi3⟩ := info_parts Try.infoStr
  have hal := hown.old ((Below.refl _ w).alloc (Nat.le_refl _) (.cells #[.string ⟨x.toArray⟩] 9))
  refine wpList_append_any _ hgd s sx _ _ ho base 9 i0 _ 1 16 Try.underlying32 hi0 hi1 hi2 hi3 rfl (by omega) (vs j) _ _ he (hal.own j hj) _ 1 [.string ⟨x.toArray⟩] hx
    (Src.ofSlice _ Try.underlying32 ⟨w.heap.size, 0, none⟩ 1 1 [.string ⟨x.toArray⟩] (by rfl) (World.news_of_block (cs := #[.string ⟨x.toArray⟩]) (t := 9) (fr := (0, 0)) (heap_alloc_new w _)) (by simp [Value.oneCell'])) (by unfold maxLen; omega) (by omega) (by simp; omega) fun u w' h2 h3 h4 => ?_
  have hrow : w'.ownsRow base 9 1 u (xs j ++ [x]).length (strCells (xs j ++ [x])) := by
    rw [List.length_append, strCells_append]
    exact h2
  have hp := hal.put hj hrow h3 h4 hv
  have hvb : v.ownBlock = some g := by rw [hv]; rfl
  obtain ⟨g', cap', hv', hb', hl', d0, d1, d2, d3, cur, hcur, hcs⟩ := hal.form
  have hgg : g' = g := by rw [hv'] at hvb; exact Option.some.inj hvb
  subst hgg
  have hl0 : g' < w.heap.size := by
    obtain ⟨g2, c2, hv2, _, hl2, _⟩ := hown.form
    rw [hv'] at hv2
    cases hv2
    exact hl2
  have hsame := h3.block g' hl' (fun e => hal.rowNe hj hvb e.symm)
  have hcell : ∀ i, (w'.cell? ⟨g', i, none⟩) = w.cell? ⟨g', i, none⟩ := fun i => (World.cell?_of_block (w := w.alloc (.cells #[.string ⟨x.toArray⟩] 9)) hsame).trans (World.cell?_of_block (w := w) (Below.heap_alloc w _ _ hl0))
  refine h u w' hcell (blk_free (i := L.length * 4 + 1 + j) (hsame.trans hcur)) hp ?_ ?_
  · have hb1 : Below base w w' := ((Below.refl base w).alloc hbase _).grown h3 (by simp; omega) (fun b hb => ((hal.own j hj).lt b hb).1)
    exact hb1.setCell hb' _
  · obtain ⟨ao, cp, e⟩ := owns_form h2
    exact ⟨ao, cp, e⟩
end
/-- whether the last one is Stable -/
def stableS (out : List CkS) : Bool := match out.getLast? with | some c => decide (c.1 = 1) | none => false
theorem stable_need {out : List CkS} (h : ∀ c ∈ out, c.1 = 1 ∨ c.1 = 5) : needS out (-1) = !stableS out := by
  unfold needS stableS
  rcases List.eq_nil_or_concat out with rfl | ⟨L, c, rfl⟩
  · rfl
  · rw [List.concat_eq_append, List.getLast?_concat]
    have := h c (by simp)
    rcases this with e | e <;> simp [e]
section
set_option maxRecDepth 100000
set_option maxHeartbeats 4000000
theorem DStable_any (v : Value) (out : List CkS) (w : World) (hv : SlC w v out) (hl : out.length ≤ 4000000) : Calls Try.prog 49 #[v] w fun e w' => e = .returned (.bool (stableS out)) ∧ w = w' := by
  obtain ⟨ao, cap, rfl⟩ := hv.form
  rcases List.eq_nil_or_concat out with rfl | ⟨L, c, rfl⟩
  · clear hv hl
    go_enter Try.func49, Try.ntmps49
    go_wp2_with fail
    go_ret
    exact ⟨rfl, rfl⟩
  · rw [List.concat_eq_append] at hv hl ⊢
    have hst : stableS (L ++ [c]) = decide (c.1 = 1) := by unfold stableS; rw [List.getLast?_concat]
    rw [hst]
    rw [List.length_append, List.length_singleton] at hv hl ⊢
    obtain ⟨b, o, z, xb, xo, xt, vb, vo, vt, rfl, c1, c2, c3, c4, s1, s2, s3, he⟩ := hv.at' (i := L.length) (by simp)
    have hz : c.1 = z := by
      rw [List.getElem?_append_right (Nat.le_refl _), Nat.sub_self] at he
      have := Option.some.inj he
      rw [this]
    rw [hz]
    obtain ⟨n, hn⟩ : ∃ z, L.length + 1 = z := ⟨_, rfl⟩
    obtain ⟨j, hj⟩ : ∃ z, L.length = z := ⟨_, rfl⟩
    rw [hn] at hl ⊢
    rw [hj] at c1 hn
    have n0 : (0 : Int) < (n : Int) := by omega
    have j0 : (0 : Int) ≤ (j : Int) := Int.natCast_nonneg _
    have jn : (j : Int) < (n : Int) := by omega
    have nw : IntKind.i64.wrap ((n : Int) - 1) = (j : Int) := (IntWalk.i64_in _ (by omega)).trans (by omega)
    clear hv c2 c3 c4 s1 s2 s3 he hz hn hj hl hst
    go_enter Try.func49, Try.ntmps49
    go_wp2_with fail
    go_ret
    exact ⟨rfl, rfl⟩
end
end Go.Proofs.Ytfldheegebopoaa

namespace Go.Proofs.Ytfldheegebopoaa
open Go.RowKit

theorem PAt.upd0 {w : World} {base : Nat} {v : Value} {L : List CkS} {k : Int} {vs : Nat → Value} {xs : Nat → List Tx} {u : Value} {x : Tx} (h : PAt w base v L k (updV vs 0 u) (updX xs 0 x)) :
    ∃ vs' xs', (vs' 0 = u ∧ vs' 1 = vs 1 ∧ vs' 2 = vs 2) ∧ (xs' 0 = xs 0 ++ [x] ∧ xs' 1 = xs 1 ∧ xs' 2 = xs 2) ∧ PAt w base v L k vs' xs' := ⟨_, _, by simp [updV], by simp [updX], h⟩
theorem PAt.upd1 {w : World} {base : Nat} {v : Value} {L : List CkS} {k : Int} {vs : Nat → Value} {xs : Nat → List Tx} {u : Value} {x : Tx} (h : PAt w base v L k (updV vs 1 u) (updX xs 1 x)) :
    ∃ vs' xs', (vs' 0 = vs 0 ∧ vs' 1 = u ∧ vs' 2 = vs 2) ∧ (xs' 0 = xs 0 ∧ xs' 1 = xs 1 ++ [x] ∧ xs' 2 = xs 2) ∧ PAt w base v L k vs' xs' := ⟨_, _, by simp [updV], by simp [updX], h⟩
theorem PAt.upd2 {w : World} {base : Nat} {v : Value} {L : List CkS} {k : Int} {vs : Nat → Value} {xs : Nat → List Tx} {u : Value} {x : Tx} (h : PAt w base v L k (updV vs 2 u) (updX xs 2 x)) :
    ∃ vs' xs', (vs' 0 = vs 0 ∧ vs' 1 = vs 1 ∧ vs' 2 = u) ∧ (xs' 0 = xs 0 ∧ xs' 1 = xs 1 ∧ xs' 2 = xs 2 ++ [x]) ∧ PAt w base v L k vs' xs' := ⟨_, _, by simp [updV], by simp [updX], h⟩
section
set_option maxRecDepth 100000
set_option maxHeartbeats 4000000
theorem DPutBase_any (base : Nat) (v : Value) (L : List CkS) (k : Int) (vs : Nat → Value) (xs : Nat → List Tx) (x : Tx) (w : World) (hp : PAt w base v L k vs xs) (hls : (xs 0).length ≤ 1000000 ∧ (xs 1).length ≤ 1000000 ∧ (xs 2).length ≤ 1000000) (hl : L.length ≤ 1000000) (hb : base ≤ w.heap.size) :
    Calls Try.prog 36 #[v, strV x, .int .u8 2] w fun e w' => ∃ vs' xs', e = .returned v ∧ (xs' 0 = xs 0 ++ [x] ∧ xs' 1 = xs 1 ∧ xs' 2 = xs 2) ∧ PAt w' base v L k vs' xs' ∧ Below base w w' := by
  obtain ⟨g, cap, rfl, hgb, hgl, d0, d1, d2, d3, _⟩ := hp.form
  have HP := hid hp
  have HLS := hid hls
  have HB := hid ((Below.refl base w))
  have HBS := hid hb
  obtain ⟨n, hn⟩ : ∃ z, L.length + 1 = z := ⟨_, rfl⟩
  obtain ⟨j, hj⟩ : ∃ z, L.length = z := ⟨_, rfl⟩
  have HJ := hid hj
  rw [hn] at HP ⊢
  rw [hj] at d0 d1 d2 d3
  have n0 : (0 : Int) ≤ (n : Int) := Int.natCast_nonneg _
  have j0 : (0 : Int) ≤ (j : Int) := Int.natCast_nonneg _
  have jn : (j : Int) < (n : Int) := by omega
  have nw : IntKind.i64.wrap ((n : Int) - 1) = (j : Int) := (IntWalk.i64_in _ (by omega)).trans (by omega)
  unfold strV
  clear hp hls hl hb hn hj
  go_enter Try.func36, Try.ntmps36
  go_wp2_with (at_builtin; refine wpList_append_one rfl (.tmp 34) (.tmp 36) rfl base _ L k vs xs HP.out 0 (by omega) x rfl _ rfl (by simp) g n cap rfl (by have h1 := HLS.out; omega) HBS.out ?_; intro u1 y1 e1 f1 p1 b1 hu1; obtain ⟨ua1, uc1, hu1⟩ := hu1; subst hu1; rw [HJ.out] at f1 p1 b1; have k10 := (e1 (j * 4 + 1)).trans d1; have fz1 : y1.frozen? ⟨g, j * 4 + 1, none⟩ = false := f1; obtain ⟨vs1, xs1, hv1, hx1, p1⟩ := PAt.upd0 p1; have HQ1 := hid p1; have HV1 := hid hv1; have HX1 := hid hx1; have HZ1 := hid b1; clear p1 b1 e1 f1 hv1 hx1)
  go_ret
  exact ⟨_, _, rfl, HX1.out, HQ1.out, HZ1.out⟩
theorem DPutOurs_any (base : Nat) (v : Value) (L : List CkS) (k : Int) (vs : Nat → Value) (xs : Nat → List Tx) (x : Tx) (w : World) (hp : PAt w base v L k vs xs) (hls : (xs 0).length ≤ 1000000 ∧ (xs 1).length ≤ 1000000 ∧ (xs 2).length ≤ 1000000) (hl : L.length ≤ 1000000) (hb : base ≤ w.heap.size) :
    Calls Try.prog 36 #[v, strV x, .int .u8 1] w fun e w' => ∃ vs' xs', e = .returned v ∧ (xs' 0 = xs 0 ∧ xs' 1 = xs 1 ++ [x] ∧ xs' 2 = xs 2) ∧ PAt w' base v L k vs' xs' ∧ Below base w w' := by
  obtain ⟨g, cap, rfl, hgb, hgl, d0, d1, d2, d3, _⟩ := hp.form
  have HP := hid hp
  have HLS := hid hls
  have HB := hid ((Below.refl base w))
  have HBS := hid hb
  obtain ⟨n, hn⟩ : ∃ z, L.length + 1 = z := ⟨_, rfl⟩
  obtain ⟨j, hj⟩ : ∃ z, L.length = z := ⟨_, rfl⟩
  have HJ := hid hj
  rw [hn] at HP ⊢
  rw [hj] at d0 d1 d2 d3
  have n0 : (0 : Int) ≤ (n : Int) := Int.natCast_nonneg _
  have j0 : (0 : Int) ≤ (j : Int) := Int.natCast_nonneg _
  have jn : (j : Int) < (n : Int) := by omega
  have nw : IntKind.i64.wrap ((n : Int) - 1) = (j : Int) := (IntWalk.i64_in _ (by omega)).trans (by omega)
  unfold strV
  clear hp hls hl hb hn hj
  go_enter Try.func36, Try.ntmps36
  go_wp2_with (at_builtin; refine wpList_append_one rfl (.tmp 50) (.tmp 52) rfl base _ L k vs xs HP.out 1 (by omega) x rfl _ rfl (by simp) g n cap rfl (by have h1 := HLS.out; omega) HBS.out ?_; intro u1 y1 e1 f1 p1 b1 hu1; obtain ⟨ua1, uc1, hu1⟩ := hu1; subst hu1; rw [HJ.out] at f1 p1 b1; have k11 := (e1 (j * 4 + 2)).trans d2; have fz1 : y1.frozen? ⟨g, j * 4 + 2, none⟩ = false := f1; obtain ⟨vs1, xs1, hv1, hx1, p1⟩ := PAt.upd1 p1; have HQ1 := hid p1; have HV1 := hid hv1; have HX1 := hid hx1; have HZ1 := hid b1; clear p1 b1 e1 f1 hv1 hx1)
  go_ret
  exact ⟨_, _, rfl, HX1.out, HQ1.out, HZ1.out⟩
theorem DPutTheirs_any (base : Nat) (v : Value) (L : List CkS) (k : Int) (vs : Nat → Value) (xs : Nat → List Tx) (x : Tx) (w : World) (hp : PAt w base v L k vs xs) (hls : (xs 0).length ≤ 1000000 ∧ (xs 1).length ≤ 1000000 ∧ (xs 2).length ≤ 1000000) (hl : L.length ≤ 1000000) (hb : base ≤ w.heap.size) :
    Calls Try.prog 36 #[v, strV x, .int .u8 3] w fun e w' => ∃ vs' xs', e = .returned v ∧ (xs' 0 = xs 0 ∧ xs' 1 = xs 1 ∧ xs' 2 = xs 2 ++ [x]) ∧ PAt w' base v L k vs' xs' ∧ Below base w w' := by
  obtain ⟨g, cap, rfl, hgb, hgl, d0, d1, d2, d3, _⟩ := hp.form
  have HP := hid hp
  have HLS := hid hls
  have HB := hid ((Below.refl base w))
  have HBS := hid hb
  obtain ⟨n, hn⟩ : ∃ z, L.length + 1 = z := ⟨_, rfl⟩
  obtain ⟨j, hj⟩ : ∃ z, L.length = z := ⟨_, rfl⟩
  have HJ := hid hj
  rw [hn] at HP ⊢
  rw [hj] at d0 d1 d2 d3
  have n0 : (0 : Int) ≤ (n : Int) := Int.natCast_nonneg _
  have j0 : (0 : Int) ≤ (j : Int) := Int.natCast_nonneg _
  have jn : (j : Int) < (n : Int) := by omega
  have nw : IntKind.i64.wrap ((n : Int) - 1) = (j : Int) := (IntWalk.i64_in _ (by omega)).trans (by omega)
  unfold strV
  clear hp hls hl hb hn hj
  go_enter Try.func36, Try.ntmps36
  go_wp2_with (at_builtin; refine wpList_append_one rfl (.tmp 66) (.tmp 68) rfl base _ L k vs xs HP.out 2 (by omega) x rfl _ rfl (by simp) g n cap rfl (by have h1 := HLS.out; omega) HBS.out ?_; intro u1 y1 e1 f1 p1 b1 hu1; obtain ⟨ua1, uc1, hu1⟩ := hu1; subst hu1; rw [HJ.out] at f1 p1 b1; have k12 := (e1 (j * 4 + 3)).trans d3; have fz1 : y1.frozen? ⟨g, j * 4 + 3, none⟩ = false := f1; obtain ⟨vs1, xs1, hv1, hx1, p1⟩ := PAt.upd2 p1; have HQ1 := hid p1; have HV1 := hid hv1; have HX1 := hid hx1; have HZ1 := hid b1; clear p1 b1 e1 f1 hv1 hx1)
  go_ret
  exact ⟨_, _, rfl, HX1.out, HQ1.out, HZ1.out⟩
theorem DPutS_any (base : Nat) (v : Value) (L : List CkS) (vs : Nat → Value) (xs : Nat → List Tx) (x : Tx) (w : World) (hp : PAt w base v L 1 vs xs) (hls : (xs 0).length ≤ 1000000 ∧ (xs 1).length ≤ 1000000 ∧ (xs 2).length ≤ 1000000) (hl : L.length ≤ 1000000) (hb : base ≤ w.heap.size) :
    Calls Try.prog 36 #[v, strV x, .int .u8 0] w fun e w' => ∃ vs' xs', e = .returned v ∧ (xs' 0 = xs 0 ++ [x] ∧ xs' 1 = xs 1 ++ [x] ∧ xs' 2 = xs 2 ++ [x]) ∧ PAt w' base v L 1 vs' xs' ∧ Below base w w' := by
  have hst := DStable_any v (L ++ [((1 : Int), xs 0, xs 1, xs 2)]) w hp.list.slC (by simp; omega)
  rw [show stableS (L ++ [((1 : Int), xs 0, xs 1, xs 2)]) = true by unfold stableS; rw [List.getLast?_concat]; rfl] at hst
  obtain ⟨g, cap, rfl, hgb, hgl, d0, d1, d2, d3, _⟩ := hp.form
  obtain ⟨k, hk⟩ : ∃ k : Int, k = 1 := ⟨_, rfl⟩
  rw [← hk] at hp d0 ⊢
  have HST := hid hst
  have HP := hid hp
  have HLS := hid hls
  have HB := hid (Below.refl base w)
  have HBS := hid hb
  obtain ⟨n, hn⟩ : ∃ z, L.length + 1 = z := ⟨_, rfl⟩
  obtain ⟨j, hj⟩ : ∃ z, L.length = z := ⟨_, rfl⟩
  have HJ := hid hj
  rw [hn] at HP HST ⊢
  rw [hj] at d0 d1 d2 d3
  have n0 : (0 : Int) ≤ (n : Int) := Int.natCast_nonneg _
  have j0 : (0 : Int) ≤ (j : Int) := Int.natCast_nonneg _
  have jn : (j : Int) < (n : Int) := by omega
  have nw : IntKind.i64.wrap ((n : Int) - 1) = (j : Int) := (IntWalk.i64_in _ (by omega)).trans (by omega)
  unfold strV
  clear hp hls hl hb hn hj hst hk
  go_enter Try.func36, Try.ntmps36
  go_wp2_with (first
    | (go_at_call 49; with_reducible refine HST.out.mono ?_; rintro e _ ⟨rfl, rfl⟩)
    | (at_builtin; refine wpList_append_one rfl (.tmp 34) (.tmp 36) rfl base _ L k vs xs HP.out 0 (by omega) x rfl _ rfl (by simp) g n cap rfl (by have h1 := HLS.out; omega) HBS.out ?_; intro u1 y1 e1 f1 p1 b1 hu1; obtain ⟨ua1, uc1, hu1⟩ := hu1; subst hu1; rw [HJ.out] at f1 p1 b1; have k10 := (e1 (j * 4 + 1)).trans d1; have k11 := (e1 (j * 4 + 2)).trans d2; have k12 := (e1 (j * 4 + 3)).trans d3; have fz1 : y1.frozen? ⟨g, j * 4 + 1, none⟩ = false := f1; obtain ⟨vs1, xs1, hv1, hx1, p1⟩ := PAt.upd0 p1; have HQ1 := hid p1; have HV1 := hid hv1; have HX1 := hid hx1; have HZ1 := hid b1; clear p1 b1 e1 f1 hv1 hx1)
    | (at_builtin; refine wpList_append_one rfl (.tmp 50) (.tmp 52) rfl base _ L k vs1 xs1 HQ1.out 1 (by omega) x (show _ = vs1 1 from HV1.out.2.1.symm) _ rfl (by simp) g n cap rfl (by have h1 := HLS.out; have h2 := HX1.out; rw [h2.2.1]; omega) (Nat.le_trans HBS.out HZ1.out.size) ?_; intro u2 y2 e2 f2 p2 b2 hu2; obtain ⟨ua2, uc2, hu2⟩ := hu2; subst hu2; rw [HJ.out] at f2 p2 b2; have k21 := (e2 (j * 4 + 2)).trans ((HQ1.out.at HJ.out).2.2.2.2.1.trans (congrArg some HV1.out.2.1)); have k22 := (e2 (j * 4 + 3)).trans ((HQ1.out.at HJ.out).2.2.2.2.2.trans (congrArg some HV1.out.2.2)); have fz2 : y2.frozen? ⟨g, j * 4 + 2, none⟩ = false := f2; obtain ⟨vs2, xs2, hv2, hx2, p2⟩ := PAt.upd1 p2; have HQ2 := hid p2; have HV2 := hid hv2; have HX2 := hid hx2; have HZ2 := hid b2; clear p2 b2 e2 f2 hv2 hx2)
    | (at_builtin; refine wpList_append_one rfl (.tmp 66) (.tmp 68) rfl base _ L k vs2 xs2 HQ2.out 2 (by omega) x (show _ = vs2 2 from (HV2.out.2.2.trans HV1.out.2.2).symm) _ rfl (by simp) g n cap rfl (by have h1 := HLS.out; have h2 := HX1.out; have h3 := HX2.out; rw [h3.2.2, h2.2.2]; omega) (Nat.le_trans HBS.out (Nat.le_trans HZ1.out.size HZ2.out.size)) ?_; intro u3 y3 e3 f3 p3 b3 hu3; obtain ⟨ua3, uc3, hu3⟩ := hu3; subst hu3; rw [HJ.out] at f3 p3 b3; have k32 := (e3 (j * 4 + 3)).trans ((HQ2.out.at HJ.out).2.2.2.2.2.trans (congrArg some (HV2.out.2.2.trans HV1.out.2.2))); have fz3 : y3.frozen? ⟨g, j * 4 + 3, none⟩ = false := f3; obtain ⟨vs3, xs3, hv3, hx3, p3⟩ := PAt.upd2 p3; have HQ3 := hid p3; have HV3 := hid hv3; have HX3 := hid hx3; have HZ3 := hid b3; clear p3 b3 e3 f3 hv3 hx3))
  go_ret
  refine ⟨_, _, rfl, ⟨?_, ?_, ?_⟩, HQ3.out, (HZ1.out.trans HZ2.out).trans HZ3.out⟩
  · rw [HX3.out.1, HX2.out.1, HX1.out.1]
  · rw [HX3.out.2.1, HX2.out.2.1, HX1.out.2.1]
  · rw [HX3.out.2.2, HX2.out.2.2, HX1.out.2.2]
theorem DPutN_any (base : Nat) (v : Value) (out : List CkS) (x : Tx) (w : World) (hv : OwnCk w base v out) (hst : stableS out = false) (hl : out.length ≤ 1000000) (hb : base ≤ w.heap.size) :
    Calls Try.prog 36 #[v, strV x, .int .u8 0] w fun e w' => ∃ u vs' xs', e = .returned u ∧ (xs' 0 = [x] ∧ xs' 1 = [x] ∧ xs' 2 = [x]) ∧ PAt w' base u out 1 vs' xs' ∧ Below base w w' := by
  have hs := DStable_any v out w hv.slC (by omega)
  rw [hst] at hs
  have HST := hid hs
  have HV := hid hv
  have HBS := hid hb
  have HOL := hid hl
  obtain ⟨vo, vc, rfl⟩ := hv.form
  unfold strV
  clear hv hst hl hb hs
  go_enter Try.func36, Try.ntmps36
  go_wp2_with (first
    | (go_at_call 49; with_reducible refine HST.out.mono ?_; rintro e _ ⟨rfl, rfl⟩)
    | (at_builtin; refine wpList_append_pt rfl (.tmp 15) (.tmp 17) rfl base _ out 1 rfl HV.out rfl (by have h1 := HOL.out; omega) HBS.out ?_; intro v4 w4 hp4 hb4
       obtain ⟨k, hk⟩ : ∃ k : Int, k = 1 := ⟨_, rfl⟩
       obtain ⟨vs, hvs⟩ : ∃ z : Nat → Value, z = (fun _ => Value.slice none 0 0) := ⟨_, rfl⟩
       obtain ⟨xs, hxs⟩ : ∃ z : Nat → List Tx, z = (fun _ => []) := ⟨_, rfl⟩
       rw [← hk, ← hvs, ← hxs] at hp4
       obtain ⟨g, cap, hv4, hgb, hgl, d0, d1, d2, d3, _⟩ := hp4.form
       have HK := hid hk
       have HLX := hid (show xs 0 = [] ∧ xs 1 = [] ∧ xs 2 = [] by rw [hxs]; exact ⟨rfl, rfl, rfl⟩)
       have HLS := hid (show (xs 0).length ≤ 1000000 ∧ (xs 1).length ≤ 1000000 ∧ (xs 2).length ≤ 1000000 by rw [hxs]; simp)
       have HP := hid hp4
       have HB := hid hb4
       have HBS4 := hid (Nat.le_trans HBS.out hb4.size)
       obtain ⟨n, hn⟩ : ∃ z, out.length + 1 = z := ⟨_, rfl⟩
       obtain ⟨j, hj⟩ : ∃ z, out.length = z := ⟨_, rfl⟩
       have HJ := hid hj
       rw [hn] at hv4
       rw [hj] at d0 d1 d2 d3
       subst hv4
       have n0 : (0 : Int) ≤ (n : Int) := Int.natCast_nonneg _
       have j0 : (0 : Int) ≤ (j : Int) := Int.natCast_nonneg _
       have jn : (j : Int) < (n : Int) := by omega
       have nw : IntKind.i64.wrap ((n : Int) - 1) = (j : Int) := (IntWalk.i64_in _ (by have h1 := HOL.out; omega)).trans (by omega)
       clear hp4 hb4 hk hvs hxs hn hj)
    | (at_builtin; refine wpList_append_one rfl (.tmp 34) (.tmp 36) rfl base _ out k vs xs HP.out 0 (by omega) x rfl _ rfl (by simp) g n cap rfl (by have h1 := HLS.out; omega) HBS4.out ?_; intro u1 y1 e1 f1 p1 b1 hu1; obtain ⟨ua1, uc1, hu1⟩ := hu1; subst hu1; rw [HJ.out] at f1 p1 b1; have k10 := (e1 (j * 4 + 1)).trans d1; have k11 := (e1 (j * 4 + 2)).trans d2; have k12 := (e1 (j * 4 + 3)).trans d3; have fz1 : y1.frozen? ⟨g, j * 4 + 1, none⟩ = false := f1; obtain ⟨vs1, xs1, hv1, hx1, p1⟩ := PAt.upd0 p1; have HQ1 := hid p1; have HV1 := hid hv1; have HX1 := hid hx1; have HZ1 := hid b1; clear p1 b1 e1 f1 hv1 hx1)
    | (at_builtin; refine wpList_append_one rfl (.tmp 50) (.tmp 52) rfl base _ out k vs1 xs1 HQ1.out 1 (by omega) x (show _ = vs1 1 from HV1.out.2.1.symm) _ rfl (by simp) g n cap rfl (by have h1 := HLS.out; have h2 := HX1.out; rw [h2.2.1]; omega) (Nat.le_trans HBS4.out HZ1.out.size) ?_; intro u2 y2 e2 f2 p2 b2 hu2; obtain ⟨ua2, uc2, hu2⟩ := hu2; subst hu2; rw [HJ.out] at f2 p2 b2; have k21 := (e2 (j * 4 + 2)).trans ((HQ1.out.at HJ.out).2.2.2.2.1.trans (congrArg some HV1.out.2.1)); have k22 := (e2 (j * 4 + 3)).trans ((HQ1.out.at HJ.out).2.2.2.2.2.trans (congrArg some HV1.out.2.2)); have fz2 : y2.frozen? ⟨g, j * 4 + 2, none⟩ = false := f2; obtain ⟨vs2, xs2, hv2, hx2, p2⟩ := PAt.upd1 p2; have HQ2 := hid p2; have HV2 := hid hv2; have HX2 := hid hx2; have HZ2 := hid b2; clear p2 b2 e2 f2 hv2 hx2)
    | (at_builtin; refine wpList_append_one rfl (.tmp 66) (.tmp 68) rfl base _ out k vs2 xs2 HQ2.out 2 (by omega) x (show _ = vs2 2 from (HV2.out.2.2.trans HV1.out.2.2).symm) _ rfl (by simp) g n cap rfl (by have h1 := HLS.out; have h2 := HX1.out; have h3 := HX2.out; rw [h3.2.2, h2.2.2]; omega) (Nat.le_trans HBS4.out (Nat.le_trans HZ1.out.size HZ2.out.size)) ?_; intro u3 y3 e3 f3 p3 b3 hu3; obtain ⟨ua3, uc3, hu3⟩ := hu3; subst hu3; rw [HJ.out] at f3 p3 b3; have k32 := (e3 (j * 4 + 3)).trans ((HQ2.out.at HJ.out).2.2.2.2.2.trans (congrArg some (HV2.out.2.2.trans HV1.out.2.2))); have fz3 : y3.frozen? ⟨g, j * 4 + 3, none⟩ = false := f3; obtain ⟨vs3, xs3, hv3, hx3, p3⟩ := PAt.upd2 p3; have HQ3 := hid p3; have HV3 := hid hv3; have HX3 := hid hx3; have HZ3 := hid b3; clear p3 b3 e3 f3 hv3 hx3))
  go_ret
  rw [← HK.out]
  refine ⟨_, _, _, rfl, ⟨?_, ?_, ?_⟩, HQ3.out, ((HB.out.trans HZ1.out).trans HZ2.out).trans HZ3.out⟩
  · rw [HX3.out.1, HX2.out.1, HX1.out.1, HLX.out.1]; rfl
  · rw [HX3.out.2.1, HX2.out.2.1, HX1.out.2.1, HLX.out.2.1]; rfl
  · rw [HX3.out.2.2, HX2.out.2.2, HX1.out.2.2, HLX.out.2.2]; rfl
end
end Go.Proofs.Ytfldheegebopoaa

namespace Go.Proofs.Ytfldheegebopoaa
open Go.RowKit

section
variable {w : World}
theorem wpList_append_ptg {ops : Array Oper} {rest : List Oper} {o : Oper} {a : Act} {Q : Exit → Act → World → Prop} (hgd : o.guard = none) (s sx : Operand)
    (ho : o.op = .call { callee := .builtin .append, args := #[s, sx], argTypes := #[22, 22] })
    (base : Nat) (v : Value) (cs : List CkS) (k : Int) (he : a.eval s = v) (hown : OwnCk w base v cs) (q : Nat) (hx : a.eval sx = .slice (some ⟨q, 0, none⟩) 1 1) (hq : w.heap.size = q) (hlen : cs.length ≤ 4000000) (hbase : base ≤ w.heap.size)
    (h : ∀ v' w', PAt w' base v' cs k (fun _ => .slice none 0 0) (fun _ => []) → Below base w w' → wpList Try.prog ops Q rest (a.put o.dst v') w') : wpList Try.prog ops Q (o :: rest) a (w.alloc (.cells #[.int .i64 k, .slice none 0 0, .slice none 0 0, .slice none 0 0] 34)) := by
  subst hq
  exact wpList_append_pt hgd s sx ho base v cs k he hown hx hlen hbase h
end
theorem turnV_mk {k : Int} (h0 : 0 ≤ k) (h3 : k ≤ 3) : ∃ q : Int, turnV k = .agg #[.int .u8 k, .int .u8 q] := by
  rcases (show k = 0 ∨ k = 1 ∨ k = 2 ∨ k = 3 by omega) with rfl | rfl | rfl | rfl
  · exact ⟨1, rfl⟩
  · exact ⟨2, rfl⟩
  · exact ⟨3, rfl⟩
  · exact ⟨0, rfl⟩
theorem ck_kinds_add {out : List CkS} {st : Int} {x : Tx} (h : ∀ c ∈ out, c.1 = 1 ∨ c.1 = 5) : ∀ c ∈ addLn (if needS out st then out ++ [((1 : Int), ([] : List Tx), ([] : List Tx), ([] : List Tx))] else out) st x, c.1 = 1 ∨ c.1 = 5 := by
  have h2 : ∀ c ∈ (if needS out st then out ++ [((1 : Int), ([] : List Tx), ([] : List Tx), ([] : List Tx))] else out), c.1 = 1 ∨ c.1 = 5 := by
    split
    · intro c hc
      rcases List.mem_append.1 hc with hc | hc
      · exact h c hc
      · rw [List.mem_singleton.1 hc]; exact .inl rfl
    · exact h
  generalize (if needS out st then out ++ [((1 : Int), ([] : List Tx), ([] : List Tx), ([] : List Tx))] else out) = o at h2
  rcases List.eq_nil_or_concat o with rfl | ⟨L, c, rfl⟩
  · intro c hc; cases hc
  · rw [List.concat_eq_append] at h2 ⊢
    rw [addLn_snoc]
    intro d hd
    rcases List.mem_append.1 hd with hd | hd
    · exact h2 d (List.mem_append_left _ hd)
    · rw [List.mem_singleton.1 hd]; exact h2 c (by simp)
theorem ck_upto_add {out : List CkS} {st : Int} {x : Tx} {m : Nat} (h : CkUpto m out) (hl : out.length ≤ m) : CkUpto (m + 1) (addLn (if needS out st then out ++ [((1 : Int), ([] : List Tx), ([] : List Tx), ([] : List Tx))] else out) st x) ∧ (addLn (if needS out st then out ++ [((1 : Int), ([] : List Tx), ([] : List Tx), ([] : List Tx))] else out) st x).length ≤ m + 1 := by
  have h2 : CkUpto m (if needS out st then out ++ [((1 : Int), ([] : List Tx), ([] : List Tx), ([] : List Tx))] else out) := by
    split
    · exact h.snoc ⟨Nat.zero_le _, Nat.zero_le _, Nat.zero_le _⟩
    · exact h
  have h3 : (if needS out st then out ++ [((1 : Int), ([] : List Tx), ([] : List Tx), ([] : List Tx))] else out).length ≤ m + 1 := by
    split
    · simp; omega
    · omega
  generalize (if needS out st then out ++ [((1 : Int), ([] : List Tx), ([] : List Tx), ([] : List Tx))] else out) = o at h2 h3
  rcases List.eq_nil_or_concat o with rfl | ⟨L, c, rfl⟩
  · have e : addLn ([] : List CkS) st x = [] := rfl
    rw [e]
    exact ⟨fun c hc => (by cases hc), Nat.zero_le _⟩
  · rw [List.concat_eq_append] at h2 h3 ⊢
    rw [addLn_snoc]
    have hc := h2.last
    refine ⟨(h2.front.mono (Nat.le_succ _)).snoc ?_, by simpa using h3⟩
    refine ⟨?_, ?_, ?_⟩
    · simp only; split
      · simp; omega
      · omega
    · simp only; split
      · simp; omega
      · omega
    · simp only; split
      · simp; omega
      · omega
theorem addLn_ne {out : List CkS} {st : Int} {x : Tx} (h : needS out st = true ∨ out ≠ []) : addLn (if needS out st then out ++ [((1 : Int), ([] : List Tx), ([] : List Tx), ([] : List Tx))] else out) st x ≠ [] := by
  have h2 : (if needS out st then out ++ [((1 : Int), ([] : List Tx), ([] : List Tx), ([] : List Tx))] else out) ≠ [] := by
    split
    · simp
    · rcases h with h | h
      · contradiction
      · exact h
  generalize (if needS out st then out ++ [((1 : Int), ([] : List Tx), ([] : List Tx), ([] : List Tx))] else out) = o at h2
  rcases List.eq_nil_or_concat o with rfl | ⟨L, c, rfl⟩
  · exact absurd rfl h2
  · rw [List.concat_eq_append, addLn_snoc]
    simp
/-- put, whatever stands there -/
theorem DPut_any (base : Nat) (v : Value) (out : List CkS) (st : Int) (x : Tx) (w : World) (a : Int) (ha : a = st + 1) (hs : PState w base v out) (hk : ∀ c ∈ out, c.1 = 1 ∨ c.1 = 5) (hst : -1 ≤ st ∧ st ≤ 2 ∧ (0 ≤ st → out ≠ [])) (hu : CkUpto 1000000 out ∧ out.length ≤ 1000000) (hb : base ≤ w.heap.size) :
    Calls Try.prog 36 #[v, strV x, .int .u8 a] w fun e w' => ∃ u, e = .returned u ∧ PState w' base u (addLn (if needS out st then out ++ [(1, [], [], [])] else out) st x) ∧ Below base w w' := by
  subst ha
  by_cases h1 : st = -1
  · subst h1
    rw [stable_need hk]
    by_cases hn : stableS out = true
    · rw [hn]
      simp only [Bool.not_true, Bool.false_eq_true, if_false]
      rcases hs with ⟨rfl, _⟩ | ⟨L, k, vs, xs, rfl, hp⟩
      · exact absurd hn (by decide)
      · obtain rfl : k = 1 := by
          unfold stableS at hn
          rw [List.getLast?_concat] at hn
          simpa using hn
        have hl := hu.2
        rw [List.length_append, List.length_singleton] at hl
        refine (DPutS_any base v L vs xs x w hp hu.1.last (by omega) hb).mono ?_
        rintro e w' ⟨vs', xs', rfl, ⟨e0, e1, e2⟩, hp', hb'⟩
        refine ⟨_, rfl, .inr ⟨L, 1, vs', xs', ?_, hp'⟩, hb'⟩
        rw [addLn_snoc, e0, e1, e2]
        simp
    · have hn : stableS out = false := by simpa using hn
      rw [hn]
      simp only [Bool.not_false, if_true]
      refine (DPutN_any base v out x w hs.list hn hu.2 hb).mono ?_
      rintro e w' ⟨u, vs', xs', rfl, ⟨e0, e1, e2⟩, hp', hb'⟩
      refine ⟨_, rfl, .inr ⟨out, 1, vs', xs', ?_, hp'⟩, hb'⟩
      rw [addLn_snoc, e0, e1, e2]
      simp
  · have hn : needS out st = false := by unfold needS; rw [decide_eq_false h1]; rfl
    rw [hn]
    simp only [Bool.false_eq_true, if_false]
    rcases hs with ⟨rfl, _⟩ | ⟨L, k, vs, xs, rfl, hp⟩
    · exact absurd rfl (hst.2.2 (by omega))
    · have hl := hu.2
      rw [List.length_append, List.length_singleton] at hl
      rcases (show st = 0 ∨ st = 1 ∨ st = 2 by omega) with rfl | rfl | rfl
      · refine (DPutOurs_any base v L k vs xs x w hp hu.1.last (by omega) hb).mono ?_
        rintro e w' ⟨vs', xs', rfl, ⟨e0, e1, e2⟩, hp', hb'⟩
        refine ⟨_, rfl, .inr ⟨L, k, vs', xs', ?_, hp'⟩, hb'⟩
        rw [addLn_snoc, e0, e1, e2]
        simp
      · refine (DPutBase_any base v L k vs xs x w hp hu.1.last (by omega) hb).mono ?_
        rintro e w' ⟨vs', xs', rfl, ⟨e0, e1, e2⟩, hp', hb'⟩
        refine ⟨_, rfl, .inr ⟨L, k, vs', xs', ?_, hp'⟩, hb'⟩
        rw [addLn_snoc, e0, e1, e2]
        simp
      · refine (DPutTheirs_any base v L k vs xs x w hp hu.1.last (by omega) hb).mono ?_
        rintro e w' ⟨vs', xs', rfl, ⟨e0, e1, e2⟩, hp', hb'⟩
        refine ⟨_, rfl, .inr ⟨L, k, vs', xs', ?_, hp'⟩, hb'⟩
        rw [addLn_snoc, e0, e1, e2]
        simp
section
set_option maxRecDepth 100000
set_option maxHeartbeats 4000000
theorem DParse_any (s : Tx) (w : World) (hlen : s.length ≤ 1000000) :
    Calls Try.prog 12 #[strV s] w fun e w' => ∃ u, e = .returned (.tuple #[u, .int .i64 (parseE s)]) ∧ SlC w' u (parseL s) ∧ CkUpto s.length (parseL s) ∧ (parseL s).length ≤ s.length ∧ Below w.heap.size w w' := by
  have hcnt := linesOf_count s
  have HSP := hid (fun wx => PSplit_row s wx (by omega))
  have HJL := hid (fun x (hx : x ∈ linesOf s) => Nat.le_trans (mem_flatten_len hx) (by rw [linesOf_join]; exact hlen))
  obtain ⟨Ln, hL⟩ : ∃ L, linesOf s = L := ⟨_, rfl⟩
  have hP : parseS s = match pRun [] (-1) Ln with
    | some (l, st) => if st = -1 then some l else none
    | none => none := by rw [parseS, hL]; try rfl
  rw [hL] at HSP HJL hcnt
  have HP := hid hP
  have HCN := hid (And.intro hcnt hlen)
  clear hP hL hcnt hlen
  unfold strV at HSP ⊢
  go_enter Try.func12, Try.ntmps12
  go_wp2_with fail
  refine (DMarks_any w).mono ?_
  rintro e w0 ⟨gm, rfl, hm, hgm, hgs, hb0⟩
  have HM := hid hm
  clear hm hgs hgm
  go_wp2_with fail
  refine (HSP.out w0).mono ?_
  rintro e w1 ⟨v, rfl, ho, hb1⟩
  obtain ⟨lo, lc, rfl⟩ := owns_form ho
  have HS := hid (Sl.ofOwns ho)
  have HM := hid (OwnT.below HM.out hb1)
  have HB := hid (below_step hb0 hb1 hb0.size)
  clear ho HSP hb0 hb1
  go_wp2_with fail
  go_loopg [5, 6, 15] Ln.length (fun g v inn i wx => ∃ (m : Nat) (out : List CkS) (st a : Int), m ≤ Ln.length ∧ Ln.length - m = g ∧ i = .int .i64 m ∧ inn = .int .u8 a ∧ Hid (a = st + 1) ∧ Hid (pRun [] (-1) Ln = pRun out st (Ln.drop m)) ∧ Hid (PState wx w1.heap.size v out) ∧ Hid (-1 ≤ st ∧ st ≤ 2 ∧ (0 ≤ st → out ≠ [])) ∧ Hid (∀ c ∈ out, c.1 = 1 ∨ c.1 = 5) ∧ Hid (CkUpto m out ∧ out.length ≤ m) ∧ Below w1.heap.size w1 wx)
  case atStart => exact ⟨0, [], -1, 0, Nat.zero_le _, rfl, rfl, rfl, hid rfl, hid rfl, hid (.inl ⟨rfl, rfl⟩), hid ⟨by omega, by omega, fun h => by omega⟩, hid (fun c hc => by cases hc), hid ⟨fun c hc => (by cases hc), Nat.zero_le _⟩, Below.refl _ _⟩
  case round =>
    obtain ⟨m, out, st, a, hm, rfl, rfl, rfl, HA, HR, HT, HI, HK, HU, hbx⟩ := hrel
    have hzx := hbx.size
    have m0 : (0 : Int) ≤ (m : Int) := Int.natCast_nonneg _
    obtain ⟨vo, vc, rfl⟩ := HT.out.list.form
    by_cases hlt : m < Ln.length
    · have m1 : (m : Int) < (Ln.length : Int) := by omega
      have mw : IntKind.i64.wrap ((m : Int) + 1) = (m : Int) + 1 := IntWalk.i64_in _ (by have := HCN.out; omega)
      obtain ⟨la, x, rfl, hc, hx⟩ := (Sl.old HS.out hbx).strAt' (i := m) hlt
      have HXL := hid (show x.length ≤ 1099511627776 by have := HJL.out x (List.mem_of_getElem? hx); omega)
      have HST := hid (pRun_at hx out st)
      have HMK := hid (OwnT.below HM.out hbx)
      have hmc := markS_cases x
      obtain ⟨mk, hmk⟩ : ∃ z, markS x = z := ⟨_, rfl⟩
      have HX := hid hmk
      rw [hmk] at hmc
      have HBA := hid (hbx.alloc hbx.size)
      clear hx
      by_cases hge : 0 ≤ mk
      · have hdt : decide (0 ≤ mk) = true := decide_eq_true hge
        have HDT := hid hdt
        clear hdt
        by_cases hok : mk = st + 1
        · have hps : pStep out st x = some (if mk = 0 then out ++ [(5, [], [], [])] else out, if mk = 3 then -1 else mk) := by rw [pStep, hmk, if_pos hge, if_neg (by omega)]
          have HR2 := hid (show pRun [] (-1) Ln = pRun (if mk = 0 then out ++ [(5, [], [], [])] else out) (if mk = 3 then -1 else mk) (Ln.drop (m + 1)) by rw [HR.out, HST.out, hps])
          have ham : a = mk := by rw [HA.out]; omega
          clear hps HST HR hmk
          have hmk4 : mk = 0 ∨ mk = 1 ∨ mk = 2 ∨ mk = 3 := by omega
          have HST0 := hid hok
          clear hok hmc hge
          rcases hmk4 with rfl | rfl | rfl | rfl
          · subst ham
            have HR3 := hid (show pRun [] (-1) Ln = pRun (out ++ [(5, [], [], [])]) 0 (Ln.drop (m + 1)) by have := HR2.out; simpa using this)
            clear HR2
            go_wp2_with (first
              | (refine wpList_lookup_mk rfl _ _ rfl gm rfl HMK.out x rfl HXL.out _ HX.out (.agg #[.int .u8 0, .int .u8 1]) rfl true rfl ?_)
              | (at_builtin; refine wpList_append_ptg rfl (.tmp 39) (.tmp 41) rfl w1.heap.size _ out 5 rfl (HT.out.old ((Below.refl _ _).alloc (Nat.le_refl _) _)).list _ rfl (by simp) (by have h1 := HU.out.2; have h2 := HCN.out; omega) (HBA.out _).size ?_; intro v4 w4 hp4 hb4
                 have HT4 := hid (show PState w4 w1.heap.size v4 (out ++ [(5, [], [], [])]) from .inr ⟨_, _, _, _, rfl, hp4⟩)
                 have HB4 := hid ((HBA.out _).trans hb4)
                 clear hp4 hb4))
            go_roundg (Ln.length - (m + 1))
            case measure => omega
            case rel => exact ⟨m + 1, _, 0, 1, by omega, rfl, by go_num, rfl, hid rfl, HR3, HT4, hid ⟨by omega, by omega, fun _ => by simp⟩, hid (fun c hc => by
              rcases List.mem_append.1 hc with hc | hc
              · exact HK.out c hc
              · rw [List.mem_singleton.1 hc]; exact .inr rfl), hid ⟨(HU.out.1.mono (by omega)).snoc ⟨Nat.zero_le _, Nat.zero_le _, Nat.zero_le _⟩, by have := HU.out.2; rw [List.length_append, List.length_singleton]; omega⟩, HB4.out⟩
          · subst ham
            have HR3 := hid (show pRun [] (-1) Ln = pRun out (1) (Ln.drop (m + 1)) by have := HR2.out; simpa using this)
            clear HR2
            go_wp2_with (first
              | (refine wpList_lookup_mk rfl _ _ rfl gm rfl HMK.out x rfl HXL.out _ HX.out (.agg #[.int .u8 1, .int .u8 2]) rfl true rfl ?_))
            go_roundg (Ln.length - (m + 1))
            case measure => omega
            case rel => exact ⟨m + 1, out, (1), 2, by omega, rfl, by go_num, rfl, hid rfl, HR3, hid (HT.out.old ((Below.refl _ _).alloc (Nat.le_refl _) _)), hid ⟨by omega, by omega, fun _ => HI.out.2.2 (by have := HST0.out; omega)⟩, HK, hid ⟨HU.out.1.mono (by omega), by have := HU.out.2; omega⟩, HBA.out _⟩
          · subst ham
            have HR3 := hid (show pRun [] (-1) Ln = pRun out (2) (Ln.drop (m + 1)) by have := HR2.out; simpa using this)
            clear HR2
            go_wp2_with (first
              | (refine wpList_lookup_mk rfl _ _ rfl gm rfl HMK.out x rfl HXL.out _ HX.out (.agg #[.int .u8 2, .int .u8 3]) rfl true rfl ?_))
            go_roundg (Ln.length - (m + 1))
            case measure => omega
            case rel => exact ⟨m + 1, out, (2), 3, by omega, rfl, by go_num, rfl, hid rfl, HR3, hid (HT.out.old ((Below.refl _ _).alloc (Nat.le_refl _) _)), hid ⟨by omega, by omega, fun _ => HI.out.2.2 (by have := HST0.out; omega)⟩, HK, hid ⟨HU.out.1.mono (by omega), by have := HU.out.2; omega⟩, HBA.out _⟩
          · subst ham
            have HR3 := hid (show pRun [] (-1) Ln = pRun out (-1) (Ln.drop (m + 1)) by have := HR2.out; simpa using this)
            clear HR2
            go_wp2_with (first
              | (refine wpList_lookup_mk rfl _ _ rfl gm rfl HMK.out x rfl HXL.out _ HX.out (.agg #[.int .u8 3, .int .u8 0]) rfl true rfl ?_))
            go_roundg (Ln.length - (m + 1))
            case measure => omega
            case rel => exact ⟨m + 1, out, (-1), 0, by omega, rfl, by go_num, rfl, hid rfl, HR3, hid (HT.out.old ((Below.refl _ _).alloc (Nat.le_refl _) _)), hid ⟨by omega, by omega, fun h => by omega⟩, HK, hid ⟨HU.out.1.mono (by omega), by have := HU.out.2; omega⟩, HBA.out _⟩
        · have hps : pStep out st x = none := by rw [pStep, hmk, if_pos hge, if_pos hok]
          have hnone : pRun [] (-1) Ln = none := by rw [HR.out, HST.out, hps]
          have HE := hid (show parseE s = 5 ∧ parseL s = [] by
            have h : parseS s = none := by rw [HP.out, hnone]
            exact ⟨by rw [parseE, h]; rfl, by rw [parseL, h]; rfl⟩)
          obtain ⟨q, hq⟩ := turnV_mk hge (by omega)
          have HQ := hid hq
          have hb : (mk != a) = true := by rw [HA.out]; simp; omega
          clear hps hnone HST HR hmk hok hmc hge hq
          go_wp2_with (first
            | (refine wpList_lookup_mk rfl _ _ rfl gm rfl HMK.out x rfl HXL.out _ HX.out (.agg #[.int .u8 mk, .int .u8 q]) HQ.out true HDT.out ?_))
          refine bodyPost_ret (results_tmp2 rfl _ _ _) rfl ?_
          refine ⟨.slice none 0 0, by rw [HE.out.1]; rfl, ?_, ?_, ?_, below_step HB.out (HBA.out _) HB.out.size⟩
          · rw [HE.out.2]; exact SlC.nil _
          · rw [HE.out.2]; exact fun c hc => by cases hc
          · rw [HE.out.2]; exact Nat.zero_le _
      · obtain rfl : mk = -1 := by omega
        have hps : pStep out st x = some (addLn (if needS out st then out ++ [(1, [], [], [])] else out) st x, st) := by rw [pStep, hmk, if_neg (by omega)]
        have HR2 := hid (show pRun [] (-1) Ln = pRun (addLn (if needS out st then out ++ [(1, [], [], [])] else out) st x) st (Ln.drop (m + 1)) by rw [HR.out, HST.out, hps])
        have HN := hid (show 0 ≤ st → addLn (if needS out st then out ++ [((1 : Int), ([] : List Tx), ([] : List Tx), ([] : List Tx))] else out) st x ≠ [] from fun h => addLn_ne (.inr (HI.out.2.2 h)))
        have HK2 := hid (ck_kinds_add (st := st) (x := x) HK.out)
        have HU2 := hid (ck_upto_add (st := st) (x := x) HU.out.1 HU.out.2)
        have HPUT := hid (fun wy (hs : PState wy w1.heap.size (.slice vo out.length vc) out) (hz : w1.heap.size ≤ wy.heap.size) => DPut_any w1.heap.size _ out st x wy a HA.out hs HK.out HI.out ⟨HU.out.1.mono (by have := HCN.out; omega), by have h1 := HU.out.2; have := HCN.out; omega⟩ hz)
        obtain ⟨o2, ho2⟩ : ∃ z, addLn (if needS out st then out ++ [((1 : Int), ([] : List Tx), ([] : List Tx), ([] : List Tx))] else out) st x = z := ⟨_, rfl⟩
        rw [ho2] at HR2 HN HK2 HU2 HPUT
        unfold strV at HPUT
        clear hps HST HR hmk hmc hge ho2
        go_wp2_with (first
          | (refine wpList_lookup_mk rfl _ _ rfl gm rfl HMK.out x rfl HXL.out _ HX.out (.agg #[.int .u8 0, .int .u8 0]) rfl false rfl ?_)
          | (go_at_call 36; refine (HPUT.out _ (HT.out.old ((Below.refl _ _).alloc (Nat.le_refl _) _)) (HBA.out _).size).mono ?_; rintro e w4 ⟨u, rfl, hp4, hb4⟩
             have HT4 := hid hp4
             have HB4 := hid ((HBA.out _).trans hb4)
             clear hp4 hb4))
        go_roundg (Ln.length - (m + 1))
        case measure => omega
        case rel => exact ⟨m + 1, o2, st, a, by omega, rfl, by go_num, rfl, HA, HR2, HT4, hid ⟨HI.out.1, HI.out.2.1, HN.out⟩, HK2, HU2, HB4.out⟩
    · obtain rfl : m = Ln.length := by omega
      have hneg : ¬ (Ln.length : Int) < (Ln.length : Int) := by omega
      have hr : pRun [] (-1) Ln = some (out, st) := by rw [HR.out, List.drop_length]; rfl
      have HSL := hid HT.out.list.slC
      clear HR
      by_cases hst : st = -1
      · subst hst
        obtain rfl : a = 0 := HA.out
        have HE := hid (show parseE s = 0 ∧ parseL s = out by
          have h : parseS s = some out := by rw [HP.out, hr]; rfl
          exact ⟨by rw [parseE, h]; rfl, by rw [parseL, h]; rfl⟩)
        clear hr
        go_wp2_with fail
        refine bodyPost_ret (results_tmp2 rfl _ _ _) rfl ?_
        refine ⟨_, by rw [HE.out.1]; rfl, by rw [HE.out.2]; exact HSL.out, by rw [HE.out.2]; exact HU.out.1.mono HCN.out.1, by rw [HE.out.2]; exact Nat.le_trans HU.out.2 HCN.out.1, below_step HB.out hbx HB.out.size⟩
      · have hne : (a != 0) = true := by rw [HA.out]; simp; omega
        have HE := hid (show parseE s = 5 ∧ parseL s = [] by
          have h : parseS s = none := by
            rw [HP.out, hr]
            simp only
            rw [if_neg hst]
          exact ⟨by rw [parseE, h]; rfl, by rw [parseL, h]; rfl⟩)
        clear hr hst
        go_wp2_with fail
        refine bodyPost_ret (results_tmp2 rfl _ _ _) rfl ?_
        refine ⟨.slice none 0 0, by rw [HE.out.1]; rfl, ?_, ?_, ?_, below_step HB.out hbx HB.out.size⟩
        · rw [HE.out.2]; exact SlC.nil _
        · rw [HE.out.2]; exact fun c hc => by cases hc
        · rw [HE.out.2]; exact Nat.zero_le _
end
end Go.Proofs.Ytfldheegebopoaa

namespace Go.Proofs.Ytfldheegebopoaa
open Go.RowKit

/-- how many lines a side has, at most -/
theorem pickL_len {q : Bool} {l : List CkS} {n : Nat} (h : ∀ c ∈ l, c.2.2.1.length ≤ n ∧ c.2.2.2.length ≤ n) : (pickL q l).length ≤ l.length * n := by
  induction l with
  | nil => simp [pickL]
  | cons c l ih =>
    have h1 := h c (List.mem_cons_self ..)
    have h2 := ih fun x hx => h x (List.mem_cons_of_mem _ hx)
    have e : pickL q (c :: l) = (if q then c.2.2.1 else c.2.2.2) ++ pickL q l := by simp [pickL]
    rw [e, List.length_append, List.length_cons, Nat.succ_mul]
    split <;> omega
end Go.Proofs.Ytfldheegebopoaa

namespace Go.Proofs.Ytfldheegebopoaa
open Go.RowKit
section
set_option maxRecDepth 100000
set_option maxHeartbeats 2000000
theorem mfew_any (v : Value) (L : List Tx) (w : World) (hv : Sl w v (strCells L)) (hL : L.length ≤ 1000) :
    Calls Try.prog 8 #[v] w fun e w' => e = .returned (.bool (L.all fun x => decide (x.length ≤ 400))) ∧ w = w' := by
  obtain ⟨ao, cap, rfl⟩ := hv.form
  rw [strCells_length] at hv ⊢
  have HS := hid hv
  have HCN := hid hL
  clear hv hL
  go_enter Try.func8, Try.ntmps8
  go_wp2_with fail
  go_loopg [3] L.length (fun g i wx => ∃ k : Nat, k ≤ L.length ∧ L.length - k = g ∧ i = .int .i64 k ∧ Hid ((L.all fun x => decide (x.length ≤ 400)) = (L.drop k).all fun x => decide (x.length ≤ 400)) ∧ wx = w)
  case atStart => exact ⟨0, Nat.zero_le _, rfl, rfl, hid rfl, rfl⟩
  case round =>
    obtain ⟨k, hk, rfl, rfl, HA, rfl⟩ := hrel
    have k0 : (0 : Int) ≤ (k : Int) := Int.natCast_nonneg _
    by_cases hlt : k < L.length
    · have k1 : (k : Int) < (L.length : Int) := by omega
      have kw : IntKind.i64.wrap ((k : Int) + 1) = (k : Int) + 1 := IntWalk.i64_in _ (by have := HCN.out; omega)
      obtain ⟨a, x, rfl, hc, hx⟩ := HS.out.strAt' (i := k) hlt
      have hd : L.drop k = x :: L.drop (k + 1) := by
        obtain ⟨q, e⟩ := List.getElem?_eq_some_iff.1 hx
        rw [List.drop_eq_getElem_cons q, e]
      have HX := hid (show (L.all fun x => decide (x.length ≤ 400)) = (decide (x.length ≤ 400) && (L.drop (k + 1)).all fun x => decide (x.length ≤ 400)) by rw [HA.out, hd]; rfl)
      clear hx hd HA
      by_cases hm : x.length ≤ 400
      · have hge : decide (400 < (x.length : Int)) = false := decide_eq_false (by omega)
        have hgn : decide (400 < x.length) = false := decide_eq_false (by omega)
        have HX2 := hid (show (L.all fun x => decide (x.length ≤ 400)) = (L.drop (k + 1)).all fun x => decide (x.length ≤ 400) by rw [HX.out, decide_eq_true hm, Bool.true_and])
        clear HX hm
        go_wp2_with fail
        go_roundg (L.length - (k + 1))
        case measure => omega
        case rel => exact ⟨k + 1, by omega, rfl, by go_num, HX2, rfl⟩
      · have hge : decide (400 < (x.length : Int)) = true := decide_eq_true (by omega)
        have hgn : decide (400 < x.length) = true := decide_eq_true (by omega)
        have HX2 := hid (show (L.all fun x => decide (x.length ≤ 400)) = false by rw [HX.out, decide_eq_false hm, Bool.false_and])
        clear HX hm
        go_wp2_with fail
        go_ret
        exact ⟨by rw [HX2.out]; rfl, rfl⟩
    · obtain rfl : k = L.length := by omega
      have hneg : ¬ (L.length : Int) < (L.length : Int) := by omega
      have HX2 := hid (show (L.all fun x => decide (x.length ≤ 400)) = true by rw [HA.out, List.drop_length]; rfl)
      clear HA
      go_wp2_with fail
      go_ret
      exact ⟨by rw [HX2.out]; rfl, rfl⟩
theorem awake_any (w : World) : Calls Try.prog 9 #[] w fun e w' => e = .returned (.bool true) ∧ Below w.heap.size w w' := by
  have h1 : mergeS [97, 10] [98, 10] [97, 10] = ([98, 10], true) := (merge_one (a := [97, 10]) (b := [98, 10]) (by simp) (by simp)).2.1
  have h2 : parseE [97, 10] = 0 := by rfl
  have h3 : parseL [97, 10] = [(1, [[97, 10]], [[97, 10]], [[97, 10]])] := by rfl
  have h4 : plainS [97, 10] = true := by decide
  have HM := hid (DMerge_any [97, 10] [98, 10] [97, 10] w (by simp) (by simp) (by simp))
  rw [h1] at HM
  unfold strV at HM
  go_enter Try.func9, Try.ntmps9
  go_wp2_with fail
  refine HM.out.mono ?_
  rintro e w1 ⟨rfl, hb1⟩
  have HP := hid (DParse_any [97, 10] w1 (by simp))
  rw [h2, h3] at HP
  unfold strV at HP
  clear h1 HM
  go_wp2_with fail
  refine HP.out.mono ?_
  rintro e w2 ⟨u, rfl, hu, _, _, hb2⟩
  have hB2 := below_step hb1 hb2 hb1.size
  obtain ⟨ao, cap, rfl⟩ := hu.form
  have HQ := hid (DPlainT_any [97, 10] w2 (by simp))
  rw [h4] at HQ
  unfold strV at HQ
  clear h2 h3 h4 HP hu hb2
  go_wp2_with (go_at_call 14; refine HQ.out.mono ?_; rintro e w3 ⟨rfl, hb3⟩)
  go_ret
  exact ⟨by simp, below_step hB2 hb3 hB2.size⟩
end
end Go.Proofs.Ytfldheegebopoaa

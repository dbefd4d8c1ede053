/-
  Package lines: Split, Join, Same, Whole, each by a contract.
-/
import Derived.Test.YtmmnmcdmiacckaaRlnA
import Derived.Test.YtmmnmcdmiacckaaLinI
import Derived.Test.YtmmnmcdmiacckaaLinJ
namespace Go.Proofs.Ytmmnmcdmiacckaa
open Go.RowKit

section
set_option maxRecDepth 100000
set_option maxHeartbeats 2000000

theorem PIdx_any (v : Value) (l : List UInt8) (w : World) (hv : Sl w v (Lib.byteCells l)) :
    Calls Try.prog 24 #[v, .int .u8 10] w fun e w' => e = .returned (.int .i64 (Lib.indexByte l 10)) ∧ w = w' := by
  obtain ⟨ao, cap, rfl⟩ := hv.form
  have hr := run_indexByte_sl (P := Try.prog) w hv 10
  rw [show ((UInt8.toNat 10 : Nat) : Int) = 10 from rfl] at hr
  go_enter Try.func24, Try.ntmps24
  go_wp2
  rw [run_callFunc_extern Try.func28 (by kernel_rfl) (by kernel_rfl) (by kernel_rfl) (e := Extern.BytealgIndexByte.indexByte) (by kernel_rfl), hr]
  simp only [Result.andThen]
  rw [Oper.upon_value]
  go_wp2
  go_ret
  exact ⟨rfl, rfl⟩

theorem PFirst_any (v : Value) (l : List UInt8) (w : World) (hv : Sl w v (Lib.byteCells l)) (hl : l.length ≤ 1099511627776) :
    Calls Try.prog 20 #[v] w fun e w' => e = .returned (.int .i64 (lineLen l : Nat)) ∧ w = w' := by
  obtain ⟨ao, cap, rfl⟩ := hv.form
  have hx := lineLen_index l
  have hc := hid (PIdx_any _ l w hv)
  have hle := lineLen_le l
  rw [Lib.byteCells_length] at hc ⊢
  generalize Lib.indexByte l 10 = x at hx hc
  clear hv
  go_enter Try.func20, Try.ntmps20
  go_wp2_with fail
  refine hc.out.mono ?_
  rintro e w1 ⟨rfl, rfl⟩
  rcases hx with ⟨rfl, h2⟩ | ⟨h1, h2⟩
  · have H2 := hid h2
    clear h2 hle
    go_wp2
    go_ret
    exact ⟨ret_int (by rw [H2.out]), rfl⟩
  · have h1' : ¬ x < 0 := by omega
    have hw : IntKind.i64.wrap (x + 1) = x + 1 := IntWalk.i64_in _ (by omega)
    have H2 := hid h2
    clear h2 hle
    go_wp2
    go_ret
    exact ⟨ret_int H2.out, rfl⟩

theorem PEnded_any (v : Value) (l : List UInt8) (w : World) (hv : Sl w v (Lib.byteCells l)) (hl : l.length ≤ 1099511627776) :
    Calls Try.prog 23 #[v] w fun e w' => e = .returned (.bool (endedB l)) ∧ w = w' := by
  obtain ⟨ao, cap, rfl⟩ := hv.form
  by_cases h0 : 0 < l.length
  · have hi : l.length - 1 < l.length := by omega
    rw [Lib.byteCells_length] at hv ⊢
    obtain ⟨a, b, rfl, hc, hb⟩ := hv.byteAt' hi
    have hlast : l.getLast? = some b := by rw [List.getLast?_eq_getElem?]; exact hb
    have k0 : (0 : Int) < (l.length : Int) := by omega
    have kw : IntKind.i64.wrap ((l.length : Int) - 1) = ((l.length - 1 : Nat) : Int) := (IntWalk.i64_in _ (by omega)).trans (by omega)
    have k1 : ((l.length - 1 : Nat) : Int) < (l.length : Int) := by omega
    have k2 : (0 : Int) ≤ ((l.length - 1 : Nat) : Int) := by omega
    have HL := hid hlast
    generalize l.length - 1 = m at hc kw k1 k2
    clear hb hi h0 hlast hv
    go_enter Try.func23, Try.ntmps23
    go_wp2
    go_ret
    refine ⟨ret_bool ?_, rfl⟩
    unfold endedB
    rw [HL.out, Bool.eq_iff_iff]
    simp
    constructor
    · intro h
      exact UInt8.toNat_inj.1 (by rw [show UInt8.toNat 10 = 10 from rfl]; omega)
    · rintro rfl
      rfl
  · have : l = [] := List.eq_nil_of_length_eq_zero (by omega)
    subst this
    go_enter Try.func23, Try.ntmps23
    go_wp2
    go_ret
    exact ⟨rfl, rfl⟩

theorem owns_base {w : World} {b b' : Nat} {e : TypeId} {size : Nat} {v : Value} {n : Nat} {xs : List Value} (h : w.ownsRow b e size v n xs) (hb : b' ≤ b) : w.ownsRow b' e size v n xs := by
  refine ⟨h.1, ?_⟩
  rcases h.2 with hn | ⟨g, cap, cur, rfl, hg, rest⟩
  · exact .inl hn
  · exact .inr ⟨g, cap, cur, rfl, Nat.le_trans hb hg, rest⟩

theorem PSplit_row (s : List UInt8) (w : World) (hlen : s.length ≤ 1099511627776) :
    Calls Try.prog 10 #[strV s] w fun e w' => ∃ v, e = .returned v ∧ w'.ownsRow w.heap.size 9 1 v (linesOf s).length (strCells (linesOf s)) ∧ Below w.heap.size w w' := by
  obtain ⟨i0, hi0, hi1, hi2, hi3⟩ := info_parts Try.infoStr
  obtain ⟨j0, hj0, hj1, hj2, hj3⟩ := info_parts Try.info5
  unfold strV
  obtain ⟨cap, wc, hcv, hsc, hzc, hbc⟩ := conv_sl (P := Try.prog) w 9 34 5 s Try.underlying9 Try.underlying34 Try.underlying5
  have HSC := hid hsc
  have HBC := hid hbc
  clear hsc hbc
  go_enter Try.func10, Try.ntmps10
  go_wp2_with fail
  go_loopw [3, 4] (fun l f wr => ∃ (ds : List (List UInt8)) (r : List UInt8) (ao : Option Addr) (cr : Nat), Hid (linesOf s = ds ++ linesOf r) ∧ r.length + ds.length ≤ s.length ∧ f = .slice ao r.length cr ∧ Hid (∀ a, ao = some a → a.block = w.heap.size) ∧ Hid (Sl wr f (Lib.byteCells r)) ∧ Hid (wr.ownsRow wc.heap.size 9 1 l ds.length (strCells ds)) ∧ Hid (Below wc.heap.size wc wr)) (fun _ f _ => match f with | .slice _ n _ => n | _ => 0)
  case atStart => exact ⟨[], s, _, _, hid (by simp), by simp, rfl, hid (fun a h => by cases h; rfl), HSC, hid (World.ownsRow_nil _ _ _ _), hid (Below.refl _ _)⟩
  case round =>
    obtain ⟨ds, r, ao, cr, HL, hlr, rfl, HB, HS, HO, HW⟩ := hrel
    have hz := HW.out.size
    by_cases h0 : 0 < r.length
    · have k0 : (0 : Int) < (r.length : Int) := by omega
      have hcf := hid (PFirst_any _ r wr HS.out (by omega))
      have hle := lineLen_le r
      have hpos := lineLen_pos h0
      obtain ⟨x, hx⟩ : ∃ x, r.take (lineLen r) = x := ⟨_, rfl⟩
      obtain ⟨y, hy⟩ : ∃ y, r.drop (lineLen r) = y := ⟨_, rfl⟩
      have hxl : x.length = lineLen r := by rw [← hx, List.length_take, Nat.min_eq_left hle]
      have hyl : r.length - lineLen r = y.length := by rw [← hy, List.length_drop]
      have HN := hid (show linesOf s = (ds ++ [x]) ++ linesOf y by rw [HL.out, linesOf_first h0, hx, hy]; simp)
      obtain ⟨v1, s1, hs1, _, a1, c1, rfl⟩ := run_slice_to (P := Try.prog) 34 5 Try.underlying34 hj0 HS.out (lineLen r) (by rw [Lib.byteCells_length]; exact hle)
      rw [← byteCells_take, hx] at hs1
      have hcs := run_string_of (P := Try.prog) 34 9 5 Try.underlying34 Try.underlying5 Try.underlying9 hs1
      obtain ⟨al, cl, hfl⟩ := owns_form HO.out
      subst hfl
      have g3 : ds.length + 1 ≤ maxLen := by unfold maxLen; omega
      have g4 : (ds.length + 1) * 16 ≤ 140737488355328 := by omega
      have hbase : wc.heap.size ≤ (wr.alloc (.cells #[.string ⟨x.toArray⟩] 9)).heap.size := by simp; omega
      obtain ⟨v2, s2, hs2, hb2, a2, c2, rfl⟩ := run_slice_from (P := Try.prog) 34 5 Try.underlying34 hj0 hj2 HS.out (lineLen r) (by rw [Lib.byteCells_length]; exact hle)
      rw [← byteCells_drop, hy] at hs2
      rw [Lib.byteCells_length, hyl] at s2 hs2 hb2
      have HB2 := hid (show ∀ a, a2 = some a → a.block = w.heap.size from fun a ha => by
        obtain ⟨a', k', c', e, e2⟩ := hb2 a _ _ (by rw [ha])
        rw [e2]
        exact HB.out a' (Value.slice.inj e).1)
      have HS2 := hid hs2
      have HXL := hid hxl
      have HYL := hid hyl
      have hpy : y.length < r.length := by omega
      have hcnt : y.length + (ds.length + 1) ≤ s.length := by omega
      clear hs1 hs2 hb2 hx hy hxl hyl hle h0 HL
      go_wp2_with fail
      refine hcf.out.mono ?_
      rintro e w1 ⟨rfl, rfl⟩
      go_wp2_with (refine wpList_append_any _ rfl (.tmp 13) (.tmp 18) _ _ rfl wc.heap.size 9 i0 _ 1 16 Try.underlying22 hi0 hi1 hi2 hi3 rfl (by omega) (.slice al ds.length cl) _ _ rfl (HO.out.alloc _) _ 1 [.string ⟨x.toArray⟩] rfl (Src.ofSlice _ Try.underlying22 ⟨wr.heap.size, 0, none⟩ 1 1 [.string ⟨x.toArray⟩] (by rfl) (World.news_of_block (cs := #[.string ⟨x.toArray⟩]) (t := 9) (fr := (0, 0)) (heap_alloc_new wr _)) (by simp [Value.oneCell'])) g3 g4 hbase ?_; intro v5 w5 hown5 hgrow5 hat5)
      have hlt5 := fun j hj => (HO.out.lt j hj).1
      have hb5 : Below wc.heap.size wc w5 := (HW.out.alloc hz _).grown hgrow5 hbase hlt5
      have R : w5.ownsRow wc.heap.size 9 1 v5 (ds ++ [x]).length (strCells (ds ++ [x])) := by
        rw [strCells_append, List.length_append]
        exact hown5
      have S5 : Sl w5 (.slice a2 y.length c2) (Lib.byteCells y) := by
        refine (Sl.alloc HS2.out (.cells #[.string ⟨x.toArray⟩] 9)).kept fun a n c e hlt => ?_
        have hbk := HB2.out a (Value.slice.inj e).1
        exact hgrow5.block _ hlt (fun e' => by have := hlt5 _ e'.symm; omega)
      have HR := hid R
      have H5 := hid S5
      have HB5 := hid hb5
      clear hown5 hgrow5 hat5 R S5 hb5 hlt5
      go_roundw
      case rel => exact ⟨ds ++ [x], y, a2, c2, HN, by simp; omega, rfl, HB2, H5, HR, HB5⟩
      case measure => simpa using hpy
    · have hr0 : r = [] := List.eq_nil_of_length_eq_zero (by omega)
      subst hr0
      have HE := hid (show linesOf s = ds by rw [HL.out]; simp [linesOf])
      clear HL h0
      go_wp2
      go_ret
      refine ⟨_, rfl, ?_, HBC.out.trans (HW.out.mono (by omega))⟩
      rw [HE.out]
      exact owns_base HO.out (by omega)

theorem PSplit_any (s : List UInt8) (w : World) (hlen : s.length ≤ 1099511627776) :
    Calls Try.prog 10 #[strV s] w fun e w' => ∃ v, e = .returned v ∧ Sl w' v (strCells (linesOf s)) ∧ Below w.heap.size w w' :=
  (PSplit_row s w hlen).mono fun _ _ ⟨v, h1, h2, h3⟩ => ⟨v, h1, Sl.ofOwns h2, h3⟩

theorem PJoin_any (v : Value) (l : List (List UInt8)) (w : World) (hv : Sl w v (strCells l)) (hlen : l.flatten.length ≤ 1099511627776) (hn : l.length ≤ 1099511627776) :
    Calls Try.prog 12 #[v] w fun e w' => e = .returned (strV l.flatten) ∧ Below w.heap.size w w' := by
  have hc := hid (SJoin_any v l w hv hlen hn)
  clear hv hlen hn
  go_enter Try.func12, Try.ntmps12
  go_wp2_with fail
  refine hc.out.mono ?_
  rintro e w' ⟨rfl, hb⟩
  unfold strV
  go_wp2
  go_ret
  exact ⟨rfl, hb⟩

theorem PEqual_any (a b : Value) (x y : List (List UInt8)) (w : World) (ha : Sl w a (strCells x)) (hb : Sl w b (strCells y)) (hx : x.length ≤ maxLen) :
    Calls Try.prog 22 #[a, b] w fun e w' => e = .returned (.bool (x == y)) ∧ Below w.heap.size w w' := by
  obtain ⟨aa, ca, rfl⟩ := ha.form
  obtain ⟨ab, cb, rfl⟩ := hb.form
  rw [strCells_length] at ha hb ⊢
  rw [strCells_length]
  unfold maxLen at hx
  by_cases hl : x.length = y.length
  · have hne : (x.length != y.length) = false := by simp [hl]
    have hne' : ((x.length : Int) != (y.length : Int)) = false := by simp [hl]
    have HL := hid hl
    clear hl
    go_enter Try.func22, Try.ntmps22
    go_wp2
    go_loopw [13] (fun i wr => ∃ k : Nat, k ≤ x.length ∧ i = .int .i64 k ∧ x.take k = y.take k ∧ ∃ q, wr = w.drewN q) (fun i _ => x.length - (intOf i).toNat)
    case atStart => exact ⟨0, Nat.zero_le _, rfl, rfl, 0, rfl⟩
    case round =>
      obtain ⟨k, hk, rfl, heq, q, rfl⟩ := hrel
      by_cases hlt : k < x.length
      · obtain ⟨a1, b1, rfl, hc1, hb1⟩ := ha.strAt' (i := k) hlt
        obtain ⟨a2, b2, rfl, hc2, hb2⟩ := hb.strAt' (i := k) (by rw [← HL.out]; exact hlt)
        have hlt2 : k < y.length := by rw [← HL.out]; exact hlt
        have i0 : (0 : Int) ≤ (k : Int) := Int.natCast_nonneg _
        have i1 : (k : Int) < (x.length : Int) := by omega
        have i2 : (k : Int) < (y.length : Int) := by omega
        by_cases he : b1 = b2
        · subst he
          have hbe : (b1 == b1) = true := by simp
          have HEQ := hid (show x.take (k + 1) = y.take (k + 1) by rw [take_snoc hb1, take_snoc hb2, heq])
          clear hb1 hb2 heq
          go_wp2_with fail
          go_quiet (fail)
          go_wp2
          go_roundw
          case rel => exact ⟨k + 1, by omega, by go_num, HEQ.out, _, rfl⟩
          case measure => simp [intOf]; omega
        · have hbe : (b1 == b2) = false := by simpa using he
          have hxy := hid (show (x == y) = false by
            simp
            rintro rfl
            rw [hb1] at hb2
            exact he (by simpa using hb2))
          clear hb1 hb2 heq he
          go_wp2_with fail
          go_quiet (fail)
          go_wp2
          go_ret
          rw [hxy.out]
          exact ⟨rfl, below_step (below_drewN w q) (below_drewN _ _) (Nat.le_refl _)⟩
      · obtain rfl : k = x.length := by omega
        have hxy := hid (show (x == y) = true by
          rw [List.take_length, HL.out, List.take_length] at heq
          simpa using heq)
        clear heq
        go_wp2
        go_ret
        rw [hxy.out]
        exact ⟨rfl, below_drewN w _⟩
  · have hne : (x.length != y.length) = true := by simpa using hl
    have hne' : ((x.length : Int) != (y.length : Int)) = true := by simp; omega
    have hxy := hid (show (x == y) = false by
      simp
      rintro rfl
      exact hl rfl)
    clear hl
    go_enter Try.func22, Try.ntmps22
    go_wp2
    go_ret
    rw [hxy.out]
    exact ⟨rfl, Below.refl _ _⟩

theorem PSame_any (a b : Value) (x y : List (List UInt8)) (w : World) (ha : Sl w a (strCells x)) (hb : Sl w b (strCells y)) (hx : x.length ≤ maxLen) :
    Calls Try.prog 14 #[a, b] w fun e w' => e = .returned (.bool (x == y)) ∧ Below w.heap.size w w' := by
  go_enter Try.func14, Try.ntmps14
  go_wp2_with fail
  refine (PEqual_any a b x y w ha hb hx).mono ?_
  rintro e w' ⟨rfl, hb⟩
  go_wp2
  go_ret
  exact ⟨rfl, hb⟩

theorem PWhole_row (v : Value) (l : List (List UInt8)) (w : World) (hv : Sl w v (strCells l)) (hlen : ∀ x ∈ l, x.length ≤ 1099511627776) (hn : l.length ≤ 1099511627776) :
    Calls Try.prog 15 #[v] w fun e w' => e = .returned (.bool (wholeB l)) ∧ Below w.heap.size w w' := by
  obtain ⟨ao, cap, rfl⟩ := hv.form
  rw [strCells_length] at hv ⊢
  go_enter Try.func15, Try.ntmps15
  go_wp2_with fail
  go_loopw [10] (fun i wr => ∃ k : Nat, k ≤ l.length ∧ i = .int .i64 k ∧ Hid (wholeB l = wholeB (l.drop k)) ∧ Hid (Below w.heap.size w wr)) (fun i _ => l.length - (intOf i).toNat)
  case atStart => exact ⟨0, Nat.zero_le _, rfl, hid rfl, hid (Below.refl _ _)⟩
  case round =>
    obtain ⟨k, hk, rfl, HE, HW⟩ := hrel
    by_cases hlt : k < l.length
    · obtain ⟨a, x, rfl, hc, hx⟩ := (Sl.old hv HW.out).strAt' (i := k) hlt
      have hxl := hlen x (List.mem_of_getElem? hx)
      have k0 : (0 : Int) ≤ (k : Int) := Int.natCast_nonneg _
      have k1 : (k : Int) < (l.length : Int) := by omega
      have kw : IntKind.i64.wrap ((k : Int) + 1) = (k : Int) + 1 := IntWalk.i64_in _ (by omega)
      have kl : IntKind.i64.wrap ((l.length : Int) - 1) = (l.length : Int) - 1 := IntWalk.i64_in _ (by omega)
      have hd : l.drop k = x :: l.drop (k + 1) := by
        rw [List.drop_eq_getElem_cons hlt]
        obtain ⟨_, h⟩ := List.getElem?_eq_some_iff.1 hx
        rw [h]
      have hw := HE.out
      rw [hd, wholeB] at hw
      have hemp : (l.drop (k + 1)).isEmpty = decide (k = l.length - 1) := by
        rw [Bool.eq_iff_iff]
        simp [List.isEmpty_iff]
        omega
      rw [hemp] at hw
      obtain ⟨cap2, wc, hcv, hsc, hzc, hbc⟩ := conv_sl (P := Try.prog) wr 9 34 5 x Try.underlying9 Try.underlying34 Try.underlying5
      have hcf := hid (PFirst_any _ x wc hsc (by omega))
      have hce := hid (PEnded_any _ x wc hsc (by omega))
      have HB := hid (below_step HW.out hbc HW.out.size)
      clear hx hd hemp hsc hbc hxl HW
      by_cases hx0 : 0 < x.length
      · have j0 : (0 : Int) < (x.length : Int) := by omega
        by_cases hx1 : lineLen x = x.length
        · by_cases hx2 : k = l.length - 1
          · have j2 : ((k : Int) == (l.length : Int) - 1) = true := by simp; omega
            have HN := hid (show wholeB l = wholeB (l.drop (k + 1)) by rw [hw]; simp [hx0, hx1, hx2])
            have j1 : ((x.length : Int) == (x.length : Int)) = true := by simp
            rw [hx1] at hcf
            clear hw hx1 hx2 HE
            go_wp2_with fail
            refine hcf.out.mono ?_
            rintro e w1 ⟨rfl, rfl⟩
            go_wp2
            go_roundw
            case rel => exact ⟨k + 1, by omega, by go_num, HN, HB⟩
            case measure => simp [intOf]; omega
          · have j2 : ((k : Int) == (l.length : Int) - 1) = false := by simp; omega
            have j1 : ((x.length : Int) == (x.length : Int)) = true := by simp
            rw [hx1] at hcf
            cases hx3 : endedB x
            · have HN := hid (show wholeB l = false by rw [hw]; simp [hx2, hx3])
              rw [hx3] at hce
              clear hw hx1 hx2 HE hx3
              go_wp2_with fail
              refine hcf.out.mono ?_
              rintro e w1 ⟨rfl, rfl⟩
              go_wp2_with fail
              refine hce.out.mono ?_
              rintro e w1 ⟨rfl, rfl⟩
              go_wp2
              go_ret
              rw [HN.out]
              exact ⟨rfl, HB.out⟩
            · have HN := hid (show wholeB l = wholeB (l.drop (k + 1)) by rw [hw]; simp [hx0, hx1, hx3])
              rw [hx3] at hce
              clear hw hx1 hx2 HE hx3
              go_wp2_with fail
              refine hcf.out.mono ?_
              rintro e w1 ⟨rfl, rfl⟩
              go_wp2_with fail
              refine hce.out.mono ?_
              rintro e w1 ⟨rfl, rfl⟩
              go_wp2
              go_roundw
              case rel => exact ⟨k + 1, by omega, by go_num, HN, HB⟩
              case measure => simp [intOf]; omega
        · have j1 : ((lineLen x : Int) == (x.length : Int)) = false := by simp; omega
          have HN := hid (show wholeB l = false by rw [hw]; simp [hx1])
          clear hw hx1 HE
          go_wp2_with fail
          refine hcf.out.mono ?_
          rintro e w1 ⟨rfl, rfl⟩
          go_wp2
          go_ret
          rw [HN.out]
          exact ⟨rfl, HB.out⟩
      · have j0 : ¬ (0 : Int) < (x.length : Int) := by omega
        have HN := hid (show wholeB l = false by rw [hw]; simp [hx0])
        clear hw hx0 HE
        go_wp2
        go_ret
        rw [HN.out]
        exact ⟨rfl, HB.out⟩
    · obtain rfl : k = l.length := by omega
      have HN := hid (show wholeB l = true by rw [HE.out, List.drop_length]; rfl)
      have hlt' : ¬ (l.length : Int) < (l.length : Int) := by omega
      clear hlt HE
      go_wp2
      go_ret
      rw [HN.out]
      exact ⟨rfl, HW.out⟩

theorem flat_each {l : List (List UInt8)} {x : List UInt8} (h : x ∈ l) : x.length ≤ l.flatten.length := by
  induction l with
  | nil => cases h
  | cons y l ih =>
    rw [List.flatten_cons, List.length_append]
    rcases List.mem_cons.1 h with rfl | h
    · omega
    · have := ih h; omega

theorem PWhole_any (v : Value) (l : List (List UInt8)) (w : World) (hv : Sl w v (strCells l)) (hlen : l.flatten.length ≤ 1099511627776) (hn : l.length ≤ 1099511627776) :
    Calls Try.prog 15 #[v] w fun e w' => e = .returned (.bool (linesOf l.flatten == l)) ∧ Below w.heap.size w w' := by
  rw [← whole_iff]
  exact PWhole_row v l w hv (fun x hx => by have := flat_each hx; omega) hn
end
end Go.Proofs.Ytmmnmcdmiacckaa

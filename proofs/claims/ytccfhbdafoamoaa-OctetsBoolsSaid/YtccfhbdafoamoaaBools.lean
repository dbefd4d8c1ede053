/-
  OctetsBools: for every list of truths and every byte, a truth is a byte 0 or 1, read again as it was; any other byte is none; a text of less than nothing is none. No condition.
-/
import Derived.Test.YtccfhbdafoamoaaAwake
import Derived.Test.YtccfhbdafoamoaaOpen
import Derived.Deep.RegionHeld3
import Derived.Deep.DrawnRows
namespace Go.Proofs.Ytccfhbdafoamoaa.octetsBools
open Go.ChangeShapes Go.WideShapes Go.ChangeAt Go.RowKit

def tb (b : Bool) : UInt8 := if b then 1 else 0

theorem bl_cons (x : Bool) (r : List UInt8) : blV (tb x :: r) 0 = x ∧ blL (tb x :: r) 0 = r ∧ blE (tb x :: r) 0 = 0 := by
  cases x <;> simp [blV, blL, blE, blX, stV, stL, stE, numOf, tb]

theorem bl_one (b : UInt8) : ∃ (v o e : Bool) (c : Int), blV [b] 0 = v ∧ blL [b] 0 = [] ∧ blE [b] 0 = c ∧ ((b.toNat : Int) == 1) = v ∧ decide ((b.toNat : Int) ≤ 1) = o ∧ (c == 0) = o ∧ (c == 5) = e ∧ (o = true ∨ o = false ∧ e = true) := by
  have hx : blX [b] 0 = b.toNat := by simp [blX, stV, numOf]
  have hv : blV [b] 0 = ((b.toNat : Int) == 1) := by
    unfold blV
    rw [hx, Bool.eq_iff_iff]
    simp
    omega
  have hl : blL [b] 0 = [] := by simp [blL, stL]
  by_cases h : 1 < b.toNat
  · have he : blE [b] 0 = 5 := by simp [blE, hx, h]
    exact ⟨_, false, true, 5, hv, hl, he, rfl, by simp; omega, rfl, rfl, .inr ⟨rfl, rfl⟩⟩
  · have he : blE [b] 0 = 0 := by simp [blE, hx, h, stE]
    exact ⟨_, true, false, 0, hv, hl, he, rfl, by simp; omega, rfl, rfl, .inl rfl⟩

set_option maxRecDepth 1000000 in
set_option maxHeartbeats 4000000 in
theorem walk (v0 : Value) (l : List Bool) (a1 : Int) (w : World) (w0 : Sl w v0 (l.map Value.bool) ∧ l.length ≤ maxLen) (w1 : (Lit.int .u8 a1).wf = true) :
    Calls Try.prog 7 #[v0, .int .u8 a1] w fun e w' => e = .returned (.bool true) ∧ Below w.heap.size w w' := by
  obtain ⟨hl0, hmax⟩ := w0
  have hbd := bounds_u8 w1
  obtain ⟨by', hby⟩ : ∃ b : UInt8, a1 = (b.toNat : Int) := ⟨UInt8.ofNat a1.toNat, by simp; omega⟩
  subst hby
  clear w1 hbd
  obtain ⟨ao, cap, hv⟩ := hl0.form
  rw [List.length_map] at hv
  subst hv
  obtain ⟨i0, hi0, hi1, hi2, hi3⟩ := info_parts Try.info5
  obtain ⟨N, hN⟩ : ∃ N, N = min l.length 40 := ⟨_, rfl⟩
  have hNl : N ≤ l.length := by omega
  have hN4 : N ≤ 40 := by omega
  have HN := hid hN
  clear hN
  unfold maxLen at hmax
  go_enter Try.func7, Try.ntmps7
  go_wp2
  go_loopw [6] (fun i wr => ∃ k : Nat, k ≤ N ∧ i = .int .i64 k ∧ ∃ v, Wr wr w.heap.size w.heap.size v ((l.take k).map tb) ∧ Below w.heap.size w wr) (fun i _ => N - (intOf i).toNat)
  case atStart => exact ⟨0, Nat.zero_le _, rfl, _, Wr.new w, (Below.refl _ _).alloc (Nat.le_refl _) _⟩
  case round =>
    obtain ⟨k, hk, rfl, v, hwr, hbr⟩ := hrel
    have hz := hbr.size
    by_cases hlt : k < N
    · have hlr := hl0.old hbr
      obtain ⟨a, x, rfl, hcell, hx⟩ := hlr.elemAt' (i := k) (by omega)
      have h1 : (k : Int) < l.length := by omega
      have h2 : (k : Int) < 40 := by omega
      have HX := hid hx
      clear hx
      go_wp2_with fail
      refine (Bool_any _ _ _ _ x _ hwr hz (by rw [List.length_map, List.length_take]; omega)).mono ?_
      rintro e w2 ⟨rfl, v2, hw2, hf2⟩
      have hb2 := hf2.below hwr hbr hz (Nat.le_refl _)
      have R : Wr w2 w.heap.size w.heap.size v2 ((l.take (k + 1)).map tb) := by
        rw [take_snoc HX.out, List.map_append]
        exact hw2
      clear hw2 hf2
      go_wp2
      go_roundw
      case rel => exact ⟨k + 1, by omega, by go_num, v2, R, hb2⟩
      case measure => simp [intOf]; omega
    · obtain rfl : k = N := by omega
      obtain ⟨bb, hbb⟩ : ∃ bb, bb = (l.take k).map tb := ⟨_, rfl⟩
      rw [← hbb] at hwr
      have hNN := hid (show bb.length = k by rw [hbb, List.length_map, List.length_take]; omega)
      have HBB := hid hbb
      clear hbb
      have hq : k < l.length ∧ decide ((k : Int) < 40) = false ∧ ((k : Int) != 40) = false ∧ (40 : Int) < (l.length : Int) ∨ decide (k < l.length) = false ∧ ((k : Int) != (l.length : Int)) = false ∧ ¬ (40 : Int) < (l.length : Int) := by have := HN.out; simp; omega
      have hbl := hid (show (Lib.byteCells bb).length = k by rw [Lib.byteCells_length, hNN.out])
      have g1 : 0 + (Lib.byteCells bb).length ≤ maxLen := by rw [hbl.out]; unfold maxLen; omega
      have g2 : (0 + (Lib.byteCells bb).length) * 1 ≤ 140737488355328 := by rw [hbl.out]; omega
      have g3 : 0 + (Lib.byteCells bb).length + 1 ≤ maxLen := by rw [hbl.out]; unfold maxLen; omega
      have g4 : (0 + (Lib.byteCells bb).length + 1) * 1 ≤ 140737488355328 := by rw [hbl.out]; omega
      clear hlt hk
      rcases hq with ⟨h1, h2, h3, h4⟩ | ⟨h1, h2, h3⟩
      all_goals
        go_wp2_with fail
        refine (Bytes_any _ _ _ _ _ hwr (by rw [hNN.out]; omega)).mono ?_
        rintro e w2 ⟨vb, rfl, hown2, hb2'⟩
        have hb2 := below_step hbr hb2' hz
        have hz2 := hb2.size
        have hsb := Sl.ofOwns hown2
        clear hb2' hbr hwr
        obtain ⟨aob, capb, rfl⟩ := owns_form hown2
        clear hown2
        rw [hNN.out] at hsb ⊢
        go_wp2_with (first
          | (refine wpList_append_any _ rfl (.const (.slice none 0 0)) (.tmp 29) _ _ rfl w2.heap.size 5 i0 _ 1 1 Try.underlying23 hi0 hi1 hi2 hi3 rfl (by omega) (.slice none 0 0) 0 [] rfl (World.ownsRow_nil _ _ _ _) _ _ _ rfl (hsb.src Try.underlying23 (byte_one _)) g1 g2 (Nat.le_refl _) ?_; intro v3 w3 hown3 hgrow3 hat3; have hb3' := (Below.refl w2.heap.size w2).grown hgrow3 (Nat.le_refl _) (by simp [Value.ownBlock]); have hz3' := hb3'.size)
          | (refine wpList_append_any _ rfl (.tmp 30) (.tmp 32) _ _ rfl w2.heap.size 5 i0 _ 1 1 Try.underlying23 hi0 hi1 hi2 hi3 rfl (by omega) v3 _ _ rfl (hown3.alloc _) _ 1 [_] rfl (Src.ofSlice _ Try.underlying23 ⟨w3.heap.size, 0, none⟩ 1 1 [_] (by rfl) (World.news_of_block (cs := #[_]) (t := 5) (fr := (0, 0)) (heap_alloc_new w3 _)) (by simp [Value.oneCell'])) g3 g4 (by simp; omega) ?_; intro v4 w4 hown4 hgrow4 hat4))
        have hb4' := (hb3'.alloc hb3'.size (.cells #[.int .u8 (UInt8.toNat by')] 5)).grown hgrow4 (by have := hb3'.size; simp; omega) (fun j hj => (hown3.lt j hj).1)
        have hb4 := below_step hb2 hb4' hz2
        have hz4 := hb4.size
        have hz24 := hb4'.size
        have hs4 := Sl.ofOwns hown4
        rw [List.nil_append, show (Value.int .u8 (UInt8.toNat by') : Value) = Value.int .u8 (UInt8.toNat by') from rfl, show [Value.int .u8 (UInt8.toNat by')] = Lib.byteCells [by'] from rfl, ← Lib.byteCells_append] at hs4
        have hsb4 := hsb.old hb4'
        refine (Read_any v4 _ _ hs4 (by rw [List.length_append, hNN.out, List.length_singleton]; omega)).mono ?_
        rintro e w5 ⟨br, rfl, hr5, hbr, hbr', hb5'⟩
        have hb5 := below_step hb4 hb5' hz4
        have hz5 := hb5.size
        have hsb5 := hsb4.old hb5'
        clear hgrow3 hgrow4 hat3 hat4 hown3 hown4 hb3'
        go_wp2_with fail
        refine (awake_any _).mono ?_
        rintro e w6 ⟨rfl, hb6'⟩
        have hb6 := below_step hb5 hb6' hz5
        have hz6 := hb6.size
        have hsb6 := hsb5.old hb6'
        have hr6 := hr5.old hb6'
        have hbr6 : br < w6.heap.size := by have := hb6'.size; omega
        clear hr5 hsb5 hsb4 hs4 hb4' hb5' hb6' hb2
        go_wp2_with fail
        go_loopw [9] (fun i wx => ∃ j : Nat, j ≤ k ∧ i = .int .i64 j ∧ Rd wx br (bb.drop j ++ [by']) 0 ∧ Keep (· = br) w6 wx) (fun i _ => k - (intOf i).toNat)
        case atStart => exact ⟨0, Nat.zero_le _, rfl, hr6, Keep.refl _ _⟩
        case round =>
          obtain ⟨j, hj, rfl, hrd, hkx⟩ := hrel
          by_cases hlt : j < k
          · obtain ⟨a, x, rfl, hcell, hx⟩ := ((hl0.old hb6).far hl0 (by omega) hkx).elemAt' (i := j) (by omega)
            obtain ⟨a', b', rfl, hcell', hx'⟩ := (hsb6.far hsb (by omega) hkx).byteAt' (i := j) (by rw [hNN.out]; exact hlt)
            have hb : b' = tb x := by
              have e := hx'
              rw [HBB.out, List.getElem?_map, List.getElem?_take, if_pos hlt, hx] at e
              simpa using e.symm
            subst hb
            have hdr : bb.drop j = tb x :: bb.drop (j + 1) := by
              have hjl : j < bb.length := by rw [hNN.out]; exact hlt
              rw [List.drop_eq_getElem_cons hjl]
              congr 1
              rw [List.getElem?_eq_getElem hjl] at hx'
              simpa using hx'
            rw [hdr, List.cons_append] at hrd
            obtain ⟨e1, e2, e3⟩ := bl_cons x (bb.drop (j + 1) ++ [by'])
            have hg : decide ((1 : Int) < ((tb x).toNat : Int)) = false := by cases x <;> simp [tb]
            have hxx : (x != x) = false := by simp
            have E1 := hid e1
            have E2 := hid e2
            have E3 := hid e3
            have hne' : a'.block ≠ br := by have := hsb.lt (i := j) (by rw [hbl.out]; exact hlt); omega
            have hne : a.block ≠ br := by have := hl0.lt (i := j) (by rw [List.length_map]; omega); omega
            clear e1 e2 e3 hdr hx hx'
            have hj40 : (j : Int) < 40 := by omega
            have hjl : j < l.length := by omega
            go_wp2_with fail
            go_region_held3 (fun wy => wy.cell? (a'.add j) = some (.int .u8 ((tb x).toNat : Int)) ∧ wy.cell? (a.add j) = some (.bool x)) (go_keep) ((go_at_call 22; refine (RBool_all br _ 0 _ hrd.drew).mono ?_; rw [E1.out, E2.out, E3.out]; rintro e w7 ⟨rfl, hr7, hk7⟩; have q1 := hk7.cell hcell' hne'; have q2 := hk7.cell hcell hne))
            have hkn := hkx.drew.trans hk7
            clear hk7 hkx hrd q1 q2 hcell hcell'
            go_wp2
            go_roundw
            case rel => exact ⟨j + 1, by omega, by go_num, hr7, hkn⟩
            case measure => simp [intOf]; omega
          · obtain rfl : j = k := by omega
            rw [List.drop_of_length_le (by rw [hNN.out]; exact Nat.le_refl _), List.nil_append] at hrd
            have hbx : Below w.heap.size w _ := hb6.trans (hkx.below hz6 fun i hi => by show ¬ i = br; omega)
            have hzx := hbx.size
            clear hsb hsb6 hb6 hb5 hb4 hr6 hl0 hkx
            have hfin : decide (j < l.length) = false ∨ j < l.length ∧ decide ((j : Int) < 40) = false := by have := HN.out; simp; omega
            obtain ⟨bv, bo, be, bc, e1, e2, e3, e4, e5, e6, e7, e8⟩ := bl_one by'
            have hvv : (bv == bv) = true := by simp
            have hoo : (bo == bo) = true := by simp
            have E := hid (And.intro e1 (And.intro e2 e3))
            clear e1 e2 e3
            rcases e8 with rfl | ⟨rfl, rfl⟩
            all_goals
              go_wp2_with fail
              refine (RBool_all br _ 0 _ hrd).mono ?_
              rw [E.out.1, E.out.2.1, E.out.2.2]
              rintro e w7 ⟨rfl, hr7, hk7⟩
              have hb7 := hbx.trans (hk7.below hzx fun i hi => by show ¬ i = br; omega)
              have hz7 := hb7.size
              clear hk7 hbx hrd
              go_wp2_with fail
              have hb8 := hb7.alloc hz7 (.cells #[.int .u8 0, .int .u8 0, .int .u8 0, .int .u8 0, .int .u8 5] 5)
              have hr8 := hr7.old ((Below.refl w7.heap.size w7).alloc (Nat.le_refl _) (.cells #[.int .u8 0, .int .u8 0, .int .u8 0, .int .u8 0, .int .u8 5] 5))
              have hz8 := hb8.size
              refine (Read_any (.slice (some ⟨w7.heap.size, 0, none⟩) 5 5) [0, 0, 0, 0, 5] _ (Sl.ofBlock (cs := #[.int .u8 0, .int .u8 0, .int .u8 0, .int .u8 0, .int .u8 5]) (heap_alloc_new w7 _)) (by decide)).mono ?_
              rintro e w9 ⟨bt, rfl, ht9, hbt, hbt', hb9'⟩
              have hb9 := below_step hb8 hb9' hz8
              have hz9 := hb9.size
              clear hr7
              go_wp2_with fail
              refine (RText_all bt _ _ _ ht9).mono ?_
              rw [show txV [0, 0, 0, 0, 5] 0 = [] from by decide, show txL [0, 0, 0, 0, 5] 0 = [] from by decide, show txE [0, 0, 0, 0, 5] 0 = 5 from by decide]
              rintro e w10 ⟨rfl, ht10, hk10⟩
              have hb10 := hb9.trans (hk10.below hz9 fun i hi => by show ¬ i = bt; simp at hbt; omega)
              have hr10 := hr8.old (hb9'.trans (hk10.below hb9'.size fun i hi => by show ¬ i = bt; omega))
              go_wp2_with (first
                | (go_at_call_of 24 (Value.pointer (some { block := br, off := 0 })); refine (Err_any br _ _ _ hr10).mono ?_; rintro e wz ⟨rfl, rfl⟩)
                | (go_at_call_of 24 (Value.pointer (some { block := bt, off := 0 })); refine (Err_any bt _ _ _ ht10).mono ?_; rintro e wz ⟨rfl, rfl⟩)
                | (go_at_call 25; refine (Left_any bt _ _ _ ht10).mono ?_; rintro e wz ⟨rfl, rfl⟩))
              go_ret
              exact ⟨rfl, hb10⟩

theorem own : ownKnob Try.prog.godebug = none := by kernel_rfl
theorem laidOut : laidOutB Try.prog = true := by kernel_rfl

set_option maxRecDepth 100000 in
theorem lifted (os : Os) (started : os.Started) (H : Type) (enc : TypeId × Value → H) :
    ReturnsInHanded {} Try.checked os 7 .any (Rows.octetsBoolsSpec.pre6 enc Try.prog Try.f7 Rows.octetsBoolsRow.domain false) (Rows.octetsBoolsSpec.post enc Try.prog Try.f7 false true false false) := by
  refine returnsInHanded_of_change (C := Try.checked) own started (by kernel_rfl) Try.func7
    (ChangeSpec.witness6 (enc := enc) (C := Try.checked) false ⟨#[], #[.slice none 0 0, .int .u8 0], []⟩ 8 (by kernel_rfl) (by kernel_rfl) (by kernel_rfl) (by kernel_rfl)) ?_
  intro W base args ds gs before hval0 hW hcnd _
  have hval : ∀ (j : Nat) t v, Try.f7.params[j]? = some t → args[j]? = some v → Value.okWide Try.prog W .any base t v := hval0
  have hW' := hW
  obtain ⟨p, q, hA0, hV, rfl, hfz, hnd⟩ := hW
  have hA : DataW.TrodAll enc Try.prog W 0 (fun _ => true) true Try.f7.params.toList args.toList ds p := hA0
  rw [Try.params7] at hA hval
  obtain ⟨v0, vs0, d0, ds0, p0, q0, hargs, rfl, rfl, h0, r0⟩ := trodAll_cons hA
  obtain ⟨v1, vs1, d1, ds1, p1, q1, rfl, rfl, rfl, h1, r1⟩ := trodAll_cons r0
  obtain ⟨rfl, rfl, rfl⟩ := trodAll_nil r1
  obtain rfl : args = #[v0, v1] := by cases args; simp_all
  obtain ⟨rfl, rfl⟩ := trodVars_none hV
  have k0 := h0
  have lt0 : ∀ x ∈ p0, x.block < W.heap.size := by obtain ⟨m, hm⟩ := k0; exact DataW.trod_lt m _ _ _ hm
  obtain ⟨x0, l0, c0, rfl⟩ := okWide_slice Try.underlying58 (hval 0 58 v0 rfl rfl)
  obtain ⟨a0, w0⟩ : ∃ a, FactBools W (.slice x0 l0 c0) a := by
    obtain ⟨fuel, hf⟩ := h0
    obtain ⟨v', a, hcs, hs⟩ := open_boolList Try.underlying58 Try.underlying4 (by kernel_rfl) hf
    obtain rfl : v' = .slice x0 l0 c0 := by simpa [Value.cells] using hcs.symm
    exact ⟨a, hs⟩
  have k1 := h1
  have lt1 : ∀ x ∈ p1, x.block < W.heap.size := by obtain ⟨m, hm⟩ := k1; exact DataW.trod_lt m _ _ _ hm
  obtain ⟨a1, rfl, _, _, w1⟩ := open_int Try.underlying5 (hval 1 5 v1 rfl rfl) h1
  clear hA0 hval0
  refine (walk (.slice x0 l0 c0) a0 a1 W w0 w1).mono fun e W' ⟨he, bel⟩ => ?_
  subst he
  exact ⟨_, rfl, _, _, _, [], _, [], hW', trodAll_mk1 (shut_bool Try.underlying4 _), (trodAll_cons_mk (Below.trod laidOut (by kernel_rfl) (of_decide_eq_true (by kernel_rfl)) k0 bel lt0) (trodAll_cons_mk (Below.trod laidOut (by kernel_rfl) (of_decide_eq_true (by kernel_rfl)) k1 bel lt1) trodAll_mk0)), rfl, bel.frame _, fun h => by cases h⟩

theorem over : Rows.octetsBoolsRow.holds Try.pinned (OpenSpec.ofChange Rows.octetsBoolsSpec) :=
  OpenClaim.holds_of_wide 7 Try.f7 rfl rfl rfl rfl rfl rfl rfl ⟨rfl, rfl, rfl, rfl, rfl⟩ rfl rfl rfl rfl rfl (by kernel_rfl) Try.func7 (by kernel_rfl)
    (of_decide_eq_true (by kernel_rfl)) (by unfold Func.isWrapper; first | (rw [if_pos (by decide +kernel)]; kernel_rfl) | (rw [if_neg (by decide +kernel)]; exact ⟨rfl, rfl⟩))
    (fun os started H enc _ => lifted os started H enc)

/-- The statement. -/
theorem proved : Rows.OctetsBoolsSaid :=
  over
#print axioms proved

end Go.Proofs.Ytccfhbdafoamoaa.octetsBools

/-
  RecordTurned: for all bytes a, b, every place and every byte: behind a frame of which a byte of what it bears, or of its sum, is turned, what stands ahead of it is told, and all as the document tells it. Condition: the table of package digest holds what its initialiser lays (the card ties it to the program's text).
-/
import Derived.Test.YtjnhgoedhggocaaDoorRecAw
import Derived.Test.YtjnhgoedhggocaaDoorRefS
import Derived.Test.YtjnhgoedhggocaaDoorHSame
import Derived.Test.YtjnhgoedhggocaaDoorTab
import Derived.Lib.SmallJoins
namespace Go.Proofs.YtjnhgoedhggocaaDoor.recordTurned
open Go.ChangeShapes Go.WideShapes Go.ChangeAt Go.RowKit

/-- A cell of a row of one's own is stored. -/
theorem owns_set {w : World} {base : Nat} {e : TypeId} {g n cap : Nat} {xs : List Value} {u : Value} (h : w.ownsRow base e 1 (.slice (some ⟨g, 0, none⟩) n cap) n xs) (i : Nat) :
    (w.setCell ⟨g, i, none⟩ u).ownsRow base e 1 (.slice (some ⟨g, 0, none⟩) n cap) n (xs.set i u) := by
  refine ⟨by rw [List.length_set]; exact h.1, ?_⟩
  rcases h.2 with ⟨hv, _⟩ | ⟨g', cap', cur, hv, hb, hg, hnc, hcm, hcs, ht⟩
  · cases hv
  · cases hv
    refine .inr ⟨g, cap, cur.setIfInBounds i u, rfl, hb, blk_set hg, hnc, hcm, by simpa using hcs, ?_⟩
    rw [Array.toList_setIfInBounds, List.take_set, ht]

section
set_option maxRecDepth 100000
set_option maxHeartbeats 2000000
theorem walk_big (v0 : Value) (a : List UInt8) (v1 : Value) (b : List UInt8) (at' : Int) (x : Int) (w : World) (h0 : FactBytes w v0 a) (h1 : FactBytes w v1 b) (ht : Tab w) (h : 200 < a.length ∨ 200 < b.length ∨ x = 0) :
    Calls Tryd.prog 6 #[v0, v1, .int .i64 at', .int .u8 x] w fun e w' => e = .returned (.bool true) ∧ Below w.heap.size w w' := by
  obtain ⟨s0, l0⟩ := h0
  obtain ⟨s1, l1⟩ := h1
  obtain ⟨a0, c0, rfl⟩ := s0.form
  obtain ⟨a1, c1, rfl⟩ := s1.form
  rw [Lib.byteCells_length] at s0 s1 ⊢
  rw [Lib.byteCells_length]
  unfold maxLen at l0 l1
  by_cases hb : 200 < a.length
  · have hb' : (200 : Int) < (a.length : Int) := by omega
    clear h hb
    go_enter Tryd.func6, Tryd.ntmps6
    go_wp2_with fail
    refine (awake_any w ht).mono ?_
    rintro e w1 ⟨rfl, hb1⟩
    go_wp2
    go_ret
    exact ⟨rfl, hb1⟩
  · have hb' : ¬ (200 : Int) < (a.length : Int) := by omega
    by_cases hx : 200 < b.length
    · have hx' : (200 : Int) < (b.length : Int) := by omega
      clear h hb hx
      go_enter Tryd.func6, Tryd.ntmps6
      go_wp2_with fail
      refine (awake_any w ht).mono ?_
      rintro e w1 ⟨rfl, hb1⟩
      go_wp2
      go_ret
      exact ⟨rfl, hb1⟩
    · have hx' : ¬ (200 : Int) < (b.length : Int) := by omega
      obtain rfl : x = 0 := by omega
      clear h hb hx
      go_enter Tryd.func6, Tryd.ntmps6
      go_wp2_with fail
      refine (awake_any w ht).mono ?_
      rintro e w1 ⟨rfl, hb1⟩
      go_wp2
      go_ret
      exact ⟨rfl, hb1⟩

theorem walk_at (v0 : Value) (a : List UInt8) (v1 : Value) (b : List UInt8) (at' : Int) (x : Int) (w : World) (s0 : Sl w v0 (Lib.byteCells a)) (s1 : Sl w v1 (Lib.byteCells b)) (ht : Tab w) (ha : a.length ≤ 200) (hb : b.length ≤ 200) (hx : x ≠ 0) (hx0 : 0 ≤ x) (hx1 : x < 256) :
    Calls Tryd.prog 6 #[v0, v1, .int .i64 at', .int .u8 x] w fun e w' => e = .returned (.bool true) ∧ Below w.heap.size w w' := by
  obtain ⟨i0, hi0, hi1, hi2, hi3⟩ := info_parts Tryd.info5
  obtain ⟨a0, c0, rfl⟩ := s0.form
  obtain ⟨a1, c1, rfl⟩ := s1.form
  rw [Lib.byteCells_length] at s0 s1 ⊢
  rw [Lib.byteCells_length]
  have ha' : ¬ (200 : Int) < (a.length : Int) := by omega
  have hb' : ¬ (200 : Int) < (b.length : Int) := by omega
  have hxx : (x == 0) = false := by simpa using hx
  have HFA := hid (frameOf_length a)
  have HFB := hid (frameOf_length b)
  have HCA := hid (show (Lib.byteCells (frameOf a)).length = 8 + a.length by rw [Lib.byteCells_length, frameOf_length])
  have HCB := hid (show (Lib.byteCells (frameOf b)).length = 8 + b.length by rw [Lib.byteCells_length, frameOf_length])
  have hwb : IntKind.i64.wrap ((b.length : Int) + 8) = (b.length : Int) + 8 := IntWalk.i64_in _ (by omega)
  have hwc : IntKind.i64.wrap ((8 : Int) + (b.length : Int) - 4) = (b.length : Int) + 4 := (IntWalk.i64_in _ (by omega)).trans (by omega)
  have hne : ((8 : Int) + (b.length : Int) != (b.length : Int) + 8) = false := by simp; omega
  have hwd : IntKind.u64.wrap ((b.length : Int) + 4) = (b.length : Int) + 4 := by rw [IntKind.wrap_u64]; omega
  obtain ⟨U, hU, hU0⟩ : ∃ U, IntKind.u64.wrap at' = U ∧ 0 ≤ U := ⟨_, rfl, by rw [IntKind.wrap_u64]; omega⟩
  obtain ⟨r, hr, hrl⟩ : ∃ r : Nat, U.tmod ((b.length : Int) + 4) = (r : Int) ∧ r < b.length + 4 := by
    have h1 := Int.emod_nonneg U (b := (b.length : Int) + 4) (by omega)
    have h2 := Int.emod_lt_of_pos U (b := (b.length : Int) + 4) (by omega)
    refine ⟨(U % ((b.length : Int) + 4)).toNat, ?_, by omega⟩
    rw [Int.tmod_eq_emod_of_nonneg hU0]
    omega
  obtain ⟨k, hk⟩ : ∃ k : Nat, k = 4 + r := ⟨_, rfl⟩
  have hwe : IntKind.i64.wrap (r : Int) = (r : Int) := IntWalk.i64_in _ (by omega)
  have hwf : IntKind.i64.wrap (4 + (r : Int)) = (k : Int) := (IntWalk.i64_in _ (by omega)).trans (by omega)
  have hk0 : (0 : Int) ≤ (k : Int) := Int.natCast_nonneg _
  have hk1 : (k : Int) < 8 + (b.length : Int) := by omega
  have hkn : k < 8 + b.length := by omega
  have hm0 : ((b.length : Int) + 4 == 0) = false := by simp; omega
  have HK := hid hk
  have HU := hid hU0
  clear hx hk hU0
  go_enter Tryd.func6, Tryd.ntmps6
  go_wp2_with fail
  refine (PFrame_any _ a (by omega) w s0 ht).mono ?_
  rintro e w1 ⟨x1, rfl, hx1', hb1⟩
  have hz1 := hb1.size
  obtain ⟨ax, cx, rfl⟩ := owns_form hx1'
  have sx1 := Sl.ofOwns hx1'
  clear hx1'
  go_wp2_with fail
  refine (PFrame_any _ b (by omega) w1 (Sl.old s1 hb1) (ht.old hb1 ht.pos)).mono ?_
  rintro e w2 ⟨y, rfl, hy, hb2⟩
  have hbw2 := below_step hb1 hb2 hz1
  have hz2 := hb2.size
  have sx2 := Sl.old sx1 hb2
  obtain ⟨gy, cy, rfl⟩ := Joins.ownsRow_form hy (by omega)
  obtain ⟨d, hd⟩ : ∃ d, (frameOf b)[k]? = some d := ⟨_, List.getElem?_eq_getElem (by rw [HFB.out]; omega)⟩
  have hcell : w2.cell? ⟨gy, k, none⟩ = some (.int .u8 (d.toNat : Int)) := by
    have := hy.cells rfl (j := k) (u := .int .u8 (d.toNat : Int)) (by simp [Lib.byteCells, hd])
    rw [Addr.add_lit, Nat.zero_add] at this
    exact this
  have hfree : w2.frozen? ⟨gy, k, none⟩ = false := hy.frozenAt k
  obtain ⟨z, hz⟩ : ∃ z : UInt8, bits .xor .u8 (d.toNat : Int) x = (z.toNat : Int) := by
    obtain ⟨n, rfl⟩ := Int.eq_ofNat_of_zero_le hx0
    have hd8 := d.toNat_lt
    have hx8 : d.toNat ^^^ n < 2 ^ 8 := Nat.xor_lt_two_pow hd8 (by omega)
    refine ⟨UInt8.ofNat (d.toNat ^^^ n), ?_⟩
    rw [u8_xor_nat _ _ (by omega) (by omega), UInt8.toNat_ofNat', Nat.mod_eq_of_lt hx8]
  obtain ⟨Y, hY⟩ : ∃ Y, Y = (frameOf b).set k z := ⟨_, rfl⟩
  have hYl : Y.length = 8 + b.length := by rw [hY, List.length_set, HFB.out]
  have HYC := hid (show (Lib.byteCells Y).length = 8 + b.length by rw [Lib.byteCells_length, hYl])
  have hgy := hy.lt gy rfl
  have hkp : Keep (· = gy) w2 (w2.setCell ⟨gy, k, none⟩ (.int .u8 (z.toNat : Int))) := (Keep.refl (· = gy) w2).setCell rfl _
  have sy3 : Sl (w2.setCell ⟨gy, k, none⟩ (.int .u8 (z.toNat : Int))) (.slice (some ⟨gy, 0, none⟩) (8 + b.length) cy) (Lib.byteCells Y) := by
    have := Sl.ofOwns (owns_set hy k (u := .int .u8 (z.toNat : Int)))
    rw [hY]
    simpa [Lib.byteCells, List.map_set] using this
  have sx3 := sx2.far sx1 hgy.1 hkp
  have hbw3 : Below w.heap.size w (w2.setCell ⟨gy, k, none⟩ (.int .u8 (z.toNat : Int))) := hbw2.setCell (by show w.heap.size ≤ gy; omega) _
  have HY := hid hY
  have HYL := hid hYl
  obtain ⟨w3, hw3⟩ : ∃ w3, w2.setCell ⟨gy, k, none⟩ (.int .u8 (z.toNat : Int)) = w3 := ⟨_, rfl⟩
  rw [hw3] at sy3 sx3 hbw3
  have hz3 := hbw3.size
  have g1 : 0 + (Lib.byteCells (frameOf a)).length ≤ maxLen := by rw [HCA.out]; unfold maxLen; omega
  have g2 : (0 + (Lib.byteCells (frameOf a)).length) * 1 ≤ 140737488355328 := by rw [HCA.out]; omega
  have g3 : 8 + a.length + (Lib.byteCells Y).length ≤ maxLen := by rw [HYC.out]; unfold maxLen; omega
  have g4 : (8 + a.length + (Lib.byteCells Y).length) * 1 ≤ 140737488355328 := by rw [HYC.out]; omega
  clear hd hy sx2 sx1 hkp hY hYl hgy
  go_wp2_with (first
    | (refine wpList_append_any _ rfl (.const (.slice none 0 0)) (.tmp 56) _ _ rfl w3.heap.size 5 i0 _ 1 1 Tryd.underlying22 hi0 hi1 hi2 hi3 rfl (by omega) (.slice none 0 0) 0 [] rfl (World.ownsRow_nil _ _ _ _) _ _ _ rfl (sx3.src Tryd.underlying22 (byte_one _)) g1 g2 (Nat.le_refl _) ?_
       intro vw4 w4 hownw4 hgroww4 hatw4
       have hw4 := (Below.refl w3.heap.size w3).grown hgroww4 (Nat.le_refl _) (by simp [Value.ownBlock])
       rw [Nat.zero_add, List.nil_append, HCA.out] at hownw4
       obtain ⟨aw4, cw4, rfl⟩ := owns_form hownw4
       have zw4 := hw4.size
       have syw4 := Sl.old sy3 hw4
       clear hgroww4 hatw4)
    | (refine wpList_append_any _ rfl (.tmp 57) (.tmp 58) _ _ rfl w3.heap.size 5 i0 _ 1 1 Tryd.underlying22 hi0 hi1 hi2 hi3 rfl (by omega) (Value.slice aw4 (8 + a.length) cw4) _ _ rfl hownw4 _ _ _ rfl (syw4.src Tryd.underlying22 (byte_one _)) g3 g4 zw4 ?_
       intro vw5 w5 hownw5 hgroww5 hatw5
       have hw5 : Below w3.heap.size w3 w5 := hw4.grown hgroww5 zw4 (fun j hj => (hownw4.lt j hj).1)
       have sw5 : Sl w5 vw5 (Lib.byteCells (frameOf a ++ Y)) := by
         rw [Lib.byteCells_append]
         exact Sl.ofOwns hownw5
       clear hownw5 hgroww5 hatw5 hownw4 syw4))
  have hbw5 := below_step hbw3 hw5 hz3
  have hz5 := hbw5.size
  have hzz5 := hw5.size
  obtain ⟨ST, hST⟩ : ∃ ST, scanOf Y = ST := ⟨_, rfl⟩
  have hsc : scanOf (frameOf a ++ Y) = (a :: ST.1, 8 + a.length + ST.2) := by rw [scanOf_frame a Y (by omega), hST]
  have hcn : (a :: ST.1).length ≤ 1000 := by
    have := scanOf_count (frameOf a ++ Y)
    rw [hsc, List.length_append, HFA.out, HYL.out] at this
    simp only at this
    omega
  obtain ⟨SC, hSC⟩ : ∃ SC, scanOf (frameOf a ++ Y) = SC := ⟨_, rfl⟩
  rw [hSC] at hsc
  have HS1 := hid (show SC.1 = a :: ST.1 by rw [hsc])
  have HSC := hid hSC
  have hcs : SC.1.length ≤ maxLen := by rw [HS1.out]; unfold maxLen; omega
  have hlen5 : (frameOf a ++ Y).length ≤ 1000 := by rw [List.length_append, HFA.out, HYL.out]; omega
  clear hST hsc hcell hfree hw3 hSC hcn
  refine (PScan_any vw5 _ (by omega) w5 sw5 (ht.old hbw5 ht.pos)).mono ?_
  rw [HSC.out]
  rintro e w6 ⟨l, rfl, hl, hb6⟩
  have hb36 : Below w3.heap.size w3 w6 := hw5.trans (hb6.mono hzz5)
  have sx6 := Sl.old sx3 hb36
  have sy6 := Sl.old sy3 hb36
  have hbw6 := below_step hbw5 hb6 hz5
  have hz6 := hbw6.size
  clear sw5 hw5
  go_wp2_with (first
    | (refine wpList_append_any _ rfl (.const (.slice none 0 0)) (.tmp 64) _ _ rfl w6.heap.size 5 i0 _ 1 1 Tryd.underlying22 hi0 hi1 hi2 hi3 rfl (by omega) (.slice none 0 0) 0 [] rfl (World.ownsRow_nil _ _ _ _) _ _ _ rfl (sx6.src Tryd.underlying22 (byte_one _)) g1 g2 (Nat.le_refl _) ?_
       intro vw7 w7 hownw7 hgroww7 hatw7
       have hw7 := (Below.refl w6.heap.size w6).grown hgroww7 (Nat.le_refl _) (by simp [Value.ownBlock])
       rw [Nat.zero_add, List.nil_append, HCA.out] at hownw7
       obtain ⟨aw7, cw7, rfl⟩ := owns_form hownw7
       have zw7 := hw7.size
       have syw7 := Sl.old sy6 hw7
       clear hgroww7 hatw7)
    | (refine wpList_append_any _ rfl (.tmp 65) (.tmp 66) _ _ rfl w6.heap.size 5 i0 _ 1 1 Tryd.underlying22 hi0 hi1 hi2 hi3 rfl (by omega) (Value.slice aw7 (8 + a.length) cw7) _ _ rfl hownw7 _ _ _ rfl (syw7.src Tryd.underlying22 (byte_one _)) g3 g4 zw7 ?_
       intro vw8 w8 hownw8 hgroww8 hatw8
       have hw8 : Below w6.heap.size w6 w8 := hw7.grown hgroww8 zw7 (fun j hj => (hownw7.lt j hj).1)
       have sw8 : Sl w8 vw8 (Lib.byteCells (frameOf a ++ Y)) := by
         rw [Lib.byteCells_append]
         exact Sl.ofOwns hownw8
       clear hownw8 hgroww8 hatw8 hownw7 syw7))
  have hbw8 := below_step hbw6 hw8 hz6
  have hz8 := hbw8.size
  have hl8 := hl.old hw8
  clear hl
  refine (RScan_any vw8 _ (by omega) w8 sw8).mono ?_
  rw [HSC.out]
  rintro e w9 ⟨m, rfl, hm, hb9⟩
  have hl9 := hl8.old hb9
  have hbw9 := below_step hbw8 hb9 hz8
  have hz9 := hbw9.size
  go_wp2_with fail
  refine (awake_any w9 (ht.old hbw9 ht.pos)).mono ?_
  rintro e w10 ⟨rfl, hb10⟩
  have hl10 := hl9.old hb10
  have hm10 := hm.old hb10
  have hbw10 := below_step hbw9 hb10 hz9
  have hee : (SC.1 == SC.1) = true := by simp
  clear hl8 hl9 hm sw8 hw8 sx6 sy6 sx3 sy3
  go_wp2_with fail
  refine (HSame_any _ _ _ _ _ hl10.slB hm10.slB hcs).mono ?_
  rw [hee]
  rintro e w11 ⟨rfl, q, rfl⟩
  have hd : Below w10.heap.size w10 (w10.drewN q) := ⟨rfl, rfl, rfl, Nat.le_refl _, fun _ _ => rfl⟩
  have hbw11 := below_step hbw10 hd hbw10.size
  have hl11 := hl10.old hd
  have hp1 : 1 ≤ SC.1.length := by rw [HS1.out]; simp
  obtain ⟨al, cl, rfl⟩ := hl11.form
  obtain ⟨p, bx, kx, q1, rfl, hc1, hq1, hs1⟩ := hl11.slB.at (i := 0) (by omega)
  obtain rfl : a = q1 := by
    rw [HS1.out] at hq1
    simpa using hq1
  rw [show p.add 0 = p from rfl] at hc1
  have hp0 : 0 < SC.1.length := hp1
  have hp1' : (1 : Int) ≤ (SC.1.length : Int) := by omega
  have hp0' : (0 : Int) < (SC.1.length : Int) := by omega
  have s011 := Sl.old s0 hbw11
  obtain ⟨N, hN⟩ : ∃ N, N = SC.1.length := ⟨_, rfl⟩
  rw [← hN] at hp0 hp1 hp1' hp0' ⊢
  clear hq1 hl10 hm10 hl11 hee hcs hN
  go_wp2_with fail
  refine (HBytes_any _ _ _ _ _ hs1 s011).mono ?_
  rw [show (a == a) = true by simp]
  rintro e w12 ⟨rfl, rfl⟩
  go_wp2
  go_ret
  exact ⟨rfl, hbw11⟩
end

theorem walk (v0 : Value) (a : List UInt8) (v1 : Value) (b : List UInt8) (at' : Int) (x : Int) (w : World) (h0 : FactBytes w v0 a) (h1 : FactBytes w v1 b) (_h2 : (Lit.int .i64 at').wf = true) (h3 : (Lit.int .u8 x).wf = true) (ht : Tab w) :
    Calls Tryd.prog 6 #[v0, v1, .int .i64 at', .int .u8 x] w fun e w' => e = .returned (.bool true) ∧ Below w.heap.size w w' := by
  have hx := bounds_u8 h3
  by_cases h : a.length ≤ 200 ∧ b.length ≤ 200 ∧ x ≠ 0
  · exact walk_at v0 a v1 b at' x w h0.1 h1.1 ht h.1 h.2.1 h.2.2 hx.1 (by omega)
  · exact walk_big v0 a v1 b at' x w h0 h1 ht (by omega)

theorem own : ownKnob Tryd.prog.godebug = none := by kernel_rfl
theorem laidOut : laidOutB Tryd.prog = true := by kernel_rfl
theorem laid_met (os : Os) : laidMet Tryd.prog Rows.recordTurnedRow.laid ((laidWorld os).forCall (fun _ _ => 0) ⟨#[], #[.slice none 0 0, .slice none 0 0, .int .i64 0, .int .u8 0], []⟩).memory :=
  laidMet_of_run' 8 (by kernel_rfl) (by kernel_rfl)
theorem reads (os : Os) {H : Type} (enc : TypeId × Value → H) : ∃ places, DataW.whole enc Tryd.prog ((laidWorld os).forCall (fun _ _ => 0) ⟨#[], #[.slice none 0 0, .slice none 0 0, .int .i64 0, .int .u8 0], []⟩).memory Tryd.f6.params.toList Rows.recordTurnedSpec.vars false (#[.slice none 0 0, .slice none 0 0, .int .i64 0, .int .u8 0] : Array Value).toList 8 = some ([.nil, .nil, .lit (.int .i64 0), .lit (.int .u8 0)], [], places) :=
  ⟨[], by kernel_rfl⟩

theorem contract (H : Type) (enc : TypeId × Value → H) (W : World) (base : Nat) (args : Array Value) (ds gs : List (DataW H)) (before : List MemPlace)
    (hval : ∀ (j : Nat) t v, Tryd.f6.params[j]? = some t → args[j]? = some v → Value.okWide Tryd.prog W .any base t v)
    (hW : DataW.Whole enc Tryd.prog Tryd.f6.params.toList Rows.recordTurnedSpec.vars false W args.toList ds gs before) (hL : laidMetH Tryd.prog Rows.recordTurnedRow.laid W) :
    Calls Tryd.prog 6 args W fun e W' => ∃ v, e = .returned v ∧ Rows.recordTurnedSpec.post enc Tryd.prog Tryd.f6 false true false false W args v W' := by
  have hW' := hW
  obtain ⟨p, q, hA0, hV, rfl, hfz, hnd⟩ := hW
  have hA : DataW.TrodAll enc Tryd.prog W 0 (fun _ => true) true Tryd.f6.params.toList args.toList ds p := hA0
  rw [Tryd.params6] at hA hval
  obtain ⟨v0, vs0, d0, ds0, p0, q0, hargs, rfl, rfl, h0, r0⟩ := trodAll_cons hA
  obtain ⟨v1, vs1, d1, ds1, p1, q1, rfl, rfl, rfl, h1, r1⟩ := trodAll_cons r0
  obtain ⟨v2, vs2, d2, ds2, p2, q2, rfl, rfl, rfl, h2, r2⟩ := trodAll_cons r1
  obtain ⟨v3, vs3, d3, ds3, p3, q3, rfl, rfl, rfl, h3, r3⟩ := trodAll_cons r2
  obtain ⟨rfl, rfl, rfl⟩ := trodAll_nil r3
  obtain rfl : args = #[v0, v1, v2, v3] := by cases args; simp_all
  obtain ⟨rfl, rfl⟩ := trodVars_none hV
  have k0 := h0
  have lt0 : ∀ x ∈ p0, x.block < W.heap.size := by obtain ⟨m, hm⟩ := k0; exact DataW.trod_lt m _ _ _ hm
  obtain ⟨x0, l0, c0, rfl⟩ := okWide_slice Tryd.underlying22 (hval 0 22 v0 rfl rfl)
  obtain ⟨a0, w0⟩ : ∃ a, FactBytes W (.slice x0 l0 c0) a := by
    obtain ⟨fuel, hf⟩ := h0
    obtain ⟨v', a, hcs, hs⟩ := open_bytes Tryd.underlying22 Tryd.underlying5 (by kernel_rfl) hf
    obtain rfl : v' = .slice x0 l0 c0 := by simpa [Value.cells] using hcs.symm
    exact ⟨a, hs⟩
  have k1 := h1
  have lt1 : ∀ x ∈ p1, x.block < W.heap.size := by obtain ⟨m, hm⟩ := k1; exact DataW.trod_lt m _ _ _ hm
  obtain ⟨x1, l1, c1, rfl⟩ := okWide_slice Tryd.underlying22 (hval 1 22 v1 rfl rfl)
  obtain ⟨a1, w1⟩ : ∃ a, FactBytes W (.slice x1 l1 c1) a := by
    obtain ⟨fuel, hf⟩ := h1
    obtain ⟨v', a, hcs, hs⟩ := open_bytes Tryd.underlying22 Tryd.underlying5 (by kernel_rfl) hf
    obtain rfl : v' = .slice x1 l1 c1 := by simpa [Value.cells] using hcs.symm
    exact ⟨a, hs⟩
  have k2 := h2
  have lt2 : ∀ x ∈ p2, x.block < W.heap.size := by obtain ⟨m, hm⟩ := k2; exact DataW.trod_lt m _ _ _ hm
  obtain ⟨a2, rfl, _, _, w2⟩ := open_int Tryd.underlying3 (hval 2 3 v2 rfl rfl) h2
  have k3 := h3
  have lt3 : ∀ x ∈ p3, x.block < W.heap.size := by obtain ⟨m, hm⟩ := k3; exact DataW.trod_lt m _ _ _ hm
  obtain ⟨a3, rfl, _, _, w3⟩ := open_int Tryd.underlying5 (hval 3 5 v3 rfl rfl) h3
  clear hA0
  refine (walk (.slice x0 l0 c0) a0 (.slice x1 l1 c1) a1 a2 a3 W w0 w1 w2 w3 (Tab_of hL)).mono fun e W' ⟨he, bel⟩ => ?_
  subst he
  exact ⟨_, rfl, _, _, _, [], _, [], hW', trodAll_mk1 (shut_bool Tryd.underlying4 _), (trodAll_cons_mk (Below.trod laidOut (by kernel_rfl) (of_decide_eq_true (by kernel_rfl)) k0 bel lt0) (trodAll_cons_mk (Below.trod laidOut (by kernel_rfl) (of_decide_eq_true (by kernel_rfl)) k1 bel lt1) (trodAll_cons_mk (Below.trod laidOut (by kernel_rfl) (of_decide_eq_true (by kernel_rfl)) k2 bel lt2) (trodAll_cons_mk (Below.trod laidOut (by kernel_rfl) (of_decide_eq_true (by kernel_rfl)) k3 bel lt3) trodAll_mk0)))), rfl, bel.frame _, fun h => by cases h⟩

set_option maxRecDepth 100000 in
theorem lifted (os : Os) (started : os.Started) (H : Type) (enc : TypeId × Value → H) (F : Stop.Interp) :
    ReturnsInHanded {} Tryd.checked os 6 .any ((OpenSpec.ofChange Rows.recordTurnedSpec).preRow enc Tryd.prog Tryd.f6 Rows.recordTurnedRow.domain false Rows.recordTurnedRow.laid) (((OpenSpec.ofChange Rows.recordTurnedSpec).at F).post enc Tryd.prog Tryd.f6 false true false false) := by
  obtain ⟨places, hx⟩ := reads os enc
  refine returnsInHanded_of_row (C := Tryd.checked) (s := OpenSpec.ofChange Rows.recordTurnedSpec) own started (by kernel_rfl) Tryd.func6
    (witness_row_at (enc := enc) (C := Tryd.checked) false (laidWorld os) #[.slice none 0 0, .slice none 0 0, .int .i64 0, .int .u8 0] rfl (by kernel_rfl) (by kernel_rfl) (by kernel_rfl)
      (OpenSpec.preRow_of_cond 8 hx (by kernel_rfl) (fun k hk => by cases hk) (by kernel_rfl) (laid_met os))) ?_
  intro W base args ds gs before hval hW _ _ _ hL _ _
  exact contract H enc W base args ds gs before hval hW hL

theorem said : Rows.RecordTurnedSaid :=
  OpenClaim.holds_of_cond 6 Tryd.f6 rfl rfl rfl rfl rfl rfl rfl ⟨rfl, rfl, rfl, rfl, rfl⟩ rfl rfl rfl rfl rfl (by kernel_rfl) Tryd.func6 (by kernel_rfl)
    (of_decide_eq_true (by kernel_rfl)) (by unfold Func.isWrapper; first | (rw [if_pos (by decide +kernel)]; kernel_rfl) | (rw [if_neg (by decide +kernel)]; exact ⟨rfl, rfl⟩))
    (fun os started H enc _ F => by rw [OpenClaim.pre_eq_preRow]; exact lifted os started H enc F)

theorem plain (f : FuncId) (fn : Func) (hf : Tryd.pinned.checked.prog.funcNamed "rick/ricklaw04.RecordTurned" = some f) (hfn : Tryd.pinned.checked.prog.funcs[f]? = some fn) :
    false = Tryd.pinned.checked.prog.looks [] ∧ ∀ (j : Nat) t, fn.params[j]? = some t → Tryd.pinned.checked.prog.wantsStandIn t = false := by
  obtain rfl : f = 6 := Option.some.inj ((show Tryd.prog.funcNamed "rick/ricklaw04.RecordTurned" = some 6 by kernel_rfl).symm.trans hf) |>.symm
  obtain rfl : fn = Tryd.f6 := (Option.some.inj (Tryd.func6.symm.trans hfn)).symm
  refine ⟨by kernel_rfl, fun j t ht => ?_⟩
  rw [Tryd.params6] at ht
  have hm := Array.mem_of_getElem? ht
  simp only [List.mem_toArray, List.mem_cons, List.not_mem_nil, or_false] at hm
  rcases hm with rfl | rfl | rfl | rfl
  · exact (show Tryd.prog.wantsStandIn 22 = false by kernel_rfl)
  · exact (show Tryd.prog.wantsStandIn 22 = false by kernel_rfl)
  · exact (show Tryd.prog.wantsStandIn 3 = false by kernel_rfl)
  · exact (show Tryd.prog.wantsStandIn 5 = false by kernel_rfl)

/-- The statement: its tied card. -/
theorem proved : Rows.RecordTurnedCardSaid :=
  Claim7.holds_tied_plain_at .later [] _ _ _ _ said (fun _ h => by cases h) (by kernel_rfl) (fun _ h => by cases h) recordTurned_row_tie rfl ⟨rfl, rfl⟩ (by kernel_rfl) rfl plain (by kernel_rfl)
#print axioms proved
end Go.Proofs.YtjnhgoedhggocaaDoor.recordTurned

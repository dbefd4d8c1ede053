/-
  TmDe, part 35.
-/
import Derived.Test.YtbnafihigoekeaaGreatDoorZe2
import Derived.Test.YtbnafihigoekeaaGreatDoorZe34
import Derived.Test.YtbnafihigoekeaaGreatDoorZe3
import Derived.Shelf.Bits.Mul64
import Derived.Laws.CopyRow
import Derived.Test.YtbnafihigoekeaaGreatDoorZe1
import Derived.Deep.RegionLaw
import Derived.Test.YtbnafihigoekeaaGreatDoorZe31
import Derived.Test.YtbnafihigoekeaaGreatDoorZe25
import Derived.Test.YtbnafihigoekeaaGreatDoorZe33
namespace Go.Proofs.YtbnafihigoekeaaGreatDoor
open Go.RowKit
def Tryz.lays212_ren : Go.Shelf.Ren := ⟨fun | 212 => 161 | 263 => 180 | 264 => 181 | n => n, fun | 46 => 126 | 51 => 110 | 53 => 147 | 146 => 237 | 148 => 239 | n => n, fun | n => n⟩
theorem Tryz.lays212 : Go.Proofs.Lays.n212 Tryz.prog Tryz.lays212_ren := {
  mixed := by kernel_rfl
  f212 := Tryz.func161.trans (congrArg some (by kernel_rfl))
  f263 := Tryz.func180.trans (congrArg some (by kernel_rfl))
  f264 := Tryz.func181.trans (congrArg some (by kernel_rfl))
  t46 := Tryz.underlying126
  a46 := Tryz.isAgg126
  z46 := Tryz.sizeOf126
  v46 := Tryz.zeroValue126
  t51 := Tryz.underlying110
  a51 := Tryz.isAgg110
  z51 := Tryz.sizeOf110
  v51 := Tryz.zeroValue110
  t53 := Tryz.underlying147
  a53 := Tryz.isAgg147
  z53 := Tryz.sizeOf147
  v53 := Tryz.zeroValue147
  t146 := Tryz.underlying237
  a146 := Tryz.isAgg237
  z146 := Tryz.sizeOf237
  v146 := Tryz.zeroValue237
  t148 := Tryz.underlying239
  a148 := Tryz.isAgg239
  z148 := Tryz.sizeOf239
  v148 := Tryz.zeroValue239 }
theorem Tryz.infoIntP : (Tryz.prog.info? 3).map (fun i => (i.zero, i.size, i.bytes)) = some (some (.int .i64 0), 1, 8) := by kernel_rfl
def negs (k n : Nat) : List Value := List.replicate k (.int .i64 (-1)) ++ List.replicate (n - k) (.int .i64 0)
theorem negs_row (n : Nat) : (negs n n).toArray = iRow (List.replicate n (-1)) := by simp [negs, iRow]
theorem negs_length {k n : Nat} (h : k ≤ n) : (negs k n).length = n := by simp [negs]; omega
theorem negs_at {k n j : Nat} (h : j < k) : (negs k n)[j]? = some (.int .i64 (-1)) := by
  rw [negs, List.getElem?_append_left (by simpa using h)]
  simp [h]
theorem negs_more {k n m : Nat} (h : k + m ≤ n) : (negs k n).take k ++ List.replicate m (.int .i64 (-1)) ++ (negs k n).drop (k + m) = negs (k + m) n := by
  have e1 : (negs k n).take k = List.replicate k (.int .i64 (-1)) := by rw [negs, List.take_left' (by simp)]
  have e2 : (negs k n).drop (k + m) = List.replicate (n - (k + m)) (.int .i64 0) := by
    rw [negs, List.drop_append, List.drop_of_length_le (by simp), List.nil_append, List.length_replicate, List.drop_replicate]
    congr 1
    omega
  rw [e1, e2, negs, List.replicate_append_replicate]
section
set_option maxRecDepth 100000
set_option maxHeartbeats 4000000
theorem run_ints_from (g k n : Nat) (hk : k < n) (wx : World) : (Instr.slice 75 (.slice (some ⟨g, 0, none⟩) n n) (some (.int .i64 (k : Int))) none none).run Tryz.prog wx = .ok (.slice (some ⟨g, k, none⟩) (n - k) (n - k)) wx := by
  obtain ⟨i0, hi0, hz0, hz1, hz2⟩ := info_parts Tryz.infoIntP
  have h2 : (k : Int) ≤ n := by omega
  have h3 : ¬ n = k := by omega
  have ht := Tryz.underlying75
  simp [Instr.slice, run_underlying ht, Instr.sliceBounds, run_sliceBound, sizeOf, typeInfo, hi0, hz1, h2, h3, Addr.add]
  exact fun h => h.symm
theorem run_ints_to (g k n : Nat) (hk : k ≤ n) (wx : World) : (Instr.slice 75 (.slice (some ⟨g, 0, none⟩) n n) none (some (.int .i64 (k : Int))) none).run Tryz.prog wx = .ok (.slice (some ⟨g, 0, none⟩) k n) wx := by
  obtain ⟨i0, hi0, hz0, hz1, hz2⟩ := info_parts Tryz.infoIntP
  have h2 : (k : Int) ≤ n := by omega
  have ht := Tryz.underlying75
  simp [Instr.slice, run_underlying ht, Instr.sliceBounds, run_sliceBound, sizeOf, typeInfo, hi0, h2]
  intro _
  simp [Addr.add]
theorem DMul_any (n : Nat) (w : World) (hn : n ≤ 1000000) : Calls Tryz.prog 161 #[.int .u64 1, .int .u64 (n : Nat)] w fun e w' => e = .returned (.tuple #[.int .u64 0, .int .u64 (n : Nat)]) ∧ w = w' := by
  refine (show Calls Tryz.prog 161 #[.int .u64 ((1 : Nat) : Int), .int .u64 (n : Nat)] w _ from Any.bits_Mul Tryz.lays212 1 n (by omega) (by omega) w).mono ?_
  rintro e w' ⟨rfl, rfl⟩
  refine ⟨?_, rfl⟩
  rw [show 1 * n / 18446744073709551616 = 0 by omega, show 1 * n % 18446744073709551616 = n by omega]
  rfl
theorem DRepeat_any (gx n : Nat) (w : World) (hx : w.cell? ⟨gx, 0, none⟩ = some (.int .i64 (-1))) (hn : n ≤ 1000000) :
    Calls Tryz.prog 138 #[.slice (some ⟨gx, 0, none⟩) 1 1, .int .i64 (n : Nat)] w fun e w' => ∃ g, e = .returned (.slice (some ⟨g, 0, none⟩) n n) ∧ w.heap.size ≤ g ∧
      w'.heap[g]? = some (.cells (iRow (List.replicate n (-1))) 3 (0, 0)) ∧ Below w.heap.size w w' := by
  obtain ⟨i0, hi0, hi1, hi2, hi3⟩ := info_parts Tryz.infoIntP
  have hgx := World.block_lt_of_cell? w _ hx
  simp only at hgx
  have mk : ∀ wx : World, (Instr.makeSlice 75 (.int .i64 (n : Int)) (.int .i64 (n : Int))).run Tryz.prog wx = .ok (.slice (some ⟨wx.heap.size, 0, none⟩) n n) (wx.alloc (.cells (negs 0 n).toArray 3)) := fun wx => by
    rw [negs, List.replicate_zero, List.nil_append, Nat.sub_zero]
    exact run_make1 (P := Tryz.prog) wx 75 3 i0 (.int .i64 0) Tryz.underlying75 hi0 hi1 hi2 rfl n (by rw [hi3]; omega) (by omega)
  have hsz : (Tryz.prog.info? 3).map (·.size) = some 1 := by rw [hi0, Option.map_some, hi2]
  have HM := hid fun (wx : World) => DMul_any n wx hn
  obtain ⟨W, hW⟩ : ∃ W, w.alloc (.cells (negs 0 n).toArray 3) = W := ⟨_, rfl⟩
  have hbW : Below w.heap.size w W := by rw [← hW]; exact (Below.refl _ w).alloc (Nat.le_refl _) _
  have hgW : W.heap[w.heap.size]? = some (.cells (negs 0 n).toArray 3 (0, 0)) := by rw [← hW]; exact World.alloc_heap_new w _
  have hxW : W.cell? ⟨gx, 0, none⟩ = some (.int .i64 (-1)) := (hbW.cell (p := ⟨gx, 0, none⟩) hgx).trans hx
  have mkw := mk w
  rw [hW] at mkw
  obtain ⟨g, hg⟩ : ∃ g, w.heap.size = g := ⟨_, rfl⟩
  have HG := hid hg
  rw [hg] at hgW mkw
  have n0 : (0 : Int) ≤ (n : Int) := Int.natCast_nonneg _
  have nu : IntKind.u64.wrap (n : Int) = (n : Int) := by rw [IntKind.wrap_u64]; omega
  have ni : IntKind.i64.wrap (n : Int) = (n : Int) := IntWalk.i64_in _ (by omega)
  have nm : ¬ (9223372036854775807 : Int) < (n : Int) := by omega
  have HBW := hid hbW
  have HNN := hid hn
  by_cases h0 : n = 0
  · subst h0
    have cp := run_copy_none (P := Tryz.prog) W 75 75 3 3 (some ⟨g, 0, none⟩) (some ⟨gx, 0, none⟩) 0 0 1 1 Tryz.underlying75 hsz rfl
    have mk0 : (Instr.makeSlice 75 (.int .i64 0) (.int .i64 0)).run Tryz.prog w = .ok (.slice (some ⟨g, 0, none⟩) 0 0) W := mkw
    have hm0 : ∀ wx, Calls Tryz.prog 161 #[.int .u64 1, .int .u64 0] wx fun e w' => e = .returned (.tuple #[.int .u64 0, .int .u64 0]) ∧ wx = w' := fun wx => HM.out wx
    have HM0 := hid hm0
    clear mk mkw hW hg hm0 hx hxW hbW nu ni nm n0
    show Calls _ _ #[.slice (some ⟨gx, 0, none⟩) 1 1, .int .i64 0] _ _
    go_enter Tryz.func138, Tryz.ntmps138
    go_wp2_with (go_at_call 161; refine (HM0.out _).mono ?_; rintro e w1 ⟨rfl, rfl⟩)
    refine wp_loop_rounds 1 ?_
    rw [rounds_succ]
    go_wp2_with fail
    go_ret
    exact ⟨g, rfl, by rw [HG.out]; exact Nat.le_refl _, by rw [← negs_row]; exact hgW, HBW.out⟩
  · have cp := run_copy_row (P := Tryz.prog) W 75 75 3 3 g 0 n n ⟨gx, 0, none⟩ 1 1 (negs 0 n).toArray 3 [.int .i64 (-1)] Tryz.underlying75 hsz hgW (Nat.min_eq_left (show 1 ≤ n by omega)).symm (fun j v h => by
      cases j with
      | zero => cases h; exact hxW
      | succ j => simp at h) (by simp [negs]; omega) (fun v h => by rw [List.mem_singleton.1 h]; rfl)
    have hN1 : ((negs 0 n).toArray.toList.take 0 ++ [Value.int .i64 (-1)] ++ (negs 0 n).toArray.toList.drop (0 + [Value.int .i64 (-1)].length)).toArray = (negs 1 n).toArray := by
      congr 1
      exact negs_more (k := 0) (m := 1) (by omega)
    rw [hN1] at cp
    have hgW1 : (W.setRow g (negs 1 n).toArray).heap[g]? = some (.cells (negs 1 n).toArray 3 (0, 0)) := setRow_heap W g _ _ _ _ hgW
    have HK1 := hid (show Keep (· = g) W (W.setRow g (negs 1 n).toArray) from ⟨rfl, rfl, rfl, by simp [World.setRow], fun k _ hk => setRow_other W g k _ hk⟩)
    obtain ⟨W1, hW1⟩ : ∃ W1, W.setRow g (negs 1 n).toArray = W1 := ⟨_, rfl⟩
    rw [hW1] at cp hgW1 HK1
    have HB1 := hid (show Below w.heap.size w W1 from HBW.out.trans (HK1.out.below HBW.out.size (fun j hj e => by have := HG.out; omega)))
    have HG1 := hid hgW1
    have HSZ := hid hsz
    clear mk hW hg hx hxW hbW hN1 hgW hgW1 hW1 HK1 hsz
    go_enter Tryz.func138, Tryz.ntmps138
    go_wp2_with (go_at_call 161; refine (HM.out _).mono ?_; rintro e w1 ⟨rfl, rfl⟩)
    go_loopg [8] n (fun q s8 wr => ∃ k : Nat, s8 = .int .i64 (k : Int) ∧ Hid (1 ≤ k ∧ k ≤ n ∧ n - k ≤ q) ∧ Hid (wr.heap[g]? = some (.cells (negs k n).toArray 3 (0, 0))) ∧ Hid (Below w.heap.size w wr))
    case atStart => exact ⟨1, rfl, hid ⟨Nat.le_refl _, by omega, by omega⟩, HG1, HB1⟩
    case round =>
      clear HG1 HB1
      obtain ⟨k, rfl, HQ, HC, HB⟩ := hrel
      have hQ := HQ.out
      by_cases hlt : k < n
      · have hltz : (k : Int) < (n : Int) := by omega
        obtain ⟨m, hm⟩ : ∃ m, m = min k (n - k) := ⟨_, rfl⟩
        have hm1 : 1 ≤ m ∧ k + m ≤ n := by omega
        have r1 := run_ints_from g k n hlt
        have r2 := run_ints_to g k n (by omega)
        have cpy : ∀ wx : World, wx.heap = wr.heap → (Builtin.copy_ #[75, 75] 3 #[.slice (some ⟨g, k, none⟩) (n - k) (n - k), .slice (some ⟨g, 0, none⟩) k n]).run Tryz.prog wx = .ok (.int .i64 (m : Int)) (wx.setRow g (negs (k + m) n).toArray) := fun wx hwx => by
          have hgx : wx.heap[g]? = some (.cells (negs k n).toArray 3 (0, 0)) := by rw [hwx]; exact HC.out
          have h := run_copy_row (P := Tryz.prog) wx 75 75 3 3 g k (n - k) (n - k) ⟨g, 0, none⟩ k n (negs k n).toArray 3 (List.replicate m (.int .i64 (-1))) Tryz.underlying75 HSZ.out hgx (by rw [List.length_replicate]; exact hm) (fun j v hj => by
            have hjm : j < m := by have := (List.getElem?_eq_some_iff.1 hj).1; simpa using this
            rw [Addr.add_lit]
            refine blk_cell hgx ?_
            rw [List.getElem?_toArray, Nat.zero_add, negs_at (by omega)]
            rw [List.getElem?_replicate, if_pos hjm] at hj
            exact hj) (by rw [List.length_replicate, List.size_toArray, negs_length hQ.2.1]; exact hm1.2) (fun v hv => by rw [(List.mem_replicate.1 hv).2]; rfl)
          rw [List.length_replicate] at h
          have e : ((negs k n).toArray.toList.take k ++ List.replicate m (Value.int .i64 (-1)) ++ (negs k n).toArray.toList.drop (k + m)).toArray = (negs (k + m) n).toArray := by
            congr 1
            exact negs_more hm1.2
          rw [e] at h
          exact h
        have cpw := cpy wr.drew rfl
        obtain ⟨s, hs⟩ : ∃ s, k + m = s := ⟨_, rfl⟩
        rw [hs] at cpw hm1
        have sw : IntKind.i64.wrap ((k : Int) + (m : Int)) = (s : Int) := (IntWalk.i64_in _ (by have := HNN.out; omega)).trans (by omega)
        have k0 : (0 : Int) ≤ (k : Int) := Int.natCast_nonneg _
        have HGS := hid (setRow_heap wr.drew g _ (negs s n).toArray _ _ HC.out)
        have HKS := hid (show Keep (· = g) wr.drew (wr.drew.setRow g (negs s n).toArray) from ⟨rfl, rfl, rfl, by simp [World.setRow], fun k _ hk => setRow_other _ g k _ hk⟩)
        have HQ2 := hid (show 1 ≤ s ∧ s ≤ n ∧ n - s < gk + 1 ∧ n - s < n - k by omega)
        obtain ⟨WS, hWS⟩ : ∃ WS, wr.drew.setRow g (negs s n).toArray = WS := ⟨_, rfl⟩
        rw [hWS] at cpw HGS HKS
        clear cpy hWS hm hs hm1
        go_wp2_with fail
        go_region
        all_goals go_wp2
        all_goals (
          go_roundg (n - s)
          case measure => have := HQ2.out; omega
          case rel => exact ⟨s, rfl, hid ⟨HQ2.out.1, HQ2.out.2.1, Nat.le_refl _⟩, HGS, hid ((HB.out.trans ((below_drewN wr 1).mono HB.out.size)).trans (HKS.out.below HB.out.size (fun j hj e => by have := HG.out; omega)))⟩)
      · obtain rfl : k = n := by omega
        have hneg : ¬ (k : Int) < (k : Int) := by omega
        go_wp2_with fail
        go_ret
        refine ⟨g, rfl, by rw [HG.out]; exact Nat.le_refl _, ?_, HB.out⟩
        rw [HC.out, negs_row]
structure PairAt (w0 : World) (vb vs : Value) (gp gt gf : Nat) (ts fs : List Int) (w : World) : Prop where
  cell : w.heap[gp]? = some (.cells #[vb, vs, .slice (some ⟨gt, 0, none⟩) ts.length ts.length, .slice (some ⟨gf, 0, none⟩) fs.length fs.length] 185 (0, 0))
  rowT : w.heap[gt]? = some (.cells (iRow ts) 3 (0, 0))
  rowF : w.heap[gf]? = some (.cells (iRow fs) 3 (0, 0))
  hp : w0.heap.size ≤ gp
  ht : w0.heap.size ≤ gt
  hf : w0.heap.size ≤ gf
  ptf : gt ≠ gf
  ppt : gp ≠ gt
  ppf : gp ≠ gf
  below : Below w0.heap.size w0 w
theorem DNewPairing_any (vb vs : Value) (l m : List FileS) (w : World) (hb : SlF w vb l) (hs : SlF w vs m) (hl : l.length ≤ 1000000) (hm : m.length ≤ 1000000) :
    Calls Tryz.prog 115 #[vb, vs] w fun e w' => ∃ gp gt gf, e = .returned (.pointer (some ⟨gp, 0, none⟩)) ∧ PairAt w vb vs gp gt gf (List.replicate l.length (-1)) (List.replicate m.length (-1)) w' := by
  obtain ⟨ao, ac, rfl⟩ := hb.form
  obtain ⟨bo, bc, rfl⟩ := hs.form
  have HR1 := hid fun (gx : Nat) (wx : World) (h : wx.cell? ⟨gx, 0, none⟩ = some (.int .i64 (-1))) => DRepeat_any gx l.length wx h hl
  have HR2 := hid fun (gx : Nat) (wx : World) (h : wx.cell? ⟨gx, 0, none⟩ = some (.int .i64 (-1))) => DRepeat_any gx m.length wx h hm
  obtain ⟨n, hn⟩ : ∃ n, l.length = n := ⟨_, rfl⟩
  obtain ⟨k, hk⟩ : ∃ k, m.length = k := ⟨_, rfl⟩
  rw [hn] at HR1 ⊢
  rw [hk] at HR2 ⊢
  clear hb hs hl hm hn hk
  go_enter Tryz.func115, Tryz.ntmps115
  go_wp2_with fail
  refine (HR1.out w.heap.size _ (blk_cell (i := 0) (heap_alloc_new w _) rfl)).mono ?_
  rintro e w1 ⟨gt, rfl, hgt, hrt, hb1⟩
  have hz0 : (w.alloc (.cells #[.int .i64 (-1)] 3)).heap.size = w.heap.size + 1 := by simp
  have hw1 : Below w.heap.size w w1 := below_step ((Below.refl _ w).alloc (Nat.le_refl _) _) hb1 (by omega)
  rw [hz0] at hgt
  have hz1 := hw1.size
  have hlt1 := lt_of_block hrt
  clear hb1
  go_wp2_with fail
  refine (HR2.out w1.heap.size _ (blk_cell (i := 0) (heap_alloc_new w1 _) rfl)).mono ?_
  rintro e w2 ⟨gf, rfl, hgf, hrf, hb2⟩
  have hz2 : (w1.alloc (.cells #[.int .i64 (-1)] 3)).heap.size = w1.heap.size + 1 := by simp
  have hw12 : Below w1.heap.size w1 w2 := below_step ((Below.refl _ w1).alloc (Nat.le_refl _) _) hb2 (by omega)
  rw [hz2] at hgf
  have hrt2 := (hw12.block _ hlt1).trans hrt
  have HRT := hid hrt2
  have HRF := hid hrf
  have HW2 := hid (below_step hw1 hw12 hw1.size)
  have hlt2 := lt_of_block hrt2
  have hlt3 := lt_of_block hrf
  clear hb2 hrt hrf hw12 hw1 hz0 hz2
  go_wp2_with fail
  go_ret
  refine ⟨w2.heap.size, gt, gf, rfl, ?_, (Below.heap_alloc _ _ _ hlt2).trans HRT.out, (Below.heap_alloc _ _ _ hlt3).trans HRF.out, HW2.out.size, by omega, by omega, by omega, by omega, by omega, HW2.out.alloc HW2.out.size _⟩
  rw [List.length_replicate, List.length_replicate]
  exact World.alloc_heap_new w2 _
end
end Go.Proofs.YtbnafihigoekeaaGreatDoor
namespace Go.Proofs.YtbnafihigoekeaaGreatDoor
open Go.RowKit
def joinL (st : List Int × List Int) (i j : Nat) : List Int × List Int :=
  if st.1[i]? = some (-1) ∧ st.2[j]? = some (-1) then (st.1.set i (j : Nat), st.2.set j (i : Nat)) else st
theorem joinL_len (st : List Int × List Int) (i j : Nat) : (joinL st i j).1.length = st.1.length ∧ (joinL st i j).2.length = st.2.length := by
  unfold joinL
  split <;> simp
section
set_option maxRecDepth 100000
set_option maxHeartbeats 4000000
theorem DJoin_any (w0 : World) (vb vs : Value) (gp gt gf : Nat) (ts fs : List Int) (i j : Nat) (w : World) (h : PairAt w0 vb vs gp gt gf ts fs w) (hi : i < ts.length) (hj : j < fs.length) (_hil : ts.length ≤ 1000000) (_hjl : fs.length ≤ 1000000) :
    Calls Tryz.prog 141 #[.pointer (some ⟨gp, 0, none⟩), .int .i64 (i : Nat), .int .i64 (j : Nat)] w fun e w' => e = .returned (.tuple #[]) ∧
      PairAt w0 vb vs gp gt gf (joinL (ts, fs) i j).1 (joinL (ts, fs) i j).2 w' ∧ Keep (fun k => k = gt ∨ k = gf) w w' := by
  obtain ⟨z, hz⟩ : ∃ z, ts[i]? = some z := ⟨_, List.getElem?_eq_getElem hi⟩
  obtain ⟨y, hy⟩ : ∃ y, fs[j]? = some y := ⟨_, List.getElem?_eq_getElem hj⟩
  have c2 : w.cell? ⟨gp, 2, none⟩ = some (.slice (some ⟨gt, 0, none⟩) ts.length ts.length) := blk_cell (i := 2) h.cell rfl
  have c3 : w.cell? ⟨gp, 3, none⟩ = some (.slice (some ⟨gf, 0, none⟩) fs.length fs.length) := blk_cell (i := 3) h.cell rfl
  have ct : w.cell? ⟨gt, i, none⟩ = some (.int .i64 z) := blk_cell h.rowT (iRow_at hz)
  have cf : w.cell? ⟨gf, j, none⟩ = some (.int .i64 y) := blk_cell h.rowF (iRow_at hy)
  have ft : w.frozen? ⟨gt, i, none⟩ = false := blk_free h.rowT
  have ff : w.frozen? ⟨gf, j, none⟩ = false := blk_free h.rowF
  have HJ := hid (show joinL (ts, fs) i j = if z = -1 ∧ y = -1 then (ts.set i (j : Nat), fs.set j (i : Nat)) else (ts, fs) by
    unfold joinL
    simp only [hz, hy, Option.some.injEq])
  have i0 : (0 : Int) ≤ (i : Int) := Int.natCast_nonneg _
  have j0 : (0 : Int) ≤ (j : Int) := Int.natCast_nonneg _
  have HH := hid h
  obtain ⟨n, hn⟩ : ∃ n, ts.length = n := ⟨_, rfl⟩
  obtain ⟨m, hm⟩ : ∃ m, fs.length = m := ⟨_, rfl⟩
  rw [hn] at c2 hi
  rw [hm] at c3 hj
  have HN := hid (And.intro hn hm)
  have i1 : (i : Int) < (n : Int) := by omega
  have j1 : (j : Int) < (m : Int) := by omega
  clear hz hy hn hm h
  by_cases hz1 : z = -1
  · subst hz1
    by_cases hy1 : y = -1
    · subst hy1
      have HJ2 := hid (show joinL (ts, fs) i j = (ts.set i (j : Nat), fs.set j (i : Nat)) by rw [HJ.out, if_pos ⟨rfl, rfl⟩])
      rw [HJ2.out]
      have hne : ¬ gt = gf := HH.out.ptf
      have hne2 : ¬ gf = gt := fun e => hne e.symm
      have hd := HH.out
      have hgt1 : ((w.drew.setCell ⟨gt, i, none⟩ (.int .i64 (j : Nat))).setCell ⟨gf, j, none⟩ (.int .i64 (i : Nat))).heap[gt]? = some (.cells (iRow (ts.set i (j : Nat))) 3 (0, 0)) := by
        rw [Below.heap_setCell _ _ _ _ (show gt ≠ gf from hne), ← iRow_set]
        exact blk_set hd.rowT
      have hgf1 : ((w.drew.setCell ⟨gt, i, none⟩ (.int .i64 (j : Nat))).setCell ⟨gf, j, none⟩ (.int .i64 (i : Nat))).heap[gf]? = some (.cells (iRow (fs.set j (i : Nat))) 3 (0, 0)) := by
        rw [← iRow_set]
        refine blk_set ?_
        rw [Below.heap_setCell _ _ _ _ (show gf ≠ gt from hne2)]
        exact hd.rowF
      have hgp1 : ((w.drew.setCell ⟨gt, i, none⟩ (.int .i64 (j : Nat))).setCell ⟨gf, j, none⟩ (.int .i64 (i : Nat))).heap[gp]? = w.heap[gp]? := by
        rw [Below.heap_setCell _ _ _ _ (show gp ≠ gf from hd.ppf), Below.heap_setCell _ _ _ _ (show gp ≠ gt from hd.ppt)]
        rfl
      have hb1 : Below w0.heap.size w0 ((w.drew.setCell ⟨gt, i, none⟩ (.int .i64 (j : Nat))).setCell ⟨gf, j, none⟩ (.int .i64 (i : Nat))) :=
        ((hd.below.trans ((below_drewN w 1).mono hd.below.size)).setCell (by show w0.heap.size ≤ gt; exact hd.ht) _).setCell (by show w0.heap.size ≤ gf; exact hd.hf) _
      have HR := hid (show PairAt w0 vb vs gp gt gf (ts.set i (j : Nat)) (fs.set j (i : Nat)) ((w.drew.setCell ⟨gt, i, none⟩ (.int .i64 (j : Nat))).setCell ⟨gf, j, none⟩ (.int .i64 (i : Nat))) from
        ⟨by rw [hgp1, List.length_set, List.length_set]; exact hd.cell, hgt1, hgf1, hd.hp, hd.ht, hd.hf, hd.ptf, hd.ppt, hd.ppf, hb1⟩)
      have HK := hid (show Keep (fun k => k = gt ∨ k = gf) w ((w.drew.setCell ⟨gt, i, none⟩ (.int .i64 (j : Nat))).setCell ⟨gf, j, none⟩ (.int .i64 (i : Nat))) from
        ((Keep.refl _ w).drew.setCell (.inl rfl) _).setCell (.inr rfl) _)
      clear hgt1 hgf1 hgp1 hb1 hd HJ HJ2 HN
      go_enter Tryz.func141, Tryz.ntmps141
      go_wp2_with fail
      go_region
      all_goals go_wp2
      all_goals (
        go_end0
        exact ⟨rfl, HR.out, HK.out⟩)
    · have hyb : (y == -1) = false := by simpa using hy1
      have HJ2 := hid (show joinL (ts, fs) i j = (ts, fs) by rw [HJ.out, if_neg (fun h => hy1 h.2)])
      rw [HJ2.out]
      clear HJ
      go_enter Tryz.func141, Tryz.ntmps141
      go_wp2_with fail
      go_end0
      exact ⟨rfl, HH.out, Keep.refl _ _⟩
  · have hzb : (z == -1) = false := by simpa using hz1
    have HJ2 := hid (show joinL (ts, fs) i j = (ts, fs) by rw [HJ.out, if_neg (fun h => hz1 h.1)])
    rw [HJ2.out]
    clear HJ
    go_enter Tryz.func141, Tryz.ntmps141
    go_wp2_with fail
    go_end0
    exact ⟨rfl, HH.out, Keep.refl _ _⟩
def leftOne (l : List FileS) (ws : List Int) (i : Nat) : Option TxS :=
  match l[i]?, ws[i]? with
  | some f, some z => if z = -1 then some (i, linesOf f.2.2) else none
  | _, _ => none
def leftUp (l : List FileS) (ws : List Int) (k : Nat) : List TxS := (List.range k).filterMap (leftOne l ws)
theorem leftUp_more (l : List FileS) (ws : List Int) (k : Nat) : leftUp l ws (k + 1) = leftUp l ws k ++ (leftOne l ws k).toList := by
  rw [leftUp, List.range_succ, List.filterMap_append]
  cases h : leftOne l ws k <;> simp [h, leftUp]
theorem leftUp_len (l : List FileS) (ws : List Int) (k : Nat) : (leftUp l ws k).length ≤ k := by
  have := List.length_filterMap_le (leftOne l ws) (List.range k)
  simpa [leftUp] using this
theorem DLeft_any (va : Value) (gw c : Nat) (l : List FileS) (ws : List Int) (w : World) (ha : SlF w va l) (hw : w.heap[gw]? = some (.cells (iRow ws) 3 (0, 0))) (hl : l.length ≤ ws.length) (hwl : ws.length ≤ 1000000) (hfl : ∀ f ∈ l, f.2.2.length ≤ 1000000) :
    Calls Tryz.prog 162 #[va, .slice (some ⟨gw, 0, none⟩) ws.length c] w fun e w' => ∃ v, e = .returned v ∧ OwnX w' w.heap.size v (leftUp l ws l.length) ∧ Below w.heap.size w w' := by
  obtain ⟨ao, ac, rfl⟩ := ha.form
  have HA := hid ha
  have HW := hid hw
  have HL := hid (And.intro hl hwl)
  have HF := hid hfl
  obtain ⟨n, hn⟩ : ∃ n, ws.length = n := ⟨_, rfl⟩
  have HN := hid hn
  rw [hn]
  clear ha hw hl hwl hfl hn
  go_enter Tryz.func162, Tryz.ntmps162
  go_wp2_with fail
  go_loopg [5, 10] l.length (fun g v i wr => ∃ (k : Nat) (X : List TxS), k ≤ l.length ∧ l.length - k = g ∧ i = .int .i64 k ∧ Hid (X = leftUp l ws k ∧ X.length ≤ k) ∧ Hid (OwnX wr w.heap.size v X) ∧ Hid (Below w.heap.size w wr))
  case atStart => exact ⟨0, [], Nat.zero_le _, rfl, rfl, hid ⟨rfl, Nat.le_refl _⟩, hid (OwnX.nil _ _), hid (Below.refl _ _)⟩
  case round =>
    obtain ⟨k, X, hk, rfl, rfl, HX, HO, HB⟩ := hrel
    obtain ⟨no, nc, rfl⟩ := HO.out.form
    have k0 : (0 : Int) ≤ (k : Int) := Int.natCast_nonneg _
    by_cases hlt : k < l.length
    · have k1 : (k : Int) < (l.length : Int) := by omega
      have kn : (k : Int) < (n : Int) := by have := HL.out.1; have := HN.out; omega
      have kw : IntKind.i64.wrap ((k : Int) + 1) = (k : Int) + 1 := IntWalk.i64_in _ (by have := HL.out; omega)
      obtain ⟨b, o, p, x, t, rfl, he, c1, c2, c3⟩ := SlF.at (HA.out.old HB.out) hlt
      have htl : t.length ≤ 1000000 := HF.out (p, x, t) (List.mem_of_getElem? he)
      have hwr := (HB.out.block _ (lt_of_block HW.out)).trans HW.out
      obtain ⟨z, hz⟩ : ∃ z, ws[k]? = some z := ⟨_, List.getElem?_eq_getElem (by have := HL.out.1; omega)⟩
      have HOne := hid (show leftOne l ws k = if z = -1 then some (k, linesOf t) else none by rw [leftOne, he, hz])
      obtain ⟨wb, hwb⟩ : ∃ wb, wr.alloc (.cells #[.string ⟨p.toArray⟩, .bool x, .string ⟨t.toArray⟩] 28) = wb := ⟨_, rfl⟩
      have hbb : Below w.heap.size w wb := by rw [← hwb]; exact HB.out.alloc HB.out.size _
      have hgb : wb.heap[wr.heap.size]? = some (.cells #[.string ⟨p.toArray⟩, .bool x, .string ⟨t.toArray⟩] 28 (0, 0)) := by rw [← hwb]; exact heap_alloc_new wr _
      have HOB := hid (show OwnX wb w.heap.size (.slice no X.length nc) X by rw [← hwb]; exact HO.out.old ((Below.refl _ _).alloc (Nat.le_refl _) _))
      have hgw : wb.heap[gw]? = some (.cells (iRow ws) 3 (0, 0)) := by rw [← hwb]; exact (Below.heap_alloc _ _ _ (lt_of_block hwr)).trans hwr
      have cz : wb.cell? ⟨gw, k, none⟩ = some (.int .i64 z) := blk_cell hgw (iRow_at hz)
      have q0 : wb.cell? ⟨wr.heap.size, 0, none⟩ = some (.string ⟨p.toArray⟩) := blk_cell (i := 0) hgb rfl
      have q1 : wb.cell? ⟨wr.heap.size, 1, none⟩ = some (.bool x) := blk_cell (i := 1) hgb rfl
      have q2 : wb.cell? ⟨wr.heap.size, 2, none⟩ = some (.string ⟨t.toArray⟩) := blk_cell (i := 2) hgb rfl
      have HBB := hid hbb
      have HXL := hid (show X.length ≤ 1000000 by have := HX.out; have := HL.out; omega)
      have HT := hid (DTextOf_any (p, x, t) k wb htl)
      unfold fileV strV at HT
      obtain ⟨gb, hgbn⟩ : ∃ gb, wr.heap.size = gb := ⟨_, rfl⟩
      rw [hgbn] at q0 q1 q2
      have hwbn : wr.alloc (.cells #[.string ⟨p.toArray⟩, .bool x, .string ⟨t.toArray⟩] 28) = wb := hwb
      clear he hz hwr hbb hgb hgw htl
      by_cases hzn : z = -1
      · subst hzn
        have HE := hid (show X ++ [(k, linesOf t)] = leftUp l ws (k + 1) by rw [leftUp_more, HOne.out, ← HX.out.1]; rfl)
        go_upto_region 5 with fail
        clear hwb hwbn hgbn HOne c1 c2 c3
        go_wp2_with fail
        refine HT.out.mono ?_
        rintro e w2 ⟨vl, vs, rfl, hr1, hr2, hb2⟩
        obtain ⟨lo, lc, rfl⟩ := owns_form hr1
        obtain ⟨so, sc, rfl⟩ := owns_form hr2
        have hlt2 : ∀ q, (Value.slice no X.length nc).ownBlock = some q → q < wb.heap.size := fun q hq => (HOB.out.lt q hq).2
        have HN1 := hid (nestL_own hr1 hlt2)
        have HN2 := hid (nestL_own hr2 hlt2)
        have HO2 := hid (HOB.out.old hb2)
        have HB2 := hid (below_step HBB.out hb2 HBB.out.size)
        clear hr1 hr2 hb2 hlt2 HOB HT
        go_wp2_with (at_builtin; refine wpList_append_txt3 (by rfl) (.tmp 20) (.tmp 24) rfl w.heap.size _ X k (linesOf t) _ _ rfl HO2.out HN1.out HN2.out _ rfl rfl rfl rfl (by have := HXL.out; omega) HB2.out.size ?_; intro v5 w5 hO5 hb5)
        go_roundg (l.length - (k + 1))
        case measure => omega
        case rel => exact ⟨k + 1, _, by omega, rfl, by go_num, hid ⟨HE.out, by have := HX.out; simp; omega⟩, hid hO5, hid (HB2.out.trans hb5)⟩
      · have HE := hid (show X = leftUp l ws (k + 1) by rw [leftUp_more, HOne.out, if_neg hzn, ← HX.out.1]; simp)
        have hzb : (z == -1) = false := by simpa using hzn
        go_upto_region 5 with fail
        clear hwb hwbn hgbn HOne c1 c2 c3 HT
        go_wp2_with fail
        go_roundg (l.length - (k + 1))
        case measure => omega
        case rel => exact ⟨k + 1, X, by omega, rfl, by go_num, hid ⟨HE.out, by have := HX.out; omega⟩, hid HOB.out, hid HBB.out⟩
    · obtain rfl : k = l.length := by omega
      have hneg : ¬ (l.length : Int) < (l.length : Int) := by omega
      go_wp2_with fail
      go_ret
      rw [← HX.out.1]
      exact ⟨_, rfl, HO.out, HB.out⟩
end
end Go.Proofs.YtbnafihigoekeaaGreatDoor
namespace Go.Proofs.YtbnafihigoekeaaGreatDoor
open Go.RowKit
abbrev MtS := Nat × Nat × Nat
def encMt : Enc MtS := ⟨3, by omega, fun f => [.int .i64 (f.1 : Nat), .int .i64 (f.2.1 : Nat), .int .i64 (f.2.2 : Nat)], fun _ => rfl, fun f u hu => by
  simp only [List.mem_cons, List.not_mem_nil, or_false] at hu
  rcases hu with rfl | rfl | rfl <;> rfl⟩
theorem Tryz.infoMt : (Tryz.prog.info? 195).map (fun i => (i.zero, i.size, i.bytes)) = some (some (.agg #[.int .i64 0, .int .i64 0, .int .i64 0]), 3, 24) := by kernel_rfl
abbrev SlMt (w : World) (v : Value) (fs : List MtS) : Prop := SlR encMt w v fs
abbrev OwnMt (w : World) (base : Nat) (v : Value) (fs : List MtS) : Prop := w.ownsRow base 195 3 v fs.length (flatR encMt fs)
theorem OwnMt.sl {w : World} {base : Nat} {v : Value} {fs : List MtS} (h : OwnMt w base v fs) : SlMt w v fs := SlR.ofOwns (E := encMt) h
theorem SlMt.at {w : World} {ao : Option Addr} {n cap : Nat} {fs : List MtS} (h : SlMt w (.slice ao n cap) fs) {i : Nat} (hi : i < fs.length) :
    ∃ b o p q r, ao = some ⟨b, o, none⟩ ∧ fs[i]? = some (p, q, r) ∧ w.cell? ⟨b, o + i * 3, none⟩ = some (.int .i64 (p : Nat)) ∧ w.cell? ⟨b, o + i * 3 + 1, none⟩ = some (.int .i64 (q : Nat)) ∧ w.cell? ⟨b, o + i * 3 + 2, none⟩ = some (.int .i64 (r : Nat)) := by
  obtain ⟨b, o, ⟨p, q, r⟩, ha, hx, hc⟩ := SlR.at' h hi
  exact ⟨b, o, p, q, r, ha, hx, hc 0 _ rfl, hc 1 _ rfl, hc 2 _ rfl⟩
section
variable {w : World}
theorem wpList_append_mtk {ops : Array Oper} {rest : List Oper} {o : Oper} {a : Act} {Q : Exit → Act → World → Prop} (hgd : o.guard = none) (s sx : Operand)
    (ho : o.op = .call { callee := .builtin .append, args := #[s, sx], argTypes := #[192, 192] })
    (base : Nat) (v : Value) (xs : List MtS) (x : MtS) (he : a.eval s = v) (hown : OwnMt w base v xs) (q : Nat) (hx : a.eval sx = .slice (some ⟨q, 0, none⟩) 1 1) (hq : w.heap.size = q)
    (hlen : xs.length ≤ 100000000) (hbase : base ≤ w.heap.size)
    (h : ∀ v' w', OwnMt w' base v' (xs ++ [x]) → Below base w w' → (∀ b, b < w.heap.size → v.ownBlock ≠ some b → w'.heap[b]? = w.heap[b]?) → wpList Tryz.prog ops Q rest (a.put o.dst v') w') : wpList Tryz.prog ops Q (o :: rest) a (w.alloc (.cells #[.int .i64 (x.1 : Nat), .int .i64 (x.2.1 : Nat), .int .i64 (x.2.2 : Nat)] 195)) := by
  obtain ⟨i0, hi0, hi1, hi2, hi3⟩ := info_parts Tryz.infoMt
  subst hq
  have hsrc : Src Tryz.prog 3 192 (.slice (some ⟨w.heap.size, 0, none⟩) 1 1) 1 (encMt.enc x) (w.alloc (.cells #[.int .i64 (x.1 : Nat), .int .i64 (x.2.1 : Nat), .int .i64 (x.2.2 : Nat)] 195)) := by
    refine Src.ofSlice _ Tryz.underlying192 ⟨w.heap.size, 0, none⟩ 1 1 (encMt.enc x) rfl (fun j u hu => ?_) (encMt.one x)
    rw [Addr.add_lit, Nat.zero_add]
    refine blk_cell (heap_alloc_new w _) ?_
    rw [List.getElem?_toArray]
    exact hu
  refine wpList_append_any _ hgd s sx _ _ ho base 195 i0 _ 3 24 Tryz.underlying192 hi0 hi1 hi2 hi3 rfl (by omega) v _ _ he (hown.alloc _) _ 1 _ hx hsrc (by unfold maxLen; omega) (by omega) (by simp; omega) fun v' w' h2 h3 h4 => h v' w' ?_ ?_ fun b hb hne => (h3.block b (by simp; omega) (fun e => hne e.symm)).trans (Below.heap_alloc w _ b hb)
  · unfold OwnMt
    rw [List.length_append, flatR_append, flatR_one]
    exact h2
  · exact ((Below.refl base w).alloc hbase _).grown h3 (by simp; omega) (fun j hj => (hown.lt j hj).1)
end
end Go.Proofs.YtbnafihigoekeaaGreatDoor
namespace Go.Proofs.YtbnafihigoekeaaGreatDoor
open Go.Shelf Go.RowKit Go.Lib Go.Sort
def Tryz.stV_ren : Go.Shelf.Ren := ⟨fun | 85 => 218 | 80 => 208 | 72 => 188 | 59 => 167 | 43 => 143 | 71 => 187 | n => n, fun | 0 => 0 | 3 => 3 | 4 => 4 | 37 => 126 | 28 => 39 | 35 => 78 | 79 => 197 | n => n, fun | n => n⟩
theorem Tryz.stV : StL Tryz.prog Tryz.stV_ren := {
  mixed := by kernel_rfl
  f85 := ⟨ "slices.swapRangeCmpFunc[rick/api.Rename]", by kernel_rfl, Tryz.func218.trans (congrArg some (by kernel_rfl))⟩
  f80 := ⟨ "slices.rotateCmpFunc[rick/api.Rename]", by kernel_rfl, Tryz.func208.trans (congrArg some (by kernel_rfl))⟩
  f72 := ⟨ "slices.symMergeCmpFunc[rick/api.Rename]", by kernel_rfl, Tryz.func188.trans (congrArg some (by kernel_rfl))⟩
  f59 := ⟨ "slices.stableCmpFunc[rick/api.Rename]", by kernel_rfl, Tryz.func167.trans (congrArg some (by kernel_rfl))⟩
  f43 := ⟨ "slices.SortStableFunc[[]rick/api.Rename,rick/api.Rename]", by kernel_rfl, Tryz.func143.trans (congrArg some (by kernel_rfl))⟩
  t0 := Tryz.underlying0
  a0 := Tryz.isAgg0
  z0 := Tryz.sizeOf0
  v0 := Tryz.zeroValue0
  t3 := Tryz.underlying3
  a3 := Tryz.isAgg3
  z3 := Tryz.sizeOf3
  v3 := Tryz.zeroValue3
  t4 := Tryz.underlying4
  a4 := Tryz.isAgg4
  z4 := Tryz.sizeOf4
  v4 := Tryz.zeroValue4
  t37 := Tryz.underlying126
  a37 := Tryz.isAgg126
  z37 := Tryz.sizeOf126
  v37 := Tryz.zeroValue126
  t28 := Tryz.underlying39
  a28 := Tryz.isAgg39
  z28 := Tryz.sizeOf39
  v28 := Tryz.zeroValue39
  t79 := Tryz.underlying197
  a79 := Tryz.isAgg197
  z79 := Tryz.sizeOf197
  v79 := Tryz.zeroValue197 }
def Tryz.stV2_ren : Go.Shelf.Ren := ⟨fun | 20 => 187 | n => n, fun | 0 => 0 | 3 => 3 | 4 => 4 | 22 => 39 | 24 => 78 | 25 => 197 | n => n, fun | n => n⟩
theorem Tryz.stV2 : Go.Proofs.SlLaysF0.n20 Tryz.prog Tryz.stV2_ren := {
  mixed := by kernel_rfl
  f20 := ⟨ "slices.insertionSortCmpFunc[rick/api.Rename]", by kernel_rfl, Tryz.func187.trans (congrArg some (by kernel_rfl))⟩
  t0 := Tryz.underlying0
  a0 := Tryz.isAgg0
  z0 := Tryz.sizeOf0
  v0 := Tryz.zeroValue0
  t3 := Tryz.underlying3
  a3 := Tryz.isAgg3
  z3 := Tryz.sizeOf3
  v3 := Tryz.zeroValue3
  t4 := Tryz.underlying4
  a4 := Tryz.isAgg4
  z4 := Tryz.sizeOf4
  v4 := Tryz.zeroValue4
  t22 := Tryz.underlying39
  a22 := Tryz.isAgg39
  z22 := Tryz.sizeOf39
  v22 := Tryz.zeroValue39
  t25 := Tryz.underlying197
  a25 := Tryz.isAgg197
  z25 := Tryz.sizeOf197
  v25 := Tryz.zeroValue197 }
def Tryz.stM_ren : Go.Shelf.Ren := ⟨fun | 85 => 224 | 80 => 217 | 72 => 207 | 59 => 185 | 43 => 164 | 71 => 206 | n => n, fun | 0 => 0 | 3 => 3 | 4 => 4 | 37 => 126 | 28 => 192 | 35 => 195 | 79 => 229 | n => n, fun | n => n⟩
theorem Tryz.stM : StL Tryz.prog Tryz.stM_ren := {
  mixed := by kernel_rfl
  f85 := ⟨ "slices.swapRangeCmpFunc[rick/similar.match]", by kernel_rfl, Tryz.func224.trans (congrArg some (by kernel_rfl))⟩
  f80 := ⟨ "slices.rotateCmpFunc[rick/similar.match]", by kernel_rfl, Tryz.func217.trans (congrArg some (by kernel_rfl))⟩
  f72 := ⟨ "slices.symMergeCmpFunc[rick/similar.match]", by kernel_rfl, Tryz.func207.trans (congrArg some (by kernel_rfl))⟩
  f59 := ⟨ "slices.stableCmpFunc[rick/similar.match]", by kernel_rfl, Tryz.func185.trans (congrArg some (by kernel_rfl))⟩
  f43 := ⟨ "slices.SortStableFunc[[]rick/similar.match,rick/similar.match]", by kernel_rfl, Tryz.func164.trans (congrArg some (by kernel_rfl))⟩
  t0 := Tryz.underlying0
  a0 := Tryz.isAgg0
  z0 := Tryz.sizeOf0
  v0 := Tryz.zeroValue0
  t3 := Tryz.underlying3
  a3 := Tryz.isAgg3
  z3 := Tryz.sizeOf3
  v3 := Tryz.zeroValue3
  t4 := Tryz.underlying4
  a4 := Tryz.isAgg4
  z4 := Tryz.sizeOf4
  v4 := Tryz.zeroValue4
  t37 := Tryz.underlying126
  a37 := Tryz.isAgg126
  z37 := Tryz.sizeOf126
  v37 := Tryz.zeroValue126
  t28 := Tryz.underlying192
  a28 := Tryz.isAgg192
  z28 := Tryz.sizeOf192
  v28 := Tryz.zeroValue192
  t79 := Tryz.underlying229
  a79 := Tryz.isAgg229
  z79 := Tryz.sizeOf229
  v79 := Tryz.zeroValue229 }
def Tryz.stM2_ren : Go.Shelf.Ren := ⟨fun | 20 => 206 | n => n, fun | 0 => 0 | 3 => 3 | 4 => 4 | 22 => 192 | 24 => 195 | 25 => 229 | n => n, fun | n => n⟩
theorem Tryz.stM2 : Go.Proofs.SlLaysF0.n20 Tryz.prog Tryz.stM2_ren := {
  mixed := by kernel_rfl
  f20 := ⟨ "slices.insertionSortCmpFunc[rick/similar.match]", by kernel_rfl, Tryz.func206.trans (congrArg some (by kernel_rfl))⟩
  t0 := Tryz.underlying0
  a0 := Tryz.isAgg0
  z0 := Tryz.sizeOf0
  v0 := Tryz.zeroValue0
  t3 := Tryz.underlying3
  a3 := Tryz.isAgg3
  z3 := Tryz.sizeOf3
  v3 := Tryz.zeroValue3
  t4 := Tryz.underlying4
  a4 := Tryz.isAgg4
  z4 := Tryz.sizeOf4
  v4 := Tryz.zeroValue4
  t22 := Tryz.underlying192
  a22 := Tryz.isAgg192
  z22 := Tryz.sizeOf192
  v22 := Tryz.zeroValue192
  t25 := Tryz.underlying229
  a25 := Tryz.isAgg229
  z25 := Tryz.sizeOf229
  v25 := Tryz.zeroValue229 }
def cfV (x y : MvS) : Int := compareBytes x.1 y.1
def cfMt (x y : MtS) : Int := if y.2.2 < x.2.2 then -1 else if x.2.2 < y.2.2 then 1 else 0
section
set_option maxRecDepth 100000
set_option maxHeartbeats 4000000
theorem DCmpV_any (x y : MvS) (W : World) : Calls Tryz.prog 144 #[.agg #[strV x.1, strV x.2], .agg #[strV y.1, strV y.2]] W fun e w' => e = .returned (.int .i64 (cfV x y)) ∧ ∃ q os', w' = grow (W.drewN q) os' := by
  obtain ⟨a, b⟩ := x
  obtain ⟨c, d⟩ := y
  have HC := hid fun (w : World) => PCmp_any a c w
  unfold strV at HC ⊢
  show Calls _ _ _ _ fun e w' => e = .returned (.int .i64 (compareBytes a c)) ∧ _
  go_enter Tryz.func144, Tryz.ntmps144
  go_wp2_with (go_at_call 57; refine (HC.out _).mono ?_; rintro e w1 ⟨rfl, rfl⟩)
  go_ret
  exact ⟨rfl, 0, #[_, _], by simp only [alloc_eq_grow, grow_grow]; rfl⟩
theorem DNaN_any (x : Int) (w : World) : Calls Tryz.prog 186 #[.int .i64 x] w fun e w' => e = .returned (.bool false) ∧ w = w' := by
  go_enter Tryz.func186, Tryz.ntmps186
  go_wp2
  go_ret
  exact ⟨by simp, rfl⟩
theorem DCmpI_any (x y : Nat) (w : World) : Calls Tryz.prog 166 #[.int .i64 (x : Nat), .int .i64 (y : Nat)] w fun e w' => e = .returned (.int .i64 (if x < y then -1 else if y < x then 1 else 0)) ∧ w = w' := by
  have HC := hid fun (x : Int) (w : World) => DNaN_any x w
  rcases Nat.lt_trichotomy x y with h | rfl | h
  · have hz : (x : Int) < (y : Int) := by omega
    rw [if_pos h]
    clear h
    go_enter Tryz.func166, Tryz.ntmps166
    go_wp2_with (go_at_call 186; refine (HC.out _ _).mono ?_; rintro e w1 ⟨rfl, rfl⟩)
    go_ret
    exact ⟨rfl, rfl⟩
  · have hz : ¬ (x : Int) < (x : Int) := by omega
    rw [if_neg (by omega), if_neg (by omega)]
    go_enter Tryz.func166, Tryz.ntmps166
    go_wp2_with (go_at_call 186; refine (HC.out _ _).mono ?_; rintro e w1 ⟨rfl, rfl⟩)
    go_ret
    exact ⟨rfl, rfl⟩
  · have hz : ¬ (x : Int) < (y : Int) := by omega
    have hz2 : (y : Int) < (x : Int) := by omega
    rw [if_neg (by omega), if_pos h]
    clear h
    go_enter Tryz.func166, Tryz.ntmps166
    go_wp2_with (go_at_call 186; refine (HC.out _ _).mono ?_; rintro e w1 ⟨rfl, rfl⟩)
    go_ret
    exact ⟨rfl, rfl⟩
theorem DCmpMt_any (x y : MtS) (W : World) : Calls Tryz.prog 165 #[.agg #[.int .i64 (x.1 : Nat), .int .i64 (x.2.1 : Nat), .int .i64 (x.2.2 : Nat)], .agg #[.int .i64 (y.1 : Nat), .int .i64 (y.2.1 : Nat), .int .i64 (y.2.2 : Nat)]] W fun e w' => e = .returned (.int .i64 (cfMt x y)) ∧ ∃ q os', w' = grow (W.drewN q) os' := by
  obtain ⟨a1, a2, a3⟩ := x
  obtain ⟨b1, b2, b3⟩ := y
  have HC := hid fun (w : World) => DCmpI_any b3 a3 w
  show Calls _ _ _ _ fun e w' => e = .returned (.int .i64 (if b3 < a3 then -1 else if a3 < b3 then 1 else 0)) ∧ _
  obtain ⟨R, hR⟩ : ∃ R : Int, R = if b3 < a3 then -1 else if a3 < b3 then 1 else 0 := ⟨_, rfl⟩
  rw [← hR] at HC ⊢
  clear hR
  go_enter Tryz.func165, Tryz.ntmps165
  go_wp2_with (go_at_call 166; refine (HC.out _).mono ?_; rintro e w1 ⟨rfl, rfl⟩)
  go_ret
  exact ⟨rfl, 0, #[_, _], by simp only [alloc_eq_grow, grow_grow]; rfl⟩
end
theorem PStV_any (v : Value) (l : List MvS) (w : World) (base : Nat) (hb : base ≤ w.heap.size) (hv : OwnV w base v l) (hl : l.length ≤ 100000000) :
    Calls Tryz.prog 143 #[v, .func (.func 144) #[] #[]] w fun e w' => e = .returned (.tuple #[]) ∧ OwnV w' base v (stableA (ltOf cfV) l.toArray).toList ∧ Below base w w' := by
  refine (St.own Tryz.stV Tryz.stV2 rfl rfl encV Tryz.isAgg78 Tryz.sizeOf78 cfV 144 #[] (enters_of Tryz.func144 (by kernel_rfl) rfl) 78 v l w base hb hv hl (fun x y W => DCmpV_any x y W)).mono ?_
  rintro e w' ⟨rfl, h, hb'⟩
  refine ⟨rfl, ?_, hb'⟩
  unfold OwnV
  rw [Array.length_toList, size_stableA, List.size_toArray]
  exact h
theorem PStMt_any (v : Value) (l : List MtS) (w : World) (base : Nat) (hb : base ≤ w.heap.size) (hv : OwnMt w base v l) (hl : l.length ≤ 100000000) :
    Calls Tryz.prog 164 #[v, .func (.func 165) #[] #[]] w fun e w' => e = .returned (.tuple #[]) ∧ OwnMt w' base v (stableA (ltOf cfMt) l.toArray).toList ∧ Below base w w' := by
  refine (St.own Tryz.stM Tryz.stM2 rfl rfl encMt Tryz.isAgg195 Tryz.sizeOf195 cfMt 165 #[] (enters_of Tryz.func165 (by kernel_rfl) rfl) 195 v l w base hb hv hl (fun x y W => DCmpMt_any x y W)).mono ?_
  rintro e w' ⟨rfl, h, hb'⟩
  refine ⟨rfl, ?_, hb'⟩
  unfold OwnMt
  rw [Array.length_toList, size_stableA, List.size_toArray]
  exact h
end Go.Proofs.YtbnafihigoekeaaGreatDoor

/-
  TmDe, part 44.
-/
import Derived.Test.YtbnafihigoekeaaGreatDoorZe31
import Derived.Test.YtbnafihigoekeaaGreatDoorZe25
import Derived.Test.YtbnafihigoekeaaGreatDoorZe39
import Derived.Shelf.SlSortCmp.WholeK
import Derived.Shelf.SlSortCmp.NoneTotal
import Derived.Test.YtbnafihigoekeaaGreatDoorZe42
import Derived.Test.YtbnafihigoekeaaGreatDoorZe38
import Derived.Test.YtbnafihigoekeaaGreatDoorZe37
import Derived.Test.YtbnafihigoekeaaGreatDoorZe43
import Derived.Test.YtbnafihigoekeaaGreatDoorZe26
import Derived.Test.YtbnafihigoekeaaGreatDoorZe3
import Derived.Test.YtbnafihigoekeaaGreatDoorZe1
import Derived.Test.YtbnafihigoekeaaGreatDoorZe23
import Derived.Deep.LoopGhost
import Derived.Deep.QuietTactic
namespace Go.Proofs.YtbnafihigoekeaaGreatDoor
open Go.Shelf Go.RowKit Go.Lib Go.Sort
def Tryz.stC_ren : Go.Shelf.Ren := ⟨fun | 85 => 157 | 80 => 134 | 72 => 111 | 59 => 82 | 43 => 58 | 71 => 110 | n => n, fun | 0 => 0 | 3 => 3 | 4 => 4 | 37 => 126 | 28 => 29 | 35 => 36 | 79 => 93 | n => n, fun | n => n⟩
theorem Tryz.stC : StL Tryz.prog Tryz.stC_ren := {
  mixed := by kernel_rfl
  f85 := ⟨ "slices.swapRangeCmpFunc[rick/api.Clash]", by kernel_rfl, Tryz.func157.trans (congrArg some (by kernel_rfl))⟩
  f80 := ⟨ "slices.rotateCmpFunc[rick/api.Clash]", by kernel_rfl, Tryz.func134.trans (congrArg some (by kernel_rfl))⟩
  f72 := ⟨ "slices.symMergeCmpFunc[rick/api.Clash]", by kernel_rfl, Tryz.func111.trans (congrArg some (by kernel_rfl))⟩
  f59 := ⟨ "slices.stableCmpFunc[rick/api.Clash]", by kernel_rfl, Tryz.func82.trans (congrArg some (by kernel_rfl))⟩
  f43 := ⟨ "slices.SortStableFunc[[]rick/api.Clash,rick/api.Clash]", by kernel_rfl, Tryz.func58.trans (congrArg some (by kernel_rfl))⟩
  t0 := Tryz.underlying0
  a0 := Tryz.isAgg0
  z0 := Tryz.sizeOf0
  v0 := Tryz.zeroValue0
  t3 := Tryz.underlying3
  a3 := Tryz.isAgg3
  z3 := Tryz.sizeOf3
  v3 := Tryz.zeroValue3
  t4 := Tryz.underlying4
  a4 := Tryz.isAgg4
  z4 := Tryz.sizeOf4
  v4 := Tryz.zeroValue4
  t37 := Tryz.underlying126
  a37 := Tryz.isAgg126
  z37 := Tryz.sizeOf126
  v37 := Tryz.zeroValue126
  t28 := Tryz.underlying29
  a28 := Tryz.isAgg29
  z28 := Tryz.sizeOf29
  v28 := Tryz.zeroValue29
  t79 := Tryz.underlying93
  a79 := Tryz.isAgg93
  z79 := Tryz.sizeOf93
  v79 := Tryz.zeroValue93 }
def Tryz.stC2_ren : Go.Shelf.Ren := ⟨fun | 20 => 110 | n => n, fun | 0 => 0 | 3 => 3 | 4 => 4 | 22 => 29 | 24 => 36 | 25 => 93 | n => n, fun | n => n⟩
theorem Tryz.stC2 : Go.Proofs.SlLaysF0.n20 Tryz.prog Tryz.stC2_ren := {
  mixed := by kernel_rfl
  f20 := ⟨ "slices.insertionSortCmpFunc[rick/api.Clash]", by kernel_rfl, Tryz.func110.trans (congrArg some (by kernel_rfl))⟩
  t0 := Tryz.underlying0
  a0 := Tryz.isAgg0
  z0 := Tryz.sizeOf0
  v0 := Tryz.zeroValue0
  t3 := Tryz.underlying3
  a3 := Tryz.isAgg3
  z3 := Tryz.sizeOf3
  v3 := Tryz.zeroValue3
  t4 := Tryz.underlying4
  a4 := Tryz.isAgg4
  z4 := Tryz.sizeOf4
  v4 := Tryz.zeroValue4
  t22 := Tryz.underlying29
  a22 := Tryz.isAgg29
  z22 := Tryz.sizeOf29
  v22 := Tryz.zeroValue29
  t25 := Tryz.underlying93
  a25 := Tryz.isAgg93
  z25 := Tryz.sizeOf93
  v25 := Tryz.zeroValue93 }
def Tryz.sfF_ren : Go.Shelf.Ren := ⟨fun | 6 => 55 | 14 => 79 | 15 => 80 | 20 => 99 | 21 => 100 | 22 => 101 | 23 => 102 | 24 => 103 | 25 => 104 | 26 => 105 | 27 => 106 | 28 => 107 | 29 => 108 | 46 => 129 | 47 => 130 | 48 => 131 | 49 => 132 | 50 => 133 | 57 => 156 | n => n, fun | 0 => 0 | 3 => 3 | 4 => 4 | 5 => 5 | 9 => 9 | 22 => 22 | 24 => 28 | 25 => 91 | 39 => 126 | 45 => 138 | 46 => 139 | 50 => 143 | 53 => 110 | 55 => 147 | 66 => 175 | 70 => 179 | 76 => 215 | 77 => 216 | n => n, fun | n => n⟩
theorem Tryz.sfF : Go.Proofs.SlLaysF0.n6 Tryz.prog Tryz.sfF_ren := {
  mixed := by kernel_rfl
  f6 := ⟨ "slices.SortFunc[[]rick/api.File,rick/api.File]", by kernel_rfl, Tryz.func55.trans (congrArg some (by kernel_rfl))⟩
  f14 := ⟨ "slices.pdqsortCmpFunc[rick/api.File]", by kernel_rfl, Tryz.func79.trans (congrArg some (by kernel_rfl))⟩
  f15 := Tryz.func80.trans (congrArg some (by kernel_rfl))
  f20 := ⟨ "slices.insertionSortCmpFunc[rick/api.File]", by kernel_rfl, Tryz.func99.trans (congrArg some (by kernel_rfl))⟩
  f21 := ⟨ "slices.heapSortCmpFunc[rick/api.File]", by kernel_rfl, Tryz.func100.trans (congrArg some (by kernel_rfl))⟩
  f22 := ⟨ "slices.breakPatternsCmpFunc[rick/api.File]", by kernel_rfl, Tryz.func101.trans (congrArg some (by kernel_rfl))⟩
  f23 := ⟨ "slices.choosePivotCmpFunc[rick/api.File]", by kernel_rfl, Tryz.func102.trans (congrArg some (by kernel_rfl))⟩
  f24 := ⟨ "slices.reverseRangeCmpFunc[rick/api.File]", by kernel_rfl, Tryz.func103.trans (congrArg some (by kernel_rfl))⟩
  f25 := ⟨ "slices.partialInsertionSortCmpFunc[rick/api.File]", by kernel_rfl, Tryz.func104.trans (congrArg some (by kernel_rfl))⟩
  f26 := ⟨ "slices.partitionEqualCmpFunc[rick/api.File]", by kernel_rfl, Tryz.func105.trans (congrArg some (by kernel_rfl))⟩
  f27 := ⟨ "slices.partitionCmpFunc[rick/api.File]", by kernel_rfl, Tryz.func106.trans (congrArg some (by kernel_rfl))⟩
  f28 := Tryz.func107.trans (congrArg some (by kernel_rfl))
  f29 := Tryz.func108.trans (congrArg some (by kernel_rfl))
  f46 := ⟨ "slices.siftDownCmpFunc[rick/api.File]", by kernel_rfl, Tryz.func129.trans (congrArg some (by kernel_rfl))⟩
  f47 := Tryz.func130.trans (congrArg some (by kernel_rfl))
  f48 := Tryz.func131.trans (congrArg some (by kernel_rfl))
  f49 := ⟨ "slices.medianAdjacentCmpFunc[rick/api.File]", by kernel_rfl, Tryz.func132.trans (congrArg some (by kernel_rfl))⟩
  f50 := ⟨ "slices.medianCmpFunc[rick/api.File]", by kernel_rfl, Tryz.func133.trans (congrArg some (by kernel_rfl))⟩
  f57 := ⟨ "slices.order2CmpFunc[rick/api.File]", by kernel_rfl, Tryz.func156.trans (congrArg some (by kernel_rfl))⟩
  t0 := Tryz.underlying0
  a0 := Tryz.isAgg0
  z0 := Tryz.sizeOf0
  v0 := Tryz.zeroValue0
  t3 := Tryz.underlying3
  a3 := Tryz.isAgg3
  z3 := Tryz.sizeOf3
  v3 := Tryz.zeroValue3
  t4 := Tryz.underlying4
  a4 := Tryz.isAgg4
  z4 := Tryz.sizeOf4
  v4 := Tryz.zeroValue4
  t5 := Tryz.underlying5
  a5 := Tryz.isAgg5
  z5 := Tryz.sizeOf5
  v5 := Tryz.zeroValue5
  t9 := Tryz.underlying9
  a9 := Tryz.isAgg9
  z9 := Tryz.sizeOf9
  v9 := Tryz.zeroValue9
  t22 := Tryz.underlying22
  a22 := Tryz.isAgg22
  z22 := Tryz.sizeOf22
  v22 := Tryz.zeroValue22
  t25 := Tryz.underlying91
  a25 := Tryz.isAgg91
  z25 := Tryz.sizeOf91
  v25 := Tryz.zeroValue91
  t39 := Tryz.underlying126
  a39 := Tryz.isAgg126
  z39 := Tryz.sizeOf126
  v39 := Tryz.zeroValue126
  t45 := Tryz.underlying138
  a45 := Tryz.isAgg138
  z45 := Tryz.sizeOf138
  v45 := Tryz.zeroValue138
  t46 := Tryz.underlying139
  a46 := Tryz.isAgg139
  z46 := Tryz.sizeOf139
  v46 := Tryz.zeroValue139
  t50 := Tryz.underlying143
  a50 := Tryz.isAgg143
  z50 := Tryz.sizeOf143
  v50 := Tryz.zeroValue143
  t53 := Tryz.underlying110
  a53 := Tryz.isAgg110
  z53 := Tryz.sizeOf110
  v53 := Tryz.zeroValue110
  t55 := Tryz.underlying147
  a55 := Tryz.isAgg147
  z55 := Tryz.sizeOf147
  v55 := Tryz.zeroValue147
  t66 := Tryz.underlying175
  a66 := Tryz.isAgg175
  z66 := Tryz.sizeOf175
  v66 := Tryz.zeroValue175
  t70 := Tryz.underlying179
  a70 := Tryz.isAgg179
  z70 := Tryz.sizeOf179
  v70 := Tryz.zeroValue179
  t76 := Tryz.underlying215
  a76 := Tryz.isAgg215
  z76 := Tryz.sizeOf215
  v76 := Tryz.zeroValue215
  t77 := Tryz.underlying216
  a77 := Tryz.isAgg216
  z77 := Tryz.sizeOf216
  v77 := Tryz.zeroValue216 }
section
variable {P : Program} {ρ : Ren} {α : Type} [Inhabited α]
set_option maxHeartbeats 2000000 in
theorem Sf.own (L : SlLaysF0.n6 P ρ) (E : Enc α) (aE : ∀ w, (isAgg (ρ.t 24)).run P w = .ok true w) (zE : ∀ w, (Go.sizeOf (ρ.t 24)).run P w = .ok E.k w) (cf : α → α → Int) (hO : SWO (ltOf cf)) (g : Nat) (cb : Array Value)
    (eg : ∀ args w, (callFunc g args).run P w = .ok (.enter g args) w) (ty : TypeId) (v : Value) (xs : List α) (w : World) (base : Nat) (hb : base ≤ w.heap.size) (hv : w.ownsRow base ty E.k v xs.length (flatR E xs)) (hl : xs.length ≤ 100000000)
    (hcmp : ∀ (x y : α) (W : World), Calls P g (#[.agg (E.enc x).toArray, .agg (E.enc y).toArray] ++ cb) W fun e w' => e = .returned (.int .i64 (cf x y)) ∧ ∃ q os', w' = grow (W.drewN q) os') :
    Calls P (ρ.f 6) #[v, .func (.func g) #[] cb] w fun e w' => e = .returned (.tuple #[]) ∧ ∃ ys : List α, ys.Perm xs ∧ ys.Pairwise (fun x y => ltOf cf y x = false) ∧ w'.ownsRow base ty E.k v xs.length (flatR E ys) ∧ w.grownBy w' v.ownBlock := by
  have hv2 := hv
  rcases hv.2 with ⟨rfl, h0⟩ | ⟨gb, cap, cur, rfl, hbg, hg, h1, h2, h3, h4⟩
  · obtain rfl := List.eq_nil_of_length_eq_zero h0
    refine (AnyF.slices_SortFunc_none L none 0 _ w).mono ?_
    rintro e w' ⟨rfl, rfl⟩
    exact ⟨rfl, [], List.Perm.refl _, List.Pairwise.nil, hv2, ⟨rfl, rfl, rfl, Nat.le_refl _, fun _ _ _ => rfl⟩⟩
  · have hH : HoldsK E.enc E.k w gb 0 xs.toArray := by
      unfold HoldsK
      rw [flatK_flatR]
      exact holds_of_cells hg (by rw [flatR_length]; exact h4)
    have hlt := (Array.getElem?_eq_some_iff.1 hg).1
    have hsz : xs.toArray.size < 4611686018427387904 := by simp; omega
    have hc := AnyQ.slices_SortFunc L E.k aE zE E.enc E.len E.one cf hO g cb gb 0 cap xs.toArray w eg (fun m os dk _ x y => hcmp x y _) hH hlt hsz
    have hs0 : xs.toArray.size = xs.length := by simp
    rw [hs0] at hc
    refine hc.mono ?_
    rintro e w' ⟨rfl, Y, n, os, hp, hs, rfl⟩
    have hYs : Y.size = xs.length := by rw [hp.1, hs0]
    have hYl : Y.toList.length = xs.length := by rw [Array.length_toList]; exact hYs
    have hF : flatK E.enc E.k Y = (flatR E Y.toList).toArray := by
      have := flatK_flatR E Y.toList
      rwa [Array.toArray_toList] at this
    have hFl : (flatR E Y.toList).length = xs.length * E.k := by rw [flatR_length, hYl]
    have hperm : Y.toList.Perm xs := by
      have h := hp.2.2
      rw [← hs0] at h
      have e1 : Y.extract 0 xs.toArray.size = Y := by rw [hs0, ← hYs]; simp
      have e2 : xs.toArray.extract 0 xs.toArray.size = xs.toArray := by simp
      rw [e1, e2] at h
      simpa using h
    refine ⟨rfl, Y.toList, hperm, ?_, ?_⟩
    · rw [List.pairwise_iff_getElem]
      intro i j hi hj hij
      have hi' : i < Y.size := by simpa using hi
      have hj' : j < Y.size := by simpa using hj
      have := hs i j (Nat.zero_le _) hij (by omega)
      rw [getElem!_pos Y i hi', getElem!_pos Y j hj'] at this
      simpa using this
    · unfold sortWorldK putRowK
      rw [hF]
      have hle : (flatR E Y.toList).length ≤ cur.size := by rw [hFl, h3]; exact Nat.mul_le_mul_right _ h1
      exact ⟨⟨hFl, .inr ⟨gb, cap, _, rfl, hbg, heap_put_id _ hg, h1, h2, by simp [putCells, h3], by rw [← hFl]; exact take_put_id cur _ hle⟩⟩, grownBy_put_id _⟩
end
def cfF (x y : FileS) : Int := compareBytes x.1 y.1
def cfC (x y : ClaS) : Int := compareBytes x.1 y.1
theorem lt_cfF (x y : FileS) : ltOf cfF x y = ltS x.1 y.1 := cmp_neg _ _
theorem lt_cfC (x y : ClaS) : ltOf cfC x y = ltS x.1 y.1 := cmp_neg _ _
theorem ltS_not {p q r : Txt} (h1 : ltS p q = false) (h2 : ltS q r = false) : ltS p r = false := by
  cases h : ltS p r with
  | false => rfl
  | true => rw [lt_le h h2] at h1; cases h1
theorem swo_F : SWO (ltOf cfF) := ⟨fun x => by rw [lt_cfF]; exact lt_irr _, fun x y z h1 h2 => by rw [lt_cfF] at *; exact lt_trans' _ _ _ h1 h2, fun x y z h1 h2 => by rw [lt_cfF] at *; exact ltS_not h1 h2⟩
theorem swo_C : SWO (ltOf cfC) := ⟨fun x => by rw [lt_cfC]; exact lt_irr _, fun x y z h1 h2 => by rw [lt_cfC] at *; exact lt_trans' _ _ _ h1 h2, fun x y z h1 h2 => by rw [lt_cfC] at *; exact ltS_not h1 h2⟩
section
set_option maxRecDepth 100000
set_option maxHeartbeats 4000000
theorem DCmpF_any (x y : FileS) (W : World) : Calls Tryz.prog 56 #[.agg #[strV x.1, .bool x.2.1, strV x.2.2], .agg #[strV y.1, .bool y.2.1, strV y.2.2]] W fun e w' => e = .returned (.int .i64 (cfF x y)) ∧ ∃ q os', w' = grow (W.drewN q) os' := by
  obtain ⟨a, b1, b2⟩ := x
  obtain ⟨c, d1, d2⟩ := y
  have HC := hid fun (w : World) => PCmp_any a c w
  unfold strV at HC ⊢
  show Calls _ _ _ _ fun e w' => e = .returned (.int .i64 (compareBytes a c)) ∧ _
  go_enter Tryz.func56, Tryz.ntmps56
  go_wp2_with (go_at_call 57; refine (HC.out _).mono ?_; rintro e w1 ⟨rfl, rfl⟩)
  go_ret
  exact ⟨rfl, 0, #[_, _], by simp only [alloc_eq_grow, grow_grow]; rfl⟩
theorem DCmpC_any (x y : ClaS) (W : World) : Calls Tryz.prog 59 #[.agg #[strV x.1, .int .i64 x.2.1, strV x.2.2], .agg #[strV y.1, .int .i64 y.2.1, strV y.2.2]] W fun e w' => e = .returned (.int .i64 (cfC x y)) ∧ ∃ q os', w' = grow (W.drewN q) os' := by
  obtain ⟨a, b1, b2⟩ := x
  obtain ⟨c, d1, d2⟩ := y
  have HC := hid fun (w : World) => PCmp_any a c w
  unfold strV at HC ⊢
  show Calls _ _ _ _ fun e w' => e = .returned (.int .i64 (compareBytes a c)) ∧ _
  go_enter Tryz.func59, Tryz.ntmps59
  go_wp2_with (go_at_call 57; refine (HC.out _).mono ?_; rintro e w1 ⟨rfl, rfl⟩)
  go_ret
  exact ⟨rfl, 0, #[_, _], by simp only [alloc_eq_grow, grow_grow]; rfl⟩
end
theorem perm_srt {l ys : List FileS} (hn : (l.map (·.1)).Nodup) (hp : ys.Perm l) (hs : ys.Pairwise fun x y => ltOf cfF y x = false) : ys = srtF l := by
  refine srt_only hn (fun x => hp.mem_iff) ?_
  have hn2 : (ys.map (·.1)).Nodup := (hp.map _).nodup_iff.2 hn
  rw [List.nodup_iff_pairwise_ne, List.pairwise_map] at hn2
  exact (hs.and hn2).imp fun {x y} ⟨h1, h2⟩ => by
    rw [lt_cfF] at h1
    cases h : ltS x.1 y.1 with
    | true => rfl
    | false => exact absurd (lt_tri _ _ h h1) h2
theorem stable_srt (C : List ClaS) : (stableA (ltOf cfC) C.toArray).toList = srtC C := by
  obtain ⟨h1, h2⟩ := srtC_ok C
  refine st_only _ _ ?_ h1 fun p => ?_
  · unfold Sorted
    rw [List.pairwise_iff_getElem]
    intro i j hi hj hij
    have ho := (stable_ok swo_C C.toArray).2 i j (Nat.zero_le _) hij (by simpa [size_stableA] using hj)
    have hi' : i < (stableA (ltOf cfC) C.toArray).size := by simpa using hi
    have hj' : j < (stableA (ltOf cfC) C.toArray).size := by simpa using hj
    rw [getElem!_pos _ i hi', getElem!_pos _ j hj', lt_cfC] at ho
    simpa using ho
  · rw [h2 p, stable_filter swo_C C.toArray (fun d => d.1 == p) fun x y hx hy => by rw [lt_cfC, eq_of_beq hx, eq_of_beq hy]; exact lt_irr _]
theorem PSortF_any (v : Value) (l : List FileS) (w : World) (base : Nat) (hb : base ≤ w.heap.size) (hv : OwnF w base v l) (hl : l.length ≤ 100000000) (hn : (l.map (·.1)).Nodup) :
    Calls Tryz.prog 55 #[v, .func (.func 56) #[] #[]] w fun e w' => e = .returned (.tuple #[]) ∧ OwnF w' base v (srtF l) ∧ w.grownBy w' v.ownBlock := by
  refine (Sf.own Tryz.sfF encF Tryz.isAgg28 Tryz.sizeOf28 cfF swo_F 56 #[] (enters_of Tryz.func56 (by kernel_rfl) rfl) 28 v l w base hb hv hl (fun x y W => DCmpF_any x y W)).mono ?_
  rintro e w' ⟨rfl, ys, hp, hs, h, hg⟩
  have e1 := perm_srt hn hp hs
  subst e1
  refine ⟨rfl, ?_, hg⟩
  unfold OwnF
  rw [srt_len]
  exact h
end Go.Proofs.YtbnafihigoekeaaGreatDoor
namespace Go.Proofs.YtbnafihigoekeaaGreatDoor
open Go.Shelf Go.RowKit Go.Lib Go.Sort
section
variable {P : Program} {ρ ρ2 : Ren} {α : Type} [Inhabited α]
set_option maxHeartbeats 2000000 in
theorem St.ownG (L : StL P ρ) (L2 : SlLaysF0.n20 P ρ2) (h71 : ρ2.f 20 = ρ.f 71) (h35 : ρ2.t 24 = ρ.t 35) (E : Enc α) (aE : ∀ w, (isAgg (ρ.t 35)).run P w = .ok true w) (zE : ∀ w, (Go.sizeOf (ρ.t 35)).run P w = .ok E.k w) (cf : α → α → Int) (g : Nat) (cb : Array Value)
    (eg : ∀ args w, (callFunc g args).run P w = .ok (.enter g args) w) (ty : TypeId) (v : Value) (xs : List α) (w : World) (base : Nat) (hb : base ≤ w.heap.size) (hv : w.ownsRow base ty E.k v xs.length (flatR E xs)) (hl : xs.length ≤ 100000000)
    (hcmp : ∀ (x y : α) (W : World), Calls P g (#[.agg (E.enc x).toArray, .agg (E.enc y).toArray] ++ cb) W fun e w' => e = .returned (.int .i64 (cf x y)) ∧ ∃ q os', w' = grow (W.drewN q) os') :
    Calls P (ρ.f 43) #[v, .func (.func g) #[] cb] w fun e w' => e = .returned (.tuple #[]) ∧ w'.ownsRow base ty E.k v xs.length (flatR E (stableA (ltOf cf) xs.toArray).toList) ∧ w.grownBy w' v.ownBlock := by
  have hv2 := hv
  rcases hv.2 with ⟨rfl, h0⟩ | ⟨gb, cap, cur, rfl, hbg, hg, h1, h2, h3, h4⟩
  · obtain rfl := List.eq_nil_of_length_eq_zero h0
    refine (St.top L _ _ 0 none 0 w (fun _ w' => w' = w) rfl (St.stable_none L L2 h71 none 0 _ w)).mono ?_
    rintro e w' ⟨rfl, rfl⟩
    refine ⟨rfl, ?_, ⟨rfl, rfl, rfl, Nat.le_refl _, fun _ _ _ => rfl⟩⟩
    have e0 : (stableA (ltOf cf) ([] : List α).toArray).toList = [] := by
      apply List.eq_nil_of_length_eq_zero
      rw [Array.length_toList, size_stableA]
      rfl
    rw [e0]
    exact hv2
  · have hH : HoldsK E.enc E.k w gb 0 xs.toArray := by
      unfold HoldsK
      rw [flatK_flatR]
      exact holds_of_cells hg (by rw [flatR_length]; exact h4)
    have hlt := (Array.getElem?_eq_some_iff.1 hg).1
    have hsz : xs.toArray.size ≤ 100000000 := by simpa using hl
    have hc := St.stable L E.k aE zE E.enc L2 h71 h35 cf g cb gb 0 cap xs.toArray xs.toArray w w eg (fun m os dk _ x y => hcmp x y _) ⟨E.len, E.one, hH, hlt⟩ rfl (SWK.start hH) hsz
    have hs0 : xs.toArray.size = xs.length := by simp
    rw [hs0] at hc
    refine (St.top L _ _ xs.length (some ⟨gb, 0, none⟩) cap w (fun _ w' => SWK E.enc E.k w gb 0 (stableA (ltOf cf) xs.toArray) w') rfl hc).mono ?_
    rintro e w' ⟨rfl, n, os, rfl⟩
    obtain ⟨Y, hY⟩ : ∃ Y, stableA (ltOf cf) xs.toArray = Y := ⟨_, rfl⟩
    have hYs : Y.size = xs.length := by rw [← hY, size_stableA]; exact hs0
    have hYl : Y.toList.length = xs.length := by rw [Array.length_toList]; exact hYs
    rw [hY]
    have hF : flatK E.enc E.k Y = (flatR E Y.toList).toArray := by
      have := flatK_flatR E Y.toList
      rwa [Array.toArray_toList] at this
    have hFl : (flatR E Y.toList).length = xs.length * E.k := by rw [flatR_length, hYl]
    unfold sortWorldK putRowK
    rw [hF]
    have hle : (flatR E Y.toList).length ≤ cur.size := by rw [hFl, h3]; exact Nat.mul_le_mul_right _ h1
    refine ⟨rfl, ⟨hFl, .inr ⟨gb, cap, _, rfl, hbg, heap_put_id _ hg, h1, h2, by simp [putCells, h3], by rw [← hFl]; exact take_put_id cur _ hle⟩⟩,
      grownBy_put_id _⟩
end
theorem srtC_lenM (C : List ClaS) : (srtC C).length = C.length := by rw [← stable_srt, Array.length_toList, size_stableA, List.size_toArray]
theorem PStCG_any (v : Value) (l : List ClaS) (w : World) (base : Nat) (hb : base ≤ w.heap.size) (hv : OwnC w base v l) (hl : l.length ≤ 100000000) :
    Calls Tryz.prog 58 #[v, .func (.func 59) #[] #[]] w fun e w' => e = .returned (.tuple #[]) ∧ OwnC w' base v (srtC l) ∧ w.grownBy w' v.ownBlock := by
  refine (St.ownG Tryz.stC Tryz.stC2 rfl rfl encC Tryz.isAgg36 Tryz.sizeOf36 cfC 59 #[] (enters_of Tryz.func59 (by kernel_rfl) rfl) 36 v l w base hb hv hl (fun x y W => DCmpC_any x y W)).mono ?_
  rintro e w' ⟨rfl, h, hg⟩
  rw [stable_srt] at h
  refine ⟨rfl, ?_, hg⟩
  unfold OwnC
  rw [srtC_lenM]
  exact h
section
set_option maxRecDepth 100000
set_option maxHeartbeats 4000000
theorem DSortM_any (kb gm : Nat) (v0 v1 : Value) (s : WhS) (w : World) (h : WhM kb gm v0 v1 s w) (hl : s.1.length ≤ 100000 ∧ s.2.length ≤ 100000) (hn : (s.1.map (·.1)).Nodup) :
    Calls Tryz.prog 29 #[.pointer (some ⟨kb, 0, none⟩)] w fun e w' => e = .returned (.tuple #[]) ∧ WhM kb gm v0 v1 (srtF s.1, srtC s.2) w' ∧ Below kb w w' := by
  obtain ⟨F, C⟩ := s
  have HLT := hid h.lt
  obtain ⟨vm, vc, hg, hfm, hc⟩ := h.ex
  have HG := hid hg
  have HF := hid hfm
  have HC := hid hc
  have HSF := hid (PSortF_any vm F w (kb + 1) h.lt hfm (by have := hl.1; simp only at this; omega) hn)
  have HSC := hid (fun wx (hv : OwnC wx (kb + 1) vc C) (hb : kb < wx.heap.size) => PStCG_any vc C wx (kb + 1) hb hv (by have := hl.2; simp only at this; omega))
  obtain ⟨fo, fc, rfl⟩ := owns_form hfm
  obtain ⟨co, cc, rfl⟩ := owns_form hc
  have c3 : w.cell? ⟨kb, 3, none⟩ = some (.slice fo F.length fc) := blk_cell (i := 3) hg rfl
  clear h hl hn hg hfm hc
  go_enter Tryz.func29, Tryz.ntmps29
  go_wp2_with (
      (go_at_call 55
       refine HSF.out.mono ?_
       rintro e w1 ⟨rfl, o1, g1⟩
       have hw1 := (g1.block kb HLT.out (fun e => own_ne_of HF.out HG.out Tryz.neM1 e.symm)).trans HG.out
       have HG1 := hid hw1
       have HF1 := hid o1
       have HC1 := hid (OwnC.beside HC.out HF.out g1)
       have HB1 := hid ((Below.refl kb w).grown g1 (Nat.le_of_lt HLT.out) (fun j hj => Nat.le_of_succ_le (World.ownsRow.lt HF.out j hj).1))
       have c4 : w1.cell? ⟨kb, 4, none⟩ = some (.slice co C.length cc) := blk_cell (i := 4) hw1 rfl
       clear o1 g1 hw1 c3))
  refine (HSC.out _ HC1.out (lt_of_block HG1.out)).mono ?_
  rintro e w2 ⟨rfl, o2, g2⟩
  have hw2 := (g2.block kb (lt_of_block HG1.out) (fun e => own_ne_of HC1.out HG1.out Tryz.neM2 e.symm)).trans HG1.out
  have HG2 := hid hw2
  have HF2 := hid (OwnF.besideC HF1.out HC1.out g2)
  have HC2 := hid o2
  have HB2 := hid (HB1.out.grown g2 (Nat.le_of_lt (lt_of_block HG1.out)) (fun j hj => Nat.le_of_succ_le (World.ownsRow.lt HC1.out j hj).1))
  clear o2 g2 hw2 c4
  go_wp2_with fail
  go_end0
  exact ⟨rfl, ⟨_, _, HG2.out, HF2.out, HC2.out⟩, HB2.out⟩
end
end Go.Proofs.YtbnafihigoekeaaGreatDoor
namespace Go.Proofs.YtbnafihigoekeaaGreatDoor
def tmT (a b c : List FileS) : List FileS × List ClaS × Nat := tmS a b c (renS a b) (renS a c)
theorem added_len (base side : List FileS) (R : List MvS) : (addedS base side R).length ≤ side.length := List.length_filter_le _ _
end Go.Proofs.YtbnafihigoekeaaGreatDoor
namespace Go.Proofs.YtbnafihigoekeaaGreatDoor
open Go.RowKit
theorem ent_some {a : List FileS} {R : List MvS} {i : Nat} {g : Txt × Nat → Option FileS} {l : List FileS} {q : Txt × Nat} {y : FileS} (h : entF a R i g l q = some y) : y ∈ l ∨ g q = some y := by
  unfold entF at h
  rw [fold_upd (fun f : FileS => (spotF a R f.1, i)) (fun f => f)] at h
  split at h
  · rename_i z hz
    cases h
    exact .inl (List.mem_filter.1 (List.mem_of_getLast? hz)).1
  · exact .inr h
theorem look_some {a b c : List FileS} {P Q : List MvS} {q : Txt × Nat} {y : FileS} (h : lookF a b c P Q q = some y) : y ∈ b ∨ y ∈ c := by
  rcases ent_some h with h | h
  · exact .inr h
  · rcases ent_some h with h | h
    · exact .inl h
    · cases h
theorem foldl_same {α β : Type} {f g : β → α → β} : ∀ (l : List α) (s : β), (∀ x ∈ l, ∀ s, f s x = g s x) → l.foldl f s = l.foldl g s
  | [], _, _ => rfl
  | x :: l, s, h => by rw [List.foldl_cons, List.foldl_cons, h x (List.mem_cons_self ..), foldl_same l _ fun y hy => h y (List.mem_cons_of_mem _ hy)]
theorem tm_look {a b c : List FileS} {P Q : List MvS} (tb : Rise b) (tc : Rise c) (hP : RenP a b P) (hQ : RenP a c Q) :
    (addedS a c Q).foldl (addTL (lookF a b c P Q)) ((addedS a b P).foldl (addOL (lookF a b c P Q)) (a.foldl (fun s b' => keepW s b' (lookF a b c P Q (b'.1, 0)) (lookF a b c P Q (b'.1, 1))) ([], []))) = tmW a b c P Q := by
  have hn : ∀ {side : List FileS} {R : List MvS} (x : FileS), x ∈ addedS a side R → findS a x.1 = none := fun {side R} x hx => by
    have h := (List.mem_filter.1 hx).2
    unfold addOne at h
    rw [Bool.and_eq_true] at h
    simpa using h.1
  have e1 : a.foldl (fun s b' => keepW s b' (lookF a b c P Q (b'.1, 0)) (lookF a b c P Q (b'.1, 1))) ([], []) = keepAll ([], []) a b c P Q :=
    foldl_same _ _ fun x hx s => by
      simp only [look0 tb hP, look1 tc hQ, find_is hx, if_true]
  have e2 : ∀ s, (addedS a b P).foldl (addOL (lookF a b c P Q)) s = (addedS a b P).foldl (addOW (addedS a c Q)) s := fun s =>
    foldl_same _ _ fun x hx s => by
      unfold addOL addOW
      rw [look1 tc hQ, hn x hx, if_neg (by simp)]
      cases findS (addedS a c Q) x.1 with
      | none => rfl
      | some t =>
        simp only
        by_cases e : x = t
        · rw [if_pos e, if_pos e, if_pos e.symm]
        · rw [if_neg e, if_neg e, if_neg (fun h => e h.symm)]
  have e3 : ∀ s, (addedS a c Q).foldl (addTL (lookF a b c P Q)) s = (addedS a c Q).foldl (addTW (addedS a b P)) s := fun s =>
    foldl_same _ _ fun x hx s => by
      unfold addTL addTW
      rw [look0 tb hP, hn x hx]
      rfl
  rw [e1, e2, e3]
  rfl
theorem few_fold {α : Type} {g : WhS → α → WhS} : ∀ (l : List α) (s : WhS) (n : Nat), (∀ x ∈ l, ∀ s n, FewW s n → FewW (g s x) (n + 1)) → FewW s n → FewW (l.foldl g s) (n + l.length)
  | [], _, _, _, h => h
  | x :: l, s, n, hg, h => by
    rw [List.foldl_cons, List.length_cons, show n + (l.length + 1) = n + 1 + l.length by omega]
    exact few_fold l _ _ (fun y hy => hg y (List.mem_cons_of_mem _ hy)) (hg x (List.mem_cons_self ..) s n h)
theorem tree_len {l : List FileS} (h : IsTree l) : ∀ f ∈ l, f.1.length ≤ 1000000 := fun f hf => by
  have := okOne_len (h.ok f hf)
  omega
section
set_option maxRecDepth 100000
set_option maxHeartbeats 16000000
theorem DMergeT_any (va vb vc : Value) (a b c : List FileS) (w : World) (ha : SlF w va a) (hb : SlF w vb b) (hc : SlF w vc c) (la : IsTree a → ∀ f ∈ a, f.2.2.length ≤ 3000) (lb : IsTree b → ∀ f ∈ b, f.2.2.length ≤ 3000) (lc : IsTree c → ∀ f ∈ c, f.2.2.length ≤ 3000) :
    Calls Tryz.prog 14 #[va, vb, vc] w fun e w' => ∃ x y, e = .returned (.tuple #[x, y, .int .i64 ((tmT a b c).2.2 : Nat)]) ∧ SlF w' x (tmT a b c).1 ∧ SlCl w' y (tmT a b c).2.1 ∧ Below w.heap.size w w' := by
  obtain ⟨ao, ac, rfl⟩ := SlR.form ha
  obtain ⟨bo, bc, rfl⟩ := SlR.form hb
  obtain ⟨co, cc, rfl⟩ := SlR.form hc
  have HA := hid ha
  have HB := hid hb
  have HC := hid hc
  have HT := hid (And.intro la (And.intro lb lc))
  clear ha hb hc la lb lc
  obtain ⟨ra, hra⟩ : ∃ z, rightT a = z := ⟨_, rfl⟩
  obtain ⟨rb, hrb⟩ : ∃ z, rightT b = z := ⟨_, rfl⟩
  obtain ⟨rc, hrc⟩ : ∃ z, rightT c = z := ⟨_, rfl⟩
  have HRA := hid (fun wx (hk : Below w.heap.size w wx) => DRightT_any _ a wx (SlR.old HA.out hk))
  have HRB := hid (fun wx (hk : Below w.heap.size w wx) => DRightT_any _ b wx (SlR.old HB.out hk))
  have HRC := hid (fun wx (hk : Below w.heap.size w wx) => DRightT_any _ c wx (SlR.old HC.out hk))
  have HR0 := hid (And.intro hra (And.intro hrb hrc))
  rw [hra] at HRA
  rw [hrb] at HRB
  rw [hrc] at HRC
  clear hra hrb hrc
  have HTF := hid (show (ra && (rb && rc)) = false → tmT a b c = ([], [], 5) from fun h => by
    unfold tmT tmS
    rw [HR0.out.1, HR0.out.2.1, HR0.out.2.2, if_neg]
    rintro ⟨rfl, rfl, rfl⟩
    cases h)
  have HB0 := hid (Below.refl w.heap.size w)
  go_enter Tryz.func14, Tryz.ntmps14
  go_wp2_with fail
  refine (HRA.out w HB0.out).mono ?_
  rintro e w1 ⟨rfl, hb⟩
  have HB1 := hid hb
  clear hb
  cases ra with
  | false =>
    have HE := hid (HTF.out rfl)
    go_wp2_with fail
    refine bodyPost_ret (results_tmp3 rfl _ _ _) rfl ?_
    exact ⟨_, _, by rw [HE.out]; rfl, by rw [HE.out]; exact SlR.nil _, by rw [HE.out]; exact SlR.nil _, HB1.out⟩
  | true =>
  go_wp2_with fail
  refine (HRB.out w1 HB1.out).mono ?_
  rintro e w2 ⟨rfl, hb⟩
  have HB2 := hid (below_step HB1.out hb HB1.out.size)
  clear hb
  cases rb with
  | false =>
    have HE := hid (HTF.out rfl)
    go_wp2_with fail
    refine bodyPost_ret (results_tmp3 rfl _ _ _) rfl ?_
    exact ⟨_, _, by rw [HE.out]; rfl, by rw [HE.out]; exact SlR.nil _, by rw [HE.out]; exact SlR.nil _, HB2.out⟩
  | true =>
  go_wp2_with fail
  refine (HRC.out w2 HB2.out).mono ?_
  rintro e w3 ⟨rfl, hb⟩
  have HB3 := hid (below_step HB2.out hb HB2.out.size)
  clear hb
  cases rc with
  | false =>
    have HE := hid (HTF.out rfl)
    go_wp2_with fail
    refine bodyPost_ret (results_tmp3 rfl _ _ _) rfl ?_
    exact ⟨_, _, by rw [HE.out]; rfl, by rw [HE.out]; exact SlR.nil _, by rw [HE.out]; exact SlR.nil _, HB3.out⟩
  | true =>
  have HTA := hid ((rightT_iff a).1 HR0.out.1)
  have HTB := hid ((rightT_iff b).1 HR0.out.2.1)
  have HTC := hid ((rightT_iff c).1 HR0.out.2.2)
  have HT := hid (And.intro (HT.out.1 HTA.out) (And.intro (HT.out.2.1 HTB.out) (HT.out.2.2 HTC.out)))
  have HTT := hid (show tmT a b c = if rightT (srtF (tmW a b c (renS a b) (renS a c)).1) = true then (srtF (tmW a b c (renS a b) (renS a c)).1, srtC (tmW a b c (renS a b) (renS a c)).2, 0) else ([], [], 6) by
    unfold tmT tmS
    rw [if_pos HR0.out])
  clear HTF HR0 HRA HRB HRC HB0 HB1 HB2
  go_wp2_with fail
  refine (DSidesOf_any _ _ _ a b c w3 (SlR.old HA.out HB3.out) (SlR.old HB.out HB3.out) (SlR.old HC.out HB3.out) HTA.out HTB.out HTC.out).mono ?_
  rintro e w4 ⟨gm, v0, v1, rfl, hsv, hb⟩
  have HB4 := hid (below_step HB3.out hb HB3.out.size)
  have HSV := hid hsv
  have HP := hid (RenEx.ok HTA.out.rise HTB.out.rise (ren_exB HTA.out HTB.out))
  have HQ := hid (RenEx.ok HTA.out.rise HTC.out.rise (ren_exB HTA.out HTC.out))
  clear hb hsv HB3
  have HTM := hid (tm_look HTB.out.rise HTC.out.rise HP.out HQ.out)
  have HLK := hid (show ∀ p i g, lookF a b c (renS a b) (renS a c) (p, i) = some g → g.1.length ≤ 1000000 ∧ g.2.2.length ≤ 3000 from fun p i g h => by
    rcases look_some h with h | h
    · exact ⟨tree_len HTB.out g h, HT.out.2.1 g h⟩
    · exact ⟨tree_len HTC.out g h, HT.out.2.2 g h⟩)
  have HAP := hid (apart_ne (tm_apart a b c (renS a b) (renS a c)))
  have HAO := hid (show (addedS a b (renS a b)).length ≤ 100 ∧ ∀ x ∈ addedS a b (renS a b), x.1.length ≤ 1000000 ∧ x.2.2.length ≤ 3000 from ⟨Nat.le_trans (added_len _ _ _) HTB.out.len, fun x hx => ⟨tree_len HTB.out x (List.mem_filter.1 hx).1, HT.out.2.1 x (List.mem_filter.1 hx).1⟩⟩)
  have HAT := hid (show (addedS a c (renS a c)).length ≤ 100 ∧ ∀ x ∈ addedS a c (renS a c), x.1.length ≤ 1000000 ∧ x.2.2.length ≤ 3000 from ⟨Nat.le_trans (added_len _ _ _) HTC.out.len, fun x hx => ⟨tree_len HTC.out x (List.mem_filter.1 hx).1, HT.out.2.2 x (List.mem_filter.1 hx).1⟩⟩)
  have HAA := hid (show a.length ≤ 100 ∧ ∀ x ∈ a, x.1.length ≤ 1000000 ∧ x.2.2.length ≤ 3000 from ⟨HTA.out.len, fun x hx => ⟨tree_len HTA.out x hx, HT.out.1 x hx⟩⟩)
  have HA4 := hid (SlR.old HA.out HB4.out)
  clear HA HB HC HP HQ HT HTA HTB HTC
  generalize renS a b = rP at *
  generalize renS a c = rQ at *
  generalize lookF a b c rP rQ = f at *
  generalize tmW a b c rP rQ = T at *
  obtain ⟨vX, hX⟩ : ∃ X, addedS a b rP = X := ⟨_, rfl⟩
  obtain ⟨vY, hY⟩ : ∃ Y, addedS a c rQ = Y := ⟨_, rfl⟩
  rw [hX, hY] at HTM HSV
  rw [hX] at HAO
  rw [hY] at HAT
  clear hX hY
  obtain ⟨n, D, hms, hsD, h0, h1, hgm⟩ := HSV.out
  obtain ⟨o0, k0, rfl⟩ := owns_form h0
  obtain ⟨o1, k1, rfl⟩ := owns_form h1
  have HMS := hid hms
  have HSD := hid hsD
  have HX := hid (OwnF.sl h0)
  have HY := hid (OwnF.sl h1)
  clear hms hsD h0 h1 hgm HSV
  go_wp2_with (refine file_store rfl 57 _ _ rfl _ #[.map (some gm), .slice o0 vX.length k0, .slice o1 vY.length k1, .slice none 0 0, .slice none 0 0] rfl rfl _ _ (heap_alloc_new _ _) 5 Tryz.sizeMerging rfl rfl (by simp [Value.oneCell']) ?_; intro w5 hg hk; have hb : Below w4.heap.size w4 w5 := ((Below.refl _ w4).alloc (Nat.le_refl _) _).trans (hk.below (by simp) (fun j hj e => by omega)); have HG5 := hid (hg); have HB5 := hid hb; clear hb hg hk)
  have HW5 := hid (show WhM w4.heap.size gm (.slice o0 vX.length k0) (.slice o1 vY.length k1) ([], []) w5 from ⟨_, _, HG5.out, World.ownsRow_nil _ _ _ _, World.ownsRow_nil _ _ _ _⟩)
  obtain ⟨kb, hkb⟩ : ∃ g, w4.heap.size = g := ⟨_, rfl⟩
  have HKB := hid hkb
  rw [hkb] at HG5 HB5 HW5 ⊢
  clear HG5
  have HF0 := hid (show FewW ([], []) 0 from ⟨Nat.le_refl _, Nat.le_refl _, fun _ h => by cases h⟩)
  have HK := hid (fun wx h hb => DKeep_any kb gm (.slice o0 vX.length k0) (.slice o1 vY.length k1) f w4 wx n D ([], []) h hb HKB.out HMS.out HSD.out (HF0.out.mono (by omega)) HLK.out _ a HA4.out HAA.out.1 HAA.out.2)
  have HF1 := hid (few_fold (g := fun s b' => keepW s b' (f (b'.1, 0)) (f (b'.1, 1))) a _ _ (fun x hx s n h => h.keep x (fun g hg => (HLK.out _ _ g hg).1) (fun g hg => (HLK.out _ _ g hg).1)) HF0.out)
  generalize a.foldl (fun s b' => keepW s b' (f (b'.1, 0)) (f (b'.1, 1))) ([], []) = s1 at *
  have HO := hid (fun wx h hb => DAddOurs_any kb gm (0 + a.length) (.slice o0 vX.length k0) (.slice o1 vY.length k1) f w4 wx n D s1 h hb HKB.out HMS.out HSD.out HF1.out HLK.out (by have := HAA.out.1; omega) vX HX.out HAO.out.1 HAO.out.2)
  have HF2 := hid (few_fold (g := addOL f) vX _ _ (fun x hx s n h => h.addO (HAO.out.2 x hx).1) HF1.out)
  generalize vX.foldl (addOL f) s1 = s2 at *
  have HTH := hid (fun wx h hb => DAddTheirs_any kb gm (0 + a.length + vX.length) (.slice o0 vX.length k0) (.slice o1 vY.length k1) f w4 wx n D s2 h hb HKB.out HMS.out HSD.out HF2.out HLK.out (by have := HAA.out.1; have := HAO.out.1; omega) vY HY.out HAT.out.1 HAT.out.2)
  have HF3 := hid (few_fold (g := addTL f) vY _ _ (fun x hx s n h => h.addT (HAT.out.2 x hx).1) HF2.out)
  rw [HTM.out] at HTH HF3
  clear HTM HLK
  have HSO := hid (fun wx h => DSortM_any kb gm (.slice o0 vX.length k0) (.slice o1 vY.length k1) T wx h (by have h1 := HF3.out.files; have h2 := HF3.out.cl; have := HAA.out.1; have := HAO.out.1; have := HAT.out.1; omega) HAP.out)
  clear hkb
  refine (HK.out _ HW5.out HB5.out).mono ?_
  rintro e w6 ⟨rfl, h, hb⟩
  have HW6 := hid h
  have HB6 := hid hb
  clear h hb HW5 HB5 HK
  go_wp2_with fail
  refine (HO.out _ HW6.out HB6.out).mono ?_
  rintro e w7 ⟨rfl, h, hb⟩
  have HW7 := hid h
  have HB7 := hid hb
  clear h hb HW6 HB6 HO
  go_wp2_with fail
  refine (HTH.out _ HW7.out HB7.out).mono ?_
  rintro e w8 ⟨rfl, h, hb⟩
  have HW8 := hid h
  have HB8 := hid hb
  clear h hb HW7 HB7 HTH
  go_wp2_with fail
  refine (HSO.out _ HW8.out).mono ?_
  rintro e w9 ⟨rfl, h, hb⟩
  have HB9 := hid (HB8.out.trans hb)
  obtain ⟨vm, vc, hg, hfm, hcm⟩ := h.ex
  obtain ⟨fo, fc, rfl⟩ := owns_form hfm
  obtain ⟨go, gc, rfl⟩ := owns_form hcm
  have c3 : w9.cell? ⟨kb, 3, none⟩ = some (.slice fo (srtF T.1).length fc) := blk_cell (i := 3) hg rfl
  have c4 : w9.cell? ⟨kb, 4, none⟩ = some (.slice go (srtC T.2).length gc) := blk_cell (i := 4) hg rfl
  have HBT := hid (show Below w.heap.size w w9 from below_step HB4.out (by rw [HKB.out]; exact HB9.out) HB4.out.size)
  have HFM := hid (OwnF.sl hfm)
  have HCM := hid (OwnC.sl hcm)
  clear h hb HW8 HB8 HSO hg hfm hcm HB9
  have HR := hid (DRightT_any _ _ w9 HFM.out)
  obtain ⟨r, hr⟩ : ∃ z, rightT (srtF T.1) = z := ⟨_, rfl⟩
  rw [hr] at HR HTT
  clear hr
  go_wp2_with fail
  refine HR.out.mono ?_
  rintro e w10 ⟨rfl, hb⟩
  have HB10 := hid (below_step HBT.out hb HBT.out.size)
  have HFM := hid (SlR.old HFM.out hb)
  have HCM := hid (SlR.old HCM.out hb)
  have d3 := below_cell hb c3
  have d4 := below_cell hb c4
  clear hb c3 c4 HR
  cases r with
  | false =>
    have HE := hid (show tmT a b c = ([], [], 6) by rw [HTT.out]; rfl)
    go_wp2_with fail
    refine bodyPost_ret (results_tmp3 rfl _ _ _) rfl ?_
    exact ⟨_, _, by rw [HE.out]; rfl, by rw [HE.out]; exact SlR.nil _, by rw [HE.out]; exact SlR.nil _, HB10.out⟩
  | true =>
    have HE := hid (show tmT a b c = (srtF T.1, srtC T.2, 0) by rw [HTT.out]; rfl)
    go_wp2_with fail
    go_region
    go_wp2_with fail
    refine bodyPost_ret (results_tmp3 rfl _ _ _) rfl ?_
    exact ⟨_, _, by rw [HE.out]; rfl, by rw [HE.out]; exact SlR.old HFM.out (Below.refl _ _).drew, by rw [HE.out]; exact SlR.old HCM.out (Below.refl _ _).drew, HB10.out.drew⟩
end
end Go.Proofs.YtbnafihigoekeaaGreatDoor
namespace Go.Proofs.YtbnafihigoekeaaGreatDoor
open Go.RowKit
def sumT (l : List FileS) : Nat := (l.map fun f => f.2.2.length).sum
def FewB (l : List FileS) (e : Ending) : Prop := ∃ b : Bool, e = .returned (.bool b) ∧ (b = true → l.length ≤ 20 ∧ ((∀ f ∈ l, f.2.2.length ≤ 20000) → ∀ f ∈ l, f.2.2.length ≤ 2000))
section
set_option maxRecDepth 100000
set_option maxHeartbeats 4000000
end
theorem SlF.two {w : World} {q : Nat} {p1 t1 p2 t2 : Txt} {x1 x2 : Bool} (h : w.heap[q]? = some (.cells #[.string ⟨p1.toArray⟩, .bool x1, .string ⟨t1.toArray⟩, .string ⟨p2.toArray⟩, .bool x2, .string ⟨t2.toArray⟩] 28 (0, 0))) : SlF w (.slice (some ⟨q, 0, none⟩) 2 2) [(p1, x1, t1), (p2, x2, t2)] :=
  OwnF.sl (base := 0) ⟨rfl, .inr ⟨q, 2, _, rfl, Nat.zero_le _, h, by first | decide | simp | rfl, by first | decide | simp | rfl | omega, rfl, rfl⟩⟩
theorem awake_tm : tmT [([97], false, [120, 10])] [([97], false, [121, 10])] [([97], false, [120, 10]), ([98], false, [])] = ([([97], false, [121, 10]), ([98], false, [])], [], 0) := by decide +kernel
section
set_option maxRecDepth 100000
set_option maxHeartbeats 4000000
theorem awake_any (w : World) : Calls Tryz.prog 11 #[] w fun e w' => e = .returned (.bool true) ∧ Below w.heap.size w w' := by
  have HM := hid (fun (va vb vc : Value) (wx : World) h1 h2 h3 => DMergeT_any va vb vc [([97], false, [120, 10])] [([97], false, [121, 10])] [([97], false, [120, 10]), ([98], false, [])] wx h1 h2 h3 (fun _ f hf => by simp only [List.mem_cons, List.not_mem_nil, or_false] at hf; subst hf; simp) (fun _ f hf => by simp only [List.mem_cons, List.not_mem_nil, or_false] at hf; subst hf; simp) (fun _ f hf => by simp only [List.mem_cons, List.not_mem_nil, or_false] at hf; rcases hf with rfl | rfl <;> simp))
  rw [awake_tm] at HM
  have HB0 := hid (show Below w.heap.size w (((w.alloc (.cells #[.string ⟨#[97]⟩, .bool false, .string ⟨#[120, 10]⟩] 28)).alloc (.cells #[.string ⟨#[97]⟩, .bool false, .string ⟨#[121, 10]⟩] 28)).alloc (.cells #[.string ⟨#[97]⟩, .bool false, .string ⟨#[120, 10]⟩, .string ⟨#[98]⟩, .bool false, .string ⟨#[]⟩] 28)) from (((Below.refl _ w).alloc (Nat.le_refl _) _).alloc (by simp) _).alloc (by simp; omega) _)
  have HA := hid (show SlF (((w.alloc (.cells #[.string ⟨#[97]⟩, .bool false, .string ⟨#[120, 10]⟩] 28)).alloc (.cells #[.string ⟨#[97]⟩, .bool false, .string ⟨#[121, 10]⟩] 28)).alloc (.cells #[.string ⟨#[97]⟩, .bool false, .string ⟨#[120, 10]⟩, .string ⟨#[98]⟩, .bool false, .string ⟨#[]⟩] 28)) (.slice (some ⟨w.heap.size, 0, none⟩) 1 1) [([97], false, [120, 10])] from SlR.alloc (SlR.alloc (SlR.one (heap_alloc_new w _) rfl) _) _)
  have HB := hid (show SlF (((w.alloc (.cells #[.string ⟨#[97]⟩, .bool false, .string ⟨#[120, 10]⟩] 28)).alloc (.cells #[.string ⟨#[97]⟩, .bool false, .string ⟨#[121, 10]⟩] 28)).alloc (.cells #[.string ⟨#[97]⟩, .bool false, .string ⟨#[120, 10]⟩, .string ⟨#[98]⟩, .bool false, .string ⟨#[]⟩] 28)) (.slice (some ⟨(w.alloc (.cells #[.string ⟨#[97]⟩, .bool false, .string ⟨#[120, 10]⟩] 28)).heap.size, 0, none⟩) 1 1) [([97], false, [121, 10])] from SlR.alloc (SlR.one (heap_alloc_new (w.alloc (.cells #[.string ⟨#[97]⟩, .bool false, .string ⟨#[120, 10]⟩] 28)) _) rfl) _)
  have HC := hid (show SlF (((w.alloc (.cells #[.string ⟨#[97]⟩, .bool false, .string ⟨#[120, 10]⟩] 28)).alloc (.cells #[.string ⟨#[97]⟩, .bool false, .string ⟨#[121, 10]⟩] 28)).alloc (.cells #[.string ⟨#[97]⟩, .bool false, .string ⟨#[120, 10]⟩, .string ⟨#[98]⟩, .bool false, .string ⟨#[]⟩] 28)) (.slice (some ⟨((w.alloc (.cells #[.string ⟨#[97]⟩, .bool false, .string ⟨#[120, 10]⟩] 28)).alloc (.cells #[.string ⟨#[97]⟩, .bool false, .string ⟨#[121, 10]⟩] 28)).heap.size, 0, none⟩) 2 2) [([97], false, [120, 10]), ([98], false, [])] from SlF.two (heap_alloc_new ((w.alloc (.cells #[.string ⟨#[97]⟩, .bool false, .string ⟨#[120, 10]⟩] 28)).alloc (.cells #[.string ⟨#[97]⟩, .bool false, .string ⟨#[121, 10]⟩] 28)) _))
  rw [show (w.alloc (.cells #[.string ⟨#[97]⟩, .bool false, .string ⟨#[120, 10]⟩] 28)).heap.size = w.heap.size + 1 by simp] at HB
  rw [show ((w.alloc (.cells #[.string ⟨#[97]⟩, .bool false, .string ⟨#[120, 10]⟩] 28)).alloc (.cells #[.string ⟨#[97]⟩, .bool false, .string ⟨#[121, 10]⟩] 28)).heap.size = w.heap.size + 1 + 1 by simp] at HC
  go_enter Tryz.func11, Tryz.ntmps11
  go_wp2_with fail
  refine (HM.out _ _ _ _ HA.out HB.out HC.out).mono ?_
  rintro e w4 ⟨x, y, rfl, hx, hy, hb⟩
  have hB4 := hid (below_step HB0.out hb HB0.out.size)
  have HX := hid hx
  obtain ⟨xo, xc, hxe⟩ := SlR.form hx
  obtain ⟨yo, yc, hye⟩ := SlR.form hy
  have hx2 : x = .slice xo 2 xc := hxe
  have hy2 : y = .slice yo 0 yc := hye
  subst hx2
  subst hy2
  obtain ⟨b1, o1, p, xx, t, e1, he, c1, c2, c3⟩ := SlF.at HX.out (i := 0) (by simp)
  cases he
  subst e1
  clear hb hxe hye hx hy HA HB HC HM HB0 HX
  simp only [Nat.zero_mul, Nat.add_zero] at c1 c2 c3
  go_wp2_with fail
  go_ret
  exact ⟨rfl, hB4.out⟩
end
end Go.Proofs.YtbnafihigoekeaaGreatDoor
namespace Go.Proofs.YtbnafihigoekeaaGreatDoor
open Go.RowKit
section
set_option maxRecDepth 100000
set_option maxHeartbeats 4000000
theorem eq1C_any (f g : ClaS) (w : World) :
    Calls Tryz.prog 39 #[.agg (encC.enc f).toArray, .agg (encC.enc g).toArray] w fun e w' => e = .returned (.bool (f == g)) ∧ Below w.heap.size w w' := by
  obtain ⟨p1, x1, t1⟩ := f
  obtain ⟨p2, x2, t2⟩ := g
  have he := cla_eql p1 t1 p2 t2 x1 x2
  obtain ⟨tt, htt⟩ : ∃ tt, (((p1, x1, t1) : ClaS) == (p2, x2, t2)) = tt := ⟨_, rfl⟩
  rw [htt] at he ⊢
  clear htt
  show Calls Tryz.prog 39 #[.agg #[.string ⟨p1.toArray⟩, .int .i64 x1, .string ⟨t1.toArray⟩], .agg #[.string ⟨p2.toArray⟩, .int .i64 x2, .string ⟨t2.toArray⟩]] w _
  go_enter Tryz.func39, Tryz.ntmps39
  go_wp2
  all_goals go_ret
  all_goals refine ⟨rfl, ((Below.refl _ _).alloc (Nat.le_refl _) _).alloc (by simp) _⟩
theorem SameC_at (a b : Value) (x y : List ClaS) (w : World) (ha : SlCl w a x) (hb : SlCl w b y) (hx : x.length ≤ 1000000) :
    Calls Tryz.prog 38 #[a, b, .func (Fn.func 39) #[] #[]] w fun e w' => e = .returned (.bool (x == y)) ∧ Below w.heap.size w w' := by
  obtain ⟨aa, ca, rfl⟩ := SlR.form ha
  obtain ⟨ab, cb, rfl⟩ := SlR.form hb
  by_cases hl : x.length = y.length
  · have hne : (x.length != y.length) = false := by simp [hl]
    have hne' : ((x.length : Int) != (y.length : Int)) = false := by simp [hl]
    have HL := hid hl
    clear hl
    go_enter Tryz.func38, Tryz.ntmps38
    go_wp2
    go_loopw [7] (fun i wr => ∃ k : Nat, k ≤ x.length ∧ i = .int .i64 k ∧ x.take k = y.take k ∧ Below w.heap.size w wr) (fun i _ => x.length - (intOf i).toNat)
    case atStart => exact ⟨0, Nat.zero_le _, rfl, rfl, Below.refl _ _⟩
    case round =>
      obtain ⟨k, hk, rfl, heq, hbel⟩ := hrel
      by_cases hlt : k < x.length
      · obtain ⟨b1, o1, ⟨p1, x1, t1⟩, rfl, hb1, hc1⟩ := SlR.at' (E := encC) (SlR.old ha hbel) (i := k) hlt
        obtain ⟨b2, o2, ⟨p2, x2, t2⟩, rfl, hb2, hc2⟩ := SlR.at' (E := encC) (SlR.old hb hbel) (i := k) (by rw [← HL.out]; exact hlt)
        have hlt2 : k < y.length := by rw [← HL.out]; exact hlt
        have i0 : (0 : Int) ≤ (k : Int) := Int.natCast_nonneg _
        have i1 : (k : Int) < (x.length : Int) := by omega
        have i2 : (k : Int) < (y.length : Int) := by omega
        obtain ⟨C, hC⟩ : ∃ C : World → Prop, C = fun wy => Below wr.heap.size wr wy := ⟨_, rfl⟩
        have ra : ∀ wy, C wy → wy.rangeAt b1 (o1 + k * 3) [.string ⟨p1.toArray⟩, .int .i64 x1, .string ⟨t1.toArray⟩] := by
          rw [hC]
          exact fun wy h j u hu => (World.cell?_of_block (w := wr) (h.block _ (World.block_lt_of_cell? wr _ (hc1 j u hu)))).trans (hc1 j u hu)
        have rb : ∀ wy, C wy → wy.rangeAt b2 (o2 + k * 3) [.string ⟨p2.toArray⟩, .int .i64 x2, .string ⟨t2.toArray⟩] := by
          rw [hC]
          exact fun wy h j u hu => (World.cell?_of_block (w := wr) (h.block _ (World.block_lt_of_cell? wr _ (hc2 j u hu)))).trans (hc2 j u hu)
        obtain ⟨tt, htt⟩ : ∃ tt, (((p1, x1, t1) : ClaS) == (p2, x2, t2)) = tt := ⟨_, rfl⟩
        have HEQ := hid (show ∀ wy, C wy → Calls Tryz.prog 39 #[.agg #[.string ⟨p1.toArray⟩, .int .i64 x1, .string ⟨t1.toArray⟩], .agg #[.string ⟨p2.toArray⟩, .int .i64 x2, .string ⟨t2.toArray⟩]] wy fun e w' => e = .returned (.bool tt) ∧ C w' from fun wy hy => by
          rw [← htt]
          refine (eq1C_any (p1, x1, t1) (p2, x2, t2) wy).mono fun e w' h => ⟨h.1, ?_⟩
          rw [hC] at hy ⊢
          exact below_step hy h.2 hy.size)
        have hCd : C wr.drew := by rw [hC]; exact ⟨rfl, rfl, rfl, Nat.le_refl _, fun _ _ => rfl⟩
        have HCW := hid (show ∀ wy, C wy → Below w.heap.size w wy from fun wy h => by rw [hC] at h; exact below_step hbel h hbel.size)
        have HRA := hid ra
        have HRB := hid rb
        have hse : (Tryz.prog.info? 36).map (·.size) = some 3 := by kernel_rfl
        have HIA := hid hse
        have HT := hid htt
        have HE := hid heq
        have HB1 := hid hb1
        have HB2 := hid hb2
        have HCD := hid hCd
        clear hC hc1 hc2 ra rb hCd hse htt heq hb1 hb2 ha hb hbel
        go_wp2_with fail
        refine quiet_region C (by kernel_rfl) (by kernel_rfl) HCD.out ?_
        repeat (first
          | go_big_quiet_skip
          | (go_big_quiet_want; first
            | (refine quiet_load 36 _ rfl b1 (o1 + k * 3) rfl _ _ HRA.out Tryz.underlying36 rfl HIA.out ?_; simp only [Act.put, List.setIfInBounds_toArray, List.set_cons_zero, List.set_cons_succ]; go_big_quiet_on)
            | (refine quiet_load 36 _ rfl b2 (o2 + k * 3) rfl _ _ HRB.out Tryz.underlying36 rfl HIA.out ?_; simp only [Act.put, List.setIfInBounds_toArray, List.set_cons_zero, List.set_cons_succ]; go_big_quiet_on)
            | (go_big_quiet_op; first
              | go_big_quiet_on
              | (apply Exists.intro; with_reducible refine ⟨fun _ _ => rfl, ?_⟩; go_big_quiet_on)
              | (apply Exists.intro
                 refine ⟨fun wy hy => ?_, ?_⟩
                 · with_reducible exact HEQ.out wy hy
                 go_big_quiet_on))))
        refine wpQuiet_nil ?_
        intro w5 hC5
        have hbw := HCW.out w5 hC5
        clear hC5
        cases tt with
        | true =>
          have h12 : ((p1, x1, t1) : ClaS) = (p2, x2, t2) := by have := HT.out; rwa [beq_iff_eq] at this
          have R := hid (show x.take (k + 1) = y.take (k + 1) by rw [take_snoc HB1.out, take_snoc HB2.out, HE.out, h12])
          clear h12
          go_wp2
          go_roundw
          case rel => exact ⟨k + 1, by omega, by go_num, R.out, hbw⟩
          case measure => simp [intOf]; omega
        | false =>
          have hxy := hid (show (x == y) = false by
            have h12 : ((p1, x1, t1) : ClaS) ≠ (p2, x2, t2) := by have := HT.out; rwa [beq_eq_false_iff_ne] at this
            rw [beq_eq_false_iff_ne]
            intro e
            subst e
            have := HB1.out.symm.trans HB2.out
            exact h12 (Option.some.inj this))
          go_wp2
          go_ret
          rw [hxy.out]
          exact ⟨rfl, hbw⟩
      · obtain rfl : k = x.length := by omega
        have hxy := hid (show (x == y) = true by
          rw [List.take_length, HL.out, List.take_length] at heq
          rw [beq_iff_eq]
          exact heq)
        clear heq
        go_wp2
        go_ret
        rw [hxy.out]
        exact ⟨rfl, hbel⟩
  · have hne : (x.length != y.length) = true := by simpa using hl
    have hne' : ((x.length : Int) != (y.length : Int)) = true := by simp; omega
    have hxy := hid (show (x == y) = false by
      rw [beq_eq_false_iff_ne]
      intro e
      subst e
      exact hl rfl)
    clear hl
    go_enter Tryz.func38, Tryz.ntmps38
    go_wp2
    go_ret
    rw [hxy.out]
    exact ⟨rfl, Below.refl _ _⟩
theorem PlainC_any (a b : Value) (x y : List ClaS) (w : World) (ha : SlCl w a x) (hb : SlCl w b y) (hx : x.length ≤ 1000000) :
    Calls Tryz.prog 17 #[a, b] w fun e w' => e = .returned (.bool (x == y)) ∧ Below w.heap.size w w' := by
  go_enter Tryz.func17, Tryz.ntmps17
  go_wp2_with fail
  refine (SameC_at a b x y w ha hb hx).mono ?_
  rintro e w' ⟨rfl, hb⟩
  go_wp2
  go_ret
  exact ⟨rfl, hb⟩
end
end Go.Proofs.YtbnafihigoekeaaGreatDoor

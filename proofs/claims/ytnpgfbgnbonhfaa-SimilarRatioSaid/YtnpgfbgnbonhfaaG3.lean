/-
  Matches (package similar, landed), in memory: the place of a file of base, that of one of side, their ratio. Renames, in memory; two held against each other by '=='. The library's stable sort laid at this program: at renames, and at matches. Renames: held against each other, handed in as a copy with spare room, and whether that is as it was.
-/
import Derived.Test.YtnpgfbgnbonhfaaEnc
import Derived.Deep.RegionLaw
import Derived.Test.YtnpgfbgnbonhfaaFil
import Derived.Test.YtnpgfbgnbonhfaaTxt
import Derived.Test.YtnpgfbgnbonhfaaG2
import Derived.Test.YtnpgfbgnbonhfaaPcmp
import Derived.Test.YtnpgfbgnbonhfaaQuiet
import Derived.Test.YtnpgfbgnbonhfaaLaw3
import Derived.Test.YtnpgfbgnbonhfaaRtrE
import Derived.Deep.LoopGhost
import Derived.Deep.QuietTactic
namespace Go.Proofs.Ytnpgfbgnbonhfaa
open Go.RowKit

abbrev MtS := Nat × Nat × Nat
def encMt : Enc MtS := ⟨3, by omega, fun f => [.int .i64 (f.1 : Nat), .int .i64 (f.2.1 : Nat), .int .i64 (f.2.2 : Nat)], fun _ => rfl, fun f u hu => by
  simp only [List.mem_cons, List.not_mem_nil, or_false] at hu
  rcases hu with rfl | rfl | rfl <;> rfl⟩
theorem Try.infoMt : (Try.prog.info? 77).map (fun i => (i.zero, i.size, i.bytes)) = some (some (.agg #[.int .i64 0, .int .i64 0, .int .i64 0]), 3, 24) := by kernel_rfl
theorem Try.sizeMt : (Try.prog.info? 77).map (·.size) = some 3 := by kernel_rfl
abbrev SlMt (w : World) (v : Value) (fs : List MtS) : Prop := SlR encMt w v fs
abbrev OwnMt (w : World) (base : Nat) (v : Value) (fs : List MtS) : Prop := w.ownsRow base 77 3 v fs.length (flatR encMt fs)
theorem OwnMt.sl {w : World} {base : Nat} {v : Value} {fs : List MtS} (h : OwnMt w base v fs) : SlMt w v fs := SlR.ofOwns (E := encMt) h
theorem SlMt.at {w : World} {ao : Option Addr} {n cap : Nat} {fs : List MtS} (h : SlMt w (.slice ao n cap) fs) {i : Nat} (hi : i < fs.length) :
    ∃ b o p q r, ao = some ⟨b, o, none⟩ ∧ fs[i]? = some (p, q, r) ∧ w.cell? ⟨b, o + i * 3, none⟩ = some (.int .i64 (p : Nat)) ∧ w.cell? ⟨b, o + i * 3 + 1, none⟩ = some (.int .i64 (q : Nat)) ∧ w.cell? ⟨b, o + i * 3 + 2, none⟩ = some (.int .i64 (r : Nat)) := by
  obtain ⟨b, o, ⟨p, q, r⟩, ha, hx, hc⟩ := SlR.at' h hi
  exact ⟨b, o, p, q, r, ha, hx, hc 0 _ rfl, hc 1 _ rfl, hc 2 _ rfl⟩
section
variable {w : World}
theorem wpList_append_mt {ops : Array Oper} {rest : List Oper} {o : Oper} {a : Act} {Q : Exit → Act → World → Prop} (hgd : o.guard = none) (s sx : Operand)
    (ho : o.op = .call { callee := .builtin .append, args := #[s, sx], argTypes := #[74, 74] })
    (base : Nat) (v : Value) (xs : List MtS) (x : MtS) (he : a.eval s = v) (hown : OwnMt w base v xs) (q : Nat) (hx : a.eval sx = .slice (some ⟨q, 0, none⟩) 1 1) (hq : w.heap.size = q)
    (hlen : xs.length ≤ 100000000) (hbase : base ≤ w.heap.size)
    (h : ∀ v' w', OwnMt w' base v' (xs ++ [x]) → Below base w w' → wpList Try.prog ops Q rest (a.put o.dst v') w') : wpList Try.prog ops Q (o :: rest) a (w.alloc (.cells #[.int .i64 (x.1 : Nat), .int .i64 (x.2.1 : Nat), .int .i64 (x.2.2 : Nat)] 77)) := by
  obtain ⟨i0, hi0, hi1, hi2, hi3⟩ := info_parts Try.infoMt
  exact wpList_append_r1 (E := encMt) hgd s sx 74 77 ho Try.underlying74 hi0 hi1 hi2 (by rw [hi3]; omega) rfl base v xs x he hown q hx hq hlen hbase _ rfl h
/-- .. and all else stays -/
theorem wpList_append_mtk {ops : Array Oper} {rest : List Oper} {o : Oper} {a : Act} {Q : Exit → Act → World → Prop} (hgd : o.guard = none) (s sx : Operand)
    (ho : o.op = .call { callee := .builtin .append, args := #[s, sx], argTypes := #[74, 74] })
    (base : Nat) (v : Value) (xs : List MtS) (x : MtS) (he : a.eval s = v) (hown : OwnMt w base v xs) (q : Nat) (hx : a.eval sx = .slice (some ⟨q, 0, none⟩) 1 1) (hq : w.heap.size = q)
    (hlen : xs.length ≤ 100000000) (hbase : base ≤ w.heap.size)
    (h : ∀ v' w', OwnMt w' base v' (xs ++ [x]) → Below base w w' → (∀ b, b < w.heap.size → v.ownBlock ≠ some b → w'.heap[b]? = w.heap[b]?) → wpList Try.prog ops Q rest (a.put o.dst v') w') : wpList Try.prog ops Q (o :: rest) a (w.alloc (.cells #[.int .i64 (x.1 : Nat), .int .i64 (x.2.1 : Nat), .int .i64 (x.2.2 : Nat)] 77)) := by
  obtain ⟨i0, hi0, hi1, hi2, hi3⟩ := info_parts Try.infoMt
  subst hq
  have hsrc : Src Try.prog 3 74 (.slice (some ⟨w.heap.size, 0, none⟩) 1 1) 1 (encMt.enc x) (w.alloc (.cells #[.int .i64 (x.1 : Nat), .int .i64 (x.2.1 : Nat), .int .i64 (x.2.2 : Nat)] 77)) := by
    refine Src.ofSlice _ Try.underlying74 ⟨w.heap.size, 0, none⟩ 1 1 (encMt.enc x) rfl (fun j u hu => ?_) (encMt.one x)
    rw [Addr.add_lit, Nat.zero_add]
    refine blk_cell (heap_alloc_new w _) ?_
    rw [List.getElem?_toArray]
    exact hu
  refine wpList_append_any _ hgd s sx _ _ ho base 77 i0 _ 3 24 Try.underlying74 hi0 hi1 hi2 hi3 rfl (by omega) v _ _ he (hown.alloc _) _ 1 _ hx hsrc (by unfold maxLen; omega) (by omega) (by simp; omega) fun v' w' h2 h3 h4 => h v' w' ?_ ?_ fun b hb hne => (h3.block b (by simp; omega) (fun e => hne e.symm)).trans (Below.heap_alloc w _ b hb)
  · unfold OwnMt
    rw [List.length_append, flatR_append, flatR_one]
    exact h2
  · exact ((Below.refl base w).alloc hbase _).grown h3 (by simp; omega) (fun j hj => (hown.lt j hj).1)
end
end Go.Proofs.Ytnpgfbgnbonhfaa

namespace Go.Proofs.Ytnpgfbgnbonhfaa
open Go.RowKit

/-- a rename: from where, to where -/
abbrev MvS := List UInt8 × List UInt8
def encV : Enc MvS := ⟨2, by omega, fun f => [strV f.1, strV f.2], fun _ => rfl, fun f u hu => by
  simp only [List.mem_cons, List.not_mem_nil, or_false] at hu
  rcases hu with rfl | rfl <;> rfl⟩
def mvV (f : MvS) : Value := .agg #[strV f.1, strV f.2]
theorem Try.infoMv : (Try.prog.info? 35).map (fun i => (i.zero, i.size, i.bytes)) = some (some (.agg #[strV [], strV []]), 2, 32) := by kernel_rfl
theorem Try.sizeMv : (Try.prog.info? 35).map (·.size) = some 2 := by kernel_rfl
abbrev SlV (w : World) (v : Value) (fs : List MvS) : Prop := SlR encV w v fs
abbrev OwnV (w : World) (base : Nat) (v : Value) (fs : List MvS) : Prop := w.ownsRow base 35 2 v fs.length (flatR encV fs)
theorem OwnV.sl {w : World} {base : Nat} {v : Value} {fs : List MvS} (h : OwnV w base v fs) : SlV w v fs := SlR.ofOwns (E := encV) h
theorem SlV.at {w : World} {ao : Option Addr} {n cap : Nat} {fs : List MvS} (h : SlV w (.slice ao n cap) fs) {i : Nat} (hi : i < fs.length) :
    ∃ b o p t, ao = some ⟨b, o, none⟩ ∧ fs[i]? = some (p, t) ∧ w.cell? ⟨b, o + i * 2, none⟩ = some (.string ⟨List.toArray p⟩) ∧ w.cell? ⟨b, o + i * 2 + 1, none⟩ = some (.string ⟨List.toArray t⟩) := by
  obtain ⟨b, o, ⟨p, t⟩, ha, hx, hc⟩ := SlR.at' h hi
  exact ⟨b, o, p, t, ha, hx, hc 0 _ rfl, hc 1 _ rfl⟩
section
variable {w : World}
theorem wpList_append_v1 {ops : Array Oper} {rest : List Oper} {o : Oper} {a : Act} {Q : Exit → Act → World → Prop} (hgd : o.guard = none) (s sx : Operand)
    (ho : o.op = .call { callee := .builtin .append, args := #[s, sx], argTypes := #[28, 28] })
    (base : Nat) (v : Value) (xs : List MvS) (x : MvS) (he : a.eval s = v) (hown : OwnV w base v xs) (q : Nat) (hx : a.eval sx = .slice (some ⟨q, 0, none⟩) 1 1) (hq : w.heap.size = q)
    (hlen : xs.length ≤ 100000000) (hbase : base ≤ w.heap.size)
    (h : ∀ v' w', OwnV w' base v' (xs ++ [x]) → Below base w w' → wpList Try.prog ops Q rest (a.put o.dst v') w') : wpList Try.prog ops Q (o :: rest) a (w.alloc (.cells #[.string ⟨x.1.toArray⟩, .string ⟨x.2.toArray⟩] 35)) := by
  obtain ⟨i0, hi0, hi1, hi2, hi3⟩ := info_parts Try.infoMv
  exact wpList_append_r1 (E := encV) hgd s sx 28 35 ho Try.underlying28 hi0 hi1 hi2 (by rw [hi3]; omega) rfl base v xs x he hown q hx hq hlen hbase _ rfl h
theorem step_append_v1 {ops : Array Oper} {o : Oper} {a : Act} {K : Act → World → Prop} {Q : Exit → Act → World → Prop} {X : Prop} (hgd : o.guard = none) (s sx : Operand)
    (ho : o.op = .call { callee := .builtin .append, args := #[s, sx], argTypes := #[28, 28] })
    (base : Nat) (v : Value) (xs : List MvS) (x : MvS) (he : a.eval s = v) (hown : OwnV w base v xs) (u : Value) (hx : a.eval sx = u) (hu : SlV w u [x])
    (hlen : xs.length ≤ 100000000) (hbase : base ≤ w.heap.size)
    (h : ∀ v' w', OwnV w' base v' (xs ++ [x]) → Below base w w' → K (a.put o.dst v') w') : if Region.wanted o (yielded ops a.tmps) = true then Oper.wp Try.prog o a w K Q else X := by
  obtain ⟨i0, hi0, hi1, hi2, hi3⟩ := info_parts Try.infoMv
  exact step_append_r1 (E := encV) hgd s sx 28 35 ho Try.underlying28 hi0 hi1 hi2 (by rw [hi3]; omega) rfl base v xs x he hown u hx hu hlen hbase h
end
theorem mv_eql (p1 t1 p2 t2 : Txt) (wx : World) : (binOp .eql 35 (.agg #[.string ⟨p1.toArray⟩, .string ⟨t1.toArray⟩]) (.agg #[.string ⟨p2.toArray⟩, .string ⟨t2.toArray⟩])).run Try.prog wx = .ok (.bool (((p1, t1) : MvS) == (p2, t2))) wx := by
  by_cases h1 : p1 = p2
  · subst h1
    have n1 : (p1 == p1) = true := by simp
    by_cases h3 : t1 = t2
    · subst h3
      have n3 : (t1 == t1) = true := by simp
      have n4 : (((p1, t1) : MvS) == (p1, t1)) = true := by simp
      rw [n4]
      go_simp
    · have n3 : (t1 == t2) = false := by simpa using h3
      have n4 : (((p1, t1) : MvS) == (p1, t2)) = false := by simpa using h3
      rw [n4]
      clear h3
      go_simp
  · have n1 : (p1 == p2) = false := by simpa using h1
    have n4 : (((p1, t1) : MvS) == (p2, t2)) = false := by
      rw [beq_eq_false_iff_ne]
      exact fun e => h1 (congrArg Prod.fst e)
    rw [n4]
    clear h1
    go_simp
end Go.Proofs.Ytnpgfbgnbonhfaa

namespace Go.Proofs.Ytnpgfbgnbonhfaa
open Go.Shelf Go.RowKit Go.Lib Go.Sort

def Try.stV_ren : Go.Shelf.Ren := ⟨fun | 85 => 85 | 80 => 80 | 72 => 72 | 59 => 59 | 43 => 43 | 71 => 71 | n => n, fun | 0 => 0 | 3 => 3 | 4 => 4 | 37 => 37 | 28 => 28 | 35 => 35 | 79 => 79 | n => n, fun | n => n⟩
theorem Try.stV : StL Try.prog Try.stV_ren := {
  mixed := by kernel_rfl
  f85 := ⟨ "slices.swapRangeCmpFunc[rick/api.Rename]", by kernel_rfl, Try.func85.trans (congrArg some (by kernel_rfl))⟩
  f80 := ⟨ "slices.rotateCmpFunc[rick/api.Rename]", by kernel_rfl, Try.func80.trans (congrArg some (by kernel_rfl))⟩
  f72 := ⟨ "slices.symMergeCmpFunc[rick/api.Rename]", by kernel_rfl, Try.func72.trans (congrArg some (by kernel_rfl))⟩
  f59 := ⟨ "slices.stableCmpFunc[rick/api.Rename]", by kernel_rfl, Try.func59.trans (congrArg some (by kernel_rfl))⟩
  f43 := ⟨ "slices.SortStableFunc[[]rick/api.Rename,rick/api.Rename]", by kernel_rfl, Try.func43.trans (congrArg some (by kernel_rfl))⟩
  t0 := Try.underlying0
  a0 := Try.isAgg0
  z0 := Try.sizeOf0
  v0 := Try.zeroValue0
  t3 := Try.underlying3
  a3 := Try.isAgg3
  z3 := Try.sizeOf3
  v3 := Try.zeroValue3
  t4 := Try.underlying4
  a4 := Try.isAgg4
  z4 := Try.sizeOf4
  v4 := Try.zeroValue4
  t37 := Try.underlying37
  a37 := Try.isAgg37
  z37 := Try.sizeOf37
  v37 := Try.zeroValue37
  t28 := Try.underlying28
  a28 := Try.isAgg28
  z28 := Try.sizeOf28
  v28 := Try.zeroValue28
  t79 := Try.underlying79
  a79 := Try.isAgg79
  z79 := Try.sizeOf79
  v79 := Try.zeroValue79 }
def Try.stV2_ren : Go.Shelf.Ren := ⟨fun | 20 => 71 | n => n, fun | 0 => 0 | 3 => 3 | 4 => 4 | 22 => 28 | 24 => 35 | 25 => 79 | n => n, fun | n => n⟩
theorem Try.stV2 : Go.Proofs.SlLaysF0.n20 Try.prog Try.stV2_ren := {
  mixed := by kernel_rfl
  f20 := ⟨ "slices.insertionSortCmpFunc[rick/api.Rename]", by kernel_rfl, Try.func71.trans (congrArg some (by kernel_rfl))⟩
  t0 := Try.underlying0
  a0 := Try.isAgg0
  z0 := Try.sizeOf0
  v0 := Try.zeroValue0
  t3 := Try.underlying3
  a3 := Try.isAgg3
  z3 := Try.sizeOf3
  v3 := Try.zeroValue3
  t4 := Try.underlying4
  a4 := Try.isAgg4
  z4 := Try.sizeOf4
  v4 := Try.zeroValue4
  t22 := Try.underlying28
  a22 := Try.isAgg28
  z22 := Try.sizeOf28
  v22 := Try.zeroValue28
  t25 := Try.underlying79
  a25 := Try.isAgg79
  z25 := Try.sizeOf79
  v25 := Try.zeroValue79 }
def Try.stM_ren : Go.Shelf.Ren := ⟨fun | 85 => 89 | 80 => 84 | 72 => 79 | 59 => 69 | 43 => 56 | 71 => 78 | n => n, fun | 0 => 0 | 3 => 3 | 4 => 4 | 37 => 37 | 28 => 74 | 35 => 77 | 79 => 94 | n => n, fun | n => n⟩
theorem Try.stM : StL Try.prog Try.stM_ren := {
  mixed := by kernel_rfl
  f85 := ⟨ "slices.swapRangeCmpFunc[rick/similar.match]", by kernel_rfl, Try.func89.trans (congrArg some (by kernel_rfl))⟩
  f80 := ⟨ "slices.rotateCmpFunc[rick/similar.match]", by kernel_rfl, Try.func84.trans (congrArg some (by kernel_rfl))⟩
  f72 := ⟨ "slices.symMergeCmpFunc[rick/similar.match]", by kernel_rfl, Try.func79.trans (congrArg some (by kernel_rfl))⟩
  f59 := ⟨ "slices.stableCmpFunc[rick/similar.match]", by kernel_rfl, Try.func69.trans (congrArg some (by kernel_rfl))⟩
  f43 := ⟨ "slices.SortStableFunc[[]rick/similar.match,rick/similar.match]", by kernel_rfl, Try.func56.trans (congrArg some (by kernel_rfl))⟩
  t0 := Try.underlying0
  a0 := Try.isAgg0
  z0 := Try.sizeOf0
  v0 := Try.zeroValue0
  t3 := Try.underlying3
  a3 := Try.isAgg3
  z3 := Try.sizeOf3
  v3 := Try.zeroValue3
  t4 := Try.underlying4
  a4 := Try.isAgg4
  z4 := Try.sizeOf4
  v4 := Try.zeroValue4
  t37 := Try.underlying37
  a37 := Try.isAgg37
  z37 := Try.sizeOf37
  v37 := Try.zeroValue37
  t28 := Try.underlying74
  a28 := Try.isAgg74
  z28 := Try.sizeOf74
  v28 := Try.zeroValue74
  t79 := Try.underlying94
  a79 := Try.isAgg94
  z79 := Try.sizeOf94
  v79 := Try.zeroValue94 }
def Try.stM2_ren : Go.Shelf.Ren := ⟨fun | 20 => 78 | n => n, fun | 0 => 0 | 3 => 3 | 4 => 4 | 22 => 74 | 24 => 77 | 25 => 94 | n => n, fun | n => n⟩
theorem Try.stM2 : Go.Proofs.SlLaysF0.n20 Try.prog Try.stM2_ren := {
  mixed := by kernel_rfl
  f20 := ⟨ "slices.insertionSortCmpFunc[rick/similar.match]", by kernel_rfl, Try.func78.trans (congrArg some (by kernel_rfl))⟩
  t0 := Try.underlying0
  a0 := Try.isAgg0
  z0 := Try.sizeOf0
  v0 := Try.zeroValue0
  t3 := Try.underlying3
  a3 := Try.isAgg3
  z3 := Try.sizeOf3
  v3 := Try.zeroValue3
  t4 := Try.underlying4
  a4 := Try.isAgg4
  z4 := Try.sizeOf4
  v4 := Try.zeroValue4
  t22 := Try.underlying74
  a22 := Try.isAgg74
  z22 := Try.sizeOf74
  v22 := Try.zeroValue74
  t25 := Try.underlying94
  a25 := Try.isAgg94
  z25 := Try.sizeOf94
  v25 := Try.zeroValue94 }

/-- how two renames are held against each other -/
def cfV (x y : MvS) : Int := compareBytes x.1 y.1
def cfMt (x y : MtS) : Int := if y.2.2 < x.2.2 then -1 else if x.2.2 < y.2.2 then 1 else 0
section
set_option maxRecDepth 100000
set_option maxHeartbeats 4000000
theorem DCmpV_any (x y : MvS) (W : World) : Calls Try.prog 44 #[.agg #[strV x.1, strV x.2], .agg #[strV y.1, strV y.2]] W fun e w' => e = .returned (.int .i64 (cfV x y)) ∧ ∃ q os', w' = grow (W.drewN q) os' := by
  obtain ⟨a, b⟩ := x
  obtain ⟨c, d⟩ := y
  have HC := hid fun (w : World) => PCmp_any a c w
  unfold strV at HC ⊢
  show Calls _ _ _ _ fun e w' => e = .returned (.int .i64 (compareBytes a c)) ∧ _
  go_enter Try.func44, Try.ntmps44
  go_wp2_with (go_at_call 45; refine (HC.out _).mono ?_; rintro e w1 ⟨rfl, rfl⟩)
  go_ret
  exact ⟨rfl, 0, #[_, _], by simp only [alloc_eq_grow, grow_grow]; rfl⟩
theorem DNaN_any (x : Int) (w : World) : Calls Try.prog 70 #[.int .i64 x] w fun e w' => e = .returned (.bool false) ∧ w = w' := by
  go_enter Try.func70, Try.ntmps70
  go_wp2
  go_ret
  exact ⟨by simp, rfl⟩
theorem DCmpI_any (x y : Nat) (w : World) : Calls Try.prog 58 #[.int .i64 (x : Nat), .int .i64 (y : Nat)] w fun e w' => e = .returned (.int .i64 (if x < y then -1 else if y < x then 1 else 0)) ∧ w = w' := by
  have HC := hid fun (x : Int) (w : World) => DNaN_any x w
  rcases Nat.lt_trichotomy x y with h | rfl | h
  · have hz : (x : Int) < (y : Int) := by omega
    rw [if_pos h]
    clear h
    go_enter Try.func58, Try.ntmps58
    go_wp2_with (go_at_call 70; refine (HC.out _ _).mono ?_; rintro e w1 ⟨rfl, rfl⟩)
    go_ret
    exact ⟨rfl, rfl⟩
  · have hz : ¬ (x : Int) < (x : Int) := by omega
    rw [if_neg (by omega), if_neg (by omega)]
    go_enter Try.func58, Try.ntmps58
    go_wp2_with (go_at_call 70; refine (HC.out _ _).mono ?_; rintro e w1 ⟨rfl, rfl⟩)
    go_ret
    exact ⟨rfl, rfl⟩
  · have hz : ¬ (x : Int) < (y : Int) := by omega
    have hz2 : (y : Int) < (x : Int) := by omega
    rw [if_neg (by omega), if_pos h]
    clear h
    go_enter Try.func58, Try.ntmps58
    go_wp2_with (go_at_call 70; refine (HC.out _ _).mono ?_; rintro e w1 ⟨rfl, rfl⟩)
    go_ret
    exact ⟨rfl, rfl⟩
theorem DCmpMt_any (x y : MtS) (W : World) : Calls Try.prog 57 #[.agg #[.int .i64 (x.1 : Nat), .int .i64 (x.2.1 : Nat), .int .i64 (x.2.2 : Nat)], .agg #[.int .i64 (y.1 : Nat), .int .i64 (y.2.1 : Nat), .int .i64 (y.2.2 : Nat)]] W fun e w' => e = .returned (.int .i64 (cfMt x y)) ∧ ∃ q os', w' = grow (W.drewN q) os' := by
  obtain ⟨a1, a2, a3⟩ := x
  obtain ⟨b1, b2, b3⟩ := y
  have HC := hid fun (w : World) => DCmpI_any b3 a3 w
  show Calls _ _ _ _ fun e w' => e = .returned (.int .i64 (if b3 < a3 then -1 else if a3 < b3 then 1 else 0)) ∧ _
  obtain ⟨R, hR⟩ : ∃ R : Int, R = if b3 < a3 then -1 else if a3 < b3 then 1 else 0 := ⟨_, rfl⟩
  rw [← hR] at HC ⊢
  clear hR
  go_enter Try.func57, Try.ntmps57
  go_wp2_with (go_at_call 58; refine (HC.out _).mono ?_; rintro e w1 ⟨rfl, rfl⟩)
  go_ret
  exact ⟨rfl, 0, #[_, _], by simp only [alloc_eq_grow, grow_grow]; rfl⟩
end
/-- slices.SortStableFunc at renames, by where from -/
theorem PStV_any (v : Value) (l : List MvS) (w : World) (base : Nat) (hb : base ≤ w.heap.size) (hv : OwnV w base v l) (hl : l.length ≤ 100000000) :
    Calls Try.prog 43 #[v, .func (.func 44) #[] #[]] w fun e w' => e = .returned (.tuple #[]) ∧ OwnV w' base v (stableA (ltOf cfV) l.toArray).toList ∧ Below base w w' := by
  refine (St.own Try.stV Try.stV2 rfl rfl encV Try.isAgg35 Try.sizeOf35 cfV 44 #[] (enters_of Try.func44 (by kernel_rfl) rfl) 35 v l w base hb hv hl (fun x y W => DCmpV_any x y W)).mono ?_
  rintro e w' ⟨rfl, h, hb'⟩
  refine ⟨rfl, ?_, hb'⟩
  unfold OwnV
  rw [Array.length_toList, size_stableA, List.size_toArray]
  exact h
/-- slices.SortStableFunc at matches, the greatest ratio first -/
theorem PStMt_any (v : Value) (l : List MtS) (w : World) (base : Nat) (hb : base ≤ w.heap.size) (hv : OwnMt w base v l) (hl : l.length ≤ 100000000) :
    Calls Try.prog 56 #[v, .func (.func 57) #[] #[]] w fun e w' => e = .returned (.tuple #[]) ∧ OwnMt w' base v (stableA (ltOf cfMt) l.toArray).toList ∧ Below base w w' := by
  refine (St.own Try.stM Try.stM2 rfl rfl encMt Try.isAgg77 Try.sizeOf77 cfMt 57 #[] (enters_of Try.func57 (by kernel_rfl) rfl) 77 v l w base hb hv hl (fun x y W => DCmpMt_any x y W)).mono ?_
  rintro e w' ⟨rfl, h, hb'⟩
  refine ⟨rfl, ?_, hb'⟩
  unfold OwnMt
  rw [Array.length_toList, size_stableA, List.size_toArray]
  exact h
end Go.Proofs.Ytnpgfbgnbonhfaa

namespace Go.Proofs.Ytnpgfbgnbonhfaa
open Go.RowKit

section
set_option maxRecDepth 100000
set_option maxHeartbeats 4000000
theorem eq1V_any (f g : MvS) (w : World) :
    Calls Try.prog 33 #[.agg (encV.enc f).toArray, .agg (encV.enc g).toArray] w fun e w' => e = .returned (.bool (f == g)) ∧ Below w.heap.size w w' := by
  obtain ⟨p1, t1⟩ := f
  obtain ⟨p2, t2⟩ := g
  have he := mv_eql p1 t1 p2 t2 
  obtain ⟨tt, htt⟩ : ∃ tt, (((p1, t1) : MvS) == (p2, t2)) = tt := ⟨_, rfl⟩
  rw [htt] at he ⊢
  clear htt
  show Calls Try.prog 33 #[.agg #[.string ⟨p1.toArray⟩, .string ⟨t1.toArray⟩], .agg #[.string ⟨p2.toArray⟩, .string ⟨t2.toArray⟩]] w _
  go_enter Try.func33, Try.ntmps33
  go_wp2
  all_goals go_ret
  all_goals refine ⟨rfl, ((Below.refl _ _).alloc (Nat.le_refl _) _).alloc (by simp) _⟩
theorem SameV_at (a b : Value) (x y : List MvS) (w : World) (ha : SlV w a x) (hb : SlV w b y) (hx : x.length ≤ 1000000) :
    Calls Try.prog 32 #[a, b, .func (Fn.func 33) #[] #[]] w fun e w' => e = .returned (.bool (x == y)) ∧ Below w.heap.size w w' := by
  obtain ⟨aa, ca, rfl⟩ := SlR.form ha
  obtain ⟨ab, cb, rfl⟩ := SlR.form hb
  by_cases hl : x.length = y.length
  · have hne : (x.length != y.length) = false := by simp [hl]
    have hne' : ((x.length : Int) != (y.length : Int)) = false := by simp [hl]
    have HL := hid hl
    clear hl
    go_enter Try.func32, Try.ntmps32
    go_wp2
    go_loopw [7] (fun i wr => ∃ k : Nat, k ≤ x.length ∧ i = .int .i64 k ∧ x.take k = y.take k ∧ Below w.heap.size w wr) (fun i _ => x.length - (intOf i).toNat)
    case atStart => exact ⟨0, Nat.zero_le _, rfl, rfl, Below.refl _ _⟩
    case round =>
      obtain ⟨k, hk, rfl, heq, hbel⟩ := hrel
      by_cases hlt : k < x.length
      · obtain ⟨b1, o1, ⟨p1, t1⟩, rfl, hb1, hc1⟩ := SlR.at' (E := encV) (SlR.old ha hbel) (i := k) hlt
        obtain ⟨b2, o2, ⟨p2, t2⟩, rfl, hb2, hc2⟩ := SlR.at' (E := encV) (SlR.old hb hbel) (i := k) (by rw [← HL.out]; exact hlt)
        have hlt2 : k < y.length := by rw [← HL.out]; exact hlt
        have i0 : (0 : Int) ≤ (k : Int) := Int.natCast_nonneg _
        have i1 : (k : Int) < (x.length : Int) := by omega
        have i2 : (k : Int) < (y.length : Int) := by omega
        obtain ⟨C, hC⟩ : ∃ C : World → Prop, C = fun wy => Below wr.heap.size wr wy := ⟨_, rfl⟩
        have ra : ∀ wy, C wy → wy.rangeAt b1 (o1 + k * 2) [.string ⟨p1.toArray⟩, .string ⟨t1.toArray⟩] := by
          rw [hC]
          exact fun wy h j u hu => (World.cell?_of_block (w := wr) (h.block _ (World.block_lt_of_cell? wr _ (hc1 j u hu)))).trans (hc1 j u hu)
        have rb : ∀ wy, C wy → wy.rangeAt b2 (o2 + k * 2) [.string ⟨p2.toArray⟩, .string ⟨t2.toArray⟩] := by
          rw [hC]
          exact fun wy h j u hu => (World.cell?_of_block (w := wr) (h.block _ (World.block_lt_of_cell? wr _ (hc2 j u hu)))).trans (hc2 j u hu)
        obtain ⟨tt, htt⟩ : ∃ tt, (((p1, t1) : MvS) == (p2, t2)) = tt := ⟨_, rfl⟩
        have HEQ := hid (show ∀ wy, C wy → Calls Try.prog 33 #[.agg #[.string ⟨p1.toArray⟩, .string ⟨t1.toArray⟩], .agg #[.string ⟨p2.toArray⟩, .string ⟨t2.toArray⟩]] wy fun e w' => e = .returned (.bool tt) ∧ C w' from fun wy hy => by
          rw [← htt]
          refine (eq1V_any (p1, t1) (p2, t2) wy).mono fun e w' h => ⟨h.1, ?_⟩
          rw [hC] at hy ⊢
          exact below_step hy h.2 hy.size)
        have hCd : C wr.drew := by rw [hC]; exact ⟨rfl, rfl, rfl, Nat.le_refl _, fun _ _ => rfl⟩
        have HCW := hid (show ∀ wy, C wy → Below w.heap.size w wy from fun wy h => by rw [hC] at h; exact below_step hbel h hbel.size)
        have HRA := hid ra
        have HRB := hid rb
        have hse : (Try.prog.info? 35).map (·.size) = some 2 := by kernel_rfl
        have HIA := hid hse
        have HT := hid htt
        have HE := hid heq
        have HB1 := hid hb1
        have HB2 := hid hb2
        have HCD := hid hCd
        clear hC hc1 hc2 ra rb hCd hse htt heq hb1 hb2 ha hb hbel
        go_wp2_with fail
        refine quiet_region C (by kernel_rfl) (by kernel_rfl) HCD.out ?_
        repeat (first
          | go_big_quiet_skip
          | (go_big_quiet_want; first
            | (refine quiet_load 35 _ rfl b1 (o1 + k * 2) rfl _ _ HRA.out Try.underlying35 rfl HIA.out ?_; simp only [Act.put, List.setIfInBounds_toArray, List.set_cons_zero, List.set_cons_succ]; go_big_quiet_on)
            | (refine quiet_load 35 _ rfl b2 (o2 + k * 2) rfl _ _ HRB.out Try.underlying35 rfl HIA.out ?_; simp only [Act.put, List.setIfInBounds_toArray, List.set_cons_zero, List.set_cons_succ]; go_big_quiet_on)
            | (go_big_quiet_op; first
              | go_big_quiet_on
              | (apply Exists.intro; with_reducible refine ⟨fun _ _ => rfl, ?_⟩; go_big_quiet_on)
              | (apply Exists.intro
                 refine ⟨fun wy hy => ?_, ?_⟩
                 · with_reducible exact HEQ.out wy hy
                 go_big_quiet_on))))
        refine wpQuiet_nil ?_
        intro w5 hC5
        have hbw := HCW.out w5 hC5
        clear hC5
        cases tt with
        | true =>
          have h12 : ((p1, t1) : MvS) = (p2, t2) := by have := HT.out; rwa [beq_iff_eq] at this
          have R := hid (show x.take (k + 1) = y.take (k + 1) by rw [take_snoc HB1.out, take_snoc HB2.out, HE.out, h12])
          clear h12
          go_wp2
          go_roundw
          case rel => exact ⟨k + 1, by omega, by go_num, R.out, hbw⟩
          case measure => simp [intOf]; omega
        | false =>
          have hxy := hid (show (x == y) = false by
            have h12 : ((p1, t1) : MvS) ≠ (p2, t2) := by have := HT.out; rwa [beq_eq_false_iff_ne] at this
            rw [beq_eq_false_iff_ne]
            intro e
            subst e
            have := HB1.out.symm.trans HB2.out
            exact h12 (Option.some.inj this))
          go_wp2
          go_ret
          rw [hxy.out]
          exact ⟨rfl, hbw⟩
      · obtain rfl : k = x.length := by omega
        have hxy := hid (show (x == y) = true by
          rw [List.take_length, HL.out, List.take_length] at heq
          rw [beq_iff_eq]
          exact heq)
        clear heq
        go_wp2
        go_ret
        rw [hxy.out]
        exact ⟨rfl, hbel⟩
  · have hne : (x.length != y.length) = true := by simpa using hl
    have hne' : ((x.length : Int) != (y.length : Int)) = true := by simp; omega
    have hxy := hid (show (x == y) = false by
      rw [beq_eq_false_iff_ne]
      intro e
      subst e
      exact hl rfl)
    clear hl
    go_enter Try.func32, Try.ntmps32
    go_wp2
    go_ret
    rw [hxy.out]
    exact ⟨rfl, Below.refl _ _⟩
theorem PlainV_any (a b : Value) (x y : List MvS) (w : World) (ha : SlV w a x) (hb : SlV w b y) (hx : x.length ≤ 1000000) :
    Calls Try.prog 16 #[a, b] w fun e w' => e = .returned (.bool (x == y)) ∧ Below w.heap.size w w' := by
  go_enter Try.func16, Try.ntmps16
  go_wp2_with fail
  refine (SameV_at a b x y w ha hb hx).mono ?_
  rintro e w' ⟨rfl, hb⟩
  go_wp2
  go_ret
  exact ⟨rfl, hb⟩
end
end Go.Proofs.Ytnpgfbgnbonhfaa

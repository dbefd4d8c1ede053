/-
  strings.Split at a separator of one byte: the shelf's contract of genSplit's core, laid at this program (its callees at one byte read no package-level variable); then the parts of a name.
-/
import Derived.Shelf.Strings.SplitCore
import Derived.Shelf.Strings.Search3
import Derived.Shelf.Strings.Count
import Derived.Lib.SplitLaws
import Derived.Test.YtndmblelkeepjaaGreatDoorProg
import Derived.Test.YtndmblelkeepjaaGreatDoorPthM
import Derived.Test.YtndmblelkeepjaaGreatDoorHelpS
import Derived.Test.YtndmblelkeepjaaGreatDoorLaw2
namespace Go.Proofs.YtndmblelkeepjaaGreatDoor
open Go.RowKit Go.Shelf

def Tryz.lays221_ren : Go.Shelf.Ren := ⟨fun | 138 => 92 | 143 => 93 | 195 => 94 | 197 => 95 | 217 => 99 | 218 => 96 | 219 => 97 | 221 => 88 | 224 => 101 | 225 => 100 | 260 => 98 | 266 => 103 | 267 => 102 | 268 => 91 | 314 => 104 | n => n, fun | 0 => 0 | 3 => 3 | 4 => 4 | 5 => 5 | 9 => 9 | 21 => 21 | 31 => 24 | 46 => 71 | 51 => 55 | 105 => 110 | 119 => 114 | 138 => 116 | 139 => 117 | 146 => 118 | n => n, fun | 1 => 0 | 3 => 1 | 4 => 2 | n => n⟩
theorem Tryz.lays221 : Go.Proofs.Lays.n221 Tryz.prog Tryz.lays221_ren := {
  mixed := by kernel_rfl
  f138 := Tryz.func92.trans (congrArg some (by kernel_rfl))
  f143 := Tryz.func93.trans (congrArg some (by kernel_rfl))
  f195 := Tryz.func94.trans (congrArg some (by kernel_rfl))
  f197 := Tryz.func95.trans (congrArg some (by kernel_rfl))
  f217 := Tryz.func99.trans (congrArg some (by kernel_rfl))
  f218 := Tryz.func96.trans (congrArg some (by kernel_rfl))
  f219 := Tryz.func97.trans (congrArg some (by kernel_rfl))
  f221 := Tryz.func88.trans (congrArg some (by kernel_rfl))
  f224 := Tryz.func101.trans (congrArg some (by kernel_rfl))
  f225 := Tryz.func100.trans (congrArg some (by kernel_rfl))
  f260 := Tryz.func98.trans (congrArg some (by kernel_rfl))
  f266 := Tryz.func103.trans (congrArg some (by kernel_rfl))
  f267 := Tryz.func102.trans (congrArg some (by kernel_rfl))
  f268 := Tryz.func91.trans (congrArg some (by kernel_rfl))
  f314 := Tryz.func104.trans (congrArg some (by kernel_rfl))
  t0 := Tryz.underlying0
  a0 := Tryz.isAgg0
  z0 := Tryz.sizeOf0
  v0 := Tryz.zeroValue0
  t3 := Tryz.underlying3
  a3 := Tryz.isAgg3
  z3 := Tryz.sizeOf3
  v3 := Tryz.zeroValue3
  t4 := Tryz.underlying4
  a4 := Tryz.isAgg4
  z4 := Tryz.sizeOf4
  v4 := Tryz.zeroValue4
  t5 := Tryz.underlying5
  a5 := Tryz.isAgg5
  z5 := Tryz.sizeOf5
  v5 := Tryz.zeroValue5
  t9 := Tryz.underlying9
  a9 := Tryz.isAgg9
  z9 := Tryz.sizeOf9
  v9 := Tryz.zeroValue9
  t21 := Tryz.underlying21
  a21 := Tryz.isAgg21
  z21 := Tryz.sizeOf21
  v21 := Tryz.zeroValue21
  t31 := Tryz.underlying24
  a31 := Tryz.isAgg24
  z31 := Tryz.sizeOf24
  v31 := Tryz.zeroValue24
  t46 := Tryz.underlying71
  a46 := Tryz.isAgg71
  z46 := Tryz.sizeOf71
  v46 := Tryz.zeroValue71
  t51 := Tryz.underlying55
  a51 := Tryz.isAgg55
  z51 := Tryz.sizeOf55
  v51 := Tryz.zeroValue55
  t105 := Tryz.underlying110
  a105 := Tryz.isAgg110
  z105 := Tryz.sizeOf110
  v105 := Tryz.zeroValue110
  t119 := Tryz.underlying114
  a119 := Tryz.isAgg114
  z119 := Tryz.sizeOf114
  t138 := Tryz.underlying116
  a138 := Tryz.isAgg116
  z138 := Tryz.sizeOf116
  v138 := Tryz.zeroValue116
  t139 := Tryz.underlying117
  a139 := Tryz.isAgg117
  z139 := Tryz.sizeOf117
  v139 := Tryz.zeroValue117
  t146 := Tryz.underlying118
  a146 := Tryz.isAgg118
  z146 := Tryz.sizeOf118
  v146 := Tryz.zeroValue118
  g1 := by kernel_rfl
  g3 := by kernel_rfl
  g4 := by kernel_rfl }

/-! ### mathematics: cut at each byte c -/
def cutsG (c : UInt8) : List UInt8 → List UInt8 → List (List UInt8)
  | cur, [] => [cur]
  | cur, x :: r => if x = c then cur :: cutsG c [] r else cutsG c (cur ++ [x]) r
theorem index_none (c : UInt8) : ∀ cur : List UInt8, (∀ x ∈ cur, x ≠ c) → Lib.index cur [c] = -1
  | [], _ => by simp [Lib.index]
  | b :: l, h => by
    have ih := index_none c l fun x hx => h x (by simp [hx])
    have hb : ([c] : List UInt8).isPrefixOf (b :: l) = false := by simp [List.isPrefixOf, Ne.symm (h b (by simp))]
    rw [Lib.index, hb, ih]
    rfl
theorem index_at (c : UInt8) (r : List UInt8) : ∀ cur : List UInt8, (∀ x ∈ cur, x ≠ c) → Lib.index (cur ++ c :: r) [c] = (cur.length : Int)
  | [], _ => by simp [Lib.index, List.isPrefixOf]
  | b :: l, h => by
    have ih := index_at c r l fun x hx => h x (by simp [hx])
    have hb : ([c] : List UInt8).isPrefixOf (b :: (l ++ c :: r)) = false := by simp [List.isPrefixOf, Ne.symm (h b (by simp))]
    rw [List.cons_append, Lib.index, hb, ih]
    have hne : (((l.length : Nat) : Int) == -1) = false := beq_false_of_ne (by omega)
    simp [hne]
theorem splitK_cuts (c : UInt8) : ∀ (p cur : List UInt8), (∀ x ∈ cur, x ≠ c) → Lib.splitK [c] 0 (Lib.count (cur ++ p) [c]) (cur ++ p) = cutsG c cur p
  | [], cur, h => by
    rw [List.append_nil, Lib.count_miss (index_none c cur h)]
    rfl
  | x :: r, cur, h => by
    by_cases hx : x = c
    · subst hx
      have hi := index_at x r cur h
      rw [Lib.count_hit (by simp) hi, Nat.add_comm 1, Lib.splitK, hi]
      have hne : (((cur.length : Nat) : Int) == -1) = false := beq_false_of_ne (by omega)
      have hd : (cur ++ x :: r).drop (cur.length + [x].length) = r := by
        rw [show cur ++ x :: r = (cur ++ [x]) ++ r by simp, List.drop_left' (by simp)]
      have ih := splitK_cuts x r [] (by simp)
      rw [List.nil_append] at ih
      simp only [hne, Int.toNat_natCast, Nat.add_zero, Bool.false_eq_true, if_false]
      rw [hd, ih, cutsG, if_pos rfl, List.take_left' rfl]
    · have ih := splitK_cuts c r (cur ++ [x]) (by
        intro y hy
        rcases List.mem_append.1 hy with hy | hy
        · exact h y hy
        · rw [List.mem_singleton.1 hy]; exact hx)
      rw [List.append_assoc, List.singleton_append] at ih
      rw [ih, cutsG, if_neg hx]
theorem cutsG_len (c : UInt8) (cur p : List UInt8) : (cutsG c cur p).length ≤ p.length + 1 := by
  induction p generalizing cur with
  | nil => simp [cutsG]
  | cons x r ih =>
    rw [cutsG]
    split
    · have := ih []; simp; omega
    · have := ih (cur ++ [x]); simp; omega
theorem cuts_parts (cur p : List UInt8) : cutsG 47 cur p = partsG cur p := by
  induction p generalizing cur with
  | nil => rfl
  | cons x r ih => rw [cutsG, partsG, ih, ih]
theorem map_str (l : List ByteArray) : l.map Value.string = strCells (l.map fun b => b.data.toList) := by
  rw [strCells, List.map_map]
  rfl

section
set_option maxRecDepth 100000
set_option maxHeartbeats 2000000
/-- strings.Split at a separator of one byte. -/
theorem SSplit_any (p : List UInt8) (c : UInt8) (w : World) (hl : p.length ≤ 1000000) :
    Calls Tryz.prog 83 #[strV p, .string ⟨#[c]⟩] w fun e w' => ∃ u, e = .returned u ∧ Sl w' u (strCells (cutsG c [] p)) ∧ Below w.heap.size w w' := by
  have L := Tryz.lays221
  have hsz : (⟨p.toArray⟩ : ByteArray).size = p.length := by simp [ByteArray.size]
  have h1 : 1 ≤ (⟨#[c]⟩ : ByteArray).size := Nat.le_refl 1
  have hle := Lib.countB_le ⟨#[c]⟩ h1 p.length ⟨p.toArray⟩ (by omega)
  have hlen := Lib.splitB_all ⟨#[c]⟩ h1 0 _ ⟨p.toArray⟩ rfl
  have hC := (Any.strings_Count_one { L with } ⟨p.toArray⟩ c w).mono (R' := fun e w' => e = .returned (.int .i64 (Lib.countB ⟨p.toArray⟩ ⟨#[c]⟩)) ∧ w' = w) fun e w' ⟨he, hw⟩ => ⟨by
    rw [he]
    show _ = Ending.returned (Value.int .i64 ((Lib.count p [c] : Nat) : Int))
    rw [Lib.count_one]
    rfl, hw⟩
  have hI : ∀ (x : ByteArray) (cs : Array Value), x.size ≤ (⟨p.toArray⟩ : ByteArray).size → Calls Tryz.prog (Tryz.lays221_ren.f 143) #[.string x, .string ⟨#[c]⟩] (w.alloc (.cells cs (Tryz.lays221_ren.t 9))) fun e w' => e = .returned (.int .i64 (Lib.indexB x ⟨#[c]⟩)) ∧ w' = w.alloc (.cells cs (Tryz.lays221_ren.t 9)) := fun x cs _ =>
    (Any.strings_Index_one { L with } x c _).mono fun e w' ⟨he, hw⟩ => ⟨by
      rw [he]
      show _ = Ending.returned (Value.int .i64 (Lib.index x.data.toList [c]))
      rw [Lib.index_one], hw⟩
  have g := Any.strings_genSplit_core L (by kernel_rfl) ⟨p.toArray⟩ ⟨#[c]⟩ 0 (-1) (Lib.countB ⟨p.toArray⟩ ⟨#[c]⟩ + 1) w (by omega) h1 (Nat.zero_le _) hI hC (by decide) (by decide) (by rw [if_pos (by decide)]; omega)
  rw [Nat.add_sub_cancel, hlen] at g
  have e2 : Lib.cellsOf (Lib.splitB ⟨#[c]⟩ 0 (Lib.countB ⟨p.toArray⟩ ⟨#[c]⟩) ⟨p.toArray⟩) (Lib.countB ⟨p.toArray⟩ ⟨#[c]⟩ + 1) = (strCells (cutsG c [] p)).toArray := by
    rw [← hlen, Lib.cellsOf_full, map_str, Lib.splitB_data]
    have := splitK_cuts c p [] (by simp)
    rw [List.nil_append] at this
    exact congrArg (fun l => (strCells l).toArray) this
  have e3 : Lib.countB ⟨p.toArray⟩ ⟨#[c]⟩ + 1 = (strCells (cutsG c [] p)).toArray.size := by
    rw [← e2, ← hlen, Lib.cellsOf_full]
    simp
  rw [e2, e3] at g
  have G : Calls Tryz.prog 88 #[strV p, .string ⟨#[c]⟩, .int .i64 0, .int .i64 (-1)] w fun e w' => ∃ u, e = .returned u ∧ Hid (Sl w' u (strCells (cutsG c [] p))) ∧ Hid (Below w.heap.size w w') := by
    refine g.mono ?_
    rintro e w' ⟨rfl, rfl⟩
    refine ⟨_, rfl, hid ?_, hid ((Below.refl _ _).alloc (Nat.le_refl _) _)⟩
    have := Sl.ofBlock (heap_alloc_new w (.cells (strCells (cutsG c [] p)).toArray (Tryz.lays221_ren.t 9)))
    simpa using this
  have HG := hid G
  clear g G e2 e3 hC hI L hsz h1 hle hlen hl
  unfold strV at HG ⊢
  go_enter Tryz.func83, Tryz.ntmps83
  go_wp2_with fail
  refine HG.out.mono ?_
  rintro e w1 ⟨u, rfl, HS, HB⟩
  go_wp2_with fail
  go_ret
  exact ⟨u, rfl, HS.out, HB.out⟩
end
end Go.Proofs.YtndmblelkeepjaaGreatDoor

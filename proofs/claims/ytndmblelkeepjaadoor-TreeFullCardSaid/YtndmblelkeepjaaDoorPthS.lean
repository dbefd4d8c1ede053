/-
  strings.Split at a separator of one byte: the shelf's contract of genSplit's core, laid at this program (its callees at one byte read no package-level variable); then the parts of a name.
-/
import Derived.Shelf.Strings.SplitCore
import Derived.Shelf.Strings.Search3
import Derived.Shelf.Strings.Count
import Derived.Lib.SplitLaws
import Derived.Test.YtndmblelkeepjaaDoorProg
import Derived.Test.YtndmblelkeepjaaDoorPthM
import Derived.Test.YtndmblelkeepjaaDoorHelpS
import Derived.Test.YtndmblelkeepjaaDoorLaw2
namespace Go.Proofs.YtndmblelkeepjaaDoor
open Go.RowKit Go.Shelf

def Tryd.lays221_ren : Go.Shelf.Ren := ⟨fun | 138 => 93 | 143 => 94 | 195 => 95 | 197 => 96 | 217 => 100 | 218 => 97 | 219 => 98 | 221 => 88 | 224 => 102 | 225 => 101 | 260 => 99 | 266 => 104 | 267 => 103 | 268 => 92 | 314 => 105 | n => n, fun | 0 => 0 | 3 => 3 | 4 => 4 | 5 => 5 | 9 => 9 | 21 => 21 | 31 => 59 | 46 => 47 | 51 => 63 | 105 => 109 | 119 => 113 | 138 => 115 | 139 => 116 | 146 => 117 | n => n, fun | 1 => 0 | 3 => 1 | 4 => 2 | n => n⟩
theorem Tryd.lays221 : Go.Proofs.Lays.n221 Tryd.prog Tryd.lays221_ren := {
  mixed := by kernel_rfl
  f138 := Tryd.func93.trans (congrArg some (by kernel_rfl))
  f143 := Tryd.func94.trans (congrArg some (by kernel_rfl))
  f195 := Tryd.func95.trans (congrArg some (by kernel_rfl))
  f197 := Tryd.func96.trans (congrArg some (by kernel_rfl))
  f217 := Tryd.func100.trans (congrArg some (by kernel_rfl))
  f218 := Tryd.func97.trans (congrArg some (by kernel_rfl))
  f219 := Tryd.func98.trans (congrArg some (by kernel_rfl))
  f221 := Tryd.func88.trans (congrArg some (by kernel_rfl))
  f224 := Tryd.func102.trans (congrArg some (by kernel_rfl))
  f225 := Tryd.func101.trans (congrArg some (by kernel_rfl))
  f260 := Tryd.func99.trans (congrArg some (by kernel_rfl))
  f266 := Tryd.func104.trans (congrArg some (by kernel_rfl))
  f267 := Tryd.func103.trans (congrArg some (by kernel_rfl))
  f268 := Tryd.func92.trans (congrArg some (by kernel_rfl))
  f314 := Tryd.func105.trans (congrArg some (by kernel_rfl))
  t0 := Tryd.underlying0
  a0 := Tryd.isAgg0
  z0 := Tryd.sizeOf0
  v0 := Tryd.zeroValue0
  t3 := Tryd.underlying3
  a3 := Tryd.isAgg3
  z3 := Tryd.sizeOf3
  v3 := Tryd.zeroValue3
  t4 := Tryd.underlying4
  a4 := Tryd.isAgg4
  z4 := Tryd.sizeOf4
  v4 := Tryd.zeroValue4
  t5 := Tryd.underlying5
  a5 := Tryd.isAgg5
  z5 := Tryd.sizeOf5
  v5 := Tryd.zeroValue5
  t9 := Tryd.underlying9
  a9 := Tryd.isAgg9
  z9 := Tryd.sizeOf9
  v9 := Tryd.zeroValue9
  t21 := Tryd.underlying21
  a21 := Tryd.isAgg21
  z21 := Tryd.sizeOf21
  v21 := Tryd.zeroValue21
  t31 := Tryd.underlying59
  a31 := Tryd.isAgg59
  z31 := Tryd.sizeOf59
  v31 := Tryd.zeroValue59
  t46 := Tryd.underlying47
  a46 := Tryd.isAgg47
  z46 := Tryd.sizeOf47
  v46 := Tryd.zeroValue47
  t51 := Tryd.underlying63
  a51 := Tryd.isAgg63
  z51 := Tryd.sizeOf63
  v51 := Tryd.zeroValue63
  t105 := Tryd.underlying109
  a105 := Tryd.isAgg109
  z105 := Tryd.sizeOf109
  v105 := Tryd.zeroValue109
  t119 := Tryd.underlying113
  a119 := Tryd.isAgg113
  z119 := Tryd.sizeOf113
  t138 := Tryd.underlying115
  a138 := Tryd.isAgg115
  z138 := Tryd.sizeOf115
  v138 := Tryd.zeroValue115
  t139 := Tryd.underlying116
  a139 := Tryd.isAgg116
  z139 := Tryd.sizeOf116
  v139 := Tryd.zeroValue116
  t146 := Tryd.underlying117
  a146 := Tryd.isAgg117
  z146 := Tryd.sizeOf117
  v146 := Tryd.zeroValue117
  g1 := by kernel_rfl
  g3 := by kernel_rfl
  g4 := by kernel_rfl }

/-! ### mathematics: cut at each byte c -/
def cutsG (c : UInt8) : List UInt8 → List UInt8 → List (List UInt8)
  | cur, [] => [cur]
  | cur, x :: r => if x = c then cur :: cutsG c [] r else cutsG c (cur ++ [x]) r
theorem index_none (c : UInt8) : ∀ cur : List UInt8, (∀ x ∈ cur, x ≠ c) → Lib.index cur [c] = -1
  | [], _ => by simp [Lib.index]
  | b :: l, h => by
    have ih := index_none c l fun x hx => h x (by simp [hx])
    have hb : ([c] : List UInt8).isPrefixOf (b :: l) = false := by simp [List.isPrefixOf, Ne.symm (h b (by simp))]
    rw [Lib.index, hb, ih]
    rfl
theorem index_at (c : UInt8) (r : List UInt8) : ∀ cur : List UInt8, (∀ x ∈ cur, x ≠ c) → Lib.index (cur ++ c :: r) [c] = (cur.length : Int)
  | [], _ => by simp [Lib.index, List.isPrefixOf]
  | b :: l, h => by
    have ih := index_at c r l fun x hx => h x (by simp [hx])
    have hb : ([c] : List UInt8).isPrefixOf (b :: (l ++ c :: r)) = false := by simp [List.isPrefixOf, Ne.symm (h b (by simp))]
    rw [List.cons_append, Lib.index, hb, ih]
    have hne : (((l.length : Nat) : Int) == -1) = false := beq_false_of_ne (by omega)
    simp [hne]
theorem splitK_cuts (c : UInt8) : ∀ (p cur : List UInt8), (∀ x ∈ cur, x ≠ c) → Lib.splitK [c] 0 (Lib.count (cur ++ p) [c]) (cur ++ p) = cutsG c cur p
  | [], cur, h => by
    rw [List.append_nil, Lib.count_miss (index_none c cur h)]
    rfl
  | x :: r, cur, h => by
    by_cases hx : x = c
    · subst hx
      have hi := index_at x r cur h
      rw [Lib.count_hit (by simp) hi, Nat.add_comm 1, Lib.splitK, hi]
      have hne : (((cur.length : Nat) : Int) == -1) = false := beq_false_of_ne (by omega)
      have hd : (cur ++ x :: r).drop (cur.length + [x].length) = r := by
        rw [show cur ++ x :: r = (cur ++ [x]) ++ r by simp, List.drop_left' (by simp)]
      have ih := splitK_cuts x r [] (by simp)
      rw [List.nil_append] at ih
      simp only [hne, Int.toNat_natCast, Nat.add_zero, Bool.false_eq_true, if_false]
      rw [hd, ih, cutsG, if_pos rfl, List.take_left' rfl]
    · have ih := splitK_cuts c r (cur ++ [x]) (by
        intro y hy
        rcases List.mem_append.1 hy with hy | hy
        · exact h y hy
        · rw [List.mem_singleton.1 hy]; exact hx)
      rw [List.append_assoc, List.singleton_append] at ih
      rw [ih, cutsG, if_neg hx]
theorem cutsG_len (c : UInt8) (cur p : List UInt8) : (cutsG c cur p).length ≤ p.length + 1 := by
  induction p generalizing cur with
  | nil => simp [cutsG]
  | cons x r ih =>
    rw [cutsG]
    split
    · have := ih []; simp; omega
    · have := ih (cur ++ [x]); simp; omega
theorem cuts_parts (cur p : List UInt8) : cutsG 47 cur p = partsG cur p := by
  induction p generalizing cur with
  | nil => rfl
  | cons x r ih => rw [cutsG, partsG, ih, ih]
theorem map_str (l : List ByteArray) : l.map Value.string = strCells (l.map fun b => b.data.toList) := by
  rw [strCells, List.map_map]
  rfl

section
set_option maxRecDepth 100000
set_option maxHeartbeats 2000000
/-- strings.Split at a separator of one byte. -/
theorem SSplit_any (p : List UInt8) (c : UInt8) (w : World) (hl : p.length ≤ 1000000) :
    Calls Tryd.prog 78 #[strV p, .string ⟨#[c]⟩] w fun e w' => ∃ u, e = .returned u ∧ Sl w' u (strCells (cutsG c [] p)) ∧ Below w.heap.size w w' := by
  have L := Tryd.lays221
  have hsz : (⟨p.toArray⟩ : ByteArray).size = p.length := by simp [ByteArray.size]
  have h1 : 1 ≤ (⟨#[c]⟩ : ByteArray).size := Nat.le_refl 1
  have hle := Lib.countB_le ⟨#[c]⟩ h1 p.length ⟨p.toArray⟩ (by omega)
  have hlen := Lib.splitB_all ⟨#[c]⟩ h1 0 _ ⟨p.toArray⟩ rfl
  have hC := (Any.strings_Count_one { L with } ⟨p.toArray⟩ c w).mono (R' := fun e w' => e = .returned (.int .i64 (Lib.countB ⟨p.toArray⟩ ⟨#[c]⟩)) ∧ w' = w) fun e w' ⟨he, hw⟩ => ⟨by
    rw [he]
    show _ = Ending.returned (Value.int .i64 ((Lib.count p [c] : Nat) : Int))
    rw [Lib.count_one]
    rfl, hw⟩
  have hI : ∀ (x : ByteArray) (cs : Array Value), x.size ≤ (⟨p.toArray⟩ : ByteArray).size → Calls Tryd.prog (Tryd.lays221_ren.f 143) #[.string x, .string ⟨#[c]⟩] (w.alloc (.cells cs (Tryd.lays221_ren.t 9))) fun e w' => e = .returned (.int .i64 (Lib.indexB x ⟨#[c]⟩)) ∧ w' = w.alloc (.cells cs (Tryd.lays221_ren.t 9)) := fun x cs _ =>
    (Any.strings_Index_one { L with } x c _).mono fun e w' ⟨he, hw⟩ => ⟨by
      rw [he]
      show _ = Ending.returned (Value.int .i64 (Lib.index x.data.toList [c]))
      rw [Lib.index_one], hw⟩
  have g := Any.strings_genSplit_core L (by kernel_rfl) ⟨p.toArray⟩ ⟨#[c]⟩ 0 (-1) (Lib.countB ⟨p.toArray⟩ ⟨#[c]⟩ + 1) w (by omega) h1 (Nat.zero_le _) hI hC (by decide) (by decide) (by rw [if_pos (by decide)]; omega)
  rw [Nat.add_sub_cancel, hlen] at g
  have e2 : Lib.cellsOf (Lib.splitB ⟨#[c]⟩ 0 (Lib.countB ⟨p.toArray⟩ ⟨#[c]⟩) ⟨p.toArray⟩) (Lib.countB ⟨p.toArray⟩ ⟨#[c]⟩ + 1) = (strCells (cutsG c [] p)).toArray := by
    rw [← hlen, Lib.cellsOf_full, map_str, Lib.splitB_data]
    have := splitK_cuts c p [] (by simp)
    rw [List.nil_append] at this
    exact congrArg (fun l => (strCells l).toArray) this
  have e3 : Lib.countB ⟨p.toArray⟩ ⟨#[c]⟩ + 1 = (strCells (cutsG c [] p)).toArray.size := by
    rw [← e2, ← hlen, Lib.cellsOf_full]
    simp
  rw [e2, e3] at g
  have G : Calls Tryd.prog 88 #[strV p, .string ⟨#[c]⟩, .int .i64 0, .int .i64 (-1)] w fun e w' => ∃ u, e = .returned u ∧ Hid (Sl w' u (strCells (cutsG c [] p))) ∧ Hid (Below w.heap.size w w') := by
    refine g.mono ?_
    rintro e w' ⟨rfl, rfl⟩
    refine ⟨_, rfl, hid ?_, hid ((Below.refl _ _).alloc (Nat.le_refl _) _)⟩
    have := Sl.ofBlock (heap_alloc_new w (.cells (strCells (cutsG c [] p)).toArray (Tryd.lays221_ren.t 9)))
    simpa using this
  have HG := hid G
  clear g G e2 e3 hC hI L hsz h1 hle hlen hl
  unfold strV at HG ⊢
  go_enter Tryd.func78, Tryd.ntmps78
  go_wp2_with fail
  refine HG.out.mono ?_
  rintro e w1 ⟨u, rfl, HS, HB⟩
  go_wp2_with fail
  go_ret
  exact ⟨u, rfl, HS.out, HB.out⟩
end
end Go.Proofs.YtndmblelkeepjaaDoor

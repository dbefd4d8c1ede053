/-
  slices.Sort, slices.Compact at lists of texts: the shelf's contracts laid at this program, over rows of the call's own.
-/
import Derived.Test.YtndmblelkeepjaaGreatDoorPtrE
import Derived.Test.YtndmblelkeepjaaGreatDoorTrP
import Derived.Shelf.Sort.AssemblysIn
import Derived.Shelf.Slices.In.SortNone
import Derived.Shelf.Slices.CompactS
import Derived.Sort.EveryDepth
import Derived.Sort.OwnSorted
namespace Go.Proofs.YtndmblelkeepjaaGreatDoor
open Go.RowKit Go.Shelf Go.Sort

def Tryz.lays190_ren : Go.Shelf.Ren := ⟨fun | 125 => 45 | 128 => 62 | 129 => 63 | 190 => 30 | 258 => 44 | 302 => 53 | 303 => 54 | 304 => 55 | 305 => 56 | 306 => 57 | 307 => 58 | 308 => 59 | 309 => 60 | 310 => 61 | 329 => 75 | 330 => 76 | 333 => 74 | 334 => 77 | 335 => 78 | 336 => 79 | 344 => 84 | n => n, fun | 0 => 0 | 3 => 3 | 4 => 4 | 5 => 5 | 9 => 9 | 31 => 24 | 46 => 71 | 51 => 55 | 53 => 85 | 131 => 72 | 182 => 77 | 183 => 78 | 218 => 94 | 222 => 98 | 228 => 102 | 229 => 103 | n => n, fun | n => n⟩
theorem Tryz.lays190 : Go.Proofs.Lays.n190 Tryz.prog Tryz.lays190_ren := {
  mixed := by kernel_rfl
  f125 := Tryz.func45.trans (congrArg some (by kernel_rfl))
  f128 := Tryz.func62.trans (congrArg some (by kernel_rfl))
  f129 := Tryz.func63.trans (congrArg some (by kernel_rfl))
  f190 := Tryz.func30.trans (congrArg some (by kernel_rfl))
  f258 := Tryz.func44.trans (congrArg some (by kernel_rfl))
  f302 := Tryz.func53.trans (congrArg some (by kernel_rfl))
  f303 := Tryz.func54.trans (congrArg some (by kernel_rfl))
  f304 := Tryz.func55.trans (congrArg some (by kernel_rfl))
  f305 := Tryz.func56.trans (congrArg some (by kernel_rfl))
  f306 := Tryz.func57.trans (congrArg some (by kernel_rfl))
  f307 := Tryz.func58.trans (congrArg some (by kernel_rfl))
  f308 := Tryz.func59.trans (congrArg some (by kernel_rfl))
  f309 := Tryz.func60.trans (congrArg some (by kernel_rfl))
  f310 := Tryz.func61.trans (congrArg some (by kernel_rfl))
  f329 := Tryz.func75.trans (congrArg some (by kernel_rfl))
  f330 := Tryz.func76.trans (congrArg some (by kernel_rfl))
  f333 := Tryz.func74.trans (congrArg some (by kernel_rfl))
  f334 := Tryz.func77.trans (congrArg some (by kernel_rfl))
  f335 := Tryz.func78.trans (congrArg some (by kernel_rfl))
  f336 := Tryz.func79.trans (congrArg some (by kernel_rfl))
  f344 := Tryz.func84.trans (congrArg some (by kernel_rfl))
  t0 := Tryz.underlying0
  a0 := Tryz.isAgg0
  z0 := Tryz.sizeOf0
  v0 := Tryz.zeroValue0
  t3 := Tryz.underlying3
  a3 := Tryz.isAgg3
  z3 := Tryz.sizeOf3
  v3 := Tryz.zeroValue3
  t4 := Tryz.underlying4
  a4 := Tryz.isAgg4
  z4 := Tryz.sizeOf4
  v4 := Tryz.zeroValue4
  t5 := Tryz.underlying5
  a5 := Tryz.isAgg5
  z5 := Tryz.sizeOf5
  v5 := Tryz.zeroValue5
  t9 := Tryz.underlying9
  a9 := Tryz.isAgg9
  z9 := Tryz.sizeOf9
  v9 := Tryz.zeroValue9
  t31 := Tryz.underlying24
  a31 := Tryz.isAgg24
  z31 := Tryz.sizeOf24
  v31 := Tryz.zeroValue24
  t46 := Tryz.underlying71
  a46 := Tryz.isAgg71
  z46 := Tryz.sizeOf71
  v46 := Tryz.zeroValue71
  t51 := Tryz.underlying55
  a51 := Tryz.isAgg55
  z51 := Tryz.sizeOf55
  v51 := Tryz.zeroValue55
  t53 := Tryz.underlying85
  a53 := Tryz.isAgg85
  z53 := Tryz.sizeOf85
  v53 := Tryz.zeroValue85
  t131 := Tryz.underlying72
  a131 := Tryz.isAgg72
  z131 := Tryz.sizeOf72
  v131 := Tryz.zeroValue72
  t182 := Tryz.underlying77
  a182 := Tryz.isAgg77
  z182 := Tryz.sizeOf77
  v182 := Tryz.zeroValue77
  t183 := Tryz.underlying78
  a183 := Tryz.isAgg78
  z183 := Tryz.sizeOf78
  v183 := Tryz.zeroValue78
  t218 := Tryz.underlying94
  a218 := Tryz.isAgg94
  z218 := Tryz.sizeOf94
  v218 := Tryz.zeroValue94
  t222 := Tryz.underlying98
  a222 := Tryz.isAgg98
  z222 := Tryz.sizeOf98
  v222 := Tryz.zeroValue98
  t228 := Tryz.underlying102
  a228 := Tryz.isAgg102
  z228 := Tryz.sizeOf102
  v228 := Tryz.zeroValue102
  t229 := Tryz.underlying103
  a229 := Tryz.isAgg103
  z229 := Tryz.sizeOf103
  v229 := Tryz.zeroValue103 }
def Tryz.lays194_ren : Go.Shelf.Ren := ⟨fun | 194 => 31 | n => n, fun | 0 => 0 | 3 => 3 | 4 => 4 | 9 => 9 | 31 => 24 | n => n, fun | n => n⟩
theorem Tryz.lays194 : Go.Proofs.Lays.n194 Tryz.prog Tryz.lays194_ren := {
  mixed := by kernel_rfl
  f194 := Tryz.func31.trans (congrArg some (by kernel_rfl))
  t0 := Tryz.underlying0
  a0 := Tryz.isAgg0
  z0 := Tryz.sizeOf0
  v0 := Tryz.zeroValue0
  t3 := Tryz.underlying3
  a3 := Tryz.isAgg3
  z3 := Tryz.sizeOf3
  v3 := Tryz.zeroValue3
  t4 := Tryz.underlying4
  a4 := Tryz.isAgg4
  z4 := Tryz.sizeOf4
  v4 := Tryz.zeroValue4
  t9 := Tryz.underlying9
  a9 := Tryz.isAgg9
  z9 := Tryz.sizeOf9
  v9 := Tryz.zeroValue9
  t31 := Tryz.underlying24
  a31 := Tryz.isAgg24
  z31 := Tryz.sizeOf24
  v31 := Tryz.zeroValue24 }
theorem encStr_eq (l : List Txt) : flatR encT l = l.map encStr := by rw [flatT]; rfl
theorem own_cut {w : World} {base g m n cap : Nat} {e : TypeId} {xs : List Value} (h : w.ownsRow base e 1 (.slice (some ⟨g, 0, none⟩) n cap) n xs) (hm : m ≤ n) : w.ownsRow base e 1 (.slice (some ⟨g, 0, none⟩) m cap) m (xs.take m) := by
  refine ⟨by rw [List.length_take, h.1]; omega, ?_⟩
  rcases h.2 with ⟨hn, _⟩ | ⟨g', cap', cur, hv, hb, hg, h1, h2, h3, h4⟩
  · cases hn
  · cases hv
    refine .inr ⟨g, cap, cur, rfl, hb, hg, by omega, h2, h3, ?_⟩
    rw [← h4, List.take_take]
    congr 1
    omega
theorem PSort_any (v : Value) (l : List Txt) (w : World) (base : Nat) (hb : base ≤ w.heap.size) (hv : OwnT w base v l) (hl : l.length ≤ 1000000) :
    Calls Tryz.prog 30 #[v] w fun e w' => e = .returned (.tuple #[]) ∧ OwnT w' base v (l.mergeSort fun x y => decide (x ≤ y)) ∧ Below base w w' := by
  have hv2 := hv
  rcases hv.2 with ⟨rfl, h0⟩ | ⟨g, cap, cur, rfl, hbg, hg, h1, h2, h3, h4⟩
  · obtain rfl := List.eq_nil_of_length_eq_zero h0
    refine (show Calls Tryz.prog 30 #[.slice none 0 0] w _ from Any.slices_Sort_string_none Tryz.lays190 none 0 w).mono ?_
    rintro e w' ⟨rfl, rfl⟩
    exact ⟨rfl, by simpa using hv2, Below.refl _ _⟩
  · have hH : Holds encStr w g 0 l.toArray := holds_of_block hg (by rw [Nat.mul_one] at h4; rw [h4, encStr_eq])
    refine (show Calls Tryz.prog 30 #[.slice (some ⟨g, 0, none⟩) l.length cap] w _ from calls_of_every_depth fun D => AnyS.slices_Sort_string_in Tryz.lays190 D g 0 cap l w hH (Array.getElem?_eq_some_iff.1 hg).1 (by omega)).mono ?_
    rintro e w' ⟨rfl, n, os, rfl⟩
    refine ⟨rfl, ?_, (Below.refl base w).grown (grownBy_sorted _) hb (fun j hj => by cases hj; exact hbg)⟩
    have := ownsRow_sorted (w := w) (n := n) (os := os) (ss := l) (ts := l.mergeSort fun x y => decide (x ≤ y)) (List.length_mergeSort l) hbg hg h1 h2 h3
    unfold OwnT
    rw [encStr_eq, List.length_mergeSort]
    exact this
theorem PCompact_any (v : Value) (l : List Txt) (w : World) (base : Nat) (hb : base ≤ w.heap.size) (hv : OwnT w base v l) (hl : l.length ≤ 1000000) :
    Calls Tryz.prog 31 #[v] w fun e w' => ∃ u, e = .returned u ∧ OwnT w' base u (Lib.compact l) ∧ Below base w w' := by
  have hv2 := hv
  rcases hv.2 with ⟨rfl, h0⟩ | ⟨g, cap, cur, rfl, hbg, hg, h1, h2, h3, h4⟩
  · obtain rfl := List.eq_nil_of_length_eq_zero h0
    refine (show Calls Tryz.prog 31 #[.slice none 0 0] w _ from Any.slices_Compact_string_empty Tryz.lays194 none 0 w).mono ?_
    rintro e w' ⟨rfl, rfl⟩
    exact ⟨_, rfl, hv2, Below.refl _ _⟩
  · have hH : Holds encStr w g 0 l.toArray := holds_of_block hg (by rw [Nat.mul_one] at h4; rw [h4, encStr_eq])
    refine (show Calls Tryz.prog 31 #[.slice (some ⟨g, 0, none⟩) l.length cap] w _ from Any.slices_Compact_string Tryz.lays194 g 0 cap l w hH (by omega) h1).mono ?_
    rintro e w' ⟨rfl, q, rfl⟩
    have hle : (Lib.compact l).length ≤ l.length := by
      unfold Lib.compact Lib.compactUpTo
      rw [List.length_map]
      exact Nat.le_trans (List.length_filter_le _ _) (by simp)
    have hlen : (Lib.compact l ++ List.replicate (l.length - (Lib.compact l).length) []).length = l.length := by simp; omega
    have h5 := ownsRow_sorted (w := w) (n := q) (os := #[]) (ss := l) (ts := Lib.compact l ++ List.replicate (l.length - (Lib.compact l).length) []) hlen hbg hg h1 h2 h3
    have h6 := grownBy_sorted (w := w) (g := g) (n := q) (os := #[]) (Lib.compact l ++ List.replicate (l.length - (Lib.compact l).length) []).toArray
    rw [grow_empty] at h5 h6
    refine ⟨_, rfl, ?_, (Below.refl base w).grown h6 hb (fun j hj => by cases hj; exact hbg)⟩
    have h7 := own_cut h5 hle
    rw [List.map_append, List.take_append_of_le_length (by simp), List.take_of_length_le (by simp)] at h7
    unfold OwnT
    rw [encStr_eq]
    exact h7
end Go.Proofs.YtndmblelkeepjaaGreatDoor

/-
  Trees (the document's own): Find, without, Clashes, Sorted, each by a contract.
-/
import Derived.Test.YtnpgfbgnbonhfaaDrop
import Derived.Test.YtnpgfbgnbonhfaaFil
import Derived.Test.YtnpgfbgnbonhfaaRpth
import Derived.Deep.RegionLaw
namespace Go.Proofs.Ytnpgfbgnbonhfaa
open Go.RowKit

abbrev ltS (p q : List UInt8) : Bool := Op.bytesLess p q
def findS (l : List FileS) (p : List UInt8) : Option FileS := l.find? fun f => f.1 == p
def withoutS (l : List FileS) (p : List UInt8) : List FileS := l.filter fun f => f.1 != p
def clashesS (l : List FileS) (p : List UInt8) : Bool := l.any fun f => f.1 != p && clashS f.1 p
/-- how many at the beginning stand ahead of that path -/
def aheadS : List FileS → List UInt8 → Nat
  | [], _ => 0
  | f :: r, p => if ltS f.1 p then aheadS r p + 1 else 0
theorem aheadS_le (l : List FileS) (p : List UInt8) : aheadS l p ≤ l.length := by
  induction l with
  | nil => simp [aheadS]
  | cons f r ih =>
    rw [aheadS]
    split
    · simp; exact ih
    · simp
def sortedS (l : List FileS) (f : FileS) : List FileS := l.take (aheadS l f.1) ++ [f] ++ l.drop (aheadS l f.1)
section
set_option maxRecDepth 100000
set_option maxHeartbeats 4000000
theorem RFind_any (v : Value) (l : List FileS) (p : List UInt8) (w : World) (hv : SlF w v l) (hl : l.length ≤ 4611686018427387904) :
    Calls Try.prog 12 #[v, strV p] w fun e w' => e = .returned (.tuple #[fileV ((findS l p).getD fileZ), .bool (findS l p).isSome]) ∧ Below w.heap.size w w' := by
  obtain ⟨ao, cap, rfl⟩ := hv.form
  have HV := hid (hv.alloc (.cells #[.string ⟨#[]⟩, .bool false, .string ⟨#[]⟩] 31))
  have HL := hid hl
  have HG := hid (heap_alloc_new w (.cells #[.string ⟨#[]⟩, .bool false, .string ⟨#[]⟩] 31))
  have HB := hid ((Below.refl _ w).alloc (Nat.le_refl w.heap.size) (.cells #[.string ⟨#[]⟩, .bool false, .string ⟨#[]⟩] 31))
  clear hv hl
  unfold strV fileV
  go_enter Try.func12, Try.ntmps12
  go_wp2_with fail
  generalize w.alloc (.cells #[.string ⟨#[]⟩, .bool false, .string ⟨#[]⟩] 31) = W at HV HG HB ⊢
  obtain ⟨gm, hgm⟩ : ∃ g, w.heap.size = g := ⟨_, rfl⟩
  rw [hgm] at HG HB ⊢
  have HGM := hid hgm
  clear hgm
  go_loopg [6] l.length (fun g i wr => ∃ k : Nat, k ≤ l.length ∧ l.length - k = g ∧ i = .int .i64 k ∧ Hid (findS l p = findS (l.drop k) p) ∧ wr = W)
  case atStart => exact ⟨0, Nat.zero_le _, rfl, rfl, hid rfl, rfl⟩
  case round =>
    obtain ⟨k, hk, rfl, rfl, HF, rfl⟩ := hrel
    have k0 : (0 : Int) ≤ (k : Int) := Int.natCast_nonneg _
    have hb : ∀ w', Keep (· = gm) wr w' → Below w.heap.size w w' := fun w' hw => by
      rw [HGM.out]
      exact HB.out.trans (hw.below (by rw [← HGM.out]; exact HB.out.size) (fun j hj e => by omega))
    have HBK := hid hb
    clear hb
    by_cases hlt : k < l.length
    · have k1 : (k : Int) < (l.length : Int) := by omega
      have kw : IntKind.i64.wrap ((k : Int) + 1) = (k : Int) + 1 := IntWalk.i64_in _ (by have := HL.out; omega)
      obtain ⟨b, o, p2, x2, t2, rfl, he, c1, c2, c3⟩ := SlF.at HV.out hlt
      have hd := drop_one he
      clear he
      by_cases hp : p2 = p
      · subst hp
        have HR := hid (show findS l p2 = some (p2, x2, t2) by rw [HF.out, hd]; simp [findS])
        clear hd
        go_wp2_with (refine file_store rfl 31 _ _ rfl gm #[.string ⟨p2.toArray⟩, .bool x2, .string ⟨t2.toArray⟩] rfl rfl _ _ HG.out 3 Try.sizeFile rfl rfl (by simp [Value.oneCell']) ?_; intro w9 hg9 hk9)
        refine bodyPost_ret (file_results rfl _ _ gm _ _ _ _ _ rfl rfl hg9 Try.underlying31 rfl Try.sizeFile) rfl ?_
        exact ⟨by rw [HR.out]; rfl, HBK.out _ hk9⟩
      · have hpb : (p2 == p) = false := by simpa using hp
        have HF2 := hid (show findS l p = findS (l.drop (k + 1)) p by rw [HF.out, hd]; simp [findS, hpb])
        clear hd hp
        go_wp2_with fail
        go_roundg (l.length - (k + 1))
        case measure => omega
        case rel => exact ⟨k + 1, by omega, rfl, by go_num, HF2, rfl⟩
    · obtain rfl : k = l.length := by omega
      have hneg : ¬ (l.length : Int) < (l.length : Int) := by omega
      have HR := hid (show findS l p = none by rw [HF.out, List.drop_length]; rfl)
      go_wp2_with (refine file_store rfl 31 _ _ rfl gm #[.string ⟨#[]⟩, .bool false, .string ⟨#[]⟩] rfl rfl _ _ HG.out 3 Try.sizeFile rfl rfl (by simp [Value.oneCell']) ?_; intro w9 hg9 hk9)
      refine bodyPost_ret (file_results rfl _ _ gm _ _ _ _ _ rfl rfl hg9 Try.underlying31 rfl Try.sizeFile) rfl ?_
      exact ⟨by rw [HR.out]; rfl, HBK.out _ hk9⟩
theorem RWithout_any (v : Value) (l : List FileS) (p : List UInt8) (w : World) (hv : SlF w v l) (hl : l.length ≤ 100000) :
    Calls Try.prog 28 #[v, strV p] w fun e w' => ∃ u, e = .returned u ∧ OwnF w' w.heap.size u (withoutS l p) ∧ Below w.heap.size w w' := by
  obtain ⟨ao, cap, rfl⟩ := hv.form
  have HV := hid hv
  have HL := hid hl
  clear hv hl
  unfold strV
  go_enter Try.func28, Try.ntmps28
  go_wp2_with fail
  go_loopg [5, 6] l.length (fun g r i wr => ∃ (k : Nat) (X : List FileS), k ≤ l.length ∧ l.length - k = g ∧ i = .int .i64 k ∧ Hid (X = withoutS (l.take k) p) ∧ Hid (OwnF wr w.heap.size r X) ∧ X.length ≤ k ∧ Below w.heap.size w wr)
  case atStart => exact ⟨0, [], Nat.zero_le _, rfl, rfl, hid rfl, hid (World.ownsRow_nil _ _ _ _), Nat.zero_le _, Below.refl _ _⟩
  case round =>
    obtain ⟨k, X, hk, rfl, rfl, HX, HN, hXl, hbel⟩ := hrel
    have hz := hbel.size
    have k0 : (0 : Int) ≤ (k : Int) := Int.natCast_nonneg _
    have hll := HL.out
    obtain ⟨no, nc, rfl⟩ := owns_form HN.out
    by_cases hlt : k < l.length
    · have k1 : (k : Int) < (l.length : Int) := by omega
      have kw : IntKind.i64.wrap ((k : Int) + 1) = (k : Int) + 1 := IntWalk.i64_in _ (by omega)
      obtain ⟨b, o, p2, x2, t2, rfl, he, c1, c2, c3⟩ := SlF.at (HV.out.old hbel) hlt
      have ht : l.take (k + 1) = l.take k ++ [(p2, x2, t2)] := by rw [List.take_add_one, he]; rfl
      clear he
      by_cases hp : p2 = p
      · subst hp
        have hpb : (p2 == p2) = true := by simp
        have HX2 := hid (show X = withoutS (l.take (k + 1)) p2 by rw [HX.out, ht]; simp [withoutS])
        clear ht HX
        go_wp2_with fail
        go_roundg (l.length - (k + 1))
        case measure => omega
        case rel => exact ⟨k + 1, X, by omega, rfl, by go_num, HX2, HN, by omega, hbel⟩
      · have hpb : (p2 == p) = false := by simpa using hp
        have HX2 := hid (show X ++ [(p2, x2, t2)] = withoutS (l.take (k + 1)) p by rw [HX.out, ht]; simp [withoutS, hp])
        clear ht HX hp
        go_wp2_with (at_builtin; refine wpList_append_f1 rfl (.tmp 20) (.tmp 25) rfl w.heap.size _ X (p2, x2, t2) rfl HN.out _ rfl rfl (by omega) hz ?_; intro v5 w5 hO5 hb5; have HO5 := hid hO5; have hb6 := hbel.trans hb5; clear hO5 hb5)
        go_roundg (l.length - (k + 1))
        case measure => omega
        case rel => exact ⟨k + 1, X ++ [(p2, x2, t2)], by omega, rfl, by go_num, HX2, HO5, by simp; omega, hb6⟩
    · obtain rfl : k = l.length := by omega
      have hneg : ¬ (l.length : Int) < (l.length : Int) := by omega
      have HX2 := hid (show X = withoutS l p by rw [HX.out, List.take_length])
      go_wp2_with fail
      go_ret
      rw [← HX2.out]
      exact ⟨_, rfl, HN.out, hbel⟩
theorem RClashes_any (v : Value) (l : List FileS) (p : List UInt8) (w : World) (hv : SlF w v l) (hl : l.length ≤ 4611686018427387904) :
    Calls Try.prog 30 #[v, strV p] w fun e w' => e = .returned (.bool (clashesS l p)) ∧ w = w' := by
  obtain ⟨ao, cap, rfl⟩ := hv.form
  have HV := hid hv
  have HL := hid hl
  clear hv hl
  unfold strV
  go_enter Try.func30, Try.ntmps30
  go_wp2_with fail
  go_loopg [5] l.length (fun g i wr => ∃ k : Nat, k ≤ l.length ∧ l.length - k = g ∧ i = .int .i64 k ∧ Hid (clashesS l p = clashesS (l.drop k) p) ∧ wr = w)
  case atStart => exact ⟨0, Nat.zero_le _, rfl, rfl, hid rfl, rfl⟩
  case round =>
    obtain ⟨k, hk, rfl, rfl, HF, rfl⟩ := hrel
    have k0 : (0 : Int) ≤ (k : Int) := Int.natCast_nonneg _
    by_cases hlt : k < l.length
    · have k1 : (k : Int) < (l.length : Int) := by omega
      have kw : IntKind.i64.wrap ((k : Int) + 1) = (k : Int) + 1 := IntWalk.i64_in _ (by have := HL.out; omega)
      obtain ⟨b, o, p2, x2, t2, rfl, he, c1, c2, c3⟩ := SlF.at HV.out hlt
      have hd := drop_one he
      have HX := hid (show clashesS l p = ((p2 != p && clashS p2 p) || clashesS (l.drop (k + 1)) p) by rw [HF.out, hd]; rfl)
      have HC := hid (RClash_any p2 p wr)
      obtain ⟨y, hy⟩ : ∃ y, clashS p2 p = y := ⟨_, rfl⟩
      rw [hy] at HX HC
      unfold strV at HC
      clear he hd hy HF c2 c3
      by_cases hp : p2 = p
      · subst hp
        have hpb : (p2 == p2) = true := by simp
        have HX2 := hid (show clashesS l p2 = clashesS (l.drop (k + 1)) p2 by rw [HX.out, bne, hpb]; rfl)
        clear HX HC
        go_wp2_with fail
        go_roundg (l.length - (k + 1))
        case measure => omega
        case rel => exact ⟨k + 1, by omega, rfl, by go_num, HX2, rfl⟩
      · have hpb : (p2 == p) = false := by simpa using hp
        rw [bne, hpb, Bool.not_false, Bool.true_and] at HX
        cases y with
        | true =>
          have HX2 := hid (show clashesS l p = true by rw [HX.out]; rfl)
          clear HX hp
          go_wp2_with (go_at_call 47; with_reducible refine HC.out.mono ?_; rintro e _ ⟨rfl, rfl⟩)
          go_ret
          exact ⟨by rw [HX2.out]; rfl, rfl⟩
        | false =>
          have HX2 := hid (show clashesS l p = clashesS (l.drop (k + 1)) p by rw [HX.out]; rfl)
          clear HX hp
          go_wp2_with (go_at_call 47; with_reducible refine HC.out.mono ?_; rintro e _ ⟨rfl, rfl⟩)
          go_roundg (l.length - (k + 1))
          case measure => omega
          case rel => exact ⟨k + 1, by omega, rfl, by go_num, HX2, rfl⟩
    · obtain rfl : k = l.length := by omega
      have hneg : ¬ (l.length : Int) < (l.length : Int) := by omega
      have HR := hid (show clashesS l p = false by rw [HF.out, List.drop_length]; rfl)
      go_wp2_with fail
      go_ret
      exact ⟨by rw [HR.out]; rfl, rfl⟩
/-- how far the place is found -/
def CutK (W : World) (l : List FileS) (p : List UInt8) (v : Value) (wx : World) : Prop := v = .int .i64 (aheadS l p) ∧ wx.heap = W.heap ∧ Below W.heap.size W wx
theorem RSorted_any (v : Value) (l : List FileS) (p t : List UInt8) (x : Bool) (w : World) (hv : SlF w v l) (hl : l.length ≤ 100000) :
    Calls Try.prog 31 #[v, .agg #[strV p, .bool x, strV t]] w fun e w' => ∃ u, e = .returned u ∧ OwnF w' w.heap.size u (sortedS l (p, x, t)) ∧ Below w.heap.size w w' := by
  obtain ⟨ao, cap, rfl⟩ := hv.form
  have HV0 := hid hv
  have HV := hid (hv.alloc (.cells #[.string ⟨p.toArray⟩, .bool x, .string ⟨t.toArray⟩] 31))
  have HL := hid hl
  have hg := heap_alloc_new w (.cells #[.string ⟨p.toArray⟩, .bool x, .string ⟨t.toArray⟩] 31)
  have HB := hid ((Below.refl _ w).alloc (Nat.le_refl w.heap.size) (.cells #[.string ⟨p.toArray⟩, .bool x, .string ⟨t.toArray⟩] 31))
  have HG := hid hg
  clear hv hl hg
  obtain ⟨i0, hi0, hi1, hi2, hi3⟩ := info_parts Try.infoFile
  unfold strV
  go_enter Try.func31, Try.ntmps31
  go_wp2_with fail
  generalize w.alloc (.cells #[.string ⟨p.toArray⟩, .bool x, .string ⟨t.toArray⟩] 31) = W at HV HB HG ⊢
  go_loopg [5] l.length (fun g i wr => ∃ k : Nat, k ≤ l.length ∧ l.length - k = g ∧ i = .int .i64 k ∧ Hid (aheadS l p = k + aheadS (l.drop k) p) ∧ Hid (wr.heap = W.heap ∧ Below w.heap.size w wr))
  case atStart => exact ⟨0, Nat.zero_le _, rfl, rfl, hid (by simp), hid ⟨rfl, HB.out⟩⟩
  case round =>
    obtain ⟨k, hk, rfl, rfl, HA, HW⟩ := hrel
    have k0 : (0 : Int) ≤ (k : Int) := Int.natCast_nonneg _
    have HVr := hid (HV.out.kept (w' := wr) fun a n c e hlt => by rw [HW.out.1])
    have g0 : wr.cell? ⟨w.heap.size, 0, none⟩ = some (.string ⟨p.toArray⟩) := blk_cell (by rw [HW.out.1]; exact HG.out) rfl
    have g1 : wr.cell? ⟨w.heap.size, 1, none⟩ = some (.bool x) := blk_cell (by rw [HW.out.1]; exact HG.out) rfl
    have g2 : wr.cell? ⟨w.heap.size, 2, none⟩ = some (.string ⟨t.toArray⟩) := blk_cell (by rw [HW.out.1]; exact HG.out) rfl
    by_cases hlt : k < l.length
    · have k1 : (k : Int) < (l.length : Int) := by omega
      have kd : decide ((k : Int) < (l.length : Int)) = true := decide_eq_true k1
      have kw : IntKind.i64.wrap ((k : Int) + 1) = (k : Int) + 1 := IntWalk.i64_in _ (by have := HL.out; omega)
      obtain ⟨b, o, p2, x2, t2, rfl, he, c1, c2, c3⟩ := SlF.at HVr.out hlt
      have hd := drop_one he
      have ha : aheadS (l.drop k) p = if ltS p2 p then aheadS (l.drop (k + 1)) p + 1 else 0 := by rw [hd]; rfl
      clear he hd
      by_cases hp : Op.bytesLess p2 p = true
      · have HA2 := hid (show aheadS l p = k + 1 + aheadS (l.drop (k + 1)) p by rw [HA.out, ha, if_pos hp]; omega)
        clear ha HA
        go_wp2_with fail
        go_quiet (fail)
        go_wp2_with fail
        go_roundg (l.length - (k + 1))
        case measure => omega
        case rel => exact ⟨k + 1, by omega, rfl, by go_num, HA2, hid ⟨HW.out.1, HW.out.2.trans ⟨rfl, rfl, rfl, Nat.le_refl _, fun _ _ => rfl⟩⟩⟩
      · have hpf : Op.bytesLess p2 p = false := by simpa using hp
        have HA2 := hid (show aheadS l p = k by rw [HA.out, ha, if_neg hp]; rfl)
        clear ha HA hp
        have hcut := SlR.cut_to (P := Try.prog) Try.underlying25 hi0 HV0.out (j := k) (by omega)
        obtain ⟨ao2, c2', hsl2, hs2⟩ := SlR.cut_from (P := Try.prog) Try.underlying25 hi0 hi2 HV0.out (i := k) (by omega)
        have hsl1 := hcut.1
        have H1 := hid hcut.2
        have H2 := hid hs2
        have HKL := hid (show (l.take k).length ≤ 100000 ∧ (l.drop k).length ≤ 100000 by have := HL.out; simp; omega)
        have HSO := hid (show [] ++ l.take k ++ [(p, x, t)] ++ l.drop k = sortedS l (p, x, t) by unfold sortedS; rw [HA2.out, List.nil_append])
        clear hcut hs2 HA2
        go_wp2_with fail
        go_quiet (fail)
        have HBy := hid (show Below w.heap.size w (wr.drewN nq) from HW.out.2.trans ⟨rfl, rfl, rfl, Nat.le_refl _, fun _ _ => rfl⟩)
        have q0 : (wr.drewN nq).cell? ⟨w.heap.size, 0, none⟩ = some (.string ⟨p.toArray⟩) := g0
        have q1 : (wr.drewN nq).cell? ⟨w.heap.size, 1, none⟩ = some (.bool x) := g1
        have q2 : (wr.drewN nq).cell? ⟨w.heap.size, 2, none⟩ = some (.string ⟨t.toArray⟩) := g2
        clear g0 g1 g2 HVr c1 c2 c3
        generalize wr.drewN nq = Y at HBy q0 q1 q2 ⊢
        have HYL := hid (World.block_lt_of_cell? Y _ q0)
        have HBF := hid (show Below w.heap.size w (Y.drew.alloc (.cells #[.string ⟨p.toArray⟩, .bool x, .string ⟨t.toArray⟩] 31)) from HBy.out.drew.alloc HBy.out.size _)
        go_wp2_with fail
        go_region_law (first
          | (refine step_append_fs (by rfl) (.const (.slice none 0 0)) (.tmp 24) rfl _ (.slice none 0 0) [] (l.take k) rfl (World.ownsRow_nil _ _ _ _) _ rfl (by first | exact H1.out.old HBy.out.drew | exact H1.out.old HBF.out) (by have := HKL.out; simp only [List.length_nil]; omega) (Nat.le_refl _) ?_; intro v5 w5 o5 b5
             have HO5 := hid (owns_lower o5 (show w.heap.size ≤ _ from by first | exact HBy.out.size | exact HBF.out.size))
             have HB5 := hid (show Below w.heap.size w w5 from by first | exact HBy.out.drew.trans (b5.mono HBy.out.size) | exact HBF.out.trans (b5.mono HBF.out.size))
             have HC5 := hid b5
             have hb5 : w5.heap[w.heap.size]? = Y.heap[w.heap.size]? := by first | exact b5.block _ HYL.out | exact (b5.block _ (by simp; exact Nat.lt_succ_of_lt HYL.out)).trans (Below.heap_alloc Y.drew _ _ HYL.out)
             have p0 := (World.cell?_of_block (w := Y) (a := ⟨w.heap.size, 0, none⟩) hb5).trans q0
             have p1 := (World.cell?_of_block (w := Y) (a := ⟨w.heap.size, 1, none⟩) hb5).trans q1
             have p2' := (World.cell?_of_block (w := Y) (a := ⟨w.heap.size, 2, none⟩) hb5).trans q2
             clear o5 b5 hb5)
          | (refine step_append_f1 (by rfl) (.tmp 25) (.tmp 27) rfl w.heap.size _ ([] ++ l.take k) (p, x, t) rfl (World.ownsRow.alloc HO5.out _) _ rfl (SlR.one (heap_alloc_new w5 _) rfl) (by have := HKL.out; simp only [List.nil_append]; omega) (by have := HB5.out.size; simp; omega) ?_; intro v6 w6 o6 b6
             have HO6 := hid o6
             have HB6 := hid ((HB5.out.alloc HB5.out.size _).trans b6)
             clear o6 b6)
          | (refine step_append_f1 (by rfl) (.tmp 25) (.tmp 27) rfl w.heap.size _ ([] ++ l.take k) (p, x, t) rfl HO5.out _ rfl (SlR.old (SlR.one (heap_alloc_new Y.drew _) rfl) HC5.out) (by have := HKL.out; simp only [List.nil_append]; omega) HB5.out.size ?_; intro v6 w6 o6 b6
             have HO6 := hid o6
             have HB6 := hid (HB5.out.trans b6)
             clear o6 b6)
          | (refine step_append_fs (by rfl) (.tmp 28) (.tmp 31) rfl w.heap.size _ ([] ++ l.take k ++ [(p, x, t)]) (l.drop k) rfl HO6.out _ rfl (H2.out.old HB6.out) (by have := HKL.out; simp only [List.nil_append, List.length_append, List.length_singleton]; omega) HB6.out.size ?_; intro v7 w7 o7 b7
             have HO7 := hid o7
             have HB7 := hid (HB6.out.trans b7)
             clear o7 b7))
        all_goals (
          go_wp2_with fail
          go_ret
          rw [← HSO.out]
          exact ⟨_, rfl, HO7.out, HB7.out⟩)
    · obtain rfl : k = l.length := by omega
      have hneg : ¬ (l.length : Int) < (l.length : Int) := by omega
      have kd : decide ((l.length : Int) < (l.length : Int)) = false := decide_eq_false (by omega)
      have HA2 := hid (show aheadS l p = l.length by rw [HA.out, List.drop_length]; rfl)
      clear HA
      have hcut := SlR.cut_to (P := Try.prog) Try.underlying25 hi0 HV0.out (j := l.length) (by omega)
      obtain ⟨ao2, c2', hsl2, hs2⟩ := SlR.cut_from (P := Try.prog) Try.underlying25 hi0 hi2 HV0.out (i := l.length) (by omega)
      rw [Nat.sub_self] at hsl2 hs2
      have hsl1 := hcut.1
      have H1 := hid hcut.2
      have H2 := hid hs2
      have HKL := hid (show (l.take l.length).length ≤ 100000 ∧ (l.drop l.length).length ≤ 100000 by have := HL.out; simp; omega)
      have HSO := hid (show [] ++ l.take l.length ++ [(p, x, t)] ++ l.drop l.length = sortedS l (p, x, t) by unfold sortedS; rw [HA2.out, List.nil_append])
      clear hcut hs2 HA2
      go_wp2_with fail
      go_quiet (fail)
      have HBy := hid (show Below w.heap.size w (wr.drewN nq) from HW.out.2.trans ⟨rfl, rfl, rfl, Nat.le_refl _, fun _ _ => rfl⟩)
      have q0 : (wr.drewN nq).cell? ⟨w.heap.size, 0, none⟩ = some (.string ⟨p.toArray⟩) := g0
      have q1 : (wr.drewN nq).cell? ⟨w.heap.size, 1, none⟩ = some (.bool x) := g1
      have q2 : (wr.drewN nq).cell? ⟨w.heap.size, 2, none⟩ = some (.string ⟨t.toArray⟩) := g2
      clear g0 g1 g2 HVr
      generalize wr.drewN nq = Y at HBy q0 q1 q2 ⊢
      have HYL := hid (World.block_lt_of_cell? Y _ q0)
      have HBF := hid (show Below w.heap.size w (Y.drew.alloc (.cells #[.string ⟨p.toArray⟩, .bool x, .string ⟨t.toArray⟩] 31)) from HBy.out.drew.alloc HBy.out.size _)
      go_wp2_with fail
      go_region_law (first
        | (refine step_append_fs (by rfl) (.const (.slice none 0 0)) (.tmp 24) rfl _ (.slice none 0 0) [] (l.take l.length) rfl (World.ownsRow_nil _ _ _ _) _ rfl (by first | exact H1.out.old HBy.out.drew | exact H1.out.old HBF.out) (by have := HKL.out; simp only [List.length_nil]; omega) (Nat.le_refl _) ?_; intro v5 w5 o5 b5
           have HO5 := hid (owns_lower o5 (show w.heap.size ≤ _ from by first | exact HBy.out.size | exact HBF.out.size))
           have HB5 := hid (show Below w.heap.size w w5 from by first | exact HBy.out.drew.trans (b5.mono HBy.out.size) | exact HBF.out.trans (b5.mono HBF.out.size))
           have HC5 := hid b5
           have hb5 : w5.heap[w.heap.size]? = Y.heap[w.heap.size]? := by first | exact b5.block _ HYL.out | exact (b5.block _ (by simp; exact Nat.lt_succ_of_lt HYL.out)).trans (Below.heap_alloc Y.drew _ _ HYL.out)
           have p0 := (World.cell?_of_block (w := Y) (a := ⟨w.heap.size, 0, none⟩) hb5).trans q0
           have p1 := (World.cell?_of_block (w := Y) (a := ⟨w.heap.size, 1, none⟩) hb5).trans q1
           have p2' := (World.cell?_of_block (w := Y) (a := ⟨w.heap.size, 2, none⟩) hb5).trans q2
           clear o5 b5 hb5)
        | (refine step_append_f1 (by rfl) (.tmp 25) (.tmp 27) rfl w.heap.size _ ([] ++ l.take l.length) (p, x, t) rfl (World.ownsRow.alloc HO5.out _) _ rfl (SlR.one (heap_alloc_new w5 _) rfl) (by have := HKL.out; simp only [List.nil_append]; omega) (by have := HB5.out.size; simp; omega) ?_; intro v6 w6 o6 b6
           have HO6 := hid o6
           have HB6 := hid ((HB5.out.alloc HB5.out.size _).trans b6)
           clear o6 b6)
        | (refine step_append_f1 (by rfl) (.tmp 25) (.tmp 27) rfl w.heap.size _ ([] ++ l.take l.length) (p, x, t) rfl HO5.out _ rfl (SlR.old (SlR.one (heap_alloc_new Y.drew _) rfl) HC5.out) (by have := HKL.out; simp only [List.nil_append]; omega) HB5.out.size ?_; intro v6 w6 o6 b6
           have HO6 := hid o6
           have HB6 := hid (HB5.out.trans b6)
           clear o6 b6)
        | (refine step_append_fs (by rfl) (.tmp 28) (.tmp 31) rfl w.heap.size _ ([] ++ l.take l.length ++ [(p, x, t)]) (l.drop l.length) rfl HO6.out _ rfl (H2.out.old HB6.out) (by have := HKL.out; simp only [List.nil_append, List.length_append, List.length_singleton]; omega) HB6.out.size ?_; intro v7 w7 o7 b7
           have HO7 := hid o7
           have HB7 := hid (HB6.out.trans b7)
           clear o7 b7))
      all_goals (
        go_wp2_with fail
        go_ret
        rw [← HSO.out]
        exact ⟨_, rfl, HO7.out, HB7.out⟩)
end
end Go.Proofs.Ytnpgfbgnbonhfaa

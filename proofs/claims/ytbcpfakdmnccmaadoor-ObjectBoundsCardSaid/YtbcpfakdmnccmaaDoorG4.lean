/-
  A list from a place on. A region that draws its order, walked once in the order of the text, where the callees may write as long as a class of worlds is kept (Derived/Deep/Quiet.lean at a class of one's own): the beginning, and the load of a whole array. Nothing of the program. A region that draws its order, guarded or not, whose callees may allocate: walked once, in the order of the text, over a family of worlds in the place of 'some draws on' (Derived/Deep/Quiet.lean at the class 'one of f's worlds'). Nothing of the program. Package object (landed): nested. Package object (landed): isTree. The document's own Commit: the bytes that it writes. Package object (landed): begin, writeKey: a Writer with its first byte; a key, written byte by byte. Package object (landed): wrongCommit, Commit. Package object (landed): TakeTree, TakeCommit. Package object (landed): Tree: the bytes that it writes. rickhelp.Bytes. What a program that does nothing does not answer (ricklaw15.awake). Small words for the laws of objects: facts carried over new memory; a literal built under a guard. For ObjectBack: how long what is written is, and what it is not; a slice of bytes cut short. For ObjectBounds: bytes that are made, a number below six, two entries written out, and that a tree's paths cannot rise both ways.
-/
import Derived.WalkKit
import Derived.BigQuiet
import Derived.Deep.MidRow
import Derived.Laws.Rows
import Derived.Test.YtbcpfakdmnccmaaDoorBase
import Derived.Test.YtbcpfakdmnccmaaDoorG3
import Derived.Test.YtbcpfakdmnccmaaDoorG2
import Derived.Deep.LoopGhost
import Derived.Deep.RegionHeld3
import Derived.Deep.DeepCutAuto
import Derived.Deep.CutBlock
import Derived.Deep.CutRange
import Derived.Test.YtbcpfakdmnccmaaDoorG1
import Derived.Deep.RegionLaw
import Derived.Test.YtbcpfakdmnccmaaDoorLaw3
import Derived.Laws.MakeOwn
namespace Go.Proofs.YtbcpfakdmnccmaaDoor
theorem drop_one {α : Type} {l : List α} {k : Nat} {x : α} (h : l[k]? = some x) : l.drop k = x :: l.drop (k + 1) := by
  obtain ⟨q, e⟩ := List.getElem?_eq_some_iff.1 h
  rw [List.drop_eq_getElem_cons q, e]
end Go.Proofs.YtbcpfakdmnccmaaDoor

namespace Go.Proofs.YtbcpfakdmnccmaaDoor
open Go.RowKit

section
variable {P : Program}
theorem quiet_region {id : Nat} {Q : Exit → Act → World → Prop} {a : Act} {w : World} {l : List Oper} (C : World → Prop) (hm : P.follows .mixedOrders = true) (hB : Region.lexB .any l.toArray = true) (hC : C w.drew)
    (h : wpQuiet P l.toArray C (fun a' => ∀ w', C w' → Q .normal a' w') l a) : (Code.region id l.toArray true).wp P Q a w :=
  wp_region_quiet hm hB hC (by simpa using h)
theorem quiet_load {C : World → Prop} {a : Act} {o : Oper} {K : Act → Prop} (ty : TypeId) (x : Operand) (ho : o.op = .load ty x)
    (b off : Nat) (hx : a.eval x = .pointer (some ⟨b, off, none⟩)) (cs : List Value) (d : TypeDesc) (hc : ∀ w, C w → w.rangeAt b off cs)
    (hu : P.underlying ty = some d) (hd : d.isRow = true) (hi : (P.info? ty).map (·.size) = some cs.length) (h : K (a.put o.dst (.agg cs.toArray))) : o.quiet P a C K :=
  ⟨_, fun w hw => by
    unfold Oper.quietAt execOp
    simp only [ho, hx, Instr.loadAt, Instr.sureAddr, Sem.run_bind, Sem.run_pure, Result.andThen_ok, run_loadVar_mid w b off ty cs d (hc w hw) hu hd hi]
    exact ⟨rfl, rfl⟩, h⟩
theorem quiet_convert {C : World → Prop} {a : Act} {o : Oper} {K : Act → Prop} (s d : TypeId) (x : Operand) (ho : o.op = .convert s d x) (v u : Value) (hx : a.eval x = v) (hr : ∀ w, C w → (convert s d v).run P w = .ok u w) (h : K (a.put o.dst u)) : o.quiet P a C K :=
  ⟨_, fun w hw => by
    unfold Oper.quietAt execOp
    simp only [ho, hx, Sem.run_bind, hr w hw, Result.andThen_ok, Sem.run_pure]
    exact ⟨rfl, rfl⟩, h⟩
/-- The load of a whole row, guarded: the guard lets it by. -/
theorem wpList_load_g {ops : Array Oper} {rest : List Oper} {o : Oper} {a : Act} {w : World} {Q : Exit → Act → World → Prop} (hw : Region.wanted o (yielded ops a.tmps) = true) (ty : TypeId) (x : Operand) (ho : o.op = .load ty x)
    (g : Nat) (hx : a.eval x = .pointer (some ⟨g, 0, none⟩)) (t : TypeId) (cs : Array Value) (fr : Nat × Nat) (d : TypeDesc) (hg : w.heap[g]? = some (.cells cs t fr))
    (hu : P.underlying ty = some d) (hd : (match d with | .struct _ | .array _ _ => true | _ => false) = true) (hi : (P.info? ty).map (·.size) = some cs.size)
    (h : wpList P ops Q rest (a.put o.dst (.agg cs)) w) : wpList P ops Q (o :: rest) a w :=
  BigFrame.wpList_want hw fun _ hK => wp_load_row ty x ho g hx t cs fr d hg hu hd hi (hK _ _ h)
end
end Go.Proofs.YtbcpfakdmnccmaaDoor

namespace Go.Proofs.YtbcpfakdmnccmaaDoor
open Go.RowKit
open BigFrame

theorem fam (w : World) : ∃ (ι : Type) (_ : Nonempty ι) (f : ι → World), (∀ i, Below w.heap.size w (f i)) ∧ ∀ w', Below w.heap.size w w' → ∃ i, w' = f i :=
  ⟨{w' : World // Below w.heap.size w w'}, ⟨⟨w, Below.refl _ _⟩⟩, Subtype.val, fun i => i.2, fun w' h => ⟨⟨w', h⟩, rfl⟩⟩
section
variable {ι : Type} {f : ι → World} {w : World}
theorem fam_cell (hf : ∀ i, Below w.heap.size w (f i)) {a : Addr} {v : Value} (h : w.cell? a = some v) : ∀ i, (f i).cell? a = some v := fun i =>
  (World.cell?_of_block ((hf i).block _ (World.block_lt_of_cell? w _ h))).trans h
theorem fam_call {P : Program} {F : FuncId} {args : Array Value} {v : Value} {n : ι} (hf : ∀ i, Below w.heap.size w (f i)) (hc : ∀ w', Below w.heap.size w w' → ∃ i, w' = f i)
    (h : Calls P F args (f n) fun e w' => e = .returned v ∧ Below (f n).heap.size (f n) w') : Calls P F args (f n) fun e w'' => e = .returned v ∧ ∃ m, w'' = f m :=
  h.mono fun _ w' ⟨he, hb⟩ => ⟨he, hc w' (below_step (hf n) hb (hf n).size)⟩
end
end Go.Proofs.YtbcpfakdmnccmaaDoor

namespace Go.Proofs.YtbcpfakdmnccmaaDoor
open Go.RowKit

/-- an entry in a block of its own -/
structure EntAt (w : World) (g : Nat) (f : EntS) : Prop where
  blk : w.heap[g]? = some (.cells (entC f).toArray 31 (0, 0))
theorem EntAt.c0 {w : World} {g : Nat} {f : EntS} (h : EntAt w g f) : w.cell? ⟨g, 0, none⟩ = some (.string ⟨f.1.toArray⟩) := blk_cell h.blk rfl
theorem EntAt.c1 {w : World} {g : Nat} {f : EntS} (h : EntAt w g f) : w.cell? ⟨g, 1, none⟩ = some (.bool f.2.1) := blk_cell h.blk rfl
theorem EntAt.c2 {w : World} {g : Nat} {f : EntS} (h : EntAt w g f) : w.rangeAt g 2 (keyC f.2.2) := by
  have := range_sub (a := [.string ⟨f.1.toArray⟩, .bool f.2.1]) (c := keyC f.2.2) (d := []) (range_blk h.blk) (by simp [entC])
  exact this
theorem EntAt.old {w w' : World} {g : Nat} {f : EntS} (h : EntAt w g f) (hk : Below w.heap.size w w') : EntAt w' g f := ⟨(hk.block g (lt_of_block h.blk)).trans h.blk⟩
theorem EntAt.kept {w w' : World} {g : Nat} {f : EntS} (h : EntAt w g f) (hk : w'.heap[g]? = w.heap[g]?) : EntAt w' g f := ⟨hk.trans h.blk⟩
section
set_option maxRecDepth 100000
set_option maxHeartbeats 4000000
theorem DNested_any (v : Value) (l : List EntS) (w : World) (hv : SlEnt w v l) (hp : ∀ f ∈ l, f.1.length ≤ 1000000) (hl : l.length ≤ 1000) :
    Calls Tryd.prog 52 #[v] w fun e w' => e = .returned (.bool (Ent.nestE l)) ∧ Below w.heap.size w w' := by
  obtain ⟨i0, hi0, hi1, hi2, hi3⟩ := info_parts Tryd.infoEnt
  obtain ⟨ao, cap, rfl⟩ := hv.form
  have HV := hid hv
  have HP := hid hp
  have HL := hid hl
  have HI := hid (fun f : EntS => entInfo f)
  have HS34 := hid (fun f : EntS => show (entC f).toArray.size = 34 by rw [List.size_toArray, entC_len])
  have HEO := hid (fun f : EntS => arr_one (entC_one f))
  have HI0 := hid hi0
  have HI2 := hid hi2
  clear hv hp hl hi0 hi1 hi2 hi3
  go_enter Tryd.func52, Tryd.ntmps52
  go_wp2_with fail
  go_loopg [9] l.length (fun g i wr => ∃ k : Nat, k ≤ l.length ∧ l.length - k = g ∧ i = .int .i64 (k : Nat) ∧ Hid (Ent.nestE l = Ent.nestE (l.drop k)) ∧ Hid (Below w.heap.size w wr))
  case atStart => exact ⟨0, Nat.zero_le _, rfl, rfl, hid rfl, hid (Below.refl _ _)⟩
  case round =>
    obtain ⟨k, hk, rfl, rfl, HN, HB⟩ := hrel
    have hll := HL.out
    have k0 : (0 : Int) ≤ (k : Int) := Int.natCast_nonneg _
    by_cases hlt : k < l.length
    · have k1 : (k : Int) < (l.length : Int) := by omega
      have kw : IntKind.i64.wrap ((k : Int) + 1) = (k : Int) + 1 := IntWalk.i64_in _ (by omega)
      obtain ⟨b, o, f, rfl, he, hr, _, _, _⟩ := SlEnt.at (HV.out.old HB.out) hlt
      obtain ⟨ao', c', r1, s1⟩ := SlR.cut_from (P := Tryd.prog) (E := encEnt) Tryd.underlying22 HI0.out HI2.out (HV.out.old HB.out) (i := k + 1) (by omega)
      have HFL := hid (HP.out f (List.mem_of_getElem? he))
      have HN2 := hid (show Ent.nestE l = (Ent.nestIn f.1 (l.drop (k + 1)) || Ent.nestE (l.drop (k + 1))) by rw [HN.out, drop_one he, Ent.nestE])
      have HRG := hid hr
      have HS1 := hid s1
      have hsub : (l.drop (k + 1)).length = l.length - (k + 1) := List.length_drop
      have HPL := hid (show ∀ g ∈ l.drop (k + 1), g.1.length ≤ 1000000 from fun g hg => HP.out g (List.mem_of_mem_drop hg))
      rw [← hsub] at r1 HS1
      rw [Int.natCast_add, Int.natCast_one] at r1
      clear he hr s1 hsub
      obtain ⟨L, hL⟩ : ∃ L, l.drop (k + 1) = L := ⟨_, rfl⟩
      have HLL := hid (show L.length ≤ 1000 by rw [← hL, List.length_drop]; omega)
      rw [hL] at r1 HS1 HN2 HPL
      have HEQ := hid hL
      clear hL
      go_wp2_with (first
        | (refine wpList_load_mid rfl 31 _ rfl b (o + k * 34) rfl _ _ HRG.out Tryd.underlying31 rfl (HI.out f) ?_)
        | (refine wpList_store_all rfl 31 _ _ rfl wr.heap.size _ rfl rfl _ _ (heap_alloc_new wr _) 34 Tryd.sizeEnt (HS34.out f) rfl (HEO.out f) ?_; intro w2 hg2 hk2
           have HA2 := hid (EntAt.mk hg2)
           have HB2 := hid (show Below wr.heap.size wr w2 from ((Below.refl _ wr).alloc (Nat.le_refl _) _).trans (hk2.below (by simp) fun q hq => by show ¬ q = _; omega))
           clear hg2 hk2))
      have HGB := hid (lt_of_block HA2.out.blk)
      clear r1
      generalize wr = wz at *
      go_loopg [19] L.length (fun g i wy => ∃ j : Nat, j ≤ L.length ∧ L.length - j = g ∧ i = .int .i64 (j : Nat) ∧ Hid (Ent.nestE l = (Ent.nestIn f.1 (L.drop j) || Ent.nestE L)) ∧ Hid (Below w2.heap.size w2 wy))
      case atStart => exact ⟨0, Nat.zero_le _, rfl, rfl, HN2, hid (Below.refl _ _)⟩
      case round =>
        obtain ⟨j, hj, rfl, rfl, HM, HY⟩ := hrel
        have hLL := HLL.out
        have j0 : (0 : Int) ≤ (j : Int) := Int.natCast_nonneg _
        by_cases hjl : j < L.length
        · have j1 : (j : Int) < (L.length : Int) := by omega
          have jw : IntKind.i64.wrap ((j : Int) + 1) = (j : Int) + 1 := IntWalk.i64_in _ (by omega)
          obtain ⟨b2, o2, g, rfl, he2, hr2, _, _, _⟩ := SlEnt.at (SlR.old HS1.out (below_step HB2.out HY.out HB2.out.size)) hjl
          have HPF := hid (fun wx => DHasP_any g.1 f.1 wx)
          have HCL := hid (fun wx => DClash_any f.1 g.1 wx HFL.out (HPL.out g (List.mem_of_getElem? he2)))
          have hm2 : Ent.nestE l = (((prefS g.1 f.1) && (clashS f.1 g.1 || Ent.nestIn f.1 (L.drop (j + 1)))) || Ent.nestE L) := by rw [HM.out, drop_one he2, Ent.nestIn]
          have HRG2 := hid hr2
          have HA3 := hid (HA2.out.old HY.out)
          obtain ⟨x, hx⟩ : ∃ x, prefS g.1 f.1 = x := ⟨_, rfl⟩
          obtain ⟨y, hy⟩ : ∃ y, clashS f.1 g.1 = y := ⟨_, rfl⟩
          rw [hx] at HPF hm2
          rw [hy] at HCL hm2
          have HM2 := hid hm2
          unfold strV at HPF HCL
          clear he2 hr2 hm2 hx hy HM
          have HZ3 := hid (fun (w3 : World) (h : Below wr.heap.size wr w3) => below_step HY.out h HY.out.size)
          have HZ4 := hid (fun (w3 : World) (h : Below w2.heap.size w2 w3) => below_step HB.out (below_step HB2.out h HB2.out.size) HB.out.size)
          cases x with
          | false =>
            have HF := hid (show Ent.nestE l = Ent.nestE (l.drop (k + 1)) by rw [HM2.out, HEQ.out]; rfl)
            clear HM2 HY
            go_wp2_with (first
            | (refine wpList_load_mid rfl 31 _ rfl b2 (o2 + j * 34) rfl _ _ HRG2.out Tryd.underlying31 rfl (HI.out g) ?_)
            | (refine wpList_store_all rfl 31 _ _ rfl wr.heap.size _ rfl rfl _ _ (heap_alloc_new wr _) 34 Tryd.sizeEnt (HS34.out g) rfl (HEO.out g) ?_; intro w3 hg3 hk3
               have HB3 := hid (show Below wr.heap.size wr w3 from ((Below.refl _ wr).alloc (Nat.le_refl _) _).trans (hk3.below (by simp) fun q hq => by show ¬ q = _; omega))
               have d0 := (EntAt.mk hg3).c0
               have e0 := (HA3.out.old HB3.out).c0
               clear hg3 hk3)
            | (go_at_call 73; with_reducible refine (HPF.out _).mono ?_; rintro e _ ⟨rfl, rfl⟩))
            have HB5 := hid (HZ4.out _ (HZ3.out _ HB3.out))
            clear HB3 d0 e0
            go_wp2_with fail
            go_roundg (l.length - (k + 1))
            case measure => omega
            case rel => exact ⟨k + 1, by omega, rfl, by go_num, HF, HB5⟩
          | true =>
            cases y with
            | true =>
              have HF := hid (show Ent.nestE l = true by rw [HM2.out]; rfl)
              clear HM2 HY
              go_wp2_with (first
              | (refine wpList_load_mid rfl 31 _ rfl b2 (o2 + j * 34) rfl _ _ HRG2.out Tryd.underlying31 rfl (HI.out g) ?_)
              | (refine wpList_store_all rfl 31 _ _ rfl wr.heap.size _ rfl rfl _ _ (heap_alloc_new wr _) 34 Tryd.sizeEnt (HS34.out g) rfl (HEO.out g) ?_; intro w3 hg3 hk3
                 have HB3 := hid (show Below wr.heap.size wr w3 from ((Below.refl _ wr).alloc (Nat.le_refl _) _).trans (hk3.below (by simp) fun q hq => by show ¬ q = _; omega))
                 have d0 := (EntAt.mk hg3).c0
                 have e0 := (HA3.out.old HB3.out).c0
                 clear hg3 hk3)
              | (go_at_call 73; with_reducible refine (HPF.out _).mono ?_; rintro e _ ⟨rfl, rfl⟩)
              | (go_at_call 74; with_reducible refine (HCL.out _).mono ?_; rintro e w4 ⟨rfl, hb4⟩; have HB4 := hid (below_step HB3.out hb4 HB3.out.size); clear hb4))
              go_ret
              exact ⟨by rw [HF.out]; rfl, HZ4.out _ (HZ3.out _ HB4.out)⟩
            | false =>
              have HF := hid (show Ent.nestE l = (Ent.nestIn f.1 (L.drop (j + 1)) || Ent.nestE L) by rw [HM2.out]; simp)
              clear HM2 HY
              go_wp2_with (first
              | (refine wpList_load_mid rfl 31 _ rfl b2 (o2 + j * 34) rfl _ _ HRG2.out Tryd.underlying31 rfl (HI.out g) ?_)
              | (refine wpList_store_all rfl 31 _ _ rfl wr.heap.size _ rfl rfl _ _ (heap_alloc_new wr _) 34 Tryd.sizeEnt (HS34.out g) rfl (HEO.out g) ?_; intro w3 hg3 hk3
                 have HB3 := hid (show Below wr.heap.size wr w3 from ((Below.refl _ wr).alloc (Nat.le_refl _) _).trans (hk3.below (by simp) fun q hq => by show ¬ q = _; omega))
                 have d0 := (EntAt.mk hg3).c0
                 have e0 := (HA3.out.old HB3.out).c0
                 clear hg3 hk3)
              | (go_at_call 73; with_reducible refine (HPF.out _).mono ?_; rintro e _ ⟨rfl, rfl⟩)
              | (go_at_call 74; with_reducible refine (HCL.out _).mono ?_; rintro e w4 ⟨rfl, hb4⟩; have HB4 := hid (below_step HB3.out hb4 HB3.out.size); clear hb4))
              have HB5 := hid (HZ3.out _ HB4.out)
              clear HB3 HB4 d0 e0
              go_wp2_with fail
              go_roundg (L.length - (j + 1))
              case measure => omega
              case rel => exact ⟨j + 1, by omega, rfl, by go_num, HF, HB5⟩
        · obtain rfl : j = L.length := by omega
          have hneg : ¬ (L.length : Int) < (L.length : Int) := by omega
          have HF := hid (show Ent.nestE l = Ent.nestE (l.drop (k + 1)) by rw [HM.out, List.drop_length, HEQ.out]; rfl)
          have HB3 := hid (below_step HB.out (below_step HB2.out HY.out HB2.out.size) HB.out.size)
          clear HB2 HY
          go_wp2_with fail
          go_roundg (l.length - (k + 1))
          case measure => omega
          case rel => exact ⟨k + 1, by omega, rfl, by go_num, HF, HB3⟩
    · obtain rfl : k = l.length := by omega
      have hneg : ¬ (l.length : Int) < (l.length : Int) := by omega
      have HF := hid (show Ent.nestE l = false by rw [HN.out, List.drop_length]; rfl)
      go_wp2_with fail
      go_ret
      exact ⟨by rw [HF.out]; rfl, HB.out⟩
end
end Go.Proofs.YtbcpfakdmnccmaaDoor

namespace Go.Proofs.YtbcpfakdmnccmaaDoor
open Go.RowKit

section
set_option maxRecDepth 100000
set_option maxHeartbeats 4000000
theorem DIsTree_any (v : Value) (l : List EntS) (w : World) (hv : SlEnt w v l) :
    Calls Tryd.prog 28 #[v] w fun e w' => e = .returned (.bool (entsR l)) ∧ Below w.heap.size w w' := by
  rw [← Ent.treeD_eq]
  obtain ⟨ao, cap, rfl⟩ := hv.form
  have HV := hid hv
  clear hv
  by_cases h100 : l.length ≤ 100
  · have hl1 : decide (100 < (l.length : Int)) = false := decide_eq_false (by omega)
    have hl2 : decide (100 < l.length) = false := decide_eq_false (by omega)
    have HR := hid (show Ent.treeD l = (Ent.okAllD [] l && !Ent.nestE l) by unfold Ent.treeD; rw [decide_eq_true h100, Bool.true_and])
    have HL := hid h100
    have HI := hid (fun f : EntS => entInfo f)
    have HS34 := hid (fun f : EntS => show (entC f).toArray.size = 34 by rw [List.size_toArray, entC_len])
    have HEO := hid (fun f : EntS => arr_one (entC_one f))
    clear h100
    go_enter Tryd.func28, Tryd.ntmps28
    go_wp2_with fail
    go_loopg [10] l.length (fun g i wr => ∃ k : Nat, k ≤ l.length ∧ l.length - k = g ∧ i = .int .i64 (k : Nat) ∧ Hid (Ent.okAllD [] l = Ent.okAllD (l.take k) (l.drop k)) ∧ Below w.heap.size w wr)
    case atStart => exact ⟨0, Nat.zero_le _, rfl, rfl, hid rfl, Below.refl _ _⟩
    case round =>
      obtain ⟨k, hk, rfl, rfl, HA, hbx⟩ := hrel
      have hzx := hbx.size
      have hll := HL.out
      have k0 : (0 : Int) ≤ (k : Int) := Int.natCast_nonneg _
      by_cases hlt : k < l.length
      · have k1 : (k : Int) < (l.length : Int) := by omega
        have kw : IntKind.i64.wrap ((k : Int) + 1) = (k : Int) + 1 := IntWalk.i64_in _ (by omega)
        obtain ⟨b, o, f, rfl, he, hr, _, _, _⟩ := SlEnt.at (HV.out.old hbx) hlt
        have hd := drop_one he
        have ht : l.take (k + 1) = l.take k ++ [f] := by rw [List.take_add_one, he]; rfl
        have HX := hid (show Ent.okAllD [] l = (Ent.okD (l.take k) f && Ent.okAllD (l.take (k + 1)) (l.drop (k + 1))) by rw [HA.out, hd, Ent.okAllD, ht])
        have HP := hid (fun wy => DRightQ_any f.1 wy)
        obtain ⟨rp, hrp⟩ : ∃ z, rightS f.1 = z := ⟨_, rfl⟩
        obtain ⟨ok3, hok3⟩ : ∃ z, Ent.okD (l.take k) f = z := ⟨_, rfl⟩
        have HO3 := hid (show (rp && (match (l.take k).getLast? with | some g => !(ltS f.1 g.1 || f.1 == g.1) | none => true)) = ok3 by rw [← hok3, ← hrp]; rfl)
        rw [hrp] at HP
        rw [hok3] at HX
        unfold strV at HP
        have HRG := hid hr
        have HBX := hid hbx
        clear he hd ht hrp hok3 HA hr
        go_upto_region 6 with (first
          | (refine wpList_load_mid rfl 31 _ rfl b (o + k * 34) rfl _ _ HRG.out Tryd.underlying31 rfl (HI.out f) ?_)
          | (refine wpList_store_all rfl 31 _ _ rfl wr.heap.size _ rfl rfl _ _ (heap_alloc_new wr _) 34 Tryd.sizeEnt (HS34.out f) rfl (HEO.out f) ?_; intro w2 hg2 hk2
             have HA2 := hid (EntAt.mk hg2)
             have HB2 := hid (show Below wr.heap.size wr w2 from ((Below.refl _ wr).alloc (Nat.le_refl _) _).trans (hk2.below (by simp) fun q hq => by show ¬ q = _; omega))
             clear hg2 hk2))
        have hbx2 := below_step HBX.out HB2.out hzx
        have hz2 := hbx2.size
        simp only [Act.put]
        go_cut [33] from 15 to 33 (fun q wx => q = .bool (!ok3) ∧ Below w.heap.size w wx)
        case first =>
          obtain ⟨ι, _, fam, hf, hc⟩ := fam w2
          have c1 := fam_cell hf HA2.out.c0
          cases rp with
          | false =>
            have HQ := hid (show ok3 = false by rw [← HO3.out]; rfl)
            refine quiet_region (fun w' => ∃ i, w' = fam i) (by kernel_rfl) (by kernel_rfl) (hc _ ((Below.refl _ _).drew)) ?_
            repeat (go_big_quiet_step ((go_at_call 51; exact fam_call hf hc (HP.out _))))
            refine wpQuiet_nil ?_
            intro _ hw'
            obtain ⟨nq, hw''⟩ := hw'
            subst hw''
            go_wp2_with fail
            go_meet
            exact ⟨by rw [HQ.out]; rfl, below_step hbx2 (hf nq) hz2⟩
          | true =>
            by_cases hk0 : k = 0
            · have z1 : decide (0 < (k : Int)) = false := decide_eq_false (by omega)
              have z2 : decide (0 < k) = false := decide_eq_false (by omega)
              have HQ := hid (show ok3 = true by rw [← HO3.out, hk0]; rfl)
              clear hk0
              refine quiet_region (fun w' => ∃ i, w' = fam i) (by kernel_rfl) (by kernel_rfl) (hc _ ((Below.refl _ _).drew)) ?_
              repeat (go_big_quiet_step ((go_at_call 51; exact fam_call hf hc (HP.out _))))
              refine wpQuiet_nil ?_
              intro _ hw'
              obtain ⟨nq, hw''⟩ := hw'
              subst hw''
              go_wp2_with fail
              go_meet
              exact ⟨by rw [HQ.out]; rfl, below_step hbx2 (hf nq) hz2⟩
            · have z1 : decide (0 < (k : Int)) = true := decide_eq_true (by omega)
              have z2 : decide (0 < k) = true := decide_eq_true (by omega)
              obtain ⟨j, hj⟩ : ∃ j, k = j + 1 := ⟨k - 1, by omega⟩
              have j0 : (0 : Int) ≤ (j : Int) := Int.natCast_nonneg _
              have jl : (j : Int) < (l.length : Int) := by omega
              have jw : IntKind.i64.wrap ((k : Int) - 1) = (j : Int) := (IntWalk.i64_in _ (by omega)).trans (by omega)
              obtain ⟨b', o', ⟨pj, xj, tj⟩, hao, hej, _, cj, _, _⟩ := SlEnt.at (HV.out.old hbx2) (i := j) (by omega)
              cases hao
              have cj := fam_cell hf cj
              have hgl : (l.take k).getLast? = some (pj, xj, tj) := by
                rw [hj, List.take_add_one, hej]
                simp
              have HQ := hid (show ok3 = !(ltS f.1 pj || f.1 == pj) by rw [← HO3.out, hgl]; rfl)
              clear hk0 hgl hej hj
              obtain ⟨e1, he1⟩ : ∃ z, Op.bytesLess f.1 pj = z := ⟨_, rfl⟩
              obtain ⟨e2, he2⟩ : ∃ z, (f.1 == pj) = z := ⟨_, rfl⟩
              have HQ := hid (show ok3 = !(e1 || e2) by rw [HQ.out, ← he1, ← he2])
              refine quiet_region (fun w' => ∃ i, w' = fam i) (by kernel_rfl) (by kernel_rfl) (hc _ ((Below.refl _ _).drew)) ?_
              repeat (go_big_quiet_step ((go_at_call 51; exact fam_call hf hc (HP.out _))))
              refine wpQuiet_nil ?_
              intro _ hw'
              obtain ⟨nq, hw''⟩ := hw'
              subst hw''
              go_wp2_with fail
              go_meet
              exact ⟨by rw [HQ.out]; simp, below_step hbx2 (hf nq) hz2⟩
        case rest =>
          obtain ⟨rfl, hbc⟩ := hcut
          cases ok3 with
          | false =>
            have HF := hid (show Ent.treeD l = false by rw [HR.out, HX.out]; rfl)
            clear HX HO3
            go_wp2_with fail
            go_ret
            exact ⟨by rw [HF.out]; rfl, hbc⟩
          | true =>
            have HY := hid (show Ent.okAllD [] l = Ent.okAllD (l.take (k + 1)) (l.drop (k + 1)) by rw [HX.out, Bool.true_and])
            clear HX HO3
            go_wp2_with fail
            go_roundg (l.length - (k + 1))
            case measure => omega
            case rel => exact ⟨k + 1, by omega, rfl, by go_num, HY, hbc⟩
      · obtain rfl : k = l.length := by omega
        have hneg : ¬ (l.length : Int) < (l.length : Int) := by omega
        have hok : Ent.okAllD [] l = true := by rw [HA.out, List.drop_length]; rfl
        have HN := hid (DNested_any _ l wr (HV.out.old hbx) (fun f hf => by
          have h1 := ((Ent.okAllD_iff l [] List.Pairwise.nil).1 hok).1 f hf
          unfold rightS at h1
          simp only [Bool.and_eq_true, decide_eq_true_eq] at h1
          omega) (by omega))
        have HF := hid (show Ent.treeD l = !Ent.nestE l by rw [HR.out, hok, Bool.true_and])
        have HBX := hid hbx
        obtain ⟨n, hn⟩ : ∃ n, Ent.nestE l = n := ⟨_, rfl⟩
        rw [hn] at HN HF
        clear hok HA hn hbx
        go_wp2_with fail
        refine HN.out.mono ?_
        rintro e w2 ⟨rfl, hb2⟩
        go_wp2_with fail
        go_ret
        exact ⟨by rw [HF.out]; rfl, below_step HBX.out hb2 HBX.out.size⟩
  · have hl1 : decide (100 < (l.length : Int)) = true := decide_eq_true (by omega)
    have hl2 : decide (100 < l.length) = true := decide_eq_true (by omega)
    have HR := hid (show Ent.treeD l = false by unfold Ent.treeD; rw [decide_eq_false h100, Bool.false_and])
    clear h100
    go_enter Tryd.func28, Tryd.ntmps28
    go_wp2_with fail
    go_ret
    exact ⟨by rw [HR.out]; rfl, Below.refl _ _⟩
end
end Go.Proofs.YtbcpfakdmnccmaaDoor

namespace Go.Proofs.YtbcpfakdmnccmaaDoor
open Go.RowKit

section
variable {P : Program}
theorem wpList_load_mid_g {ops : Array Oper} {rest : List Oper} {o : Oper} {a : Act} {w : World} {Q : Exit → Act → World → Prop} (hw : Region.wanted o (yielded ops a.tmps) = true) (ty : TypeId) (x : Operand) (ho : o.op = .load ty x)
    (b q : Nat) (hx : a.eval x = .pointer (some ⟨b, q, none⟩)) (cs : List Value) (d : TypeDesc) (hc : w.rangeAt b q cs)
    (hu : P.underlying ty = some d) (hd : d.isRow = true) (hi : (P.info? ty).map (·.size) = some cs.length)
    (h : wpList P ops Q rest (a.put o.dst (.agg cs.toArray)) w) : wpList P ops Q (o :: rest) a w :=
  BigFrame.wpList_want hw fun _ hK => wp_load_mid ty x ho b q hx cs d hc hu hd hi (hK _ _ h)
theorem wpList_build_to_g {ops : Array Oper} {rest : List Oper} {o : Oper} {a : Act} {w : World} {Q : Exit → Act → World → Prop} (hw : Region.wanted o (yielded ops a.tmps) = true) (t : TypeId) (parts : Array (Nat × Operand)) (ho : o.op = .build t parts)
    (cells : Array Value) (hf : P.built t (parts.map fun (i, x) => (i, a.eval x)).toList = some cells)
    (h : wpList P ops Q rest (a.put o.dst (.agg cells)) w) : wpList P ops Q (o :: rest) a w :=
  BigFrame.wpList_want hw fun _ hK => wp_build t parts ho (by rw [hf]; rfl) (by rw [hf]; exact hK _ _ h)
end
section
set_option maxRecDepth 100000
set_option maxHeartbeats 4000000
theorem wpList_key0_g {ops : Array Oper} {rest : List Oper} {o : Oper} {a : Act} {w : World} {Q : Exit → Act → World → Prop} (hw : Region.wanted o (yielded ops a.tmps) = true) (ho : o.op = .build 24 #[])
    (h : wpList Tryd.prog ops Q rest (a.put o.dst (.agg (keyC kz).toArray)) w) : wpList Tryd.prog ops Q (o :: rest) a w := by
  refine wpList_build_to_g hw 24 _ ho (keyC kz).toArray ?_ h
  simp only [List.map_toArray, List.map_nil]
  exact key_zero
/-- how a boxed commit lies -/
structure ComAt (w : World) (g : Nat) (c : ComS) : Prop where
  c0 : w.cell? ⟨g, 0, none⟩ = some (.bool c.1)
  c1 : w.rangeAt g 1 (keyC c.2.1)
  c2 : w.rangeAt g 33 (keyC c.2.2.1)
  c3 : w.cell? ⟨g, 65, none⟩ = some (.string ⟨c.2.2.2.1.toArray⟩)
  c4 : w.cell? ⟨g, 66, none⟩ = some (.int .u64 (c.2.2.2.2 : Nat))
theorem ComAt.of {w : World} {g : Nat} {c : ComS} {t : TypeId} (h : w.heap[g]? = some (.cells (comC c).toArray t (0, 0))) : ComAt w g c := by
  obtain ⟨x, k, k', m, s⟩ := c
  have hr : w.rangeAt g 0 (comC (x, k, k', m, s)) := range_blk h
  refine ⟨blk_cell h (com_e0 x k k' m s), ?_, ?_, blk_cell h (com_e1 x k k' m s), blk_cell h (com_e2 x k k' m s)⟩
  · exact range_sub (a := [.bool x]) (c := keyC k) (d := keyC k' ++ [.string ⟨m.toArray⟩, .int .u64 (s : Nat)]) hr rfl
  · have := range_sub (a := .bool x :: keyC k) (c := keyC k') (d := [.string ⟨m.toArray⟩, .int .u64 (s : Nat)]) hr (by simp [comC])
    rwa [List.length_cons, keyC_len, Nat.zero_add] at this
theorem ComAt.old {w w' : World} {g : Nat} {c : ComS} (h : ComAt w g c) (hk : Below w.heap.size w w') : ComAt w' g c :=
  ⟨cell_old h.c0 hk, range_old' h.c1 hk, range_old' h.c2 hk, cell_old h.c3 hk, cell_old h.c4 hk⟩
theorem ComAt.kept {w w' : World} {g : Nat} {c : ComS} (h : ComAt w g c) (hk : w'.heap[g]? = w.heap[g]?) : ComAt w' g c := by
  have cell : ∀ {i : Nat} {u : Value}, w.cell? ⟨g, i, none⟩ = some u → w'.cell? ⟨g, i, none⟩ = some u := fun {i u} hu => (World.cell?_of_block (a := ⟨g, i, none⟩) (w := w) (w' := w') hk).trans hu
  exact ⟨cell h.c0, fun j u hu => cell (h.c1 j u hu), fun j u hu => cell (h.c2 j u hu), cell h.c3, cell h.c4⟩
theorem ComAt.key1 {w : World} {g : Nat} {c : ComS} (h : ComAt w g c) : Sl w (.slice (some ⟨g, 1, none⟩) 32 32) (Lib.byteCells c.2.1.1) := by
  have := range_sl h.c1
  rwa [keyC_len] at this
theorem ComAt.key2 {w : World} {g : Nat} {c : ComS} (h : ComAt w g c) : Sl w (.slice (some ⟨g, 33, none⟩) 32 32) (Lib.byteCells c.2.2.1.1) := by
  have := range_sl h.c2
  rwa [keyC_len] at this
theorem comE_cases (c : ComS) : (1000 < c.2.2.2.1.length ∧ comE c = 6) ∨ (¬ 1000 < c.2.2.2.1.length ∧ c.1 = false ∧ comE c = 0) ∨ (¬ 1000 < c.2.2.2.1.length ∧ c.1 = true ∧ (c.2.1 != kz) = true ∧ comE c = 5) ∨ (¬ 1000 < c.2.2.2.1.length ∧ c.1 = true ∧ (c.2.1 != kz) = false ∧ comE c = 0) := by
  unfold comE
  by_cases h1 : 1000 < c.2.2.2.1.length
  · exact .inl ⟨h1, if_pos h1⟩
  · rw [if_neg h1]
    cases h2 : c.1 with
    | false => exact .inr (.inl ⟨h1, rfl, by simp⟩)
    | true =>
      cases h3 : (c.2.1 != kz) with
      | true => exact .inr (.inr (.inl ⟨h1, rfl, rfl, by simp⟩))
      | false => exact .inr (.inr (.inr ⟨h1, rfl, rfl, by simp⟩))
theorem RCommit_any (c : ComS) (hs : c.2.2.2.2 < 18446744073709551616) (w : World) :
    Calls Tryd.prog 14 #[.agg (comC c).toArray] w fun e w' => ∃ u, e = .returned (.tuple #[u, .int .i64 (comW c).2]) ∧ OwnB w' w.heap.size u (comW c).1 ∧ Below w.heap.size w w' := by
  have hb0 : Below w.heap.size w (w.alloc (.cells (comC c).toArray 27)) := (Below.refl _ w).alloc (Nat.le_refl _) _
  have hC := ComAt.of (heap_alloc_new w (.cells (comC c).toArray 27))
  have HC := hid hC
  have HB0 := hid hb0
  have c0 := hC.c0
  have c3 := hC.c3
  have hne := key_neq c.2.1 kz
  have HKI := hid (keyInfo c.2.1)
  have hsz : (⟨c.2.2.2.1.toArray⟩ : ByteArray).size = c.2.2.2.1.length := by simp [ByteArray.size]
  rcases comE_cases c with ⟨h1, hE⟩ | ⟨h1, h2, hE⟩ | ⟨h1, h2, h3, hE⟩ | ⟨h1, h2, h3, hE⟩
  · have g1 : decide (1000 < (c.2.2.2.1.length : Int)) = true := decide_eq_true (by omega)
    have g2 : decide (1000 < c.2.2.2.1.length) = true := decide_eq_true h1
    have HT := hid (show comW c = ([], 6) by unfold comW; rw [hE]; rfl)
    clear h1 hE hb0 hC hne
    go_enter Tryd.func14, Tryd.ntmps14
    go_wp2_with fail
    refine bodyPost_ret (results_tmp2 rfl _ _ _) rfl ⟨_, by rw [HT.out]; rfl, ?_, HB0.out⟩
    rw [HT.out]
    exact OwnB.nil _
  · have g1 : decide (1000 < (c.2.2.2.1.length : Int)) = false := decide_eq_false (by omega)
    have g2 : decide (1000 < c.2.2.2.1.length) = false := decide_eq_false h1
    have HT := hid (show comW c = ([3] ++ [b01 false] ++ c.2.1.1 ++ c.2.2.1.1 ++ intBytes c.2.2.2.1.length ++ c.2.2.2.1 ++ lowBytes c.2.2.2.2 8, 0) by unfold comW; rw [if_pos hE, comB, h2]; simp)
    have HR := hid hC.c1
    have HML := hid (show c.2.2.2.1.length ≤ 1000 by omega)
    have HSZ := hid hsz
    have HK1L := hid c.2.1.2
    have HK2L := hid c.2.2.1.2
    rw [h2] at c0
    have c0b := cell_old c0 ((Below.refl _ (w.alloc (.cells (comC c).toArray 27))).alloc (Nat.le_refl _) (.cells #[.int .u8 3] 5))
    clear hne HR HKI
    clear h1 h2 hE hb0 hC hsz
    go_enter Tryd.func14, Tryd.ntmps14
    go_wp2_with fail
    have hlit := lit_ob (w.alloc (.cells (comC c).toArray 27)) 3
    rw [show (w.alloc (.cells (comC c).toArray 27)).heap.size = w.heap.size + 1 by simp] at hlit
    refine (WBool_any _ [3] false _ (Sl.ofOwns hlit) (by simp)).mono ?_
    rintro e w2 ⟨u2, rfl, ho2, hb2⟩
    have hbx : Below w.heap.size w ((w.alloc (.cells (comC c).toArray 27)).alloc (.cells #[.int .u8 3] 5)) := HB0.out.alloc HB0.out.size _
    have hb22 := below_step hbx hb2 hbx.size
    have hsz2 : w.heap.size + 1 ≤ ((w.alloc (.cells (comC c).toArray 27)).alloc (.cells #[.int .u8 3] 5)).heap.size := by simp
    have HZ2 := hid (show w.heap.size + 1 ≤ w2.drew.heap.size from Nat.le_trans hsz2 hb2.size)
    have HC2 := hid ((HC.out.old ((Below.refl _ _).alloc (Nat.le_refl _) (.cells #[.int .u8 3] 5))).old hb2)
    have HB2 := hid hb22
    have HO2 := hid (show OwnB w2 (w.heap.size + 1) u2 ([3] ++ [b01 false]) from OwnB.lower (OwnB.of ho2) hsz2)
    have HO2d := hid (show OwnB w2.drew (w.heap.size + 1) u2 ([3] ++ [b01 false]) from HO2.out.drew)
    have HC2d := hid (show ComAt w2.drew w.heap.size c from HC2.out.kept rfl)
    have HS1 := hid HC2d.out.key1
    have HL1 := hid (show ([3] ++ [b01 false] : List UInt8).length + c.2.1.1.length ≤ 70368744177664 by rw [HK1L.out]; simp)
    have HL2 := hid (show ([3] ++ [b01 false] ++ c.2.1.1 : List UInt8).length + c.2.2.1.1.length ≤ 70368744177664 by rw [HK2L.out, List.length_append, HK1L.out]; simp)
    have HL3 := hid (show ([3] ++ [b01 false] ++ c.2.1.1 ++ c.2.2.1.1 : List UInt8).length = 66 by rw [List.length_append, HK2L.out, List.length_append, HK1L.out]; rfl)
    obtain ⟨uo, uc, rfl⟩ := owns_form HO2.out
    clear hlit ho2 hb2 hb22 hsz2 hbx c0 c3 c0b
    go_wp2_with fail
    go_region_law (first
      | (refine step_append_ob rfl (.tmp 21) (.tmp 23) rfl (w.heap.size + 1) _ ([3] ++ [b01 false]) c.2.1.1 rfl HO2d.out _ rfl HS1.out HL1.out HZ2.out ?_; intro v3 w3 hO3 hb3; have HO3 := hid hO3; have HB3 := hid (HB2.out.drew.trans (hb3.mono (Nat.le_succ _))); have HZ3 := hid (Nat.le_trans HZ2.out hb3.size); have HC3 := hid (HC2d.out.kept (hb3.block _ (Nat.lt_succ_self _))); have HS2 := hid HC3.out.key2; clear hO3 hb3)
      | (refine step_append_ob rfl (.tmp 24) (.tmp 26) rfl (w.heap.size + 1) _ ([3] ++ [b01 false] ++ c.2.1.1) c.2.2.1.1 rfl HO3.out _ rfl HS2.out HL2.out HZ3.out ?_; intro v4 w4 hO4 hb4; have HO4 := hid hO4; have HB4 := hid (HB3.out.trans (hb4.mono (Nat.le_succ _))); have HZ4 := hid (Nat.le_trans HZ3.out hb4.size); have HC4 := hid (HC3.out.kept (hb4.block _ (Nat.lt_succ_self _))); clear hO4 hb4))
    obtain ⟨xo, xc, rfl⟩ := owns_form HO4.out
    generalize hF4 : [3] ++ [b01 false] ++ c.2.1.1 ++ c.2.2.1.1 = F4 at HT HO4 HL3
    clear hF4
    have c3 := HC4.out.c3
    have c4 := HC4.out.c4
    have HW4 := hid (Sl.ofOwns HO4.out)
    go_wp2_with fail
    go_region_held3 (fun wy => wy.cell? ⟨w.heap.size, 65, none⟩ = some (.string ⟨c.2.2.2.1.toArray⟩) ∧ wy.cell? ⟨w.heap.size, 66, none⟩ = some (.int .u64 (c.2.2.2.2 : Nat))) (first | exact ⟨c3, c4⟩ | exact ⟨d3, d4⟩ | exact ⟨f3, f4⟩) ((first
      | (go_at_call 38; refine (WText_any _ F4 ⟨c.2.2.2.1.toArray⟩ _ (HW4.out.old (below_drewN w4 1)) (by rw [HSZ.out, HL3.out]; have h2 := HML.out; omega)).mono ?_; rintro e w5 ⟨u5, rfl, ho5, hb5⟩; have d3 := cell_old (w := w4.drew) c3 hb5; have d4 := cell_old (w := w4.drew) c4 hb5; rw [HSZ.out] at ho5; have HO5 := hid (OwnB.of ho5); have HB5 := hid (below_step HB4.out.drew hb5 HB4.out.size); clear ho5 hb5)
      | (go_at_call 36; refine (WNum_any _ _ _ 8 (by omega) _ (Sl.ofOwns HO5.out) (by simp only [List.length_append, intBytes_length, HL3.out]; have h2 := HML.out; simp; omega)).mono ?_; rintro e w6 ⟨u6, rfl, ho6, hb6⟩; have f3 := cell_old d3 hb6; have f4 := cell_old d4 hb6; have HO6 := hid (OwnB.of ho6); have HZ6 := hid HB5.out.size; have HB6 := hid (below_step HB5.out hb6 HB5.out.size); clear ho6 hb6)))
    go_wp2_with fail
    refine bodyPost_ret (results_tmp2 rfl _ _ _) rfl ⟨_, by rw [HT.out]; rfl, ?_, HB6.out⟩
    rw [HT.out]
    have ho6 := HO6.out
    rw [show heldN 8 = 8 from rfl, Int.toNat_natCast] at ho6
    exact OwnB.lower ho6 HZ6.out
  · have g1 : decide (1000 < (c.2.2.2.1.length : Int)) = false := decide_eq_false (by omega)
    have g2 : decide (1000 < c.2.2.2.1.length) = false := decide_eq_false h1
    have HT := hid (show comW c = ([], 5) by unfold comW; rw [hE]; rfl)
    have HR := hid hC.c1
    rw [h2] at c0
    rw [h3] at hne
    clear h1 h2 h3 hE hb0 hC
    go_enter Tryd.func14, Tryd.ntmps14
    go_wp2_with (first
      | (refine wpList_load_mid_g (by rfl) 24 _ rfl w.heap.size 1 rfl _ _ HR.out Tryd.underlying24 rfl HKI.out ?_)
      | (refine wpList_key0_g (by rfl) rfl ?_))
    refine bodyPost_ret (results_tmp2 rfl _ _ _) rfl ⟨_, by rw [HT.out]; rfl, ?_, HB0.out⟩
    rw [HT.out]
    exact OwnB.nil _
  · have g1 : decide (1000 < (c.2.2.2.1.length : Int)) = false := decide_eq_false (by omega)
    have g2 : decide (1000 < c.2.2.2.1.length) = false := decide_eq_false h1
    have HT := hid (show comW c = ([3] ++ [b01 true] ++ c.2.1.1 ++ c.2.2.1.1 ++ intBytes c.2.2.2.1.length ++ c.2.2.2.1 ++ lowBytes c.2.2.2.2 8, 0) by unfold comW; rw [if_pos hE, comB, h2]; simp)
    have HR := hid hC.c1
    have HML := hid (show c.2.2.2.1.length ≤ 1000 by omega)
    have HSZ := hid hsz
    have HK1L := hid c.2.1.2
    have HK2L := hid c.2.2.1.2
    rw [h2] at c0
    rw [h3] at hne
    have c0b := cell_old c0 ((Below.refl _ (w.alloc (.cells (comC c).toArray 27))).alloc (Nat.le_refl _) (.cells #[.int .u8 3] 5))
    clear h1 h2 h3 hE hb0 hC hsz
    go_enter Tryd.func14, Tryd.ntmps14
    go_wp2_with (first
      | (refine wpList_load_mid_g (by rfl) 24 _ rfl w.heap.size 1 rfl _ _ HR.out Tryd.underlying24 rfl HKI.out ?_)
      | (refine wpList_key0_g (by rfl) rfl ?_))
    have hlit := lit_ob (w.alloc (.cells (comC c).toArray 27)) 3
    rw [show (w.alloc (.cells (comC c).toArray 27)).heap.size = w.heap.size + 1 by simp] at hlit
    refine (WBool_any _ [3] true _ (Sl.ofOwns hlit) (by simp)).mono ?_
    rintro e w2 ⟨u2, rfl, ho2, hb2⟩
    have hbx : Below w.heap.size w ((w.alloc (.cells (comC c).toArray 27)).alloc (.cells #[.int .u8 3] 5)) := HB0.out.alloc HB0.out.size _
    have hb22 := below_step hbx hb2 hbx.size
    have hsz2 : w.heap.size + 1 ≤ ((w.alloc (.cells (comC c).toArray 27)).alloc (.cells #[.int .u8 3] 5)).heap.size := by simp
    have HZ2 := hid (show w.heap.size + 1 ≤ w2.drew.heap.size from Nat.le_trans hsz2 hb2.size)
    have HC2 := hid ((HC.out.old ((Below.refl _ _).alloc (Nat.le_refl _) (.cells #[.int .u8 3] 5))).old hb2)
    have HB2 := hid hb22
    have HO2 := hid (show OwnB w2 (w.heap.size + 1) u2 ([3] ++ [b01 true]) from OwnB.lower (OwnB.of ho2) hsz2)
    have HO2d := hid (show OwnB w2.drew (w.heap.size + 1) u2 ([3] ++ [b01 true]) from HO2.out.drew)
    have HC2d := hid (show ComAt w2.drew w.heap.size c from HC2.out.kept rfl)
    have HS1 := hid HC2d.out.key1
    have HL1 := hid (show ([3] ++ [b01 true] : List UInt8).length + c.2.1.1.length ≤ 70368744177664 by rw [HK1L.out]; simp)
    have HL2 := hid (show ([3] ++ [b01 true] ++ c.2.1.1 : List UInt8).length + c.2.2.1.1.length ≤ 70368744177664 by rw [HK2L.out, List.length_append, HK1L.out]; simp)
    have HL3 := hid (show ([3] ++ [b01 true] ++ c.2.1.1 ++ c.2.2.1.1 : List UInt8).length = 66 by rw [List.length_append, HK2L.out, List.length_append, HK1L.out]; rfl)
    obtain ⟨uo, uc, rfl⟩ := owns_form HO2.out
    clear hlit ho2 hb2 hb22 hsz2 hbx c0 c3 c0b
    go_wp2_with fail
    go_region_law (first
      | (refine step_append_ob rfl (.tmp 21) (.tmp 23) rfl (w.heap.size + 1) _ ([3] ++ [b01 true]) c.2.1.1 rfl HO2d.out _ rfl HS1.out HL1.out HZ2.out ?_; intro v3 w3 hO3 hb3; have HO3 := hid hO3; have HB3 := hid (HB2.out.drew.trans (hb3.mono (Nat.le_succ _))); have HZ3 := hid (Nat.le_trans HZ2.out hb3.size); have HC3 := hid (HC2d.out.kept (hb3.block _ (Nat.lt_succ_self _))); have HS2 := hid HC3.out.key2; clear hO3 hb3)
      | (refine step_append_ob rfl (.tmp 24) (.tmp 26) rfl (w.heap.size + 1) _ ([3] ++ [b01 true] ++ c.2.1.1) c.2.2.1.1 rfl HO3.out _ rfl HS2.out HL2.out HZ3.out ?_; intro v4 w4 hO4 hb4; have HO4 := hid hO4; have HB4 := hid (HB3.out.trans (hb4.mono (Nat.le_succ _))); have HZ4 := hid (Nat.le_trans HZ3.out hb4.size); have HC4 := hid (HC3.out.kept (hb4.block _ (Nat.lt_succ_self _))); clear hO4 hb4))
    obtain ⟨xo, xc, rfl⟩ := owns_form HO4.out
    generalize hF4 : [3] ++ [b01 true] ++ c.2.1.1 ++ c.2.2.1.1 = F4 at HT HO4 HL3
    clear hF4
    have c3 := HC4.out.c3
    have c4 := HC4.out.c4
    have HW4 := hid (Sl.ofOwns HO4.out)
    go_wp2_with fail
    go_region_held3 (fun wy => wy.cell? ⟨w.heap.size, 65, none⟩ = some (.string ⟨c.2.2.2.1.toArray⟩) ∧ wy.cell? ⟨w.heap.size, 66, none⟩ = some (.int .u64 (c.2.2.2.2 : Nat))) (first | exact ⟨c3, c4⟩ | exact ⟨d3, d4⟩ | exact ⟨f3, f4⟩) ((first
      | (go_at_call 38; refine (WText_any _ F4 ⟨c.2.2.2.1.toArray⟩ _ (HW4.out.old (below_drewN w4 1)) (by rw [HSZ.out, HL3.out]; have h2 := HML.out; omega)).mono ?_; rintro e w5 ⟨u5, rfl, ho5, hb5⟩; have d3 := cell_old (w := w4.drew) c3 hb5; have d4 := cell_old (w := w4.drew) c4 hb5; rw [HSZ.out] at ho5; have HO5 := hid (OwnB.of ho5); have HB5 := hid (below_step HB4.out.drew hb5 HB4.out.size); clear ho5 hb5)
      | (go_at_call 36; refine (WNum_any _ _ _ 8 (by omega) _ (Sl.ofOwns HO5.out) (by simp only [List.length_append, intBytes_length, HL3.out]; have h2 := HML.out; simp; omega)).mono ?_; rintro e w6 ⟨u6, rfl, ho6, hb6⟩; have f3 := cell_old d3 hb6; have f4 := cell_old d4 hb6; have HO6 := hid (OwnB.of ho6); have HZ6 := hid HB5.out.size; have HB6 := hid (below_step HB5.out hb6 HB5.out.size); clear ho6 hb6)))
    go_wp2_with fail
    refine bodyPost_ret (results_tmp2 rfl _ _ _) rfl ⟨_, by rw [HT.out]; rfl, ?_, HB6.out⟩
    rw [HT.out]
    have ho6 := HO6.out
    rw [show heldN 8 = 8 from rfl, Int.toNat_natCast] at ho6
    exact OwnB.lower ho6 HZ6.out
end
end Go.Proofs.YtbcpfakdmnccmaaDoor

namespace Go.Proofs.YtbcpfakdmnccmaaDoor
open Go.RowKit

section
set_option maxRecDepth 100000
set_option maxHeartbeats 4000000
theorem DBegin_any (k : Nat) (hk : k < 256) (w : World) :
    Calls Tryd.prog 29 #[.int .i64 (k : Nat)] w fun e w' => ∃ bw v, e = .returned (.pointer (some ⟨bw, 0, none⟩)) ∧ w.heap.size ≤ bw ∧ Wr w' w.heap.size bw v [UInt8.ofNat k] ∧ Below w.heap.size w w' := by
  have nw : IntKind.u64.wrap (k : Int) = (k : Int) := by rw [IntKind.wrap_u64]; omega
  have HB0 := hid ((Below.refl _ w).alloc (Nat.le_refl w.heap.size) (.cells #[.slice none 0 0] 82))
  have hw0 : Wr (w.alloc (.cells #[.slice none 0 0] 82)) w.heap.size w.heap.size (.slice none 0 0) [] := ⟨heap_alloc_new w _, World.ownsRow_nil _ _ _ _⟩
  have HW0 := hid hw0
  clear hw0
  go_enter Tryd.func29, Tryd.ntmps29
  go_wp2_with fail
  refine (Num_any w.heap.size w.heap.size _ [] (k : Int) 1 (by omega) _ HW0.out (by simp) (by simp)).mono ?_
  rintro e w1 ⟨rfl, v1, hw1, hf1⟩
  rw [show heldN 1 = 1 from rfl, Int.toNat_natCast] at hw1
  have hb1 := hf1.below HW0.out HB0.out (by simp) (Nat.le_refl _)
  have HW1 := hid hw1
  have HB1 := hid hb1
  clear hw1 hf1 hb1
  go_wp2_with fail
  go_ret
  exact ⟨_, v1, rfl, Nat.le_refl _, HW1.out, HB1.out⟩
theorem key_at (k : KeyS) {j : Nat} {x : UInt8} (hx : k.1[j]? = some x) (wx : World) : (Instr.index 24 (.agg (keyC k).toArray) (.int .i64 (j : Nat))).run Tryd.prog wx = .ok (.int .u8 (x.toNat : Int)) wx := by
  obtain ⟨i0, hi0, hi1, hi2, hi3⟩ := info_parts Tryd.info5
  have hj := (List.getElem?_eq_some_iff.1 hx).1
  rw [k.2] at hj
  have hp := run_part_byte (P := Tryd.prog) Tryd.underlying5 (cs := (keyC k).toArray) (i := j) (v := .int .u8 (x.toNat : Int)) (by simp [keyC, Lib.byteCells, hx]) wx
  simp [Instr.index, run_underlying Tryd.underlying24, asIntOf, sizeOf, typeInfo, hi0, hi2, hp]
  intro h
  omega
theorem DWriteKey_any (B bw : Nat) (v : Value) (bs : List UInt8) (k : KeyS) (w : World) (hw : Wr w B bw v bs) (hB : B ≤ w.heap.size) (hlen : bs.length + 40 ≤ 70368744177664) :
    Calls Tryd.prog 33 #[.pointer (some ⟨bw, 0, none⟩), .agg (keyC k).toArray] w fun e w' => e = .returned (.tuple #[]) ∧ ∃ v', Wr w' B bw v' (bs ++ k.1) ∧ Foot w w' bw v v' := by
  have hb0 : Below w.heap.size w (w.alloc (.cells (keyC k).toArray 24)) := (Below.refl _ w).alloc (Nat.le_refl _) _
  have HW0 := hid (hw.old hb0)
  have HG0 := hid (heap_alloc_new w (.cells (keyC k).toArray 24))
  have HF0 := hid (show Foot w (w.alloc (.cells (keyC k).toArray 24)) bw v v from ⟨Keep.ofBelow hb0, .inl rfl⟩)
  have HKI := hid (show (Tryd.prog.info? 24).map (·.size) = some (keyC k).toArray.size by rw [List.size_toArray, keyC_len, Tryd.sizeKey])
  have HB := hid hB
  have HL := hid hlen
  have HKL := hid k.2
  have hat := fun (j : Nat) (x : UInt8) (h : k.1[j]? = some x) (wx : World) => key_at k h wx
  have HAT := hid hat
  clear hw hb0 hB hlen hat
  go_enter Tryd.func33, Tryd.ntmps33
  go_wp2_with (refine wpList_load_row rfl 24 _ rfl w.heap.size rfl _ _ _ _ HG0.out Tryd.underlying24 rfl HKI.out ?_)
  go_loopw [7] (fun i wr => ∃ j : Nat, j ≤ 32 ∧ i = .int .i64 (j : Int) ∧ ∃ v', Wr wr B bw v' (bs ++ k.1.take j) ∧ Foot w wr bw v v') (fun i _ => 32 - (intOf i).toNat)
  case atStart => exact ⟨0, by omega, rfl, v, by simpa using HW0.out, HF0.out⟩
  case round =>
    obtain ⟨j, hj, rfl, v', hw', hf⟩ := hrel
    by_cases hlt : j < 32
    · have j1 : (j : Int) < 32 := by omega
      have j0 : (0 : Int) ≤ (j : Int) := Int.natCast_nonneg _
      obtain ⟨x, hx⟩ : ∃ x, k.1[j]? = some x := ⟨_, List.getElem?_eq_getElem (by rw [HKL.out]; exact hlt)⟩
      have hidx := HAT.out j x hx
      have hx256 := x.toNat_lt
      have hwx : IntKind.u64.wrap (x.toNat : Int) = (x.toNat : Int) := by rw [IntKind.wrap_u64]; omega
      have HT := hid (show bs ++ k.1.take (j + 1) = (bs ++ k.1.take j) ++ [x] by rw [take_snoc hx, List.append_assoc])
      have HW := hid hw'
      have HF := hid hf
      have HX := hid (show lowBytes ((x.toNat : Int)).toNat 1 = [x] by rw [Int.toNat_natCast]; simp [lowBytes])
      have HLL := hid (show (bs ++ k.1.take j).length + 8 ≤ 70368744177664 by rw [List.length_append, List.length_take, HKL.out]; have := HL.out; omega)
      clear hx hw' hf hx256
      go_wp2_with fail
      refine (Num_any B bw v' _ (x.toNat : Int) 1 (by omega) _ HW.out (Nat.le_trans HB.out HF.out.keep.size) HLL.out).mono ?_
      rw [show heldN 1 = 1 from rfl, HX.out]
      rintro e w1 ⟨rfl, v1, hw1, hf1⟩
      rw [← HT.out] at hw1
      have hf2 := HF.out.trans hf1
      clear hidx
      go_wp2
      go_roundw
      case rel => exact ⟨j + 1, by omega, by go_num, v1, hw1, hf2⟩
      case measure => simp [intOf]; omega
    · obtain rfl : j = 32 := by omega
      have hw2 : Wr wr B bw v' (bs ++ k.1) := by
        have h1 : k.1.take 32 = k.1 := List.take_of_length_le (by rw [HKL.out]; omega)
        rwa [h1] at hw'
      clear hw'
      go_wp2
      go_end0
      exact ⟨rfl, v', hw2, hf⟩
end
end Go.Proofs.YtbcpfakdmnccmaaDoor

namespace Go.Proofs.YtbcpfakdmnccmaaDoor
open Go.RowKit

theorem Foot.blk {w w' : World} {bw g : Nat} {v v' : Value} (h : Foot w w' bw v v') (hg : g < w.heap.size) (h1 : g ≠ bw) (h2 : v.ownBlock ≠ some g) : w'.heap[g]? = w.heap[g]? :=
  h.keep.block g hg fun e => e.elim h1 h2
section
set_option maxRecDepth 100000
set_option maxHeartbeats 4000000
theorem DWrong_any (c : ComS) (w : World) :
    Calls Tryd.prog 39 #[.agg (comC c).toArray] w fun e w' => e = .returned (.int .i64 (comE c)) ∧ Below w.heap.size w w' := by
  have hb0 : Below w.heap.size w (w.alloc (.cells (comC c).toArray 27)) := (Below.refl _ w).alloc (Nat.le_refl _) _
  have hC := ComAt.of (heap_alloc_new w (.cells (comC c).toArray 27))
  have HB0 := hid hb0
  have c0 := hC.c0
  have c3 := hC.c3
  have hne := key_neq c.2.1 kz
  have HKI := hid (keyInfo c.2.1)
  have HR := hid hC.c1
  have hsz : (⟨c.2.2.2.1.toArray⟩ : ByteArray).size = c.2.2.2.1.length := by simp [ByteArray.size]
  rcases comE_cases c with ⟨h1, hE⟩ | ⟨h1, h2, hE⟩ | ⟨h1, h2, h3, hE⟩ | ⟨h1, h2, h3, hE⟩
  · have g1 : decide (1000 < (c.2.2.2.1.length : Int)) = true := decide_eq_true (by omega)
    have g2 : decide (1000 < c.2.2.2.1.length) = true := decide_eq_true h1
    have HE := hid hE
    clear h1 hE hb0 hC hne
    go_enter Tryd.func39, Tryd.ntmps39
    go_wp2_with fail
    go_ret
    exact ⟨by rw [HE.out]; rfl, HB0.out⟩
  · have g1 : decide (1000 < (c.2.2.2.1.length : Int)) = false := decide_eq_false (by omega)
    have g2 : decide (1000 < c.2.2.2.1.length) = false := decide_eq_false h1
    have HE := hid hE
    rw [h2] at c0
    clear h1 h2 hE hb0 hC hne
    go_enter Tryd.func39, Tryd.ntmps39
    go_wp2_with fail
    go_ret
    exact ⟨by rw [HE.out]; rfl, HB0.out⟩
  all_goals
    have g1 : decide (1000 < (c.2.2.2.1.length : Int)) = false := decide_eq_false (by omega)
    have g2 : decide (1000 < c.2.2.2.1.length) = false := decide_eq_false h1
    have HE := hid hE
    rw [h2] at c0
    rw [h3] at hne
    clear h1 h2 h3 hE hb0 hC
    go_enter Tryd.func39, Tryd.ntmps39
    go_wp2_with (first
      | (refine wpList_load_mid_g (by rfl) 24 _ rfl w.heap.size 1 rfl _ _ HR.out Tryd.underlying24 rfl HKI.out ?_)
      | (refine wpList_key0_g (by rfl) rfl ?_))
    go_ret
    exact ⟨by rw [HE.out]; rfl, HB0.out⟩
theorem DCommit_any (c : ComS) (hs : c.2.2.2.2 < 18446744073709551616) (w : World) :
    Calls Tryd.prog 13 #[.agg (comC c).toArray] w fun e w' => ∃ u, e = .returned (.tuple #[u, .int .i64 (comW c).2]) ∧ OwnB w' w.heap.size u (comW c).1 ∧ Below w.heap.size w w' := by
  have hb0 : Below w.heap.size w (w.alloc (.cells (comC c).toArray 27)) := (Below.refl _ w).alloc (Nat.le_refl _) _
  have hg0 := heap_alloc_new w (.cells (comC c).toArray 27)
  have HG0 := hid hg0
  have HC := hid (ComAt.of hg0)
  have HB0 := hid hb0
  have HCI := hid (show (Tryd.prog.info? 27).map (·.size) = some (comC c).toArray.size by rw [List.size_toArray, comC_len, Tryd.sizeCom])
  have HW := hid (fun wx => DWrong_any c wx)
  by_cases hE : comE c = 0
  · have HT := hid (show comW c = (comB c, 0) by unfold comW; rw [if_pos hE])
    have HM := hid (comE_len hE)
    rw [hE] at HW
    have HSZ := hid (show (⟨c.2.2.2.1.toArray⟩ : ByteArray).size = c.2.2.2.1.length by simp [ByteArray.size])
    have HK1 := hid (keyInfo c.2.1)
    have HK2 := hid (keyInfo c.2.2.1)
    have HKL1 := hid c.2.1.2
    have HKL2 := hid c.2.2.1.2
    clear hE hb0 hg0
    go_enter Tryd.func13, Tryd.ntmps13
    go_wp2_with (refine wpList_load_row rfl 27 _ rfl w.heap.size rfl _ _ _ _ HG0.out Tryd.underlying27 rfl HCI.out ?_)
    refine (HW.out _).mono ?_
    rintro e w1 ⟨rfl, hb1⟩
    have HC1 := hid (HC.out.old hb1)
    have HB1 := hid (below_step HB0.out hb1 HB0.out.size)
    have HZ1 := hid (show w.heap.size < w1.heap.size from Nat.lt_of_lt_of_le (lt_of_block HG0.out) hb1.size)
    clear hb1
    go_wp2_with fail
    refine (DBegin_any 3 (by decide) w1).mono ?_
    rintro e w2 ⟨bw, v2, rfl, hbw, hw2, hb2⟩
    have HBW := hid hbw
    have HB2 := hid hb2
    have HW2 := hid (show Wr w2 w1.heap.size bw v2 [3] from hw2)
    have HC2 := hid (HC1.out.old hb2)
    have hne : w.heap.size ≠ bw := by have := HZ1.out; omega
    have HO2 := hid (show v2.ownBlock ≠ some w.heap.size from fun e => by have h1 := (hw2.own.lt _ e).1; have := HZ1.out; omega)
    have HL2 := hid (show w.heap.size < w2.heap.size from Nat.lt_of_lt_of_le HZ1.out hb2.size)
    clear hbw hw2 hb2
    have c0 := HC2.out.c0
    go_wp2_with fail
    refine (Bool_any w1.heap.size bw v2 [3] c.1 w2 HW2.out HB2.out.size (by simp)).mono ?_
    rintro e w3 ⟨rfl, v3, hw3, hf3⟩
    have HW3 := hid (show Wr w3 w1.heap.size bw v3 ([3] ++ [b01 c.1]) from hw3)
    have HF3 := hid hf3
    have HR3 := hid (HC2.out.kept (hf3.blk HL2.out hne HO2.out)).c1
    clear hw3 hf3 c0
    go_wp2_with (refine wpList_load_mid rfl 24 _ rfl w.heap.size 1 rfl _ _ HR3.out Tryd.underlying24 rfl HK1.out ?_)
    refine (DWriteKey_any w1.heap.size bw v3 _ c.2.1 w3 HW3.out (Nat.le_trans HB2.out.size HF3.out.keep.size) (by simp)).mono ?_
    rintro e w4 ⟨rfl, v4, hw4, hf4⟩
    have HW4 := hid hw4
    have HF4 := hid (HF3.out.trans hf4)
    have HR4 := hid (HC2.out.kept (HF4.out.blk HL2.out hne HO2.out)).c2
    clear hw4 hf4
    go_wp2_with (refine wpList_load_mid rfl 24 _ rfl w.heap.size 33 rfl _ _ HR4.out Tryd.underlying24 rfl HK2.out ?_)
    refine (DWriteKey_any w1.heap.size bw v4 _ c.2.2.1 w4 HW4.out (Nat.le_trans HB2.out.size HF4.out.keep.size) (by simp only [List.length_append, HKL1.out]; simp)).mono ?_
    rintro e w5 ⟨rfl, v5, hw5, hf5⟩
    have HW5 := hid hw5
    have HF5 := hid (HF4.out.trans hf5)
    have c3 := (HC2.out.kept (HF5.out.blk HL2.out hne HO2.out)).c3
    clear hw5 hf5
    go_wp2_with fail
    refine (Text_any w1.heap.size bw v5 _ ⟨c.2.2.2.1.toArray⟩ w5 HW5.out (Nat.le_trans HB2.out.size HF5.out.keep.size) (by rw [HSZ.out]; simp only [List.length_append, HKL1.out, HKL2.out]; have h1 := HM.out; simp; omega)).mono ?_
    rw [HSZ.out, show (⟨c.2.2.2.1.toArray⟩ : ByteArray).data.toList = c.2.2.2.1 from rfl]
    rintro e w6 ⟨rfl, v6, hw6, hf6⟩
    have HW6 := hid hw6
    have HF6 := hid (HF5.out.trans hf6)
    have c4 := (HC2.out.kept (HF6.out.blk HL2.out hne HO2.out)).c4
    clear hw6 hf6 c3
    go_wp2_with fail
    refine (Num_any w1.heap.size bw v6 _ (c.2.2.2.2 : Int) 8 (by omega) w6 HW6.out (Nat.le_trans HB2.out.size HF6.out.keep.size) (by simp only [List.length_append, HKL1.out, HKL2.out, intBytes_length]; have h1 := HM.out; simp; omega)).mono ?_
    rw [show heldN 8 = 8 from rfl, Int.toNat_natCast]
    rintro e w7 ⟨rfl, v7, hw7, hf7⟩
    have HQ := hid (show [3] ++ [b01 c.1] ++ c.2.1.1 ++ c.2.2.1.1 ++ intBytes c.2.2.2.1.length ++ c.2.2.2.1 ++ lowBytes c.2.2.2.2 8 = comB c by simp [comB])
    rw [HQ.out] at hw7
    have HW7 := hid hw7
    have HB7 := hid (below_step HB1.out ((HF6.out.trans hf7).below HW2.out HB2.out HB2.out.size HBW.out) HB1.out.size)
    have HLN := hid (show (comB c).length ≤ 70368744177664 by rw [← HQ.out]; simp only [List.length_append, HKL1.out, HKL2.out, intBytes_length, lowBytes_length]; have h1 := HM.out; simp; omega)
    clear hw7 hf7 c4 hne
    go_wp2_with fail
    refine (Bytes_any w1.heap.size bw v7 (comB c) w7 HW7.out HLN.out).mono ?_
    rintro e w8 ⟨u, rfl, hu, hb8⟩
    go_wp2_with fail
    refine bodyPost_ret (results_tmp2 rfl _ _ _) rfl ⟨u, by rw [HT.out]; rfl, ?_, below_step HB7.out hb8 HB7.out.size⟩
    rw [HT.out]
    exact OwnB.lower hu HB7.out.size
  · have HT := hid (show comW c = ([], comE c) by unfold comW; rw [if_neg hE])
    have he1 : (comE c == 0) = false := by simpa using hE
    have he2 : (comE c != 0) = true := by simpa using hE
    clear hE hb0 hg0
    go_enter Tryd.func13, Tryd.ntmps13
    go_wp2_with (refine wpList_load_row rfl 27 _ rfl w.heap.size rfl _ _ _ _ HG0.out Tryd.underlying27 rfl HCI.out ?_)
    refine (HW.out _).mono ?_
    rintro e w1 ⟨rfl, hb1⟩
    go_wp2_with fail
    refine bodyPost_ret (results_tmp2 rfl _ _ _) rfl ⟨_, by rw [HT.out]; rfl, ?_, below_step HB0.out hb1 HB0.out.size⟩
    rw [HT.out]
    exact OwnB.nil _
end
end Go.Proofs.YtbcpfakdmnccmaaDoor

namespace Go.Proofs.YtbcpfakdmnccmaaDoor
open Go.RowKit

/-- 'return x, e' of a result that lies in a block of its own, and one in a slot -/
theorem row_results {P : Program} {fn : Func} {p q : Tmp} {ty : TypeId} (h : fn.results = #[.cell p ty, .tmp q]) (tmps : Array Value) (w : World) (g : Nat) (t : TypeId) (cs : Array Value) (fr : Nat × Nat) (d : TypeDesc) (v : Value)
    (hp : tmps.getD p undef = .pointer (some ⟨g, 0, none⟩)) (hv : tmps.getD q undef = v) (hg : w.heap[g]? = some (.cells cs t fr))
    (hu : P.underlying ty = some d) (hd : (match d with | .struct _ | .array _ _ => true | _ => false) = true) (hi : (P.info? ty).map (·.size) = some cs.size) :
    (results fn tmps).run P w = .ok (.tuple #[.agg cs, v]) w := by
  have hp' : tmps[p]?.getD undef = .pointer (some ⟨g, 0, none⟩) := by simpa using hp
  have hv' : tmps[q]?.getD undef = v := by simpa using hv
  simp [results, h, hp', hv', asAddr, run_loadVar_row w g t ty cs fr d hg hu hd hi]
theorem take_end {b : List UInt8} (hk : kindS b = 2) {R : List EntS × List UInt8 × Int} (hR : ensR (numOf (stV 4 (b.drop 1) 0)) (stL 4 (b.drop 1) 0) (stE 4 (b.drop 1) 0) = R) :
    takeTreeS b = if endE R.2.1 R.2.2 ≠ 0 then ([], endE R.2.1 R.2.2) else if entsR R.1 then (R.1, 0) else ([], 5) := by
  unfold takeTreeS endE
  rw [if_neg (by simp [hk])]
  simp only
  rw [hR]
  by_cases h1 : R.2.2 = 0
  · by_cases h2 : R.2.1 = []
    · simp [h1, h2]
    · simp [h1, h2]
  · simp [h1]
theorem take_endC {b : List UInt8} (hk : kindS b = 3) {l : List UInt8} (hl : b.drop 1 = l) :
    takeComS b = if endE (coL l) (coE l) ≠ 0 then (comZ, endE (coL l) (coE l)) else if comE (coV l) ≠ 0 then (comZ, 5) else (coV l, 0) := by
  unfold takeComS endE
  rw [if_neg (by simp [hk])]
  simp only
  rw [hl]
  by_cases h1 : coE l = 0
  · by_cases h2 : coL l = []
    · simp [h1, h2]
    · simp [h1, h2]
  · simp [h1]
section
set_option maxRecDepth 100000
set_option maxHeartbeats 4000000
theorem DTakeTree_any (v : Value) (b : List UInt8) (w : World) (hv : Sl w v (Lib.byteCells b)) (hlen : b.length ≤ 1000000) :
    Calls Tryd.prog 20 #[v] w fun e w' => ∃ u, e = .returned (.tuple #[u, .int .i64 (takeTreeS b).2]) ∧ OwnEnt w' w.heap.size u (takeTreeS b).1 ∧ Below w.heap.size w w' := by
  have HO := hid (DOpen_any v b 2 (by decide) w hv (by omega))
  have HKK := hid (fun (hk : kindS b = 2) => take_end hk rfl)
  have HKN := hid (show kindS b ≠ 2 → takeTreeS b = ([], 5) from fun hk => by unfold takeTreeS; rw [if_pos hk])
  have HDL := hid (show (b.drop 1).length ≤ 1000000 by rw [List.length_drop]; omega)
  obtain ⟨ao, cap, rfl⟩ := hv.form
  clear hv hlen
  go_enter Tryd.func20, Tryd.ntmps20
  go_wp2_with fail
  refine HO.out.mono ?_
  rintro e w1 ⟨p, c, rfl, hb1, h⟩
  rcases h with ⟨hk, rfl⟩ | ⟨hk, rfl, br, rfl, hr1, hbr⟩
  · have HT := hid (HKN.out hk)
    clear hk HKK HKN HO
    go_wp2_with fail
    refine bodyPost_ret (results_tmp2 rfl _ _ _) rfl ⟨.slice none 0 0, by rw [HT.out]; rfl, ?_, hb1⟩
    rw [HT.out]
    exact World.ownsRow_nil _ _ _ _
  · have HT := hid (HKK.out hk)
    have HBR := hid hbr
    have HB1 := hid hb1
    have HR1 := hid hr1
    clear hk HKK HKN HO hbr hb1 hr1
    go_wp2_with fail
    refine (DEntries_any br _ w1 HR1.out HDL.out).mono ?_
    generalize ensR (numOf (stV 4 (b.drop 1) 0)) (stL 4 (b.drop 1) 0) (stE 4 (b.drop 1) 0) = R at *
    rintro e w2 ⟨u, rfl, ho2, hr2, hk2⟩
    have HB2 := hid (HB1.out.trans (hk2.below HB1.out.size fun k hk => by have := HBR.out; show ¬ k = br; omega))
    have HO2 := hid (owns_lower ho2 HB1.out.size)
    have HR2 := hid hr2
    obtain ⟨uo, uc, rfl⟩ := owns_form ho2
    clear ho2 hr2 hk2
    go_wp2_with fail
    refine (DEnded_any br _ _ w2 HR2.out).mono ?_
    rintro e _ ⟨rfl, rfl⟩
    by_cases he : endE R.2.1 R.2.2 = 0
    · have HI := hid (DIsTree_any _ R.1 w2 (OwnEnt.sl HO2.out))
      have HT2 := hid (show takeTreeS b = if entsR R.1 then (R.1, 0) else ([], 5) by rw [HT.out, he]; simp)
      rw [he]
      clear he HT HR2
      cases hx : entsR R.1 with
      | true =>
        have HT3 := hid (show takeTreeS b = (R.1, 0) by rw [HT2.out, hx]; rfl)
        rw [hx] at HI
        clear hx HT2
        go_wp2_with fail
        refine HI.out.mono ?_
        rintro e w3 ⟨rfl, hb3⟩
        go_wp2_with fail
        refine bodyPost_ret (results_tmp2 rfl _ _ _) rfl ⟨.slice uo R.1.length uc, by rw [HT3.out]; rfl, ?_, below_step HB2.out hb3 HB2.out.size⟩
        rw [HT3.out]
        exact (Keep.ofBelow (S := fun _ => False) hb3).owns HO2.out fun _ _ h => h
      | false =>
        have HT3 := hid (show takeTreeS b = ([], 5) by rw [HT2.out, hx]; rfl)
        rw [hx] at HI
        clear hx HT2
        go_wp2_with fail
        refine HI.out.mono ?_
        rintro e w3 ⟨rfl, hb3⟩
        go_wp2_with fail
        refine bodyPost_ret (results_tmp2 rfl _ _ _) rfl ⟨.slice none 0 0, by rw [HT3.out]; rfl, ?_, below_step HB2.out hb3 HB2.out.size⟩
        rw [HT3.out]
        exact World.ownsRow_nil _ _ _ _
    · have HT2 := hid (show takeTreeS b = ([], endE R.2.1 R.2.2) by rw [HT.out, if_pos he])
      have e1 : (endE R.2.1 R.2.2 == 0) = false := by simpa using he
      have e2 : (endE R.2.1 R.2.2 != 0) = true := by simpa using he
      clear he HT HR2
      go_wp2_with fail
      refine bodyPost_ret (results_tmp2 rfl _ _ _) rfl ⟨.slice none 0 0, by rw [HT2.out]; rfl, ?_, HB2.out⟩
      rw [HT2.out]
      exact World.ownsRow_nil _ _ _ _
theorem DTakeCommit_any (v : Value) (b : List UInt8) (w : World) (hv : Sl w v (Lib.byteCells b)) (hlen : b.length ≤ 1000000) :
    Calls Tryd.prog 22 #[v] w fun e w' => e = .returned (.tuple #[.agg (comC (takeComS b).1).toArray, .int .i64 (takeComS b).2]) ∧ Below w.heap.size w w' := by
  have hb0 : Below w.heap.size w (w.alloc (.cells (comC comZ).toArray 27)) := (Below.refl _ w).alloc (Nat.le_refl _) _
  have hg0 := heap_alloc_new w (.cells (comC comZ).toArray 27)
  have HG0 := hid hg0
  have HB0 := hid hb0
  have HO := hid (DOpen_any v b 3 (by decide) _ (hv.old hb0) (by omega))
  have HKK := hid (fun (hk : kindS b = 3) => take_endC hk rfl)
  have HKN := hid (show kindS b ≠ 3 → takeComS b = (comZ, 5) from fun hk => by unfold takeComS; rw [if_pos hk])
  have HI67 := hid (fun c : ComS => show (comC c).toArray.size = 67 by rw [List.size_toArray, comC_len])
  have HCI := hid (fun c : ComS => show (Tryd.prog.info? 27).map (·.size) = some (comC c).toArray.size by rw [HI67.out, Tryd.sizeCom])
  have HCO := hid (fun c : ComS => arr_one (comC_one c))
  obtain ⟨ao, cap, rfl⟩ := hv.form
  clear hv hlen hb0 hg0
  go_enter Tryd.func22, Tryd.ntmps22
  go_wp2_with fail
  refine HO.out.mono ?_
  rintro e w1 ⟨p, c, rfl, hb1, h⟩
  have HG1 := hid ((hb1.block _ (lt_of_block HG0.out)).trans HG0.out)
  have HB1 := hid (below_step HB0.out hb1 HB0.out.size)
  rcases h with ⟨hk, rfl⟩ | ⟨hk, rfl, br, rfl, hr1, hbr⟩
  · have HT := hid (HKN.out hk)
    clear hk HKK HKN HO
    go_wp2_with (first
      | (refine wpList_build_com0 rfl rfl ?_)
      | (refine wpList_store_all rfl 27 _ _ rfl w.heap.size _ rfl rfl _ _ HG1.out 67 Tryd.sizeCom (HI67.out comZ) (HI67.out comZ) (HCO.out comZ) ?_; intro w2 hg2 hk2))
    refine bodyPost_ret (row_results rfl _ _ w.heap.size _ _ _ _ _ rfl rfl hg2 Tryd.underlying27 rfl (HCI.out comZ)) rfl ⟨by rw [HT.out]; rfl, HB1.out.trans (hk2.below HB1.out.size fun k hk => by show ¬ k = _; omega)⟩
  · have HT := hid (HKK.out hk)
    have HBR := hid (show w.heap.size + 1 ≤ br by simpa using hbr)
    have HR1 := hid hr1
    clear hk HKK HKN HO hbr hb1 hr1
    go_wp2_with fail
    refine (DCommitR_any br _ w1 HR1.out).mono ?_
    generalize b.drop 1 = l at *
    rintro e w2 ⟨rfl, hr2, hk2⟩
    have HG2 := hid ((hk2.block _ (lt_of_block HG1.out) (by have := HBR.out; show ¬ _ = br; omega)).trans HG1.out)
    have HB2 := hid (HB1.out.trans (hk2.below HB1.out.size fun k hk => by have := HBR.out; show ¬ k = br; omega))
    have HR2 := hid hr2
    have HZ2 := hid (lt_of_block HG2.out)
    clear hr2 hk2
    obtain ⟨c, hc⟩ : ∃ c, coV l = c := ⟨_, rfl⟩
    rw [hc] at HT
    rw [hc, comV]
    clear hc
    go_wp2_with (refine wpList_store_all rfl 27 _ _ rfl w2.heap.size _ rfl rfl _ _ (heap_alloc_new w2 _) 67 Tryd.sizeCom (HI67.out c) rfl (HCO.out c) ?_; intro w3 hg3 hk3; have HG3 := hid hg3; have HG33 := hid ((hk3.block _ (by have := HZ2.out; simp; omega) (by have := HZ2.out; show ¬ _ = _; omega)).trans (((Below.refl _ w2).alloc (Nat.le_refl _) (.cells (comC comZ).toArray 27)).block _ HZ2.out |>.trans HG2.out)); have HB33 := hid (show Below w2.heap.size w2 w3 from ((Below.refl _ w2).alloc (Nat.le_refl _) _).trans (hk3.below (by simp) fun q hq => by show ¬ q = _; omega)); clear hg3 hk3)
    have HB3 := hid (below_step HB2.out HB33.out HB2.out.size)
    refine (DEnded_any br _ _ w3 (HR2.out.old HB33.out)).mono ?_
    rintro e _ ⟨rfl, rfl⟩
    by_cases he : endE (coL l) (coE l) = 0
    · have HW := hid (fun wx => DWrong_any c wx)
      have HT2 := hid (show takeComS b = if comE c ≠ 0 then (comZ, 5) else (c, 0) by rw [HT.out, he]; simp)
      rw [he]
      clear he HT HR2
      by_cases hx : comE c = 0
      · have HT3 := hid (show takeComS b = (c, 0) by rw [HT2.out, if_neg (by simp [hx])])
        rw [hx] at HW
        clear hx HT2
        go_wp2_with (refine wpList_load_row rfl 27 _ rfl w2.heap.size rfl _ _ _ _ HG3.out Tryd.underlying27 rfl (HCI.out c) ?_)
        refine (HW.out _).mono ?_
        rintro e w4 ⟨rfl, hb4⟩
        have HG4 := hid ((hb4.block _ (lt_of_block HG3.out)).trans HG3.out)
        have HG44 := hid ((hb4.block _ (lt_of_block HG33.out)).trans HG33.out)
        have HB4 := hid (below_step HB3.out hb4 HB3.out.size)
        clear hb4
        go_wp2_with (first
          | (refine wpList_load_row rfl 27 _ rfl w2.heap.size rfl _ _ _ _ HG4.out Tryd.underlying27 rfl (HCI.out c) ?_)
          | (refine wpList_store_all rfl 27 _ _ rfl w.heap.size _ rfl rfl _ _ HG44.out 67 Tryd.sizeCom (HI67.out c) (HI67.out comZ) (HCO.out c) ?_; intro w5 hg5 hk5))
        refine bodyPost_ret (row_results rfl _ _ w.heap.size _ _ _ _ _ rfl rfl hg5 Tryd.underlying27 rfl (HCI.out c)) rfl ⟨by rw [HT3.out]; rfl, HB4.out.trans (hk5.below HB4.out.size fun k hk => by show ¬ k = _; omega)⟩
      · have HT3 := hid (show takeComS b = (comZ, 5) by rw [HT2.out, if_pos hx])
        have e1 : (comE c == 0) = false := by simpa using hx
        have e2 : (comE c != 0) = true := by simpa using hx
        clear hx HT2
        go_wp2_with (refine wpList_load_row rfl 27 _ rfl w2.heap.size rfl _ _ _ _ HG3.out Tryd.underlying27 rfl (HCI.out c) ?_)
        refine (HW.out _).mono ?_
        rintro e w4 ⟨rfl, hb4⟩
        have HG44 := hid ((hb4.block _ (lt_of_block HG33.out)).trans HG33.out)
        have HB4 := hid (below_step HB3.out hb4 HB3.out.size)
        clear hb4
        go_wp2_with (first
          | (refine wpList_build_com0 rfl rfl ?_)
          | (refine wpList_store_all rfl 27 _ _ rfl w.heap.size _ rfl rfl _ _ HG44.out 67 Tryd.sizeCom (HI67.out comZ) (HI67.out comZ) (HCO.out comZ) ?_; intro w5 hg5 hk5))
        refine bodyPost_ret (row_results rfl _ _ w.heap.size _ _ _ _ _ rfl rfl hg5 Tryd.underlying27 rfl (HCI.out comZ)) rfl ⟨by rw [HT3.out]; rfl, HB4.out.trans (hk5.below HB4.out.size fun k hk => by show ¬ k = _; omega)⟩
    · have HT2 := hid (show takeComS b = (comZ, endE (coL l) (coE l)) by rw [HT.out, if_pos he])
      have e1 : (endE (coL l) (coE l) == 0) = false := by simpa using he
      have e2 : (endE (coL l) (coE l) != 0) = true := by simpa using he
      clear he HT HR2
      go_wp2_with (first
        | (refine wpList_build_com0 rfl rfl ?_)
        | (refine wpList_store_all rfl 27 _ _ rfl w.heap.size _ rfl rfl _ _ HG33.out 67 Tryd.sizeCom (HI67.out comZ) (HI67.out comZ) (HCO.out comZ) ?_; intro w5 hg5 hk5))
      refine bodyPost_ret (row_results rfl _ _ w.heap.size _ _ _ _ _ rfl rfl hg5 Tryd.underlying27 rfl (HCI.out comZ)) rfl ⟨by rw [HT2.out]; rfl, HB3.out.trans (hk5.below HB3.out.size fun k hk => by show ¬ k = _; omega)⟩
end
end Go.Proofs.YtbcpfakdmnccmaaDoor

namespace Go.Proofs.YtbcpfakdmnccmaaDoor
open Go.RowKit

theorem Foot.block {w w' : World} {bw g : Nat} {v v' : Value} (h : Foot w w' bw v v') (hg : g < w.heap.size) (h1 : g ≠ bw) (h2 : v.ownBlock ≠ some g) : w'.heap[g]? = w.heap[g]? :=
  h.keep.block g hg fun e => e.elim h1 h2
theorem ents_snoc (l : List EntS) (f : EntS) : entsB (l ++ [f]) = entsB l ++ entB f := by simp [entsB]
theorem ents_len {l : List EntS} (h : ∀ f ∈ l, f.1.length ≤ 100) : (entsB l).length ≤ l.length * 137 := by
  induction l with
  | nil => simp [entsB]
  | cons f l ih =>
    have h1 := h f (by simp)
    have h2 := ih fun g hg => h g (by simp [hg])
    rw [entsB, List.flatMap_cons, List.length_append, entB_len, List.length_cons, ← entsB]
    omega
section
set_option maxRecDepth 100000
set_option maxHeartbeats 4000000
theorem DTree_any (v : Value) (l : List EntS) (w : World) (hv : SlEnt w v l) :
    Calls Tryd.prog 11 #[v] w fun e w' => ∃ u, e = .returned (.tuple #[u, .int .i64 (treeW l).2]) ∧ OwnB w' w.heap.size u (treeW l).1 ∧ Below w.heap.size w w' := by
  have HE := hid (DIsTree_any v l w hv)
  by_cases hr : entsR l = true
  · rw [hr] at HE
    obtain ⟨hl, hp⟩ := entsR_len hr
    have HT := hid (show treeW l = ([2] ++ lowBytes l.length 4 ++ entsB l, 0) by unfold treeW; rw [if_pos hr]; rfl)
    have HP := hid hp
    have HL := hid hl
    obtain ⟨ao, cap, rfl⟩ := hv.form
    have HV := hid hv
    have nw : IntKind.u64.wrap (l.length : Int) = (l.length : Int) := by rw [IntKind.wrap_u64]; omega
    have HI := hid (fun f : EntS => entInfo f)
    have HS34 := hid (fun f : EntS => show (entC f).toArray.size = 34 by rw [List.size_toArray, entC_len])
    have HEO := hid (fun f : EntS => arr_one (entC_one f))
    clear hr hp hl hv
    go_enter Tryd.func11, Tryd.ntmps11
    go_wp2_with fail
    refine HE.out.mono ?_
    rintro e w1 ⟨rfl, hb1⟩
    have HB1 := hid hb1
    clear hb1
    go_wp2_with fail
    refine (DBegin_any 2 (by decide) w1).mono ?_
    rintro e w2 ⟨bw, v2, rfl, hbw, hw2, hb2⟩
    have HBW := hid hbw
    have HB2 := hid hb2
    have HW2 := hid (show Wr w2 w1.heap.size bw v2 [2] from hw2)
    clear hbw hw2 hb2
    go_wp2_with fail
    refine (Num_any w1.heap.size bw v2 [2] (l.length : Int) 4 (by omega) w2 HW2.out HB2.out.size (by simp)).mono ?_
    rw [show heldN 4 = 4 from rfl, Int.toNat_natCast]
    rintro e w3 ⟨rfl, v3, hw3, hf3⟩
    have HW3 := hid hw3
    have HB3 := hid (hf3.below HW2.out HB2.out HB2.out.size HBW.out)
    clear hw3 hf3 HW2 HB2
    go_wp2_with fail
    go_loopg [18] l.length (fun g i wr => ∃ (k : Nat) (B : List UInt8) (vk : Value), k ≤ l.length ∧ l.length - k = g ∧ i = .int .i64 (k : Nat) ∧ Hid (B = [2] ++ lowBytes l.length 4 ++ entsB (l.take k)) ∧ Hid (Wr wr w1.heap.size bw vk B) ∧ Hid (Below w1.heap.size w1 wr))
    case atStart => exact ⟨0, _, v3, Nat.zero_le _, rfl, rfl, hid (by simp [entsB]), HW3, HB3⟩
    case round =>
      obtain ⟨k, B, vk, hk, rfl, rfl, HBB, HW, HB⟩ := hrel
      have k0 : (0 : Int) ≤ (k : Int) := Int.natCast_nonneg _
      have hll := HL.out
      have HBA := hid (below_step HB1.out HB.out HB1.out.size)
      by_cases hlt : k < l.length
      · have k1 : (k : Int) < (l.length : Int) := by omega
        have kw : IntKind.i64.wrap ((k : Int) + 1) = (k : Int) + 1 := IntWalk.i64_in _ (by omega)
        obtain ⟨b, o, f, rfl, he, hr, _, _, _⟩ := SlEnt.at (HV.out.old HBA.out) hlt
        have hfl := HP.out f (List.mem_of_getElem? he)
        have ht : l.take (k + 1) = l.take k ++ [f] := by rw [List.take_add_one, he]; rfl
        have hBl : B.length ≤ 13800 := by
          have h1 := ents_len (l := l.take k) fun g hg => HP.out g (List.mem_of_mem_take hg)
          have h2 : (l.take k).length ≤ 100 := by rw [List.length_take]; omega
          rw [HBB.out, List.length_append, List.length_append, lowBytes_length, List.length_singleton]
          omega
        have HB2' := hid (show B ++ intBytes f.1.length ++ f.1 ++ [b01 f.2.1] ++ f.2.2.1 = [2] ++ lowBytes l.length 4 ++ entsB (l.take (k + 1)) by rw [ht, ents_snoc, HBB.out]; simp [entB])
        have HBL := hid hBl
        have HFL := hid hfl
        have HSZ := hid (show (⟨f.1.toArray⟩ : ByteArray).size = f.1.length by simp [ByteArray.size])
        have HRG := hid hr
        have hbwl := lt_of_block HW.out.block
        have HBWL := hid hbwl
        have HOWN := hid (show vk.ownBlock ≠ some wr.heap.size from fun e => by have := (HW.out.own.lt _ e).2; omega)
        have hkl := keyInfo f.2.2
        have HKI := hid hkl
        clear he ht hBl hfl hr hbwl hkl
        go_wp2_with (first
          | (refine wpList_load_mid rfl 31 _ rfl b (o + k * 34) rfl _ _ HRG.out Tryd.underlying31 rfl (HI.out f) ?_)
          | (refine wpList_store_all rfl 31 _ _ rfl wr.heap.size _ rfl rfl _ _ (heap_alloc_new wr _) 34 Tryd.sizeEnt (HS34.out f) rfl (HEO.out f) ?_; intro w4 hg4 hk4
             have HA4 := hid (EntAt.mk hg4)
             have HB4 := hid (show Below wr.heap.size wr w4 from ((Below.refl _ wr).alloc (Nat.le_refl _) _).trans (hk4.below (by simp) fun q hq => by show ¬ q = _; omega))
             have d0 := HA4.out.c0
             clear hg4 hk4))
        have HZ4 := hid (lt_of_block HA4.out.blk)
        have HW4 := hid (HW.out.old HB4.out)
        have HBX := hid (below_step HB.out HB4.out HB.out.size)
        refine (Text_any w1.heap.size bw vk B ⟨f.1.toArray⟩ w4 HW4.out HBX.out.size (by rw [HSZ.out]; have h1 := HBL.out; have h2 := HFL.out; omega)).mono ?_
        rw [HSZ.out, show (⟨f.1.toArray⟩ : ByteArray).data.toList = f.1 from rfl]
        rintro e w5 ⟨rfl, v5, hw5, hf5⟩
        have hne : wr.heap.size ≠ bw := by have := HBWL.out; omega
        have d1 := (HA4.out.kept (hf5.block HZ4.out hne HOWN.out)).c1
        have HF5 := hid hf5
        have HW5 := hid hw5
        clear hw5 hf5 d0
        go_wp2_with fail
        refine (Bool_any w1.heap.size bw v5 _ f.2.1 w5 HW5.out (Nat.le_trans HBX.out.size HF5.out.keep.size) (by simp only [List.length_append, intBytes_length]; have h1 := HBL.out; have h2 := HFL.out; omega)).mono ?_
        rintro e w6 ⟨rfl, v6, hw6, hf6⟩
        have HF6 := hid (HF5.out.trans hf6)
        have HR6 := hid (HA4.out.kept (HF6.out.block HZ4.out hne HOWN.out)).c2
        have HW6 := hid (show Wr w6 w1.heap.size bw v6 (B ++ intBytes f.1.length ++ f.1 ++ [b01 f.2.1]) from hw6)
        clear hw6 hf6 d1
        go_wp2_with (refine wpList_load_mid rfl 24 _ rfl wr.heap.size 2 rfl _ _ HR6.out Tryd.underlying24 rfl HKI.out ?_)
        refine (DWriteKey_any w1.heap.size bw v6 _ f.2.2 w6 HW6.out (Nat.le_trans HBX.out.size HF6.out.keep.size) (by simp only [List.length_append, intBytes_length, List.length_singleton]; have h1 := HBL.out; have h2 := HFL.out; omega)).mono ?_
        rintro e w7 ⟨rfl, v7, hw7, hf7⟩
        rw [HB2'.out] at hw7
        have HW7 := hid hw7
        have HB7 := hid ((HF6.out.trans hf7).below HW4.out HBX.out HBX.out.size HBW.out)
        clear hw7 hf7 hne
        go_wp2_with fail
        go_roundg (l.length - (k + 1))
        case measure => omega
        case rel => exact ⟨k + 1, _, v7, by omega, rfl, by go_num, hid rfl, HW7, HB7⟩
      · obtain rfl : k = l.length := by omega
        have hneg : ¬ (l.length : Int) < (l.length : Int) := by omega
        have HBB2 := hid (show B = [2] ++ lowBytes l.length 4 ++ entsB l by rw [HBB.out, List.take_length])
        have HLN := hid (show B.length ≤ 70368744177664 by
          have h1 := ents_len HP.out
          rw [HBB2.out, List.length_append, List.length_append, lowBytes_length, List.length_singleton]
          omega)
        go_wp2_with fail
        refine (Bytes_any w1.heap.size bw vk B wr HW.out HLN.out).mono ?_
        rintro e w4 ⟨u, rfl, hu, hb4⟩
        go_wp2_with fail
        refine bodyPost_ret (results_tmp2 rfl _ _ _) rfl ⟨u, by rw [HT.out]; rfl, ?_, below_step HBA.out hb4 HBA.out.size⟩
        rw [HT.out, ← HBB2.out]
        exact OwnB.lower hu HBA.out.size
  · have hr2 : entsR l = false := by simpa using hr
    rw [hr2] at HE
    have HT := hid (show treeW l = ([], 5) by unfold treeW; rw [if_neg hr])
    obtain ⟨ao, cap, rfl⟩ := hv.form
    clear hr hr2
    go_enter Tryd.func11, Tryd.ntmps11
    go_wp2_with fail
    refine HE.out.mono ?_
    rintro e w1 ⟨rfl, hb1⟩
    go_wp2_with fail
    refine bodyPost_ret (results_tmp2 rfl _ _ _) rfl ⟨_, by rw [HT.out]; rfl, ?_, hb1⟩
    rw [HT.out]
    exact OwnB.nil _
end
end Go.Proofs.YtbcpfakdmnccmaaDoor

namespace Go.Proofs.YtbcpfakdmnccmaaDoor
open Go.RowKit

/-! ### rickhelp.Bytes -/
theorem HBytes_any (a b : Value) (x y : List UInt8) (w : World) (ha : Sl w a (Lib.byteCells x)) (hb : Sl w b (Lib.byteCells y)) :
    Calls Tryd.prog 15 #[a, b] w fun e w' => e = .returned (.bool (x == y)) ∧ w = w' := by
  have h1 := run_string_of (P := Tryd.prog) 32 9 5 Tryd.underlying32 Tryd.underlying5 Tryd.underlying9 ha
  have h2 := run_string_of (P := Tryd.prog) 32 9 5 Tryd.underlying32 Tryd.underlying5 Tryd.underlying9 hb
  go_enter Tryd.func15, Tryd.ntmps15
  go_wp2
  go_ret
  exact ⟨rfl, rfl⟩
end Go.Proofs.YtbcpfakdmnccmaaDoor

namespace Go.Proofs.YtbcpfakdmnccmaaDoor
open Go.RowKit

theorem own_len {w : World} {b : Nat} {e : TypeId} {size : Nat} {v : Value} {m : Nat} {xs : List Value} (n : Nat) (h : w.ownsRow b e size v m xs) (hn : m = n) : ∃ xo xc, v = .slice xo n xc := by
  subst hn
  exact owns_form h
def comA : ComS := (true, kz, kz, [], 0)
section
set_option maxRecDepth 100000
set_option maxHeartbeats 4000000
theorem com_rooted : Tryd.prog.built 27 [(0, .bool true)] = some (comC comA).toArray := by kernel_rfl
theorem wpList_build_comA {ops : Array Oper} {rest : List Oper} {o : Oper} {a : Act} {w : World} {Q : Exit → Act → World → Prop} (hg : o.guard = none) (x : Operand) (ho : o.op = .build 27 #[(0, x)]) (hx : a.eval x = .bool true)
    (h : wpList Tryd.prog ops Q rest (a.put o.dst (.agg (comC comA).toArray)) w) : wpList Tryd.prog ops Q (o :: rest) a w := by
  refine wpList_build_to hg 27 _ ho (comC comA).toArray ?_ h
  simp only [List.map_toArray, List.map_cons, List.map_nil, hx]
  exact com_rooted
theorem comA_W : (comW comA).2 = 0 ∧ (comW comA).1.length = 78 ∧ kindS (comW comA).1 = 3 := by
  have h0 : comE comA = 0 := by unfold comE comA; simp
  unfold comW
  rw [if_pos h0]
  refine ⟨rfl, ?_, ?_⟩
  · simp [comB, intBytes_length, lowBytes_length, comA, kz]
  · simp [comB, kindS]
theorem awake_any (w : World) : Calls Tryd.prog 7 #[] w fun e w' => e = .returned (.bool true) ∧ Below w.heap.size w w' := by
  obtain ⟨a1, a2, a3⟩ := comA_W
  have HB := hid (fun wx => DBlob_any [97] wx)
  have HC := hid (fun wx => DCommit_any comA (by decide) wx)
  rw [a1] at HC
  have hbl : blobS [97] = ([1, 97], 0) := rfl
  rw [hbl] at HB
  have HA2 := hid a2
  have HA3 := hid a3
  generalize (comW comA).1 = B at *
  clear a1 a2 a3 hbl
  go_enter Tryd.func7, Tryd.ntmps7
  go_wp2_with fail
  refine (HB.out _).mono ?_
  rintro e w1 ⟨u, rfl, hu, hb1⟩
  have HU := hid hu
  have HB1 := hid hb1
  clear hu hb1
  go_wp2_with (refine wpList_build_comA rfl (.const (.bool true)) rfl rfl ?_)
  refine (HC.out _).mono ?_
  rintro e w2 ⟨x, rfl, hx, hb2⟩
  obtain ⟨xo, xc, rfl⟩ := own_len 78 hx (by rw [HA2.out])
  have HU2 := hid (OwnB.old HU.out hb2)
  have HX := hid hx
  have HB2 := hid (below_step HB1.out hb2 HB1.out.size)
  clear hx hb2
  go_wp2_with fail
  have hl : Sl (w2.alloc (.cells #[.int .u8 1, .int .u8 97] 5)) (.slice (some ⟨w2.heap.size, 0, none⟩) 2 2) (Lib.byteCells [1, 97]) := Sl.ofBlock (cs := #[.int .u8 1, .int .u8 97]) (heap_alloc_new w2 _)
  have hT := HBytes_any _ _ [1, 97] [1, 97] _ ((Sl.ofOwns HU2.out).alloc (.cells #[.int .u8 1, .int .u8 97] 5)) hl
  rw [show (([1, 97] : List UInt8) == [1, 97]) = true from rfl] at hT
  refine hT.mono ?_
  rintro e _ ⟨rfl, rfl⟩
  clear hT hl
  have HXa := hid ((Sl.ofOwns HX.out).alloc (.cells #[.int .u8 1, .int .u8 97] 5))
  have HBa := hid (HB2.out.alloc HB2.out.size (.cells #[.int .u8 1, .int .u8 97] 5))
  go_wp2_with fail
  have hT := DKind_any _ B _ HXa.out
  rw [HA3.out] at hT
  refine hT.mono ?_
  rintro e _ ⟨rfl, rfl⟩
  clear hT
  go_wp2_with fail
  go_ret
  exact ⟨rfl, HBa.out⟩
end
end Go.Proofs.YtbcpfakdmnccmaaDoor

namespace Go.Proofs.YtbcpfakdmnccmaaDoor
open Go.RowKit

theorem row_old {w w' : World} {g : Nat} {o : Obj} (h : w.heap[g]? = some o) (hk : Below w.heap.size w w') : w'.heap[g]? = some o := (hk.block _ (lt_of_block h)).trans h
theorem owns_old {w w' : World} {base : Nat} {e : TypeId} {size n : Nat} {v : Value} {xs : List Value} (h : w.ownsRow base e size v n xs) (hk : Below w.heap.size w w') : w'.ownsRow base e size v n xs :=
  (Keep.ofBelow (S := fun _ => False) hk).owns h fun _ _ h => h
theorem take_len (b : List UInt8) : (takeTreeS b).1.length ≤ 1000000 := by
  by_cases h : (takeTreeS b).2 = 0
  · have := (entsR_len (take_inv h).1).1
    omega
  · have : (takeTreeS b).1 = [] := by
      unfold takeTreeS at h ⊢
      by_cases h1 : kindS b = 2
      · rw [if_neg (by simp [h1])] at h ⊢
        simp only at h ⊢
        generalize ensR (numOf (stV 4 (b.drop 1) 0)) (stL 4 (b.drop 1) 0) (stE 4 (b.drop 1) 0) = R at *
        by_cases h2 : R.2.2 = 0
        · rw [if_neg (by simp [h2])] at h ⊢
          by_cases h3 : R.2.1 = []
          · rw [if_neg (by simp [h3])] at h ⊢
            by_cases h4 : entsR R.1 = true
            · rw [if_pos h4] at h
              exact absurd rfl h
            · rw [if_neg h4]
          · rw [if_pos h3]
        · rw [if_pos h2]
      · rw [if_pos h1]
    rw [this]
    simp
set_option maxRecDepth 100000 in
theorem wpList_build_path_g {ops : Array Oper} {rest : List Oper} {o : Oper} {a : Act} {w : World} {Q : Exit → Act → World → Prop} (hw : Region.wanted o (yielded ops a.tmps) = true) (x : Operand) (ho : o.op = .build 31 #[(0, x)]) (p : List UInt8) (hx : a.eval x = .string ⟨p.toArray⟩)
    (h : wpList Tryd.prog ops Q rest (a.put o.dst (.agg (entC (p, false, kz)).toArray)) w) : wpList Tryd.prog ops Q (o :: rest) a w := by
  refine wpList_build_to_g hw 31 _ ho (entC (p, false, kz)).toArray ?_ h
  simp only [List.map_toArray, List.map_cons, List.map_nil, hx]
  exact ent_zero _
end Go.Proofs.YtbcpfakdmnccmaaDoor

namespace Go.Proofs.YtbcpfakdmnccmaaDoor
open Go.RowKit

theorem blob_back {a : List UInt8} (h : a.length ≤ 300) : blobS a = (1 :: a, 0) ∧ takeBlobS (1 :: a) = (a, 0) := by
  have hk : kindS (1 :: a) = 1 := rfl
  refine ⟨by unfold blobS; rw [if_neg (by omega)], ?_⟩
  unfold takeBlobS
  rw [hk, if_neg (by decide), if_neg (by simp; omega)]
  rfl
theorem blob_none {b : List UInt8} (h : kindS b ≠ 1) : takeBlobS b = ([], 5) := by unfold takeBlobS; rw [if_pos h]
theorem tree_none {b : List UInt8} (h : kindS b ≠ 2) : takeTreeS b = ([], 5) := by unfold takeTreeS; rw [if_pos h]
theorem treeB_kind (l : List EntS) : kindS (treeB l) = 2 := by simp [treeB, kindS]
theorem comB_kind (c : ComS) : kindS (comB c) = 3 := by simp [comB, kindS]
theorem entsB_len : ∀ l : List EntS, (∀ f ∈ l, f.1.length ≤ 100) → (entsB l).length ≤ l.length * 137
  | [], _ => Nat.le_refl _
  | f :: l, h => by
    have h1 := h f (by simp)
    have h2 := entsB_len l fun g hg => h g (by simp [hg])
    have h3 : (entsB (f :: l)).length = (entB f).length + (entsB l).length := by simp [entsB]
    rw [h3, entB_len, List.length_cons, Nat.add_mul]
    omega
theorem treeB_len {l : List EntS} (h : entsR l = true) : 0 < (treeB l).length ∧ (treeB l).length ≤ 30000 := by
  obtain ⟨h1, h2⟩ := entsR_len h
  have h3 := entsB_len l h2
  have h4 : (treeB l).length = 5 + (entsB l).length := by simp [treeB, lowBytes_length]; omega
  omega
theorem comB_len (c : ComS) : (comB c).length = 78 + c.2.2.2.1.length := by
  have h1 := c.2.1.2
  have h2 := c.2.2.1.2
  simp [comB, intBytes_length, lowBytes_length, h1, h2]
  omega
theorem run_cut {w : World} {v : Value} {bs : List UInt8} (h : Sl w v (Lib.byteCells bs)) (n : Nat) (hn : n ≤ bs.length) :
    ∃ v', (∀ wx, (Instr.slice 32 v none (some (.int .i64 (n : Int))) none).run Tryd.prog wx = .ok v' wx) ∧ Sl w v' (Lib.byteCells (bs.take n)) := by
  obtain ⟨i0, hi0, hi1, hi2, hi3⟩ := info_parts Tryd.info5
  obtain ⟨v', h1, h2, _, _⟩ := run_slice_to (P := Tryd.prog) 32 5 Tryd.underlying32 hi0 h n (by rw [Lib.byteCells_length]; exact hn)
  refine ⟨v', h1, ?_⟩
  have e : (Lib.byteCells bs).take n = Lib.byteCells (bs.take n) := by simp [Lib.byteCells, List.map_take]
  rw [← e]
  exact h2
theorem lit_zero (w : World) : OwnB (w.alloc (.cells #[.int .u8 0] 5)) w.heap.size (.slice (some ⟨w.heap.size, 0, none⟩) 1 1) [0] := lit_ob w 0
end Go.Proofs.YtbcpfakdmnccmaaDoor

namespace Go.Proofs.YtbcpfakdmnccmaaDoor
open Go.RowKit

theorem made0 (n : Nat) : madeCells #[.int .u8 0] n = (Lib.byteCells (List.replicate n 0)).toArray := by
  apply Array.ext
  · simp [size_madeCells, Lib.byteCells]
  · intro i h1 h2
    have hi : i < n := by simpa [size_madeCells] using h1
    simp [madeCells, Lib.byteCells, Nat.mod_one]
theorem run_make0 (w : World) (n : Nat) (hn : n ≤ 70368744177664) :
    (Instr.makeSlice 32 (.int .i64 (n : Int)) (.int .i64 (n : Int))).run Tryd.prog w = .ok (.slice (some ⟨w.heap.size, 0, none⟩) n n) (w.alloc (.cells (Lib.byteCells (List.replicate n 0)).toArray 5)) := by
  obtain ⟨i0, hi0, hi1, hi2, hi3⟩ := info_parts Tryd.info5
  have h := run_make (P := Tryd.prog) w 32 5 i0 (.int .u8 0) Tryd.underlying32 hi0 hi1 .i64 .i64 (n : Int) (n : Int) (by omega) (by omega) (by rw [hi3]; omega) (by omega)
  rw [hi2, Int.toNat_natCast, Nat.mul_one] at h
  rw [h, show (Value.int .u8 0).cells = #[.int .u8 0] from rfl, made0]
theorem made_sl (R : List UInt8) (n : Nat) (h : R.length = n) (w : World) : Sl (w.alloc (.cells (Lib.byteCells R).toArray 5)) (.slice (some ⟨w.heap.size, 0, none⟩) n n) (Lib.byteCells R) := by
  have h1 := Sl.ofBlock (heap_alloc_new w (.cells (Lib.byteCells R).toArray 5))
  simpa [Lib.byteCells_length, h] using h1
theorem six_mod (a : Int) : ∃ m : Nat, m < 6 ∧ Int.tmod (IntKind.u64.wrap a) 6 = (m : Int) := by
  have hw : 0 ≤ IntKind.u64.wrap a := by simp [IntKind.wrap, IntKind.bits, IntKind.signed]; omega
  have h1 := Int.emod_nonneg (IntKind.u64.wrap a) (show (6 : Int) ≠ 0 by omega)
  have h2 := Int.emod_lt_of_pos (IntKind.u64.wrap a) (show (0 : Int) < (6 : Int) by omega)
  rw [Int.tmod_eq_emod_of_nonneg hw]
  generalize IntKind.u64.wrap a % (6 : Int) = x at h1 h2
  exact ⟨x.toNat, by omega, by omega⟩
theorem six_in (m : Nat) (h : m < 6) : wrap64 (m : Int) = (m : Int) ∧ IntKind.i64.wrap (m : Int) = (m : Int) ∧ IntKind.i64.wrap ((m : Int) - 3) = (m : Int) - 3 ∧ IntKind.i64.wrap (20000 + ((m : Int) - 3)) = ((19997 + m : Nat) : Int) ∧ IntKind.i64.wrap (1000 + ((m : Int) - 3)) = ((997 + m : Nat) : Int) :=
  ⟨by unfold wrap64; omega, IntWalk.i64_in _ (by omega), IntWalk.i64_in _ (by omega), (IntWalk.i64_in _ (by omega)).trans (by omega), (IntWalk.i64_in _ (by omega)).trans (by omega)⟩
theorem two_ents (w : World) (f g : EntS) : OwnEnt (w.alloc (.cells (entC f ++ entC g).toArray 31)) w.heap.size (.slice (some ⟨w.heap.size, 0, none⟩) 2 2) [f, g] := by
  have h := World.ownsRow_lit (base := w.heap.size) (e := 31) (size := 34) w (entC f ++ entC g).toArray 2 (Nat.le_refl _) (by decide) (by simp [entC_len])
  have he : (entC f ++ entC g).toArray.toList = flatR encEnt [f, g] := by simp [flatR, encEnt]
  rw [he] at h
  exact h
theorem not_both (p q : List UInt8) : ¬ ((treeW [(p, false, kz), (q, false, kz)]).2 = 0 ∧ (treeW [(q, false, kz), (p, false, kz)]).2 = 0) := by
  have key : ∀ a b : List UInt8, (treeW [(a, false, kz), (b, false, kz)]).2 = 0 → ltS a b = true := by
    intro a b h
    unfold treeW at h
    by_cases hr : entsR [(a, false, kz), (b, false, kz)] = true
    · unfold entsR at hr
      rw [Bool.and_eq_true, Ent.okAll_iff _ [] List.Pairwise.nil] at hr
      have := hr.2.2.1
      rw [List.nil_append] at this
      exact (List.pairwise_cons.1 this).1 (b, false, kz) (by simp)
    · rw [if_neg hr] at h
      simp at h
  intro ⟨h1, h2⟩
  have a1 := key p q h1
  have a2 := key q p h2
  rw [lt_asym a1] at a2
  cases a2
end Go.Proofs.YtbcpfakdmnccmaaDoor

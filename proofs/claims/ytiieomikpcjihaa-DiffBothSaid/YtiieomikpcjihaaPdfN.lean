/-
  What two lists have in common, by two rows (between).
-/
import Derived.Test.YtiieomikpcjihaaPdfB
import Derived.Test.YtiieomikpcjihaaPdfC
import Derived.Deep.DeepCutAuto
import Derived.Deep.CutRange
import Derived.Deep.RegionHeld3
namespace Go.Proofs.Ytiieomikpcjihaa
open Go.RowKit

attribute [local go_sem] Oper.semAt_some

section
set_option maxRecDepth 100000
set_option maxHeartbeats 4000000
theorem Try.infoU32 : (Try.prog.info? 54).map (fun i => (i.zero, i.size, i.bytes)) = some (some (.int .u32 0), 1, 4) := by kernel_rfl

/-- what lies there between two rounds -/
structure BtUp (w wx : World) (vB : Value) (m r h p q : Nat) (g f : Nat → Nat) : Prop where
  box : wx.heap[w.heap.size]? = some (.cells #[vB] 22 (0, 0))
  bp : wx.heap[p]? = some (.cells #[.slice (some ⟨r, 0, none⟩) (m + 1) (m + 1)] 49 (0, 0))
  bq : wx.heap[q]? = some (.cells #[.slice (some ⟨h, 0, none⟩) (m + 1) (m + 1)] 49 (0, 0))
  rr : wx.heap[r]? = some (.cells (rowL .u32 g (m + 1)).toArray 54 (0, 0))
  rh : wx.heap[h]? = some (.cells (rowL .u32 f (m + 1)).toArray 54 (0, 0))
  far : w.heap.size < r ∧ w.heap.size < h ∧ w.heap.size < p ∧ w.heap.size < q
  apart : r ≠ h ∧ r ≠ p ∧ r ≠ q ∧ h ≠ p ∧ h ≠ q ∧ p ≠ q
  below : Below w.heap.size w wx
/-- five new blocks -/
theorem five_new (w : World) (o0 o1 o2 o3 o4 : Obj) : let X := (((((w.alloc o0).alloc o1).alloc o2).alloc o3).alloc o4).drew
    X.heap[w.heap.size]? = some o0 ∧ X.heap[w.heap.size + 1]? = some o1 ∧ X.heap[w.heap.size + 1 + 1]? = some o2 ∧ X.heap[w.heap.size + 1 + 1 + 1]? = some o3 ∧ X.heap[w.heap.size + 1 + 1 + 1 + 1]? = some o4 ∧ Below w.heap.size w X := by
  have s0 : (w.alloc o0).heap.size = w.heap.size + 1 := by simp
  have s1 : ((w.alloc o0).alloc o1).heap.size = w.heap.size + 1 + 1 := by simp
  have s2 : (((w.alloc o0).alloc o1).alloc o2).heap.size = w.heap.size + 1 + 1 + 1 := by simp
  have s3 : ((((w.alloc o0).alloc o1).alloc o2).alloc o3).heap.size = w.heap.size + 1 + 1 + 1 + 1 := by simp
  intro X
  refine ⟨?_, ?_, ?_, ?_, ?_, ?_⟩
  · show (((((w.alloc o0).alloc o1).alloc o2).alloc o3).alloc o4).heap[_]? = _
    rw [Below.heap_alloc _ _ _ (by omega), Below.heap_alloc _ _ _ (by omega), Below.heap_alloc _ _ _ (by omega), Below.heap_alloc _ _ _ (by omega), World.alloc_heap_new]
  · show (((((w.alloc o0).alloc o1).alloc o2).alloc o3).alloc o4).heap[_]? = _
    rw [Below.heap_alloc _ _ _ (by omega), Below.heap_alloc _ _ _ (by omega), Below.heap_alloc _ _ _ (by omega), ← s0, World.alloc_heap_new]
  · show (((((w.alloc o0).alloc o1).alloc o2).alloc o3).alloc o4).heap[_]? = _
    rw [Below.heap_alloc _ _ _ (by omega), Below.heap_alloc _ _ _ (by omega), ← s1, World.alloc_heap_new]
  · show (((((w.alloc o0).alloc o1).alloc o2).alloc o3).alloc o4).heap[_]? = _
    rw [Below.heap_alloc _ _ _ (by omega), ← s2, World.alloc_heap_new]
  · show (((((w.alloc o0).alloc o1).alloc o2).alloc o3).alloc o4).heap[_]? = _
    rw [← s3, World.alloc_heap_new]
  · exact ((((((Below.refl _ w).alloc (Nat.le_refl _) o0).alloc (by omega) o1).alloc (by omega) o2).alloc (by omega) o3).alloc (by omega) o4).trans (show Below w.heap.size _ X from ⟨rfl, rfl, rfl, Nat.le_refl _, fun _ _ => rfl⟩)
theorem BtUp.alloc {w wx : World} {vB : Value} {m r h p q : Nat} {g f : Nat → Nat} (hU : BtUp w wx vB m r h p q g f) (o : Obj) : BtUp w (wx.alloc o) vB m r h p q g f := by
  have k : ∀ {b : Nat} {ob : Obj}, wx.heap[b]? = some ob → (wx.alloc o).heap[b]? = some ob := fun {b ob} hb => (Below.heap_alloc wx o b (Array.getElem?_eq_some_iff.1 hb).1).trans hb
  exact ⟨k hU.box, k hU.bp, k hU.bq, k hU.rr, k hU.rh, hU.far, hU.apart, hU.below.alloc hU.below.size _⟩
def CutN (w : World) (vA vB : Value) (m : Nat) (v0 v5 v6 : Value) (wx : World) : Prop :=
  v0 = vA ∧ ∃ r h p q : Nat, v5 = .pointer (some ⟨p, 0, none⟩) ∧ v6 = .pointer (some ⟨q, 0, none⟩) ∧ Hid (BtUp w wx vB m r h p q (fun _ => 0) (fun _ => 0))
theorem cutN_make {w wx : World} {vA vB : Value} {Z : Array Value} {m m1 r h p q : Nat} (hm1 : m + 1 = m1) (hZ : (List.replicate m1 (Value.int .u32 0)).toArray = Z) (h0 : wx.heap[w.heap.size]? = some (.cells #[vB] 22 (0, 0)))
    (hp : wx.heap[p]? = some (.cells #[.slice (some ⟨r, 0, none⟩) m1 m1] 49 (0, 0))) (hq : wx.heap[q]? = some (.cells #[.slice (some ⟨h, 0, none⟩) m1 m1] 49 (0, 0)))
    (hr : wx.heap[r]? = some (.cells Z 54 (0, 0))) (hh : wx.heap[h]? = some (.cells Z 54 (0, 0))) (far : w.heap.size < r ∧ w.heap.size < h ∧ w.heap.size < p ∧ w.heap.size < q) (apart : r ≠ h ∧ r ≠ p ∧ r ≠ q ∧ h ≠ p ∧ h ≠ q ∧ p ≠ q)
    (hb : Below w.heap.size w wx) : CutN w vA vB m vA (.pointer (some ⟨p, 0, none⟩)) (.pointer (some ⟨q, 0, none⟩)) wx := by
  subst hm1
  rw [← hZ, rowL_zero] at hr hh
  exact ⟨rfl, r, h, p, q, rfl, rfl, hid ⟨h0, hp, hq, hr, hh, far, apart, hb⟩⟩
/-- a round: the row is filled anew, and both change places -/
theorem BtUp.step {w wx w1 : World} {vB : Value} {m r h p q : Nat} {g f g' : Nat → Nat} (hU : BtUp w wx vB m r h p q g f) (hO : Only r wx w1) (hr : w1.heap[r]? = some (.cells (rowL .u32 g' (m + 1)).toArray 54 (0, 0))) :
    BtUp w ((w1.setCell ⟨p, 0, none⟩ (.slice (some ⟨h, 0, none⟩) (m + 1) (m + 1))).setCell ⟨q, 0, none⟩ (.slice (some ⟨r, 0, none⟩) (m + 1) (m + 1))) vB m h r p q f g' := by
  obtain ⟨f1, f2, f3, f4⟩ := hU.far
  obtain ⟨a1, a2, a3, a4, a5, a6⟩ := hU.apart
  have hne : ∀ b, b ≠ p → b ≠ q → ((w1.setCell ⟨p, 0, none⟩ (.slice (some ⟨h, 0, none⟩) (m + 1) (m + 1))).setCell ⟨q, 0, none⟩ (.slice (some ⟨r, 0, none⟩) (m + 1) (m + 1))).heap[b]? = w1.heap[b]? := fun b h1 h2 => (Below.heap_setCell _ _ _ _ h2).trans (Below.heap_setCell _ _ _ _ h1)
  refine ⟨?_, ?_, ?_, ?_, ?_, ⟨f2, f1, f3, f4⟩, ⟨a1.symm, a4, a5, a2, a3, a6⟩, ?_⟩
  · rw [hne _ (by omega) (by omega), hO.block _ (by omega)]
    exact hU.box
  · rw [Below.heap_setCell _ _ _ _ (show p ≠ q by omega)]
    have := blk_set (i := 0) (u := .slice (some ⟨h, 0, none⟩) (m + 1) (m + 1)) ((hO.block _ (by omega)).trans hU.bp)
    simpa using this
  · have := blk_set (i := 0) (u := .slice (some ⟨r, 0, none⟩) (m + 1) (m + 1)) ((Below.heap_setCell w1 ⟨p, 0, none⟩ (.slice (some ⟨h, 0, none⟩) (m + 1) (m + 1)) q (by show q ≠ p; omega)).trans ((hO.block _ (by omega)).trans hU.bq))
    simpa using this
  · rw [hne _ (by omega) (by omega), hO.block _ (by omega)]
    exact hU.rh
  · rw [hne _ (by omega) (by omega)]
    exact hr
  · exact ((hU.below.trans (hO.below (by omega))).setCell (by show w.heap.size ≤ p; omega) _).setCell (by show w.heap.size ≤ q; omega) _
/-- what is kept from the loop's own bookkeeping -/
theorem bt_own {B Z : Nat} {w : World} {vB : Value} {m p q : Nat} {F : Nat → Nat → Nat} (hB : w.heap.size ≤ B) : OwnFrom B (fun (k : Nat) W => ∃ r h g, Hid (BtUp w W vB m r h p q g (F k)) ∧ Hid (g m = 0 ∧ r < Z ∧ h < Z)) := fun k X Y row hs hg hr => by
  obtain ⟨r, h, g, HU, g0⟩ := hs
  have hU := HU.out
  have keep : ∀ {b : Nat} {cs : Array Value} {t : TypeId}, X.heap[b]? = some (.cells cs t (0, 0)) → Y.heap[b]? = some (.cells cs t (0, 0)) := fun {b cs t} hb => by
    refine (hg.block b (lt_of_block hb) fun e => ?_).trans hb
    obtain ⟨_, o, ho, hc⟩ := hr b e.symm
    rw [hb] at ho
    cases ho
    cases hc
  exact ⟨r, h, g, hid ⟨keep hU.box, keep hU.bp, keep hU.bq, keep hU.rr, keep hU.rh, hU.far, hU.apart, hU.below.grown hg hU.below.size (fun j e => by have := (hr j e).1; omega)⟩, g0⟩
theorem Only.others {br : Nat} {w w' : World} {cs : Array Value} {t : TypeId} {fr : Nat × Nat} (h : Only br w w') (hb : w.heap[br]? = some (.cells cs t fr)) : KeepsOthers w w' :=
  ⟨Nat.le_of_eq h.size.symm, fun k o hk ho => by
    by_cases e : k = br
    · subst e
      rw [hb] at hk
      cases hk
      cases ho
    · exact (h.block k e).trans hk⟩

theorem DBetween_any (va vb : Value) (a b : List (List UInt8)) (w : World) (ha : Sl w va (strCells a)) (hb : Sl w vb (strCells b)) (hal : a.length ≤ 1000000) (hbl : b.length ≤ 1000000) :
    Calls Try.prog 27 #[va, vb] w fun e w' => e = .returned (.int .i64 (lcs a b : Nat)) ∧ Below w.heap.size w w' := by
  obtain ⟨i0, hi0, hi1, hi2, hi3⟩ := info_parts Try.infoU32
  obtain ⟨aa, ca, rfl⟩ := ha.form
  obtain ⟨ab, cb, rfl⟩ := hb.form
  rw [strCells_length] at ha hb ⊢
  rw [strCells_length]
  refine (callsIn_wide (n := 3)).1 ?_
  refine callsIn_of_wp_marks Try.func27 rfl trivial ?_ rfl
  simp only [Try.ntmps27, List.size_toArray, List.length_cons, List.length_nil, Nat.reduceAdd, Nat.reduceSub, Array.replicate_succ, Array.replicate_zero, List.push_toArray, List.append_toArray, List.nil_append, List.cons_append]
  refine wpIn_wide.2 ?_
  have mk1 := fun (wx : World) (m : Nat) (hm : m ≤ 1000001) => run_make1 (P := Try.prog) wx 49 54 i0 (.int .u32 0) Try.underlying49 hi0 hi1 hi2 rfl m (by rw [hi3]; omega) (by omega)
  have HA := hid ha
  have HB := hid hb
  clear hi0 hi1 hi2 hi3 ha hb
  by_cases hlt : a.length < b.length
  · have hlt' : (a.length : Int) < (b.length : Int) := by omega
    have hlc : lcs a b = lcs b a := lcs_comm a b
    obtain ⟨m, hm⟩ : ∃ m, a.length = m := ⟨_, rfl⟩
    obtain ⟨n, hn⟩ : ∃ n, b.length = n := ⟨_, rfl⟩
    obtain ⟨m1, hm1⟩ : ∃ m1, m + 1 = m1 := ⟨_, rfl⟩
    have mk2 := fun wx : World => mk1 wx m1 (by omega)
    have mw : IntKind.i64.wrap ((m : Int) + 1) = (m1 : Int) := (IntWalk.i64_in _ (by omega)).trans (by omega)
    obtain ⟨Z, hZ⟩ : ∃ Z, (List.replicate m1 (Value.int .u32 0)).toArray = Z := ⟨_, rfl⟩
    rw [hZ] at mk2
    rw [hlc]
    rw [hm, hn] at hlt' ⊢
    rw [hm] at HA
    rw [hn] at HB
    have HM1 := hid hm1
    have HZ := hid hZ
    have HM := hid hm
    have HN := hid hn
    have HLB := hid (show m ≤ 1000000 ∧ n ≤ 1000000 by omega)
    clear mk1 hm1 hm hn hZ hlt hlc hal hbl
    go_upto_region 3 with fail
    have hne1 := Nat.ne_of_gt (Nat.lt_succ_self w.heap.size)
    go_cut [0, 5, 6] from 9 to 24 (fun v0 v5 v6 wx => CutN w (.slice ab n cb) (.slice aa m ca) m v0 v5 v6 wx)
    case first =>
      go_region_held3 (fun wy => wy.cell? ⟨w.heap.size, 0, none⟩ = some (.slice aa m ca)) (simp (maxDischargeDepth := 12) [*, World.cell?_alloc_some]) (fail)
      all_goals
        go_wp2_with fail
        go_meet
        apply cutN_make HM1.out HZ.out (five_new _ _ _ _ _ _).1 ?hp ?hq ?hr ?hh ?far ?apart (five_new _ _ _ _ _ _).2.2.2.2.2
        case hp => first | exact (five_new _ _ _ _ _ _).2.1 | exact (five_new _ _ _ _ _ _).2.2.1 | exact (five_new _ _ _ _ _ _).2.2.2.1 | exact (five_new _ _ _ _ _ _).2.2.2.2.1
        case hq => first | exact (five_new _ _ _ _ _ _).2.1 | exact (five_new _ _ _ _ _ _).2.2.1 | exact (five_new _ _ _ _ _ _).2.2.2.1 | exact (five_new _ _ _ _ _ _).2.2.2.2.1
        case hr => first | exact (five_new _ _ _ _ _ _).2.1 | exact (five_new _ _ _ _ _ _).2.2.1 | exact (five_new _ _ _ _ _ _).2.2.2.1 | exact (five_new _ _ _ _ _ _).2.2.2.2.1
        case hh => first | exact (five_new _ _ _ _ _ _).2.1 | exact (five_new _ _ _ _ _ _).2.2.1 | exact (five_new _ _ _ _ _ _).2.2.2.1 | exact (five_new _ _ _ _ _ _).2.2.2.2.1
        case far => omega
        case apart => omega
    case rest =>
      obtain ⟨rfl, r, h, p, q, rfl, rfl, HU⟩ := hcut
      have hzc := HU.out.below.size
      obtain ⟨q1, q2, q3, q4⟩ := HU.out.far
      have hr0 := lt_of_block HU.out.rr
      have hh0 := lt_of_block HU.out.rh
      have hp0 := lt_of_block HU.out.bp
      have hq0 := lt_of_block HU.out.bq
      go_wp2_with (go_at_call 37; refine (Back_any _ _ _ _).mono ?_; rintro e w5 ⟨rfl, rfl⟩)
      obtain ⟨w9, hw9⟩ : ∃ w9, wc.alloc (.cells #[.slice ab n cb] 22) = w9 := ⟨_, rfl⟩
      have hU9 : BtUp w w9 (.slice aa m ca) m r h p q (fun _ => 0) (fun _ => 0) := by
        rw [← hw9]
        exact HU.out.alloc _
      have hz9 : w9.heap.size = wc.heap.size + 1 := by
        rw [← hw9]
        simp
      have hc9 : w9.cell? ⟨wc.heap.size, 0, none⟩ = some (.slice ab n cb) := by
        rw [← hw9]
        exact blk_cell (i := 0) (World.alloc_heap_new wc _) rfl
      rw [hw9]
      clear HU hw9
      refine (wpIn_wide (n := 3)).1 ?_
      refine' wpIn_rounds (gf := 40) (lb := #[.pointer (some ⟨wc.heap.size, 0, none⟩)]) (N := b.length) (enc := backEnc b) (Kp := KpB w.heap.size wc.heap.size) (w0 := w9) rfl (enters_of Try.func40 (by kernel_rfl) rfl) ?seq (Below.refl _ _) (fun _ => rfl) KpB.trans ?kb
        (fun k W => ∃ r h g, Hid (BtUp w W (.slice aa m ca) m r h p q g (fun j => lcs (b.drop (b.length - k)) (a.drop j))) ∧ Hid (g m = 0 ∧ r < wc.heap.size ∧ h < wc.heap.size)) (bt_own hU9.below.size) ?start _ ?assign ?body ?done
      case seq => exact back_rounds w w9 wc.heap.size _ b HB.out hU9.below hc9 (by rw [HN.out]; exact HLB.out.2)
      case kb => exact fun W l o h1 h2 => KpB.put W o (by omega) (by omega) h2
      case start =>
        refine ⟨r, h, fun _ => 0, hid ?_, hid ⟨rfl, hr0, hh0⟩⟩
        have : (fun j => lcs (b.drop (b.length - 0)) (a.drop j)) = fun _ => 0 := by
          funext j
          rw [Nat.sub_zero, List.drop_length, lcs_nil_left]
        rw [this]
        exact hU9
      case assign =>
        intro l k W K hK
        dsimp only [backEnc]
        gi_wp2
        exact hK
      case body =>
        rintro l k W hk ⟨r, h, g, HU, HG⟩
        obtain ⟨f1, f2, f3, f4⟩ := HU.out.far
        obtain ⟨a1, a2, a3, a4, a5, a6⟩ := HU.out.apart
        obtain ⟨x, hx⟩ : ∃ x, b[b.length - 1 - k]? = some x := ⟨_, List.getElem?_eq_getElem (by omega)⟩
        rw [hx, Option.getD_some]
        have hA' : b.drop (b.length - (k + 1)) = x :: b.drop (b.length - k) := by
          obtain ⟨e1, e2⟩ := List.getElem?_eq_some_iff.1 hx
          rw [show b.length - (k + 1) = b.length - 1 - k by omega, List.drop_eq_getElem_cons e1, e2, show b.length - 1 - k + 1 = b.length - k by omega]
        have HST := hid (steps_lcs x (b.drop (b.length - k)) a)
        rw [← hA'] at HST
        obtain ⟨F, hF⟩ : ∃ F : Nat → Nat, F = fun j => lcs (b.drop (b.length - k)) (a.drop j) := ⟨_, rfl⟩
        obtain ⟨G, hG⟩ : ∃ G : Nat → Nat, G = fun j => lcs (b.drop (b.length - (k + 1))) (a.drop j) := ⟨_, rfl⟩
        have HF1 := hid (show ∀ j, F j ≤ 1000000 from fun j => by
          rw [hF]
          have := (lcs_le (b.drop (b.length - k)) (a.drop j)).1
          have h1 := HLB.out.2
          have h2 := HN.out
          rw [List.length_drop] at this
          show lcs _ _ ≤ 1000000
          omega)
        have HG1 := hid (show ∀ j, G j ≤ 1000000 from fun j => by
          rw [hG]
          have := (lcs_le (b.drop (b.length - (k + 1))) (a.drop j)).1
          have h1 := HLB.out.2
          have h2 := HN.out
          rw [List.length_drop] at this
          show lcs _ _ ≤ 1000000
          omega)
        have HF0 := hid (show F m = 0 by
          rw [hF]
          show lcs _ (a.drop m) = 0
          rw [List.drop_of_length_le (l := a) (Nat.le_of_eq HM.out), lcs_nil_right])
        rw [← hF, ← hG] at HST
        rw [← hF] at HU
        have HGE := hid hG
        have ckb := blk_cell (i := 0) HU.out.box rfl
        have ckp := blk_cell (i := 0) HU.out.bp rfl
        have ckq := blk_cell (i := 0) HU.out.bq rfl
        clear hx hA' hF hG
        gi_wp2_with (refine ⟨trivial, ?_⟩; gi_at_call 38; refine (CallsIn.inRound l (callsIn_wide.2 (fill32_any w r h m x (.slice aa m ca) a G F g W HM.out (by have := HLB.out.1; omega) HA.out HU.out.below (by omega) (by omega) HU.out.rr HG.out.1 HU.out.rh HST.out HF1.out HG1.out))).mono ?_; rintro e w6 ⟨⟨v, rfl⟩, hO, hr6⟩; have c6p := blk_cell (i := 0) ((hO.block p (by omega)).trans HU.out.bp) rfl; have c6q := blk_cell (i := 0) ((hO.block q (by omega)).trans HU.out.bq) rfl; have z6p := blk_free (i := 0) ((hO.block p (by omega)).trans HU.out.bp); have z6q := blk_free (i := 0) ((hO.block q (by omega)).trans HU.out.bq); have HO6 := hid hO; have HR6 := hid hr6; clear hO hr6)
        refine ⟨(((Only.others HO6.out HU.out.rr).trans (KeepsOthers.setCell _ _ _)).trans (KeepsOthers.setCell _ _ _)).from _, ⟨((HO6.out.below (by omega)).setCell (by show w.heap.size ≤ p; omega) _).setCell (by show w.heap.size ≤ q; omega) _, ?_⟩, h, r, F, ?_, hid ⟨HF0.out, HG.out.2.2, HG.out.2.1⟩⟩
        · exact ((Below.heap_setCell _ _ _ _ (by show wc.heap.size ≠ q; omega)).trans (Below.heap_setCell _ _ _ _ (by show wc.heap.size ≠ p; omega))).trans (HO6.out.block _ (by have := HG.out.2.1; omega))
        · have hs := HU.out.step HO6.out HR6.out
          rw [HGE.out] at hs
          exact hid hs
      case done =>
        rintro D W hD ⟨r, h, g, HU, HG⟩ hK
        have ckq := blk_cell (i := 0) HU.out.bq rfl
        have ckh := blk_cell (i := 0) HU.out.rh (by rw [List.getElem?_toArray]; exact rowL_at (by omega))
        have HV : lcs (b.drop (b.length - b.length)) (a.drop 0) = lcs b a := by
          rw [Nat.sub_self, List.drop_zero, List.drop_zero]
        have hle := (lcs_le b a).1
        rw [HV] at ckh
        obtain ⟨V, hV⟩ : ∃ V, lcs b a = V := ⟨_, rfl⟩
        rw [HN.out] at hle
        rw [hV] at ckh hle
        have HVE := hid hV
        have hl1 := HLB.out.2
        have vw : IntKind.i64.wrap (V : Int) = (V : Int) := IntWalk.i64_in _ (by omega)
        have p0 : (0 : Int) < ((m : Int) + 1) := by omega
        clear hle hV HV
        dsimp only
        go_wp2_with fail
        refine ⟨by simp, .inl ⟨_, _, rfl, run_takeDeferred hK, ?_⟩⟩
        exact ⟨_, results_tmp rfl _ _ _, (by rw [HVE.out]; rfl), HU.out.below.trans (belowK_b (w := w) (Nat.le_refl _) W D _ _ (by have := hU9.below.size; omega) hK rfl rfl)⟩
  · have hlt' : ¬ (a.length : Int) < (b.length : Int) := by omega
    have hlc : lcs a b = lcs a b := rfl
    obtain ⟨m, hm⟩ : ∃ m, b.length = m := ⟨_, rfl⟩
    obtain ⟨n, hn⟩ : ∃ n, a.length = n := ⟨_, rfl⟩
    obtain ⟨m1, hm1⟩ : ∃ m1, m + 1 = m1 := ⟨_, rfl⟩
    have mk2 := fun wx : World => mk1 wx m1 (by omega)
    have mw : IntKind.i64.wrap ((m : Int) + 1) = (m1 : Int) := (IntWalk.i64_in _ (by omega)).trans (by omega)
    obtain ⟨Z, hZ⟩ : ∃ Z, (List.replicate m1 (Value.int .u32 0)).toArray = Z := ⟨_, rfl⟩
    rw [hZ] at mk2
    rw [hlc]
    rw [hm, hn] at hlt' ⊢
    rw [hm] at HB
    rw [hn] at HA
    have HM1 := hid hm1
    have HZ := hid hZ
    have HM := hid hm
    have HN := hid hn
    have HLB := hid (show m ≤ 1000000 ∧ n ≤ 1000000 by omega)
    clear mk1 hm1 hm hn hZ hlt hlc hal hbl
    go_upto_region 3 with fail
    have hne1 := Nat.ne_of_gt (Nat.lt_succ_self w.heap.size)
    go_cut [0, 5, 6] from 9 to 24 (fun v0 v5 v6 wx => CutN w (.slice aa n ca) (.slice ab m cb) m v0 v5 v6 wx)
    case first =>
      go_region_held3 (fun wy => wy.cell? ⟨w.heap.size, 0, none⟩ = some (.slice ab m cb)) (simp (maxDischargeDepth := 12) [*, World.cell?_alloc_some]) (fail)
      all_goals
        go_wp2_with fail
        go_meet
        apply cutN_make HM1.out HZ.out (five_new _ _ _ _ _ _).1 ?hp ?hq ?hr ?hh ?far ?apart (five_new _ _ _ _ _ _).2.2.2.2.2
        case hp => first | exact (five_new _ _ _ _ _ _).2.1 | exact (five_new _ _ _ _ _ _).2.2.1 | exact (five_new _ _ _ _ _ _).2.2.2.1 | exact (five_new _ _ _ _ _ _).2.2.2.2.1
        case hq => first | exact (five_new _ _ _ _ _ _).2.1 | exact (five_new _ _ _ _ _ _).2.2.1 | exact (five_new _ _ _ _ _ _).2.2.2.1 | exact (five_new _ _ _ _ _ _).2.2.2.2.1
        case hr => first | exact (five_new _ _ _ _ _ _).2.1 | exact (five_new _ _ _ _ _ _).2.2.1 | exact (five_new _ _ _ _ _ _).2.2.2.1 | exact (five_new _ _ _ _ _ _).2.2.2.2.1
        case hh => first | exact (five_new _ _ _ _ _ _).2.1 | exact (five_new _ _ _ _ _ _).2.2.1 | exact (five_new _ _ _ _ _ _).2.2.2.1 | exact (five_new _ _ _ _ _ _).2.2.2.2.1
        case far => omega
        case apart => omega
    case rest =>
      obtain ⟨rfl, r, h, p, q, rfl, rfl, HU⟩ := hcut
      have hzc := HU.out.below.size
      obtain ⟨q1, q2, q3, q4⟩ := HU.out.far
      have hr0 := lt_of_block HU.out.rr
      have hh0 := lt_of_block HU.out.rh
      have hp0 := lt_of_block HU.out.bp
      have hq0 := lt_of_block HU.out.bq
      go_wp2_with (go_at_call 37; refine (Back_any _ _ _ _).mono ?_; rintro e w5 ⟨rfl, rfl⟩)
      obtain ⟨w9, hw9⟩ : ∃ w9, wc.alloc (.cells #[.slice aa n ca] 22) = w9 := ⟨_, rfl⟩
      have hU9 : BtUp w w9 (.slice ab m cb) m r h p q (fun _ => 0) (fun _ => 0) := by
        rw [← hw9]
        exact HU.out.alloc _
      have hz9 : w9.heap.size = wc.heap.size + 1 := by
        rw [← hw9]
        simp
      have hc9 : w9.cell? ⟨wc.heap.size, 0, none⟩ = some (.slice aa n ca) := by
        rw [← hw9]
        exact blk_cell (i := 0) (World.alloc_heap_new wc _) rfl
      rw [hw9]
      clear HU hw9
      refine (wpIn_wide (n := 3)).1 ?_
      refine' wpIn_rounds (gf := 40) (lb := #[.pointer (some ⟨wc.heap.size, 0, none⟩)]) (N := a.length) (enc := backEnc a) (Kp := KpB w.heap.size wc.heap.size) (w0 := w9) rfl (enters_of Try.func40 (by kernel_rfl) rfl) ?seq (Below.refl _ _) (fun _ => rfl) KpB.trans ?kb
        (fun k W => ∃ r h g, Hid (BtUp w W (.slice ab m cb) m r h p q g (fun j => lcs (a.drop (a.length - k)) (b.drop j))) ∧ Hid (g m = 0 ∧ r < wc.heap.size ∧ h < wc.heap.size)) (bt_own hU9.below.size) ?start _ ?assign ?body ?done
      case seq => exact back_rounds w w9 wc.heap.size _ a HA.out hU9.below hc9 (by rw [HN.out]; exact HLB.out.2)
      case kb => exact fun W l o h1 h2 => KpB.put W o (by omega) (by omega) h2
      case start =>
        refine ⟨r, h, fun _ => 0, hid ?_, hid ⟨rfl, hr0, hh0⟩⟩
        have : (fun j => lcs (a.drop (a.length - 0)) (b.drop j)) = fun _ => 0 := by
          funext j
          rw [Nat.sub_zero, List.drop_length, lcs_nil_left]
        rw [this]
        exact hU9
      case assign =>
        intro l k W K hK
        dsimp only [backEnc]
        gi_wp2
        exact hK
      case body =>
        rintro l k W hk ⟨r, h, g, HU, HG⟩
        obtain ⟨f1, f2, f3, f4⟩ := HU.out.far
        obtain ⟨a1, a2, a3, a4, a5, a6⟩ := HU.out.apart
        obtain ⟨x, hx⟩ : ∃ x, a[a.length - 1 - k]? = some x := ⟨_, List.getElem?_eq_getElem (by omega)⟩
        rw [hx, Option.getD_some]
        have hA' : a.drop (a.length - (k + 1)) = x :: a.drop (a.length - k) := by
          obtain ⟨e1, e2⟩ := List.getElem?_eq_some_iff.1 hx
          rw [show a.length - (k + 1) = a.length - 1 - k by omega, List.drop_eq_getElem_cons e1, e2, show a.length - 1 - k + 1 = a.length - k by omega]
        have HST := hid (steps_lcs x (a.drop (a.length - k)) b)
        rw [← hA'] at HST
        obtain ⟨F, hF⟩ : ∃ F : Nat → Nat, F = fun j => lcs (a.drop (a.length - k)) (b.drop j) := ⟨_, rfl⟩
        obtain ⟨G, hG⟩ : ∃ G : Nat → Nat, G = fun j => lcs (a.drop (a.length - (k + 1))) (b.drop j) := ⟨_, rfl⟩
        have HF1 := hid (show ∀ j, F j ≤ 1000000 from fun j => by
          rw [hF]
          have := (lcs_le (a.drop (a.length - k)) (b.drop j)).1
          have h1 := HLB.out.2
          have h2 := HN.out
          rw [List.length_drop] at this
          show lcs _ _ ≤ 1000000
          omega)
        have HG1 := hid (show ∀ j, G j ≤ 1000000 from fun j => by
          rw [hG]
          have := (lcs_le (a.drop (a.length - (k + 1))) (b.drop j)).1
          have h1 := HLB.out.2
          have h2 := HN.out
          rw [List.length_drop] at this
          show lcs _ _ ≤ 1000000
          omega)
        have HF0 := hid (show F m = 0 by
          rw [hF]
          show lcs _ (b.drop m) = 0
          rw [List.drop_of_length_le (l := b) (Nat.le_of_eq HM.out), lcs_nil_right])
        rw [← hF, ← hG] at HST
        rw [← hF] at HU
        have HGE := hid hG
        have ckb := blk_cell (i := 0) HU.out.box rfl
        have ckp := blk_cell (i := 0) HU.out.bp rfl
        have ckq := blk_cell (i := 0) HU.out.bq rfl
        clear hx hA' hF hG
        gi_wp2_with (refine ⟨trivial, ?_⟩; gi_at_call 38; refine (CallsIn.inRound l (callsIn_wide.2 (fill32_any w r h m x (.slice ab m cb) b G F g W HM.out (by have := HLB.out.1; omega) HB.out HU.out.below (by omega) (by omega) HU.out.rr HG.out.1 HU.out.rh HST.out HF1.out HG1.out))).mono ?_; rintro e w6 ⟨⟨v, rfl⟩, hO, hr6⟩; have c6p := blk_cell (i := 0) ((hO.block p (by omega)).trans HU.out.bp) rfl; have c6q := blk_cell (i := 0) ((hO.block q (by omega)).trans HU.out.bq) rfl; have z6p := blk_free (i := 0) ((hO.block p (by omega)).trans HU.out.bp); have z6q := blk_free (i := 0) ((hO.block q (by omega)).trans HU.out.bq); have HO6 := hid hO; have HR6 := hid hr6; clear hO hr6)
        refine ⟨(((Only.others HO6.out HU.out.rr).trans (KeepsOthers.setCell _ _ _)).trans (KeepsOthers.setCell _ _ _)).from _, ⟨((HO6.out.below (by omega)).setCell (by show w.heap.size ≤ p; omega) _).setCell (by show w.heap.size ≤ q; omega) _, ?_⟩, h, r, F, ?_, hid ⟨HF0.out, HG.out.2.2, HG.out.2.1⟩⟩
        · exact ((Below.heap_setCell _ _ _ _ (by show wc.heap.size ≠ q; omega)).trans (Below.heap_setCell _ _ _ _ (by show wc.heap.size ≠ p; omega))).trans (HO6.out.block _ (by have := HG.out.2.1; omega))
        · have hs := HU.out.step HO6.out HR6.out
          rw [HGE.out] at hs
          exact hid hs
      case done =>
        rintro D W hD ⟨r, h, g, HU, HG⟩ hK
        have ckq := blk_cell (i := 0) HU.out.bq rfl
        have ckh := blk_cell (i := 0) HU.out.rh (by rw [List.getElem?_toArray]; exact rowL_at (by omega))
        have HV : lcs (a.drop (a.length - a.length)) (b.drop 0) = lcs a b := by
          rw [Nat.sub_self, List.drop_zero, List.drop_zero]
        have hle := (lcs_le a b).1
        rw [HV] at ckh
        obtain ⟨V, hV⟩ : ∃ V, lcs a b = V := ⟨_, rfl⟩
        rw [HN.out] at hle
        rw [hV] at ckh hle
        have HVE := hid hV
        have hl1 := HLB.out.2
        have vw : IntKind.i64.wrap (V : Int) = (V : Int) := IntWalk.i64_in _ (by omega)
        have p0 : (0 : Int) < ((m : Int) + 1) := by omega
        clear hle hV HV
        dsimp only
        go_wp2_with fail
        refine ⟨by simp, .inl ⟨_, _, rfl, run_takeDeferred hK, ?_⟩⟩
        exact ⟨_, results_tmp rfl _ _ _, (by rw [HVE.out]; rfl), HU.out.below.trans (belowK_b (w := w) (Nat.le_refl _) W D _ _ (by have := hU9.below.size; omega) hK rfl rfl)⟩
end
end Go.Proofs.Ytiieomikpcjihaa

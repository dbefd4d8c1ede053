/-
  TmDe, part 18.
-/
import Derived.Test.YtbnafihigoekeaaGreatDoorZe16
import Derived.Test.YtbnafihigoekeaaGreatDoorZe17
namespace Go.Proofs.YtbnafihigoekeaaGreatDoor
open Go.RowKit
structure Of9 (w w1 : World) (T : Array Value) (d1 d2 d3 : Nat) (wx : World) : Prop where
  below : Below w.heap.size w wx
  size : w1.heap.size ≤ wx.heap.size
  old : ∀ k, k < w1.heap.size → k ≠ w.heap.size + 1 → wx.heap[k]? = w1.heap[k]?
  tx : wx.heap[w.heap.size]? = some (.cells T 162 (0, 0))
  dn : wx.heap[w.heap.size + 1]? = some (.cells #[.int .i64 d1, .int .i64 d2, .int .i64 d3] 164 (0, 0))
  big : w.heap.size + 1 < w1.heap.size
theorem Of9.step {w w1 wx w' : World} {T : Array Value} {d1 d2 d3 : Nat} (h : Of9 w w1 T d1 d2 d3 wx) (k : Below w1.heap.size wx w') : Of9 w w1 T d1 d2 d3 w' :=
  ⟨h.below.trans (k.mono (by have := h.big; omega)), Nat.le_trans h.size k.size, fun j hj hne => (k.block j hj).trans (h.old j hj hne), (k.block _ (by have := h.big; omega)).trans h.tx, (k.block _ h.big).trans h.dn, h.big⟩
theorem Of9.put {w w1 wx w' : World} {T : Array Value} {d1 d2 d3 f1 f2 f3 : Nat} (h : Of9 w w1 T d1 d2 d3 wx) (k : Keep (· = w.heap.size + 1) wx w') (hd : w'.heap[w.heap.size + 1]? = some (.cells #[.int .i64 f1, .int .i64 f2, .int .i64 f3] 164 (0, 0))) : Of9 w w1 T f1 f2 f3 w' :=
  ⟨h.below.trans (k.below h.below.size (fun j hj e => by omega)), Nat.le_trans h.size k.size, fun j hj hne => (k.block j (Nat.lt_of_lt_of_le hj h.size) hne).trans (h.old j hj hne), (k.block _ (by have := h.big; have := h.size; omega) (by omega)).trans h.tx, hd, h.big⟩
theorem Of9.runs {w w1 wx : World} {T : Array Value} {d1 d2 d3 : Nat} {u : Value} {rs : List Rn} (h : Of9 w w1 T d1 d2 d3 wx) (ho : OwnRn w1 (w.heap.size + 1 + 1) u rs) : OwnRn wx (w.heap.size + 1 + 1) u rs :=
  owns_kept ho fun g hg hl => h.old g hl (by have := (World.ownsRow.lt ho g hg).1; omega)
section
variable {α : Type} [DecidableEq α]
theorem gap_ne {a b c : List α} {d1 d2 d3 f1 f2 f3 : Nat} (h1 : d1 ≤ f1) (h2 : d2 ≤ f2) (h3 : d3 ≤ f3) (e1 : f1 ≤ a.length) (e2 : f2 ≤ b.length) (e3 : f3 ≤ c.length) (hne : (f1, f2, f3) ≠ (d1, d2, d3)) :
    gapCk (cutL a d1 f1) (cutL b d2 f2) (cutL c d3 f3) = [(kindOf (cutL a d1 f1) (cutL b d2 f2) (cutL c d3 f3), cutL a d1 f1, cutL b d2 f2, cutL c d3 f3)] := by
  rw [gapCk, if_neg]
  rintro ⟨q1, q2, q3⟩
  apply hne
  have g1 : f1 = d1 := by
    apply Classical.byContradiction
    intro h
    exact cutL_ne (l := a) (by omega) e1 q1
  have g2 : f2 = d2 := by
    apply Classical.byContradiction
    intro h
    exact cutL_ne (l := b) (by omega) e2 q2
  have g3 : f3 = d3 := by
    apply Classical.byContradiction
    intro h
    exact cutL_ne (l := c) (by omega) e3 q3
  rw [g1, g2, g3]
end
theorem nestL_put {w w' : World} {p d1 d2 d3 : Nat} {t : TypeId} {v u : Value} {xs : List (List UInt8)} (h : NestL w v u xs) (hk : Keep (· = p) w w') (hd : w.heap[p]? = some (.cells #[.int .i64 d1, .int .i64 d2, .int .i64 d3] t (0, 0))) : NestL w' v u xs := by
  by_cases hx : xs = []
  · subst hx
    obtain ⟨ao, cap, rfl, h1, h2, _⟩ := h.1
    exact ⟨⟨ao, cap, rfl, fun _ => rfl, h2, fun a _ j x hx => by simp [strCells] at hx⟩, fun h => absurd rfl h⟩
  · have hn := h.2 hx
    have hne : ∀ a n c, u = .slice (some a) n c → a.block ≠ p := fun a n c e hp => by
      subst e
      obtain ⟨ao, cap, hv, h1, h2, hc⟩ := h.1
      cases hv
      cases xs with
      | nil => exact hx rfl
      | cons x l =>
        have := hc a rfl 0 (strV x) (by simp [strCells])
        obtain ⟨bl, off, sp⟩ := a
        simp only at hp
        subst hp
        rw [show (⟨bl, off, sp⟩ : Addr).add 0 = ⟨bl, off, sp⟩ from rfl] at this
        have hsp : sp = none := World.cell?_spot this
        subst hsp
        simp only [World.cell?, hd] at this
        match off, this with
        | 0, h => simp [strV] at h
        | 1, h => simp [strV] at h
        | 2, h => simp [strV] at h
        | n + 3, h => simp at h
    have hs : Sl w' u (strCells xs) := h.1.kept fun a n c e hlt => hk.block _ hlt (hne a n c e)
    exact Nest.toL ⟨hs, fun a n c e => ⟨Nat.lt_of_lt_of_le (hn.2 a n c e).1 hk.size, (hn.2 a n c e).2⟩⟩
theorem ownCk_put {w w' : World} {base p d1 d2 d3 : Nat} {v : Value} {cs : List CkS} (h : OwnCk w base v cs) (hk : Keep (· = p) w w') (hp : p < base) (hd : w.heap[p]? = some (.cells #[.int .i64 d1, .int .i64 d2, .int .i64 d3] 164 (0, 0))) : OwnCk w' base v cs := by
  obtain ⟨flat, h1, h2⟩ := h
  refine ⟨flat, owns_kept h1 fun g hg hl => hk.block g hl (by have := (h1.lt g hg).1; omega), fun i x hx => ?_⟩
  obtain ⟨vb, vo, vt, e1, e2, e3, e4, n1, n2, n3⟩ := h2 i x hx
  exact ⟨vb, vo, vt, e1, e2, e3, e4, nestL_put n1 hk hd, nestL_put n2 hk hd, nestL_put n3 hk hd⟩
theorem own_ne {w : World} {base g : Nat} {v : Value} {cs : List CkS} {x : Array Value} (h : OwnCk w base v cs) (hg : w.heap[g]? = some (.cells x 168 (0, 0))) : v.ownBlock ≠ some g := by
  intro e
  obtain ⟨flat, h1, _⟩ := h
  rcases h1.2 with ⟨rfl, _⟩ | ⟨g', cap, cur, rfl, r1, r2, r3⟩
  · cases e
  · cases e
    simp only [r2] at hg
    simp at hg
section
set_option maxRecDepth 100000
set_option maxHeartbeats 2000000
theorem DOf_any (va vb vc : Value) (a b c : List (List UInt8)) (w : World) (ha : Sl w va (strCells a)) (hb : Sl w vb (strCells b)) (hc : Sl w vc (strCells c)) (la : a.length ≤ 3000) (lb : b.length ≤ 3000) (lc : c.length ≤ 3000) :
    Calls Tryz.prog 93 #[va, vb, vc] w fun e w' => ∃ u, e = .returned u ∧ SlC w' u (chunksS a b c) ∧ Below w.heap.size w w' := by
  obtain ⟨HCR, HROK⟩ := chunks_runs a b c
  obtain ⟨aa, ca, rfl⟩ := ha.form
  obtain ⟨ab, cb, rfl⟩ := hb.form
  obtain ⟨ac, cc, rfl⟩ := hc.form
  rw [strCells_length] at ha hb hc ⊢
  rw [strCells_length, strCells_length]
  have B0 : Below w.heap.size w ((w.alloc (.cells #[.slice aa a.length ca, .slice ab b.length cb, .slice ac c.length cc] 162)).alloc (.cells #[.int .i64 0, .int .i64 0, .int .i64 0] 164)) := ((Below.refl _ w).alloc (Nat.le_refl _) _).alloc (by simp) _
  have HRS := hid (DRuns_any _ _ _ a b c _ (Sl.old ha B0) (Sl.old hb B0) (Sl.old hc B0) la lb lc)
  obtain ⟨rs, hrs⟩ : ∃ rs, runsUp 0 [] (placesS a b) (placesS a c) = rs := ⟨_, rfl⟩
  rw [hrs] at HRS HCR HROK
  obtain ⟨Z, hZ⟩ : ∃ Z, chunksS a b c = Z := ⟨_, rfl⟩
  rw [hZ] at HCR ⊢
  have HZ := hid HCR
  have HRO := hid HROK
  have HA := hid ha
  have HB := hid hb
  have HC := hid hc
  have HL := hid (And.intro la (And.intro lb lc))
  have HB0 := hid B0
  have htx : ((w.alloc (.cells #[.slice aa a.length ca, .slice ab b.length cb, .slice ac c.length cc] 162)).alloc (.cells #[.int .i64 0, .int .i64 0, .int .i64 0] 164)).heap[w.heap.size]? = some (.cells #[.slice aa a.length ca, .slice ab b.length cb, .slice ac c.length cc] 162 (0, 0)) := (Below.heap_alloc _ _ _ (by simp)).trans (heap_alloc_new w _)
  have hdn : ((w.alloc (.cells #[.slice aa a.length ca, .slice ab b.length cb, .slice ac c.length cc] 162)).alloc (.cells #[.int .i64 0, .int .i64 0, .int .i64 0] 164)).heap[w.heap.size + 1]? = some (.cells #[.int .i64 0, .int .i64 0, .int .i64 0] 164 (0, 0)) := by simpa using heap_alloc_new (w.alloc (.cells #[.slice aa a.length ca, .slice ab b.length cb, .slice ac c.length cc] 162)) (.cells #[.int .i64 0, .int .i64 0, .int .i64 0] 164)
  have hsz : ((w.alloc (.cells #[.slice aa a.length ca, .slice ab b.length cb, .slice ac c.length cc] 162)).alloc (.cells #[.int .i64 0, .int .i64 0, .int .i64 0] 164)).heap.size = w.heap.size + 1 + 1 := by simp
  have HTX := hid htx
  have HDN := hid hdn
  have HSZ := hid hsz
  have t0 := blk_cell (i := 0) htx rfl
  have t1 := blk_cell (i := 1) htx rfl
  have t2 := blk_cell (i := 2) htx rfl
  clear ha hb hc la lb lc hrs hZ HCR HROK B0 htx hdn hsz
  go_enter Tryz.func93, Tryz.ntmps93
  go_wp2_with (first
    | (go_at_call 122; refine HRS.out.mono ?_; rintro e w1 ⟨u, rfl, hO1, hrl, hb1⟩
       obtain ⟨uo, uc, rfl⟩ := hO1.form
       have HU := hid (show OwnRn w1 (w.heap.size + 1 + 1) _ rs from HSZ.out ▸ hO1)
       have HRL := hid hrl
       have H9 := hid (show Of9 w w1 #[.slice aa a.length ca, .slice ab b.length cb, .slice ac c.length cc] 0 0 0 w1 from ⟨below_step HB0.out hb1 HB0.out.size, Nat.le_refl _, fun _ _ _ => rfl, (hb1.block _ (by rw [HSZ.out]; omega)).trans HTX.out, (hb1.block _ (by rw [HSZ.out]; omega)).trans HDN.out, by have h1 := hb1.size; have h2 := HSZ.out; omega⟩)
       clear hO1 hrl hb1))
  clear HRS HTX HDN HB0 HSZ t0 t1 t2
  go_loopg [8, 21] rs.length (fun gh l i wx => ∃ (k : Nat) (cs : List CkS) (d1 d2 d3 : Nat), k ≤ rs.length ∧ gh = rs.length - k ∧ i = .int .i64 k ∧ Hid (Z = cs ++ ofRuns a b c (d1, d2, d3) (rs.drop k)) ∧ Hid (RunsOk (a.length, b.length, c.length) (d1, d2, d3) (rs.drop k)) ∧ Hid (OwnCk wx w1.heap.size l cs) ∧ Hid (cs.length ≤ 2 * k) ∧ Hid (Of9 w w1 #[.slice aa a.length ca, .slice ab b.length cb, .slice ac c.length cc] d1 d2 d3 wx))
  case atStart => exact ⟨0, [], 0, 0, 0, Nat.zero_le _, rfl, rfl, hid (by rw [List.drop_zero, HZ.out]; rfl), hid (by rw [List.drop_zero]; exact HRO.out), hid (OwnCk.nil _ _), hid (Nat.zero_le _), H9⟩
  case round =>
    obtain ⟨k, cs, d1, d2, d3, hk, rfl, rfl, HE, HR, HO, HCL, HW⟩ := hrel
    clear H9
    have k0 : (0 : Int) ≤ (k : Int) := Int.natCast_nonneg _
    obtain ⟨lo, lcap, rfl⟩ := HO.out.form
    by_cases hlt : k < rs.length
    · have k1 : (k : Int) < (rs.length : Int) := by omega
      have kw : IntKind.i64.wrap ((k : Int) + 1) = (k : Int) + 1 := IntWalk.i64_in _ (by have h1 := HRL.out; have h2 := HL.out; omega)
      obtain ⟨g, f1, f2, f3, t1, t2, t3, rfl, he, e0, e1, e2, e3, e4, e5⟩ := (HW.out.runs HU.out).sl.at' (i := k) hlt
      have hdr : rs.drop k = ((f1, f2, f3), (t1, t2, t3)) :: rs.drop (k + 1) := by
        obtain ⟨q, e⟩ := List.getElem?_eq_some_iff.1 he
        rw [List.drop_eq_getElem_cons q, e]
      have hr := HR.out
      rw [hdr] at hr
      obtain ⟨⟨r1, r2, r3⟩, ⟨s1, s2, s3⟩, ⟨u1, u2, u3⟩, hr'⟩ := hr
      simp only at r1 r2 r3 s1 s2 s3 u1 u2 u3
      have HR2 := hid hr'
      have he2 := HE.out
      rw [hdr, ofRuns] at he2
      simp only at he2
      have HE2 := hid he2
      have HORD := hid (And.intro (And.intro r1 (And.intro r2 r3)) (And.intro (And.intro s1 (And.intro s2 s3)) (And.intro u1 (And.intro u2 u3))))
      clear he hdr hr' he2 r1 r2 r3 s1 s2 s3 u1 u2 u3 HE HR
      have HWA := hid (HW.out.step ((Below.refl w1.heap.size wr).alloc HW.out.size (.cells #[.int .i64 f1, .int .i64 f2, .int .i64 f3, .int .i64 t1, .int .i64 t2, .int .i64 t3] 168)))
      have HOA := hid (HO.out.old ((Below.refl wr.heap.size wr).alloc (Nat.le_refl _) (.cells #[.int .i64 f1, .int .i64 f2, .int .i64 f3, .int .i64 t1, .int .i64 t2, .int .i64 t3] 168)))
      have HRA := hid (heap_alloc_new wr (.cells #[.int .i64 f1, .int .i64 f2, .int .i64 f3, .int .i64 t1, .int .i64 t2, .int .i64 t3] 168))
      have HSA := hid (show wr.heap.size < (wr.alloc (.cells #[.int .i64 f1, .int .i64 f2, .int .i64 f3, .int .i64 t1, .int .i64 t2, .int .i64 t3] 168)).heap.size by simp)
      have HLO := hid (show ∀ j, (Value.slice lo cs.length lcap).ownBlock = some j → j < wr.heap.size from fun j hj => (HO.out.lt j hj).2)
      have HWS := hid HW.out.size
      by_cases hd : (f1, f2, f3) = (d1, d2, d3)
      · obtain ⟨rfl, rfl, rfl⟩ : f1 = d1 ∧ f2 = d2 ∧ f3 = d3 := ⟨congrArg Prod.fst hd, congrArg (fun x => x.2.1) hd, congrArg (fun x => x.2.2) hd⟩
        clear hd
        have HE3 := hid (show Z = (cs ++ [(1, cutL a f1 t1, cutL b f2 t2, cutL c f3 t3)]) ++ ofRuns a b c (t1, t2, t3) (rs.drop (k + 1)) by
          rw [HE2.out, cutL_nil, cutL_nil, cutL_nil, gapCk_nil, List.nil_append, List.append_assoc]
          rfl)
        have HPC := hid (DPiece_any 1 _ _ _ a b c f1 f2 f3 t1 t2 t3 _ (Sl.old HA.out HWA.out.below) (Sl.old HB.out HWA.out.below) (Sl.old HC.out HWA.out.below) (by have := HL.out; omega) (by have := HL.out; omega) (by have := HL.out; omega) HORD.out.2.1.1 HORD.out.2.2.1 HORD.out.2.1.2.1 HORD.out.2.2.2.1 HORD.out.2.1.2.2 HORD.out.2.2.2.2)
        have kt0 := blk_cell (i := 0) HWA.out.tx rfl
        have kt1 := blk_cell (i := 1) HWA.out.tx rfl
        have kt2 := blk_cell (i := 2) HWA.out.tx rfl
        have kd0 := blk_cell (i := 0) HWA.out.dn rfl
        have kd1 := blk_cell (i := 1) HWA.out.dn rfl
        have kd2 := blk_cell (i := 2) HWA.out.dn rfl
        have kr0 := blk_cell (i := 0) HRA.out rfl
        have kr1 := blk_cell (i := 1) HRA.out rfl
        have kr2 := blk_cell (i := 2) HRA.out rfl
        have kr3 := blk_cell (i := 3) HRA.out rfl
        have kr4 := blk_cell (i := 4) HRA.out rfl
        have kr5 := blk_cell (i := 5) HRA.out rfl
        go_wp2_with (first
          | (go_at_call 124; refine HPC.out.mono ?_; rintro e w3 ⟨ua, ub, uc, rfl, hT3, hb3⟩
             obtain ⟨xa, ya, rfl⟩ := owns_form hT3.1
             obtain ⟨xb, yb, rfl⟩ := owns_form hT3.2.1
             obtain ⟨xc, yc, rfl⟩ := owns_form hT3.2.2
             have HT3 := hid hT3
             have HW3 := hid (HWA.out.step (hb3.mono HWA.out.size))
             have HO3 := hid (HOA.out.old hb3)
             have HR3 := hid ((hb3.block _ HSA.out).trans HRA.out)
             have HZ3 := hid (Nat.lt_of_lt_of_le HSA.out hb3.size)
             clear hT3 hb3)
          | (refine wpList_append_ck rfl (.tmp 37) (.tmp 44) rfl w1.heap.size _ cs 1 (cutL a f1 t1) (cutL b f2 t2) (cutL c f3 t3) _ _ _ rfl HO3.out (nestL_own HT3.out.1 (fun j hj => Nat.lt_trans (HLO.out j hj) HSA.out)) (nestL_own HT3.out.2.1 (fun j hj => Nat.lt_trans (HLO.out j hj) HSA.out)) (nestL_own HT3.out.2.2 (fun j hj => Nat.lt_trans (HLO.out j hj) HSA.out)) rfl rfl rfl rfl (by have h1 := HCL.out; have h2 := HRL.out; have h3 := HL.out; omega) HW3.out.size ?_; intro v4 w4 hO4 hb4 hk4
             have HO4 := hid hO4
             have HW4 := hid (HW3.out.step hb4)
             have hr4 := (hk4 _ HZ3.out (fun e => Nat.lt_irrefl _ (HLO.out _ e))).trans HR3.out
             have HR4 := hid hr4
             have m3 := blk_cell (i := 3) hr4 rfl
             have m4 := blk_cell (i := 4) hr4 rfl
             have m5 := blk_cell (i := 5) hr4 rfl
             clear hO4 hb4 hk4 hr4)
          | (refine wpList_store_whole rfl 164 _ _ rfl (w.heap.size + 1) #[.int .i64 t1, .int .i64 t2, .int .i64 t3] rfl rfl _ _ HW4.out.dn 3 Tryz.sizeCor rfl rfl (by simp [Value.oneCell']) ?_; intro w9 hg9 hk9
             have HW9 := hid (HW4.out.put hk9 hg9)
             have HO9 := hid (ownCk_put HO4.out hk9 HW4.out.big HW4.out.dn)
             clear hg9 hk9))
        go_roundg (rs.length - (k + 1))
        case measure => omega
        case rel => exact ⟨k + 1, _, t1, t2, t3, by omega, rfl, by go_num, HE3, HR2, HO9, hid (by have := HCL.out; rw [List.length_append, List.length_singleton]; omega), HW9⟩
      · have hd0 : Hid ((f1, f2, f3) ≠ (d1, d2, d3)) := hid hd
        have hneq := run_neq_cor hd
        have HE3 := hid (show Z = ((cs ++ [(kindOf (cutL a d1 f1) (cutL b d2 f2) (cutL c d3 f3), cutL a d1 f1, cutL b d2 f2, cutL c d3 f3)]) ++ [(1, cutL a f1 t1, cutL b f2 t2, cutL c f3 t3)]) ++ ofRuns a b c (t1, t2, t3) (rs.drop (k + 1)) by
          rw [HE2.out, gap_ne HORD.out.1.1 HORD.out.1.2.1 HORD.out.1.2.2 (Nat.le_trans HORD.out.2.1.1 HORD.out.2.2.1) (Nat.le_trans HORD.out.2.1.2.1 HORD.out.2.2.2.1) (Nat.le_trans HORD.out.2.1.2.2 HORD.out.2.2.2.2) hd, List.append_assoc, List.append_assoc]
          rfl)
        clear hd
        have HCH := hid (DChanged_any _ _ _ a b c d1 d2 d3 f1 f2 f3 _ (Sl.old HA.out HWA.out.below) (Sl.old HB.out HWA.out.below) (Sl.old HC.out HWA.out.below) (by have := HL.out; omega) (by have := HL.out; omega) (by have := HL.out; omega) HORD.out.1.1 (Nat.le_trans HORD.out.2.1.1 HORD.out.2.2.1) HORD.out.1.2.1 (Nat.le_trans HORD.out.2.1.2.1 HORD.out.2.2.2.1) HORD.out.1.2.2 (Nat.le_trans HORD.out.2.1.2.2 HORD.out.2.2.2.2))
        obtain ⟨kd, hkd⟩ : ∃ z, kindOf (cutL a d1 f1) (cutL b d2 f2) (cutL c d3 f3) = z := ⟨_, rfl⟩
        rw [hkd] at HE3 HCH
        clear hkd
        obtain ⟨A, hA⟩ : ∃ z, cutL a d1 f1 = z := ⟨_, rfl⟩
        obtain ⟨B, hB⟩ : ∃ z, cutL b d2 f2 = z := ⟨_, rfl⟩
        obtain ⟨C, hC⟩ : ∃ z, cutL c d3 f3 = z := ⟨_, rfl⟩
        rw [hA, hB, hC] at HE3 HCH
        clear hA hB hC HE2
        have kt0 := blk_cell (i := 0) HWA.out.tx rfl
        have kt1 := blk_cell (i := 1) HWA.out.tx rfl
        have kt2 := blk_cell (i := 2) HWA.out.tx rfl
        have kd0 := blk_cell (i := 0) HWA.out.dn rfl
        have kd1 := blk_cell (i := 1) HWA.out.dn rfl
        have kd2 := blk_cell (i := 2) HWA.out.dn rfl
        have kr0 := blk_cell (i := 0) HRA.out rfl
        have kr1 := blk_cell (i := 1) HRA.out rfl
        have kr2 := blk_cell (i := 2) HRA.out rfl
        have kr3 := blk_cell (i := 3) HRA.out rfl
        have kr4 := blk_cell (i := 4) HRA.out rfl
        have kr5 := blk_cell (i := 5) HRA.out rfl
        go_wp2_with (first
          | (go_at_call 123; with_reducible refine HCH.out.mono ?_; rintro e w3 ⟨ua, ub, uc, rfl, hT3, hb3⟩
             obtain ⟨xa, ya, rfl⟩ := owns_form hT3.1
             obtain ⟨xb, yb, rfl⟩ := owns_form hT3.2.1
             obtain ⟨xc, yc, rfl⟩ := owns_form hT3.2.2
             have HT3 := hid hT3
             have HW3 := hid (HWA.out.step (hb3.mono HWA.out.size))
             have HO3 := hid (HOA.out.old hb3)
             have HR3 := hid ((hb3.block _ HSA.out).trans HRA.out)
             have HZ3 := hid (Nat.lt_of_lt_of_le HSA.out hb3.size)
             clear hT3 hb3)
          | (refine wpList_append_ck rfl (.tmp 29) (.tmp 35) rfl w1.heap.size _ cs kd A B C _ _ _ rfl HO3.out (nestL_own HT3.out.1 (fun j hj => Nat.lt_trans (HLO.out j hj) HSA.out)) (nestL_own HT3.out.2.1 (fun j hj => Nat.lt_trans (HLO.out j hj) HSA.out)) (nestL_own HT3.out.2.2 (fun j hj => Nat.lt_trans (HLO.out j hj) HSA.out)) rfl rfl rfl rfl (by have h1 := HCL.out; have h2 := HRL.out; have h3 := HL.out; omega) HW3.out.size ?_; intro v4 w4 hO4 hb4 hk4
             obtain ⟨lo4, lcap4, hv4⟩ := hO4.form
             rw [List.length_append, List.length_singleton] at hv4
             subst hv4
             have HO4 := hid hO4
             have HW4 := hid (HW3.out.step hb4)
             have hr4 := (hk4 _ HZ3.out (fun e => Nat.lt_irrefl _ (HLO.out _ e))).trans HR3.out
             have HR4 := hid hr4
             have HZ4 := hid (show wr.heap.size < w4.heap.size from lt_of_block hr4)
             have HPC := hid (DPiece_any 1 _ _ _ a b c f1 f2 f3 t1 t2 t3 _ (Sl.old HA.out HW4.out.below) (Sl.old HB.out HW4.out.below) (Sl.old HC.out HW4.out.below) (by have := HL.out; omega) (by have := HL.out; omega) (by have := HL.out; omega) HORD.out.2.1.1 HORD.out.2.2.1 HORD.out.2.1.2.1 HORD.out.2.2.2.1 HORD.out.2.1.2.2 HORD.out.2.2.2.2)
             have mt0 := blk_cell (i := 0) HW4.out.tx rfl
             have mt1 := blk_cell (i := 1) HW4.out.tx rfl
             have mt2 := blk_cell (i := 2) HW4.out.tx rfl
             have mr0 := blk_cell (i := 0) hr4 rfl
             have mr1 := blk_cell (i := 1) hr4 rfl
             have mr2 := blk_cell (i := 2) hr4 rfl
             have mr3 := blk_cell (i := 3) hr4 rfl
             have mr4 := blk_cell (i := 4) hr4 rfl
             have mr5 := blk_cell (i := 5) hr4 rfl
             clear hO4 hb4 hk4 hr4)
          | (go_at_call 124; with_reducible refine HPC.out.mono ?_; rintro e w5 ⟨ua, ub, uc, rfl, hT5, hb5⟩
             obtain ⟨xa5, ya5, rfl⟩ := owns_form hT5.1
             obtain ⟨xb5, yb5, rfl⟩ := owns_form hT5.2.1
             obtain ⟨xc5, yc5, rfl⟩ := owns_form hT5.2.2
             have HT5 := hid hT5
             have HW5 := hid (HW4.out.step (hb5.mono HW4.out.size))
             have HO5 := hid (HO4.out.old hb5)
             have HR5 := hid ((hb5.block _ HZ4.out).trans HR4.out)
             have HZ5 := hid (Nat.lt_of_lt_of_le HZ4.out hb5.size)
             clear hT5 hb5)
          | (refine wpList_append_ck rfl (.tmp 37) (.tmp 44) rfl w1.heap.size _ _ 1 (cutL a f1 t1) (cutL b f2 t2) (cutL c f3 t3) _ _ _ rfl HO5.out (nestL_own HT5.out.1 (fun j hj => (HO4.out.lt j hj).2)) (nestL_own HT5.out.2.1 (fun j hj => (HO4.out.lt j hj).2)) (nestL_own HT5.out.2.2 (fun j hj => (HO4.out.lt j hj).2)) rfl rfl rfl rfl (by have h1 := HCL.out; have h2 := HRL.out; have h3 := HL.out; rw [List.length_append, List.length_singleton]; omega) HW5.out.size ?_; intro v6 w6 hO6 hb6 hk6
             have HO6 := hid hO6
             have HW6 := hid (HW5.out.step hb6)
             have hr6 := (hk6 _ HZ5.out (own_ne HO5.out HR5.out)).trans HR5.out
             have n3 := blk_cell (i := 3) hr6 rfl
             have n4 := blk_cell (i := 4) hr6 rfl
             have n5 := blk_cell (i := 5) hr6 rfl
             clear hO6 hb6 hk6 hr6)
          | (refine wpList_store_whole rfl 164 _ _ rfl (w.heap.size + 1) #[.int .i64 t1, .int .i64 t2, .int .i64 t3] rfl rfl _ _ HW6.out.dn 3 Tryz.sizeCor rfl rfl (by simp [Value.oneCell']) ?_; intro w9 hg9 hk9
             have HW9 := hid (HW6.out.put hk9 hg9)
             have HO9 := hid (ownCk_put HO6.out hk9 HW6.out.big HW6.out.dn)
             clear hg9 hk9))
        go_roundg (rs.length - (k + 1))
        case measure => omega
        case rel => exact ⟨k + 1, _, t1, t2, t3, by omega, rfl, by go_num, HE3, HR2, HO9, hid (by have := HCL.out; rw [List.length_append, List.length_append, List.length_singleton, List.length_singleton]; omega), HW9⟩
    · obtain rfl : k = rs.length := by omega
      have hneg : ¬ (rs.length : Int) < (rs.length : Int) := by omega
      have hr := HR.out
      rw [List.drop_length] at hr
      have HORD := hid hr
      have he := HE.out
      rw [List.drop_length, ofRuns, ← cutL_end, ← cutL_end, ← cutL_end] at he
      simp only at he
      have HE2 := hid he
      clear hr he HE HR
      have HLO := hid (show ∀ j, (Value.slice lo cs.length lcap).ownBlock = some j → j < wr.heap.size from fun j hj => (HO.out.lt j hj).2)
      have HEN := hid (DEnd_any _ _ _ a b c wr (Sl.old HA.out HW.out.below) (Sl.old HB.out HW.out.below) (Sl.old HC.out HW.out.below))
      have kt0 := blk_cell (i := 0) HW.out.tx rfl
      have kt1 := blk_cell (i := 1) HW.out.tx rfl
      have kt2 := blk_cell (i := 2) HW.out.tx rfl
      by_cases hd : (a.length, b.length, c.length) = (d1, d2, d3)
      · obtain ⟨e1, e2, e3⟩ : a.length = d1 ∧ b.length = d2 ∧ c.length = d3 := ⟨congrArg Prod.fst hd, congrArg (fun x => x.2.1) hd, congrArg (fun x => x.2.2) hd⟩
        have HZE := hid (show Z = cs by rw [HE2.out, e1, e2, e3, cutL_nil, cutL_nil, cutL_nil, gapCk_nil, List.append_nil])
        have HEQ := hid (And.intro e1 (And.intro e2 e3))
        clear hd e1 e2 e3 HE2
        go_wp2_with (first
          | (go_at_call 125; with_reducible refine HEN.out.mono ?_; rintro e w2 ⟨rfl, hb2⟩
             rw [HEQ.out.1, HEQ.out.2.1, HEQ.out.2.2]
             have hb3 := hb2.alloc hb2.size (.cells #[.int .i64 d1, .int .i64 d2, .int .i64 d3] 164)
             have HW3 := hid (HW.out.step (hb3.mono HW.out.size))
             have HO3 := hid (HO.out.old hb3)
             have kd0 := blk_cell (i := 0) HW3.out.dn rfl
             have kd1 := blk_cell (i := 1) HW3.out.dn rfl
             have kd2 := blk_cell (i := 2) HW3.out.dn rfl
             clear hb2 hb3))
        go_ret
        rw [HZE.out]
        exact ⟨_, rfl, HO3.out.slC, HW3.out.below⟩
      · have hneq := run_neq_cor hd
        have HZE := hid (show Z = cs ++ [(kindOf (cutL a d1 a.length) (cutL b d2 b.length) (cutL c d3 c.length), cutL a d1 a.length, cutL b d2 b.length, cutL c d3 c.length)] by
          rw [HE2.out, gap_ne HORD.out.1 HORD.out.2.1 HORD.out.2.2 (Nat.le_refl _) (Nat.le_refl _) (Nat.le_refl _) hd])
        clear hd HE2
        go_wp2_with (first
          | (go_at_call 125; with_reducible refine HEN.out.mono ?_; rintro e w2 ⟨rfl, hb2⟩
             have hb3 := hb2.alloc hb2.size (.cells #[.int .i64 a.length, .int .i64 b.length, .int .i64 c.length] 164)
             have HW3 := hid (HW.out.step (hb3.mono HW.out.size))
             have HO3 := hid (HO.out.old hb3)
             have HZ3 := hid hb3.size
             have hen := heap_alloc_new w2 (.cells #[.int .i64 a.length, .int .i64 b.length, .int .i64 c.length] 164)
             have ke0 := blk_cell (i := 0) hen rfl
             have ke1 := blk_cell (i := 1) hen rfl
             have ke2 := blk_cell (i := 2) hen rfl
             have kd0 := blk_cell (i := 0) HW3.out.dn rfl
             have kd1 := blk_cell (i := 1) HW3.out.dn rfl
             have kd2 := blk_cell (i := 2) HW3.out.dn rfl
             have mt0 := blk_cell (i := 0) HW3.out.tx rfl
             have mt1 := blk_cell (i := 1) HW3.out.tx rfl
             have mt2 := blk_cell (i := 2) HW3.out.tx rfl
             have HCH := hid (DChanged_any _ _ _ a b c d1 d2 d3 a.length b.length c.length _ (Sl.old HA.out HW3.out.below) (Sl.old HB.out HW3.out.below) (Sl.old HC.out HW3.out.below) (by have := HL.out; omega) (by have := HL.out; omega) (by have := HL.out; omega) HORD.out.1 (Nat.le_refl _) HORD.out.2.1 (Nat.le_refl _) HORD.out.2.2 (Nat.le_refl _))
             clear hb2 hb3 hen)
          | (go_at_call 123; with_reducible refine HCH.out.mono ?_; rintro e w4 ⟨ua, ub, uc, rfl, hT4, hb4⟩
             obtain ⟨xa, ya, rfl⟩ := owns_form hT4.1
             obtain ⟨xb, yb, rfl⟩ := owns_form hT4.2.1
             obtain ⟨xc, yc, rfl⟩ := owns_form hT4.2.2
             have HT4 := hid hT4
             have HW4 := hid (HW3.out.step (hb4.mono HW3.out.size))
             have HO4 := hid (HO3.out.old hb4)
             clear hT4 hb4)
          | (refine wpList_append_ck rfl (.tmp 54) (.tmp 59) rfl w1.heap.size _ cs _ _ _ _ _ _ _ rfl HO4.out (nestL_own HT4.out.1 (fun j hj => (HO3.out.lt j hj).2)) (nestL_own HT4.out.2.1 (fun j hj => (HO3.out.lt j hj).2)) (nestL_own HT4.out.2.2 (fun j hj => (HO3.out.lt j hj).2)) rfl rfl rfl rfl (by have h1 := HCL.out; have h2 := HRL.out; have h3 := HL.out; omega) HW4.out.size ?_; intro v6 w6 hO6 hb6 hk6
             have HO6 := hid hO6
             have HW6 := hid (HW4.out.step hb6)
             clear hO6 hb6 hk6))
        go_ret
        rw [HZE.out]
        exact ⟨_, rfl, HO6.out.slC, HW6.out.below⟩
end
end Go.Proofs.YtbnafihigoekeaaGreatDoor

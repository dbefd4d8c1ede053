/-
  TmDe, part 37.
-/
import Derived.Test.YtbnafihigoekeaaGreatDoorZe36
import Derived.Test.YtbnafihigoekeaaGreatDoorZe33
import Derived.Test.YtbnafihigoekeaaGreatDoorZe3
import Derived.Test.YtbnafihigoekeaaGreatDoorZe1
import Derived.Test.YtbnafihigoekeaaGreatDoorZe23
import Derived.Deep.LoopGhost
import Derived.Deep.QuietTactic
import Derived.Test.YtbnafihigoekeaaGreatDoorZe31
import Derived.Test.YtbnafihigoekeaaGreatDoorZe25
namespace Go.Proofs.YtbnafihigoekeaaGreatDoor
open Go.RowKit
def idxTw (l : List TwS) (x : TwS) : Option Nat := l.findIdx? (· == x)
theorem idxTw_snoc (l : List TwS) (q p : TwS) : idxTw (l ++ [q]) p = match idxTw l p with | some i => some i | none => if q = p then some l.length else none := by
  unfold idxTw
  rw [List.findIdx?_append]
  cases h : List.findIdx? (· == p) l with
  | some i => simp
  | none =>
    by_cases e : q = p
    · simp [e, List.findIdx?_cons]
    · simp [e, List.findIdx?_cons]
theorem idxTw_some {l : List TwS} {x : TwS} {i : Nat} (h : idxTw l x = some i) : l[i]? = some x := by
  unfold idxTw at h
  rw [List.findIdx?_eq_some_iff_getElem] at h
  obtain ⟨h1, h2, _⟩ := h
  rw [List.getElem?_eq_getElem h1]
  simpa using h2
theorem idxTw_none {l : List TwS} {x : TwS} (h : ∀ i : Nat, l[i]? ≠ some x) : idxTw l x = none := by
  cases e : idxTw l x with
  | none => rfl
  | some i => exact absurd (idxTw_some e) (h i)
theorem cnt_take_lt {l : List FileS} {i j : Nat} {t : Txt} (hij : i < j) (hi : i < l.length) (ht : (l.getD i fileZ).2.2 = t) : cntT (l.take i) t < cntT (l.take j) t := by
  have h1 : l.take (i + 1) = l.take i ++ [l.getD i fileZ] := by
    rw [List.take_add_one, List.getElem?_eq_getElem hi, List.getD_eq_getElem?_getD, List.getElem?_eq_getElem hi]
    rfl
  have h2 : cntT (l.take (i + 1)) t = cntT (l.take i) t + 1 := by rw [h1, cntT_snoc, if_pos ht]
  have h3 : cntT (l.take (i + 1)) t ≤ cntT (l.take j) t := by
    unfold cntT
    exact ((List.take_sublist_take_left (by omega)).filter _).length_le
  omega
theorem twinAt_inj {l : List FileS} {i j : Nat} (hi : i < l.length) (hj : j < l.length) (h : twinAt l i = twinAt l j) : i = j := by
  unfold twinAt at h
  obtain ⟨h1, h2⟩ := Prod.mk.inj h
  rcases Nat.lt_trichotomy i j with e | e | e
  · have := cnt_take_lt (t := (l.getD i fileZ).2.2) e hi rfl
    rw [h1] at this
    rw [h1] at h2
    omega
  · exact e
  · have := cnt_take_lt (t := (l.getD j fileZ).2.2) e hj rfl
    rw [← h1] at this h2
    omega
theorem idxTw_new {l : List FileS} {k : Nat} (hk : k < l.length) : idxTw (twUp l k) (twinAt l k) = none := idxTw_none fun i h => by
  have hlt := (List.getElem?_eq_some_iff.1 h).1
  rw [twUp_len] at hlt
  rw [twUp_at hlt] at h
  have := twinAt_inj (l := l) (by omega) hk (Option.some.inj h)
  omega
def twinStep (l m : List FileS) (s : List Int × List Int) (i : Nat) : List Int × List Int :=
  match idxTw (twUp m m.length) (twinAt l i) with
  | some j => joinL s i j
  | none => s
def joinTw (l m : List FileS) (st : List Int × List Int) (k : Nat) : List Int × List Int := (List.range k).foldl (twinStep l m) st
theorem joinTw_more (l m : List FileS) (st : List Int × List Int) (k : Nat) : joinTw l m st (k + 1) = twinStep l m (joinTw l m st k) k := by
  rw [joinTw, List.range_succ, List.foldl_append]
  rfl
theorem twinStep_len (l m : List FileS) (s : List Int × List Int) (i : Nat) : (twinStep l m s i).1.length = s.1.length ∧ (twinStep l m s i).2.length = s.2.length := by
  unfold twinStep
  split
  · exact joinL_len _ _ _
  · exact ⟨rfl, rfl⟩
theorem joinTw_len (l m : List FileS) (st : List Int × List Int) : ∀ k, (joinTw l m st k).1.length = st.1.length ∧ (joinTw l m st k).2.length = st.2.length
  | 0 => ⟨rfl, rfl⟩
  | k + 1 => by
    rw [joinTw_more]
    have h1 := twinStep_len l m (joinTw l m st k) k
    have h2 := joinTw_len l m st k
    exact ⟨h1.1.trans h2.1, h1.2.trans h2.2⟩
theorem PairAt.old {w0 : World} {vb vs : Value} {gp gt gf : Nat} {ts fs : List Int} {w w' : World} (h : PairAt w0 vb vs gp gt gf ts fs w) (hk : Below w.heap.size w w') : PairAt w0 vb vs gp gt gf ts fs w' :=
  ⟨(hk.block _ (lt_of_block h.cell)).trans h.cell, (hk.block _ (lt_of_block h.rowT)).trans h.rowT, (hk.block _ (lt_of_block h.rowF)).trans h.rowF, h.hp, h.ht, h.hf, h.ptf, h.ppt, h.ppf, h.below.trans (hk.mono h.below.size)⟩
theorem PairAt.alloc {w0 : World} {vb vs : Value} {gp gt gf : Nat} {ts fs : List Int} {w : World} (h : PairAt w0 vb vs gp gt gf ts fs w) (o : Obj) : PairAt w0 vb vs gp gt gf ts fs (w.alloc o) := h.old ((Below.refl _ w).alloc (Nat.le_refl _) o)
theorem Tryz.laidOutJ : laidOutB Tryz.prog = true := by kernel_rfl
theorem Tryz.rowTwin : (190 : TypeId) < Tryz.prog.types.size := of_decide_eq_true (by kernel_rfl)
theorem Tryz.wideTwin : (match Tryz.prog.underlying 190 with | some (.array _ _) | some (.struct _) => true | _ => false) = true := by rw [Tryz.underlying190]
set_option maxRecDepth 100000 in
theorem Tryz.twinLaw : Maps.Keyed Tryz.prog 190 := Maps.Keyed.of_law (deep_law_laid Tryz.laidOutJ (m := 3) (by omega) Tryz.rowTwin (by kernel_rfl) Tryz.wideTwin)
def keyTw (x : TwS) : Lit := .string (keyBytes [.string x.1, .int .i64 (x.2 : Nat)])
def twFit (x : TwS) : Prop := x.1.length ≤ maxLen ∧ x.2 ≤ 4000000000
theorem tw_key {x : TwS} (h : twFit x) : keyOf Tryz.prog 190 (.agg #[.string ⟨x.1.toArray⟩, .int .i64 (x.2 : Nat)]) = some (keyTw x) := by
  have hk : Tryz.prog.keyType 190 = true := by kernel_rfl
  have hc : Tryz.prog.cellsOf 190 = 2 := by kernel_rfl
  have hc1 : Tryz.prog.cellsOf 9 = 1 := by kernel_rfl
  have hc2 : Tryz.prog.cellsOf 3 = 1 := by kernel_rfl
  obtain ⟨h1, h2⟩ := h
  have w2 : (Lit.int .i64 (x.2 : Int)).wf = true := by simp [Lit.wf, IntKind.min, IntKind.max, IntKind.signed, IntKind.bits]; omega
  have hsz : (ByteArray.mk x.1.toArray).size ≤ maxLen := by
    show x.1.toArray.size ≤ maxLen
    simpa using h1
  obtain ⟨n, hn⟩ : ∃ n, Tryz.prog.types.size + 1 = n + 2 := ⟨Tryz.prog.types.size - 1, by have h : 190 < Tryz.prog.types.size := Tryz.rowTwin; omega⟩
  unfold keyOf
  rw [Tryz.underlying190, hk, hn]
  simp [Value.formed, Tryz.underlying190, hc, Value.cells, Program.keyLits, hc1, hc2, Tryz.underlying3, Tryz.underlying9, w2, keyTw, hsz]
theorem keyTw_inj {x y : TwS} (hx : twFit x) (hy : twFit y) (h : keyTw x = keyTw y) : x = y := by
  have := Tryz.twinLaw.inj (tw_key hx) (h ▸ tw_key hy)
  simp at this
  exact Prod.ext this.1 (by omega)
abbrev OwnAt (w : World) (b n : Nat) (D : MW) : Prop := w.ownsMap Tryz.prog 190 (plainElem Tryz.prog 3) b n D
def ShowsW (D : MW) (l : List TwS) : Prop := Maps.IsMap D ∧ ∀ x, twFit x → Maps.has D (keyTw x) = (idxTw l x).isSome ∧ ∀ i, idxTw l x = some i → ∀ z, D.atKey (keyTw x) z = .lit (.int .i64 (i : Nat))
theorem ShowsW.nil : ShowsW (.map []) [] := ⟨Maps.isMap_empty, fun x _ => ⟨rfl, fun i h => by simp [idxTw] at h⟩⟩
theorem ShowsW.put {D : MW} {l : List TwS} {q : TwS} (h : ShowsW D l) (hq : twFit q) (hn : idxTw l q = none) : ShowsW (D.put (keyTw q) (.lit (.int .i64 (l.length : Nat)))) (l ++ [q]) := by
  refine ⟨h.1.put _ _, fun x hx => ?_⟩
  obtain ⟨h1, h2⟩ := h.2 x hx
  rw [idxTw_snoc]
  by_cases e : q = x
  · subst e
    rw [hn]
    simp only [if_true]
    refine ⟨(Maps.has_put_same h.1 (show WideAt.IsKeyLit (keyTw q) from trivial) _).trans rfl, fun i hi z => ?_⟩
    cases hi
    exact Maps.atKey_put_same h.1 (show WideAt.IsKeyLit (keyTw q) from trivial) _ z
  · have hne : keyTw x ≠ keyTw q := fun e' => e (keyTw_inj hx hq e').symm
    rw [Maps.has_put_other hne]
    cases hi : idxTw l x with
    | some i =>
      rw [hi] at h1 h2
      refine ⟨h1, fun j hj z => ?_⟩
      rw [Maps.atKey_put_other hne]
      exact h2 j hj z
    | none =>
      simp only [e, if_false]
      rw [hi] at h1
      exact ⟨h1, fun j hj => by cases hj⟩
theorem OwnAt.old {w w' : World} {b n : Nat} {D : MW} (h : OwnAt w b n D) (hk : b < w.heap.size → w'.heap[b]? = w.heap[b]?) : OwnAt w' b n D := by
  have hlt := h.lt
  obtain ⟨es, clock, hb, r⟩ := h
  exact ⟨es, clock, (hk hlt).trans hb, r⟩
theorem OwnAt.alloc {w : World} {b n : Nat} {D : MW} (h : OwnAt w b n D) (o : Obj) : OwnAt (w.alloc o) b n D := h.old fun hb => Below.heap_alloc _ _ _ hb
section
set_option maxRecDepth 100000
set_option maxHeartbeats 4000000
theorem DJoinTwins_any (w0 : World) (vb vs : Value) (gp gt gf : Nat) (ts fs : List Int) (l m : List FileS) (w : World) (h : PairAt w0 vb vs gp gt gf ts fs w) (hb : SlF w0 vb l) (hs : SlF w0 vs m)
    (hl : ts.length = l.length) (hm : fs.length = m.length) (fl : few l) (fm : few m) :
    Calls Tryz.prog 117 #[.pointer (some ⟨gp, 0, none⟩)] w fun e w' => e = .returned (.tuple #[]) ∧
      PairAt w0 vb vs gp gt gf (joinTw l m (ts, fs) l.length).1 (joinTw l m (ts, fs) l.length).2 w' := by
  have HP := hid h
  have HTS := hid fun (wx : World) (hk : Below w.heap.size w wx) => DTwins_any vs m wx (hs.old (h.below.trans (hk.mono h.below.size))) (by have := fm.1; omega) fm.2
  have HTB := hid fun (wx : World) (hk : Below w.heap.size w wx) => DTwins_any vb l wx (hb.old (h.below.trans (hk.mono h.below.size))) (by have := fl.1; omega) fl.2
  have HLE := hid (show ts.length = l.length ∧ fs.length = m.length ∧ l.length ≤ 1000 ∧ m.length ≤ 1000 from ⟨hl, hm, fl.1, fm.1⟩)
  have fit : ∀ (L : List FileS), few L → ∀ k x, x ∈ twUp L k → twFit x := fun L fL k x hx => by
    obtain ⟨i, hi, rfl⟩ := List.mem_map.1 hx
    refine ⟨?_, ?_⟩
    · show (L.getD i fileZ).2.2.length ≤ maxLen
      rw [List.getD_eq_getElem?_getD]
      cases e : L[i]? with
      | none => exact Nat.zero_le _
      | some f =>
        have := fL.2 f (List.mem_of_getElem? e)
        show f.2.2.length ≤ maxLen
        unfold maxLen
        omega
    · have h1 := cntT_le (L.take i) (L.getD i fileZ).2.2
      rw [List.length_take] at h1
      have h2 := fL.1
      show cntT (L.take i) (L.getD i fileZ).2.2 ≤ 4000000000
      omega
  have HFS := hid (fit m fm m.length)
  have HFB := hid (fit l fl l.length)
  have c1 : w.cell? ⟨gp, 1, none⟩ = some vs := blk_cell (i := 1) h.cell rfl
  obtain ⟨ao, ac, rfl⟩ := hb.form
  obtain ⟨bo, bc, rfl⟩ := hs.form
  clear h hb hs hl hm fl fm fit
  have hmm := @run_makeMap Tryz.prog
  go_enter Tryz.func117, Tryz.ntmps117
  go_upto_region 1 with fail
  clear hmm
  obtain ⟨w1, hw1⟩ : ∃ w1, w.alloc (.map #[] 0) = w1 := ⟨_, rfl⟩
  have hm1 : OwnAt w1 w.heap.size 0 (.map []) := by rw [← hw1]; exact World.ownsMap_made w _ _ _
  have hb1 : Below w.heap.size w w1 := by rw [← hw1]; exact (Below.refl _ w).alloc (Nat.le_refl _) _
  have d1 : w1.cell? ⟨gp, 1, none⟩ = some (.slice bo m.length bc) := (hb1.cell (p := ⟨gp, 1, none⟩) (World.block_lt_of_cell? _ _ c1)).trans c1
  rw [hw1]
  obtain ⟨gm, hgm⟩ : ∃ g, w.heap.size = g := ⟨_, rfl⟩
  have HGM := hid hgm
  rw [hgm] at hm1 ⊢
  have HM1 := hid hm1
  have HB1 := hid hb1
  clear hm1 hb1 hw1 c1
  go_wp2_with fail
  refine (HTS.out w1 HB1.out).mono ?_
  rintro e w2 ⟨v2, rfl, ho2, hb2⟩
  obtain ⟨no, nc, rfl⟩ := owns_form ho2
  have HS2 := hid (OwnTw.sl ho2)
  have HM2 := hid (HM1.out.old fun hb => hb2.block _ hb)
  have HB2 := hid (below_step HB1.out hb2 HB1.out.size)
  have HSB := hid (show ∀ bb oo, no = some (⟨bb, oo, none⟩ : Addr) → bb ≠ gm from fun bb oo e => by
    subst e
    have h1 := (World.ownsRow.lt ho2 bb rfl).1
    have h2 := HM1.out.lt
    omega)
  have HGT := hid (show gm < w2.heap.size from HM2.out.lt)
  rw [twUp_len] at HS2 ⊢
  clear ho2 hb2 HM1 d1 HTS
  have HTU := hid fun (L : List FileS) (k : Nat) => twUp_len L k
  have HZI := hid Tryz.zeroIntI
  go_wp2_with fail
  go_loopg [16] m.length (fun g i wr => ∃ (k n : Nat) (D : MW), i = .int .i64 (k : Int) ∧ Hid (k ≤ m.length ∧ m.length - k ≤ g ∧ n ≤ k) ∧ Hid (OwnAt wr gm n D) ∧ Hid (ShowsW D (twUp m k)) ∧ Hid (Keep (fun q => q = gm) w2 wr) ∧ Hid (Below w.heap.size w wr))
  case atStart => exact ⟨0, 0, .map [], rfl, hid ⟨Nat.zero_le _, Nat.le_refl _, Nat.le_refl _⟩, HM2, hid ShowsW.nil, hid (Keep.refl _ _), HB2⟩
  case round =>
    clear HM2 HB2
    obtain ⟨k, n, D, rfl, HQ, HM, HC, HK, HB⟩ := hrel
    have hQ := HQ.out
    have k0 : (0 : Int) ≤ (k : Int) := Int.natCast_nonneg _
    by_cases hlt : k < m.length
    · have k1 : (k : Int) < (m.length : Int) := by omega
      have kw : IntKind.i64.wrap ((k : Int) + 1) = (k : Int) + 1 := IntWalk.i64_in _ (by have := HLE.out; omega)
      obtain ⟨b, o, p, q, rfl, he, c1, c2⟩ := SlTw.at HS2.out (i := k) (by rw [HTU.out]; exact hlt)
      have hbm : b ≠ gm := by
        have h2 := HSB.out b o
        exact h2 rfl
      have old : ∀ {j : Nat} {u : Value}, w2.cell? ⟨b, j, none⟩ = some u → wr.cell? ⟨b, j, none⟩ = some u := fun {j u} hp => (World.cell?_of_block (w := w2) (HK.out.block b (World.block_lt_of_cell? _ _ hp) hbm)).trans hp
      have f1 := old c1
      have f2 := old c2
      have hpq : twinAt m k = (p, q) := by
        rw [twUp_at hlt] at he
        exact Option.some.inj he
      have HFIT := hid (show twFit (p, q) from HFS.out _ (List.mem_of_getElem? he))
      have HKEY := hid (tw_key HFIT.out)
      have HS3 := hid (show ShowsW (D.put (keyTw (p, q)) (.lit (.int .i64 (k : Nat)))) (twUp m (k + 1)) by
        have h1 := HC.out.put HFIT.out (by rw [← hpq]; exact idxTw_new hlt)
        rw [twUp_len] at h1
        rw [twUp_more, hpq]
        exact h1)
      have HNM := hid (show n < maxLen by have := HLE.out; unfold maxLen; omega)
      have HWF := hid (show (Lit.int .i64 (k : Int)).wf = true by have := HLE.out; simp [Lit.wf, IntKind.min, IntKind.max, IntKind.signed, IntKind.bits]; omega)
      have HMA := hid (HM.out.alloc (.cells #[.string ⟨p.toArray⟩, .int .i64 (q : Nat)] 190))
      have HKA := hid (HK.out.alloc (.cells #[.string ⟨p.toArray⟩, .int .i64 (q : Nat)] 190))
      have HBA := hid (HB.out.alloc HB.out.size (.cells #[.string ⟨p.toArray⟩, .int .i64 (q : Nat)] 190))
      have HZM := hid (show gm < w2.heap.size from HGT.out)
      clear old c1 c2 he hpq hbm HM HC HK HB
      go_wp2_with (first
        | (at_mapUpdate; refine wpList_mapUpdate_own _ rfl (.tmp 21) (.tmp 22) (.tmp 23) 186 rfl 190 3 Tryz.twinLaw Tryz.underlying186 _ gm n D rfl HMA.out HNM.out _ _ (keyTw (p, q)) rfl rfl HKEY.out (.lit (.int .i64 (k : Int))) [] (plainElem_int Tryz.underlying3 HWF.out) ?_; intro w6 hown6 hg6; have HM6 := hid hown6; have HG6 := hid hg6; clear hown6 hg6))
      go_roundg (m.length - (k + 1))
      case measure => omega
      case rel => exact ⟨k + 1, n + 1, _, by go_num, hid ⟨by omega, Nat.le_refl _, by omega⟩, HM6, HS3, hid (HKA.out.grown HG6.out (fun j hj e => by cases e; rfl)), hid (HBA.out.grown HG6.out HBA.out.size (fun j hj => by cases hj; exact Nat.le_of_eq HGM.out))⟩
    · obtain rfl : k = m.length := by omega
      have hneg : ¬ (m.length : Int) < (m.length : Int) := by omega
      have hP := HP.out.old HB.out
      have d0 : wr.cell? ⟨gp, 0, none⟩ = some (.slice ao l.length ac) := blk_cell (i := 0) hP.cell rfl
      have HP1 := hid hP
      clear hP hQ
      go_wp2_with fail
      refine (HTB.out wr HB.out).mono ?_
      rintro e w4 ⟨v4, rfl, ho4, hb4⟩
      obtain ⟨no4, nc4, rfl⟩ := owns_form ho4
      have HS4 := hid (OwnTw.sl ho4)
      have HM4 := hid (HM.out.old fun hb => hb4.block _ hb)
      have HB4 := hid (below_step HB.out hb4 HB.out.size)
      have HP4 := hid (HP1.out.old hb4)
      have HSB4 := hid (show ∀ bb oo, no4 = some (⟨bb, oo, none⟩ : Addr) → bb ≠ gt ∧ bb ≠ gf from fun bb oo e => by
        subst e
        have h1 := (World.ownsRow.lt ho4 bb rfl).1
        have h2 := lt_of_block HP1.out.rowT
        have h3 := lt_of_block HP1.out.rowF
        omega)
      have HGTF := hid (show gm ≠ gt ∧ gm ≠ gf by
        have h2 := lt_of_block HP.out.rowT
        have h3 := lt_of_block HP.out.rowF
        have := HGM.out
        omega)
      rw [twUp_len] at HS4 ⊢
      clear ho4 hb4 d0 HM HK HB HP1 HTB
      have HJT := hid fun (k : Nat) => joinTw_len l m (ts, fs) k
      go_wp2_with fail
      go_loopg [31] l.length (fun g i wr => ∃ k : Nat, i = .int .i64 (k : Int) ∧ Hid (k ≤ l.length ∧ l.length - k ≤ g) ∧
        Hid (PairAt w0 (.slice ao l.length ac) (.slice bo m.length bc) gp gt gf (joinTw l m (ts, fs) k).1 (joinTw l m (ts, fs) k).2 wr) ∧ Hid (Keep (fun q => q = gt ∨ q = gf) w4 wr))
      case atStart => exact ⟨0, rfl, hid ⟨Nat.zero_le _, Nat.le_refl _⟩, HP4, hid (Keep.refl _ _)⟩
      case round =>
        clear HP4
        obtain ⟨k, rfl, HQ, HP5, HK⟩ := hrel
        have hQ := HQ.out
        have k0 : (0 : Int) ≤ (k : Int) := Int.natCast_nonneg _
        by_cases hlt : k < l.length
        · have k1 : (k : Int) < (l.length : Int) := by omega
          have kw : IntKind.i64.wrap ((k : Int) + 1) = (k : Int) + 1 := IntWalk.i64_in _ (by have := HLE.out; omega)
          obtain ⟨b, o, p, q, rfl, he, c1, c2⟩ := SlTw.at HS4.out (i := k) (by rw [HTU.out]; exact hlt)
          have hbm : b ≠ gt ∧ b ≠ gf := HSB4.out b o rfl
          have old : ∀ {j : Nat} {u : Value}, w4.cell? ⟨b, j, none⟩ = some u → wr.cell? ⟨b, j, none⟩ = some u := fun {j u} hp => (World.cell?_of_block (w := w4) (HK.out.block b (World.block_lt_of_cell? _ _ hp) (fun e => by rcases e with e | e; exact hbm.1 e; exact hbm.2 e))).trans hp
          have f1 := old c1
          have f2 := old c2
          have hpq : twinAt l k = (p, q) := by
            rw [twUp_at hlt] at he
            exact Option.some.inj he
          have HFIT := hid (show twFit (p, q) from HFB.out _ (List.mem_of_getElem? he))
          have HKEY := hid (tw_key HFIT.out)
          have HST := hid (show joinTw l m (ts, fs) (k + 1) = match idxTw (twUp m m.length) (p, q) with | some j => joinL (joinTw l m (ts, fs) k) k j | none => joinTw l m (ts, fs) k by
            rw [joinTw_more, twinStep, hpq])
          have HSH := hid (HC.out.2 (p, q) HFIT.out)
          have HIX := hid fun (j : Nat) (hj : idxTw (twUp m m.length) (p, q) = some j) => show j < m.length by
            have := (List.getElem?_eq_some_iff.1 (idxTw_some hj)).1
            rwa [twUp_len] at this
          have HMA := hid (show OwnAt (wr.alloc (.cells #[.string ⟨p.toArray⟩, .int .i64 (q : Nat)] 190)) gm n D from
            (HM4.out.old fun hb => HK.out.block gm hb (fun e => by rcases e with e | e; exact HGTF.out.1 e; exact HGTF.out.2 e)).alloc _)
          have HKA := hid (HK.out.alloc (.cells #[.string ⟨p.toArray⟩, .int .i64 (q : Nat)] 190))
          have HPA := hid (HP5.out.alloc (.cells #[.string ⟨p.toArray⟩, .int .i64 (q : Nat)] 190))
          obtain ⟨r, hr⟩ : ∃ r, idxTw (twUp m m.length) (p, q) = r := ⟨_, rfl⟩
          rw [hr] at HST HSH HIX
          clear old c1 c2 he hpq hbm hr HP5 HK
          cases r with
          | none =>
            have HHAS := hid (show Maps.has D (keyTw (p, q)) = false from HSH.out.1)
            go_wp2_with (first
              | (at_lookup; refine wpList_lookup_own_ok_int _ rfl (.tmp 37) (.tmp 38) 186 rfl 190 3 .i64 Tryz.twinLaw Tryz.underlying186 Tryz.underlying3 (HZI.out _) gm n D rfl HMA.out _ (keyTw (p, q)) rfl HKEY.out ?_; intro c hc _; rw [HHAS.out]; clear hc))
            go_roundg (l.length - (k + 1))
            case measure => omega
            case rel => exact ⟨k + 1, by go_num, hid ⟨by omega, Nat.le_refl _⟩, hid (by rw [HST.out]; exact HPA.out), HKA⟩
          | some j =>
            have HHAS := hid (show Maps.has D (keyTw (p, q)) = true from HSH.out.1)
            have HAT := hid (show D.atKey (keyTw (p, q)) (.lit (.int .i64 0)) = .lit (.int .i64 (j : Nat)) from HSH.out.2 j rfl _)
            have hjm := HIX.out j rfl
            have hln := HJT.out k
            have HJA := hid (DJoin_any w0 _ _ gp gt gf _ _ k j _ HPA.out (by rw [hln.1]; show k < ts.length; rw [HLE.out.1]; exact hlt) (by rw [hln.2]; show j < fs.length; rw [HLE.out.2.1]; exact hjm) (by rw [hln.1]; show ts.length ≤ _; have := HLE.out; omega) (by rw [hln.2]; show fs.length ≤ _; have := HLE.out; omega))
            clear hln hjm
            go_wp2_with (first
              | (at_lookup; refine wpList_lookup_own_ok_int _ rfl (.tmp 37) (.tmp 38) 186 rfl 190 3 .i64 Tryz.twinLaw Tryz.underlying186 Tryz.underlying3 (HZI.out _) gm n D rfl HMA.out _ (keyTw (p, q)) rfl HKEY.out ?_; intro c hc _; rw [HHAS.out]; obtain rfl : c = (j : Int) := by (have := hc.symm.trans HAT.out; simpa using this))
              | (go_at_call 141; refine HJA.out.mono ?_; rintro e w6 ⟨rfl, hP6, hK6⟩))
            go_roundg (l.length - (k + 1))
            case measure => omega
            case rel => exact ⟨k + 1, by go_num, hid ⟨by omega, Nat.le_refl _⟩, hid (by rw [HST.out]; exact hP6), hid (HKA.out.trans hK6)⟩
        · obtain rfl : k = l.length := by omega
          have hneg : ¬ (l.length : Int) < (l.length : Int) := by omega
          clear hQ
          go_wp2_with fail
          go_end0
          exact ⟨rfl, HP5.out⟩
end
end Go.Proofs.YtbnafihigoekeaaGreatDoor
namespace Go.Proofs.YtbnafihigoekeaaGreatDoor
open Go.RowKit
def Valid (ts : List Int) (n : Nat) : Prop := ∀ (i : Nat) (z : Int), ts[i]? = some z → z = -1 ∨ ∃ j : Nat, z = (j : Int) ∧ j < n
section
set_option maxRecDepth 100000
set_option maxHeartbeats 4000000
theorem DRenamesP_any (w0 : World) (vb vs : Value) (gp gt gf : Nat) (ts fs : List Int) (l m : List FileS) (w : World) (h : PairAt w0 vb vs gp gt gf ts fs w) (hb : SlF w0 vb l) (hs : SlF w0 vs m)
    (hl : ts.length = l.length) (hv : Valid ts m.length) (fl : few l) :
    Calls Tryz.prog 119 #[.pointer (some ⟨gp, 0, none⟩)] w fun e w' => ∃ v, e = .returned v ∧
      OwnV w' w.heap.size v (stableA (ltOf cfV) (renUp l m ts l.length).toArray).toList ∧ Below w.heap.size w w' := by
  have HP := hid h
  have HLB := hid (hb.old h.below)
  have HLS := hid (hs.old h.below)
  have HLE := hid (show ts.length = l.length ∧ l.length ≤ 1000 from ⟨hl, fl.1⟩)
  have HV := hid hv
  obtain ⟨ao, ac, rfl⟩ := hb.form
  obtain ⟨bo, bc, rfl⟩ := hs.form
  have c2 : w.cell? ⟨gp, 2, none⟩ = some (.slice (some ⟨gt, 0, none⟩) l.length l.length) := by rw [← hl]; exact blk_cell (i := 2) h.cell rfl
  clear h hb hs hl hv fl
  go_enter Tryz.func119, Tryz.ntmps119
  go_wp2_with fail
  clear c2
  go_loopg [3, 11] l.length (fun g s3 i wr => ∃ (k : Nat) (X : List MvS), i = .int .i64 (k : Int) ∧ Hid (k ≤ l.length ∧ l.length - k ≤ g) ∧ Hid (X = renUp l m ts k ∧ X.length ≤ k) ∧ Hid (OwnV wr w.heap.size s3 X) ∧ Hid (Below w.heap.size w wr))
  case atStart => exact ⟨0, [], rfl, hid ⟨Nat.zero_le _, Nat.le_refl _⟩, hid ⟨rfl, Nat.le_refl _⟩, hid (World.ownsRow_nil _ _ _ _), hid (Below.refl _ _)⟩
  case round =>
    obtain ⟨k, X, rfl, HQ, HX, HO, HB⟩ := hrel
    obtain ⟨no, nc, rfl⟩ := owns_form HO.out
    have hQ := HQ.out
    have k0 : (0 : Int) ≤ (k : Int) := Int.natCast_nonneg _
    by_cases hlt : k < l.length
    · have k1 : (k : Int) < (l.length : Int) := by omega
      have kw : IntKind.i64.wrap ((k : Int) + 1) = (k : Int) + 1 := IntWalk.i64_in _ (by have := HLE.out; omega)
      obtain ⟨z, hz⟩ : ∃ z, ts[k]? = some z := ⟨_, List.getElem?_eq_getElem (by have := HLE.out.1; omega)⟩
      have hP := HP.out.old HB.out
      have ct : wr.cell? ⟨gt, k, none⟩ = some (.int .i64 z) := blk_cell hP.rowT (iRow_at hz)
      have HOne := hid (show renOne l m ts k = if z = -1 then none else some ((l.getD k fileZ).1, (m.getD z.toNat fileZ).1) by rw [renOne, hz])
      by_cases hzn : z = -1
      · subst hzn
        have HE := hid (show X = renUp l m ts (k + 1) by rw [renUp_more, HOne.out, if_pos rfl, ← HX.out.1]; simp)
        clear hz hP
        go_wp2_with fail
        go_roundg (l.length - (k + 1))
        case measure => omega
        case rel => exact ⟨k + 1, X, by go_num, hid ⟨by omega, Nat.le_refl _⟩, hid ⟨HE.out, by have := HX.out; omega⟩, HO, HB⟩
      · obtain ⟨j, rfl, hj⟩ : ∃ j : Nat, z = (j : Int) ∧ j < m.length := by
          rcases HV.out k z hz with h | h
          · exact absurd h hzn
          · exact h
        have hzb : ((j : Int) != -1) = true := by simp
        have hzb2 : ((j : Int) == -1) = false := by simp
        obtain ⟨b1, o1, p1, x1, t1, rfl, he1, c11, c12, c13⟩ := SlF.at (HLB.out.old HB.out) hlt
        obtain ⟨b2, o2, p2, x2, t2, rfl, he2, c21, c22, c23⟩ := SlF.at (HLS.out.old HB.out) hj
        have HE := hid (show X ++ [(p1, p2)] = renUp l m ts (k + 1) by
          have e1 : l.getD k fileZ = (p1, x1, t1) := by rw [List.getD_eq_getElem?_getD, he1]; rfl
          have e2 : m.getD j fileZ = (p2, x2, t2) := by rw [List.getD_eq_getElem?_getD, he2]; rfl
          rw [renUp_more, HOne.out, if_neg hzn, ← HX.out.1, Int.toNat_natCast, e1, e2]
          rfl)
        have d0 : wr.cell? ⟨gp, 0, none⟩ = some (.slice (some ⟨b1, o1, none⟩) l.length ac) := blk_cell (i := 0) hP.cell rfl
        have d1 : wr.cell? ⟨gp, 1, none⟩ = some (.slice (some ⟨b2, o2, none⟩) m.length bc) := blk_cell (i := 1) hP.cell rfl
        have j0 : (0 : Int) ≤ (j : Int) := Int.natCast_nonneg _
        have j1 : (j : Int) < (m.length : Int) := by omega
        have HOD := hid (show OwnV wr.drew w.heap.size (.slice no X.length nc) X from HO.out)
        have HXL := hid (show X.length ≤ 1000 by have := HX.out; have := HLE.out; omega)
        have hzr := HB.out.size
        have HBD := hid (HB.out.trans ((below_drewN wr 1).mono HB.out.size))
        have hpg : gp < wr.heap.size := lt_of_block hP.cell
        clear hz hP he1 he2 c12 c13 c22 c23 hzn hj
        go_wp2_with fail
        go_region_law (refine step_append_v1 (by rfl) (.tmp 18) (.tmp 36) rfl w.heap.size (.slice no X.length nc) X (p1, p2) (by kernel_rfl) (World.ownsRow.alloc HOD.out _) _ rfl (SlR.one (heap_alloc_new _ _) rfl) (by have := HXL.out; omega) (Nat.le_trans hzr (by simp)) ?_; intro v8 w8 o8 b8; have HO8 := hid o8; have HB8 := hid b8; clear o8 b8)
        all_goals (
          go_wp2_with fail
          go_roundg (l.length - (k + 1))
          case measure => omega
          case rel => exact ⟨k + 1, X ++ [(p1, p2)], by go_num, hid ⟨by omega, Nat.le_refl _⟩, hid ⟨HE.out, by have := HX.out; simp; omega⟩, HO8, hid ((HBD.out.alloc HBD.out.size _).trans HB8.out)⟩)
    · obtain rfl : k = l.length := by omega
      have hneg : ¬ (l.length : Int) < (l.length : Int) := by omega
      have HSO := hid (PStV_any _ X wr w.heap.size HB.out.size HO.out (by have := HX.out; have := HLE.out; omega))
      clear hQ
      go_wp2_with (go_at_call 143; refine HSO.out.mono ?_; rintro e w5 ⟨rfl, hO5, hb5⟩)
      go_ret
      rw [← HX.out.1]
      exact ⟨_, rfl, hO5, HB.out.trans hb5⟩
end
end Go.Proofs.YtbnafihigoekeaaGreatDoor
namespace Go.Proofs.YtbnafihigoekeaaGreatDoor
structure Inv (n m : Nat) (P : Nat → Nat → Prop) (st : List Int × List Int) : Prop where
  len1 : st.1.length = n
  len2 : st.2.length = m
  val1 : ∀ (i : Nat) (z : Int), st.1[i]? = some z → z = -1 ∨ ∃ j : Nat, z = (j : Int)
  val2 : ∀ (j : Nat) (z : Int), st.2[j]? = some z → z = -1 ∨ ∃ i : Nat, z = (i : Int)
  fwd : ∀ i j : Nat, st.1[i]? = some (j : Int) → st.2[j]? = some (i : Int) ∧ P i j
  bwd : ∀ j i : Nat, st.2[j]? = some (i : Int) → st.1[i]? = some (j : Int)
theorem Inv.mono {n m : Nat} {P Q : Nat → Nat → Prop} {st : List Int × List Int} (h : Inv n m P st) (hPQ : ∀ i j, i < n → j < m → P i j → Q i j) : Inv n m Q st :=
  ⟨h.len1, h.len2, h.val1, h.val2, fun i j hij => ⟨(h.fwd i j hij).1, hPQ i j (by
    have := (List.getElem?_eq_some_iff.1 hij).1
    rw [← h.len1]
    exact this) (by
    have := (List.getElem?_eq_some_iff.1 (h.fwd i j hij).1).1
    rw [← h.len2]
    exact this) (h.fwd i j hij).2⟩, h.bwd⟩
theorem Inv.start (n m : Nat) (P : Nat → Nat → Prop) : Inv n m P (List.replicate n (-1), List.replicate m (-1)) := by
  have e : ∀ (n i : Nat) (z : Int), (List.replicate n (-1 : Int))[i]? = some z → z = -1 := fun n i z h => by
    rw [List.getElem?_replicate] at h
    split at h
    · exact (Option.some.inj h).symm
    · cases h
  exact ⟨by simp, by simp, fun i z h => .inl (e n i z h), fun i z h => .inl (e m i z h), fun i j h => by have := e n i _ h; omega, fun j i h => by have := e m j _ h; omega⟩
theorem Inv.join {n m : Nat} {P : Nat → Nat → Prop} {st : List Int × List Int} (h : Inv n m P st) {i j : Nat} (hi : i < n) (hj : j < m) (hP : P i j) : Inv n m P (joinL st i j) := by
  unfold joinL
  split
  · rename_i hf
    have g1 : ∀ (a : Nat) (z : Int), (st.1.set i (j : Int))[a]? = some z → (a = i ∧ z = (j : Int)) ∨ (a ≠ i ∧ st.1[a]? = some z) := fun a z hz => by
      rw [List.getElem?_set] at hz
      split at hz
      · rename_i e
        split at hz
        · exact .inl ⟨e.symm, (Option.some.inj hz).symm⟩
        · cases hz
      · rename_i e
        exact .inr ⟨fun e' => e e'.symm, hz⟩
    have g2 : ∀ (a : Nat) (z : Int), (st.2.set j (i : Int))[a]? = some z → (a = j ∧ z = (i : Int)) ∨ (a ≠ j ∧ st.2[a]? = some z) := fun a z hz => by
      rw [List.getElem?_set] at hz
      split at hz
      · rename_i e
        split at hz
        · exact .inl ⟨e.symm, (Option.some.inj hz).symm⟩
        · cases hz
      · rename_i e
        exact .inr ⟨fun e' => e e'.symm, hz⟩
    have s1 : (st.1.set i (j : Int))[i]? = some (j : Int) := by rw [List.getElem?_set_self (by rw [h.len1]; exact hi)]
    have s2 : (st.2.set j (i : Int))[j]? = some (i : Int) := by rw [List.getElem?_set_self (by rw [h.len2]; exact hj)]
    refine ⟨by rw [List.length_set]; exact h.len1, by rw [List.length_set]; exact h.len2, fun a z hz => ?_, fun a z hz => ?_, fun a b hab => ?_, fun b a hab => ?_⟩
    · rcases g1 a z hz with ⟨_, rfl⟩ | ⟨_, hz⟩
      · exact .inr ⟨j, rfl⟩
      · exact h.val1 a z hz
    · rcases g2 a z hz with ⟨_, rfl⟩ | ⟨_, hz⟩
      · exact .inr ⟨i, rfl⟩
      · exact h.val2 a z hz
    · rcases g1 a _ hab with ⟨rfl, e⟩ | ⟨hne, hz⟩
      · obtain rfl : b = j := by omega
        exact ⟨s2, hP⟩
      · obtain ⟨q1, q2⟩ := h.fwd a b hz
        refine ⟨?_, q2⟩
        have hbj : b ≠ j := fun e => by
          subst e
          rw [hf.2] at q1
          have := Option.some.inj q1
          omega
        show (st.2.set j (i : Int))[b]? = _
        rw [List.getElem?_set_ne (fun e => hbj e.symm)]
        exact q1
    · rcases g2 b _ hab with ⟨rfl, e⟩ | ⟨hne, hz⟩
      · obtain rfl : a = i := by omega
        exact s1
      · have q1 := h.bwd b a hz
        have hai : a ≠ i := fun e => by
          subst e
          rw [hf.1] at q1
          have := Option.some.inj q1
          omega
        show (st.1.set i (j : Int))[a]? = _
        rw [List.getElem?_set_ne (fun e => hai e.symm)]
        exact q1
  · exact h
def Taken (st : List Int × List Int) (i j : Nat) : Prop := st.1[i]? ≠ some (-1) ∨ st.2[j]? ≠ some (-1)
theorem Taken.mono {st : List Int × List Int} {i j : Nat} (h : Taken st i j) (a b : Nat) : Taken (joinL st a b) i j := by
  unfold joinL
  split
  · rcases h with h | h
    · left
      show (st.1.set a (b : Int))[i]? ≠ _
      rw [List.getElem?_set]
      split
      · split
        · exact fun e => by have := Option.some.inj e; omega
        · exact fun e => by cases e
      · exact h
    · right
      show (st.2.set b (a : Int))[j]? ≠ _
      rw [List.getElem?_set]
      split
      · split
        · exact fun e => by have := Option.some.inj e; omega
        · exact fun e => by cases e
      · exact h
  · exact h
theorem Taken.did (st : List Int × List Int) (i j : Nat) : Taken (joinL st i j) i j := by
  unfold joinL
  split
  · rename_i h
    left
    show (st.1.set i (j : Int))[i]? ≠ _
    have hlt := (List.getElem?_eq_some_iff.1 h.1).1
    rw [List.getElem?_set_self hlt]
    exact fun e => by have := Option.some.inj e; omega
  · rename_i h
    unfold Taken
    exact Decidable.not_and_iff_or_not.1 h
theorem joinAll_taken : ∀ (ms : List MtS) (st : List Int × List Int), (∀ i j, Taken st i j → Taken (joinAll st ms) i j) ∧ ∀ x ∈ ms, Taken (joinAll st ms) x.1 x.2.1
  | [], st => ⟨fun _ _ h => h, fun x hx => by cases hx⟩
  | x :: ms, st => by
    obtain ⟨h1, h2⟩ := joinAll_taken ms (joinL st x.1 x.2.1)
    refine ⟨fun i j h => h1 i j (h.mono _ _), fun y hy => ?_⟩
    rcases List.mem_cons.1 hy with rfl | hy
    · exact h1 _ _ (Taken.did _ _ _)
    · exact h2 y hy
theorem Inv.joinAll {n m : Nat} {P : Nat → Nat → Prop} : ∀ (ms : List MtS) (st : List Int × List Int), Inv n m P st → (∀ x ∈ ms, x.1 < n ∧ x.2.1 < m ∧ P x.1 x.2.1) → Inv n m P (joinAll st ms)
  | [], st, h, _ => h
  | x :: ms, st, h, hx => by
    have q := hx x (List.mem_cons_self ..)
    exact Inv.joinAll ms (joinL st x.1 x.2.1) (h.join q.1 q.2.1 q.2.2) fun y hy => hx y (List.mem_cons_of_mem _ hy)
theorem idx_of {l : List FileS} {j : Nat} {x : TwS} (hj : j < l.length) (h : twinAt l j = x) : idxTw (twUp l l.length) x = some j := by
  cases e : idxTw (twUp l l.length) x with
  | none =>
    unfold idxTw at e
    rw [List.findIdx?_eq_none_iff] at e
    have := e x (List.mem_of_getElem? (by rw [twUp_at hj, h]))
    simp at this
  | some i =>
    have h1 := idxTw_some e
    have hlt := (List.getElem?_eq_some_iff.1 h1).1
    rw [twUp_len] at hlt
    rw [twUp_at hlt] at h1
    rw [twinAt_inj hlt hj ((Option.some.inj h1).trans h.symm)]
theorem idx_twin {l : List FileS} {j : Nat} {x : TwS} (h : idxTw (twUp l l.length) x = some j) : j < l.length ∧ twinAt l j = x := by
  have h1 := idxTw_some h
  have hlt := (List.getElem?_eq_some_iff.1 h1).1
  rw [twUp_len] at hlt
  rw [twUp_at hlt] at h1
  exact ⟨hlt, Option.some.inj h1⟩
theorem Inv.joinTw {l m : List FileS} {st : List Int × List Int} (h : Inv l.length m.length (fun i j => twinAt l i = twinAt m j) st) : ∀ k, k ≤ l.length → Inv l.length m.length (fun i j => twinAt l i = twinAt m j) (joinTw l m st k)
  | 0, _ => h
  | k + 1, hk => by
    rw [joinTw_more]
    have ih := Inv.joinTw h k (by omega)
    unfold twinStep
    split
    · rename_i j hj
      obtain ⟨h1, h2⟩ := idx_twin hj
      exact ih.join (by omega) h1 h2.symm
    · exact ih
theorem joinTw_taken {l m : List FileS} {st : List Int × List Int} {i j : Nat} (he : twinAt l i = twinAt m j) (hj : j < m.length) : ∀ k, i < k → Taken (joinTw l m st k) i j
  | 0, h => by omega
  | k + 1, h => by
    rw [joinTw_more]
    by_cases e : i = k
    · subst e
      rw [twinStep, idx_of hj he.symm]
      exact Taken.did _ _ _
    · have ih := joinTw_taken (st := st) he hj k (by omega)
      unfold twinStep
      split
      · exact ih.mono _ _
      · exact ih
theorem twin_below {l : List FileS} {t : Txt} : ∀ (j : Nat), j < l.length → (l.getD j fileZ).2.2 = t → ∀ n, n ≤ cntT (l.take j) t → ∃ i, i ≤ j ∧ twinAt l i = (t, n) := by
  intro j
  induction j using Nat.strongRecOn with
  | ind j ih =>
    intro hj ht n hn
    by_cases e : n = cntT (l.take j) t
    · exact ⟨j, Nat.le_refl _, by rw [twinAt, ht, e]⟩
    · -- the last twin ahead of j
      have hpos : 0 < cntT (l.take j) t := by omega
      have key : ∀ q, q ≤ l.length → 0 < cntT (l.take q) t → ∃ i, i < q ∧ (l.getD i fileZ).2.2 = t ∧ cntT (l.take q) t = cntT (l.take i) t + 1 := by
        intro q
        induction q with
        | zero => intro _ h; simp [cntT] at h
        | succ q ihq =>
          intro hq h
          have hs : l.take (q + 1) = l.take q ++ [l.getD q fileZ] := by
            rw [List.take_add_one, List.getElem?_eq_getElem (by omega), List.getD_eq_getElem?_getD, List.getElem?_eq_getElem (by omega)]
            rfl
          have hc := cntT_snoc (l.take q) (l.getD q fileZ) t
          rw [← hs] at hc
          by_cases e2 : (l.getD q fileZ).2.2 = t
          · rw [if_pos e2] at hc
            exact ⟨q, by omega, e2, hc⟩
          · rw [if_neg e2] at hc
            obtain ⟨i, h1, h2, h3⟩ := ihq (by omega) (by omega)
            exact ⟨i, by omega, h2, by omega⟩
      obtain ⟨i, h1, h2, h3⟩ := key j (by omega) hpos
      obtain ⟨i', h4, h5⟩ := ih i h1 (by omega) h2 n (by omega)
      exact ⟨i', by omega, h5⟩
theorem twins_taken {l m : List FileS} {st : List Int × List Int} (h : Inv l.length m.length (fun i j => twinAt l i = twinAt m j) st) {i j : Nat} (hi : i < l.length) (hj : j < m.length) (ht : (l.getD i fileZ).2.2 = (m.getD j fileZ).2.2) :
    Taken (joinTw l m st l.length) i j := by
  have hI := Inv.joinTw h l.length (Nat.le_refl _)
  obtain ⟨t, et⟩ : ∃ t, (m.getD j fileZ).2.2 = t := ⟨_, rfl⟩
  rw [et] at ht
  by_cases hle : cntT (l.take i) t ≤ cntT (m.take j) t
  · obtain ⟨j', h1, h2⟩ := twin_below j hj et _ hle
    have he : twinAt l i = twinAt m j' := by rw [h2, twinAt, ht]
    rcases joinTw_taken (st := st) he (by omega) l.length hi with h3 | h3
    · exact .inl h3
    · left
      obtain ⟨z, hz⟩ : ∃ z, (joinTw l m st l.length).2[j']? = some z := ⟨_, List.getElem?_eq_getElem (by rw [hI.len2]; omega)⟩
      rcases hI.val2 j' z hz with e | ⟨i', e⟩
      · rw [hz, e] at h3
        exact absurd rfl h3
      · rw [e] at hz
        have h4 := hI.bwd j' i' hz
        have h5 := (hI.fwd i' j' h4).2
        have hi' : i' < l.length := by have := (List.getElem?_eq_some_iff.1 h4).1; rw [hI.len1] at this; exact this
        have : i' = i := twinAt_inj hi' hi (h5.trans he.symm)
        rw [← this, h4]
        exact fun e => by have := Option.some.inj e; omega
  · obtain ⟨i', h1, h2⟩ := twin_below i hi ht _ (Nat.le_of_lt (Nat.not_le.1 hle))
    have he : twinAt l i' = twinAt m j := by rw [h2, twinAt, et]
    have hi' : i' < l.length := by omega
    rcases joinTw_taken (st := st) he hj l.length hi' with h3 | h3
    · right
      obtain ⟨z, hz⟩ : ∃ z, (joinTw l m st l.length).1[i']? = some z := ⟨_, List.getElem?_eq_getElem (by rw [hI.len1]; omega)⟩
      rcases hI.val1 i' z hz with e | ⟨j', e⟩
      · rw [hz, e] at h3
        exact absurd rfl h3
      · rw [e] at hz
        obtain ⟨h4, h5⟩ := hI.fwd i' j' hz
        have hj' : j' < m.length := by have := (List.getElem?_eq_some_iff.1 h4).1; rw [hI.len2] at this; exact this
        have : j' = j := twinAt_inj hj' hj (h5.symm.trans he)
        rw [← this, h4]
        exact fun e => by have := Option.some.inj e; omega
    · exact .inr h3
end Go.Proofs.YtbnafihigoekeaaGreatDoor
namespace Go.Proofs.YtbnafihigoekeaaGreatDoor
open Go.Sort
theorem lone_mem {l m : List FileS} {x : FileS} : x ∈ loneS l m ↔ x ∈ l ∧ leftF m x := by
  unfold loneS leftF
  rw [List.mem_filter]
  have : loneB m x = true ↔ findS m x.1 = none ∧ x.2.2 ≠ [] := by
    unfold loneB
    rw [Bool.and_eq_true, Option.isNone_iff_eq_none]
    simp
  rw [this]
theorem lone_rise {l m : List FileS} (h : Rise l) : Rise (loneS l m) := List.Pairwise.sublist List.filter_sublist h
def st0S (B S : List FileS) : List Int × List Int := (List.replicate B.length (-1), List.replicate S.length (-1))
def st1S (B S : List FileS) : List Int × List Int := joinTw B S (st0S B S) B.length
def st2S (B S : List FileS) : List Int × List Int := joinAll (st1S B S) (matchS B S (st1S B S))
def renS (l m : List FileS) : List MvS := renUp (loneS l m) (loneS m l) (st2S (loneS l m) (loneS m l)).1 (loneS l m).length
theorem twin_text {B S : List FileS} {i j : Nat} (h : twinAt B i = twinAt S j) : (B.getD i fileZ).2.2 = (S.getD j fileZ).2.2 := congrArg Prod.fst h
def pairP (B S : List FileS) (i j : Nat) : Prop := alikeF (B.getD i fileZ) (S.getD j fileZ)
theorem inv1 (B S : List FileS) : Inv B.length S.length (pairP B S) (st1S B S) :=
  (Inv.joinTw (Inv.start B.length S.length _) B.length (Nat.le_refl _)).mono fun _ _ _ _ h => .inl (twin_text h)
theorem inv2 (B S : List FileS) : Inv B.length S.length (pairP B S) (st2S B S) := by
  refine Inv.joinAll _ _ (inv1 B S) fun x hx => ?_
  obtain ⟨h1, h2⟩ := matchS_in hx
  refine ⟨h1, h2, ?_⟩
  obtain ⟨a, b, ha, hb, hal, rfl⟩ := matUp_mem (matchS_mem.1 hx)
  obtain ⟨f, f1, _, f3, _⟩ := leftUp_mem ha
  obtain ⟨g, g1, _, g3, _⟩ := leftUp_mem hb
  show alikeF (B.getD a.1 fileZ) (S.getD b.1 fileZ)
  rw [getD_at f1, getD_at g1]
  right
  rw [alikeB, f3, g3] at hal
  exact of_decide_eq_true hal
theorem left_in {l : List FileS} {ws : List Int} {i : Nat} {f : FileS} (h : l[i]? = some f) (hw : ws[i]? = some (-1)) : (i, linesOf f.2.2) ∈ leftUp l ws l.length := by
  refine List.mem_filterMap.2 ⟨i, List.mem_range.2 (List.getElem?_eq_some_iff.1 h).1, ?_⟩
  rw [leftOne, h, hw]
  simp
theorem mat_in {A B : List TxS} {a b : TxS} (ha : a ∈ A) (hb : b ∈ B) (h : alikeB a.2 b.2 = true) : (a.1, b.1, ratioL a.2 b.2) ∈ matUp A B A.length := by
  refine List.mem_flatMap.2 ⟨a, by rw [List.take_length]; exact ha, List.mem_filterMap.2 ⟨b, by rw [List.take_length]; exact hb, ?_⟩⟩
  rw [oneM, if_pos h]
theorem taken2 {B S : List FileS} {i j : Nat} {x y : FileS} (hi : B[i]? = some x) (hj : S[j]? = some y) (h : alikeF x y) : Taken (st2S B S) i j := by
  have hil := (List.getElem?_eq_some_iff.1 hi).1
  have hjl := (List.getElem?_eq_some_iff.1 hj).1
  by_cases ht : Taken (st1S B S) i j
  · exact (joinAll_taken _ _).1 i j ht
  · have h1 : (st1S B S).1[i]? = some (-1) := Decidable.not_not.1 fun e => ht (.inl e)
    have h2 : (st1S B S).2[j]? = some (-1) := Decidable.not_not.1 fun e => ht (.inr e)
    rcases h with he | h5
    · exact absurd (twins_taken (Inv.start B.length S.length _) hil hjl (by rw [getD_at hi, getD_at hj]; exact he)) ht
    · exact (joinAll_taken _ _).2 (i, j, ratioL (linesOf x.2.2) (linesOf y.2.2)) (matchS_mem.2 (mat_in (a := (i, linesOf x.2.2)) (b := (j, linesOf y.2.2)) (left_in hi h1) (left_in hj h2) (decide_eq_true h5)))
theorem ren_at {B S : List FileS} {i : Nat} {p : MvS} (h : renOne B S (st2S B S).1 i = some p) : ∃ (j : Nat) (x y : FileS), (st2S B S).1[i]? = some (j : Int) ∧ (st2S B S).2[j]? = some (i : Int) ∧ B[i]? = some x ∧ S[j]? = some y ∧ p = (x.1, y.1) ∧ alikeF x y := by
  obtain ⟨z, hz, hn, rfl⟩ := ren_one h
  have hI := inv2 B S
  rcases hI.val1 i z hz with e | ⟨j, rfl⟩
  · exact absurd e hn
  · obtain ⟨h1, h2⟩ := hI.fwd i j hz
    have hi := (List.getElem?_eq_some_iff.1 hz).1
    have hj := (List.getElem?_eq_some_iff.1 h1).1
    rw [hI.len1] at hi
    rw [hI.len2] at hj
    refine ⟨j, B[i], S[j], hz, h1, List.getElem?_eq_getElem hi, List.getElem?_eq_getElem hj, ?_, ?_⟩
    · rw [getD_at (List.getElem?_eq_getElem hi), Int.toNat_natCast, getD_at (List.getElem?_eq_getElem hj)]
    · unfold pairP at h2
      rw [getD_at (List.getElem?_eq_getElem hi), getD_at (List.getElem?_eq_getElem hj)] at h2
      exact h2
theorem ren_rise {l m : List FileS} (tl : Rise l) : (renS l m).Pairwise fun p q => ltS p.1 q.1 = true := by
  unfold renS renUp
  rw [List.pairwise_filterMap]
  refine (range_pw _).imp fun {i j} hij p hp q hq => ?_
  obtain ⟨_, x, _, _, _, hx, _, rfl, _⟩ := ren_at hp
  obtain ⟨_, y, _, _, _, hy, _, rfl, _⟩ := ren_at hq
  exact rise_at (lone_rise tl) hij hx hy
theorem ren_once {l m : List FileS} (tm : Rise m) : (renS l m).Pairwise fun p q => p.2 ≠ q.2 := by
  unfold renS renUp
  rw [List.pairwise_filterMap]
  refine (range_pw _).imp fun {i j} hij p hp q hq he => ?_
  obtain ⟨a, _, x, _, h1, _, hx, rfl, _⟩ := ren_at hp
  obtain ⟨b, _, y, _, h2, _, hy, rfl, _⟩ := ren_at hq
  have he : x.1 = y.1 := he
  rcases Nat.lt_trichotomy a b with e | e | e
  · have := rise_at (lone_rise tm) e hx hy
    rw [he, lt_irr] at this
    cases this
  · subst e
    rw [h1] at h2
    have := Option.some.inj h2
    omega
  · have := rise_at (lone_rise tm) e hy hx
    rw [he, lt_irr] at this
    cases this
theorem ren_ok {l m : List FileS} (tl : Rise l) (tm : Rise m) : RenOk l m (renS l m) := by
  have mk : ∀ (i j : Nat) (x y : FileS), (loneS l m)[i]? = some x → (loneS m l)[j]? = some y → (st2S (loneS l m) (loneS m l)).1[i]? = some (j : Int) → (x.1, y.1) ∈ renS l m := fun i j x y hx hy hz => by
    refine List.mem_filterMap.2 ⟨i, List.mem_range.2 (List.getElem?_eq_some_iff.1 hx).1, ?_⟩
    rw [renOne, hz]
    dsimp only
    rw [if_neg (by omega), getD_at hx, Int.toNat_natCast, getD_at hy]
  refine ⟨fun p hp => ?_, ren_rise tl, ren_once tm, fun x hx y hy lx ly hal => ?_⟩
  · obtain ⟨i, _, hi⟩ := List.mem_filterMap.1 hp
    obtain ⟨j, x, y, _, _, hx, hy, rfl, hal⟩ := ren_at hi
    have h1 := lone_mem.1 (List.mem_of_getElem? hx)
    have h2 := lone_mem.1 (List.mem_of_getElem? hy)
    exact ⟨x, y, h1.1, h2.1, rfl, rfl, h1.2, h2.2, hal⟩
  · obtain ⟨i, hi⟩ := List.mem_iff_getElem?.1 (lone_mem.2 ⟨hx, lx⟩)
    obtain ⟨j, hj⟩ := List.mem_iff_getElem?.1 (lone_mem.2 ⟨hy, ly⟩)
    have hI := inv2 (loneS l m) (loneS m l)
    have hil := (List.getElem?_eq_some_iff.1 hi).1
    have hjl := (List.getElem?_eq_some_iff.1 hj).1
    rcases taken2 hi hj hal with h | h
    · left
      obtain ⟨z, hz⟩ : ∃ z, (st2S (loneS l m) (loneS m l)).1[i]? = some z := ⟨_, List.getElem?_eq_getElem (by rw [hI.len1]; exact hil)⟩
      rcases hI.val1 i z hz with e | ⟨j', rfl⟩
      · rw [hz, e] at h
        exact absurd rfl h
      · have hj' := (List.getElem?_eq_some_iff.1 (hI.fwd i j' hz).1).1
        rw [hI.len2] at hj'
        exact ⟨_, mk i j' x _ hi (List.getElem?_eq_getElem hj') hz, rfl⟩
    · right
      obtain ⟨z, hz⟩ : ∃ z, (st2S (loneS l m) (loneS m l)).2[j]? = some z := ⟨_, List.getElem?_eq_getElem (by rw [hI.len2]; exact hjl)⟩
      rcases hI.val2 j z hz with e | ⟨i', rfl⟩
      · rw [hz, e] at h
        exact absurd rfl h
      · have hz' := hI.bwd j i' hz
        have hi' := (List.getElem?_eq_some_iff.1 hz').1
        rw [hI.len1] at hi'
        exact ⟨_, mk i' j _ y (List.getElem?_eq_getElem hi') hj hz', rfl⟩
theorem ren_sorted {l m : List FileS} (tl : Rise l) : (stableA (ltOf cfV) (renS l m).toArray).toList = renS l m := by
  have h : AscS (ltOf cfV) (renS l m).toArray := fun i j hij hj => by
    have hj' : j < (renS l m).length := by simpa using hj
    have := List.pairwise_iff_getElem.1 (ren_rise (m := m) tl) i j (by omega) hj' hij
    rw [getElem!_pos _ _ (by simpa using hj'), getElem!_pos _ _ (by simp; omega)]
    simp only [List.getElem_toArray]
    exact (cmp_neg _ _).trans (lt_asym this)
  rw [stable_asc h]
theorem ren_valid (l m : List FileS) : Valid (st2S (loneS l m) (loneS m l)).1 (loneS m l).length := fun i z hz => by
  have hI := inv2 (loneS l m) (loneS m l)
  rcases hI.val1 i z hz with e | ⟨j, rfl⟩
  · exact .inl e
  · have hj := (List.getElem?_eq_some_iff.1 (hI.fwd i j hz).1).1
    rw [hI.len2] at hj
    exact .inr ⟨j, rfl, hj⟩
theorem lone_few {l m : List FileS} (h : IsTree l) : few (loneS l m) := by
  refine ⟨Nat.le_trans (List.length_filter_le _ _) (by have := h.len; omega), fun f hf => ?_⟩
  have := h.ok f (lone_mem.1 hf).1
  rw [okOne, Bool.and_eq_true] at this
  have := of_decide_eq_true this.2
  omega
end Go.Proofs.YtbnafihigoekeaaGreatDoor

/-
  TmDe, part 41.
-/
import Derived.Test.YtbnafihigoekeaaGreatDoorZe40
import Derived.StillTailTactics
import Derived.Deep.DeepCutAuto
import Derived.Deep.CutBlock
import Derived.Deep.CutRange
namespace Go.Proofs.YtbnafihigoekeaaGreatDoor
open Go.RowKit
theorem Tryz.sizeSides : (Tryz.prog.info? 54).map (·.size) = some 3 := by kernel_rfl
theorem Tryz.neS : 28 ≠ 54 := by decide
structure SidesAt (base gs gm N : Nat) (f : SpS → Option FileS) (X0 X1 : List FileS) (w : World) : Prop where
  ex : ∃ v0 v1 n D, w.heap[gs]? = some (.cells #[.map (some gm), v0, v1] 54 (0, 0)) ∧ n ≤ N ∧ OwnMs w gm n D ∧ ShowsS D f ∧ OwnF w base v0 X0 ∧ OwnF w base v1 X1 ∧ ∀ k, v0.ownBlock = some k → v1.ownBlock ≠ some k
  hgs : base ≤ gs
  hgm : base ≤ gm
theorem SidesAt.old {base gs gm N : Nat} {f : SpS → Option FileS} {X0 X1 : List FileS} {w w' : World} (h : SidesAt base gs gm N f X0 X1 w) (hk : Below w.heap.size w w') : SidesAt base gs gm N f X0 X1 w' := by
  obtain ⟨v0, v1, n, D, h1, h2, h3, h4, h5, h6, h7⟩ := h.ex
  exact ⟨⟨v0, v1, n, D, (hk.block _ (lt_of_block h1)).trans h1, h2, h3.old fun h => hk.block _ h, h4, World.ownsRow.kept' h5 hk, World.ownsRow.kept' h6 hk, h7⟩, h.hgs, h.hgm⟩
theorem SidesAt.lt {base gs gm N : Nat} {f : SpS → Option FileS} {X0 X1 : List FileS} {w : World} (h : SidesAt base gs gm N f X0 X1 w) : gs < w.heap.size := by
  obtain ⟨v0, v1, n, D, h1, _⟩ := h.ex
  exact lt_of_block h1
theorem map_ne {w : World} {g n k : Nat} {D : MW} {t : TypeId} {R : Value → Option (MW × List MemPlace)} {cs : Array Value} {e : TypeId} {fr : Nat × Nat} (h : w.ownsMap Tryz.prog t R g n D) (hk : w.heap[k]? = some (.cells cs e fr)) : k ≠ g := fun e' => by
  obtain ⟨es, clock, hb, _⟩ := h
  rw [e', hb] at hk
  cases hk
theorem OwnF.mapped {w w' : World} {base g n : Nat} {D : MW} {t : TypeId} {R : Value → Option (MW × List MemPlace)} {v : Value} {xs : List FileS} (h : OwnF w base v xs) (hm : w.ownsMap Tryz.prog t R g n D) (hg : w.grownBy w' (some g)) : OwnF w' base v xs := by
  rcases h.2 with hn | ⟨k, cap, cur, rfl, hb, hk, rest⟩
  · exact ⟨h.1, .inl hn⟩
  · exact ⟨h.1, .inr ⟨k, cap, cur, rfl, hb, (hg.block k (lt_of_block hk) (fun e => map_ne hm hk (by simpa using e))).trans hk, rest⟩⟩
theorem OwnF.beside {w w' : World} {base : Nat} {v u : Value} {xs : List FileS} (h : OwnF w base v xs) (hg : w.grownBy w' u.ownBlock) (hne : ∀ k, v.ownBlock = some k → u.ownBlock ≠ some k) : OwnF w' base v xs := by
  rcases h.2 with hn | ⟨k, cap, cur, rfl, hb, hk, rest⟩
  · exact ⟨h.1, .inl hn⟩
  · exact ⟨h.1, .inr ⟨k, cap, cur, rfl, hb, (hg.block k (lt_of_block hk) (fun e => hne k rfl e.symm)).trans hk, rest⟩⟩
theorem OwnF.cellSet {w : World} {base g i : Nat} {v u : Value} {xs : List FileS} {cs : Array Value} {e : TypeId} (h : OwnF w base v xs) (hg : w.heap[g]? = some (.cells cs e (0, 0))) (hne : 28 ≠ e) : OwnF (w.setCell ⟨g, i, none⟩ u) base v xs := h.fr (FrF.setCell hg hne)
theorem MapO.old {w w' : World} {g : Nat} {f : Txt → Option MvS} (h : MapO w g f) (hk : Below w.heap.size w w') : MapO w' g f := by
  obtain ⟨n, D, h1, h2⟩ := h
  exact ⟨n, D, h1.old fun h => hk.block _ h, h2⟩
theorem MapO.grown {w w' : World} {g : Nat} {row : Option Nat} {f : Txt → Option MvS} (h : MapO w g f) (hg : w.grownBy w' row) (hne : row ≠ some g) : MapO w' g f := by
  obtain ⟨n, D, h1, h2⟩ := h
  exact ⟨n, D, h1.old fun h => hg.block _ h fun e => hne e.symm, h2⟩
theorem MapO.cellSet {w : World} {g k i : Nat} {u : Value} {cs : Array Value} {e : TypeId} {fr : Nat × Nat} {f : Txt → Option MvS} (h : MapO w g f) (hk : w.heap[k]? = some (.cells cs e fr)) : MapO (w.setCell ⟨k, i, none⟩ u) g f := by
  obtain ⟨n, D, h1, h2⟩ := h
  exact ⟨n, D, h1.old fun _ => Below.heap_setCell _ _ _ _ (show g ≠ k from fun e => map_ne h1 hk e.symm), h2⟩
theorem row_ne_map {w : World} {base g n m size : Nat} {D : MW} {t e : TypeId} {R : Value → Option (MW × List MemPlace)} {v : Value} {xs : List Value} (hm : w.ownsMap Tryz.prog t R g n D) (h : w.ownsRow base e size v m xs) : v.ownBlock ≠ some g := by
  rcases h.2 with ⟨rfl, _⟩ | ⟨k, cap, cur, rfl, _, hk, _⟩
  · simp [Value.ownBlock]
  · intro he
    exact map_ne hm hk (by simpa [Value.ownBlock] using he)
theorem MapO.row {w : World} {base g size m : Nat} {e : TypeId} {f : Txt → Option MvS} {v : Value} {xs : List Value} (h : MapO w g f) (hr : w.ownsRow base e size v m xs) : v.ownBlock ≠ some g := by
  obtain ⟨n, D, h1, _⟩ := h
  exact row_ne_map h1 hr
section
variable {base gs gm N n : Nat} {f : SpS → Option FileS} {X0 X1 : List FileS} {w w' : World} {v0 v1 : Value} {D : MW}
theorem SidesAt.mapped (hg : w.heap[gs]? = some (.cells #[.map (some gm), v0, v1] 54 (0, 0))) (hn : n ≤ N) (hm : OwnMs w gm n D) (hs : ShowsS D f) (h0 : OwnF w base v0 X0) (h1 : OwnF w base v1 X1) (hne : ∀ k, v0.ownBlock = some k → v1.ownBlock ≠ some k)
    (hgs : base ≤ gs) (hgm : base ≤ gm) {k : SpS} (hk : spFit k) (q : FileS) (hown : OwnMs w' gm (n + 1) (D.put (keySp k) (filD q))) (hgr : w.grownBy w' (some gm)) : SidesAt base gs gm (N + 1) (upd f k q) X0 X1 w' :=
  ⟨⟨v0, v1, n + 1, _, (hgr.block gs (lt_of_block hg) (fun e => map_ne hm hg (by simpa using e))).trans hg, by omega, hown, hs.put (World.ownsMap.isMap hm) k hk q, h0.mapped hm hgr, h1.mapped hm hgr, hne⟩, hgs, hgm⟩
theorem SidesAt.grow0 {v5 : Value} {x : FileS} (hg : w.heap[gs]? = some (.cells #[.map (some gm), v0, v1] 54 (0, 0))) (hn : n ≤ N) (hm : OwnMs w gm n D) (hs : ShowsS D f) (h0 : OwnF w base v0 X0) (h1 : OwnF w base v1 X1) (hne : ∀ k, v0.ownBlock = some k → v1.ownBlock ≠ some k)
    (hgs : base ≤ gs) (hgm : base ≤ gm) (o5 : OwnF w' base v5 (X0 ++ [x])) (g5 : w.grownBy w' v0.ownBlock) (h5 : v5.ownBlock = v0.ownBlock ∨ v5.ownBlock = some w.heap.size) : SidesAt base gs gm N f (X0 ++ [x]) X1 (w'.setCell ⟨gs, 1, none⟩ v5) := by
  have hb : w'.heap[gs]? = some (.cells #[.map (some gm), v0, v1] 54 (0, 0)) := (g5.block gs (lt_of_block hg) (fun e => own_ne_of h0 hg Tryz.neS e.symm)).trans hg
  have hm5 : OwnMs w' gm n D := hm.old fun h => g5.block gm h fun e => row_ne_map hm h0 e.symm
  refine ⟨⟨v5, v1, n, D, blk_set hb, hn, hm5.old fun _ => Below.heap_setCell _ _ _ _ (show gm ≠ gs from fun e => map_ne hm5 hb e.symm), hs, o5.cellSet hb Tryz.neS, (h1.beside g5 fun k hk e => hne k e hk).cellSet hb Tryz.neS, fun k hk => ?_⟩, hgs, hgm⟩
  rcases h5 with e | e
  · exact hne k (e ▸ hk)
  · rw [e] at hk
    cases hk
    intro e1
    have := (h1.lt _ e1).2
    omega
theorem SidesAt.grow1 {v5 : Value} {x : FileS} (hg : w.heap[gs]? = some (.cells #[.map (some gm), v0, v1] 54 (0, 0))) (hn : n ≤ N) (hm : OwnMs w gm n D) (hs : ShowsS D f) (h0 : OwnF w base v0 X0) (h1 : OwnF w base v1 X1) (hne : ∀ k, v0.ownBlock = some k → v1.ownBlock ≠ some k)
    (hgs : base ≤ gs) (hgm : base ≤ gm) (o5 : OwnF w' base v5 (X1 ++ [x])) (g5 : w.grownBy w' v1.ownBlock) (h5 : v5.ownBlock = v1.ownBlock ∨ v5.ownBlock = some w.heap.size) : SidesAt base gs gm N f X0 (X1 ++ [x]) (w'.setCell ⟨gs, 2, none⟩ v5) := by
  have hb : w'.heap[gs]? = some (.cells #[.map (some gm), v0, v1] 54 (0, 0)) := (g5.block gs (lt_of_block hg) (fun e => own_ne_of h1 hg Tryz.neS e.symm)).trans hg
  have hm5 : OwnMs w' gm n D := hm.old fun h => g5.block gm h fun e => row_ne_map hm h1 e.symm
  refine ⟨⟨v0, v5, n, D, blk_set hb, hn, hm5.old fun _ => Below.heap_setCell _ _ _ _ (show gm ≠ gs from fun e => map_ne hm5 hb e.symm), hs, (h0.beside g5 hne).cellSet hb Tryz.neS, o5.cellSet hb Tryz.neS, fun k hk => ?_⟩, hgs, hgm⟩
  rcases h5 with e | e
  · rw [e]
    exact hne k hk
  · rw [e]
    intro e1
    cases e1
    have := (h0.lt _ hk).2
    omega
end
theorem path_max {l : List FileS} (h : IsTree l) {f : FileS} (hf : f ∈ l) : f.1.length ≤ maxLen := by
  have := okOne_len (h.ok _ hf)
  unfold maxLen
  omega
theorem org_len {a b : List FileS} (ta : IsTree a) (tb : IsTree b) {p : Txt} {o : MvS} (h : orgF a (renS a b) p = some o) : o.1.length ≤ maxLen := by
  have hP := RenEx.ok ta.rise tb.rise (ren_exB ta tb)
  by_cases hp : ∃ r ∈ renS a b, r.2 = p
  · obtain ⟨r, hr, rfl⟩ := hp
    rw [org_ren hP hr] at h
    have e : r = o := Option.some.inj h
    rw [← e]
    have h1 := (hP.there r hr).1
    cases hf : findS a r.1 with
    | none => rw [hf] at h1; cases h1
    | some f =>
      obtain ⟨h2, h3⟩ := find_some hf
      rw [← h3]
      exact path_max ta h2
  · rw [org_other fun r hr e => hp ⟨r, hr, e⟩] at h
    split at h
    · rename_i h1
      cases h
      cases hf : findS a p with
      | none => rw [hf] at h1; cases h1
      | some f =>
        obtain ⟨h2, h3⟩ := find_some hf
        show p.length ≤ maxLen
        rw [← h3]
        exact path_max ta h2
    · cases h
section
set_option maxRecDepth 100000
set_option maxHeartbeats 4000000
theorem DFindS_any (gs gm : Nat) (f : SpS → Option FileS) (ty : TypeId) (p : Txt) (i : Nat) (w : World) (n : Nat) (D : MW) (cs : Array Value) (hcs : cs[0]? = some (.map (some gm)))
    (hg : w.heap[gs]? = some (.cells cs ty (0, 0))) (hm : OwnMs w gm n D) (hs : ShowsS D f) (hp : p.length ≤ maxLen) (hi : i ≤ 1) :
    Calls Tryz.prog 50 #[.pointer (some ⟨gs, 0, none⟩), strV p, .int .u8 (i : Nat)] w fun e w' => e = .returned (.tuple #[fileV ((f (p, i)).getD fileZ), .bool (f (p, i)).isSome]) ∧ Below w.heap.size w w' := by
  obtain ⟨W, hW⟩ : ∃ y, w.alloc (.cells #[.string ⟨#[]⟩, .bool false, .string ⟨#[]⟩] 28) = y := ⟨_, rfl⟩
  have hB0 : Below w.heap.size w W := by rw [← hW]; exact (Below.refl _ w).alloc (Nat.le_refl _) _
  have hg6 : W.heap[w.heap.size]? = some (.cells #[.string ⟨#[]⟩, .bool false, .string ⟨#[]⟩] 28 (0, 0)) := by rw [← hW]; exact heap_alloc_new w _
  have c0 := below_cell hB0 (blk_cell (i := 0) hg hcs)
  have HM := hid (hm.old fun h => hB0.block _ h)
  have HS := hid hs
  have HF := hid (show spFit (p, i) from ⟨hp, hi⟩)
  have HB0 := hid hB0
  have HG6 := hid hg6
  clear hg hm hs hp hi hB0 hg6 hcs
  obtain ⟨r, hr⟩ : ∃ r, f (p, i) = r := ⟨_, rfl⟩
  obtain ⟨⟨rp, rx, rt⟩, hrv⟩ : ∃ y, r.getD fileZ = y := ⟨_, rfl⟩
  have hfil : filV (r.getD fileZ) = .agg #[.string ⟨rp.toArray⟩, .bool rx, .string ⟨rt.toArray⟩] := by rw [hrv]; rfl
  rw [hr, hrv]
  have HR := hid hr
  have HFIL := hid hfil
  clear hr hrv hfil
  unfold strV fileV strV
  go_enter Tryz.func50, Tryz.ntmps50
  go_upto_region 1 with fail
  try rw [hW]
  clear hW
  obtain ⟨g6, hg6⟩ : ∃ g, w.heap.size = g := ⟨_, rfl⟩
  have HGW := hid hg6
  rw [hg6] at HG6 HB0 ⊢
  clear hg6
  have HZ := hid (lt_of_block HG6.out)
  have HG6a := hid (show (W.alloc (.cells #[.string ⟨rp.toArray⟩, .bool rx, .string ⟨rt.toArray⟩] 28)).heap[g6]? = some (.cells #[.string ⟨#[]⟩, .bool false, .string ⟨#[]⟩] 28 (0, 0)) from (Below.heap_alloc _ _ _ HZ.out).trans HG6.out)
  have HBa := hid (show Below g6 w (W.alloc (.cells #[.string ⟨rp.toArray⟩, .bool rx, .string ⟨rt.toArray⟩] 28)) from HB0.out.alloc (Nat.le_of_lt HZ.out) _)
  go_wp2_with (first
    | (at_lookup; refine wpList_lookup_ms rfl (.tmp 14) (.tmp 17) rfl gm n D f (p, i) rfl HM.out HS.out HF.out rfl r HR.out ?_; rw [HFIL.out])
    | (refine file_store rfl 28 _ _ rfl g6 #[.string ⟨rp.toArray⟩, .bool rx, .string ⟨rt.toArray⟩] rfl rfl _ _ HG6a.out 3 Tryz.sizeFile rfl rfl (by simp [Value.oneCell']) ?_; intro w9 hg9 hk9))
  refine bodyPost_ret (file_results rfl _ _ g6 _ _ _ _ _ rfl rfl hg9 Tryz.underlying28 rfl Tryz.sizeFile) rfl ?_
  exact ⟨rfl, by rw [HGW.out]; exact HBa.out.trans (hk9.below (by have := HZ.out; simp; omega) (fun j hj e => by omega))⟩
theorem DEnter0_any (base gs gm N : Nat) (f : SpS → Option FileS) (X0 X1 : List FileS) (va vb : Value) (a b : List FileS) (w0 w : World) (h : SidesAt base gs gm N f X0 X1 w) (hw0 : w0.heap.size = base) (hbl : Below base w0 w) (ha : SlF w0 va a) (hb : SlF w0 vb b) (ta : IsTree a) (tb : IsTree b) (hN : N ≤ 1000) (hX : X0.length ≤ 1000) :
    Calls Tryz.prog 49 #[.pointer (some ⟨gs, 0, none⟩), .int .u8 0, va, vb] w fun e w' => e = .returned (.tuple #[]) ∧ SidesAt base gs gm (N + b.length) (entF a (renS a b) 0 f b) (X0 ++ (newF a (renS a b) b)) X1 w' ∧ Below base w w' := by
  obtain ⟨ao, ac, rfl⟩ := SlR.form ha
  obtain ⟨bo, bc, rfl⟩ := SlR.form hb
  have HBo := hid (fun wx (hk : Below base w0 wx) => SlR.old hb (w' := wx) (by rw [hw0]; exact hk))
  have HBL0 := hid hbl
  have HT := hid tb
  have HBL := hid tb.len
  have HNN := hid (And.intro hN hX)
  have HO := hid (DOrigins_any _ _ a b w (SlR.old ha (by rw [hw0]; exact hbl)) (HBo.out w hbl) ta tb)
  have HH := hid h
  have HBB := hid (show base ≤ w.heap.size from Nat.le_trans h.hgs (Nat.le_of_lt h.lt))
  have HOL := hid (show ∀ p o, orgF a (renS a b) p = some o → o.1.length ≤ maxLen from fun p o h => org_len ta tb h)
  clear h ha hb ta tb hN hX hw0 hbl
  generalize renS a b = R at *
  go_enter Tryz.func49, Tryz.ntmps49
  go_wp2_with fail
  refine HO.out.mono ?_
  rintro e w1 ⟨go, rfl, hgo, hmo, hb1⟩
  have HH1 := hid (HH.out.old hb1)
  have HB1 := hid (hb1.mono HBB.out)
  have HMO := hid hmo
  have HNE := hid (show gm ≠ go from fun e => by
    obtain ⟨_, _, n, D, _, _, h3, _⟩ := HH.out.ex
    have := h3.lt
    omega)
  clear hgo hmo hb1 HO HH
  go_wp2_with fail
  go_loopg [19] b.length (fun g i wr => ∃ k : Nat, i = .int .i64 (k : Int) ∧ Hid (k ≤ b.length ∧ b.length - k ≤ g) ∧ Hid (SidesAt base gs gm (N + k) (entF a R 0 f (b.take k)) (X0 ++ (newF a R (b.take k))) X1 wr) ∧ Hid (MapO wr go (orgF a R)) ∧ Hid (Below base w wr))
  case atStart => exact ⟨0, rfl, hid ⟨Nat.zero_le _, Nat.le_refl _⟩, hid (by simpa [entF, newF] using HH1.out), HMO, HB1⟩
  case round =>
    clear HH1 HMO HB1
    obtain ⟨k, rfl, HQ, HH, HMO, HBW⟩ := hrel
    have hQ := HQ.out
    have k0 : (0 : Int) ≤ (k : Int) := Int.natCast_nonneg _
    by_cases hlt : k < b.length
    case neg =>
      obtain rfl : k = b.length := by omega
      have hneg : ¬ (b.length : Int) < (b.length : Int) := by omega
      have HE := hid (show SidesAt base gs gm (N + b.length) (entF a R 0 f b) (X0 ++ (newF a R b)) X1 wr by have := HH.out; rwa [List.take_length] at this)
      clear HH
      go_wp2_with fail
      go_end0
      exact ⟨rfl, HE.out, HBW.out⟩
    have k1 : (k : Int) < (b.length : Int) := by omega
    have kw : IntKind.i64.wrap ((k : Int) + 1) = (k : Int) + 1 := IntWalk.i64_in _ (by have := HBL.out; omega)
    obtain ⟨b1, o1, p, x, t, e, he, c0, c1, c2⟩ := SlF.at (HBo.out wr (HBL0.out.trans HBW.out)) hlt
    cases e
    have HPL := hid (show p.length ≤ maxLen by have := okOne_len (HT.out.ok _ (List.mem_of_getElem? he)); simp only at this; unfold maxLen; omega)
    have HTK := hid (show b.take (k + 1) = b.take k ++ [(p, x, t)] by rw [List.take_add_one, he]; rfl)
    clear he
    obtain ⟨nm, Dm, hmo, hso⟩ := HMO.out
    obtain ⟨q, hq⟩ : ∃ q, orgF a R p = q := ⟨_, rfl⟩
    obtain ⟨⟨qp, qq⟩, hqv⟩ : ∃ y, q.getD ([], []) = y := ⟨_, rfl⟩
    have hren : renV (q.getD ([], [])) = .agg #[.string ⟨qp.toArray⟩, .string ⟨qq.toArray⟩] := by rw [hqv]; rfl
    have hz1 : (wr.alloc (.cells #[.string ⟨p.toArray⟩, .bool x, .string ⟨t.toArray⟩] 28)).heap.size = wr.heap.size + 1 := by simp
    have hbW : Below wr.heap.size wr ((wr.alloc (.cells #[.string ⟨p.toArray⟩, .bool x, .string ⟨t.toArray⟩] 28)).alloc (.cells #[.string ⟨p.toArray⟩, .int .u8 0] 119)) := ((Below.refl _ wr).alloc (Nat.le_refl _) _).alloc (by simp) _
    have g10 : ((wr.alloc (.cells #[.string ⟨p.toArray⟩, .bool x, .string ⟨t.toArray⟩] 28)).alloc (.cells #[.string ⟨p.toArray⟩, .int .u8 0] 119)).heap[wr.heap.size]? = some (.cells #[.string ⟨p.toArray⟩, .bool x, .string ⟨t.toArray⟩] 28 (0, 0)) := (Below.heap_alloc _ _ _ (by omega)).trans (heap_alloc_new wr _)
    have g11 : ((wr.alloc (.cells #[.string ⟨p.toArray⟩, .bool x, .string ⟨t.toArray⟩] 28)).alloc (.cells #[.string ⟨p.toArray⟩, .int .u8 0] 119)).heap[wr.heap.size + 1]? = some (.cells #[.string ⟨p.toArray⟩, .int .u8 0] 119 (0, 0)) := by
      have h := heap_alloc_new (wr.alloc (.cells #[.string ⟨p.toArray⟩, .bool x, .string ⟨t.toArray⟩] 28)) (.cells #[.string ⟨p.toArray⟩, .int .u8 0] 119)
      rwa [hz1] at h
    have HMW := hid (show OwnMr ((wr.alloc (.cells #[.string ⟨p.toArray⟩, .bool x, .string ⟨t.toArray⟩] 28)).alloc (.cells #[.string ⟨p.toArray⟩, .int .u8 0] 119)) go nm Dm from hmo.old fun h => hbW.block _ h)
    have HSO := hid hso
    have HQV := hid hq
    have HREN := hid hren
    have HSP := hid (show spotF a R p = if q.isSome = true then qp else p by
      unfold spotF
      rw [hq]
      cases q with
      | none => rfl
      | some o => rw [show o = (qp, qq) from hqv]; rfl)
    have HNW := hid (show newF a R (b.take (k + 1)) = newF a R (b.take k) ++ (if q.isSome = true then [] else [(p, x, t)]) by
      rw [newF, HTK.out, List.filter_append, newF]
      congr 1
      cases q with
      | none => rw [List.filter_cons_of_pos (by rw [hq]; rfl)]; rfl
      | some o => rw [List.filter_cons_of_neg (by rw [hq]; simp)]; rfl)
    have HEN := hid (show entF a R 0 f (b.take (k + 1)) = upd (entF a R 0 f (b.take k)) (spotF a R p, 0) (p, x, t) by
      rw [HTK.out, entF, List.foldl_append]
      rfl)
    have HQL := hid (show q.isSome = true → qp.length ≤ maxLen from fun h => by
      cases q with
      | none => cases h
      | some o => rw [show qp = o.1 from by rw [show o = (qp, qq) from hqv]]; exact HOL.out p o hq)
    have HWL := hid (show base ≤ wr.heap.size from Nat.le_trans HBB.out HBW.out.size)
    have HG10 := hid g10
    have HG11 := hid g11
    have HBV := hid hbW
    have e0 := blk_cell (i := 0) g10 rfl
    clear hmo hso hq hqv hren hz1 hbW g10 g11
    go_upto_region 5 with fail
    clear c0 c1 c2
    generalize ((wr.alloc (.cells #[.string ⟨p.toArray⟩, .bool x, .string ⟨t.toArray⟩] 28)).alloc (.cells #[.string ⟨p.toArray⟩, .int .u8 0] 119)) = W at *
    have HW1 := hid (lt_of_block HG11.out)
    have HQB := hid (show Below wr.heap.size wr (W.alloc (.cells #[.string ⟨qp.toArray⟩, .string ⟨qq.toArray⟩] 78)) from HBV.out.alloc HBV.out.size _)
    have HG10a := hid (show (W.alloc (.cells #[.string ⟨qp.toArray⟩, .string ⟨qq.toArray⟩] 78)).heap[wr.heap.size]? = _ from (Below.heap_alloc _ _ _ (lt_of_block HG10.out)).trans HG10.out)
    have HG11a := hid (show (W.alloc (.cells #[.string ⟨qp.toArray⟩, .string ⟨qq.toArray⟩] 78)).heap[wr.heap.size + 1]? = _ from (Below.heap_alloc _ _ _ HW1.out).trans HG11.out)
    have HG12a := hid (heap_alloc_new W (.cells #[.string ⟨qp.toArray⟩, .string ⟨qq.toArray⟩] 78))
    obtain ⟨qs, hqs⟩ : ∃ z, q.isSome = z := ⟨_, rfl⟩
    rw [hqs] at HSP HNW HQL
    go_upto_region 6 with (at_lookup; refine wpList_lookup_mr rfl (.tmp 28) (.tmp 30) rfl go nm Dm (orgF a R) p rfl HMW.out HSO.out HPL.out rfl q HQV.out ?_; rw [HREN.out, hqs])
    generalize W.alloc (.cells #[.string ⟨qp.toArray⟩, .string ⟨qq.toArray⟩] 78) = U at *
    clear hqs HQV HREN HMW HSO HBV HG10 HG11
    generalize W.heap.size = g12 at *
    have HUO := hid (HMO.out.old HQB.out)
    have HUS := hid (HH.out.old HQB.out)
    have hq10 := HG10a.out
    have hq11 := HG11a.out
    have u0 := blk_cell (i := 0) HG12a.out rfl
    have z0 := blk_free (i := 0) HG11a.out
    have zc := blk_cell (i := 0) HG11a.out rfl
    cases qs with
    | true =>
      have HV10 := hid (show (U.setCell ⟨wr.heap.size + 1, 0, none⟩ (.string ⟨qp.toArray⟩)).heap[wr.heap.size]? = some (.cells #[.string ⟨p.toArray⟩, .bool x, .string ⟨t.toArray⟩] 28 (0, 0)) from by
        rw [Below.heap_setCell _ _ _ _ (show wr.heap.size ≠ wr.heap.size + 1 by omega)]
        exact hq10)
      have HV11 := hid (show (U.setCell ⟨wr.heap.size + 1, 0, none⟩ (.string ⟨qp.toArray⟩)).heap[wr.heap.size + 1]? = some (.cells #[.string ⟨qp.toArray⟩, .int .u8 0] 119 (0, 0)) from blk_set hq11)
      have hvb : Below wr.heap.size wr (U.setCell ⟨wr.heap.size + 1, 0, none⟩ (.string ⟨qp.toArray⟩)) := HQB.out.setCell (Nat.le_succ _) _
      have HVO := hid (HMO.out.old hvb)
      have HVB := hid (hvb.mono HWL.out)
      have HVS := hid (HH.out.old hvb)
      have HKL := hid (HQL.out rfl)
      have HFIN := hid (fun (w9 : World) (h : SidesAt base gs gm (N + k + 1) (upd (entF a R 0 f (b.take k)) (qp, 0) (p, x, t)) (X0 ++ (newF a R (b.take k))) X1 w9) => (show SidesAt base gs gm (N + (k + 1)) (upd (entF a R 0 f (b.take k)) (if true = true then qp else p, 0) (p, x, t)) (X0 ++ (newF a R (b.take k) ++ if true = true then [] else [(p, x, t)])) X1 w9 from by simpa [Nat.add_assoc] using h))
      clear hvb
      go_upto_region 9 with fail
      generalize U.setCell ⟨wr.heap.size + 1, 0, none⟩ (.string ⟨qp.toArray⟩) = V at *
      clear u0 z0 zc hq10 hq11 e0 HG10a HG11a HG12a HQB HUO HUS
      obtain ⟨v0, v1, n, D, hgs, hn, hms, hss, h0, h1, hne⟩ := HVS.out.ex
      clear HVS
      have HGSV := hid hgs
      have HSID := hid (And.intro hn (And.intro hms (And.intro hss (And.intro h0 (And.intro h1 hne)))))
      have y0 : V.drew.cell? ⟨gs, 0, none⟩ = some (.map (some gm)) := blk_cell (i := 0) hgs rfl
      have y1 : V.drew.cell? ⟨wr.heap.size, 0, none⟩ = some (.string ⟨p.toArray⟩) := blk_cell (i := 0) HV10.out rfl
      have y2 : V.drew.cell? ⟨wr.heap.size, 1, none⟩ = some (.bool x) := blk_cell (i := 1) HV10.out rfl
      have y3 : V.drew.cell? ⟨wr.heap.size, 2, none⟩ = some (.string ⟨t.toArray⟩) := blk_cell (i := 2) HV10.out rfl
      have y4 : V.drew.cell? ⟨wr.heap.size + 1, 0, none⟩ = some (.string ⟨qp.toArray⟩) := blk_cell (i := 0) HV11.out rfl
      have y5 : V.drew.cell? ⟨wr.heap.size + 1, 1, none⟩ = some (.int .u8 0) := blk_cell (i := 1) HV11.out rfl
      have HFIT := hid (show spFit (qp, 0) from ⟨HKL.out, by show (0 : Nat) ≤ 1; omega⟩)
      have HKEY := hid (show keyOf Tryz.prog 119 (.agg #[.string ⟨qp.toArray⟩, .int .u8 0]) = some (keySp (qp, 0)) from sp_key HFIT.out)
      have HNM := hid (show n < maxLen by have := hn; have := HNN.out; have := HBL.out; unfold maxLen; omega)
      have HDM := hid (show OwnMs V.drew gm n D from hms)
      have HDG := hid (show V.drew.heap[gs]? = _ from hgs)
      have HD0 := hid (show OwnF V.drew base v0 _ from h0)
      have HD1 := hid (show OwnF V.drew base v1 _ from h1)
      have HDO := hid (show MapO V.drew go (orgF a R) from HVO.out)
      have HDB := hid (show Below base wr V.drew from HVB.out.drew)
      have HNV := hid (And.intro hn (And.intro hss hne))
      clear hgs hn hms hss h0 h1 hne HV10 HV11 HVO HVB HSID
      refine wp_region_still_tail 6 (by kernel_rfl) (by kernel_rfl) ?_
      simp only [List.take_succ_cons, List.take_zero, List.drop_succ_cons, List.drop_zero]
      change wpStill _ _ (World.drew V) (fun a' => wpList _ _ _ _ a' (World.drew V)) _ _
      generalize V.drew = V9 at y0 y1 y2 y3 y4 y5 HDM HDG HD0 HD1 HDO HDB ⊢
      repeat still_step
      try refine wpStill_nil ?_
      go_wp2_with (at_mapUpdate; refine wpList_mapUpdate_own _ rfl (.tmp 55) (.tmp 56) (.tmp 57) 51 rfl 119 28 Tryz.spotLawM Tryz.underlying51 filElem gm n D rfl HDM.out HNM.out _ _ (keySp (qp, 0)) rfl rfl HKEY.out (filD (p, x, t)) [] (filElem_mk (p, x, t)) ?_; intro w9 hown9 hgrow9; have HO9 := hid hown9; have HG9 := hid hgrow9; clear hown9 hgrow9)
      go_roundg (b.length - (k + 1))
      case measure => omega
      case rel => exact ⟨k + 1, by go_num, hid ⟨by omega, Nat.le_refl _⟩, hid (by rw [HEN.out, HSP.out, HNW.out]; exact HFIN.out w9 (SidesAt.mapped HDG.out HNV.out.1 HDM.out HNV.out.2.1 HD0.out HD1.out HNV.out.2.2 HH.out.hgs HH.out.hgm HFIT.out (p, x, t) HO9.out HG9.out)), hid (HDO.out.grown HG9.out (by simpa using HNE.out)), hid (HBW.out.trans (HDB.out.grown HG9.out (Nat.le_trans HWL.out HDB.out.size) (fun j hj => by cases hj; exact HH.out.hgm)))⟩
    | false =>
      have HKL := hid HPL.out
      obtain ⟨XX, hXX⟩ : ∃ z, X0 ++ newF a R (b.take k) = z := ⟨_, rfl⟩
      have HFIN := hid (fun (w9 : World) (h : SidesAt base gs gm (N + k + 1) (upd (entF a R 0 f (b.take k)) (p, 0) (p, x, t)) (XX ++ [(p, x, t)]) X1 w9) => (show SidesAt base gs gm (N + (k + 1)) (upd (entF a R 0 f (b.take k)) (if false = true then qp else p, 0) (p, x, t)) (X0 ++ (newF a R (b.take k) ++ if false = true then [] else [(p, x, t)])) X1 w9 from by rw [← hXX] at h; simpa [Nat.add_assoc] using h))
      have HXXL := hid (show XX.length ≤ 100000000 by
        have h1 : (newF a R (b.take k)).length ≤ (b.take k).length := List.length_filter_le _ _
        rw [← hXX, List.length_append]
        have h2 := HNN.out
        have h3 := HBL.out
        rw [List.length_take] at h1
        omega)
      have HHX := hid HH.out
      rw [hXX] at HHX
      clear hXX
      obtain ⟨v0, v1, n, D, hgs, hn, hms, hss, h0, h1, hne⟩ := HHX.out.ex
      have HRL := hid (fun j (hj : v0.ownBlock = some j) => World.ownsRow.lt h0 j hj)
      have hgsU := (HQB.out.block gs (lt_of_block hgs)).trans hgs
      have hVB : Below U.heap.size U (U.alloc (.cells #[.string ⟨p.toArray⟩, .bool x, .string ⟨t.toArray⟩] 28)).drew := ((Below.refl _ U).alloc (Nat.le_refl _) _).drew
      have hwB : Below wr.heap.size wr (U.alloc (.cells #[.string ⟨p.toArray⟩, .bool x, .string ⟨t.toArray⟩] 28)).drew := HQB.out.trans (hVB.mono HQB.out.size)
      have HGA := hid (show (U.alloc (.cells #[.string ⟨p.toArray⟩, .bool x, .string ⟨t.toArray⟩] 28)).drew.heap[gs]? = some (.cells #[.map (some gm), v0, v1] 54 (0, 0)) from (hwB.block gs (lt_of_block hgs)).trans hgs)
      have HMA := hid (show OwnMs (U.alloc (.cells #[.string ⟨p.toArray⟩, .bool x, .string ⟨t.toArray⟩] 28)).drew gm n D from hms.old fun h => hwB.block _ h)
      have HA0 := hid (show OwnF (U.alloc (.cells #[.string ⟨p.toArray⟩, .bool x, .string ⟨t.toArray⟩] 28)).drew base v0 _ from World.ownsRow.kept' h0 hwB)
      have HA1 := hid (show OwnF (U.alloc (.cells #[.string ⟨p.toArray⟩, .bool x, .string ⟨t.toArray⟩] 28)).drew base v1 _ from World.ownsRow.kept' h1 hwB)
      have HAO := hid (show MapO (U.alloc (.cells #[.string ⟨p.toArray⟩, .bool x, .string ⟨t.toArray⟩] 28)).drew go (orgF a R) from HMO.out.old hwB)
      have HAB := hid hwB
      have HSA := hid (show SlF (U.alloc (.cells #[.string ⟨p.toArray⟩, .bool x, .string ⟨t.toArray⟩] 28)).drew (.slice (some ⟨U.heap.size, 0, none⟩) 1 1) [(p, x, t)] from SlR.one (heap_alloc_new U _) rfl)
      have HA10 := hid (show (U.alloc (.cells #[.string ⟨p.toArray⟩, .bool x, .string ⟨t.toArray⟩] 28)).drew.heap[wr.heap.size]? = some (.cells #[.string ⟨p.toArray⟩, .bool x, .string ⟨t.toArray⟩] 28 (0, 0)) from (hVB.block _ (lt_of_block hq10)).trans hq10)
      have HA11 := hid (show (U.alloc (.cells #[.string ⟨p.toArray⟩, .bool x, .string ⟨t.toArray⟩] 28)).drew.heap[wr.heap.size + 1]? = some (.cells #[.string ⟨p.toArray⟩, .int .u8 0] 119 (0, 0)) from (hVB.block _ (lt_of_block hq11)).trans hq11)
      have HBASE := hid (show base ≤ (U.alloc (.cells #[.string ⟨p.toArray⟩, .bool x, .string ⟨t.toArray⟩] 28)).drew.heap.size from Nat.le_trans HWL.out hwB.size)
      have HNN2 := hid (And.intro hn (And.intro hss hne))
      obtain ⟨xo, xc, hvx⟩ := owns_form h0
      subst hvx
      have t1 : U.cell? ⟨gs, 1, none⟩ = some (.slice xo XX.length xc) := blk_cell (i := 1) hgsU rfl
      have t2 : (U.alloc (.cells #[.string ⟨p.toArray⟩, .bool x, .string ⟨t.toArray⟩] 28)).cell? ⟨gs, 1, none⟩ = some (.slice xo XX.length xc) := below_cell ((Below.refl _ U).alloc (Nat.le_refl _) _) t1
      have f0 := blk_cell (i := 0) hq10 rfl
      have f1 := blk_cell (i := 1) hq10 rfl
      have f2 := blk_cell (i := 2) hq10 rfl
      clear hgs hn hms hss h0 h1 hne hgsU hVB hwB HUS HUO u0 z0 zc e0
      go_upto_region 8 with fail
      go_region_law (
        refine step_append_f1g (by rfl) (.tmp 45) (.tmp 47) (by rfl) base (.slice xo XX.length xc) XX (p, x, t) (by kernel_rfl) HA0.out (.slice (some ⟨U.heap.size, 0, none⟩) 1 1) (by kernel_rfl) HSA.out HXXL.out HBASE.out ?_
        intro v5 w5 o5 g5 h5
        obtain ⟨so5, sc5, rfl⟩ : ∃ o c, v5 = .slice o (XX.length + 1) c := by obtain ⟨o, c, h⟩ := owns_form o5; exact ⟨o, c, by rw [h]; simp⟩
        have HS5 := hid (SidesAt.grow0 HGA.out HNN2.out.1 HMA.out HNN2.out.2.1 HA0.out HA1.out HNN2.out.2.2 HH.out.hgs HH.out.hgm o5 g5 h5)
        have hw5 := (g5.block gs (lt_of_block HGA.out) (fun e => own_ne_of HA0.out HGA.out Tryz.neS e.symm)).trans HGA.out
        have c5 := blk_cell (i := 1) hw5 rfl
        have z5 := blk_free (i := 1) hw5
        have HO5 := hid (MapO.cellSet (i := 1) (u := .slice so5 (XX.length + 1) sc5) (HAO.out.grown g5 (MapO.row HAO.out HA0.out)) hw5)
        have hw10 := (g5.block wr.heap.size (lt_of_block HA10.out) (fun e => by have := (HRL.out _ e.symm).2; omega)).trans HA10.out
        have hw11 := (g5.block (wr.heap.size + 1) (lt_of_block HA11.out) (fun e => by have := (HRL.out _ e.symm).2; omega)).trans HA11.out
        have HW10 := hid hw10
        have HW11 := hid hw11
        have HB5 := hid (((HAB.out.mono HWL.out).grown g5 HBASE.out (fun j hj => (HRL.out j hj).1)).setCell (p := ⟨gs, 1, none⟩) HH.out.hgs (.slice so5 (XX.length + 1) sc5))
        have HGS5 := hid (show wr.heap.size ≠ gs ∧ wr.heap.size + 1 ≠ gs from by have := HH.out.lt; omega)
        clear o5 g5 h5 hw5 hw10 hw11)
      all_goals (
        have HV10 := hid (show (w5.setCell ⟨gs, 1, none⟩ (.slice so5 (XX.length + 1) sc5)).heap[wr.heap.size]? = some (.cells #[.string ⟨p.toArray⟩, .bool x, .string ⟨t.toArray⟩] 28 (0, 0)) from by rw [Below.heap_setCell _ _ _ _ (show wr.heap.size ≠ gs from HGS5.out.1)]; exact HW10.out)
        have HV11 := hid (show (w5.setCell ⟨gs, 1, none⟩ (.slice so5 (XX.length + 1) sc5)).heap[wr.heap.size + 1]? = some (.cells #[.string ⟨p.toArray⟩, .int .u8 0] 119 (0, 0)) from by rw [Below.heap_setCell _ _ _ _ (show wr.heap.size + 1 ≠ gs from HGS5.out.2)]; exact HW11.out)
        clear c5 z5 t1 t2 f0 f1 f2 hq10 hq11 HG10a HG11a HG12a HQB
        go_upto_region 9 with fail
        generalize w5.setCell ⟨gs, 1, none⟩ (.slice so5 (XX.length + 1) sc5) = V at *
        have HVO := hid HO5.out
        have HVB := hid HB5.out
        obtain ⟨v0, v1, n, D, hgs, hn, hms, hss, h0, h1, hne⟩ := HS5.out.ex
        clear HS5
        have HGSV := hid hgs
        have HSID := hid (And.intro hn (And.intro hms (And.intro hss (And.intro h0 (And.intro h1 hne)))))
        have y0 : V.drew.cell? ⟨gs, 0, none⟩ = some (.map (some gm)) := blk_cell (i := 0) hgs rfl
        have y1 : V.drew.cell? ⟨wr.heap.size, 0, none⟩ = some (.string ⟨p.toArray⟩) := blk_cell (i := 0) HV10.out rfl
        have y2 : V.drew.cell? ⟨wr.heap.size, 1, none⟩ = some (.bool x) := blk_cell (i := 1) HV10.out rfl
        have y3 : V.drew.cell? ⟨wr.heap.size, 2, none⟩ = some (.string ⟨t.toArray⟩) := blk_cell (i := 2) HV10.out rfl
        have y4 : V.drew.cell? ⟨wr.heap.size + 1, 0, none⟩ = some (.string ⟨p.toArray⟩) := blk_cell (i := 0) HV11.out rfl
        have y5 : V.drew.cell? ⟨wr.heap.size + 1, 1, none⟩ = some (.int .u8 0) := blk_cell (i := 1) HV11.out rfl
        have HFIT := hid (show spFit (p, 0) from ⟨HKL.out, by show (0 : Nat) ≤ 1; omega⟩)
        have HKEY := hid (show keyOf Tryz.prog 119 (.agg #[.string ⟨p.toArray⟩, .int .u8 0]) = some (keySp (p, 0)) from sp_key HFIT.out)
        have HNM := hid (show n < maxLen by have := hn; have := HNN.out; have := HBL.out; unfold maxLen; omega)
        have HDM := hid (show OwnMs V.drew gm n D from hms)
        have HDG := hid (show V.drew.heap[gs]? = _ from hgs)
        have HD0 := hid (show OwnF V.drew base v0 _ from h0)
        have HD1 := hid (show OwnF V.drew base v1 _ from h1)
        have HDO := hid (show MapO V.drew go (orgF a R) from HVO.out)
        have HDB := hid (show Below base wr V.drew from HVB.out.drew)
        have HNV := hid (And.intro hn (And.intro hss hne))
        clear hgs hn hms hss h0 h1 hne HV10 HV11 HVO HVB HSID
        refine wp_region_still_tail 6 (by kernel_rfl) (by kernel_rfl) ?_
        simp only [List.take_succ_cons, List.take_zero, List.drop_succ_cons, List.drop_zero]
        change wpStill _ _ (World.drew V) (fun a' => wpList _ _ _ _ a' (World.drew V)) _ _
        generalize V.drew = V9 at y0 y1 y2 y3 y4 y5 HDM HDG HD0 HD1 HDO HDB ⊢
        repeat still_step
        try refine wpStill_nil ?_
        go_wp2_with (at_mapUpdate; refine wpList_mapUpdate_own _ rfl (.tmp 55) (.tmp 56) (.tmp 57) 51 rfl 119 28 Tryz.spotLawM Tryz.underlying51 filElem gm n D rfl HDM.out HNM.out _ _ (keySp (p, 0)) rfl rfl HKEY.out (filD (p, x, t)) [] (filElem_mk (p, x, t)) ?_; intro w9 hown9 hgrow9; have HO9 := hid hown9; have HG9 := hid hgrow9; clear hown9 hgrow9)
        go_roundg (b.length - (k + 1))
        case measure => omega
        case rel => exact ⟨k + 1, by go_num, hid ⟨by omega, Nat.le_refl _⟩, hid (by rw [HEN.out, HSP.out, HNW.out]; exact HFIN.out w9 (SidesAt.mapped HDG.out HNV.out.1 HDM.out HNV.out.2.1 HD0.out HD1.out HNV.out.2.2 HH.out.hgs HH.out.hgm HFIT.out (p, x, t) HO9.out HG9.out)), hid (HDO.out.grown HG9.out (by simpa using HNE.out)), hid (HBW.out.trans (HDB.out.grown HG9.out (Nat.le_trans HWL.out HDB.out.size) (fun j hj => by cases hj; exact HH.out.hgm)))⟩)
theorem DEnter1_any (base gs gm N : Nat) (f : SpS → Option FileS) (X0 X1 : List FileS) (va vb : Value) (a b : List FileS) (w0 w : World) (h : SidesAt base gs gm N f X0 X1 w) (hw0 : w0.heap.size = base) (hbl : Below base w0 w) (ha : SlF w0 va a) (hb : SlF w0 vb b) (ta : IsTree a) (tb : IsTree b) (hN : N ≤ 1000) (hX : X1.length ≤ 1000) :
    Calls Tryz.prog 49 #[.pointer (some ⟨gs, 0, none⟩), .int .u8 1, va, vb] w fun e w' => e = .returned (.tuple #[]) ∧ SidesAt base gs gm (N + b.length) (entF a (renS a b) 1 f b) X0 (X1 ++ (newF a (renS a b) b)) w' ∧ Below base w w' := by
  obtain ⟨ao, ac, rfl⟩ := SlR.form ha
  obtain ⟨bo, bc, rfl⟩ := SlR.form hb
  have HBo := hid (fun wx (hk : Below base w0 wx) => SlR.old hb (w' := wx) (by rw [hw0]; exact hk))
  have HBL0 := hid hbl
  have HT := hid tb
  have HBL := hid tb.len
  have HNN := hid (And.intro hN hX)
  have HO := hid (DOrigins_any _ _ a b w (SlR.old ha (by rw [hw0]; exact hbl)) (HBo.out w hbl) ta tb)
  have HH := hid h
  have HBB := hid (show base ≤ w.heap.size from Nat.le_trans h.hgs (Nat.le_of_lt h.lt))
  have HOL := hid (show ∀ p o, orgF a (renS a b) p = some o → o.1.length ≤ maxLen from fun p o h => org_len ta tb h)
  clear h ha hb ta tb hN hX hw0 hbl
  generalize renS a b = R at *
  go_enter Tryz.func49, Tryz.ntmps49
  go_wp2_with fail
  refine HO.out.mono ?_
  rintro e w1 ⟨go, rfl, hgo, hmo, hb1⟩
  have HH1 := hid (HH.out.old hb1)
  have HB1 := hid (hb1.mono HBB.out)
  have HMO := hid hmo
  have HNE := hid (show gm ≠ go from fun e => by
    obtain ⟨_, _, n, D, _, _, h3, _⟩ := HH.out.ex
    have := h3.lt
    omega)
  clear hgo hmo hb1 HO HH
  go_wp2_with fail
  go_loopg [19] b.length (fun g i wr => ∃ k : Nat, i = .int .i64 (k : Int) ∧ Hid (k ≤ b.length ∧ b.length - k ≤ g) ∧ Hid (SidesAt base gs gm (N + k) (entF a R 1 f (b.take k)) X0 (X1 ++ (newF a R (b.take k))) wr) ∧ Hid (MapO wr go (orgF a R)) ∧ Hid (Below base w wr))
  case atStart => exact ⟨0, rfl, hid ⟨Nat.zero_le _, Nat.le_refl _⟩, hid (by simpa [entF, newF] using HH1.out), HMO, HB1⟩
  case round =>
    clear HH1 HMO HB1
    obtain ⟨k, rfl, HQ, HH, HMO, HBW⟩ := hrel
    have hQ := HQ.out
    have k0 : (0 : Int) ≤ (k : Int) := Int.natCast_nonneg _
    by_cases hlt : k < b.length
    case neg =>
      obtain rfl : k = b.length := by omega
      have hneg : ¬ (b.length : Int) < (b.length : Int) := by omega
      have HE := hid (show SidesAt base gs gm (N + b.length) (entF a R 1 f b) X0 (X1 ++ (newF a R b)) wr by have := HH.out; rwa [List.take_length] at this)
      clear HH
      go_wp2_with fail
      go_end0
      exact ⟨rfl, HE.out, HBW.out⟩
    have k1 : (k : Int) < (b.length : Int) := by omega
    have kw : IntKind.i64.wrap ((k : Int) + 1) = (k : Int) + 1 := IntWalk.i64_in _ (by have := HBL.out; omega)
    obtain ⟨b1, o1, p, x, t, e, he, c0, c1, c2⟩ := SlF.at (HBo.out wr (HBL0.out.trans HBW.out)) hlt
    cases e
    have HPL := hid (show p.length ≤ maxLen by have := okOne_len (HT.out.ok _ (List.mem_of_getElem? he)); simp only at this; unfold maxLen; omega)
    have HTK := hid (show b.take (k + 1) = b.take k ++ [(p, x, t)] by rw [List.take_add_one, he]; rfl)
    clear he
    obtain ⟨nm, Dm, hmo, hso⟩ := HMO.out
    obtain ⟨q, hq⟩ : ∃ q, orgF a R p = q := ⟨_, rfl⟩
    obtain ⟨⟨qp, qq⟩, hqv⟩ : ∃ y, q.getD ([], []) = y := ⟨_, rfl⟩
    have hren : renV (q.getD ([], [])) = .agg #[.string ⟨qp.toArray⟩, .string ⟨qq.toArray⟩] := by rw [hqv]; rfl
    have hz1 : (wr.alloc (.cells #[.string ⟨p.toArray⟩, .bool x, .string ⟨t.toArray⟩] 28)).heap.size = wr.heap.size + 1 := by simp
    have hbW : Below wr.heap.size wr ((wr.alloc (.cells #[.string ⟨p.toArray⟩, .bool x, .string ⟨t.toArray⟩] 28)).alloc (.cells #[.string ⟨p.toArray⟩, .int .u8 1] 119)) := ((Below.refl _ wr).alloc (Nat.le_refl _) _).alloc (by simp) _
    have g10 : ((wr.alloc (.cells #[.string ⟨p.toArray⟩, .bool x, .string ⟨t.toArray⟩] 28)).alloc (.cells #[.string ⟨p.toArray⟩, .int .u8 1] 119)).heap[wr.heap.size]? = some (.cells #[.string ⟨p.toArray⟩, .bool x, .string ⟨t.toArray⟩] 28 (0, 0)) := (Below.heap_alloc _ _ _ (by omega)).trans (heap_alloc_new wr _)
    have g11 : ((wr.alloc (.cells #[.string ⟨p.toArray⟩, .bool x, .string ⟨t.toArray⟩] 28)).alloc (.cells #[.string ⟨p.toArray⟩, .int .u8 1] 119)).heap[wr.heap.size + 1]? = some (.cells #[.string ⟨p.toArray⟩, .int .u8 1] 119 (0, 0)) := by
      have h := heap_alloc_new (wr.alloc (.cells #[.string ⟨p.toArray⟩, .bool x, .string ⟨t.toArray⟩] 28)) (.cells #[.string ⟨p.toArray⟩, .int .u8 1] 119)
      rwa [hz1] at h
    have HMW := hid (show OwnMr ((wr.alloc (.cells #[.string ⟨p.toArray⟩, .bool x, .string ⟨t.toArray⟩] 28)).alloc (.cells #[.string ⟨p.toArray⟩, .int .u8 1] 119)) go nm Dm from hmo.old fun h => hbW.block _ h)
    have HSO := hid hso
    have HQV := hid hq
    have HREN := hid hren
    have HSP := hid (show spotF a R p = if q.isSome = true then qp else p by
      unfold spotF
      rw [hq]
      cases q with
      | none => rfl
      | some o => rw [show o = (qp, qq) from hqv]; rfl)
    have HNW := hid (show newF a R (b.take (k + 1)) = newF a R (b.take k) ++ (if q.isSome = true then [] else [(p, x, t)]) by
      rw [newF, HTK.out, List.filter_append, newF]
      congr 1
      cases q with
      | none => rw [List.filter_cons_of_pos (by rw [hq]; rfl)]; rfl
      | some o => rw [List.filter_cons_of_neg (by rw [hq]; simp)]; rfl)
    have HEN := hid (show entF a R 1 f (b.take (k + 1)) = upd (entF a R 1 f (b.take k)) (spotF a R p, 1) (p, x, t) by
      rw [HTK.out, entF, List.foldl_append]
      rfl)
    have HQL := hid (show q.isSome = true → qp.length ≤ maxLen from fun h => by
      cases q with
      | none => cases h
      | some o => rw [show qp = o.1 from by rw [show o = (qp, qq) from hqv]]; exact HOL.out p o hq)
    have HWL := hid (show base ≤ wr.heap.size from Nat.le_trans HBB.out HBW.out.size)
    have HG10 := hid g10
    have HG11 := hid g11
    have HBV := hid hbW
    have e0 := blk_cell (i := 0) g10 rfl
    clear hmo hso hq hqv hren hz1 hbW g10 g11
    go_upto_region 5 with fail
    clear c0 c1 c2
    generalize ((wr.alloc (.cells #[.string ⟨p.toArray⟩, .bool x, .string ⟨t.toArray⟩] 28)).alloc (.cells #[.string ⟨p.toArray⟩, .int .u8 1] 119)) = W at *
    have HW1 := hid (lt_of_block HG11.out)
    have HQB := hid (show Below wr.heap.size wr (W.alloc (.cells #[.string ⟨qp.toArray⟩, .string ⟨qq.toArray⟩] 78)) from HBV.out.alloc HBV.out.size _)
    have HG10a := hid (show (W.alloc (.cells #[.string ⟨qp.toArray⟩, .string ⟨qq.toArray⟩] 78)).heap[wr.heap.size]? = _ from (Below.heap_alloc _ _ _ (lt_of_block HG10.out)).trans HG10.out)
    have HG11a := hid (show (W.alloc (.cells #[.string ⟨qp.toArray⟩, .string ⟨qq.toArray⟩] 78)).heap[wr.heap.size + 1]? = _ from (Below.heap_alloc _ _ _ HW1.out).trans HG11.out)
    have HG12a := hid (heap_alloc_new W (.cells #[.string ⟨qp.toArray⟩, .string ⟨qq.toArray⟩] 78))
    obtain ⟨qs, hqs⟩ : ∃ z, q.isSome = z := ⟨_, rfl⟩
    rw [hqs] at HSP HNW HQL
    go_upto_region 6 with (at_lookup; refine wpList_lookup_mr rfl (.tmp 28) (.tmp 30) rfl go nm Dm (orgF a R) p rfl HMW.out HSO.out HPL.out rfl q HQV.out ?_; rw [HREN.out, hqs])
    generalize W.alloc (.cells #[.string ⟨qp.toArray⟩, .string ⟨qq.toArray⟩] 78) = U at *
    clear hqs HQV HREN HMW HSO HBV HG10 HG11
    generalize W.heap.size = g12 at *
    have HUO := hid (HMO.out.old HQB.out)
    have HUS := hid (HH.out.old HQB.out)
    have hq10 := HG10a.out
    have hq11 := HG11a.out
    have u0 := blk_cell (i := 0) HG12a.out rfl
    have z0 := blk_free (i := 0) HG11a.out
    have zc := blk_cell (i := 0) HG11a.out rfl
    cases qs with
    | true =>
      have HV10 := hid (show (U.setCell ⟨wr.heap.size + 1, 0, none⟩ (.string ⟨qp.toArray⟩)).heap[wr.heap.size]? = some (.cells #[.string ⟨p.toArray⟩, .bool x, .string ⟨t.toArray⟩] 28 (0, 0)) from by
        rw [Below.heap_setCell _ _ _ _ (show wr.heap.size ≠ wr.heap.size + 1 by omega)]
        exact hq10)
      have HV11 := hid (show (U.setCell ⟨wr.heap.size + 1, 0, none⟩ (.string ⟨qp.toArray⟩)).heap[wr.heap.size + 1]? = some (.cells #[.string ⟨qp.toArray⟩, .int .u8 1] 119 (0, 0)) from blk_set hq11)
      have hvb : Below wr.heap.size wr (U.setCell ⟨wr.heap.size + 1, 0, none⟩ (.string ⟨qp.toArray⟩)) := HQB.out.setCell (Nat.le_succ _) _
      have HVO := hid (HMO.out.old hvb)
      have HVB := hid (hvb.mono HWL.out)
      have HVS := hid (HH.out.old hvb)
      have HKL := hid (HQL.out rfl)
      have HFIN := hid (fun (w9 : World) (h : SidesAt base gs gm (N + k + 1) (upd (entF a R 1 f (b.take k)) (qp, 1) (p, x, t)) X0 (X1 ++ (newF a R (b.take k))) w9) => (show SidesAt base gs gm (N + (k + 1)) (upd (entF a R 1 f (b.take k)) (if true = true then qp else p, 1) (p, x, t)) X0 (X1 ++ (newF a R (b.take k) ++ if true = true then [] else [(p, x, t)])) w9 from by simpa [Nat.add_assoc] using h))
      clear hvb
      go_upto_region 9 with fail
      generalize U.setCell ⟨wr.heap.size + 1, 0, none⟩ (.string ⟨qp.toArray⟩) = V at *
      clear u0 z0 zc hq10 hq11 e0 HG10a HG11a HG12a HQB HUO HUS
      obtain ⟨v0, v1, n, D, hgs, hn, hms, hss, h0, h1, hne⟩ := HVS.out.ex
      clear HVS
      have HGSV := hid hgs
      have HSID := hid (And.intro hn (And.intro hms (And.intro hss (And.intro h0 (And.intro h1 hne)))))
      have y0 : V.drew.cell? ⟨gs, 0, none⟩ = some (.map (some gm)) := blk_cell (i := 0) hgs rfl
      have y1 : V.drew.cell? ⟨wr.heap.size, 0, none⟩ = some (.string ⟨p.toArray⟩) := blk_cell (i := 0) HV10.out rfl
      have y2 : V.drew.cell? ⟨wr.heap.size, 1, none⟩ = some (.bool x) := blk_cell (i := 1) HV10.out rfl
      have y3 : V.drew.cell? ⟨wr.heap.size, 2, none⟩ = some (.string ⟨t.toArray⟩) := blk_cell (i := 2) HV10.out rfl
      have y4 : V.drew.cell? ⟨wr.heap.size + 1, 0, none⟩ = some (.string ⟨qp.toArray⟩) := blk_cell (i := 0) HV11.out rfl
      have y5 : V.drew.cell? ⟨wr.heap.size + 1, 1, none⟩ = some (.int .u8 1) := blk_cell (i := 1) HV11.out rfl
      have HFIT := hid (show spFit (qp, 1) from ⟨HKL.out, by show (1 : Nat) ≤ 1; omega⟩)
      have HKEY := hid (show keyOf Tryz.prog 119 (.agg #[.string ⟨qp.toArray⟩, .int .u8 1]) = some (keySp (qp, 1)) from sp_key HFIT.out)
      have HNM := hid (show n < maxLen by have := hn; have := HNN.out; have := HBL.out; unfold maxLen; omega)
      have HDM := hid (show OwnMs V.drew gm n D from hms)
      have HDG := hid (show V.drew.heap[gs]? = _ from hgs)
      have HD0 := hid (show OwnF V.drew base v0 _ from h0)
      have HD1 := hid (show OwnF V.drew base v1 _ from h1)
      have HDO := hid (show MapO V.drew go (orgF a R) from HVO.out)
      have HDB := hid (show Below base wr V.drew from HVB.out.drew)
      have HNV := hid (And.intro hn (And.intro hss hne))
      clear hgs hn hms hss h0 h1 hne HV10 HV11 HVO HVB HSID
      refine wp_region_still_tail 6 (by kernel_rfl) (by kernel_rfl) ?_
      simp only [List.take_succ_cons, List.take_zero, List.drop_succ_cons, List.drop_zero]
      change wpStill _ _ (World.drew V) (fun a' => wpList _ _ _ _ a' (World.drew V)) _ _
      generalize V.drew = V9 at y0 y1 y2 y3 y4 y5 HDM HDG HD0 HD1 HDO HDB ⊢
      repeat still_step
      try refine wpStill_nil ?_
      go_wp2_with (at_mapUpdate; refine wpList_mapUpdate_own _ rfl (.tmp 55) (.tmp 56) (.tmp 57) 51 rfl 119 28 Tryz.spotLawM Tryz.underlying51 filElem gm n D rfl HDM.out HNM.out _ _ (keySp (qp, 1)) rfl rfl HKEY.out (filD (p, x, t)) [] (filElem_mk (p, x, t)) ?_; intro w9 hown9 hgrow9; have HO9 := hid hown9; have HG9 := hid hgrow9; clear hown9 hgrow9)
      go_roundg (b.length - (k + 1))
      case measure => omega
      case rel => exact ⟨k + 1, by go_num, hid ⟨by omega, Nat.le_refl _⟩, hid (by rw [HEN.out, HSP.out, HNW.out]; exact HFIN.out w9 (SidesAt.mapped HDG.out HNV.out.1 HDM.out HNV.out.2.1 HD0.out HD1.out HNV.out.2.2 HH.out.hgs HH.out.hgm HFIT.out (p, x, t) HO9.out HG9.out)), hid (HDO.out.grown HG9.out (by simpa using HNE.out)), hid (HBW.out.trans (HDB.out.grown HG9.out (Nat.le_trans HWL.out HDB.out.size) (fun j hj => by cases hj; exact HH.out.hgm)))⟩
    | false =>
      have HKL := hid HPL.out
      obtain ⟨XX, hXX⟩ : ∃ z, X1 ++ newF a R (b.take k) = z := ⟨_, rfl⟩
      have HFIN := hid (fun (w9 : World) (h : SidesAt base gs gm (N + k + 1) (upd (entF a R 1 f (b.take k)) (p, 1) (p, x, t)) X0 (XX ++ [(p, x, t)]) w9) => (show SidesAt base gs gm (N + (k + 1)) (upd (entF a R 1 f (b.take k)) (if false = true then qp else p, 1) (p, x, t)) X0 (X1 ++ (newF a R (b.take k) ++ if false = true then [] else [(p, x, t)])) w9 from by rw [← hXX] at h; simpa [Nat.add_assoc] using h))
      have HXXL := hid (show XX.length ≤ 100000000 by
        have h1 : (newF a R (b.take k)).length ≤ (b.take k).length := List.length_filter_le _ _
        rw [← hXX, List.length_append]
        have h2 := HNN.out
        have h3 := HBL.out
        rw [List.length_take] at h1
        omega)
      have HHX := hid HH.out
      rw [hXX] at HHX
      clear hXX
      obtain ⟨v0, v1, n, D, hgs, hn, hms, hss, h0, h1, hne⟩ := HHX.out.ex
      have HRL := hid (fun j (hj : v1.ownBlock = some j) => World.ownsRow.lt h1 j hj)
      have hgsU := (HQB.out.block gs (lt_of_block hgs)).trans hgs
      have hVB : Below U.heap.size U (U.alloc (.cells #[.string ⟨p.toArray⟩, .bool x, .string ⟨t.toArray⟩] 28)).drew := ((Below.refl _ U).alloc (Nat.le_refl _) _).drew
      have hwB : Below wr.heap.size wr (U.alloc (.cells #[.string ⟨p.toArray⟩, .bool x, .string ⟨t.toArray⟩] 28)).drew := HQB.out.trans (hVB.mono HQB.out.size)
      have HGA := hid (show (U.alloc (.cells #[.string ⟨p.toArray⟩, .bool x, .string ⟨t.toArray⟩] 28)).drew.heap[gs]? = some (.cells #[.map (some gm), v0, v1] 54 (0, 0)) from (hwB.block gs (lt_of_block hgs)).trans hgs)
      have HMA := hid (show OwnMs (U.alloc (.cells #[.string ⟨p.toArray⟩, .bool x, .string ⟨t.toArray⟩] 28)).drew gm n D from hms.old fun h => hwB.block _ h)
      have HA0 := hid (show OwnF (U.alloc (.cells #[.string ⟨p.toArray⟩, .bool x, .string ⟨t.toArray⟩] 28)).drew base v0 _ from World.ownsRow.kept' h0 hwB)
      have HA1 := hid (show OwnF (U.alloc (.cells #[.string ⟨p.toArray⟩, .bool x, .string ⟨t.toArray⟩] 28)).drew base v1 _ from World.ownsRow.kept' h1 hwB)
      have HAO := hid (show MapO (U.alloc (.cells #[.string ⟨p.toArray⟩, .bool x, .string ⟨t.toArray⟩] 28)).drew go (orgF a R) from HMO.out.old hwB)
      have HAB := hid hwB
      have HSA := hid (show SlF (U.alloc (.cells #[.string ⟨p.toArray⟩, .bool x, .string ⟨t.toArray⟩] 28)).drew (.slice (some ⟨U.heap.size, 0, none⟩) 1 1) [(p, x, t)] from SlR.one (heap_alloc_new U _) rfl)
      have HA10 := hid (show (U.alloc (.cells #[.string ⟨p.toArray⟩, .bool x, .string ⟨t.toArray⟩] 28)).drew.heap[wr.heap.size]? = some (.cells #[.string ⟨p.toArray⟩, .bool x, .string ⟨t.toArray⟩] 28 (0, 0)) from (hVB.block _ (lt_of_block hq10)).trans hq10)
      have HA11 := hid (show (U.alloc (.cells #[.string ⟨p.toArray⟩, .bool x, .string ⟨t.toArray⟩] 28)).drew.heap[wr.heap.size + 1]? = some (.cells #[.string ⟨p.toArray⟩, .int .u8 1] 119 (0, 0)) from (hVB.block _ (lt_of_block hq11)).trans hq11)
      have HBASE := hid (show base ≤ (U.alloc (.cells #[.string ⟨p.toArray⟩, .bool x, .string ⟨t.toArray⟩] 28)).drew.heap.size from Nat.le_trans HWL.out hwB.size)
      have HNN2 := hid (And.intro hn (And.intro hss hne))
      obtain ⟨xo, xc, hvx⟩ := owns_form h1
      subst hvx
      have t1 : U.cell? ⟨gs, 2, none⟩ = some (.slice xo XX.length xc) := blk_cell (i := 2) hgsU rfl
      have t2 : (U.alloc (.cells #[.string ⟨p.toArray⟩, .bool x, .string ⟨t.toArray⟩] 28)).cell? ⟨gs, 2, none⟩ = some (.slice xo XX.length xc) := below_cell ((Below.refl _ U).alloc (Nat.le_refl _) _) t1
      have f0 := blk_cell (i := 0) hq10 rfl
      have f1 := blk_cell (i := 1) hq10 rfl
      have f2 := blk_cell (i := 2) hq10 rfl
      clear hgs hn hms hss h0 h1 hne hgsU hVB hwB HUS HUO u0 z0 zc e0
      go_upto_region 8 with fail
      go_region_law (
        refine step_append_f1g (by rfl) (.tmp 45) (.tmp 47) (by rfl) base (.slice xo XX.length xc) XX (p, x, t) (by kernel_rfl) HA1.out (.slice (some ⟨U.heap.size, 0, none⟩) 1 1) (by kernel_rfl) HSA.out HXXL.out HBASE.out ?_
        intro v5 w5 o5 g5 h5
        obtain ⟨so5, sc5, rfl⟩ : ∃ o c, v5 = .slice o (XX.length + 1) c := by obtain ⟨o, c, h⟩ := owns_form o5; exact ⟨o, c, by rw [h]; simp⟩
        have HS5 := hid (SidesAt.grow1 HGA.out HNN2.out.1 HMA.out HNN2.out.2.1 HA0.out HA1.out HNN2.out.2.2 HH.out.hgs HH.out.hgm o5 g5 h5)
        have hw5 := (g5.block gs (lt_of_block HGA.out) (fun e => own_ne_of HA1.out HGA.out Tryz.neS e.symm)).trans HGA.out
        have c5 := blk_cell (i := 2) hw5 rfl
        have z5 := blk_free (i := 2) hw5
        have HO5 := hid (MapO.cellSet (i := 2) (u := .slice so5 (XX.length + 1) sc5) (HAO.out.grown g5 (MapO.row HAO.out HA1.out)) hw5)
        have hw10 := (g5.block wr.heap.size (lt_of_block HA10.out) (fun e => by have := (HRL.out _ e.symm).2; omega)).trans HA10.out
        have hw11 := (g5.block (wr.heap.size + 1) (lt_of_block HA11.out) (fun e => by have := (HRL.out _ e.symm).2; omega)).trans HA11.out
        have HW10 := hid hw10
        have HW11 := hid hw11
        have HB5 := hid (((HAB.out.mono HWL.out).grown g5 HBASE.out (fun j hj => (HRL.out j hj).1)).setCell (p := ⟨gs, 2, none⟩) HH.out.hgs (.slice so5 (XX.length + 1) sc5))
        have HGS5 := hid (show wr.heap.size ≠ gs ∧ wr.heap.size + 1 ≠ gs from by have := HH.out.lt; omega)
        clear o5 g5 h5 hw5 hw10 hw11)
      all_goals (
        have HV10 := hid (show (w5.setCell ⟨gs, 2, none⟩ (.slice so5 (XX.length + 1) sc5)).heap[wr.heap.size]? = some (.cells #[.string ⟨p.toArray⟩, .bool x, .string ⟨t.toArray⟩] 28 (0, 0)) from by rw [Below.heap_setCell _ _ _ _ (show wr.heap.size ≠ gs from HGS5.out.1)]; exact HW10.out)
        have HV11 := hid (show (w5.setCell ⟨gs, 2, none⟩ (.slice so5 (XX.length + 1) sc5)).heap[wr.heap.size + 1]? = some (.cells #[.string ⟨p.toArray⟩, .int .u8 1] 119 (0, 0)) from by rw [Below.heap_setCell _ _ _ _ (show wr.heap.size + 1 ≠ gs from HGS5.out.2)]; exact HW11.out)
        clear c5 z5 t1 t2 f0 f1 f2 hq10 hq11 HG10a HG11a HG12a HQB
        go_upto_region 9 with fail
        generalize w5.setCell ⟨gs, 2, none⟩ (.slice so5 (XX.length + 1) sc5) = V at *
        have HVO := hid HO5.out
        have HVB := hid HB5.out
        obtain ⟨v0, v1, n, D, hgs, hn, hms, hss, h0, h1, hne⟩ := HS5.out.ex
        clear HS5
        have HGSV := hid hgs
        have HSID := hid (And.intro hn (And.intro hms (And.intro hss (And.intro h0 (And.intro h1 hne)))))
        have y0 : V.drew.cell? ⟨gs, 0, none⟩ = some (.map (some gm)) := blk_cell (i := 0) hgs rfl
        have y1 : V.drew.cell? ⟨wr.heap.size, 0, none⟩ = some (.string ⟨p.toArray⟩) := blk_cell (i := 0) HV10.out rfl
        have y2 : V.drew.cell? ⟨wr.heap.size, 1, none⟩ = some (.bool x) := blk_cell (i := 1) HV10.out rfl
        have y3 : V.drew.cell? ⟨wr.heap.size, 2, none⟩ = some (.string ⟨t.toArray⟩) := blk_cell (i := 2) HV10.out rfl
        have y4 : V.drew.cell? ⟨wr.heap.size + 1, 0, none⟩ = some (.string ⟨p.toArray⟩) := blk_cell (i := 0) HV11.out rfl
        have y5 : V.drew.cell? ⟨wr.heap.size + 1, 1, none⟩ = some (.int .u8 1) := blk_cell (i := 1) HV11.out rfl
        have HFIT := hid (show spFit (p, 1) from ⟨HKL.out, by show (1 : Nat) ≤ 1; omega⟩)
        have HKEY := hid (show keyOf Tryz.prog 119 (.agg #[.string ⟨p.toArray⟩, .int .u8 1]) = some (keySp (p, 1)) from sp_key HFIT.out)
        have HNM := hid (show n < maxLen by have := hn; have := HNN.out; have := HBL.out; unfold maxLen; omega)
        have HDM := hid (show OwnMs V.drew gm n D from hms)
        have HDG := hid (show V.drew.heap[gs]? = _ from hgs)
        have HD0 := hid (show OwnF V.drew base v0 _ from h0)
        have HD1 := hid (show OwnF V.drew base v1 _ from h1)
        have HDO := hid (show MapO V.drew go (orgF a R) from HVO.out)
        have HDB := hid (show Below base wr V.drew from HVB.out.drew)
        have HNV := hid (And.intro hn (And.intro hss hne))
        clear hgs hn hms hss h0 h1 hne HV10 HV11 HVO HVB HSID
        refine wp_region_still_tail 6 (by kernel_rfl) (by kernel_rfl) ?_
        simp only [List.take_succ_cons, List.take_zero, List.drop_succ_cons, List.drop_zero]
        change wpStill _ _ (World.drew V) (fun a' => wpList _ _ _ _ a' (World.drew V)) _ _
        generalize V.drew = V9 at y0 y1 y2 y3 y4 y5 HDM HDG HD0 HD1 HDO HDB ⊢
        repeat still_step
        try refine wpStill_nil ?_
        go_wp2_with (at_mapUpdate; refine wpList_mapUpdate_own _ rfl (.tmp 55) (.tmp 56) (.tmp 57) 51 rfl 119 28 Tryz.spotLawM Tryz.underlying51 filElem gm n D rfl HDM.out HNM.out _ _ (keySp (p, 1)) rfl rfl HKEY.out (filD (p, x, t)) [] (filElem_mk (p, x, t)) ?_; intro w9 hown9 hgrow9; have HO9 := hid hown9; have HG9 := hid hgrow9; clear hown9 hgrow9)
        go_roundg (b.length - (k + 1))
        case measure => omega
        case rel => exact ⟨k + 1, by go_num, hid ⟨by omega, Nat.le_refl _⟩, hid (by rw [HEN.out, HSP.out, HNW.out]; exact HFIN.out w9 (SidesAt.mapped HDG.out HNV.out.1 HDM.out HNV.out.2.1 HD0.out HD1.out HNV.out.2.2 HH.out.hgs HH.out.hgm HFIT.out (p, x, t) HO9.out HG9.out)), hid (HDO.out.grown HG9.out (by simpa using HNE.out)), hid (HBW.out.trans (HDB.out.grown HG9.out (Nat.le_trans HWL.out HDB.out.size) (fun j hj => by cases hj; exact HH.out.hgm)))⟩)
def SidesV (w : World) (base : Nat) (f : SpS → Option FileS) (X0 X1 : List FileS) (gm : Nat) (v0 v1 : Value) : Prop := ∃ n D, OwnMs w gm n D ∧ ShowsS D f ∧ OwnF w base v0 X0 ∧ OwnF w base v1 X1 ∧ base ≤ gm
theorem DSidesOf_any (va vb vc : Value) (a b c : List FileS) (w : World) (ha : SlF w va a) (hb : SlF w vb b) (hc : SlF w vc c) (ta : IsTree a) (tb : IsTree b) (tc : IsTree c) :
    Calls Tryz.prog 25 #[va, vb, vc] w fun e w' => ∃ gm v0 v1, e = .returned (.agg #[.map (some gm), v0, v1]) ∧ SidesV w' w.heap.size (lookF a b c (renS a b) (renS a c)) (addedS a b (renS a b)) (addedS a c (renS a c)) gm v0 v1 ∧ Below w.heap.size w w' := by
  have hz1 : (w.alloc (.cells #[.map none, .slice none 0 0, .slice none 0 0] 54)).heap.size = w.heap.size + 1 := by simp
  have hz2 : ((w.alloc (.cells #[.map none, .slice none 0 0, .slice none 0 0] 54)).alloc (.map #[] 0)).heap.size = w.heap.size + 2 := by simp
  have hb1 : Below w.heap.size w (((w.alloc (.cells #[.map none, .slice none 0 0, .slice none 0 0] 54)).alloc (.map #[] 0)).alloc (.cells #[.map (some (w.heap.size + 1)), .slice none 0 0, .slice none 0 0] 54)) := (((Below.refl _ w).alloc (Nat.le_refl _) _).alloc (by omega) _).alloc (by omega) _
  have hg6 : (((w.alloc (.cells #[.map none, .slice none 0 0, .slice none 0 0] 54)).alloc (.map #[] 0)).alloc (.cells #[.map (some (w.heap.size + 1)), .slice none 0 0, .slice none 0 0] 54)).heap[w.heap.size]? = some (.cells #[.map none, .slice none 0 0, .slice none 0 0] 54 (0, 0)) :=
    (Below.heap_alloc _ _ _ (by omega)).trans ((Below.heap_alloc _ _ _ (by omega)).trans (heap_alloc_new w _))
  have hg7 : (((w.alloc (.cells #[.map none, .slice none 0 0, .slice none 0 0] 54)).alloc (.map #[] 0)).alloc (.cells #[.map (some (w.heap.size + 1)), .slice none 0 0, .slice none 0 0] 54)).heap[w.heap.size + 2]? = some (.cells #[.map (some (w.heap.size + 1)), .slice none 0 0, .slice none 0 0] 54 (0, 0)) := by
    have h := heap_alloc_new ((w.alloc (.cells #[.map none, .slice none 0 0, .slice none 0 0] 54)).alloc (.map #[] 0)) (.cells #[.map (some (w.heap.size + 1)), .slice none 0 0, .slice none 0 0] 54)
    rwa [hz2] at h
  have hm : OwnMs (((w.alloc (.cells #[.map none, .slice none 0 0, .slice none 0 0] 54)).alloc (.map #[] 0)).alloc (.cells #[.map (some (w.heap.size + 1)), .slice none 0 0, .slice none 0 0] 54)) (w.heap.size + 1) 0 (.map []) := by
    have h := World.ownsMap_made (P := Tryz.prog) (k := 119) (R := filElem) (w.alloc (.cells #[.map none, .slice none 0 0, .slice none 0 0] 54))
    rw [hz1] at h
    exact World.ownsMap.alloc h _
  obtain ⟨w0, hw0⟩ : ∃ y, w.alloc (.cells #[.map none, .slice none 0 0, .slice none 0 0] 54) = y := ⟨_, rfl⟩
  have hw1 : w0.heap.size = w.heap.size + 1 := by rw [← hw0]; exact hz1
  have hbw : Below w.heap.size w w0 := by rw [← hw0]; exact (Below.refl _ w).alloc (Nat.le_refl _) _
  have hb2 : Below (w.heap.size + 1) w0 (((w.alloc (.cells #[.map none, .slice none 0 0, .slice none 0 0] 54)).alloc (.map #[] 0)).alloc (.cells #[.map (some (w.heap.size + 1)), .slice none 0 0, .slice none 0 0] 54)) := by rw [← hw0]; exact ((Below.refl _ _).alloc (by omega) _).alloc (by omega) _
  have HS0 := hid (show SidesAt (w.heap.size + 1) (w.heap.size + 1 + 1) (w.heap.size + 1) 0 (fun _ => none) [] [] (((w.alloc (.cells #[.map none, .slice none 0 0, .slice none 0 0] 54)).alloc (.map #[] 0)).alloc (.cells #[.map (some (w.heap.size + 1)), .slice none 0 0, .slice none 0 0] 54)) from
    ⟨⟨_, _, 0, _, hg7, Nat.le_refl _, hm, ShowsS.nil, World.ownsRow_nil _ _ _ _, World.ownsRow_nil _ _ _ _, fun k h => by cases h⟩, by omega, by omega⟩)
  have HB1 := hid hb2
  have HG0 := hid (show w0.heap[w.heap.size]? = some (.cells #[.map none, .slice none 0 0, .slice none 0 0] 54 (0, 0)) by rw [← hw0]; exact heap_alloc_new w _)
  have HBW := hid hbw
  have HL := hid (And.intro ta.len (And.intro tb.len tc.len))
  have HE0 := hid (fun (W : World) (h : SidesAt (w.heap.size + 1) (w.heap.size + 1 + 1) (w.heap.size + 1) 0 (fun _ => none) [] [] W) (hk : Below (w.heap.size + 1) w0 W) => DEnter0_any (w.heap.size + 1) (w.heap.size + 1 + 1) (w.heap.size + 1) 0 (fun _ => none) [] [] va vb a b w0 W h hw1 hk (ha.old hbw) (hb.old hbw) ta tb (by omega) (by simp))
  have HE1 := hid (fun (W : World) (f : SpS → Option FileS) (h : SidesAt (w.heap.size + 1) (w.heap.size + 1 + 1) (w.heap.size + 1) (0 + b.length) f ([] ++ newF a (renS a b) b) [] W) (hk : Below (w.heap.size + 1) w0 W) => DEnter1_any (w.heap.size + 1) (w.heap.size + 1 + 1) (w.heap.size + 1) (0 + b.length) f ([] ++ newF a (renS a b) b) [] va vc a c w0 W h hw1 hk (ha.old hbw) (hc.old hbw) ta tc (by have := tb.len; omega) (by simp))
  clear hz1 hz2 hb1 hg6 hg7 hm ha hb hc ta tb tc hw1 hbw hb2 hw0
  have hmm := @run_makeMap Tryz.prog
  go_enter Tryz.func25, Tryz.ntmps25
  go_wp2_with fail
  clear hmm
  refine (HE0.out _ HS0.out HB1.out).mono ?_
  rintro e w5 ⟨rfl, h5, hb5⟩
  have H5 := hid h5
  have HB5 := hid (HB1.out.trans hb5)
  clear h5 hb5 HS0 HB1
  go_wp2_with fail
  refine (HE1.out w5 _ H5.out HB5.out).mono ?_
  rintro e w6 ⟨rfl, h6, hb6⟩
  have HB6 := hid (HB5.out.trans hb6)
  have HG66 := hid ((HB6.out.block w.heap.size (Nat.lt_succ_self _)).trans HG0.out)
  have h7 := h6
  rw [new_added, new_added, List.nil_append, List.nil_append] at h7
  obtain ⟨v0, v1, n, D, hgs, hn, hms, hss, h0, h1, hne⟩ := h7.ex
  have HM6 := hid hms
  have HSS := hid (show ShowsS D (lookF a b c (renS a b) (renS a c)) from hss)
  have H0 := hid h0
  have H1 := hid h1
  have s0 := blk_cell (i := 0) hgs rfl
  have s1 := blk_cell (i := 1) hgs rfl
  have s2 := blk_cell (i := 2) hgs rfl
  obtain ⟨o0, q0, rfl⟩ := owns_form h0
  obtain ⟨o1, q1, rfl⟩ := owns_form h1
  clear h6 h7 hb6 hgs hn hms hss h0 h1 hne H5 HB5
  go_wp2_with (refine file_store rfl 54 _ _ rfl w.heap.size #[.map (some (w.heap.size + 1)), .slice o0 (addedS a b (renS a b)).length q0, .slice o1 (addedS a c (renS a c)).length q1] rfl rfl _ _ HG66.out 3 Tryz.sizeSides rfl rfl (by simp [Value.oneCell']) ?_; intro w7 hg7 hk7; have HG7 := hid hg7; have HK7 := hid hk7; clear hg7 hk7)
  refine bodyPost_ret (results_cell_row rfl _ _ w.heap.size _ _ _ _ rfl HG7.out Tryz.underlying54 rfl Tryz.sizeSides) rfl ?_
  have hK := HK7.out
  refine ⟨_, _, _, rfl, ⟨n, D, HM6.out.old fun h => hK.block _ h (by omega), HSS.out, owns_lower (hK.owns H0.out fun k hk e => ?_) (Nat.le_succ _), owns_lower (hK.owns H1.out fun k hk e => ?_) (Nat.le_succ _), Nat.le_succ _⟩, ?_⟩
  · have := (H0.out.lt k hk).1; omega
  · have := (H1.out.lt k hk).1; omega
  · exact (HBW.out.trans (HB6.out.mono (Nat.le_succ _))).trans (hK.below (Nat.le_trans HBW.out.size HB6.out.size) (fun j hj e => by omega))
end
end Go.Proofs.YtbnafihigoekeaaGreatDoor

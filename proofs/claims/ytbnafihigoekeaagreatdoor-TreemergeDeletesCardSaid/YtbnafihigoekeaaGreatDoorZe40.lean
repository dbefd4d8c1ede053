/-
  TmDe, part 40.
-/
import Derived.Test.YtbnafihigoekeaaGreatDoorZe38
import Derived.Test.YtbnafihigoekeaaGreatDoorZe39
import Derived.Test.YtbnafihigoekeaaGreatDoorZe26
import Derived.Maps.OwnSet
import Derived.Maps.AppendAt
import Derived.DeepKeys4
import Derived.Test.YtbnafihigoekeaaGreatDoorZe22
import Derived.Deep.RegionLaw
import Derived.Deep.DeepCutAuto
import Derived.Deep.CutBlock
import Derived.Deep.CutRange
namespace Go.Proofs.YtbnafihigoekeaaGreatDoor
open Go.RowKit
def renD (q : MvS) : MW := .agg [.lit (.string q.1), .lit (.string q.2)]
def renElem : Value → Option (MW × List MemPlace)
  | .agg cs => match cs.toList with
    | [.string a, .string b] => some (renD (a.data.toList, b.data.toList), [])
    | _ => none
  | _ => none
def renV (q : MvS) : Value := .agg #[.string ⟨q.1.toArray⟩, .string ⟨q.2.toArray⟩]
theorem renElem_mk (q : MvS) : renElem (renV q) = some (renD q, []) := by simp [renElem, renV]
theorem renElem_inv {v : Value} {q : MvS} {ps : List MemPlace} (h : renElem v = some (renD q, ps)) : v = renV q := by
  cases v with
  | agg cs =>
    obtain ⟨l⟩ := cs
    simp only [renElem] at h
    split at h
    · simp only [renD, Option.some.injEq, Prod.mk.injEq, DataW.agg.injEq, List.cons.injEq, DataW.lit.injEq, Lit.string.injEq, and_true] at h
      obtain ⟨⟨h1, h2⟩, _⟩ := h
      rw [renV, ← h1, ← h2]
    · cases h
  | _ => simp [renElem] at h
def filD (q : FileS) : MW := .agg [.lit (.string q.1), .lit (.bool q.2.1), .lit (.string q.2.2)]
def filElem : Value → Option (MW × List MemPlace)
  | .agg cs => match cs.toList with
    | [.string a, .bool x, .string b] => some (filD (a.data.toList, x, b.data.toList), [])
    | _ => none
  | _ => none
def filV (q : FileS) : Value := .agg #[.string ⟨q.1.toArray⟩, .bool q.2.1, .string ⟨q.2.2.toArray⟩]
theorem filElem_mk (q : FileS) : filElem (filV q) = some (filD q, []) := by simp [filElem, filV]
theorem filElem_inv {v : Value} {q : FileS} {ps : List MemPlace} (h : filElem v = some (filD q, ps)) : v = filV q := by
  cases v with
  | agg cs =>
    obtain ⟨l⟩ := cs
    simp only [filElem] at h
    split at h
    · simp only [filD, Option.some.injEq, Prod.mk.injEq, DataW.agg.injEq, List.cons.injEq, DataW.lit.injEq, Lit.string.injEq, Lit.bool.injEq, and_true] at h
      obtain ⟨⟨h1, h2, h3⟩, _⟩ := h
      rw [filV, ← h1, ← h2, ← h3]
    · cases h
  | _ => simp [filElem] at h
abbrev OwnMr (w : World) (b n : Nat) (D : MW) : Prop := w.ownsMap Tryz.prog 9 renElem b n D
def ShowsO (D : MW) (f : Txt → Option MvS) : Prop := ∀ p, Maps.has D (.string p) = (f p).isSome ∧ ∀ q, f p = some q → ∀ z, D.atKey (.string p) z = renD q
theorem ShowsO.nil : ShowsO (.map []) fun _ => none := fun _ => ⟨rfl, fun _ h => by cases h⟩
theorem ShowsO.put {D : MW} {f : Txt → Option MvS} (hD : Maps.IsMap D) (h : ShowsO D f) (k : Txt) (q : MvS) : ShowsO (D.put (.string k) (renD q)) (upd f k q) := fun p => by
  by_cases e : p = k
  · subst e
    refine ⟨(Maps.has_put_same hD (show WideAt.IsKeyLit (.string p) from trivial) _).trans (by simp [upd]), fun r hr z => ?_⟩
    simp only [upd, if_true] at hr
    cases hr
    exact Maps.atKey_put_same hD (show WideAt.IsKeyLit (.string p) from trivial) _ z
  · have hne : (Lit.string p) ≠ .string k := fun e' => e (by cases e'; rfl)
    rw [Maps.has_put_other hne]
    simp only [upd, if_neg e]
    refine ⟨(h p).1, fun r hr z => ?_⟩
    rw [Maps.atKey_put_other hne]
    exact (h p).2 r hr z
def MapO (w : World) (g : Nat) (f : Txt → Option MvS) : Prop := ∃ n D, OwnMr w g n D ∧ ShowsO D f
theorem OwnMr.old {w w' : World} {b n : Nat} {D : MW} (h : OwnMr w b n D) (hk : b < w.heap.size → w'.heap[b]? = w.heap[b]?) : OwnMr w' b n D := by
  have hlt := h.lt
  obtain ⟨es, clock, hb, r⟩ := h
  exact ⟨es, clock, (hk hlt).trans hb, r⟩
theorem Tryz.zeroMvA (w : World) : (zeroValue 78).run Tryz.prog w = .ok (renV ([], [])) w := by kernel_rfl
theorem Tryz.zeroFileA (w : World) : (zeroValue 28).run Tryz.prog w = .ok (filV fileZ) w := by kernel_rfl
theorem wpList_lookup_mr {ops : Array Oper} {rest : List Oper} {o : Oper} {a : Act} {w : World} {Q : Exit → Act → World → Prop} (hg : o.guard = none) (m x : Operand) (hop : o.op = Op.lookup 116 m x true)
    (b n : Nat) (D : MW) (f : Txt → Option MvS) (p : Txt) (hm : a.eval m = .map (some b)) (hown : OwnMr w b n D) (hs : ShowsO D f) (hp : p.length ≤ maxLen) (hx : a.eval x = .string ⟨p.toArray⟩) (r : Option MvS) (hr : f p = r)
    (hK : wpList Tryz.prog ops Q rest (a.put o.dst (.tuple #[renV (r.getD ([], [])), .bool r.isSome])) w) : wpList Tryz.prog ops Q (o :: rest) a w := by
  refine wpList_lookup_own_ok w hg m x 116 hop 9 78 (Maps.string_keyed Tryz.underlying9) Tryz.underlying116 renElem (Tryz.zeroMvA _) (renD ([], [])) [] (renElem_mk _) b n D hm hown _ (.string p) hx (key_str hp) fun v ps hv => ?_
  obtain ⟨h1, h2⟩ := hs p
  rw [h1, hr]
  cases r with
  | some q =>
    rw [h2 q hr] at hv
    rw [renElem_inv hv]
    exact hK
  | none =>
    have hn : D.atKey (.string p) (renD ([], [])) = renD ([], []) := Maps.atKey_of_not_has (by rw [h1, hr]; rfl) _
    rw [hn] at hv
    rw [renElem_inv hv]
    exact hK
theorem Tryz.laidOutS : laidOutB Tryz.prog = true := by kernel_rfl
theorem Tryz.rowSpotM : (119 : TypeId) < Tryz.prog.types.size := of_decide_eq_true (by kernel_rfl)
theorem Tryz.wideSpotM : (match Tryz.prog.underlying 119 with | some (.array _ _) | some (.struct _) => true | _ => false) = true := by rw [Tryz.underlying119]
set_option maxRecDepth 100000 in
theorem Tryz.spotLawM : Maps.Keyed Tryz.prog 119 := Maps.Keyed.of_law (deep_law_laid Tryz.laidOutS (m := 3) (by omega) Tryz.rowSpotM (by kernel_rfl) Tryz.wideSpotM)
abbrev SpS := Txt × Nat
def keySp (x : SpS) : Lit := .string (keyBytes [.string x.1, .int .u8 (x.2 : Nat)])
def spFit (x : SpS) : Prop := x.1.length ≤ maxLen ∧ x.2 ≤ 1
theorem sp_key {x : SpS} (h : spFit x) : keyOf Tryz.prog 119 (.agg #[.string ⟨x.1.toArray⟩, .int .u8 (x.2 : Nat)]) = some (keySp x) := by
  have hk : Tryz.prog.keyType 119 = true := by kernel_rfl
  have hc : Tryz.prog.cellsOf 119 = 2 := by kernel_rfl
  have hc1 : Tryz.prog.cellsOf 9 = 1 := by kernel_rfl
  have hc2 : Tryz.prog.cellsOf 84 = 1 := by kernel_rfl
  obtain ⟨h1, h2⟩ := h
  have w2 : (Lit.int .u8 (x.2 : Int)).wf = true := by simp [Lit.wf, IntKind.min, IntKind.max, IntKind.signed, IntKind.bits]; omega
  have hsz : (ByteArray.mk x.1.toArray).size ≤ maxLen := by
    show x.1.toArray.size ≤ maxLen
    simpa using h1
  obtain ⟨n, hn⟩ : ∃ n, Tryz.prog.types.size + 1 = n + 2 := ⟨Tryz.prog.types.size - 1, by have h : 119 < Tryz.prog.types.size := Tryz.rowSpotM; omega⟩
  unfold keyOf
  rw [Tryz.underlying119, hk, hn]
  simp [Value.formed, Tryz.underlying119, hc, Value.cells, Program.keyLits, hc1, hc2, Tryz.underlying84, Tryz.underlying9, w2, keySp, hsz]
theorem keySp_inj {x y : SpS} (hx : spFit x) (hy : spFit y) (h : keySp x = keySp y) : x = y := by
  have := Tryz.spotLawM.inj (sp_key hx) (h ▸ sp_key hy)
  simp at this
  exact Prod.ext this.1 (by omega)
abbrev OwnMs (w : World) (b n : Nat) (D : MW) : Prop := w.ownsMap Tryz.prog 119 filElem b n D
def ShowsS (D : MW) (f : SpS → Option FileS) : Prop := ∀ p, spFit p → Maps.has D (keySp p) = (f p).isSome ∧ ∀ q, f p = some q → ∀ z, D.atKey (keySp p) z = filD q
theorem ShowsS.nil : ShowsS (.map []) fun _ => none := fun _ _ => ⟨rfl, fun _ h => by cases h⟩
theorem ShowsS.put {D : MW} {f : SpS → Option FileS} (hD : Maps.IsMap D) (h : ShowsS D f) (k : SpS) (hk : spFit k) (q : FileS) : ShowsS (D.put (keySp k) (filD q)) (upd f k q) := fun p hp => by
  by_cases e : p = k
  · subst e
    refine ⟨(Maps.has_put_same hD (show WideAt.IsKeyLit (keySp p) from trivial) _).trans (by simp [upd]), fun r hr z => ?_⟩
    simp only [upd, if_true] at hr
    cases hr
    exact Maps.atKey_put_same hD (show WideAt.IsKeyLit (keySp p) from trivial) _ z
  · have hne : keySp p ≠ keySp k := fun e' => e (keySp_inj hp hk e')
    rw [Maps.has_put_other hne]
    simp only [upd, if_neg e]
    refine ⟨(h p hp).1, fun r hr z => ?_⟩
    rw [Maps.atKey_put_other hne]
    exact (h p hp).2 r hr z
theorem OwnMs.old {w w' : World} {b n : Nat} {D : MW} (h : OwnMs w b n D) (hk : b < w.heap.size → w'.heap[b]? = w.heap[b]?) : OwnMs w' b n D := by
  have hlt := h.lt
  obtain ⟨es, clock, hb, r⟩ := h
  exact ⟨es, clock, (hk hlt).trans hb, r⟩
theorem wpList_lookup_ms {ops : Array Oper} {rest : List Oper} {o : Oper} {a : Act} {w : World} {Q : Exit → Act → World → Prop} (hg : o.guard = none) (m x : Operand) (hop : o.op = Op.lookup 51 m x true)
    (b n : Nat) (D : MW) (f : SpS → Option FileS) (p : SpS) (hm : a.eval m = .map (some b)) (hown : OwnMs w b n D) (hs : ShowsS D f) (hp : spFit p) (hx : a.eval x = .agg #[.string ⟨p.1.toArray⟩, .int .u8 (p.2 : Nat)]) (r : Option FileS) (hr : f p = r)
    (hK : wpList Tryz.prog ops Q rest (a.put o.dst (.tuple #[filV (r.getD fileZ), .bool r.isSome])) w) : wpList Tryz.prog ops Q (o :: rest) a w := by
  refine wpList_lookup_own_ok w hg m x 51 hop 119 28 Tryz.spotLawM Tryz.underlying51 filElem (Tryz.zeroFileA _) (filD fileZ) [] (filElem_mk _) b n D hm hown _ (keySp p) hx (sp_key hp) fun v ps hv => ?_
  obtain ⟨h1, h2⟩ := hs p hp
  rw [h1, hr]
  cases r with
  | some q =>
    rw [h2 q hr] at hv
    rw [filElem_inv hv]
    exact hK
  | none =>
    have hn : D.atKey (keySp p) (filD fileZ) = filD fileZ := Maps.atKey_of_not_has (by rw [h1, hr]; rfl) _
    rw [hn] at hv
    rw [filElem_inv hv]
    exact hK
theorem ren_lenB (l m : List FileS) : (renS l m).length ≤ l.length := by
  unfold renS
  exact Nat.le_trans (renUp_len _ _ _ _) (List.length_filter_le _ _)
theorem ren_exB {l m : List FileS} (tl : IsTree l) (tm : IsTree m) : RenEx l m (renS l m) := ren_ex tl.rise tm.rise (Nat.le_trans tl.len (by omega)) (Nat.le_trans tm.len (by omega))
theorem mapKeep_sl {α : Type} {E : Enc α} {w w' : World} {g n : Nat} {D : MW} {v : Value} {xs : List α} {k : TypeId} {R : Value → Option (MW × List MemPlace)} (h : SlR E w v xs) (hm : w.ownsMap Tryz.prog k R g n D) (hg : w.grownBy w' (some g)) : SlR E w' v xs := by
  obtain ⟨es, clock, hb, _⟩ := hm
  obtain ⟨ao, cap, hv, hnone, hcap, hc⟩ := h
  refine ⟨ao, cap, hv, hnone, hcap, fun a ha i x hx j u hu => ?_⟩
  have h1 := hc a ha i x hx j u hu
  have hlt := World.block_lt_of_cell? w _ h1
  refine (World.cell?_of_block (hg.block _ hlt fun e => ?_)).trans h1
  have e : (a.add (i * E.k + j)).block = g := by simpa using e
  simp [World.cell?, e, hb] at h1
section
set_option maxRecDepth 100000
set_option maxHeartbeats 4000000
theorem DOrigins_any (va vb : Value) (a b : List FileS) (w : World) (ha : SlF w va a) (hb : SlF w vb b) (ta : IsTree a) (tb : IsTree b) :
    Calls Tryz.prog 73 #[va, vb] w fun e w' => ∃ g, e = .returned (.map (some g)) ∧ w.heap.size ≤ g ∧ MapO w' g (orgF a (renS a b)) ∧ Below w.heap.size w w' := by
  obtain ⟨ao, ac, rfl⟩ := SlR.form ha
  obtain ⟨bo, bc, rfl⟩ := SlR.form hb
  have HA := hid ha
  have HB := hid hb
  have HT := hid (And.intro ta tb)
  have hal : a.length ≤ 100 := ta.len
  have HAL := hid hal
  clear ha hb ta tb hal
  have HR := hid (fun wx (hk : Below w.heap.size w wx) => DRenamesX_any _ _ a b wx (HA.out.old hk) (HB.out.old hk) HT.out.1 HT.out.2)
  have HRL := hid (show (renS a b).length ≤ 100 from Nat.le_trans (ren_lenB a b) HAL.out)
  have HRT := hid (show ∀ r ∈ renS a b, r.2.length ≤ maxLen from fun r hr => by
    obtain ⟨x, y, hx, hy, e1, e2⟩ := (ren_exB HT.out.1 HT.out.2).there r hr
    have := okOne_len (HT.out.2.ok _ hy)
    rw [← e2]
    unfold maxLen; omega)
  obtain ⟨R, hR⟩ : ∃ R, renS a b = R := ⟨_, rfl⟩
  rw [hR] at HR HRL HRT ⊢
  clear hR
  have hmm := @run_makeMap Tryz.prog
  go_enter Tryz.func73, Tryz.ntmps73
  go_wp2_with fail
  clear hmm
  obtain ⟨w1, hw1⟩ : ∃ w1, w.alloc (.map #[] 0) = w1 := ⟨_, rfl⟩
  have hm1 : OwnMr w1 w.heap.size 0 (.map []) := by rw [← hw1]; exact World.ownsMap_made w _ _ _
  have hb1 : Below w.heap.size w w1 := by rw [← hw1]; exact (Below.refl _ w).alloc (Nat.le_refl _) _
  rw [hw1]
  obtain ⟨gm, hgm⟩ : ∃ g, w.heap.size = g := ⟨_, rfl⟩
  have HGM := hid hgm
  rw [hgm] at hm1 ⊢
  have HM1 := hid hm1
  have HB1 := hid hb1
  clear hm1 hb1 hw1 hgm
  go_loopg [13] a.length (fun g i wr => ∃ (k n : Nat) (D : MW), i = .int .i64 (k : Int) ∧ Hid (k ≤ a.length ∧ a.length - k ≤ g ∧ n ≤ k) ∧ Hid (OwnMr wr gm n D) ∧ Hid (ShowsO D (orgA (a.take k))) ∧ Hid (Below w.heap.size w wr))
  case atStart => exact ⟨0, 0, .map [], rfl, hid ⟨Nat.zero_le _, Nat.le_refl _, Nat.le_refl _⟩, HM1, hid ShowsO.nil, HB1⟩
  case round =>
    clear HM1 HB1
    obtain ⟨k, n, D, rfl, HQ, HM, HS, HBW⟩ := hrel
    have hQ := HQ.out
    have k0 : (0 : Int) ≤ (k : Int) := Int.natCast_nonneg _
    by_cases hlt : k < a.length
    case pos =>
      have k1 : (k : Int) < (a.length : Int) := by omega
      have kw : IntKind.i64.wrap ((k : Int) + 1) = (k : Int) + 1 := IntWalk.i64_in _ (by have := HAL.out; omega)
      obtain ⟨b1, o1, p, x, t, e, he, c0, c1, c2⟩ := SlF.at (HA.out.old HBW.out) hlt
      cases e
      have hpl : p.length ≤ maxLen := by
        have := HT.out.1.ok _ (List.mem_of_getElem? he)
        have := okOne_len this
        simp only at this
        unfold maxLen; omega
      have HKEY := hid (key_str hpl)
      have HS2 := hid (show ShowsO (D.put (.string p) (renD (p, p))) (orgA (a.take (k + 1))) by
        rw [orgA, List.take_add_one, he, List.foldl_append]
        exact ShowsO.put (World.ownsMap.isMap HM.out) HS.out p (p, p))
      clear he hpl
      have HBA := hid (HBW.out.alloc HBW.out.size (.cells #[.string ⟨p.toArray⟩, .bool x, .string ⟨t.toArray⟩] 28))
      have HMA := hid (show OwnMr (wr.alloc (.cells #[.string ⟨p.toArray⟩, .bool x, .string ⟨t.toArray⟩] 28)) gm n D from HM.out.alloc _)
      have HN := hid (show n < maxLen by have := HAL.out; unfold maxLen; omega)
      go_wp2_with (at_mapUpdate; refine wpList_mapUpdate_own _ rfl (.tmp 17) (.tmp 19) (.tmp 24) 116 rfl 9 78 (Maps.string_keyed Tryz.underlying9) Tryz.underlying116 renElem gm n D rfl HMA.out HN.out _ _ (.string p) rfl rfl HKEY.out (renD (p, p)) [] (renElem_mk (p, p)) ?_; intro w4 hown4 hgrow4; have HO4 := hid hown4; have HB4 := hid (HBA.out.grown hgrow4 HBA.out.size (fun j hj => by cases hj; exact Nat.le_of_eq HGM.out)); clear hown4 hgrow4)
      go_roundg (a.length - (k + 1))
      case measure => omega
      case rel => exact ⟨k + 1, n + 1, _, by go_num, hid ⟨by omega, Nat.le_refl _, by omega⟩, HO4, HS2, HB4⟩
    obtain rfl : k = a.length := by omega
    have hneg : ¬ (a.length : Int) < (a.length : Int) := by omega
    have HS1 := hid (show ShowsO D (orgA a) by have := HS.out; rwa [List.take_length] at this)
    have HN1 := hid (show n ≤ 100 by have := HAL.out; omega)
    clear HS hQ HQ
    go_wp2_with fail
    refine (HR.out wr HBW.out).mono ?_
    rintro e w5 ⟨v, rfl, ho, hb⟩
    have HV := hid (OwnV.sl ho)
    have HB5 := hid (below_step HBW.out hb HBW.out.size)
    have HM5 := hid (HM.out.old fun h => hb.block _ h)
    clear ho hb HR
    obtain ⟨vo, vc, rfl⟩ := SlR.form HV.out
    generalize wr = wv at *
    go_wp2_with fail
    go_loopg [30] R.length (fun g i wr => ∃ (k n : Nat) (D : MW), i = .int .i64 (k : Int) ∧ Hid (k ≤ R.length ∧ R.length - k ≤ g ∧ n ≤ 100 + k) ∧ Hid (OwnMr wr gm n D) ∧ Hid (ShowsO D (orgF a (R.take k))) ∧ Hid (Below w.heap.size w wr) ∧ Hid (SlV wr (.slice vo R.length vc) R))
    case atStart => exact ⟨0, n, D, rfl, hid ⟨Nat.zero_le _, Nat.le_refl _, HN1.out⟩, HM5, HS1, HB5, HV⟩
    case round =>
      clear HM5 HS1 HB5 HV
      obtain ⟨k, n, D, rfl, HQ, HM, HS, HBW, HV⟩ := hrel
      have hQ := HQ.out
      have k0 : (0 : Int) ≤ (k : Int) := Int.natCast_nonneg _
      by_cases hlt : k < R.length
      case pos =>
        have k1 : (k : Int) < (R.length : Int) := by omega
        have kw : IntKind.i64.wrap ((k : Int) + 1) = (k : Int) + 1 := IntWalk.i64_in _ (by have := HRL.out; omega)
        obtain ⟨b1, o1, p, q, e, he, c0, c1⟩ := SlV.at HV.out hlt
        cases e
        have HKEY := hid (key_str (HRT.out _ (List.mem_of_getElem? he)))
        have HS2 := hid (show ShowsO (D.put (.string q) (renD (p, q))) (orgF a (R.take (k + 1))) by
          rw [orgF, List.take_add_one, he, List.foldl_append]
          exact ShowsO.put (World.ownsMap.isMap HM.out) HS.out q (p, q))
        clear he
        have HBA := hid (HBW.out.alloc HBW.out.size (.cells #[.string ⟨p.toArray⟩, .string ⟨q.toArray⟩] 78))
        have HMA := hid (show OwnMr (wr.alloc (.cells #[.string ⟨p.toArray⟩, .string ⟨q.toArray⟩] 78)) gm n D from HM.out.alloc _)
        have HVA := hid (show SlV (wr.alloc (.cells #[.string ⟨p.toArray⟩, .string ⟨q.toArray⟩] 78)) (.slice (some ⟨b1, o1, none⟩) R.length vc) R from SlR.alloc HV.out _)
        have HN := hid (show n < maxLen by have := HRL.out; unfold maxLen; omega)
        go_wp2_with (at_mapUpdate; refine wpList_mapUpdate_own _ rfl (.tmp 34) (.tmp 36) (.tmp 37) 116 rfl 9 78 (Maps.string_keyed Tryz.underlying9) Tryz.underlying116 renElem gm n D rfl HMA.out HN.out _ _ (.string q) rfl rfl HKEY.out (renD (p, q)) [] (renElem_mk (p, q)) ?_; intro w4 hown4 hgrow4; have HO4 := hid hown4; have HB4 := hid (HBA.out.grown hgrow4 HBA.out.size (fun j hj => by cases hj; exact Nat.le_of_eq HGM.out)); have HV4 := hid (mapKeep_sl HVA.out HMA.out hgrow4); clear hown4 hgrow4)
        go_roundg (R.length - (k + 1))
        case measure => omega
        case rel => exact ⟨k + 1, n + 1, _, by go_num, hid ⟨by omega, Nat.le_refl _, by omega⟩, HO4, HS2, HB4, HV4⟩
      obtain rfl : k = R.length := by omega
      have hneg : ¬ (R.length : Int) < (R.length : Int) := by omega
      have HS3 := hid (show ShowsO D (orgF a R) by have := HS.out; rwa [List.take_length] at this)
      go_wp2_with fail
      go_ret
      exact ⟨gm, rfl, by rw [HGM.out]; exact Nat.le_refl _, ⟨n, D, HM.out, HS3.out⟩, HBW.out⟩
end
end Go.Proofs.YtbnafihigoekeaaGreatDoor
namespace Go.Proofs.YtbnafihigoekeaaGreatDoor
open Go.RowKit
section
variable {w : World}
theorem step_append_f1g {ops : Array Oper} {o : Oper} {a : Act} {K : Act → World → Prop} {Q : Exit → Act → World → Prop} {X : Prop} (hgd : o.guard = none) (s sx : Operand)
    (ho : o.op = .call { callee := .builtin .append, args := #[s, sx], argTypes := #[22, 22] })
    (base : Nat) (v : Value) (xs : List FileS) (x : FileS) (he : a.eval s = v) (hown : OwnF w base v xs) (u : Value) (hx : a.eval sx = u) (hu : SlF w u [x])
    (hlen : xs.length ≤ 100000000) (hbase : base ≤ w.heap.size)
    (h : ∀ v' w', OwnF w' base v' (xs ++ [x]) → w.grownBy w' v.ownBlock → (v'.ownBlock = v.ownBlock ∨ v'.ownBlock = some w.heap.size) → K (a.put o.dst v') w') : if Region.wanted o (yielded ops a.tmps) = true then Oper.wp Tryz.prog o a w K Q else X := by
  obtain ⟨i0, hi0, hi1, hi2, hi3⟩ := info_parts Tryz.infoFile
  refine step_append_any w hgd s sx _ _ ho base 28 i0 _ 3 40 Tryz.underlying22 hi0 hi1 hi2 hi3 rfl (by omega) v _ _ he hown u 1 _ hx (hu.src Tryz.underlying22) (by unfold maxLen; omega) (by omega) hbase fun v' w' h2 h3 h4 => h v' w' ?_ h3 h4
  unfold OwnF
  rw [List.length_append, flatR_append]
  exact h2
end
end Go.Proofs.YtbnafihigoekeaaGreatDoor
namespace Go.Proofs.YtbnafihigoekeaaGreatDoor
open Go.RowKit
open BigFrame
theorem own_ne_of {w : World} {base g n size : Nat} {e e' : TypeId} {v : Value} {xs : List Value} {cs : Array Value} {fr : Nat × Nat} (h : w.ownsRow base e size v n xs) (hg : w.heap[g]? = some (.cells cs e' fr)) (hne : e ≠ e') : v.ownBlock ≠ some g := by
  rcases h.2 with ⟨rfl, _⟩ | ⟨g', cap, cur, rfl, _, hg', _⟩
  · simp [Value.ownBlock]
  · intro he
    have : g' = g := by simpa [Value.ownBlock] using he
    subst this
    rw [hg'] at hg
    cases hg
    exact hne rfl
def FrF (w w' : World) : Prop := ∀ (k : Nat) (cs : Array Value) (fr : Nat × Nat), w.heap[k]? = some (Obj.cells cs 28 fr) → w'.heap[k]? = some (Obj.cells cs 28 fr)
theorem FrF.refl (w : World) : FrF w w := fun _ _ _ h => h
theorem FrF.trans {a b c : World} (h : FrF a b) (k : FrF b c) : FrF a c := fun i cs fr e => k i cs fr (h i cs fr e)
theorem FrF.ofBelow {w w' : World} (h : Below w.heap.size w w') : FrF w w' := fun k _ _ e => (h.block k (lt_of_block e)).trans e
theorem FrF.grown {w w' : World} {row : Option Nat} (hg : w.grownBy w' row) (hr : ∀ k, row = some k → ∀ (cs : Array Value) (fr : Nat × Nat), w.heap[k]? ≠ some (Obj.cells cs 28 fr)) : FrF w w' := fun k cs fr e => by
  refine (hg.block k (lt_of_block e) fun he => ?_).trans e
  exact hr k he.symm cs fr e
theorem FrF.setCell {w : World} {g i : Nat} {u : Value} {cs : Array Value} {e : TypeId} {fr : Nat × Nat} (hg : w.heap[g]? = some (.cells cs e fr)) (hne : 28 ≠ e) : FrF w (w.setCell ⟨g, i, none⟩ u) := fun k cs' fr' h => by
  by_cases hk : k = g
  · subst hk
    rw [hg] at h
    cases h
    exact absurd rfl hne
  · rw [Below.heap_setCell _ _ _ _ (show k ≠ g from hk)]
    exact h
theorem OwnF.fr {w w' : World} {base : Nat} {v : Value} {xs : List FileS} (h : OwnF w base v xs) (hf : FrF w w') : OwnF w' base v xs := by
  rcases h.2 with hn | ⟨g, cap, cur, rfl, hb, hg, rest⟩
  · exact ⟨h.1, .inl hn⟩
  · exact ⟨h.1, .inr ⟨g, cap, cur, rfl, hb, hf _ _ _ hg, rest⟩⟩
def putD (s : WhS) (f : FileS) (k : Int) : WhS :=
  if barS s.1 f.1 = true then (s.1, s.2 ++ [(f.1, 5, f.2.2)]) else (sortedS s.1 f, if k = 0 then s.2 else s.2 ++ [(f.1, k, f.2.2)])
structure WhAt (gw : Nat) (s : WhS) (w : World) : Prop where
  ex : ∃ vf vc, w.heap[gw]? = some (.cells #[vf, vc] 61 (0, 0)) ∧ OwnF w (gw + 1) vf s.1 ∧ OwnC w (gw + 1) vc s.2
theorem WhAt.lt {gw : Nat} {s : WhS} {w : World} (h : WhAt gw s w) : gw < w.heap.size := by
  obtain ⟨_, _, hg, _⟩ := h.ex
  exact lt_of_block hg
theorem WhAt.old {gw : Nat} {s : WhS} {w w' : World} (h : WhAt gw s w) (hk : Below w.heap.size w w') : WhAt gw s w' := by
  obtain ⟨vf, vc, hg, hf, hc⟩ := h.ex
  exact ⟨vf, vc, (hk.block _ (lt_of_block hg)).trans hg, World.ownsRow.kept' hf hk, World.ownsRow.kept' hc hk⟩
theorem Tryz.ne2 : 36 ≠ 61 := by decide
theorem Tryz.ne3 : 36 ≠ 28 := by decide
theorem OwnC.set {gw i : Nat} {w : World} {base : Nat} {v u : Value} {C : List ClaS} {cs : Array Value} (h : OwnC w base v C) (hg : w.heap[gw]? = some (.cells cs 61 (0, 0))) : OwnC (w.setCell ⟨gw, i, none⟩ u) base v C := by
  have hne := own_ne_of h hg Tryz.ne2
  rcases h.2 with hn | ⟨g, cap, cur, rfl, hb, hg', rest⟩
  · exact ⟨h.1, .inl hn⟩
  · refine ⟨h.1, .inr ⟨g, cap, cur, rfl, hb, ?_, rest⟩⟩
    rw [Below.heap_setCell _ _ _ _ (show g ≠ gw from fun e => hne (by rw [e]; rfl))]
    exact hg'
section
set_option maxRecDepth 100000
set_option maxHeartbeats 4000000
end
end Go.Proofs.YtbnafihigoekeaaGreatDoor

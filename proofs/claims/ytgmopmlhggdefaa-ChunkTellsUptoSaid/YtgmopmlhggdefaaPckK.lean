/-
  Package chunk: where a side has the lines of base (a map keyed by line and side): note, kept.
-/
import Derived.Test.YtgmopmlhggdefaaPckM
import Derived.Test.YtgmopmlhggdefaaPdfS
import Derived.Maps.OwnSet
import Derived.Maps.AppendAt
import Derived.DeepKeys4
import Derived.Deep.LoopGhost
namespace Go.Proofs.Ytgmopmlhggdefaa
open Go.RowKit

theorem Try.laidOut : laidOutB Try.prog = true := by kernel_rfl
theorem Try.rowSpot : (65 : TypeId) < Try.prog.types.size := of_decide_eq_true (by kernel_rfl)
theorem Try.wideSpot : (match Try.prog.underlying 65 with | some (.array _ _) | some (.struct _) => true | _ => false) = true := by rw [Try.underlying65]
theorem Try.spotLaw : Maps.Keyed Try.prog 65 := Maps.Keyed.of_law (deep_law_laid Try.laidOut (m := 3) (by omega) Try.rowSpot (by kernel_rfl) Try.wideSpot)
theorem Try.zeroInt (w : World) : (zeroValue 3).run Try.prog w = .ok (.int .i64 0) w := by kernel_rfl
def klit (i s : Nat) : Lit := .string (keyBytes [.int .i64 i, .int .u8 s])
theorem spot_key {i s : Nat} (hi : i ≤ 4000000000) (hs : s < 256) : keyOf Try.prog 65 (.agg #[.int .i64 i, .int .u8 s]) = some (klit i s) := by
  have hk : Try.prog.keyType 65 = true := by kernel_rfl
  have hc : Try.prog.cellsOf 65 = 2 := by kernel_rfl
  have hc1 : Try.prog.cellsOf 3 = 1 := by kernel_rfl
  have hc2 : Try.prog.cellsOf 63 = 1 := by kernel_rfl
  have w1 : (Lit.int .i64 (i : Int)).wf = true := by simp [Lit.wf, IntKind.min, IntKind.max, IntKind.signed, IntKind.bits]; omega
  have w2 : (Lit.int .u8 (s : Int)).wf = true := by simp [Lit.wf, IntKind.min, IntKind.max, IntKind.signed, IntKind.bits]; omega
  obtain ⟨n, hn⟩ : ∃ n, Try.prog.types.size + 1 = n + 2 := ⟨Try.prog.types.size - 1, by have h : 65 < Try.prog.types.size := Try.rowSpot; omega⟩
  unfold keyOf
  rw [Try.underlying65, hk, hn]
  simp [Value.formed, Try.underlying65, hc, Value.cells, Program.keyLits, hc1, hc2, Try.underlying3, Try.underlying63, w1, w2, klit]
theorem klit_inj {i s j r : Nat} (hi : i ≤ 4000000000) (hs : s < 256) (hj : j ≤ 4000000000) (hr : r < 256) (h : klit i s = klit j r) : i = j ∧ s = r := by
  have := Try.spotLaw.inj (spot_key hi hs) (h ▸ spot_key hj hr)
  simp at this
  omega

/-! ### What a script writes into the map -/
abbrev MD := DataW Unit
def numD (j : Nat) : MD := .lit (.int .i64 j)
section
variable {α : Type}
def noteD (s : Nat) : MD → Nat → Nat → List (Int × α) → MD
  | D, _, _, [] => D
  | D, i, j, e :: r => if e.1 = 1 then noteD s (D.put (klit i s) (numD j)) (i + 1) (j + 1) r else if e.1 = 2 then noteD s D (i + 1) j r else noteD s D i (j + 1) r
/-- what the map shows at a key: nothing, or a place -/
def Shows (D : MD) (kl : Lit) (p : Int) : Prop := (p < 0 → Maps.has D kl = false) ∧ (¬ p < 0 → Maps.has D kl = true ∧ ∀ z, D.atKey kl z = .lit (.int .i64 p))
theorem isKey_klit (i s : Nat) : WideAt.IsKeyLit (klit i s) := trivial
theorem noteD_other {s : Nat} {kl : Lit} : ∀ (r : List (Int × α)) (D : MD) (i j : Nat), (∀ k, i ≤ k → k ≤ i + r.length → kl ≠ klit k s) → Maps.has (noteD s D i j r) kl = Maps.has D kl ∧ ∀ z, (noteD s D i j r).atKey kl z = D.atKey kl z := by
  intro r
  induction r with
  | nil => exact fun _ _ _ _ => ⟨rfl, fun _ => rfl⟩
  | cons e r ih =>
    intro D i j h
    simp only [List.length_cons] at h
    rw [noteD]
    split
    · obtain ⟨h1, h2⟩ := ih (D.put (klit i s) (numD j)) (i + 1) (j + 1) fun k hk hk' => h k (by omega) (by omega)
      have hne : kl ≠ klit i s := h i (Nat.le_refl _) (by omega)
      exact ⟨h1.trans (Maps.has_put_other hne _), fun z => (h2 z).trans (Maps.atKey_put_other hne _ z)⟩
    · split
      · exact ih D (i + 1) j fun k hk hk' => h k (by omega) (by omega)
      · exact ih D i (j + 1) fun k hk hk' => h k hk (by omega)
theorem noteD_map {s : Nat} : ∀ (r : List (Int × α)) (D : MD) (i j : Nat), Maps.IsMap D → Maps.IsMap (noteD s D i j r) := by
  intro r
  induction r with
  | nil => exact fun _ _ _ h => h
  | cons e r ih =>
    intro D i j h
    rw [noteD]
    split
    · exact ih _ _ _ (h.put _ _)
    · split
      · exact ih _ _ _ h
      · exact ih _ _ _ h
theorem noteD_shows {s : Nat} (hs : s < 256) : ∀ (r : List (Int × α)) (D : MD) (i j : Nat), Maps.IsMap D → i + r.length ≤ 4000000000 → (∀ k, i ≤ k → k ≤ i + r.length → Maps.has D (klit k s) = false) → ∀ (k : Nat) (p : Int), (placesG j r)[k]? = some p → Shows (noteD s D i j r) (klit (i + k) s) p := by
  intro r
  induction r with
  | nil => intro D i j _ _ _ k p h; simp [placesG] at h
  | cons e r ih =>
    intro D i j hD hl hn k p h
    simp only [List.length_cons] at hl hn
    rw [placesG] at h
    rw [noteD]
    split at h
    · rename_i h1
      rw [if_pos h1]
      cases k with
      | zero =>
        simp only [List.getElem?_cons_zero, Option.some.injEq] at h
        subst h
        obtain ⟨g1, g2⟩ := noteD_other (s := s) (kl := klit i s) r (D.put (klit i s) (numD j)) (i + 1) (j + 1) fun k hk hk' e => by
          have := (klit_inj (by omega) hs (by omega) hs e).1
          omega
        rw [Nat.add_zero]
        refine ⟨fun h => by omega, fun _ => ⟨g1.trans (Maps.has_put_same hD (isKey_klit i s) _), fun z => (g2 z).trans (Maps.atKey_put_same hD (isKey_klit i s) _ z)⟩⟩
      | succ k =>
        simp only [List.getElem?_cons_succ] at h
        have := ih (D.put (klit i s) (numD j)) (i + 1) (j + 1) (hD.put _ _) (by omega) (fun k hk hk' => by
          rw [Maps.has_put_other]
          · exact hn k (by omega) (by omega)
          · intro e
            have := (klit_inj (by omega) hs (by omega) hs e).1
            omega) k p h
        rw [show i + 1 + k = i + (k + 1) by omega] at this
        exact this
    · rename_i h1
      rw [if_neg h1]
      split at h
      · rename_i h2
        rw [if_pos h2]
        cases k with
        | zero =>
          simp only [List.getElem?_cons_zero, Option.some.injEq] at h
          subst h
          obtain ⟨g1, g2⟩ := noteD_other (s := s) (kl := klit i s) r D (i + 1) j fun k hk hk' e => by
            have := (klit_inj (by omega) hs (by omega) hs e).1
            omega
          rw [Nat.add_zero]
          exact ⟨fun _ => g1.trans (hn i (Nat.le_refl _) (by omega)), fun h => absurd (by decide) h⟩
        | succ k =>
          simp only [List.getElem?_cons_succ] at h
          have := ih D (i + 1) j hD (by omega) (fun k hk hk' => hn k (by omega) (by omega)) k p h
          rw [show i + 1 + k = i + (k + 1) by omega] at this
          exact this
      · rename_i h2
        rw [if_neg h2]
        exact ih D i (j + 1) hD (by omega) (fun k hk hk' => hn k hk (by omega)) k p h
/-- both scripts, one behind the other -/
theorem noted_both {s1 s2 : List (Int × α)} (l1 : s1.length ≤ 1000000) (l2 : s2.length ≤ 1000000) :
    (∀ k p, (placesG 0 s1)[k]? = some p → Shows (noteD 1 (noteD 0 (.map []) 0 0 s1) 0 0 s2) (klit k 0) p) ∧ ∀ k p, (placesG 0 s2)[k]? = some p → Shows (noteD 1 (noteD 0 (.map []) 0 0 s1) 0 0 s2) (klit k 1) p := by
  have e0 : ∀ kl, Maps.has (.map [] : MD) kl = false := fun kl => rfl
  constructor
  · intro k p h
    have hk : k < 4000000000 := by
      have h1 := (List.getElem?_eq_some_iff.1 h).1
      have : ∀ (r : List (Int × α)) (j : Nat), (placesG j r).length ≤ r.length := fun r => by
        induction r with
        | nil => intro j; simp [placesG]
        | cons e r ih =>
          intro j
          rw [placesG]
          split
          · simp; exact ih _
          · split
            · simp; exact ih _
            · exact Nat.le_trans (ih _) (by simp)
      have := this s1 0
      omega
    have := noteD_shows (s := 0) (by omega) s1 (.map []) 0 0 Maps.isMap_empty (by omega) (fun _ _ _ => e0 _) k p h
    rw [Nat.zero_add] at this
    obtain ⟨g1, g2⟩ := noteD_other (s := 1) (kl := klit k 0) s2 (noteD 0 (.map []) 0 0 s1) 0 0 fun k' _ hk' e => by
      have := (klit_inj (by omega) (by omega) (by omega) (by omega) e).2
      omega
    exact ⟨fun h => g1.trans (this.1 h), fun h => ⟨g1.trans (this.2 h).1, fun z => (g2 z).trans ((this.2 h).2 z)⟩⟩
  · intro k p h
    have := noteD_shows (s := 1) (by omega) s2 (noteD 0 (.map []) 0 0 s1) 0 0 (noteD_map _ _ _ _ Maps.isMap_empty) (by omega) (fun k' _ hk' => by
      rw [(noteD_other (s := 0) (kl := klit k' 1) s1 (.map []) 0 0 fun j _ hj e => by
        have := (klit_inj (by omega) (by omega) (by omega) (by omega) e).2
        omega).1]
      rfl) k p h
    rw [Nat.zero_add] at this
    exact this
end

/-! ### The map in memory -/
abbrev OwnM (w : World) (b n : Nat) (D : MD) : Prop := w.ownsMap Try.prog 65 (plainElem Try.prog 3) b n D
theorem OwnM.apart {w : World} {b n : Nat} {D : MD} (h : OwnM w b n D) {a : Addr} {v : Value} (hc : w.cell? a = some v) : a.block ≠ b := by
  obtain ⟨es, c, hb, _⟩ := h
  intro e
  unfold World.cell? at hc
  rw [e, hb] at hc
  simp at hc
theorem SlE.grown {w w' : World} {b n : Nat} {D : MD} {v : Value} {es : List (Int × List UInt8)} (h : SlE w v es) (hm : OwnM w b n D) (hg : w.grownBy w' (some b)) : SlE w' v es := by
  obtain ⟨ao, cap, rfl, hn, hcap, hc⟩ := h
  refine ⟨ao, cap, rfl, hn, hcap, fun a ha i e he => ?_⟩
  obtain ⟨h1, h2⟩ := hc a ha i e he
  exact ⟨hg.cell h1 (fun e => hm.apart h1 (Option.some.inj e)), hg.cell h2 (fun e => hm.apart h2 (Option.some.inj e))⟩
theorem note_at {α : Type} {es : List (Int × α)} {k : Nat} {c : Int} {x : α} (h : es[k]? = some (c, x)) (s : Nat) (D : MD) (i j : Nat) :
    noteD s D i j (es.drop k) = if c = 1 then noteD s (D.put (klit i s) (numD j)) (i + 1) (j + 1) (es.drop (k + 1)) else if c = 2 then noteD s D (i + 1) j (es.drop (k + 1)) else noteD s D i (j + 1) (es.drop (k + 1)) := by
  obtain ⟨q, e⟩ := List.getElem?_eq_some_iff.1 h
  rw [List.drop_eq_getElem_cons q, e]
  rfl
section
set_option maxRecDepth 100000
set_option maxHeartbeats 4000000
theorem DNote_any (b n s : Nat) (vs v : Value) (es : List (Int × List UInt8)) (D : MD) (w : World) (hvs : vs = .int .u8 (s : Int)) (hs : s < 256) (hv : SlE w v es) (hm : OwnM w b n D) (hk : Kinds es) (hl : es.length ≤ 1000000) (hn : n ≤ 1000000) :
    Calls Try.prog 39 #[.map (some b), vs, v] w fun e w' => e = .returned (.tuple #[]) ∧ OwnM w' b (n + es.length) (noteD s D 0 0 es) ∧ w.grownBy w' (some b) := by
  subst hvs
  obtain ⟨ao, cap, rfl⟩ := hv.form
  have HV := hid hv
  have HM := hid hm
  have HKI := hid hk
  have HS := hid hs
  have HNL := hid (And.intro hl hn)
  clear hv hm hk hs hl hn
  go_enter Try.func39, Try.ntmps39
  go_wp2_with fail
  go_loopg [6, 7, 12] es.length (fun g i j m wx => ∃ (I J k : Nat) (E : MD), k ≤ es.length ∧ g = es.length - k ∧ i = .int .i64 I ∧ j = .int .i64 J ∧ m = .int .i64 k ∧ Hid (I ≤ k ∧ J ≤ k) ∧ Hid (noteD s E I J (es.drop k) = noteD s D 0 0 es) ∧ Hid (OwnM wx b (n + k) E) ∧ Hid (w.grownBy wx (some b)))
  case atStart => exact ⟨0, 0, 0, D, Nat.zero_le _, rfl, rfl, rfl, rfl, hid ⟨Nat.le_refl _, Nat.le_refl _⟩, hid (by rw [List.drop_zero]), HM, hid ⟨rfl, rfl, rfl, Nat.le_refl _, fun _ _ _ => rfl⟩⟩
  case round =>
    obtain ⟨I, J, k, E, hk, rfl, rfl, rfl, rfl, HIJ, HE, HO, HG⟩ := hrel
    have k0 : (0 : Int) ≤ (k : Int) := Int.natCast_nonneg _
    have I0 : (0 : Int) ≤ (I : Int) := Int.natCast_nonneg _
    have J0 : (0 : Int) ≤ (J : Int) := Int.natCast_nonneg _
    by_cases hlt : k < es.length
    · have k1 : (k : Int) < (es.length : Int) := by omega
      have kw : IntKind.i64.wrap ((k : Int) + 1) = (k : Int) + 1 := IntWalk.i64_in _ (by have := HNL.out; omega)
      have iw : IntKind.i64.wrap ((I : Int) + 1) = (I : Int) + 1 := IntWalk.i64_in _ (by have h1 := HNL.out; have h2 := HIJ.out; omega)
      have jw : IntKind.i64.wrap ((J : Int) + 1) = (J : Int) + 1 := IntWalk.i64_in _ (by have h1 := HNL.out; have h2 := HIJ.out; omega)
      obtain ⟨be, oe, c, x, rfl, hc, hd, he⟩ := (HV.out.grown HM.out HG.out).at' (i := k) hlt
      have HST := hid (note_at he s E I J)
      have HKC := hid (HKI.out _ (List.mem_of_getElem? he))
      clear he
      by_cases h1 : c = 1
      · subst h1
        have HX := hid (show noteD s (E.put (klit I s) (numD J)) (I + 1) (J + 1) (es.drop (k + 1)) = noteD s D 0 0 es by rw [← HE.out, HST.out, if_pos rfl])
        have HKEY := hid (spot_key (i := I) (s := s) (by have h1 := HNL.out; have h2 := HIJ.out; omega) HS.out)
        have HWF := hid (show (Lit.int .i64 (J : Int)).wf = true by have h1 := HNL.out; have h2 := HIJ.out; simp [Lit.wf, IntKind.min, IntKind.max, IntKind.signed, IntKind.bits]; omega)
        have HN := hid (show n + k < maxLen by have h1 := HNL.out; unfold maxLen; omega)
        clear HE HST
        go_wp2_with (at_mapUpdate; refine wpList_mapUpdate_own _ rfl _ _ _ 60 rfl 65 3 Try.spotLaw Try.underlying60 _ b (n + k) E rfl (HO.out.alloc _) HN.out _ _ (klit I s) rfl rfl HKEY.out (numD J) [] (plainElem_int Try.underlying3 HWF.out) ?_; intro w1 hown1 hgrow1; have HO1 := hid hown1; have HG1 := hid (HG.out.trans ((World.grownBy_alloc wr _ (some b)).trans hgrow1)); clear hown1 hgrow1)
        go_wp2_with fail
        go_roundg (es.length - (k + 1))
        case measure => omega
        case rel => exact ⟨I + 1, J + 1, k + 1, _, by omega, rfl, by go_num, by go_num, by go_num, hid (by have := HIJ.out; omega), HX, HO1, HG1⟩
      · have c1b : (c == 1) = false := by simpa using h1
        by_cases h2 : c = 2
        · subst h2
          have HX := hid (show noteD s E (I + 1) J (es.drop (k + 1)) = noteD s D 0 0 es by rw [← HE.out, HST.out, if_neg (by decide), if_pos rfl])
          clear HE HST h1 c1b
          go_wp2_with fail
          go_roundg (es.length - (k + 1))
          case measure => omega
          case rel => exact ⟨I + 1, J, k + 1, E, by omega, rfl, by go_num, rfl, by go_num, hid (by have := HIJ.out; omega), HX, hid ((HO.out.alloc _).mono (by omega)), hid (HG.out.trans (World.grownBy_alloc wr _ (some b)))⟩
        · obtain rfl : c = 3 := by
            have := HKC.out
            simp only at this
            omega
          have HX := hid (show noteD s E I (J + 1) (es.drop (k + 1)) = noteD s D 0 0 es by rw [← HE.out, HST.out, if_neg (by decide), if_neg (by decide)])
          clear HE HST h1 h2 c1b
          go_wp2_with fail
          go_roundg (es.length - (k + 1))
          case measure => omega
          case rel => exact ⟨I, J + 1, k + 1, E, by omega, rfl, rfl, by go_num, by go_num, hid (by have := HIJ.out; omega), HX, hid ((HO.out.alloc _).mono (by omega)), hid (HG.out.trans (World.grownBy_alloc wr _ (some b)))⟩
    · obtain rfl : k = es.length := by omega
      have hneg : ¬ (es.length : Int) < (es.length : Int) := by omega
      have HX := hid (show E = noteD s D 0 0 es by rw [← HE.out, List.drop_length]; rfl)
      clear HE
      go_wp2_with fail
      refine bodyPost_end (results_none rfl _ _ _) rfl ?_
      rw [← HX.out]
      exact ⟨rfl, HO.out, HG.out⟩
end
end Go.Proofs.Ytgmopmlhggdefaa

/-
  Package tree (landed): where each path stands (a map keyed by a struct of one string), pathsOf, places.
-/
import Derived.Test.YtndmblelkeepjaaGreatDoorPtrB
import Derived.Test.YtndmblelkeepjaaGreatDoorTrN
import Derived.Maps.OwnSet
import Derived.Maps.AppendAt
import Derived.DeepKeys4
import Derived.Deep.LoopGhost
namespace Go.Proofs.YtndmblelkeepjaaGreatDoor
open Go.RowKit

theorem Tryz.laidOutT : laidOutB Tryz.prog = true := by kernel_rfl
theorem Tryz.rowKey : (59 : TypeId) < Tryz.prog.types.size := of_decide_eq_true (by kernel_rfl)
theorem Tryz.wideKey : (match Tryz.prog.underlying 59 with | some (.array _ _) | some (.struct _) => true | _ => false) = true := by rw [Tryz.underlying59]
set_option maxRecDepth 100000 in
theorem Tryz.keyLaw : Maps.Keyed Tryz.prog 59 := Maps.Keyed.of_law (deep_law_laid Tryz.laidOutT (m := 3) (by omega) Tryz.rowKey (by kernel_rfl) Tryz.wideKey)
theorem Tryz.zeroPlace (w : World) : (zeroValue 56).run Tryz.prog w = .ok (.int .u32 0) w := by kernel_rfl
def keyT (p : Txt) : Lit := .string (keyBytes [.string p])
theorem key_of {p : Txt} (hp : p.length ≤ maxLen) : keyOf Tryz.prog 59 (.agg #[strV p]) = some (keyT p) := by
  have hk : Tryz.prog.keyType 59 = true := by kernel_rfl
  have hc : Tryz.prog.cellsOf 59 = 1 := by kernel_rfl
  have hc1 : Tryz.prog.cellsOf 9 = 1 := by kernel_rfl
  obtain ⟨n, hn⟩ : ∃ n, Tryz.prog.types.size + 1 = n + 2 := ⟨Tryz.prog.types.size - 1, by have h : 59 < Tryz.prog.types.size := Tryz.rowKey; omega⟩
  have hsz : (ByteArray.mk p.toArray).size ≤ maxLen := by
    show p.toArray.size ≤ maxLen
    simpa using hp
  unfold keyOf
  rw [Tryz.underlying59, hk, hn]
  simp [Value.formed, Tryz.underlying59, hc, Value.cells, Program.keyLits, hc1, Tryz.underlying9, keyT, strV, hsz]
theorem keyT_inj {p q : Txt} (hp : p.length ≤ maxLen) (hq : q.length ≤ maxLen) (h : keyT p = keyT q) : p = q := by
  have := Tryz.keyLaw.inj (key_of hp) (h ▸ key_of hq)
  simpa [strV] using this
theorem isKeyT (p : Txt) : WideAt.IsKeyLit (keyT p) := trivial
abbrev MT := DataW Unit
def placeD (i : Nat) : MT := .lit (.int .u32 i)
/-- where a path stands first -/
def idxS (l : List Txt) (p : Txt) : Option Nat := l.findIdx? (· == p)
theorem idx_snoc (l : List Txt) (q p : Txt) : idxS (l ++ [q]) p = match idxS l p with | some i => some i | none => if q = p then some l.length else none := by
  unfold idxS
  rw [List.findIdx?_append]
  cases h : List.findIdx? (· == p) l with
  | some i => simp
  | none =>
    by_cases e : q = p
    · simp [e, List.findIdx?_cons]
    · simp [e, List.findIdx?_cons]
theorem idx_in (l : List Txt) (p : Txt) : (idxS l p).isSome = inS l p := by
  unfold idxS inS
  rw [List.findIdx?_isSome]
/-- what the map tells of a list -/
def ShowsT (D : MT) (l : List Txt) : Prop := ∀ p : Txt, p.length ≤ maxLen → Maps.has D (keyT p) = (idxS l p).isSome ∧ ∀ i, idxS l p = some i → ∀ z, D.atKey (keyT p) z = .lit (.int .u32 (i : Int))
theorem shows_nil : ShowsT (.map []) [] := fun p _ => ⟨rfl, fun i h => by simp [idxS] at h⟩
theorem shows_same {D : MT} {l : List Txt} {q : Txt} (h : ShowsT D l) (hs : (idxS l q).isSome = true) : ShowsT D (l ++ [q]) := by
  intro p hp
  obtain ⟨h1, h2⟩ := h p hp
  rw [idx_snoc]
  cases hi : idxS l p with
  | some i =>
    rw [hi] at h1 h2
    exact ⟨h1, fun j hj => h2 j hj⟩
  | none =>
    have : q ≠ p := fun e => by rw [e, hi] at hs; cases hs
    simp only [this, if_false]
    rw [hi] at h1
    exact ⟨h1, fun j hj => by cases hj⟩
theorem shows_put {D : MT} {l : List Txt} {q : Txt} (hD : Maps.IsMap D) (hq : q.length ≤ maxLen) (h : ShowsT D l) (hs : (idxS l q).isSome = false) : ShowsT (D.put (keyT q) (placeD l.length)) (l ++ [q]) := by
  intro p hp
  obtain ⟨h1, h2⟩ := h p hp
  rw [idx_snoc]
  have hqn : idxS l q = none := by
    cases e : idxS l q with
    | none => rfl
    | some i => rw [e] at hs; cases hs
  by_cases e : q = p
  · subst e
    rw [hqn]
    simp only [if_true]
    refine ⟨(Maps.has_put_same hD (isKeyT q) _).trans rfl, fun i hi z => ?_⟩
    cases hi
    exact Maps.atKey_put_same hD (isKeyT q) _ z
  · have hne : keyT p ≠ keyT q := fun e' => e (keyT_inj hp hq e').symm
    rw [Maps.has_put_other hne]
    cases hi : idxS l p with
    | some i =>
      rw [hi] at h1 h2
      refine ⟨h1, fun j hj z => ?_⟩
      rw [Maps.atKey_put_other hne]
      exact h2 j hj z
    | none =>
      simp only [e, if_false]
      rw [hi] at h1
      exact ⟨h1, fun j hj => by cases hj⟩

/-! ### In memory -/
abbrev OwnP (w : World) (b n : Nat) (D : MT) : Prop := w.ownsMap Tryz.prog 59 (plainElem Tryz.prog 56) b n D
theorem OwnP.old {w w' : World} {b n : Nat} {D : MT} (h : OwnP w b n D) (hk : Below w.heap.size w w') : OwnP w' b n D := World.ownsMap.kept h (⟨hk.os, hk.tape, hk.output, hk.size, fun k hk' _ => hk.block k hk'⟩ : w.grownBy w' none) (by simp)
/-- a map that tells of a list where each path stands first -/
def MapT (w : World) (g : Nat) (l : List Txt) : Prop := ∃ n D, OwnP w g n D ∧ ShowsT D l
theorem MapT.old {w w' : World} {g : Nat} {l : List Txt} (h : MapT w g l) (hk : Below w.heap.size w w') : MapT w' g l := by
  obtain ⟨n, D, h1, h2⟩ := h
  exact ⟨n, D, h1.old hk, h2⟩
theorem ownP_made (w : World) (g : Nat) (hg : w.heap.size = g) : OwnP (w.alloc (.map #[] 0)) g 0 (.map []) := hg ▸ World.ownsMap_made w _ _ _
theorem wpList_lookup_t {ops : Array Oper} {rest : List Oper} {o : Oper} {a : Act} {w : World} {Q : Exit → Act → World → Prop} (hg : o.guard = none) (m x : Operand) (hop : o.op = Op.lookup 50 m x true)
    (b n : Nat) (D : MT) (l : List Txt) (p : Txt) (hm : a.eval m = .map (some b)) (hown : OwnP w b n D) (hs : ShowsT D l) (hp : p.length ≤ maxLen) (hx : a.eval x = .agg #[strV p]) (r : Bool) (hr : (idxS l p).isSome = r)
    (hK : ∀ c : Int, (∀ i, idxS l p = some i → c = (i : Int)) → wpList Tryz.prog ops Q rest (a.put o.dst (.tuple #[.int .u32 c, .bool r])) w) : wpList Tryz.prog ops Q (o :: rest) a w := by
  refine wpList_lookup_own_ok_int w hg m x 50 hop 59 56 .u32 Tryz.keyLaw Tryz.underlying50 Tryz.underlying56 (Tryz.zeroPlace _) b n D hm hown _ (keyT p) hx (key_of hp) fun c hat _ => ?_
  obtain ⟨h1, h2⟩ := hs p hp
  rw [h1, hr]
  refine hK c fun i hi => ?_
  have := (h2 i hi (.lit (.int .u32 0))).symm.trans hat
  simpa using this.symm
section
set_option maxRecDepth 100000
set_option maxHeartbeats 4000000
theorem DPathsOf_any (v : Value) (l : List FileS) (w : World) (hv : SlF w v l) (hl : l.length ≤ 100000) :
    Calls Tryz.prog 29 #[v] w fun e w' => ∃ u, e = .returned u ∧ OwnT w' w.heap.size u (l.map (·.1)) ∧ Below w.heap.size w w' := by
  obtain ⟨ao, cap, rfl⟩ := hv.form
  have HV := hid hv
  have HL := hid hl
  clear hv hl
  go_enter Tryz.func29, Tryz.ntmps29
  go_wp2_with fail
  go_loopg [3, 5, 8] l.length (fun g r _ i wr => ∃ k : Nat, k ≤ l.length ∧ l.length - k = g ∧ i = .int .i64 k ∧ Hid (OwnT wr w.heap.size r ((l.take k).map (·.1))) ∧ Hid (Below w.heap.size w wr))
  case atStart => exact ⟨0, Nat.zero_le _, rfl, rfl, hid (World.ownsRow_nil _ _ _ _), hid (Below.refl _ _)⟩
  case round =>
    obtain ⟨k, hk, rfl, rfl, HO, HB⟩ := hrel
    have k0 : (0 : Int) ≤ (k : Int) := Int.natCast_nonneg _
    obtain ⟨no, nc, rfl⟩ := owns_form HO.out
    by_cases hlt : k < l.length
    · have k1 : (k : Int) < (l.length : Int) := by omega
      have kw : IntKind.i64.wrap ((k : Int) + 1) = (k : Int) + 1 := IntWalk.i64_in _ (by have := HL.out; omega)
      obtain ⟨b, o, p2, x2, t2, rfl, he, c1, c2, c3⟩ := SlF.at (HV.out.old HB.out) hlt
      have HT := hid (show (l.take (k + 1)).map (·.1) = (l.take k).map (·.1) ++ [p2] by rw [List.take_add_one, he]; simp)
      have HLN := hid (show ((l.take k).map (·.1)).length ≤ 100000000 by have := HL.out; simp; omega)
      obtain ⟨X, hX⟩ : ∃ X, (l.take k).map (·.1) = X := ⟨_, rfl⟩
      rw [hX] at HO HT HLN
      rw [hX]
      clear he hX
      have hz := HB.out.size
      have HB1 := hid (HB.out.alloc hz (.cells #[.string ⟨p2.toArray⟩, .bool x2, .string ⟨t2.toArray⟩] 35))
      go_wp2_with (at_builtin; refine wpList_append_t1 rfl (.tmp 12) (.tmp 15) rfl w.heap.size _ X p2 rfl (HO.out.alloc _) (wr.heap.size + 1) rfl (by simp) HLN.out (Nat.le_trans hz (by simp)) ?_; intro v5 w5 hO5 hb5; have HO5 := hid hO5; have HB5 := hid (HB1.out.trans hb5); clear hO5 hb5)
      go_roundg (l.length - (k + 1))
      case measure => omega
      case rel => exact ⟨k + 1, by omega, rfl, by go_num, by rw [HT.out]; exact HO5, HB5⟩
    · obtain rfl : k = l.length := by omega
      have hneg : ¬ (l.length : Int) < (l.length : Int) := by omega
      rw [List.take_length] at HO ⊢
      obtain ⟨X, hX⟩ : ∃ X, l.map (·.1) = X := ⟨_, rfl⟩
      have HX := hid hX
      rw [hX] at HO ⊢
      clear hX
      go_wp2_with fail
      go_ret
      rw [HX.out]
      exact ⟨_, rfl, HO.out, HB.out⟩
theorem DPlaces_any (v : Value) (l : List Txt) (w : World) (hv : SlT w v l) (hl : l.length ≤ 1000000) (hp : ∀ p ∈ l, p.length ≤ maxLen) :
    Calls Tryz.prog 28 #[v] w fun e w' => ∃ g, e = .returned (.map (some g)) ∧ w.heap.size ≤ g ∧ MapT w' g l ∧ Below w.heap.size w w' := by
  obtain ⟨ao, cap, rfl⟩ := hv.form
  have HV := hid hv
  have HL := hid hl
  have HP := hid hp
  clear hv hl hp
  go_enter Tryz.func28, Tryz.ntmps28
  have hmm : ∀ (wx : World) (n : Int), (Instr.makeMap 50 (some (.int .i64 n))).run Tryz.prog wx = .ok (.map (some wx.heap.size)) (wx.alloc (.map #[] 0)) := fun wx n => by
    simp [Instr.makeMap, run_underlying Tryz.underlying50, asInt, asIntOf, Result.andThen]
  go_wp2_with fail
  have HM := hid (ownP_made w w.heap.size rfl)
  have HB0 := hid ((Below.refl _ w).alloc (Nat.le_refl w.heap.size) (.map #[] 0))
  obtain ⟨g, hg⟩ : ∃ g, w.heap.size = g := ⟨_, rfl⟩
  have HG := hid hg
  rw [hg] at HM ⊢
  generalize w.alloc (.map #[] 0) = W at HM HB0 ⊢
  clear hg hmm
  go_loopg [4, 5, 6, 7, 8, 14] l.length (fun gk _ _ _ _ _ i wr => ∃ (k n : Nat) (D : MT), k ≤ l.length ∧ l.length - k = gk ∧ i = .int .i64 k ∧ n ≤ k ∧ Hid (OwnP wr g n D) ∧ Hid (ShowsT D (l.take k)) ∧ Hid (Below w.heap.size w wr))
  case atStart => exact ⟨0, 0, _, Nat.zero_le _, rfl, rfl, Nat.le_refl _, HM, hid shows_nil, HB0⟩
  case round =>
    obtain ⟨k, n, D, hk, rfl, rfl, hnk, HO, HS, HB⟩ := hrel
    have k0 : (0 : Int) ≤ (k : Int) := Int.natCast_nonneg _
    by_cases hlt : k < l.length
    · have k1 : (k : Int) < (l.length : Int) := by omega
      have kw : IntKind.i64.wrap ((k : Int) + 1) = (k : Int) + 1 := IntWalk.i64_in _ (by have := HL.out; omega)
      have ku : IntKind.u32.wrap (k : Int) = (k : Int) := by have := HL.out; simp [IntKind.wrap, IntKind.bits, IntKind.signed]; omega
      obtain ⟨b, o, p, rfl, he, c1⟩ := SlT.at (HV.out.old HB.out) hlt
      have ht : l.take (k + 1) = l.take k ++ [p] := by rw [List.take_add_one, he]; rfl
      have hpl := HP.out p (List.mem_iff_getElem?.2 ⟨k, he⟩)
      have HPL := hid hpl
      have HKEY := hid (key_of hpl)
      have HT := hid ht
      have HSH := hid (HS.out p hpl)
      have HLK := hid (show (l.take k).length = k by rw [List.length_take]; omega)
      clear he ht hpl
      have hz := HB.out.size
      have HA := hid (HB.out.alloc hz (.cells #[.string ⟨p.toArray⟩] 59))
      obtain ⟨is, his⟩ : ∃ z, (idxS (l.take k) p).isSome = z := ⟨_, rfl⟩
      have HIS := hid his
      clear his
      cases is with
      | true =>
        have HS2 := hid (show ShowsT D (l.take (k + 1)) by rw [HT.out]; exact shows_same HS.out HIS.out)
        go_wp2_with (at_lookup; refine wpList_lookup_t rfl (.tmp 22) (.tmp 23) rfl g n D (l.take k) p rfl (HO.out.alloc _) HS.out HPL.out rfl true HIS.out ?_; intro c hc; clear hc)
        go_roundg (l.length - (k + 1))
        case measure => omega
        case rel => exact ⟨k + 1, n, D, by omega, rfl, by go_num, by omega, hid (HO.out.alloc _), HS2, HA⟩
      | false =>
        have HWF := hid (show (Lit.int .u32 (k : Int)).wf = true by have := HL.out; simp [Lit.wf, IntKind.min, IntKind.max, IntKind.signed, IntKind.bits]; omega)
        have HN := hid (show n < maxLen by have := HL.out; unfold maxLen; omega)
        go_wp2_with (first
          | (at_lookup; refine wpList_lookup_t rfl (.tmp 22) (.tmp 23) rfl g n D (l.take k) p rfl (HO.out.alloc _) HS.out HPL.out rfl false HIS.out ?_; intro c hc; clear hc)
          | (at_mapUpdate; refine wpList_mapUpdate_own _ rfl (.tmp 29) (.tmp 30) (.tmp 32) 50 rfl 59 56 Tryz.keyLaw Tryz.underlying50 _ g n D rfl (HO.out.alloc _) HN.out _ _ (keyT p) rfl rfl HKEY.out (placeD k) [] (plainElem_int Tryz.underlying56 HWF.out) ?_; intro w1 hown1 hgrow1; have HO1 := hid hown1; have HG1 := hid hgrow1; clear hown1 hgrow1))
        have HS2 := hid (show ShowsT (D.put (keyT p) (placeD k)) (l.take (k + 1)) by
          have := shows_put (World.ownsMap.isMap HO.out) HPL.out HS.out HIS.out
          rw [HLK.out] at this
          rw [HT.out]; exact this)
        have HB1 := hid (HA.out.grown HG1.out HA.out.size (fun j hj => by cases hj; exact Nat.le_of_eq HG.out))
        go_roundg (l.length - (k + 1))
        case measure => omega
        case rel => exact ⟨k + 1, n + 1, _, by omega, rfl, by go_num, by omega, HO1, HS2, HB1⟩
    · obtain rfl : k = l.length := by omega
      have hneg : ¬ (l.length : Int) < (l.length : Int) := by omega
      rw [List.take_length] at HS
      go_wp2_with fail
      go_ret
      exact ⟨g, rfl, by rw [HG.out]; exact Nat.le_refl _, ⟨n, D, HO.out, HS.out⟩, HB.out⟩
end
end Go.Proofs.YtndmblelkeepjaaGreatDoor

/-
  TmDe, part 26.
-/
import Derived.Test.YtbnafihigoekeaaGreatDoorZe25
import Derived.Test.YtbnafihigoekeaaGreatDoorZe21
import Derived.Lib.Bytealg
import Derived.Lib.AppendZerosOnto
import Derived.Deep.LoopGhost
import Derived.Deep.RegionHeld3
import Derived.Deep.RegionLaw
import Derived.Deep.DeepCutAuto
import Derived.Deep.CutBlock
import Derived.Deep.CutRange
import Derived.Test.YtbnafihigoekeaaGreatDoorZe24
import Derived.Test.YtbnafihigoekeaaGreatDoorZe23
import Derived.Maps.OwnSet
import Derived.Maps.AppendAt
import Derived.DeepKeys4
import Derived.Test.YtbnafihigoekeaaGreatDoorZe2
import Derived.Test.YtbnafihigoekeaaGreatDoorZe22
import Derived.Test.YtbnafihigoekeaaGreatDoorZe1
import Derived.SliceStrings
import Derived.ChangeMaps
import Derived.ChangeMaps5
namespace Go.Proofs.YtbnafihigoekeaaGreatDoor
open Go.RowKit
section
set_option maxRecDepth 100000
set_option maxHeartbeats 4000000
def anyClash (l : List FileS) (p : Txt) : Bool := l.any fun f => clashS f.1 p
def wrongS (f : FileS) : Nat := if rightS f.1 = true then (if f.2.2.length ≤ 20000 then 0 else 6) else 11
theorem DRightQ_any (p : Txt) (w : World) :
    Calls Tryz.prog 69 #[strV p] w fun e w' => e = .returned (.bool (rightS p)) ∧ Below w.heap.size w w' := by
  by_cases hn : p.length ≤ 100
  · exact DRightP_any p w (by omega)
  · have p2 : decide (100 < (p.length : Int)) = true := decide_eq_true (by omega)
    have p4 : decide (100 < p.length) = true := decide_eq_true (by omega)
    have HY := hid (show rightS p = false by unfold rightS; rw [decide_eq_false (fun h => hn h.2)]; rfl)
    clear hn
    unfold strV
    go_enter Tryz.func69, Tryz.ntmps69
    go_wp2_with fail
    go_ret
    exact ⟨by rw [HY.out]; rfl, Below.refl _ _⟩
theorem DWrong_any (f : FileS) (w : World) :
    Calls Tryz.prog 47 #[fileV f] w fun e w' => e = .returned (.int .i64 (wrongS f)) ∧ Below w.heap.size w w' := by
  obtain ⟨q, x, t⟩ := f
  have HB := hid ((Below.refl _ w).alloc (Nat.le_refl w.heap.size) (.cells #[.string ⟨q.toArray⟩, .bool x, .string ⟨t.toArray⟩] 28))
  have HC := hid (fun wy => DRightQ_any q wy)
  have HG := hid (fun (wy : World) (h : Below (w.alloc (.cells #[.string ⟨q.toArray⟩, .bool x, .string ⟨t.toArray⟩] 28)).heap.size (w.alloc (.cells #[.string ⟨q.toArray⟩, .bool x, .string ⟨t.toArray⟩] 28)) wy) => below_cell h (blk_cell (i := 2) (heap_alloc_new w _) rfl))
  obtain ⟨r, hr⟩ : ∃ r, rightS q = r := ⟨_, rfl⟩
  rw [hr] at HC
  unfold strV at HC
  unfold fileV strV
  cases r with
  | false =>
    have HD := hid (show wrongS (q, x, t) = 11 by unfold wrongS; rw [hr]; rfl)
    clear hr
    go_enter Tryz.func47, Tryz.ntmps47
    go_wp2_with (go_at_call 69; refine (HC.out _).mono ?_; rintro e w1 ⟨rfl, hb1⟩; have HB1 := hid (below_step HB.out hb1 HB.out.size); clear hb1)
    go_ret
    exact ⟨by rw [HD.out]; rfl, HB1.out⟩
  | true =>
    by_cases ht : t.length ≤ 20000
    · have t1 : decide (20000 < (t.length : Int)) = false := decide_eq_false (by omega)
      have t2 : decide (20000 < t.length) = false := decide_eq_false (by omega)
      have HD := hid (show wrongS (q, x, t) = 0 by unfold wrongS; rw [hr, if_pos rfl, if_pos ht])
      clear hr ht
      go_enter Tryz.func47, Tryz.ntmps47
      go_wp2_with (go_at_call 69; refine (HC.out _).mono ?_; rintro e w1 ⟨rfl, hb1⟩; have c2 := HG.out _ hb1; have HB1 := hid (below_step HB.out hb1 HB.out.size); clear hb1)
      go_ret
      exact ⟨by rw [HD.out]; rfl, HB1.out⟩
    · have t1 : decide (20000 < (t.length : Int)) = true := decide_eq_true (by omega)
      have t2 : decide (20000 < t.length) = true := decide_eq_true (by omega)
      have HD := hid (show wrongS (q, x, t) = 6 by unfold wrongS; rw [hr, if_pos rfl, if_neg ht])
      clear hr ht
      go_enter Tryz.func47, Tryz.ntmps47
      go_wp2_with (go_at_call 69; refine (HC.out _).mono ?_; rintro e w1 ⟨rfl, hb1⟩; have c2 := HG.out _ hb1; have HB1 := hid (below_step HB.out hb1 HB.out.size); clear hb1)
      go_ret
      exact ⟨by rw [HD.out]; rfl, HB1.out⟩
end
end Go.Proofs.YtbnafihigoekeaaGreatDoor
namespace Go.Proofs.YtbnafihigoekeaaGreatDoor
open Go.RowKit
section
set_option maxRecDepth 100000
set_option maxHeartbeats 4000000
def sumLen : List (Value × List FileS) → Nat
  | [] => 0
  | x :: r => x.2.length + sumLen r
def catS (ps : List (Value × List FileS)) : List FileS := ps.flatMap (·.2)
end
end Go.Proofs.YtbnafihigoekeaaGreatDoor
namespace Go.Proofs.YtbnafihigoekeaaGreatDoor
open Go.RowKit
open BigFrame
section
set_option maxRecDepth 100000
set_option maxHeartbeats 4000000
theorem okOne_len {f : FileS} (h : okOne f = true) : f.1.length ≤ 1000000 := by
  unfold okOne rightS at h
  simp only [Bool.and_eq_true, decide_eq_true_eq] at h
  omega
end
end Go.Proofs.YtbnafihigoekeaaGreatDoor
namespace Go.Proofs.YtbnafihigoekeaaGreatDoor
open Go.RowKit
theorem file_eql (p1 t1 p2 t2 : Txt) (x1 x2 : Bool) (wx : World) : (binOp .eql 28 (.agg #[.string ⟨p1.toArray⟩, .bool x1, .string ⟨t1.toArray⟩]) (.agg #[.string ⟨p2.toArray⟩, .bool x2, .string ⟨t2.toArray⟩])).run Tryz.prog wx = .ok (.bool (((p1, x1, t1) : FileS) == (p2, x2, t2))) wx := by
  by_cases h1 : p1 = p2
  · subst h1
    have n1 : (p1 == p1) = true := by simp
    by_cases h2 : x1 = x2
    · subst h2
      have n2 : (x1 == x1) = true := by simp
      by_cases h3 : t1 = t2
      · subst h3
        have n3 : (t1 == t1) = true := by simp
        have n4 : (((p1, x1, t1) : FileS) == (p1, x1, t1)) = true := by simp
        rw [n4]
        go_simp
      · have n3 : (t1 == t2) = false := by simpa using h3
        have n4 : (((p1, x1, t1) : FileS) == (p1, x1, t2)) = false := by simpa using h3
        rw [n4]
        clear h3
        go_simp
    · have n2 : (x1 == x2) = false := by simpa using h2
      have n4 : (((p1, x1, t1) : FileS) == (p1, x2, t2)) = false := by
        rw [beq_eq_false_iff_ne]
        exact fun e => h2 (congrArg (fun f : FileS => f.2.1) e)
      rw [n4]
      clear h2
      go_simp
  · have n1 : (p1 == p2) = false := by simpa using h1
    have n4 : (((p1, x1, t1) : FileS) == (p2, x2, t2)) = false := by
      rw [beq_eq_false_iff_ne]
      exact fun e => h1 (congrArg Prod.fst e)
    rw [n4]
    clear h1
    go_simp
theorem file_neq (p1 t1 p2 t2 : Txt) (x1 x2 : Bool) (wx : World) : (binOp .neq 28 (.agg #[.string ⟨p1.toArray⟩, .bool x1, .string ⟨t1.toArray⟩]) (.agg #[.string ⟨p2.toArray⟩, .bool x2, .string ⟨t2.toArray⟩])).run Tryz.prog wx = .ok (.bool (((p1, x1, t1) : FileS) != (p2, x2, t2))) wx := by
  by_cases h1 : p1 = p2
  · subst h1
    have n1 : (p1 == p1) = true := by simp
    by_cases h2 : x1 = x2
    · subst h2
      have n2 : (x1 == x1) = true := by simp
      by_cases h3 : t1 = t2
      · subst h3
        have n3 : (t1 == t1) = true := by simp
        have n4 : (((p1, x1, t1) : FileS) != (p1, x1, t1)) = false := by simp
        rw [n4]
        go_simp
      · have n3 : (t1 == t2) = false := by simpa using h3
        have n4 : (((p1, x1, t1) : FileS) != (p1, x1, t2)) = true := by simpa using h3
        rw [n4]
        clear h3
        go_simp
    · have n2 : (x1 == x2) = false := by simpa using h2
      have n4 : (((p1, x1, t1) : FileS) != (p1, x2, t2)) = true := by
        rw [bne_iff_ne]
        exact fun e => h2 (congrArg (fun f : FileS => f.2.1) e)
      rw [n4]
      clear h2
      go_simp
  · have n1 : (p1 == p2) = false := by simpa using h1
    have n4 : (((p1, x1, t1) : FileS) != (p2, x2, t2)) = true := by
      rw [bne_iff_ne]
      exact fun e => h1 (congrArg Prod.fst e)
    rw [n4]
    clear h1
    go_simp
end Go.Proofs.YtbnafihigoekeaaGreatDoor
namespace Go.Proofs.YtbnafihigoekeaaGreatDoor
open Go.RowKit
theorem Tryz.laidOutT : laidOutB Tryz.prog = true := by kernel_rfl
theorem Tryz.rowKey : (114 : TypeId) < Tryz.prog.types.size := of_decide_eq_true (by kernel_rfl)
theorem Tryz.wideKey : (match Tryz.prog.underlying 114 with | some (.array _ _) | some (.struct _) => true | _ => false) = true := by rw [Tryz.underlying114]
set_option maxRecDepth 100000 in
theorem Tryz.keyLaw : Maps.Keyed Tryz.prog 114 := Maps.Keyed.of_law (deep_law_laid Tryz.laidOutT (m := 3) (by omega) Tryz.rowKey (by kernel_rfl) Tryz.wideKey)
theorem Tryz.zeroPlace (w : World) : (zeroValue 111).run Tryz.prog w = .ok (.int .u32 0) w := by kernel_rfl
def keyT (p : Txt) : Lit := .string (keyBytes [.string p])
theorem key_of {p : Txt} (hp : p.length ≤ maxLen) : keyOf Tryz.prog 114 (.agg #[strV p]) = some (keyT p) := by
  have hk : Tryz.prog.keyType 114 = true := by kernel_rfl
  have hc : Tryz.prog.cellsOf 114 = 1 := by kernel_rfl
  have hc1 : Tryz.prog.cellsOf 9 = 1 := by kernel_rfl
  obtain ⟨n, hn⟩ : ∃ n, Tryz.prog.types.size + 1 = n + 2 := ⟨Tryz.prog.types.size - 1, by have h : 114 < Tryz.prog.types.size := Tryz.rowKey; omega⟩
  have hsz : (ByteArray.mk p.toArray).size ≤ maxLen := by
    show p.toArray.size ≤ maxLen
    simpa using hp
  unfold keyOf
  rw [Tryz.underlying114, hk, hn]
  simp [Value.formed, Tryz.underlying114, hc, Value.cells, Program.keyLits, hc1, Tryz.underlying9, keyT, strV, hsz]
theorem keyT_inj {p q : Txt} (hp : p.length ≤ maxLen) (hq : q.length ≤ maxLen) (h : keyT p = keyT q) : p = q := by
  have := Tryz.keyLaw.inj (key_of hp) (h ▸ key_of hq)
  simpa [strV] using this
theorem isKeyT (p : Txt) : WideAt.IsKeyLit (keyT p) := trivial
abbrev MTk := DataW Unit
def placeD (i : Nat) : MTk := .lit (.int .u32 i)
def idxS (l : List Txt) (p : Txt) : Option Nat := l.findIdx? (· == p)
theorem idx_snoc (l : List Txt) (q p : Txt) : idxS (l ++ [q]) p = match idxS l p with | some i => some i | none => if q = p then some l.length else none := by
  unfold idxS
  rw [List.findIdx?_append]
  cases h : List.findIdx? (· == p) l with
  | some i => simp
  | none =>
    by_cases e : q = p
    · simp [e, List.findIdx?_cons]
    · simp [e, List.findIdx?_cons]
theorem idx_in (l : List Txt) (p : Txt) : (idxS l p).isSome = inS l p := by
  unfold idxS inS
  rw [List.findIdx?_isSome]
def ShowsT (D : MTk) (l : List Txt) : Prop := ∀ p : Txt, p.length ≤ maxLen → Maps.has D (keyT p) = (idxS l p).isSome ∧ ∀ i, idxS l p = some i → ∀ z, D.atKey (keyT p) z = .lit (.int .u32 (i : Int))
theorem shows_nil : ShowsT (.map []) [] := fun p _ => ⟨rfl, fun i h => by simp [idxS] at h⟩
theorem shows_same {D : MTk} {l : List Txt} {q : Txt} (h : ShowsT D l) (hs : (idxS l q).isSome = true) : ShowsT D (l ++ [q]) := by
  intro p hp
  obtain ⟨h1, h2⟩ := h p hp
  rw [idx_snoc]
  cases hi : idxS l p with
  | some i =>
    rw [hi] at h1 h2
    exact ⟨h1, fun j hj => h2 j hj⟩
  | none =>
    have : q ≠ p := fun e => by rw [e, hi] at hs; cases hs
    simp only [this, if_false]
    rw [hi] at h1
    exact ⟨h1, fun j hj => by cases hj⟩
theorem shows_put {D : MTk} {l : List Txt} {q : Txt} (hD : Maps.IsMap D) (hq : q.length ≤ maxLen) (h : ShowsT D l) (hs : (idxS l q).isSome = false) : ShowsT (D.put (keyT q) (placeD l.length)) (l ++ [q]) := by
  intro p hp
  obtain ⟨h1, h2⟩ := h p hp
  rw [idx_snoc]
  have hqn : idxS l q = none := by
    cases e : idxS l q with
    | none => rfl
    | some i => rw [e] at hs; cases hs
  by_cases e : q = p
  · subst e
    rw [hqn]
    simp only [if_true]
    refine ⟨(Maps.has_put_same hD (isKeyT q) _).trans rfl, fun i hi z => ?_⟩
    cases hi
    exact Maps.atKey_put_same hD (isKeyT q) _ z
  · have hne : keyT p ≠ keyT q := fun e' => e (keyT_inj hp hq e').symm
    rw [Maps.has_put_other hne]
    cases hi : idxS l p with
    | some i =>
      rw [hi] at h1 h2
      refine ⟨h1, fun j hj z => ?_⟩
      rw [Maps.atKey_put_other hne]
      exact h2 j hj z
    | none =>
      simp only [e, if_false]
      rw [hi] at h1
      exact ⟨h1, fun j hj => by cases hj⟩
abbrev OwnP (w : World) (b n : Nat) (D : MTk) : Prop := w.ownsMap Tryz.prog 114 (plainElem Tryz.prog 111) b n D
theorem OwnP.old {w w' : World} {b n : Nat} {D : MTk} (h : OwnP w b n D) (hk : Below w.heap.size w w') : OwnP w' b n D := World.ownsMap.kept h (⟨hk.os, hk.tape, hk.output, hk.size, fun k hk' _ => hk.block k hk'⟩ : w.grownBy w' none) (by simp)
def MapT (w : World) (g : Nat) (l : List Txt) : Prop := ∃ n D, OwnP w g n D ∧ ShowsT D l
theorem MapT.old {w w' : World} {g : Nat} {l : List Txt} (h : MapT w g l) (hk : Below w.heap.size w w') : MapT w' g l := by
  obtain ⟨n, D, h1, h2⟩ := h
  exact ⟨n, D, h1.old hk, h2⟩
theorem ownP_made (w : World) (g : Nat) (hg : w.heap.size = g) : OwnP (w.alloc (.map #[] 0)) g 0 (.map []) := hg ▸ World.ownsMap_made w _ _ _
theorem wpList_lookup_t {ops : Array Oper} {rest : List Oper} {o : Oper} {a : Act} {w : World} {Q : Exit → Act → World → Prop} (hg : o.guard = none) (m x : Operand) (hop : o.op = Op.lookup 107 m x true)
    (b n : Nat) (D : MTk) (l : List Txt) (p : Txt) (hm : a.eval m = .map (some b)) (hown : OwnP w b n D) (hs : ShowsT D l) (hp : p.length ≤ maxLen) (hx : a.eval x = .agg #[strV p]) (r : Bool) (hr : (idxS l p).isSome = r)
    (hK : ∀ c : Int, (∀ i, idxS l p = some i → c = (i : Int)) → wpList Tryz.prog ops Q rest (a.put o.dst (.tuple #[.int .u32 c, .bool r])) w) : wpList Tryz.prog ops Q (o :: rest) a w := by
  refine wpList_lookup_own_ok_int w hg m x 107 hop 114 111 .u32 Tryz.keyLaw Tryz.underlying107 Tryz.underlying111 (Tryz.zeroPlace _) b n D hm hown _ (keyT p) hx (key_of hp) fun c hat _ => ?_
  obtain ⟨h1, h2⟩ := hs p hp
  rw [h1, hr]
  refine hK c fun i hi => ?_
  have := (h2 i hi (.lit (.int .u32 0))).symm.trans hat
  simpa using this.symm
section
set_option maxRecDepth 100000
set_option maxHeartbeats 4000000
theorem DPathsOf_any (v : Value) (l : List FileS) (w : World) (hv : SlF w v l) (hl : l.length ≤ 100000) :
    Calls Tryz.prog 71 #[v] w fun e w' => ∃ u, e = .returned u ∧ OwnT w' w.heap.size u (l.map (·.1)) ∧ Below w.heap.size w w' := by
  obtain ⟨ao, cap, rfl⟩ := hv.form
  have HV := hid hv
  have HL := hid hl
  clear hv hl
  go_enter Tryz.func71, Tryz.ntmps71
  go_wp2_with fail
  go_loopg [3, 5, 8] l.length (fun g r _ i wr => ∃ k : Nat, k ≤ l.length ∧ l.length - k = g ∧ i = .int .i64 k ∧ Hid (OwnT wr w.heap.size r ((l.take k).map (·.1))) ∧ Hid (Below w.heap.size w wr))
  case atStart => exact ⟨0, Nat.zero_le _, rfl, rfl, hid (World.ownsRow_nil _ _ _ _), hid (Below.refl _ _)⟩
  case round =>
    obtain ⟨k, hk, rfl, rfl, HO, HB⟩ := hrel
    have k0 : (0 : Int) ≤ (k : Int) := Int.natCast_nonneg _
    obtain ⟨no, nc, rfl⟩ := owns_form HO.out
    by_cases hlt : k < l.length
    · have k1 : (k : Int) < (l.length : Int) := by omega
      have kw : IntKind.i64.wrap ((k : Int) + 1) = (k : Int) + 1 := IntWalk.i64_in _ (by have := HL.out; omega)
      obtain ⟨b, o, p2, x2, t2, rfl, he, c1, c2, c3⟩ := SlF.at (HV.out.old HB.out) hlt
      have HT := hid (show (l.take (k + 1)).map (·.1) = (l.take k).map (·.1) ++ [p2] by rw [List.take_add_one, he]; simp)
      have HLN := hid (show ((l.take k).map (·.1)).length ≤ 100000000 by have := HL.out; simp; omega)
      obtain ⟨X, hX⟩ : ∃ X, (l.take k).map (·.1) = X := ⟨_, rfl⟩
      rw [hX] at HO HT HLN
      rw [hX]
      clear he hX
      have hz := HB.out.size
      have HB1 := hid (HB.out.alloc hz (.cells #[.string ⟨p2.toArray⟩, .bool x2, .string ⟨t2.toArray⟩] 28))
      go_wp2_with (at_builtin; refine wpList_append_t1 rfl (.tmp 12) (.tmp 15) rfl w.heap.size _ X p2 rfl (HO.out.alloc _) (wr.heap.size + 1) rfl (by simp) HLN.out (Nat.le_trans hz (by simp)) ?_; intro v5 w5 hO5 hb5; have HO5 := hid hO5; have HB5 := hid (HB1.out.trans hb5); clear hO5 hb5)
      go_roundg (l.length - (k + 1))
      case measure => omega
      case rel => exact ⟨k + 1, by omega, rfl, by go_num, by rw [HT.out]; exact HO5, HB5⟩
    · obtain rfl : k = l.length := by omega
      have hneg : ¬ (l.length : Int) < (l.length : Int) := by omega
      rw [List.take_length] at HO ⊢
      obtain ⟨X, hX⟩ : ∃ X, l.map (·.1) = X := ⟨_, rfl⟩
      have HX := hid hX
      rw [hX] at HO ⊢
      clear hX
      go_wp2_with fail
      go_ret
      rw [HX.out]
      exact ⟨_, rfl, HO.out, HB.out⟩
theorem DPlaces_any (v : Value) (l : List Txt) (w : World) (hv : SlT w v l) (hl : l.length ≤ 1000000) (hp : ∀ p ∈ l, p.length ≤ maxLen) :
    Calls Tryz.prog 70 #[v] w fun e w' => ∃ g, e = .returned (.map (some g)) ∧ w.heap.size ≤ g ∧ MapT w' g l ∧ Below w.heap.size w w' := by
  obtain ⟨ao, cap, rfl⟩ := hv.form
  have HV := hid hv
  have HL := hid hl
  have HP := hid hp
  clear hv hl hp
  go_enter Tryz.func70, Tryz.ntmps70
  have hmm : ∀ (wx : World) (n : Int), (Instr.makeMap 107 (some (.int .i64 n))).run Tryz.prog wx = .ok (.map (some wx.heap.size)) (wx.alloc (.map #[] 0)) := fun wx n => by
    simp [Instr.makeMap, run_underlying Tryz.underlying107, asInt, asIntOf, Result.andThen]
  go_wp2_with fail
  have HM := hid (ownP_made w w.heap.size rfl)
  have HB0 := hid ((Below.refl _ w).alloc (Nat.le_refl w.heap.size) (.map #[] 0))
  obtain ⟨g, hg⟩ : ∃ g, w.heap.size = g := ⟨_, rfl⟩
  have HG := hid hg
  rw [hg] at HM ⊢
  generalize w.alloc (.map #[] 0) = W at HM HB0 ⊢
  clear hg hmm
  go_loopg [4, 5, 6, 7, 8, 14] l.length (fun gk _ _ _ _ _ i wr => ∃ (k n : Nat) (D : MTk), k ≤ l.length ∧ l.length - k = gk ∧ i = .int .i64 k ∧ n ≤ k ∧ Hid (OwnP wr g n D) ∧ Hid (ShowsT D (l.take k)) ∧ Hid (Below w.heap.size w wr))
  case atStart => exact ⟨0, 0, _, Nat.zero_le _, rfl, rfl, Nat.le_refl _, HM, hid shows_nil, HB0⟩
  case round =>
    obtain ⟨k, n, D, hk, rfl, rfl, hnk, HO, HS, HB⟩ := hrel
    have k0 : (0 : Int) ≤ (k : Int) := Int.natCast_nonneg _
    by_cases hlt : k < l.length
    · have k1 : (k : Int) < (l.length : Int) := by omega
      have kw : IntKind.i64.wrap ((k : Int) + 1) = (k : Int) + 1 := IntWalk.i64_in _ (by have := HL.out; omega)
      have ku : IntKind.u32.wrap (k : Int) = (k : Int) := by have := HL.out; simp [IntKind.wrap, IntKind.bits, IntKind.signed]; omega
      obtain ⟨b, o, p, rfl, he, c1⟩ := SlT.at (HV.out.old HB.out) hlt
      have ht : l.take (k + 1) = l.take k ++ [p] := by rw [List.take_add_one, he]; rfl
      have hpl := HP.out p (List.mem_iff_getElem?.2 ⟨k, he⟩)
      have HPL := hid hpl
      have HKEY := hid (key_of hpl)
      have HT := hid ht
      have HSH := hid (HS.out p hpl)
      have HLK := hid (show (l.take k).length = k by rw [List.length_take]; omega)
      clear he ht hpl
      have hz := HB.out.size
      have HA := hid (HB.out.alloc hz (.cells #[.string ⟨p.toArray⟩] 114))
      obtain ⟨is, his⟩ : ∃ z, (idxS (l.take k) p).isSome = z := ⟨_, rfl⟩
      have HIS := hid his
      clear his
      cases is with
      | true =>
        have HS2 := hid (show ShowsT D (l.take (k + 1)) by rw [HT.out]; exact shows_same HS.out HIS.out)
        go_wp2_with (at_lookup; refine wpList_lookup_t rfl (.tmp 22) (.tmp 23) rfl g n D (l.take k) p rfl (HO.out.alloc _) HS.out HPL.out rfl true HIS.out ?_; intro c hc; clear hc)
        go_roundg (l.length - (k + 1))
        case measure => omega
        case rel => exact ⟨k + 1, n, D, by omega, rfl, by go_num, by omega, hid (HO.out.alloc _), HS2, HA⟩
      | false =>
        have HWF := hid (show (Lit.int .u32 (k : Int)).wf = true by have := HL.out; simp [Lit.wf, IntKind.min, IntKind.max, IntKind.signed, IntKind.bits]; omega)
        have HN := hid (show n < maxLen by have := HL.out; unfold maxLen; omega)
        go_wp2_with (first
          | (at_lookup; refine wpList_lookup_t rfl (.tmp 22) (.tmp 23) rfl g n D (l.take k) p rfl (HO.out.alloc _) HS.out HPL.out rfl false HIS.out ?_; intro c hc; clear hc)
          | (at_mapUpdate; refine wpList_mapUpdate_own _ rfl (.tmp 29) (.tmp 30) (.tmp 32) 107 rfl 114 111 Tryz.keyLaw Tryz.underlying107 _ g n D rfl (HO.out.alloc _) HN.out _ _ (keyT p) rfl rfl HKEY.out (placeD k) [] (plainElem_int Tryz.underlying111 HWF.out) ?_; intro w1 hown1 hgrow1; have HO1 := hid hown1; have HG1 := hid hgrow1; clear hown1 hgrow1))
        have HS2 := hid (show ShowsT (D.put (keyT p) (placeD k)) (l.take (k + 1)) by
          have := shows_put (World.ownsMap.isMap HO.out) HPL.out HS.out HIS.out
          rw [HLK.out] at this
          rw [HT.out]; exact this)
        have HB1 := hid (HA.out.grown HG1.out HA.out.size (fun j hj => by cases hj; exact Nat.le_of_eq HG.out))
        go_roundg (l.length - (k + 1))
        case measure => omega
        case rel => exact ⟨k + 1, n + 1, _, by omega, rfl, by go_num, by omega, HO1, HS2, HB1⟩
    · obtain rfl : k = l.length := by omega
      have hneg : ¬ (l.length : Int) < (l.length : Int) := by omega
      rw [List.take_length] at HS
      go_wp2_with fail
      go_ret
      exact ⟨g, rfl, by rw [HG.out]; exact Nat.le_refl _, ⟨n, D, HO.out, HS.out⟩, HB.out⟩
end
end Go.Proofs.YtbnafihigoekeaaGreatDoor
namespace Go.Proofs.YtbnafihigoekeaaGreatDoor
open Go.RowKit
open BigFrame
section
set_option maxRecDepth 100000
set_option maxHeartbeats 4000000
theorem DFolders_any (p : Txt) (w : World) (hl : p.length ≤ 1000000) :
    Calls Tryz.prog 72 #[strV p] w fun e w' => ∃ u, e = .returned u ∧ OwnT w' w.heap.size u (foldersS p) ∧ Below w.heap.size w w' := by
  have HL := hid hl
  obtain ⟨cap, wc, hcv, hsc, hzc, hbc⟩ := conv_sl (P := Tryz.prog) w 9 133 5 p Tryz.underlying9 Tryz.underlying133 Tryz.underlying5
  have HS := hid hsc
  have HBC := hid hbc
  have HST := hid (fun (k : Nat) (h : k ≤ p.length) (wx : World) => run_str_to (P := Tryz.prog) 9 Tryz.underlying9 p k h wx)
  clear hsc hbc hl
  unfold strV
  go_enter Tryz.func72, Tryz.ntmps72
  go_wp2_with fail
  go_loopg [3, 4, 5, 9] p.length (fun g r _ _ i wr => ∃ k : Nat, k ≤ p.length ∧ p.length - k = g ∧ i = .int .i64 k ∧ Hid (OwnT wr wc.heap.size r (foldK p k)) ∧ Hid (Below wc.heap.size wc wr))
  case atStart => exact ⟨0, Nat.zero_le _, rfl, rfl, hid (World.ownsRow_nil _ _ _ _), hid (Below.refl _ _)⟩
  case round =>
    obtain ⟨k, hk, rfl, rfl, HO, HB⟩ := hrel
    have k0 : (0 : Int) ≤ (k : Int) := Int.natCast_nonneg _
    have HFL := hid (foldK_len p k)
    obtain ⟨X, hX⟩ : ∃ X, foldK p k = X := ⟨_, rfl⟩
    have HX := hid hX
    rw [hX] at HO HFL
    clear hX
    obtain ⟨no, nc, rfl⟩ := owns_form HO.out
    by_cases hlt : k < p.length
    · have k1 : (k : Int) < (p.length : Int) := by omega
      have kw : IntKind.i64.wrap ((k : Int) + 1) = (k : Int) + 1 := IntWalk.i64_in _ (by have := HL.out; omega)
      obtain ⟨a, c, hae, hcell, hc⟩ := (HS.out.old HB.out).byteAt' (i := k) hlt
      cases hae
      rw [Addr.add_lit, Nat.zero_add] at hcell
      by_cases h47 : c = 47
      · subst h47
        have HF := hid (show foldK p (k + 1) = X ++ [p.take k] by rw [foldK, if_pos hc, HX.out])
        have hst := HST.out k hk
        have hz : wc.heap.size ≤ wr.heap.size := HB.out.size
        have HLN := hid (show X.length ≤ 100000000 by have := HL.out; have := HFL.out; omega)
        clear hc
        go_wp2_with (at_builtin; refine wpList_append_t1 rfl (.tmp 16) (.tmp 20) rfl wc.heap.size _ X (p.take k) rfl HO.out wr.heap.size rfl rfl HLN.out hz ?_; intro v5 w5 hO5 hb5; have HO5 := hid hO5; have HB5 := hid (HB.out.trans hb5); clear hO5 hb5)
        go_roundg (p.length - (k + 1))
        case measure => omega
        case rel => exact ⟨k + 1, by omega, rfl, by go_num, by rw [HF.out]; exact HO5, HB5⟩
      · have HF := hid (show foldK p (k + 1) = X by
          rw [foldK, if_neg, HX.out]
          rw [hc]
          intro e
          cases e
          exact h47 rfl)
        have b1 : (((c.toNat : Nat) : Int) == 47) = false := beq_false_of_ne fun e => h47 (UInt8.toNat_inj.1 (by rw [show (47 : UInt8).toNat = 47 from rfl]; omega))
        have b2 : (c.toNat == 47) = false := beq_false_of_ne fun e => h47 (UInt8.toNat_inj.1 (by rw [show (47 : UInt8).toNat = 47 from rfl]; omega))
        clear hc h47
        go_wp2_with fail
        go_roundg (p.length - (k + 1))
        case measure => omega
        case rel => exact ⟨k + 1, by omega, rfl, by go_num, by rw [HF.out]; exact HO, HB⟩
    · obtain rfl : k = p.length := by omega
      have hneg : ¬ (p.length : Int) < (p.length : Int) := by omega
      go_wp2_with fail
      go_ret
      refine ⟨_, rfl, ?_, HBC.out.trans (HB.out.mono HBC.out.size)⟩
      unfold foldersS
      rw [HX.out]
      exact owns_lower HO.out HBC.out.size
theorem DNested_any (v : Value) (l : List FileS) (w : World) (hv : SlF w v l) (hl : l.length ≤ 100000) (hp : ∀ f ∈ l, f.1.length ≤ 1000000) :
    Calls Tryz.prog 48 #[v] w fun e w' => e = .returned (.bool (nestedS l)) ∧ Below w.heap.size w w' := by
  obtain ⟨ao, cap, rfl⟩ := hv.form
  have HV := hid hv
  have HL := hid hl
  have HP := hid hp
  have HPO := hid (DPathsOf_any _ l w hv hl)
  have HPL := hid (fun (u : Value) (wy : World) (h : SlT wy u (l.map (·.1))) => DPlaces_any u (l.map (·.1)) wy h (by rw [List.length_map]; omega) (fun p hp' => by
    obtain ⟨f, hf, rfl⟩ := List.mem_map.1 hp'
    have := hp f hf
    unfold maxLen
    omega))
  clear hv hl hp
  go_enter Tryz.func48, Tryz.ntmps48
  go_wp2_with (first
    | (go_at_call 71; refine HPO.out.mono ?_; rintro e w1 ⟨u1, rfl, ho1, hb1⟩; have HO1 := hid ho1.sl; have HB1 := hid hb1; clear ho1 hb1)
    | (go_at_call 70; refine (HPL.out _ _ HO1.out).mono ?_; rintro e w2 ⟨g, rfl, hg, hm, hb2⟩; obtain ⟨mn, mD, hm1, hm2⟩ := hm; have HM := hid hm1; have HSH := hid hm2; have HB2 := hid (below_step HB1.out hb2 HB1.out.size); clear hg hm1 hm2 hb2))
  go_loopg [15] l.length (fun gk i wr => ∃ k : Nat, k ≤ l.length ∧ l.length - k = gk ∧ i = .int .i64 k ∧ Hid (nestedS l = (l.drop k).any fun f => (foldersS f.1).any fun d => inS (l.map (·.1)) d) ∧ Hid (Below w2.heap.size w2 wr))
  case atStart => exact ⟨0, Nat.zero_le _, rfl, rfl, hid (by rw [List.drop_zero]; rfl), hid (Below.refl _ _)⟩
  case round =>
    obtain ⟨k, hk, rfl, rfl, HA, HB⟩ := hrel
    have k0 : (0 : Int) ≤ (k : Int) := Int.natCast_nonneg _
    by_cases hlt : k < l.length
    · have k1 : (k : Int) < (l.length : Int) := by omega
      have kw : IntKind.i64.wrap ((k : Int) + 1) = (k : Int) + 1 := IntWalk.i64_in _ (by have := HL.out; omega)
      obtain ⟨b, o, p, x, t, rfl, he, c1, c2, c3⟩ := SlF.at (HV.out.old (below_step HB2.out HB.out HB2.out.size)) hlt
      have hd := drop_one he
      have hpl := HP.out _ (List.mem_iff_getElem?.2 ⟨k, he⟩)
      have HFD := hid (fun (wy : World) => DFolders_any p wy hpl)
      have HX := hid (show nestedS l = (((foldersS p).any fun d => inS (l.map (·.1)) d) || (l.drop (k + 1)).any fun f => (foldersS f.1).any fun d => inS (l.map (·.1)) d) by rw [HA.out, hd]; rfl)
      have HDL := hid (show ∀ d ∈ foldersS p, d.length ≤ maxLen from fun d hd' => by
        have h := (withinS_iff p d).1 ((folders_mem p d).1 hd')
        obtain ⟨r, hr⟩ := h
        rw [hr] at hpl
        simp at hpl
        unfold maxLen
        omega)
      have HFL := hid (show (foldersS p).length ≤ 1000000 from Nat.le_trans (foldK_len p p.length) hpl)
      have HBA := hid (HB.out.alloc HB.out.size (.cells #[.string ⟨p.toArray⟩, .bool x, .string ⟨t.toArray⟩] 28))
      obtain ⟨F, hF⟩ : ∃ F, foldersS p = F := ⟨_, rfl⟩
      rw [hF] at HFD HX HDL HFL
      unfold strV at HFD
      clear he hd hpl hF HA
      go_wp2_with (go_at_call 72; refine (HFD.out _).mono ?_; rintro e w3 ⟨u3, rfl, ho3, hb3⟩; obtain ⟨fo, fc, rfl⟩ := ho3.sl.form; have HO3 := hid ho3.sl; have HB3 := hid (below_step HBA.out hb3 HBA.out.size); clear ho3 hb3)
      go_loopg [23] F.length (fun gj i wy => ∃ j : Nat, j ≤ F.length ∧ F.length - j = gj ∧ i = .int .i64 j ∧ Hid (nestedS l = (((F.drop j).any fun d => inS (l.map (·.1)) d) || (l.drop (k + 1)).any fun f => (foldersS f.1).any fun d => inS (l.map (·.1)) d)) ∧ w3 = wy)
      case atStart => exact ⟨0, Nat.zero_le _, rfl, rfl, HX, rfl⟩
      case round =>
        obtain ⟨j, hj, rfl, rfl, HY, rfl⟩ := hrel
        have j0 : (0 : Int) ≤ (j : Int) := Int.natCast_nonneg _
        by_cases hlj : j < F.length
        · have j1 : (j : Int) < (F.length : Int) := by omega
          have jw : IntKind.i64.wrap ((j : Int) + 1) = (j : Int) + 1 := IntWalk.i64_in _ (by have := HFL.out; omega)
          obtain ⟨b2, o2, d, rfl, hde, cd⟩ := SlT.at HO3.out hlj
          have hdd := drop_one hde
          have HDE := hid (HDL.out d (List.mem_iff_getElem?.2 ⟨j, hde⟩))
          obtain ⟨is, his⟩ : ∃ z, (idxS (l.map (·.1)) d).isSome = z := ⟨_, rfl⟩
          have HIS := hid his
          have HZ := hid (show nestedS l = ((is || (F.drop (j + 1)).any fun d => inS (l.map (·.1)) d) || (l.drop (k + 1)).any fun f => (foldersS f.1).any fun d => inS (l.map (·.1)) d) by rw [HY.out, hdd, List.any_cons, ← idx_in, his])
          have HMO := hid (OwnP.old HM.out HB3.out)
          clear hde hdd his HY
          cases is with
          | true =>
            have HQ := hid (show nestedS l = true by rw [HZ.out]; rfl)
            clear HZ
            go_wp2_with (at_lookup; refine wpList_lookup_t rfl (.tmp 28) (.tmp 30) rfl g mn mD (l.map (·.1)) d rfl HMO.out HSH.out HDE.out rfl true HIS.out ?_; intro c hc; clear hc)
            go_ret
            exact ⟨by rw [HQ.out]; rfl, below_step HB2.out HB3.out HB2.out.size⟩
          | false =>
            have HQ := hid (show nestedS l = (((F.drop (j + 1)).any fun d => inS (l.map (·.1)) d) || (l.drop (k + 1)).any fun f => (foldersS f.1).any fun d => inS (l.map (·.1)) d) by rw [HZ.out, Bool.false_or])
            clear HZ
            go_wp2_with (at_lookup; refine wpList_lookup_t rfl (.tmp 28) (.tmp 30) rfl g mn mD (l.map (·.1)) d rfl HMO.out HSH.out HDE.out rfl false HIS.out ?_; intro c hc; clear hc)
            go_roundg (F.length - (j + 1))
            case measure => omega
            case rel => exact ⟨j + 1, by omega, rfl, by go_num, HQ, rfl⟩
        · obtain rfl : j = F.length := by omega
          have hneg : ¬ (F.length : Int) < (F.length : Int) := by omega
          have HQ := hid (show nestedS l = (l.drop (k + 1)).any fun f => (foldersS f.1).any fun d => inS (l.map (·.1)) d by rw [HY.out, List.drop_length]; rfl)
          clear HY
          go_wp2_with fail
          go_roundg (l.length - (k + 1))
          case measure => omega
          case rel => exact ⟨k + 1, by omega, rfl, by go_num, HQ, HB3⟩
    · obtain rfl : k = l.length := by omega
      have hneg : ¬ (l.length : Int) < (l.length : Int) := by omega
      have HQ := hid (show nestedS l = false by rw [HA.out, List.drop_length]; rfl)
      go_wp2_with fail
      go_ret
      exact ⟨by rw [HQ.out]; rfl, below_step HB2.out HB.out HB2.out.size⟩
end
end Go.Proofs.YtbnafihigoekeaaGreatDoor
namespace Go.Proofs.YtbnafihigoekeaaGreatDoor
open Go.RowKit
open BigFrame
section
set_option maxRecDepth 100000
set_option maxHeartbeats 4000000
theorem wrong_cases (f : FileS) : (wrongS f = 0 ∧ okOne f = true) ∨ (wrongS f = 6 ∧ okOne f = false) ∨ (wrongS f = 11 ∧ okOne f = false) := by
  unfold wrongS okOne
  cases rightS f.1 with
  | false => exact .inr (.inr ⟨rfl, rfl⟩)
  | true =>
    by_cases h : f.2.2.length ≤ 20000
    · rw [if_pos rfl, if_pos h, decide_eq_true h]; exact .inl ⟨rfl, rfl⟩
    · rw [if_pos rfl, if_neg h, decide_eq_false h]; exact .inr (.inl ⟨rfl, rfl⟩)
theorem okAllD_ok : ∀ (l pre : List FileS), okAllD pre l = true → ∀ f ∈ l, okOne f = true
  | [], _, _, _, hf => by cases hf
  | x :: r, pre, h, f, hf => by
    rw [okAllD, Bool.and_eq_true] at h
    rcases List.mem_cons.1 hf with rfl | hf
    · have := h.1
      unfold okD at this
      rw [Bool.and_eq_true] at this
      exact this.1
    · exact okAllD_ok r _ h.2 f hf
theorem DRightT_any (v : Value) (l : List FileS) (w : World) (hv : SlF w v l) :
    Calls Tryz.prog 24 #[v] w fun e w' => e = .returned (.bool (rightT l)) ∧ Below w.heap.size w w' := by
  rw [← rightD_eq]
  obtain ⟨ao, cap, rfl⟩ := hv.form
  have HV := hid hv
  clear hv
  by_cases h100 : l.length ≤ 100
  · have hl1 : decide (100 < (l.length : Int)) = false := decide_eq_false (by omega)
    have hl2 : decide (100 < l.length) = false := decide_eq_false (by omega)
    have HR := hid (show rightD l = (okAllD [] l && !nestedS l) by unfold rightD; rw [decide_eq_true h100, Bool.true_and])
    have HL := hid h100
    clear h100
    go_enter Tryz.func24, Tryz.ntmps24
    go_wp2_with fail
    go_loopg [10] l.length (fun g i wr => ∃ k : Nat, k ≤ l.length ∧ l.length - k = g ∧ i = .int .i64 k ∧ Hid (okAllD [] l = okAllD (l.take k) (l.drop k)) ∧ Hid (Below w.heap.size w wr))
    case atStart => exact ⟨0, Nat.zero_le _, rfl, rfl, hid rfl, hid (Below.refl _ _)⟩
    case round =>
      obtain ⟨k, hk, rfl, rfl, HA, HB⟩ := hrel
      have hbx := HB.out
      have hzx := hbx.size
      have k0 : (0 : Int) ≤ (k : Int) := Int.natCast_nonneg _
      by_cases hlt : k < l.length
      · have k1 : (k : Int) < (l.length : Int) := by omega
        have kw : IntKind.i64.wrap ((k : Int) + 1) = (k : Int) + 1 := IntWalk.i64_in _ (by have := HL.out; omega)
        obtain ⟨b, o, p, x, t, rfl, he, c1, c2, c3⟩ := SlF.at (HV.out.old hbx) hlt
        have hd := drop_one he
        have ht : l.take (k + 1) = l.take k ++ [(p, x, t)] := by rw [List.take_add_one, he]; rfl
        have HX := hid (show okAllD [] l = (okD (l.take k) (p, x, t) && okAllD (l.take (k + 1)) (l.drop (k + 1))) by rw [HA.out, hd, okAllD, ht])
        have HW := hid (fun wy => DWrong_any (p, x, t) wy)
        obtain ⟨wn, hwn⟩ : ∃ z, wrongS (p, x, t) = z := ⟨_, rfl⟩
        have hwc := wrong_cases (p, x, t)
        rw [hwn] at HW hwc
        obtain ⟨ok1, hok1⟩ : ∃ z, okOne (p, x, t) = z := ⟨_, rfl⟩
        have HOK := hid (show okD (l.take k) (p, x, t) = (ok1 && (match (l.take k).getLast? with | some g => !(ltS p g.1 || p == g.1) | none => true)) by rw [← hok1]; rfl)
        rw [hok1] at hwc
        obtain ⟨ok3, hok3⟩ : ∃ z, okD (l.take k) (p, x, t) = z := ⟨_, rfl⟩
        rw [hok3] at HOK HX
        unfold fileV strV at HW
        have HE := hid he
        clear he hd ht hwn hok1 hok3 HA
        go_upto_region 6 with fail
        have HBA := hid (hbx.alloc hzx (.cells #[.string ⟨p.toArray⟩, .bool x, .string ⟨t.toArray⟩] 28))
        have hg := heap_alloc_new wr (.cells #[.string ⟨p.toArray⟩, .bool x, .string ⟨t.toArray⟩] 28)
        have f0 := blk_cell (i := 0) hg rfl
        have f1 := blk_cell (i := 1) hg rfl
        have f2 := blk_cell (i := 2) hg rfl
        clear hg c1 c2 c3
        generalize wr.heap.size = g at f0 f1 f2 ⊢
        generalize wr.alloc (.cells #[.string ⟨p.toArray⟩, .bool x, .string ⟨t.toArray⟩] 28) = W1 at HBA f0 f1 f2 ⊢
        go_cut [32] from 15 to 32 (fun q wx => q = .bool (!ok3) ∧ Hid (Below w.heap.size w wx))
        case first =>
          obtain ⟨ι, _, f, hf, hc⟩ := fam W1
          have f0 := fam_cell hf f0
          have f1 := fam_cell hf f1
          have f2 := fam_cell hf f2
          rcases hwc with ⟨rfl, rfl⟩ | ⟨rfl, rfl⟩ | ⟨rfl, rfl⟩
          · by_cases hk0 : k = 0
            · have z1 : decide (0 < (k : Int)) = false := decide_eq_false (by omega)
              have z2 : decide (0 < k) = false := decide_eq_false (by omega)
              have HQ := hid (show ok3 = true by rw [HOK.out, hk0]; rfl)
              clear hk0
              refine quiet_region (fun w' => ∃ i, w' = f i) (by kernel_rfl) (by kernel_rfl) (hc _ ((Below.refl _ _).drew)) ?_
              repeat (go_big_quiet_step ((go_at_call 47; exact fam_call hf hc (HW.out _))))
              refine wpQuiet_nil ?_
              intro _ hw'
              obtain ⟨nq, hw''⟩ := hw'
              subst hw''
              go_wp2_with fail
              go_meet
              exact ⟨by rw [HQ.out]; rfl, hid (below_step HBA.out (hf nq) HBA.out.size)⟩
            · have z1 : decide (0 < (k : Int)) = true := decide_eq_true (by omega)
              have z2 : decide (0 < k) = true := decide_eq_true (by omega)
              obtain ⟨j, hj⟩ : ∃ j, k = j + 1 := ⟨k - 1, by omega⟩
              have j0 : (0 : Int) ≤ (j : Int) := Int.natCast_nonneg _
              have jl : (j : Int) < (l.length : Int) := by omega
              have jw : IntKind.i64.wrap ((k : Int) - 1) = (j : Int) := (IntWalk.i64_in _ (by have := HL.out; omega)).trans (by omega)
              obtain ⟨b', o', pj, xj, tj, hao, hej, cj, _, _⟩ := SlF.at (HV.out.old HBA.out) (i := j) (by omega)
              cases hao
              have cj := fam_cell hf cj
              have hgl : (l.take k).getLast? = some (pj, xj, tj) := by
                rw [hj, List.take_add_one, hej]
                simp
              have HQ := hid (show ok3 = !(ltS p pj || p == pj) by rw [HOK.out, hgl]; rfl)
              clear hk0 hgl hej hj
              obtain ⟨e1, he1⟩ : ∃ z, Op.bytesLess p pj = z := ⟨_, rfl⟩
              obtain ⟨e2, he2⟩ : ∃ z, (p == pj) = z := ⟨_, rfl⟩
              have HQ := hid (show ok3 = !(e1 || e2) by rw [HQ.out, ← he1, ← he2])
              refine quiet_region (fun w' => ∃ i, w' = f i) (by kernel_rfl) (by kernel_rfl) (hc _ ((Below.refl _ _).drew)) ?_
              repeat (go_big_quiet_step ((go_at_call 47; exact fam_call hf hc (HW.out _))))
              refine wpQuiet_nil ?_
              intro _ hw'
              obtain ⟨nq, hw''⟩ := hw'
              subst hw''
              go_wp2_with fail
              go_meet
              exact ⟨by rw [HQ.out]; simp, hid (below_step HBA.out (hf nq) HBA.out.size)⟩
          · have HQ := hid (show ok3 = false by rw [HOK.out]; rfl)
            refine quiet_region (fun w' => ∃ i, w' = f i) (by kernel_rfl) (by kernel_rfl) (hc _ ((Below.refl _ _).drew)) ?_
            repeat (go_big_quiet_step ((go_at_call 47; exact fam_call hf hc (HW.out _))))
            refine wpQuiet_nil ?_
            intro _ hw'
            obtain ⟨nq, hw''⟩ := hw'
            subst hw''
            go_wp2_with fail
            go_meet
            exact ⟨by rw [HQ.out]; rfl, hid (below_step HBA.out (hf nq) HBA.out.size)⟩
          · have HQ := hid (show ok3 = false by rw [HOK.out]; rfl)
            refine quiet_region (fun w' => ∃ i, w' = f i) (by kernel_rfl) (by kernel_rfl) (hc _ ((Below.refl _ _).drew)) ?_
            repeat (go_big_quiet_step ((go_at_call 47; exact fam_call hf hc (HW.out _))))
            refine wpQuiet_nil ?_
            intro _ hw'
            obtain ⟨nq, hw''⟩ := hw'
            subst hw''
            go_wp2_with fail
            go_meet
            exact ⟨by rw [HQ.out]; rfl, hid (below_step HBA.out (hf nq) HBA.out.size)⟩
        case rest =>
          obtain ⟨rfl, HC⟩ := hcut
          cases ok3 with
          | false =>
            have HF := hid (show rightD l = false by rw [HR.out, HX.out]; rfl)
            clear HX HOK
            go_wp2_with fail
            go_ret
            exact ⟨by rw [HF.out]; rfl, HC.out⟩
          | true =>
            have HY := hid (show okAllD [] l = okAllD (l.take (k + 1)) (l.drop (k + 1)) by rw [HX.out, Bool.true_and])
            clear HX HOK
            go_wp2_with fail
            go_roundg (l.length - (k + 1))
            case measure => omega
            case rel => exact ⟨k + 1, by omega, rfl, by go_num, HY, HC⟩
      · obtain rfl : k = l.length := by omega
        have hneg : ¬ (l.length : Int) < (l.length : Int) := by omega
        have hok : okAllD [] l = true := by rw [HA.out, List.drop_length]; rfl
        have HF := hid (show rightD l = !nestedS l by rw [HR.out, hok, Bool.true_and])
        have HN := hid (DNested_any _ l wr (HV.out.old hbx) (by have := HL.out; omega) (fun f hf => okOne_len (okAllD_ok l [] hok f hf)))
        clear hok HA
        go_wp2_with (go_at_call 48; refine HN.out.mono ?_; rintro e w3 ⟨rfl, hb3⟩; have HB3 := hid (below_step hbx hb3 hzx); clear hb3)
        go_ret
        exact ⟨by rw [HF.out]; rfl, HB3.out⟩
  · have hl1 : decide (100 < (l.length : Int)) = true := decide_eq_true (by omega)
    have hl2 : decide (100 < l.length) = true := decide_eq_true (by omega)
    have HR := hid (show rightD l = false by unfold rightD; rw [decide_eq_false h100, Bool.false_and])
    clear h100
    go_enter Tryz.func24, Tryz.ntmps24
    go_wp2_with fail
    go_ret
    exact ⟨by rw [HR.out]; rfl, Below.refl _ _⟩
end
end Go.Proofs.YtbnafihigoekeaaGreatDoor
namespace Go.Proofs.YtbnafihigoekeaaGreatDoor
open Go.RowKit Go.WideShapes Go.ChangeShapes
def FactStrs (w : World) (v : Value) (ss : List (List UInt8)) : Prop := Sl w v (strCells ss) ∧ ss.length ≤ maxLen ∧ ∀ x ∈ ss, x.length ≤ maxLen
def dataStrs {H : Type} (ss : List (List UInt8)) : List (DataW H) := ss.map fun s => .lit (.string s)
theorem size_le {s : ByteArray} {n : Nat} (h : s.size ≤ n) : s.data.toList.length ≤ n := by
  rw [Array.length_toList]
  exact h
section
variable {H : Type} {enc : TypeId × Value → H} {P : Program} {w : World} {base : Nat} {spare : Nat → Bool} {held : Bool}
theorem open_str {r : Reach} {b0 : Nat} {t : TypeId} {v : Value} {d : DataW H} {ps : List MemPlace} (ht : P.underlying t = some .string) (hval : Value.okWide P w r b0 t v) (hd : DataW.Trod enc P w base spare held t v d ps) :
    ∃ l : List UInt8, v = strV l ∧ d = .lit (.string l) ∧ ps = [] ∧ l.length ≤ maxLen := by
  obtain ⟨s, rfl, rfl, rfl, hs⟩ := Go.ChangeMaps.open_string ht hval hd
  refine ⟨s.data.toList, ?_, rfl, rfl, size_le hs⟩
  simp [strV]
end
end Go.Proofs.YtbnafihigoekeaaGreatDoor
namespace Go.Proofs.YtbnafihigoekeaaGreatDoor
open Go.RowKit Go.WideShapes Go.ChangeShapes Go.ChangeAt
def FactFiles (w : World) (v : Value) (l : List FileS) : Prop := SlF w v l ∧ l.length ≤ maxLen ∧ ∀ f ∈ l, f.1.length ≤ maxLen ∧ f.2.2.length ≤ maxLen
def FactChanges (w : World) (v : Value) (l : List ChangeS) : Prop := SlH w v l ∧ l.length ≤ maxLen ∧ ∀ f ∈ l, f.1.length ≤ maxLen ∧ f.2.2.2.length ≤ maxLen
theorem cellsFile : Tryz.prog.cellsOf 28 = 3 := by kernel_rfl
theorem cellsStr1 : Tryz.prog.cellsOf 9 = 1 := by kernel_rfl
theorem cellsBool1 : Tryz.prog.cellsOf 4 = 1 := by kernel_rfl
section
set_option maxRecDepth 100000
variable {H : Type} {enc : TypeId × Value → H} {w : World} {base : Nat} {spare : Nat → Bool} {held : Bool}
theorem file_of {fuel : Nat} {cs : List Value} {y : DataW H × List MemPlace} (h : DataW.trod enc Tryz.prog w base spare held fuel 28 cs = some y) : ∃ x : FileS, cs = encF.enc x ∧ x.1.length ≤ maxLen ∧ x.2.2.length ≤ maxLen := by
  obtain ⟨ys, n, _, _, hl, hlen, hf⟩ := DataW.trod_struct Tryz.underlying28 h
  rw [cellsFile] at hl
  match cs, hl, ys, hlen with
  | [c0, c1, c2], _, [y0, y1, y2], _ =>
    have f0 : DataW.trod enc Tryz.prog w base spare held n 9 [c0] = some y0 := by simpa [cellsStr1] using hf 0 _ rfl
    have f1 : DataW.trod enc Tryz.prog w base spare held n 4 [c1] = some y1 := by simpa [cellsBool1] using hf 1 _ rfl
    have f2 : DataW.trod enc Tryz.prog w base spare held n 9 [c2] = some y2 := by simpa [cellsStr1] using hf 2 _ rfl
    obtain ⟨s0, e0, _, z0⟩ := DataW.trod_string Tryz.underlying9 f0
    obtain ⟨b1, e1, _⟩ := DataW.trod_bool Tryz.underlying4 f1
    obtain ⟨s2, e2, _, z2⟩ := DataW.trod_string Tryz.underlying9 f2
    simp at e0 e1 e2
    exact ⟨(s0.data.toList, b1, s2.data.toList), by simp [encF, strV, e0, e1, e2], size_le z0, size_le z2⟩
theorem open_file {r : Reach} {b0 : Nat} {v : Value} {d : DataW H} {ps : List MemPlace} (hval : Value.okWide Tryz.prog w r b0 28 v) (hd : DataW.Trod enc Tryz.prog w base spare held 28 v d ps) :
    ∃ f : FileS, v = fileV f ∧ (f.1.length ≤ maxLen ∧ f.2.2.length ≤ maxLen) := by
  unfold Value.okWide at hval
  rw [Tryz.underlying28] at hval
  obtain ⟨cs, rfl, hs, _⟩ := hval
  obtain ⟨fuel, hf⟩ := hd
  obtain ⟨x, hx, hb⟩ := file_of hf
  refine ⟨x, ?_, hb⟩
  have := congrArg List.toArray hx
  unfold fileV
  congr 1
end
end Go.Proofs.YtbnafihigoekeaaGreatDoor

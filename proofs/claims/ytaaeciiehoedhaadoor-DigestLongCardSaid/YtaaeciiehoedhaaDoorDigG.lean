/-
  What the statements of package digest share: keys that come in, keys held against each other, the table as the row lists it, a world for the witness, digits in order.
-/
import Derived.Test.YtaaeciiehoedhaaDoorDigF
import Derived.Test.YtaaeciiehoedhaaDoorCards
import Derived.Test.YtaaeciiehoedhaaDoorTie
import Derived.Test.YtaaeciiehoedhaaDoorOpen
import Derived.Test.YtaaeciiehoedhaaDoorQuiet
import Derived.ChangeKeysEq
import Derived.Laws.StructEq
import Derived.ProofKit
import Derived.OpenShut
import Derived.Deep.DeepHandedRow
import Derived.Lib.LaidTab
import Derived.Deep.MidRow
namespace Go.Proofs.YtaaeciiehoedhaaDoor
open Go.ChangeShapes Go.WideShapes Go.ChangeAt Go.RowKit

/-! ### A key that comes in -/
theorem key_cells {H : Type} {enc : TypeId × Value → H} {P : Program} {w : World} {base : Nat} {spare : Nat → Bool} {held : Bool} {fuel : Nat} {t e : TypeId} {n : Nat} {cs : List Value} {x : DataW H × List MemPlace}
    (ht : P.underlying t = some (.array n e)) (he : P.underlying e = some (.int .u8)) (hc : P.cellsOf e = 1) (h : DataW.trod enc P w base spare held fuel t cs = some x) (hl : cs.length = n) : ∃ k : List UInt8, cs = Lib.byteCells k := by
  cases fuel with
  | zero => simp [DataW.trod] at h
  | succ fuel =>
    simp only [DataW.trod, ht, hc, Nat.mul_one] at h
    split at h
    · obtain ⟨xs, hm, _⟩ := Option.map_eq_some_iff.1 h
      refine map_eq_of (f := fun b : UInt8 => Value.int .u8 b.toNat) cs fun u hu => ?_
      obtain ⟨i, hi, rfl⟩ := List.mem_iff_getElem.1 hu
      obtain ⟨y, _, hy⟩ := Lib.mapM_at hm i i (by rw [List.getElem?_range (by omega)])
      have hone : (cs.drop i).take 1 = [cs[i]] := by rw [List.drop_eq_getElem_cons hi]; rfl
      rw [hone] at hy
      obtain ⟨z, h1, h2, h3⟩ := DataW.trod_int he hy
      have hz := bounds_u8 h3
      refine ⟨UInt8.ofNat z.toNat, ?_⟩
      rw [show cs[i] = Value.int .u8 z from by simpa using h1]
      congr 1
      simp
      omega
    · cases h
theorem open_key {H : Type} {enc : TypeId × Value → H} {P : Program} {W : World} {base b0 : Nat} {spare : Nat → Bool} {held : Bool} {r : Reach} {t e : TypeId} {v : Value} {d : DataW H} {ps : List MemPlace}
    (ht : P.underlying t = some (.array 32 e)) (he : P.underlying e = some (.int .u8)) (hc : P.cellsOf e = 1) (hct : P.cellsOf t = 32) (hval : Value.okWide P W r b0 t v) (hd : DataW.Trod enc P W base spare held t v d ps) :
    ∃ k : List UInt8, v = keyV k ∧ k.length = 32 := by
  unfold Value.okWide at hval
  rw [ht] at hval
  obtain ⟨cs, rfl, hs, _⟩ := hval
  obtain ⟨fuel, hf⟩ := hd
  obtain ⟨k, hk⟩ := key_cells ht he hc hf (by simp [Value.cells, hs, hct])
  have hcs : cs = (Lib.byteCells k).toArray := by
    have := congrArg List.toArray hk
    simpa [Value.cells] using this
  refine ⟨k, by rw [hcs]; rfl, ?_⟩
  have := congrArg List.length hk
  rw [Lib.byteCells_length] at this
  rw [← this]
  simp [Value.cells, hs, hct]

/-! ### Keys held against each other -/
theorem run_part_byte {P : Program} {e : TypeId} (he : P.underlying e = some (.int .u8)) {cs : Array Value} {i : Nat} {v : Value} (hv : cs[i]? = some v) (w : World) : (part e cs i).run P w = .ok v w := by
  have hagg : (isAgg e).run P w = .ok false w := by
    unfold isAgg
    rw [Sem.run_bind, run_underlying he w]
    rfl
  simp [part, hagg, hv]
theorem run_eqItems_bytes {P : Program} (d : Nat) {e : TypeId} (he : P.underlying e = some (.int .u8)) (a b : List UInt8) (n : Nat) (ha : a.length = n) (hb : b.length = n) (w : World) : ∀ m j, j + m = n →
    (Op.eqItems (d + 1) e 1 (Lib.byteCells a).toArray (Lib.byteCells b).toArray (List.range' j m)).run P w = .ok (a.drop j == b.drop j) w := by
  intro m
  induction m with
  | zero =>
    intro j hj
    rw [List.drop_of_length_le (by omega), List.drop_of_length_le (by omega)]
    simp [Op.eqItems]
  | succ m ih =>
    intro j hj
    have e1 : (Lib.byteCells a).toArray[j]? = some (.int .u8 ((a[j]'(by omega)).toNat : Int)) := by simp [Lib.byteCells, List.getElem?_eq_getElem (show j < a.length by omega)]
    have e2 : (Lib.byteCells b).toArray[j]? = some (.int .u8 ((b[j]'(by omega)).toNat : Int)) := by simp [Lib.byteCells, List.getElem?_eq_getElem (show j < b.length by omega)]
    rw [List.range'_succ, List.drop_eq_getElem_cons (show j < a.length by omega), List.drop_eq_getElem_cons (show j < b.length by omega)]
    simp only [Op.eqItems, Sem.run_bind, Nat.mul_one, run_part_byte he e1, run_part_byte he e2, Result.andThen_ok, run_equalIn_int w d e .u8 .u8 _ _ he]
    by_cases h : a[j] = b[j]
    · have : (((a[j]).toNat : Int) == ((b[j]).toNat : Int)) = true := by rw [h]; simp
      simp only [this, Bool.not_true, Bool.false_eq_true, if_false]
      rw [ih (j + 1) (by omega), List.cons_beq_cons, h]
      simp only [beq_self_eq_true, Bool.true_and]
    · have : (((a[j]).toNat : Int) == ((b[j]).toNat : Int)) = false := by
        simp
        intro e
        exact h (UInt8.toNat_inj.1 (by omega))
      simp only [this, Bool.not_false, if_true, Sem.run_pure]
      rw [List.cons_beq_cons, show (a[j] == b[j]) = false by simpa using h, Bool.false_and]
theorem run_eq_key {P : Program} {t e : TypeId} {i : TypeInfo} (ht : P.underlying t = some (.array 32 e)) (he : P.underlying e = some (.int .u8)) (hi : P.info? e = some i) (hc : P.cellsOf e = 1) (a b : List UInt8) (ha : a.length = 32) (hb : b.length = 32) :
    ∀ w, (Op.equalIn 10000 t (.agg (Lib.byteCells a).toArray) (.agg (Lib.byteCells b).toArray)).run P w = .ok (a == b) w := by
  intro w
  rw [show (10000 : Nat) = 9998 + 1 + 1 from rfl, run_equalIn_array w (9998 + 1) _ _ ht hi, hc, List.range_eq_range', run_eqItems_bytes 9998 he a b 32 ha hb w 32 0 rfl]
  rfl

/-! ### Digits in order -/
theorem dig_inj : ∀ n m : Fin 16, Sha.dig n.val = Sha.dig m.val → n = m := by decide
theorem dig_lt : ∀ n m : Fin 16, (Sha.dig n.val < Sha.dig m.val ↔ n < m) := by decide
theorem hex_less : ∀ (a b : List UInt8), a.length = b.length → Op.bytesLess (Sha.hex a) (Sha.hex b) = lessK a b := by
  intro a
  induction a with
  | nil =>
    intro b hb
    rw [List.eq_nil_of_length_eq_zero hb.symm]
    rfl
  | cons x a ih =>
    intro b hb
    match b, hb with
    | y :: b, hb =>
      have hx := x.toNat_lt
      have hy := y.toNat_lt
      rw [Sha.hex, Sha.hex, List.flatMap_cons, List.flatMap_cons, ← Sha.hex, ← Sha.hex]
      simp only [Sha.two, List.cons_append, List.nil_append, Op.bytesLess]
      rw [ih b (by simpa using hb)]
      have l1 := dig_lt ⟨x.toNat / 16, by omega⟩ ⟨y.toNat / 16, by omega⟩
      have l2 := dig_lt ⟨x.toNat % 16, by omega⟩ ⟨y.toNat % 16, by omega⟩
      have j1 : Sha.dig (x.toNat / 16) = Sha.dig (y.toNat / 16) ↔ x.toNat / 16 = y.toNat / 16 :=
        ⟨fun h => by have := dig_inj ⟨x.toNat / 16, by omega⟩ ⟨y.toNat / 16, by omega⟩ h; simpa using this, fun h => by rw [h]⟩
      have j2 : Sha.dig (x.toNat % 16) = Sha.dig (y.toNat % 16) ↔ x.toNat % 16 = y.toNat % 16 :=
        ⟨fun h => by have := dig_inj ⟨x.toNat % 16, by omega⟩ ⟨y.toNat % 16, by omega⟩ h; simpa using this, fun h => by rw [h]⟩
      simp only [Fin.mk_lt_mk] at l1 l2
      rw [Bool.eq_iff_iff]
      simp only [Bool.or_eq_true, Bool.and_eq_true, decide_eq_true_eq, beq_iff_eq, l1, l2, j1, j2]
      by_cases h : x = y
      · subst h
        simp [lessK]
      · have hne : x.toNat ≠ y.toNat := fun e => h (UInt8.toNat_inj.1 e)
        rw [lessK, if_neg h, decide_eq_true_eq]
        constructor
        · rintro (h1 | ⟨h1, h2 | ⟨h2, _⟩⟩) <;> omega
        · intro h1
          by_cases h2 : x.toNat / 16 < y.toNat / 16
          · exact Or.inl h2
          · exact Or.inr ⟨by omega, Or.inl (by omega)⟩

/-! ### The table -/
theorem gTab : Tryd.prog.globalNamed "rick/digest.roundWords" = some 0 := by kernel_rfl
theorem gTabType : (Tryd.prog.globals[0]?).map (·.type) = some 42 := by kernel_rfl
theorem cellsW64 : Tryd.prog.cellsOf 42 = 64 := by kernel_rfl
theorem cellsU32 : Tryd.prog.cellsOf 34 = 1 := by kernel_rfl
theorem cellsU8 : Tryd.prog.cellsOf 5 = 1 := by kernel_rfl
theorem cellsKey : Tryd.prog.cellsOf 24 = 32 := by kernel_rfl
theorem firsts_lt : ∀ c ∈ Sha.firsts, c &&& 4294967295 = c := by decide
set_option maxRecDepth 100000 in
theorem Tab_of {W : World} (h : laidMetH Tryd.prog [("rick/digest.roundWords", Rows.laid_rick_digest_roundWords)] W) : Tab W := by
  have hT : Lib.TabIs Tryd.prog W "rick/digest.roundWords" .u32 (Sha.firsts.map fun c : Nat => (c : Int)) :=
    Lib.tabIs_of_head (rest := []) gTab gTabType Tryd.underlying42 Tryd.underlying34 cellsU32 cellsW64 h
  refine ⟨fun i c hc => ?_⟩
  have hi := (List.getElem?_eq_some_iff.1 hc).1
  rw [hT.cell gTab i (by rw [List.length_map]; exact hi)]
  rw [Sha.u32_con, firsts_lt c (List.mem_of_getElem? hc)]
  simp [List.getD_eq_getElem?_getD, hc]

/-- A world for the witness: the settled one, the table holding what its initialiser lays. -/
noncomputable def laidWorld (os : Os) : World :=
  { World.holding Tryd.prog os ⟨#[], #[], []⟩ with heap := (World.holding Tryd.prog os ⟨#[], #[], []⟩).heap.modify 0 fun
      | .cells _ t frozen => .cells (Sha.firsts.map fun c : Nat => Value.int .u32 (c : Int)).toArray t frozen
      | o => o }
/-- A key of nothing. -/
def key0 : Value := .agg (Array.replicate 32 (.int .u8 0))
end Go.Proofs.YtaaeciiehoedhaaDoor

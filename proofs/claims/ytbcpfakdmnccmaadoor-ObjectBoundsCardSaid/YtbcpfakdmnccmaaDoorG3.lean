/-
  Keys (32 bytes) in memory: blocks of bytes, whole rows stored and built. Nothing of the program but its table of types. Keys that come in; keys held against each other. Nothing of the program. Entries of trees, and commits, in memory: how they lie in cells, are built, and are held against each other. Slices of entries written out; one entry more behind a row of the call's own. Entries and commits held against each other by '==' and '!='; keys by '!='. Objects as bytes (P15.1, P15.2), as mathematics: what is written, what is read, and that both agree. Package object and the document's own: Kind, Blob, TakeBlob. A key, read byte by byte: package object's readKey, and the document's own. Objects as bytes: what is read was written so, and what is written is read. Plain mathematics. Package object: readEntries, readCommit, open, ended. When entries are a tree: the document's way (each against all ahead of it), and package object's (those that begin like one, behind it). Plain mathematics. Bytes that the call owns, and what is appended to them. Nothing of the program but its table of types.
-/
import Derived.Test.YtbcpfakdmnccmaaDoorBase
import Derived.Test.YtbcpfakdmnccmaaDoorLaw2
import Derived.Test.YtbcpfakdmnccmaaDoorOpen
import Derived.ChangeKeysEq
import Derived.Laws.StructEq
import Derived.ProofKit
import Derived.OpenShut
import Derived.Lib.LaidTab
import Derived.Test.YtbcpfakdmnccmaaDoorEnc
import Derived.Deep.MidRow
import Derived.Deep.LoopGhost
import Derived.Deep.RegionLaw
import Derived.Test.YtbcpfakdmnccmaaDoorG1
import Derived.Test.YtbcpfakdmnccmaaDoorG2
import Derived.Test.YtbcpfakdmnccmaaDoorHelpS
namespace Go.Proofs.YtbcpfakdmnccmaaDoor
open Go.RowKit

theorem fill_set {α : Type} (L : List α) (z : α) (n k : Nat) {x : α} (hx : L[k]? = some x) (hn : k < n) : (L.take k ++ List.replicate (n - k) z).set k x = L.take (k + 1) ++ List.replicate (n - (k + 1)) z := by
  have hk := (List.getElem?_eq_some_iff.1 hx).1
  have hl : (L.take k).length = k := by rw [List.length_take]; omega
  rw [List.set_append_right _ _ (by omega), hl, Nat.sub_self, show n - k = (n - (k + 1)) + 1 by omega, List.replicate_succ, List.set_cons_zero, take_snoc hx, List.append_assoc]
  rfl
/-- A whole array, stored: the block behind it. -/
theorem wpList_store_all {P : Program} {ops : Array Oper} {rest : List Oper} {o : Oper} {a : Act} {w : World} {Q : Exit → Act → World → Prop} (hgd : o.guard = none) (ty : TypeId) (x y : Operand) (ho : o.op = .store ty x y)
    (g : Nat) (cells : Array Value) (hx : a.eval x = .pointer (some ⟨g, 0, none⟩)) (hy : a.eval y = .agg cells)
    (t : TypeId) (old : Array Value) (hg : w.heap[g]? = some (.cells old t (0, 0))) (n : Nat) (hi : (P.info? ty).map (·.size) = some n) (hn : cells.size = n)
    (hold : old.size = n) (h1 : cells.all (·.oneCell') = true)
    (h : ∀ w', w'.heap[g]? = some (.cells cells t (0, 0)) → Keep (· = g) w w' → wpList P ops Q rest (a.put o.dst undef) w') : wpList P ops Q (o :: rest) a w :=
  wpList_store_row hgd ty x y ho g cells hx hy t old hg (by rw [hi, hn]) (by rw [hold, hn]) h1 (h _ (setRow_heap w g old cells t _ hg) ⟨rfl, rfl, rfl, by simp [World.setRow], fun k _ hk => setRow_other w g k _ hk⟩)
theorem wpList_build_to {P : Program} {ops : Array Oper} {rest : List Oper} {o : Oper} {a : Act} {w : World} {Q : Exit → Act → World → Prop} (hg : o.guard = none) (t : TypeId) (parts : Array (Nat × Operand)) (ho : o.op = .build t parts)
    (cells : Array Value) (hf : P.built t (parts.map fun (i, x) => (i, a.eval x)).toList = some cells)
    (h : wpList P ops Q rest (a.put o.dst (.agg cells)) w) : wpList P ops Q (o :: rest) a w :=
  wpList_build hg t parts ho (by rw [hf]; rfl) (by rw [hf]; exact h)
theorem blk8_at {w : World} {b : Nat} {l : List UInt8} {t : TypeId} (h : w.heap[b]? = some (.cells (Lib.byteCells l).toArray t (0, 0))) {i : Nat} {x : UInt8} (hx : l[i]? = some x) : w.cell? ⟨b, i, none⟩ = some (.int .u8 (x.toNat : Int)) :=
  blk_cell h (by simp [Lib.byteCells, hx])
theorem blk8_set {w : World} {b : Nat} {l : List UInt8} {t : TypeId} (h : w.heap[b]? = some (.cells (Lib.byteCells l).toArray t (0, 0))) (i : Nat) (x : UInt8) : (w.setCell ⟨b, i, none⟩ (.int .u8 (x.toNat : Int))).heap[b]? = some (.cells (Lib.byteCells (l.set i x)).toArray t (0, 0)) := by
  rw [blk_set h, List.setIfInBounds_toArray]
  simp [Lib.byteCells, List.map_set]
theorem Tryd.sizeKey : (Tryd.prog.info? 24).map (·.size) = some 32 := by kernel_rfl
/-- A name, as a value. -/
def keyV (k : List UInt8) : Value := .agg (Lib.byteCells k).toArray
theorem key_size (k : List UInt8) (h : k.length = 32) : (Lib.byteCells k).toArray.size = 32 := by rw [List.size_toArray, Lib.byteCells_length, h]
theorem key_one (k : List UInt8) : (Lib.byteCells k).toArray.all (·.oneCell') = true := by
  rw [Array.all_eq_true_iff_forall_mem]
  intro v hv
  exact byte_one k v (by simpa using hv)
theorem key_info (k : List UInt8) (h : k.length = 32) : (Tryd.prog.info? 24).map (·.size) = some (Lib.byteCells k).toArray.size := by rw [key_size k h, Tryd.sizeKey]
theorem cellsU8 : Tryd.prog.cellsOf 5 = 1 := by kernel_rfl
theorem cellsKey : Tryd.prog.cellsOf 24 = 32 := by kernel_rfl
/-- A key of nothing. -/
def key0 : Value := .agg (Array.replicate 32 (.int .u8 0))
end Go.Proofs.YtbcpfakdmnccmaaDoor

namespace Go.Proofs.YtbcpfakdmnccmaaDoor
open Go.ChangeShapes Go.WideShapes Go.ChangeAt Go.RowKit

theorem key_cells {H : Type} {enc : TypeId × Value → H} {P : Program} {w : World} {base : Nat} {spare : Nat → Bool} {held : Bool} {fuel : Nat} {t e : TypeId} {n : Nat} {cs : List Value} {x : DataW H × List MemPlace}
    (ht : P.underlying t = some (.array n e)) (he : P.underlying e = some (.int .u8)) (hc : P.cellsOf e = 1) (h : DataW.trod enc P w base spare held fuel t cs = some x) (hl : cs.length = n) : ∃ k : List UInt8, cs = Lib.byteCells k := by
  cases fuel with
  | zero => simp [DataW.trod] at h
  | succ fuel =>
    simp only [DataW.trod, ht, hc, Nat.mul_one] at h
    split at h
    · obtain ⟨xs, hm, _⟩ := Option.map_eq_some_iff.1 h
      refine map_eq_of (f := fun b : UInt8 => Value.int .u8 b.toNat) cs fun u hu => ?_
      obtain ⟨i, hi, rfl⟩ := List.mem_iff_getElem.1 hu
      obtain ⟨y, _, hy⟩ := Lib.mapM_at hm i i (by rw [List.getElem?_range (by omega)])
      have hone : (cs.drop i).take 1 = [cs[i]] := by rw [List.drop_eq_getElem_cons hi]; rfl
      rw [hone] at hy
      obtain ⟨z, h1, h2, h3⟩ := DataW.trod_int he hy
      have hz := bounds_u8 h3
      refine ⟨UInt8.ofNat z.toNat, ?_⟩
      rw [show cs[i] = Value.int .u8 z from by simpa using h1]
      congr 1
      simp
      omega
    · cases h
theorem open_key {H : Type} {enc : TypeId × Value → H} {P : Program} {W : World} {base b0 : Nat} {spare : Nat → Bool} {held : Bool} {r : Reach} {t e : TypeId} {v : Value} {d : DataW H} {ps : List MemPlace}
    (ht : P.underlying t = some (.array 32 e)) (he : P.underlying e = some (.int .u8)) (hc : P.cellsOf e = 1) (hct : P.cellsOf t = 32) (hval : Value.okWide P W r b0 t v) (hd : DataW.Trod enc P W base spare held t v d ps) :
    ∃ k : List UInt8, v = keyV k ∧ k.length = 32 := by
  unfold Value.okWide at hval
  rw [ht] at hval
  obtain ⟨cs, rfl, hs, _⟩ := hval
  obtain ⟨fuel, hf⟩ := hd
  obtain ⟨k, hk⟩ := key_cells ht he hc hf (by simp [Value.cells, hs, hct])
  have hcs : cs = (Lib.byteCells k).toArray := by
    have := congrArg List.toArray hk
    simpa [Value.cells] using this
  refine ⟨k, by rw [hcs]; rfl, ?_⟩
  have := congrArg List.length hk
  rw [Lib.byteCells_length] at this
  rw [← this]
  simp [Value.cells, hs, hct]
theorem run_part_byte {P : Program} {e : TypeId} (he : P.underlying e = some (.int .u8)) {cs : Array Value} {i : Nat} {v : Value} (hv : cs[i]? = some v) (w : World) : (part e cs i).run P w = .ok v w := by
  have hagg : (isAgg e).run P w = .ok false w := by
    unfold isAgg
    rw [Sem.run_bind, run_underlying he w]
    rfl
  simp [part, hagg, hv]
theorem run_eqItems_bytes {P : Program} (d : Nat) {e : TypeId} (he : P.underlying e = some (.int .u8)) (a b : List UInt8) (n : Nat) (ha : a.length = n) (hb : b.length = n) (w : World) : ∀ m j, j + m = n →
    (Op.eqItems (d + 1) e 1 (Lib.byteCells a).toArray (Lib.byteCells b).toArray (List.range' j m)).run P w = .ok (a.drop j == b.drop j) w := by
  intro m
  induction m with
  | zero =>
    intro j hj
    rw [List.drop_of_length_le (by omega), List.drop_of_length_le (by omega)]
    simp [Op.eqItems]
  | succ m ih =>
    intro j hj
    have e1 : (Lib.byteCells a).toArray[j]? = some (.int .u8 ((a[j]'(by omega)).toNat : Int)) := by simp [Lib.byteCells, List.getElem?_eq_getElem (show j < a.length by omega)]
    have e2 : (Lib.byteCells b).toArray[j]? = some (.int .u8 ((b[j]'(by omega)).toNat : Int)) := by simp [Lib.byteCells, List.getElem?_eq_getElem (show j < b.length by omega)]
    rw [List.range'_succ, List.drop_eq_getElem_cons (show j < a.length by omega), List.drop_eq_getElem_cons (show j < b.length by omega)]
    simp only [Op.eqItems, Sem.run_bind, Nat.mul_one, run_part_byte he e1, run_part_byte he e2, Result.andThen_ok, run_equalIn_int w d e .u8 .u8 _ _ he]
    by_cases h : a[j] = b[j]
    · have : (((a[j]).toNat : Int) == ((b[j]).toNat : Int)) = true := by rw [h]; simp
      simp only [this, Bool.not_true, Bool.false_eq_true, if_false]
      rw [ih (j + 1) (by omega), List.cons_beq_cons, h]
      simp only [beq_self_eq_true, Bool.true_and]
    · have : (((a[j]).toNat : Int) == ((b[j]).toNat : Int)) = false := by
        simp
        intro e
        exact h (UInt8.toNat_inj.1 (by omega))
      simp only [this, Bool.not_false, if_true, Sem.run_pure]
      rw [List.cons_beq_cons, show (a[j] == b[j]) = false by simpa using h, Bool.false_and]
theorem run_eq_key {P : Program} {t e : TypeId} {i : TypeInfo} (ht : P.underlying t = some (.array 32 e)) (he : P.underlying e = some (.int .u8)) (hi : P.info? e = some i) (hc : P.cellsOf e = 1) (a b : List UInt8) (ha : a.length = 32) (hb : b.length = 32) :
    ∀ w, (Op.equalIn 10000 t (.agg (Lib.byteCells a).toArray) (.agg (Lib.byteCells b).toArray)).run P w = .ok (a == b) w := by
  intro w
  rw [show (10000 : Nat) = 9998 + 1 + 1 from rfl, run_equalIn_array w (9998 + 1) _ _ ht hi, hc, List.range_eq_range', run_eqItems_bytes 9998 he a b 32 ha hb w 32 0 rfl]
  rfl
end Go.Proofs.YtbcpfakdmnccmaaDoor

namespace Go.Proofs.YtbcpfakdmnccmaaDoor
open Go.RowKit

/-- a key: 32 bytes -/
abbrev KeyS := {k : List UInt8 // k.length = 32}
/-- an entry: its path, whether it may be run, the name of its text -/
abbrev EntS := List UInt8 × Bool × KeyS
/-- a commit: whether it is rooted, its parent, its tree, its message, its serial number -/
abbrev ComS := Bool × KeyS × KeyS × List UInt8 × Nat
def kz : KeyS := ⟨List.replicate 32 0, rfl⟩
def keyC (k : KeyS) : List Value := Lib.byteCells k.1
theorem keyC_len (k : KeyS) : (keyC k).length = 32 := by rw [keyC, Lib.byteCells_length, k.2]
theorem keyC_one (k : KeyS) : ∀ u ∈ keyC k, u.oneCell' = true := byte_one _
def entC (f : EntS) : List Value := .string ⟨f.1.toArray⟩ :: .bool f.2.1 :: keyC f.2.2
theorem entC_len (f : EntS) : (entC f).length = 34 := by simp [entC, keyC_len]
theorem entC_one (f : EntS) : ∀ u ∈ entC f, u.oneCell' = true := by
  intro u hu
  simp only [entC, List.mem_cons] at hu
  rcases hu with rfl | rfl | hu
  · rfl
  · rfl
  · exact keyC_one _ u hu
def encEnt : Enc EntS := ⟨34, by omega, entC, entC_len, entC_one⟩
def comC (c : ComS) : List Value := .bool c.1 :: (keyC c.2.1 ++ (keyC c.2.2.1 ++ [.string ⟨c.2.2.2.1.toArray⟩, .int .u64 (c.2.2.2.2 : Nat)]))
theorem comC_len (c : ComS) : (comC c).length = 67 := by simp [comC, keyC_len]
theorem comC_one (c : ComS) : ∀ u ∈ comC c, u.oneCell' = true := by
  intro u hu
  simp only [comC, List.mem_cons, List.mem_append, List.not_mem_nil, or_false] at hu
  rcases hu with rfl | hu | hu | rfl | rfl
  · rfl
  · exact keyC_one _ u hu
  · exact keyC_one _ u hu
  · rfl
  · rfl
def keyW (k : KeyS) : Value := .agg (keyC k).toArray
def entV (f : EntS) : Value := .agg (entC f).toArray
def comV (c : ComS) : Value := .agg (comC c).toArray
def entZ : EntS := ([], false, kz)
def comZ : ComS := (false, kz, kz, [], 0)
theorem arr_one {l : List Value} (h : ∀ u ∈ l, u.oneCell' = true) : l.toArray.all (·.oneCell') = true := by
  rw [Array.all_eq_true_iff_forall_mem]
  intro v hv
  exact h v (by simpa using hv)
theorem Tryd.sizeEnt : (Tryd.prog.info? 31).map (·.size) = some 34 := by kernel_rfl
theorem Tryd.sizeCom : (Tryd.prog.info? 27).map (·.size) = some 67 := by kernel_rfl
theorem keyInfo (k : KeyS) : (Tryd.prog.info? 24).map (·.size) = some (keyC k).length := by rw [keyC_len, Tryd.sizeKey]
theorem entInfo (f : EntS) : (Tryd.prog.info? 31).map (·.size) = some (entC f).length := by rw [entC_len, Tryd.sizeEnt]
theorem comInfo (c : ComS) : (Tryd.prog.info? 27).map (·.size) = some (comC c).length := by rw [comC_len, Tryd.sizeCom]
theorem Tryd.infoEnt : (Tryd.prog.info? 31).map (fun i => (i.zero, i.size, i.bytes)) = some (some (.agg (entC entZ).toArray), 34, 56) := by kernel_rfl
theorem Tryd.infoCom : (Tryd.prog.info? 27).map (fun i => (i.zero, i.size, i.bytes)) = some (some (.agg (comC comZ).toArray), 67, 96) := by kernel_rfl
abbrev SlEnt (w : World) (v : Value) (fs : List EntS) : Prop := SlR encEnt w v fs
abbrev OwnEnt (w : World) (base : Nat) (v : Value) (fs : List EntS) : Prop := w.ownsRow base 31 34 v fs.length (flatR encEnt fs)
theorem OwnEnt.sl {w : World} {base : Nat} {v : Value} {fs : List EntS} (h : OwnEnt w base v fs) : SlEnt w v fs := SlR.ofOwns (E := encEnt) h
theorem range_sub {w : World} {b o : Nat} {cs : List Value} {a c d : List Value} (h : w.rangeAt b o cs) (e : cs = a ++ (c ++ d)) : w.rangeAt b (o + a.length) c := by
  intro j v hv
  have hj := (List.getElem?_eq_some_iff.1 hv).1
  have := h (a.length + j) v (by rw [e, List.getElem?_append_right (by omega), Nat.add_sub_cancel_left, List.getElem?_append_left hj]; exact hv)
  rwa [← Nat.add_assoc] at this
theorem range_blk {w : World} {b : Nat} {l : List Value} {t : TypeId} {fr : Nat × Nat} (h : w.heap[b]? = some (.cells l.toArray t fr)) : w.rangeAt b 0 l := by
  intro j v hv
  simp [World.cell?, h, hv]
theorem range_keep {w w' : World} {b o : Nat} {l : List Value} (h : w.rangeAt b o l) (hk : w'.heap[b]? = w.heap[b]?) : w'.rangeAt b o l := fun j v hv =>
  (World.cell?_of_block (a := ⟨b, o + j, none⟩) (w := w) (w' := w') hk).trans (h j v hv)
theorem SlEnt.at {w : World} {ao : Option Addr} {n cap : Nat} {fs : List EntS} (h : SlEnt w (.slice ao n cap) fs) {i : Nat} (hi : i < fs.length) :
    ∃ b o f, ao = some ⟨b, o, none⟩ ∧ fs[i]? = some f ∧ w.rangeAt b (o + i * 34) (entC f) ∧ w.cell? ⟨b, o + i * 34, none⟩ = some (.string ⟨f.1.toArray⟩) ∧ w.cell? ⟨b, o + i * 34 + 1, none⟩ = some (.bool f.2.1) ∧ w.rangeAt b (o + i * 34 + 2) (keyC f.2.2) := by
  obtain ⟨b, o, f, ha, hx, hc⟩ := SlR.at' h hi
  have hr : w.rangeAt b (o + i * 34) (entC f) := hc
  exact ⟨b, o, f, ha, hx, hr, hc 0 _ rfl, hc 1 _ rfl, range_sub (a := [.string ⟨f.1.toArray⟩, .bool f.2.1]) (d := []) hr (by simp [entC])⟩

/-! ### Built -/
theorem key32 (k : KeyS) : ∃ k0 k1 k2 k3 k4 k5 k6 k7 k8 k9 k10 k11 k12 k13 k14 k15 k16 k17 k18 k19 k20 k21 k22 k23 k24 k25 k26 k27 k28 k29 k30 k31 : Value, keyC k = [k0, k1, k2, k3, k4, k5, k6, k7, k8, k9, k10, k11, k12, k13, k14, k15, k16, k17, k18, k19, k20, k21, k22, k23, k24, k25, k26, k27, k28, k29, k30, k31] := by
  obtain ⟨k, hk⟩ := k
  match k, hk with
  | [k0, k1, k2, k3, k4, k5, k6, k7, k8, k9, k10, k11, k12, k13, k14, k15, k16, k17, k18, k19, k20, k21, k22, k23, k24, k25, k26, k27, k28, k29, k30, k31], _ => exact ⟨_, _, _, _, _, _, _, _, _, _, _, _, _, _, _, _, _, _, _, _, _, _, _, _, _, _, _, _, _, _, _, _, rfl⟩
section
set_option maxRecDepth 100000
theorem ent_built (p : ByteArray) (x : Bool) (k : KeyS) : Tryd.prog.built 31 [(0, .string p), (1, .bool x), (2, .agg (keyC k).toArray)] = some (.string p :: .bool x :: keyC k).toArray := by
  obtain ⟨k0, k1, k2, k3, k4, k5, k6, k7, k8, k9, k10, k11, k12, k13, k14, k15, k16, k17, k18, k19, k20, k21, k22, k23, k24, k25, k26, k27, k28, k29, k30, k31, hk⟩ := key32 k
  rw [hk]
  kernel_rfl
theorem com_built (r : Bool) (k l : KeyS) (p : ByteArray) (s : Int) : Tryd.prog.built 27 [(0, .bool r), (1, .agg (keyC k).toArray), (2, .agg (keyC l).toArray), (3, .string p), (4, .int .u64 s)] = some (.bool r :: (keyC k ++ (keyC l ++ [.string p, .int .u64 s]))).toArray := by
  obtain ⟨k0, k1, k2, k3, k4, k5, k6, k7, k8, k9, k10, k11, k12, k13, k14, k15, k16, k17, k18, k19, k20, k21, k22, k23, k24, k25, k26, k27, k28, k29, k30, k31, hk⟩ := key32 k
  obtain ⟨h0, h1, h2, h3, h4, h5, h6, h7, h8, h9, h10, h11, h12, h13, h14, h15, h16, h17, h18, h19, h20, h21, h22, h23, h24, h25, h26, h27, h28, h29, h30, h31, hl⟩ := key32 l
  rw [hk, hl]
  kernel_rfl
theorem ent_zero (p : ByteArray) : Tryd.prog.built 31 [(0, .string p)] = some (.string p :: .bool false :: keyC kz).toArray := by kernel_rfl
theorem com_one (p : ByteArray) : Tryd.prog.built 27 [(0, .bool true), (3, .string p)] = some (.bool true :: (keyC kz ++ (keyC kz ++ [.string p, .int .u64 0]))).toArray := by kernel_rfl
theorem com_zero : Tryd.prog.built 27 [] = some (comC comZ).toArray := by kernel_rfl
theorem key_zero : Tryd.prog.built 24 [] = some (keyC kz).toArray := by kernel_rfl
end
end Go.Proofs.YtbcpfakdmnccmaaDoor

namespace Go.Proofs.YtbcpfakdmnccmaaDoor
open Go.RowKit

section
set_option maxRecDepth 100000
theorem ent_fill1 (f : EntS) : Instr.fill (fun i => some (i * 34, 34)) ((Array.range (1 * 34)).map ((Value.agg (entC entZ).toArray).cells[· % (Value.agg (entC entZ).toArray).cells.size]!)) [(0, .agg (entC f).toArray)] = some (entC f).toArray := by
  obtain ⟨p, x, k⟩ := f
  obtain ⟨k0, k1, k2, k3, k4, k5, k6, k7, k8, k9, k10, k11, k12, k13, k14, k15, k16, k17, k18, k19, k20, k21, k22, k23, k24, k25, k26, k27, k28, k29, k30, k31, hk⟩ := key32 k
  simp only [entC, hk]
  kernel_rfl
theorem ent_fill2 (f g : EntS) : Instr.fill (fun i => some (i * 34, 34)) ((Array.range (2 * 34)).map ((Value.agg (entC entZ).toArray).cells[· % (Value.agg (entC entZ).toArray).cells.size]!)) [(0, .agg (entC f).toArray), (1, .agg (entC g).toArray)] = some (entC f ++ entC g).toArray := by
  obtain ⟨p, x, k⟩ := f
  obtain ⟨q, y, l⟩ := g
  obtain ⟨k0, k1, k2, k3, k4, k5, k6, k7, k8, k9, k10, k11, k12, k13, k14, k15, k16, k17, k18, k19, k20, k21, k22, k23, k24, k25, k26, k27, k28, k29, k30, k31, hk⟩ := key32 k
  obtain ⟨l0, l1, l2, l3, l4, l5, l6, l7, l8, l9, l10, l11, l12, l13, l14, l15, l16, l17, l18, l19, l20, l21, l22, l23, l24, l25, l26, l27, l28, l29, l30, l31, hl⟩ := key32 l
  simp only [entC, hk, hl]
  kernel_rfl
end
theorem run_lit {P : Program} (w : World) (t e : TypeId) (len : Nat) (parts : Array (Nat × Value)) (cells : Array Value) (ie : TypeInfo) (z : Value)
    (hu : P.underlying t = some (.slice e)) (hie : P.info? e = some ie) (hz : ie.zero = some z) (hsmall : ¬ len * ie.size > 2 ^ 24) (hpos : ¬ len * ie.size = 0)
    (h : Instr.fill (fun i => some (i * ie.size, ie.size)) ((Array.range (len * ie.size)).map (z.cells[· % z.cells.size]!)) parts.toList = some cells) :
    (Instr.buildSlice t len parts).run P w = .ok (.slice (some ⟨w.heap.size, 0, none⟩) len len) (w.alloc (.cells cells e)) := by
  simp [Instr.buildSlice, run_underlying hu, sizeOf, typeInfo, zeroValue, hie, hz, hsmall, hpos, h, newRow]
theorem lit_ent (f : EntS) (w : World) : (Instr.buildSlice 22 1 #[(0, .agg (entC f).toArray)]).run Tryd.prog w = .ok (.slice (some ⟨w.heap.size, 0, none⟩) 1 1) (w.alloc (.cells (entC f).toArray 31)) := by
  obtain ⟨i0, hi0, hi1, hi2, hi3⟩ := info_parts Tryd.infoEnt
  have := ent_fill1 f
  exact run_lit w _ _ 1 _ _ i0 _ Tryd.underlying22 hi0 hi1 (by rw [hi2]; decide) (by rw [hi2]; decide) (by rw [hi2]; exact this)
theorem lit_ent2 (f g : EntS) (w : World) : (Instr.buildSlice 22 2 #[(0, .agg (entC f).toArray), (1, .agg (entC g).toArray)]).run Tryd.prog w = .ok (.slice (some ⟨w.heap.size, 0, none⟩) 2 2) (w.alloc (.cells (entC f ++ entC g).toArray 31)) := by
  obtain ⟨i0, hi0, hi1, hi2, hi3⟩ := info_parts Tryd.infoEnt
  have := ent_fill2 f g
  exact run_lit w _ _ 2 _ _ i0 _ Tryd.underlying22 hi0 hi1 (by rw [hi2]; decide) (by rw [hi2]; decide) (by rw [hi2]; exact this)
theorem wpList_lit_ent {ops : Array Oper} {rest : List Oper} {o : Oper} {a : Act} {w : World} {Q : Exit → Act → World → Prop} (hg : o.guard = none) (x : Operand) (ho : o.op = .buildSlice 22 1 #[(0, x)]) (f : EntS) (hx : a.eval x = .agg (entC f).toArray)
    (h : wpList Tryd.prog ops Q rest (a.put o.dst (.slice (some ⟨w.heap.size, 0, none⟩) 1 1)) (w.alloc (.cells (entC f).toArray 31))) : wpList Tryd.prog ops Q (o :: rest) a w := by
  refine wpList_plain hg fun _ hK => ?_
  unfold Oper.wp execOp
  simp only [ho, List.map_toArray, List.map_cons, List.map_nil, hx, Sem.run_bind, lit_ent f w, Result.andThen_ok, Sem.run_pure]
  exact hK _ _ h
theorem wpList_lit_ent2 {ops : Array Oper} {rest : List Oper} {o : Oper} {a : Act} {w : World} {Q : Exit → Act → World → Prop} (hg : o.guard = none) (x y : Operand) (ho : o.op = .buildSlice 22 2 #[(0, x), (1, y)]) (f g : EntS) (hx : a.eval x = .agg (entC f).toArray) (hy : a.eval y = .agg (entC g).toArray)
    (h : wpList Tryd.prog ops Q rest (a.put o.dst (.slice (some ⟨w.heap.size, 0, none⟩) 2 2)) (w.alloc (.cells (entC f ++ entC g).toArray 31))) : wpList Tryd.prog ops Q (o :: rest) a w := by
  refine wpList_plain hg fun _ hK => ?_
  unfold Oper.wp execOp
  simp only [ho, List.map_toArray, List.map_cons, List.map_nil, hx, hy, Sem.run_bind, lit_ent2 f g w, Result.andThen_ok, Sem.run_pure]
  exact hK _ _ h
set_option maxRecDepth 100000 in
theorem wpList_build_ent {ops : Array Oper} {rest : List Oper} {o : Oper} {a : Act} {w : World} {Q : Exit → Act → World → Prop} (hg : o.guard = none) (x y z : Operand) (ho : o.op = .build 31 #[(0, x), (1, y), (2, z)]) (f : EntS) (hx : a.eval x = .string ⟨f.1.toArray⟩) (hy : a.eval y = .bool f.2.1) (hz : a.eval z = .agg (keyC f.2.2).toArray)
    (h : wpList Tryd.prog ops Q rest (a.put o.dst (.agg (entC f).toArray)) w) : wpList Tryd.prog ops Q (o :: rest) a w := by
  refine wpList_build_to hg 31 _ ho (entC f).toArray ?_ h
  simp only [List.map_toArray, List.map_cons, List.map_nil, hx, hy, hz]
  exact ent_built _ _ _
set_option maxRecDepth 100000 in
theorem wpList_build_com {ops : Array Oper} {rest : List Oper} {o : Oper} {a : Act} {w : World} {Q : Exit → Act → World → Prop} (hg : o.guard = none) (x y z s u : Operand) (ho : o.op = .build 27 #[(0, x), (1, y), (2, z), (3, s), (4, u)]) (c : ComS) (hx : a.eval x = .bool c.1) (hy : a.eval y = .agg (keyC c.2.1).toArray) (hz : a.eval z = .agg (keyC c.2.2.1).toArray) (hs : a.eval s = .string ⟨c.2.2.2.1.toArray⟩) (hu : a.eval u = .int .u64 (c.2.2.2.2 : Nat))
    (h : wpList Tryd.prog ops Q rest (a.put o.dst (.agg (comC c).toArray)) w) : wpList Tryd.prog ops Q (o :: rest) a w := by
  refine wpList_build_to hg 27 _ ho (comC c).toArray ?_ h
  simp only [List.map_toArray, List.map_cons, List.map_nil, hx, hy, hz, hs, hu]
  exact com_built _ _ _ _ _
set_option maxRecDepth 100000 in
theorem wpList_build_path {ops : Array Oper} {rest : List Oper} {o : Oper} {a : Act} {w : World} {Q : Exit → Act → World → Prop} (hg : o.guard = none) (x : Operand) (ho : o.op = .build 31 #[(0, x)]) (p : List UInt8) (hx : a.eval x = .string ⟨p.toArray⟩)
    (h : wpList Tryd.prog ops Q rest (a.put o.dst (.agg (entC (p, false, kz)).toArray)) w) : wpList Tryd.prog ops Q (o :: rest) a w := by
  refine wpList_build_to hg 31 _ ho (entC (p, false, kz)).toArray ?_ h
  simp only [List.map_toArray, List.map_cons, List.map_nil, hx]
  exact ent_zero _
set_option maxRecDepth 100000 in
theorem wpList_build_rooted {ops : Array Oper} {rest : List Oper} {o : Oper} {a : Act} {w : World} {Q : Exit → Act → World → Prop} (hg : o.guard = none) (x y : Operand) (ho : o.op = .build 27 #[(0, x), (3, y)]) (p : List UInt8) (hx : a.eval x = .bool true) (hy : a.eval y = .string ⟨p.toArray⟩)
    (h : wpList Tryd.prog ops Q rest (a.put o.dst (.agg (comC (true, kz, kz, p, 0)).toArray)) w) : wpList Tryd.prog ops Q (o :: rest) a w := by
  refine wpList_build_to hg 27 _ ho (comC (true, kz, kz, p, 0)).toArray ?_ h
  simp only [List.map_toArray, List.map_cons, List.map_nil, hx, hy]
  exact com_one _
set_option maxRecDepth 100000 in
theorem wpList_build_com0 {ops : Array Oper} {rest : List Oper} {o : Oper} {a : Act} {w : World} {Q : Exit → Act → World → Prop} (hg : o.guard = none) (ho : o.op = .build 27 #[])
    (h : wpList Tryd.prog ops Q rest (a.put o.dst (.agg (comC comZ).toArray)) w) : wpList Tryd.prog ops Q (o :: rest) a w := by
  refine wpList_build_to hg 27 _ ho (comC comZ).toArray ?_ h
  simp only [List.map_toArray, List.map_nil]
  exact com_zero
theorem wpList_append_en1 {ops : Array Oper} {rest : List Oper} {o : Oper} {a : Act} {w : World} {Q : Exit → Act → World → Prop} (hgd : o.guard = none) (s sx : Operand)
    (ho : o.op = .call { callee := .builtin .append, args := #[s, sx], argTypes := #[22, 22] })
    (base : Nat) (v : Value) (xs : List EntS) (x : EntS) (he : a.eval s = v) (hown : OwnEnt w base v xs) (q : Nat) (hx : a.eval sx = .slice (some ⟨q, 0, none⟩) 1 1) (hq : w.heap.size = q)
    (hlen : xs.length ≤ 100000000) (hbase : base ≤ w.heap.size)
    (h : ∀ v' w', OwnEnt w' base v' (xs ++ [x]) → Below base w w' → wpList Tryd.prog ops Q rest (a.put o.dst v') w') : wpList Tryd.prog ops Q (o :: rest) a (w.alloc (.cells (entC x).toArray 31)) := by
  obtain ⟨i0, hi0, hi1, hi2, hi3⟩ := info_parts Tryd.infoEnt
  exact wpList_append_r1 (E := encEnt) hgd s sx 22 31 ho Tryd.underlying22 hi0 hi1 hi2 (by rw [hi3]; omega) (by rw [Value.cells, List.size_toArray, entC_len]; rfl) base v xs x he hown q hx hq hlen hbase _ rfl h
end Go.Proofs.YtbcpfakdmnccmaaDoor

namespace Go.Proofs.YtbcpfakdmnccmaaDoor
open Go.RowKit

section
variable {P : Program}
theorem run_part_row {t : TypeId} {d : TypeDesc} (hu : P.underlying t = some d) (hd : d.isRow = true) {n : Nat} (hi : (P.info? t).map (·.size) = some n) {cs : Array Value} {o : Nat} (ys : Array Value) (hy : cs.extract o (o + n) = ys) (w : World) :
    (part t cs o).run P w = .ok (.agg ys) w := by
  have hagg : (isAgg t).run P w = .ok true w := by
    unfold isAgg
    rw [Sem.run_bind, run_underlying hu w]
    cases d <;> simp_all [TypeDesc.isRow]
  cases hq : P.info? t with
  | none => simp [hq] at hi
  | some i =>
    simp [hq] at hi
    simp [part, hagg, sizeOf, typeInfo, hq, hi, hy]
theorem run_part_one {t : TypeId} {d : TypeDesc} (hu : P.underlying t = some d) (hd : d.isRow = false) {cs : Array Value} {o : Nat} {v : Value} (hv : cs[o]? = some v) (w : World) :
    (part t cs o).run P w = .ok v w := by
  have hagg : (isAgg t).run P w = .ok false w := by
    unfold isAgg
    rw [Sem.run_bind, run_underlying hu w]
    cases d <;> simp_all [TypeDesc.isRow]
  simp [part, hagg, hv]
theorem run_eqField {f : Field} {fs : List Field} {d : Nat} {xs ys : Array Value} {a b : Value} {r : Bool} {w : World} (hn : f.name ≠ "_") (ha : (part f.type xs f.offset).run P w = .ok a w) (hb : (part f.type ys f.offset).run P w = .ok b w)
    (hr : (Op.equalIn d f.type a b).run P w = .ok r w) {s : Bool} (hs : (Op.eqFields d xs ys fs).run P w = .ok s w) : (Op.eqFields d xs ys (f :: fs)).run P w = .ok (r && s) w := by
  simp only [Op.eqFields]
  rw [if_pos hn]
  simp only [Sem.run_bind, ha, hb, hr, Result.andThen_ok]
  cases r
  · simp
  · simpa using hs
end
theorem key_same (k l : KeyS) : (k.1 == l.1) = (k == l) := by
  rw [Bool.eq_iff_iff, beq_iff_eq, beq_iff_eq]
  exact ⟨Subtype.ext, fun h => by rw [h]⟩
theorem key_eql (k l : KeyS) (d : Nat) (hd : d = 9998 + 1 + 1 ∨ d = 9998 + 1) (wx : World) : (Op.equalIn d 24 (.agg (keyC k).toArray) (.agg (keyC l).toArray)).run Tryd.prog wx = .ok (k == l) wx := by
  obtain ⟨i0, hi0, hi1, hi2, hi3⟩ := info_parts Tryd.info5
  rw [← key_same]
  rcases hd with rfl | rfl
  · rw [run_equalIn_array wx (9998 + 1) _ _ Tryd.underlying24 hi0, cellsU8, List.range_eq_range', keyC, keyC, run_eqItems_bytes 9998 Tryd.underlying5 k.1 l.1 32 k.2 l.2 wx 32 0 rfl]
    rfl
  · rw [run_equalIn_array wx 9998 _ _ Tryd.underlying24 hi0, cellsU8, List.range_eq_range', keyC, keyC, show (9998 : Nat) = 9997 + 1 from rfl, run_eqItems_bytes 9997 Tryd.underlying5 k.1 l.1 32 k.2 l.2 wx 32 0 rfl]
    rfl
theorem key_neq (k l : KeyS) (wx : World) : (binOp .neq 24 (.agg (keyC k).toArray) (.agg (keyC l).toArray)).run Tryd.prog wx = .ok (.bool (k != l)) wx := by
  rw [run_neq_struct, key_eql k l 10000 (.inl rfl) wx]
  rfl
theorem ext_mid (a b c : List Value) (n m : Nat) (hn : a.length = n) (hm : b.length = m) : (a ++ (b ++ c)).toArray.extract n (n + m) = b.toArray := by
  subst hn hm
  simp
theorem txt_same (a b : List UInt8) : ((⟨a.toArray⟩ : ByteArray).toList == (⟨b.toArray⟩ : ByteArray).toList) = (a == b) := by
  rw [ByteArray.toList_eq, ByteArray.toList_eq]
set_option maxRecDepth 100000 in
theorem ent_eql (f g : EntS) (wx : World) : (binOp .eql 31 (.agg (entC f).toArray) (.agg (entC g).toArray)).run Tryd.prog wx = .ok (.bool (f == g)) wx := by
  obtain ⟨p, x, k⟩ := f
  obtain ⟨q, y, l⟩ := g
  rw [run_eql_struct, run_equalIn_struct wx 9999 _ _ _ (by kernel_rfl) (by kernel_rfl)]
  simp only [Program.fieldsOf, Tryd.underlying31]
  have e0 : ∀ (p : List UInt8) (x : Bool) (k : KeyS), (entC (p, x, k)).toArray[0]? = some (.string ⟨p.toArray⟩) := fun p x k => by simp [entC]
  have e1 : ∀ (p : List UInt8) (x : Bool) (k : KeyS), (entC (p, x, k)).toArray[1]? = some (.bool x) := fun p x k => by simp [entC]
  have e2 : ∀ (p : List UInt8) (x : Bool) (k : KeyS), (entC (p, x, k)).toArray.extract 2 (2 + 32) = (keyC k).toArray := fun p x k => by simpa [entC] using ext_mid [.string ⟨p.toArray⟩, .bool x] (keyC k) [] 2 32 rfl (keyC_len k)
  refine (congrArg (fun r => Result.andThen r fun b w' => Result.ok (Value.bool b) w') (?_ : _ = Result.ok ((p == q) && ((x == y) && ((k == l) && true))) wx)).trans ?_
  · refine run_eqField (by decide) (run_part_one Tryd.underlying9 rfl (e0 p x k) wx) (run_part_one Tryd.underlying9 rfl (e0 q y l) wx) ((run_equalIn_string wx 9998 _ _ _ Tryd.underlying9).trans (by rw [txt_same])) ?_
    refine run_eqField (by decide) (run_part_one Tryd.underlying4 rfl (e1 p x k) wx) (run_part_one Tryd.underlying4 rfl (e1 q y l) wx) (run_equalIn_bool' wx 9998 _ _ _ Tryd.underlying4) ?_
    refine run_eqField (by decide) (run_part_row Tryd.underlying24 rfl Tryd.sizeKey _ (e2 p x k) wx) (run_part_row Tryd.underlying24 rfl Tryd.sizeKey _ (e2 q y l) wx) (key_eql k l 9999 (.inr rfl) wx) ?_
    rfl
  simp only [Result.andThen_ok, Bool.and_true]
  rfl
theorem ent_neq (f g : EntS) (wx : World) : (binOp .neq 31 (.agg (entC f).toArray) (.agg (entC g).toArray)).run Tryd.prog wx = .ok (.bool (f != g)) wx := by
  have h := ent_eql f g wx
  rw [run_eql_struct] at h
  rw [run_neq_struct]
  cases hr : (Op.equalIn 10000 31 (.agg (entC f).toArray) (.agg (entC g).toArray)).run Tryd.prog wx with
  | ok b w' =>
    rw [hr] at h
    simp only [Result.andThen_ok, Result.ok.injEq, Value.bool.injEq] at h ⊢
    rw [h.1]
    exact ⟨rfl, h.2⟩
  | halt x w' =>
    rw [hr] at h
    simp [Result.andThen] at h
theorem com_e0 (x : Bool) (k k' : KeyS) (p : List UInt8) (s : Nat) : (comC (x, k, k', p, s)).toArray[0]? = some (.bool x) := by simp [comC]
set_option maxRecDepth 100000 in
theorem com_e1 : ∀ (x : Bool) (k k' : KeyS) (p : List UInt8) (s : Nat), (comC (x, k, k', p, s)).toArray[65]? = some (.string ⟨p.toArray⟩) := fun x k k' p s => by
    obtain ⟨_, _, _, _, _, _, _, _, _, _, _, _, _, _, _, _, _, _, _, _, _, _, _, _, _, _, _, _, _, _, _, _, hk⟩ := key32 k
    obtain ⟨_, _, _, _, _, _, _, _, _, _, _, _, _, _, _, _, _, _, _, _, _, _, _, _, _, _, _, _, _, _, _, _, hl⟩ := key32 k'
    simp only [comC, hk, hl]
    rfl
set_option maxRecDepth 100000 in
theorem com_e2 : ∀ (x : Bool) (k k' : KeyS) (p : List UInt8) (s : Nat), (comC (x, k, k', p, s)).toArray[66]? = some (.int .u64 (s : Nat)) := fun x k k' p s => by
    obtain ⟨_, _, _, _, _, _, _, _, _, _, _, _, _, _, _, _, _, _, _, _, _, _, _, _, _, _, _, _, _, _, _, _, hk⟩ := key32 k
    obtain ⟨_, _, _, _, _, _, _, _, _, _, _, _, _, _, _, _, _, _, _, _, _, _, _, _, _, _, _, _, _, _, _, _, hl⟩ := key32 k'
    simp only [comC, hk, hl]
    rfl
set_option maxRecDepth 100000 in
theorem com_e3 : ∀ (x : Bool) (k k' : KeyS) (p : List UInt8) (s : Nat), (comC (x, k, k', p, s)).toArray.extract 1 (1 + 32) = (keyC k).toArray := fun x k k' p s => by
    have := ext_mid [.bool x] (keyC k) (keyC k' ++ [.string ⟨p.toArray⟩, .int .u64 (s : Nat)]) 1 32 rfl (keyC_len k)
    simpa [comC] using this
set_option maxRecDepth 100000 in
theorem com_e4 : ∀ (x : Bool) (k k' : KeyS) (p : List UInt8) (s : Nat), (comC (x, k, k', p, s)).toArray.extract 33 (33 + 32) = (keyC k').toArray := fun x k k' p s => by
    have := ext_mid (.bool x :: keyC k) (keyC k') [.string ⟨p.toArray⟩, .int .u64 (s : Nat)] 33 32 (by simp [keyC_len]) (keyC_len k')
    simpa [comC] using this
set_option maxRecDepth 100000 in
theorem com_eql (f g : ComS) (wx : World) : (binOp .eql 27 (.agg (comC f).toArray) (.agg (comC g).toArray)).run Tryd.prog wx = .ok (.bool (f == g)) wx := by
  obtain ⟨x, k, k', p, s⟩ := f
  obtain ⟨y, l, l', q, u⟩ := g
  rw [run_eql_struct, run_equalIn_struct wx 9999 _ _ _ (by kernel_rfl) (by kernel_rfl)]
  simp only [Program.fieldsOf, Tryd.underlying27]
  have a0 := com_e0 x k k' p s
  have a1 := com_e1 x k k' p s
  have a2 := com_e2 x k k' p s
  have a3 := com_e3 x k k' p s
  have a4 := com_e4 x k k' p s
  have b0 := com_e0 y l l' q u
  have b1 := com_e1 y l l' q u
  have b2 := com_e2 y l l' q u
  have b3 := com_e3 y l l' q u
  have b4 := com_e4 y l l' q u
  generalize (comC (x, k, k', p, s)).toArray = A at *
  generalize (comC (y, l, l', q, u)).toArray = B at *
  refine (congrArg (fun r => Result.andThen r fun b w' => Result.ok (Value.bool b) w') (?_ : _ = Result.ok ((x == y) && ((k == l) && ((k' == l') && ((p == q) && (((s : Int) == (u : Int)) && true))))) wx)).trans ?_
  · refine run_eqField (by decide) (run_part_one Tryd.underlying4 rfl a0 wx) (run_part_one Tryd.underlying4 rfl b0 wx) (run_equalIn_bool' wx 9998 _ _ _ Tryd.underlying4) ?_
    refine run_eqField (by decide) (run_part_row Tryd.underlying24 rfl Tryd.sizeKey _ a3 wx) (run_part_row Tryd.underlying24 rfl Tryd.sizeKey _ b3 wx) (key_eql k l 9999 (.inr rfl) wx) ?_
    refine run_eqField (by decide) (run_part_row Tryd.underlying24 rfl Tryd.sizeKey _ a4 wx) (run_part_row Tryd.underlying24 rfl Tryd.sizeKey _ b4 wx) (key_eql k' l' 9999 (.inr rfl) wx) ?_
    refine run_eqField (by decide) (run_part_one Tryd.underlying9 rfl a1 wx) (run_part_one Tryd.underlying9 rfl b1 wx) ((run_equalIn_string wx 9998 _ _ _ Tryd.underlying9).trans (by rw [txt_same])) ?_
    refine run_eqField (by decide) (run_part_one Tryd.underlying25 rfl a2 wx) (run_part_one Tryd.underlying25 rfl b2 wx) (run_equalIn_int wx 9998 _ .u64 _ _ _ Tryd.underlying25) ?_
    rfl
  have hu : ((s : Int) == (u : Int)) = (s == u) := by rw [Bool.eq_iff_iff, beq_iff_eq, beq_iff_eq]; omega
  rw [hu]
  simp only [Result.andThen_ok, Bool.and_true]
  rfl
end Go.Proofs.YtbcpfakdmnccmaaDoor

namespace Go.Proofs.YtbcpfakdmnccmaaDoor
open Go.RowKit

/-! ### Kinds, texts -/
def kindS : List UInt8 → Nat
  | [] => 0
  | x :: _ => if 1 ≤ x.toNat ∧ x.toNat ≤ 3 then x.toNat else 0
def blobS (t : List UInt8) : List UInt8 × Int := if 20000 < t.length then ([], 6) else (1 :: t, 0)
def takeBlobS (b : List UInt8) : List UInt8 × Int := if kindS b ≠ 1 then ([], 5) else if 20000 < b.length - 1 then ([], 6) else (b.drop 1, 0)
/-! ### Entries -/
/-- may it stand behind these? -/
def okEnt (pre : List EntS) (f : EntS) : Bool :=
  rightS f.1 && ((match pre.getLast? with | some g => !(ltS f.1 g.1 || f.1 == g.1) | none => true) && pre.all fun g => !clashS g.1 f.1)
def okEnts : List EntS → List EntS → Bool
  | _, [] => true
  | pre, f :: r => okEnt pre f && okEnts (pre ++ [f]) r
def entsR (l : List EntS) : Bool := decide (l.length ≤ 100) && okEnts [] l
def b01 (x : Bool) : UInt8 := if x then 1 else 0
def entB (f : EntS) : List UInt8 := intBytes f.1.length ++ f.1 ++ [b01 f.2.1] ++ f.2.2.1
def entsB (l : List EntS) : List UInt8 := l.flatMap entB
def treeB (l : List EntS) : List UInt8 := [2] ++ lowBytes l.length 4 ++ entsB l
def treeW (l : List EntS) : List UInt8 × Int := if entsR l then (treeB l, 0) else ([], 5)
/-! ### Commits -/
def comE (c : ComS) : Int := if 1000 < c.2.2.2.1.length then 6 else if c.1 && c.2.1 != kz then 5 else 0
def comB (c : ComS) : List UInt8 := [3] ++ [b01 c.1] ++ c.2.1.1 ++ c.2.2.1.1 ++ (intBytes c.2.2.2.1.length ++ c.2.2.2.1) ++ lowBytes c.2.2.2.2 8
def comW (c : ComS) : List UInt8 × Int := if comE c = 0 then (comB c, 0) else ([], comE c)
/-! ### A key, read byte by byte -/
def kyV (l : List UInt8) (c : Int) : KeyS := ⟨((if c ≠ 0 then [] else l) ++ List.replicate 32 0).take 32, by rw [List.length_take, List.length_append, List.length_replicate]; omega⟩
def kyL (l : List UInt8) (c : Int) : List UInt8 := if c ≠ 0 then l else l.drop 32
def kyE (l : List UInt8) (c : Int) : Int := if c ≠ 0 then c else if l.length < 32 then 4 else 0
/-- .. behind j of them -/
def kjL (j : Nat) (l : List UInt8) (c : Int) : List UInt8 := if c ≠ 0 then l else l.drop j
def kjE (j : Nat) (l : List UInt8) (c : Int) : Int := if c ≠ 0 then c else if l.length < j then 4 else 0
theorem kj_step (j : Nat) (hj : j < 32) (l : List UInt8) (c : Int) : ∃ x : UInt8, (kyV l c).1[j]? = some x ∧ numOf (stV 1 (kjL j l c) (kjE j l c)) = x.toNat ∧ stL 1 (kjL j l c) (kjE j l c) = kjL (j + 1) l c ∧ stE 1 (kjL j l c) (kjE j l c) = kjE (j + 1) l c := by
  by_cases hc : c = 0
  · subst hc
    by_cases hl : j < l.length
    · have h1 : ¬ l.length < j := by omega
      have h2 : ¬ (l.drop j).length < 1 := by rw [List.length_drop]; omega
      have h3 : ¬ l.length < j + 1 := by omega
      have hd := List.drop_eq_getElem_cons hl
      have e1 : kjL j l 0 = l.drop j := rfl
      have e2 : kjE j l 0 = 0 := if_neg h1
      refine ⟨l[j], ?_, ?_, ?_, ?_⟩
      · show (List.take 32 (l ++ List.replicate 32 0))[j]? = _
        rw [List.getElem?_take_of_lt hj, List.getElem?_append_left hl, List.getElem?_eq_getElem hl]
      · rw [e1, e2, stV, if_neg (by simp), if_neg h2, hd]
        show l[j].toNat + 256 * 0 = _
        omega
      · rw [e1, e2, stL, if_neg (by simp), if_neg h2, List.drop_drop]
        rfl
      · rw [e1, e2, stE, if_neg (by simp), if_neg h2]
        exact (if_neg h3).symm
    · have hd : l.drop j = [] := List.drop_of_length_le (by omega)
      have hd1 : l.drop (j + 1) = [] := List.drop_of_length_le (by omega)
      have h3 : l.length < j + 1 := by omega
      refine ⟨0, ?_, ?_, ?_, ?_⟩
      · simp only [kyV, ne_eq, not_true_eq_false, if_false]
        rw [List.getElem?_take_of_lt hj, List.getElem?_append_right (by omega), List.getElem?_replicate, if_pos (by omega)]
      · by_cases h4 : l.length < j <;> simp [kjL, kjE, stV, hd, h4, numOf]
      · by_cases h4 : l.length < j <;> simp [kjL, kjE, stL, hd, hd1, h4]
      · by_cases h4 : l.length < j <;> simp [kjL, kjE, stE, hd, h3, h4]
  · refine ⟨0, ?_, ?_, ?_, ?_⟩
    · simp only [kyV, ne_eq, hc, not_false_eq_true, if_true, List.nil_append]
      rw [List.getElem?_take_of_lt hj, List.getElem?_replicate, if_pos hj]
    · simp [kjE, stV, hc, numOf]
    · simp [kjL, kjE, stL, hc]
    · simp [kjE, stE, hc]
theorem kj_zero (l : List UInt8) (c : Int) : kjL 0 l c = l ∧ kjE 0 l c = c := by
  unfold kjL kjE
  by_cases hc : c = 0 <;> simp [hc]
theorem kj_all (l : List UInt8) (c : Int) : kjL 32 l c = kyL l c ∧ kjE 32 l c = kyE l c := ⟨rfl, rfl⟩
/-! ### Entries, read one by one -/
def eL1 (l : List UInt8) (c : Int) : List UInt8 := blL (txL l c) (txE l c)
def eE1 (l : List UInt8) (c : Int) : Int := blE (txL l c) (txE l c)
def enV (l : List UInt8) (c : Int) : EntS := (txV l c, blV (txL l c) (txE l c), kyV (eL1 l c) (eE1 l c))
def enL (l : List UInt8) (c : Int) : List UInt8 := kyL (eL1 l c) (eE1 l c)
def enE (l : List UInt8) (c : Int) : Int := kyE (eL1 l c) (eE1 l c)
/-- n of them, as long as nothing is wrong -/
def ensR : Nat → List UInt8 → Int → List EntS × List UInt8 × Int
  | 0, l, c => ([], l, c)
  | n + 1, l, c => if c ≠ 0 then ([], l, c) else
      let r := ensR n (enL l c) (enE l c)
      (enV l c :: r.1, r.2)
/-! ### Commits, read -/
def coL1 (l : List UInt8) : List UInt8 := blL l 0
def coE1 (l : List UInt8) : Int := blE l 0
def coL2 (l : List UInt8) : List UInt8 := kyL (coL1 l) (coE1 l)
def coE2 (l : List UInt8) : Int := kyE (coL1 l) (coE1 l)
def coL3 (l : List UInt8) : List UInt8 := kyL (coL2 l) (coE2 l)
def coE3 (l : List UInt8) : Int := kyE (coL2 l) (coE2 l)
def coL4 (l : List UInt8) : List UInt8 := txL (coL3 l) (coE3 l)
def coE4 (l : List UInt8) : Int := txE (coL3 l) (coE3 l)
def coV (l : List UInt8) : ComS := (blV l 0, kyV (coL1 l) (coE1 l), kyV (coL2 l) (coE2 l), txV (coL3 l) (coE3 l), numOf (stV 8 (coL4 l) (coE4 l)))
def coL (l : List UInt8) : List UInt8 := stL 8 (coL4 l) (coE4 l)
def coE (l : List UInt8) : Int := stE 8 (coL4 l) (coE4 l)
/-! ### What is taken -/
def takeTreeS (b : List UInt8) : List EntS × Int :=
  if kindS b ≠ 2 then ([], 5) else
    let l := b.drop 1
    let r := ensR (numOf (stV 4 l 0)) (stL 4 l 0) (stE 4 l 0)
    if r.2.2 ≠ 0 then ([], r.2.2) else if r.2.1 ≠ [] then ([], 5) else if entsR r.1 then (r.1, 0) else ([], 5)
def takeComS (b : List UInt8) : ComS × Int :=
  if kindS b ≠ 3 then (comZ, 5) else
    let l := b.drop 1
    if coE l ≠ 0 then (comZ, coE l) else if coL l ≠ [] then (comZ, 5) else if comE (coV l) ≠ 0 then (comZ, 5) else (coV l, 0)
end Go.Proofs.YtbcpfakdmnccmaaDoor

namespace Go.Proofs.YtbcpfakdmnccmaaDoor
open Go.RowKit

/-- bytes that the call owns -/
abbrev OwnB (w : World) (base : Nat) (v : Value) (bs : List UInt8) : Prop := w.ownsRow base 5 1 v bs.length (Lib.byteCells bs)
theorem kind_cases (x : UInt8) : x.toNat = 1 ∨ x.toNat = 2 ∨ x.toNat = 3 ∨ (x.toNat ≠ 1 ∧ x.toNat ≠ 2 ∧ x.toNat ≠ 3) := by omega
section
set_option maxRecDepth 100000
set_option maxHeartbeats 1000000
theorem DKind_any (v : Value) (b : List UInt8) (w : World) (hv : Sl w v (Lib.byteCells b)) :
    Calls Tryd.prog 24 #[v] w fun e w' => e = .returned (.int .i64 (kindS b : Nat)) ∧ w = w' := by
  obtain ⟨ao, cap, rfl⟩ := hv.form
  rw [Lib.byteCells_length] at hv ⊢
  match b, hv with
  | [], _ =>
    go_enter Tryd.func24, Tryd.ntmps24
    go_wp2
    go_ret
    exact ⟨rfl, rfl⟩
  | x :: r, hv =>
    obtain ⟨a, y, rfl, hc, hy⟩ := hv.byteAt' (i := 0) (by simp)
    obtain rfl : x = y := by simpa using hy
    have hc : w.cell? a = some (.int .u8 (x.toNat : Int)) := hc
    have hn : (((x :: r).length : Int) == 0) = false := by rw [List.length_cons]; exact beq_false_of_ne (by omega)
    have hn2 : ((x :: r).length == 0) = false := rfl
    have hl : (0 : Int) < ((x :: r).length : Int) := by rw [List.length_cons]; omega
    have hx := x.toNat_lt
    have hw : wrap64 (x.toNat : Int) = (x.toNat : Int) := IntWalk.wrap64_in _ (by omega)
    have hw2 : IntKind.i64.wrap (x.toNat : Int) = (x.toNat : Int) := IntWalk.i64_in _ (by omega)
    have hk : kindS (x :: r) = if 1 ≤ x.toNat ∧ x.toNat ≤ 3 then x.toNat else 0 := rfl
    generalize (x :: r).length = n at *
    generalize kindS (x :: r) = k at *
    clear hv hy hx
    have HK := hid hk
    clear hk
    obtain ⟨m, hm⟩ : ∃ m, x.toNat = m := ⟨_, rfl⟩
    rcases kind_cases x with h | h | h | ⟨h1, h2, h3⟩
    · rw [h] at hc HK hw hw2
      go_enter Tryd.func24, Tryd.ntmps24
      go_wp2
      go_ret
      exact ⟨by rw [HK.out]; rfl, rfl⟩
    · rw [h] at hc HK hw hw2
      go_enter Tryd.func24, Tryd.ntmps24
      go_wp2
      go_ret
      exact ⟨by rw [HK.out]; rfl, rfl⟩
    · rw [h] at hc HK hw hw2
      go_enter Tryd.func24, Tryd.ntmps24
      go_wp2
      go_ret
      exact ⟨by rw [HK.out]; rfl, rfl⟩
    · rw [hm] at hc hw hw2 HK h1 h2 h3
      have e1 : ((m : Int) == 1) = false := beq_false_of_ne (by omega)
      have e2 : ((m : Int) == 2) = false := beq_false_of_ne (by omega)
      have e3 : ((m : Int) == 3) = false := beq_false_of_ne (by omega)
      have f1 : (m == 1) = false := beq_false_of_ne h1
      have f2 : (m == 2) = false := beq_false_of_ne h2
      have f3 : (m == 3) = false := beq_false_of_ne h3
      have HK2 := hid (show k = 0 by rw [HK.out, if_neg (by omega)])
      clear h1 h2 h3 hm HK
      go_enter Tryd.func24, Tryd.ntmps24
      go_wp2
      go_ret
      exact ⟨by rw [HK2.out]; rfl, rfl⟩
theorem RKind_any (v : Value) (b : List UInt8) (w : World) (hv : Sl w v (Lib.byteCells b)) :
    Calls Tryd.prog 25 #[v] w fun e w' => e = .returned (.int .i64 (kindS b : Nat)) ∧ w = w' := by
  obtain ⟨ao, cap, rfl⟩ := hv.form
  rw [Lib.byteCells_length] at hv ⊢
  match b, hv with
  | [], _ =>
    go_enter Tryd.func25, Tryd.ntmps25
    go_wp2
    go_ret
    exact ⟨rfl, rfl⟩
  | x :: r, hv =>
    obtain ⟨a, y, rfl, hc, hy⟩ := hv.byteAt' (i := 0) (by simp)
    obtain rfl : x = y := by simpa using hy
    have hc : w.cell? a = some (.int .u8 (x.toNat : Int)) := hc
    have hl : (0 : Int) < ((x :: r).length : Int) := by rw [List.length_cons]; omega
    have hl2 : decide ((0 : Int) < ((x :: r).length : Int)) = true := decide_eq_true hl
    have hl3 : decide (0 < (x :: r).length) = true := decide_eq_true (by simp)
    have hx := x.toNat_lt
    have hw : wrap64 (x.toNat : Int) = (x.toNat : Int) := IntWalk.wrap64_in _ (by omega)
    have hw2 : IntKind.i64.wrap (x.toNat : Int) = (x.toNat : Int) := IntWalk.i64_in _ (by omega)
    have hk : kindS (x :: r) = if 1 ≤ x.toNat ∧ x.toNat ≤ 3 then x.toNat else 0 := rfl
    generalize (x :: r).length = n at *
    generalize kindS (x :: r) = k at *
    have HK := hid hk
    clear hk hv hy hx
    obtain ⟨m, hm⟩ : ∃ m, x.toNat = m := ⟨_, rfl⟩
    rw [hm] at hc hw hw2 HK
    clear hm
    by_cases h1 : 1 ≤ m
    · have e1 : decide ((1 : Int) ≤ (m : Int)) = true := decide_eq_true (by omega)
      have e2 : decide (1 ≤ m) = true := decide_eq_true h1
      by_cases h3 : m ≤ 3
      · have e3 : decide ((m : Int) ≤ (3 : Int)) = true := decide_eq_true (by omega)
        have e4 : decide (m ≤ 3) = true := decide_eq_true h3
        have HK2 := hid (show k = m by rw [HK.out, if_pos ⟨h1, h3⟩])
        clear h1 h3 HK
        go_enter Tryd.func25, Tryd.ntmps25
        go_wp2
        go_ret
        exact ⟨by rw [HK2.out]; rfl, rfl⟩
      · have e3 : decide ((m : Int) ≤ (3 : Int)) = false := decide_eq_false (by omega)
        have e4 : decide (m ≤ 3) = false := decide_eq_false h3
        have HK2 := hid (show k = 0 by rw [HK.out, if_neg (by omega)])
        clear h1 h3 HK
        go_enter Tryd.func25, Tryd.ntmps25
        go_wp2
        go_ret
        exact ⟨by rw [HK2.out]; rfl, rfl⟩
    · have e1 : decide ((1 : Int) ≤ (m : Int)) = false := decide_eq_false (by omega)
      have e2 : decide (1 ≤ m) = false := decide_eq_false h1
      have HK2 := hid (show k = 0 by rw [HK.out, if_neg (by omega)])
      clear h1 HK
      go_enter Tryd.func25, Tryd.ntmps25
      go_wp2
      go_ret
      exact ⟨by rw [HK2.out]; rfl, rfl⟩
theorem DBlob_any (t : List UInt8) (w : World) :
    Calls Tryd.prog 9 #[.string ⟨t.toArray⟩] w fun e w' => ∃ v, e = .returned (.tuple #[v, .int .i64 (blobS t).2]) ∧ OwnB w' w.heap.size v (blobS t).1 ∧ Below w.heap.size w w' := by
  obtain ⟨i0, hi0, hi1, hi2, hi3⟩ := info_parts Tryd.info5
  by_cases h : t.length ≤ 20000
  · have h1 : decide (20000 < (t.length : Int)) = false := decide_eq_false (by omega)
    have h2 : decide (20000 < t.length) = false := decide_eq_false (by omega)
    have HB := hid (show blobS t = (1 :: t, 0) by unfold blobS; rw [if_neg (by omega)])
    have g1 : 1 + t.length ≤ maxLen := by unfold maxLen; omega
    have g2 : (1 + t.length) * 1 ≤ 140737488355328 := by omega
    have hts : (⟨t.toArray⟩ : ByteArray).size = t.length := by simp [ByteArray.size]
    have hs := Src.ofString (P := Tryd.prog) (w.alloc (.cells #[.int .u8 1] 5)) Tryd.underlying9 ⟨t.toArray⟩
    rw [hts] at hs
    have HS := hid hs
    clear h hs hts
    go_enter Tryd.func9, Tryd.ntmps9
    go_wp2_with (refine wpList_append_any _ rfl (.tmp 7) (.tmp 8) _ _ rfl w.heap.size 5 i0 _ 1 1 Tryd.underlying32 hi0 hi1 hi2 hi3 rfl (by omega) (.slice (some ⟨w.heap.size, 0, none⟩) 1 1) 1 [.int .u8 1] rfl (World.ownsRow_lit w #[.int .u8 1] 1 (Nat.le_refl _) (by decide) rfl) _ t.length _ rfl HS.out g1 g2 (by simp) ?_; intro v4 w4 hown4 hgrow4 hat4)
    have hb := ((Below.refl _ w).alloc (Nat.le_refl _) (.cells #[.int .u8 1] 5)).grown hgrow4 (by simp) (fun j hj => by simp [Value.ownBlock] at hj; omega)
    refine bodyPost_ret (results_tmp2 rfl _ _ _) rfl ⟨v4, by rw [HB.out]; rfl, ?_, hb⟩
    rw [HB.out]
    unfold OwnB
    rw [List.length_cons, Nat.add_comm t.length 1]
    exact hown4
  · have h1 : decide (20000 < (t.length : Int)) = true := decide_eq_true (by omega)
    have h2 : decide (20000 < t.length) = true := decide_eq_true (by omega)
    have HB := hid (show blobS t = ([], 6) by unfold blobS; rw [if_pos (by omega)])
    clear h
    go_enter Tryd.func9, Tryd.ntmps9
    go_wp2
    refine bodyPost_ret (results_tmp2 rfl _ _ _) rfl ⟨.slice none 0 0, by rw [HB.out]; rfl, ?_, Below.refl _ _⟩
    rw [HB.out]
    exact World.ownsRow_nil _ _ _ _
theorem DTakeBlob_any (v : Value) (b : List UInt8) (w : World) (hv : Sl w v (Lib.byteCells b)) (hlen : b.length ≤ 70368744177664) :
    Calls Tryd.prog 18 #[v] w fun e w' => e = .returned (.tuple #[.string ⟨(takeBlobS b).1.toArray⟩, .int .i64 (takeBlobS b).2]) ∧ w = w' := by
  obtain ⟨i0, hi0, hi1, hi2, hi3⟩ := info_parts Tryd.info5
  have HK := hid (DKind_any v b w hv)
  by_cases hk : kindS b = 1
  · rw [hk] at HK
    have hb1 : 1 ≤ b.length := by
      match b, hk with
      | [], hk => simp [kindS] at hk
      | _ :: _, _ => simp
    obtain ⟨v1, r1, s1, _, ao1, c1, rfl⟩ := run_slice_from (P := Tryd.prog) 32 5 Tryd.underlying32 hi0 hi2 hv 1 (by rw [Lib.byteCells_length]; exact hb1)
    rw [← byteCells_drop] at s1
    have hcv := run_string_of (P := Tryd.prog) 32 9 5 Tryd.underlying32 Tryd.underlying5 Tryd.underlying9 s1
    obtain ⟨ao, cap, rfl⟩ := hv.form
    rw [Lib.byteCells_length] at HK r1 hcv ⊢
    have r1 : ∀ wx, (Instr.slice 32 (.slice ao b.length cap) (some (.int .i64 1)) none none).run Tryd.prog wx = .ok (.slice ao1 (b.length - 1) c1) wx := r1
    have HT0 := hid (show 20000 < b.length - 1 → takeBlobS b = ([], 6) from fun h => by unfold takeBlobS; rw [if_neg (by simp [hk]), if_pos h])
    have HT1 := hid (show ¬ 20000 < b.length - 1 → takeBlobS b = (b.drop 1, 0) from fun h => by unfold takeBlobS; rw [if_neg (by simp [hk]), if_neg h])
    obtain ⟨t, ht⟩ : ∃ t, b.drop 1 = t := ⟨_, rfl⟩
    rw [ht] at hcv HT1
    clear ht
    have h0 : IntKind.i64.wrap ((b.length : Int) - 1) = ((b.length - 1 : Nat) : Int) := (IntWalk.i64_in _ (by omega)).trans (by omega)
    by_cases h : b.length - 1 ≤ 20000
    · have h1 : decide (20000 < ((b.length - 1 : Nat) : Int)) = false := decide_eq_false (by omega)
      have h2 : decide (20000 < b.length - 1) = false := decide_eq_false (by omega)
      have HT := hid (HT1.out (by omega))
      clear h hk hv s1
      go_enter Tryd.func18, Tryd.ntmps18
      go_wp2_with fail
      refine HK.out.mono ?_
      rintro e w1 ⟨rfl, rfl⟩
      go_wp2
      refine bodyPost_ret (results_tmp2 rfl _ _ _) rfl ⟨by rw [HT.out]; rfl, rfl⟩
    · have h1 : decide (20000 < ((b.length - 1 : Nat) : Int)) = true := decide_eq_true (by omega)
      have h2 : decide (20000 < b.length - 1) = true := decide_eq_true (by omega)
      have HT := hid (HT0.out (by omega))
      clear h hk hv s1
      go_enter Tryd.func18, Tryd.ntmps18
      go_wp2_with fail
      refine HK.out.mono ?_
      rintro e w1 ⟨rfl, rfl⟩
      go_wp2
      refine bodyPost_ret (results_tmp2 rfl _ _ _) rfl ⟨by rw [HT.out]; rfl, rfl⟩
  · have hne : ((kindS b : Int) != 1) = true := by simp; omega
    have hne2 : (kindS b != 1) = true := by simpa using hk
    have hne3 : ((kindS b : Int) == 1) = false := beq_false_of_ne (by omega)
    have hne4 : (kindS b == 1) = false := beq_false_of_ne hk
    have HT := hid (show takeBlobS b = ([], 5) by unfold takeBlobS; rw [if_pos hk])
    obtain ⟨ao, cap, rfl⟩ := hv.form
    rw [Lib.byteCells_length] at HK ⊢
    generalize kindS b = k at *
    clear hk hv
    go_enter Tryd.func18, Tryd.ntmps18
    go_wp2_with fail
    refine HK.out.mono ?_
    rintro e w1 ⟨rfl, rfl⟩
    go_wp2
    refine bodyPost_ret (results_tmp2 rfl _ _ _) rfl ⟨by rw [HT.out]; rfl, rfl⟩
theorem RBlob_any (t : List UInt8) (w : World) :
    Calls Tryd.prog 10 #[.string ⟨t.toArray⟩] w fun e w' => ∃ v, e = .returned (.tuple #[v, .int .i64 (blobS t).2]) ∧ OwnB w' w.heap.size v (blobS t).1 ∧ Below w.heap.size w w' := by
  obtain ⟨i0, hi0, hi1, hi2, hi3⟩ := info_parts Tryd.info5
  by_cases h : t.length ≤ 20000
  · have h1 : decide (20000 < (t.length : Int)) = false := decide_eq_false (by omega)
    have h2 : decide (20000 < t.length) = false := decide_eq_false (by omega)
    have HB := hid (show blobS t = (1 :: t, 0) by unfold blobS; rw [if_neg (by omega)])
    have g1 : 1 + t.length ≤ maxLen := by unfold maxLen; omega
    have g2 : (1 + t.length) * 1 ≤ 140737488355328 := by omega
    have hts : (⟨t.toArray⟩ : ByteArray).size = t.length := by simp [ByteArray.size]
    have hs := Src.ofString (P := Tryd.prog) (w.alloc (.cells #[.int .u8 1] 5)) Tryd.underlying9 ⟨t.toArray⟩
    rw [hts] at hs
    have HS := hid hs
    clear h hs hts
    go_enter Tryd.func10, Tryd.ntmps10
    go_wp2_with (refine wpList_append_any _ rfl (.tmp 7) (.tmp 8) _ _ rfl w.heap.size 5 i0 _ 1 1 Tryd.underlying32 hi0 hi1 hi2 hi3 rfl (by omega) (.slice (some ⟨w.heap.size, 0, none⟩) 1 1) 1 [.int .u8 1] rfl (World.ownsRow_lit w #[.int .u8 1] 1 (Nat.le_refl _) (by decide) rfl) _ t.length _ rfl HS.out g1 g2 (by simp) ?_; intro v4 w4 hown4 hgrow4 hat4)
    have hb := ((Below.refl _ w).alloc (Nat.le_refl _) (.cells #[.int .u8 1] 5)).grown hgrow4 (by simp) (fun j hj => by simp [Value.ownBlock] at hj; omega)
    refine bodyPost_ret (results_tmp2 rfl _ _ _) rfl ⟨v4, by rw [HB.out]; rfl, ?_, hb⟩
    rw [HB.out]
    unfold OwnB
    rw [List.length_cons, Nat.add_comm t.length 1]
    exact hown4
  · have h1 : decide (20000 < (t.length : Int)) = true := decide_eq_true (by omega)
    have h2 : decide (20000 < t.length) = true := decide_eq_true (by omega)
    have HB := hid (show blobS t = ([], 6) by unfold blobS; rw [if_pos (by omega)])
    clear h
    go_enter Tryd.func10, Tryd.ntmps10
    go_wp2
    refine bodyPost_ret (results_tmp2 rfl _ _ _) rfl ⟨.slice none 0 0, by rw [HB.out]; rfl, ?_, Below.refl _ _⟩
    rw [HB.out]
    exact World.ownsRow_nil _ _ _ _
theorem RTakeBlob_any (v : Value) (b : List UInt8) (w : World) (hv : Sl w v (Lib.byteCells b)) (hlen : b.length ≤ 70368744177664) :
    Calls Tryd.prog 19 #[v] w fun e w' => e = .returned (.tuple #[.string ⟨(takeBlobS b).1.toArray⟩, .int .i64 (takeBlobS b).2]) ∧ w = w' := by
  obtain ⟨i0, hi0, hi1, hi2, hi3⟩ := info_parts Tryd.info5
  have HK := hid (RKind_any v b w hv)
  by_cases hk : kindS b = 1
  · rw [hk] at HK
    have hb1 : 1 ≤ b.length := by
      match b, hk with
      | [], hk => simp [kindS] at hk
      | _ :: _, _ => simp
    obtain ⟨v1, r1, s1, _, ao1, c1, rfl⟩ := run_slice_from (P := Tryd.prog) 32 5 Tryd.underlying32 hi0 hi2 hv 1 (by rw [Lib.byteCells_length]; exact hb1)
    rw [← byteCells_drop] at s1
    have hcv := run_string_of (P := Tryd.prog) 32 9 5 Tryd.underlying32 Tryd.underlying5 Tryd.underlying9 s1
    obtain ⟨ao, cap, rfl⟩ := hv.form
    rw [Lib.byteCells_length] at HK r1 hcv ⊢
    have r1 : ∀ wx, (Instr.slice 32 (.slice ao b.length cap) (some (.int .i64 1)) none none).run Tryd.prog wx = .ok (.slice ao1 (b.length - 1) c1) wx := r1
    have HT0 := hid (show 20000 < b.length - 1 → takeBlobS b = ([], 6) from fun h => by unfold takeBlobS; rw [if_neg (by simp [hk]), if_pos h])
    have HT1 := hid (show ¬ 20000 < b.length - 1 → takeBlobS b = (b.drop 1, 0) from fun h => by unfold takeBlobS; rw [if_neg (by simp [hk]), if_neg h])
    obtain ⟨t, ht⟩ : ∃ t, b.drop 1 = t := ⟨_, rfl⟩
    rw [ht] at hcv HT1
    clear ht
    have h0 : IntKind.i64.wrap ((b.length : Int) - 1) = ((b.length - 1 : Nat) : Int) := (IntWalk.i64_in _ (by omega)).trans (by omega)
    by_cases h : b.length - 1 ≤ 20000
    · have h1 : decide (20000 < ((b.length - 1 : Nat) : Int)) = false := decide_eq_false (by omega)
      have h2 : decide (20000 < b.length - 1) = false := decide_eq_false (by omega)
      have HT := hid (HT1.out (by omega))
      clear h hk hv s1
      go_enter Tryd.func19, Tryd.ntmps19
      go_wp2_with fail
      refine HK.out.mono ?_
      rintro e w1 ⟨rfl, rfl⟩
      go_wp2
      refine bodyPost_ret (results_tmp2 rfl _ _ _) rfl ⟨by rw [HT.out]; rfl, rfl⟩
    · have h1 : decide (20000 < ((b.length - 1 : Nat) : Int)) = true := decide_eq_true (by omega)
      have h2 : decide (20000 < b.length - 1) = true := decide_eq_true (by omega)
      have HT := hid (HT0.out (by omega))
      clear h hk hv s1
      go_enter Tryd.func19, Tryd.ntmps19
      go_wp2_with fail
      refine HK.out.mono ?_
      rintro e w1 ⟨rfl, rfl⟩
      go_wp2
      refine bodyPost_ret (results_tmp2 rfl _ _ _) rfl ⟨by rw [HT.out]; rfl, rfl⟩
  · have hne : ((kindS b : Int) != 1) = true := by simp; omega
    have hne2 : (kindS b != 1) = true := by simpa using hk
    have hne3 : ((kindS b : Int) == 1) = false := beq_false_of_ne (by omega)
    have hne4 : (kindS b == 1) = false := beq_false_of_ne hk
    have HT := hid (show takeBlobS b = ([], 5) by unfold takeBlobS; rw [if_pos hk])
    obtain ⟨ao, cap, rfl⟩ := hv.form
    rw [Lib.byteCells_length] at HK ⊢
    generalize kindS b = k at *
    clear hk hv
    go_enter Tryd.func19, Tryd.ntmps19
    go_wp2_with fail
    refine HK.out.mono ?_
    rintro e w1 ⟨rfl, rfl⟩
    go_wp2
    refine bodyPost_ret (results_tmp2 rfl _ _ _) rfl ⟨by rw [HT.out]; rfl, rfl⟩
end
end Go.Proofs.YtbcpfakdmnccmaaDoor

namespace Go.Proofs.YtbcpfakdmnccmaaDoor
open Go.RowKit

theorem Keep.transNew {S : Nat → Prop} {a b c : World} {g : Nat} (h : Keep S a b) (k : Keep (· = g) b c) (hg : a.heap.size ≤ g) : Keep S a c :=
  ⟨k.os.trans h.os, k.tape.trans h.tape, k.output.trans h.output, Nat.le_trans h.size k.size, fun i hi hs => (k.block i (Nat.lt_of_lt_of_le hi h.size) (by show ¬ i = g; omega)).trans (h.block i hi hs)⟩
section
set_option maxRecDepth 100000
set_option maxHeartbeats 4000000
theorem DKey_any (br : Nat) (l : List UInt8) (c : Int) (w : World) (h : Rd w br l c) :
    Calls Tryd.prog 64 #[.pointer (some ⟨br, 0, none⟩)] w fun e w' => e = .returned (keyW (kyV l c)) ∧ Rd w' br (kyL l c) (kyE l c) ∧ Keep (· = br) w w' := by
  obtain ⟨K, hK⟩ : ∃ K, (kyV l c).1 = K := ⟨_, rfl⟩
  have hKl : K.length = 32 := by rw [← hK, (kyV l c).2]
  have HW := hid (show keyW (kyV l c) = .agg (Lib.byteCells K).toArray by rw [keyW, keyC, hK])
  have HS := hid (fun j hj => kj_step j hj l c)
  have HJ0 := hid (kj_zero l c)
  rw [hK] at HS
  have hlt0 : br < w.heap.size := (let ⟨_, h1, _⟩ := h.ex; lt_of_block h1)
  have HLT := hid hlt0
  have HKL := hid hKl
  have HR := hid h
  have hib : 0 < 32 := by omega
  obtain ⟨Z, hZ⟩ : ∃ Z : List UInt8, Z = List.replicate 32 0 := ⟨_, rfl⟩
  have HZ := hid hZ
  clear hZ hK hKl h hlt0
  go_enter Tryd.func64, Tryd.ntmps64
  go_wp2
  go_loopw [5] (fun i wr => ∃ j : Nat, j ≤ 32 ∧ i = .int .i64 (j : Int) ∧ Rd wr br (kjL j l c) (kjE j l c) ∧ wr.heap[w.heap.size]? = some (.cells (Lib.byteCells Z).toArray 24 (0, 0)) ∧ wr.heap[w.heap.size + 1]? = some (.cells (Lib.byteCells (K.take j ++ List.replicate (32 - j) 0)).toArray 24 (0, 0)) ∧ Keep (· = br) w wr) (fun i _ => 32 - (intOf i).toNat)
  case atStart =>
    refine ⟨0, by omega, rfl, ?_, ?_, ?_, ((Keep.refl _ w).alloc _).alloc _⟩
    · rw [HJ0.out.1, HJ0.out.2]
      exact HR.out.old (((Below.refl _ w).alloc (Nat.le_refl _) _).alloc (by simp) _)
    · rw [HZ.out]
      exact heap_alloc2_old w _ _
    · exact heap_alloc2_new w _ _
  case round =>
    obtain ⟨j, hj, rfl, hr, hb0, hb1, hkp⟩ := hrel
    have hsz := hkp.size
    by_cases hlt : j < 32
    · obtain ⟨x, hx, hn, hl, he⟩ := HS.out j hlt
      have hx256 := x.toNat_lt
      have j1 : (j : Int) < 32 := by omega
      have j0 : (0 : Int) ≤ (j : Int) := Int.natCast_nonneg _
      have hwx : IntKind.u8.wrap (x.toNat : Int) = (x.toNat : Int) := by rw [IntKind.wrap_u8']; omega
      have hwx2 : (x.toNat : Int) % 256 = (x.toNat : Int) := by omega
      have HX := hid hx
      have HN := hid hn
      have HL := hid hl
      have HE := hid he
      have HB0 := hid hb0
      have HB1 := hid hb1
      have HKP := hid hkp
      clear hx hn hl he hb0 hb1 hkp hx256
      go_wp2_with fail
      refine (Num_all br _ _ 1 _ hr).mono ?_
      rw [show heldN 1 = 1 from rfl, HN.out, HL.out, HE.out]
      rintro e w1 ⟨rfl, hr1, hk1⟩
      have hlt1 := HLT.out
      have hb01 := (hk1.block _ (lt_of_block HB0.out) (by show ¬ w.heap.size = br; omega)).trans HB0.out
      have hb11 := (hk1.block _ (lt_of_block HB1.out) (by show ¬ w.heap.size + 1 = br; omega)).trans HB1.out
      have hc0 : w1.cell? ⟨w.heap.size + 1, j, none⟩ = some (.int .u8 (((0 : UInt8).toNat : Nat) : Int)) := blk8_at hb11 (by rw [List.getElem?_append_right (by rw [List.length_take]; omega), List.length_take, List.getElem?_replicate, if_pos (by rw [HKL.out]; omega)])
      have hf0 := blk_free (i := j) hb11
      have hnew := blk8_set hb11 j x
      rw [fill_set K 0 32 j HX.out hlt] at hnew
      have hold := (Below.heap_setCell w1 ⟨w.heap.size + 1, j, none⟩ (.int .u8 (x.toNat : Int)) w.heap.size (by show ¬ w.heap.size = w.heap.size + 1; omega)).trans hb01
      have HN2 := hid hnew
      have HO := hid hold
      have HR1 := hid (hr1.far ((Keep.refl (· = w.heap.size + 1) w1).setCell (p := ⟨w.heap.size + 1, j, none⟩) rfl (.int .u8 (x.toNat : Int))) (by omega))
      have HK1 := hid ((HKP.out.trans hk1).setNew (p := ⟨w.heap.size + 1, j, none⟩) (by show _ ≤ w.heap.size + 1; omega) (.int .u8 (x.toNat : Int)))
      clear hb01 hb11 hnew hold hr1 hk1 hlt1
      go_wp2
      go_roundw
      case rel => exact ⟨j + 1, by omega, by go_num, HR1.out, HO.out, HN2.out, HK1.out⟩
      case measure => simp [intOf]; omega
    · obtain rfl : j = 32 := by omega
      have hb2 : wr.heap[w.heap.size + 1]? = some (.cells (Lib.byteCells K).toArray 24 (0, 0)) := by
        rw [hb1, List.take_of_length_le (by rw [HKL.out]; omega), Nat.sub_self, List.replicate_zero, List.append_nil]
      have hKs : (Lib.byteCells K).toArray.size = 32 := by rw [List.size_toArray, Lib.byteCells_length, HKL.out]
      have hKi : (Tryd.prog.info? 24).map (·.size) = some (Lib.byteCells K).toArray.size := by rw [hKs, Tryd.sizeKey]
      have hZs : (Lib.byteCells Z).toArray.size = 32 := by rw [List.size_toArray, Lib.byteCells_length, HZ.out, List.length_replicate]
      have hK1 := key_one K
      have HRR := hid hr
      have HKP := hid hkp
      have HB1 := hid hb2
      rw [show ((32 : Nat) : Int) = 32 from rfl]
      clear hj hlt hb1 hr hkp
      go_wp2_with (first
        | refine wpList_load_row rfl 24 _ rfl (w.heap.size + 1) rfl _ _ _ _ hb2 Tryd.underlying24 rfl hKi ?_
        | (refine wpList_store_all rfl 24 _ _ rfl w.heap.size _ rfl rfl _ _ hb0 32 Tryd.sizeKey hKs hZs hK1 ?_; intro w9 hg9 hk9))
      refine bodyPost_ret (results_cell_row rfl _ _ w.heap.size _ _ _ _ rfl hg9 Tryd.underlying24 rfl hKi) rfl ⟨by rw [HW.out], ?_, ?_⟩
      · rw [← (kj_all l c).1, ← (kj_all l c).2]
        exact HRR.out.far hk9 HLT.out
      · exact HKP.out.transNew hk9 (Nat.le_refl _)
theorem RKey_any (rr H : Nat) (bs l : List UInt8) (c : Int) (w : World) (h : Rf w rr H bs l c) :
    Calls Tryd.prog 46 #[.pointer (some ⟨rr, 0, none⟩)] w fun e w' => e = .returned (keyW (kyV l c)) ∧ Rf w' rr H bs (kyL l c) (kyE l c) ∧ Keep (· = rr) w w' := by
  obtain ⟨K, hK⟩ : ∃ K, (kyV l c).1 = K := ⟨_, rfl⟩
  have hKl : K.length = 32 := by rw [← hK, (kyV l c).2]
  have HW := hid (show keyW (kyV l c) = .agg (Lib.byteCells K).toArray by rw [keyW, keyC, hK])
  have HS := hid (fun j hj => kj_step j hj l c)
  have HJ0 := hid (kj_zero l c)
  rw [hK] at HS
  have hlt0 : rr < w.heap.size := (let ⟨_, _, h1, _⟩ := h.ex; lt_of_block h1)
  have HLT := hid hlt0
  have HH := hid (show H ≤ w.heap.size by obtain ⟨_, _, h1, _, h2, _⟩ := h.ex; have := lt_of_block h1; have := h2.2; omega)
  have HKL := hid hKl
  have HR := hid h
  have hib : 0 < 32 := by omega
  obtain ⟨Z, hZ⟩ : ∃ Z : List UInt8, Z = List.replicate 32 0 := ⟨_, rfl⟩
  have HZ := hid hZ
  clear hZ hK hKl h hlt0
  go_enter Tryd.func46, Tryd.ntmps46
  go_wp2
  go_loopw [4] (fun i wr => ∃ j : Nat, j ≤ 32 ∧ i = .int .i64 (j : Int) ∧ Rf wr rr H bs (kjL j l c) (kjE j l c) ∧ wr.heap[w.heap.size]? = some (.cells (Lib.byteCells Z).toArray 24 (0, 0)) ∧ wr.heap[w.heap.size + 1]? = some (.cells (Lib.byteCells (K.take j ++ List.replicate (32 - j) 0)).toArray 24 (0, 0)) ∧ Keep (· = rr) w wr) (fun i _ => 32 - (intOf i).toNat)
  case atStart =>
    refine ⟨0, by omega, rfl, ?_, ?_, ?_, ((Keep.refl _ w).alloc _).alloc _⟩
    · rw [HJ0.out.1, HJ0.out.2]
      exact HR.out.old (((Below.refl _ w).alloc (Nat.le_refl _) _).alloc (by simp) _)
    · rw [HZ.out]
      exact heap_alloc2_old w _ _
    · exact heap_alloc2_new w _ _
  case round =>
    obtain ⟨j, hj, rfl, hr, hb0, hb1, hkp⟩ := hrel
    have hsz := hkp.size
    by_cases hlt : j < 32
    · obtain ⟨x, hx, hn, hl, he⟩ := HS.out j hlt
      have hx256 := x.toNat_lt
      have j1 : (j : Int) < 32 := by omega
      have j0 : (0 : Int) ≤ (j : Int) := Int.natCast_nonneg _
      have hwx : IntKind.u8.wrap (x.toNat : Int) = (x.toNat : Int) := by rw [IntKind.wrap_u8']; omega
      have hwx2 : (x.toNat : Int) % 256 = (x.toNat : Int) := by omega
      have HX := hid hx
      have HN := hid hn
      have HL := hid hl
      have HE := hid he
      have HB0 := hid hb0
      have HB1 := hid hb1
      have HKP := hid hkp
      clear hx hn hl he hb0 hb1 hkp hx256
      go_wp2_with fail
      refine (FNum_all rr H bs _ _ 1 _ hr).mono ?_
      rw [show heldN 1 = 1 from rfl, HN.out, HL.out, HE.out]
      rintro e w1 ⟨rfl, hr1, hk1⟩
      have hlt1 := HLT.out
      have hb01 := (hk1.block _ (lt_of_block HB0.out) (by show ¬ w.heap.size = rr; omega)).trans HB0.out
      have hb11 := (hk1.block _ (lt_of_block HB1.out) (by show ¬ w.heap.size + 1 = rr; omega)).trans HB1.out
      have hc0 : w1.cell? ⟨w.heap.size + 1, j, none⟩ = some (.int .u8 (((0 : UInt8).toNat : Nat) : Int)) := blk8_at hb11 (by rw [List.getElem?_append_right (by rw [List.length_take]; omega), List.length_take, List.getElem?_replicate, if_pos (by rw [HKL.out]; omega)])
      have hf0 := blk_free (i := j) hb11
      have hnew := blk8_set hb11 j x
      rw [fill_set K 0 32 j HX.out hlt] at hnew
      have hold := (Below.heap_setCell w1 ⟨w.heap.size + 1, j, none⟩ (.int .u8 (x.toNat : Int)) w.heap.size (by show ¬ w.heap.size = w.heap.size + 1; omega)).trans hb01
      have HN2 := hid hnew
      have HO := hid hold
      have HR1 := hid (hr1.far ((Keep.refl (· = w.heap.size + 1) w1).setCell (p := ⟨w.heap.size + 1, j, none⟩) rfl (.int .u8 (x.toNat : Int))) (by have := HH.out; omega) (by omega))
      have HK1 := hid ((HKP.out.trans hk1).setNew (p := ⟨w.heap.size + 1, j, none⟩) (by show _ ≤ w.heap.size + 1; omega) (.int .u8 (x.toNat : Int)))
      clear hb01 hb11 hnew hold hr1 hk1 hlt1
      go_wp2
      go_roundw
      case rel => exact ⟨j + 1, by omega, by go_num, HR1.out, HO.out, HN2.out, HK1.out⟩
      case measure => simp [intOf]; omega
    · obtain rfl : j = 32 := by omega
      have hb2 : wr.heap[w.heap.size + 1]? = some (.cells (Lib.byteCells K).toArray 24 (0, 0)) := by
        rw [hb1, List.take_of_length_le (by rw [HKL.out]; omega), Nat.sub_self, List.replicate_zero, List.append_nil]
      have hKs : (Lib.byteCells K).toArray.size = 32 := by rw [List.size_toArray, Lib.byteCells_length, HKL.out]
      have hKi : (Tryd.prog.info? 24).map (·.size) = some (Lib.byteCells K).toArray.size := by rw [hKs, Tryd.sizeKey]
      have hZs : (Lib.byteCells Z).toArray.size = 32 := by rw [List.size_toArray, Lib.byteCells_length, HZ.out, List.length_replicate]
      have hK1 := key_one K
      have HRR := hid hr
      have HKP := hid hkp
      have HB1 := hid hb2
      rw [show ((32 : Nat) : Int) = 32 from rfl]
      clear hj hlt hb1 hr hkp
      go_wp2_with (first
        | refine wpList_load_row rfl 24 _ rfl (w.heap.size + 1) rfl _ _ _ _ hb2 Tryd.underlying24 rfl hKi ?_
        | (refine wpList_store_all rfl 24 _ _ rfl w.heap.size _ rfl rfl _ _ hb0 32 Tryd.sizeKey hKs hZs hK1 ?_; intro w9 hg9 hk9))
      refine bodyPost_ret (results_cell_row rfl _ _ w.heap.size _ _ _ _ rfl hg9 Tryd.underlying24 rfl hKi) rfl ⟨by rw [HW.out], ?_, ?_⟩
      · rw [← (kj_all l c).1, ← (kj_all l c).2]
        exact HRR.out.far hk9 HH.out (by have := HLT.out; omega)
      · exact HKP.out.transNew hk9 (Nat.le_refl _)
end
end Go.Proofs.YtbcpfakdmnccmaaDoor

namespace Go.Proofs.YtbcpfakdmnccmaaDoor
open Go.RowKit

theorem low_num : ∀ xs : List UInt8, lowBytes (numOf xs) xs.length = xs
  | [] => rfl
  | x :: xs => by
    have hx := x.toNat_lt
    have e1 : UInt8.ofNat (x.toNat + 256 * numOf xs) = x := by
      apply UInt8.toNat_inj.1
      rw [UInt8.toNat_ofNat']
      omega
    have e2 : (x.toNat + 256 * numOf xs) / 256 = numOf xs := by omega
    rw [List.length_cons, numOf, lowBytes, e1, e2, low_num xs]
theorem low_num' {xs : List UInt8} {n : Nat} (h : xs.length = n) : lowBytes (numOf xs) n = xs := by
  subst h
  exact low_num xs
theorem stE_zero {h : Nat} {l : List UInt8} {c : Int} (e : stE h l c = 0) : c = 0 ∧ h ≤ l.length := by
  unfold stE at e
  by_cases hc : c = 0
  · subst hc
    by_cases hl : l.length < h
    · simp [hl] at e
    · exact ⟨rfl, by omega⟩
  · simp [hc] at e
theorem st_inv {h : Nat} {l : List UInt8} {c : Int} (e : stE h l c = 0) : c = 0 ∧ l = stV h l c ++ stL h l c ∧ (stV h l c).length = h ∧ stV h l c = l.take h := by
  obtain ⟨rfl, hl⟩ := stE_zero e
  obtain ⟨e1, e2, e3⟩ := st_ok hl
  rw [e1, e2, List.take_append_drop, List.length_take]
  exact ⟨rfl, rfl, by omega, rfl⟩
theorem int_low {m n : Nat} (hm : m + 1 = n) (hn : n < 4294967296) : intBytes (m : Int) = lowBytes n 4 := by
  unfold intBytes
  rw [incr_in (by omega) (by omega), show ((m : Int) + 1).toNat = n by omega]
theorem txt_inv {l : List UInt8} {c : Int} (e : txE l c = 0) : c = 0 ∧ l = intBytes (txV l c).length ++ txV l c ++ txL l c := by
  unfold txE at e
  by_cases hn : intV l c < 0
  · simp [hn] at e
  · rw [if_neg hn] at e
    obtain ⟨e4, h1, h2, h3⟩ := st_inv e
    obtain ⟨rfl, g1, g2, g3⟩ := st_inv e4
    have hi := intV_ok e4
    have hv : txV l 0 = stV (intV l 0).toNat (stL 4 l 0) (stE 4 l 0) := by unfold txV; rw [if_neg hn]
    have hl : txL l 0 = stL (intV l 0).toNat (stL 4 l 0) (stE 4 l 0) := by unfold txL; rw [if_neg hn]
    refine ⟨rfl, ?_⟩
    have hlt := stV_lt 4 l 0
    have h256 : (2 : Nat) ^ (8 * 4) = 4294967296 := by decide
    rw [h256] at hlt
    have hlen : (txV l 0).length + 1 = numOf (stV 4 l 0) := by rw [hv, h2]; omega
    rw [int_low hlen hlt, low_num' g2, List.append_assoc, hv, hl, ← h1]
    exact g1
theorem txt_bad {l : List UInt8} {c : Int} (hc : c ≠ 0) : txE l c ≠ 0 := fun e => hc (txt_inv e).1
theorem bool_inv {l : List UInt8} {c : Int} (e : blE l c = 0) : c = 0 ∧ l = b01 (blV l c) :: blL l c := by
  unfold blE at e
  by_cases hx : 1 < blX l c
  · simp [hx] at e
  · rw [if_neg hx] at e
    obtain ⟨rfl, h1, h2, h3⟩ := st_inv e
    refine ⟨rfl, ?_⟩
    have hl : blL l 0 = stL 1 l 0 := by unfold blL; rw [if_neg hx]
    rw [hl]
    have hv : blV l 0 = (blX l 0 == 1) := rfl
    rw [hv]
    unfold blX at hx ⊢
    match hs : stV 1 l 0, h2 with
    | [x], _ =>
      rw [hs] at hx h1
      have hxn : numOf [x] = x.toNat := by simp [numOf]
      rw [hxn] at hx ⊢
      have : b01 (x.toNat == 1) = x := by
        rcases (show x.toNat = 0 ∨ x.toNat = 1 by omega) with h | h
        · rw [h]
          exact (UInt8.toNat_inj.1 (by rw [h]; rfl)).symm
        · rw [h]
          exact (UInt8.toNat_inj.1 (by rw [h]; rfl)).symm
      rw [this]
      exact h1
theorem ky_inv {l : List UInt8} {c : Int} (e : kyE l c = 0) : c = 0 ∧ l = (kyV l c).1 ++ kyL l c := by
  unfold kyE at e
  by_cases hc : c = 0
  · subst hc
    by_cases hl : l.length < 32
    · simp [hl] at e
    · refine ⟨rfl, ?_⟩
      show l = (l ++ List.replicate 32 0).take 32 ++ l.drop 32
      rw [List.take_append_of_le_length (by omega), List.take_append_drop]
  · simp [hc] at e
theorem en_inv {l : List UInt8} {c : Int} (e : enE l c = 0) : c = 0 ∧ l = entB (enV l c) ++ enL l c := by
  obtain ⟨e1, h1⟩ := ky_inv e
  obtain ⟨e2, h2⟩ := bool_inv e1
  obtain ⟨e3, h3⟩ := txt_inv e2
  refine ⟨e3, ?_⟩
  have h4 : entB (enV l c) ++ enL l c = (intBytes (txV l c).length ++ txV l c) ++ (b01 (blV (txL l c) (txE l c)) :: ((kyV (eL1 l c) (eE1 l c)).1 ++ kyL (eL1 l c) (eE1 l c))) := by
    simp [entB, enV, enL]
  rw [h4, ← h1]
  show l = (intBytes (txV l c).length ++ txV l c) ++ (b01 (blV (txL l c) (txE l c)) :: blL (txL l c) (txE l c))
  rw [← h2]
  exact h3
theorem entB_len (f : EntS) : (entB f).length = f.1.length + 37 := by
  simp only [entB, List.length_append, intBytes_length, List.length_singleton, f.2.2.2]
  omega
theorem ens_inv : ∀ (n : Nat) (l : List UInt8) (c : Int), (ensR n l c).2.2 = 0 → c = 0 ∧ l = entsB (ensR n l c).1 ++ (ensR n l c).2.1 ∧ (ensR n l c).1.length = n
  | 0, l, c, h => ⟨h, rfl, rfl⟩
  | n + 1, l, c, h => by
    rw [ensR] at h ⊢
    by_cases hc : c = 0
    · rw [if_neg (by simp [hc])] at h ⊢
      obtain ⟨h1, h2, h3⟩ := ens_inv n _ _ h
      obtain ⟨h4, h5⟩ := en_inv h1
      refine ⟨hc, ?_, by simp [h3]⟩
      show l = entsB (enV l c :: _) ++ _
      rw [entsB, List.flatMap_cons, List.append_assoc, ← entsB, ← h2]
      exact h5
    · rw [if_pos hc] at h
      exact absurd h hc
/-! ### Forward -/
theorem txt_app {p r : List UInt8} (hp : p.length ≤ 4294967294) : txV (intBytes p.length ++ p ++ r) 0 = p ∧ txL (intBytes p.length ++ p ++ r) 0 = r ∧ txE (intBytes p.length ++ p ++ r) 0 = 0 := by
  rw [List.append_assoc]
  have hi := intV_app (n := (p.length : Int)) (r := p ++ r) (by omega) (by omega)
  obtain ⟨e1, e2⟩ := int_app (p.length : Int) (p ++ r)
  obtain ⟨f1, f2, f3⟩ := st_app (r := r) (rfl : p.length = p.length)
  have hn : ¬ ((p.length : Int) < 0) := by omega
  unfold txV txL txE
  rw [hi, e1, e2, if_neg hn, if_neg hn, if_neg hn, Int.toNat_natCast, f1, f2, f3]
  exact ⟨rfl, rfl, rfl⟩
theorem ky_app (k : KeyS) (r : List UInt8) : kyV (k.1 ++ r) 0 = k ∧ kyL (k.1 ++ r) 0 = r ∧ kyE (k.1 ++ r) 0 = 0 := by
  have hk := k.2
  refine ⟨Subtype.ext ?_, ?_, ?_⟩
  · show ((k.1 ++ r) ++ List.replicate 32 0).take 32 = k.1
    rw [List.append_assoc]
    exact List.take_left' hk
  · show (k.1 ++ r).drop 32 = r
    exact List.drop_left' hk
  · unfold kyE
    rw [if_neg (by simp), if_neg (by rw [List.length_append]; omega)]
theorem en_app {f : EntS} (hp : f.1.length ≤ 4294967294) (r : List UInt8) : enV (entB f ++ r) 0 = f ∧ enL (entB f ++ r) 0 = r ∧ enE (entB f ++ r) 0 = 0 := by
  obtain ⟨p, x, k⟩ := f
  have h4 : entB (p, x, k) ++ r = intBytes p.length ++ p ++ (b01 x :: (k.1 ++ r)) := by simp [entB]
  obtain ⟨t1, t2, t3⟩ := txt_app (r := b01 x :: (k.1 ++ r)) hp
  obtain ⟨b1, b2, b3⟩ := bool_app x (k.1 ++ r)
  obtain ⟨k1, k2, k3⟩ := ky_app k r
  rw [h4]
  unfold enV enL enE eL1 eE1
  rw [t1, t2, t3]
  unfold b01
  rw [b1, b2, b3, k1, k2, k3]
  exact ⟨rfl, rfl, rfl⟩
theorem ens_app : ∀ (l : List EntS) (r : List UInt8), (∀ f ∈ l, f.1.length ≤ 4294967294) → ensR l.length (entsB l ++ r) 0 = (l, r, 0)
  | [], r, _ => rfl
  | f :: l, r, h => by
    obtain ⟨e1, e2, e3⟩ := en_app (h f (by simp)) (entsB l ++ r)
    rw [List.length_cons, ensR, if_neg (by simp)]
    rw [show entsB (f :: l) ++ r = entB f ++ (entsB l ++ r) by simp [entsB]]
    simp only [e1, e2, e3]
    rw [ens_app l r fun g hg => h g (by simp [hg])]
/-! ### Trees -/
theorem kind_head {b : List UInt8} {k : Nat} (h : kindS b = k) (hk : k ≠ 0) : b = UInt8.ofNat k :: b.drop 1 := by
  cases b with
  | nil => exact absurd h.symm hk
  | cons x r =>
    have h2 : (if 1 ≤ x.toNat ∧ x.toNat ≤ 3 then x.toNat else 0) = k := h
    by_cases hx : 1 ≤ x.toNat ∧ x.toNat ≤ 3
    · rw [if_pos hx] at h2
      subst h2
      simp
    · rw [if_neg hx] at h2
      exact absurd h2.symm hk
theorem okEnts_right : ∀ (l pre : List EntS), okEnts pre l = true → ∀ f ∈ l, rightS f.1 = true
  | [], _, _, f, hf => by cases hf
  | g :: l, pre, h, f, hf => by
    rw [okEnts, Bool.and_eq_true] at h
    rcases List.mem_cons.1 hf with rfl | hf
    · unfold okEnt at h
      rw [Bool.and_eq_true] at h
      exact h.1.1
    · exact okEnts_right l _ h.2 f hf
theorem entsR_len {l : List EntS} (h : entsR l = true) : l.length ≤ 100 ∧ ∀ f ∈ l, f.1.length ≤ 100 := by
  unfold entsR at h
  rw [Bool.and_eq_true, decide_eq_true_eq] at h
  refine ⟨h.1, fun f hf => ?_⟩
  have := okEnts_right l [] h.2 f hf
  unfold rightS at this
  simp only [Bool.and_eq_true, decide_eq_true_eq] at this
  exact this.1.2
theorem tree_read {l : List EntS} (h : entsR l = true) (r : List UInt8) : kindS (treeB l ++ r) = 2 ∧ ensR (numOf (stV 4 ((treeB l ++ r).drop 1) 0)) (stL 4 ((treeB l ++ r).drop 1) 0) (stE 4 ((treeB l ++ r).drop 1) 0) = (l, r, 0) := by
  obtain ⟨h1, h2⟩ := entsR_len h
  have hd : (treeB l ++ r).drop 1 = lowBytes l.length 4 ++ (entsB l ++ r) := by simp [treeB]
  obtain ⟨e1, e2, e3⟩ := st_app (r := entsB l ++ r) (lowBytes_length l.length 4)
  refine ⟨by simp [treeB, kindS], ?_⟩
  rw [hd, e1, e2, e3, numOf_lowBytes, Nat.mod_eq_of_lt (Nat.lt_of_le_of_lt h1 (by decide))]
  exact ens_app l r fun f hf => Nat.le_trans (h2 f hf) (by decide)
theorem take_tree {l : List EntS} (h : entsR l = true) : takeTreeS (treeB l) = (l, 0) := by
  obtain ⟨h1, h2⟩ := tree_read h []
  rw [List.append_nil] at h1 h2
  unfold takeTreeS
  rw [if_neg (by simp [h1])]
  simp only [h2]
  rw [if_neg (by simp), if_neg (by simp), if_pos h]
theorem take_more {l : List EntS} (h : entsR l = true) (x : UInt8) : (takeTreeS (treeB l ++ [x])).2 ≠ 0 := by
  obtain ⟨h1, h2⟩ := tree_read h [x]
  unfold takeTreeS
  rw [if_neg (by simp [h1])]
  simp only [h2]
  rw [if_neg (by simp), if_pos (by simp)]
  simp
theorem take_inv {b : List UInt8} (h : (takeTreeS b).2 = 0) : entsR (takeTreeS b).1 = true ∧ b = treeB (takeTreeS b).1 := by
  unfold takeTreeS at h ⊢
  by_cases hk : kindS b = 2
  · rw [if_neg (by simp [hk])] at h ⊢
    simp only at h ⊢
    obtain ⟨R, hR⟩ : ∃ R, ensR (numOf (stV 4 (b.drop 1) 0)) (stL 4 (b.drop 1) 0) (stE 4 (b.drop 1) 0) = R := ⟨_, rfl⟩
    have hi := ens_inv (numOf (stV 4 (b.drop 1) 0)) (stL 4 (b.drop 1) 0) (stE 4 (b.drop 1) 0)
    rw [hR] at h hi ⊢
    by_cases h1 : R.2.2 = 0
    · rw [if_neg (by simp [h1])] at h ⊢
      by_cases h2 : R.2.1 = []
      · rw [if_neg (by simp [h2])] at h ⊢
        by_cases h3 : entsR R.1 = true
        · rw [if_pos h3] at h ⊢
          refine ⟨h3, ?_⟩
          obtain ⟨g1, g2, g3⟩ := hi h1
          obtain ⟨f1, f2, f3, _⟩ := st_inv g1
          have hb := kind_head hk (by decide)
          rw [h2, List.append_nil] at g2
          show b = treeB R.1
          rw [treeB, g3, low_num' f3, ← g2, List.append_assoc, ← f2]
          exact hb
        · rw [if_neg h3] at h
          simp at h
      · rw [if_pos h2] at h
        simp at h
    · rw [if_pos h1] at h
      exact absurd h h1
  · rw [if_pos hk] at h
    simp at h
theorem take_less {l : List EntS} (h : entsR l = true) : (takeTreeS ((treeB l).take ((treeB l).length - 1))).2 ≠ 0 := by
  intro e
  obtain ⟨h1, h2⟩ := take_inv e
  have hne : treeB l ≠ [] := by simp [treeB]
  have hd := List.dropLast_concat_getLast hne
  rw [List.dropLast_eq_take, h2] at hd
  have := take_more h1 ((treeB l).getLast hne)
  rw [hd, take_tree h] at this
  exact this rfl
/-- the document's own way: written again, it is the same -/
theorem take_again (b : List UInt8) (hk : kindS b = 2) {R : List EntS × List UInt8 × Int} (hR : ensR (numOf (stV 4 (b.drop 1) 0)) (stL 4 (b.drop 1) 0) (stE 4 (b.drop 1) 0) = R) :
    takeTreeS b = if R.2.2 ≠ 0 then ([], R.2.2) else if (treeW R.1).2 ≠ 0 then ([], 5) else if (treeW R.1).1 = b then (R.1, 0) else ([], 5) := by
  have hi := ens_inv (numOf (stV 4 (b.drop 1) 0)) (stL 4 (b.drop 1) 0) (stE 4 (b.drop 1) 0)
  unfold takeTreeS
  rw [if_neg (by simp [hk])]
  simp only
  rw [hR] at hi ⊢
  by_cases h1 : R.2.2 = 0
  · obtain ⟨g1, g2, g3⟩ := hi h1
    obtain ⟨f1, f2, f3, _⟩ := st_inv g1
    have hb := kind_head hk (by decide)
    have hbb : b = treeB R.1 ++ R.2.1 := by
      rw [treeB, g3, low_num' f3, List.append_assoc, List.append_assoc, ← g2, ← f2]
      exact hb
    simp only [h1, ne_eq, not_true_eq_false, if_false, treeW]
    by_cases h3 : entsR R.1 = true
    · by_cases h2 : R.2.1 = []
      · rw [h2, List.append_nil] at hbb
        simp only [h2, h3, not_true_eq_false, if_false, if_true]
        rw [if_pos hbb.symm]
      · simp only [h2, h3, not_true_eq_false, not_false_eq_true, if_false, if_true]
        rw [if_neg]
        intro e
        rw [e] at hbb
        exact h2 (List.self_eq_append_right.1 hbb)
    · by_cases h2 : R.2.1 = [] <;> simp [h2, h3]
  · simp [h1]
/-! ### Commits -/
theorem com_inv {l : List UInt8} (e : coE l = 0) : [3] ++ l = comB (coV l) ++ coL l ∧ (coV l).2.2.2.2 < 18446744073709551616 := by
  obtain ⟨e4, h5, h5l, _⟩ := st_inv e
  obtain ⟨e3, h4⟩ := txt_inv e4
  obtain ⟨e2, h3⟩ := ky_inv e3
  obtain ⟨e1, h2⟩ := ky_inv e2
  obtain ⟨_, h1⟩ := bool_inv e1
  refine ⟨?_, ?_⟩
  · have : comB (coV l) ++ coL l = [3] ++ (b01 (blV l 0) :: ((kyV (coL1 l) (coE1 l)).1 ++ ((kyV (coL2 l) (coE2 l)).1 ++ (intBytes (txV (coL3 l) (coE3 l)).length ++ txV (coL3 l) (coE3 l) ++ (lowBytes (numOf (stV 8 (coL4 l) (coE4 l))) 8 ++ stL 8 (coL4 l) (coE4 l)))))) := by
      simp [comB, coV, coL]
    have h8 := low_num (stV 8 (coL4 l) (coE4 l))
    rw [h5l] at h8
    rw [this, h8, ← h5]
    have g4 : intBytes (txV (coL3 l) (coE3 l)).length ++ txV (coL3 l) (coE3 l) ++ coL4 l = coL3 l := h4.symm
    have g3 : (kyV (coL2 l) (coE2 l)).1 ++ coL3 l = coL2 l := h3.symm
    have g2 : (kyV (coL1 l) (coE1 l)).1 ++ coL2 l = coL1 l := h2.symm
    have g1 : b01 (blV l 0) :: coL1 l = l := h1.symm
    rw [g4, g3, g2, g1]
  · have := stV_lt 8 (coL4 l) (coE4 l)
    exact this
theorem com_app {c : ComS} (hm : c.2.2.2.1.length ≤ 4294967294) (hs : c.2.2.2.2 < 18446744073709551616) (r : List UInt8) : kindS (comB c ++ r) = 3 ∧ coV ((comB c ++ r).drop 1) = c ∧ coL ((comB c ++ r).drop 1) = r ∧ coE ((comB c ++ r).drop 1) = 0 := by
  obtain ⟨x, k, k', m, s⟩ := c
  refine ⟨by simp [comB, kindS], ?_⟩
  have hd : (comB (x, k, k', m, s) ++ r).drop 1 = b01 x :: (k.1 ++ (k'.1 ++ (intBytes m.length ++ m ++ (lowBytes s 8 ++ r)))) := by simp [comB]
  obtain ⟨b1, b2, b3⟩ := bool_app x (k.1 ++ (k'.1 ++ (intBytes m.length ++ m ++ (lowBytes s 8 ++ r))))
  obtain ⟨k1, k2, k3⟩ := ky_app k (k'.1 ++ (intBytes m.length ++ m ++ (lowBytes s 8 ++ r)))
  obtain ⟨l1, l2, l3⟩ := ky_app k' (intBytes m.length ++ m ++ (lowBytes s 8 ++ r))
  obtain ⟨t1, t2, t3⟩ := txt_app (r := lowBytes s 8 ++ r) hm
  obtain ⟨n1, n2, n3⟩ := st_app (r := r) (lowBytes_length s 8)
  rw [hd]
  unfold coV coL coE coL4 coE4 coL3 coE3 coL2 coE2 coL1 coE1
  unfold b01
  rw [b1, b2, b3, k1, k2, k3, l1, l2, l3, t1, t2, t3, n1, n2, n3, numOf_lowBytes, Nat.mod_eq_of_lt (by simpa using hs)]
  exact ⟨rfl, rfl, rfl⟩
theorem comE_len {c : ComS} (h : comE c = 0) : c.2.2.2.1.length ≤ 1000 := by
  unfold comE at h
  by_cases h1 : 1000 < c.2.2.2.1.length
  · rw [if_pos h1] at h
    simp at h
  · omega
theorem take_com {c : ComS} (h : comE c = 0) (hs : c.2.2.2.2 < 18446744073709551616) : takeComS (comB c) = (c, 0) := by
  have hm := comE_len h
  obtain ⟨h1, h2, h3, h4⟩ := com_app (c := c) (by omega) hs []
  rw [List.append_nil] at h1 h2 h3 h4
  unfold takeComS
  rw [if_neg (by simp [h1])]
  simp only [h2, h3, h4]
  rw [if_neg (by simp), if_neg (by simp), if_neg (by simp [h])]
theorem com_more {c : ComS} (h : comE c = 0) (hs : c.2.2.2.2 < 18446744073709551616) (x : UInt8) : (takeComS (comB c ++ [x])).2 ≠ 0 := by
  have hm := comE_len h
  obtain ⟨h1, h2, h3, h4⟩ := com_app (c := c) (by omega) hs [x]
  unfold takeComS
  rw [if_neg (by simp [h1])]
  simp only [h2, h3, h4]
  rw [if_neg (by simp), if_pos (by simp)]
  simp
theorem com_again (b : List UInt8) (hk : kindS b = 3) :
    takeComS b = if coE (b.drop 1) ≠ 0 then (comZ, coE (b.drop 1)) else if (comW (coV (b.drop 1))).2 ≠ 0 then (comZ, 5) else if (comW (coV (b.drop 1))).1 = b then (coV (b.drop 1), 0) else (comZ, 5) := by
  unfold takeComS
  rw [if_neg (by simp [hk])]
  simp only
  have hb := kind_head hk (by decide)
  obtain ⟨l, hl⟩ : ∃ l, b.drop 1 = l := ⟨_, rfl⟩
  rw [hl] at hb ⊢
  by_cases h1 : coE l = 0
  · have hbb : b = comB (coV l) ++ coL l := hb.trans (com_inv h1).1
    simp only [h1, ne_eq, not_true_eq_false, if_false, comW]
    by_cases h3 : comE (coV l) = 0
    · by_cases h2 : coL l = []
      · rw [h2, List.append_nil] at hbb
        simp only [h2, h3, not_true_eq_false, if_false, if_true]
        rw [if_pos hbb.symm]
      · simp only [h2, h3, not_true_eq_false, not_false_eq_true, if_false, if_true]
        rw [if_neg]
        intro e
        rw [e] at hbb
        exact h2 (List.self_eq_append_right.1 hbb)
    · by_cases h2 : coL l = [] <;> simp [h2, h3]
  · simp [h1]
end Go.Proofs.YtbcpfakdmnccmaaDoor

namespace Go.Proofs.YtbcpfakdmnccmaaDoor
open Go.RowKit

theorem Keep.transBelow {S : Nat → Prop} {a b c : World} (h : Keep S a b) (k : Below a.heap.size b c) : Keep S a c :=
  ⟨k.os.trans h.os, k.tape.trans h.tape, k.output.trans h.output, Nat.le_trans h.size k.size, fun i hi hs => (k.block i hi).trans (h.block i hi hs)⟩
theorem Rd.below {w w' : World} {br B : Nat} {l : List UInt8} {e : Int} (h : Rd w br l e) (hk : Below B w w') (hb : br < B) : Rd w' br l e := by
  obtain ⟨v, h1, h2, h3⟩ := h.ex
  exact ⟨v, (hk.block br hb).trans h1, h2.kept (fun a n c e _ => hk.block _ (Nat.lt_trans (h3 a n c e) hb)), h3⟩
theorem en_less {l : List UInt8} (h : enE l 0 = 0) : (enL l 0).length + 1 ≤ l.length := by
  have h2 := congrArg List.length (en_inv h).2
  rw [List.length_append, entB_len] at h2
  omega
theorem ens_go (m : Nat) (l : List UInt8) : ensR (m + 1) l 0 = (enV l 0 :: (ensR m (enL l 0) (enE l 0)).1, (ensR m (enL l 0) (enE l 0)).2) := by
  rw [ensR, if_neg (by simp)]
theorem ens_end (l : List UInt8) (c : Int) : ensR 0 l c = ([], l, c) := rfl
theorem ens_bad {m : Nat} {l : List UInt8} {c : Int} (hc : c ≠ 0) : ensR m l c = ([], l, c) := by
  cases m with
  | zero => rfl
  | succ m => rw [ensR, if_pos hc]
section
set_option maxRecDepth 100000
set_option maxHeartbeats 4000000
theorem DEntries_any (br : Nat) (l : List UInt8) (w : World) (h : Rd w br l 0) (hl : l.length ≤ 1000000) :
    Calls Tryd.prog 41 #[.pointer (some ⟨br, 0, none⟩)] w fun e w' => ∃ v, e = .returned v ∧ OwnEnt w' w.heap.size v (ensR (numOf (stV 4 l 0)) (stL 4 l 0) (stE 4 l 0)).1 ∧ Rd w' br (ensR (numOf (stV 4 l 0)) (stL 4 l 0) (stE 4 l 0)).2.1 (ensR (numOf (stV 4 l 0)) (stL 4 l 0) (stE 4 l 0)).2.2 ∧ Keep (· = br) w w' := by
  obtain ⟨R, hR⟩ : ∃ R, ensR (numOf (stV 4 l 0)) (stL 4 l 0) (stE 4 l 0) = R := ⟨_, rfl⟩
  have hn := stV_lt 4 l 0
  have hll : (stL 4 l 0).length ≤ l.length := by
    unfold stL
    split
    · exact Nat.le_refl _
    · split
      · simp
      · simp
  have hbr : br < w.heap.size := by obtain ⟨_, h1, _⟩ := h.ex; exact lt_of_block h1
  have HBR := hid hbr
  rw [show (2 : Nat) ^ (8 * 4) = 4294967296 by decide] at hn
  rw [hR]
  go_enter Tryd.func41, Tryd.ntmps41
  go_wp2_with fail
  refine (Num_all br l 0 4 w h).mono ?_
  rw [show heldN 4 = 4 from rfl]
  rintro e w1 ⟨rfl, hr1, hk1⟩
  generalize numOf (stV 4 l 0) = n at *
  generalize stL 4 l 0 = l4 at *
  generalize stE 4 l 0 = c4 at *
  have HR := hid hR
  have HLL := hid hll
  have HL := hid hl
  have HN := hid hn
  have HR1 := hid hr1
  have HK1 := hid hk1
  clear hR hll hl hn hr1 hk1 h hbr
  go_wp2_with fail
  go_loopg [3, 7] n (fun g v i wr => ∃ (k : Nat) (X : List EntS) (lk : List UInt8) (ck : Int), k ≤ n ∧ n - k = g ∧ i = .int .u64 (k : Nat) ∧ Hid (OwnEnt wr w.heap.size v X) ∧ Hid (Rd wr br lk ck) ∧ Hid (R = (X ++ (ensR (n - k) lk ck).1, (ensR (n - k) lk ck).2)) ∧ Hid (ck = 0 → X.length + lk.length ≤ l4.length) ∧ Hid (Keep (· = br) w wr))
  case atStart => exact ⟨0, [], l4, c4, Nat.zero_le _, rfl, rfl, hid (World.ownsRow_nil _ _ _ _), HR1, hid (by rw [← HR.out]; rfl), hid (fun _ => by simp), HK1⟩
  case round =>
    obtain ⟨k, X, lk, ck, hk, rfl, rfl, HO, HD, HX, HB, HK⟩ := hrel
    obtain ⟨no, nc, rfl⟩ := owns_form HO.out
    have hn := HN.out
    have k0 : (0 : Int) ≤ (k : Int) := Int.natCast_nonneg _
    by_cases hlt : k < n
    · have k1 : (k : Int) < (n : Int) := by omega
      have kw : IntKind.u64.wrap ((k : Int) + 1) = (k : Int) + 1 := by rw [IntKind.wrap_u64]; omega
      have kw2 : ((k : Int) + 1) % 18446744073709551616 = (k : Int) + 1 := by omega
      obtain ⟨m, hm⟩ : ∃ m, n - k = m + 1 := ⟨n - k - 1, by omega⟩
      have HM := hid (show n - (k + 1) = m by omega)
      by_cases hc : ck = 0
      · subst hc
        have HX2 := hid (show R = (X ++ [enV lk 0] ++ (ensR (n - (k + 1)) (enL lk 0) (enE lk 0)).1, (ensR (n - (k + 1)) (enL lk 0) (enE lk 0)).2) by rw [HM.out, HX.out, hm, ens_go]; simp)
        have HB2 := hid (show enE lk 0 = 0 → (X ++ [enV lk 0]).length + (enL lk 0).length ≤ l4.length from fun he => by
          have h1 := en_less he
          have h2 := HB.out rfl
          rw [List.length_append, List.length_singleton]
          omega)
        have HXL := hid (show X.length ≤ 100000000 by have h1 := HB.out rfl; have h2 := HLL.out; have h3 := HL.out; omega)
        clear hm HX hn
        go_wp2_with fail
        refine (Err_any br _ _ wr HD.out).mono ?_
        rintro e _ ⟨rfl, rfl⟩
        go_wp2_with fail
        refine (RText_all br _ _ _ HD.out).mono ?_
        rintro e w2 ⟨rfl, hr2, hk2⟩
        go_wp2_with fail
        refine (RBool_all br _ _ _ hr2).mono ?_
        rintro e w3 ⟨rfl, hr3, hk3⟩
        go_wp2_with fail
        refine (DKey_any br _ _ _ hr3).mono ?_
        rintro e w4 ⟨rfl, hr4, hk4⟩
        have hk14 := HK.out.trans ((hk2.trans hk3).trans hk4)
        have hkx := (hk2.trans hk3).trans hk4
        have hsz4 := Nat.le_trans HK.out.size hkx.size
        have HO4 := hid (show OwnEnt w4 w.heap.size (.slice no X.length nc) X from hkx.owns HO.out (fun q hq e => by
          have h1 := (HO.out.lt q hq).1
          have h2 := HBR.out
          omega))
        have HK14 := hid hk14
        have HR4 := hid (show Rd w4 br (enL lk 0) (enE lk 0) from hr4)
        obtain ⟨f, hf⟩ : ∃ f, enV lk 0 = f := ⟨_, rfl⟩
        have hf1 : txV lk 0 = f.1 := by rw [← hf]; rfl
        have hf2 : blV (txL lk 0) (txE lk 0) = f.2.1 := by rw [← hf]; rfl
        have hf3 : kyV (blL (txL lk 0) (txE lk 0)) (blE (txL lk 0) (txE lk 0)) = f.2.2 := by rw [← hf]; rfl
        rw [hf] at HX2 HB2
        rw [hf1, hf2, hf3, keyW]
        have HES := hid (show (entC f).toArray.size = 34 by rw [List.size_toArray, entC_len])
        have HEI := hid (show (Tryd.prog.info? 31).map (·.size) = some (entC f).toArray.size by rw [HES.out, Tryd.sizeEnt])
        have HEO := hid (arr_one (entC_one f))
        have HL4 := hid (show br < w4.heap.size by have h1 := HBR.out; omega)
        clear hf hf1 hf2 hf3 hk14 hkx hk2 hk3 hk4 hr2 hr3 hr4
        go_wp2_with (first
          | (refine wpList_build_ent rfl (.tmp 13) (.tmp 15) (.tmp 17) rfl f rfl rfl rfl ?_)
          | (refine wpList_store_all rfl 31 _ _ rfl w4.heap.size _ rfl rfl _ _ (heap_alloc_new w4 _) 34 Tryd.sizeEnt HES.out rfl HEO.out ?_; intro w5 hg5 hk5
             have HG5 := hid hg5
             have HK5 := hid (HK14.out.alloc (.cells (entC entZ).toArray 31) |>.transNew hk5 hsz4)
             have HO5 := hid (show OwnEnt w5 w.heap.size (.slice no X.length nc) X from hk5.owns (HO4.out.alloc _) (fun q hq e => by have h1 := (HO4.out.lt q hq).2; omega))
             have HR5 := hid ((HR4.out.old ((Below.refl _ w4).alloc (Nat.le_refl _) (.cells (entC entZ).toArray 31))).far hk5 HL4.out)
             have hsz5 : w.heap.size ≤ w5.heap.size := HK5.out.size
             clear hg5 hk5)
          | (refine wpList_load_row rfl 31 _ rfl w4.heap.size rfl _ _ _ _ HG5.out Tryd.underlying31 rfl HEI.out ?_)
          | (refine wpList_lit_ent rfl (.tmp 20) rfl f rfl ?_)
          | (at_builtin; refine wpList_append_en1 rfl (.tmp 19) (.tmp 21) rfl w.heap.size _ X f rfl HO5.out _ rfl rfl HXL.out hsz5 ?_; intro v6 w6 hO6 hb6
             obtain ⟨no6, nc6, rfl⟩ := owns_form hO6
             have HO6 := hid hO6; have HB6 := hid hb6; clear hO6 hb6))
        have HK6 := hid (HK5.out.transBelow HB6.out)
        have HR6 := hid (HR5.out.below HB6.out HBR.out)
        go_roundg (n - (k + 1))
        case measure => omega
        case rel => exact ⟨k + 1, X ++ [f], enL lk 0, enE lk 0, by omega, rfl, by go_num, (by rw [← show (X ++ [f]).length = X.length + 1 by simp]; exact HO6), HR6, HX2, HB2, HK6⟩
      · have he1 : (ck == 0) = false := by simpa using hc
        have he2 : (ck != 0) = true := by simpa using hc
        have HX2 := hid (show R = (X, lk, ck) by rw [HX.out, ens_bad hc]; simp)
        clear hc HX hm hn
        go_wp2_with fail
        refine (Err_any br _ _ wr HD.out).mono ?_
        rintro e _ ⟨rfl, rfl⟩
        go_wp2_with fail
        go_ret
        rw [HX2.out]
        exact ⟨_, rfl, HO.out, HD.out, HK.out⟩
    · obtain rfl : k = n := by omega
      have hneg : ¬ (k : Int) < (k : Int) := by omega
      have HX2 := hid (show R = (X, lk, ck) by rw [HX.out, Nat.sub_self, ens_end]; simp)
      clear HX hn
      go_wp2_with fail
      go_ret
      rw [HX2.out]
      exact ⟨_, rfl, HO.out, HD.out, HK.out⟩
theorem DCommitR_any (br : Nat) (l : List UInt8) (w : World) (h : Rd w br l 0) :
    Calls Tryd.prog 47 #[.pointer (some ⟨br, 0, none⟩)] w fun e w' => e = .returned (comV (coV l)) ∧ Rd w' br (coL l) (coE l) ∧ Keep (· = br) w w' := by
  have hbr : br < w.heap.size := by obtain ⟨_, h1, _⟩ := h.ex; exact lt_of_block h1
  have HBR := hid hbr
  have hb0 : Below w.heap.size w (w.alloc (.cells (comC comZ).toArray 27)) := (Below.refl _ w).alloc (Nat.le_refl _) _
  have HR0 := hid (h.old hb0)
  have HG0 := hid (heap_alloc_new w (.cells (comC comZ).toArray 27))
  have HK0 := hid (show Keep (· = br) w (w.alloc (.cells (comC comZ).toArray 27)) from Keep.ofBelow hb0)
  clear h hb0 hbr
  go_enter Tryd.func47, Tryd.ntmps47
  go_wp2_with fail
  refine (RBool_all br _ _ _ HR0.out).mono ?_
  rintro e w1 ⟨rfl, hr1, hk1⟩
  go_wp2_with fail
  refine (DKey_any br _ _ _ hr1).mono ?_
  rintro e w2 ⟨rfl, hr2, hk2⟩
  go_wp2_with fail
  refine (DKey_any br _ _ _ hr2).mono ?_
  rintro e w3 ⟨rfl, hr3, hk3⟩
  go_wp2_with fail
  refine (RText_all br _ _ _ hr3).mono ?_
  rintro e w4 ⟨rfl, hr4, hk4⟩
  go_wp2_with fail
  refine (Num_all br _ _ 8 _ hr4).mono ?_
  rw [show heldN 8 = 8 from rfl]
  rintro e w5 ⟨rfl, hr5, hk5⟩
  have hkx := (((hk1.trans hk2).trans hk3).trans hk4).trans hk5
  have HKX := hid (HK0.out.trans hkx)
  have HR5 := hid (show Rd w5 br (coL l) (coE l) from hr5)
  have HG5 := hid ((hkx.block _ (lt_of_block HG0.out) (by have := HBR.out; show ¬ _ = br; omega)).trans HG0.out)
  obtain ⟨c, hc⟩ : ∃ c, coV l = c := ⟨_, rfl⟩
  have h1 : blV l 0 = c.1 := by rw [← hc]; rfl
  have h2 : kyV (blL l 0) (blE l 0) = c.2.1 := by rw [← hc]; rfl
  have h3 : kyV (kyL (blL l 0) (blE l 0)) (kyE (blL l 0) (blE l 0)) = c.2.2.1 := by rw [← hc]; rfl
  have h4 : txV (kyL (kyL (blL l 0) (blE l 0)) (kyE (blL l 0) (blE l 0))) (kyE (kyL (blL l 0) (blE l 0)) (kyE (blL l 0) (blE l 0))) = c.2.2.2.1 := by rw [← hc]; rfl
  have h5 : numOf (stV 8 (txL (kyL (kyL (blL l 0) (blE l 0)) (kyE (blL l 0) (blE l 0))) (kyE (kyL (blL l 0) (blE l 0)) (kyE (blL l 0) (blE l 0)))) (txE (kyL (kyL (blL l 0) (blE l 0)) (kyE (blL l 0) (blE l 0))) (kyE (kyL (blL l 0) (blE l 0)) (kyE (blL l 0) (blE l 0))))) = c.2.2.2.2 := by rw [← hc]; rfl
  rw [h1, h2, h3, h4, h5, keyW, keyW]
  have HCE := hid hc
  have HCI := hid (comInfo c)
  have HCS := hid (show (comC c).toArray.size = 67 by rw [List.size_toArray, comC_len])
  have HCA := hid (show (Tryd.prog.info? 27).map (·.size) = some (comC c).toArray.size by rw [HCS.out, Tryd.sizeCom])
  have HCO := hid (arr_one (comC_one c))
  have HZS := hid (show (comC comZ).toArray.size = 67 by rw [List.size_toArray, comC_len])
  clear h1 h2 h3 h4 h5 hc hkx hk1 hk2 hk3 hk4 hk5 hr1 hr2 hr3 hr4 hr5 HG0 HK0 HR0
  go_wp2_with (first
    | (refine wpList_build_com rfl (.tmp 4) (.tmp 6) (.tmp 8) (.tmp 10) (.tmp 12) rfl c rfl rfl rfl rfl rfl ?_)
    | (refine wpList_store_all rfl 27 _ _ rfl w.heap.size _ rfl rfl _ _ HG5.out 67 Tryd.sizeCom HCS.out HZS.out HCO.out ?_; intro w6 hg6 hk6))
  refine bodyPost_ret (results_cell_row rfl _ _ w.heap.size _ _ _ _ rfl hg6 Tryd.underlying27 rfl HCA.out) rfl ⟨by rw [HCE.out]; rfl, ?_, ?_⟩
  · exact HR5.out.far hk6 HBR.out
  · exact HKX.out.transNew hk6 (Nat.le_refl _)
theorem DOpen_any (v : Value) (b : List UInt8) (k : Nat) (hk0 : k ≠ 0) (w : World) (hv : Sl w v (Lib.byteCells b)) (hlen : b.length ≤ 70368744177664) :
    Calls Tryd.prog 40 #[v, .int .i64 (k : Nat)] w fun e w' => ∃ p c, e = .returned (.tuple #[.pointer p, .int .i64 c]) ∧ Below w.heap.size w w' ∧ ((kindS b ≠ k ∧ c = 5) ∨ (kindS b = k ∧ c = 0 ∧ ∃ br, p = some ⟨br, 0, none⟩ ∧ Rd w' br (b.drop 1) 0 ∧ w.heap.size ≤ br)) := by
  obtain ⟨i0, hi0, hi1, hi2, hi3⟩ := info_parts Tryd.info5
  have HK := hid (DKind_any v b w hv)
  by_cases hk : kindS b = k
  · have hb1 : 1 ≤ b.length := by
      match b, hk with
      | [], hk => exact absurd hk.symm hk0
      | _ :: _, _ => simp
    obtain ⟨v1, r1, s1, _, ao1, c1, rfl⟩ := run_slice_from (P := Tryd.prog) 32 5 Tryd.underlying32 hi0 hi2 hv 1 (by rw [Lib.byteCells_length]; exact hb1)
    rw [← byteCells_drop] at s1
    rw [hk] at HK
    have hke : ((k : Int) != (k : Int)) = false := by simp
    have hke2 : (k != k) = false := by simp
    have HRD := hid (Read_any _ _ w s1 (by rw [List.length_drop]; omega))
    obtain ⟨ao, cap, rfl⟩ := hv.form
    rw [Lib.byteCells_length] at HK HRD r1 ⊢
    have r1 : ∀ wx, (Instr.slice 32 (.slice ao b.length cap) (some (.int .i64 1)) none none).run Tryd.prog wx = .ok (.slice ao1 (b.length - 1) c1) wx := r1
    clear hv s1 hi0 hi1 hi2 hi3
    go_enter Tryd.func40, Tryd.ntmps40
    go_wp2_with fail
    refine HK.out.mono ?_
    rintro e w1 ⟨rfl, rfl⟩
    go_wp2_with fail
    refine HRD.out.mono ?_
    rintro e w2 ⟨br, rfl, hr, hb1, hb2, hbl⟩
    go_wp2
    exact bodyPost_ret (results_tmp2 rfl _ _ _) rfl ⟨_, _, rfl, hbl, .inr ⟨hk, rfl, br, rfl, hr, hb1⟩⟩
  · have hke : ((kindS b : Int) != (k : Int)) = true := by simp; omega
    have hke2 : (kindS b != k) = true := by simpa using hk
    obtain ⟨ao, cap, rfl⟩ := hv.form
    have HNE := hid hk
    generalize kindS b = m at *
    clear hk
    go_enter Tryd.func40, Tryd.ntmps40
    go_wp2_with fail
    refine HK.out.mono ?_
    rintro e w1 ⟨rfl, rfl⟩
    go_wp2
    exact bodyPost_ret (results_tmp2 rfl _ _ _) rfl ⟨_, _, rfl, Below.refl _ _, .inl ⟨HNE.out, rfl⟩⟩
def endE (l : List UInt8) (c : Int) : Int := if c ≠ 0 then c else if l ≠ [] then 5 else 0
theorem DEnded_any (br : Nat) (l : List UInt8) (c : Int) (w : World) (h : Rd w br l c) :
    Calls Tryd.prog 42 #[.pointer (some ⟨br, 0, none⟩)] w fun e w' => e = .returned (.int .i64 (endE l c)) ∧ w = w' := by
  have HE := hid (Err_any br l c w h)
  have HL := hid (Left_any br l c w h)
  by_cases hc : c = 0
  · subst hc
    by_cases hl : l = []
    · subst hl
      go_enter Tryd.func42, Tryd.ntmps42
      go_wp2_with fail
      refine HE.out.mono ?_
      rintro e w1 ⟨rfl, rfl⟩
      go_wp2_with fail
      refine HL.out.mono ?_
      rintro e w1 ⟨rfl, rfl⟩
      go_wp2
      go_ret
      exact ⟨rfl, rfl⟩
    · have hpos := List.length_pos_iff.2 hl
      have g1 : decide ((0 : Int) < (l.length : Int)) = true := decide_eq_true (by omega)
      have g2 : decide (0 < l.length) = true := decide_eq_true hpos
      have HF := hid (show endE l 0 = 5 by unfold endE; rw [if_neg (by simp), if_pos hl])
      generalize l.length = n at *
      clear hpos hl
      go_enter Tryd.func42, Tryd.ntmps42
      go_wp2_with fail
      refine HE.out.mono ?_
      rintro e w1 ⟨rfl, rfl⟩
      go_wp2_with fail
      refine HL.out.mono ?_
      rintro e w1 ⟨rfl, rfl⟩
      go_wp2
      go_ret
      exact ⟨by rw [HF.out]; rfl, rfl⟩
  · have he1 : (c == 0) = false := by simpa using hc
    have he2 : (c != 0) = true := by simpa using hc
    have HF := hid (show endE l c = c by unfold endE; rw [if_pos hc])
    clear hc HL
    go_enter Tryd.func42, Tryd.ntmps42
    go_wp2_with fail
    refine HE.out.mono ?_
    rintro e w1 ⟨rfl, rfl⟩
    go_wp2
    go_ret
    exact ⟨by rw [HF.out]; rfl, rfl⟩
end
end Go.Proofs.YtbcpfakdmnccmaaDoor

namespace Go.Proofs.YtbcpfakdmnccmaaDoor.Ent
open Go.RowKit

def Rise (l : List EntS) : Prop := l.Pairwise fun g f => ltS g.1 f.1 = true
def Apart (l : List EntS) : Prop := l.Pairwise fun g f => clashS g.1 f.1 = false
theorem last_lt {pre : List EntS} (hp : Rise pre) (f : EntS) : (match pre.getLast? with | some g => !(ltS f.1 g.1 || f.1 == g.1) | none => true) = true ↔ ∀ g ∈ pre, ltS g.1 f.1 = true := by
  rcases List.eq_nil_or_concat pre with rfl | ⟨q, g, rfl⟩
  · simp
  · rw [List.concat_eq_append] at hp ⊢
    rw [List.getLast?_concat]
    have hq := List.pairwise_append.1 hp
    constructor
    · intro h x hx
      have hg : ltS g.1 f.1 = true := by
        simp only [Bool.not_or, Bool.and_eq_true, Bool.not_eq_true'] at h
        cases e : ltS g.1 f.1 with
        | true => rfl
        | false =>
          have := lt_tri _ _ e h.1
          rw [this] at h
          simp at h
      rw [List.mem_append] at hx
      rcases hx with hx | hx
      · exact lt_trans' _ _ _ (hq.2.2 x hx g (List.mem_singleton.2 rfl)) hg
      · rw [List.mem_singleton.1 hx]; exact hg
    · intro h
      have hg := h g (by simp)
      have h2 : (f.1 == g.1) = false := by
        have := lt_ne hg
        exact beq_false_of_ne fun e => this e.symm
      simp [lt_asym hg, h2]
theorem rise_snoc {pre : List EntS} (hp : Rise pre) {f : EntS} (h : ∀ g ∈ pre, ltS g.1 f.1 = true) : Rise (pre ++ [f]) :=
  List.pairwise_append.2 ⟨hp, List.pairwise_singleton _ _, fun x hx y hy => by rw [List.mem_singleton.1 hy]; exact h x hx⟩
theorem okAll_iff : ∀ (l pre : List EntS), Rise pre → (okEnts pre l = true ↔ (∀ f ∈ l, rightS f.1 = true) ∧ Rise (pre ++ l) ∧ (∀ g ∈ pre, ∀ f ∈ l, clashS g.1 f.1 = false) ∧ Apart l)
  | [], pre, hp => by simp [okEnts, Apart, hp]
  | f :: r, pre, hp => by
    rw [okEnts, Bool.and_eq_true]
    have hf : okEnt pre f = true ↔ rightS f.1 = true ∧ (∀ g ∈ pre, ltS g.1 f.1 = true) ∧ ∀ g ∈ pre, clashS g.1 f.1 = false := by
      unfold okEnt
      rw [Bool.and_eq_true, Bool.and_eq_true]
      simp only [List.all_eq_true, Bool.not_eq_true']
      constructor
      · exact fun ⟨a, c, d⟩ => ⟨a, (last_lt hp f).1 c, d⟩
      · exact fun ⟨a, c, d⟩ => ⟨a, (last_lt hp f).2 c, d⟩
    rw [hf]
    constructor
    · rintro ⟨⟨h1, h2, h3⟩, h4⟩
      obtain ⟨k1, k2, k3, k4⟩ := (okAll_iff r (pre ++ [f]) (rise_snoc hp h2)).1 h4
      refine ⟨fun x hx => ?_, by simpa using k2, fun g hg x hx => ?_, ?_⟩
      · rcases List.mem_cons.1 hx with rfl | hx
        · exact h1
        · exact k1 x hx
      · rcases List.mem_cons.1 hx with rfl | hx
        · exact h3 g hg
        · exact k3 g (by simp [hg]) x hx
      · exact List.pairwise_cons.2 ⟨fun x hx => k3 f (by simp) x hx, k4⟩
    · rintro ⟨h1, h2, h3, h4⟩
      have hr := List.pairwise_append.1 h2
      have hl : ∀ g ∈ pre, ltS g.1 f.1 = true := fun g hg => hr.2.2 g hg f (List.mem_cons_self ..)
      rw [Apart, List.pairwise_cons] at h4
      refine ⟨⟨h1 f (List.mem_cons_self ..), hl, fun g hg => h3 g hg f (List.mem_cons_self ..)⟩, (okAll_iff r (pre ++ [f]) (rise_snoc hp hl)).2 ⟨fun x hx => h1 x (List.mem_cons_of_mem _ hx), by simpa using h2, fun g hg x hx => ?_, h4.2⟩⟩
      rw [List.mem_append, List.mem_singleton] at hg
      rcases hg with hg | rfl
      · exact h3 g hg x (List.mem_cons_of_mem _ hx)
      · exact h4.1 x hx
/-- is each right, by itself, and behind the one ahead of it? -/
def okD (pre : List EntS) (f : EntS) : Bool := rightS f.1 && (match pre.getLast? with | some g => !(ltS f.1 g.1 || f.1 == g.1) | none => true)
def okAllD : List EntS → List EntS → Bool
  | _, [] => true
  | pre, f :: r => okD pre f && okAllD (pre ++ [f]) r
theorem okAllD_iff : ∀ (l pre : List EntS), Rise pre → (okAllD pre l = true ↔ (∀ f ∈ l, rightS f.1 = true) ∧ Rise (pre ++ l))
  | [], pre, hp => by simp [okAllD, hp]
  | f :: r, pre, hp => by
    rw [okAllD, Bool.and_eq_true]
    have hf : okD pre f = true ↔ rightS f.1 = true ∧ ∀ g ∈ pre, ltS g.1 f.1 = true := by
      unfold okD
      rw [Bool.and_eq_true]
      exact ⟨fun ⟨a, b⟩ => ⟨a, (last_lt hp f).1 b⟩, fun ⟨a, b⟩ => ⟨a, (last_lt hp f).2 b⟩⟩
    rw [hf]
    constructor
    · rintro ⟨⟨h1, h2⟩, h4⟩
      obtain ⟨k1, k2⟩ := (okAllD_iff r (pre ++ [f]) (rise_snoc hp h2)).1 h4
      refine ⟨fun x hx => ?_, by simpa using k2⟩
      rcases List.mem_cons.1 hx with rfl | hx
      · exact h1
      · exact k1 x hx
    · rintro ⟨h1, h2⟩
      have hr := List.pairwise_append.1 h2
      have hl : ∀ g ∈ pre, ltS g.1 f.1 = true := fun g hg => hr.2.2 g hg f (List.mem_cons_self ..)
      exact ⟨⟨h1 f (List.mem_cons_self ..), hl⟩, (okAllD_iff r (pre ++ [f]) (rise_snoc hp hl)).2 ⟨fun x hx => h1 x (List.mem_cons_of_mem _ hx), by simpa using h2⟩⟩
/-- does one of these, as long as they begin like p, clash with p? -/
def nestIn (p : List UInt8) : List EntS → Bool
  | [] => false
  | g :: r => prefS g.1 p && (clashS p g.1 || nestIn p r)
def nestE : List EntS → Bool
  | [] => false
  | f :: r => nestIn f.1 r || nestE r
theorem mid_pref : ∀ f h s : List UInt8, ltS f h = true → ltS h (f ++ s) = true → ∃ t, h = f ++ t
  | [], h, _, _, _ => ⟨h, rfl⟩
  | a :: f, [], _, h1, _ => by simp [ltS, Op.bytesLess] at h1
  | a :: f, b :: h, s, h1, h2 => by
    rw [lt_cons] at h1
    rw [List.cons_append, lt_cons] at h2
    simp only [UInt8.lt_iff_toNat_lt] at h1 h2
    rcases h1 with h1 | ⟨rfl, h1⟩
    · rcases h2 with h2 | ⟨rfl, _⟩ <;> omega
    · rcases h2 with h2 | ⟨_, h2⟩
      · omega
      · obtain ⟨t, rfl⟩ := mid_pref f h s h1 h2
        exact ⟨t, rfl⟩
theorem pref_app (f t : List UInt8) : prefS (f ++ t) f = true := by simp [prefS]
theorem clash_app {a b : List UInt8} (hlt : ltS a b = true) (hc : clashS a b = true) : ∃ r, b = a ++ 47 :: r := by
  unfold clashS at hc
  rw [Bool.or_eq_true, Bool.or_eq_true] at hc
  rcases hc with h | h | h
  · exact absurd (by simpa using h) (lt_ne hlt)
  · obtain ⟨r, rfl⟩ := (withinS_iff _ _).1 h
    have := lt_app b 47 r
    rw [lt_asym this] at hlt
    cases hlt
  · exact (withinS_iff _ _).1 h
theorem nestIn_iff (f : EntS) : ∀ r : List EntS, Rise (f :: r) → (nestIn f.1 r = true ↔ ∃ g ∈ r, clashS f.1 g.1 = true)
  | [], _ => by simp [nestIn]
  | h :: r, hr => by
    have hr2 : Rise (f :: r) := by
      have h1 := List.pairwise_cons.1 hr
      exact List.pairwise_cons.2 ⟨fun x hx => h1.1 x (List.mem_cons_of_mem _ hx), (List.pairwise_cons.1 h1.2).2⟩
    have h1 := List.pairwise_cons.1 hr
    rw [nestIn, Bool.and_eq_true, Bool.or_eq_true, nestIn_iff f r hr2]
    constructor
    · rintro ⟨_, h2 | ⟨g, hg, h2⟩⟩
      · exact ⟨h, by simp, h2⟩
      · exact ⟨g, by simp [hg], h2⟩
    · rintro ⟨g, hg, h2⟩
      have hfh := h1.1 h (by simp)
      rcases List.mem_cons.1 hg with rfl | hg
      · obtain ⟨s, hs⟩ := clash_app hfh h2
        exact ⟨by rw [hs]; exact pref_app _ _, .inl h2⟩
      · obtain ⟨s, hs⟩ := clash_app (h1.1 g (by simp [hg])) h2
        have hhg := (List.pairwise_cons.1 h1.2).1 g hg
        rw [hs] at hhg
        obtain ⟨t, ht⟩ := mid_pref _ _ _ hfh hhg
        exact ⟨by rw [ht]; exact pref_app _ _, .inr ⟨g, hg, h2⟩⟩
theorem nestE_iff : ∀ l : List EntS, Rise l → (nestE l = false ↔ Apart l)
  | [], _ => by simp [nestE, Apart]
  | f :: r, hr => by
    have h1 := List.pairwise_cons.1 hr
    rw [nestE, Bool.or_eq_false_iff, nestE_iff r h1.2, show Apart (f :: r) ↔ (∀ g ∈ r, clashS f.1 g.1 = false) ∧ Apart r from List.pairwise_cons]
    have h2 : nestIn f.1 r = false ↔ ∀ g ∈ r, clashS f.1 g.1 = false := by
      have := nestIn_iff f r hr
      constructor
      · intro h g hg
        cases e : clashS f.1 g.1 with
        | false => rfl
        | true => rw [this.2 ⟨g, hg, e⟩] at h; cases h
      · intro h
        cases e : nestIn f.1 r with
        | false => rfl
        | true =>
          obtain ⟨g, hg, h3⟩ := this.1 e
          rw [h g hg] at h3
          cases h3
    rw [h2]
def treeD (l : List EntS) : Bool := decide (l.length ≤ 100) && (okAllD [] l && !nestE l)
theorem treeD_eq (l : List EntS) : treeD l = entsR l := by
  have h : treeD l = true ↔ entsR l = true := by
    unfold treeD entsR
    rw [Bool.and_eq_true, Bool.and_eq_true, Bool.and_eq_true, decide_eq_true_eq, okAllD_iff l [] List.Pairwise.nil, okAll_iff l [] List.Pairwise.nil, Bool.not_eq_true']
    constructor
    · rintro ⟨h1, ⟨h2, h3⟩, h4⟩
      exact ⟨h1, h2, h3, by simp, (nestE_iff l (by simpa using h3)).1 h4⟩
    · rintro ⟨h1, h2, h3, _, h4⟩
      exact ⟨h1, ⟨h2, h3⟩, (nestE_iff l (by simpa using h3)).2 h4⟩
  rw [Bool.eq_iff_iff]
  exact h
end Go.Proofs.YtbcpfakdmnccmaaDoor.Ent

namespace Go.Proofs.YtbcpfakdmnccmaaDoor
open Go.RowKit

section
variable {w : World}
theorem OwnB.sl {base : Nat} {v : Value} {bs : List UInt8} (h : OwnB w base v bs) : Sl w v (Lib.byteCells bs) := Sl.ofOwns h
theorem OwnB.of {base n : Nat} {v : Value} {bs : List UInt8} (h : w.ownsRow base 5 1 v n (Lib.byteCells bs)) : OwnB w base v bs := by
  have hl := h.1
  rw [Lib.byteCells_length, Nat.mul_one] at hl
  subst hl
  exact h
theorem OwnB.old {w' : World} {base : Nat} {v : Value} {bs : List UInt8} (h : OwnB w base v bs) (hk : Below w.heap.size w w') : OwnB w' base v bs :=
  (Keep.ofBelow (S := fun _ => False) hk).owns h fun _ _ h => h
theorem OwnB.nil (base : Nat) : OwnB w base (.slice none 0 0) [] := World.ownsRow_nil _ _ _ _
theorem OwnB.lower {b b' : Nat} {v : Value} {bs : List UInt8} (h : OwnB w b v bs) (hb : b' ≤ b) : OwnB w b' v bs := by
  refine ⟨h.1, ?_⟩
  rcases h.2 with hn | ⟨g, cap, cur, rfl, hbg, rest⟩
  · exact .inl hn
  · exact .inr ⟨g, cap, cur, rfl, Nat.le_trans hb hbg, rest⟩
theorem wpList_append_ob {ops : Array Oper} {rest : List Oper} {o : Oper} {a : Act} {Q : Exit → Act → World → Prop} (hgd : o.guard = none) (s sx : Operand)
    (ho : o.op = .call { callee := .builtin .append, args := #[s, sx], argTypes := #[32, 32] })
    (base : Nat) (v : Value) (bs cs : List UInt8) (he : a.eval s = v) (hown : OwnB w base v bs) (x : Value) (hx : a.eval sx = x) (hs : Sl w x (Lib.byteCells cs))
    (hlen : bs.length + cs.length ≤ 70368744177664) (hbase : base ≤ w.heap.size)
    (h : ∀ v' w', OwnB w' base v' (bs ++ cs) → Below base w w' → wpList Tryd.prog ops Q rest (a.put o.dst v') w') : wpList Tryd.prog ops Q (o :: rest) a w := by
  obtain ⟨i0, hi0, hi1, hi2, hi3⟩ := info_parts Tryd.info5
  have hsrc := hs.src (P := Tryd.prog) Tryd.underlying32 (byte_one cs)
  rw [Lib.byteCells_length] at hsrc
  refine wpList_append_any w hgd s sx _ _ ho base 5 i0 _ 1 1 Tryd.underlying32 hi0 hi1 hi2 hi3 rfl (by omega) v _ _ he hown x cs.length _ hx hsrc (by unfold maxLen; omega) (by omega) hbase fun v' w' h2 h3 h4 => h v' w' ?_ ?_
  · rw [← Lib.byteCells_append] at h2
    exact OwnB.of h2
  · exact (Below.refl base w).grown h3 hbase (fun j hj => (hown.lt j hj).1)
theorem step_append_ob {ops : Array Oper} {o : Oper} {a : Act} {K : Act → World → Prop} {Q : Exit → Act → World → Prop} {X : Prop} (hgd : o.guard = none) (s sx : Operand)
    (ho : o.op = .call { callee := .builtin .append, args := #[s, sx], argTypes := #[32, 32] })
    (base : Nat) (v : Value) (bs cs : List UInt8) (he : a.eval s = v) (hown : OwnB w base v bs) (x : Value) (hx : a.eval sx = x) (hs : Sl w x (Lib.byteCells cs))
    (hlen : bs.length + cs.length ≤ 70368744177664) (hbase : base ≤ w.heap.size)
    (h : ∀ v' w', OwnB w' base v' (bs ++ cs) → Below base w w' → K (a.put o.dst v') w') : if Region.wanted o (yielded ops a.tmps) = true then Oper.wp Tryd.prog o a w K Q else X := by
  obtain ⟨i0, hi0, hi1, hi2, hi3⟩ := info_parts Tryd.info5
  have hsrc := hs.src (P := Tryd.prog) Tryd.underlying32 (byte_one cs)
  rw [Lib.byteCells_length] at hsrc
  refine step_append_any w hgd s sx _ _ ho base 5 i0 _ 1 1 Tryd.underlying32 hi0 hi1 hi2 hi3 rfl (by omega) v _ _ he hown x cs.length _ hx hsrc (by unfold maxLen; omega) (by omega) hbase fun v' w' h2 h3 h4 => h v' w' ?_ ?_
  · rw [← Lib.byteCells_append] at h2
    exact OwnB.of h2
  · exact (Below.refl base w).grown h3 hbase (fun j hj => (hown.lt j hj).1)
theorem cell_old {w' : World} {a : Addr} {v : Value} (h : w.cell? a = some v) (hk : Below w.heap.size w w') : w'.cell? a = some v :=
  (World.cell?_of_block (w := w) (hk.block _ (World.block_lt_of_cell? w _ h))).trans h
theorem range_sl {b o : Nat} {cs : List Value} (h : w.rangeAt b o cs) : Sl w (.slice (some ⟨b, o, none⟩) cs.length cs.length) cs :=
  ⟨_, _, rfl, (fun h => by cases h), Nat.le_refl _, fun a ha j u hu => by
    cases ha
    rw [Addr.add_mid]
    exact h j u hu⟩
theorem range_old' {w' : World} {b o : Nat} {cs : List Value} (h : w.rangeAt b o cs) (hk : Below w.heap.size w w') : w'.rangeAt b o cs := fun j u hu => cell_old (h j u hu) hk
/-- a literal slice of bytes -/
theorem lit_ob (w : World) (x : UInt8) : OwnB (w.alloc (.cells #[.int .u8 (x.toNat : Int)] 5)) w.heap.size (.slice (some ⟨w.heap.size, 0, none⟩) 1 1) [x] :=
  World.ownsRow_lit w #[.int .u8 (x.toNat : Int)] 1 (Nat.le_refl _) (by decide) rfl
end
end Go.Proofs.YtbcpfakdmnccmaaDoor

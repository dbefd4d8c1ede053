/-
  TmDe, part 2.
-/
import Derived.Test.YtbnafihigoekeaaGreatDoorZe1
import Derived.OneCell
import Derived.WalkKit
import Derived.Laws.Strings2
import Derived.Laws.IdiomStrings
import Derived.Deep.Slices
import Derived.Deep.Strs
import Derived.ProofKit
import Derived.OpenShut
import Derived.ShutString
import Derived.ChangeOld
namespace Go.Proofs.YtbnafihigoekeaaGreatDoor
open Go.RowKit
def iRow (l : List Int) : Array Value := (l.map (Value.int .i64)).toArray
theorem iRow_at {l : List Int} {i : Nat} {z : Int} (h : l[i]? = some z) : (iRow l)[i]? = some (.int .i64 z) := by simp [iRow, h]
theorem iRow_set (l : List Int) (i : Nat) (z : Int) : (iRow l).setIfInBounds i (.int .i64 z) = iRow (l.set i z) := by simp [iRow, List.map_set]
def encBo : Enc Bool := ⟨1, by omega, fun f => [.bool f], fun _ => rfl, fun f u hu => by
  simp only [List.mem_cons, List.not_mem_nil, or_false] at hu
  subst hu
  rfl⟩
abbrev SlBo (w : World) (v : Value) (fs : List Bool) : Prop := SlR encBo w v fs
abbrev OwnBo (w : World) (base : Nat) (v : Value) (fs : List Bool) : Prop := w.ownsRow base 4 1 v fs.length (flatR encBo fs)
theorem OwnBo.sl {w : World} {base : Nat} {v : Value} {fs : List Bool} (h : OwnBo w base v fs) : SlBo w v fs := SlR.ofOwns (E := encBo) h
theorem SlBo.at {w : World} {ao : Option Addr} {n cap : Nat} {fs : List Bool} (h : SlBo w (.slice ao n cap) fs) {i : Nat} (hi : i < fs.length) :
    ∃ b o p, ao = some ⟨b, o, none⟩ ∧ fs[i]? = some p ∧ w.cell? ⟨b, o + i * 1, none⟩ = some (.bool p) := by
  obtain ⟨b, o, p, ha, hx, hc⟩ := SlR.at' h hi
  exact ⟨b, o, p, ha, hx, hc 0 _ rfl⟩
theorem flat_bo (X : List Bool) : flatR encBo X = X.map Value.bool := by
  induction X with
  | nil => rfl
  | cons x X ih =>
    show [Value.bool x] ++ flatR encBo X = _
    rw [ih]
    rfl
theorem OwnBo.put {w : World} {base g cap : Nat} {X : List Bool} (h : OwnBo w base (.slice (some ⟨g, 0, none⟩) X.length cap) X) (i : Nat) (z : Bool) :
    OwnBo (w.setCell ⟨g, i, none⟩ (.bool z)) base (.slice (some ⟨g, 0, none⟩) (X.set i z).length cap) (X.set i z) := by
  refine ⟨by rw [flat_bo]; simp, .inr ?_⟩
  rcases h.2 with ⟨e, _⟩ | ⟨g', cap', cur, e, hg, hh, h1, h2, h3, h4⟩
  · cases e
  · cases e
    refine ⟨g, cap, cur.setIfInBounds i (.bool z), by rw [List.length_set], hg, blk_set hh, by rw [List.length_set]; exact h1, h2, by simpa using h3, ?_⟩
    rw [List.length_set, Array.toList_setIfInBounds, List.take_set, h4, flat_bo, flat_bo, List.map_set]
structure RnAt (w0 : World) (va vb : Value) (gt : Nat) (X : List Int) (A B : List Bool) (w : World) : Prop where
  row : w.heap[gt]? = some (.cells (iRow X) 3 (0, 0))
  a : OwnBo w w0.heap.size va A
  b : OwnBo w w0.heap.size vb B
  pt : w0.heap.size ≤ gt
  na : va.ownBlock ≠ some gt
  nb : vb.ownBlock ≠ some gt
  nab : ∀ g, va.ownBlock = some g → vb.ownBlock ≠ some g
  below : Below w0.heap.size w0 w
theorem RnAt.old {w0 w w' : World} {va vb : Value} {gt : Nat} {X : List Int} {A B : List Bool} (h : RnAt w0 va vb gt X A B w) (hk : Below w.heap.size w w') : RnAt w0 va vb gt X A B w' :=
  ⟨(hk.block _ (lt_of_block h.row)).trans h.row, owns_kept h.a fun q _ hq => hk.block q hq, owns_kept h.b fun q _ hq => hk.block q hq, h.pt, h.na, h.nb, h.nab, below_step h.below hk h.below.size⟩
theorem RnAt.start {w0 w1 w2 : World} {va vb : Value} {A B : List Bool} (n : Nat) (ha : OwnBo w1 w0.heap.size va A) (h1 : Below w0.heap.size w0 w1) (hb : OwnBo w2 w1.heap.size vb B) (h2 : Below w1.heap.size w1 w2) :
    RnAt w0 va vb w2.heap.size (List.replicate n 0) A B (w2.alloc (.cells (iRow (List.replicate n 0)) 3)) := by
  have q1 := h1.size
  have q2 := h2.size
  have la := fun q hq => (World.ownsRow.lt ha q hq)
  have lb := fun q hq => (World.ownsRow.lt hb q hq)
  refine ⟨heap_alloc_new w2 _, ?_, ?_, by omega, fun e => ?_, fun e => ?_, fun g e1 e2 => ?_, (below_step h1 h2 q1).alloc (by omega) _⟩
  · exact owns_kept (owns_kept ha fun q _ hq => h2.block q hq) fun q _ hq => Below.heap_alloc _ _ _ hq
  · have : OwnBo w2 w0.heap.size vb B := ⟨hb.1, hb.2.imp id fun ⟨g, cap, cur, e1, e2, e3⟩ => ⟨g, cap, cur, e1, Nat.le_trans q1 e2, e3⟩⟩
    exact owns_kept this fun q _ hq => Below.heap_alloc _ _ _ hq
  · have := la _ e
    omega
  · have := lb _ e
    omega
  · have := la _ e1
    have := lb _ e2
    omega
end Go.Proofs.YtbnafihigoekeaaGreatDoor
namespace Go.Proofs.YtbnafihigoekeaaGreatDoor
theorem drop_one {α : Type} {l : List α} {k : Nat} {x : α} (h : l[k]? = some x) : l.drop k = x :: l.drop (k + 1) := by
  obtain ⟨q, e⟩ := List.getElem?_eq_some_iff.1 h
  rw [List.drop_eq_getElem_cons q, e]
end Go.Proofs.YtbnafihigoekeaaGreatDoor
namespace Go.Proofs.YtbnafihigoekeaaGreatDoor
open Go.RowKit
section
variable {P : Program}
theorem str_extract (s : List UInt8) (a b : Nat) : (⟨s.toArray⟩ : ByteArray).extract a b = ⟨((s.drop a).take (b - a)).toArray⟩ := by
  apply ByteArray.ext
  simp [ByteArray.data_extract]
theorem run_str_at (t : TypeId) (ht : P.underlying t = some .string) {s : List UInt8} {i : Nat} {b : UInt8} (hb : s[i]? = some b) (wx : World) :
    (Instr.index t (.string ⟨s.toArray⟩) (.int .i64 (i : Nat))).run P wx = .ok (.int .u8 (b.toNat : Nat)) wx := by
  obtain ⟨hi, rfl⟩ := List.getElem?_eq_some_iff.1 hb
  rw [run_index_string (P := P) wx t _ _ _ ht]
  have hs : (⟨s.toArray⟩ : ByteArray).size = s.length := by simp [ByteArray.size]
  rw [dif_pos ⟨by omega, by rw [hs]; omega⟩]
  rfl
theorem run_str_mid (t : TypeId) (ht : P.underlying t = some .string) (s : List UInt8) (a b : Nat) (hab : a ≤ b) (hb : b ≤ s.length) (wx : World) :
    (Instr.slice t (.string ⟨s.toArray⟩) (some (.int .i64 (a : Nat))) (some (.int .i64 (b : Nat))) none).run P wx = .ok (.string ⟨((s.drop a).take (b - a)).toArray⟩) wx := by
  have hs : (⟨s.toArray⟩ : ByteArray).size = s.length := by simp [ByteArray.size]
  rw [run_slice_string (P := P) wx t _ _ _ _ _ ht (by omega) (by omega) (by rw [hs]; omega), str_extract]
  simp
theorem run_str_from (t : TypeId) (ht : P.underlying t = some .string) (s : List UInt8) (a : Nat) (ha : a ≤ s.length) (wx : World) :
    (Instr.slice t (.string ⟨s.toArray⟩) (some (.int .i64 (a : Nat))) none none).run P wx = .ok (.string ⟨(s.drop a).toArray⟩) wx := by
  have hs : (⟨s.toArray⟩ : ByteArray).size = s.length := by simp [ByteArray.size]
  rw [run_slice_string_l (P := P) wx t _ ht _ _ (by omega) (by rw [hs]; omega), str_extract, hs, Int.toNat_natCast, List.take_of_length_le (by rw [List.length_drop]; omega)]
theorem run_str_to (t : TypeId) (ht : P.underlying t = some .string) (s : List UInt8) (b : Nat) (hb : b ≤ s.length) (wx : World) :
    (Instr.slice t (.string ⟨s.toArray⟩) none (some (.int .i64 (b : Nat))) none).run P wx = .ok (.string ⟨(s.take b).toArray⟩) wx := by
  have hs : (⟨s.toArray⟩ : ByteArray).size = s.length := by simp [ByteArray.size]
  rw [run_slice_string_h (P := P) wx t _ ht _ _ (by omega) (by rw [hs]; omega), str_extract, Int.toNat_natCast]
  simp
theorem run_str_add (x y : List UInt8) (h : x.length + y.length ≤ 9223372036854775807) (wx : World) :
    (Op.stringOp .add ⟨x.toArray⟩ ⟨y.toArray⟩).run P wx = .ok (.string ⟨(x ++ y).toArray⟩) wx := by
  have hx : (⟨x.toArray⟩ : ByteArray).size = x.length := by simp [ByteArray.size]
  have hy : (⟨y.toArray⟩ : ByteArray).size = y.length := by simp [ByteArray.size]
  have hm : ¬ (((x.length + y.length : Nat) : Int) > IntKind.i64.max) := by
    simp [IntKind.max, IntKind.signed, IntKind.bits]
    omega
  simp only [Op.stringOp, hx, hy, if_neg hm]
  rw [Sem.run_pure]
  congr 2
end
end Go.Proofs.YtbnafihigoekeaaGreatDoor
namespace Go.Proofs.YtbnafihigoekeaaGreatDoor
open Go.RowKit
section
variable {P : Program}
theorem conv_sl (w : World) (src dst e : TypeId) (l : List UInt8) (hs : P.underlying src = some .string) (hd : P.underlying dst = some (.slice e)) (he : P.underlying e = some (.int .u8)) :
    ∃ cap w', (convert src dst (.string ⟨l.toArray⟩)).run P w = .ok (.slice (some ⟨w.heap.size, 0, none⟩) l.length cap) w' ∧ Sl w' (.slice (some ⟨w.heap.size, 0, none⟩) l.length cap) (Lib.byteCells l) ∧ w'.heap.size = w.heap.size + 1 ∧ Below w.heap.size w w' := by
  have hr := run_bytes_of_string (P := P) w src dst e ⟨l.toArray⟩ hs hd he
  have hsz : (ByteArray.mk l.toArray).size = l.length := by
    show l.toArray.size = l.length
    simp
  rw [hsz] at hr
  have hge := grownCap_ge w l.length 0 e
  have hg := heap_alloc_new w.drew (.cells (bytesRow ⟨l.toArray⟩ (grownCap w l.length 0 e)) e ((bytesRow ⟨l.toArray⟩ (grownCap w l.length 0 e)).size, (bytesRow ⟨l.toArray⟩ (grownCap w l.length 0 e)).size + 1))
  rw [show w.drew.heap.size = w.heap.size from rfl] at hg
  refine ⟨_, _, hr, ⟨_, _, by rw [Lib.byteCells_length], (fun h => by cases h), by rw [Lib.byteCells_length]; exact hge, fun a ha j u hu => ?_⟩, by simp, ((Below.refl _ _).drew).alloc (Nat.le_refl _) _⟩
  cases ha
  rw [Addr.add_lit, Nat.zero_add]
  have hj : j < l.length := by
    have := (List.getElem?_eq_some_iff.1 hu).1
    rwa [Lib.byteCells_length] at this
  simp only [World.cell?, hg]
  show (bytesRow ⟨l.toArray⟩ (grownCap w l.length 0 e))[j]? = _
  rw [bytesRow, Array.getElem?_append_left (by simpa using hj), ← hu]
  simp [Lib.byteCells]
end
end Go.Proofs.YtbnafihigoekeaaGreatDoor
namespace Go.Proofs.YtbnafihigoekeaaGreatDoor
open Go.RowKit Go.Deep
section
variable {H : Type} {enc : TypeId × Value → H} {P : Program} {w : World} {base : Nat} {spare : Nat → Bool} {held : Bool}
end
def FactBytes (w : World) (v : Value) (bs : List UInt8) : Prop := Sl w v (Lib.byteCells bs) ∧ bs.length ≤ maxLen
def FactInts (k : IntKind) (w : World) (v : Value) (zs : List Int) : Prop := Sl w v (zs.map (Value.int k)) ∧ zs.length ≤ maxLen ∧ ∀ z ∈ zs, (Lit.int k z).wf = true
def FactBools (w : World) (v : Value) (bs : List Bool) : Prop := Sl w v (bs.map Value.bool) ∧ bs.length ≤ maxLen
end Go.Proofs.YtbnafihigoekeaaGreatDoor
namespace Go.Proofs.YtbnafihigoekeaaGreatDoor
open Go.RowKit Go.Deep
def SlN (size : Nat) (w : World) (v : Value) (css : List (List Value)) : Prop :=
  ∃ ao cap, v = .slice ao css.length cap ∧ (ao = none → css = []) ∧ css.length ≤ cap ∧ ∀ a, ao = some a → ∀ i cs, css[i]? = some cs → cs.length = size ∧ ∀ j u, cs[j]? = some u → w.cell? (a.add (i * size + j)) = some u
theorem SlN.form {size : Nat} {w : World} {v : Value} {css : List (List Value)} (h : SlN size w v css) : ∃ ao cap, v = .slice ao css.length cap := by
  obtain ⟨ao, cap, rfl, _⟩ := h
  exact ⟨ao, cap, rfl⟩
theorem SlN.old {size : Nat} {w w' : World} {v : Value} {css : List (List Value)} (h : SlN size w v css) (hk : Below w.heap.size w w') : SlN size w' v css := by
  obtain ⟨ao, cap, rfl, hn, hcap, hc⟩ := h
  refine ⟨ao, cap, rfl, hn, hcap, fun a ha i cs hi => ⟨(hc a ha i cs hi).1, fun j u hu => ?_⟩⟩
  have := (hc a ha i cs hi).2 j u hu
  exact (World.cell?_of_block (w := w) (hk.block _ (World.block_lt_of_cell? w _ this))).trans this
theorem SlN.at {size : Nat} {w : World} {ao : Option Addr} {n cap : Nat} {css : List (List Value)} (h : SlN size w (.slice ao n cap) css) {i : Nat} {cs : List Value} (hi : css[i]? = some cs) :
    ∃ a, ao = some a ∧ ∀ j u, cs[j]? = some u → w.cell? (a.add (i * size + j)) = some u := by
  obtain ⟨ao', cap', hv, hn, _, hc⟩ := h
  obtain ⟨rfl, _, _⟩ := Value.slice.inj hv
  cases ao with
  | none => rw [hn rfl] at hi; simp at hi
  | some a => exact ⟨a, rfl, (hc a rfl i cs hi).2⟩
theorem SlN.at' {size : Nat} {w : World} {ao : Option Addr} {n cap : Nat} {css : List (List Value)} (h : SlN size w (.slice ao n cap) css) {i : Nat} {cs : List Value} (hi : css[i]? = some cs) (hp : 0 < cs.length) :
    ∃ b o, ao = some ⟨b, o, none⟩ ∧ b < w.heap.size ∧ ∀ j u, cs[j]? = some u → w.cell? ⟨b, o + i * size + j, none⟩ = some u := by
  obtain ⟨ao', cap', hv, hn, _, hall⟩ := h
  obtain ⟨rfl, _, _⟩ := Value.slice.inj hv
  cases ao with
  | none => rw [hn rfl] at hi; simp at hi
  | some a =>
    obtain ⟨b, o, sp⟩ := a
    obtain ⟨hlen, hc⟩ := hall _ rfl i cs hi
    have hil := (List.getElem?_eq_some_iff.1 hi).1
    obtain ⟨hlen0, hc0⟩ := hall _ rfl 0 _ (List.getElem?_eq_getElem (by omega))
    have h0 := hc0 0 _ (List.getElem?_eq_getElem (by omega))
    rw [Nat.zero_mul, Nat.add_zero, show (⟨b, o, sp⟩ : Addr).add 0 = ⟨b, o, sp⟩ from rfl] at h0
    have hsp : sp = none := World.cell?_spot h0
    subst hsp
    have hadd : ∀ j, (⟨b, o, none⟩ : Addr).add j = ⟨b, o + j, none⟩ := fun j => Addr.add_lit ..
    refine ⟨b, o, rfl, World.block_lt_of_cell? w _ h0, fun j u hu => ?_⟩
    have := hc j u hu
    rwa [hadd, ← Nat.add_assoc] at this
section
variable {H : Type} {enc : TypeId × Value → H} {P : Program} {w : World} {base : Nat} {spare : Nat → Bool} {held : Bool}
end
end Go.Proofs.YtbnafihigoekeaaGreatDoor

/-
  A disk of which one file alone has something, and two disks side by side.
-/
import Derived.Test.YtblhabiginckbaaDskW
namespace Go.Proofs.Ytblhabiginckbaa
open Go.RowKit

/-- File 0 holds t, s of it synced; nothing else. -/
def FF (s : Nat) (t : List UInt8) : Dk := ⟨1000, ⟨t, s⟩, ⟨[], 0⟩, false, 0, 0, 0⟩
theorem FF_new : Dk.new 1000 = FF 0 [] := rfl
theorem FF_ask (s : Nat) (t : List UInt8) : (FF s t).ask 0 = 0 := rfl
theorem FF_free (s : Nat) (t : List UInt8) : (FF s t).free = 1000 - t.length := rfl
theorem FF_append (s : Nat) (t cs : List UInt8) (h : t.length + cs.length ≤ 1000) : (FF s t).askAppend 0 cs.length = 0 ∧ (FF s t).append 0 cs = FF s (t ++ cs) := by
  have h1 : (FF s t).askAppend 0 cs.length = 0 := by
    unfold Dk.askAppend
    rw [FF_ask, if_pos rfl, FF_free, if_neg (by omega)]
  exact ⟨h1, by unfold Dk.append; rw [h1]; rfl⟩
theorem FF_sync (s : Nat) (t : List UInt8) : (FF s t).sync 0 = FF t.length t := rfl
theorem FF_cut (s : Nat) (t : List UInt8) (q : Nat) (h : q ≤ t.length) : (FF s t).askCut 0 (q : Int) = 0 ∧ (FF s t).cut 0 (q : Int) = FF (min s q) (t.take q) := by
  have h1 : (FF s t).askCut 0 (q : Int) = 0 := by
    unfold Dk.askCut
    rw [FF_ask, if_pos rfl]
    refine if_neg ?_
    rintro (e | e)
    · omega
    · rw [if_pos rfl] at e
      change ((t.length : Nat) : Int) < (q : Int) at e
      omega
  exact ⟨h1, by unfold Dk.cut; rw [h1]; rfl⟩
theorem FF_read (s : Nat) (t : List UInt8) : (FF s t).read 0 = t := rfl
theorem FF_synced (s : Nat) (t : List UInt8) : (FF s t).synced 0 = s := rfl
theorem FF_restart (s : Nat) (t : List UInt8) (h : s ≤ t.length) : (FF s t).restart = FF s (t.take s) := by
  have e : heldI 0 ((t.length : Int) - (s : Int)) = 0 := by unfold heldI; omega
  have e2 : (FF s t).f0.crash (FF s t).k0 = ⟨t.take s, s⟩ := by
    show (⟨t.take ((s : Int) + heldI 0 ((t.length : Int) - (s : Int))).toNat, ((s : Int) + heldI 0 ((t.length : Int) - (s : Int))).toNat⟩ : Fl) = _
    rw [e]
    simp
  unfold Dk.restart
  rw [e2]
  rfl

/-! ### Two disks -/
/-- Another disk's call leaves this one. -/
theorem DiskOk.beside {w0 w w' : World} {dp fp : Nat} {v0 v1 y0 y1 z0 z1 : Value} {D : Dk} (h : DiskOk w0 w dp v0 v1 D) (k : Did w w' fp y0 y1 z0 z1) (hs : ∀ j, feet dp v0 v1 j → ¬ feet fp y0 y1 j) (hf : ∀ j, feet fp y0 y1 j → w0.heap.size ≤ j) : DiskOk w0 w' dp v0 v1 D :=
  ⟨h.at_.kept k.keep hs, h.ok, h.foot, h.below.trans (k.keep.below h.size fun i hi e => by have := hf i e; omega)⟩
theorem Did.sep {w w' : World} {dp fp : Nat} {v0 v1 y0 y1 z0 z1 : Value} {D : Dk} (h : DiskIn w dp v0 v1 D) (k : Did w w' fp y0 y1 z0 z1) (hs : ∀ j, feet dp v0 v1 j → ¬ feet fp y0 y1 j) : ∀ j, feet dp v0 v1 j → ¬ feet fp z0 z1 j := by
  intro j e e'
  rcases k.new j e' with e2 | e2
  · exact hs j e e2
  · have := h.foot_lt e; omega

/-! ### 'append(append([]byte(nil), a...), b...)' -/
theorem wpList_append_u8 {ops : Array Oper} {rest : List Oper} {o : Oper} {a : Act} {w : World} {Q : Exit → Act → World → Prop} (hw : Region.wanted o (yielded ops a.tmps) = true) (s sx : Operand)
    (ho : o.op = .call { callee := .builtin .append, args := #[s, sx], argTypes := #[28, 28] })
    (base : Nat) (v : Value) (l : List UInt8) (he : a.eval s = v) (hown : w.ownsRow base 5 1 v l.length (Lib.byteCells l)) (x : Value) (c : List UInt8) (hx : a.eval sx = x) (hs : Sl w x (Lib.byteCells c))
    (hl : l.length + c.length ≤ 70368744177664) (hbase : base ≤ w.heap.size)
    (h : ∀ ao cap w', w'.ownsRow base 5 1 (.slice ao (l.length + c.length) cap) (l ++ c).length (Lib.byteCells (l ++ c)) → Below base w w' → wpList Try.prog ops Q rest (a.put o.dst (.slice ao (l.length + c.length) cap)) w') : wpList Try.prog ops Q (o :: rest) a w := by
  obtain ⟨i0, hi0, hz0, hz1, hz2⟩ := info_parts Try.info5
  have hla := Lib.byteCells_length c
  obtain ⟨v1, w1, hr1, ho1, hg1, _⟩ := run_append_any (P := Try.prog) w base 28 28 o.type 5 i0 _ 1 1 Try.underlying28 hi0 hz0 hz1 hz2 rfl (by omega) v _ _ hown x _ _ (hs.src Try.underlying28 (byte_one c)) (by rw [hla]; unfold maxLen; omega) (by rw [hla]; omega) hbase
  have hb1 : Below base w w1 := ⟨hg1.os, hg1.tape, hg1.output, hg1.size, fun k hk => hg1.block k (by omega) fun e => by have := (hown.lt k e.symm).1; omega⟩
  rw [hla, ← Lib.byteCells_append] at ho1
  obtain ⟨ao, cap, rfl⟩ := owns_form ho1
  rw [← List.length_append] at ho1
  refine BigFrame.wpList_want hw fun K hK => ?_
  unfold Oper.wp execOp
  simp only [ho, resolve, invoke, builtin, Sem.run_bind, Sem.run_pure, Result.andThen_ok, List.map_toArray, List.map_cons, List.map_nil, he, hx, hr1]
  exact hK _ _ (h ao cap w1 (by rw [List.length_append] at ho1 ⊢; exact ho1) hb1)
/-- The same onto nil. -/
theorem wpList_append_u8n {ops : Array Oper} {rest : List Oper} {o : Oper} {a : Act} {w : World} {Q : Exit → Act → World → Prop} (hw : Region.wanted o (yielded ops a.tmps) = true) (sx : Operand)
    (ho : o.op = .call { callee := .builtin .append, args := #[.const (.slice none 0 0), sx], argTypes := #[28, 28] })
    (x : Value) (c : List UInt8) (hx : a.eval sx = x) (hs : Sl w x (Lib.byteCells c)) (hl : c.length ≤ 70368744177664)
    (h : ∀ ao cap w', w'.ownsRow w.heap.size 5 1 (.slice ao c.length cap) c.length (Lib.byteCells c) → Below w.heap.size w w' → wpList Try.prog ops Q rest (a.put o.dst (.slice ao c.length cap)) w') : wpList Try.prog ops Q (o :: rest) a w :=
  wpList_append_u8 hw _ sx ho w.heap.size (.slice none 0 0) [] rfl (World.ownsRow_nil _ _ _ _) x c hx hs (by simp; omega) (Nat.le_refl _) fun ao cap w' ho hb => by
    simp only [List.length_nil, Nat.zero_add, List.nil_append] at ho ⊢
    exact h ao cap w' ho hb
/-- 's[:n]'. -/
theorem run_slice_head (oa : Option Addr) (m cap n : Nat) (h : n ≤ cap) (wx : World) : (Instr.slice 28 (.slice oa m cap) none (some (.int .i64 (n : Int))) none).run Try.prog wx = .ok (.slice oa n cap) wx := by
  obtain ⟨i0, hi0, hz0, hz1, hz2⟩ := info_parts Try.info5
  have h2 : (n : Int) ≤ cap := by omega
  have ht := Try.underlying28
  simp [Instr.slice, run_underlying ht, Instr.sliceBounds, run_sliceBound, sizeOf, typeInfo, hi0, h2]
  intro _
  cases oa <;> simp [Addr.add]
end Go.Proofs.Ytblhabiginckbaa

/-
  The document's own disk (rickref03): Append, Cut.
-/
import Derived.Test.YtblhabiginckbaaRdsB
import Derived.Deep.RegionLaw
namespace Go.Proofs.Ytblhabiginckbaa
open Go.RowKit

theorem step_append_u8 {ops : Array Oper} {o : Oper} {a : Act} {w : World} {K : Act → World → Prop} {Q : Exit → Act → World → Prop} {E : Prop} (hw : Region.wanted o (yielded ops a.tmps) = true) (s sx : Operand)
    (ho : o.op = .call { callee := .builtin .append, args := #[s, sx], argTypes := #[28, 28] })
    (base : Nat) (v : Value) (l : List UInt8) (he : a.eval s = v) (hown : w.ownsRow base 5 1 v l.length (Lib.byteCells l)) (x : Value) (c : List UInt8) (hx : a.eval sx = x) (hs : Sl w x (Lib.byteCells c))
    (hl : l.length + c.length ≤ 70368744177664) (hbase : base ≤ w.heap.size)
    (h : ∀ ao cap w', w'.ownsRow base 5 1 (.slice ao (l.length + c.length) cap) (l ++ c).length (Lib.byteCells (l ++ c)) → Below base w w' → K (a.put o.dst (.slice ao (l.length + c.length) cap)) w') :
    if Region.wanted o (yielded ops a.tmps) = true then Oper.wp Try.prog o a w K Q else E := by
  obtain ⟨i0, hi0, hz0, hz1, hz2⟩ := info_parts Try.info5
  have hla := Lib.byteCells_length c
  rw [if_pos hw]
  refine wp_append_any w s sx 28 28 ho base 5 i0 _ 1 1 Try.underlying28 hi0 hz0 hz1 hz2 rfl (by omega) v _ _ he hown x _ _ hx (hs.src Try.underlying28 (byte_one c)) (by rw [hla]; unfold maxLen; omega) (by rw [hla]; omega) hbase ?_
  intro v' w' h2 h3 _
  obtain ⟨ao, cap, rfl⟩ := owns_form h2
  rw [hla, ← Lib.byteCells_append] at h2
  rw [hla]
  exact h ao cap w' (by rw [List.length_append]; exact h2) ⟨h3.os, h3.tape, h3.output, h3.size, fun k hk => h3.block k (by omega) fun e => by have := (hown.lt k e.symm).1; omega⟩
theorem step_append_u8n {ops : Array Oper} {o : Oper} {a : Act} {w : World} {K : Act → World → Prop} {Q : Exit → Act → World → Prop} {E : Prop} (hw : Region.wanted o (yielded ops a.tmps) = true) (sx : Operand)
    (ho : o.op = .call { callee := .builtin .append, args := #[.const (.slice none 0 0), sx], argTypes := #[28, 28] })
    (x : Value) (c : List UInt8) (hx : a.eval sx = x) (hs : Sl w x (Lib.byteCells c)) (hl : c.length ≤ 70368744177664)
    (h : ∀ ao cap w', w'.ownsRow w.heap.size 5 1 (.slice ao c.length cap) c.length (Lib.byteCells c) → Below w.heap.size w w' → K (a.put o.dst (.slice ao c.length cap)) w') :
    if Region.wanted o (yielded ops a.tmps) = true then Oper.wp Try.prog o a w K Q else E :=
  step_append_u8 hw _ sx ho w.heap.size (.slice none 0 0) [] rfl (World.ownsRow_nil _ _ _ _) x c hx hs (by simp; omega) (Nat.le_refl _) fun ao cap w' ho hb => by
    simp only [List.length_nil, Nat.zero_add, List.nil_append] at ho ⊢
    exact h ao cap w' ho hb

/-- File 0 (1) has other bytes, a row that is new. -/
theorem RefIn.give0 {w w1 : World} {B rp : Nat} {u0 u1 kv v' : Value} {D : Dk} {l : List UInt8} (h : RefIn w B rp u0 u1 kv D) (hb : Below w.heap.size w w1) (ho : w1.ownsRow w.heap.size 5 1 v' l.length (Lib.byteCells l)) :
    RefIn (w1.setCell ⟨rp, 1, none⟩ v') B rp v' u1 kv { D with f0 := ⟨l, D.f0.s⟩ } ∧ RDid w (w1.setCell ⟨rp, 1, none⟩ v') rp u0 u1 kv v' u1 kv := by
  have h1 := h.below hb
  have hlt := lt_of_block h.block
  have hBw : B ≤ w.heap.size := by have := h.base; omega
  have hne : v'.ownBlock ≠ some rp := fun e => by have := (ho.lt _ e).1; omega
  obtain ⟨zs, hz, hzk⟩ := h1.keep
  refine ⟨⟨by rw [blk_set h1.block]; rfl, ownsRow_setCell_other (ho.below_base B hBw) (a := ⟨rp, 1, none⟩) hne _, ownsRow_setCell_other h1.own1 (a := ⟨rp, 1, none⟩) h.ne1 _, ⟨zs, ownsRow_setCell_other hz (a := ⟨rp, 1, none⟩) h.nek _, hzk⟩, h.base, hne, h.ne1, h.nek⟩, (Keep.ofBelow (S := fun x => x = rp) hb).setCell (p := ⟨rp, 1, none⟩) rfl v', ?_⟩
  rintro k (e | e | e | e)
  · exact .inl (.inl e)
  · exact .inr (ho.lt k e).1
  · exact .inl (.inr (.inr (.inl e)))
  · exact .inl (.inr (.inr (.inr e)))
theorem RefIn.give1 {w w1 : World} {B rp : Nat} {u0 u1 kv v' : Value} {D : Dk} {l : List UInt8} (h : RefIn w B rp u0 u1 kv D) (hb : Below w.heap.size w w1) (ho : w1.ownsRow w.heap.size 5 1 v' l.length (Lib.byteCells l)) :
    RefIn (w1.setCell ⟨rp, 3, none⟩ v') B rp u0 v' kv { D with f1 := ⟨l, D.f1.s⟩ } ∧ RDid w (w1.setCell ⟨rp, 3, none⟩ v') rp u0 u1 kv u0 v' kv := by
  have h1 := h.below hb
  have hlt := lt_of_block h.block
  have hBw : B ≤ w.heap.size := by have := h.base; omega
  have hne : v'.ownBlock ≠ some rp := fun e => by have := (ho.lt _ e).1; omega
  obtain ⟨zs, hz, hzk⟩ := h1.keep
  refine ⟨⟨by rw [blk_set h1.block]; rfl, ownsRow_setCell_other h1.own0 (a := ⟨rp, 3, none⟩) h.ne0 _, ownsRow_setCell_other (ho.below_base B hBw) (a := ⟨rp, 3, none⟩) hne _, ⟨zs, ownsRow_setCell_other hz (a := ⟨rp, 3, none⟩) h.nek _, hzk⟩, h.base, h.ne0, hne, h.nek⟩, (Keep.ofBelow (S := fun x => x = rp) hb).setCell (p := ⟨rp, 3, none⟩) rfl v', ?_⟩
  rintro k (e | e | e | e)
  · exact .inl (.inl e)
  · exact .inl (.inr (.inl e))
  · exact .inr (ho.lt k e).1
  · exact .inl (.inr (.inr (.inr e)))

set_option maxHeartbeats 2000000 in
theorem RAppend_any {B rp : Nat} {u0 u1 kv src : Value} {D : Dk} (n : Int) (cs : List UInt8) (w : World) (h : RefIn w B rp u0 u1 kv D) (hw : D.Wf) (hl : D.left ≤ 9223372036854775807) (hs : Sl w src (Lib.byteCells cs)) :
    Calls Try.prog 23 #[.pointer (some ⟨rp, 0, none⟩), .int .i64 n, src] w fun e w' => e = .returned (.int .i64 (D.askAppend n cs.length)) ∧ ∃ x0 x1 xk, RefIn w' B rp x0 x1 xk (D.append n cs) ∧ RDid w w' rp u0 u1 kv x0 x1 xk := by
  have hr := hw.room
  have hm := hw.most
  obtain ⟨so, sc, rfl⟩ := hs.form
  rw [Lib.byteCells_length] at hs ⊢
  rcases D.ask_cases n with ⟨hd, ha⟩ | ⟨hd, hn, ha⟩ | ⟨hd, hn, ha⟩ | ⟨hd, hn, ha⟩
  · have e1 : D.askAppend n cs.length = 7 := by unfold Dk.askAppend; rw [ha]; rfl
    rw [show D.append n cs = D by unfold Dk.append; rw [e1]; rfl, e1]
    go_enter Try.func23, Try.ntmps23
    go_wp2_with fail
    refine (Rask_any n w h).mono ?_
    rw [ha]
    rintro e w' ⟨rfl, rfl⟩
    clear hd ha e1
    go_wp2
    go_ret
    exact ⟨rfl, _, _, _, h, RDid.refl _ _ _ _ _⟩
  · subst hn
    by_cases hf : D.free < cs.length
    · have e1 : D.askAppend 0 cs.length = 3 := by unfold Dk.askAppend; rw [ha, if_pos rfl, if_pos hf]
      rw [show D.append 0 cs = D by unfold Dk.append; rw [e1]; rfl, e1]
      go_enter Try.func23, Try.ntmps23
      go_wp2_with fail
      refine (Rask_any 0 w h).mono ?_
      rw [ha]
      rintro e w' ⟨rfl, rfl⟩
      clear hd ha e1
      go_wp2_with fail
      refine (RFree_any w h hw).mono ?_
      rintro e w' ⟨rfl, rfl⟩
      go_wp2
      go_ret
      exact ⟨rfl, _, _, _, h, RDid.refl _ _ _ _ _⟩
    · have e1 : D.askAppend 0 cs.length = 0 := by unfold Dk.askAppend; rw [ha, if_pos rfl, if_neg hf]
      rw [show D.append 0 cs = ({ D with f0 := ⟨D.f0.b ++ cs, D.f0.s⟩ } : Dk).step by unfold Dk.append; rw [e1]; rfl, e1]
      have hlen : D.f0.b.length + cs.length ≤ 70368744177664 := by unfold Dk.free at hf; omega
      have hl1 : D.f0.b.length ≤ 70368744177664 := by omega
      obtain ⟨ao, cap, hv⟩ := owns_form h.own0
      have c1 := h.c1
      rw [hv] at c1
      have g1 := h.free 1
      have hsf : Sl w.drew (.slice ao D.f0.b.length cap) (Lib.byteCells D.f0.b) := by have := Sl.ofOwns h.own0; rw [hv] at this; exact this
      have hsd : Sl w.drew (.slice so cs.length sc) (Lib.byteCells cs) := hs
      have HH := hid (h.below (bel_drew w))
      clear hv
      go_enter Try.func23, Try.ntmps23
      go_wp2_with fail
      refine (Rask_any 0 w h).mono ?_
      rw [ha]
      rintro e w' ⟨rfl, rfl⟩
      clear ha e1
      go_wp2_with fail
      refine (RFree_any w h hw).mono ?_
      rintro e w' ⟨rfl, rfl⟩
      go_wp2
      go_region_law (first
        | (refine step_append_u8n (by rfl) (.tmp 27) (by rfl) _ D.f0.b (by rfl) hsf hl1 ?_; intro o5 c5 w5 own5 bel5)
        | (refine step_append_u8 (by rfl) (.tmp 28) (.tmp 29) (by rfl) w.heap.size _ D.f0.b (by rfl) own5 _ cs (by rfl) (hsd.old' bel5) hlen bel5.size ?_; intro o6 c6 w6 own6 bel6; have hbb := bel5.trans bel6; have hR6 := HH.out.below hbb; have q1 := hR6.c1; have q2 := hR6.free 1; obtain ⟨z0, z1, zv⟩ := owns_form hR6.own0; rw [zv] at q1; obtain ⟨hg6, dg6⟩ := HH.out.give0 hbb own6; have HG6 := hid hg6; have DG6 := hid dg6; clear hR6 zv hg6 dg6 hbb))
      clear c1 g1 hsf hsd own5 bel5 own6 bel6 q1 q2
      go_wp2_with fail
      refine (Rstep_any _ HG6.out hd hl).mono ?_
      rintro e w7 ⟨rfl, h7, d7⟩
      have d8 := (RDid.ofBelow (bel_drew w)).trans (DG6.out.trans d7)
      clear hd
      go_wp2
      go_ret
      exact ⟨rfl, _, _, _, h7, d8⟩
  · subst hn
    by_cases hf : D.free < cs.length
    · have e1 : D.askAppend 1 cs.length = 3 := by unfold Dk.askAppend; rw [ha, if_pos rfl, if_pos hf]
      rw [show D.append 1 cs = D by unfold Dk.append; rw [e1]; rfl, e1]
      go_enter Try.func23, Try.ntmps23
      go_wp2_with fail
      refine (Rask_any 1 w h).mono ?_
      rw [ha]
      rintro e w' ⟨rfl, rfl⟩
      clear hd ha e1
      go_wp2_with fail
      refine (RFree_any w h hw).mono ?_
      rintro e w' ⟨rfl, rfl⟩
      go_wp2
      go_ret
      exact ⟨rfl, _, _, _, h, RDid.refl _ _ _ _ _⟩
    · have e1 : D.askAppend 1 cs.length = 0 := by unfold Dk.askAppend; rw [ha, if_pos rfl, if_neg hf]
      rw [show D.append 1 cs = ({ D with f1 := ⟨D.f1.b ++ cs, D.f1.s⟩ } : Dk).step by unfold Dk.append; rw [e1]; rfl, e1]
      have hlen : D.f1.b.length + cs.length ≤ 70368744177664 := by unfold Dk.free at hf; omega
      have hl1 : D.f1.b.length ≤ 70368744177664 := by omega
      obtain ⟨ao, cap, hv⟩ := owns_form h.own1
      have c1 := h.c3
      rw [hv] at c1
      have g1 := h.free 3
      have hsf : Sl w.drew (.slice ao D.f1.b.length cap) (Lib.byteCells D.f1.b) := by have := Sl.ofOwns h.own1; rw [hv] at this; exact this
      have hsd : Sl w.drew (.slice so cs.length sc) (Lib.byteCells cs) := hs
      have HH := hid (h.below (bel_drew w))
      clear hv
      go_enter Try.func23, Try.ntmps23
      go_wp2_with fail
      refine (Rask_any 1 w h).mono ?_
      rw [ha]
      rintro e w' ⟨rfl, rfl⟩
      clear ha e1
      go_wp2_with fail
      refine (RFree_any w h hw).mono ?_
      rintro e w' ⟨rfl, rfl⟩
      go_wp2
      go_region_law (first
        | (refine step_append_u8n (by rfl) (.tmp 27) (by rfl) _ D.f1.b (by rfl) hsf hl1 ?_; intro o5 c5 w5 own5 bel5)
        | (refine step_append_u8 (by rfl) (.tmp 28) (.tmp 29) (by rfl) w.heap.size _ D.f1.b (by rfl) own5 _ cs (by rfl) (hsd.old' bel5) hlen bel5.size ?_; intro o6 c6 w6 own6 bel6; have hbb := bel5.trans bel6; have hR6 := HH.out.below hbb; have q1 := hR6.c3; have q2 := hR6.free 3; obtain ⟨z0, z1, zv⟩ := owns_form hR6.own1; rw [zv] at q1; obtain ⟨hg6, dg6⟩ := HH.out.give1 hbb own6; have HG6 := hid hg6; have DG6 := hid dg6; clear hR6 zv hg6 dg6 hbb))
      clear c1 g1 hsf hsd own5 bel5 own6 bel6 q1 q2
      go_wp2_with fail
      refine (Rstep_any _ HG6.out hd hl).mono ?_
      rintro e w7 ⟨rfl, h7, d7⟩
      have d8 := (RDid.ofBelow (bel_drew w)).trans (DG6.out.trans d7)
      clear hd
      go_wp2
      go_ret
      exact ⟨rfl, _, _, _, h7, d8⟩
  · have e1 : D.askAppend n cs.length = 1 := by unfold Dk.askAppend; rw [ha]; rfl
    rw [show D.append n cs = D by unfold Dk.append; rw [e1]; rfl, e1]
    go_enter Try.func23, Try.ntmps23
    go_wp2_with fail
    refine (Rask_any n w h).mono ?_
    rw [ha]
    rintro e w' ⟨rfl, rfl⟩
    clear hd ha e1 hn
    go_wp2
    go_ret
    exact ⟨rfl, _, _, _, h, RDid.refl _ _ _ _ _⟩
end Go.Proofs.Ytblhabiginckbaa

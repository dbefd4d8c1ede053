/-
  The document's own disk (rickref03): Cut, Arm.
-/
import Derived.Test.YtblhabiginckbaaRdsC
namespace Go.Proofs.Ytblhabiginckbaa
open Go.RowKit

set_option maxHeartbeats 2000000 in
theorem RCut_any {B rp : Nat} {u0 u1 kv : Value} {D : Dk} (n m : Int) (w : World) (h : RefIn w B rp u0 u1 kv D) (hw : D.Wf) (hl : D.left ≤ 9223372036854775807) :
    Calls Try.prog 15 #[.pointer (some ⟨rp, 0, none⟩), .int .i64 n, .int .i64 m] w fun e w' => e = .returned (.int .i64 (D.askCut n m)) ∧ ∃ x0 x1 xk, RefIn w' B rp x0 x1 xk (D.cut n m) ∧ RDid w w' rp u0 u1 kv x0 x1 xk := by
  have hr := hw.room
  have hm := hw.most
  rcases D.ask_cases n with ⟨hd, ha⟩ | ⟨hd, hn, ha⟩ | ⟨hd, hn, ha⟩ | ⟨hd, hn, ha⟩
  · have e1 : D.askCut n m = 7 := by unfold Dk.askCut; rw [ha]; rfl
    rw [show D.cut n m = D by unfold Dk.cut; rw [e1]; rfl, e1]
    go_enter Try.func15, Try.ntmps15
    go_wp2_with fail
    refine (Rask_any n w h).mono ?_
    rw [ha]
    rintro e w' ⟨rfl, rfl⟩
    clear hd ha e1
    go_wp2
    go_ret
    exact ⟨rfl, _, _, _, h, RDid.refl _ _ _ _ _⟩
  · subst hn
    obtain ⟨ao, cap, hv⟩ := owns_form h.own0
    by_cases hb : m < 0 ∨ (D.f0.b.length : Int) < m
    · have e1 : D.askCut 0 m = 1 := by unfold Dk.askCut; rw [ha, if_pos rfl]; exact if_pos hb
      rw [show D.cut 0 m = D by unfold Dk.cut; rw [e1]; rfl, e1]
      have hc := h.c1
      rw [hv] at hc
      clear hv
      by_cases hneg : m < 0
      · clear hb
        go_enter Try.func15, Try.ntmps15
        go_wp2_with fail
        refine (Rask_any 0 w h).mono ?_
        rw [ha]
        rintro e w' ⟨rfl, rfl⟩
        clear hd ha e1
        go_wp2
        go_ret
        exact ⟨rfl, _, _, _, h, RDid.refl _ _ _ _ _⟩
      · have hgt : (D.f0.b.length : Int) < m := by omega
        have hge : 0 ≤ m := by omega
        clear hb hneg
        go_enter Try.func15, Try.ntmps15
        go_wp2_with fail
        refine (Rask_any 0 w h).mono ?_
        rw [ha]
        rintro e w' ⟨rfl, rfl⟩
        clear hd ha e1
        go_wp2
        go_ret
        exact ⟨rfl, _, _, _, h, RDid.refl _ _ _ _ _⟩
    · have e1 : D.askCut 0 m = 0 := by unfold Dk.askCut; rw [ha, if_pos rfl]; exact if_neg hb
      obtain ⟨q, hq⟩ : ∃ q : Nat, m = (q : Int) := ⟨m.toNat, by omega⟩
      subst hq
      have hql : q ≤ D.f0.b.length := by omega
      have hge : (0 : Int) ≤ (q : Int) := by omega
      have hle : (q : Int) ≤ (D.f0.b.length : Int) := by omega
      have hc := h.c1
      rw [hv] at hc
      have c1 := h.c1
      rw [hv] at c1
      have g1 := h.free 1
      have hsf : Sl w.drew (.slice ao D.f0.b.length cap) (Lib.byteCells D.f0.b) := by have := Sl.ofOwns h.own0; rw [hv] at this; exact this
      have hcap := hsf.cap'
      have hst := hsf.cutTo q (by rw [Lib.byteCells_length]; exact hql)
      rw [← byteCells_take'] at hst
      have htl : (D.f0.b.take q).length = q := by rw [List.length_take]; omega
      have hl1 : (D.f0.b.take q).length ≤ 70368744177664 := by omega
      have hsl := fun wx => run_slice_head ao D.f0.b.length cap q (by omega) wx
      have HH := hid (h.below (bel_drew w))
      have HTL := hid htl
      have HST := hid hst
      clear hv hsf hb hc htl hst
      by_cases hqs : q < D.f0.s
      · rw [show D.cut 0 (q : Int) = ({ D with f0 := ⟨D.f0.b.take q, q⟩ } : Dk).step by unfold Dk.cut; rw [e1, if_pos rfl]; show ({ D with f0 := ⟨D.f0.b.take q, min D.f0.s q⟩ } : Dk).step = _; rw [Nat.min_eq_right (by omega)], e1]
        have hqs' : (q : Int) < (D.f0.s : Int) := by omega
        clear e1 hqs
        go_enter Try.func15, Try.ntmps15
        go_wp2_with fail
        refine (Rask_any 0 w h).mono ?_
        rw [ha]
        rintro e w' ⟨rfl, rfl⟩
        clear ha
        go_wp2
        go_region_law (refine step_append_u8n (by rfl) (.tmp 38) (by rfl) _ (D.f0.b.take q) (by rfl) HST.out hl1 ?_; intro o6 c6 w6 own6 bel6; have hR6 := HH.out.below bel6; have q1 := hR6.c1; have q2 := hR6.free 1; obtain ⟨z0, z1, zv⟩ := owns_form hR6.own0; rw [zv] at q1; obtain ⟨hg6, dg6⟩ := HH.out.give0 bel6 own6; rw [HTL.out] at hg6 dg6; have HG6 := hid hg6; have DG6 := hid dg6; clear hR6 zv hg6 dg6)
        clear c1 g1 own6 bel6 q1 q2 hsl
        generalize w6.setCell ⟨rp, 1, none⟩ (.slice o6 q c6) = w7 at HG6 DG6 ⊢
        have c2 := HG6.out.c2
        have g2 := HG6.out.free 2
        have H2 := hid ((HG6.out.put (D' := { D with f0 := ⟨D.f0.b.take q, q⟩ }) 2 (.int .i64 ((q : Nat) : Int)) rfl rfl rfl ⟨rfl, rfl, rfl⟩).below (bel_drew _))
        have D2 := hid ((DG6.out.trans (RDid.put 2 (.int .i64 ((q : Nat) : Int)))).trans (RDid.ofBelow (bel_drew _)))
        go_wp2
        go_region
        clear c2 g2
        go_wp2_with fail
        refine (Rstep_any _ H2.out hd hl).mono ?_
        rintro e w8 ⟨rfl, h8, d8⟩
        have d9 := (RDid.ofBelow (bel_drew w)).trans (D2.out.trans d8)
        clear hd
        go_wp2
        go_ret
        exact ⟨rfl, _, _, _, h8, d9⟩
      · rw [show D.cut 0 (q : Int) = ({ D with f0 := ⟨D.f0.b.take q, D.f0.s⟩ } : Dk).step by unfold Dk.cut; rw [e1, if_pos rfl]; show ({ D with f0 := ⟨D.f0.b.take q, min D.f0.s q⟩ } : Dk).step = _; rw [Nat.min_eq_left (by omega)], e1]
        have hqs' : (D.f0.s : Int) ≤ (q : Int) := by omega
        clear e1 hqs
        go_enter Try.func15, Try.ntmps15
        go_wp2_with fail
        refine (Rask_any 0 w h).mono ?_
        rw [ha]
        rintro e w' ⟨rfl, rfl⟩
        clear ha
        go_wp2
        go_region_law (refine step_append_u8n (by rfl) (.tmp 38) (by rfl) _ (D.f0.b.take q) (by rfl) HST.out hl1 ?_; intro o6 c6 w6 own6 bel6; have hR6 := HH.out.below bel6; have q1 := hR6.c1; have q2 := hR6.free 1; obtain ⟨z0, z1, zv⟩ := owns_form hR6.own0; rw [zv] at q1; obtain ⟨hg6, dg6⟩ := HH.out.give0 bel6 own6; rw [HTL.out] at hg6 dg6; have HG6 := hid hg6; have DG6 := hid dg6; clear hR6 zv hg6 dg6)
        clear c1 g1 own6 bel6 q1 q2 hsl
        generalize w6.setCell ⟨rp, 1, none⟩ (.slice o6 q c6) = w7 at HG6 DG6 ⊢
        have c2 := HG6.out.c2
        have g2 := HG6.out.free 2
        have H2 := hid ((HG6.out.put (D' := { D with f0 := ⟨D.f0.b.take q, D.f0.s⟩ }) 2 (.int .i64 ((D.f0.s : Nat) : Int)) rfl rfl rfl ⟨rfl, rfl, rfl⟩).below (bel_drew _))
        have D2 := hid ((DG6.out.trans (RDid.put 2 (.int .i64 ((D.f0.s : Nat) : Int)))).trans (RDid.ofBelow (bel_drew _)))
        go_wp2
        go_region
        clear c2 g2
        go_wp2_with fail
        refine (Rstep_any _ H2.out hd hl).mono ?_
        rintro e w8 ⟨rfl, h8, d8⟩
        have d9 := (RDid.ofBelow (bel_drew w)).trans (D2.out.trans d8)
        clear hd
        go_wp2
        go_ret
        exact ⟨rfl, _, _, _, h8, d9⟩
  · subst hn
    obtain ⟨ao, cap, hv⟩ := owns_form h.own1
    by_cases hb : m < 0 ∨ (D.f1.b.length : Int) < m
    · have e1 : D.askCut 1 m = 1 := by unfold Dk.askCut; rw [ha, if_pos rfl]; exact if_pos hb
      rw [show D.cut 1 m = D by unfold Dk.cut; rw [e1]; rfl, e1]
      have hc := h.c3
      rw [hv] at hc
      clear hv
      by_cases hneg : m < 0
      · clear hb
        go_enter Try.func15, Try.ntmps15
        go_wp2_with fail
        refine (Rask_any 1 w h).mono ?_
        rw [ha]
        rintro e w' ⟨rfl, rfl⟩
        clear hd ha e1
        go_wp2
        go_ret
        exact ⟨rfl, _, _, _, h, RDid.refl _ _ _ _ _⟩
      · have hgt : (D.f1.b.length : Int) < m := by omega
        have hge : 0 ≤ m := by omega
        clear hb hneg
        go_enter Try.func15, Try.ntmps15
        go_wp2_with fail
        refine (Rask_any 1 w h).mono ?_
        rw [ha]
        rintro e w' ⟨rfl, rfl⟩
        clear hd ha e1
        go_wp2
        go_ret
        exact ⟨rfl, _, _, _, h, RDid.refl _ _ _ _ _⟩
    · have e1 : D.askCut 1 m = 0 := by unfold Dk.askCut; rw [ha, if_pos rfl]; exact if_neg hb
      obtain ⟨q, hq⟩ : ∃ q : Nat, m = (q : Int) := ⟨m.toNat, by omega⟩
      subst hq
      have hql : q ≤ D.f1.b.length := by omega
      have hge : (0 : Int) ≤ (q : Int) := by omega
      have hle : (q : Int) ≤ (D.f1.b.length : Int) := by omega
      have hc := h.c3
      rw [hv] at hc
      have c1 := h.c3
      rw [hv] at c1
      have g1 := h.free 3
      have hsf : Sl w.drew (.slice ao D.f1.b.length cap) (Lib.byteCells D.f1.b) := by have := Sl.ofOwns h.own1; rw [hv] at this; exact this
      have hcap := hsf.cap'
      have hst := hsf.cutTo q (by rw [Lib.byteCells_length]; exact hql)
      rw [← byteCells_take'] at hst
      have htl : (D.f1.b.take q).length = q := by rw [List.length_take]; omega
      have hl1 : (D.f1.b.take q).length ≤ 70368744177664 := by omega
      have hsl := fun wx => run_slice_head ao D.f1.b.length cap q (by omega) wx
      have HH := hid (h.below (bel_drew w))
      have HTL := hid htl
      have HST := hid hst
      clear hv hsf hb hc htl hst
      by_cases hqs : q < D.f1.s
      · rw [show D.cut 1 (q : Int) = ({ D with f1 := ⟨D.f1.b.take q, q⟩ } : Dk).step by unfold Dk.cut; rw [e1, if_pos rfl]; show ({ D with f1 := ⟨D.f1.b.take q, min D.f1.s q⟩ } : Dk).step = _; rw [Nat.min_eq_right (by omega)], e1]
        have hqs' : (q : Int) < (D.f1.s : Int) := by omega
        clear e1 hqs
        go_enter Try.func15, Try.ntmps15
        go_wp2_with fail
        refine (Rask_any 1 w h).mono ?_
        rw [ha]
        rintro e w' ⟨rfl, rfl⟩
        clear ha
        go_wp2
        go_region_law (refine step_append_u8n (by rfl) (.tmp 38) (by rfl) _ (D.f1.b.take q) (by rfl) HST.out hl1 ?_; intro o6 c6 w6 own6 bel6; have hR6 := HH.out.below bel6; have q1 := hR6.c3; have q2 := hR6.free 3; obtain ⟨z0, z1, zv⟩ := owns_form hR6.own1; rw [zv] at q1; obtain ⟨hg6, dg6⟩ := HH.out.give1 bel6 own6; rw [HTL.out] at hg6 dg6; have HG6 := hid hg6; have DG6 := hid dg6; clear hR6 zv hg6 dg6)
        clear c1 g1 own6 bel6 q1 q2 hsl
        generalize w6.setCell ⟨rp, 3, none⟩ (.slice o6 q c6) = w7 at HG6 DG6 ⊢
        have c2 := HG6.out.c4
        have g2 := HG6.out.free 4
        have H2 := hid ((HG6.out.put (D' := { D with f1 := ⟨D.f1.b.take q, q⟩ }) 4 (.int .i64 ((q : Nat) : Int)) rfl rfl rfl ⟨rfl, rfl, rfl⟩).below (bel_drew _))
        have D2 := hid ((DG6.out.trans (RDid.put 4 (.int .i64 ((q : Nat) : Int)))).trans (RDid.ofBelow (bel_drew _)))
        go_wp2
        go_region
        clear c2 g2
        go_wp2_with fail
        refine (Rstep_any _ H2.out hd hl).mono ?_
        rintro e w8 ⟨rfl, h8, d8⟩
        have d9 := (RDid.ofBelow (bel_drew w)).trans (D2.out.trans d8)
        clear hd
        go_wp2
        go_ret
        exact ⟨rfl, _, _, _, h8, d9⟩
      · rw [show D.cut 1 (q : Int) = ({ D with f1 := ⟨D.f1.b.take q, D.f1.s⟩ } : Dk).step by unfold Dk.cut; rw [e1, if_pos rfl]; show ({ D with f1 := ⟨D.f1.b.take q, min D.f1.s q⟩ } : Dk).step = _; rw [Nat.min_eq_left (by omega)], e1]
        have hqs' : (D.f1.s : Int) ≤ (q : Int) := by omega
        clear e1 hqs
        go_enter Try.func15, Try.ntmps15
        go_wp2_with fail
        refine (Rask_any 1 w h).mono ?_
        rw [ha]
        rintro e w' ⟨rfl, rfl⟩
        clear ha
        go_wp2
        go_region_law (refine step_append_u8n (by rfl) (.tmp 38) (by rfl) _ (D.f1.b.take q) (by rfl) HST.out hl1 ?_; intro o6 c6 w6 own6 bel6; have hR6 := HH.out.below bel6; have q1 := hR6.c3; have q2 := hR6.free 3; obtain ⟨z0, z1, zv⟩ := owns_form hR6.own1; rw [zv] at q1; obtain ⟨hg6, dg6⟩ := HH.out.give1 bel6 own6; rw [HTL.out] at hg6 dg6; have HG6 := hid hg6; have DG6 := hid dg6; clear hR6 zv hg6 dg6)
        clear c1 g1 own6 bel6 q1 q2 hsl
        generalize w6.setCell ⟨rp, 3, none⟩ (.slice o6 q c6) = w7 at HG6 DG6 ⊢
        have c2 := HG6.out.c4
        have g2 := HG6.out.free 4
        have H2 := hid ((HG6.out.put (D' := { D with f1 := ⟨D.f1.b.take q, D.f1.s⟩ }) 4 (.int .i64 ((D.f1.s : Nat) : Int)) rfl rfl rfl ⟨rfl, rfl, rfl⟩).below (bel_drew _))
        have D2 := hid ((DG6.out.trans (RDid.put 4 (.int .i64 ((D.f1.s : Nat) : Int)))).trans (RDid.ofBelow (bel_drew _)))
        go_wp2
        go_region
        clear c2 g2
        go_wp2_with fail
        refine (Rstep_any _ H2.out hd hl).mono ?_
        rintro e w8 ⟨rfl, h8, d8⟩
        have d9 := (RDid.ofBelow (bel_drew w)).trans (D2.out.trans d8)
        clear hd
        go_wp2
        go_ret
        exact ⟨rfl, _, _, _, h8, d9⟩
  · have e1 : D.askCut n m = 1 := by unfold Dk.askCut; rw [ha]; rfl
    rw [show D.cut n m = D by unfold Dk.cut; rw [e1]; rfl, e1]
    go_enter Try.func15, Try.ntmps15
    go_wp2_with fail
    refine (Rask_any n w h).mono ?_
    rw [ha]
    rintro e w' ⟨rfl, rfl⟩
    clear hd ha hn e1
    go_wp2
    go_ret
    exact ⟨rfl, _, _, _, h, RDid.refl _ _ _ _ _⟩

/-! ### Arm -/
theorem Try.infoInt : (Try.prog.info? 3).map (fun i => (i.zero, i.size, i.bytes)) = some (some (.int .i64 0), 1, 8) := by kernel_rfl
theorem int_one (zs : List Int) : ∀ u ∈ zs.map (Value.int .i64), u.oneCell' = true := by
  intro u hu
  obtain ⟨z, _, rfl⟩ := List.mem_map.1 hu
  rfl
theorem wpList_append_intn {ops : Array Oper} {rest : List Oper} {o : Oper} {a : Act} {w : World} {Q : Exit → Act → World → Prop} (hw : Region.wanted o (yielded ops a.tmps) = true) (sx : Operand)
    (ho : o.op = .call { callee := .builtin .append, args := #[.const (.slice none 0 0), sx], argTypes := #[29, 29] })
    (x : Value) (zs : List Int) (hx : a.eval sx = x) (hs : Sl w x (zs.map (Value.int .i64))) (hl : zs.length ≤ 17592186044416)
    (h : ∀ ao cap w', w'.ownsRow w.heap.size 3 1 (.slice ao zs.length cap) zs.length (zs.map (Value.int .i64)) → Below w.heap.size w w' → wpList Try.prog ops Q rest (a.put o.dst (.slice ao zs.length cap)) w') : wpList Try.prog ops Q (o :: rest) a w := by
  obtain ⟨i0, hi0, hz0, hz1, hz2⟩ := info_parts Try.infoInt
  have hla : (zs.map (Value.int .i64)).length = zs.length := List.length_map _
  obtain ⟨v1, w1, hr1, ho1, hg1, _⟩ := run_append_any (P := Try.prog) w w.heap.size 29 29 o.type 3 i0 _ 1 8 Try.underlying29 hi0 hz0 hz1 hz2 rfl (by omega) (.slice none 0 0) 0 [] (World.ownsRow_nil _ _ _ _) x _ _ (hs.src Try.underlying29 (int_one zs)) (by rw [hla]; unfold maxLen; omega) (by rw [hla]; omega) (Nat.le_refl _)
  have hb1 : Below w.heap.size w w1 := (Below.refl w.heap.size w).grown hg1 (Nat.le_refl _) (by simp [Value.ownBlock])
  rw [List.nil_append, hla, Nat.zero_add] at ho1
  obtain ⟨ao, cap, rfl⟩ := owns_form ho1
  refine BigFrame.wpList_want hw fun K hK => ?_
  unfold Oper.wp execOp
  have he : a.eval (.const (.slice none 0 0)) = .slice none 0 0 := rfl
  simp only [ho, resolve, invoke, builtin, Sem.run_bind, Sem.run_pure, Result.andThen_ok, List.map_toArray, List.map_cons, List.map_nil, he, hx, hr1]
  exact hK _ _ (h ao cap w1 ho1 hb1)

/-- Behind an Arm. -/
theorem RefIn.armed {w w1 : World} {B rp : Nat} {u0 u1 kv v' : Value} {D : Dk} {n : Int} {zs : List Int} {l : Nat} (hn : l = n.toNat) (hd : D.down = false) (h : RefIn w B rp u0 u1 kv D) (hb : Below w.heap.size w w1) (ho : w1.ownsRow w.heap.size 3 1 v' zs.length (zs.map (Value.int .i64))) :
    RefIn (((w1.setCell ⟨rp, 5, none⟩ (.bool true)).setCell ⟨rp, 6, none⟩ (.int .i64 (l : Int))).setCell ⟨rp, 7, none⟩ v') B rp u0 u1 v' (D.arm n zs) ∧ RDid w (((w1.setCell ⟨rp, 5, none⟩ (.bool true)).setCell ⟨rp, 6, none⟩ (.int .i64 (l : Int))).setCell ⟨rp, 7, none⟩ v') rp u0 u1 kv u0 u1 v' := by
  have h1 := h.below hb
  have hlt := lt_of_block h.block
  have hBw : B ≤ w.heap.size := by have := h.base; omega
  have hne : v'.ownBlock ≠ some rp := fun e => by have := (ho.lt _ e).1; omega
  have e : D.arm n zs = { D with armed := true, left := l, k0 := zs.getD 0 0, k1 := zs.getD 1 0 } := by unfold Dk.arm; rw [hd, hn]; rfl
  rw [e]
  have f : ∀ {v : Value} {e' : TypeId} {m : Nat} {xs : List Value} {b : Nat}, w1.ownsRow b e' 1 v m xs → v.ownBlock ≠ some rp → (((w1.setCell ⟨rp, 5, none⟩ (.bool true)).setCell ⟨rp, 6, none⟩ (.int .i64 (l : Int))).setCell ⟨rp, 7, none⟩ v').ownsRow b e' 1 v m xs := fun hv hr =>
    ownsRow_setCell_other (ownsRow_setCell_other (ownsRow_setCell_other hv (a := ⟨rp, 5, none⟩) hr _) (a := ⟨rp, 6, none⟩) hr _) (a := ⟨rp, 7, none⟩) hr _
  refine ⟨⟨by rw [blk_set (blk_set (blk_set h1.block))]; rfl, f h1.own0 h.ne0, f h1.own1 h.ne1, ⟨zs, f (ho.below_base B hBw) hne, fun _ => ⟨rfl, rfl⟩⟩, h.base, h.ne0, h.ne1, hne⟩, (((Keep.ofBelow (S := fun x => x = rp) hb).setCell (p := ⟨rp, 5, none⟩) rfl _).setCell (p := ⟨rp, 6, none⟩) rfl _).setCell (p := ⟨rp, 7, none⟩) rfl _, ?_⟩
  rintro k (e | e | e | e)
  · exact .inl (.inl e)
  · exact .inl (.inr (.inl e))
  · exact .inl (.inr (.inr (.inl e)))
  · exact .inr (ho.lt k e).1

set_option maxHeartbeats 1000000 in
theorem RArm_any {B rp : Nat} {u0 u1 kv sv : Value} {D : Dk} (n : Int) (zs : List Int) (w : World) (h : RefIn w B rp u0 u1 kv D) (hk : Sl w sv (zs.map (Value.int .i64))) (hzl : zs.length ≤ 10) :
    Calls Try.prog 17 #[.pointer (some ⟨rp, 0, none⟩), .int .i64 n, sv] w fun e w' => e = .returned (.tuple #[]) ∧ ∃ xk, RefIn w' B rp u0 u1 xk (D.arm n zs) ∧ RDid w w' rp u0 u1 kv u0 u1 xk := by
  obtain ⟨so, sc, rfl⟩ := hk.form
  rw [List.length_map] at hk ⊢
  cases hd : D.down
  · have hz : zs.length ≤ 17592186044416 := by omega
    have HA := hid (fun (w1 : World) (v' : Value) (l : Nat) (hn : l = n.toNat) => RefIn.armed (w1 := w1) (v' := v') (zs := zs) hn hd h)
    obtain ⟨a0, p0, hv0⟩ : ∃ a k c, kv = .slice a k c := by obtain ⟨zz, hz, _⟩ := h.keep; obtain ⟨a, c, e⟩ := owns_form hz; exact ⟨a, _, c, e⟩
    obtain ⟨p1, hv0⟩ := hv0
    have HH := hid h
    clear hzl
    by_cases hn : 0 < n
    · go_enter Try.func17, Try.ntmps17
      go_wp2_with fail
      refine (RDown_any w h).mono ?_
      rw [hd]
      rintro e w' ⟨rfl, rfl⟩
      clear hd h
      go_wp2_with (at_builtin; refine wpList_append_intn (by rfl) (.tmp 13) rfl _ zs rfl hk hz ?_; intro o5 c5 w5 own5 bel5; have h5 := HH.out.below bel5; have e5 := h5.c5; have e6 := h5.c6; have e7 := h5.c7; rw [hv0] at e7; have g5 := h5.free 5; have g6 := h5.free 6; have g7 := h5.free 7; have HB := hid bel5; have HO := hid own5; clear h5 bel5 own5)
      obtain ⟨l, hl⟩ : ∃ l : Nat, n = (l : Int) := ⟨n.toNat, by omega⟩
      subst hl
      obtain ⟨hr, dr⟩ := HA.out w5 _ l rfl HB.out HO.out
      go_end0
      exact ⟨rfl, _, hr, dr⟩
    · have hn0 : n ≤ 0 := by omega
      go_enter Try.func17, Try.ntmps17
      go_wp2_with fail
      refine (RDown_any w h).mono ?_
      rw [hd]
      rintro e w' ⟨rfl, rfl⟩
      clear hd h
      go_wp2_with (at_builtin; refine wpList_append_intn (by rfl) (.tmp 13) rfl _ zs rfl hk hz ?_; intro o5 c5 w5 own5 bel5; have h5 := HH.out.below bel5; have e5 := h5.c5; have e6 := h5.c6; have e7 := h5.c7; rw [hv0] at e7; have g5 := h5.free 5; have g6 := h5.free 6; have g7 := h5.free 7; have HB := hid bel5; have HO := hid own5; clear h5 bel5 own5)
      obtain ⟨hr, dr⟩ := HA.out w5 _ 0 (by omega) HB.out HO.out
      go_end0
      exact ⟨rfl, _, hr, dr⟩
  · rw [show D.arm n zs = D by unfold Dk.arm; rw [hd]; rfl]
    go_enter Try.func17, Try.ntmps17
    go_wp2_with fail
    refine (RDown_any w h).mono ?_
    rw [hd]
    rintro e w' ⟨rfl, rfl⟩
    clear hd
    go_wp2
    exact ret0 rfl rfl ⟨rfl, _, h, RDid.refl _ _ _ _ _⟩
end Go.Proofs.Ytblhabiginckbaa

/-
  Package disk: Append, Sync, Cut.
-/
import Derived.Test.YtblhabiginckbaaDskB
namespace Go.Proofs.Ytblhabiginckbaa
open Go.RowKit

/-- What a call on a disk leaves: all blocks but the disk's own stay; its blocks are the old ones, or new. -/
structure Did (w w' : World) (dp : Nat) (v0 v1 v0' v1' : Value) : Prop where
  keep : Keep (feet dp v0 v1) w w'
  new : ∀ k, feet dp v0' v1' k → feet dp v0 v1 k ∨ w.heap.size ≤ k
theorem Did.refl (w : World) (dp : Nat) (v0 v1 : Value) : Did w w dp v0 v1 v0 v1 := ⟨Keep.refl _ _, fun _ h => .inl h⟩
theorem Did.trans {a b c : World} {dp : Nat} {v0 v1 x0 x1 y0 y1 : Value} (h : Did a b dp v0 v1 x0 x1) (k : Did b c dp x0 x1 y0 y1) : Did a c dp v0 v1 y0 y1 := by
  have hs := h.keep.size
  refine ⟨⟨k.keep.os.trans h.keep.os, k.keep.tape.trans h.keep.tape, k.keep.output.trans h.keep.output, Nat.le_trans hs k.keep.size, fun i hi hb => ?_⟩, fun i hi => ?_⟩
  · refine (k.keep.block i (Nat.lt_of_lt_of_le hi hs) fun e => ?_).trans (h.keep.block i hi hb)
    rcases h.new i e with e' | e'
    · exact hb e'
    · omega
  · rcases k.new i hi with e | e
    · exact h.new i e
    · exact .inr (Nat.le_trans hs e)
theorem Did.ofBelow {w w' : World} {dp : Nat} {v0 v1 : Value} (h : Below w.heap.size w w') : Did w w' dp v0 v1 v0 v1 := ⟨Keep.ofBelow h, fun _ h => .inl h⟩
theorem Did.put {w : World} {dp : Nat} {v0 v1 : Value} (i : Nat) (u : Value) : Did w (w.setCell ⟨dp, i, none⟩ u) dp v0 v1 v0 v1 :=
  ⟨(Keep.refl _ _).setCell (p := ⟨dp, i, none⟩) (.inl rfl) u, fun _ h => .inl h⟩

theorem DiskIn.put {w : World} {dp : Nat} {v0 v1 : Value} {D D' : Dk} (h : DiskIn w dp v0 v1 D) (i : Nat) (u : Value) (hc : (dkCells D v0 v1).setIfInBounds i u = dkCells D' v0 v1) (h0 : D'.f0.b = D.f0.b) (h1 : D'.f1.b = D.f1.b) : DiskIn (w.setCell ⟨dp, i, none⟩ u) dp v0 v1 D' :=
  ⟨by rw [blk_set h.block, hc], by rw [h0]; exact ownsRow_setCell_other h.own0 (a := ⟨dp, i, none⟩) h.ne0 _, by rw [h1]; exact ownsRow_setCell_other h.own1 (a := ⟨dp, i, none⟩) h.ne1 _, h.ne0, h.ne1, h.apart⟩
theorem DiskIn.below {w w' : World} {dp : Nat} {v0 v1 : Value} {D : Dk} (h : DiskIn w dp v0 v1 D) (hb : Below w.heap.size w w') : DiskIn w' dp v0 v1 D :=
  h.kept (S := fun _ => False) (Keep.ofBelow hb) fun _ _ h => h

/-- A row grown in place of file 0's. -/
theorem DiskIn.grow0 {w w1 : World} {dp : Nat} {v0 v1 v' : Value} {D : Dk} {cs : List UInt8} (h : DiskIn w dp v0 v1 D) (hg : w.grownBy w1 v0.ownBlock) (ho : w1.ownsRow 0 5 1 v' (D.f0.b.length + cs.length) (Lib.byteCells (D.f0.b ++ cs))) (hat : v'.ownBlock = v0.ownBlock ∨ v'.ownBlock = some w.heap.size) :
    DiskIn (w1.setCell ⟨dp, 1, none⟩ v') dp v' v1 { D with f0 := ⟨D.f0.b ++ cs, D.f0.s⟩ } ∧ Did w (w1.setCell ⟨dp, 1, none⟩ v') dp v0 v1 v' v1 := by
  have hk : Keep (fun k => v0.ownBlock = some k) w w1 := (Keep.refl _ _).grown hg fun k _ e => e
  have hdp := lt_of_block h.block
  have hne : v'.ownBlock ≠ some dp := by
    rcases hat with e | e
    · rw [e]; exact h.ne0
    · rw [e]; intro e'; simp at e'; omega
  have hb1 := (hk.block dp hdp h.ne0).trans h.block
  refine ⟨⟨?_, ?_, ?_, hne, h.ne1, ?_⟩, ⟨?_, ?_⟩⟩
  · rw [blk_set hb1]; rfl
  · show (w1.setCell ⟨dp, 1, none⟩ v').ownsRow 0 5 1 v' (D.f0.b ++ cs).length _
    rw [List.length_append]
    exact ownsRow_setCell_other ho (a := ⟨dp, 1, none⟩) hne _
  · exact ownsRow_setCell_other (hk.owns h.own1 fun k e e' => h.apart k e' e) (a := ⟨dp, 1, none⟩) h.ne1 _
  · intro k e
    rcases hat with e' | e'
    · exact h.apart k (e'.symm.trans e)
    · rw [e'] at e
      intro e2
      have := own_lt h.own1 e2
      simp at e
      omega
  · refine ((hk.mono (T := feet dp v0 v1) fun k _ e => .inr (.inl e))).setCell (p := ⟨dp, 1, none⟩) (.inl rfl) v'
  · rintro k (e | e | e)
    · exact .inl (.inl e)
    · rcases hat with e' | e'
      · exact .inl (.inr (.inl (e'.symm.trans e)))
      · rw [e'] at e
        simp at e
        exact .inr (by omega)
    · exact .inl (.inr (.inr e))
theorem DiskIn.grow1 {w w1 : World} {dp : Nat} {v0 v1 v' : Value} {D : Dk} {cs : List UInt8} (h : DiskIn w dp v0 v1 D) (hg : w.grownBy w1 v1.ownBlock) (ho : w1.ownsRow 0 5 1 v' (D.f1.b.length + cs.length) (Lib.byteCells (D.f1.b ++ cs))) (hat : v'.ownBlock = v1.ownBlock ∨ v'.ownBlock = some w.heap.size) :
    DiskIn (w1.setCell ⟨dp, 3, none⟩ v') dp v0 v' { D with f1 := ⟨D.f1.b ++ cs, D.f1.s⟩ } ∧ Did w (w1.setCell ⟨dp, 3, none⟩ v') dp v0 v1 v0 v' := by
  have hk : Keep (fun k => v1.ownBlock = some k) w w1 := (Keep.refl _ _).grown hg fun k _ e => e
  have hdp := lt_of_block h.block
  have hne : v'.ownBlock ≠ some dp := by
    rcases hat with e | e
    · rw [e]; exact h.ne1
    · rw [e]; intro e'; simp at e'; omega
  have hb1 := (hk.block dp hdp h.ne1).trans h.block
  refine ⟨⟨?_, ?_, ?_, h.ne0, hne, ?_⟩, ⟨?_, ?_⟩⟩
  · rw [blk_set hb1]; rfl
  · exact ownsRow_setCell_other (hk.owns h.own0 fun k e e' => h.apart k e e') (a := ⟨dp, 3, none⟩) h.ne0 _
  · show (w1.setCell ⟨dp, 3, none⟩ v').ownsRow 0 5 1 v' (D.f1.b ++ cs).length _
    rw [List.length_append]
    exact ownsRow_setCell_other ho (a := ⟨dp, 3, none⟩) hne _
  · intro k e
    rcases hat with e' | e'
    · rw [e']; exact h.apart k e
    · rw [e']
      have := own_lt h.own0 e
      simp
      omega
  · refine ((hk.mono (T := feet dp v0 v1) fun k _ e => .inr (.inr e))).setCell (p := ⟨dp, 3, none⟩) (.inl rfl) v'
  · rintro k (e | e | e)
    · exact .inl (.inl e)
    · exact .inl (.inr (.inl e))
    · rcases hat with e' | e'
      · exact .inl (.inr (.inr (e'.symm.trans e)))
      · rw [e'] at e
        simp at e
        exact .inr (by omega)

theorem Sl.old' {w w' : World} {v : Value} {cs : List Value} (h : Sl w v cs) (hk : Below w.heap.size w w') : Sl w' v cs :=
  h.kept fun _ _ _ _ hlt => hk.block _ hlt

/-! ### The calls on a file's content -/
theorem own_take {w : World} {base : Nat} {e : TypeId} {ao : Option Addr} {m cap : Nat} {xs : List Value} (h : w.ownsRow base e 1 (.slice ao m cap) m xs) (n : Nat) (hn : n ≤ m) : w.ownsRow base e 1 (.slice ao n cap) n (xs.take n) := by
  have hl := h.1
  refine ⟨by rw [List.length_take]; omega, ?_⟩
  rcases h.2 with ⟨hv, hm⟩ | ⟨g, cap', cur, hv, hb, hg, hmc, hcm, hcs, htake⟩
  · obtain ⟨rfl, _, rfl⟩ := Value.slice.inj hv
    exact .inl ⟨by rw [show n = 0 by omega], by omega⟩
  · obtain ⟨rfl, _, rfl⟩ := Value.slice.inj hv
    refine .inr ⟨g, cap, cur, rfl, hb, hg, by omega, hcm, hcs, ?_⟩
    rw [← htake, List.take_take, Nat.min_eq_left (by omega), Nat.mul_one]

set_option maxHeartbeats 400000 in
theorem cadd_any (b o : Nat) (v src : Value) (bs cs : List UInt8) (w : World) (hc : w.cell? ⟨b, o, none⟩ = some v) (hf : w.frozen? ⟨b, o, none⟩ = false) (hown : w.ownsRow 0 5 1 v bs.length (Lib.byteCells bs)) (hne : v.ownBlock ≠ some b) (hs : Sl w src (Lib.byteCells cs)) (hlen : bs.length + cs.length ≤ 70368744177664) :
    Calls Try.prog 41 #[.pointer (some ⟨b, o, none⟩), src] w fun e w' => e = .returned (.tuple #[]) ∧ ∃ v' w1, w1.ownsRow 0 5 1 v' (bs.length + cs.length) (Lib.byteCells (bs ++ cs)) ∧ w.grownBy w1 v.ownBlock ∧ (v'.ownBlock = v.ownBlock ∨ v'.ownBlock = some w.heap.size) ∧ w' = w1.setCell ⟨b, o, none⟩ v' := by
  obtain ⟨i0, hi0, hz0, hz1, hz2⟩ := info_parts Try.info5
  have hbl := World.block_lt_of_cell? w _ hc
  have hcl := hid (Lib.byteCells_length cs)
  have h63 : bs.length + (Lib.byteCells cs).length ≤ maxLen := by rw [hcl.out]; unfold maxLen; omega
  have h47 : (bs.length + (Lib.byteCells cs).length) * 1 ≤ 140737488355328 := by rw [hcl.out]; omega
  go_enter Try.func41, Try.ntmps41
  go_wp2_with (refine wpList_append_any _ rfl _ _ _ _ rfl 0 5 i0 _ 1 1 Try.underlying28 hi0 hz0 hz1 hz2 rfl (by omega) v _ _ rfl hown _ _ _ rfl (hs.src Try.underlying28 (byte_one cs)) h63 h47 (Nat.zero_le _) ?_; intro v1 w1 hown1 hgrow hat; obtain ⟨ao, cp, rfl⟩ := owns_form hown1; have hbk := hgrow.block b hbl (fun e => hne e.symm); have q1 := (World.cell?_of_block (w := w) (w' := w1) (a := ⟨b, o, none⟩) hbk).trans hc; have q2 := (World.frozen?_of_block (w := w) (w' := w1) (a := ⟨b, o, none⟩) hbk).trans hf)
  go_end0
  rw [hcl.out, ← Lib.byteCells_append] at hown1
  rw [hcl.out] at hat
  exact ⟨rfl, _, _, hown1, hgrow, hat, by rw [hcl.out]⟩

theorem csync_any (b o o1 : Nat) (ho : o1 = o + 1) (ao : Option Addr) (n cap : Nat) (x : Value) (w : World) (hc : w.cell? ⟨b, o, none⟩ = some (.slice ao n cap)) (hc1 : w.cell? ⟨b, o1, none⟩ = some x) (hf : w.frozen? ⟨b, o1, none⟩ = false) :
    Calls Try.prog 33 #[.pointer (some ⟨b, o, none⟩)] w fun e w' => e = .returned (.tuple #[]) ∧ w' = w.setCell ⟨b, o1, none⟩ (.int .i64 (n : Int)) := by
  subst ho
  go_enter Try.func33, Try.ntmps33
  go_wp2
  go_end0
  exact ⟨rfl, rfl⟩
set_option maxHeartbeats 400000 in
theorem ccut_any (b o o1 : Nat) (ho : o1 = o + 1) (ao : Option Addr) (m cap n s : Nat) (hn : n ≤ m) (hm : m ≤ cap) (w : World) (hc : w.cell? ⟨b, o, none⟩ = some (.slice ao m cap)) (hc1 : w.cell? ⟨b, o1, none⟩ = some (.int .i64 (s : Int))) (hf : w.frozen? ⟨b, o, none⟩ = false) (hf1 : w.frozen? ⟨b, o1, none⟩ = false)
    :
    Calls Try.prog 37 #[.pointer (some ⟨b, o, none⟩), .int .i64 (n : Int)] w fun e w' => e = .returned (.tuple #[]) ∧ w' = (w.setCell ⟨b, o, none⟩ (.slice ao n cap)).setCell ⟨b, o1, none⟩ (.int .i64 ((min s n : Nat) : Int)) := by
  subst ho
  have h0 : (0 : Int) ≤ (n : Int) := Int.natCast_nonneg _
  have h1 : (n : Int) ≤ (cap : Int) := by omega
  go_enter Try.func37, Try.ntmps37
  go_wp2
  all_goals
    go_end0
  · exact ⟨rfl, by rw [Nat.min_eq_right (by omega)]⟩
  · exact ⟨rfl, by rw [Nat.min_eq_left (by omega)]⟩

/-! ### step -/
theorem step_any {dp : Nat} {v0 v1 : Value} {D : Dk} (w : World) (h : DiskIn w dp v0 v1 D) (hd : D.down = false) (hl : D.left ≤ 9223372036854775807) :
    Calls Try.prog 34 #[.pointer (some ⟨dp, 0, none⟩)] w fun e w' => e = .returned (.tuple #[]) ∧ DiskIn w' dp v0 v1 D.step ∧ Did w w' dp v0 v1 v0 v1 := by
  have h5 := h.c5
  have h6 := h.c6
  have f6 := h.free 6
  cases ha : D.armed
  · rw [ha] at h5
    rw [show D.step = D by unfold Dk.step; rw [ha]; rfl]
    clear ha
    go_enter Try.func34, Try.ntmps34
    go_wp2
    go_end0
    exact ⟨rfl, h, Did.refl _ _ _ _⟩
  · rw [ha] at h5
    rw [show D.step = { D with left := D.left - 1 } by unfold Dk.step; rw [ha]; rfl]
    obtain ⟨m, hm⟩ : ∃ m : Nat, D.left = m + 1 := by
      unfold Dk.down at hd
      rw [ha] at hd
      have : D.left ≠ 0 := by simpa using hd
      exact ⟨D.left - 1, by omega⟩
    have hP := h.put (D' := { D with left := D.left - 1 }) 6 (.int .i64 (m : Int)) (by rw [hm]; rfl) rfl rfl
    have HP := hid hP
    have hx : ((D.left : Nat) : Int) = (m : Int) + 1 := by omega
    rw [hx] at h6
    have hmb : (m : Int) ≤ 9223372036854775806 := by omega
    clear ha hd hl hm hx hP
    go_enter Try.func34, Try.ntmps34
    go_wp2
    go_end0
    refine ⟨rfl, ?_, ?_⟩
    · have := HP.out
      simpa using this
    · exact Did.put _ _

/-! ### Append, Sync, Cut -/
/-- What is wrong with an Append of so many bytes. -/
def Dk.askAppend (D : Dk) (n : Int) (m : Nat) : Int := if D.ask n = 0 then (if D.free < m then 3 else 0) else D.ask n
def Dk.append (D : Dk) (n : Int) (cs : List UInt8) : Dk := if D.askAppend n cs.length = 0 then (if n = 0 then { D with f0 := ⟨D.f0.b ++ cs, D.f0.s⟩ } else { D with f1 := ⟨D.f1.b ++ cs, D.f1.s⟩ }).step else D

set_option maxHeartbeats 1000000 in
theorem Append_any {dp : Nat} {v0 v1 src : Value} {D : Dk} (n : Int) (cs : List UInt8) (w : World) (h : DiskIn w dp v0 v1 D) (hw : D.Wf) (hl : D.left ≤ 9223372036854775807) (hs : Sl w src (Lib.byteCells cs)) :
    Calls Try.prog 21 #[.pointer (some ⟨dp, 0, none⟩), .int .i64 n, src] w fun e w' => e = .returned (.int .i64 (D.askAppend n cs.length)) ∧ ∃ v0' v1', DiskIn w' dp v0' v1' (D.append n cs) ∧ Did w w' dp v0 v1 v0' v1' := by
  have hr := hw.room
  have hm := hw.most
  obtain ⟨so, sc, rfl⟩ := hs.form
  rw [Lib.byteCells_length] at hs ⊢
  rcases D.ask_cases n with ⟨hd, ha⟩ | ⟨hd, hn, ha⟩ | ⟨hd, hn, ha⟩ | ⟨hd, hn, ha⟩
  · have e1 : D.askAppend n cs.length = 7 := by unfold Dk.askAppend; rw [ha]; rfl
    rw [show D.append n cs = D by unfold Dk.append; rw [e1]; rfl, e1]
    go_enter Try.func21, Try.ntmps21
    go_wp2_with fail
    refine (find_down _ _ h hd).mono ?_
    rintro e w' ⟨rfl, rfl⟩
    clear hd ha e1
    go_wp2
    go_ret
    exact ⟨rfl, _, _, h, Did.refl _ _ _ _⟩
  · subst hn
    by_cases hf : D.free < cs.length
    · have e1 : D.askAppend 0 cs.length = 3 := by unfold Dk.askAppend; rw [ha, if_pos rfl, if_pos hf]
      rw [show D.append 0 cs = D by unfold Dk.append; rw [e1]; rfl, e1]
      have hF := h.free_val hw
      go_enter Try.func21, Try.ntmps21
      go_wp2_with fail
      refine (find_ok 0 (by omega) _ h hd).mono ?_
      rintro e w' ⟨rfl, rfl⟩
      clear hd ha e1
      go_wp2_with fail
      refine hF.mono ?_
      rintro e w' ⟨rfl, hb⟩
      go_wp2
      go_ret
      exact ⟨rfl, _, _, h.below hb, Did.ofBelow hb⟩
    · have e1 : D.askAppend 0 cs.length = 0 := by unfold Dk.askAppend; rw [ha, if_pos rfl, if_neg hf]
      rw [show D.append 0 cs = ({ D with f0 := ⟨D.f0.b ++ cs, D.f0.s⟩ } : Dk).step by unfold Dk.append; rw [e1]; rfl, e1]
      have hF := h.free_val hw
      have hlen : D.f0.b.length + cs.length ≤ 70368744177664 := by unfold Dk.free at hf; omega
      go_enter Try.func21, Try.ntmps21
      go_wp2_with fail
      refine (find_ok 0 (by omega) _ h hd).mono ?_
      rintro e w' ⟨rfl, rfl⟩
      clear ha e1
      go_wp2_with fail
      refine hF.mono ?_
      rintro e w1 ⟨rfl, hb⟩
      have h1 := h.below hb
      have d1 := Did.ofBelow (dp := dp) (v0 := v0) (v1 := v1) hb
      have hs1 := hs.old' hb
      clear hF
      go_wp2_with fail
      refine (cadd_any dp 1 v0 _ D.f0.b cs w1 h1.c1 (h1.free 1) h1.own0 h1.ne0 hs1 hlen).mono ?_
      rintro e w3 ⟨rfl, v', w2, hown, hgrow, hat, rfl⟩
      obtain ⟨h2, d2⟩ := h1.grow0 hgrow hown hat
      clear hown hgrow hat
      generalize w2.setCell ⟨dp, 1, none⟩ v' = w3 at h2 d2
      go_wp2_with fail
      refine (step_any w3 h2 hd hl).mono ?_
      rintro e w4 ⟨rfl, h3, d3⟩
      clear hd
      go_wp2
      go_ret
      exact ⟨rfl, _, _, h3, (d1.trans d2).trans d3⟩
  · subst hn
    by_cases hf : D.free < cs.length
    · have e1 : D.askAppend 1 cs.length = 3 := by unfold Dk.askAppend; rw [ha, if_pos rfl, if_pos hf]
      rw [show D.append 1 cs = D by unfold Dk.append; rw [e1]; rfl, e1]
      have hF := h.free_val hw
      go_enter Try.func21, Try.ntmps21
      go_wp2_with fail
      refine (find_ok 1 (by omega) _ h hd).mono ?_
      rintro e w' ⟨rfl, rfl⟩
      clear hd ha e1
      go_wp2_with fail
      refine hF.mono ?_
      rintro e w' ⟨rfl, hb⟩
      go_wp2
      go_ret
      exact ⟨rfl, _, _, h.below hb, Did.ofBelow hb⟩
    · have e1 : D.askAppend 1 cs.length = 0 := by unfold Dk.askAppend; rw [ha, if_pos rfl, if_neg hf]
      rw [show D.append 1 cs = ({ D with f1 := ⟨D.f1.b ++ cs, D.f1.s⟩ } : Dk).step by unfold Dk.append; rw [e1]; rfl, e1]
      have hF := h.free_val hw
      have hlen : D.f1.b.length + cs.length ≤ 70368744177664 := by unfold Dk.free at hf; omega
      go_enter Try.func21, Try.ntmps21
      go_wp2_with fail
      refine (find_ok 1 (by omega) _ h hd).mono ?_
      rintro e w' ⟨rfl, rfl⟩
      clear ha e1
      go_wp2_with fail
      refine hF.mono ?_
      rintro e w1 ⟨rfl, hb⟩
      have h1 := h.below hb
      have d1 := Did.ofBelow (dp := dp) (v0 := v0) (v1 := v1) hb
      have hs1 := hs.old' hb
      clear hF
      go_wp2_with fail
      refine (cadd_any dp 3 v1 _ D.f1.b cs w1 h1.c3 (h1.free 3) h1.own1 h1.ne1 hs1 hlen).mono ?_
      rintro e w3 ⟨rfl, v', w2, hown, hgrow, hat, rfl⟩
      obtain ⟨h2, d2⟩ := h1.grow1 hgrow hown hat
      clear hown hgrow hat
      generalize w2.setCell ⟨dp, 3, none⟩ v' = w3 at h2 d2
      go_wp2_with fail
      refine (step_any w3 h2 hd hl).mono ?_
      rintro e w4 ⟨rfl, h3, d3⟩
      clear hd
      go_wp2
      go_ret
      exact ⟨rfl, _, _, h3, (d1.trans d2).trans d3⟩
  · have e1 : D.askAppend n cs.length = 1 := by unfold Dk.askAppend; rw [ha]; rfl
    rw [show D.append n cs = D by unfold Dk.append; rw [e1]; rfl, e1]
    go_enter Try.func21, Try.ntmps21
    go_wp2_with fail
    refine (find_bad _ hn _ h hd).mono ?_
    rintro e w' ⟨rfl, rfl⟩
    clear hd ha e1 hn
    go_wp2
    go_ret
    exact ⟨rfl, _, _, h, Did.refl _ _ _ _⟩
theorem Append_nil (n : Int) (v : Value) (w : World) : Calls Try.prog 21 #[.pointer none, .int .i64 n, v] w fun e w' => e = .returned (.int .i64 2) ∧ w = w' := by
  go_enter Try.func21, Try.ntmps21
  go_wp2_with fail
  refine (find_nil _ _).mono ?_
  rintro e w' ⟨rfl, rfl⟩
  go_wp2
  go_ret
  exact ⟨rfl, rfl⟩
end Go.Proofs.Ytblhabiginckbaa

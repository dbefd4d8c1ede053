/-
  The document's own disk (rickref03): Free, Synced, Read, New, Sync.
-/
import Derived.Test.YtblhabiginckbaaRdsA
namespace Go.Proofs.Ytblhabiginckbaa
open Go.RowKit

theorem bel_drew (w : World) : Below w.heap.size w w.drew := ⟨rfl, rfl, rfl, Nat.le_refl _, fun _ _ => rfl⟩

set_option maxHeartbeats 1000000 in
theorem RFree_any {B rp : Nat} {u0 u1 kv : Value} {D : Dk} (w : World) (h : RefIn w B rp u0 u1 kv D) (hw : D.Wf) :
    Calls Try.prog 42 #[.pointer (some ⟨rp, 0, none⟩)] w fun e w' => e = .returned (.int .i64 (D.free : Int)) ∧ w = w' := by
  have hr := hw.room
  have hm := hw.most
  obtain ⟨a0, p0, hv0⟩ := owns_form h.own0
  obtain ⟨a1, p1, hv1⟩ := owns_form h.own1
  subst hv0 hv1
  have e0 := h.c0
  have e1 := h.c1
  have e3 := h.c3
  have hf : (D.free : Int) = (D.room : Int) - (D.f0.b.length : Int) - (D.f1.b.length : Int) := by unfold Dk.free; omega
  have HF := hid hf
  clear hf
  go_enter Try.func42, Try.ntmps42
  go_wp2
  go_loop [3, 4] (fun fr i => ∃ k : Nat, k ≤ 2 ∧ i = .int .i64 (k : Int) ∧ fr = .int .i64 ((D.room : Int) - (if k = 0 then 0 else (D.f0.b.length : Int)) - (if k = 2 then (D.f1.b.length : Int) else 0))) (fun _ i => 2 - (intOf i).toNat)
  case atStart => exact ⟨0, by omega, rfl, by simp⟩
  case round =>
    obtain ⟨k, hk, rfl, rfl⟩ := hrel
    have h3 : k = 0 ∨ k = 1 ∨ k = 2 := by omega
    clear hk
    rcases h3 with rfl | rfl | rfl
    · rw [if_pos rfl, if_neg (by omega), Int.sub_zero, Int.sub_zero, show ((0 : Nat) : Int) = 0 from rfl]
      go_wp2
      go_round
      case rel => exact ⟨1, by omega, rfl, by simp⟩
      case measure => simp [intOf]
    · rw [if_neg (by omega), if_neg (by omega), Int.sub_zero, show ((1 : Nat) : Int) = 1 from rfl]
      go_wp2
      go_round
      case rel => exact ⟨2, by omega, rfl, by simp⟩
      case measure => simp [intOf]
    · rw [if_neg (by omega), if_pos rfl, show ((2 : Nat) : Int) = 2 from rfl]
      go_wp2
      go_ret
      exact ⟨by rw [HF.out]; rfl, rfl⟩

set_option maxHeartbeats 400000 in
theorem RSynced_any {B rp : Nat} {u0 u1 kv : Value} {D : Dk} (n : Int) (w : World) (h : RefIn w B rp u0 u1 kv D) :
    Calls Try.prog 45 #[.pointer (some ⟨rp, 0, none⟩), .int .i64 n] w fun e w' => e = .returned (.int .i64 (D.synced n : Int)) ∧ w = w' := by
  have h2 := h.c2
  have h4 := h.c4
  by_cases n0 : n = 0
  · subst n0
    rw [show D.synced 0 = D.f0.s from rfl]
    go_enter Try.func45, Try.ntmps45
    go_wp2
    go_ret
    exact ⟨rfl, rfl⟩
  · by_cases n1 : n = 1
    · subst n1
      rw [show D.synced 1 = D.f1.s from rfl]
      go_enter Try.func45, Try.ntmps45
      go_wp2
      go_ret
      exact ⟨rfl, rfl⟩
    · rw [show D.synced n = 0 by unfold Dk.synced; rw [if_neg n0, if_neg n1]]
      by_cases hneg : n < 0
      · clear n0 n1
        go_enter Try.func45, Try.ntmps45
        go_wp2
        go_ret
        exact ⟨rfl, rfl⟩
      · have i2 : 2 ≤ n := by omega
        have i0 : 0 ≤ n := by omega
        clear n0 n1 hneg
        go_enter Try.func45, Try.ntmps45
        go_wp2
        go_ret
        exact ⟨rfl, rfl⟩

set_option maxHeartbeats 400000 in
theorem RRead_any {B rp : Nat} {u0 u1 kv : Value} {D : Dk} (n : Int) (w : World) (h : RefIn w B rp u0 u1 kv D) (hw : D.Wf) :
    Calls Try.prog 44 #[.pointer (some ⟨rp, 0, none⟩), .int .i64 n] w fun e w' => ∃ v', e = .returned (.tuple #[v', .int .i64 (D.ask n)]) ∧ w'.ownsRow w.heap.size 5 1 v' (D.read n).length (Lib.byteCells (D.read n)) ∧ Below w.heap.size w w' := by
  have hr := hw.room
  have hm := hw.most
  obtain ⟨a0, p0, hv0⟩ := owns_form h.own0
  obtain ⟨a1, p1, hv1⟩ := owns_form h.own1
  subst hv0 hv1
  have h1 := h.c1
  have h3 := h.c3
  rcases D.ask_cases n with ⟨hd, ha⟩ | ⟨hd, hn, ha⟩ | ⟨hd, hn, ha⟩ | ⟨hd, hn, ha⟩
  · rw [show D.read n = [] by unfold Dk.read; rw [ha]; rfl, ha]
    go_enter Try.func44, Try.ntmps44
    go_wp2_with fail
    refine (Rask_any n w h).mono ?_
    rw [ha]
    rintro e w' ⟨rfl, rfl⟩
    clear hd ha
    go_wp2
    go_ret2
    exact ⟨_, rfl, World.ownsRow_nil _ _ _ _, Below.refl _ _⟩
  · subst hn
    rw [show D.read 0 = D.f0.b by unfold Dk.read; rw [ha]; rfl, ha]
    have hs := Sl.ofOwns h.own0
    have hl : D.f0.b.length ≤ 70368744177664 := by omega
    go_enter Try.func44, Try.ntmps44
    go_wp2_with fail
    refine (Rask_any 0 w h).mono ?_
    rw [ha]
    rintro e w' ⟨rfl, rfl⟩
    clear hd ha
    go_wp2_with (at_builtin; refine wpList_append_u8n (by rfl) (.tmp 19) rfl _ D.f0.b rfl hs hl ?_; intro o5 c5 w5 own5 bel5)
    go_ret2
    exact ⟨_, rfl, own5, bel5⟩
  · subst hn
    rw [show D.read 1 = D.f1.b by unfold Dk.read; rw [ha]; rfl, ha]
    have hs := Sl.ofOwns h.own1
    have hl : D.f1.b.length ≤ 70368744177664 := by omega
    go_enter Try.func44, Try.ntmps44
    go_wp2_with fail
    refine (Rask_any 1 w h).mono ?_
    rw [ha]
    rintro e w' ⟨rfl, rfl⟩
    clear hd ha
    go_wp2_with (at_builtin; refine wpList_append_u8n (by rfl) (.tmp 19) rfl _ D.f1.b rfl hs hl ?_; intro o5 c5 w5 own5 bel5)
    go_ret2
    exact ⟨_, rfl, own5, bel5⟩
  · rw [show D.read n = [] by unfold Dk.read; rw [ha]; rfl, ha]
    go_enter Try.func44, Try.ntmps44
    go_wp2_with fail
    refine (Rask_any n w h).mono ?_
    rw [ha]
    rintro e w' ⟨rfl, rfl⟩
    clear hd ha hn
    go_wp2
    go_ret2
    exact ⟨_, rfl, World.ownsRow_nil _ _ _ _, Below.refl _ _⟩

theorem RNew_any (n : Int) (w : World) : Calls Try.prog 10 #[.int .i64 n] w fun e w' => e = .returned (.pointer (some ⟨w.heap.size, 0, none⟩)) ∧ RefIn w' w.heap.size w.heap.size (.slice none 0 0) (.slice none 0 0) (.slice none 0 0) (Dk.new n) ∧ Below w.heap.size w w' := by
  have hR : ∀ wz (x : Int), x = (((heldI n 1000000).toNat : Nat) : Int) → wz = w.alloc (.cells #[.int .i64 x, .slice none 0 0, .int .i64 0, .slice none 0 0, .int .i64 0, .bool false, .int .i64 0, .slice none 0 0] 66) → RefIn wz w.heap.size w.heap.size (.slice none 0 0) (.slice none 0 0) (.slice none 0 0) (Dk.new n) ∧ Below w.heap.size w wz := by
    intro wz x hx hz
    subst hx hz
    refine ⟨⟨?_, World.ownsRow_nil _ _ _ _, World.ownsRow_nil _ _ _ _, ⟨[], World.ownsRow_nil _ _ _ _, fun h => by cases h⟩, Nat.le_refl _, by simp [Value.ownBlock], by simp [Value.ownBlock], by simp [Value.ownBlock]⟩, (Below.refl _ _).alloc (Nat.le_refl _) _⟩
    rw [heap_alloc_new]
    rfl
  have HR := hid hR
  clear hR
  by_cases c1 : 1000000 < n
  · go_enter Try.func10, Try.ntmps10
    go_wp2
    go_ret
    exact ⟨rfl, HR.out _ 1000000 (by unfold heldI; omega) rfl⟩
  · by_cases c2 : 0 < n
    · have c3 : n ≤ 1000000 := by omega
      go_enter Try.func10, Try.ntmps10
      go_wp2
      go_ret
      exact ⟨rfl, HR.out _ n (by unfold heldI; omega) rfl⟩
    · have c3 : n ≤ 1000000 := by omega
      have c4 : n ≤ 0 := by omega
      go_enter Try.func10, Try.ntmps10
      go_wp2
      go_ret
      exact ⟨rfl, HR.out _ 0 (by unfold heldI; omega) rfl⟩

set_option maxHeartbeats 1000000 in
theorem RSync_any {B rp : Nat} {u0 u1 kv : Value} {D : Dk} (n : Int) (w : World) (h : RefIn w B rp u0 u1 kv D) (hl : D.left ≤ 9223372036854775807) :
    Calls Try.prog 13 #[.pointer (some ⟨rp, 0, none⟩), .int .i64 n] w fun e w' => e = .returned (.int .i64 (D.ask n)) ∧ RefIn w' B rp u0 u1 kv (D.sync n) ∧ RDid w w' rp u0 u1 kv u0 u1 kv := by
  rcases D.ask_cases n with ⟨hd, ha⟩ | ⟨hd, hn, ha⟩ | ⟨hd, hn, ha⟩ | ⟨hd, hn, ha⟩
  · rw [show D.sync n = D by unfold Dk.sync; rw [ha]; rfl, ha]
    go_enter Try.func13, Try.ntmps13
    go_wp2_with fail
    refine (Rask_any n w h).mono ?_
    rw [ha]
    rintro e w' ⟨rfl, rfl⟩
    clear hd ha
    go_wp2
    go_ret
    exact ⟨rfl, h, RDid.refl _ _ _ _ _⟩
  · subst hn
    rw [show D.sync 0 = ({ D with f0 := ⟨D.f0.b, D.f0.b.length⟩ } : Dk).step by unfold Dk.sync; rw [ha]; rfl, ha]
    have h2 := h.put (D' := { D with f0 := ⟨D.f0.b, D.f0.b.length⟩ }) 2 (.int .i64 (D.f0.b.length : Int)) rfl rfl rfl ⟨rfl, rfl, rfl⟩
    have d2 := RDid.put (w := w) (rp := rp) (u0 := u0) (u1 := u1) (kv := kv) 2 (.int .i64 (D.f0.b.length : Int))
    obtain ⟨ao, cap, hv⟩ := owns_form h.own0
    have c1 := h.c1
    rw [hv] at c1
    have c2 := h.c2
    have g2 := h.free 2
    have H2 := hid (h2.below (bel_drew _))
    have D2 := hid (d2.trans (RDid.ofBelow (bel_drew _)))
    clear h2 d2 hv
    go_enter Try.func13, Try.ntmps13
    go_wp2_with fail
    refine (Rask_any 0 w h).mono ?_
    rw [ha]
    rintro e w' ⟨rfl, rfl⟩
    clear ha
    go_wp2
    go_region
    clear c1 c2 g2
    go_wp2_with fail
    refine (Rstep_any _ H2.out hd hl).mono ?_
    rintro e w4 ⟨rfl, h4, d4⟩
    have d5 := D2.out.trans d4
    clear hd
    go_wp2
    go_ret
    exact ⟨rfl, h4, d5⟩
  · subst hn
    rw [show D.sync 1 = ({ D with f1 := ⟨D.f1.b, D.f1.b.length⟩ } : Dk).step by unfold Dk.sync; rw [ha]; rfl, ha]
    have h2 := h.put (D' := { D with f1 := ⟨D.f1.b, D.f1.b.length⟩ }) 4 (.int .i64 (D.f1.b.length : Int)) rfl rfl rfl ⟨rfl, rfl, rfl⟩
    have d2 := RDid.put (w := w) (rp := rp) (u0 := u0) (u1 := u1) (kv := kv) 4 (.int .i64 (D.f1.b.length : Int))
    obtain ⟨ao, cap, hv⟩ := owns_form h.own1
    have c1 := h.c3
    rw [hv] at c1
    have c2 := h.c4
    have g2 := h.free 4
    have H2 := hid (h2.below (bel_drew _))
    have D2 := hid (d2.trans (RDid.ofBelow (bel_drew _)))
    clear h2 d2 hv
    go_enter Try.func13, Try.ntmps13
    go_wp2_with fail
    refine (Rask_any 1 w h).mono ?_
    rw [ha]
    rintro e w' ⟨rfl, rfl⟩
    clear ha
    go_wp2
    go_region
    clear c1 c2 g2
    go_wp2_with fail
    refine (Rstep_any _ H2.out hd hl).mono ?_
    rintro e w4 ⟨rfl, h4, d4⟩
    have d5 := D2.out.trans d4
    clear hd
    go_wp2
    go_ret
    exact ⟨rfl, h4, d5⟩
  · rw [show D.sync n = D by unfold Dk.sync; rw [ha]; rfl, ha]
    go_enter Try.func13, Try.ntmps13
    go_wp2_with fail
    refine (Rask_any n w h).mono ?_
    rw [ha]
    rintro e w' ⟨rfl, rfl⟩
    clear hd ha hn
    go_wp2
    go_ret
    exact ⟨rfl, h, RDid.refl _ _ _ _ _⟩
end Go.Proofs.Ytblhabiginckbaa

/-
  Package disk: Sync, Cut.
-/
import Derived.Test.YtblhabiginckbaaDskC
namespace Go.Proofs.Ytblhabiginckbaa
open Go.RowKit

theorem own_cap {w : World} {base : Nat} {e : TypeId} {ao : Option Addr} {n m cap : Nat} {xs : List Value} (h : w.ownsRow base e 1 (.slice ao n cap) m xs) : m ≤ cap := by
  rcases h.2 with ⟨hv, hm⟩ | ⟨g, cap', cur, hv, hb, hg, hmc, hcm, hcs, htake⟩
  · omega
  · obtain ⟨_, _, rfl⟩ := Value.slice.inj hv
    exact hmc
theorem DiskIn.cut0 {w : World} {dp : Nat} {ao : Option Addr} {m cap : Nat} {v1 : Value} {D : Dk} (h : DiskIn w dp (.slice ao m cap) v1 D) (n : Nat) (hn : n ≤ D.f0.b.length) (hm : m = D.f0.b.length) :
    DiskIn ((w.setCell ⟨dp, 1, none⟩ (.slice ao n cap)).setCell ⟨dp, 2, none⟩ (.int .i64 ((min D.f0.s n : Nat) : Int))) dp (.slice ao n cap) v1 { D with f0 := ⟨D.f0.b.take n, min D.f0.s n⟩ } ∧ Did w ((w.setCell ⟨dp, 1, none⟩ (.slice ao n cap)).setCell ⟨dp, 2, none⟩ (.int .i64 ((min D.f0.s n : Nat) : Int))) dp (.slice ao m cap) v1 (.slice ao n cap) v1 := by
  subst hm
  have hob : (Value.slice ao n cap).ownBlock = (Value.slice ao D.f0.b.length cap).ownBlock := by cases ao <;> rfl
  have hown := own_take h.own0 n hn
  have hlen : (D.f0.b.take n).length = n := by rw [List.length_take]; omega
  have hbc : Lib.byteCells (D.f0.b.take n) = (Lib.byteCells D.f0.b).take n := by simp [Lib.byteCells]
  refine ⟨⟨?_, ?_, ?_, ?_, ?_, ?_⟩, ?_⟩
  · rw [blk_set (blk_set h.block)]; rfl
  · show (World.setCell _ _ _).ownsRow 0 5 1 _ (D.f0.b.take n).length (Lib.byteCells (D.f0.b.take n))
    rw [hlen, hbc]
    exact ownsRow_setCell_other (ownsRow_setCell_other hown (a := ⟨dp, 1, none⟩) (by rw [hob]; exact h.ne0) _) (a := ⟨dp, 2, none⟩) (by rw [hob]; exact h.ne0) _
  · exact ownsRow_setCell_other (ownsRow_setCell_other h.own1 (a := ⟨dp, 1, none⟩) h.ne1 _) (a := ⟨dp, 2, none⟩) h.ne1 _
  · rw [hob]; exact h.ne0
  · exact h.ne1
  · intro k e
    rw [hob] at e
    exact h.apart k e
  · refine ⟨((Keep.refl _ _).setCell (p := ⟨dp, 1, none⟩) (.inl rfl) _).setCell (p := ⟨dp, 2, none⟩) (.inl rfl) _, fun k e => .inl ?_⟩
    unfold feet at e ⊢
    rw [hob] at e
    exact e
theorem DiskIn.cut1 {w : World} {dp : Nat} {ao : Option Addr} {m cap : Nat} {v0 : Value} {D : Dk} (h : DiskIn w dp v0 (.slice ao m cap) D) (n : Nat) (hn : n ≤ D.f1.b.length) (hm : m = D.f1.b.length) :
    DiskIn ((w.setCell ⟨dp, 3, none⟩ (.slice ao n cap)).setCell ⟨dp, 4, none⟩ (.int .i64 ((min D.f1.s n : Nat) : Int))) dp v0 (.slice ao n cap) { D with f1 := ⟨D.f1.b.take n, min D.f1.s n⟩ } ∧ Did w ((w.setCell ⟨dp, 3, none⟩ (.slice ao n cap)).setCell ⟨dp, 4, none⟩ (.int .i64 ((min D.f1.s n : Nat) : Int))) dp v0 (.slice ao m cap) v0 (.slice ao n cap) := by
  subst hm
  have hob : (Value.slice ao n cap).ownBlock = (Value.slice ao D.f1.b.length cap).ownBlock := by cases ao <;> rfl
  have hown := own_take h.own1 n hn
  have hlen : (D.f1.b.take n).length = n := by rw [List.length_take]; omega
  have hbc : Lib.byteCells (D.f1.b.take n) = (Lib.byteCells D.f1.b).take n := by simp [Lib.byteCells]
  refine ⟨⟨?_, ?_, ?_, ?_, ?_, ?_⟩, ?_⟩
  · rw [blk_set (blk_set h.block)]; rfl
  · exact ownsRow_setCell_other (ownsRow_setCell_other h.own0 (a := ⟨dp, 3, none⟩) h.ne0 _) (a := ⟨dp, 4, none⟩) h.ne0 _
  · show (World.setCell _ _ _).ownsRow 0 5 1 _ (D.f1.b.take n).length (Lib.byteCells (D.f1.b.take n))
    rw [hlen, hbc]
    exact ownsRow_setCell_other (ownsRow_setCell_other hown (a := ⟨dp, 3, none⟩) (by rw [hob]; exact h.ne1) _) (a := ⟨dp, 4, none⟩) (by rw [hob]; exact h.ne1) _
  · exact h.ne0
  · rw [hob]; exact h.ne1
  · intro k e
    rw [hob]
    exact h.apart k e
  · refine ⟨((Keep.refl _ _).setCell (p := ⟨dp, 3, none⟩) (.inl rfl) _).setCell (p := ⟨dp, 4, none⟩) (.inl rfl) _, fun k e => .inl ?_⟩
    unfold feet at e ⊢
    rw [hob] at e
    exact e

def Dk.sync (D : Dk) (n : Int) : Dk := if D.ask n = 0 then (if n = 0 then { D with f0 := ⟨D.f0.b, D.f0.b.length⟩ } else { D with f1 := ⟨D.f1.b, D.f1.b.length⟩ }).step else D
/-- What is wrong with a Cut. -/
def Dk.askCut (D : Dk) (n m : Int) : Int := if D.ask n = 0 then (if m < 0 ∨ ((if n = 0 then D.f0.b.length else D.f1.b.length : Nat) : Int) < m then 1 else 0) else D.ask n
def Dk.cut (D : Dk) (n m : Int) : Dk := if D.askCut n m = 0 then (if n = 0 then { D with f0 := ⟨D.f0.b.take m.toNat, min D.f0.s m.toNat⟩ } else { D with f1 := ⟨D.f1.b.take m.toNat, min D.f1.s m.toNat⟩ }).step else D

set_option maxHeartbeats 1000000 in
theorem Sync_any {dp : Nat} {v0 v1 : Value} {D : Dk} (n : Int) (w : World) (h : DiskIn w dp v0 v1 D) (hl : D.left ≤ 9223372036854775807) :
    Calls Try.prog 12 #[.pointer (some ⟨dp, 0, none⟩), .int .i64 n] w fun e w' => e = .returned (.int .i64 (D.ask n)) ∧ ∃ v0' v1', DiskIn w' dp v0' v1' (D.sync n) ∧ Did w w' dp v0 v1 v0' v1' := by
  rcases D.ask_cases n with ⟨hd, ha⟩ | ⟨hd, hn, ha⟩ | ⟨hd, hn, ha⟩ | ⟨hd, hn, ha⟩
  · rw [show D.sync n = D by unfold Dk.sync; rw [ha]; rfl, ha]
    go_enter Try.func12, Try.ntmps12
    go_wp2_with fail
    refine (find_down _ _ h hd).mono ?_
    rintro e w' ⟨rfl, rfl⟩
    clear hd ha
    go_wp2
    go_ret
    exact ⟨rfl, _, _, h, Did.refl _ _ _ _⟩
  · subst hn
    have e1 : D.ask 0 = 0 := ha
    rw [show D.sync 0 = ({ D with f0 := ⟨D.f0.b, D.f0.b.length⟩ } : Dk).step by unfold Dk.sync; rw [e1]; rfl, e1]
    obtain ⟨ao, cap, hv⟩ := owns_form h.own0
    subst hv
    have h2 := h.put (D' := { D with f0 := ⟨D.f0.b, D.f0.b.length⟩ }) 2 (.int .i64 (D.f0.b.length : Int)) rfl rfl rfl
    have d2 := Did.put (w := w) (dp := dp) (v0 := .slice ao D.f0.b.length cap) (v1 := v1) 2 (.int .i64 (D.f0.b.length : Int))
    go_enter Try.func12, Try.ntmps12
    go_wp2_with fail
    refine (find_ok 0 (by omega) _ h hd).mono ?_
    rintro e w' ⟨rfl, rfl⟩
    clear ha e1
    go_wp2_with fail
    refine (csync_any dp 1 2 rfl ao _ cap _ w h.c1 h.c2 (h.free 2)).mono ?_
    rintro e w3 ⟨rfl, hw3⟩
    rw [← hw3] at h2 d2
    clear hw3
    go_wp2_with fail
    refine (step_any w3 h2 hd hl).mono ?_
    rintro e w4 ⟨rfl, h3, d3⟩
    clear hd
    go_wp2
    go_ret
    exact ⟨rfl, _, _, h3, d2.trans d3⟩
  · subst hn
    have e1 : D.ask 1 = 0 := ha
    rw [show D.sync 1 = ({ D with f1 := ⟨D.f1.b, D.f1.b.length⟩ } : Dk).step by unfold Dk.sync; rw [e1]; rfl, e1]
    obtain ⟨ao, cap, hv⟩ := owns_form h.own1
    subst hv
    have h2 := h.put (D' := { D with f1 := ⟨D.f1.b, D.f1.b.length⟩ }) 4 (.int .i64 (D.f1.b.length : Int)) rfl rfl rfl
    have d2 := Did.put (w := w) (dp := dp) (v0 := v0) (v1 := .slice ao D.f1.b.length cap) 4 (.int .i64 (D.f1.b.length : Int))
    go_enter Try.func12, Try.ntmps12
    go_wp2_with fail
    refine (find_ok 1 (by omega) _ h hd).mono ?_
    rintro e w' ⟨rfl, rfl⟩
    clear ha e1
    go_wp2_with fail
    refine (csync_any dp 3 4 rfl ao _ cap _ w h.c3 h.c4 (h.free 4)).mono ?_
    rintro e w3 ⟨rfl, hw3⟩
    rw [← hw3] at h2 d2
    clear hw3
    go_wp2_with fail
    refine (step_any w3 h2 hd hl).mono ?_
    rintro e w4 ⟨rfl, h3, d3⟩
    clear hd
    go_wp2
    go_ret
    exact ⟨rfl, _, _, h3, d2.trans d3⟩
  · rw [show D.sync n = D by unfold Dk.sync; rw [ha]; rfl, ha]
    go_enter Try.func12, Try.ntmps12
    go_wp2_with fail
    refine (find_bad _ hn _ h hd).mono ?_
    rintro e w' ⟨rfl, rfl⟩
    clear hd ha hn
    go_wp2
    go_ret
    exact ⟨rfl, _, _, h, Did.refl _ _ _ _⟩
theorem Sync_nil (n : Int) (w : World) : Calls Try.prog 12 #[.pointer none, .int .i64 n] w fun e w' => e = .returned (.int .i64 2) ∧ w = w' := by
  go_enter Try.func12, Try.ntmps12
  go_wp2_with fail
  refine (find_nil _ _).mono ?_
  rintro e w' ⟨rfl, rfl⟩
  go_wp2
  go_ret
  exact ⟨rfl, rfl⟩

set_option maxHeartbeats 1000000 in
theorem Cut_any {dp : Nat} {v0 v1 : Value} {D : Dk} (n m : Int) (w : World) (h : DiskIn w dp v0 v1 D) (hl : D.left ≤ 9223372036854775807) :
    Calls Try.prog 14 #[.pointer (some ⟨dp, 0, none⟩), .int .i64 n, .int .i64 m] w fun e w' => e = .returned (.int .i64 (D.askCut n m)) ∧ ∃ v0' v1', DiskIn w' dp v0' v1' (D.cut n m) ∧ Did w w' dp v0 v1 v0' v1' := by
  rcases D.ask_cases n with ⟨hd, ha⟩ | ⟨hd, hn, ha⟩ | ⟨hd, hn, ha⟩ | ⟨hd, hn, ha⟩
  · have e1 : D.askCut n m = 7 := by unfold Dk.askCut; rw [ha]; rfl
    rw [show D.cut n m = D by unfold Dk.cut; rw [e1]; rfl, e1]
    go_enter Try.func14, Try.ntmps14
    go_wp2_with fail
    refine (find_down _ _ h hd).mono ?_
    rintro e w' ⟨rfl, rfl⟩
    clear hd ha e1
    go_wp2
    go_ret
    exact ⟨rfl, _, _, h, Did.refl _ _ _ _⟩
  · subst hn
    by_cases hb : m < 0 ∨ (D.f0.b.length : Int) < m
    · have e1 : D.askCut 0 m = 1 := by unfold Dk.askCut; rw [ha, if_pos rfl]; exact if_pos hb
      rw [show D.cut 0 m = D by unfold Dk.cut; rw [e1]; rfl, e1]
      obtain ⟨ao, cap, hv⟩ := owns_form h.own0
      have hc := h.c1
      rw [hv] at hc
      have HV := hid hv
      clear hv
      by_cases hneg : m < 0
      · clear hb
        go_enter Try.func14, Try.ntmps14
        go_wp2_with fail
        refine (find_ok 0 (by omega) _ h hd).mono ?_
        rintro e w' ⟨rfl, rfl⟩
        clear hd ha e1
        go_wp2
        go_ret
        exact ⟨rfl, _, _, h, Did.refl _ _ _ _⟩
      · have hgt : (D.f0.b.length : Int) < m := by omega
        have hge : 0 ≤ m := by omega
        clear hb hneg
        go_enter Try.func14, Try.ntmps14
        go_wp2_with fail
        refine (find_ok 0 (by omega) _ h hd).mono ?_
        rintro e w' ⟨rfl, rfl⟩
        clear hd ha e1
        go_wp2
        go_ret
        exact ⟨rfl, _, _, h, Did.refl _ _ _ _⟩
    · have e1 : D.askCut 0 m = 0 := by unfold Dk.askCut; rw [ha, if_pos rfl]; exact if_neg hb
      obtain ⟨q, hq⟩ : ∃ q : Nat, m = (q : Int) := ⟨m.toNat, by omega⟩
      subst hq
      rw [show D.cut 0 (q : Int) = ({ D with f0 := ⟨D.f0.b.take q, min D.f0.s q⟩ } : Dk).step by unfold Dk.cut; rw [e1]; rfl, e1]
      have hql : q ≤ D.f0.b.length := by omega
      obtain ⟨ao, cap, hv⟩ := owns_form h.own0
      subst hv
      obtain ⟨h2, d2⟩ := h.cut0 q hql rfl
      have hc := h.c1
      have hcap := own_cap h.own0
      have hge : (0 : Int) ≤ (q : Int) := by omega
      have hle : (q : Int) ≤ (D.f0.b.length : Int) := by omega
      clear hb
      go_enter Try.func14, Try.ntmps14
      go_wp2_with fail
      refine (find_ok 0 (by omega) _ h hd).mono ?_
      rintro e w' ⟨rfl, rfl⟩
      clear ha e1
      go_wp2_with fail
      refine (ccut_any dp 1 2 rfl ao _ cap q D.f0.s hql hcap w h.c1 h.c2 (h.free 1) (h.free 2)).mono ?_
      rintro e w3 ⟨rfl, hw3⟩
      rw [← hw3] at h2 d2
      clear hw3
      go_wp2_with fail
      refine (step_any w3 h2 hd hl).mono ?_
      rintro e w4 ⟨rfl, h3, d3⟩
      clear hd
      go_wp2
      go_ret
      exact ⟨rfl, _, _, h3, d2.trans d3⟩
  · subst hn
    by_cases hb : m < 0 ∨ (D.f1.b.length : Int) < m
    · have e1 : D.askCut 1 m = 1 := by unfold Dk.askCut; rw [ha, if_pos rfl]; exact if_pos hb
      rw [show D.cut 1 m = D by unfold Dk.cut; rw [e1]; rfl, e1]
      obtain ⟨ao, cap, hv⟩ := owns_form h.own1
      have hc := h.c3
      rw [hv] at hc
      have HV := hid hv
      clear hv
      by_cases hneg : m < 0
      · clear hb
        go_enter Try.func14, Try.ntmps14
        go_wp2_with fail
        refine (find_ok 1 (by omega) _ h hd).mono ?_
        rintro e w' ⟨rfl, rfl⟩
        clear hd ha e1
        go_wp2
        go_ret
        exact ⟨rfl, _, _, h, Did.refl _ _ _ _⟩
      · have hgt : (D.f1.b.length : Int) < m := by omega
        have hge : 0 ≤ m := by omega
        clear hb hneg
        go_enter Try.func14, Try.ntmps14
        go_wp2_with fail
        refine (find_ok 1 (by omega) _ h hd).mono ?_
        rintro e w' ⟨rfl, rfl⟩
        clear hd ha e1
        go_wp2
        go_ret
        exact ⟨rfl, _, _, h, Did.refl _ _ _ _⟩
    · have e1 : D.askCut 1 m = 0 := by unfold Dk.askCut; rw [ha, if_pos rfl]; exact if_neg hb
      obtain ⟨q, hq⟩ : ∃ q : Nat, m = (q : Int) := ⟨m.toNat, by omega⟩
      subst hq
      rw [show D.cut 1 (q : Int) = ({ D with f1 := ⟨D.f1.b.take q, min D.f1.s q⟩ } : Dk).step by unfold Dk.cut; rw [e1]; rfl, e1]
      have hql : q ≤ D.f1.b.length := by omega
      obtain ⟨ao, cap, hv⟩ := owns_form h.own1
      subst hv
      obtain ⟨h2, d2⟩ := h.cut1 q hql rfl
      have hc := h.c3
      have hcap := own_cap h.own1
      have hge : (0 : Int) ≤ (q : Int) := by omega
      have hle : (q : Int) ≤ (D.f1.b.length : Int) := by omega
      clear hb
      go_enter Try.func14, Try.ntmps14
      go_wp2_with fail
      refine (find_ok 1 (by omega) _ h hd).mono ?_
      rintro e w' ⟨rfl, rfl⟩
      clear ha e1
      go_wp2_with fail
      refine (ccut_any dp 3 4 rfl ao _ cap q D.f1.s hql hcap w h.c3 h.c4 (h.free 3) (h.free 4)).mono ?_
      rintro e w3 ⟨rfl, hw3⟩
      rw [← hw3] at h2 d2
      clear hw3
      go_wp2_with fail
      refine (step_any w3 h2 hd hl).mono ?_
      rintro e w4 ⟨rfl, h3, d3⟩
      clear hd
      go_wp2
      go_ret
      exact ⟨rfl, _, _, h3, d2.trans d3⟩
  · have e1 : D.askCut n m = 1 := by unfold Dk.askCut; rw [ha]; rfl
    rw [show D.cut n m = D by unfold Dk.cut; rw [e1]; rfl, e1]
    go_enter Try.func14, Try.ntmps14
    go_wp2_with fail
    refine (find_bad _ hn _ h hd).mono ?_
    rintro e w' ⟨rfl, rfl⟩
    clear hd ha hn e1
    go_wp2
    go_ret
    exact ⟨rfl, _, _, h, Did.refl _ _ _ _⟩
theorem Cut_nil (n m : Int) (w : World) : Calls Try.prog 14 #[.pointer none, .int .i64 n, .int .i64 m] w fun e w' => e = .returned (.int .i64 2) ∧ w = w' := by
  go_enter Try.func14, Try.ntmps14
  go_wp2_with fail
  refine (find_nil _ _).mono ?_
  rintro e w' ⟨rfl, rfl⟩
  go_wp2
  go_ret
  exact ⟨rfl, rfl⟩
end Go.Proofs.Ytblhabiginckbaa

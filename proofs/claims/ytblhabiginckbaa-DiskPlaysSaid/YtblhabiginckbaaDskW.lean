/-
  A disk, as mathematics: what each call leaves is in order.
-/
import Derived.Test.YtblhabiginckbaaDskH
namespace Go.Proofs.Ytblhabiginckbaa
open Go.RowKit

structure Dk.Ok (D : Dk) : Prop where
  wf : D.Wf
  left : D.left ≤ 9223372036854775807

theorem Dk.step_ok {D : Dk} (h : D.Ok) : D.step.Ok := by
  unfold Dk.step
  split
  · rename_i ha
    exact ⟨⟨h.wf.s0, h.wf.s1, h.wf.room, h.wf.most, fun e => by rw [show D.armed = false from e] at ha; cases ha⟩, by show D.left - 1 ≤ _; have := h.left; omega⟩
  · exact h
theorem Dk.new_ok (n : Int) : (Dk.new n).Ok := ⟨Dk.new_wf n, Nat.zero_le _⟩
theorem Dk.Ok.append_ok {D : Dk} (h : D.Ok) (n : Int) (cs : List UInt8) : (D.append n cs).Ok := by
  unfold Dk.append
  split
  · rename_i ha
    have hf : ¬ D.free < cs.length := by
      intro hlt
      unfold Dk.askAppend at ha
      split at ha
      · cases ha
      · contradiction
    unfold Dk.free at hf
    have hr := h.wf.room
    have h0 := h.wf.s0
    have h1 := h.wf.s1
    split
    · exact Dk.step_ok ⟨⟨by simp only [List.length_append]; omega, h1, by simp only [List.length_append]; omega, h.wf.most, h.wf.calm⟩, h.left⟩
    · exact Dk.step_ok ⟨⟨h0, by simp only [List.length_append]; omega, by simp only [List.length_append]; omega, h.wf.most, h.wf.calm⟩, h.left⟩
  · exact h
theorem Dk.Ok.sync_ok {D : Dk} (h : D.Ok) (n : Int) : (D.sync n).Ok := by
  unfold Dk.sync
  split
  · split
    · exact Dk.step_ok ⟨⟨Nat.le_refl _, h.wf.s1, h.wf.room, h.wf.most, h.wf.calm⟩, h.left⟩
    · exact Dk.step_ok ⟨⟨h.wf.s0, Nat.le_refl _, h.wf.room, h.wf.most, h.wf.calm⟩, h.left⟩
  · exact h
theorem Dk.Ok.cut_ok {D : Dk} (h : D.Ok) (n m : Int) : (D.cut n m).Ok := by
  have hr := h.wf.room
  have h0 := h.wf.s0
  have h1 := h.wf.s1
  unfold Dk.cut
  split
  · split
    · exact Dk.step_ok ⟨⟨by simp only [List.length_take]; omega, h1, by simp only [List.length_take]; omega, h.wf.most, h.wf.calm⟩, h.left⟩
    · exact Dk.step_ok ⟨⟨h0, by simp only [List.length_take]; omega, by simp only [List.length_take]; omega, h.wf.most, h.wf.calm⟩, h.left⟩
  · exact h
theorem Dk.Ok.arm_ok {D : Dk} (h : D.Ok) (n : Int) (hn : n ≤ 9223372036854775807) (zs : List Int) : (D.arm n zs).Ok := by
  unfold Dk.arm
  split
  · exact h
  · exact ⟨⟨h.wf.s0, h.wf.s1, h.wf.room, h.wf.most, fun e => by cases e⟩, by show n.toNat ≤ _; omega⟩
theorem Fl.crash_le (f : Fl) (k : Int) (h : f.s ≤ f.b.length) : (f.crash k).s = (f.crash k).b.length ∧ (f.crash k).b.length ≤ f.b.length := by
  unfold Fl.crash
  simp only [List.length_take]
  unfold heldI
  omega
theorem Dk.Ok.restart_ok {D : Dk} (h : D.Ok) : D.restart.Ok := by
  have hr := h.wf.room
  have h0 := Fl.crash_le D.f0 D.k0 h.wf.s0
  have h1 := Fl.crash_le D.f1 D.k1 h.wf.s1
  exact ⟨⟨Nat.le_of_eq h0.1, Nat.le_of_eq h1.1, by show (D.f0.crash D.k0).b.length + (D.f1.crash D.k1).b.length ≤ D.room; omega, h.wf.most, fun _ => ⟨rfl, rfl⟩⟩, Nat.zero_le _⟩

/-! ### rickhelp.Bytes -/
theorem Bytes_any (a b : Value) (x y : List UInt8) (w : World) (ha : Sl w a (Lib.byteCells x)) (hb : Sl w b (Lib.byteCells y)) :
    Calls Try.prog 28 #[a, b] w fun e w' => e = .returned (.bool (x == y)) ∧ w = w' := by
  have h1 := run_string_of (P := Try.prog) 28 9 5 Try.underlying28 Try.underlying5 Try.underlying9 ha
  have h2 := run_string_of (P := Try.prog) 28 9 5 Try.underlying28 Try.underlying5 Try.underlying9 hb
  go_enter Try.func28, Try.ntmps28
  go_wp2
  go_ret
  exact ⟨rfl, rfl⟩

/-! ### A disk whose blocks are all new -/
structure DiskOk (w0 w : World) (dp : Nat) (v0 v1 : Value) (D : Dk) : Prop where
  at_ : DiskIn w dp v0 v1 D
  ok : D.Ok
  foot : ∀ k, feet dp v0 v1 k → w0.heap.size ≤ k
  below : Below w0.heap.size w0 w
theorem DiskOk.size {w0 w : World} {dp : Nat} {v0 v1 : Value} {D : Dk} (h : DiskOk w0 w dp v0 v1 D) : w0.heap.size ≤ w.heap.size := h.below.size
/-- Another call on the disk. -/
theorem DiskOk.next {w0 w w' : World} {dp : Nat} {v0 v1 x0 x1 : Value} {D D' : Dk} (h : DiskOk w0 w dp v0 v1 D) (hd : DiskIn w' dp x0 x1 D') (ho : D'.Ok) (hs : Did w w' dp v0 v1 x0 x1) : DiskOk w0 w' dp x0 x1 D' :=
  ⟨hd, ho, fun k hk => (hs.new k hk).elim (h.foot k) (fun e => Nat.le_trans h.size e), h.below.trans (hs.keep.below h.size fun k hk e => by have := h.foot k e; omega)⟩
/-- Something else that makes memory. -/
theorem DiskOk.on {w0 w w' : World} {dp : Nat} {v0 v1 : Value} {D : Dk} (h : DiskOk w0 w dp v0 v1 D) (hb : Below w.heap.size w w') : DiskOk w0 w' dp v0 v1 D :=
  ⟨h.at_.below hb, h.ok, h.foot, below_step h.below hb h.size⟩
theorem DiskOk.alloc {w0 w : World} {dp : Nat} {v0 v1 : Value} {D : Dk} (h : DiskOk w0 w dp v0 v1 D) (o : Obj) : DiskOk w0 (w.alloc o) dp v0 v1 D := h.on ((Below.refl _ _).alloc (Nat.le_refl _) _)
theorem New_ok (n : Int) (w0 w : World) (hb : Below w0.heap.size w0 w) : Calls Try.prog 9 #[.int .i64 n] w fun e w' => e = .returned (.pointer (some ⟨w.heap.size, 0, none⟩)) ∧ ∃ v0 v1, DiskOk w0 w' w.heap.size v0 v1 (Dk.new n) ∧ Below w.heap.size w w' :=
  (New_any n w).mono fun e w' ⟨he, hd, hk⟩ => ⟨he, _, _, ⟨hd, Dk.new_ok n, (by rintro k (e | e | e); exact e ▸ hb.size; cases e; cases e), below_step hb hk hb.size⟩, hk⟩
theorem Append_ok {w0 w : World} {dp : Nat} {v0 v1 src : Value} {D : Dk} (n : Int) (cs : List UInt8) (h : DiskOk w0 w dp v0 v1 D) (hs : Sl w src (Lib.byteCells cs)) :
    Calls Try.prog 21 #[.pointer (some ⟨dp, 0, none⟩), .int .i64 n, src] w fun e w' => e = .returned (.int .i64 (D.askAppend n cs.length)) ∧ ∃ x0 x1, DiskOk w0 w' dp x0 x1 (D.append n cs) ∧ Did w w' dp v0 v1 x0 x1 :=
  (Append_any n cs w h.at_ h.ok.wf h.ok.left hs).mono fun _ _ ⟨he, _, _, hd, hk⟩ => ⟨he, _, _, h.next hd (h.ok.append_ok n cs) hk, hk⟩
theorem Sync_ok {w0 w : World} {dp : Nat} {v0 v1 : Value} {D : Dk} (n : Int) (h : DiskOk w0 w dp v0 v1 D) :
    Calls Try.prog 12 #[.pointer (some ⟨dp, 0, none⟩), .int .i64 n] w fun e w' => e = .returned (.int .i64 (D.ask n)) ∧ ∃ x0 x1, DiskOk w0 w' dp x0 x1 (D.sync n) ∧ Did w w' dp v0 v1 x0 x1 :=
  (Sync_any n w h.at_ h.ok.left).mono fun _ _ ⟨he, _, _, hd, hk⟩ => ⟨he, _, _, h.next hd (h.ok.sync_ok n) hk, hk⟩
theorem Cut_ok {w0 w : World} {dp : Nat} {v0 v1 : Value} {D : Dk} (n m : Int) (h : DiskOk w0 w dp v0 v1 D) :
    Calls Try.prog 14 #[.pointer (some ⟨dp, 0, none⟩), .int .i64 n, .int .i64 m] w fun e w' => e = .returned (.int .i64 (D.askCut n m)) ∧ ∃ x0 x1, DiskOk w0 w' dp x0 x1 (D.cut n m) ∧ Did w w' dp v0 v1 x0 x1 :=
  (Cut_any n m w h.at_ h.ok.left).mono fun _ _ ⟨he, _, _, hd, hk⟩ => ⟨he, _, _, h.next hd (h.ok.cut_ok n m) hk, hk⟩
theorem Arm_ok {w0 w : World} {dp : Nat} {v0 v1 kv : Value} {D : Dk} (n : Int) (zs : List Int) (h : DiskOk w0 w dp v0 v1 D) (hn : n ≤ 9223372036854775807) (hk : Sl w kv (zs.map (Value.int .i64))) (hne : 0 < (zs.map (Value.int .i64)).length → ∀ a k c, kv = .slice (some a) k c → a.block ≠ dp) :
    Calls Try.prog 16 #[.pointer (some ⟨dp, 0, none⟩), .int .i64 n, kv] w fun e w' => e = .returned (.tuple #[]) ∧ DiskOk w0 w' dp v0 v1 (D.arm n zs) ∧ Did w w' dp v0 v1 v0 v1 :=
  (Arm_any n zs w h.at_ hk hne).mono fun _ _ ⟨he, hd, hk⟩ => ⟨he, h.next hd (h.ok.arm_ok n hn zs) hk, hk⟩
theorem Read_ok {w0 w : World} {dp : Nat} {v0 v1 : Value} {D : Dk} (n : Int) (h : DiskOk w0 w dp v0 v1 D) :
    Calls Try.prog 26 #[.pointer (some ⟨dp, 0, none⟩), .int .i64 n] w fun e w' => ∃ v', e = .returned (.tuple #[v', .int .i64 (D.ask n)]) ∧ w'.ownsRow w.heap.size 5 1 v' (D.read n).length (Lib.byteCells (D.read n)) ∧ DiskOk w0 w' dp v0 v1 D ∧ Below w.heap.size w w' :=
  (Read_any n w h.at_ h.ok.wf).mono fun _ _ ⟨v', he, ho, hk⟩ => ⟨v', he, ho, h.on hk, hk⟩
theorem Free_ok {w0 w : World} {dp : Nat} {v0 v1 : Value} {D : Dk} (h : DiskOk w0 w dp v0 v1 D) :
    Calls Try.prog 30 #[.pointer (some ⟨dp, 0, none⟩)] w fun e w' => e = .returned (.int .i64 (D.free : Int)) ∧ DiskOk w0 w' dp v0 v1 D ∧ Below w.heap.size w w' :=
  (h.at_.free_val h.ok.wf).mono fun _ _ ⟨he, hk⟩ => ⟨he, h.on hk, hk⟩
theorem Restart_ok {w0 w : World} {dp : Nat} {v0 v1 : Value} {D : Dk} (h : DiskOk w0 w dp v0 v1 D) :
    Calls Try.prog 18 #[.pointer (some ⟨dp, 0, none⟩)] w fun e w' => e = .returned (.pointer (some ⟨w.heap.size, 0, none⟩)) ∧ ∃ x0 x1, DiskOk w0 w' w.heap.size x0 x1 D.restart ∧ (∀ k, feet w.heap.size x0 x1 k → w.heap.size ≤ k) ∧ Below w.heap.size w w' :=
  (Restart_any w h.at_ h.ok.wf).mono fun _ _ ⟨he, _, _, hd, hf, hk⟩ => ⟨he, _, _, ⟨hd, h.ok.restart_ok, fun k e => Nat.le_trans h.size (hf k e), below_step h.below hk h.size⟩, hf, hk⟩
theorem Fork_ok {w0 w : World} {dp : Nat} {v0 v1 : Value} {D : Dk} (h : DiskOk w0 w dp v0 v1 D) :
    Calls Try.prog 20 #[.pointer (some ⟨dp, 0, none⟩)] w fun e w' => e = .returned (.pointer (some ⟨w.heap.size, 0, none⟩)) ∧ ∃ x0 x1, DiskOk w0 w' w.heap.size x0 x1 D ∧ (∀ k, feet w.heap.size x0 x1 k → w.heap.size ≤ k) ∧ Below w.heap.size w w' :=
  (Fork_any w h.at_ h.ok.wf).mono fun _ _ ⟨he, _, _, hd, hf, hk⟩ => ⟨he, _, _, ⟨hd, h.ok, fun k e => Nat.le_trans h.size (hf k e), below_step h.below hk h.size⟩, hf, hk⟩

/-! ### awake -/
def A1 : Dk := (Dk.new 10).append 0 [1, 2]
theorem A1_facts : (Dk.new 10).askAppend 0 2 = 0 ∧ A1.free = 8 ∧ A1.synced 0 = 0 ∧ A1.ask 0 = 0 ∧ A1.read 0 = [1, 2] ∧ (A1.sync 0).synced 0 = 2 := by decide

set_option maxHeartbeats 1000000 in
theorem awake_any (w : World) : Calls Try.prog 11 #[] w fun e w' => e = .returned (.bool true) ∧ Below w.heap.size w w' := by
  obtain ⟨f1, f2, f3, f4, f5, f6⟩ := A1_facts
  have F1 := hid f1
  have F2 := hid f2
  have F3 := hid f3
  have F4 := hid f4
  have F5 := hid f5
  have F6 := hid f6
  clear f1 f2 f3 f4 f5 f6
  go_enter Try.func11, Try.ntmps11
  go_wp2_with fail
  refine (New_ok 10 w w (Below.refl _ _)).mono ?_
  rintro e w1 ⟨rfl, v0, v1, h1, _⟩
  go_wp2_with fail
  have hs : Sl (w1.alloc (.cells #[.int .u8 1, .int .u8 2] 5)) (.slice (some ⟨w1.heap.size, 0, none⟩) 2 2) (Lib.byteCells [1, 2]) := Sl.ofBlock (heap_alloc_new w1 _)
  refine (Append_ok 0 [1, 2] (h1.alloc _) hs).mono ?_
  rw [show ([1, 2] : List UInt8).length = 2 from rfl, F1.out]
  rintro e w2 ⟨rfl, v2, v3, h2, _⟩
  clear hs h1
  change DiskOk w w2 w.heap.size v2 v3 A1 at h2
  go_wp2_with fail
  refine (Free_ok h2).mono ?_
  rw [F2.out]
  rintro e w3 ⟨rfl, h3, _⟩
  clear h2
  go_wp2_with fail
  refine (Synced_any 0 w3 h3.at_).mono ?_
  rw [F3.out]
  rintro e w' ⟨rfl, rfl⟩
  go_wp2_with fail
  refine (Read_ok 0 h3).mono ?_
  rw [F4.out, F5.out]
  rintro e w4 ⟨v4, rfl, hown, h4, _⟩
  obtain ⟨a4, c4, hv4⟩ := owns_form hown
  subst hv4
  clear h3 hown
  go_wp2_with fail
  refine (Sync_ok 0 h4).mono ?_
  rw [F4.out]
  rintro e w5 ⟨rfl, v5, v6, h5, _⟩
  clear h4
  go_wp2_with fail
  refine (Synced_any 0 w5 h5.at_).mono ?_
  rw [F6.out]
  rintro e w' ⟨rfl, rfl⟩
  have hb := h5.below
  go_wp2
  go_ret
  exact ⟨rfl, hb⟩
end Go.Proofs.Ytblhabiginckbaa

/-
  DiskPlays' 'alike': a disk and the document's disk that are one and the same disk are told alike.
-/
import Derived.Test.YtblhabiginckbaaRdsB
namespace Go.Proofs.Ytblhabiginckbaa
open Go.RowKit


set_option maxRecDepth 1000000 in
set_option maxHeartbeats 4000000 in
theorem alike_any {dp B rp : Nat} {v0 v1 u0 u1 kv : Value} {D : Dk} (w : World) (hd : DiskIn w dp v0 v1 D) (hr : RefIn w B rp u0 u1 kv D) (hw : D.Wf) :
    Calls Try.prog 25 #[.pointer (some ⟨dp, 0, none⟩), .pointer (some ⟨rp, 0, none⟩)] w fun e w' => e = .returned (.bool true) ∧ Below w.heap.size w w' := by
  have hdd : (D.down != D.down) = false := by simp
  go_enter Try.func25, Try.ntmps25
  go_wp2_with fail
  refine (Down_any w hd).mono ?_
  rintro e w' ⟨rfl, rfl⟩
  go_wp2_with fail
  refine (RDown_any w hr).mono ?_
  rintro e w' ⟨rfl, rfl⟩
  go_wp2_with fail
  refine (hd.free_val hw).mono ?_
  rintro e w1 ⟨rfl, hb1⟩
  have hd1 := hd.below hb1
  have hr1 := hr.below hb1
  go_wp2_with fail
  refine (RFree_any w1 hr1 hw).mono ?_
  rintro e w' ⟨rfl, rfl⟩
  have HD := hid hd
  have HR := hid hr
  clear hd hr hd1 hr1
  have hff : (((D.free : Nat) : Int) != ((D.free : Nat) : Int)) = false := by simp
  go_wp2
  clear hff hdd
  go_loopw [5] (fun i wr => ∃ k : Nat, k ≤ 4 ∧ i = .int .i64 ((k : Int) - 1) ∧ Below w.heap.size w wr) (fun i _ => 4 - (intOf i + 1).toNat)
  case atStart => exact ⟨0, by omega, rfl, hb1⟩
  case round =>
    clear hb1
    obtain ⟨k, hk, rfl, hbel⟩ := hrel
    by_cases hlt : k < 4
    · obtain ⟨f, hf⟩ : ∃ f : Int, f = (k : Int) - 1 := ⟨_, rfl⟩
      rw [← hf]
      have i1 : f ≤ 2 := by omega
      have i0 : -1 ≤ f := by omega
      have HF := hid hf
      clear hf
      go_wp2_with fail
      refine (Read_any f wr (HD.out.below hbel) hw).mono ?_
      rintro e w2 ⟨x2, rfl, own2, hb2⟩
      have hbel2 := below_step hbel hb2 hbel.size
      obtain ⟨a2, c2, hx2⟩ := owns_form own2
      subst hx2
      have s2 := Sl.ofOwns own2
      clear own2 hbel hb2
      go_wp2_with fail
      refine (RRead_any f w2 (HR.out.below hbel2) hw).mono ?_
      rintro e w3 ⟨x3, rfl, own3, hb3⟩
      have hbel3 := below_step hbel2 hb3 hbel2.size
      obtain ⟨a3, c3, hx3⟩ := owns_form own3
      subst hx3
      have s3 := Sl.ofOwns own3
      have s2' := s2.old' hb3
      clear own3 hbel2 hb3 s2
      go_wp2_with fail
      refine (Bytes_any _ _ (D.read f) (D.read f) w3 s2' s3).mono ?_
      rw [show (D.read f == D.read f) = true from by simp]
      rintro e w' ⟨rfl, rfl⟩
      clear s2' s3
      have haa : (D.ask f != D.ask f) = false := by simp
      go_wp2_with fail
      refine (Synced_any f w3 (HD.out.below hbel3)).mono ?_
      rintro e w' ⟨rfl, rfl⟩
      go_wp2_with fail
      refine (RSynced_any f w3 (HR.out.below hbel3)).mono ?_
      rintro e w' ⟨rfl, rfl⟩
      have hss : (((D.synced f : Nat) : Int) != ((D.synced f : Nat) : Int)) = false := by simp
      go_wp2
      go_roundw
      case rel => exact ⟨k + 1, by omega, by rw [HF.out]; go_num, hbel3⟩
      case measure => have := HF.out; simp [intOf]; omega
    · obtain rfl : k = 4 := by omega
      rw [show ((4 : Nat) : Int) - 1 = 3 from rfl]
      go_wp2
      go_ret
      exact ⟨rfl, hbel⟩
end Go.Proofs.Ytblhabiginckbaa

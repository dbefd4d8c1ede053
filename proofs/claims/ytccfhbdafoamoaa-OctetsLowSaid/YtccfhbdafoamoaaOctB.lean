/-
  What package octets' Writer does, the rest: Int, Text, Bool, Bytes; and all of them at nil.
-/
import Derived.Test.YtccfhbdafoamoaaOctA
namespace Go.Proofs.Ytccfhbdafoamoaa
open Go.RowKit

/-- v and 1, as 64 bits. -/
def incr (v : Int) : Int := IntKind.u64.wrap (IntKind.u64.wrap v + 1)
theorem incr_nonneg (v : Int) : 0 ≤ incr v := by unfold incr; simp only [IntKind.wrap, IntKind.signed, IntKind.bits]; simp; omega
def intBytes (v : Int) : List UInt8 := lowBytes (incr v).toNat 4
theorem intBytes_length (v : Int) : (intBytes v).length = 4 := lowBytes_length _ _

set_option maxHeartbeats 400000 in
theorem Int_any (B bw : Nat) (v : Value) (bs : List UInt8) (x : Int) (w : World) (hw : Wr w B bw v bs) (hB : B ≤ w.heap.size) (hlen : bs.length + 8 ≤ 70368744177664) :
    Calls Try.prog 9 #[.pointer (some ⟨bw, 0, none⟩), .int .i64 x] w fun e w' => e = .returned (.tuple #[]) ∧
      ∃ v', Wr w' B bw v' (bs ++ intBytes x) ∧ Foot w w' bw v v' := by
  go_enter Try.func9, Try.ntmps9
  have h4 : heldN 4 = 4 := rfl
  go_wp2_with fail
  refine (Num_any B bw v bs _ 4 (incr_nonneg x) w hw hB hlen).mono ?_
  rintro e w' ⟨rfl, v', hw', hf⟩
  rw [h4] at hw'
  clear h4
  go_wp2
  go_end0
  exact ⟨rfl, v', hw', hf⟩

theorem Num_nil (x n : Int) (w : World) : Calls Try.prog 15 #[.pointer none, .int .u64 x, .int .i64 n] w fun e w' => e = .returned (.tuple #[]) ∧ w = w' := by
  go_enter Try.func15, Try.ntmps15
  go_wp2
  exact ret0 rfl rfl ⟨rfl, rfl⟩
theorem Int_nil (x : Int) (w : World) : Calls Try.prog 9 #[.pointer none, .int .i64 x] w fun e w' => e = .returned (.tuple #[]) ∧ w = w' := by
  go_enter Try.func9, Try.ntmps9
  go_wp2_with fail
  refine (Num_nil _ _ _).mono ?_
  rintro e w' ⟨rfl, rfl⟩
  go_wp2
  go_end0
  exact ⟨rfl, rfl⟩
theorem Text_nil (s : ByteArray) (w : World) : Calls Try.prog 11 #[.pointer none, .string s] w fun e w' => e = .returned (.tuple #[]) ∧ w = w' := by
  go_enter Try.func11, Try.ntmps11
  go_wp2
  exact ret0 rfl rfl ⟨rfl, rfl⟩
theorem Bool_nil (b : Bool) (w : World) : Calls Try.prog 13 #[.pointer none, .bool b] w fun e w' => e = .returned (.tuple #[]) ∧ w = w' := by
  go_enter Try.func13, Try.ntmps13
  cases b
  all_goals
    go_wp2_with (go_at_call 15; refine (Num_nil _ _ _).mono ?_; rintro e w' ⟨rfl, rfl⟩)
    go_end0
    exact ⟨rfl, rfl⟩
theorem Bytes_nil (w : World) : Calls Try.prog 18 #[.pointer none] w fun e w' => e = .returned (.slice none 0 0) ∧ w = w' := by
  go_enter Try.func18, Try.ntmps18
  go_wp2
  go_ret
  exact ⟨rfl, rfl⟩

set_option maxHeartbeats 400000 in
/-- slices.Clone, of a slice that can be read. -/
theorem Clone_any (v : Value) (bs : List UInt8) (w : World) (hv : Sl w v (Lib.byteCells bs)) (hlen : bs.length ≤ 70368744177664) :
    Calls Try.prog 34 #[v] w fun e w' => ∃ v', e = .returned v' ∧ w'.ownsRow w.heap.size 5 1 v' bs.length (Lib.byteCells bs) ∧ Below w.heap.size w w' := by
  obtain ⟨ao, cap, rfl, hn, hcap, hc⟩ := hv
  obtain ⟨i0, hi0, hz0, hz1, hz2⟩ := info_parts Try.info5
  have hbl : (Lib.byteCells bs).length = bs.length := Lib.byteCells_length bs
  cases ao with
  | none =>
    have hb : Lib.byteCells bs = [] := hn rfl
    have hb' : bs = [] := by simpa [Lib.byteCells] using hb
    subst hb'
    show Calls Try.prog 34 #[.slice none 0 cap] w _
    have he := fun wx => Lib.run_eql_slice_nil (P := Try.prog) wx 23 5 none 0 cap 0 0 Try.underlying23
    go_enter Try.func34, Try.ntmps34
    go_wp2
    go_ret
    exact ⟨_, rfl, World.ownsRow_nil _ _ _ _, Below.refl _ _⟩
  | some a =>
    have hv : Sl w (.slice (some a) (Lib.byteCells bs).length cap) (Lib.byteCells bs) := ⟨some a, cap, rfl, hn, hcap, hc⟩
    have he := fun wx => Lib.run_eql_slice_nil (P := Try.prog) wx 23 5 (some a) (Lib.byteCells bs).length cap 0 0 Try.underlying23
    have hbs := run_buildSlice_none (P := Try.prog) w 23 5 Try.underlying23 hi0
    have H := hid hbl
    have h63 : 0 + (Lib.byteCells bs).length ≤ maxLen := by unfold maxLen; omega
    have h47 : (0 + (Lib.byteCells bs).length) * 1 ≤ 140737488355328 := by omega
    clear hbl hlen hc hn hcap
    go_enter Try.func34, Try.ntmps34
    go_wp2_with (refine wpList_append_any _ rfl _ _ _ _ rfl w.heap.size 5 i0 _ 1 1 Try.underlying23 hi0 hz0 hz1 hz2 rfl (by omega) (.slice (some ⟨w.heap.size, 0, none⟩) 0 0) 0 [] rfl (World.ownsRow_made w #[] 0 (Nat.le_refl _) (by unfold maxLen; omega) rfl) _ _ _ rfl ((hv.alloc _).src Try.underlying23 (byte_one bs)) h63 h47 (by simp) ?_; intro v1 w1 hown hgrow hat; have hbel := ((Below.refl w.heap.size w).alloc (Nat.le_refl _) (.cells #[] 5)).grown hgrow (by simp) (by simp [Value.ownBlock]))
    go_ret
    rw [Nat.zero_add, List.nil_append, H.out] at hown
    exact ⟨v1, rfl, hown, hbel⟩

set_option maxHeartbeats 400000 in
/-- Bytes: new memory. -/
theorem Bytes_any (B bw : Nat) (v : Value) (bs : List UInt8) (w : World) (hw : Wr w B bw v bs) (hlen : bs.length ≤ 70368744177664) :
    Calls Try.prog 18 #[.pointer (some ⟨bw, 0, none⟩)] w fun e w' => ∃ v', e = .returned v' ∧ w'.ownsRow w.heap.size 5 1 v' bs.length (Lib.byteCells bs) ∧ Below w.heap.size w w' := by
  have hc := cell_of_one hw.block
  go_enter Try.func18, Try.ntmps18
  go_wp2_with fail
  refine (Clone_any v bs w (Sl.ofOwns hw.own) hlen).mono ?_
  rintro e w' ⟨v', rfl, hown, hbel⟩
  go_wp2
  go_ret
  exact ⟨v', rfl, hown, hbel⟩

set_option maxHeartbeats 400000 in
theorem Bool_any (B bw : Nat) (v : Value) (bs : List UInt8) (b : Bool) (w : World) (hw : Wr w B bw v bs) (hB : B ≤ w.heap.size) (hlen : bs.length + 8 ≤ 70368744177664) :
    Calls Try.prog 13 #[.pointer (some ⟨bw, 0, none⟩), .bool b] w fun e w' => e = .returned (.tuple #[]) ∧
      ∃ v', Wr w' B bw v' (bs ++ [if b then 1 else 0]) ∧ Foot w w' bw v v' := by
  cases b
  all_goals
    go_enter Try.func13, Try.ntmps13
    go_wp2_with fail
    refine (Num_any B bw v bs _ 1 (by omega) w hw hB hlen).mono ?_
    rintro e w' ⟨rfl, v', hw', hf⟩
    go_wp2
    go_end0
    exact ⟨rfl, v', hw', hf⟩

set_option maxHeartbeats 400000 in
theorem Text_any (B bw : Nat) (v : Value) (bs : List UInt8) (s : ByteArray) (w : World) (hw : Wr w B bw v bs) (hB : B ≤ w.heap.size) (hlen : bs.length + s.size + 8 ≤ 70368744177664) :
    Calls Try.prog 11 #[.pointer (some ⟨bw, 0, none⟩), .string s] w fun e w' => e = .returned (.tuple #[]) ∧
      ∃ v', Wr w' B bw v' (bs ++ intBytes s.size ++ s.data.toList) ∧ Foot w w' bw v v' := by
  obtain ⟨i0, hi0, hz0, hz1, hz2⟩ := info_parts Try.info5
  go_enter Try.func11, Try.ntmps11
  go_wp2_with fail
  refine (Int_any B bw v bs _ w hw hB (by omega)).mono ?_
  rintro e w1 ⟨rfl, v1, hw1, hf1⟩
  have hc := cell_of_one hw1.block
  have hB1 := hf1.keep.size
  have hl : (bs ++ intBytes s.size).length = bs.length + 4 := by simp [intBytes_length]
  have h63 : (bs ++ intBytes s.size).length + s.size ≤ maxLen := by unfold maxLen; omega
  have h47 : ((bs ++ intBytes s.size).length + s.size) * 1 ≤ 140737488355328 := by omega
  clear hl
  go_wp2_with (refine wpList_append_any _ rfl _ _ _ _ rfl B 5 i0 _ 1 1 Try.underlying23 hi0 hz0 hz1 hz2 rfl (by omega) v1 _ _ rfl hw1.own _ _ _ rfl (Src.ofString _ Try.underlying9 s) h63 h47 (by omega) ?_; intro v2 w2 hown hgrow hat; obtain ⟨ao, cp, rfl⟩ := owns_form hown; have R := hw1.put (cs := s.data.toList) (Keep.refl _ _) hgrow hown rfl rfl hat hf1; have q1 := cell_of_one (hw1.far' (Keep.refl _ _) hgrow); have q2 := free_of_one (hw1.far' (Keep.refl _ _) hgrow))
  go_end0
  simp only [List.length_append] at R
  exact ⟨rfl, _, R.1, R.2⟩
end Go.Proofs.Ytccfhbdafoamoaa

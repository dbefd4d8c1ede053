/-
  Package disk: Free, Synced, Read.
-/
import Derived.Test.YtblhabiginckbaaDskA
namespace Go.Proofs.Ytblhabiginckbaa
open Go.RowKit

/-- 'a[i]' of an array by value whose elements are aggregates. -/
theorem run_index_agg {P : Program} (t e : TypeId) (n : Nat) (cs : Array Value) (i : Nat) {ie : TypeInfo} (d : TypeDesc) (ht : P.underlying t = some (.array n e)) (he : P.underlying e = some d) (hd : (match d with | .struct _ | .array _ _ => true | _ => false) = true)
    (hie : P.info? e = some ie) (hi : i < n) (j : Int) (hj : j = (i : Int)) (us : Array Value) (hu : cs.extract (i * ie.size) (i * ie.size + ie.size) = us) : ∀ w, (Instr.index t (.agg cs) (.int .i64 j)).run P w = .ok (.agg us) w := by
  intro w
  subst hu hj
  have hagg : (isAgg e).run P w = .ok true w := by
    unfold isAgg
    rw [Sem.run_bind, run_underlying he w]
    cases d <;> simp_all
  simp [Instr.index, run_underlying ht, asIntOf, hi, sizeOf, typeInfo, hie, part, hagg]
theorem info_size {P : Program} {t : TypeId} {n : Nat} (h : (P.info? t).map (·.size) = some n) : ∃ i, P.info? t = some i ∧ i.size = n := by
  cases hq : P.info? t with
  | none => rw [hq] at h; cases h
  | some i => rw [hq] at h; exact ⟨i, rfl, Option.some.inj h⟩
theorem Try.sizeContent : (Try.prog.info? 57).map (·.size) = some 2 := by kernel_rfl
/-- 'd.files[k]' out of the files by value. -/
theorem index_files (v0 v1 : Value) (s0 s1 : Value) : (∀ w, (Instr.index 58 (.agg #[v0, s0, v1, s1]) (.int .i64 0)).run Try.prog w = .ok (.agg #[v0, s0]) w) ∧ (∀ w, (Instr.index 58 (.agg #[v0, s0, v1, s1]) (.int .i64 1)).run Try.prog w = .ok (.agg #[v1, s1]) w) := by
  obtain ⟨i, hi, hs⟩ := info_size Try.sizeContent
  exact ⟨run_index_agg 58 57 2 _ 0 _ Try.underlying58 Try.underlying57 rfl hi (by omega) _ rfl _ (by rw [hs]; rfl),
    run_index_agg 58 57 2 _ 1 _ Try.underlying58 Try.underlying57 rfl hi (by omega) _ rfl _ (by rw [hs]; rfl)⟩

theorem Free_nil (w : World) : Calls Try.prog 30 #[.pointer none] w fun e w' => e = .returned (.int .i64 0) ∧ w = w' := by
  go_enter Try.func30, Try.ntmps30
  go_wp2
  go_ret
  exact ⟨rfl, rfl⟩

set_option maxHeartbeats 1000000 in
theorem Free_at (dp : Nat) (v0 v1 : Value) (R n0 n1 : Nat) (s0 s1 : Int) (w : World) (hn0 : ∃ ao c, v0 = .slice ao n0 c) (hn1 : ∃ ao c, v1 = .slice ao n1 c) (hR : n0 + n1 ≤ R) (hM : R ≤ 1000000)
    (c0 : w.cell? ⟨dp, 0, none⟩ = some (.int .i64 (R : Int))) (c1 : w.cell? ⟨dp, 1, none⟩ = some v0) (c2 : w.cell? ⟨dp, 2, none⟩ = some (.int .i64 s0)) (c3 : w.cell? ⟨dp, 3, none⟩ = some v1) (c4 : w.cell? ⟨dp, 4, none⟩ = some (.int .i64 s1)) :
    Calls Try.prog 30 #[.pointer (some ⟨dp, 0, none⟩)] w fun e w' => e = .returned (.int .i64 ((R : Int) - (n0 : Int) - (n1 : Int))) ∧ Below w.heap.size w w' := by
  obtain ⟨a0, p0, rfl⟩ := hn0
  obtain ⟨a1, p1, rfl⟩ := hn1
  obtain ⟨hx0, hx1⟩ := index_files (.slice a0 n0 p0) (.slice a1 n1 p1) (.int .i64 s0) (.int .i64 s1)
  have HX0 := hid hx0
  have HX1 := hid hx1
  clear hx0 hx1
  go_enter Try.func30, Try.ntmps30
  go_wp2
  go_loopw [3, 16] (fun fr i wr => ∃ k : Nat, k ≤ 2 ∧ i = .int .i64 (k : Int) ∧ fr = .int .i64 ((R : Int) - (if k = 0 then 0 else (n0 : Int)) - (if k = 2 then (n1 : Int) else 0)) ∧ Below w.heap.size w wr) (fun _ i _ => 2 - (intOf i).toNat)
  case atStart => exact ⟨0, by omega, rfl, by simp, Below.refl _ _⟩
  case round =>
    obtain ⟨k, hk, rfl, rfl, hbel⟩ := hrel
    have h3 : k = 0 ∨ k = 1 ∨ k = 2 := by omega
    clear hk
    rcases h3 with rfl | rfl | rfl
    · rw [if_pos rfl, if_neg (by omega), Int.sub_zero, Int.sub_zero, show ((0 : Nat) : Int) = 0 from rfl]
      have hx := HX0.out
      go_wp2
      go_roundw
      case rel => exact ⟨1, by omega, rfl, by simp, hbel.alloc hbel.size _⟩
      case measure => simp [intOf]
    · rw [if_neg (by omega), if_neg (by omega), Int.sub_zero, show ((1 : Nat) : Int) = 1 from rfl]
      have hx := HX1.out
      go_wp2
      go_roundw
      case rel => exact ⟨2, by omega, rfl, by simp, hbel.alloc hbel.size _⟩
      case measure => simp [intOf]
    · rw [if_neg (by omega), if_pos rfl, show ((2 : Nat) : Int) = 2 from rfl]
      go_wp2
      go_ret
      exact ⟨rfl, hbel⟩

theorem DiskIn.free_val {w : World} {dp : Nat} {v0 v1 : Value} {D : Dk} (h : DiskIn w dp v0 v1 D) (hw : D.Wf) :
    Calls Try.prog 30 #[.pointer (some ⟨dp, 0, none⟩)] w fun e w' => e = .returned (.int .i64 (D.free : Int)) ∧ Below w.heap.size w w' := by
  refine (Free_at dp v0 v1 D.room D.f0.b.length D.f1.b.length (D.f0.s : Int) (D.f1.s : Int) w (owns_form h.own0) (owns_form h.own1) hw.room hw.most (h.cell 0 _ rfl) (h.cell 1 _ rfl) (h.cell 2 _ rfl) (h.cell 3 _ rfl) (h.cell 4 _ rfl)).mono ?_
  rintro e w' ⟨rfl, hb⟩
  refine ⟨ret_int ?_, hb⟩
  have := hw.room
  unfold Dk.free
  omega

/-! ### Synced -/
theorem Synced_nil (n : Int) (w : World) : Calls Try.prog 29 #[.pointer none, .int .i64 n] w fun e w' => e = .returned (.int .i64 0) ∧ w = w' := by
  by_cases h : n = 0 ∨ n = 1
  · obtain ⟨m, hm, rfl⟩ : ∃ m : Nat, m < 2 ∧ n = (m : Int) := ⟨n.toNat, by omega, by omega⟩
    clear h
    go_enter Try.func29, Try.ntmps29
    go_wp2_with fail
    refine (keyOf_ok m hm _).mono ?_
    rintro e w' ⟨rfl, rfl⟩
    go_wp2
    go_ret
    exact ⟨rfl, rfl⟩
  · go_enter Try.func29, Try.ntmps29
    go_wp2_with fail
    refine (keyOf_bad n h _).mono ?_
    rintro e w' ⟨rfl, rfl⟩
    go_wp2
    go_ret
    exact ⟨rfl, rfl⟩
/-- How many bytes of a file are synced. -/
def Dk.synced (D : Dk) (n : Int) : Nat := if n = 0 then D.f0.s else if n = 1 then D.f1.s else 0
set_option maxHeartbeats 400000 in
theorem Synced_any {dp : Nat} {v0 v1 : Value} {D : Dk} (n : Int) (w : World) (h : DiskIn w dp v0 v1 D) :
    Calls Try.prog 29 #[.pointer (some ⟨dp, 0, none⟩), .int .i64 n] w fun e w' => e = .returned (.int .i64 (D.synced n : Int)) ∧ w = w' := by
  have h2 := h.cell 2 _ rfl
  have h4 := h.cell 4 _ rfl
  by_cases n0 : n = 0
  · subst n0
    rw [show D.synced 0 = D.f0.s from rfl]
    go_enter Try.func29, Try.ntmps29
    go_wp2_with fail
    refine (keyOf_ok 0 (by omega) _).mono ?_
    rintro e w' ⟨rfl, rfl⟩
    go_wp2
    go_ret
    exact ⟨rfl, rfl⟩
  · by_cases n1 : n = 1
    · subst n1
      rw [show D.synced 1 = D.f1.s from rfl]
      go_enter Try.func29, Try.ntmps29
      go_wp2_with fail
      refine (keyOf_ok 1 (by omega) _).mono ?_
      rintro e w' ⟨rfl, rfl⟩
      go_wp2
      go_ret
      exact ⟨rfl, rfl⟩
    · rw [show D.synced n = 0 by unfold Dk.synced; rw [if_neg n0, if_neg n1]]
      go_enter Try.func29, Try.ntmps29
      go_wp2_with fail
      refine (keyOf_bad n (by omega) _).mono ?_
      rintro e w' ⟨rfl, rfl⟩
      clear n0 n1
      go_wp2
      go_ret
      exact ⟨rfl, rfl⟩

/-! ### slices.Clone -/
set_option maxHeartbeats 400000 in
/-- slices.Clone, of a slice that can be read. -/
theorem Clone_any (v : Value) (bs : List UInt8) (w : World) (hv : Sl w v (Lib.byteCells bs)) (hlen : bs.length ≤ 70368744177664) :
    Calls Try.prog 46 #[v] w fun e w' => ∃ v', e = .returned v' ∧ w'.ownsRow w.heap.size 5 1 v' bs.length (Lib.byteCells bs) ∧ Below w.heap.size w w' := by
  obtain ⟨ao, cap, rfl, hn, hcap, hc⟩ := hv
  obtain ⟨i0, hi0, hz0, hz1, hz2⟩ := info_parts Try.info5
  have hbl : (Lib.byteCells bs).length = bs.length := Lib.byteCells_length bs
  cases ao with
  | none =>
    have hb : Lib.byteCells bs = [] := hn rfl
    have hb' : bs = [] := by simpa [Lib.byteCells] using hb
    subst hb'
    show Calls Try.prog 46 #[.slice none 0 cap] w _
    have he := fun wx => Lib.run_eql_slice_nil (P := Try.prog) wx 28 5 none 0 cap 0 0 Try.underlying28
    go_enter Try.func46, Try.ntmps46
    go_wp2
    go_ret
    exact ⟨_, rfl, World.ownsRow_nil _ _ _ _, Below.refl _ _⟩
  | some a =>
    have hv : Sl w (.slice (some a) (Lib.byteCells bs).length cap) (Lib.byteCells bs) := ⟨some a, cap, rfl, hn, hcap, hc⟩
    have he := fun wx => Lib.run_eql_slice_nil (P := Try.prog) wx 28 5 (some a) (Lib.byteCells bs).length cap 0 0 Try.underlying28
    have hbs := run_buildSlice_none (P := Try.prog) w 28 5 Try.underlying28 hi0
    have H := hid hbl
    have h63 : 0 + (Lib.byteCells bs).length ≤ maxLen := by unfold maxLen; omega
    have h47 : (0 + (Lib.byteCells bs).length) * 1 ≤ 140737488355328 := by omega
    clear hbl hlen hc hn hcap
    go_enter Try.func46, Try.ntmps46
    go_wp2_with (refine wpList_append_any _ rfl _ _ _ _ rfl w.heap.size 5 i0 _ 1 1 Try.underlying28 hi0 hz0 hz1 hz2 rfl (by omega) (.slice (some ⟨w.heap.size, 0, none⟩) 0 0) 0 [] rfl (World.ownsRow_made w #[] 0 (Nat.le_refl _) (by unfold maxLen; omega) rfl) _ _ _ rfl ((hv.alloc _).src Try.underlying28 (byte_one bs)) h63 h47 (by simp) ?_; intro v1 w1 hown hgrow hat; have hbel := ((Below.refl w.heap.size w).alloc (Nat.le_refl _) (.cells #[] 5)).grown hgrow (by simp) (by simp [Value.ownBlock]))
    go_ret
    rw [Nat.zero_add, List.nil_append, H.out] at hown
    exact ⟨v1, rfl, hown, hbel⟩

/-! ### Read -/
theorem Read_nil (n : Int) (w : World) : Calls Try.prog 26 #[.pointer none, .int .i64 n] w fun e w' => e = .returned (.tuple #[.slice none 0 0, .int .i64 2]) ∧ w = w' := by
  go_enter Try.func26, Try.ntmps26
  go_wp2_with fail
  refine (find_nil _ _).mono ?_
  rintro e w' ⟨rfl, rfl⟩
  go_wp2
  go_ret2
  exact ⟨rfl, rfl⟩
/-- What Read answers. -/
def Dk.read (D : Dk) (n : Int) : List UInt8 := if D.ask n = 0 then (if n = 0 then D.f0.b else D.f1.b) else []
theorem Dk.ask_cases (D : Dk) (n : Int) : (D.down = true ∧ D.ask n = 7) ∨ (D.down = false ∧ n = 0 ∧ D.ask n = 0) ∨ (D.down = false ∧ n = 1 ∧ D.ask n = 0) ∨ (D.down = false ∧ ¬ (n = 0 ∨ n = 1) ∧ D.ask n = 1) := by
  unfold Dk.ask
  cases D.down
  · by_cases h0 : n = 0
    · subst h0; simp
    · by_cases h1 : n = 1
      · subst h1; simp
      · simp [h0, h1]
  · simp
set_option maxHeartbeats 400000 in
theorem Read_any {dp : Nat} {v0 v1 : Value} {D : Dk} (n : Int) (w : World) (h : DiskIn w dp v0 v1 D) (hw : D.Wf) :
    Calls Try.prog 26 #[.pointer (some ⟨dp, 0, none⟩), .int .i64 n] w fun e w' => ∃ v', e = .returned (.tuple #[v', .int .i64 (D.ask n)]) ∧ w'.ownsRow w.heap.size 5 1 v' (D.read n).length (Lib.byteCells (D.read n)) ∧ Below w.heap.size w w' := by
  have h1 := h.cell 1 _ rfl
  have h3 := h.cell 3 _ rfl
  have hr := hw.room
  have hm := hw.most
  rcases D.ask_cases n with ⟨hd, ha⟩ | ⟨hd, hn, ha⟩ | ⟨hd, hn, ha⟩ | ⟨hd, hn, ha⟩
  · rw [show D.read n = [] by unfold Dk.read; rw [ha]; rfl, ha]
    go_enter Try.func26, Try.ntmps26
    go_wp2_with fail
    refine (find_down _ _ h hd).mono ?_
    rintro e w' ⟨rfl, rfl⟩
    clear hd ha
    go_wp2
    go_ret2
    exact ⟨_, rfl, World.ownsRow_nil _ _ _ _, Below.refl _ _⟩
  · subst hn
    rw [show D.read 0 = D.f0.b by unfold Dk.read; rw [ha]; rfl, ha]
    have hs := Sl.ofOwns h.own0
    go_enter Try.func26, Try.ntmps26
    go_wp2_with fail
    refine (find_ok 0 (by omega) _ h hd).mono ?_
    rintro e w' ⟨rfl, rfl⟩
    clear hd ha
    go_wp2_with fail
    refine (Clone_any _ _ _ hs (by omega)).mono ?_
    rintro e w' ⟨v', rfl, hown, hb⟩
    go_wp2
    go_ret2
    exact ⟨_, rfl, hown, hb⟩
  · subst hn
    rw [show D.read 1 = D.f1.b by unfold Dk.read; rw [ha]; rfl, ha]
    have hs := Sl.ofOwns h.own1
    go_enter Try.func26, Try.ntmps26
    go_wp2_with fail
    refine (find_ok 1 (by omega) _ h hd).mono ?_
    rintro e w' ⟨rfl, rfl⟩
    clear hd ha
    go_wp2_with fail
    refine (Clone_any _ _ _ hs (by omega)).mono ?_
    rintro e w' ⟨v', rfl, hown, hb⟩
    go_wp2
    go_ret2
    exact ⟨_, rfl, hown, hb⟩
  · rw [show D.read n = [] by unfold Dk.read; rw [ha]; rfl, ha]
    go_enter Try.func26, Try.ntmps26
    go_wp2_with fail
    refine (find_bad _ hn _ h hd).mono ?_
    rintro e w' ⟨rfl, rfl⟩
    clear hd ha hn
    go_wp2
    go_ret2
    exact ⟨_, rfl, World.ownsRow_nil _ _ _ _, Below.refl _ _⟩
end Go.Proofs.Ytblhabiginckbaa

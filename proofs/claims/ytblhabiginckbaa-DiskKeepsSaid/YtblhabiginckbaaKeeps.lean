/-
  DiskKeeps: for all parts, choices of syncs, counts of steps and keeps, behind a crash the file has all that was synced, and a beginning of what was loose, no more than was kept. No condition.
-/
import Derived.Test.YtblhabiginckbaaKeepA
namespace Go.Proofs.Ytblhabiginckbaa.diskKeeps
open Go.ChangeShapes Go.WideShapes Go.ChangeAt Go.RowKit

set_option maxRecDepth 1000000 in
set_option maxHeartbeats 8000000 in
theorem walk (vp : Value) (bss : List (List UInt8)) (vy : Value) (ys : List Bool) (a2 : Int) (vk : Value) (zs : List Int) (w : World) (fp : FactParts w vp bss) (fy : FactBools w vy ys) (_w2 : (Lit.int .i64 a2).wf = true) (fk : FactInts .i64 w vk zs) :
    Calls Try.prog 4 #[vp, vy, .int .i64 a2, vk] w fun e w' => e = .returned (.bool true) ∧ Below w.heap.size w w' := by
  obtain ⟨sy, ly⟩ := fy
  obtain ⟨sk, lk, _⟩ := fk
  unfold maxLen at ly lk
  obtain ⟨ok, ck, rfl⟩ := sk.form
  obtain ⟨oy, cy, rfl⟩ := sy.form
  obtain ⟨op, np, cp, rfl, hnp, hlp0⟩ : ∃ op np cp, vp = .slice op np cp ∧ np = bss.length ∧ bss.length ≤ 9223372036854775807 := by
    obtain ⟨vs, h1, h2, h3, _⟩ := fp
    obtain ⟨ao, cap, rfl⟩ := h1.form
    unfold maxLen at h3
    exact ⟨ao, vs.length, cap, rfl, h2, h3⟩
  subst hnp
  rw [List.length_map] at sk sy ⊢
  rw [List.length_map]
  by_cases hkl : 10 < zs.length
  · have i1 : (10 : Int) < (zs.length : Int) := by omega
    clear sy sk fp
    go_enter Try.func4, Try.ntmps4
    go_wp2_with fail
    refine (New_ok 1000000 w w (Below.refl _ _)).mono ?_
    rintro e w1 ⟨rfl, v0, v1, h1, _⟩
    go_wp2_with fail
    refine (awake_any w1).mono ?_
    rintro e w2 ⟨rfl, hb2⟩
    have h2 := h1.on hb2
    clear h1 hb2
    go_wp2_with fail
    refine (awake_any w2).mono ?_
    rintro e w3 ⟨rfl, hb3⟩
    have hbel := (h2.on hb3).below
    clear h2 hb3
    go_wp2
    go_ret
    exact ⟨rfl, hbel⟩
  · obtain ⟨m, hm, hm60⟩ := mod_nat a2 60 (by decide) (by decide)
    rw [show ((60 : Nat) : Int) = 60 from rfl] at hm
    have i1 : (zs.length : Int) ≤ 10 := by omega
    obtain ⟨kk, hkd⟩ : ∃ kk, kk = zs.getD 1 0 := ⟨_, rfl⟩
    have HZ0 := hid (show ¬ 1 < zs.length → kk = 0 by
      intro h
      rw [hkd, List.getD_eq_getElem?_getD, List.getElem?_eq_none (by omega)]
      rfl)
    have HKC := hid (show 1 < zs.length → ∀ wy, Below w.heap.size w wy → ∃ ak, ok = some ak ∧ wy.cell? (ak.add 1) = some (.int .i64 kk) by
      intro h wy hb
      obtain ⟨ak, z, h1, h2, h3⟩ := sk.elemAt' (f := Value.int .i64) h
      refine ⟨ak, h1, ?_⟩
      have hz : z = kk := by rw [hkd, List.getD_eq_getElem?_getD, h3]; rfl
      rw [← hz]
      exact (World.cell?_of_block (w := w) (hb.block _ (World.block_lt_of_cell? w _ h2))).trans h2)
    have HNE := hid (show 0 < (zs.map (Value.int .i64)).length → ∀ a n c, Value.slice ok zs.length ck = .slice (some a) n c → a.block ≠ w.heap.size by
      intro h a n c e
      obtain ⟨ak, z, h1, h2, h3⟩ := sk.elemAt' (f := Value.int .i64) (i := 0) (by simpa using h)
      have h4 := World.block_lt_of_cell? w _ h2
      rw [addr_add_block] at h4
      obtain ⟨e1, _, _⟩ := Value.slice.inj e
      rw [h1] at e1
      obtain rfl : ak = a := by simpa using e1
      omega)
    have HARM := hid (new_armed m zs)
    rw [← hkd] at HARM
    have HFP := hid fp
    have HSK := hid sk
    have HSY := hid sy
    have hml : (m : Int) ≤ 9223372036854775807 := by omega
    have HML := hid hml
    clear sk sy fp hkd hkl hml
    go_enter Try.func4, Try.ntmps4
    go_wp2_with fail
    refine (New_ok 1000000 w w (Below.refl _ _)).mono ?_
    rintro e w1 ⟨rfl, v0, v1, h1, _⟩
    go_wp2_with fail
    refine (awake_any w1).mono ?_
    rintro e w2 ⟨rfl, hb2⟩
    have h2 := h1.on hb2
    clear h1 hb2
    go_wp2_with fail
    try rw [hm]
    refine (Arm_ok (m : Int) zs h2 HML.out (HSK.out.old' h2.below) HNE.out).mono ?_
    rintro e w3 ⟨rfl, h3, _⟩
    clear h2 hm
    obtain ⟨D0, hD0⟩ : ∃ D0, D0 = (Dk.new 1000000).arm (m : Int) zs := ⟨_, rfl⟩
    rw [← hD0] at h3
    rw [← hD0] at HARM
    clear hD0
    have hst0 : St w w3 v0 v1 D0 (.slice none 0 0) D0.f1.b (.slice none 0 0) [] := by
      refine ⟨h3, ?_, World.ownsRow_nil _ _ _ _, by simp [Value.ownBlock], by simp [Value.ownBlock], by simp [Value.ownBlock]⟩
      rw [HARM.out.1]
      exact World.ownsRow_nil _ _ _ _
    clear h3
    go_wp2
    go_loopw [12, 10, 11] (fun i al sf wr => ∃ k : Nat, k ≤ bss.length ∧ k ≤ 30 ∧ i = .int .i64 (k : Int) ∧ ∃ v0 v1 D t, St w wr v0 v1 D al D.f1.b sf t ∧ t.length = D.f1.s ∧ D.k1 = kk) (fun i _ _ _ => 30 - (intOf i).toNat)
    case atStart => exact ⟨0, by omega, by omega, rfl, v0, v1, D0, [], hst0, by rw [HARM.out.1]; rfl, HARM.out.2⟩
    case round =>
      clear hst0
      obtain ⟨k, hkb, hk30, rfl, v0, v1, D, t, hst, hts, hkk⟩ := hrel
      obtain ⟨oa, ca, hva⟩ := owns_form hst.all
      obtain ⟨os, cs, hvs⟩ := owns_form hst.safe
      subst hva hvs
      have i0 : (0 : Int) ≤ (k : Int) := Int.natCast_nonneg _
      by_cases hk1 : k < bss.length
      · by_cases hk2 : k < 30
        · obtain ⟨ap, oq, lq, cq, p, rfl, hpk, rfl, hcell, hsp, hpl⟩ := part_at HFP.out hk1
          unfold maxLen at hpl
          have HSP := hid hsp
          have HPC := hid (show ∀ wy, Below w.heap.size w wy → wy.cell? (ap.add k) = some (.slice oq p.length cq) from fun wy hb => (World.cell?_of_block (w := w) (hb.block _ (World.block_lt_of_cell? w _ hcell))).trans hcell)
          have j1 : (k : Int) < (bss.length : Int) := by omega
          have j2 : (k : Int) < 30 := by omega
          clear hsp hcell hpk
          have hpc := HPC.out _ hst.disk.below
          by_cases hp2 : 200 < p.length
          · have j3 : (200 : Int) < (p.length : Int) := by omega
            have hsl1 := hst.disk.ok.wf.s1
            have hnl : t.length ≤ D.f1.b.length := by omega
            have hbd : D.f1.b.length ≤ 1000000 := by have := hst.disk.ok.wf.room; have := hst.disk.ok.wf.most; omega
            by_cases hzz : 1 < zs.length
            · have hz := hid hzz
              clear hzz
              obtain ⟨d, hd⟩ : ∃ d : Nat, (D.f1.b.length : Int) - (t.length : Int) = (d : Int) := ⟨D.f1.b.length - t.length, by omega⟩
              have hzl := hz.out
              by_cases c1 : (d : Int) < kk
              · by_cases c2 : 0 < d
                · have HQ := hid (show D.f1.b.length ≤ D.f1.b.length by omega)
                  have ib1 : (D.f1.b.length : Int) ≤ 1000000 := by omega
                  have ib2 : (t.length : Int) ≤ 1000000 := by omega
                  have hbh := hid (behind D (D.f1.b.length) (by rw [hkk, ← hts]; unfold heldI; omega))
                  have hsum : (t.length : Int) + (d : Int) = (D.f1.b.length : Int) := by omega
                  have i9 : (1 : Int) < (zs.length : Int) := by omega
                  have i8 : (0 : Int) < (d : Int) := by omega
                  clear hzl hts hkk hsl1 hnl c2
                  go_wp2_with fail
                  refine (Restart_ok hst.disk).mono ?_
                  rintro e w6 ⟨rfl, r0, r1, h6, _, hb6⟩
                  have sa6 := (Sl.ofOwns hst.all).old' hb6
                  clear hst
                  go_wp2_with fail
                  refine (Read_ok 1 h6).mono ?_
                  rw [hbh.out.1, hbh.out.2.1]
                  rintro e w7 ⟨v7, rfl, hown7, h7, hb7⟩
                  rw [hbh.out.2.2.2.1] at hown7
                  have s7 := Sl.ofOwns hown7
                  have sa7 := sa6.old' hb7
                  obtain ⟨a7, c7, hv7⟩ := owns_form hown7
                  subst hv7
                  obtain ⟨ak, rfl, hkw⟩ := HKC.out hz.out w7 h7.below
                  have hkw2 : w7.cell? ⟨ak.block, ak.off + 1, none⟩ = some (.int .i64 kk) := hkw
                  have hsl := run_slice_head oa D.f1.b.length ca D.f1.b.length (by have := sa7.cap'; have := HQ.out; omega) w7
                  have sq := sa7.cutTo D.f1.b.length (by rw [Lib.byteCells_length]; exact HQ.out)
                  rw [← byteCells_take'] at sq
                  have HSQ := hid sq
                  have HS7 := hid (by have := s7; rw [show (Value.slice a7 D.f1.b.length c7) = Value.slice a7 D.f1.b.length c7 from rfl] at this; exact this)
                  clear hown7 h6 sa6 hb6 hb7 sq s7 sa7
                  go_wp2_with fail
                  refine (Down_any w7 h7.at_).mono ?_
                  rw [hbh.out.2.2.2.2]
                  rintro e w' ⟨rfl, rfl⟩
                  go_wp2_with fail
                  refine (Bytes_any _ _ (D.f1.b.take (D.f1.b.length)) (D.f1.b.take (D.f1.b.length)) w7 HS7.out HSQ.out).mono ?_
                  rw [show (D.f1.b.take (D.f1.b.length) == D.f1.b.take (D.f1.b.length)) = true from by simp]
                  rintro e w' ⟨rfl, rfl⟩
                  go_wp2_with fail
                  refine (Synced_any 1 w7 h7.at_).mono ?_
                  rw [hbh.out.2.2.1]
                  rintro e w' ⟨rfl, rfl⟩
                  have hbel := h7.below
                  clear h7 hsl
                  go_wp2
                  go_ret
                  exact ⟨rfl, hbel⟩
                · have HQ := hid (show t.length ≤ D.f1.b.length by omega)
                  have ib1 : (D.f1.b.length : Int) ≤ 1000000 := by omega
                  have ib2 : (t.length : Int) ≤ 1000000 := by omega
                  have hbh := hid (behind D (t.length) (by rw [hkk, ← hts]; unfold heldI; omega))
                  have hd0 : (D.f1.b.length : Int) - (t.length : Int) = 0 := by omega
                  have c0 : (0 : Int) < kk := by omega
                  have i9 : (1 : Int) < (zs.length : Int) := by omega
                  clear hzl hts hkk hsl1 hnl c2 c1 hd
                  go_wp2_with fail
                  refine (Restart_ok hst.disk).mono ?_
                  rintro e w6 ⟨rfl, r0, r1, h6, _, hb6⟩
                  have sa6 := (Sl.ofOwns hst.all).old' hb6
                  clear hst
                  go_wp2_with fail
                  refine (Read_ok 1 h6).mono ?_
                  rw [hbh.out.1, hbh.out.2.1]
                  rintro e w7 ⟨v7, rfl, hown7, h7, hb7⟩
                  rw [hbh.out.2.2.2.1] at hown7
                  have s7 := Sl.ofOwns hown7
                  have sa7 := sa6.old' hb7
                  obtain ⟨a7, c7, hv7⟩ := owns_form hown7
                  subst hv7
                  obtain ⟨ak, rfl, hkw⟩ := HKC.out hz.out w7 h7.below
                  have hkw2 : w7.cell? ⟨ak.block, ak.off + 1, none⟩ = some (.int .i64 kk) := hkw
                  have hsl := run_slice_head oa D.f1.b.length ca t.length (by have := sa7.cap'; have := HQ.out; omega) w7
                  have sq := sa7.cutTo t.length (by rw [Lib.byteCells_length]; exact HQ.out)
                  rw [← byteCells_take'] at sq
                  have HSQ := hid sq
                  have HS7 := hid (by have := s7; rw [show (Value.slice a7 t.length c7) = Value.slice a7 t.length c7 from rfl] at this; exact this)
                  clear hown7 h6 sa6 hb6 hb7 sq s7 sa7
                  go_wp2_with fail
                  refine (Down_any w7 h7.at_).mono ?_
                  rw [hbh.out.2.2.2.2]
                  rintro e w' ⟨rfl, rfl⟩
                  go_wp2_with fail
                  refine (Bytes_any _ _ (D.f1.b.take (t.length)) (D.f1.b.take (t.length)) w7 HS7.out HSQ.out).mono ?_
                  rw [show (D.f1.b.take (t.length) == D.f1.b.take (t.length)) = true from by simp]
                  rintro e w' ⟨rfl, rfl⟩
                  go_wp2_with fail
                  refine (Synced_any 1 w7 h7.at_).mono ?_
                  rw [hbh.out.2.2.1]
                  rintro e w' ⟨rfl, rfl⟩
                  have hbel := h7.below
                  clear h7 hsl
                  go_wp2
                  go_ret
                  exact ⟨rfl, hbel⟩
              · by_cases c3 : 0 < kk
                · obtain ⟨m, rfl⟩ : ∃ m : Nat, kk = (m : Int) := ⟨kk.toNat, by omega⟩
                  obtain ⟨q, hqq⟩ : ∃ q, q = t.length + m := ⟨_, rfl⟩
                  have HQ := hid (show q ≤ D.f1.b.length by omega)
                  have ib1 : (D.f1.b.length : Int) ≤ 1000000 := by omega
                  have ib2 : (t.length : Int) ≤ 1000000 := by omega
                  have hbh := hid (behind D (q) (by rw [hkk, ← hts]; unfold heldI; omega))
                  have hsum : (t.length : Int) + (m : Int) = (q : Int) := by omega
                  have i9 : (1 : Int) < (zs.length : Int) := by omega
                  have i8 : (m : Int) ≤ (d : Int) := by omega
                  clear hzl hts hkk hsl1 hnl c1 hqq
                  go_wp2_with fail
                  refine (Restart_ok hst.disk).mono ?_
                  rintro e w6 ⟨rfl, r0, r1, h6, _, hb6⟩
                  have sa6 := (Sl.ofOwns hst.all).old' hb6
                  clear hst
                  go_wp2_with fail
                  refine (Read_ok 1 h6).mono ?_
                  rw [hbh.out.1, hbh.out.2.1]
                  rintro e w7 ⟨v7, rfl, hown7, h7, hb7⟩
                  rw [hbh.out.2.2.2.1] at hown7
                  have s7 := Sl.ofOwns hown7
                  have sa7 := sa6.old' hb7
                  obtain ⟨a7, c7, hv7⟩ := owns_form hown7
                  subst hv7
                  obtain ⟨ak, rfl, hkw⟩ := HKC.out hz.out w7 h7.below
                  have hkw2 : w7.cell? ⟨ak.block, ak.off + 1, none⟩ = some (.int .i64 (m : Int)) := hkw
                  have hsl := run_slice_head oa D.f1.b.length ca q (by have := sa7.cap'; have := HQ.out; omega) w7
                  have sq := sa7.cutTo q (by rw [Lib.byteCells_length]; exact HQ.out)
                  rw [← byteCells_take'] at sq
                  have HSQ := hid sq
                  have HS7 := hid (by have := s7; rw [show (Value.slice a7 q c7) = Value.slice a7 q c7 from rfl] at this; exact this)
                  clear hown7 h6 sa6 hb6 hb7 sq s7 sa7
                  go_wp2_with fail
                  refine (Down_any w7 h7.at_).mono ?_
                  rw [hbh.out.2.2.2.2]
                  rintro e w' ⟨rfl, rfl⟩
                  go_wp2_with fail
                  refine (Bytes_any _ _ (D.f1.b.take (q)) (D.f1.b.take (q)) w7 HS7.out HSQ.out).mono ?_
                  rw [show (D.f1.b.take (q) == D.f1.b.take (q)) = true from by simp]
                  rintro e w' ⟨rfl, rfl⟩
                  go_wp2_with fail
                  refine (Synced_any 1 w7 h7.at_).mono ?_
                  rw [hbh.out.2.2.1]
                  rintro e w' ⟨rfl, rfl⟩
                  have hbel := h7.below
                  clear h7 hsl
                  go_wp2
                  go_ret
                  exact ⟨rfl, hbel⟩
                · have HQ := hid (show t.length ≤ D.f1.b.length by omega)
                  have ib1 : (D.f1.b.length : Int) ≤ 1000000 := by omega
                  have ib2 : (t.length : Int) ≤ 1000000 := by omega
                  have hbh := hid (behind D (t.length) (by rw [hkk, ← hts]; unfold heldI; omega))
                  have i7 : kk ≤ 0 := by omega
                  have i9 : (1 : Int) < (zs.length : Int) := by omega
                  have i8 : kk ≤ (d : Int) := by omega
                  clear hzl hts hkk hsl1 hnl c1 c3
                  go_wp2_with fail
                  refine (Restart_ok hst.disk).mono ?_
                  rintro e w6 ⟨rfl, r0, r1, h6, _, hb6⟩
                  have sa6 := (Sl.ofOwns hst.all).old' hb6
                  clear hst
                  go_wp2_with fail
                  refine (Read_ok 1 h6).mono ?_
                  rw [hbh.out.1, hbh.out.2.1]
                  rintro e w7 ⟨v7, rfl, hown7, h7, hb7⟩
                  rw [hbh.out.2.2.2.1] at hown7
                  have s7 := Sl.ofOwns hown7
                  have sa7 := sa6.old' hb7
                  obtain ⟨a7, c7, hv7⟩ := owns_form hown7
                  subst hv7
                  obtain ⟨ak, rfl, hkw⟩ := HKC.out hz.out w7 h7.below
                  have hkw2 : w7.cell? ⟨ak.block, ak.off + 1, none⟩ = some (.int .i64 kk) := hkw
                  have hsl := run_slice_head oa D.f1.b.length ca t.length (by have := sa7.cap'; have := HQ.out; omega) w7
                  have sq := sa7.cutTo t.length (by rw [Lib.byteCells_length]; exact HQ.out)
                  rw [← byteCells_take'] at sq
                  have HSQ := hid sq
                  have HS7 := hid (by have := s7; rw [show (Value.slice a7 t.length c7) = Value.slice a7 t.length c7 from rfl] at this; exact this)
                  clear hown7 h6 sa6 hb6 hb7 sq s7 sa7
                  go_wp2_with fail
                  refine (Down_any w7 h7.at_).mono ?_
                  rw [hbh.out.2.2.2.2]
                  rintro e w' ⟨rfl, rfl⟩
                  go_wp2_with fail
                  refine (Bytes_any _ _ (D.f1.b.take (t.length)) (D.f1.b.take (t.length)) w7 HS7.out HSQ.out).mono ?_
                  rw [show (D.f1.b.take (t.length) == D.f1.b.take (t.length)) = true from by simp]
                  rintro e w' ⟨rfl, rfl⟩
                  go_wp2_with fail
                  refine (Synced_any 1 w7 h7.at_).mono ?_
                  rw [hbh.out.2.2.1]
                  rintro e w' ⟨rfl, rfl⟩
                  have hbel := h7.below
                  clear h7 hsl
                  go_wp2
                  go_ret
                  exact ⟨rfl, hbel⟩
            · have hz := hzz
              clear hzz
              have HQ := hid (show t.length ≤ D.f1.b.length by omega)
              have ib1 : (D.f1.b.length : Int) ≤ 1000000 := by omega
              have ib2 : (t.length : Int) ≤ 1000000 := by omega
              have hbh := hid (behind D (t.length) (by rw [hkk, HZ0.out hz, ← hts]; unfold heldI; omega))
              have i9 : (zs.length : Int) ≤ 1 := by omega
              clear hts hkk hz hsl1 hnl
              go_wp2_with fail
              refine (Restart_ok hst.disk).mono ?_
              rintro e w6 ⟨rfl, r0, r1, h6, _, hb6⟩
              have sa6 := (Sl.ofOwns hst.all).old' hb6
              clear hst
              go_wp2_with fail
              refine (Read_ok 1 h6).mono ?_
              rw [hbh.out.1, hbh.out.2.1]
              rintro e w7 ⟨v7, rfl, hown7, h7, hb7⟩
              rw [hbh.out.2.2.2.1] at hown7
              have s7 := Sl.ofOwns hown7
              have sa7 := sa6.old' hb7
              obtain ⟨a7, c7, hv7⟩ := owns_form hown7
              subst hv7
              skip
              have hsl := run_slice_head oa D.f1.b.length ca t.length (by have := sa7.cap'; have := HQ.out; omega) w7
              have sq := sa7.cutTo t.length (by rw [Lib.byteCells_length]; exact HQ.out)
              rw [← byteCells_take'] at sq
              have HSQ := hid sq
              have HS7 := hid (by have := s7; rw [show (Value.slice a7 t.length c7) = Value.slice a7 t.length c7 from rfl] at this; exact this)
              clear hown7 h6 sa6 hb6 hb7 sq s7 sa7
              go_wp2_with fail
              refine (Down_any w7 h7.at_).mono ?_
              rw [hbh.out.2.2.2.2]
              rintro e w' ⟨rfl, rfl⟩
              go_wp2_with fail
              refine (Bytes_any _ _ (D.f1.b.take (t.length)) (D.f1.b.take (t.length)) w7 HS7.out HSQ.out).mono ?_
              rw [show (D.f1.b.take (t.length) == D.f1.b.take (t.length)) = true from by simp]
              rintro e w' ⟨rfl, rfl⟩
              go_wp2_with fail
              refine (Synced_any 1 w7 h7.at_).mono ?_
              rw [hbh.out.2.2.1]
              rintro e w' ⟨rfl, rfl⟩
              have hbel := h7.below
              clear h7 hsl
              go_wp2
              go_ret
              exact ⟨rfl, hbel⟩
          · have j3 : (p.length : Int) ≤ 200 := by omega
            have hbd : D.f1.b.length ≤ 1000000 := by have := hst.disk.ok.wf.room; have := hst.disk.ok.wf.most; omega
            have hlp : D.f1.b.length + p.length ≤ 70368744177664 := by omega
            have HTS := hid hts
            have HKK := hid hkk
            clear hts hkk
            by_cases hE : D.askAppend 1 p.length = 0
            · have HE := hid hE
              clear hE
              by_cases hyl : k < ys.length
              · obtain ⟨ay, yb, rfl, hyc, hyk⟩ := HSY.out.elemAt' (f := Value.bool) hyl
                have HSC := hid (show ∀ wy, Below w.heap.size w wy → wy.cell? (ay.add k) = some (.bool yb) from fun wy hb => (World.cell?_of_block (w := w) (hb.block _ (World.block_lt_of_cell? w _ hyc))).trans hyc)
                have j4 : (k : Int) < (ys.length : Int) := by omega
                clear hyc hyk
                cases yb
                · go_wp2_with fail
                  refine (Append_ok 1 p hst.disk (HSP.out.old' hst.disk.below)).mono ?_
                  rw [HE.out]
                  rintro e w4 ⟨rfl, x0, x1, h4, k4⟩
                  have st := hst.call h4 k4
                  clear hst h4 k4
                  have hpc0 := HPC.out w4 st.disk.below
                  go_wp2_with (at_builtin; refine wpList_append_own8 (by rfl) (.tmp 65) (.tmp 69) rfl w.heap.size _ D.f1.b rfl st.all _ p rfl (HSP.out.old' st.disk.below) hlp st.disk.size ?_; intro o5 c5 w5 own5 keep5 hat5; have st5 := st.grow own5 keep5 hat5; clear st own5 keep5 hat5; have hpc := HPC.out w5 st5.disk.below; have hcs := HSC.out w5 st5.disk.below)
                  go_roundw
                  case rel => exact ⟨k + 1, by omega, by omega, by go_num, x0, x1, D.append 1 p, t, by rw [(append_yes D p HE.out).1]; exact st5, by rw [(append_yes D p HE.out).1]; exact HTS.out, by rw [(append_yes D p HE.out).2]; exact HKK.out⟩
                  case measure => simp [intOf]; omega
                · go_wp2_with fail
                  refine (Append_ok 1 p hst.disk (HSP.out.old' hst.disk.below)).mono ?_
                  rw [HE.out]
                  rintro e w4 ⟨rfl, x0, x1, h4, k4⟩
                  have st := hst.call h4 k4
                  clear hst h4 k4
                  have hpc0 := HPC.out w4 st.disk.below
                  go_wp2_with (at_builtin; refine wpList_append_own8 (by rfl) (.tmp 65) (.tmp 69) rfl w.heap.size _ D.f1.b rfl st.all _ p rfl (HSP.out.old' st.disk.below) hlp st.disk.size ?_; intro o5 c5 w5 own5 keep5 hat5; have st5 := st.grow own5 keep5 hat5; clear st own5 keep5 hat5; have hpc := HPC.out w5 st5.disk.below; have hcs := HSC.out w5 st5.disk.below)
                  refine (Sync_ok 1 st5.disk).mono ?_
                  by_cases hY : (D.append 1 p).ask 1 = 0
                  · rw [hY]
                    have HY := hid hY
                    clear hY
                    rintro e w6 ⟨rfl, y0, y1, h6, k6⟩
                    have st6 := st5.call h6 k6
                    clear st5 h6 k6
                    have hll : (D.f1.b ++ p).length ≤ 70368744177664 := by rw [List.length_append]; omega
                    go_wp2_with (at_builtin; refine wpList_append_u8n (by rfl) (.tmp 86) rfl _ (D.f1.b ++ p) rfl (Sl.ofOwns st6.all) hll ?_; intro o7 c7 w7 own7 bel7)
                    have st7 := st6.fresh own7 bel7
                    clear st6 own7 bel7 hll
                    have HF1 := hid (show ((D.append 1 p).sync 1).f1 = ⟨(D.f1.b ++ p), (D.f1.b ++ p).length⟩ by rw [(sync_yes _ HY.out).1, (append_yes D p HE.out).1])
                    go_roundw
                    case rel => exact ⟨k + 1, by omega, by omega, by go_num, y0, y1, (D.append 1 p).sync 1, (D.f1.b ++ p), by rw [HF1.out]; simpa only [List.length_append] using st7, by rw [HF1.out], by rw [(sync_yes _ HY.out).2, (append_yes D p HE.out).2]; exact HKK.out⟩
                    case measure => simp [intOf]; omega
                  · obtain ⟨Y, hYd⟩ : ∃ Y, (D.append 1 p).ask 1 = Y := ⟨_, rfl⟩
                    rw [hYd] at hY ⊢
                    have hYf : (Y == 0) = false := beq_eq_false_iff_ne.2 hY
                    rintro e w6 ⟨rfl, y0, y1, h6, k6⟩
                    have st6 := st5.call h6 k6
                    clear st5 h6 k6
                    have hsn : (D.append 1 p).sync 1 = D.append 1 p := sync_no _ (by rw [hYd]; exact hY)
                    rw [hsn] at st6
                    have HYD := hid hYd
                    clear hY hYd hsn
                    go_wp2
                    go_roundw
                    case rel => exact ⟨k + 1, by omega, by omega, by go_num, y0, y1, D.append 1 p, t, by rw [(append_yes D p HE.out).1]; exact st6, by rw [(append_yes D p HE.out).1]; exact HTS.out, by rw [(append_yes D p HE.out).2]; exact HKK.out⟩
                    case measure => simp [intOf]; omega
              · have j4 : (ys.length : Int) ≤ (k : Int) := by omega
                go_wp2_with fail
                refine (Append_ok 1 p hst.disk (HSP.out.old' hst.disk.below)).mono ?_
                rw [HE.out]
                rintro e w4 ⟨rfl, x0, x1, h4, k4⟩
                have st := hst.call h4 k4
                clear hst h4 k4
                have hpc0 := HPC.out w4 st.disk.below
                go_wp2_with (at_builtin; refine wpList_append_own8 (by rfl) (.tmp 65) (.tmp 69) rfl w.heap.size _ D.f1.b rfl st.all _ p rfl (HSP.out.old' st.disk.below) hlp st.disk.size ?_; intro o5 c5 w5 own5 keep5 hat5; have st5 := st.grow own5 keep5 hat5; clear st own5 keep5 hat5; have hpc := HPC.out w5 st5.disk.below)
                go_roundw
                case rel => exact ⟨k + 1, by omega, by omega, by go_num, x0, x1, D.append 1 p, t, by rw [(append_yes D p HE.out).1]; exact st5, by rw [(append_yes D p HE.out).1]; exact HTS.out, by rw [(append_yes D p HE.out).2]; exact HKK.out⟩
                case measure => simp [intOf]; omega
            · have hno := hE
              obtain ⟨X, hX⟩ : ∃ X, D.askAppend 1 p.length = X := ⟨_, rfl⟩
              have hXf : (X == 0) = false := beq_eq_false_iff_ne.2 (by rw [← hX]; exact hE)
              have HNO := hid hno
              have HX := hid hX
              clear hE hno hX
              by_cases hyl : k < ys.length
              · obtain ⟨ay, yb, rfl, hyc, hyk⟩ := HSY.out.elemAt' (f := Value.bool) hyl
                have HSC := hid (show ∀ wy, Below w.heap.size w wy → wy.cell? (ay.add k) = some (.bool yb) from fun wy hb => (World.cell?_of_block (w := w) (hb.block _ (World.block_lt_of_cell? w _ hyc))).trans hyc)
                have j4 : (k : Int) < (ys.length : Int) := by omega
                clear hyc hyk
                cases yb
                · go_wp2_with fail
                  refine (Append_ok 1 p hst.disk (HSP.out.old' hst.disk.below)).mono ?_
                  rw [HX.out]
                  rintro e w4 ⟨rfl, x0, x1, h4, k4⟩
                  have st := hst.call h4 k4
                  clear hst h4 k4
                  have hcs := HSC.out w4 st.disk.below
                  have st5 := st
                  clear st
                  go_wp2
                  go_roundw
                  case rel => exact ⟨k + 1, by omega, by omega, by go_num, x0, x1, D.append 1 p, t, by rw [append_no D p HNO.out] at st5 ⊢; exact st5, by rw [append_no D p HNO.out]; exact HTS.out, by rw [append_no D p HNO.out]; exact HKK.out⟩
                  case measure => simp [intOf]; omega
                · go_wp2_with fail
                  refine (Append_ok 1 p hst.disk (HSP.out.old' hst.disk.below)).mono ?_
                  rw [HX.out]
                  rintro e w4 ⟨rfl, x0, x1, h4, k4⟩
                  have st := hst.call h4 k4
                  clear hst h4 k4
                  have hcs := HSC.out w4 st.disk.below
                  have st5 := st
                  clear st
                  go_wp2_with fail
                  refine (Sync_ok 1 st5.disk).mono ?_
                  by_cases hY : (D.append 1 p).ask 1 = 0
                  · rw [hY]
                    have HY := hid hY
                    clear hY
                    rintro e w6 ⟨rfl, y0, y1, h6, k6⟩
                    have st6 := st5.call h6 k6
                    clear st5 h6 k6
                    have hll : D.f1.b.length ≤ 70368744177664 := by omega
                    go_wp2_with (at_builtin; refine wpList_append_u8n (by rfl) (.tmp 86) rfl _ D.f1.b rfl (Sl.ofOwns st6.all) hll ?_; intro o7 c7 w7 own7 bel7)
                    have st7 := st6.fresh own7 bel7
                    clear st6 own7 bel7 hll
                    have HF1 := hid (show ((D.append 1 p).sync 1).f1 = ⟨D.f1.b, D.f1.b.length⟩ by rw [(sync_yes _ HY.out).1, append_no D p HNO.out])
                    go_roundw
                    case rel => exact ⟨k + 1, by omega, by omega, by go_num, y0, y1, (D.append 1 p).sync 1, D.f1.b, by rw [HF1.out]; exact st7, by rw [HF1.out], by rw [(sync_yes _ HY.out).2, append_no D p HNO.out]; exact HKK.out⟩
                    case measure => simp [intOf]; omega
                  · obtain ⟨Y, hYd⟩ : ∃ Y, (D.append 1 p).ask 1 = Y := ⟨_, rfl⟩
                    rw [hYd] at hY ⊢
                    have hYf : (Y == 0) = false := beq_eq_false_iff_ne.2 hY
                    rintro e w6 ⟨rfl, y0, y1, h6, k6⟩
                    have st6 := st5.call h6 k6
                    clear st5 h6 k6
                    have hsn : (D.append 1 p).sync 1 = D.append 1 p := sync_no _ (by rw [hYd]; exact hY)
                    rw [hsn] at st6
                    have HYD := hid hYd
                    clear hY hYd hsn
                    go_wp2
                    go_roundw
                    case rel => exact ⟨k + 1, by omega, by omega, by go_num, y0, y1, D.append 1 p, t, by rw [append_no D p HNO.out] at st6 ⊢; exact st6, by rw [append_no D p HNO.out]; exact HTS.out, by rw [append_no D p HNO.out]; exact HKK.out⟩
                    case measure => simp [intOf]; omega
              · have j4 : (ys.length : Int) ≤ (k : Int) := by omega
                go_wp2_with fail
                refine (Append_ok 1 p hst.disk (HSP.out.old' hst.disk.below)).mono ?_
                rw [HX.out]
                rintro e w4 ⟨rfl, x0, x1, h4, k4⟩
                have st := hst.call h4 k4
                clear hst h4 k4
                have st5 := st
                clear st
                go_wp2
                go_roundw
                case rel => exact ⟨k + 1, by omega, by omega, by go_num, x0, x1, D.append 1 p, t, by rw [append_no D p HNO.out] at st5 ⊢; exact st5, by rw [append_no D p HNO.out]; exact HTS.out, by rw [append_no D p HNO.out]; exact HKK.out⟩
                case measure => simp [intOf]; omega
        · have j1 : (k : Int) < (bss.length : Int) := by omega
          obtain rfl : k = 30 := by omega
          rw [show ((30 : Nat) : Int) = 30 from rfl] at *
          have hsl1 := hst.disk.ok.wf.s1
          have hnl : t.length ≤ D.f1.b.length := by omega
          have hbd : D.f1.b.length ≤ 1000000 := by have := hst.disk.ok.wf.room; have := hst.disk.ok.wf.most; omega
          by_cases hzz : 1 < zs.length
          · have hz := hid hzz
            clear hzz
            obtain ⟨d, hd⟩ : ∃ d : Nat, (D.f1.b.length : Int) - (t.length : Int) = (d : Int) := ⟨D.f1.b.length - t.length, by omega⟩
            have hzl := hz.out
            by_cases c1 : (d : Int) < kk
            · by_cases c2 : 0 < d
              · have HQ := hid (show D.f1.b.length ≤ D.f1.b.length by omega)
                have ib1 : (D.f1.b.length : Int) ≤ 1000000 := by omega
                have ib2 : (t.length : Int) ≤ 1000000 := by omega
                have hbh := hid (behind D (D.f1.b.length) (by rw [hkk, ← hts]; unfold heldI; omega))
                have hsum : (t.length : Int) + (d : Int) = (D.f1.b.length : Int) := by omega
                have i9 : (1 : Int) < (zs.length : Int) := by omega
                have i8 : (0 : Int) < (d : Int) := by omega
                clear hzl hts hkk hsl1 hnl c2
                go_wp2_with fail
                refine (Restart_ok hst.disk).mono ?_
                rintro e w6 ⟨rfl, r0, r1, h6, _, hb6⟩
                have sa6 := (Sl.ofOwns hst.all).old' hb6
                clear hst
                go_wp2_with fail
                refine (Read_ok 1 h6).mono ?_
                rw [hbh.out.1, hbh.out.2.1]
                rintro e w7 ⟨v7, rfl, hown7, h7, hb7⟩
                rw [hbh.out.2.2.2.1] at hown7
                have s7 := Sl.ofOwns hown7
                have sa7 := sa6.old' hb7
                obtain ⟨a7, c7, hv7⟩ := owns_form hown7
                subst hv7
                obtain ⟨ak, rfl, hkw⟩ := HKC.out hz.out w7 h7.below
                have hkw2 : w7.cell? ⟨ak.block, ak.off + 1, none⟩ = some (.int .i64 kk) := hkw
                have hsl := run_slice_head oa D.f1.b.length ca D.f1.b.length (by have := sa7.cap'; have := HQ.out; omega) w7
                have sq := sa7.cutTo D.f1.b.length (by rw [Lib.byteCells_length]; exact HQ.out)
                rw [← byteCells_take'] at sq
                have HSQ := hid sq
                have HS7 := hid (by have := s7; rw [show (Value.slice a7 D.f1.b.length c7) = Value.slice a7 D.f1.b.length c7 from rfl] at this; exact this)
                clear hown7 h6 sa6 hb6 hb7 sq s7 sa7
                go_wp2_with fail
                refine (Down_any w7 h7.at_).mono ?_
                rw [hbh.out.2.2.2.2]
                rintro e w' ⟨rfl, rfl⟩
                go_wp2_with fail
                refine (Bytes_any _ _ (D.f1.b.take (D.f1.b.length)) (D.f1.b.take (D.f1.b.length)) w7 HS7.out HSQ.out).mono ?_
                rw [show (D.f1.b.take (D.f1.b.length) == D.f1.b.take (D.f1.b.length)) = true from by simp]
                rintro e w' ⟨rfl, rfl⟩
                go_wp2_with fail
                refine (Synced_any 1 w7 h7.at_).mono ?_
                rw [hbh.out.2.2.1]
                rintro e w' ⟨rfl, rfl⟩
                have hbel := h7.below
                clear h7 hsl
                go_wp2
                go_ret
                exact ⟨rfl, hbel⟩
              · have HQ := hid (show t.length ≤ D.f1.b.length by omega)
                have ib1 : (D.f1.b.length : Int) ≤ 1000000 := by omega
                have ib2 : (t.length : Int) ≤ 1000000 := by omega
                have hbh := hid (behind D (t.length) (by rw [hkk, ← hts]; unfold heldI; omega))
                have hd0 : (D.f1.b.length : Int) - (t.length : Int) = 0 := by omega
                have c0 : (0 : Int) < kk := by omega
                have i9 : (1 : Int) < (zs.length : Int) := by omega
                clear hzl hts hkk hsl1 hnl c2 c1 hd
                go_wp2_with fail
                refine (Restart_ok hst.disk).mono ?_
                rintro e w6 ⟨rfl, r0, r1, h6, _, hb6⟩
                have sa6 := (Sl.ofOwns hst.all).old' hb6
                clear hst
                go_wp2_with fail
                refine (Read_ok 1 h6).mono ?_
                rw [hbh.out.1, hbh.out.2.1]
                rintro e w7 ⟨v7, rfl, hown7, h7, hb7⟩
                rw [hbh.out.2.2.2.1] at hown7
                have s7 := Sl.ofOwns hown7
                have sa7 := sa6.old' hb7
                obtain ⟨a7, c7, hv7⟩ := owns_form hown7
                subst hv7
                obtain ⟨ak, rfl, hkw⟩ := HKC.out hz.out w7 h7.below
                have hkw2 : w7.cell? ⟨ak.block, ak.off + 1, none⟩ = some (.int .i64 kk) := hkw
                have hsl := run_slice_head oa D.f1.b.length ca t.length (by have := sa7.cap'; have := HQ.out; omega) w7
                have sq := sa7.cutTo t.length (by rw [Lib.byteCells_length]; exact HQ.out)
                rw [← byteCells_take'] at sq
                have HSQ := hid sq
                have HS7 := hid (by have := s7; rw [show (Value.slice a7 t.length c7) = Value.slice a7 t.length c7 from rfl] at this; exact this)
                clear hown7 h6 sa6 hb6 hb7 sq s7 sa7
                go_wp2_with fail
                refine (Down_any w7 h7.at_).mono ?_
                rw [hbh.out.2.2.2.2]
                rintro e w' ⟨rfl, rfl⟩
                go_wp2_with fail
                refine (Bytes_any _ _ (D.f1.b.take (t.length)) (D.f1.b.take (t.length)) w7 HS7.out HSQ.out).mono ?_
                rw [show (D.f1.b.take (t.length) == D.f1.b.take (t.length)) = true from by simp]
                rintro e w' ⟨rfl, rfl⟩
                go_wp2_with fail
                refine (Synced_any 1 w7 h7.at_).mono ?_
                rw [hbh.out.2.2.1]
                rintro e w' ⟨rfl, rfl⟩
                have hbel := h7.below
                clear h7 hsl
                go_wp2
                go_ret
                exact ⟨rfl, hbel⟩
            · by_cases c3 : 0 < kk
              · obtain ⟨m, rfl⟩ : ∃ m : Nat, kk = (m : Int) := ⟨kk.toNat, by omega⟩
                obtain ⟨q, hqq⟩ : ∃ q, q = t.length + m := ⟨_, rfl⟩
                have HQ := hid (show q ≤ D.f1.b.length by omega)
                have ib1 : (D.f1.b.length : Int) ≤ 1000000 := by omega
                have ib2 : (t.length : Int) ≤ 1000000 := by omega
                have hbh := hid (behind D (q) (by rw [hkk, ← hts]; unfold heldI; omega))
                have hsum : (t.length : Int) + (m : Int) = (q : Int) := by omega
                have i9 : (1 : Int) < (zs.length : Int) := by omega
                have i8 : (m : Int) ≤ (d : Int) := by omega
                clear hzl hts hkk hsl1 hnl c1 hqq
                go_wp2_with fail
                refine (Restart_ok hst.disk).mono ?_
                rintro e w6 ⟨rfl, r0, r1, h6, _, hb6⟩
                have sa6 := (Sl.ofOwns hst.all).old' hb6
                clear hst
                go_wp2_with fail
                refine (Read_ok 1 h6).mono ?_
                rw [hbh.out.1, hbh.out.2.1]
                rintro e w7 ⟨v7, rfl, hown7, h7, hb7⟩
                rw [hbh.out.2.2.2.1] at hown7
                have s7 := Sl.ofOwns hown7
                have sa7 := sa6.old' hb7
                obtain ⟨a7, c7, hv7⟩ := owns_form hown7
                subst hv7
                obtain ⟨ak, rfl, hkw⟩ := HKC.out hz.out w7 h7.below
                have hkw2 : w7.cell? ⟨ak.block, ak.off + 1, none⟩ = some (.int .i64 (m : Int)) := hkw
                have hsl := run_slice_head oa D.f1.b.length ca q (by have := sa7.cap'; have := HQ.out; omega) w7
                have sq := sa7.cutTo q (by rw [Lib.byteCells_length]; exact HQ.out)
                rw [← byteCells_take'] at sq
                have HSQ := hid sq
                have HS7 := hid (by have := s7; rw [show (Value.slice a7 q c7) = Value.slice a7 q c7 from rfl] at this; exact this)
                clear hown7 h6 sa6 hb6 hb7 sq s7 sa7
                go_wp2_with fail
                refine (Down_any w7 h7.at_).mono ?_
                rw [hbh.out.2.2.2.2]
                rintro e w' ⟨rfl, rfl⟩
                go_wp2_with fail
                refine (Bytes_any _ _ (D.f1.b.take (q)) (D.f1.b.take (q)) w7 HS7.out HSQ.out).mono ?_
                rw [show (D.f1.b.take (q) == D.f1.b.take (q)) = true from by simp]
                rintro e w' ⟨rfl, rfl⟩
                go_wp2_with fail
                refine (Synced_any 1 w7 h7.at_).mono ?_
                rw [hbh.out.2.2.1]
                rintro e w' ⟨rfl, rfl⟩
                have hbel := h7.below
                clear h7 hsl
                go_wp2
                go_ret
                exact ⟨rfl, hbel⟩
              · have HQ := hid (show t.length ≤ D.f1.b.length by omega)
                have ib1 : (D.f1.b.length : Int) ≤ 1000000 := by omega
                have ib2 : (t.length : Int) ≤ 1000000 := by omega
                have hbh := hid (behind D (t.length) (by rw [hkk, ← hts]; unfold heldI; omega))
                have i7 : kk ≤ 0 := by omega
                have i9 : (1 : Int) < (zs.length : Int) := by omega
                have i8 : kk ≤ (d : Int) := by omega
                clear hzl hts hkk hsl1 hnl c1 c3
                go_wp2_with fail
                refine (Restart_ok hst.disk).mono ?_
                rintro e w6 ⟨rfl, r0, r1, h6, _, hb6⟩
                have sa6 := (Sl.ofOwns hst.all).old' hb6
                clear hst
                go_wp2_with fail
                refine (Read_ok 1 h6).mono ?_
                rw [hbh.out.1, hbh.out.2.1]
                rintro e w7 ⟨v7, rfl, hown7, h7, hb7⟩
                rw [hbh.out.2.2.2.1] at hown7
                have s7 := Sl.ofOwns hown7
                have sa7 := sa6.old' hb7
                obtain ⟨a7, c7, hv7⟩ := owns_form hown7
                subst hv7
                obtain ⟨ak, rfl, hkw⟩ := HKC.out hz.out w7 h7.below
                have hkw2 : w7.cell? ⟨ak.block, ak.off + 1, none⟩ = some (.int .i64 kk) := hkw
                have hsl := run_slice_head oa D.f1.b.length ca t.length (by have := sa7.cap'; have := HQ.out; omega) w7
                have sq := sa7.cutTo t.length (by rw [Lib.byteCells_length]; exact HQ.out)
                rw [← byteCells_take'] at sq
                have HSQ := hid sq
                have HS7 := hid (by have := s7; rw [show (Value.slice a7 t.length c7) = Value.slice a7 t.length c7 from rfl] at this; exact this)
                clear hown7 h6 sa6 hb6 hb7 sq s7 sa7
                go_wp2_with fail
                refine (Down_any w7 h7.at_).mono ?_
                rw [hbh.out.2.2.2.2]
                rintro e w' ⟨rfl, rfl⟩
                go_wp2_with fail
                refine (Bytes_any _ _ (D.f1.b.take (t.length)) (D.f1.b.take (t.length)) w7 HS7.out HSQ.out).mono ?_
                rw [show (D.f1.b.take (t.length) == D.f1.b.take (t.length)) = true from by simp]
                rintro e w' ⟨rfl, rfl⟩
                go_wp2_with fail
                refine (Synced_any 1 w7 h7.at_).mono ?_
                rw [hbh.out.2.2.1]
                rintro e w' ⟨rfl, rfl⟩
                have hbel := h7.below
                clear h7 hsl
                go_wp2
                go_ret
                exact ⟨rfl, hbel⟩
          · have hz := hzz
            clear hzz
            have HQ := hid (show t.length ≤ D.f1.b.length by omega)
            have ib1 : (D.f1.b.length : Int) ≤ 1000000 := by omega
            have ib2 : (t.length : Int) ≤ 1000000 := by omega
            have hbh := hid (behind D (t.length) (by rw [hkk, HZ0.out hz, ← hts]; unfold heldI; omega))
            have i9 : (zs.length : Int) ≤ 1 := by omega
            clear hts hkk hz hsl1 hnl
            go_wp2_with fail
            refine (Restart_ok hst.disk).mono ?_
            rintro e w6 ⟨rfl, r0, r1, h6, _, hb6⟩
            have sa6 := (Sl.ofOwns hst.all).old' hb6
            clear hst
            go_wp2_with fail
            refine (Read_ok 1 h6).mono ?_
            rw [hbh.out.1, hbh.out.2.1]
            rintro e w7 ⟨v7, rfl, hown7, h7, hb7⟩
            rw [hbh.out.2.2.2.1] at hown7
            have s7 := Sl.ofOwns hown7
            have sa7 := sa6.old' hb7
            obtain ⟨a7, c7, hv7⟩ := owns_form hown7
            subst hv7
            skip
            have hsl := run_slice_head oa D.f1.b.length ca t.length (by have := sa7.cap'; have := HQ.out; omega) w7
            have sq := sa7.cutTo t.length (by rw [Lib.byteCells_length]; exact HQ.out)
            rw [← byteCells_take'] at sq
            have HSQ := hid sq
            have HS7 := hid (by have := s7; rw [show (Value.slice a7 t.length c7) = Value.slice a7 t.length c7 from rfl] at this; exact this)
            clear hown7 h6 sa6 hb6 hb7 sq s7 sa7
            go_wp2_with fail
            refine (Down_any w7 h7.at_).mono ?_
            rw [hbh.out.2.2.2.2]
            rintro e w' ⟨rfl, rfl⟩
            go_wp2_with fail
            refine (Bytes_any _ _ (D.f1.b.take (t.length)) (D.f1.b.take (t.length)) w7 HS7.out HSQ.out).mono ?_
            rw [show (D.f1.b.take (t.length) == D.f1.b.take (t.length)) = true from by simp]
            rintro e w' ⟨rfl, rfl⟩
            go_wp2_with fail
            refine (Synced_any 1 w7 h7.at_).mono ?_
            rw [hbh.out.2.2.1]
            rintro e w' ⟨rfl, rfl⟩
            have hbel := h7.below
            clear h7 hsl
            go_wp2
            go_ret
            exact ⟨rfl, hbel⟩
      · have j1 : (bss.length : Int) ≤ (k : Int) := by omega
        have hsl1 := hst.disk.ok.wf.s1
        have hnl : t.length ≤ D.f1.b.length := by omega
        have hbd : D.f1.b.length ≤ 1000000 := by have := hst.disk.ok.wf.room; have := hst.disk.ok.wf.most; omega
        by_cases hzz : 1 < zs.length
        · have hz := hid hzz
          clear hzz
          obtain ⟨d, hd⟩ : ∃ d : Nat, (D.f1.b.length : Int) - (t.length : Int) = (d : Int) := ⟨D.f1.b.length - t.length, by omega⟩
          have hzl := hz.out
          by_cases c1 : (d : Int) < kk
          · by_cases c2 : 0 < d
            · have HQ := hid (show D.f1.b.length ≤ D.f1.b.length by omega)
              have ib1 : (D.f1.b.length : Int) ≤ 1000000 := by omega
              have ib2 : (t.length : Int) ≤ 1000000 := by omega
              have hbh := hid (behind D (D.f1.b.length) (by rw [hkk, ← hts]; unfold heldI; omega))
              have hsum : (t.length : Int) + (d : Int) = (D.f1.b.length : Int) := by omega
              have i9 : (1 : Int) < (zs.length : Int) := by omega
              have i8 : (0 : Int) < (d : Int) := by omega
              clear hzl hts hkk hsl1 hnl c2
              go_wp2_with fail
              refine (Restart_ok hst.disk).mono ?_
              rintro e w6 ⟨rfl, r0, r1, h6, _, hb6⟩
              have sa6 := (Sl.ofOwns hst.all).old' hb6
              clear hst
              go_wp2_with fail
              refine (Read_ok 1 h6).mono ?_
              rw [hbh.out.1, hbh.out.2.1]
              rintro e w7 ⟨v7, rfl, hown7, h7, hb7⟩
              rw [hbh.out.2.2.2.1] at hown7
              have s7 := Sl.ofOwns hown7
              have sa7 := sa6.old' hb7
              obtain ⟨a7, c7, hv7⟩ := owns_form hown7
              subst hv7
              obtain ⟨ak, rfl, hkw⟩ := HKC.out hz.out w7 h7.below
              have hkw2 : w7.cell? ⟨ak.block, ak.off + 1, none⟩ = some (.int .i64 kk) := hkw
              have hsl := run_slice_head oa D.f1.b.length ca D.f1.b.length (by have := sa7.cap'; have := HQ.out; omega) w7
              have sq := sa7.cutTo D.f1.b.length (by rw [Lib.byteCells_length]; exact HQ.out)
              rw [← byteCells_take'] at sq
              have HSQ := hid sq
              have HS7 := hid (by have := s7; rw [show (Value.slice a7 D.f1.b.length c7) = Value.slice a7 D.f1.b.length c7 from rfl] at this; exact this)
              clear hown7 h6 sa6 hb6 hb7 sq s7 sa7
              go_wp2_with fail
              refine (Down_any w7 h7.at_).mono ?_
              rw [hbh.out.2.2.2.2]
              rintro e w' ⟨rfl, rfl⟩
              go_wp2_with fail
              refine (Bytes_any _ _ (D.f1.b.take (D.f1.b.length)) (D.f1.b.take (D.f1.b.length)) w7 HS7.out HSQ.out).mono ?_
              rw [show (D.f1.b.take (D.f1.b.length) == D.f1.b.take (D.f1.b.length)) = true from by simp]
              rintro e w' ⟨rfl, rfl⟩
              go_wp2_with fail
              refine (Synced_any 1 w7 h7.at_).mono ?_
              rw [hbh.out.2.2.1]
              rintro e w' ⟨rfl, rfl⟩
              have hbel := h7.below
              clear h7 hsl
              go_wp2
              go_ret
              exact ⟨rfl, hbel⟩
            · have HQ := hid (show t.length ≤ D.f1.b.length by omega)
              have ib1 : (D.f1.b.length : Int) ≤ 1000000 := by omega
              have ib2 : (t.length : Int) ≤ 1000000 := by omega
              have hbh := hid (behind D (t.length) (by rw [hkk, ← hts]; unfold heldI; omega))
              have hd0 : (D.f1.b.length : Int) - (t.length : Int) = 0 := by omega
              have c0 : (0 : Int) < kk := by omega
              have i9 : (1 : Int) < (zs.length : Int) := by omega
              clear hzl hts hkk hsl1 hnl c2 c1 hd
              go_wp2_with fail
              refine (Restart_ok hst.disk).mono ?_
              rintro e w6 ⟨rfl, r0, r1, h6, _, hb6⟩
              have sa6 := (Sl.ofOwns hst.all).old' hb6
              clear hst
              go_wp2_with fail
              refine (Read_ok 1 h6).mono ?_
              rw [hbh.out.1, hbh.out.2.1]
              rintro e w7 ⟨v7, rfl, hown7, h7, hb7⟩
              rw [hbh.out.2.2.2.1] at hown7
              have s7 := Sl.ofOwns hown7
              have sa7 := sa6.old' hb7
              obtain ⟨a7, c7, hv7⟩ := owns_form hown7
              subst hv7
              obtain ⟨ak, rfl, hkw⟩ := HKC.out hz.out w7 h7.below
              have hkw2 : w7.cell? ⟨ak.block, ak.off + 1, none⟩ = some (.int .i64 kk) := hkw
              have hsl := run_slice_head oa D.f1.b.length ca t.length (by have := sa7.cap'; have := HQ.out; omega) w7
              have sq := sa7.cutTo t.length (by rw [Lib.byteCells_length]; exact HQ.out)
              rw [← byteCells_take'] at sq
              have HSQ := hid sq
              have HS7 := hid (by have := s7; rw [show (Value.slice a7 t.length c7) = Value.slice a7 t.length c7 from rfl] at this; exact this)
              clear hown7 h6 sa6 hb6 hb7 sq s7 sa7
              go_wp2_with fail
              refine (Down_any w7 h7.at_).mono ?_
              rw [hbh.out.2.2.2.2]
              rintro e w' ⟨rfl, rfl⟩
              go_wp2_with fail
              refine (Bytes_any _ _ (D.f1.b.take (t.length)) (D.f1.b.take (t.length)) w7 HS7.out HSQ.out).mono ?_
              rw [show (D.f1.b.take (t.length) == D.f1.b.take (t.length)) = true from by simp]
              rintro e w' ⟨rfl, rfl⟩
              go_wp2_with fail
              refine (Synced_any 1 w7 h7.at_).mono ?_
              rw [hbh.out.2.2.1]
              rintro e w' ⟨rfl, rfl⟩
              have hbel := h7.below
              clear h7 hsl
              go_wp2
              go_ret
              exact ⟨rfl, hbel⟩
          · by_cases c3 : 0 < kk
            · obtain ⟨m, rfl⟩ : ∃ m : Nat, kk = (m : Int) := ⟨kk.toNat, by omega⟩
              obtain ⟨q, hqq⟩ : ∃ q, q = t.length + m := ⟨_, rfl⟩
              have HQ := hid (show q ≤ D.f1.b.length by omega)
              have ib1 : (D.f1.b.length : Int) ≤ 1000000 := by omega
              have ib2 : (t.length : Int) ≤ 1000000 := by omega
              have hbh := hid (behind D (q) (by rw [hkk, ← hts]; unfold heldI; omega))
              have hsum : (t.length : Int) + (m : Int) = (q : Int) := by omega
              have i9 : (1 : Int) < (zs.length : Int) := by omega
              have i8 : (m : Int) ≤ (d : Int) := by omega
              clear hzl hts hkk hsl1 hnl c1 hqq
              go_wp2_with fail
              refine (Restart_ok hst.disk).mono ?_
              rintro e w6 ⟨rfl, r0, r1, h6, _, hb6⟩
              have sa6 := (Sl.ofOwns hst.all).old' hb6
              clear hst
              go_wp2_with fail
              refine (Read_ok 1 h6).mono ?_
              rw [hbh.out.1, hbh.out.2.1]
              rintro e w7 ⟨v7, rfl, hown7, h7, hb7⟩
              rw [hbh.out.2.2.2.1] at hown7
              have s7 := Sl.ofOwns hown7
              have sa7 := sa6.old' hb7
              obtain ⟨a7, c7, hv7⟩ := owns_form hown7
              subst hv7
              obtain ⟨ak, rfl, hkw⟩ := HKC.out hz.out w7 h7.below
              have hkw2 : w7.cell? ⟨ak.block, ak.off + 1, none⟩ = some (.int .i64 (m : Int)) := hkw
              have hsl := run_slice_head oa D.f1.b.length ca q (by have := sa7.cap'; have := HQ.out; omega) w7
              have sq := sa7.cutTo q (by rw [Lib.byteCells_length]; exact HQ.out)
              rw [← byteCells_take'] at sq
              have HSQ := hid sq
              have HS7 := hid (by have := s7; rw [show (Value.slice a7 q c7) = Value.slice a7 q c7 from rfl] at this; exact this)
              clear hown7 h6 sa6 hb6 hb7 sq s7 sa7
              go_wp2_with fail
              refine (Down_any w7 h7.at_).mono ?_
              rw [hbh.out.2.2.2.2]
              rintro e w' ⟨rfl, rfl⟩
              go_wp2_with fail
              refine (Bytes_any _ _ (D.f1.b.take (q)) (D.f1.b.take (q)) w7 HS7.out HSQ.out).mono ?_
              rw [show (D.f1.b.take (q) == D.f1.b.take (q)) = true from by simp]
              rintro e w' ⟨rfl, rfl⟩
              go_wp2_with fail
              refine (Synced_any 1 w7 h7.at_).mono ?_
              rw [hbh.out.2.2.1]
              rintro e w' ⟨rfl, rfl⟩
              have hbel := h7.below
              clear h7 hsl
              go_wp2
              go_ret
              exact ⟨rfl, hbel⟩
            · have HQ := hid (show t.length ≤ D.f1.b.length by omega)
              have ib1 : (D.f1.b.length : Int) ≤ 1000000 := by omega
              have ib2 : (t.length : Int) ≤ 1000000 := by omega
              have hbh := hid (behind D (t.length) (by rw [hkk, ← hts]; unfold heldI; omega))
              have i7 : kk ≤ 0 := by omega
              have i9 : (1 : Int) < (zs.length : Int) := by omega
              have i8 : kk ≤ (d : Int) := by omega
              clear hzl hts hkk hsl1 hnl c1 c3
              go_wp2_with fail
              refine (Restart_ok hst.disk).mono ?_
              rintro e w6 ⟨rfl, r0, r1, h6, _, hb6⟩
              have sa6 := (Sl.ofOwns hst.all).old' hb6
              clear hst
              go_wp2_with fail
              refine (Read_ok 1 h6).mono ?_
              rw [hbh.out.1, hbh.out.2.1]
              rintro e w7 ⟨v7, rfl, hown7, h7, hb7⟩
              rw [hbh.out.2.2.2.1] at hown7
              have s7 := Sl.ofOwns hown7
              have sa7 := sa6.old' hb7
              obtain ⟨a7, c7, hv7⟩ := owns_form hown7
              subst hv7
              obtain ⟨ak, rfl, hkw⟩ := HKC.out hz.out w7 h7.below
              have hkw2 : w7.cell? ⟨ak.block, ak.off + 1, none⟩ = some (.int .i64 kk) := hkw
              have hsl := run_slice_head oa D.f1.b.length ca t.length (by have := sa7.cap'; have := HQ.out; omega) w7
              have sq := sa7.cutTo t.length (by rw [Lib.byteCells_length]; exact HQ.out)
              rw [← byteCells_take'] at sq
              have HSQ := hid sq
              have HS7 := hid (by have := s7; rw [show (Value.slice a7 t.length c7) = Value.slice a7 t.length c7 from rfl] at this; exact this)
              clear hown7 h6 sa6 hb6 hb7 sq s7 sa7
              go_wp2_with fail
              refine (Down_any w7 h7.at_).mono ?_
              rw [hbh.out.2.2.2.2]
              rintro e w' ⟨rfl, rfl⟩
              go_wp2_with fail
              refine (Bytes_any _ _ (D.f1.b.take (t.length)) (D.f1.b.take (t.length)) w7 HS7.out HSQ.out).mono ?_
              rw [show (D.f1.b.take (t.length) == D.f1.b.take (t.length)) = true from by simp]
              rintro e w' ⟨rfl, rfl⟩
              go_wp2_with fail
              refine (Synced_any 1 w7 h7.at_).mono ?_
              rw [hbh.out.2.2.1]
              rintro e w' ⟨rfl, rfl⟩
              have hbel := h7.below
              clear h7 hsl
              go_wp2
              go_ret
              exact ⟨rfl, hbel⟩
        · have hz := hzz
          clear hzz
          have HQ := hid (show t.length ≤ D.f1.b.length by omega)
          have ib1 : (D.f1.b.length : Int) ≤ 1000000 := by omega
          have ib2 : (t.length : Int) ≤ 1000000 := by omega
          have hbh := hid (behind D (t.length) (by rw [hkk, HZ0.out hz, ← hts]; unfold heldI; omega))
          have i9 : (zs.length : Int) ≤ 1 := by omega
          clear hts hkk hz hsl1 hnl
          go_wp2_with fail
          refine (Restart_ok hst.disk).mono ?_
          rintro e w6 ⟨rfl, r0, r1, h6, _, hb6⟩
          have sa6 := (Sl.ofOwns hst.all).old' hb6
          clear hst
          go_wp2_with fail
          refine (Read_ok 1 h6).mono ?_
          rw [hbh.out.1, hbh.out.2.1]
          rintro e w7 ⟨v7, rfl, hown7, h7, hb7⟩
          rw [hbh.out.2.2.2.1] at hown7
          have s7 := Sl.ofOwns hown7
          have sa7 := sa6.old' hb7
          obtain ⟨a7, c7, hv7⟩ := owns_form hown7
          subst hv7
          skip
          have hsl := run_slice_head oa D.f1.b.length ca t.length (by have := sa7.cap'; have := HQ.out; omega) w7
          have sq := sa7.cutTo t.length (by rw [Lib.byteCells_length]; exact HQ.out)
          rw [← byteCells_take'] at sq
          have HSQ := hid sq
          have HS7 := hid (by have := s7; rw [show (Value.slice a7 t.length c7) = Value.slice a7 t.length c7 from rfl] at this; exact this)
          clear hown7 h6 sa6 hb6 hb7 sq s7 sa7
          go_wp2_with fail
          refine (Down_any w7 h7.at_).mono ?_
          rw [hbh.out.2.2.2.2]
          rintro e w' ⟨rfl, rfl⟩
          go_wp2_with fail
          refine (Bytes_any _ _ (D.f1.b.take (t.length)) (D.f1.b.take (t.length)) w7 HS7.out HSQ.out).mono ?_
          rw [show (D.f1.b.take (t.length) == D.f1.b.take (t.length)) = true from by simp]
          rintro e w' ⟨rfl, rfl⟩
          go_wp2_with fail
          refine (Synced_any 1 w7 h7.at_).mono ?_
          rw [hbh.out.2.2.1]
          rintro e w' ⟨rfl, rfl⟩
          have hbel := h7.below
          clear h7 hsl
          go_wp2
          go_ret
          exact ⟨rfl, hbel⟩

theorem own : ownKnob Try.prog.godebug = none := by kernel_rfl
theorem laidOut : laidOutB Try.prog = true := by kernel_rfl

set_option maxRecDepth 100000 in
theorem lifted (os : Os) (started : os.Started) (H : Type) (enc : TypeId × Value → H) :
    ReturnsInHanded {} Try.checked os 4 .any (Rows.diskKeepsSpec.pre6 enc Try.prog Try.f4 Rows.diskKeepsRow.domain false) (Rows.diskKeepsSpec.post enc Try.prog Try.f4 false true false false) := by
  refine returnsInHanded_of_change (C := Try.checked) own started (by kernel_rfl) Try.func4
    (ChangeSpec.witness6 (enc := enc) (C := Try.checked) false ⟨#[], #[.slice none 0 0, .slice none 0 0, .int .i64 0, .slice none 0 0], []⟩ 8 (by kernel_rfl) (by kernel_rfl) (by kernel_rfl) (by kernel_rfl)) ?_
  intro W base args ds gs before hval0 hW hcnd _
  have hval : ∀ (j : Nat) t v, Try.f4.params[j]? = some t → args[j]? = some v → Value.okWide Try.prog W .any base t v := hval0
  have hW' := hW
  obtain ⟨p, q, hA0, hV, rfl, hfz, hnd⟩ := hW
  have hA : DataW.TrodAll enc Try.prog W 0 (fun _ => true) true Try.f4.params.toList args.toList ds p := hA0
  rw [Try.params4] at hA hval
  obtain ⟨v0, vs0, d0, ds0, p0, q0, hargs, rfl, rfl, h0, r0⟩ := trodAll_cons hA
  obtain ⟨v1, vs1, d1, ds1, p1, q1, rfl, rfl, rfl, h1, r1⟩ := trodAll_cons r0
  obtain ⟨v2, vs2, d2, ds2, p2, q2, rfl, rfl, rfl, h2, r2⟩ := trodAll_cons r1
  obtain ⟨v3, vs3, d3, ds3, p3, q3, rfl, rfl, rfl, h3, r3⟩ := trodAll_cons r2
  obtain ⟨rfl, rfl, rfl⟩ := trodAll_nil r3
  obtain rfl : args = #[v0, v1, v2, v3] := by cases args; simp_all
  obtain ⟨rfl, rfl⟩ := trodVars_none hV
  have k0 := h0
  have lt0 : ∀ x ∈ p0, x.block < W.heap.size := by obtain ⟨m, hm⟩ := k0; exact DataW.trod_lt m _ _ _ hm
  obtain ⟨x0, l0, c0, rfl⟩ := okWide_slice Try.underlying43 (hval 0 43 v0 rfl rfl)
  obtain ⟨a0, w0⟩ : ∃ a, FactParts W (.slice x0 l0 c0) a := by
    obtain ⟨fuel, hf⟩ := h0
    obtain ⟨v', a, hcs, hs⟩ := open_parts hf
    obtain rfl : v' = .slice x0 l0 c0 := by simpa [Value.cells] using hcs.symm
    exact ⟨a, hs⟩
  have k1 := h1
  have lt1 : ∀ x ∈ p1, x.block < W.heap.size := by obtain ⟨m, hm⟩ := k1; exact DataW.trod_lt m _ _ _ hm
  obtain ⟨x1, l1, c1, rfl⟩ := okWide_slice Try.underlying44 (hval 1 44 v1 rfl rfl)
  obtain ⟨a1, w1⟩ : ∃ a, FactBools W (.slice x1 l1 c1) a := by
    obtain ⟨fuel, hf⟩ := h1
    obtain ⟨v', a, hcs, hs⟩ := open_boolList Try.underlying44 Try.underlying4 (by kernel_rfl) hf
    obtain rfl : v' = .slice x1 l1 c1 := by simpa [Value.cells] using hcs.symm
    exact ⟨a, hs⟩
  have k2 := h2
  have lt2 : ∀ x ∈ p2, x.block < W.heap.size := by obtain ⟨m, hm⟩ := k2; exact DataW.trod_lt m _ _ _ hm
  obtain ⟨a2, rfl, _, _, w2⟩ := open_int Try.underlying3 (hval 2 3 v2 rfl rfl) h2
  have k3 := h3
  have lt3 : ∀ x ∈ p3, x.block < W.heap.size := by obtain ⟨m, hm⟩ := k3; exact DataW.trod_lt m _ _ _ hm
  obtain ⟨x3, l3, c3, rfl⟩ := okWide_slice Try.underlying29 (hval 3 29 v3 rfl rfl)
  obtain ⟨a3, w3⟩ : ∃ a, FactInts .i64 W (.slice x3 l3 c3) a := by
    obtain ⟨fuel, hf⟩ := h3
    obtain ⟨v', a, hcs, hs⟩ := open_intList Try.underlying29 Try.underlying3 (by kernel_rfl) hf
    obtain rfl : v' = .slice x3 l3 c3 := by simpa [Value.cells] using hcs.symm
    exact ⟨a, hs⟩
  clear hA0 hval0
  refine (walk (.slice x0 l0 c0) a0 (.slice x1 l1 c1) a1 a2 (.slice x3 l3 c3) a3 W w0 w1 w2 w3).mono fun e W' ⟨he, bel⟩ => ?_
  subst he
  exact ⟨_, rfl, _, _, _, [], _, [], hW', trodAll_mk1 (shut_bool Try.underlying4 _), (trodAll_cons_mk (Below.trod laidOut (by kernel_rfl) (of_decide_eq_true (by kernel_rfl)) k0 bel lt0) (trodAll_cons_mk (Below.trod laidOut (by kernel_rfl) (of_decide_eq_true (by kernel_rfl)) k1 bel lt1) (trodAll_cons_mk (Below.trod laidOut (by kernel_rfl) (of_decide_eq_true (by kernel_rfl)) k2 bel lt2) (trodAll_cons_mk (Below.trod laidOut (by kernel_rfl) (of_decide_eq_true (by kernel_rfl)) k3 bel lt3) trodAll_mk0)))), rfl, bel.frame _, fun h => by cases h⟩

theorem over : Rows.diskKeepsRow.holds Try.pinned (OpenSpec.ofChange Rows.diskKeepsSpec) :=
  OpenClaim.holds_of_wide 4 Try.f4 rfl rfl rfl rfl rfl rfl rfl ⟨rfl, rfl, rfl, rfl, rfl⟩ rfl rfl rfl rfl rfl (by kernel_rfl) Try.func4 (by kernel_rfl)
    (of_decide_eq_true (by kernel_rfl)) (by unfold Func.isWrapper; first | (rw [if_pos (by decide +kernel)]; kernel_rfl) | (rw [if_neg (by decide +kernel)]; exact ⟨rfl, rfl⟩))
    (fun os started H enc _ => lifted os started H enc)

/-- The statement. -/
theorem proved : Rows.DiskKeepsSaid :=
  over
#print axioms proved

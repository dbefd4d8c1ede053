/-
  DiffTells: what two lists have in common, the script, how long it is, and both sides of any script.
-/
import Derived.Test.YtiieomikpcjihaaDifAw
import Derived.Test.YtiieomikpcjihaaRdfD
import Derived.Test.YtiieomikpcjihaaOpenS
import Derived.Test.YtiieomikpcjihaaOpen2
import Derived.ProofKit
import Derived.OpenShut
namespace Go.Proofs.Ytiieomikpcjihaa.diffTells
open Go.ChangeShapes Go.WideShapes Go.ChangeAt Go.RowKit

/-- A list of edits that came in. -/
def FactEds (w : World) (v : Value) (es : List (Int × List UInt8)) : Prop := SlE w v es ∧ es.length ≤ maxLen
theorem cellsEd : Try.prog.cellsOf 29 = 2 := by kernel_rfl
theorem cellsI : Try.prog.cellsOf 3 = 1 := by kernel_rfl
theorem cellsS : Try.prog.cellsOf 9 = 1 := by kernel_rfl
theorem SlE.ofN {w : World} {v : Value} {es : List (Int × List UInt8)} (h : SlN 2 w v (es.map edCells)) : SlE w v es := by
  obtain ⟨ao, cap, rfl, hn, hcap, hc⟩ := h
  rw [List.length_map] at hcap ⊢
  refine ⟨ao, cap, rfl, fun h => by simpa using hn h, hcap, fun a ha i e he => ?_⟩
  have := (hc a ha i (edCells e) (by rw [List.getElem?_map, he]; rfl)).2
  exact ⟨this 0 _ rfl, this 1 _ rfl⟩
section
variable {H : Type} {enc : TypeId × Value → H} {w : World} {base : Nat} {spare : Nat → Bool} {held : Bool}
theorem ed_of {fuel : Nat} {cs : List Value} {y : DataW H × List MemPlace} (h : DataW.trod enc Try.prog w base spare held fuel 29 cs = some y) : ∃ x : Int × List UInt8, cs = edCells x := by
  obtain ⟨ys, n, _, _, hl, hlen, hf⟩ := DataW.trod_struct Try.underlying29 h
  rw [cellsEd] at hl
  match cs, hl, ys, hlen with
  | [c0, c1], _, [y0, y1], _ =>
    have f0 : DataW.trod enc Try.prog w base spare held n 3 [c0] = some y0 := by simpa [cellsI] using hf 0 _ rfl
    have f1 : DataW.trod enc Try.prog w base spare held n 9 [c1] = some y1 := by simpa [cellsS] using hf 1 _ rfl
    obtain ⟨k0, e0, _, _⟩ := DataW.trod_int Try.underlying3 f0
    obtain ⟨s, e1, _, _⟩ := DataW.trod_string Try.underlying9 f1
    simp at e0 e1
    exact ⟨(k0, s.data.toList), by simp [edCells, strV, e0, e1]⟩
theorem open_eds {fuel : Nat} {cs : List Value} {x : DataW H × List MemPlace} (h : DataW.trod enc Try.prog w base spare held fuel 23 cs = some x) :
    ∃ v l, cs = [v] ∧ FactEds w v l := by
  obtain ⟨v, css, n, rfl, hs, hl, hu⟩ := open_slN Try.underlying23 cellsEd h
  obtain ⟨l, rfl⟩ : ∃ l : List (Int × List UInt8), css = l.map edCells := by
    clear hs hl
    induction css with
    | nil => exact ⟨[], rfl⟩
    | cons c css ih =>
      obtain ⟨y, hy⟩ := hu c (List.mem_cons_self ..)
      obtain ⟨x, rfl⟩ := ed_of hy
      obtain ⟨l, rfl⟩ := ih fun u hu' => hu u (List.mem_cons_of_mem _ hu')
      exact ⟨x :: l, rfl⟩
  exact ⟨v, l, rfl, SlE.ofN hs, by simpa using hl⟩
end

section
set_option maxRecDepth 100000
set_option maxHeartbeats 4000000
theorem walk_big (va vb vc : Value) (a b : List (List UInt8)) (c : List (Int × List UInt8)) (w : World) (ha : FactStrs w va a) (hb : FactStrs w vb b) (hc : FactEds w vc c) (hl : 120 < a.length ∨ 120 < b.length ∨ 200 < c.length) :
    Calls Try.prog 3 #[va, vb, vc] w fun e w' => e = .returned (.bool true) ∧ Below w.heap.size w w' := by
  obtain ⟨s1, _, _⟩ := ha
  obtain ⟨s2, _, _⟩ := hb
  obtain ⟨s3, _⟩ := hc
  obtain ⟨a1, c1, rfl⟩ := s1.form
  obtain ⟨a2, c2, rfl⟩ := s2.form
  obtain ⟨a3, c3, rfl⟩ := s3.form
  rw [strCells_length, strCells_length]
  have hl' : (120 : Int) < (a.length : Int) ∨ (¬ (120 : Int) < (a.length : Int) ∧ (120 : Int) < (b.length : Int)) ∨ (¬ (120 : Int) < (a.length : Int) ∧ ¬ (120 : Int) < (b.length : Int) ∧ (200 : Int) < (c.length : Int)) := by omega
  clear hl
  rcases hl' with h1 | ⟨h1, h2⟩ | ⟨h1, h2, h3⟩
  all_goals
    go_enter Try.func3, Try.ntmps3
    go_wp2_with fail
    refine (awake_any w).mono ?_
    rintro e w1 ⟨rfl, hb1⟩
    go_wp2
    go_ret
    exact ⟨rfl, hb1⟩

theorem walk_at (va vb vc : Value) (a b : List (List UInt8)) (c : List (Int × List UInt8)) (w : World) (ha : FactStrs w va a) (hb : FactStrs w vb b) (hc : FactEds w vc c) (hal : a.length ≤ 120) (hbl : b.length ≤ 120) (hcl : c.length ≤ 200) :
    Calls Try.prog 3 #[va, vb, vc] w fun e w' => e = .returned (.bool true) ∧ Below w.heap.size w w' := by
  obtain ⟨s1, _, _⟩ := ha
  obtain ⟨s2, _, _⟩ := hb
  obtain ⟨s3, _⟩ := hc
  obtain ⟨a1, c1, rfl⟩ := s1.form
  obtain ⟨a2, c2, rfl⟩ := s2.form
  obtain ⟨a3, c3, rfl⟩ := s3.form
  rw [strCells_length] at s1 s2 ⊢
  rw [strCells_length]
  obtain ⟨n, hn⟩ : ∃ n, lcs a b = n := ⟨_, rfl⟩
  obtain ⟨es, hes⟩ : ∃ es, scriptS a b = es := ⟨_, rfl⟩
  obtain ⟨D, hd⟩ : ∃ D, distS es = D := ⟨_, rfl⟩
  obtain ⟨so, hso⟩ : ∃ x, sideS 2 c = x := ⟨_, rfl⟩
  obtain ⟨sn, hsn⟩ : ∃ x, sideS 3 c = x := ⟨_, rfl⟩
  have hsol := sideS_le 2 c
  have hsnl := sideS_le 3 c
  rw [hso] at hsol
  rw [hsn] at hsnl
  have HSO : Hid (so.length ≤ maxLen) := hid (by unfold maxLen; omega)
  have HSN : Hid (sn.length ≤ maxLen) := hid (by unfold maxLen; omega)
  have HA : Hid (a.length ≤ 1000000) := hid (by omega)
  have HB : Hid (b.length ≤ 1000000) := hid (by omega)
  have HC : Hid (c.length ≤ 1099511627776) := hid (by omega)
  have FN := hid hn
  have FE := hid hes
  have FD := hid hd
  have FO := hid hso
  have FW := hid hsn
  have g1 : ¬ (120 : Int) < (a.length : Int) := by omega
  have g2 : ¬ (120 : Int) < (b.length : Int) := by omega
  have g3 : ¬ (200 : Int) < (c.length : Int) := by omega
  have oa := SOwn_any _ a [55, 49] w s1 (by omega)
  have ob := fun (wx : World) (h : Sl wx (.slice a2 b.length c2) (strCells b)) => SOwn_any _ b [55, 49] wx h (by omega)
  have OA := hid oa
  have OB := hid ob
  clear hn hes hd hso hsn hsol hsnl hal hbl hcl oa ob
  go_enter Try.func3, Try.ntmps3
  go_wp2_with fail
  have hD := OA.out
  refine hD.mono ?_
  rintro e x0 ⟨rfl, own1, hb0⟩
  have s1 := Sl.old s1 hb0
  have s2 := Sl.old s2 hb0
  have s3 := SlE.old s3 hb0
  have hz0 := hb0.size
  clear hD
  go_wp2_with fail
  have hD := OB.out x0 s2
  refine hD.mono ?_
  rintro e x1 ⟨rfl, own2, hb1⟩
  have s1 := Sl.old s1 hb1
  have s2 := Sl.old s2 hb1
  have s3 := SlE.old s3 hb1
  have own1 := OwnCopyS.old own1 hb1
  have hb1 := below_step hb0 hb1 hz0
  have hz1 := hb1.size
  clear hD hb0 hz0
  go_wp2_with fail
  have hD := awake_any x1
  refine hD.mono ?_
  rintro e x2 ⟨rfl, hb2⟩
  have s1 := Sl.old s1 hb2
  have s2 := Sl.old s2 hb2
  have s3 := SlE.old s3 hb2
  have own1 := OwnCopyS.old own1 hb2
  have own2 := OwnCopyS.old own2 hb2
  have hb2 := below_step hb1 hb2 hz1
  have hz2 := hb2.size
  clear hD hb1 hz1
  go_wp2_with fail
  have hD := DCommon_any _ _ a b x2 own1.sl own2.sl HA.out HB.out
  rw [FN.out] at hD
  refine hD.mono ?_
  rintro e x3 ⟨rfl, hb3⟩
  have s1 := Sl.old s1 hb3
  have s2 := Sl.old s2 hb3
  have s3 := SlE.old s3 hb3
  have own1 := OwnCopyS.old own1 hb3
  have own2 := OwnCopyS.old own2 hb3
  have hb3 := below_step hb2 hb3 hz2
  have hz3 := hb3.size
  clear hD hb2 hz2
  go_wp2_with fail
  have hD := RCommon_any _ _ a b x3 s1 s2 HA.out HB.out
  rw [FN.out] at hD
  refine hD.mono ?_
  rintro e x4 ⟨rfl, hb4⟩
  have s1 := Sl.old s1 hb4
  have s2 := Sl.old s2 hb4
  have s3 := SlE.old s3 hb4
  have own1 := OwnCopyS.old own1 hb4
  have own2 := OwnCopyS.old own2 hb4
  have hb4 := below_step hb3 hb4 hz3
  have hz4 := hb4.size
  clear hD hb3 hz3
  go_wp2_with fail
  have hD := DScript_any _ _ a b x4 own1.sl own2.sl HA.out HB.out
  rw [FE.out] at hD
  refine hD.mono ?_
  rintro e x5 ⟨l1, rfl, hl1, hb5⟩
  have ml := hl1.le
  have hl1 := hl1.slE
  obtain ⟨ao1, cp1, hf⟩ := hl1.form
  subst hf
  have ML := hid ml
  clear ml
  have s1 := Sl.old s1 hb5
  have s2 := Sl.old s2 hb5
  have s3 := SlE.old s3 hb5
  have own1 := OwnCopyS.old own1 hb5
  have own2 := OwnCopyS.old own2 hb5
  have hb5 := below_step hb4 hb5 hz4
  have hz5 := hb5.size
  clear hD hb4 hz4
  go_wp2_with fail
  have hD := RScript_any _ _ a b x5 s1 s2 HA.out HB.out
  rw [FE.out] at hD
  refine hD.mono ?_
  rintro e x6 ⟨l2, rfl, hl2, hb6⟩
  have hl2 := hl2.slE
  obtain ⟨ao2, cp2, hf⟩ := hl2.form
  subst hf
  have s1 := Sl.old s1 hb6
  have s2 := Sl.old s2 hb6
  have s3 := SlE.old s3 hb6
  have own1 := OwnCopyS.old own1 hb6
  have own2 := OwnCopyS.old own2 hb6
  have hl1 := SlE.old hl1 hb6
  have hb6 := below_step hb5 hb6 hz5
  have hz6 := hb6.size
  clear hD hb5 hz5
  go_wp2_with fail
  have hD := EPlain_any _ _ es es x6 hl1 hl2 ML.out
  rw [show (es == es) = true by simp] at hD
  refine hD.mono ?_
  rintro e x7 ⟨rfl, hb7⟩
  have s1 := Sl.old s1 hb7
  have s2 := Sl.old s2 hb7
  have s3 := SlE.old s3 hb7
  have own1 := OwnCopyS.old own1 hb7
  have own2 := OwnCopyS.old own2 hb7
  have hl1 := SlE.old hl1 hb7
  have hl2 := SlE.old hl2 hb7
  have hb7 := below_step hb6 hb7 hz6
  have hz7 := hb7.size
  clear hD hb6 hz6
  clear hl1
  clear hl2
  go_wp2_with fail
  have hD := DDistance_any _ _ a b x7 own1.sl own2.sl HA.out HB.out
  rw [FE.out] at hD
  rw [FD.out] at hD
  refine hD.mono ?_
  rintro e x8 ⟨rfl, hb8⟩
  have s1 := Sl.old s1 hb8
  have s2 := Sl.old s2 hb8
  have s3 := SlE.old s3 hb8
  have own1 := OwnCopyS.old own1 hb8
  have own2 := OwnCopyS.old own2 hb8
  have hb8 := below_step hb7 hb8 hz7
  have hz8 := hb8.size
  clear hD hb7 hz7
  go_wp2_with fail
  have hD := RDistance_any _ _ a b x8 s1 s2 HA.out HB.out
  rw [FE.out] at hD
  rw [FD.out] at hD
  refine hD.mono ?_
  rintro e x9 ⟨rfl, hb9⟩
  have s1 := Sl.old s1 hb9
  have s2 := Sl.old s2 hb9
  have s3 := SlE.old s3 hb9
  have own1 := OwnCopyS.old own1 hb9
  have own2 := OwnCopyS.old own2 hb9
  have hb9 := below_step hb8 hb9 hz8
  have hz9 := hb9.size
  clear hD hb8 hz8
  go_wp2_with fail
  have hD := DOld_any _ c x9 s3 HC.out
  rw [FO.out] at hD
  refine hD.mono ?_
  rintro e x10 ⟨u1, rfl, hu1, hb10⟩
  have hu1 := Sl.ofOwns hu1
  have s1 := Sl.old s1 hb10
  have s2 := Sl.old s2 hb10
  have s3 := SlE.old s3 hb10
  have own1 := OwnCopyS.old own1 hb10
  have own2 := OwnCopyS.old own2 hb10
  have hb10 := below_step hb9 hb10 hz9
  have hz10 := hb10.size
  clear hD hb9 hz9
  go_wp2_with fail
  have hD := ROld_any _ c x10 s3 HC.out
  rw [FO.out] at hD
  refine hD.mono ?_
  rintro e x11 ⟨u2, rfl, hu2, hb11⟩
  have hu2 := Sl.ofOwns hu2
  have s1 := Sl.old s1 hb11
  have s2 := Sl.old s2 hb11
  have s3 := SlE.old s3 hb11
  have own1 := OwnCopyS.old own1 hb11
  have own2 := OwnCopyS.old own2 hb11
  have hu1 := Sl.old hu1 hb11
  have hb11 := below_step hb10 hb11 hz10
  have hz11 := hb11.size
  clear hD hb10 hz10
  go_wp2_with fail
  have hD := SPlain_any _ _ so so x11 hu1 hu2 HSO.out
  rw [show (so == so) = true by simp] at hD
  refine hD.mono ?_
  rintro e x12 ⟨rfl, k12, rfl⟩
  have hb12 := below_drewN x11 k12
  generalize x11.drewN k12 = x12 at hb12 ⊢
  have s1 := Sl.old s1 hb12
  have s2 := Sl.old s2 hb12
  have s3 := SlE.old s3 hb12
  have own1 := OwnCopyS.old own1 hb12
  have own2 := OwnCopyS.old own2 hb12
  have hu1 := Sl.old hu1 hb12
  have hu2 := Sl.old hu2 hb12
  have hb12 := below_step hb11 hb12 hz11
  have hz12 := hb12.size
  clear hD hb11 hz11
  clear hu1
  clear hu2
  go_wp2_with fail
  have hD := DNew_any _ c x12 s3 HC.out
  rw [FW.out] at hD
  refine hD.mono ?_
  rintro e x13 ⟨u1, rfl, hu1, hb13⟩
  have hu1 := Sl.ofOwns hu1
  have s1 := Sl.old s1 hb13
  have s2 := Sl.old s2 hb13
  have s3 := SlE.old s3 hb13
  have own1 := OwnCopyS.old own1 hb13
  have own2 := OwnCopyS.old own2 hb13
  have hb13 := below_step hb12 hb13 hz12
  have hz13 := hb13.size
  clear hD hb12 hz12
  go_wp2_with fail
  have hD := RNew_any _ c x13 s3 HC.out
  rw [FW.out] at hD
  refine hD.mono ?_
  rintro e x14 ⟨u2, rfl, hu2, hb14⟩
  have hu2 := Sl.ofOwns hu2
  have s1 := Sl.old s1 hb14
  have s2 := Sl.old s2 hb14
  have s3 := SlE.old s3 hb14
  have own1 := OwnCopyS.old own1 hb14
  have own2 := OwnCopyS.old own2 hb14
  have hu1 := Sl.old hu1 hb14
  have hb14 := below_step hb13 hb14 hz13
  have hz14 := hb14.size
  clear hD hb13 hz13
  go_wp2_with fail
  have hD := SPlain_any _ _ sn sn x14 hu1 hu2 HSN.out
  rw [show (sn == sn) = true by simp] at hD
  refine hD.mono ?_
  rintro e x15 ⟨rfl, k15, rfl⟩
  have hb15 := below_drewN x14 k15
  generalize x14.drewN k15 = x15 at hb15 ⊢
  have s1 := Sl.old s1 hb15
  have s2 := Sl.old s2 hb15
  have s3 := SlE.old s3 hb15
  have own1 := OwnCopyS.old own1 hb15
  have own2 := OwnCopyS.old own2 hb15
  have hu1 := Sl.old hu1 hb15
  have hu2 := Sl.old hu2 hb15
  have hb15 := below_step hb14 hb15 hz14
  have hz15 := hb15.size
  clear hD hb14 hz14
  clear hu1
  clear hu2
  go_wp2_with fail
  have hD := SKept_any _ _ a [55, 49] x15 own1 s1 (by have := HA.out; omega)
  refine hD.mono ?_
  rintro e x16 ⟨rfl, k16, rfl⟩
  have hb16 := below_drewN x15 k16
  generalize x15.drewN k16 = x16 at hb16 ⊢
  have s1 := Sl.old s1 hb16
  have s2 := Sl.old s2 hb16
  have s3 := SlE.old s3 hb16
  have own1 := OwnCopyS.old own1 hb16
  have own2 := OwnCopyS.old own2 hb16
  have hb16 := below_step hb15 hb16 hz15
  have hz16 := hb16.size
  clear hD hb15 hz15
  go_wp2_with fail
  have hD := SKept_any _ _ b [55, 49] x16 own2 s2 (by have := HB.out; omega)
  refine hD.mono ?_
  rintro e x17 ⟨rfl, k17, rfl⟩
  have hb17 := below_drewN x16 k17
  generalize x16.drewN k17 = x17 at hb17 ⊢
  have s1 := Sl.old s1 hb17
  have s2 := Sl.old s2 hb17
  have s3 := SlE.old s3 hb17
  have own1 := OwnCopyS.old own1 hb17
  have own2 := OwnCopyS.old own2 hb17
  have hb17 := below_step hb16 hb17 hz16
  have hz17 := hb17.size
  clear hD hb16 hz16
  go_wp2
  go_ret
  exact ⟨rfl, hb17⟩

theorem walk (va : Value) (a : List (List UInt8)) (vb : Value) (b : List (List UInt8)) (vc : Value) (c : List (Int × List UInt8)) (w : World) (ha : FactStrs w va a) (hb : FactStrs w vb b) (hc : FactEds w vc c) :
    Calls Try.prog 3 #[va, vb, vc] w fun e w' => e = .returned (.bool true) ∧ Below w.heap.size w w' := by
  by_cases h : 120 < a.length ∨ 120 < b.length ∨ 200 < c.length
  · exact walk_big va vb vc a b c w ha hb hc h
  · exact walk_at va vb vc a b c w ha hb hc (by omega) (by omega) (by omega)
end

theorem own : ownKnob Try.prog.godebug = none := by kernel_rfl
theorem laidOut : laidOutB Try.prog = true := by kernel_rfl

theorem contract (H : Type) (enc : TypeId × Value → H) (W : World) (base : Nat) (args : Array Value) (ds gs : List (DataW H)) (before : List MemPlace)
    (hval : ∀ (j : Nat) t v, Try.f3.params[j]? = some t → args[j]? = some v → Value.okWide Try.prog W .any base t v)
    (hW : DataW.Whole enc Try.prog Try.f3.params.toList Rows.diffTellsSpec.vars false W args.toList ds gs before) :
    Calls Try.prog 3 args W fun e W' => ∃ v, e = .returned v ∧ Rows.diffTellsSpec.post enc Try.prog Try.f3 false true false false W args v W' := by
  have hW' := hW
  obtain ⟨p, q, hA0, hV, rfl, hfz, hnd⟩ := hW
  have hA : DataW.TrodAll enc Try.prog W 0 (fun _ => true) true Try.f3.params.toList args.toList ds p := hA0
  rw [Try.params3] at hA hval
  obtain ⟨v0, vs0, d0, ds0, p0, q0, hargs, rfl, rfl, h0, r0⟩ := trodAll_cons hA
  obtain ⟨v1, vs1, d1, ds1, p1, q1, rfl, rfl, rfl, h1, r1⟩ := trodAll_cons r0
  obtain ⟨v2, vs2, d2, ds2, p2, q2, rfl, rfl, rfl, h2, r2⟩ := trodAll_cons r1
  obtain ⟨rfl, rfl, rfl⟩ := trodAll_nil r2
  obtain rfl : args = #[v0, v1, v2] := by cases args; simp_all
  obtain ⟨rfl, rfl⟩ := trodVars_none hV
  have k0 := h0
  have lt0 : ∀ x ∈ p0, x.block < W.heap.size := by obtain ⟨m, hm⟩ := k0; exact DataW.trod_lt m _ _ _ hm
  obtain ⟨x0, l0, c0, rfl⟩ := okWide_slice Try.underlying22 (hval 0 22 v0 rfl rfl)
  obtain ⟨a0, w0, e0⟩ : ∃ a, FactStrs W (.slice x0 l0 c0) a ∧ ((d0 = .nil ∧ a = []) ∨ ∃ rest, d0 = .slice (dataStrs a) rest) := by
    obtain ⟨fuel, hf⟩ := h0
    obtain ⟨v', a, hcs, hs, hx⟩ := open_strL Try.underlying22 Try.underlying9 (by kernel_rfl) hf
    obtain rfl : v' = .slice x0 l0 c0 := by simpa [Value.cells] using hcs.symm
    exact ⟨a, hs, hx⟩
  clear e0
  have k1 := h1
  have lt1 : ∀ x ∈ p1, x.block < W.heap.size := by obtain ⟨m, hm⟩ := k1; exact DataW.trod_lt m _ _ _ hm
  obtain ⟨x1, l1, c1, rfl⟩ := okWide_slice Try.underlying22 (hval 1 22 v1 rfl rfl)
  obtain ⟨a1, w1, e1⟩ : ∃ a, FactStrs W (.slice x1 l1 c1) a ∧ ((d1 = .nil ∧ a = []) ∨ ∃ rest, d1 = .slice (dataStrs a) rest) := by
    obtain ⟨fuel, hf⟩ := h1
    obtain ⟨v', a, hcs, hs, hx⟩ := open_strL Try.underlying22 Try.underlying9 (by kernel_rfl) hf
    obtain rfl : v' = .slice x1 l1 c1 := by simpa [Value.cells] using hcs.symm
    exact ⟨a, hs, hx⟩
  clear e1
  have k2 := h2
  have lt2 : ∀ x ∈ p2, x.block < W.heap.size := by obtain ⟨m, hm⟩ := k2; exact DataW.trod_lt m _ _ _ hm
  obtain ⟨x2, l2, c2, rfl⟩ := okWide_slice Try.underlying23 (hval 2 23 v2 rfl rfl)
  obtain ⟨a2, w2⟩ : ∃ a, FactEds W (.slice x2 l2 c2) a := by
    obtain ⟨fuel, hf⟩ := h2
    obtain ⟨v', a, hcs, hs⟩ := open_eds hf
    obtain rfl : v' = .slice x2 l2 c2 := by simpa [Value.cells] using hcs.symm
    exact ⟨a, hs⟩
  clear hA0
  refine (walk (.slice x0 l0 c0) a0 (.slice x1 l1 c1) a1 (.slice x2 l2 c2) a2 W w0 w1 w2).mono fun e W' ⟨he, bel⟩ => ?_
  subst he
  exact ⟨_, rfl, _, _, _, [], _, [], hW', trodAll_mk1 (shut_bool Try.underlying4 _), (trodAll_cons_mk (Below.trod laidOut (by kernel_rfl) (of_decide_eq_true (by kernel_rfl)) k0 bel lt0) (trodAll_cons_mk (Below.trod laidOut (by kernel_rfl) (of_decide_eq_true (by kernel_rfl)) k1 bel lt1) (trodAll_cons_mk (Below.trod laidOut (by kernel_rfl) (of_decide_eq_true (by kernel_rfl)) k2 bel lt2) trodAll_mk0))), rfl, bel.frame _, fun h => by cases h⟩

set_option maxRecDepth 100000 in
theorem lifted (os : Os) (started : os.Started) (H : Type) (enc : TypeId × Value → H) :
    ReturnsInHanded {} Try.checked os 3 .any (Rows.diffTellsSpec.pre6 enc Try.prog Try.f3 Rows.diffTellsRow.domain false) (Rows.diffTellsSpec.post enc Try.prog Try.f3 false true false false) := by
  refine returnsInHanded_of_change (C := Try.checked) own started (by kernel_rfl) Try.func3
    (ChangeSpec.witness6 (enc := enc) (C := Try.checked) false ⟨#[], #[.slice none 0 0, .slice none 0 0, .slice none 0 0], []⟩ 8 (by kernel_rfl) (by kernel_rfl) (by kernel_rfl) (by kernel_rfl)) ?_
  intro W base args ds gs before hval hW _ _
  exact contract H enc W base args ds gs before hval hW

theorem over : Rows.diffTellsRow.holds Try.pinned (OpenSpec.ofChange Rows.diffTellsSpec) :=
  OpenClaim.holds_of_wide 3 Try.f3 rfl rfl rfl rfl rfl rfl rfl ⟨rfl, rfl, rfl, rfl, rfl⟩ rfl rfl rfl rfl rfl (by kernel_rfl) Try.func3 (by kernel_rfl)
    (of_decide_eq_true (by kernel_rfl)) (by unfold Func.isWrapper; first | (rw [if_pos (by decide +kernel)]; kernel_rfl) | (rw [if_neg (by decide +kernel)]; exact ⟨rfl, rfl⟩))
    (fun os started H enc _ => lifted os started H enc)

/-- The statement. -/
theorem proved : Rows.DiffTellsSaid :=
  over
#print axioms proved
end Go.Proofs.Ytiieomikpcjihaa.diffTells

/-
  HunkTells: hunks of any edits, whether hunks are right, what they make of lines, and inverted ones; what is handed in stays.
-/
import Derived.Test.YtbcmecclaofmgaaHkAw
import Derived.Test.YtbcmecclaofmgaaHkN
import Derived.Test.YtbcmecclaofmgaaHkE
import Derived.Test.YtbcmecclaofmgaaHkO
import Derived.Test.YtbcmecclaofmgaaHkB
import Derived.Test.YtbcmecclaofmgaaHkP
import Derived.Test.YtbcmecclaofmgaaHkI
import Derived.Test.YtbcmecclaofmgaaOwnE
import Derived.Test.YtbcmecclaofmgaaOpenS
import Derived.Test.YtbcmecclaofmgaaOpen2
import Derived.ProofKit
import Derived.OpenShut
namespace Go.Proofs.Ytbcmecclaofmgaa.hunkTells
open Go.ChangeShapes Go.WideShapes Go.ChangeAt Go.RowKit

/-- A list of edits that came in. -/
def FactEds (w : World) (v : Value) (es : List (Int × List UInt8)) : Prop := SlE w v es ∧ es.length ≤ maxLen
theorem cellsEd : Try.prog.cellsOf 30 = 2 := by kernel_rfl
theorem cellsI : Try.prog.cellsOf 3 = 1 := by kernel_rfl
theorem cellsS : Try.prog.cellsOf 9 = 1 := by kernel_rfl
theorem SlE.ofN {w : World} {v : Value} {es : List (Int × List UInt8)} (h : SlN 2 w v (es.map edCells)) : SlE w v es := by
  obtain ⟨ao, cap, rfl, hn, hcap, hc⟩ := h
  rw [List.length_map] at hcap ⊢
  refine ⟨ao, cap, rfl, fun h => by simpa using hn h, hcap, fun a ha i e he => ?_⟩
  have := (hc a ha i (edCells e) (by rw [List.getElem?_map, he]; rfl)).2
  exact ⟨this 0 _ rfl, this 1 _ rfl⟩
section
variable {H : Type} {enc : TypeId × Value → H} {w : World} {base : Nat} {spare : Nat → Bool} {held : Bool}
theorem ed_of {fuel : Nat} {cs : List Value} {y : DataW H × List MemPlace} (h : DataW.trod enc Try.prog w base spare held fuel 30 cs = some y) : ∃ x : Int × List UInt8, cs = edCells x := by
  obtain ⟨ys, n, _, _, hl, hlen, hf⟩ := DataW.trod_struct Try.underlying30 h
  rw [cellsEd] at hl
  match cs, hl, ys, hlen with
  | [c0, c1], _, [y0, y1], _ =>
    have f0 : DataW.trod enc Try.prog w base spare held n 3 [c0] = some y0 := by simpa [cellsI] using hf 0 _ rfl
    have f1 : DataW.trod enc Try.prog w base spare held n 9 [c1] = some y1 := by simpa [cellsS] using hf 1 _ rfl
    obtain ⟨k0, e0, _, _⟩ := DataW.trod_int Try.underlying3 f0
    obtain ⟨s, e1, _, _⟩ := DataW.trod_string Try.underlying9 f1
    simp at e0 e1
    exact ⟨(k0, s.data.toList), by simp [edCells, strV, e0, e1]⟩
theorem open_eds {fuel : Nat} {cs : List Value} {x : DataW H × List MemPlace} (h : DataW.trod enc Try.prog w base spare held fuel 22 cs = some x) :
    ∃ v l, cs = [v] ∧ FactEds w v l := by
  obtain ⟨v, css, n, rfl, hs, hl, hu⟩ := open_slN Try.underlying22 cellsEd h
  obtain ⟨l, rfl⟩ : ∃ l : List (Int × List UInt8), css = l.map edCells := by
    clear hs hl
    induction css with
    | nil => exact ⟨[], rfl⟩
    | cons c css ih =>
      obtain ⟨y, hy⟩ := hu c (List.mem_cons_self ..)
      obtain ⟨x, rfl⟩ := ed_of hy
      obtain ⟨l, rfl⟩ := ih fun u hu' => hu u (List.mem_cons_of_mem _ hu')
      exact ⟨x :: l, rfl⟩
  exact ⟨v, l, rfl, SlE.ofN hs, by simpa using hl⟩
end

theorem fewS_iff {hs : List HkS} (h : fewS hs = true) : hs.length ≤ 30 ∧ ∀ q ∈ hs, q.2.1.length ≤ 30 ∧ q.2.2.length ≤ 30 := by
  unfold fewS at h
  rw [Bool.and_eq_true, List.all_eq_true] at h
  refine ⟨by simpa using h.2, fun q hq => by simpa using h.1 q hq⟩
theorem invert_few (hs : List HkS) (n : Nat) (h : ∀ q ∈ hs, q.2.1.length ≤ n ∧ q.2.2.length ≤ n) : ∀ (M : Int), (invertFrom M hs).length = hs.length ∧ ∀ q ∈ invertFrom M hs, q.2.1.length ≤ n ∧ q.2.2.length ≤ n := by
  induction hs with
  | nil => exact fun M => ⟨rfl, fun q hq => by cases hq⟩
  | cons x t ih =>
    intro M
    obtain ⟨h1, h2⟩ := ih (fun q hq => h q (List.mem_cons_of_mem _ hq)) (M + x.2.2.length - x.2.1.length)
    refine ⟨by rw [invertFrom, List.length_cons, h1, List.length_cons], fun q hq => ?_⟩
    rw [invertFrom] at hq
    rcases List.mem_cons.1 hq with rfl | hq
    · exact (h x (List.mem_cons_self ..)).symm
    · exact h2 q hq
theorem invertS_few (hs : List HkS) (n : Nat) (h : ∀ q ∈ hs, q.2.1.length ≤ n ∧ q.2.2.length ≤ n) : (invertS hs).length ≤ hs.length ∧ ∀ q ∈ invertS hs, q.2.1.length ≤ n ∧ q.2.2.length ≤ n := by
  unfold invertS
  split
  · obtain ⟨h1, h2⟩ := invert_few hs n h 0
    exact ⟨Nat.le_of_eq h1, h2⟩
  · exact ⟨Nat.zero_le _, fun q hq => by cases hq⟩
theorem applyS_len (a : List (List UInt8)) (hs : List HkS) (ha : a.length ≤ 200) (hl : hs.length ≤ 200) (hf : ∀ q ∈ hs, q.2.2.length ≤ 200) : (applyS a hs).1.length ≤ 100000 := by
  unfold applyS
  split
  · cases h : applyFrom a 0 hs with
    | none => exact Nat.zero_le _
    | some r => exact apply_few h hf ha hl
  · exact Nat.zero_le _

section
set_option maxRecDepth 100000
set_option maxHeartbeats 4000000
theorem walk_big (va vb vc : Value) (l : List (Int × List UInt8)) (a : List (List UInt8)) (h : List HkS) (w : World) (ha : FactEds w va l) (hb : FactStrs w vb a) (hc : FactHks w vc h) (hl : 200 < l.length ∨ 100 < a.length ∨ fewS h = false) :
    Calls Try.prog 3 #[va, vb, vc] w fun e w' => e = .returned (.bool true) ∧ Below w.heap.size w w' := by
  have hfew := few_any vc h w hc
  obtain ⟨s1, _⟩ := ha
  obtain ⟨s2, _, _⟩ := hb
  obtain ⟨s3, _⟩ := hc
  obtain ⟨a1, c1, rfl⟩ := s1.form
  obtain ⟨a2, c2, rfl⟩ := s2.form
  obtain ⟨a3, c3, rfl⟩ := s3.form
  rw [strCells_length]
  have hl' : (200 : Int) < (l.length : Int) ∨ (¬ (200 : Int) < (l.length : Int) ∧ (100 : Int) < (a.length : Int)) ∨ (¬ (200 : Int) < (l.length : Int) ∧ ¬ (100 : Int) < (a.length : Int) ∧ fewS h = false) := by
    rcases hl with h1 | h1 | h1
    · exact .inl (by omega)
    · by_cases h2 : 200 < l.length
      · exact .inl (by omega)
      · exact .inr (.inl ⟨by omega, by omega⟩)
    · by_cases h2 : 200 < l.length
      · exact .inl (by omega)
      · by_cases h3 : 100 < a.length
        · exact .inr (.inl ⟨by omega, by omega⟩)
        · exact .inr (.inr ⟨by omega, by omega, h1⟩)
  clear hl
  rcases hl' with h1 | ⟨h1, h2⟩ | ⟨h1, h2, h3⟩
  · go_enter Try.func3, Try.ntmps3
    go_wp2_with fail
    refine (awake_any w).mono ?_
    rintro e w1 ⟨rfl, hb1⟩
    go_wp2
    go_ret
    exact ⟨rfl, hb1⟩
  · go_enter Try.func3, Try.ntmps3
    go_wp2_with fail
    refine (awake_any w).mono ?_
    rintro e w1 ⟨rfl, hb1⟩
    go_wp2
    go_ret
    exact ⟨rfl, hb1⟩
  · rw [h3] at hfew
    go_enter Try.func3, Try.ntmps3
    go_wp2_with fail
    refine hfew.mono ?_
    rintro e w0 ⟨rfl, hb0⟩
    have hz0 := hb0.size
    go_wp2_with fail
    refine (awake_any w0).mono ?_
    rintro e w1 ⟨rfl, hb1⟩
    have hb1 := below_step hb0 hb1 hz0
    go_wp2
    go_ret
    exact ⟨rfl, hb1⟩

theorem walk_at (va vb vc : Value) (l : List (Int × List UInt8)) (a : List (List UInt8)) (h : List HkS) (w : World) (ha : FactEds w va l) (hb : FactStrs w vb a) (hc : FactHks w vc h) (hll : l.length ≤ 200) (hal : a.length ≤ 100) (hfw : fewS h = true) :
    Calls Try.prog 3 #[va, vb, vc] w fun e w' => e = .returned (.bool true) ∧ Below w.heap.size w w' := by
  have hfew := few_any vc h w hc
  rw [hfw] at hfew
  obtain ⟨s1, _⟩ := ha
  obtain ⟨s2, _, _⟩ := hb
  obtain ⟨s3, _⟩ := hc
  obtain ⟨a1, c1, rfl⟩ := s1.form
  obtain ⟨a2, c2, rfl⟩ := s2.form
  obtain ⟨a3, c3, rfl⟩ := s3.form
  rw [strCells_length] at s2 ⊢
  obtain ⟨n1, n2⟩ := fewS_iff hfw
  obtain ⟨m1, m2⟩ := invertS_few h 30 n2
  obtain ⟨f1, f2⟩ := (hunks_few l).1 0
  have hXl := applyS_len a h (by omega) (by omega) (fun q hq => by have := n2 q hq; omega)
  obtain ⟨X, N, hap⟩ : ∃ X N, applyS a h = (X, N) := ⟨_, _, rfl⟩
  rw [hap] at hXl
  obtain ⟨I, hI⟩ : ∃ I, invertS h = I := ⟨_, rfl⟩
  rw [hI] at m1 m2
  obtain ⟨L, hL⟩ : ∃ L, hunksS l = L := ⟨_, rfl⟩
  have f1 : L.length ≤ l.length := hL ▸ f1
  have f2 : ∀ q ∈ L, q.2.1.length ≤ l.length ∧ q.2.2.length ≤ l.length := hL ▸ f2
  obtain ⟨R, hR⟩ : ∃ R, rightS h = R := ⟨_, rfl⟩
  have HAP := hid hap
  have HI := hid hI
  have HL := hid hL
  have HR := hid hR
  have FH := hid (show hkFew h from fun q hq => by have := n2 q hq; omega)
  have FI := hid (show hkFew I from fun q hq => by have := m2 q hq; omega)
  have FL := hid (show hkFew L from fun q hq => by have := f2 q hq; omega)
  have LH := hid n1
  have LI := hid (show I.length ≤ 30 by omega)
  have LL := hid (show L.length ≤ 200 by omega)
  have LX := hid (show X.length ≤ maxLen by unfold maxLen; have : X.length ≤ 100000 := hXl; omega)
  have LA := hid hal
  have LE := hid hll
  have g1 : ¬ (200 : Int) < (l.length : Int) := by omega
  have g2 : ¬ (100 : Int) < (a.length : Int) := by omega
  have hRR : (R == R) = true := by cases R <;> rfl
  have hNN : (N == N) = true := by simp
  clear hap hI hL hR n1 n2 m1 m2 f1 f2 hXl hfw hll hal
  go_enter Try.func3, Try.ntmps3
  go_wp2_with fail
  have hD := hfew
  refine hD.mono ?_
  rintro e x0 ⟨rfl, hb0⟩
  clear hD
  have s1 := SlE.old s1 hb0
  have s2 := Sl.old s2 hb0
  have s3 := SlH.old s3 hb0
  have hz0 := hb0.size
  go_wp2_with fail
  have hD := SOwn_any _ a [55, 49] x0 s2 (by have := LA.out; omega)
  refine hD.mono ?_
  rintro e x1 ⟨rfl, own1, hb1⟩
  clear hD
  have s1 := SlE.old s1 hb1
  have s2 := Sl.old s2 hb1
  have s3 := SlH.old s3 hb1
  have hg0 : True := trivial
  have hb1 := below_step hb0 hb1 hz0
  have hz1 := hb1.size
  clear hb0 hz0
  go_wp2_with fail
  have hD := EOwn_any _ l ((71 : Int), []) x1 s1 (by have := LE.out; omega)
  refine hD.mono ?_
  rintro e x2 ⟨g2, _, rfl, own2, hb2⟩
  clear hD
  have s1 := SlE.old s1 hb2
  have s2 := Sl.old s2 hb2
  have s3 := SlH.old s3 hb2
  have own1 := OwnCopyS.old own1 hb2
  have hb2 := below_step hb1 hb2 hz1
  have hz2 := hb2.size
  clear hb1 hz1
  go_wp2_with fail
  have hD := DApply_any _ _ a h x2 own1.sl s3 FH.out (by have := LH.out; omega) (by have := LA.out; omega)
  rw [HAP.out] at hD
  refine hD.mono ?_
  rintro e x3 ⟨vx, rfl, sx, hb3⟩
  clear hD
  have s1 := SlE.old s1 hb3
  have s2 := Sl.old s2 hb3
  have s3 := SlH.old s3 hb3
  have own1 := OwnCopyS.old own1 hb3
  have own2 := OwnCopyE.old own2 hb3
  obtain ⟨xo, xc, hf⟩ := sx.form
  subst hf
  have hb3 := below_step hb2 hb3 hz2
  have hz3 := hb3.size
  clear hb2 hz2
  go_wp2_with fail
  have hD := RApply_any _ _ a h x3 s2 s3 FH.out (by have := LH.out; omega) (by have := LA.out; omega)
  rw [HAP.out] at hD
  refine hD.mono ?_
  rintro e x4 ⟨vy, rfl, sy, hb4⟩
  clear hD
  have s1 := SlE.old s1 hb4
  have s2 := Sl.old s2 hb4
  have s3 := SlH.old s3 hb4
  have own1 := OwnCopyS.old own1 hb4
  have own2 := OwnCopyE.old own2 hb4
  have sx := Sl.old sx hb4
  obtain ⟨yo, yc, hf⟩ := sy.form
  subst hf
  have hb4 := below_step hb3 hb4 hz3
  have hz4 := hb4.size
  clear hb3 hz3
  go_wp2_with fail
  have hD := awake_any x4
  refine hD.mono ?_
  rintro e x5 ⟨rfl, hb5⟩
  clear hD
  have s1 := SlE.old s1 hb5
  have s2 := Sl.old s2 hb5
  have s3 := SlH.old s3 hb5
  have own1 := OwnCopyS.old own1 hb5
  have own2 := OwnCopyE.old own2 hb5
  have sx := Sl.old sx hb5
  have sy := Sl.old sy hb5
  have hb5 := below_step hb4 hb5 hz4
  have hz5 := hb5.size
  clear hb4 hz4
  go_wp2_with fail
  have hD := DOf_any _ l x5 own2.sl (by have := LE.out; omega)
  rw [HL.out] at hD
  refine hD.mono ?_
  rintro e x6 ⟨vp, rfl, sp, hb6⟩
  clear hD
  have s1 := SlE.old s1 hb6
  have s2 := Sl.old s2 hb6
  have s3 := SlH.old s3 hb6
  have own1 := OwnCopyS.old own1 hb6
  have own2 := OwnCopyE.old own2 hb6
  have sx := Sl.old sx hb6
  have sy := Sl.old sy hb6
  obtain ⟨po, pc, hf⟩ := sp.form
  subst hf
  have hb6 := below_step hb5 hb6 hz5
  have hz6 := hb6.size
  clear hb5 hz5
  go_wp2_with fail
  have hD := RHunks_any _ l x6 s1 (by have := LE.out; omega)
  rw [HL.out] at hD
  refine hD.mono ?_
  rintro e x7 ⟨vq, rfl, sq, hb7⟩
  clear hD
  have s1 := SlE.old s1 hb7
  have s2 := Sl.old s2 hb7
  have s3 := SlH.old s3 hb7
  have own1 := OwnCopyS.old own1 hb7
  have own2 := OwnCopyE.old own2 hb7
  have sx := Sl.old sx hb7
  have sy := Sl.old sy hb7
  have sp := SlH.old sp hb7
  have sq := sq.slH
  obtain ⟨qo, qc, hf⟩ := sq.form
  subst hf
  have hb7 := below_step hb6 hb7 hz6
  have hz7 := hb7.size
  clear hb6 hz6
  go_wp2_with fail
  have hD := HSame_at _ _ L L x7 sp sq (by unfold maxLen; have := LL.out; omega) FL.out FL.out
  rw [show (L == L) = true by simp] at hD
  refine hD.mono ?_
  rintro e x8 ⟨rfl, hb8⟩
  clear hD
  clear sp
  clear sq
  have s1 := SlE.old s1 hb8
  have s2 := Sl.old s2 hb8
  have s3 := SlH.old s3 hb8
  have own1 := OwnCopyS.old own1 hb8
  have own2 := OwnCopyE.old own2 hb8
  have sx := Sl.old sx hb8
  have sy := Sl.old sy hb8
  have hb8 := below_step hb7 hb8 hz7
  have hz8 := hb8.size
  clear hb7 hz7
  go_wp2_with fail
  have hD := DRight_any _ h x8 s3 FH.out (by have := LH.out; omega)
  rw [HR.out] at hD
  refine hD.mono ?_
  rintro e x9 ⟨rfl, hb9⟩
  clear hD
  have s1 := SlE.old s1 hb9
  have s2 := Sl.old s2 hb9
  have s3 := SlH.old s3 hb9
  have own1 := OwnCopyS.old own1 hb9
  have own2 := OwnCopyE.old own2 hb9
  have sx := Sl.old sx hb9
  have sy := Sl.old sy hb9
  have hb9 := below_step hb8 hb9 hz8
  have hz9 := hb9.size
  clear hb8 hz8
  go_wp2_with fail
  have hD := RRight_any _ h x9 s3 FH.out (by have := LH.out; omega)
  rw [HR.out] at hD
  refine hD.mono ?_
  rintro e x10 ⟨rfl, hb10⟩
  clear hD
  have s1 := SlE.old s1 hb10
  have s2 := Sl.old s2 hb10
  have s3 := SlH.old s3 hb10
  have own1 := OwnCopyS.old own1 hb10
  have own2 := OwnCopyE.old own2 hb10
  have sx := Sl.old sx hb10
  have sy := Sl.old sy hb10
  have hb10 := below_step hb9 hb10 hz9
  have hz10 := hb10.size
  clear hb9 hz9
  go_wp2_with fail
  have hD := SPlain_any _ _ X X x10 sx sy LX.out
  rw [show (X == X) = true by simp] at hD
  refine hD.mono ?_
  rintro e x11 ⟨rfl, k11, rfl⟩
  have hb11 := below_drewN x10 k11
  generalize x10.drewN k11 = x11 at hb11 ⊢
  clear hD
  clear sx
  clear sy
  have s1 := SlE.old s1 hb11
  have s2 := Sl.old s2 hb11
  have s3 := SlH.old s3 hb11
  have own1 := OwnCopyS.old own1 hb11
  have own2 := OwnCopyE.old own2 hb11
  have hb11 := below_step hb10 hb11 hz10
  have hz11 := hb11.size
  clear hb10 hz10
  go_wp2_with fail
  have hD := DInvert_any _ h x11 s3 FH.out (by have := LH.out; omega)
  rw [HI.out] at hD
  refine hD.mono ?_
  rintro e x12 ⟨vi, rfl, si, hb12⟩
  clear hD
  have s1 := SlE.old s1 hb12
  have s2 := Sl.old s2 hb12
  have s3 := SlH.old s3 hb12
  have own1 := OwnCopyS.old own1 hb12
  have own2 := OwnCopyE.old own2 hb12
  obtain ⟨io, ic, hf⟩ := si.form
  subst hf
  have hb12 := below_step hb11 hb12 hz11
  have hz12 := hb12.size
  clear hb11 hz11
  go_wp2_with fail
  have hD := RInvert_any _ h x12 s3 FH.out (by have := LH.out; omega)
  rw [HI.out] at hD
  refine hD.mono ?_
  rintro e x13 ⟨vj, rfl, sj, hb13⟩
  clear hD
  have s1 := SlE.old s1 hb13
  have s2 := Sl.old s2 hb13
  have s3 := SlH.old s3 hb13
  have own1 := OwnCopyS.old own1 hb13
  have own2 := OwnCopyE.old own2 hb13
  have si := SlH.old si hb13
  have sj := sj.slH
  obtain ⟨jo, jc, hf⟩ := sj.form
  subst hf
  have hb13 := below_step hb12 hb13 hz12
  have hz13 := hb13.size
  clear hb12 hz12
  go_wp2_with fail
  have hD := HSame_at _ _ I I x13 si sj (by unfold maxLen; have := LI.out; omega) FI.out FI.out
  rw [show (I == I) = true by simp] at hD
  refine hD.mono ?_
  rintro e x14 ⟨rfl, hb14⟩
  clear hD
  clear si
  clear sj
  have s1 := SlE.old s1 hb14
  have s2 := Sl.old s2 hb14
  have s3 := SlH.old s3 hb14
  have own1 := OwnCopyS.old own1 hb14
  have own2 := OwnCopyE.old own2 hb14
  have hb14 := below_step hb13 hb14 hz13
  have hz14 := hb14.size
  clear hb13 hz13
  go_wp2_with fail
  have hD := SKept_any _ _ a [55, 49] x14 own1 s2 (by have := LA.out; omega)
  refine hD.mono ?_
  rintro e x15 ⟨rfl, k15, rfl⟩
  have hb15 := below_drewN x14 k15
  generalize x14.drewN k15 = x15 at hb15 ⊢
  clear hD
  have s1 := SlE.old s1 hb15
  have s2 := Sl.old s2 hb15
  have s3 := SlH.old s3 hb15
  have own1 := OwnCopyS.old own1 hb15
  have own2 := OwnCopyE.old own2 hb15
  have hb15 := below_step hb14 hb15 hz14
  have hz15 := hb15.size
  clear hb14 hz14
  go_wp2_with fail
  have hD := EKept_any _ _ l ((71 : Int), []) x15 own2 s1 (by have := LE.out; omega)
  refine hD.mono ?_
  rintro e x16 ⟨rfl, hb16⟩
  clear hD
  have s1 := SlE.old s1 hb16
  have s2 := Sl.old s2 hb16
  have s3 := SlH.old s3 hb16
  have own1 := OwnCopyS.old own1 hb16
  have own2 := OwnCopyE.old own2 hb16
  have hb16 := below_step hb15 hb16 hz15
  have hz16 := hb16.size
  clear hb15 hz15
  go_wp2
  go_ret
  exact ⟨rfl, hb16⟩

theorem walk (va : Value) (l : List (Int × List UInt8)) (vb : Value) (a : List (List UInt8)) (vc : Value) (h : List HkS) (w : World) (ha : FactEds w va l) (hb : FactStrs w vb a) (hc : FactHks w vc h) :
    Calls Try.prog 3 #[va, vb, vc] w fun e w' => e = .returned (.bool true) ∧ Below w.heap.size w w' := by
  by_cases hh : 200 < l.length ∨ 100 < a.length ∨ fewS h = false
  · exact walk_big va vb vc l a h w ha hb hc hh
  · exact walk_at va vb vc l a h w ha hb hc (by omega) (by omega) (by cases hx : fewS h with | true => rfl | false => exact absurd (.inr (.inr hx)) hh)
end

theorem own : ownKnob Try.prog.godebug = none := by kernel_rfl
theorem laidOut : laidOutB Try.prog = true := by kernel_rfl

theorem contract (H : Type) (enc : TypeId × Value → H) (W : World) (base : Nat) (args : Array Value) (ds gs : List (DataW H)) (before : List MemPlace)
    (hval : ∀ (j : Nat) t v, Try.f3.params[j]? = some t → args[j]? = some v → Value.okWide Try.prog W .any base t v)
    (hW : DataW.Whole enc Try.prog Try.f3.params.toList Rows.hunkTellsSpec.vars false W args.toList ds gs before) :
    Calls Try.prog 3 args W fun e W' => ∃ v, e = .returned v ∧ Rows.hunkTellsSpec.post enc Try.prog Try.f3 false true false false W args v W' := by
  have hW' := hW
  obtain ⟨p, q, hA0, hV, rfl, hfz, hnd⟩ := hW
  have hA : DataW.TrodAll enc Try.prog W 0 (fun _ => true) true Try.f3.params.toList args.toList ds p := hA0
  rw [Try.params3] at hA hval
  obtain ⟨v0, vs0, d0, ds0, p0, q0, hargs, rfl, rfl, h0, r0⟩ := trodAll_cons hA
  obtain ⟨v1, vs1, d1, ds1, p1, q1, rfl, rfl, rfl, h1, r1⟩ := trodAll_cons r0
  obtain ⟨v2, vs2, d2, ds2, p2, q2, rfl, rfl, rfl, h2, r2⟩ := trodAll_cons r1
  obtain ⟨rfl, rfl, rfl⟩ := trodAll_nil r2
  obtain rfl : args = #[v0, v1, v2] := by cases args; simp_all
  obtain ⟨rfl, rfl⟩ := trodVars_none hV
  have k0 := h0
  have lt0 : ∀ x ∈ p0, x.block < W.heap.size := by obtain ⟨m, hm⟩ := k0; exact DataW.trod_lt m _ _ _ hm
  obtain ⟨x0, l0, c0, rfl⟩ := okWide_slice Try.underlying22 (hval 0 22 v0 rfl rfl)
  obtain ⟨a0, w0⟩ : ∃ a, FactEds W (.slice x0 l0 c0) a := by
    obtain ⟨fuel, hf⟩ := h0
    obtain ⟨v', a, hcs, hs⟩ := open_eds hf
    obtain rfl : v' = .slice x0 l0 c0 := by simpa [Value.cells] using hcs.symm
    exact ⟨a, hs⟩
  have k1 := h1
  have lt1 : ∀ x ∈ p1, x.block < W.heap.size := by obtain ⟨m, hm⟩ := k1; exact DataW.trod_lt m _ _ _ hm
  obtain ⟨x1, l1, c1, rfl⟩ := okWide_slice Try.underlying23 (hval 1 23 v1 rfl rfl)
  obtain ⟨a1, w1, e1⟩ : ∃ a, FactStrs W (.slice x1 l1 c1) a ∧ ((d1 = .nil ∧ a = []) ∨ ∃ rest, d1 = .slice (dataStrs a) rest) := by
    obtain ⟨fuel, hf⟩ := h1
    obtain ⟨v', a, hcs, hs, hx⟩ := open_strL Try.underlying23 Try.underlying9 (by kernel_rfl) hf
    obtain rfl : v' = .slice x1 l1 c1 := by simpa [Value.cells] using hcs.symm
    exact ⟨a, hs, hx⟩
  clear e1
  have k2 := h2
  have lt2 : ∀ x ∈ p2, x.block < W.heap.size := by obtain ⟨m, hm⟩ := k2; exact DataW.trod_lt m _ _ _ hm
  obtain ⟨x2, l2, c2, rfl⟩ := okWide_slice Try.underlying24 (hval 2 24 v2 rfl rfl)
  obtain ⟨a2, w2⟩ : ∃ a, FactHks W (.slice x2 l2 c2) a := by
    obtain ⟨fuel, hf⟩ := h2
    obtain ⟨v', a, hcs, hs⟩ := open_hks hf
    obtain rfl : v' = .slice x2 l2 c2 := by simpa [Value.cells] using hcs.symm
    exact ⟨a, hs⟩
  clear hA0
  refine (walk (.slice x0 l0 c0) a0 (.slice x1 l1 c1) a1 (.slice x2 l2 c2) a2 W w0 w1 w2).mono fun e W' ⟨he, bel⟩ => ?_
  subst he
  exact ⟨_, rfl, _, _, _, [], _, [], hW', trodAll_mk1 (shut_bool Try.underlying4 _), (trodAll_cons_mk (Below.trod laidOut (by kernel_rfl) (of_decide_eq_true (by kernel_rfl)) k0 bel lt0) (trodAll_cons_mk (Below.trod laidOut (by kernel_rfl) (of_decide_eq_true (by kernel_rfl)) k1 bel lt1) (trodAll_cons_mk (Below.trod laidOut (by kernel_rfl) (of_decide_eq_true (by kernel_rfl)) k2 bel lt2) trodAll_mk0))), rfl, bel.frame _, fun h => by cases h⟩

set_option maxRecDepth 100000 in
theorem lifted (os : Os) (started : os.Started) (H : Type) (enc : TypeId × Value → H) :
    ReturnsInHanded {} Try.checked os 3 .any (Rows.hunkTellsSpec.pre6 enc Try.prog Try.f3 Rows.hunkTellsRow.domain false) (Rows.hunkTellsSpec.post enc Try.prog Try.f3 false true false false) := by
  refine returnsInHanded_of_change (C := Try.checked) own started (by kernel_rfl) Try.func3
    (ChangeSpec.witness6 (enc := enc) (C := Try.checked) false ⟨#[], #[.slice none 0 0, .slice none 0 0, .slice none 0 0], []⟩ 8 (by kernel_rfl) (by kernel_rfl) (by kernel_rfl) (by kernel_rfl)) ?_
  intro W base args ds gs before hval hW _ _
  exact contract H enc W base args ds gs before hval hW

theorem over : Rows.hunkTellsRow.holds Try.pinned (OpenSpec.ofChange Rows.hunkTellsSpec) :=
  OpenClaim.holds_of_wide 3 Try.f3 rfl rfl rfl rfl rfl rfl rfl ⟨rfl, rfl, rfl, rfl, rfl⟩ rfl rfl rfl rfl rfl (by kernel_rfl) Try.func3 (by kernel_rfl)
    (of_decide_eq_true (by kernel_rfl)) (by unfold Func.isWrapper; first | (rw [if_pos (by decide +kernel)]; kernel_rfl) | (rw [if_neg (by decide +kernel)]; exact ⟨rfl, rfl⟩))
    (fun os started H enc _ => lifted os started H enc)

/-- The statement. -/
theorem proved : Rows.HunkTellsSaid :=
  over
#print axioms proved
end Go.Proofs.Ytbcmecclaofmgaa.hunkTells

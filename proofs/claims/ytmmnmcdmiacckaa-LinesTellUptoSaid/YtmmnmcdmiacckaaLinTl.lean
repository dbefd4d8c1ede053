/-
  LinesTell: for every text, and every two lists of lines, that bear no more than the bound in all: the lines of the text, the text of the lines, whether lines are alike, and whole, are what the document says; what is handed in stays. Condition: the statement's bound on the arguments' size.
-/
import Derived.Test.YtmmnmcdmiacckaaLinAw
import Derived.Test.YtmmnmcdmiacckaaBulk
import Derived.ProofKit
import Derived.OpenShut
import Derived.JoinedCond
namespace Go.Proofs.Ytmmnmcdmiacckaa.linesTell
open Go.ChangeShapes Go.WideShapes Go.ChangeAt Go.RowKit

section
set_option maxRecDepth 100000
set_option maxHeartbeats 2000000
theorem walk_big (s : List UInt8) (v1 : Value) (l : List (List UInt8)) (v2 : Value) (m : List (List UInt8)) (w : World) (hs : s.length ≤ maxLen) (h1 : FactStrs w v1 l) (h2 : FactStrs w v2 m) (h : 3000 < s.length ∨ 60 < l.length ∨ 60 < m.length) :
    Calls Try.prog 3 #[strV s, v1, v2] w fun e w' => e = .returned (.bool true) ∧ Below w.heap.size w w' := by
  obtain ⟨s1, l1, _⟩ := h1
  obtain ⟨s2, l2, _⟩ := h2
  obtain ⟨a1, c1, rfl⟩ := s1.form
  obtain ⟨a2, c2, rfl⟩ := s2.form
  rw [strCells_length] at s1 s2 ⊢
  rw [strCells_length]
  unfold maxLen at l1 l2 hs
  unfold strV
  by_cases hb : 3000 < s.length
  · have hb' : (3000 : Int) < (s.length : Int) := by omega
    clear h hb
    go_enter Try.func3, Try.ntmps3
    go_wp2_with fail
    refine (awake_any w).mono ?_
    rintro e w1 ⟨rfl, hb1⟩
    go_wp2
    go_ret
    exact ⟨rfl, hb1⟩
  · have hb' : ¬ (3000 : Int) < (s.length : Int) := by omega
    by_cases hl : 60 < l.length
    · have hx' : (60 : Int) < (l.length : Int) := by omega
      clear h hb hl
      go_enter Try.func3, Try.ntmps3
      go_wp2_with fail
      refine (awake_any w).mono ?_
      rintro e w1 ⟨rfl, hb1⟩
      go_wp2
      go_ret
      exact ⟨rfl, hb1⟩
    · have hx' : ¬ (60 : Int) < (l.length : Int) := by omega
      have hy' : (60 : Int) < (m.length : Int) := by omega
      clear h hb hl
      go_enter Try.func3, Try.ntmps3
      go_wp2_with fail
      refine (awake_any w).mono ?_
      rintro e w1 ⟨rfl, hb1⟩
      go_wp2
      go_ret
      exact ⟨rfl, hb1⟩

theorem walk_at (s : List UInt8) (v1 : Value) (l : List (List UInt8)) (v2 : Value) (m : List (List UInt8)) (w : World) (hs : s.length ≤ 3000) (s1 : Sl w v1 (strCells l)) (s2 : Sl w v2 (strCells m)) (hl : l.length ≤ 60) (hm : m.length ≤ 60) (hlf : l.flatten.length ≤ 1048576) :
    Calls Try.prog 3 #[strV s, v1, v2] w fun e w' => e = .returned (.bool true) ∧ Below w.heap.size w w' := by
  obtain ⟨a1, c1, rfl⟩ := s1.form
  obtain ⟨a2, c2, rfl⟩ := s2.form
  rw [strCells_length] at s1 s2 ⊢
  rw [strCells_length]
  have hs' : ¬ (3000 : Int) < (s.length : Int) := by omega
  have hl' : ¬ (60 : Int) < (l.length : Int) := by omega
  have hm' : ¬ (60 : Int) < (m.length : Int) := by omega
  have hcs := linesOf_count s
  obtain ⟨LS, hLS⟩ : ∃ LS, linesOf s = LS := ⟨_, rfl⟩
  rw [hLS] at hcs
  have HS := hid hLS
  obtain ⟨F, hF⟩ : ∃ F, l.flatten = F := ⟨_, rfl⟩
  have HF := hid hF
  rw [hF] at hlf
  obtain ⟨bsame, hbs⟩ : ∃ b, (l == m) = b := ⟨_, rfl⟩
  obtain ⟨bwh, hbw⟩ : ∃ b, (linesOf F == l) = b := ⟨_, rfl⟩
  have HBS := hid hbs
  have HBW := hid hbw
  clear hLS hF hbs hbw
  unfold strV
  go_enter Try.func3, Try.ntmps3
  go_wp2_with fail
  refine (SOwn_any _ l [55, 49] w s1 (by omega)).mono ?_
  rintro e w1 ⟨rfl, own1, hb1⟩
  go_wp2_with fail
  refine (awake_any w1).mono ?_
  rintro e w2 ⟨rfl, hb2⟩
  have hbw2 := below_step hb1 hb2 hb1.size
  have own2 := own1.old hb2
  clear own1
  go_wp2_with fail
  refine (PSplit_any s w2 (by omega)).mono ?_
  rw [HS.out]
  rintro e w3 ⟨v3, rfl, hv3, hb3⟩
  have hbw3 := below_step hbw2 hb3 hbw2.size
  have own3 := own2.old hb3
  clear own2
  go_wp2_with fail
  refine (RSplit_any s w3 (by omega)).mono ?_
  rw [HS.out]
  rintro e w4 ⟨v4, rfl, hv4, hb4⟩
  have hbw4 := below_step hbw3 hb4 hbw3.size
  have own4 := own3.old hb4
  have hv34 := Sl.old hv3 hb4
  clear own3 hv3
  go_wp2_with fail
  refine (SPlain_any _ _ LS LS w4 hv34 (Sl.ofOwns hv4) (by unfold maxLen; omega)).mono ?_
  rw [show (LS == LS) = true by simp]
  rintro e w5 ⟨rfl, q, rfl⟩
  have hd := below_drewN w4 q
  have hbw5 := below_step hbw4 hd hbw4.size
  have own5 := own4.old hd
  generalize w4.drewN q = w5 at hbw5 own5 ⊢
  clear hv34 hv4 own4 hd
  go_wp2_with fail
  refine (PJoin_any _ l w5 own5.sl (by rw [HF.out]; omega) (by omega)).mono ?_
  rw [HF.out]
  rintro e w6 ⟨rfl, hb6⟩
  have hbw6 := below_step hbw5 hb6 hbw5.size
  have own6 := own5.old hb6
  have s16 := Sl.old s1 hbw6
  clear own5
  unfold strV
  go_wp2_with fail
  refine (RJoin_any _ l w6 s16 (by rw [HF.out]; omega) (by unfold maxLen; omega)).mono ?_
  rw [HF.out]
  rintro e w7 ⟨rfl, rfl⟩
  unfold strV
  go_wp2_with fail
  refine (PSame_any _ _ l m w6 own6.sl (Sl.old s2 hbw6) (by unfold maxLen; omega)).mono ?_
  rw [HBS.out]
  rintro e w8 ⟨rfl, hb8⟩
  have hbw8 := below_step hbw6 hb8 hbw6.size
  have own8 := own6.old hb8
  have s18 := Sl.old s1 hbw8
  clear own6 s16
  go_wp2_with fail
  refine (SPlain_any _ _ l m w8 s18 (Sl.old s2 hbw8) (by unfold maxLen; omega)).mono ?_
  rw [HBS.out]
  rintro e w9 ⟨rfl, q2, rfl⟩
  have hd := below_drewN w8 q2
  have hbw9 := below_step hbw8 hd hbw8.size
  have own9 := own8.old hd
  generalize w8.drewN q2 = w9 at hbw9 own9 ⊢
  clear own8 s18 hd
  go_wp2_with fail
  refine (PWhole_any _ l w9 own9.sl (by rw [HF.out]; omega) (by omega)).mono ?_
  rw [HF.out, HBW.out]
  rintro e w10 ⟨rfl, hb10⟩
  have hbw10 := below_step hbw9 hb10 hbw9.size
  have own10 := own9.old hb10
  clear own9
  go_wp2_with fail
  refine (RWhole_any _ l w10 (Sl.old s1 hbw10) (by rw [HF.out]; omega) (by unfold maxLen; omega)).mono ?_
  rw [HF.out, HBW.out]
  rintro e w11 ⟨rfl, hb11⟩
  have hbw11 := below_step hbw10 hb11 hbw10.size
  have own11 := own10.old hb11
  clear own10
  go_wp2_with fail
  refine (SKept_any w.heap.size _ l [55, 49] w11 own11 (Sl.old s1 hbw11) (by omega)).mono ?_
  rintro e w12 ⟨rfl, q3, rfl⟩
  have hbw12 := below_step hbw11 (below_drewN w11 q3) hbw11.size
  go_wp2
  go_ret
  exact ⟨rfl, hbw12⟩

theorem walk (s : List UInt8) (v1 : Value) (l : List (List UInt8)) (v2 : Value) (m : List (List UInt8)) (w : World) (hs : s.length ≤ maxLen) (h1 : FactStrs w v1 l) (h2 : FactStrs w v2 m) (_b0 : s.length ≤ 1048576) (b1 : l.flatten.length + l.length ≤ 1048576) (_b2 : m.flatten.length + m.length ≤ 1048576) :
    Calls Try.prog 3 #[strV s, v1, v2] w fun e w' => e = .returned (.bool true) ∧ Below w.heap.size w w' := by
  by_cases h : s.length ≤ 3000 ∧ l.length ≤ 60 ∧ m.length ≤ 60
  · exact walk_at s v1 l v2 m w h.1 h1.1 h2.1 h.2.1 h.2.2 (by omega)
  · exact walk_big s v1 l v2 m w hs h1 h2 (by omega)
end

theorem own : ownKnob Try.prog.godebug = none := by kernel_rfl
theorem laidOut : laidOutB Try.prog = true := by kernel_rfl

theorem contract (H : Type) (enc : TypeId × Value → H) (W : World) (base : Nat) (args : Array Value) (ds gs : List (DataW H)) (before : List MemPlace)
    (hval : ∀ (j : Nat) t v, Try.f3.params[j]? = some t → args[j]? = some v → Value.okWide Try.prog W .any base t v)
    (hW : DataW.Whole enc Try.prog Try.f3.params.toList Rows.linesTellSpec.vars false W args.toList ds gs before) (hk : Rows.uptoSmall H (ds ++ gs) = true) :
    Calls Try.prog 3 args W fun e W' => ∃ v, e = .returned v ∧ Rows.linesTellSpec.post enc Try.prog Try.f3 false true false false W args v W' := by
  have hW' := hW
  obtain ⟨p, q, hA0, hV, rfl, hfz, hnd⟩ := hW
  have hA : DataW.TrodAll enc Try.prog W 0 (fun _ => true) true Try.f3.params.toList args.toList ds p := hA0
  rw [Try.params3] at hA hval
  obtain ⟨v0, vs0, d0, ds0, p0, q0, hargs, rfl, rfl, h0, r0⟩ := trodAll_cons hA
  obtain ⟨v1, vs1, d1, ds1, p1, q1, rfl, rfl, rfl, h1, r1⟩ := trodAll_cons r0
  obtain ⟨v2, vs2, d2, ds2, p2, q2, rfl, rfl, rfl, h2, r2⟩ := trodAll_cons r1
  obtain ⟨rfl, rfl, rfl⟩ := trodAll_nil r2
  obtain rfl : args = #[v0, v1, v2] := by cases args; simp_all
  obtain ⟨rfl, rfl⟩ := trodVars_none hV
  have k0 := h0
  have lt0 : ∀ x ∈ p0, x.block < W.heap.size := by obtain ⟨m, hm⟩ := k0; exact DataW.trod_lt m _ _ _ hm
  obtain ⟨a0, rfl, rfl, _, w0⟩ := open_str Try.underlying9 (hval 0 9 v0 rfl rfl) h0
  have b0 := bulk_text hk (List.mem_append_left _ (by simp) : DataW.lit (.string a0) ∈ _)
  have k1 := h1
  have lt1 : ∀ x ∈ p1, x.block < W.heap.size := by obtain ⟨m, hm⟩ := k1; exact DataW.trod_lt m _ _ _ hm
  obtain ⟨x1, l1, c1, rfl⟩ := okWide_slice Try.underlying22 (hval 1 22 v1 rfl rfl)
  obtain ⟨a1, w1, e1⟩ : ∃ a, FactStrs W (.slice x1 l1 c1) a ∧ ((d1 = .nil ∧ a = []) ∨ ∃ rest, d1 = .slice (dataStrs a) rest) := by
    obtain ⟨fuel, hf⟩ := h1
    obtain ⟨v', a, hcs, hs, hx⟩ := open_strL Try.underlying22 Try.underlying9 (by kernel_rfl) hf
    obtain rfl : v' = .slice x1 l1 c1 := by simpa [Value.cells] using hcs.symm
    exact ⟨a, hs, hx⟩
  have b1 := bulk_list hk (List.mem_append_left _ (by simp)) e1
  have k2 := h2
  have lt2 : ∀ x ∈ p2, x.block < W.heap.size := by obtain ⟨m, hm⟩ := k2; exact DataW.trod_lt m _ _ _ hm
  obtain ⟨x2, l2, c2, rfl⟩ := okWide_slice Try.underlying22 (hval 2 22 v2 rfl rfl)
  obtain ⟨a2, w2, e2⟩ : ∃ a, FactStrs W (.slice x2 l2 c2) a ∧ ((d2 = .nil ∧ a = []) ∨ ∃ rest, d2 = .slice (dataStrs a) rest) := by
    obtain ⟨fuel, hf⟩ := h2
    obtain ⟨v', a, hcs, hs, hx⟩ := open_strL Try.underlying22 Try.underlying9 (by kernel_rfl) hf
    obtain rfl : v' = .slice x2 l2 c2 := by simpa [Value.cells] using hcs.symm
    exact ⟨a, hs, hx⟩
  have b2 := bulk_list hk (List.mem_append_left _ (by simp)) e2
  clear hA0
  refine (walk a0 (.slice x1 l1 c1) a1 (.slice x2 l2 c2) a2 W w0 w1 w2 b0 b1 b2).mono fun e W' ⟨he, bel⟩ => ?_
  subst he
  exact ⟨_, rfl, _, _, _, [], _, [], hW', trodAll_mk1 (shut_bool Try.underlying4 _), (trodAll_cons_mk (Below.trod laidOut (by kernel_rfl) (of_decide_eq_true (by kernel_rfl)) k0 bel lt0) (trodAll_cons_mk (Below.trod laidOut (by kernel_rfl) (of_decide_eq_true (by kernel_rfl)) k1 bel lt1) (trodAll_cons_mk (Below.trod laidOut (by kernel_rfl) (of_decide_eq_true (by kernel_rfl)) k2 bel lt2) trodAll_mk0))), rfl, bel.frame _, fun h => by cases h⟩

set_option maxRecDepth 100000 in
theorem lifted (os : Os) (started : os.Started) (H : Type) (enc : TypeId × Value → H) (F : Stop.Interp) :
    ReturnsInHanded {} Try.checked os 3 .any ((Rows.OpenSpec.upto Rows.linesTellSpec).pre6 enc Try.prog Try.f3 Rows.linesTellUptoRow.domain false) (((Rows.OpenSpec.upto Rows.linesTellSpec).at F).post enc Try.prog Try.f3 false true false false) := by
  refine returnsInHanded_of_cond (C := Try.checked) (s := Rows.OpenSpec.upto Rows.linesTellSpec) (k := Rows.uptoSmall) rfl own started (by kernel_rfl) Try.func3
    (OpenSpec.witness (enc := enc) (C := Try.checked) (s := Rows.OpenSpec.upto Rows.linesTellSpec) (k := Rows.uptoSmall) rfl false ⟨#[], #[.string ByteArray.empty, .slice none 0 0, .slice none 0 0], []⟩ 8 (by kernel_rfl) (by kernel_rfl) (by kernel_rfl)
      (x := ([.lit (.string []), .nil, .nil], [], [])) (by kernel_rfl) rfl (by kernel_rfl)) ?_
  intro W base args ds gs before hval hW _ hk _
  exact contract H enc W base args ds gs before hval hW hk

theorem over : Rows.linesTellUptoRow.holds Try.pinned (Rows.OpenSpec.upto Rows.linesTellSpec) :=
  OpenClaim.holds_of_cond 3 Try.f3 rfl rfl rfl rfl rfl rfl rfl ⟨rfl, rfl, rfl, rfl, rfl⟩ rfl rfl rfl rfl rfl (by kernel_rfl) Try.func3 (by kernel_rfl)
    (of_decide_eq_true (by kernel_rfl)) (by unfold Func.isWrapper; first | (rw [if_pos (by decide +kernel)]; kernel_rfl) | (rw [if_neg (by decide +kernel)]; exact ⟨rfl, rfl⟩))
    (fun os started H enc _ F => lifted os started H enc F)

/-- The statement. -/
theorem proved : Rows.LinesTellUptoSaid :=
  over
#print axioms proved
end Go.Proofs.Ytmmnmcdmiacckaa.linesTell

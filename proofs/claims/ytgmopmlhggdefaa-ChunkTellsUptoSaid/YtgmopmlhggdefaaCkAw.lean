/-
  few, awake (chunk).
-/
import Derived.Test.YtgmopmlhggdefaaPckD
import Derived.Test.YtgmopmlhggdefaaLit
namespace Go.Proofs.Ytgmopmlhggdefaa
open Go.RowKit

theorem SlC.c0 {w : World} {ao : Option Addr} {n cap : Nat} {c : CkS} {cs : List CkS} (h : SlC w (.slice ao n cap) (c :: cs)) :
    ∃ b o vb vo vt, ao = some ⟨b, o, none⟩ ∧ w.cell? ⟨b, o, none⟩ = some (.int .i64 c.1) ∧ w.cell? ⟨b, o + 1, none⟩ = some vb ∧ w.cell? ⟨b, o + 2, none⟩ = some vo ∧ w.cell? ⟨b, o + 3, none⟩ = some vt ∧ Sl w vb (strCells c.2.1) ∧ Sl w vo (strCells c.2.2.1) ∧ Sl w vt (strCells c.2.2.2) := by
  obtain ⟨b, o, k, xb, xo, xt, vb, vo, vt, e, h1, h2, h3, h4, h5, h6, h7, h8⟩ := h.at' (i := 0) (by simp)
  simp only [Nat.zero_mul, Nat.add_zero, List.getElem?_cons_zero, Option.some.injEq] at h1 h2 h3 h4 h8
  subst h8
  exact ⟨b, o, vb, vo, vt, e, h1, h2, h3, h4, h5, h6, h7⟩
section
set_option maxRecDepth 100000
set_option maxHeartbeats 2000000
theorem cfew_any (va vb vc : Value) (a b c : List (List UInt8)) (w : World) (ha : Sl w va (strCells a)) (hb : Sl w vb (strCells b)) (hc : Sl w vc (strCells c)) :
    Calls Try.prog 9 #[va, vb, vc] w fun e w' => e = .returned (.bool (decide (a.length ≤ 60 ∧ b.length ≤ 60 ∧ c.length ≤ 60))) ∧ w = w' := by
  obtain ⟨ao, ac, rfl⟩ := ha.form
  obtain ⟨bo, bc, rfl⟩ := hb.form
  obtain ⟨co, cc, rfl⟩ := hc.form
  clear ha hb hc
  rw [strCells_length, strCells_length, strCells_length]
  rcases (show ¬ a.length ≤ 60 ∨ (a.length ≤ 60 ∧ ¬ b.length ≤ 60) ∨ (a.length ≤ 60 ∧ b.length ≤ 60 ∧ ¬ c.length ≤ 60) ∨ (a.length ≤ 60 ∧ b.length ≤ 60 ∧ c.length ≤ 60) by omega) with h1 | ⟨h1, h2⟩ | ⟨h1, h2, h3⟩ | ⟨h1, h2, h3⟩
  · have d1 : decide ((a.length : Int) ≤ 60) = false := decide_eq_false (by omega)
    have d1' : decide (a.length ≤ 60) = false := decide_eq_false h1
    have HN := hid (decide_eq_false (p := a.length ≤ 60 ∧ b.length ≤ 60 ∧ c.length ≤ 60) (by omega))
    go_enter Try.func9, Try.ntmps9
    go_wp2_with fail
    go_ret
    exact ⟨by rw [HN.out]; rfl, rfl⟩
  · have d1 : decide ((a.length : Int) ≤ 60) = true := decide_eq_true (by omega)
    have d2 : decide ((b.length : Int) ≤ 60) = false := decide_eq_false (by omega)
    have d1' : decide (a.length ≤ 60) = true := decide_eq_true h1
    have d2' : decide (b.length ≤ 60) = false := decide_eq_false h2
    have HN := hid (decide_eq_false (p := a.length ≤ 60 ∧ b.length ≤ 60 ∧ c.length ≤ 60) (by omega))
    go_enter Try.func9, Try.ntmps9
    go_wp2_with fail
    go_ret
    exact ⟨by rw [HN.out]; rfl, rfl⟩
  · have d1 : decide ((a.length : Int) ≤ 60) = true := decide_eq_true (by omega)
    have d2 : decide ((b.length : Int) ≤ 60) = true := decide_eq_true (by omega)
    have d3 : decide ((c.length : Int) ≤ 60) = false := decide_eq_false (by omega)
    have d1' : decide (a.length ≤ 60) = true := decide_eq_true h1
    have d2' : decide (b.length ≤ 60) = true := decide_eq_true h2
    have d3' : decide (c.length ≤ 60) = false := decide_eq_false h3
    have HN := hid (decide_eq_false (p := a.length ≤ 60 ∧ b.length ≤ 60 ∧ c.length ≤ 60) (by omega))
    go_enter Try.func9, Try.ntmps9
    go_wp2_with fail
    go_ret
    exact ⟨by rw [HN.out]; rfl, rfl⟩
  · have d1 : decide ((a.length : Int) ≤ 60) = true := decide_eq_true (by omega)
    have d2 : decide ((b.length : Int) ≤ 60) = true := decide_eq_true (by omega)
    have d3 : decide ((c.length : Int) ≤ 60) = true := decide_eq_true (by omega)
    have d1' : decide (a.length ≤ 60) = true := decide_eq_true h1
    have d2' : decide (b.length ≤ 60) = true := decide_eq_true h2
    have d3' : decide (c.length ≤ 60) = true := decide_eq_true h3
    have HN := hid (decide_eq_true (p := a.length ≤ 60 ∧ b.length ≤ 60 ∧ c.length ≤ 60) (by omega))
    go_enter Try.func9, Try.ntmps9
    go_wp2_with fail
    go_ret
    exact ⟨by rw [HN.out]; rfl, rfl⟩

theorem awake_any (w : World) : Calls Try.prog 10 #[] w fun e w' => e = .returned (.bool true) ∧ Below w.heap.size w w' := by
  have b1 : chunksS [[97], [98]] [[97], [99]] [[97], ([98] : List UInt8)] = [(1, [[97]], [[97]], [[97]]), (2, [[98]], [[99]], [[98]])] := by decide
  have b2 : cleanS [(1, [[97]], [[97]], [[97]]), (2, [[98]], [[99]], [([98] : List UInt8)])] = true := by decide
  have b3 : mergedS [(1, [[97]], [[97]], [[97]]), (2, [[98]], [[99]], [([98] : List UInt8)])] = [[97], [99]] := by decide
  obtain ⟨f0, f1, f2, fb⟩ := three_lits w (.cells #[.string ⟨#[97]⟩, .string ⟨#[98]⟩] 9) (.cells #[.string ⟨#[97]⟩, .string ⟨#[99]⟩] 9) (.cells #[.string ⟨#[97]⟩, .string ⟨#[98]⟩] 9)
  have HOF := hid (DOf_any _ _ _ [[97], [98]] [[97], [99]] [[97], [98]] _ (litS [[97], [98]] f0) (litS [[97], [99]] f1) (litS [[97], [98]] f2) (by simp) (by simp) (by simp))
  rw [b1] at HOF
  have HB0 := hid fb
  clear f0 f1 f2 fb b1
  go_enter Try.func10, Try.ntmps10
  go_wp2_with fail
  refine HOF.out.mono ?_
  rintro e w1 ⟨u, rfl, hu, hb1⟩
  have hB1 := below_step HB0.out hb1 HB0.out.size
  obtain ⟨ao, cap, rfl⟩ := hu.form
  have HCL := hid (DClean_any _ _ w1 hu (by simp))
  rw [b2] at HCL
  have HU := hid hu
  obtain ⟨p0, o0, k0, _, _, _, _, _, _, ea, q0, _, _, _, _, _, _, e0⟩ := hu.at' (i := 0) (by simp)
  obtain ⟨p1, o1, k1, _, _, _, _, _, _, eb, q1, _, _, _, _, _, _, e1⟩ := hu.at' (i := 1) (by simp)
  cases ea
  cases eb
  simp only [List.getElem?_cons_zero, List.getElem?_cons_succ, Option.some.injEq, Prod.mk.injEq] at e0 e1
  obtain ⟨rfl, -⟩ := e0
  obtain ⟨rfl, -⟩ := e1
  simp only [Nat.zero_mul, Nat.add_zero, Nat.one_mul] at q0 q1
  clear hu hb1 HOF
  go_wp2_with (go_at_call 16; refine HCL.out.mono ?_; rintro e w2 ⟨rfl, hb2⟩)
  have hB2 := below_step hB1 hb2 hB1.size
  have HM := DMerged_any _ _ w2 (HU.out.old hb2) (by simp) (fun c hc => by
    rcases List.mem_cons.1 hc with rfl | hc
    · simp
    · rcases List.mem_singleton.1 hc with rfl
      simp)
  rw [b3] at HM
  refine HM.mono ?_
  rintro e w3 ⟨u3, rfl, s3, hb3⟩
  have hB3 := below_step hB2 hb3 hB2.size
  obtain ⟨xo, xc, rfl⟩ := s3.form
  rw [strCells_length] at s3 ⊢
  have HP := hid (SPlain_any _ _ [[97], [99]] [[97], [99]] (w3.alloc (.cells #[.string ⟨#[97]⟩, .string ⟨#[99]⟩] 9)) (s3.alloc _) (litS [[97], [99]] (heap_alloc_new w3 _)) (by unfold maxLen; simp))
  have hB4 := hB3.alloc hB3.size (.cells #[.string ⟨#[97]⟩, .string ⟨#[99]⟩] 9)
  clear s3 HM
  go_wp2_with fail
  refine HP.out.mono ?_
  rintro e w4 ⟨rfl, q4, rfl⟩
  go_wp2_with fail
  go_ret
  exact ⟨by simp, hB4.trans ⟨rfl, rfl, rfl, Nat.le_refl _, fun _ _ => rfl⟩⟩
end
end Go.Proofs.Ytgmopmlhggdefaa

/-
  Package blame: Lines, Stack, each by a contract.
-/
import Derived.Test.YtikemkgedmbijaaPblF
import Derived.Test.YtikemkgedmbijaaPdfS
import Derived.Test.YtikemkgedmbijaaOwnLL
import Derived.Test.YtikemkgedmbijaaLinS
import Derived.Test.YtikemkgedmbijaaLinE
namespace Go.Proofs.Ytikemkgedmbijaa
open Go.RowKit

theorem blameFrom_zero (ls : List (List (List UInt8))) : blameFrom 0 [] [] ls = blameS ls := by
  cases ls with
  | nil => rfl
  | cons x l =>
    show blameFrom 1 x (blameStep 0 (scriptS [] x) []) l = blameFrom 1 x (List.replicate x.length 0) l
    rw [scriptS_nil_left, restS_nil, blameStep_new]
theorem blameStep_lt {α : Type} {B v : Nat} (hv : v < B) : ∀ (s : List (Int × α)) (out : List Nat), (∀ x ∈ out, x < B) → ∀ x ∈ blameStep v s out, x < B
  | [], _, _, x, hx => by cases hx
  | e :: s, out, h, x, hx => by
    have ht : ∀ y ∈ out.tail, y < B := fun y hy => h y (List.mem_of_mem_tail hy)
    rw [blameStep] at hx
    split at hx
    · rcases List.mem_cons.1 hx with rfl | hx
      · cases out with
        | nil => show 0 < B; omega
        | cons o out => exact h o (List.mem_cons_self ..)
      · exact blameStep_lt hv s _ ht x hx
    · split at hx
      · exact blameStep_lt hv s _ ht x hx
      · rcases List.mem_cons.1 hx with rfl | hx
        · exact hv
        · exact blameStep_lt hv s _ h x hx
theorem script_kinds {a b : List (List UInt8)} (ha : a.length ≤ 400) (hb : b.length ≤ 400) : Kinds (scriptS a b) := by
  rw [scriptS_short ha hb]
  exact goS_kinds a b

section
set_option maxRecDepth 100000
set_option maxHeartbeats 4000000
theorem DLines_any (v : Value) (ls : List (List (List UInt8))) (w : World) (hv : SlLL w v ls) (hn : ls.length ≤ 1000) (hl : ∀ l ∈ ls, l.length ≤ 400) :
    Calls Try.prog 10 #[v] w fun e w' => ∃ u, e = .returned u ∧ Sl w' u (intCells (nI (blameS ls))) ∧ Below w.heap.size w w' := by
  obtain ⟨ao, cap, rfl⟩ := hv.form
  have HV := hid hv
  have HL := hid hl
  clear hv hl
  go_enter Try.func10, Try.ntmps10
  go_wp2_with fail
  go_loopg [3, 4, 9] ls.length (fun g f la i wr => ∃ (k : Nat) (prev : List (List UInt8)) (O : List Nat), k ≤ ls.length ∧ g = ls.length - k ∧ i = .int .i64 k ∧ Hid (Sl wr f (plCells O)) ∧ Hid (Sl wr la (strCells prev)) ∧ Hid (O.length = prev.length) ∧ prev.length ≤ 400 ∧ Hid (blameFrom k prev O (ls.drop k) = blameS ls) ∧ Hid (∀ x ∈ O, x < 4000000) ∧ Below w.heap.size w wr)
  case atStart => exact ⟨0, [], [], Nat.zero_le _, rfl, rfl, hid (Sl.nil _), hid (Sl.nil _), hid rfl, Nat.zero_le _, hid (by rw [List.drop_zero]; exact blameFrom_zero ls), hid (by simp), Below.refl _ _⟩
  case round =>
    obtain ⟨k, prev, O, hk, rfl, rfl, HF, HP, HO, hpl, HB, HM, hbel⟩ := hrel
    have hz := hbel.size
    have k0 : (0 : Int) ≤ (k : Int) := Int.natCast_nonneg _
    obtain ⟨fo, fc, rfl⟩ := HF.out.form
    obtain ⟨lo, lc, rfl⟩ := HP.out.form
    rw [plCells_length] at HF ⊢
    rw [strCells_length] at HP ⊢
    by_cases hlt : k < ls.length
    · have k1 : (k : Int) < (ls.length : Int) := by omega
      have kw : IntKind.i64.wrap ((k : Int) + 1) = (k : Int) + 1 := IntWalk.i64_in _ (by omega)
      have uw : IntKind.u32.wrap (k : Int) = (k : Int) := IntWalk.u32_in _ (by omega)
      obtain ⟨b1, o1, cur, co, cc, rfl, c1, s1, e1⟩ := (HV.out.old hbel).at' (i := k) hlt
      have hcl := HL.out cur (List.mem_of_getElem? e1)
      have HCALL := hid (DScript_any (.slice lo prev.length lc) (.slice co cur.length cc) prev cur wr HP.out s1 (by omega) (by omega))
      have HB2 := hid ((blame_at e1 prev O).symm.trans HB.out)
      have HS2 := hid (show (sideS 2 (scriptS prev cur)).length = O.length by rw [script_side2 hpl hcl, HO.out])
      have hfew := script_few hpl hcl
      have HKI := hid (script_kinds hpl hcl)
      have HLN := hid (step_length hpl hcl k HO.out)
      have HM2 := hid (blameStep_lt (B := 4000000) (v := k) (by omega) (scriptS prev cur) O HM.out)
      have HS1 := hid s1
      obtain ⟨s, hs⟩ : ∃ s, scriptS prev cur = s := ⟨_, rfl⟩
      rw [hs] at HCALL HB2 HS2 hfew HLN HKI HM2
      clear e1 s1 hs
      go_wp2_with (first
        | (go_at_call 18; with_reducible refine HCALL.out.mono ?_; rintro e w2 ⟨l, rfl, hE, hb2⟩; obtain ⟨eo, ec, rfl⟩ := hE.form; have HFO := hid (DFollow_any (.slice fo O.length fc) _ O s k w2 (Sl.old HF.out hb2) hE.slE HKI.out HS2.out (by omega)); have hbr := below_step hbel hb2 hz; have HSC := hid (Sl.old HS1.out hb2); clear hE HCALL)
        | (go_at_call 17; with_reducible refine HFO.out.mono ?_; rintro e w3 ⟨u, rfl, hO3, hb3⟩; have hbr3 := below_step hbr hb3 hbr.size; have HSC3 := hid (Sl.old HSC.out hb3); obtain ⟨uo, uc, rfl⟩ := owns_form hO3; have HF3 := hid (Sl.ofOwns hO3); clear hO3 HFO))
      go_wp2_with fail
      go_roundg (ls.length - (k + 1))
      case measure => omega
      case rel => exact ⟨k + 1, cur, _, by omega, rfl, rfl, HF3, HSC3, HLN, hcl, HB2, HM2, hbr3⟩
    · obtain rfl : k = ls.length := by omega
      have hneg : ¬ (ls.length : Int) < (ls.length : Int) := by omega
      have HE := hid (show O = blameS ls by
        have := HB.out
        rw [List.drop_length] at this
        exact this)
      have HC := hid (DNumbers_any (.slice fo O.length fc) O wr HF.out (by have := HO.out; omega) HM.out)
      go_wp2_with (go_at_call 19; refine HC.out.mono ?_; rintro e w2 ⟨u, rfl, h1, h2⟩; obtain ⟨xo, xc, rfl⟩ := h1.form; have H1 := hid h1; clear h1)
      go_wp2_with fail
      go_ret
      exact ⟨_, rfl, by rw [← HE.out]; exact H1.out, below_step hbel h2 hz⟩
theorem DStack_any (v : Value) (ss : List (List UInt8)) (w : World) (hv : Sl w v (strCells ss)) (hn : ss.length ≤ 1000) (hl : ∀ s ∈ ss, s.length ≤ 300) :
    Calls Try.prog 12 #[v] w fun e w' => ∃ u, e = .returned u ∧ Sl w' u (intCells (nI (blameS (ss.map linesOf)))) ∧ Below w.heap.size w w' := by
  obtain ⟨ao, cap, rfl⟩ := hv.form
  rw [strCells_length] at hv ⊢
  have HV := hid hv
  have HL := hid hl
  clear hv hl
  go_enter Try.func12, Try.ntmps12
  go_wp2_with fail
  go_loopg [3, 8] ss.length (fun g out i wr => ∃ (k : Nat) (D : List (List (List UInt8))), k ≤ ss.length ∧ g = ss.length - k ∧ i = .int .i64 k ∧ Hid (D = (ss.take k).map linesOf) ∧ Hid (OwnLL wr w.heap.size out D) ∧ Below w.heap.size w wr)
  case atStart => exact ⟨0, [], Nat.zero_le _, rfl, rfl, hid rfl, hid (OwnLL.nil _ _), Below.refl _ _⟩
  case round =>
    obtain ⟨k, D, hk, rfl, rfl, HD, HO, hbel⟩ := hrel
    have hz := hbel.size
    have k0 : (0 : Int) ≤ (k : Int) := Int.natCast_nonneg _
    obtain ⟨oo, oc, rfl⟩ := HO.out.form
    by_cases hlt : k < ss.length
    · have k1 : (k : Int) < (ss.length : Int) := by omega
      have kw : IntKind.i64.wrap ((k : Int) + 1) = (k : Int) + 1 := IntWalk.i64_in _ (by omega)
      obtain ⟨a1, s, rfl, hc, he⟩ := (Sl.old HV.out hbel).strAt' (i := k) hlt
      have hsl := HL.out s (List.mem_of_getElem? he)
      have HCALL := hid (PSplit_row s wr (by omega))
      have HT := hid (show (ss.take (k + 1)).map linesOf = D ++ [linesOf s] by rw [take_snoc he, List.map_append, HD.out]; rfl)
      have hlen : D.length ≤ 4000000 := by rw [HD.out, List.length_map, List.length_take]; omega
      clear he
      go_wp2_with (first
        | (go_at_call 21; refine HCALL.out.mono ?_; rintro e w2 ⟨u, rfl, hO, hb2⟩; obtain ⟨uo, uc, rfl⟩ := owns_form hO; have NU := hid (nestL_own hO (fun j hj => (HO.out.lt j hj).2)); have HO2 := hid (HO.out.old hb2); have hbr := below_step hbel hb2 hz; have hzr := hbr.size; clear hO hb2)
        | (refine wpList_append_ll (w := w2) (by rfl) (.tmp 12) (.tmp 15) (by rfl) w.heap.size _ D (linesOf s) _ (by rfl) HO2.out NU.out (by rfl) (by rfl) hlen hzr ?_; intro v5 w5 hO5 B5 K5; have HO5 := hid hO5; have hb5 := hbr.trans B5; clear hO5 B5 K5))
      go_wp2_with fail
      go_roundg (ss.length - (k + 1))
      case measure => omega
      case rel => exact ⟨k + 1, _, by omega, rfl, rfl, hid HT.out.symm, HO5, hb5⟩
    · obtain rfl : k = ss.length := by omega
      have hneg : ¬ (ss.length : Int) < (ss.length : Int) := by omega
      have hDe : D = ss.map linesOf := by rw [HD.out, List.take_length]
      have HC := hid (DLines_any _ D wr HO.out.slLL (by rw [hDe, List.length_map]; exact hn) (fun l hl => by
        rw [hDe] at hl
        obtain ⟨s, hs, rfl⟩ := List.mem_map.1 hl
        have h1 := linesOf_count s
        have h2 := HL.out s hs
        omega))
      have HDE := hid hDe
      clear hDe
      go_wp2_with (go_at_call 10; refine HC.out.mono ?_; rintro e w2 ⟨u, rfl, h1, h2⟩; obtain ⟨xo, xc, rfl⟩ := h1.form; have H1 := hid h1; clear h1)
      go_wp2_with fail
      go_ret
      exact ⟨_, rfl, by rw [← HDE.out]; exact H1.out, below_step hbel h2 hz⟩
end
end Go.Proofs.Ytikemkgedmbijaa

/-
  A list of hunks that came in; whether it is not too much.
-/
import Derived.Test.YtbcmecclaofmgaaHk
import Derived.Test.YtbcmecclaofmgaaOpenS
import Derived.Test.YtbcmecclaofmgaaOpen2
import Derived.ProofKit
import Derived.OpenShut
namespace Go.Proofs.Ytbcmecclaofmgaa
open Go.ChangeShapes Go.WideShapes Go.ChangeAt Go.RowKit

/-- A list of hunks that came in. -/
def FactHks (w : World) (v : Value) (hs : List HkS) : Prop := SlH w v hs ∧ hs.length ≤ maxLen ∧ ∀ h ∈ hs, h.2.1.length ≤ maxLen ∧ h.2.2.length ≤ maxLen
theorem hkCells : Try.prog.cellsOf 36 = 3 := by kernel_rfl
theorem hkCellsI : Try.prog.cellsOf 3 = 1 := by kernel_rfl
theorem hkCellsL : Try.prog.cellsOf 23 = 1 := by kernel_rfl
section
variable {H : Type} {enc : TypeId × Value → H} {w : World} {base : Nat} {spare : Nat → Bool} {held : Bool}
theorem hk_of {fuel : Nat} {cs : List Value} {y : DataW H × List MemPlace} (h : DataW.trod enc Try.prog w base spare held fuel 36 cs = some y) :
    ∃ (x : HkS) (vo vn : Value), cs = [.int .i64 x.1, vo, vn] ∧ FactStrs w vo x.2.1 ∧ FactStrs w vn x.2.2 := by
  obtain ⟨ys, n, _, _, hl, hlen, hf⟩ := DataW.trod_struct Try.underlying36 h
  rw [hkCells] at hl
  match cs, hl, ys, hlen with
  | [c0, c1, c2], _, [y0, y1, y2], _ =>
    have f0 : DataW.trod enc Try.prog w base spare held n 3 [c0] = some y0 := by simpa [hkCellsI] using hf 0 _ rfl
    have f1 : DataW.trod enc Try.prog w base spare held n 23 [c1] = some y1 := by simpa [hkCellsI, hkCellsL] using hf 1 _ rfl
    have f2 : DataW.trod enc Try.prog w base spare held n 23 [c2] = some y2 := by simpa [hkCellsI, hkCellsL] using hf 2 _ rfl
    obtain ⟨k0, e0, _, _⟩ := DataW.trod_int Try.underlying3 f0
    obtain ⟨v1, a1, e1, s1, _⟩ := open_strL Try.underlying23 Try.underlying9 (by kernel_rfl) f1
    obtain ⟨v2, a2, e2, s2, _⟩ := open_strL Try.underlying23 Try.underlying9 (by kernel_rfl) f2
    simp at e0 e1 e2
    exact ⟨(k0, a1, a2), v1, v2, by simp [e0, e1, e2], s1, s2⟩
theorem open_hks {fuel : Nat} {cs : List Value} {x : DataW H × List MemPlace} (h : DataW.trod enc Try.prog w base spare held fuel 24 cs = some x) :
    ∃ v l, cs = [v] ∧ FactHks w v l := by
  obtain ⟨v, css, n, rfl, hs, hl, hu⟩ := open_slN Try.underlying24 hkCells h
  obtain ⟨l, hll, hlc⟩ : ∃ l : List HkS, l.length = css.length ∧ ∀ (i : Nat) (h : HkS), l[i]? = some h → ∃ vo vn, css[i]? = some [.int .i64 h.1, vo, vn] ∧ FactStrs w vo h.2.1 ∧ FactStrs w vn h.2.2 := by
    clear hs hl
    induction css with
    | nil => exact ⟨[], rfl, fun i h hi => by simp at hi⟩
    | cons c css ih =>
      obtain ⟨y, hy⟩ := hu c (List.mem_cons_self ..)
      obtain ⟨x, vo, vn, rfl, s1, s2⟩ := hk_of hy
      obtain ⟨l, hl, hc⟩ := ih fun u hu' => hu u (List.mem_cons_of_mem _ hu')
      refine ⟨x :: l, by simp [hl], fun i h hi => ?_⟩
      cases i with
      | zero =>
        simp at hi
        subst hi
        exact ⟨vo, vn, rfl, s1, s2⟩
      | succ i => exact hc i h (by simpa using hi)
  obtain ⟨ao, cap, rfl, hn, hcap, hc⟩ := hs
  refine ⟨_, l, rfl, ⟨ao, cap, by rw [hll], fun h => List.eq_nil_of_length_eq_zero (by rw [hll, hn h]; rfl), by omega, fun a ha i h hi => ?_⟩, by rw [hll]; simpa using hl, fun h hh => ?_⟩
  · obtain ⟨vo, vn, hci, s1, s2⟩ := hlc i h hi
    have := (hc a ha i _ hci).2
    exact ⟨vo, vn, this 0 _ rfl, this 1 _ rfl, this 2 _ rfl, s1.1, s2.1⟩
  · obtain ⟨i, hi⟩ := List.getElem?_of_mem hh
    obtain ⟨vo, vn, _, s1, s2⟩ := hlc i h hi
    exact ⟨s1.2.1, s2.2.1⟩
end

/-- not too much -/
def fewS (hs : List HkS) : Bool := (hs.all fun h => decide (h.2.1.length ≤ 30) && decide (h.2.2.length ≤ 30)) && decide (hs.length ≤ 30)
section
set_option maxRecDepth 100000
set_option maxHeartbeats 4000000
theorem few_any (v : Value) (hs : List HkS) (w : World) (hv : FactHks w v hs) :
    Calls Try.prog 8 #[v] w fun e w' => e = .returned (.bool (fewS hs)) ∧ Below w.heap.size w w' := by
  obtain ⟨hv, hl, hm⟩ := hv
  unfold maxLen at hl
  obtain ⟨ao, cap, rfl⟩ := hv.form
  have HV := hid hv
  clear hv hm
  go_enter Try.func8, Try.ntmps8
  go_wp2_with fail
  go_loopg [3] hs.length (fun g i wr => ∃ k : Nat, k ≤ hs.length ∧ hs.length - k = g ∧ i = .int .i64 k ∧ Hid (∀ h ∈ hs.take k, h.2.1.length ≤ 30 ∧ h.2.2.length ≤ 30) ∧ w = wr)
  case atStart => exact ⟨0, Nat.zero_le _, rfl, rfl, hid (by simp), rfl⟩
  case round =>
    obtain ⟨k, hk, rfl, rfl, HF, rfl⟩ := hrel
    have k0 : (0 : Int) ≤ (k : Int) := Int.natCast_nonneg _
    by_cases hlt : k < hs.length
    · have k1 : (k : Int) < (hs.length : Int) := by omega
      have kw : IntKind.i64.wrap ((k : Int) + 1) = (k : Int) + 1 := IntWalk.i64_in _ (by omega)
      obtain ⟨b, o, z, old, new, vo, vn, rfl, c1, c2, c3, s1, s2, he⟩ := HV.out.at' (i := k) hlt
      obtain ⟨oo, oc, rfl⟩ := s1.form
      obtain ⟨no, nc, rfl⟩ := s2.form
      rw [strCells_length] at c2 c3
      have HE := hid he
      clear s1 s2 he c1
      have hno : ¬ (old.length ≤ 30 ∧ new.length ≤ 30) → fewS hs = false := fun hn => by
        rw [Bool.eq_false_iff]
        intro h
        unfold fewS at h
        rw [Bool.and_eq_true, List.all_eq_true] at h
        have := h.1 _ (List.mem_of_getElem? HE.out)
        simp at this
        exact hn this
      by_cases h1 : (30 : Int) < (old.length : Int)
      · have HN := hid (hno (by omega))
        clear hno
        go_wp2
        go_ret
        exact ⟨by rw [HN.out]; rfl, Below.refl _ _⟩
      · by_cases h2 : (30 : Int) < (new.length : Int)
        · have HN := hid (hno (by omega))
          clear hno
          go_wp2
          go_ret
          exact ⟨by rw [HN.out]; rfl, Below.refl _ _⟩
        · have HN := hid (show ∀ h ∈ hs.take (k + 1), h.2.1.length ≤ 30 ∧ h.2.2.length ≤ 30 from fun h hh => by
            rw [List.take_add_one, HE.out] at hh
            rcases List.mem_append.1 hh with hh | hh
            · exact HF.out h hh
            · simp at hh
              subst hh
              exact ⟨by show old.length ≤ 30; omega, by show new.length ≤ 30; omega⟩)
          clear hno
          go_wp2
          go_roundg (hs.length - (k + 1))
          case measure => omega
          case rel => exact ⟨k + 1, by omega, rfl, rfl, HN, rfl⟩
    · obtain rfl : k = hs.length := by omega
      have HN := hid (show fewS hs = decide ((hs.length : Int) ≤ 30) by
        have h := HF.out
        rw [List.take_length] at h
        unfold fewS
        rw [show (hs.all fun h => decide (h.2.1.length ≤ 30) && decide (h.2.2.length ≤ 30)) = true from List.all_eq_true.2 fun x hx => by have := h x hx; simp [this], Bool.true_and]
        congr 1
        simp; omega)
      go_wp2
      go_ret
      exact ⟨by rw [HN.out]; rfl, Below.refl _ _⟩
end
end Go.Proofs.Ytbcmecclaofmgaa

/-
  Arguments that are files, changes, and lists of them, opened.
-/
import Derived.Test.YtnpgfbgnbonhfaaTxt
import Derived.Test.YtnpgfbgnbonhfaaChg
import Derived.Test.YtnpgfbgnbonhfaaOpen2
import Derived.Test.YtnpgfbgnbonhfaaOpenS
namespace Go.Proofs.Ytnpgfbgnbonhfaa
open Go.RowKit Go.WideShapes Go.ChangeShapes Go.ChangeAt

/-- A list of files that came in. -/
def FactFiles (w : World) (v : Value) (l : List FileS) : Prop := SlF w v l ∧ l.length ≤ maxLen ∧ ∀ f ∈ l, f.1.length ≤ maxLen ∧ f.2.2.length ≤ maxLen
/-- A list of changes that came in. -/
def FactChanges (w : World) (v : Value) (l : List ChangeS) : Prop := SlH w v l ∧ l.length ≤ maxLen ∧ ∀ f ∈ l, f.1.length ≤ maxLen ∧ f.2.2.2.length ≤ maxLen
theorem cellsFile : Try.prog.cellsOf 31 = 3 := by kernel_rfl
theorem cellsStr1 : Try.prog.cellsOf 9 = 1 := by kernel_rfl
theorem cellsBool1 : Try.prog.cellsOf 4 = 1 := by kernel_rfl
theorem SlR.ofN {α : Type} {E : Enc α} {w : World} {v : Value} {es : List α} (h : SlN E.k w v (es.map E.enc)) : SlR E w v es := by
  obtain ⟨ao, cap, rfl, hn, hcap, hc⟩ := h
  rw [List.length_map] at hcap ⊢
  refine ⟨ao, cap, rfl, fun h => by simpa using hn h, hcap, fun a ha i e he j u hu => ?_⟩
  exact (hc a ha i (E.enc e) (by rw [List.getElem?_map, he]; rfl)).2 j u hu
section
set_option maxRecDepth 100000
variable {H : Type} {enc : TypeId × Value → H} {w : World} {base : Nat} {spare : Nat → Bool} {held : Bool}
theorem file_of {fuel : Nat} {cs : List Value} {y : DataW H × List MemPlace} (h : DataW.trod enc Try.prog w base spare held fuel 31 cs = some y) : ∃ x : FileS, cs = encF.enc x ∧ x.1.length ≤ maxLen ∧ x.2.2.length ≤ maxLen := by
  obtain ⟨ys, n, _, _, hl, hlen, hf⟩ := DataW.trod_struct Try.underlying31 h
  rw [cellsFile] at hl
  match cs, hl, ys, hlen with
  | [c0, c1, c2], _, [y0, y1, y2], _ =>
    have f0 : DataW.trod enc Try.prog w base spare held n 9 [c0] = some y0 := by simpa [cellsStr1] using hf 0 _ rfl
    have f1 : DataW.trod enc Try.prog w base spare held n 4 [c1] = some y1 := by simpa [cellsBool1] using hf 1 _ rfl
    have f2 : DataW.trod enc Try.prog w base spare held n 9 [c2] = some y2 := by simpa [cellsStr1] using hf 2 _ rfl
    obtain ⟨s0, e0, _, z0⟩ := DataW.trod_string Try.underlying9 f0
    obtain ⟨b1, e1, _⟩ := DataW.trod_bool Try.underlying4 f1
    obtain ⟨s2, e2, _, z2⟩ := DataW.trod_string Try.underlying9 f2
    simp at e0 e1 e2
    exact ⟨(s0.data.toList, b1, s2.data.toList), by simp [encF, strV, e0, e1, e2], size_le z0, size_le z2⟩
theorem open_files {fuel : Nat} {cs : List Value} {x : DataW H × List MemPlace} (h : DataW.trod enc Try.prog w base spare held fuel 25 cs = some x) :
    ∃ v l, cs = [v] ∧ FactFiles w v l := by
  obtain ⟨v, css, n, rfl, hs, hl, hu⟩ := open_slN Try.underlying25 cellsFile h
  obtain ⟨l, rfl, hb⟩ : ∃ l : List FileS, css = l.map encF.enc ∧ ∀ f ∈ l, f.1.length ≤ maxLen ∧ f.2.2.length ≤ maxLen := by
    clear hs hl
    induction css with
    | nil => exact ⟨[], rfl, by simp⟩
    | cons c css ih =>
      obtain ⟨y, hy⟩ := hu c (List.mem_cons_self ..)
      obtain ⟨x, rfl, hx⟩ := file_of hy
      obtain ⟨l, rfl, hb⟩ := ih fun u hu' => hu u (List.mem_cons_of_mem _ hu')
      refine ⟨x :: l, rfl, fun f hf => ?_⟩
      rcases List.mem_cons.1 hf with rfl | hf
      · exact hx
      · exact hb f hf
  exact ⟨v, l, rfl, SlR.ofN (E := encF) hs, by simpa using hl, hb⟩
theorem open_file {r : Reach} {b0 : Nat} {v : Value} {d : DataW H} {ps : List MemPlace} (hval : Value.okWide Try.prog w r b0 31 v) (hd : DataW.Trod enc Try.prog w base spare held 31 v d ps) :
    ∃ f : FileS, v = fileV f ∧ (f.1.length ≤ maxLen ∧ f.2.2.length ≤ maxLen) := by
  unfold Value.okWide at hval
  rw [Try.underlying31] at hval
  obtain ⟨cs, rfl, hs, _⟩ := hval
  obtain ⟨fuel, hf⟩ := hd
  obtain ⟨x, hx, hb⟩ := file_of hf
  refine ⟨x, ?_, hb⟩
  have := congrArg List.toArray hx
  unfold fileV
  congr 1
end
end Go.Proofs.Ytnpgfbgnbonhfaa

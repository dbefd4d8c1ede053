/-
  A list of chunks that came in.
-/
import Derived.Test.YtfldheegebopoaaCk
import Derived.Test.YtfldheegebopoaaOpenS
import Derived.Test.YtfldheegebopoaaBulk
import Derived.Test.YtfldheegebopoaaOpen2
import Derived.ProofKit
import Derived.OpenShut
namespace Go.Proofs.Ytfldheegebopoaa
open Go.ChangeShapes Go.WideShapes Go.ChangeAt Go.RowKit Go.Deep

/-- A list of chunks that came in. -/
def FactCks (w : World) (v : Value) (hs : List CkS) : Prop := SlC w v hs ∧ hs.length ≤ maxLen ∧ ∀ h ∈ hs, h.2.1.length ≤ maxLen ∧ h.2.2.1.length ≤ maxLen ∧ h.2.2.2.length ≤ maxLen
theorem ckCells : Try.prog.cellsOf 34 = 4 := by kernel_rfl
theorem ckCellsI : Try.prog.cellsOf 3 = 1 := by kernel_rfl
theorem ckCellsL : Try.prog.cellsOf 32 = 1 := by kernel_rfl
section
variable {H : Type} {enc : TypeId × Value → H} {w : World} {base : Nat} {spare : Nat → Bool} {held : Bool}
theorem bulk_of {d : DataW H} {ss : List (List UInt8)} (h : (d = .nil ∧ ss = []) ∨ ∃ rest, d = .slice (dataStrs ss) rest) : ss.flatten.length + ss.length ≤ Rows.uptoBulk d := by
  rcases h with ⟨rfl, rfl⟩ | ⟨rest, rfl⟩
  · simp
  · have := bulk_strs (H := H) ss
    simp only [Rows.uptoBulk]
    omega
set_option maxRecDepth 100000 in
theorem open_slNB {t e : TypeId} {size fuel : Nat} {cs : List Value} {x : DataW H × List MemPlace} (ht : Try.prog.underlying t = some (.slice e)) (hc : Try.prog.cellsOf e = size) (h : DataW.trod enc Try.prog w base spare held fuel t cs = some x) :
    ∃ v css n, cs = [v] ∧ SlN size w v css ∧ css.length ≤ maxLen ∧ ∀ u ∈ css, ∃ y, DataW.trod enc Try.prog w base spare held n e u = some y ∧ Rows.uptoBulk y.1 ≤ Rows.uptoBulk x.1 := by
  rcases open_slice ht h with ⟨rfl, _⟩ | ⟨a, len, cap, m, n, D, Pl, rfl, hb, hl, hm, hmm, hxe, hx⟩
  · exact ⟨_, [], 0, rfl, ⟨none, 0, rfl, fun _ => rfl, Nat.le_refl _, fun a ha => by cases ha⟩, by simp, fun u hu => by cases hu⟩
  · have hlm : len ≤ m := by rw [hmm]; split <;> omega
    subst hc
    obtain ⟨F, hF⟩ := choose_lt (α := List Value) (p := fun i cs' => w.cells? base (a.add (i * Try.prog.cellsOf e)) (Try.prog.cellsOf e) = some cs' ∧ DataW.trod enc Try.prog w base spare held n e cs' = some (D i, Pl i)) (fun i hi => hx i hi)
    refine ⟨_, (List.range len).map F, n, rfl, ⟨some a, cap, by simp, (fun h => by cases h), by simpa using hl, fun a' ha' i cs hi => ?_⟩, by simp; omega, fun u hu => ?_⟩
    · cases ha'
      have hi' : i < len := by have := (List.getElem?_eq_some_iff.1 hi).1; simpa using this
      have hcs : cs = F i := by simpa [hi'] using hi.symm
      obtain ⟨h1, h2⟩ := hF i (by omega)
      obtain ⟨_, hlen, hat⟩ := World.cells?_some h1
      rw [hcs]
      refine ⟨hlen, fun j u hu => ?_⟩
      have hj : j < (F i).length := (List.getElem?_eq_some_iff.1 hu).1
      have := hat j (by omega)
      rw [← addr_add_add, this, hu]
    · obtain ⟨i, hi, rfl⟩ := List.mem_map.1 hu
      refine ⟨_, (hF i (by have := List.mem_range.1 hi; omega)).2, ?_⟩
      have hmem : D i ∈ (List.range len).map D := List.mem_map.2 ⟨i, hi, rfl⟩
      have := bulk_part hmem
      rw [hxe]
      simp only [Rows.uptoBulk]
      omega
set_option maxRecDepth 100000 in
theorem ck_of {fuel : Nat} {cs : List Value} {y : DataW H × List MemPlace} (h : DataW.trod enc Try.prog w base spare held fuel 34 cs = some y) :
    ∃ (x : CkS) (vb vo vt : Value), cs = [.int .i64 x.1, vb, vo, vt] ∧ FactStrs w vb x.2.1 ∧ FactStrs w vo x.2.2.1 ∧ FactStrs w vt x.2.2.2 ∧ x.2.1.flatten.length + x.2.1.length ≤ Rows.uptoBulk y.1 ∧ x.2.2.1.flatten.length + x.2.2.1.length ≤ Rows.uptoBulk y.1 ∧ x.2.2.2.flatten.length + x.2.2.2.length ≤ Rows.uptoBulk y.1 := by
  obtain ⟨ys, n, _, rfl, hl, hlen, hf⟩ := DataW.trod_struct Try.underlying34 h
  rw [ckCells] at hl
  match cs, hl, ys, hlen with
  | [c0, c1, c2, c3], _, [y0, y1, y2, y3], _ =>
    have f0 : DataW.trod enc Try.prog w base spare held n 3 [c0] = some y0 := by simpa [ckCellsI] using hf 0 _ rfl
    have f1 : DataW.trod enc Try.prog w base spare held n 32 [c1] = some y1 := by simpa [ckCellsI, ckCellsL] using hf 1 _ rfl
    have f2 : DataW.trod enc Try.prog w base spare held n 32 [c2] = some y2 := by simpa [ckCellsI, ckCellsL] using hf 2 _ rfl
    have f3 : DataW.trod enc Try.prog w base spare held n 32 [c3] = some y3 := by simpa [ckCellsI, ckCellsL] using hf 3 _ rfl
    obtain ⟨k0, e0, _, _⟩ := DataW.trod_int Try.underlying3 f0
    obtain ⟨v1, a1, e1, s1, z1⟩ := open_strL Try.underlying32 Try.underlying9 (by kernel_rfl) f1
    have b1 := bulk_of z1
    obtain ⟨v2, a2, e2, s2, z2⟩ := open_strL Try.underlying32 Try.underlying9 (by kernel_rfl) f2
    have b2 := bulk_of z2
    obtain ⟨v3, a3, e3, s3, z3⟩ := open_strL Try.underlying32 Try.underlying9 (by kernel_rfl) f3
    have b3 := bulk_of z3
    simp at e0 e1 e2 e3
    refine ⟨(k0, a1, a2, a3), v1, v2, v3, by simp [e0, e1, e2, e3], s1, s2, s3, ?_⟩
    simp only [List.map_cons, List.map_nil, Rows.uptoBulk, Rows.uptoBulkAll]
    omega
set_option maxRecDepth 100000 in
theorem open_cks {fuel : Nat} {cs : List Value} {x : DataW H × List MemPlace} (h : DataW.trod enc Try.prog w base spare held fuel 22 cs = some x) :
    ∃ v l, cs = [v] ∧ FactCks w v l ∧ ∀ c ∈ l, c.2.1.flatten.length + c.2.1.length ≤ Rows.uptoBulk x.1 ∧ c.2.2.1.flatten.length + c.2.2.1.length ≤ Rows.uptoBulk x.1 ∧ c.2.2.2.flatten.length + c.2.2.2.length ≤ Rows.uptoBulk x.1 := by
  obtain ⟨v, css, n, rfl, hs, hl, hu⟩ := open_slNB Try.underlying22 ckCells h
  obtain ⟨l, hll, hlc⟩ : ∃ l : List CkS, l.length = css.length ∧ ∀ (i : Nat) (h : CkS), l[i]? = some h → ∃ vb vo vt, css[i]? = some [.int .i64 h.1, vb, vo, vt] ∧ FactStrs w vb h.2.1 ∧ FactStrs w vo h.2.2.1 ∧ FactStrs w vt h.2.2.2 ∧ h.2.1.flatten.length + h.2.1.length ≤ Rows.uptoBulk x.1 ∧ h.2.2.1.flatten.length + h.2.2.1.length ≤ Rows.uptoBulk x.1 ∧ h.2.2.2.flatten.length + h.2.2.2.length ≤ Rows.uptoBulk x.1 := by
    clear hs hl
    induction css with
    | nil => exact ⟨[], rfl, fun i h hi => by simp at hi⟩
    | cons c css ih =>
      obtain ⟨y, hy, hby⟩ := hu c (List.mem_cons_self ..)
      obtain ⟨z, vb, vo, vt, rfl, s1, s2, s3, b1, b2, b3⟩ := ck_of hy
      obtain ⟨l, hl, hc⟩ := ih fun u hu' => hu u (List.mem_cons_of_mem _ hu')
      refine ⟨z :: l, by simp [hl], fun i h hi => ?_⟩
      cases i with
      | zero =>
        simp at hi
        subst hi
        exact ⟨vb, vo, vt, rfl, s1, s2, s3, by omega, by omega, by omega⟩
      | succ i => exact hc i h (by simpa using hi)
  obtain ⟨ao, cap, rfl, hn, hcap, hc⟩ := hs
  refine ⟨_, l, rfl, ⟨⟨ao, cap, by rw [hll], fun h => List.eq_nil_of_length_eq_zero (by rw [hll, hn h]; rfl), by omega, fun a ha i h hi => ?_⟩, by rw [hll]; simpa using hl, fun h hh => ?_⟩, fun h hh => ?_⟩
  · obtain ⟨vb, vo, vt, hci, s1, s2, s3, _⟩ := hlc i h hi
    have := (hc a ha i _ hci).2
    exact ⟨vb, vo, vt, this 0 _ rfl, this 1 _ rfl, this 2 _ rfl, this 3 _ rfl, s1.1, s2.1, s3.1⟩
  · obtain ⟨i, hi⟩ := List.getElem?_of_mem hh
    obtain ⟨vb, vo, vt, _, s1, s2, s3, _⟩ := hlc i h hi
    exact ⟨s1.2.1, s2.2.1, s3.2.1⟩
  · obtain ⟨i, hi⟩ := List.getElem?_of_mem hh
    obtain ⟨vb, vo, vt, _, _, _, _, b⟩ := hlc i h hi
    exact b
end
end Go.Proofs.Ytfldheegebopoaa

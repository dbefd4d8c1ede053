/-
  Lists of texts of bytes: what a slice of slices shows, and one that grows by append.
-/
import Derived.Test.YtjnhgoedhggocaaDoorBase
import Derived.Test.YtjnhgoedhggocaaDoorLaw2
import Derived.Test.YtjnhgoedhggocaaDoorOpen
namespace Go.Proofs.YtjnhgoedhggocaaDoor
open Go.RowKit

theorem Tryd.infoSlB : (Tryd.prog.info? 22).map (fun i => (i.zero, i.size, i.bytes)) = some (some (.slice none 0 0), 1, 24) := by kernel_rfl

/-- 's[:n]', n of any kind. -/
theorem run_slice_toK {P : Program} {w : World} {v : Value} {cs : List Value} (t e : TypeId) {i : TypeInfo} (ht : P.underlying t = some (.slice e)) (hi : P.info? e = some i) (h : Sl w v cs) (n : Nat) (hn : n ≤ cs.length) (k : IntKind) :
    ∃ ao c, (∀ wx, (Instr.slice t v none (some (.int k n)) none).run P wx = .ok (.slice ao n c) wx) ∧ Sl w (.slice ao n c) (cs.take n) ∧ (∀ a, ao = some a → ∃ a' k' c', v = .slice (some a') k' c' ∧ a.block = a'.block) := by
  obtain ⟨ao, cap, rfl, hnone, hcap, hc⟩ := h
  refine ⟨ao, cap, fun wx => ?_, ⟨ao, cap, by rw [List.length_take, Nat.min_eq_left hn], fun h => by simp [hnone h], by rw [List.length_take]; omega, fun a ha j u hu => ?_⟩, fun a e => ?_⟩
  · have h2 : (n : Int) ≤ cap := by omega
    simp [Instr.slice, run_underlying ht, Instr.sliceBounds, run_sliceBound, sizeOf, typeInfo, hi, h2]
    intro _
    cases ao <;> simp [Addr.add]
  · rw [List.getElem?_take] at hu
    split at hu
    · exact hc a ha j u hu
    · cases hu
  · subst e
    exact ⟨a, _, _, rfl, rfl⟩

/-- A list of texts: each element shows its text; all but the list's own block may go on. -/
structure Rows2 (w : World) (vs : List Value) (bss : List (List UInt8)) : Prop where
  len : vs.length = bss.length
  each : ∀ (i : Nat) u bs, vs[i]? = some u → bss[i]? = some bs → Sl w u (Lib.byteCells bs)

theorem Rows2.old {w w' : World} {vs : List Value} {bss : List (List UInt8)} (h : Rows2 w vs bss) (hk : Below w.heap.size w w') : Rows2 w' vs bss := ⟨h.len, fun i u bs h1 h2 => Sl.old (h.each i u bs h1 h2) hk⟩
/-- What a slice of slices of bytes shows. -/
def SlB (w : World) (v : Value) (bss : List (List UInt8)) : Prop := ∃ vs, Sl w v vs ∧ Rows2 w vs bss
theorem SlB.form {w : World} {v : Value} {bss : List (List UInt8)} (h : SlB w v bss) : ∃ ao cap, v = .slice ao bss.length cap := by
  obtain ⟨vs, h1, h2⟩ := h
  obtain ⟨ao, cap, rfl⟩ := h1.form
  exact ⟨ao, cap, by rw [h2.len]⟩
theorem SlB.old {w w' : World} {v : Value} {bss : List (List UInt8)} (h : SlB w v bss) (hk : Below w.heap.size w w') : SlB w' v bss := by
  obtain ⟨vs, h1, h2⟩ := h
  exact ⟨vs, Sl.old h1 hk, h2.old hk⟩
theorem SlB.at {w : World} {ao : Option Addr} {n cap : Nat} {bss : List (List UInt8)} (h : SlB w (.slice ao n cap) bss) {i : Nat} (hi : i < bss.length) :
    ∃ a bx cx bs, ao = some a ∧ w.cell? (a.add i) = some (.slice bx bs.length cx) ∧ bss[i]? = some bs ∧ Sl w (.slice bx bs.length cx) (Lib.byteCells bs) := by
  obtain ⟨vs, h1, h2⟩ := h
  have hi' : i < vs.length := by rw [h2.len]; exact hi
  obtain ⟨a, c, hv, hc⟩ := h1.at hi'
  have hs := h2.each i _ _ (List.getElem?_eq_getElem hi') (List.getElem?_eq_getElem hi)
  obtain ⟨bx, cx, hform⟩ := hs.form
  rw [Lib.byteCells_length] at hform
  rw [hform] at hc hs
  exact ⟨a, bx, cx, bss[i], by simpa using (Value.slice.inj hv).1, hc, List.getElem?_eq_getElem hi, hs⟩

/-- A list that the call has made itself: its row, and what each element shows; no element lies in the row's own block. -/
structure OwnB (w : World) (base : Nat) (v : Value) (bss : List (List UInt8)) : Prop where
  ex : ∃ vs, w.ownsRow base 22 1 v bss.length vs ∧ Rows2 w vs bss ∧ ∀ (i : Nat) a n c, vs[i]? = some (.slice (some a) n c) → some a.block ≠ v.ownBlock ∧ a.block < w.heap.size

theorem OwnB.nil (w : World) (base : Nat) : OwnB w base (.slice none 0 0) [] := ⟨[], World.ownsRow_nil _ _ _ _, ⟨rfl, fun i u bs h => by simp at h⟩, fun i a n c h => by simp at h⟩
theorem OwnB.slB {w : World} {base : Nat} {v : Value} {bss : List (List UInt8)} (h : OwnB w base v bss) : SlB w v bss := by
  obtain ⟨vs, h1, h2, _⟩ := h.ex
  exact ⟨vs, Sl.ofOwns h1, h2⟩
theorem OwnB.form {w : World} {base : Nat} {v : Value} {bss : List (List UInt8)} (h : OwnB w base v bss) : ∃ ao cap, v = .slice ao bss.length cap := by
  obtain ⟨vs, h1, h2, _⟩ := h.ex
  exact owns_form h1
theorem OwnB.old {w w' : World} {base : Nat} {v : Value} {bss : List (List UInt8)} (h : OwnB w base v bss) (hk : Below w.heap.size w w') : OwnB w' base v bss := by
  obtain ⟨vs, h1, h2, h3⟩ := h.ex
  refine ⟨vs, ?_, h2.old hk, fun i a n c e => ⟨(h3 i a n c e).1, Nat.lt_of_lt_of_le (h3 i a n c e).2 hk.size⟩⟩
  refine ⟨h1.1, ?_⟩
  rcases h1.2 with hn | ⟨g, cap, cur, rfl, hb, hg, rest⟩
  · exact .inl hn
  · exact .inr ⟨g, cap, cur, rfl, hb, (hk.block g (lt_of_block hg)).trans hg, rest⟩

/-- One text more: behind an append of the slice that shows it. -/
theorem OwnB.push {w wx w1 : World} {base : Nat} {v v1 u : Value} {vs : List Value} {bss : List (List UInt8)} {bs : List UInt8} (h2 : Rows2 w vs bss) (h3 : ∀ (i : Nat) a n c, vs[i]? = some (.slice (some a) n c) → some a.block ≠ v.ownBlock ∧ a.block < w.heap.size)
    (hu : Sl w u (Lib.byteCells bs)) (hue : ∀ a n c, u = .slice (some a) n c → some a.block ≠ v.ownBlock ∧ a.block < w.heap.size)
    (hbx : Below w.heap.size w wx) (ho : w1.ownsRow base 22 1 v1 (bss.length + 1) (vs ++ [u])) (hg : wx.grownBy w1 v.ownBlock) (hat : v1.ownBlock = v.ownBlock ∨ v1.ownBlock = some wx.heap.size) :
    OwnB w1 base v1 (bss ++ [bs]) := by
  have hz := hbx.size
  have key : ∀ x cs, Sl w x cs → (∀ a n c, x = .slice (some a) n c → some a.block ≠ v.ownBlock ∧ a.block < w.heap.size) → Sl w1 x cs := by
    intro x cs hs hne
    refine hs.kept fun a n c e hlt => ?_
    rw [hg.block a.block (by omega) (fun e' => (hne a n c e).1 e'), hbx.block a.block hlt]
  have hgs := hg.size
  have hlv : vs.length = bss.length := h2.len
  refine ⟨vs ++ [u], by rw [List.length_append]; exact ho, ⟨by simp [hlv], fun i x cs hx hcs => ?_⟩, fun i a n c e => ?_⟩
  · by_cases hi : i < vs.length
    · rw [List.getElem?_append_left hi] at hx
      rw [List.getElem?_append_left (by omega)] at hcs
      exact key _ _ (h2.each i x cs hx hcs) (fun a n c e => h3 i a n c (e ▸ hx))
    · rw [List.getElem?_append_right (by omega)] at hx
      rw [List.getElem?_append_right (by omega)] at hcs
      have : i - vs.length = 0 := by
        have := (List.getElem?_eq_some_iff.1 hx).1
        simp at this
        omega
      rw [this] at hx
      rw [show i - bss.length = 0 by omega] at hcs
      obtain rfl : u = x := by simpa using hx
      obtain rfl : bs = cs := by simpa using hcs
      exact key _ _ hu hue
  · have hq : some a.block ≠ v.ownBlock ∧ a.block < w.heap.size := by
      by_cases hi : i < vs.length
      · rw [List.getElem?_append_left hi] at e
        exact h3 i a n c e
      · rw [List.getElem?_append_right (by omega)] at e
        have : i - vs.length = 0 := by
          have := (List.getElem?_eq_some_iff.1 e).1
          simp at this
          omega
        rw [this] at e
        exact hue a n c (by simpa using e)
    refine ⟨?_, by omega⟩
    rcases hat with e' | e'
    · rw [e']; exact hq.1
    · rw [e']; simp; omega

/-- A list of texts that came in. -/
def FactSlB (w : World) (v : Value) (bss : List (List UInt8)) : Prop := SlB w v bss ∧ bss.length ≤ maxLen ∧ ∀ x ∈ bss, x.length ≤ maxLen
section
variable {H : Type} {enc : TypeId × Value → H} {P : Program} {w : World} {base : Nat} {spare : Nat → Bool} {held : Bool}
theorem open_slB {t e b : TypeId} {fuel : Nat} {cs : List Value} {x : DataW H × List MemPlace} (ht : P.underlying t = some (.slice e)) (he : P.underlying e = some (.slice b)) (hb : P.underlying b = some (.int .u8)) (hc : P.cellsOf e = 1) (hcb : P.cellsOf b = 1) (h : DataW.trod enc P w base spare held fuel t cs = some x) :
    ∃ v bss, cs = [v] ∧ FactSlB w v bss := by
  obtain ⟨v, vs, n, rfl, hs, hl, hu⟩ := open_sl ht hc h
  have key : ∀ u ∈ vs, ∃ bs : List UInt8, Sl w u (Lib.byteCells bs) ∧ bs.length ≤ maxLen := by
    intro u hu'
    obtain ⟨y, hy⟩ := hu u hu'
    obtain ⟨v', bs, he', h1, h2⟩ := open_bytes he hb hcb hy
    obtain rfl : u = v' := by simpa using he'
    exact ⟨bs, h1, h2⟩
  obtain ⟨bss, hbl, hbs⟩ := map_of vs key
  refine ⟨v, bss, rfl, ⟨vs, hs, hbl.symm, fun i u bs h1 h2 => ?_⟩, by omega, fun bs hbs' => ?_⟩
  · obtain ⟨x, hx, hx1, _⟩ := hbs i u h1
    rw [hx] at h2
    obtain rfl : x = bs := by simpa using h2
    exact hx1
  · obtain ⟨i, hi⟩ := List.mem_iff_getElem?.1 hbs'
    have hlt := (List.getElem?_eq_some_iff.1 hi).1
    obtain ⟨x, hx, _, hx2⟩ := hbs i _ (List.getElem?_eq_getElem (by omega))
    rw [hx] at hi
    obtain rfl : x = bs := by simpa using hi
    exact hx2
end
end Go.Proofs.YtjnhgoedhggocaaDoor

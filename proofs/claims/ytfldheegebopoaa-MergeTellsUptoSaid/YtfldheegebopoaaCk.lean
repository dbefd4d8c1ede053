/-
  Lists of chunks in memory.
-/
import Derived.Test.YtfldheegebopoaaHelpS
import Derived.Test.YtfldheegebopoaaScG
import Derived.Test.YtfldheegebopoaaQuiet
import Derived.Deep.LoopGhost
namespace Go.Proofs.Ytfldheegebopoaa
open Go.RowKit

abbrev CkS := Ck (List UInt8)
/-- A list of chunks is shown. -/
def SlC (w : World) (v : Value) (cs : List CkS) : Prop :=
  ∃ ao cap, v = .slice ao cs.length cap ∧ (ao = none → cs = []) ∧ cs.length ≤ cap ∧ ∀ a, ao = some a → ∀ i c, cs[i]? = some c → ∃ vb vo vt, w.cell? (a.add (i * 4)) = some (.int .i64 c.1) ∧ w.cell? (a.add (i * 4 + 1)) = some vb ∧ w.cell? (a.add (i * 4 + 2)) = some vo ∧ w.cell? (a.add (i * 4 + 3)) = some vt ∧
    Sl w vb (strCells c.2.1) ∧ Sl w vo (strCells c.2.2.1) ∧ Sl w vt (strCells c.2.2.2)
theorem SlC.nil (w : World) : SlC w (.slice none 0 0) [] := ⟨none, 0, rfl, fun _ => rfl, Nat.le_refl _, fun a h => by cases h⟩
theorem SlC.form {w : World} {v : Value} {cs : List CkS} (h : SlC w v cs) : ∃ ao cap, v = .slice ao cs.length cap := by
  obtain ⟨ao, cap, rfl, _⟩ := h
  exact ⟨ao, cap, rfl⟩
theorem SlC.old {w w' : World} {v : Value} {cs : List CkS} (h : SlC w v cs) (hk : Below w.heap.size w w') : SlC w' v cs := by
  obtain ⟨ao, cap, rfl, hn, hcap, hc⟩ := h
  refine ⟨ao, cap, rfl, hn, hcap, fun a ha i c hi => ?_⟩
  obtain ⟨vb, vo, vt, h1, h2, h3, h4, h5, h6, h7⟩ := hc a ha i c hi
  have k : ∀ {p : Addr} {u : Value}, w.cell? p = some u → w'.cell? p = some u := fun {p u} hp => (World.cell?_of_block (w := w) (hk.block _ (World.block_lt_of_cell? w _ hp))).trans hp
  exact ⟨vb, vo, vt, k h1, k h2, k h3, k h4, h5.old hk, h6.old hk, h7.old hk⟩
theorem SlC.at' {w : World} {ao : Option Addr} {n cap : Nat} {cs : List CkS} (h : SlC w (.slice ao n cap) cs) {i : Nat} (hi : i < cs.length) :
    ∃ b o k xb xo xt vb vo vt, ao = some ⟨b, o, none⟩ ∧ w.cell? ⟨b, o + i * 4, none⟩ = some (.int .i64 k) ∧ w.cell? ⟨b, o + i * 4 + 1, none⟩ = some vb ∧ w.cell? ⟨b, o + i * 4 + 2, none⟩ = some vo ∧ w.cell? ⟨b, o + i * 4 + 3, none⟩ = some vt ∧
      Sl w vb (strCells xb) ∧ Sl w vo (strCells xo) ∧ Sl w vt (strCells xt) ∧ cs[i]? = some (k, xb, xo, xt) := by
  obtain ⟨ao', cap', hv, hn, _, hc⟩ := h
  obtain ⟨rfl, _, _⟩ := Value.slice.inj hv
  cases ao with
  | none => rw [hn rfl] at hi; cases hi
  | some a =>
    obtain ⟨b, o, sp⟩ := a
    obtain ⟨vb, vo, vt, h1, h2, h3, h4, h5, h6, h7⟩ := hc _ rfl i _ (List.getElem?_eq_getElem hi)
    obtain ⟨_, _, _, h0, _⟩ := hc _ rfl 0 _ (List.getElem?_eq_getElem (by omega))
    rw [Nat.zero_mul, show (⟨b, o, sp⟩ : Addr).add 0 = ⟨b, o, sp⟩ from rfl] at h0
    have hsp : sp = none := World.cell?_spot h0
    subst hsp
    have hadd : ∀ j, (⟨b, o, none⟩ : Addr).add j = ⟨b, o + j, none⟩ := fun j => Addr.add_lit ..
    rw [hadd] at h1 h2 h3 h4
    rw [← Nat.add_assoc] at h2 h3 h4
    exact ⟨b, o, _, _, _, _, vb, vo, vt, rfl, h1, h2, h3, h4, h5, h6, h7, List.getElem?_eq_getElem hi⟩
/-- none of them has too many lines -/
def ckFew (cs : List CkS) : Prop := ∀ c ∈ cs, c.2.1.length ≤ 4000000 ∧ c.2.2.1.length ≤ 4000000 ∧ c.2.2.2.length ≤ 4000000
theorem ckFew.at {cs : List CkS} (h : ckFew cs) {i : Nat} {k : Int} {xb xo xt : List (List UInt8)} (hi : cs[i]? = some (k, xb, xo, xt)) : xb.length ≤ 4000000 ∧ xo.length ≤ 4000000 ∧ xt.length ≤ 4000000 := h _ (List.mem_of_getElem? hi)
theorem flat_len {α β : Type} {f : α → List β} {l : List α} {c : α} (h : c ∈ l) : (f c).length ≤ (l.flatMap f).length := by
  induction l with
  | nil => cases h
  | cons x l ih =>
    rw [List.flatMap_cons, List.length_append]
    rcases List.mem_cons.1 h with rfl | h
    · omega
    · have := ih h; omega
theorem chunks_few {a b c : List (List UInt8)} (ha : a.length ≤ 1000) (hb : b.length ≤ 1000) (hc : c.length ≤ 1000) : ckFew (chunksS a b c) ∧ (chunksS a b c).length ≤ 3000 ∧ (chunksS a b c).length ≤ a.length + b.length + c.length := by
  obtain ⟨h1, h2, h3, h6⟩ := chunks_sides a b c
  refine ⟨fun k hk => ?_, by omega, h6⟩
  have e1 := flat_len (f := fun k : CkS => k.2.1) hk
  have e2 := flat_len (f := fun k : CkS => k.2.2.1) hk
  have e3 := flat_len (f := fun k : CkS => k.2.2.2) hk
  rw [h1] at e1
  rw [h2] at e2
  rw [h3] at e3
  omega
end Go.Proofs.Ytfldheegebopoaa

/-
  The document's own Distance (rickref05).
-/
import Derived.Test.YtbcmecclaofmgaaRdfS
namespace Go.Proofs.Ytbcmecclaofmgaa
open Go.RowKit

theorem OwnE.le {w : World} {base : Nat} {v : Value} {es : List (Int × List UInt8)} (h : OwnE w base v es) : es.length ≤ maxLen := by
  rcases h.2 with ⟨_, h0⟩ | ⟨g, cap, cur, _, _, _, r3, r4, _⟩
  · rw [h0]; exact Nat.zero_le _
  · exact Nat.le_trans r3 r4
theorem distS_snoc (l : List (Int × List UInt8)) (i : Nat) (e : Int × List UInt8) (h : l[i]? = some e) : distS (l.take (i + 1)) = if e.1 = 1 then distS (l.take i) else distS (l.take i) + 1 := by
  rw [take_snoc h, distS_append, distS_cons]
  split <;> rfl
theorem distS_le (l : List (Int × List UInt8)) : distS l ≤ l.length := List.length_filter_le _ _

section
set_option maxRecDepth 100000
set_option maxHeartbeats 2000000
theorem RDistance_any (va vb : Value) (a b : List (List UInt8)) (w : World) (ha : Sl w va (strCells a)) (hb : Sl w vb (strCells b)) (hal : a.length ≤ 1000000) (hbl : b.length ≤ 1000000) :
    Calls Try.prog 26 #[va, vb] w fun e w' => e = .returned (.int .i64 (distS (scriptS a b) : Nat)) ∧ Below w.heap.size w w' := by
  have hR := RScript_any va vb a b w ha hb hal hbl
  obtain ⟨es, hes⟩ : ∃ es, scriptS a b = es := ⟨_, rfl⟩
  rw [hes] at hR ⊢
  have HR := hid hR
  clear hR hes
  go_enter Try.func26, Try.ntmps26
  go_wp2_with fail
  refine HR.out.mono ?_
  rintro e w1 ⟨l, rfl, hO, hb1⟩
  have hle := hO.le
  have hS := hO.slE
  obtain ⟨ao, cap, rfl⟩ := hS.form
  have hL : es.length ≤ 9223372036854775807 := by unfold maxLen at hle; omega
  have HL := hid hL
  have hz1 := hb1.size
  clear hO hle hL
  go_wp2_with fail
  go_loopg [5, 7] es.length (fun g n i wr => ∃ k : Nat, k ≤ es.length ∧ g = es.length - k ∧ i = .int .i64 k ∧ n = .int .i64 (distS (es.take k) : Nat) ∧ Below w.heap.size w wr ∧ Below w1.heap.size w1 wr)
  case atStart => exact ⟨0, Nat.zero_le _, rfl, rfl, rfl, hb1, Below.refl _ _⟩
  case round =>
    obtain ⟨k, hk, rfl, rfl, rfl, hbel, hbel1⟩ := hrel
    have k0 : (0 : Int) ≤ (k : Int) := Int.natCast_nonneg _
    by_cases hlt : k < es.length
    · obtain ⟨b, o, c, x, rfl, hc, hd, he⟩ := (hS.old hbel1).at' (i := k) hlt
      have k1 : (k : Int) < (es.length : Int) := by omega
      have kw : IntKind.i64.wrap ((k : Int) + 1) = (k : Int) + 1 := IntWalk.i64_in _ (by have := HL.out; omega)
      have hs := distS_snoc es k _ he
      have hdl := distS_le (es.take k)
      rw [List.length_take] at hdl
      obtain ⟨D, hD⟩ : ∃ D, distS (es.take k) = D := ⟨_, rfl⟩
      rw [hD] at hs hdl ⊢
      have dw : IntKind.i64.wrap ((D : Int) + 1) = (D : Int) + 1 := IntWalk.i64_in _ (by have := HL.out; omega)
      by_cases h1 : c = 1
      · subst h1
        have HS := hid (show distS (es.take (k + 1)) = D by rw [hs, if_pos rfl])
        clear hs hD hd he hdl
        go_wp2
        go_roundg (es.length - (k + 1))
        case measure => omega
        case rel => exact ⟨k + 1, by omega, rfl, rfl, by rw [HS.out], hbel, hbel1⟩
      · have hcn : (c != 1) = true := by simpa using h1
        have hc1 : (c == 1) = false := by simpa using h1
        have HS := hid (show distS (es.take (k + 1)) = D + 1 by rw [hs, if_neg h1])
        clear hs hD hd he hdl
        go_wp2
        go_roundg (es.length - (k + 1))
        case measure => omega
        case rel => exact ⟨k + 1, by omega, rfl, rfl, by rw [HS.out]; rfl, hbel, hbel1⟩
    · obtain rfl : k = es.length := by omega
      rw [List.take_length]
      go_wp2
      go_ret
      exact ⟨rfl, hbel⟩
end
end Go.Proofs.Ytbcmecclaofmgaa

/-
  MergeClashes: a line that both changed, unlike, stands between marks; what stands about it stays.
-/
import Derived.Test.YtfldheegebopoaaG3
import Derived.Test.YtfldheegebopoaaLit
import Derived.Test.YtfldheegebopoaaStr
import Derived.Test.YtfldheegebopoaaOpenS
import Derived.Deep.LoopGhost
import Derived.ProofKit
import Derived.OpenShut
namespace Go.Proofs.Ytfldheegebopoaa.mergeClashes
open Go.ChangeShapes Go.WideShapes Go.ChangeAt Go.RowKit

/-- the line of a number behind a letter -/
def numLine (c : UInt8) (i : Nat) : Tx := [c, UInt8.ofNat (48 + i), 10]
def numLines (c : UInt8) (n : Nat) : List Tx := (List.range n).map (numLine c)
theorem numLines_succ (c : UInt8) (n : Nat) : (numLines c (n + 1)).flatten = (numLines c n).flatten ++ [c] ++ [UInt8.ofNat (48 + n)] ++ [10] := by
  simp [numLines, List.range_succ, numLine]
theorem numLines_len (c : UInt8) (n : Nat) : (numLines c n).length = n ∧ (numLines c n).flatten.length = n * 3 := by
  induction n with
  | zero => exact ⟨rfl, rfl⟩
  | succ n ih =>
    refine ⟨by simp [numLines], ?_⟩
    rw [numLines_succ]
    simp [ih.2]
    omega
/-- a text on one line, behind a letter -/
def theLine (c : UInt8) (s : Tx) : Tx := c :: (s.filter (· != 10) ++ [10])
theorem theLine_len (c : UInt8) (s : Tx) : (theLine c s).length ≤ s.length + 2 := by
  have := List.length_filter_le (· != 10) s
  simp [theLine]
  omega
section
set_option maxRecDepth 100000
set_option maxHeartbeats 4000000
theorem DDigit_any (i : Nat) (hi : i < 10) (w : World) : Calls Try.prog 24 #[.int .i64 i] w fun e w' => e = .returned (strV [UInt8.ofNat (48 + i)]) ∧ Below w.heap.size w w' := by
  have hb := fun o => (Below.refl _ w).alloc (Nat.le_refl w.heap.size) o
  have hcv := fun (c : UInt8) => run_string_of (P := Try.prog) (w := w.alloc (.cells #[.int .u8 (c.toNat : Int)] 5)) (v := .slice (some ⟨w.heap.size, 0, none⟩) 1 1) (bs := [c]) 68 9 5 Try.underlying68 Try.underlying5 Try.underlying9 (Sl.ofBlock (cs := #[.int .u8 (c.toNat : Int)]) (heap_alloc_new w _))
  unfold strV
  by_cases h0 : i = 0
  · subst h0
    have hc := hcv 48
    have e : ((UInt8.toNat 48 : Nat) : Int) = 48 := rfl
    rw [e] at hc
    clear hcv
    go_enter Try.func24, Try.ntmps24
    go_wp2_with fail
    go_ret
    exact ⟨rfl, hb _⟩
  by_cases h1 : i = 1
  · subst h1
    have hc := hcv 49
    have e : ((UInt8.toNat 49 : Nat) : Int) = 49 := rfl
    rw [e] at hc
    clear hcv
    go_enter Try.func24, Try.ntmps24
    go_wp2_with fail
    go_ret
    exact ⟨rfl, hb _⟩
  by_cases h2 : i = 2
  · subst h2
    have hc := hcv 50
    have e : ((UInt8.toNat 50 : Nat) : Int) = 50 := rfl
    rw [e] at hc
    clear hcv
    go_enter Try.func24, Try.ntmps24
    go_wp2_with fail
    go_ret
    exact ⟨rfl, hb _⟩
  by_cases h3 : i = 3
  · subst h3
    have hc := hcv 51
    have e : ((UInt8.toNat 51 : Nat) : Int) = 51 := rfl
    rw [e] at hc
    clear hcv
    go_enter Try.func24, Try.ntmps24
    go_wp2_with fail
    go_ret
    exact ⟨rfl, hb _⟩
  by_cases h4 : i = 4
  · subst h4
    have hc := hcv 52
    have e : ((UInt8.toNat 52 : Nat) : Int) = 52 := rfl
    rw [e] at hc
    clear hcv
    go_enter Try.func24, Try.ntmps24
    go_wp2_with fail
    go_ret
    exact ⟨rfl, hb _⟩
  by_cases h5 : i = 5
  · subst h5
    have hc := hcv 53
    have e : ((UInt8.toNat 53 : Nat) : Int) = 53 := rfl
    rw [e] at hc
    clear hcv
    go_enter Try.func24, Try.ntmps24
    go_wp2_with fail
    go_ret
    exact ⟨rfl, hb _⟩
  by_cases h6 : i = 6
  · subst h6
    have hc := hcv 54
    have e : ((UInt8.toNat 54 : Nat) : Int) = 54 := rfl
    rw [e] at hc
    clear hcv
    go_enter Try.func24, Try.ntmps24
    go_wp2_with fail
    go_ret
    exact ⟨rfl, hb _⟩
  by_cases h7 : i = 7
  · subst h7
    have hc := hcv 55
    have e : ((UInt8.toNat 55 : Nat) : Int) = 55 := rfl
    rw [e] at hc
    clear hcv
    go_enter Try.func24, Try.ntmps24
    go_wp2_with fail
    go_ret
    exact ⟨rfl, hb _⟩
  by_cases h8 : i = 8
  · subst h8
    have hc := hcv 56
    have e : ((UInt8.toNat 56 : Nat) : Int) = 56 := rfl
    rw [e] at hc
    clear hcv
    go_enter Try.func24, Try.ntmps24
    go_wp2_with fail
    go_ret
    exact ⟨rfl, hb _⟩
  by_cases h9 : i = 9
  · subst h9
    have hc := hcv 57
    have e : ((UInt8.toNat 57 : Nat) : Int) = 57 := rfl
    rw [e] at hc
    clear hcv
    go_enter Try.func24, Try.ntmps24
    go_wp2_with fail
    go_ret
    exact ⟨rfl, hb _⟩
  omega
theorem DLine_any (s m : Tx) (w : World) (hs : s.length ≤ 400) (hm : m.length ≤ 400) : Calls Try.prog 25 #[strV s, strV m] w fun e w' => e = .returned (strV (m ++ (s.filter (· != 10) ++ [10]))) ∧ w = w' := by
  have HS := hid (And.intro hs hm)
  clear hs hm
  unfold strV
  go_enter Try.func25, Try.ntmps25
  go_wp2_with fail
  go_loopg [5, 6] s.length (fun g o i wx => ∃ k : Nat, k ≤ s.length ∧ s.length - k = g ∧ i = .int .i64 k ∧ o = .string ⟨(m ++ (s.take k).filter (· != 10)).toArray⟩ ∧ wx = w)
  case atStart => exact ⟨0, Nat.zero_le _, rfl, rfl, by simp, rfl⟩
  case round =>
    obtain ⟨k, hk, rfl, rfl, rfl, rfl⟩ := hrel
    have k0 : (0 : Int) ≤ (k : Int) := Int.natCast_nonneg _
    have hfl := List.length_filter_le (· != 10) (s.take k)
    rw [List.length_take] at hfl
    have hh := HS.out
    by_cases hlt : k < s.length
    · have k1 : (k : Int) < (s.length : Int) := by omega
      have kw : IntKind.i64.wrap ((k : Int) + 1) = (k : Int) + 1 := IntWalk.i64_in _ (by omega)
      obtain ⟨c, hc⟩ : ∃ c, s[k]? = some c := ⟨s[k], List.getElem?_eq_getElem hlt⟩
      have hix := run_str_at (P := Try.prog) 9 Try.underlying9 hc
      have hsl := run_str_mid (P := Try.prog) 9 Try.underlying9 s k (k + 1) (by omega) (by omega)
      have hd : (s.drop k).take (k + 1 - k) = [c] := by
        obtain ⟨q, e⟩ := List.getElem?_eq_some_iff.1 hc
        rw [List.drop_eq_getElem_cons q, e, show k + 1 - k = 1 by omega]
        rfl
      rw [hd, show (((k + 1 : Nat) : Int)) = (k : Int) + 1 by omega] at hsl
      have ht : (s.take (k + 1)).filter (· != 10) = (s.take k).filter (· != 10) ++ [c].filter (· != 10) := by
        rw [List.take_add_one, hc, List.filter_append]; rfl
      have hadd := run_str_add (P := Try.prog) (m ++ (s.take k).filter (· != 10)) [c] (by simp only [List.length_append, List.length_singleton]; omega)
      obtain ⟨X, hX⟩ : ∃ X, m ++ (s.take k).filter (· != 10) = X := ⟨_, rfl⟩
      have hY : m ++ (s.take (k + 1)).filter (· != 10) = X ++ [c].filter (· != 10) := by rw [ht, ← hX, List.append_assoc]
      rw [hX] at hadd ⊢
      by_cases h10 : c = 10
      · have hb : (((c.toNat : Nat) : Int) != 10) = false := by rw [h10]; rfl
        have HY := hid (show m ++ (s.take (k + 1)).filter (· != 10) = X by rw [hY, h10]; simp)
        clear hfl hh hc hd ht hX hY h10
        go_wp2_with fail
        go_roundg (s.length - (k + 1))
        case measure => omega
        case rel => exact ⟨k + 1, by omega, rfl, by go_num, by rw [HY.out], rfl⟩
      · have hb : (((c.toNat : Nat) : Int) != 10) = true := by
          simp
          intro h
          exact h10 (UInt8.toNat_inj.1 (by rw [show UInt8.toNat 10 = 10 from rfl]; omega))
        have HY := hid (show m ++ (s.take (k + 1)).filter (· != 10) = X ++ [c] by rw [hY]; simp [h10])
        clear hfl hh hc hd ht hX hY h10
        go_wp2_with fail
        go_roundg (s.length - (k + 1))
        case measure => omega
        case rel => exact ⟨k + 1, by omega, rfl, by go_num, by rw [HY.out], rfl⟩
    · obtain rfl : k = s.length := by omega
      have hneg : ¬ (s.length : Int) < (s.length : Int) := by omega
      rw [List.take_length] at hfl ⊢
      have hadd := run_str_add (P := Try.prog) (m ++ s.filter (· != 10)) [10] (by simp only [List.length_append, List.length_singleton]; omega)
      clear hfl hh
      go_wp2_with fail
      go_ret
      exact ⟨rfl, rfl⟩
theorem numLines_line (c : UInt8) (n : Nat) (hc : c ≠ 10) (hn : n ≤ 10) : ∀ x ∈ numLines c n, Line x ∧ x.head? = some c := by
  intro x hx
  obtain ⟨i, hi, rfl⟩ := List.mem_map.1 hx
  have hi := List.mem_range.1 hi
  refine ⟨⟨[c, UInt8.ofNat (48 + i)], ?_, rfl⟩, rfl⟩
  intro b hb
  simp only [List.mem_cons, List.not_mem_nil, or_false] at hb
  rcases hb with rfl | rfl
  · exact hc
  · rcases (show i = 0 ∨ i = 1 ∨ i = 2 ∨ i = 3 ∨ i = 4 ∨ i = 5 ∨ i = 6 ∨ i = 7 ∨ i = 8 ∨ i = 9 by omega) with rfl | rfl | rfl | rfl | rfl | rfl | rfl | rfl | rfl | rfl <;> decide
theorem theLine_line (c : UInt8) (s : Tx) (hc : c ≠ 10) : Line (theLine c s) ∧ (theLine c s).head? = some c := by
  refine ⟨⟨c :: s.filter (· != 10), ?_, rfl⟩, rfl⟩
  intro b hb
  rcases List.mem_cons.1 hb with rfl | hb
  · exact hc
  · have := (List.mem_filter.1 hb).2
    simpa using this
theorem clash (n m : Nat) (hn : n ≤ 10) (hm : m ≤ 10) (b o u : Tx) (R : Tx) (hR : (numLines 104 n).flatten ++ mk0 ++ theLine 111 o ++ mk1 ++ theLine 98 b ++ mk2 ++ theLine 117 u ++ mk3 ++ (numLines 116 m).flatten = R) :
    mergeS ((numLines 104 n).flatten ++ theLine 98 b ++ (numLines 116 m).flatten) ((numLines 104 n).flatten ++ theLine 111 o ++ (numLines 116 m).flatten) ((numLines 104 n).flatten ++ theLine 117 u ++ (numLines 116 m).flatten) = (R, false) := by
  subst hR
  have ne : ∀ (c d : UInt8) (x y : Tx), c ≠ d → x.head? = some c → y.head? = some d → x ≠ y := fun c d x y h h1 h2 e => by
    subst e
    rw [h1] at h2
    exact h (Option.some.inj h2)
  obtain ⟨lb, eb⟩ := theLine_line 98 b (by decide)
  obtain ⟨lo, eo⟩ := theLine_line 111 o (by decide)
  obtain ⟨lu, eu⟩ := theLine_line 117 u (by decide)
  have h := merge_clash (H := numLines 104 n) (T := numLines 116 m) (x := theLine 98 b) (y := theLine 111 o) (z := theLine 117 u) lb lo lu (fun x hx => (numLines_line 104 n (by decide) hn x hx).1) (fun x hx => (numLines_line 116 m (by decide) hm x hx).1)
    (ne _ _ _ _ (by decide) eb eo) (ne _ _ _ _ (by decide) eb eu) (ne _ _ _ _ (by decide) eo eu)
    (fun hy => ne _ _ _ _ (by decide) eo (numLines_line 116 m (by decide) hm _ hy).2 rfl) (fun hy => ne _ _ _ _ (by decide) eu (numLines_line 116 m (by decide) hm _ hy).2 rfl)
    (by rw [(numLines_len 104 n).1, (numLines_len 116 m).1]; omega)
  have fl : ∀ x : Tx, (numLines 104 n ++ x :: numLines 116 m).flatten = (numLines 104 n).flatten ++ x ++ (numLines 116 m).flatten := fun x => by simp
  rw [fl, fl, fl] at h
  exact h
theorem walk (v0 : Value) (l0 : List Tx) (v1 : Value) (l1 : List Tx) (b o u : Tx) (w : World) (f0 : FactStrs w v0 l0) (f1 : FactStrs w v1 l1) (_hb : b.length ≤ maxLen) (_ho : o.length ≤ maxLen) (_hu : u.length ≤ maxLen) :
    Calls Try.prog 7 #[v0, v1, strV b, strV o, strV u] w fun e w' => e = .returned (.bool true) ∧ Below w.heap.size w w' := by
  obtain ⟨ao, ca, rfl⟩ := f0.1.form
  obtain ⟨bo, cb, rfl⟩ := f1.1.form
  rw [strCells_length, strCells_length]
  clear f0 f1 _hb _ho _hu
  obtain ⟨n, hn⟩ : ∃ n, l0.length = n := ⟨_, rfl⟩
  obtain ⟨m, hm⟩ : ∃ m, l1.length = m := ⟨_, rfl⟩
  rw [hn, hm]
  clear hn hm l0 l1
  by_cases hn : n ≤ 10
  · have n1 : decide (10 < (n : Int)) = false := decide_eq_false (by omega)
    have n2 : decide (10 < n) = false := decide_eq_false (by omega)
    have n3 : ¬ (10 : Int) < (n : Int) := by omega
    by_cases hm : m ≤ 10
    · have m1 : decide (10 < (m : Int)) = false := decide_eq_false (by omega)
      have m2 : decide (10 < m) = false := decide_eq_false (by omega)
      have m3 : ¬ (10 : Int) < (m : Int) := by omega
      have hFEW := mfew_any _ [b, o, u] (w.alloc (.cells #[.string ⟨b.toArray⟩, .string ⟨o.toArray⟩, .string ⟨u.toArray⟩] 9)) (litS [b, o, u] (heap_alloc_new w _)) (by simp)
      have hB0 : Below w.heap.size w (w.alloc (.cells #[.string ⟨b.toArray⟩, .string ⟨o.toArray⟩, .string ⟨u.toArray⟩] 9)) := (Below.refl _ w).alloc (Nat.le_refl _) _
      by_cases hf : b.length ≤ 400 ∧ o.length ≤ 400 ∧ u.length ≤ 400
      · rw [show ([b, o, u].all fun x => decide (x.length ≤ 400)) = true by simp [hf.1, hf.2.1, hf.2.2]] at hFEW
        have HFEW := hid hFEW
        have HNM := hid (And.intro hn hm)
        have HF := hid hf
        have HB0 := hid hB0
        clear hf hFEW hB0 hn hm
        unfold strV
        go_enter Try.func7, Try.ntmps7
        go_wp2_with fail
        refine HFEW.out.mono ?_
        rintro e w1 ⟨rfl, rfl⟩
        have hB0 := HB0.out
        generalize w.alloc (.cells #[.string ⟨b.toArray⟩, .string ⟨o.toArray⟩, .string ⟨u.toArray⟩] 9) = x0 at hB0 ⊢
        clear HFEW HB0 n1 n2 n3 m1 m2 m3
        have HB0 := hid hB0
        clear hB0
        go_wp2_with fail
        go_loopg [11, 13] n (fun g o i wx => ∃ k : Nat, k ≤ n ∧ n - k = g ∧ i = .int .i64 k ∧ o = .string ⟨((numLines 104 k).flatten).toArray⟩ ∧ Below x0.heap.size x0 wx)
        case atStart => exact ⟨0, Nat.zero_le _, rfl, rfl, rfl, Below.refl _ _⟩
        case round =>
          obtain ⟨k, hk, rfl, rfl, rfl, hbx⟩ := hrel
          have hzx := hbx.size
          have k0 : (0 : Int) ≤ (k : Int) := Int.natCast_nonneg _
          have hnm := HNM.out
          by_cases hlt : k < n
          · have k1 : (k : Int) < (n : Int) := by omega
            have kw : IntKind.i64.wrap ((k : Int) + 1) = (k : Int) + 1 := IntWalk.i64_in _ (by omega)
            have hll := (numLines_len 104 k).2
            have hsucc := numLines_succ 104 k
            have HD := hid (DDigit_any k (by omega) wr)
            obtain ⟨X, hX⟩ : ∃ X, (numLines 104 k).flatten = X := ⟨_, rfl⟩
            obtain ⟨d, hd⟩ : ∃ d, UInt8.ofNat (48 + k) = d := ⟨_, rfl⟩
            rw [hX] at hll hsucc ⊢
            rw [hd] at hsucc HD
            have add1 := run_str_add (P := Try.prog) X [104] (by simp only [List.length_singleton]; omega)
            have add2 := run_str_add (P := Try.prog) (X ++ [104]) [d] (by simp only [List.length_append, List.length_singleton]; omega)
            have add3 := run_str_add (P := Try.prog) (X ++ [104] ++ [d]) [10] (by simp only [List.length_append, List.length_singleton]; omega)
            rw [← hsucc] at add3
            obtain ⟨X1, hX1⟩ : ∃ z, X ++ [104] = z := ⟨_, rfl⟩
            rw [hX1] at add1 add2 add3
            obtain ⟨X2, hX2⟩ : ∃ z, X1 ++ [d] = z := ⟨_, rfl⟩
            rw [hX2] at add2 add3
            unfold strV at HD
            clear hll hsucc hX hd hX1 hX2 hnm
            go_wp2_with (go_at_call 24; with_reducible refine HD.out.mono ?_; rintro e w2 ⟨rfl, hb2⟩; have HB2 := hid (below_step hbx hb2 hzx); clear hb2)
            go_roundg (n - (k + 1))
            case measure => omega
            case rel => exact ⟨k + 1, by omega, rfl, by go_num, rfl, HB2.out⟩
          · obtain rfl : k = n := by omega
            have hneg : ¬ (k : Int) < (k : Int) := by omega
            have HH := hid (numLines_len 104 k).2
            have HCL := hid (clash k m hnm.1 hnm.2 b o u)
            obtain ⟨H, hH⟩ : ∃ H, (numLines 104 k).flatten = H := ⟨_, rfl⟩
            rw [hH] at HH HCL ⊢
            have HB1 := hid (below_step HB0.out hbx HB0.out.size)
            clear hH hbx hzx hnm
            go_wp2_with fail
            go_loopg [12, 14] m (fun g o i wx => ∃ k : Nat, k ≤ m ∧ m - k = g ∧ i = .int .i64 k ∧ o = .string ⟨((numLines 116 k).flatten).toArray⟩ ∧ Hid (Below w.heap.size w wx))
            case atStart => exact ⟨0, Nat.zero_le _, rfl, rfl, rfl, HB1⟩
            case round =>
              obtain ⟨j, hj, rfl, rfl, rfl, HB2⟩ := hrel
              have j0 : (0 : Int) ≤ (j : Int) := Int.natCast_nonneg _
              have hnm := HNM.out
              by_cases hlt : j < m
              · have k1 : (j : Int) < (m : Int) := by omega
                have kw : IntKind.i64.wrap ((j : Int) + 1) = (j : Int) + 1 := IntWalk.i64_in _ (by omega)
                have hll := (numLines_len 116 j).2
                have hsucc := numLines_succ 116 j
                have HD := hid (DDigit_any j (by omega) wr)
                obtain ⟨X, hX⟩ : ∃ X, (numLines 116 j).flatten = X := ⟨_, rfl⟩
                obtain ⟨d, hd⟩ : ∃ d, UInt8.ofNat (48 + j) = d := ⟨_, rfl⟩
                rw [hX] at hll hsucc ⊢
                rw [hd] at hsucc HD
                have add1 := run_str_add (P := Try.prog) X [116] (by simp only [List.length_singleton]; omega)
                have add2 := run_str_add (P := Try.prog) (X ++ [116]) [d] (by simp only [List.length_append, List.length_singleton]; omega)
                have add3 := run_str_add (P := Try.prog) (X ++ [116] ++ [d]) [10] (by simp only [List.length_append, List.length_singleton]; omega)
                rw [← hsucc] at add3
                obtain ⟨X1, hX1⟩ : ∃ z, X ++ [116] = z := ⟨_, rfl⟩
                rw [hX1] at add1 add2 add3
                obtain ⟨X2, hX2⟩ : ∃ z, X1 ++ [d] = z := ⟨_, rfl⟩
                rw [hX2] at add2 add3
                unfold strV at HD
                clear hll hsucc hX hd hX1 hX2 hnm
                go_wp2_with (go_at_call 24; with_reducible refine HD.out.mono ?_; rintro e w2 ⟨rfl, hb2⟩; have HB3 := hid (below_step HB2.out hb2 HB2.out.size); clear hb2)
                go_roundg (m - (j + 1))
                case measure => omega
                case rel => exact ⟨j + 1, by omega, rfl, by go_num, rfl, HB3⟩
              · obtain rfl : j = m := by omega
                have hneg2 : ¬ (j : Int) < (j : Int) := by omega
                clear hnm
                have hnm := HNM.out
                have hff := HF.out
                have HT := (numLines_len 116 j).2
                have hhl := HH.out
                have HCL := HCL.out
                obtain ⟨T, hT⟩ : ∃ T, (numLines 116 j).flatten = T := ⟨_, rfl⟩
                rw [hT] at HT HCL ⊢
                have HLB := hid (DLine_any b [98] wr (by omega) (by simp))
                have HLO := hid (fun wx => DLine_any o [111] wx (by omega) (by simp))
                have HLU := hid (fun wx => DLine_any u [117] wx (by omega) (by simp))
                have lB := theLine_len 98 b
                have lO := theLine_len 111 o
                have lU := theLine_len 117 u
                rw [show ([98] ++ (b.filter (· != 10) ++ [10]) : Tx) = theLine 98 b from rfl] at HLB
                rw [show ([111] ++ (o.filter (· != 10) ++ [10]) : Tx) = theLine 111 o from rfl] at HLO
                rw [show ([117] ++ (u.filter (· != 10) ++ [10]) : Tx) = theLine 117 u from rfl] at HLU
                obtain ⟨B, hB⟩ : ∃ B, theLine 98 b = B := ⟨_, rfl⟩
                obtain ⟨O, hO⟩ : ∃ O, theLine 111 o = O := ⟨_, rfl⟩
                obtain ⟨U, hU⟩ : ∃ U, theLine 117 u = U := ⟨_, rfl⟩
                rw [hB] at HLB HCL lB
                rw [hO] at HLO HCL lO
                rw [hU] at HLU HCL lU
                have m0 : mk0.length = 13 := rfl
                have m1 : mk1.length = 13 := rfl
                have m2 : mk2.length = 8 := rfl
                have m3 : mk3.length = 15 := rfl
                obtain ⟨pb, hpb⟩ : ∃ z, H ++ B = z := ⟨_, rfl⟩
                have len_pb : pb.length = H.length + B.length := by rw [← hpb, List.length_append]
                have add_pb := run_str_add (P := Try.prog) H B (by omega)
                rw [hpb] at add_pb HCL
                obtain ⟨qb, hqb⟩ : ∃ z, pb ++ T = z := ⟨_, rfl⟩
                have len_qb : qb.length = pb.length + T.length := by rw [← hqb, List.length_append]
                have add_qb := run_str_add (P := Try.prog) pb T (by omega)
                rw [hqb] at add_qb HCL
                obtain ⟨po, hpo⟩ : ∃ z, H ++ O = z := ⟨_, rfl⟩
                have len_po : po.length = H.length + O.length := by rw [← hpo, List.length_append]
                have add_po := run_str_add (P := Try.prog) H O (by omega)
                rw [hpo] at add_po HCL
                obtain ⟨qo, hqo⟩ : ∃ z, po ++ T = z := ⟨_, rfl⟩
                have len_qo : qo.length = po.length + T.length := by rw [← hqo, List.length_append]
                have add_qo := run_str_add (P := Try.prog) po T (by omega)
                rw [hqo] at add_qo HCL
                obtain ⟨pu, hpu⟩ : ∃ z, H ++ U = z := ⟨_, rfl⟩
                have len_pu : pu.length = H.length + U.length := by rw [← hpu, List.length_append]
                have add_pu := run_str_add (P := Try.prog) H U (by omega)
                rw [hpu] at add_pu HCL
                obtain ⟨qu, hqu⟩ : ∃ z, pu ++ T = z := ⟨_, rfl⟩
                have len_qu : qu.length = pu.length + T.length := by rw [← hqu, List.length_append]
                have add_qu := run_str_add (P := Try.prog) pu T (by omega)
                rw [hqu] at add_qu HCL
                obtain ⟨a0, ha0⟩ : ∃ z, H ++ mk0 = z := ⟨_, rfl⟩
                have len_a0 : a0.length = H.length + mk0.length := by rw [← ha0, List.length_append]
                have add_a0 := run_str_add (P := Try.prog) H mk0 (by omega)
                rw [ha0] at add_a0 HCL
                obtain ⟨a1, ha1⟩ : ∃ z, a0 ++ O = z := ⟨_, rfl⟩
                have len_a1 : a1.length = a0.length + O.length := by rw [← ha1, List.length_append]
                have add_a1 := run_str_add (P := Try.prog) a0 O (by omega)
                rw [ha1] at add_a1 HCL
                obtain ⟨a2, ha2⟩ : ∃ z, a1 ++ mk1 = z := ⟨_, rfl⟩
                have len_a2 : a2.length = a1.length + mk1.length := by rw [← ha2, List.length_append]
                have add_a2 := run_str_add (P := Try.prog) a1 mk1 (by omega)
                rw [ha2] at add_a2 HCL
                obtain ⟨a3, ha3⟩ : ∃ z, a2 ++ B = z := ⟨_, rfl⟩
                have len_a3 : a3.length = a2.length + B.length := by rw [← ha3, List.length_append]
                have add_a3 := run_str_add (P := Try.prog) a2 B (by omega)
                rw [ha3] at add_a3 HCL
                obtain ⟨a4, ha4⟩ : ∃ z, a3 ++ mk2 = z := ⟨_, rfl⟩
                have len_a4 : a4.length = a3.length + mk2.length := by rw [← ha4, List.length_append]
                have add_a4 := run_str_add (P := Try.prog) a3 mk2 (by omega)
                rw [ha4] at add_a4 HCL
                obtain ⟨a5, ha5⟩ : ∃ z, a4 ++ U = z := ⟨_, rfl⟩
                have len_a5 : a5.length = a4.length + U.length := by rw [← ha5, List.length_append]
                have add_a5 := run_str_add (P := Try.prog) a4 U (by omega)
                rw [ha5] at add_a5 HCL
                obtain ⟨a6, ha6⟩ : ∃ z, a5 ++ mk3 = z := ⟨_, rfl⟩
                have len_a6 : a6.length = a5.length + mk3.length := by rw [← ha6, List.length_append]
                have add_a6 := run_str_add (P := Try.prog) a5 mk3 (by omega)
                rw [ha6] at add_a6 HCL
                obtain ⟨a7, ha7⟩ : ∃ z, a6 ++ T = z := ⟨_, rfl⟩
                have len_a7 : a7.length = a6.length + T.length := by rw [← ha7, List.length_append]
                have add_a7 := run_str_add (P := Try.prog) a6 T (by omega)
                rw [ha7] at add_a7 HCL
                have HM := DMerge_any qb qo qu wr (by omega) (by omega) (by omega)
                rw [HCL a7 rfl] at HM
                unfold strV mk0 mk1 mk2 mk3 at *
                have HM := hid HM
                clear HCL hnm hff HT hhl hT lB lO lU hB hO hU m0 m1 m2 m3 hpb len_pb hqb len_qb hpo len_po hqo len_qo hpu len_pu hqu len_qu ha0 len_a0 ha1 len_a1 ha2 len_a2 ha3 len_a3 ha4 len_a4 ha5 len_a5 ha6 len_a6 ha7 len_a7 k0
                go_wp2_with (first
                  | (go_at_call 25; with_reducible refine HLB.out.mono ?_; rintro e _ ⟨rfl, rfl⟩)
                  | (go_at_call 25; with_reducible refine (HLO.out _).mono ?_; rintro e _ ⟨rfl, rfl⟩)
                  | (go_at_call 25; with_reducible refine (HLU.out _).mono ?_; rintro e _ ⟨rfl, rfl⟩)
                  | (go_at_call 10; with_reducible refine HM.out.mono ?_; rintro e w3 ⟨rfl, hb3⟩; have HB3 := hid (below_step HB2.out hb3 HB2.out.size); clear hb3)
                  | (go_at_call 9; refine (awake_any _).mono ?_; rintro e w4 ⟨rfl, hb4⟩; have HB4 := hid (below_step HB3.out hb4 HB3.out.size); clear hb4))
                go_ret
                exact ⟨rfl, HB4.out⟩
      · rw [show ([b, o, u].all fun x => decide (x.length ≤ 400)) = false by simp; omega] at hFEW
        have HFEW := hid hFEW
        have HB0 := hid hB0
        clear hf hFEW hB0
        unfold strV
        go_enter Try.func7, Try.ntmps7
        go_wp2_with fail
        refine HFEW.out.mono ?_
        rintro e w1 ⟨rfl, rfl⟩
        go_wp2_with fail
        refine (awake_any _).mono ?_
        rintro e w2 ⟨rfl, hb⟩
        go_wp2_with fail
        go_ret
        exact ⟨rfl, below_step HB0.out hb HB0.out.size⟩
    · have m1 : decide (10 < (m : Int)) = true := decide_eq_true (by omega)
      have m2 : decide (10 < m) = true := decide_eq_true (by omega)
      have m3 : (10 : Int) < (m : Int) := by omega
      unfold strV
      go_enter Try.func7, Try.ntmps7
      go_wp2_with fail
      refine (awake_any _).mono ?_
      rintro e w2 ⟨rfl, hb⟩
      go_wp2_with fail
      go_ret
      exact ⟨rfl, hb⟩
  · have n1 : decide (10 < (n : Int)) = true := decide_eq_true (by omega)
    have n2 : decide (10 < n) = true := decide_eq_true (by omega)
    have n3 : (10 : Int) < (n : Int) := by omega
    unfold strV
    go_enter Try.func7, Try.ntmps7
    go_wp2_with fail
    refine (awake_any _).mono ?_
    rintro e w2 ⟨rfl, hb⟩
    go_wp2_with fail
    go_ret
    exact ⟨rfl, hb⟩
end
theorem own : ownKnob Try.prog.godebug = none := by kernel_rfl
theorem laidOut : laidOutB Try.prog = true := by kernel_rfl

set_option maxRecDepth 100000 in
theorem contract (H : Type) (enc : TypeId × Value → H) (W : World) (base : Nat) (args : Array Value) (ds gs : List (DataW H)) (before : List MemPlace)
    (hval : ∀ (j : Nat) t v, Try.f7.params[j]? = some t → args[j]? = some v → Value.okWide Try.prog W .any base t v)
    (hW : DataW.Whole enc Try.prog Try.f7.params.toList Rows.mergeClashesSpec.vars false W args.toList ds gs before) :
    Calls Try.prog 7 args W fun e W' => ∃ v, e = .returned v ∧ Rows.mergeClashesSpec.post enc Try.prog Try.f7 false true false false W args v W' := by
  have hW' := hW
  obtain ⟨p, q, hA0, hV, rfl, hfz, hnd⟩ := hW
  have hA : DataW.TrodAll enc Try.prog W 0 (fun _ => true) true Try.f7.params.toList args.toList ds p := hA0
  rw [Try.params7] at hA hval
  obtain ⟨v0, vs0, d0, ds0, p0, q0, hargs, rfl, rfl, h0, r0⟩ := trodAll_cons hA
  obtain ⟨v1, vs1, d1, ds1, p1, q1, rfl, rfl, rfl, h1, r1⟩ := trodAll_cons r0
  obtain ⟨v2, vs2, d2, ds2, p2, q2, rfl, rfl, rfl, h2, r2⟩ := trodAll_cons r1
  obtain ⟨v3, vs3, d3, ds3, p3, q3, rfl, rfl, rfl, h3, r3⟩ := trodAll_cons r2
  obtain ⟨v4, vs4, d4, ds4, p4, q4, rfl, rfl, rfl, h4, r4⟩ := trodAll_cons r3
  obtain ⟨rfl, rfl, rfl⟩ := trodAll_nil r4
  obtain rfl : args = #[v0, v1, v2, v3, v4] := by cases args; simp_all
  obtain ⟨rfl, rfl⟩ := trodVars_none hV
  have k0 := h0
  have lt0 : ∀ x ∈ p0, x.block < W.heap.size := by obtain ⟨m, hm⟩ := k0; exact DataW.trod_lt m _ _ _ hm
  obtain ⟨x0, l0, c0, rfl⟩ := okWide_slice Try.underlying32 (hval 0 32 v0 rfl rfl)
  obtain ⟨a0, w0, e0⟩ : ∃ a, FactStrs W (.slice x0 l0 c0) a ∧ ((d0 = .nil ∧ a = []) ∨ ∃ rest, d0 = .slice (dataStrs a) rest) := by
    obtain ⟨fuel, hf⟩ := h0
    obtain ⟨v', a, hcs, hs, hx⟩ := open_strL Try.underlying32 Try.underlying9 (by kernel_rfl) hf
    obtain rfl : v' = .slice x0 l0 c0 := by simpa [Value.cells] using hcs.symm
    exact ⟨a, hs, hx⟩
  clear e0
  have k1 := h1
  have lt1 : ∀ x ∈ p1, x.block < W.heap.size := by obtain ⟨m, hm⟩ := k1; exact DataW.trod_lt m _ _ _ hm
  obtain ⟨x1, l1, c1, rfl⟩ := okWide_slice Try.underlying32 (hval 1 32 v1 rfl rfl)
  obtain ⟨a1, w1, e1⟩ : ∃ a, FactStrs W (.slice x1 l1 c1) a ∧ ((d1 = .nil ∧ a = []) ∨ ∃ rest, d1 = .slice (dataStrs a) rest) := by
    obtain ⟨fuel, hf⟩ := h1
    obtain ⟨v', a, hcs, hs, hx⟩ := open_strL Try.underlying32 Try.underlying9 (by kernel_rfl) hf
    obtain rfl : v' = .slice x1 l1 c1 := by simpa [Value.cells] using hcs.symm
    exact ⟨a, hs, hx⟩
  clear e1
  have k2 := h2
  have lt2 : ∀ x ∈ p2, x.block < W.heap.size := by obtain ⟨m, hm⟩ := k2; exact DataW.trod_lt m _ _ _ hm
  obtain ⟨a2, rfl, _, _, w2⟩ := open_str Try.underlying9 (hval 2 9 v2 rfl rfl) h2
  have k3 := h3
  have lt3 : ∀ x ∈ p3, x.block < W.heap.size := by obtain ⟨m, hm⟩ := k3; exact DataW.trod_lt m _ _ _ hm
  obtain ⟨a3, rfl, _, _, w3⟩ := open_str Try.underlying9 (hval 3 9 v3 rfl rfl) h3
  have k4 := h4
  have lt4 : ∀ x ∈ p4, x.block < W.heap.size := by obtain ⟨m, hm⟩ := k4; exact DataW.trod_lt m _ _ _ hm
  obtain ⟨a4, rfl, _, _, w4⟩ := open_str Try.underlying9 (hval 4 9 v4 rfl rfl) h4
  clear hA0
  refine (walk (.slice x0 l0 c0) a0 (.slice x1 l1 c1) a1 a2 a3 a4 W w0 w1 w2 w3 w4).mono fun e W' ⟨he, bel⟩ => ?_
  subst he
  exact ⟨_, rfl, _, _, _, [], _, [], hW', trodAll_mk1 (shut_bool Try.underlying4 _), (trodAll_cons_mk (Below.trod laidOut (by kernel_rfl) (of_decide_eq_true (by kernel_rfl)) k0 bel lt0) (trodAll_cons_mk (Below.trod laidOut (by kernel_rfl) (of_decide_eq_true (by kernel_rfl)) k1 bel lt1) (trodAll_cons_mk (Below.trod laidOut (by kernel_rfl) (of_decide_eq_true (by kernel_rfl)) k2 bel lt2) (trodAll_cons_mk (Below.trod laidOut (by kernel_rfl) (of_decide_eq_true (by kernel_rfl)) k3 bel lt3) (trodAll_cons_mk (Below.trod laidOut (by kernel_rfl) (of_decide_eq_true (by kernel_rfl)) k4 bel lt4) trodAll_mk0))))), rfl, bel.frame _, fun h => by cases h⟩

set_option maxRecDepth 100000 in
theorem lifted (os : Os) (started : os.Started) (H : Type) (enc : TypeId × Value → H) :
    ReturnsInHanded {} Try.checked os 7 .any (Rows.mergeClashesSpec.pre6 enc Try.prog Try.f7 Rows.mergeClashesRow.domain false) (Rows.mergeClashesSpec.post enc Try.prog Try.f7 false true false false) := by
  refine returnsInHanded_of_change (C := Try.checked) own started (by kernel_rfl) Try.func7
    (ChangeSpec.witness6 (enc := enc) (C := Try.checked) false ⟨#[], #[.slice none 0 0, .slice none 0 0, .string ByteArray.empty, .string ByteArray.empty, .string ByteArray.empty], []⟩ 8 (by kernel_rfl) (by kernel_rfl) (by kernel_rfl) (by kernel_rfl)) ?_
  intro W base args ds gs before hval hW _ _
  exact contract H enc W base args ds gs before hval hW

theorem over : Rows.mergeClashesRow.holds Try.pinned (OpenSpec.ofChange Rows.mergeClashesSpec) :=
  OpenClaim.holds_of_wide 7 Try.f7 rfl rfl rfl rfl rfl rfl rfl ⟨rfl, rfl, rfl, rfl, rfl⟩ rfl rfl rfl rfl rfl (by kernel_rfl) Try.func7 (by kernel_rfl)
    (of_decide_eq_true (by kernel_rfl)) (by unfold Func.isWrapper; first | (rw [if_pos (by decide +kernel)]; kernel_rfl) | (rw [if_neg (by decide +kernel)]; exact ⟨rfl, rfl⟩))
    (fun os started H enc _ => lifted os started H enc)

/-- The statement. -/
theorem proved : Rows.MergeClashesSaid :=
  over
#print axioms proved
end Go.Proofs.Ytfldheegebopoaa.mergeClashes

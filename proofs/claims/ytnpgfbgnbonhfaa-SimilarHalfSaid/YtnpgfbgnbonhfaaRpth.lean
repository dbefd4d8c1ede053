/-
  Names of files (the document's own): Parts, Path, Within, Clash, each by a contract.
-/
import Derived.Test.YtnpgfbgnbonhfaaPthM
import Derived.Test.YtnpgfbgnbonhfaaHelpS
import Derived.Test.YtnpgfbgnbonhfaaStr
import Derived.Test.YtnpgfbgnbonhfaaLaw2
import Derived.Deep.LoopGhost
namespace Go.Proofs.Ytnpgfbgnbonhfaa
open Go.RowKit

theorem one_str {w : World} {q : Nat} {t : TypeId} {fr : Nat × Nat} (x : List UInt8) (h : w.heap[q]? = some (.cells #[.string ⟨x.toArray⟩] t fr)) : Sl w (.slice (some ⟨q, 0, none⟩) 1 1) (strCells [x]) := Sl.ofBlock (cs := #[.string ⟨x.toArray⟩]) h
section
variable {w : World}
/-- a text more, behind a list of texts of the call's own -/
theorem wpList_append_tx {ops : Array Oper} {rest : List Oper} {o : Oper} {a : Act} {Q : Exit → Act → World → Prop} (hgd : o.guard = none) (s sx : Operand)
    (ho : o.op = .call { callee := .builtin .append, args := #[s, sx], argTypes := #[47, 47] })
    (base : Nat) (v : Value) (xs : List (List UInt8)) (x : List UInt8) (he : a.eval s = v) (hown : w.ownsRow base 9 1 v xs.length (strCells xs)) (q : Nat) (hx : a.eval sx = .slice (some ⟨q, 0, none⟩) 1 1) (hq : w.heap.size = q)
    (hlen : xs.length ≤ 4000000000) (hbase : base ≤ w.heap.size)
    (h : ∀ v' w', w'.ownsRow base 9 1 v' (xs ++ [x]).length (strCells (xs ++ [x])) → Below base w w' → wpList Try.prog ops Q rest (a.put o.dst v') w') : wpList Try.prog ops Q (o :: rest) a (w.alloc (.cells #[.string ⟨x.toArray⟩] 9)) := by
  subst hq
  obtain ⟨i0, hi0, hi1, hi2, hi3⟩ := info_parts Try.infoStr
  have hs := (one_str x (heap_alloc_new w (.cells #[.string ⟨x.toArray⟩] 9))).src (P := Try.prog) Try.underlying47 (str_one _)
  refine wpList_append_any _ hgd s sx _ _ ho base 9 i0 _ 1 16 Try.underlying47 hi0 hi1 hi2 hi3 rfl (by omega) v _ _ he (hown.alloc _) _ _ _ hx hs (by simp [strCells]; unfold maxLen; omega) (by simp [strCells]; omega) (by simp; omega) fun v' w' h2 h3 h4 => h v' w' ?_ ?_
  · rw [List.length_append, strCells_append]
    exact h2
  · exact ((Below.refl base w).alloc hbase _).grown h3 (by simp; omega) (fun j hj => (hown.lt j hj).1)
end
section
set_option maxRecDepth 100000
set_option maxHeartbeats 4000000
theorem RParts_any (p : List UInt8) (w : World) (hl : p.length ≤ 1000000) :
    Calls Try.prog 48 #[strV p] w fun e w' => ∃ u, e = .returned u ∧ w'.ownsRow w.heap.size 9 1 u (partsS p).length (strCells (partsS p)) ∧ Below w.heap.size w w' := by
  have HL := hid hl
  have hpl := partsS_len p
  have HPL := hid hpl
  obtain ⟨R, hR⟩ : ∃ R, partsS p = R := ⟨_, rfl⟩
  rw [hR] at HPL ⊢
  have HR := hid (show partsG [] p = R from hR)
  clear hl hpl hR
  unfold strV
  go_enter Try.func48, Try.ntmps48
  go_wp2_with fail
  go_loopg [3, 4, 5] p.length (fun g v f i wr => ∃ (k j : Nat) (X : List (List UInt8)), k ≤ p.length ∧ j ≤ k ∧ p.length - k = g ∧ i = .int .i64 k ∧ f = .int .i64 j ∧ Hid (X ++ partsG ((p.take k).drop j) (p.drop k) = R) ∧ Hid (wr.ownsRow w.heap.size 9 1 v X.length (strCells X)) ∧ Below w.heap.size w wr)
  case atStart => exact ⟨0, 0, [], Nat.zero_le _, Nat.le_refl _, rfl, rfl, rfl, hid (by simpa using HR.out), hid (World.ownsRow_nil _ _ _ _), Below.refl _ _⟩
  case round =>
    obtain ⟨k, j, X, hk, hj, rfl, rfl, rfl, HX, HN, hbel⟩ := hrel
    have hz := hbel.size
    have k0 : (0 : Int) ≤ (k : Int) := Int.natCast_nonneg _
    have j0 : (0 : Int) ≤ (j : Int) := Int.natCast_nonneg _
    obtain ⟨no, nc, rfl⟩ := owns_form HN.out
    have hxl : X.length ≤ 2000000 := by
      have h1 := HPL.out
      have h2 := HL.out
      rw [← HX.out, List.length_append] at h1
      omega
    by_cases hlt : k < p.length
    · have k1 : (k : Int) < (p.length : Int) := by omega
      have kw : IntKind.i64.wrap ((k : Int) + 1) = (k : Int) + 1 := IntWalk.i64_in _ (by have := HL.out; omega)
      obtain ⟨c, hc⟩ : ∃ c, p[k]? = some c := ⟨p[k], List.getElem?_eq_getElem hlt⟩
      have hix := run_str_at (P := Try.prog) 9 Try.underlying9 hc
      have hd : p.drop k = c :: p.drop (k + 1) := by
        obtain ⟨q, e⟩ := List.getElem?_eq_some_iff.1 hc
        rw [List.drop_eq_getElem_cons q, e]
      have ht : p.take (k + 1) = p.take k ++ [c] := by rw [List.take_add_one, hc]; rfl
      by_cases h47 : c = 47
      · have hb : (((c.toNat : Nat) : Int) == 47) = true := by rw [h47]; rfl
        have hsl := run_str_mid (P := Try.prog) 9 Try.underlying9 p j k hj hk
        have hcur : (p.drop j).take (k - j) = (p.take k).drop j := by rw [List.drop_take]
        rw [hcur] at hsl
        obtain ⟨x, hx⟩ : ∃ x, (p.take k).drop j = x := ⟨_, rfl⟩
        rw [hx] at hsl
        have HX2 := hid (show X ++ [x] ++ partsG ((p.take (k + 1)).drop (k + 1)) (p.drop (k + 1)) = R by
          rw [← HX.out, hd, hx, partsG, if_pos h47, List.drop_of_length_le (by rw [List.length_take]; omega)]
          simp)
        clear hd ht hcur hx h47 hc HX
        go_wp2_with (at_builtin; refine wpList_append_tx rfl (.tmp 16) (.tmp 21) rfl w.heap.size _ X x rfl HN.out _ rfl rfl (by omega) hz ?_; intro v5 w5 hO5 hb5; have HO5 := hid hO5; have hb6 := hbel.trans hb5; clear hO5 hb5)
        go_roundg (p.length - (k + 1))
        case measure => omega
        case rel => exact ⟨k + 1, k + 1, X ++ [x], by omega, Nat.le_refl _, rfl, by go_num, by go_num, HX2, HO5, hb6⟩
      · have hb : (((c.toNat : Nat) : Int) == 47) = false := by
          simp
          intro h
          exact h47 (UInt8.toNat_inj.1 (by rw [show UInt8.toNat 47 = 47 from rfl]; omega))
        have HX2 := hid (show X ++ partsG ((p.take (k + 1)).drop j) (p.drop (k + 1)) = R by
          rw [← HX.out, hd, partsG, if_neg h47, ht, List.drop_append_of_le_length (by rw [List.length_take]; omega)])
        clear hd ht h47 hc HX
        go_wp2_with fail
        go_roundg (p.length - (k + 1))
        case measure => omega
        case rel => exact ⟨k + 1, j, X, by omega, by omega, rfl, by go_num, rfl, HX2, HN, hbel⟩
    · obtain rfl : k = p.length := by omega
      have hneg : ¬ (p.length : Int) < (p.length : Int) := by omega
      have hsl := run_str_from (P := Try.prog) 9 Try.underlying9 p j hj
      obtain ⟨x, hx⟩ : ∃ x, p.drop j = x := ⟨_, rfl⟩
      rw [hx] at hsl
      have HX2 := hid (show X ++ [x] = R by
        rw [← HX.out, List.take_length, List.drop_length, hx]
        rfl)
      clear hx HX
      go_wp2_with (at_builtin; refine wpList_append_tx rfl (.tmp 25) (.tmp 29) rfl w.heap.size _ X x rfl HN.out _ rfl rfl (by omega) hz ?_; intro v5 w5 hO5 hb5; have HO5 := hid hO5; have hb6 := hbel.trans hb5; clear hO5 hb5)
      go_ret
      rw [← HX2.out]
      exact ⟨_, rfl, HO5.out, hb6⟩
theorem RPath_any (p : List UInt8) (w : World) :
    Calls Try.prog 29 #[strV p] w fun e w' => e = .returned (.bool (rightS p)) ∧ Below w.heap.size w w' := by
  unfold strV
  by_cases hn : 1 ≤ p.length ∧ p.length ≤ 100
  · have hr : rightS p = (p.all okByte && (partsS p).all okPart) := by unfold rightS; rw [decide_eq_true hn, Bool.true_and]
    have p1 : decide ((p.length : Int) < 1) = false := decide_eq_false (by omega)
    have p2 : decide (100 < (p.length : Int)) = false := decide_eq_false (by omega)
    have p3 : decide (p.length < 1) = false := decide_eq_false (by omega)
    have p4 : decide (100 < p.length) = false := decide_eq_false (by omega)
    have p5 : p ≠ [] := fun e => by rw [e] at hn; simp at hn
    have HN := hid hn
    have HP := hid (RParts_any p w (by omega))
    have hpl := partsS_len p
    obtain ⟨L, hL⟩ : ∃ L, partsS p = L := ⟨_, rfl⟩
    rw [hL] at HP hr hpl
    unfold strV at HP
    have HLL := hid (show L.length ≤ 1000 by omega)
    have HR := hid hr
    clear hn hr hL hpl
    go_enter Try.func29, Try.ntmps29
    go_wp2_with fail
    go_loopg [3] p.length (fun g i wr => ∃ k : Nat, k ≤ p.length ∧ p.length - k = g ∧ i = .int .i64 k ∧ Hid (p.all okByte = (p.drop k).all okByte) ∧ wr = w)
    case atStart => exact ⟨0, Nat.zero_le _, rfl, rfl, hid rfl, rfl⟩
    case round =>
      obtain ⟨k, hk, rfl, rfl, HA, rfl⟩ := hrel
      have k0 : (0 : Int) ≤ (k : Int) := Int.natCast_nonneg _
      by_cases hlt : k < p.length
      · have k1 : (k : Int) < (p.length : Int) := by omega
        have kw : IntKind.i64.wrap ((k : Int) + 1) = (k : Int) + 1 := IntWalk.i64_in _ (by have := HN.out; omega)
        obtain ⟨c, hc⟩ : ∃ c, p[k]? = some c := ⟨p[k], List.getElem?_eq_getElem hlt⟩
        have hix := run_str_at (P := Try.prog) 9 Try.underlying9 hc
        have hd : p.drop k = c :: p.drop (k + 1) := by
          obtain ⟨q, e⟩ := List.getElem?_eq_some_iff.1 hc
          rw [List.drop_eq_getElem_cons q, e]
        have HX := hid (show p.all okByte = (okByte c && (p.drop (k + 1)).all okByte) by rw [HA.out, hd]; rfl)
        by_cases h1 : c.toNat < 33
        · have b1 : decide (((c.toNat : Nat) : Int) < 33) = true := decide_eq_true (by omega)
          have b2 : decide (c.toNat < 33) = true := decide_eq_true h1
          have hz : okByte c = false := by unfold okByte; exact decide_eq_false (by omega)
          have HF := hid (show rightS p = false by rw [HR.out, HX.out, hz]; rfl)
          clear hd hc h1 hz HX HA
          go_wp2_with fail
          go_ret
          exact ⟨by rw [HF.out]; rfl, Below.refl _ _⟩
        · have b1 : decide (((c.toNat : Nat) : Int) < 33) = false := decide_eq_false (by omega)
          have b2 : decide (c.toNat < 33) = false := decide_eq_false h1
          by_cases h2 : 126 < c.toNat
          · have b3 : decide (126 < ((c.toNat : Nat) : Int)) = true := decide_eq_true (by omega)
            have b4 : decide (126 < c.toNat) = true := decide_eq_true h2
            have hz : okByte c = false := by unfold okByte; exact decide_eq_false (by omega)
            have HF := hid (show rightS p = false by rw [HR.out, HX.out, hz]; rfl)
            clear hd hc h1 h2 hz HX HA
            go_wp2_with fail
            go_ret
            exact ⟨by rw [HF.out]; rfl, Below.refl _ _⟩
          · have b3 : decide (126 < ((c.toNat : Nat) : Int)) = false := decide_eq_false (by omega)
            have b4 : decide (126 < c.toNat) = false := decide_eq_false h2
            have hz : okByte c = true := by unfold okByte; exact decide_eq_true (by omega)
            have HX2 := hid (show p.all okByte = (p.drop (k + 1)).all okByte by rw [HX.out, hz, Bool.true_and])
            clear hd hc h1 h2 hz HX HA
            go_wp2_with fail
            go_roundg (p.length - (k + 1))
            case measure => omega
            case rel => exact ⟨k + 1, by omega, rfl, by go_num, HX2, rfl⟩
      · obtain rfl : k = p.length := by omega
        have hneg : ¬ (p.length : Int) < (p.length : Int) := by omega
        have HR2 := hid (show rightS p = L.all okPart by rw [HR.out, HA.out, List.drop_length]; rfl)
        clear HR HA
        go_wp2_with fail
        refine HP.out.mono ?_
        rintro e w1 ⟨v, rfl, ho, hb1⟩
        obtain ⟨lo, lc, rfl⟩ := owns_form ho
        have HS := hid (Sl.ofOwns ho)
        have HB := hid hb1
        clear ho hb1
        go_wp2_with fail
        go_loopg [5] L.length (fun g i wx => ∃ k : Nat, k ≤ L.length ∧ L.length - k = g ∧ i = .int .i64 k ∧ Hid (L.all okPart = (L.drop k).all okPart) ∧ wx = w1)
        case atStart => exact ⟨0, Nat.zero_le _, rfl, rfl, hid rfl, rfl⟩
        case round =>
          obtain ⟨m, hm, rfl, rfl, HA, rfl⟩ := hrel
          have m0 : (0 : Int) ≤ (m : Int) := Int.natCast_nonneg _
          by_cases hlm : m < L.length
          · have m1 : (m : Int) < (L.length : Int) := by omega
            have mw : IntKind.i64.wrap ((m : Int) + 1) = (m : Int) + 1 := IntWalk.i64_in _ (by have := HLL.out; omega)
            obtain ⟨a, x, rfl, hc, hx⟩ := HS.out.strAt' (i := m) hlm
            have hd : L.drop m = x :: L.drop (m + 1) := by
              obtain ⟨q, e⟩ := List.getElem?_eq_some_iff.1 hx
              rw [List.drop_eq_getElem_cons q, e]
            have HX := hid (show L.all okPart = (okPart x && (L.drop (m + 1)).all okPart) by rw [HA.out, hd]; rfl)
            have bad : okPart x = false → Hid (rightS p = false) := fun hz => hid (by rw [HR2.out, HX.out, hz]; rfl)
            have good : okPart x = true → Hid (L.all okPart = (L.drop (m + 1)).all okPart) := fun hz => hid (by rw [HX.out, hz, Bool.true_and])
            clear hd hx HX HA
            by_cases h1 : x = []
            · subst h1
              have HF := bad rfl
              clear bad good
              go_wp2_with fail
              go_ret
              exact ⟨by rw [HF.out]; rfl, HB.out⟩
            · have b1 : (x == []) = false := by simpa using h1
              by_cases h2 : x = [46]
              · subst h2
                have HF := bad rfl
                clear bad good h1
                go_wp2_with fail
                go_ret
                exact ⟨by rw [HF.out]; rfl, HB.out⟩
              · have b2 : (x == [46]) = false := by simpa using h2
                by_cases h3 : x = [46, 46]
                · subst h3
                  have HF := bad rfl
                  clear bad good h1 h2
                  go_wp2_with fail
                  go_ret
                  exact ⟨by rw [HF.out]; rfl, HB.out⟩
                · have b3 : (x == [46, 46]) = false := by simpa using h3
                  have HX2 := good (by unfold okPart bne; rw [b1, b2, b3]; rfl)
                  clear bad good h2 h3
                  go_wp2_with fail
                  go_roundg (L.length - (m + 1))
                  case measure => omega
                  case rel => exact ⟨m + 1, by omega, rfl, by go_num, HX2, rfl⟩
          · obtain rfl : m = L.length := by omega
            have hneg2 : ¬ (L.length : Int) < (L.length : Int) := by omega
            have HF := hid (show rightS p = true by rw [HR2.out, HA.out, List.drop_length]; rfl)
            go_wp2_with fail
            go_ret
            exact ⟨by rw [HF.out]; rfl, HB.out⟩
  · have hr : rightS p = false := by unfold rightS; rw [decide_eq_false hn, Bool.false_and]
    have HR := hid hr
    by_cases h1 : p.length < 1
    · have p1 : decide ((p.length : Int) < 1) = true := decide_eq_true (by omega)
      have p3 : decide (p.length < 1) = true := decide_eq_true h1
      obtain rfl : p = [] := List.eq_nil_of_length_eq_zero (by omega)
      clear hn hr h1 p1 p3
      go_enter Try.func29, Try.ntmps29
      go_wp2_with fail
      go_ret
      exact ⟨rfl, Below.refl _ _⟩
    · have p1 : decide ((p.length : Int) < 1) = false := decide_eq_false (by omega)
      have p2 : decide (100 < (p.length : Int)) = true := decide_eq_true (by omega)
      have p3 : decide (p.length < 1) = false := decide_eq_false h1
      have p4 : decide (100 < p.length) = true := decide_eq_true (by omega)
      clear hn hr
      go_enter Try.func29, Try.ntmps29
      go_wp2_with fail
      go_ret
      exact ⟨by rw [HR.out]; rfl, Below.refl _ _⟩
theorem RWithin_any (p d : List UInt8) (w : World) :
    Calls Try.prog 61 #[strV p, strV d] w fun e w' => e = .returned (.bool (withinS p d)) ∧ w = w' := by
  unfold strV
  by_cases h1 : d.length < p.length
  · have b1 : decide ((d.length : Int) < (p.length : Int)) = true := decide_eq_true (by omega)
    have b2 : decide (d.length < p.length) = true := decide_eq_true h1
    have b3 : (d.length : Int) < (p.length : Int) := by omega
    obtain ⟨c, hc⟩ : ∃ c, p[d.length]? = some c := ⟨p[d.length], List.getElem?_eq_getElem h1⟩
    have hix := run_str_at (P := Try.prog) 9 Try.underlying9 hc
    have hsl := run_str_to (P := Try.prog) 9 Try.underlying9 p d.length (by omega)
    have hW : withinS p d = ((p.take d.length == d) && (c == 47)) := by
      unfold withinS
      rw [b2, Bool.true_and, hc]
      rfl
    obtain ⟨x, hx⟩ : ∃ x, p.take d.length = x := ⟨_, rfl⟩
    rw [hx] at hsl hW
    obtain ⟨W, hWW⟩ : ∃ W, withinS p d = W := ⟨_, rfl⟩
    rw [hWW] at hW ⊢
    by_cases h2 : x = d
    · have c1 : (x == d) = true := by simpa using h2
      by_cases h3 : c = 47
      · have c2 : (((c.toNat : Nat) : Int) == 47) = true := by rw [h3]; rfl
        have HW := hid (show W = true by rw [hW, c1, h3]; rfl)
        clear hW hWW hx hc h2 h3
        go_enter Try.func61, Try.ntmps61
        go_wp2_with fail
        go_ret
        exact ⟨by rw [HW.out]; rfl, rfl⟩
      · have c2 : (((c.toNat : Nat) : Int) == 47) = false := by
          simp
          intro h
          exact h3 (UInt8.toNat_inj.1 (by rw [show UInt8.toNat 47 = 47 from rfl]; omega))
        have HW := hid (show W = false by rw [hW, c1, Bool.true_and]; simpa using h3)
        clear hW hWW hx hc h2 h3
        go_enter Try.func61, Try.ntmps61
        go_wp2_with fail
        go_ret
        exact ⟨by rw [HW.out]; rfl, rfl⟩
    · have c1 : (x == d) = false := by simpa using h2
      have HW := hid (show W = false by rw [hW, c1]; rfl)
      clear hW hWW hx hc h2
      go_enter Try.func61, Try.ntmps61
      go_wp2_with fail
      go_ret
      exact ⟨by rw [HW.out]; rfl, rfl⟩
  · have b1 : decide ((d.length : Int) < (p.length : Int)) = false := decide_eq_false (by omega)
    have b2 : decide (d.length < p.length) = false := decide_eq_false h1
    have b3 : ¬ (d.length : Int) < (p.length : Int) := by omega
    have HW := hid (show withinS p d = false by unfold withinS; rw [b2]; rfl)
    go_enter Try.func61, Try.ntmps61
    go_wp2_with fail
    go_ret
    exact ⟨by rw [HW.out]; rfl, rfl⟩
theorem RClash_any (a b : List UInt8) (w : World) :
    Calls Try.prog 47 #[strV a, strV b] w fun e w' => e = .returned (.bool (clashS a b)) ∧ w = w' := by
  have H1 := hid (RWithin_any a b w)
  have H2 := hid (RWithin_any b a w)
  have hC : clashS a b = (a == b || (withinS a b || withinS b a)) := rfl
  obtain ⟨C, hCC⟩ : ∃ C, clashS a b = C := ⟨_, rfl⟩
  obtain ⟨x, hx⟩ : ∃ x, withinS a b = x := ⟨_, rfl⟩
  obtain ⟨y, hy⟩ : ∃ y, withinS b a = y := ⟨_, rfl⟩
  rw [hCC, hx, hy] at hC
  rw [hx] at H1
  rw [hy] at H2
  rw [hCC]
  unfold strV at H1 H2 ⊢
  clear hCC hx hy
  by_cases h : a = b
  · have c1 : (a == b) = true := by simpa using h
    have HC := hid (show C = true by rw [hC, c1]; rfl)
    clear hC h
    go_enter Try.func47, Try.ntmps47
    go_wp2_with fail
    go_ret
    exact ⟨by rw [HC.out]; rfl, rfl⟩
  · have c1 : (a == b) = false := by simpa using h
    rw [c1, Bool.false_or] at hC
    have HC := hid hC
    clear hC h
    go_enter Try.func47, Try.ntmps47
    cases x <;> (
      go_wp2_with (first
        | (go_at_call 61; with_reducible refine H1.out.mono ?_; rintro e _ ⟨rfl, rfl⟩)
        | (go_at_call 61; with_reducible refine H2.out.mono ?_; rintro e _ ⟨rfl, rfl⟩))
      go_ret
      exact ⟨by rw [HC.out]; rfl, rfl⟩)
end
end Go.Proofs.Ytnpgfbgnbonhfaa

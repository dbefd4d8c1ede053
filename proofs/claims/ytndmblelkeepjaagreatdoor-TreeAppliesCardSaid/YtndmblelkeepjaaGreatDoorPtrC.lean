/-
  slices.Grow (of nil), slices.Concat, at files: what package tree (landed) puts together.
-/
import Derived.Test.YtndmblelkeepjaaGreatDoorPtrA
namespace Go.Proofs.YtndmblelkeepjaaGreatDoor
open Go.RowKit

section
set_option maxRecDepth 100000
set_option maxHeartbeats 4000000
theorem own_empty {w : World} {g : Nat} {cur : Array Value} {cap base : Nat} (h : w.heap[g]? = some (.cells cur 35 (0, 0))) (hb : base ≤ g) (hm : cap ≤ maxLen) (hs : cur.size = cap * 3) : OwnF w base (.slice (some ⟨g, 0, none⟩) 0 cap) [] :=
  ⟨by simp [flatR], .inr ⟨g, cap, cur, rfl, hb, h, Nat.zero_le _, hm, hs, by simp [flatR]⟩⟩
theorem PGrow_any (n : Nat) (w : World) (hn : n ≤ 100000000) :
    Calls Tryz.prog 67 #[.slice none 0 0, .int .i64 n] w fun e w' => ∃ u, e = .returned u ∧ OwnF w' w.heap.size u [] ∧ Below w.heap.size w w' := by
  by_cases h0 : n = 0
  · subst h0
    go_enter Tryz.func67, Tryz.ntmps67
    go_wp2_with fail
    go_ret
    exact ⟨_, rfl, World.ownsRow_nil _ _ _ _, Below.refl _ _⟩
  · obtain ⟨i0, hi0, hi1, hi2, hi3⟩ := info_parts Tryz.infoFile
    have hr : ∀ (wy : World) (ty : TypeId), (Builtin.append_ #[22, 3] ty #[.slice none 0 0, .int .i64 (n : Int)]).run Tryz.prog wy = .ok (.slice (some ⟨wy.heap.size, 0, none⟩) n (grownCap wy n 0 35)) (wy.drew.alloc (.cells (Builtin.zeroCells (Value.agg #[strV [], .bool false, strV []]).cells n ++ Builtin.zeroCells (Value.agg #[strV [], .bool false, strV []]).cells (grownCap wy n 0 35 - n)) 35)) := fun wy ty => by
      have h := Lib.run_append_grow_zeros (P := Tryz.prog) wy 22 3 ty 35 i0 _ .i64 .i64 Tryz.underlying22 Tryz.underlying3 hi0 hi1 none 0 0 [] (run_firstCells_none wy.drew i0.size 0 0 0) n (by omega) (by omega) (by omega) (by omega) (by rw [hi3]; omega) (by
        rw [Nat.zero_add]
        exact growslice_fits (by omega) (by rw [hi3]; omega))
      rw [Nat.zero_add] at h
      simpa using h
    have hge := fun wy => grownCap_ge wy n 0 35
    have hle := fun wy => grownCap_le_maxLen wy n 0 35 (by unfold maxLen; omega)
    have HSZ := hid (show ∀ m k : Nat, (Builtin.zeroCells (Value.agg #[strV [], .bool false, strV []]).cells m ++ Builtin.zeroCells (Value.agg #[strV [], .bool false, strV []]).cells k).size = (m + k) * 3 from fun m k => by
      rw [Array.size_append, size_zeroCells, size_zeroCells]
      show m * 3 + k * 3 = _
      omega)
    obtain ⟨G, hG⟩ : ∃ G, grownCap w n 0 35 = G := ⟨_, rfl⟩
    have hr := hr w
    have hge := hge w
    have hle := hle w
    rw [hG] at hr hge hle
    obtain ⟨cs, hcs⟩ : ∃ cs, Builtin.zeroCells (Value.agg #[strV [], .bool false, strV []]).cells n ++ Builtin.zeroCells (Value.agg #[strV [], .bool false, strV []]).cells (G - n) = cs := ⟨_, rfl⟩
    have HC := hid (show cs.size = G * 3 by rw [← hcs, HSZ.out]; congr 1; omega)
    rw [hcs] at hr
    have HGE := hid hge
    have HLE := hid hle
    have n0 : ¬ (n : Int) < 0 := by omega
    have n1 : (0 : Int) < (n : Int) := by omega
    have nw : wrap64 ((n : Int)) = (n : Int) := by unfold wrap64; omega
    clear hG hcs hge hle hi0 hi1 hi2 hi3 HSZ h0 hn
    have H := hid (show OwnF (w.drew.alloc (.cells cs 35)) w.heap.size (.slice (some ⟨w.heap.size, 0, none⟩) 0 G) [] from own_empty (heap_alloc_new w.drew _) (Nat.le_refl _) HLE.out HC.out)
    have HB := hid (((Below.refl _ w).drew).alloc (Nat.le_refl w.heap.size) (.cells cs 35))
    have G0 : (0 : Int) ≤ (G : Int) := Int.natCast_nonneg _
    rw [← nw] at hr
    have HRR := hid hr
    clear hr
    go_enter Tryz.func67, Tryz.ntmps67
    go_wp2_with (at_builtin; refine Lib.wpList_append_run _ rfl (.tmp 20) (.tmp 21) 22 3 rfl (.slice none 0 0) (.int .i64 (wrap64 n)) (by rfl) (by rfl) _ _ (HRR.out _) ?_)
    go_ret
    exact ⟨_, rfl, H.out, HB.out⟩
def sumLen : List (Value × List FileS) → Nat
  | [] => 0
  | x :: r => x.2.length + sumLen r
def catS (ps : List (Value × List FileS)) : List FileS := ps.flatMap (·.2)
theorem sum_take {ps : List (Value × List FileS)} {k : Nat} {x : Value × List FileS} (h : ps[k]? = some x) : sumLen (ps.take (k + 1)) = sumLen (ps.take k) + x.2.length := by
  induction ps generalizing k with
  | nil => simp at h
  | cons y r ih =>
    cases k with
    | zero =>
      simp at h
      subst h
      simp [sumLen]
    | succ k =>
      have := ih (k := k) (by simpa using h)
      rw [List.take_succ_cons, List.take_succ_cons, sumLen, sumLen, this]
      omega
theorem cat_take {ps : List (Value × List FileS)} {k : Nat} {x : Value × List FileS} (h : ps[k]? = some x) : catS (ps.take (k + 1)) = catS (ps.take k) ++ x.2 := by
  rw [List.take_add_one, h]
  simp [catS]
theorem cat_len (ps : List (Value × List FileS)) : (catS ps).length = sumLen ps := by
  induction ps with
  | nil => rfl
  | cons x r ih => rw [sumLen, ← ih]; simp [catS]
theorem sum_mono (ps : List (Value × List FileS)) (k : Nat) : sumLen (ps.take k) ≤ sumLen ps := by
  induction ps generalizing k with
  | nil => simp [sumLen]
  | cons x r ih =>
    cases k with
    | zero => simp [sumLen]
    | succ k => rw [List.take_succ_cons, sumLen, sumLen]; have := ih k; omega
theorem PConcat_any (g o : Nat) (ps : List (Value × List FileS)) (w : World) (hc : ∀ (i : Nat) (v : Value) (l : List FileS), ps[i]? = some (v, l) → w.cell? ⟨g, o + i, none⟩ = some v ∧ SlF w v l) (hs : sumLen ps ≤ 1000000) (hn : ps.length ≤ 100) :
    Calls Tryz.prog 47 #[.slice (some ⟨g, o, none⟩) ps.length ps.length] w fun e w' => ∃ u, e = .returned u ∧ OwnF w' w.heap.size u (catS ps) ∧ Below w.heap.size w w' := by
  have HC := hid hc
  have HS := hid hs
  have HN := hid hn
  have HM := hid (sum_mono ps)
  clear hc hs hn
  go_enter Tryz.func47, Tryz.ntmps47
  go_wp2_with fail
  go_loopg [3, 5, 11] ps.length (fun gk sz _ i wr => ∃ k : Nat, k ≤ ps.length ∧ ps.length - k = gk ∧ i = .int .i64 k ∧ sz = .int .i64 (sumLen (ps.take k) : Nat) ∧ w = wr)
  case atStart => exact ⟨0, Nat.zero_le _, rfl, rfl, rfl, rfl⟩
  case round =>
    obtain ⟨k, hk, rfl, rfl, rfl, rfl⟩ := hrel
    have k0 : (0 : Int) ≤ (k : Int) := Int.natCast_nonneg _
    by_cases hlt : k < ps.length
    · have k1 : (k : Int) < (ps.length : Int) := by omega
      have kw : IntKind.i64.wrap ((k : Int) + 1) = (k : Int) + 1 := IntWalk.i64_in _ (by have := HN.out; omega)
      obtain ⟨⟨v, l⟩, hx⟩ : ∃ x, ps[k]? = some x := ⟨_, List.getElem?_eq_getElem hlt⟩
      obtain ⟨c1, hsl⟩ := HC.out k v l hx
      obtain ⟨ao, cap, rfl⟩ := hsl.form
      have hst := sum_take hx
      have hm := HM.out (k + 1)
      have hs := HS.out
      obtain ⟨s, hs1⟩ : ∃ s, sumLen (ps.take k) = s := ⟨_, rfl⟩
      rw [hs1] at hst
      dsimp only at hst
      have sw : IntKind.i64.wrap ((s : Int) + (l.length : Int)) = ((s + l.length : Nat) : Int) := (IntWalk.i64_in _ (by omega)).trans (by omega)
      have sn : ¬ (((s + l.length : Nat) : Int) < 0) := by omega
      have HST := hid hst
      rw [hs1]
      clear hst hs1 hx hm hs hsl
      obtain ⟨s2, hs2⟩ : ∃ s2, s + l.length = s2 := ⟨_, rfl⟩
      rw [hs2] at sw sn HST
      clear hs2
      have s20 : (0 : Int) ≤ (s2 : Int) := Int.natCast_nonneg _
      go_wp2_with fail
      go_roundg (ps.length - (k + 1))
      case measure => omega
      case rel => exact ⟨k + 1, by omega, rfl, by go_num, by rw [HST.out], rfl⟩
    · obtain rfl : k = ps.length := by omega
      have hneg : ¬ (ps.length : Int) < (ps.length : Int) := by omega
      rw [List.take_length]
      have HG := hid (fun wy => PGrow_any (sumLen ps) wy (by have := HS.out; omega))
      go_wp2_with (go_at_call 67; refine (HG.out _).mono ?_; rintro e w1 ⟨u1, rfl, ho1, hb1⟩; have HO1 := hid ho1; have HB1 := hid hb1; clear ho1 hb1)
      go_loopg [6, 8, 27] ps.length (fun gk r _ i wx => ∃ k : Nat, k ≤ ps.length ∧ ps.length - k = gk ∧ i = .int .i64 k ∧ Hid (OwnF wx w.heap.size r (catS (ps.take k))) ∧ Hid (Below w.heap.size w wx))
      case atStart => exact ⟨0, Nat.zero_le _, rfl, rfl, HO1, HB1⟩
      case round =>
        obtain ⟨m, hm, rfl, rfl, HO, HB⟩ := hrel
        have m0 : (0 : Int) ≤ (m : Int) := Int.natCast_nonneg _
        by_cases hlm : m < ps.length
        · have m1 : (m : Int) < (ps.length : Int) := by omega
          have mw : IntKind.i64.wrap ((m : Int) + 1) = (m : Int) + 1 := IntWalk.i64_in _ (by have := HN.out; omega)
          obtain ⟨⟨v, l⟩, hx⟩ : ∃ x, ps[m]? = some x := ⟨_, List.getElem?_eq_getElem hlm⟩
          obtain ⟨c1, hsl⟩ := HC.out m v l hx
          obtain ⟨ao, cap, rfl⟩ := hsl.form
          have c1 := below_cell HB.out c1
          have HSL := hid (hsl.old HB.out)
          have HCT := hid (cat_take hx)
          have HLN := hid (show (catS (ps.take m)).length + l.length ≤ 100000000 by
            have h1 := sum_take hx
            have h2 := HM.out (m + 1)
            have h3 := HS.out
            rw [cat_len]
            dsimp only at h1
            omega)
          obtain ⟨X, hX⟩ : ∃ X, catS (ps.take m) = X := ⟨_, rfl⟩
          rw [hX] at HO HCT HLN
          clear hx hsl hX
          obtain ⟨no, nc, rfl⟩ := owns_form HO.out
          have hz := HB.out.size
          go_wp2_with (at_builtin; refine wpList_append_fs rfl (.tmp 31) (.tmp 32) rfl w.heap.size _ X l rfl HO.out _ rfl HSL.out HLN.out hz ?_; intro v5 w5 hO5 hb5; have HO5 := hid hO5; have HB5 := hid (HB.out.trans hb5); clear hO5 hb5)
          go_roundg (ps.length - (m + 1))
          case measure => omega
          case rel => exact ⟨m + 1, by omega, rfl, by go_num, by rw [HCT.out]; exact HO5, HB5⟩
        · obtain rfl : m = ps.length := by omega
          have hneg2 : ¬ (ps.length : Int) < (ps.length : Int) := by omega
          rw [List.take_length] at HO
          go_wp2_with fail
          go_ret
          exact ⟨_, rfl, HO.out, HB.out⟩
end
end Go.Proofs.YtndmblelkeepjaaGreatDoor

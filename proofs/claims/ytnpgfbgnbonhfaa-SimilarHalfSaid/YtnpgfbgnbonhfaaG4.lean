/-
  Package similar (landed): tooLong, share, ratio, Ratio. How many lines two sorted lists share, as mathematics: no fewer than they have in common, in order. Texts (package similar, landed), in memory: a file's place, its lines, and these sorted; a list of them of the call's own. slices.Sorted(slices.Values(l)) at texts (the library's): the lines of a text, sorted. Package similar (landed): shared, mayBeAlike, alike, textOf; texts in memory. Package similar (landed): textOf, lone, slices.Repeat, newPairing. Package similar (landed): slices.Repeat at one number, newPairing. Package similar (landed): join, left. Package similar (landed): matches. Package similar (landed): joinAlike. Package similar (landed): twins: what a file is found by among those of just the same text. Package similar (landed): joinTwins (a map keyed by a struct of a text and a number). Package similar (landed): renames, Renames. Package similar (landed), as mathematics: what pairs the files, and that it is as it is asked. Package similar (landed), as mathematics: the renames that it answers are as they are asked. Package similar (landed): Ratio, Renames. The laws of similar: not too much (few), and what a program that does nothing does not answer (awake).
-/
import Derived.Test.YtnpgfbgnbonhfaaSimM
import Derived.Test.YtnpgfbgnbonhfaaG5
import Derived.Test.YtnpgfbgnbonhfaaG1
import Derived.Test.YtnpgfbgnbonhfaaSrt
import Derived.Test.YtnpgfbgnbonhfaaPcmp
import Derived.Test.YtnpgfbgnbonhfaaNest
import Derived.Test.YtnpgfbgnbonhfaaPsort
import Derived.OwnWalkIn
import Derived.Shelf.SlIter.Collect
import Derived.Deep.RegionLaw
import Derived.Deep.RegionHeld3
import Derived.Deep.DeepCutAuto
import Derived.Deep.CutBlock
import Derived.Deep.CutRange
import Derived.Test.YtnpgfbgnbonhfaaPtrFd
import Derived.Laws.Rows
import Derived.Test.YtnpgfbgnbonhfaaG6
import Derived.Shelf.Bits.Mul64
import Derived.Laws.CopyRow
import Derived.Test.YtnpgfbgnbonhfaaG3
import Derived.Test.YtnpgfbgnbonhfaaG2
import Derived.Maps.OwnSet
import Derived.Maps.AppendAt
import Derived.DeepKeys4
import Derived.Test.YtnpgfbgnbonhfaaDigts
namespace Go.Proofs.Ytnpgfbgnbonhfaa
open Go.RowKit

def shareS (c n m : Nat) : Nat := if n + m = 0 then 100 else 200 * c / (n + m)
section
set_option maxRecDepth 100000
set_option maxHeartbeats 4000000
theorem DLong_any (ao : Option Addr) (n cap : Nat) (w : World) : Calls Try.prog 34 #[.slice ao n cap] w fun e w' => e = .returned (.bool (decide (400 < n))) ∧ w = w' := by
  go_enter Try.func34, Try.ntmps34
  go_wp2
  go_ret
  refine ⟨?_, rfl⟩
  by_cases h : 400 < n
  · have h2 : (400 : Int) < (n : Int) := by omega
    simp [h, h2]
  · have h2 : ¬ (400 : Int) < (n : Int) := by omega
    simp [h, h2]
theorem DShare_any (c n m : Nat) (ao bo : Option Addr) (ac bc : Nat) (w : World) (hc : c ≤ 1000000) (hn : n ≤ 1000000) (hm : m ≤ 1000000) :
    Calls Try.prog 35 #[.int .i64 (c : Nat), .slice ao n ac, .slice bo m bc] w fun e w' => e = .returned (.int .i64 (shareS c n m : Nat)) ∧ w = w' := by
  have kw : IntKind.i64.wrap ((n : Int) + (m : Int)) = (n : Int) + (m : Int) := IntWalk.i64_in _ (by omega)
  by_cases h0 : n + m = 0
  · have e0 : (n : Int) + (m : Int) = 0 := by omega
    rw [shareS, if_pos h0]
    clear h0
    go_enter Try.func35, Try.ntmps35
    go_wp2
    go_ret
    exact ⟨rfl, rfl⟩
  · have e0 : ¬ (n : Int) + (m : Int) = 0 := by omega
    have e1 : ((n : Int) + (m : Int) == 0) = false := by simpa using e0
    have kc : IntKind.i64.wrap (200 * (c : Int)) = 200 * (c : Int) := IntWalk.i64_in _ (by omega)
    have hs : ((shareS c n m : Nat) : Int) = 200 * (c : Int) / ((n : Int) + (m : Int)) := by
      rw [shareS, if_neg h0]
      simp
    have hb : shareS c n m ≤ 200 * c := by
      rw [shareS, if_neg h0]
      exact Nat.div_le_self _ _
    have kq : IntKind.i64.wrap (200 * (c : Int) / ((n : Int) + (m : Int))) = 200 * (c : Int) / ((n : Int) + (m : Int)) := by
      rw [← hs]
      exact IntWalk.i64_in _ (by omega)
    have kt : Int.tdiv (200 * (c : Int)) ((n : Int) + (m : Int)) = 200 * (c : Int) / ((n : Int) + (m : Int)) := Int.tdiv_eq_ediv_of_nonneg (by omega)
    rw [hs]
    clear hs hb h0 hc hn hm
    go_enter Try.func35, Try.ntmps35
    go_wp2
    go_ret
    exact ⟨rfl, rfl⟩
theorem ratioL_share (x y : List Txt) (hx : x.length ≤ 400) (hy : y.length ≤ 400) : ratioL x y = shareS (lcs x y) x.length y.length := by
  unfold ratioL shareS
  split
  · rfl
  · rw [if_neg (by omega)]
theorem DRatioL_any (va vb : Value) (x y : List Txt) (w : World) (ha : Sl w va (strCells x)) (hb : Sl w vb (strCells y)) (hx : x.length ≤ 1000000) (hy : y.length ≤ 1000000) :
    Calls Try.prog 18 #[va, vb] w fun e w' => e = .returned (.int .i64 (ratioL x y : Nat)) ∧ Below w.heap.size w w' := by
  have HC := hid (DCommon_any va vb x y w ha hb hx hy)
  obtain ⟨ao, ac, rfl⟩ := ha.form
  obtain ⟨bo, bc, rfl⟩ := hb.form
  rw [strCells_length] at ha hb HC ⊢
  rw [strCells_length] at HC ⊢
  clear ha hb
  have hle := (lcs_le x y).1
  have hz : ratioL x y = if 400 < x.length ∨ 400 < y.length then 0 else shareS (lcs x y) x.length y.length := by
    split
    · rename_i h
      unfold ratioL
      rw [if_neg (by omega), if_pos h]
    · exact ratioL_share x y (by omega) (by omega)
  obtain ⟨c, hc⟩ : ∃ c, lcs x y = c := ⟨_, rfl⟩
  obtain ⟨z, hzz⟩ : ∃ z, ratioL x y = z := ⟨_, rfl⟩
  rw [hzz] at hz
  rw [hzz]
  rw [hc] at hz hle HC
  clear hzz hc
  obtain ⟨n, hn⟩ : ∃ n, x.length = n := ⟨_, rfl⟩
  obtain ⟨m, hm⟩ : ∃ m, y.length = m := ⟨_, rfl⟩
  rw [hn] at hz hle hx HC ⊢
  rw [hm] at hz hy HC ⊢
  clear hn hm
  have HL := hid fun (o : Option Addr) (k cp : Nat) (wx : World) => DLong_any o k cp wx
  by_cases h1 : 400 < n
  · rw [if_pos (.inl h1)] at hz
    have d1 : decide (400 < n) = true := decide_eq_true h1
    subst hz
    clear HC hle hx hy h1
    go_enter Try.func18, Try.ntmps18
    go_wp2_with (go_at_call 34; refine (HL.out _ _ _ _).mono ?_; rintro e w1 ⟨rfl, rfl⟩; rw [d1])
    go_ret
    exact ⟨rfl, Below.refl _ _⟩
  · have d1 : decide (400 < n) = false := decide_eq_false h1
    by_cases h2 : 400 < m
    · rw [if_pos (.inr h2)] at hz
      have d2 : decide (400 < m) = true := decide_eq_true h2
      subst hz
      clear HC hle hx hy h1 h2
      go_enter Try.func18, Try.ntmps18
      go_wp2_with (go_at_call 34; refine (HL.out _ _ _ _).mono ?_; rintro e w1 ⟨rfl, rfl⟩; first | rw [d1] | rw [d2])
      go_ret
      exact ⟨rfl, Below.refl _ _⟩
    · rw [if_neg (by omega)] at hz
      have d2 : decide (400 < m) = false := decide_eq_false h2
      have HS := hid fun (wx : World) => DShare_any c n m ao bo ac bc wx (by omega) hx hy
      rw [← hz] at HS
      clear hle hx hy h1 h2 hz
      go_enter Try.func18, Try.ntmps18
      go_wp2_with (first | (go_at_call 34; refine (HL.out _ _ _ _).mono ?_; rintro e w1 ⟨rfl, rfl⟩; first | rw [d1] | rw [d2]) | (go_at_call 36; refine HC.out.mono ?_; rintro e w1 ⟨rfl, hb1⟩) | (go_at_call 35; refine (HS.out _).mono ?_; rintro e w1 ⟨rfl, rfl⟩))
      go_ret
      exact ⟨rfl, hb1⟩
theorem DRatio_any (a b : Txt) (w : World) (ha : a.length ≤ 100000) (hb : b.length ≤ 100000) :
    Calls Try.prog 8 #[strV a, strV b] w fun e w' => e = .returned (.int .i64 (ratioS a b : Nat)) ∧ Below w.heap.size w w' := by
  have hca := linesOf_count a
  have hcb := linesOf_count b
  have HSA := hid (PSplit_any a w (by omega))
  have HSB := hid (fun wx => PSplit_any b wx (by omega))
  unfold ratioS
  obtain ⟨x, hx⟩ : ∃ x, linesOf a = x := ⟨_, rfl⟩
  obtain ⟨y, hy⟩ : ∃ y, linesOf b = y := ⟨_, rfl⟩
  rw [hx] at HSA hca ⊢
  rw [hy] at HSB hcb ⊢
  have hxl : x.length ≤ 1000000 := by omega
  have hyl : y.length ≤ 1000000 := by omega
  clear hca hcb hx hy ha hb
  have HC := hid (fun va vb wx h1 h2 => DRatioL_any va vb x y wx h1 h2 hxl hyl)
  unfold strV at *
  go_enter Try.func8, Try.ntmps8
  go_wp2_with fail
  refine HSA.out.mono ?_
  rintro e w1 ⟨va, rfl, ho1, hb1⟩
  have HX := hid ho1
  obtain ⟨lo, lc, rfl⟩ := ho1.form
  clear ho1 HSA
  go_wp2_with fail
  refine (HSB.out w1).mono ?_
  rintro e w2 ⟨vb, rfl, ho2, hb2⟩
  have HY := hid ho2
  obtain ⟨lo2, lc2, rfl⟩ := ho2.form
  have HX2 := hid (Sl.old HX.out hb2)
  have HB := hid (below_step hb1 hb2 hb1.size)
  clear ho2 HSB HX hb1 hb2
  have HR := hid (HC.out _ _ w2 HX2.out HY.out)
  go_wp2_with (go_at_call 18; refine HR.out.mono ?_; rintro e w3 ⟨rfl, hb3⟩)
  go_ret
  exact ⟨rfl, below_step HB.out hb3 HB.out.size⟩
end
end Go.Proofs.Ytnpgfbgnbonhfaa

namespace Go.Proofs.Ytnpgfbgnbonhfaa

def shareGo : Nat → List Txt → List Txt → Nat
  | 0, _, _ => 0
  | _ + 1, [], _ => 0
  | _ + 1, _ :: _, [] => 0
  | g + 1, x :: a, y :: b => if x = y then shareGo g a b + 1 else if ltS x y = true then shareGo g a (y :: b) else shareGo g (x :: a) b
def sharedN (a b : List Txt) : Nat := shareGo (a.length + b.length) a b
theorem share_le : ∀ (g : Nat) (a b : List Txt), shareGo g a b ≤ a.length
  | 0, _, _ => Nat.zero_le _
  | _ + 1, [], _ => Nat.le_refl _
  | _ + 1, _ :: _, [] => Nat.zero_le _
  | g + 1, x :: a, y :: b => by
    rw [shareGo]
    split
    · have := share_le g a b
      simp only [List.length_cons]
      omega
    · split
      · have := share_le g a (y :: b)
        simp only [List.length_cons]
        omega
      · exact share_le g (x :: a) b
/-- what lies in both, however often, is shared -/
theorem share_most : ∀ (g : Nat) (a b s : List Txt), a.length + b.length ≤ g → (a.Pairwise fun x y => ltS y x = false) → (b.Pairwise fun x y => ltS y x = false) →
    (∀ t, s.count t ≤ a.count t) → (∀ t, s.count t ≤ b.count t) → s.length ≤ shareGo g a b
  | _, [], b, s, _, _, _, h1, _ => by
    have : s = [] := by
      rw [List.eq_nil_iff_forall_not_mem]
      intro t ht
      have := h1 t
      rw [List.count_nil] at this
      have := List.count_pos_iff.2 ht
      omega
    subst this
    exact Nat.zero_le _
  | _, _ :: _, [], s, _, _, _, _, h2 => by
    have : s = [] := by
      rw [List.eq_nil_iff_forall_not_mem]
      intro t ht
      have := h2 t
      rw [List.count_nil] at this
      have := List.count_pos_iff.2 ht
      omega
    subst this
    exact Nat.zero_le _
  | 0, _ :: _, _ :: _, _, hg, _, _, _, _ => by simp at hg
  | g + 1, x :: a, y :: b, s, hg, ha, hb, h1, h2 => by
    rw [List.pairwise_cons] at ha hb
    simp only [List.length_cons] at hg
    rw [shareGo]
    by_cases hxy : x = y
    · subst hxy
      rw [if_pos rfl]
      have hlen : s.length ≤ (s.erase x).length + 1 := by
        rw [List.length_erase]
        split <;> omega
      have hc : ∀ (l : List Txt), (∀ t, s.count t ≤ (x :: l).count t) → ∀ t, (s.erase x).count t ≤ l.count t := fun l h t => by
        have := h t
        rw [List.count_cons] at this
        rw [List.count_erase]
        by_cases e : x = t
        · subst e
          simp at this ⊢
          omega
        · have e2 : (x == t) = false := by simpa using e
          rw [e2] at this ⊢
          simpa using this
      have := share_most g a b (s.erase x) (by omega) ha.2 hb.2 (hc a h1) (hc b h2)
      omega
    · rw [if_neg hxy]
      by_cases hl : ltS x y = true
      · rw [if_pos hl]
        have hx : x ∉ y :: b := fun hm => by
          rcases List.mem_cons.1 hm with e | hm
          · exact hxy e
          · have := hb.1 x hm
            rw [hl] at this
            cases this
        have h0 : s.count x = 0 := by
          have := h2 x
          rw [List.count_eq_zero_of_not_mem hx] at this
          omega
        refine share_most g a (y :: b) s (by simp only [List.length_cons]; omega) ha.2 (List.pairwise_cons.2 hb) (fun t => ?_) h2
        have := h1 t
        rw [List.count_cons] at this
        by_cases e : x = t
        · subst e
          omega
        · have e2 : (x == t) = false := by simpa using e
          rw [e2] at this
          simpa using this
      · rw [if_neg hl]
        have hl2 : ltS y x = true := by
          cases e : ltS y x with
          | true => rfl
          | false => exact absurd (lt_tri _ _ (by simpa using hl) e) hxy
        have hy : y ∉ x :: a := fun hm => by
          rcases List.mem_cons.1 hm with e | hm
          · exact hxy e.symm
          · have := ha.1 y hm
            rw [hl2] at this
            cases this
        have h0 : s.count y = 0 := by
          have := h1 y
          rw [List.count_eq_zero_of_not_mem hy] at this
          omega
        refine share_most g (x :: a) b s (by simp only [List.length_cons]; omega) (List.pairwise_cons.2 ha) hb.2 h1 (fun t => ?_)
        have := h2 t
        rw [List.count_cons] at this
        by_cases e : y = t
        · subst e
          omega
        · have e2 : (y == t) = false := by simpa using e
          rw [e2] at this
          simpa using this
/-- no fewer than they have in common, in order -/
theorem lcs_shared (a b : List Txt) : lcs a b ≤ sharedN (a.mergeSort fun x y => decide (x ≤ y)) (b.mergeSort fun x y => decide (x ≤ y)) := by
  obtain ⟨s, h1, h2, h3⟩ := lcs_there a b
  rw [← h3]
  refine share_most _ _ _ s (Nat.le_refl _) (sorted_texts a) (sorted_texts b) (fun t => ?_) (fun t => ?_)
  · rw [(List.mergeSort_perm a fun x y => decide (x ≤ y)).count_eq]
    exact h1.count_le t
  · rw [(List.mergeSort_perm b fun x y => decide (x ≤ y)).count_eq]
    exact h2.count_le t
end Go.Proofs.Ytnpgfbgnbonhfaa

namespace Go.Proofs.Ytnpgfbgnbonhfaa
open Go.RowKit

/-- the lines of a text, sorted -/
def sortT (a : List Txt) : List Txt := a.mergeSort fun x y => decide (x ≤ y)
/-- a file's place, and its lines -/
abbrev TxS := Nat × List Txt
def SlX (w : World) (v : Value) (cs : List TxS) : Prop :=
  ∃ ao cap, v = .slice ao cs.length cap ∧ (ao = none → cs = []) ∧ cs.length ≤ cap ∧ ∀ a, ao = some a → ∀ i c, cs[i]? = some c → ∃ vl vs, w.cell? (a.add (i * 3)) = some (.int .i64 (c.1 : Nat)) ∧ w.cell? (a.add (i * 3 + 1)) = some vl ∧ w.cell? (a.add (i * 3 + 2)) = some vs ∧
    Sl w vl (strCells c.2) ∧ Sl w vs (strCells (sortT c.2))
theorem SlX.nil (w : World) : SlX w (.slice none 0 0) [] := ⟨none, 0, rfl, fun _ => rfl, Nat.le_refl _, fun a h => by cases h⟩
theorem SlX.form {w : World} {v : Value} {cs : List TxS} (h : SlX w v cs) : ∃ ao cap, v = .slice ao cs.length cap := by
  obtain ⟨ao, cap, rfl, _⟩ := h
  exact ⟨ao, cap, rfl⟩
theorem SlX.old {w w' : World} {v : Value} {cs : List TxS} (h : SlX w v cs) (hk : Below w.heap.size w w') : SlX w' v cs := by
  obtain ⟨ao, cap, rfl, hn, hcap, hc⟩ := h
  refine ⟨ao, cap, rfl, hn, hcap, fun a ha i c hi => ?_⟩
  obtain ⟨vl, vs, h1, h2, h3, h5, h6⟩ := hc a ha i c hi
  have k : ∀ {p : Addr} {u : Value}, w.cell? p = some u → w'.cell? p = some u := fun {p u} hp => (World.cell?_of_block (w := w) (hk.block _ (World.block_lt_of_cell? w _ hp))).trans hp
  exact ⟨vl, vs, k h1, k h2, k h3, h5.old hk, h6.old hk⟩
theorem SlX.at' {w : World} {ao : Option Addr} {n cap : Nat} {cs : List TxS} (h : SlX w (.slice ao n cap) cs) {i : Nat} (hi : i < cs.length) :
    ∃ b o k xl vl vs, ao = some ⟨b, o, none⟩ ∧ w.cell? ⟨b, o + i * 3, none⟩ = some (.int .i64 (k : Nat)) ∧ w.cell? ⟨b, o + i * 3 + 1, none⟩ = some vl ∧ w.cell? ⟨b, o + i * 3 + 2, none⟩ = some vs ∧
      Sl w vl (strCells xl) ∧ Sl w vs (strCells (sortT xl)) ∧ cs[i]? = some (k, xl) := by
  obtain ⟨ao', cap', hv, hn, _, hc⟩ := h
  obtain ⟨rfl, _, _⟩ := Value.slice.inj hv
  cases ao with
  | none => rw [hn rfl] at hi; cases hi
  | some a =>
    obtain ⟨b, o, sp⟩ := a
    obtain ⟨vl, vs, h1, h2, h3, h5, h6⟩ := hc _ rfl i _ (List.getElem?_eq_getElem hi)
    obtain ⟨_, _, h0, _⟩ := hc _ rfl 0 _ (List.getElem?_eq_getElem (by omega))
    rw [Nat.zero_mul, show (⟨b, o, sp⟩ : Addr).add 0 = ⟨b, o, sp⟩ from rfl] at h0
    have hsp : sp = none := World.cell?_spot h0
    subst hsp
    have hadd : ∀ j, (⟨b, o, none⟩ : Addr).add j = ⟨b, o + j, none⟩ := fun j => Addr.add_lit ..
    rw [hadd] at h1 h2 h3
    rw [← Nat.add_assoc] at h2 h3
    exact ⟨b, o, _, _, vl, vs, rfl, h1, h2, h3, h5, h6, List.getElem?_eq_getElem hi⟩

def TxFlat (w : World) (v : Value) (cs : List TxS) (flat : List Value) : Prop :=
  ∀ i c, cs[i]? = some c → ∃ vl vs, flat[i * 3]? = some (.int .i64 (c.1 : Nat)) ∧ flat[i * 3 + 1]? = some vl ∧ flat[i * 3 + 2]? = some vs ∧ NestL w v vl c.2 ∧ NestL w v vs (sortT c.2)
def OwnX (w : World) (base : Nat) (v : Value) (cs : List TxS) : Prop := ∃ flat, w.ownsRow base 90 3 v cs.length flat ∧ TxFlat w v cs flat
theorem OwnX.nil (w : World) (base : Nat) : OwnX w base (.slice none 0 0) [] := ⟨[], World.ownsRow_nil _ _ _ _, fun i h hi => by simp at hi⟩
theorem OwnX.form {w : World} {base : Nat} {v : Value} {cs : List TxS} (h : OwnX w base v cs) : ∃ ao cap, v = .slice ao cs.length cap := by
  obtain ⟨flat, h, _⟩ := h
  exact owns_form h
theorem OwnX.lt {w : World} {base : Nat} {v : Value} {cs : List TxS} (h : OwnX w base v cs) : ∀ j, v.ownBlock = some j → base ≤ j ∧ j < w.heap.size := by
  obtain ⟨flat, h, _⟩ := h
  exact h.lt
theorem OwnX.slX {w : World} {base : Nat} {v : Value} {cs : List TxS} (h : OwnX w base v cs) : SlX w v cs := by
  obtain ⟨flat, h1, h2⟩ := h
  rcases h1.2 with ⟨rfl, hn⟩ | ⟨g, cap, cur, rfl, r⟩
  · have : cs = [] := List.eq_nil_of_length_eq_zero hn
    subst this
    exact SlX.nil w
  · refine ⟨some ⟨g, 0, none⟩, cap, rfl, (fun h => by cases h), r.2.2.1, fun a ha i x hx => ?_⟩
    cases ha
    obtain ⟨vl, vs, e1, e2, e3, n1, n2⟩ := h2 i x hx
    exact ⟨vl, vs, h1.cells rfl _ _ e1, h1.cells rfl _ _ e2, h1.cells rfl _ _ e3, n1.1, n2.1⟩
/-- what keeps all that was there keeps the list -/
theorem OwnX.old {w w' : World} {base : Nat} {v : Value} {cs : List TxS} (h : OwnX w base v cs) (hk : Below w.heap.size w w') : OwnX w' base v cs := by
  obtain ⟨flat, h1, h2⟩ := h
  refine ⟨flat, ?_, fun i x hx => ?_⟩
  · rcases h1.2 with ⟨rfl, h0⟩ | ⟨g, cap, cur, rfl, r1, r2, r3⟩
    · exact ⟨h1.1, .inl ⟨rfl, h0⟩⟩
    · exact ⟨h1.1, .inr ⟨g, cap, cur, rfl, r1, (hk.block g (h1.lt g rfl).2).trans r2, r3⟩⟩
  · obtain ⟨vl, vs, e1, e2, e3, n1, n2⟩ := h2 i x hx
    have k : ∀ {u xs}, NestL w v u xs → NestL w' v u xs := fun n => n.kept (fun b hb _ => hk.block b hb) hk.size (.inl rfl)
    exact ⟨vl, vs, e1, e2, e3, k n1, k n2⟩
theorem Try.infoTx : (Try.prog.info? 90).map (fun i => (i.zero, i.size, i.bytes)) = some (some (.agg #[.int .i64 0, .slice none 0 0, .slice none 0 0]), 3, 56) := by kernel_rfl
theorem Try.sizeTx : (Try.prog.info? 90).map (·.size) = some 3 := by kernel_rfl

section
variable {w : World}
theorem tx_appended {base : Nat} {v : Value} {cs : List TxS} {k : Nat} {xl : List Txt} {vl vs : Value} {flat : List Value} (h1 : w.ownsRow base 90 3 v cs.length flat)
    (h2 : TxFlat w v cs flat) (hn1 : NestL w v vl xl) (hn2 : NestL w v vs (sortT xl))
    {o : Obj} {v' : Value} {w' : World} (q1 : w'.ownsRow base 90 3 v' (cs.length + 1) (flat ++ [.int .i64 (k : Nat), vl, vs])) (q2 : (w.alloc o).grownBy w' v.ownBlock) (q3 : v'.ownBlock = v.ownBlock ∨ v'.ownBlock = some (w.alloc o).heap.size) :
    OwnX w' base v' (cs ++ [(k, xl)]) := by
  have hl := h1.1
  have hz : (w.alloc o).heap.size = w.heap.size + 1 := by simp
  have keep : ∀ b, b < w.heap.size → v.ownBlock ≠ some b → w'.heap[b]? = w.heap[b]? := fun b hb hne => (q2.block b (by omega) (fun e => hne e.symm)).trans (Below.heap_alloc w _ b hb)
  have hv : v'.ownBlock = v.ownBlock ∨ ∃ f, v'.ownBlock = some f ∧ w.heap.size ≤ f := by
    rcases q3 with e | e
    · exact .inl e
    · exact .inr ⟨_, e, by omega⟩
  have hsz : w.heap.size ≤ w'.heap.size := by have := q2.size; omega
  have kk : ∀ {u xs}, NestL w v u xs → NestL w' v' u xs := fun n => n.kept keep hsz hv
  refine ⟨flat ++ [.int .i64 (k : Nat), vl, vs], by rw [List.length_append]; exact q1, fun i x hx => ?_⟩
  by_cases hi : i < cs.length
  · rw [List.getElem?_append_left hi] at hx
    obtain ⟨a, b, e1, e2, e3, n1, n2⟩ := h2 i x hx
    refine ⟨a, b, ?_, ?_, ?_, kk n1, kk n2⟩
    · rw [List.getElem?_append_left (by omega)]; exact e1
    · rw [List.getElem?_append_left (by omega)]; exact e2
    · rw [List.getElem?_append_left (by omega)]; exact e3
  · have hlt := (List.getElem?_eq_some_iff.1 hx).1
    rw [List.length_append, List.length_singleton] at hlt
    obtain rfl : i = cs.length := by omega
    rw [List.getElem?_append_right (Nat.le_refl _), Nat.sub_self] at hx
    cases hx
    refine ⟨vl, vs, ?_, ?_, ?_, kk hn1, kk hn2⟩
    · rw [List.getElem?_append_right (by omega), show cs.length * 3 - flat.length = 0 by omega]; rfl
    · rw [List.getElem?_append_right (by omega), show cs.length * 3 + 1 - flat.length = 1 by omega]; rfl
    · rw [List.getElem?_append_right (by omega), show cs.length * 3 + 2 - flat.length = 2 by omega]; rfl
theorem wp_append_txt3 {o : Oper} {a : Act} {K : Act → World → Prop} {Q : Exit → Act → World → Prop} (s sx : Operand)
    (ho : o.op = .call { callee := .builtin .append, args := #[s, sx], argTypes := #[87, 87] })
    (base : Nat) (v : Value) (cs : List TxS) (k : Nat) (xl : List Txt) (vl vs : Value) (he : a.eval s = v) (hown : OwnX w base v cs) (hn1 : NestL w v vl xl) (hn2 : NestL w v vs (sortT xl))
    (hx : a.eval sx = .slice (some ⟨w.heap.size, 0, none⟩) 1 1) (c1 : vl.oneCell' = true) (c2 : vs.oneCell' = true) (hlen : cs.length ≤ 4000000) (hbase : base ≤ w.heap.size)
    (h : ∀ v' w', OwnX w' base v' (cs ++ [(k, xl)]) → Below base w w' → (∀ b, b < w.heap.size → v.ownBlock ≠ some b → w'.heap[b]? = w.heap[b]?) → K (a.put o.dst v') w') : o.wp Try.prog a (w.alloc (.cells #[.int .i64 (k : Nat), vl, vs] 90)) K Q := by
  obtain ⟨flat, h1, h2⟩ := hown
  obtain ⟨i0, hi0, hi1, hi2, hi3⟩ := info_parts Try.infoTx
  have hz : (w.alloc (.cells #[.int .i64 (k : Nat), vl, vs] 90)).heap.size = w.heap.size + 1 := by simp
  refine wp_append_any _ s sx _ _ ho base 90 i0 _ 3 56 Try.underlying87 hi0 hi1 hi2 hi3 rfl (by omega) v _ _ he (h1.alloc _) _ 1 [.int .i64 (k : Nat), vl, vs] hx
    (Src.ofSlice _ Try.underlying87 ⟨w.heap.size, 0, none⟩ 1 1 [.int .i64 (k : Nat), vl, vs] (by rfl) (World.news_of_block (cs := #[.int .i64 (k : Nat), vl, vs]) (t := 90) (fr := (0, 0)) (heap_alloc_new w _)) (fun u hu => ?_)) (by unfold maxLen; omega) (by omega) (by omega) fun v' w' q1 q2 q3 => h v' w' (tx_appended h1 h2 hn1 hn2 q1 q2 q3) ?_ fun b hb hne => (q2.block b (by omega) (fun e => hne e.symm)).trans (Below.heap_alloc w _ b hb)
  · rcases List.mem_cons.1 hu with rfl | hu
    · rfl
    rcases List.mem_cons.1 hu with rfl | hu
    · exact c1
    rcases List.mem_cons.1 hu with rfl | hu
    · exact c2
    cases hu
  · exact ((Below.refl base w).alloc hbase _).grown q2 (by omega) (fun j hj => (h1.lt j hj).1)
theorem wpList_append_txt3 {ops : Array Oper} {rest : List Oper} {o : Oper} {a : Act} {Q : Exit → Act → World → Prop} (hgd : o.guard = none) (s sx : Operand)
    (ho : o.op = .call { callee := .builtin .append, args := #[s, sx], argTypes := #[87, 87] })
    (base : Nat) (v : Value) (cs : List TxS) (k : Nat) (xl : List Txt) (vl vs : Value) (he : a.eval s = v) (hown : OwnX w base v cs) (hn1 : NestL w v vl xl) (hn2 : NestL w v vs (sortT xl))
    (g : Nat) (hg : w.heap.size = g) (hx : a.eval sx = .slice (some ⟨g, 0, none⟩) 1 1) (c1 : vl.oneCell' = true) (c2 : vs.oneCell' = true) (hlen : cs.length ≤ 4000000) (hbase : base ≤ w.heap.size)
    (h : ∀ v' w', OwnX w' base v' (cs ++ [(k, xl)]) → Below base w w' → wpList Try.prog ops Q rest (a.put o.dst v') w') : wpList Try.prog ops Q (o :: rest) a (w.alloc (.cells #[.int .i64 (k : Nat), vl, vs] 90)) := by
  subst hg
  exact wpList_plain hgd fun _ hK => wp_append_txt3 s sx ho base v cs k xl vl vs he hown hn1 hn2 hx c1 c2 hlen hbase fun v' w' h2 h3 _ => hK _ _ (h v' w' h2 h3)
end
end Go.Proofs.Ytnpgfbgnbonhfaa

namespace Go.Proofs.Ytnpgfbgnbonhfaa
open Go.RowKit

attribute [local go_sem] Oper.semAt_some

section
set_option maxRecDepth 100000
set_option maxHeartbeats 4000000
theorem Vals_any (ao : Option Addr) (n cap : Nat) (w : World) :
    Calls Try.prog 76 #[.slice ao n cap] w fun e w' => e = .returned (.func (.func 83) #[] #[.pointer (some ⟨w.heap.size, 0, none⟩)]) ∧ w' = w.alloc (.cells #[.slice ao n cap] 47) := by
  go_enter Try.func76, Try.ntmps76
  go_wp2
  go_ret
  exact ⟨rfl, rfl⟩

/-- what the k-th round is handed -/
def valEnc (a : List Txt) (k : Nat) : Array Value := #[.string ⟨(a[k]?.getD []).toArray⟩]
theorem vals_rounds (w1 w : World) (Bs : Nat) (va : Value) (a : List Txt) (ha : Sl w1 va (strCells a)) (hb : Below w1.heap.size w1 w) (hBs : w.cell? ⟨Bs, 0, none⟩ = some va) (hn : a.length ≤ 1000000) :
    Rounds Try.prog 83 #[.pointer (some ⟨Bs, 0, none⟩)] a.length (valEnc a) (KpB w1.heap.size Bs) w := fun l J W hW hY h0 => by
  obtain ⟨ao, cap, rfl⟩ := ha.form
  rw [strCells_length] at ha hBs
  obtain ⟨n, hn'⟩ : ∃ n, a.length = n := ⟨_, rfl⟩
  rw [hn'] at ha hBs hn hY ⊢
  have HA := hid hn'
  have hBlt : Bs < w.heap.size := World.block_lt_of_cell? w _ hBs
  have hB1 : W.cell? ⟨Bs, 0, none⟩ = _ := (hW.cell (p := ⟨Bs, 0, none⟩) hBlt).trans hBs
  have HW1 := hid (hb.trans (hW.mono hb.size) : Below w1.heap.size w1 W)
  have HY := hid hY
  have n0 : (0 : Int) ≤ (n : Int) := Int.natCast_nonneg _
  clear hY hn' hBs hW hb
  refine callsIn_of_wp Try.func83 rfl trivial ?_ rfl
  simp only [Try.ntmps83, List.size_toArray, List.length_cons, List.length_nil, Nat.reduceAdd, Nat.reduceSub, Array.replicate_succ, Array.replicate_zero, List.push_toArray, List.append_toArray, List.nil_append, List.cons_append]
  gi_wp2
  gi_loopw [7] (fun i wr => ∃ k : Nat, k ≤ n ∧ i = .int .i64 (k : Int) ∧ Hid (J k wr) ∧ Hid (KpB w1.heap.size Bs W wr)) (fun i _ => n - (intOf i).toNat)
  case atStart => exact ⟨0, Nat.zero_le _, by simp, hid h0, hid (KpB.refl _ _ _)⟩
  case round =>
    obtain ⟨k, hk, rfl, HJ, HK⟩ := hrel
    by_cases hlt : k < n
    · obtain ⟨fn, tmps, assign, body, hy, hR⟩ := HY.out k wr hlt HJ.out
      obtain ⟨a1, x, rfl, hcx, hx⟩ := (Sl.old ha (HW1.out.trans HK.out.1)).strAt' (i := k) (by rw [HA.out]; omega)
      rw [valEnc, hx, Option.getD_some] at hy
      have hB2 : wr.cell? ⟨Bs, 0, none⟩ = _ := (World.cell?_of_block (w := W) HK.out.2).trans hB1
      have k0 : (0 : Int) ≤ (k : Int) := Int.natCast_nonneg _
      have k1 : (k : Int) < (n : Int) := by omega
      have kw : IntKind.i64.wrap ((k : Int) + 1) = (k : Int) + 1 := IntWalk.i64_in _ (by omega)
      have HR := hid hR
      clear hx hR
      gi_wp2
      refine HR.out.mono ?_
      rintro e W3 ⟨rfl, hJ3, hk3⟩
      have HJ3 := hid hJ3
      have HK3 := hid (HK.out.trans hk3)
      clear hJ3 hk3
      gi_wp2
      go_roundw
      case rel => exact ⟨k + 1, by omega, by go_num, HJ3, HK3⟩
      case measure => simp [intOf]; omega
    · obtain rfl : k = n := by omega
      have hneg : ¬ (k : Int) < (k : Int) := by omega
      gi_wp2
      go_end0
      exact ⟨⟨_, rfl⟩, HJ.out⟩

/-- between two rounds: the box holds a slice of the call's own with what has come -/
def ApI (w : World) (a : List Txt) (k : Nat) (W : World) : Prop :=
  ∃ v, W.heap[w.heap.size]? = some (.cells #[v] 47 (0, 0)) ∧ OwnT W w.heap.size v (a.take k) ∧ Below w.heap.size w W
theorem ApI.own {B : Nat} {w : World} {a : List Txt} (hB : w.heap.size ≤ B) : OwnFrom B (ApI w a) := fun k X Y row hs hg hr => by
  obtain ⟨v, hv, ho, hb⟩ := hs
  have keep : ∀ {b : Nat} {cs : Array Value} {t : TypeId}, X.heap[b]? = some (.cells cs t (0, 0)) → Y.heap[b]? = some (.cells cs t (0, 0)) := fun {b cs t} hb => by
    refine (hg.block b (lt_of_block hb) fun e => ?_).trans hb
    obtain ⟨_, o, ho, hc⟩ := hr b e.symm
    rw [hb] at ho
    cases ho
    cases hc
  refine ⟨v, keep hv, ?_, hb.grown hg hb.size (fun j e => by have := (hr j e).1; omega)⟩
  rcases ho.2 with ⟨rfl, h0⟩ | ⟨g, cap, cur, rfl, h1, h2, h3⟩
  · exact ⟨ho.1, .inl ⟨rfl, h0⟩⟩
  · exact ⟨ho.1, .inr ⟨g, cap, cur, rfl, h1, keep h2, h3⟩⟩
theorem ApSeq_any (w1 w : World) (Bs : Nat) (va : Value) (a : List Txt) (ha : Sl w1 va (strCells a)) (hb : Below w1.heap.size w1 w) (hBs : w.cell? ⟨Bs, 0, none⟩ = some va) (hn : a.length ≤ 1000000) :
    Calls Try.prog 86 #[.slice none 0 0, .func (.func 83) #[] #[.pointer (some ⟨Bs, 0, none⟩)]] w fun e w' => ∃ v, e = .returned v ∧ OwnT w' w.heap.size v a ∧ Below w.heap.size w w' := by
  obtain ⟨i0, hi0, hi1, hi2, hi3⟩ := info_parts Try.infoStr
  have hBlt : Bs < w.heap.size := World.block_lt_of_cell? w _ hBs
  have HN := hid hn
  have HA := hid ha
  have HB := hid hb
  have HBS := hid hBs
  have hw1 := hb.size
  clear ha hb hBs hn
  refine (callsIn_wide (n := 3)).1 ?_
  refine callsIn_of_wp_marks Try.func86 rfl trivial ?_ rfl
  refine (wpIn_wide (n := 3)).2 ?_
  simp only [Try.ntmps86, List.size_toArray, List.length_cons, List.length_nil, Nat.reduceAdd, Nat.reduceSub, Array.replicate_succ, Array.replicate_zero, List.push_toArray, List.append_toArray, List.nil_append, List.cons_append]
  go_wp2_with fail
  obtain ⟨w9, hw9⟩ : ∃ w9, w.alloc (.cells #[.slice none 0 0] 47) = w9 := ⟨_, rfl⟩
  have hz9 : w9.heap.size = w.heap.size + 1 := by rw [← hw9]; simp
  have hb9 : Below w.heap.size w w9 := by rw [← hw9]; exact (Below.refl _ w).alloc (Nat.le_refl _) _
  have hv9 : w9.heap[w.heap.size]? = some (.cells #[.slice none 0 0] 47 (0, 0)) := by rw [← hw9]; exact World.alloc_heap_new w _
  have hB9 : w9.cell? ⟨Bs, 0, none⟩ = some va := (hb9.cell (p := ⟨Bs, 0, none⟩) hBlt).trans HBS.out
  rw [hw9]
  clear hw9
  refine (wpIn_wide (n := 3)).1 ?_
  refine' wpIn_rounds (gf := 83) (lb := #[.pointer (some ⟨Bs, 0, none⟩)]) (N := a.length) (enc := valEnc a) (Kp := KpB w1.heap.size Bs) (w0 := w9) rfl (enters_of Try.func83 (by kernel_rfl) rfl) ?seq (Below.refl _ _) (fun _ => rfl) KpB.trans ?kb (ApI w a) (ApI.own hb9.size) ?start _ ?assign ?body ?done
  case seq => exact vals_rounds w1 w9 Bs va a HA.out (HB.out.trans (hb9.mono hw1)) hB9 HN.out
  case kb => exact fun W l o h1 h2 => KpB.put W o (by omega) (by omega) h2
  case start => exact ⟨_, hv9, ⟨rfl, .inl ⟨rfl, rfl⟩⟩, hb9⟩
  case assign =>
    intro l k W K hK
    dsimp only [valEnc]
    gi_wp2
    exact hK
  case body =>
    rintro l k W hk ⟨v, hv, ho, hbW⟩
    obtain ⟨x, hx⟩ : ∃ x, a[k]? = some x := ⟨_, List.getElem?_eq_getElem (by omega)⟩
    rw [hx, Option.getD_some]
    have hTK : a.take (k + 1) = a.take k ++ [x] := by rw [List.take_add_one, hx]; rfl
    have hkl : (a.take k).length ≤ 1000000 := by rw [List.length_take]; have := HN.out; omega
    have cv : W.cell? ⟨w.heap.size, 0, none⟩ = some v := blk_cell (i := 0) hv rfl
    have fv : W.frozen? ⟨w.heap.size, 0, none⟩ = false := by simp [World.frozen?, hv]
    have HV := hid hv
    have HO := hid ho
    have hlt := lt_of_block hv
    clear hv ho hx
    have hne : ∀ (X : World) (u : Value) (n : Nat) (xs : List Value) (c : Array Value), X.ownsRow w.heap.size 9 1 u n xs → X.heap[w.heap.size]? = some (.cells c 47 (0, 0)) → some w.heap.size ≠ u.ownBlock := fun X u n xs c h hj e => by
      rcases ownsRow_ne_a h hj (fun cur e => absurd (Obj.cells.inj e).2.1 (by decide)) with h1 | h1
      · rw [h1] at e
        cases e
      · exact h1 e.symm
    have HNE := hid hne
    clear hne
    gi_wp2_with (first
      | (gi_at_builtin; refine wpListIn_append_own _ rfl _ _ 47 rfl w.heap.size 9 i0 (.string ⟨#[]⟩) 1 16 Try.underlying47 hi0 hi1 hi2 hi3 rfl (by decide) _ _ _ rfl (HO.out.alloc _) ⟨W.heap.size, 0, none⟩ 1 1 [strV x] rfl rfl (cell_one_new _ _ _) (by simp [Value.oneCell', strV]) (by unfold maxLen; omega) (by omega) (by have := hbW.size; simp; omega) ?_; intro v3 w3 hown3 hg3 hnil3
         obtain ⟨a3, c3, rfl⟩ := owns_form hown3
         have hv3 := hid ((hg3.block w.heap.size (by simp; omega) (HNE.out _ _ _ _ _ HO.out HV.out)).trans ((Below.heap_alloc W _ _ hlt).trans HV.out))
         have cv3 : w3.cell? ⟨w.heap.size, 0, none⟩ = some v := blk_cell (i := 0) hv3.out rfl
         have fv3 : w3.frozen? ⟨w.heap.size, 0, none⟩ = false := by simp [World.frozen?, hv3.out]
         have HG3 := hid hg3
         have HO3 := hid hown3
         clear hg3 hown3 hnil3)
      | gi_round_op_a)
    have hml : (a.take k).length = min k a.length := List.length_take ..
    have ho3 := HO3.out
    have hcells : ∀ (j : Nat) (o : Obj), v.ownBlock = some j → (W.alloc (.cells #[strV x] 9)).heap[j]? = some o → o.isCells = true := fun j o hj ho => by
      rcases (show OwnT (W.alloc (.cells #[strV x] 9)) w.heap.size v (a.take k) from HO.out.alloc _).2 with ⟨rfl, _⟩ | ⟨g, cap, cur, rfl, _, h2, _⟩
      · cases hj
      · cases hj
        rw [h2] at ho
        cases ho
        rfl
    have hb4 : Below w.heap.size W (w3.setCell ⟨w.heap.size, 0, none⟩ (Value.slice a3 (min k a.length + 1) c3)) :=
      ((((Below.refl w.heap.size W).alloc hbW.size _).grown HG3.out (by have := hbW.size; simp; omega) (fun j e => (HO.out.lt j e).1)).setCell (Nat.le_refl _) _)
    refine ⟨(((KeepsOthers.alloc W _).trans (KeepsOthers.of_grownBy HG3.out hcells)).trans (KeepsOthers.setCell _ _ _)).from _, ⟨hb4.mono hw1, hb4.block Bs hBlt⟩, .slice a3 (min k a.length + 1) c3, ?_, ?_, hbW.trans hb4⟩
    · have := blk_set (i := 0) (u := .slice a3 (min k a.length + 1) c3) hv3.out
      simpa using this
    · have hn3 := HNE.out _ _ _ _ _ ho3 hv3.out
      rw [hml] at ho3 hn3
      have hlen : (a.take (k + 1)).length = min k a.length + 1 := by rw [hTK, List.length_append, hml]; rfl
      have hfl : flatR encT (a.take (k + 1)) = flatR encT (a.take k) ++ [strV x] := by rw [hTK, flatR_append, flatR_one]; rfl
      unfold OwnT
      rw [hlen, hfl]
      refine ⟨ho3.1, ?_⟩
      rcases ho3.2 with ⟨hn0, h0⟩ | ⟨g, cap, cur, hve, h1, h2, h3⟩
      · exact .inl ⟨hn0, h0⟩
      · refine .inr ⟨g, cap, cur, hve, h1, ?_, h3⟩
        rw [hve] at hn3
        exact (Below.heap_setCell _ _ _ _ (fun e => hn3 (by rw [show g = w.heap.size from e]; rfl))).trans h2
  case done =>
    rintro D W hD ⟨v, hv, ho, hbW⟩ hK
    have cv : W.cell? ⟨w.heap.size, 0, none⟩ = some v := blk_cell (i := 0) hv rfl
    rw [List.take_length] at ho
    have HO := hid ho
    clear ho hv
    dsimp only
    go_wp2_with fail
    refine ⟨by simp, .inl ⟨_, _, rfl, run_takeDeferred hK, ?_⟩⟩
    refine ⟨_, results_tmp rfl _ _ _, v, rfl, ?_, hbW.trans (belowK_b (w := w) (Nat.le_refl _) W D _ _ (by omega) hK rfl rfl)⟩
    rcases HO.out.2 with ⟨rfl, h0⟩ | ⟨g, cap, cur, rfl, h1, h2, h3⟩
    · exact ⟨HO.out.1, .inl ⟨rfl, h0⟩⟩
    · refine ⟨HO.out.1, .inr ⟨g, cap, cur, rfl, h1, ?_, h3⟩⟩
      rw [World.putObj_heap_other (fun e => by rw [← e, h2] at hK; cases hK)]
      exact h2

theorem Coll_any (w1 w : World) (Bs : Nat) (va : Value) (a : List Txt) (ha : Sl w1 va (strCells a)) (hb : Below w1.heap.size w1 w) (hBs : w.cell? ⟨Bs, 0, none⟩ = some va) (hn : a.length ≤ 1000000) :
    Calls Try.prog 81 #[.func (.func 83) #[] #[.pointer (some ⟨Bs, 0, none⟩)]] w fun e w' => ∃ v, e = .returned v ∧ OwnT w' w.heap.size v a ∧ Below w.heap.size w w' := by
  have HC := hid (ApSeq_any w1 w Bs va a ha hb hBs hn)
  clear ha hb hBs hn
  go_enter Try.func81, Try.ntmps81
  go_wp2_with (go_at_call 86; refine HC.out.mono ?_; rintro e w2 ⟨v, rfl, ho, hb2⟩)
  go_ret
  exact ⟨v, rfl, ho, hb2⟩
theorem Sorted_any (w1 w : World) (Bs : Nat) (va : Value) (a : List Txt) (ha : Sl w1 va (strCells a)) (hb : Below w1.heap.size w1 w) (hBs : w.cell? ⟨Bs, 0, none⟩ = some va) (hn : a.length ≤ 1000000) :
    Calls Try.prog 75 #[.func (.func 83) #[] #[.pointer (some ⟨Bs, 0, none⟩)]] w fun e w' => ∃ v, e = .returned v ∧ OwnT w' w.heap.size v (sortT a) ∧ Below w.heap.size w w' := by
  have HC := hid (Coll_any w1 w Bs va a ha hb hBs hn)
  have HN := hid hn
  clear ha hb hBs hn
  go_enter Try.func75, Try.ntmps75
  go_wp2_with fail
  refine HC.out.mono ?_
  rintro e w2 ⟨v, rfl, ho, hb2⟩
  have HS := hid (PSort_any v a w2 w.heap.size hb2.size ho HN.out)
  have HB := hid hb2
  clear ho hb2
  go_wp2_with (go_at_call 82; refine HS.out.mono ?_; rintro e w3 ⟨rfl, ho3, hb3⟩)
  go_ret
  exact ⟨v, rfl, ho3, HB.out.trans hb3⟩
end
end Go.Proofs.Ytnpgfbgnbonhfaa

namespace Go.Proofs.Ytnpgfbgnbonhfaa
open Go.RowKit

section
set_option maxRecDepth 100000
set_option maxHeartbeats 4000000
theorem drewN_more {w wr : World} (h : ∃ q, wr = w.drewN q) (n : Nat) : ∃ q, wr.drewN n = w.drewN q := by
  obtain ⟨q, rfl⟩ := h
  exact ⟨q + n, World.drewN_drewN ..⟩
theorem DShared_any (va vb : Value) (a b : List Txt) (w : World) (ha : Sl w va (strCells a)) (hb : Sl w vb (strCells b)) (hal : a.length ≤ 1000000) (hbl : b.length ≤ 1000000) :
    Calls Try.prog 77 #[va, vb] w fun e w' => e = .returned (.int .i64 (sharedN a b : Nat)) ∧ ∃ q, w' = w.drewN q := by
  have HA := hid ha
  have HB := hid hb
  have HL := hid (And.intro hal hbl)
  have hsl := share_le (a.length + b.length) a b
  have HS := hid (show sharedN a b = shareGo (a.length + b.length) a b from rfl)
  obtain ⟨N, hN⟩ : ∃ N, sharedN a b = N := ⟨_, rfl⟩
  have HN := hid (show N ≤ 1000000 by rw [← hN]; exact Nat.le_trans hsl hal)
  rw [hN] at HS ⊢
  have HC := hid fun (x y : Txt) (wx : World) => PCmp_any x y wx
  unfold strV at HC
  clear ha hb hal hbl hsl hN
  go_enter Try.func77, Try.ntmps77
  go_wp2_with fail
  go_loopg [0, 1, 5] (a.length + b.length) (fun kx s0 s1 s5 wr => ∃ (x y : List Txt) (n : Nat), Hid (Sl wr s0 (strCells x)) ∧ Hid (Sl wr s1 (strCells y)) ∧ s5 = .int .i64 n ∧ Hid (n + shareGo kx x y = N ∧ x.length + y.length ≤ kx ∧ x.length ≤ 1000000 ∧ y.length ≤ 1000000) ∧ Hid (∃ q, wr = w.drewN q))
  case atStart => exact ⟨a, b, 0, HA, HB, rfl, hid ⟨by rw [Nat.zero_add]; exact HS.out.symm, Nat.le_refl _, HL.out.1, HL.out.2⟩, hid ⟨0, rfl⟩⟩
  case round =>
    clear HA HB HS
    obtain ⟨x, y, n, HX, HY, rfl, HQ, HW⟩ := hrel
    obtain ⟨ao, ac, rfl⟩ := HX.out.form
    obtain ⟨bo, bc, rfl⟩ := HY.out.form
    rw [strCells_length] at HX
    rw [strCells_length] at HY
    rw [strCells_length, strCells_length]
    have fin : ∀ m : Nat, m = N → Value.int .i64 (m : Int) = .int .i64 (N : Int) := fun m e => by rw [e]
    have HFIN := hid fin
    clear fin
    cases x with
    | nil =>
      have hQ := HQ.out
      have hnn : n = N := by
        have h1 := hQ.1
        have h2 := share_le gk [] y
        simp only [List.length_nil] at h2
        omega
      subst hnn
      rw [List.length_nil]
      clear hQ HQ HX HY
      go_wp2_with fail
      go_ret
      exact ⟨rfl, HW.out⟩
    | cons x0 x' =>
    cases y with
    | nil =>
      have hQ := HQ.out
      have hnn : n = N := by
        have h1 := hQ.1
        cases gk with
        | zero => exact h1
        | succ g => exact h1
      have hp : (0 : Int) < ((x0 :: x').length : Int) := by simp only [List.length_cons]; omega
      subst hnn
      rw [List.length_nil]
      obtain ⟨p, hpp⟩ : ∃ p, (x0 :: x').length = p := ⟨_, rfl⟩
      rw [hpp] at hp ⊢
      clear hQ HQ HX HY hpp
      go_wp2_with fail
      go_ret
      exact ⟨rfl, HW.out⟩
    | cons y0 y' =>
    have hQ := HQ.out
    cases gk with
    | zero => exact absurd hQ.2.1 (by simp)
    | succ g =>
    obtain ⟨a1, x1, ea, hca, hxa⟩ := HX.out.strAt' (i := 0) (by simp)
    obtain ⟨b1, y1, eb, hcb, hyb⟩ := HY.out.strAt' (i := 0) (by simp)
    simp only [List.getElem?_cons_zero, Option.some.injEq] at hxa hyb
    subst hxa hyb ea eb
    have z0 : ∀ u : Addr, u.add 0 = u := fun u => by obtain ⟨bb, oo, sp⟩ := u; cases sp <;> rfl
    rw [z0] at hca hcb
    clear z0
    obtain ⟨fo, fc, rf, hf⟩ := cutS_from HX.out 1 (by simp)
    obtain ⟨so, sc, rs, hs⟩ := cutS_from HY.out 1 (by simp)
    have hp : (0 : Int) < ((x0 :: x').length : Int) := by simp only [List.length_cons]; omega
    have hq : (0 : Int) < ((y0 :: y').length : Int) := by simp only [List.length_cons]; omega
    have lx : (x0 :: x').length ≤ 1000000 := hQ.2.2.1
    have ly : (y0 :: y').length ≤ 1000000 := hQ.2.2.2
    have hn1 : n ≤ 1000000 := by have := HN.out; have := hQ.1; omega
    have nw : IntKind.i64.wrap ((n : Int) + 1) = (n : Int) + 1 := IntWalk.i64_in _ (by omega)
    rw [show (x0 :: x').drop 1 = x' from rfl] at hf
    rw [show (y0 :: y').drop 1 = y' from rfl] at hs
    have rf1 : ∀ wx, (Instr.slice 47 (.slice (some a1) (x0 :: x').length ac) (some (.int .i64 1)) none none).run Try.prog wx = .ok (.slice fo ((x0 :: x').length - 1) fc) wx := rf
    have rs1 : ∀ wx, (Instr.slice 47 (.slice (some b1) (y0 :: y').length bc) (some (.int .i64 1)) none none).run Try.prog wx = .ok (.slice so ((y0 :: y').length - 1) sc) wx := rs
    have hsg : n + shareGo (g + 1) (x0 :: x') (y0 :: y') = N := hQ.1
    have hlen : x'.length + y'.length + 2 ≤ g + 1 := by have := hQ.2.1; simp only [List.length_cons] at this; omega
    have hlx : x'.length ≤ 1000000 ∧ y'.length ≤ 1000000 := by simp only [List.length_cons] at lx ly; omega
    have HSG := hid hsg
    have HLN := hid hlen
    have HLX := hid (And.intro hlx (And.intro lx ly))
    have HF := hid hf
    have HS2 := hid hs
    obtain ⟨p, hpp⟩ : ∃ p, (x0 :: x').length = p := ⟨_, rfl⟩
    obtain ⟨q, hqq⟩ : ∃ q, (y0 :: y').length = q := ⟨_, rfl⟩
    obtain ⟨p1, hp1⟩ : ∃ p1, (x0 :: x').length - 1 = p1 := ⟨_, rfl⟩
    obtain ⟨q1, hq1⟩ : ∃ q1, (y0 :: y').length - 1 = q1 := ⟨_, rfl⟩
    rw [hp1] at rf1 HF
    rw [hq1] at rs1 HS2
    rw [hpp] at hp rf1 HX ⊢
    rw [hqq] at hq rs1 HY ⊢
    have p0 : (0 : Int) ≤ (p : Int) := by omega
    have q0 : (0 : Int) ≤ (q : Int) := by omega
    clear hQ HQ hpp hqq hp1 hq1 hf hs rf rs hsg hlen hlx lx ly hn1
    have hcq := HC.out x0 y0
    have hz := cmp_zero x0 y0
    have hng := cmp_neg x0 y0
    obtain ⟨c, hc⟩ : ∃ c, Lib.compareBytes x0 y0 = c := ⟨_, rfl⟩
    rw [hc] at hcq hz hng
    clear hc
    have HCQ := hid hcq
    clear hcq
    by_cases he : x0 = y0
    · subst he
      have hc0 : c = 0 := by simpa using hz
      subst hc0
      have HG := hid (show (n + 1) + shareGo g x' y' = N by have := HSG.out; rw [shareGo, if_pos rfl] at this; omega)
      clear hz hng
      go_wp2_with fail
      go_quiet ((go_at_call 45; exact Calls.quiet_of_same ((HCQ.out _).mono fun _ _ ⟨h, e⟩ => ⟨h, e.symm⟩)))
      go_wp2_with fail
      go_roundg g
      case measure => omega
      case rel => exact ⟨x', y', n + 1, HF, HS2, by go_num, hid ⟨HG.out, by have := HLN.out; omega, HLX.out.1.1, HLX.out.1.2⟩, hid (drewN_more HW.out nq)⟩
    · have hc0 : (c == 0) = false := by rw [hz]; simpa using he
      have hc1 : ¬ c = 0 := by simpa using hc0
      by_cases hl : ltS x0 y0 = true
      · rw [hl] at hng
        have hcn : c < 0 := of_decide_eq_true hng
        have hcl : c ≤ 0 := by omega
        have hcg : ¬ 0 ≤ c := by omega
        have HG := hid (show n + shareGo g x' (y0 :: y') = N by have := HSG.out; rwa [shareGo, if_neg he, if_pos hl] at this)
        clear hz hng hcn
        go_wp2_with fail
        go_quiet ((go_at_call 45; exact Calls.quiet_of_same ((HCQ.out _).mono fun _ _ ⟨h, e⟩ => ⟨h, e.symm⟩)))
        go_wp2_with fail
        go_roundg g
        case measure => omega
        case rel => exact ⟨x', y0 :: y', n, HF, HY, rfl, hid ⟨HG.out, by have := HLN.out; simp only [List.length_cons]; omega, HLX.out.1.1, HLX.out.2.2⟩, hid (drewN_more HW.out nq)⟩
      · have hl0 : ltS x0 y0 = false := by simpa using hl
        rw [hl0] at hng
        have hcn : ¬ c < 0 := of_decide_eq_false hng
        have hcl : ¬ c ≤ 0 := by omega
        have hcg : 0 ≤ c := by omega
        have HG := hid (show n + shareGo g (x0 :: x') y' = N by have := HSG.out; rwa [shareGo, if_neg he, if_neg hl] at this)
        clear hz hng hcn
        go_wp2_with fail
        go_quiet ((go_at_call 45; exact Calls.quiet_of_same ((HCQ.out _).mono fun _ _ ⟨h, e⟩ => ⟨h, e.symm⟩)))
        go_wp2_with fail
        go_roundg g
        case measure => omega
        case rel => exact ⟨x0 :: x', y', n, HX, HS2, rfl, hid ⟨HG.out, by have := HLN.out; simp only [List.length_cons]; omega, HLX.out.2.1, HLX.out.1.2⟩, hid (drewN_more HW.out nq)⟩
/-- a text in hand: its lines, and these sorted -/
structure TxIn (w : World) (vl vs : Value) (xl : List Txt) : Prop where
  lines : Sl w vl (strCells xl)
  sorted : Sl w vs (strCells (sortT xl))
theorem TxIn.old {w w' : World} {vl vs : Value} {xl : List Txt} (h : TxIn w vl vs xl) (hk : Below w.heap.size w w') : TxIn w' vl vs xl := ⟨h.lines.old hk, h.sorted.old hk⟩
theorem sortT_length (x : List Txt) : (sortT x).length = x.length := List.length_mergeSort x
/-- whether two texts would be alike if the order of their lines played no part -/
def mayS (x y : List Txt) : Bool := !decide (400 < x.length) && !decide (400 < y.length) && decide (50 ≤ shareS (sharedN (sortT x) (sortT y)) x.length y.length)
theorem DMay_any (k1 k2 : Nat) (l1 s1 l2 s2 : Value) (x y : List Txt) (w : World) (h1 : TxIn w l1 s1 x) (h2 : TxIn w l2 s2 y) (hx : x.length ≤ 1000000) (hy : y.length ≤ 1000000) :
    Calls Try.prog 68 #[.agg #[.int .i64 (k1 : Nat), l1, s1], .agg #[.int .i64 (k2 : Nat), l2, s2]] w fun e w' => e = .returned (.bool (mayS x y)) ∧ Below w.heap.size w w' := by
  obtain ⟨ao, ac, rfl⟩ := h1.lines.form
  obtain ⟨ao2, ac2, rfl⟩ := h1.sorted.form
  obtain ⟨bo, bc, rfl⟩ := h2.lines.form
  obtain ⟨bo2, bc2, rfl⟩ := h2.sorted.form
  have HS := hid fun (wx : World) (hk : Below w.heap.size w wx) => DShared_any _ _ (sortT x) (sortT y) wx (h1.old hk).sorted (h2.old hk).sorted (by rw [sortT_length]; exact hx) (by rw [sortT_length]; exact hy)
  rw [strCells_length, strCells_length] at HS ⊢
  rw [strCells_length, strCells_length]
  have hc : sharedN (sortT x) (sortT y) ≤ 1000000 := by
    have := share_le ((sortT x).length + (sortT y).length) (sortT x) (sortT y)
    exact Nat.le_trans this (by rw [sortT_length]; exact hx)
  have hM : mayS x y = (!decide (400 < x.length) && !decide (400 < y.length) && decide (50 ≤ shareS (sharedN (sortT x) (sortT y)) x.length y.length)) := rfl
  obtain ⟨M, hMM⟩ : ∃ M, mayS x y = M := ⟨_, rfl⟩
  rw [hMM] at hM ⊢
  obtain ⟨c, hcc⟩ : ∃ c, sharedN (sortT x) (sortT y) = c := ⟨_, rfl⟩
  rw [hcc] at hc hM HS
  obtain ⟨n, hn⟩ : ∃ n, x.length = n := ⟨_, rfl⟩
  obtain ⟨m, hm⟩ : ∃ m, y.length = m := ⟨_, rfl⟩
  rw [sortT_length, sortT_length] at HS ⊢
  rw [hn] at hM hx HS ⊢
  rw [hm] at hM hy HS ⊢
  have HL := hid fun (o : Option Addr) (k cp : Nat) (wx : World) => DLong_any o k cp wx
  have HH := hid fun (wx : World) => DShare_any c n m ao bo ac bc wx hc hx hy
  clear hn hm hcc hMM h1 h2 hc hx hy
  by_cases q1 : 400 < n
  · have d1 : decide (400 < n) = true := decide_eq_true q1
    have hM2 : M = false := by rw [hM, d1]; rfl
    subst hM2
    clear HS HH hM q1
    go_enter Try.func68, Try.ntmps68
    go_wp2_with (go_at_call 34; refine (HL.out _ _ _ _).mono ?_; rintro e w1 ⟨rfl, rfl⟩; rw [d1])
    go_ret
    exact ⟨rfl, ((Below.refl _ w).alloc (Nat.le_refl _) _).alloc (by simp) _⟩
  · have d1 : decide (400 < n) = false := decide_eq_false q1
    by_cases q2 : 400 < m
    · have d2 : decide (400 < m) = true := decide_eq_true q2
      have hM2 : M = false := by rw [hM, d1, d2]; rfl
      subst hM2
      clear HS HH hM q1 q2
      go_enter Try.func68, Try.ntmps68
      go_wp2_with (go_at_call 34; refine (HL.out _ _ _ _).mono ?_; rintro e w1 ⟨rfl, rfl⟩; first | rw [d1] | rw [d2])
      go_ret
      exact ⟨rfl, ((Below.refl _ w).alloc (Nat.le_refl _) _).alloc (by simp) _⟩
    · have d2 : decide (400 < m) = false := decide_eq_false q2
      obtain ⟨z, hz⟩ : ∃ z, shareS c n m = z := ⟨_, rfl⟩
      rw [hz] at hM HH
      have hM2 : M = decide (50 ≤ z) := by rw [hM, d1, d2]; rfl
      have hge : decide ((z : Int) ≥ 50) = decide (50 ≤ z) := by
        by_cases e : 50 ≤ z
        · rw [decide_eq_true e, decide_eq_true (by omega)]
        · rw [decide_eq_false e, decide_eq_false (by omega)]
      have hge2 : decide ((50 : Int) ≤ (z : Int)) = M := by rw [hM2]; exact hge
      rw [← hM2] at hge
      have HGE := hid (And.intro hge hge2)
      clear hz hM hM2 q1 q2 hge hge2
      go_enter Try.func68, Try.ntmps68
      go_wp2_with (go_at_call 34; refine (HL.out _ _ _ _).mono ?_; rintro e w1 ⟨rfl, rfl⟩; first | rw [d1] | rw [d2])
      obtain ⟨W, hW⟩ : ∃ W, (w.alloc (.cells #[.int .i64 (k1 : Nat), .slice ao n ac, .slice ao2 n ac2] 90)).alloc (.cells #[.int .i64 (k2 : Nat), .slice bo m bc, .slice bo2 m bc2] 90) = W := ⟨_, rfl⟩
      have hbW : Below w.heap.size w W := by rw [← hW]; exact ((Below.refl _ w).alloc (Nat.le_refl _) _).alloc (by simp) _
      have hg2 : W.heap[w.heap.size + 1]? = some (.cells #[.int .i64 (k2 : Nat), .slice bo m bc, .slice bo2 m bc2] 90 (0, 0)) := by
        rw [← hW]
        have := World.alloc_heap_new (w.alloc (.cells #[.int .i64 (k1 : Nat), .slice ao n ac, .slice ao2 n ac2] 90)) (.cells #[.int .i64 (k2 : Nat), .slice bo m bc, .slice bo2 m bc2] 90)
        rwa [World.size_alloc] at this
      have hg1 : W.heap[w.heap.size]? = some (.cells #[.int .i64 (k1 : Nat), .slice ao n ac, .slice ao2 n ac2] 90 (0, 0)) := by
        rw [← hW]
        exact (Below.heap_alloc _ _ _ (by simp)).trans (World.alloc_heap_new w _)
      rw [hW]
      have c11 : W.cell? ⟨w.heap.size, 1, none⟩ = some (.slice ao n ac) := blk_cell (i := 1) hg1 rfl
      have c12 : W.cell? ⟨w.heap.size, 2, none⟩ = some (.slice ao2 n ac2) := blk_cell (i := 2) hg1 rfl
      have c21 : W.cell? ⟨w.heap.size + 1, 1, none⟩ = some (.slice bo m bc) := blk_cell (i := 1) hg2 rfl
      have c22 : W.cell? ⟨w.heap.size + 1, 2, none⟩ = some (.slice bo2 m bc2) := blk_cell (i := 2) hg2 rfl
      have HSW := hid fun (k : Nat) => HS.out (W.drewN k) (below_step hbW (below_drewN _ _) hbW.size)
      have HBW := hid hbW
      clear hW hg1 hg2 hbW HS
      go_quiet (first
        | (go_at_call 77; exact Calls.quiet_of (HSW.out _))
        | (go_at_call 35; exact Calls.quiet_of_same ((HH.out _).mono fun _ _ ⟨h, e⟩ => ⟨h, e.symm⟩)))
      go_wp2_with fail
      go_ret
      refine ⟨?_, below_step HBW.out (below_drewN _ _) HBW.out.size⟩
      first | rfl | (rw [HGE.out.1]; rfl) | (rw [HGE.out.2]; rfl)
/-- what 'alike' answers -/
def alikeB (x y : List Txt) : Bool := decide (50 ≤ ratioL x y)
theorem may_of_alike {x y : List Txt} (h : 50 ≤ ratioL x y) : mayS x y = true := by
  have hl := lcs_shared x y
  unfold mayS
  by_cases h0 : x.length + y.length = 0
  · have e1 : ¬ 400 < x.length := by omega
    have e2 : ¬ 400 < y.length := by omega
    rw [decide_eq_false e1, decide_eq_false e2, shareS, if_pos h0]
    rfl
  · have e : ¬ (400 < x.length ∨ 400 < y.length) := fun e => by
      unfold ratioL at h
      rw [if_neg h0, if_pos e] at h
      omega
    rw [ratioL_share x y (by omega) (by omega)] at h
    rw [decide_eq_false (fun q => e (.inl q)), decide_eq_false (fun q => e (.inr q))]
    have hle : shareS (lcs x y) x.length y.length ≤ shareS (sharedN (sortT x) (sortT y)) x.length y.length := by
      unfold shareS
      rw [if_neg h0, if_neg h0]
      exact Nat.div_le_div_right (Nat.mul_le_mul_left _ hl)
    rw [decide_eq_true (Nat.le_trans h hle)]
    rfl
theorem DAlikeT_any (k1 k2 : Nat) (l1 s1 l2 s2 : Value) (x y : List Txt) (w : World) (h1 : TxIn w l1 s1 x) (h2 : TxIn w l2 s2 y) (hx : x.length ≤ 1000000) (hy : y.length ≤ 1000000) :
    Calls Try.prog 55 #[.agg #[.int .i64 (k1 : Nat), l1, s1], .agg #[.int .i64 (k2 : Nat), l2, s2]] w fun e w' => ∃ r : Nat, e = .returned (.tuple #[.int .i64 (r : Nat), .bool (alikeB x y)]) ∧ (alikeB x y = true → r = ratioL x y) ∧ Below w.heap.size w w' := by
  have o1 := h1.lines.form
  obtain ⟨ao, ac, rfl⟩ := o1
  obtain ⟨ao2, ac2, rfl⟩ := h1.sorted.form
  obtain ⟨bo, bc, rfl⟩ := h2.lines.form
  obtain ⟨bo2, bc2, rfl⟩ := h2.sorted.form
  have HM := hid fun (wx : World) (hk : Below w.heap.size w wx) => DMay_any k1 k2 _ _ _ _ x y wx (h1.old hk) (h2.old hk) hx hy
  have HR := hid fun (wx : World) (hk : Below w.heap.size w wx) => DRatioL_any _ _ x y wx (h1.old hk).lines (h2.old hk).lines hx hy
  have hmay := fun h => may_of_alike (x := x) (y := y) h
  have hA : alikeB x y = decide (50 ≤ ratioL x y) := rfl
  obtain ⟨A, hAA⟩ : ∃ A, alikeB x y = A := ⟨_, rfl⟩
  obtain ⟨z, hz⟩ : ∃ z, ratioL x y = z := ⟨_, rfl⟩
  obtain ⟨M, hM⟩ : ∃ M, mayS x y = M := ⟨_, rfl⟩
  rw [hAA, hz] at hA
  rw [hz] at HR hmay
  rw [hM] at HM hmay
  rw [hAA, hz]
  have HA := hid hA
  have HMAY := hid hmay
  obtain ⟨n1, hn1⟩ : ∃ n, (strCells x).length = n := ⟨_, rfl⟩
  obtain ⟨n2, hn2⟩ : ∃ n, (strCells (sortT x)).length = n := ⟨_, rfl⟩
  obtain ⟨m1, hm1⟩ : ∃ n, (strCells y).length = n := ⟨_, rfl⟩
  obtain ⟨m2, hm2⟩ : ∃ n, (strCells (sortT y)).length = n := ⟨_, rfl⟩
  rw [hn1] at HM HR
  rw [hn2] at HM
  rw [hm1] at HM HR
  rw [hm2] at HM
  rw [hn1, hn2, hm1, hm2]
  clear hA hAA hz hM hmay h1 h2 hx hy hn1 hn2 hm1 hm2
  go_enter Try.func55, Try.ntmps55
  go_wp2_with fail
  obtain ⟨W, hW⟩ : ∃ W, (w.alloc (.cells #[.int .i64 (k1 : Nat), .slice ao n1 ac, .slice ao2 n2 ac2] 90)).alloc (.cells #[.int .i64 (k2 : Nat), .slice bo m1 bc, .slice bo2 m2 bc2] 90) = W := ⟨_, rfl⟩
  have hbW : Below w.heap.size w W := by rw [← hW]; exact ((Below.refl _ w).alloc (Nat.le_refl _) _).alloc (by simp) _
  have hg2 : W.heap[w.heap.size + 1]? = some (.cells #[.int .i64 (k2 : Nat), .slice bo m1 bc, .slice bo2 m2 bc2] 90 (0, 0)) := by
    rw [← hW]
    have := World.alloc_heap_new (w.alloc (.cells #[.int .i64 (k1 : Nat), .slice ao n1 ac, .slice ao2 n2 ac2] 90)) (.cells #[.int .i64 (k2 : Nat), .slice bo m1 bc, .slice bo2 m2 bc2] 90)
    rwa [World.size_alloc] at this
  have hg1 : W.heap[w.heap.size]? = some (.cells #[.int .i64 (k1 : Nat), .slice ao n1 ac, .slice ao2 n2 ac2] 90 (0, 0)) := by
    rw [← hW]
    exact (Below.heap_alloc _ _ _ (by simp)).trans (World.alloc_heap_new w _)
  have hWs : W.heap.size = w.heap.size + 2 := by rw [← hW]; simp
  rw [hW]
  clear hW
  refine (HM.out W hbW).mono ?_
  rintro e w2 ⟨rfl, hb2⟩
  have hg12 := (hb2.block _ (by omega)).trans hg1
  have hg22 := (hb2.block _ (by omega)).trans hg2
  have c11 : w2.cell? ⟨w.heap.size, 1, none⟩ = some (.slice ao n1 ac) := blk_cell (i := 1) hg12 rfl
  have c21 : w2.cell? ⟨w.heap.size + 1, 1, none⟩ = some (.slice bo m1 bc) := blk_cell (i := 1) hg22 rfl
  have HB2 := hid (below_step hbW hb2 hbW.size)
  clear hg1 hg2 hg12 hg22 hb2 hbW hWs HM
  cases M with
  | false =>
    have hAf : A = false := by
      rw [HA.out]
      exact decide_eq_false fun h => by have := HMAY.out h; cases this
    subst hAf
    go_wp2_with fail
    refine bodyPost_ret (results_tmp2 rfl _ _ _) rfl ?_
    exact ⟨0, rfl, (fun h => by cases h), HB2.out⟩
  | true =>
    have hge : decide ((z : Int) ≥ 50) = A := by
      rw [HA.out]
      by_cases e : 50 ≤ z
      · rw [decide_eq_true e, decide_eq_true (by omega)]
      · rw [decide_eq_false e, decide_eq_false (by omega)]
    have HGE := hid (And.intro hge (show decide ((50 : Int) ≤ (z : Int)) = A from hge))
    have HRW := hid (HR.out w2 HB2.out)
    clear hge HR
    go_wp2_with (go_at_call 18; refine HRW.out.mono ?_; rintro e w3 ⟨rfl, hb3⟩)
    refine bodyPost_ret (results_tmp2 rfl _ _ _) rfl ?_
    refine ⟨z, ?_, fun _ => rfl, below_step HB2.out hb3 HB2.out.size⟩
    first | rfl | (rw [HGE.out.1]; rfl) | (rw [HGE.out.2]; rfl)
end
end Go.Proofs.Ytnpgfbgnbonhfaa

namespace Go.Proofs.Ytnpgfbgnbonhfaa
open Go.RowKit

section
set_option maxRecDepth 100000
set_option maxHeartbeats 4000000
theorem DTextOf_any (f : FileS) (k : Nat) (w : World) (hl : f.2.2.length ≤ 1000000) :
    Calls Try.prog 67 #[fileV f, .int .i64 (k : Nat)] w fun e w' => ∃ vl vs, e = .returned (.agg #[.int .i64 (k : Nat), vl, vs]) ∧ w'.ownsRow w.heap.size 9 1 vl (linesOf f.2.2).length (strCells (linesOf f.2.2)) ∧
      w'.ownsRow w.heap.size 9 1 vs (sortT (linesOf f.2.2)).length (strCells (sortT (linesOf f.2.2))) ∧ Below w.heap.size w w' := by
  obtain ⟨p, x, t⟩ := f
  simp only at hl ⊢
  have hlc := linesOf_count t
  have HS := hid fun (wx : World) => PSplit_row t wx (by omega)
  obtain ⟨L, hL⟩ : ∃ L, linesOf t = L := ⟨_, rfl⟩
  rw [hL] at hlc HS ⊢
  have HLN := hid (show L.length ≤ 1000000 by omega)
  clear hL hlc hl
  unfold fileV strV at *
  simp only
  go_enter Try.func67, Try.ntmps67
  go_wp2_with fail
  obtain ⟨W, hW⟩ : ∃ W, (w.alloc (.cells #[.string ⟨p.toArray⟩, .bool x, .string ⟨t.toArray⟩] 31)).alloc (.cells #[.int .i64 0, .slice none 0 0, .slice none 0 0] 90) = W := ⟨_, rfl⟩
  have hbW : Below w.heap.size w W := by rw [← hW]; exact ((Below.refl _ w).alloc (Nat.le_refl _) _).alloc (by simp) _
  have hg2 : W.heap[w.heap.size + 1]? = some (.cells #[.int .i64 0, .slice none 0 0, .slice none 0 0] 90 (0, 0)) := by
    rw [← hW]
    have := World.alloc_heap_new (w.alloc (.cells #[.string ⟨p.toArray⟩, .bool x, .string ⟨t.toArray⟩] 31)) (.cells #[.int .i64 0, .slice none 0 0, .slice none 0 0] 90)
    rwa [World.size_alloc] at this
  have hWs : W.heap.size = w.heap.size + 2 := by rw [← hW]; simp
  rw [hW]
  clear hW
  obtain ⟨g, hg⟩ : ∃ g, w.heap.size + 1 = g := ⟨_, rfl⟩
  rw [hg] at hg2 ⊢
  refine (HS.out W).mono ?_
  rintro e w1 ⟨vl, rfl, hr1, hb1⟩
  obtain ⟨lo, lc, rfl⟩ := owns_form hr1
  have HR1 := hid hr1
  have hz1 := hb1.size
  have hg21 := (hb1.block _ (by omega)).trans hg2
  have HV := hid fun (wx : World) => Vals_any lo L.length lc wx
  clear hg2 HS
  have hlt1 : ((w1.alloc (.cells #[.slice lo L.length lc] 47)).heap.size) = w1.heap.size + 1 := by simp
  have HSo := hid (Sorted_any w1 (w1.alloc (.cells #[.slice lo L.length lc] 47)) w1.heap.size (.slice lo L.length lc) L (Sl.ofOwns HR1.out) ((Below.refl _ w1).alloc (Nat.le_refl _) _) (blk_cell (i := 0) (heap_alloc_new w1 _) rfl) HLN.out)
  go_wp2_with (go_at_call 76; refine (HV.out _).mono ?_; rintro e w2 ⟨rfl, rfl⟩)
  refine HSo.out.mono ?_
  rintro e w3 ⟨vs, rfl, ho3, hb3⟩
  obtain ⟨so, sc, rfl⟩ := owns_form ho3
  have hb13 : Below w1.heap.size w1 w3 := below_step ((Below.refl _ w1).alloc (Nat.le_refl _) _) hb3 (by rw [hlt1]; omega)
  have hg23 := (hb13.block _ (lt_of_block hg21)).trans hg21
  have HO3 := hid (show w3.ownsRow w.heap.size 9 1 (.slice so (sortT L).length sc) (sortT L).length (strCells (sortT L)) from by
    have h := ho3
    unfold OwnT at h
    rw [flatT] at h
    exact owns_base h (by rw [hlt1]; omega))
  have HR3 := hid (show w3.ownsRow w.heap.size 9 1 (.slice lo L.length lc) L.length (strCells L) from owns_base (owns_kept HR1.out fun q _ hq => hb13.block q hq) (by omega))
  have HB3 := hid (below_step hbW (below_step hb1 hb13 (by omega)) (by omega))
  have hne1 : ∀ {u : Value} {n : Nat} {xs : List Value} , w3.ownsRow w.heap.size 9 1 u n xs → some g ≠ u.ownBlock := fun {u n xs} h e => by
    rcases ownsRow_ne_a h hg23 (fun cur e => absurd (Obj.cells.inj e).2.1 (by decide)) with h1 | h1
    · rw [h1] at e
      cases e
    · exact h1 e.symm
  have HN1 := hid (hne1 HR3.out)
  have HN2 := hid (hne1 HO3.out)
  have HGG := hid hg
  clear hne1 ho3 hb3 hb13 hg21 hr1 hb1 hbW HSo HV HR1
  go_wp2_with (refine file_store rfl 90 _ _ rfl g #[.int .i64 (k : Nat), .slice lo L.length lc, .slice so (sortT L).length sc] rfl rfl _ _ hg23 3 Try.sizeTx rfl rfl (by simp [Value.oneCell']) ?_; intro w9 hg9 hk9)
  refine bodyPost_ret (results_cell_row rfl _ _ g _ _ _ _ rfl hg9 Try.underlying90 rfl Try.sizeTx) rfl ?_
  refine ⟨_, _, rfl, owns_kept HR3.out fun q hq hl => hk9.block q hl (fun e => HN1.out (by rw [← e]; exact hq.symm)), owns_kept HO3.out fun q hq hl => hk9.block q hl (fun e => HN2.out (by rw [← e]; exact hq.symm)), HB3.out.trans (hk9.below HB3.out.size (fun j hj e => by have := HGG.out; omega))⟩
/-- the files of a list that may have moved: with a text, of a path that the others do not have -/
def loneB (other : List FileS) (f : FileS) : Bool := (findS other f.1).isNone && !(f.2.2 == [])
def loneS (l other : List FileS) : List FileS := l.filter (loneB other)
theorem DLone_any (va vb : Value) (l m : List FileS) (w : World) (ha : SlF w va l) (hb : SlF w vb m) (hl : l.length ≤ 1000000) (hm : m.length ≤ 1000000) :
    Calls Try.prog 21 #[va, vb] w fun e w' => ∃ v, e = .returned v ∧ OwnF w' w.heap.size v (loneS l m) ∧ Below w.heap.size w w' := by
  obtain ⟨ao, ac, rfl⟩ := ha.form
  have HA := hid ha
  have HL := hid hl
  have HF := hid fun (wx : World) (p : Txt) (hk : Below w.heap.size w wx) => DFind_any vb m p wx (hb.old hk) (by omega)
  clear ha hb hl hm
  go_enter Try.func21, Try.ntmps21
  go_wp2_with fail
  go_loopg [5, 12] l.length (fun g v i wr => ∃ (k : Nat) (X : List FileS), k ≤ l.length ∧ l.length - k = g ∧ i = .int .i64 k ∧ Hid (X = loneS (l.take k) m ∧ X.length ≤ k) ∧ Hid (OwnF wr w.heap.size v X) ∧ Hid (Below w.heap.size w wr))
  case atStart => exact ⟨0, [], Nat.zero_le _, rfl, rfl, hid ⟨rfl, Nat.le_refl _⟩, hid (World.ownsRow_nil _ _ _ _), hid (Below.refl _ _)⟩
  case round =>
    obtain ⟨k, X, hk, rfl, rfl, HX, HO, HW⟩ := hrel
    obtain ⟨no, nc, rfl⟩ := owns_form HO.out
    have k0 : (0 : Int) ≤ (k : Int) := Int.natCast_nonneg _
    by_cases hlt : k < l.length
    · have k1 : (k : Int) < (l.length : Int) := by omega
      have kw : IntKind.i64.wrap ((k : Int) + 1) = (k : Int) + 1 := IntWalk.i64_in _ (by have := HL.out; omega)
      obtain ⟨b, o, p, x, t, rfl, he, c1, c2, c3⟩ := SlF.at (HA.out.old HW.out) hlt
      have HS := hid (show loneS (l.take (k + 1)) m = X ++ loneS [(p, x, t)] m by
        rw [HX.out.1, List.take_add_one, he, loneS, loneS, loneS, ← List.filter_append]
        rfl)
      clear he
      go_wp2_with fail
      obtain ⟨wb, hwb⟩ : ∃ wb, wr.alloc (.cells #[.string ⟨p.toArray⟩, .bool x, .string ⟨t.toArray⟩] 31) = wb := ⟨_, rfl⟩
      have hbb : Below w.heap.size w wb := by rw [← hwb]; exact HW.out.alloc HW.out.size _
      have hgb : wb.heap[wr.heap.size]? = some (.cells #[.string ⟨p.toArray⟩, .bool x, .string ⟨t.toArray⟩] 31 (0, 0)) := by rw [← hwb]; exact heap_alloc_new wr _
      have HOB := hid (show OwnF wb w.heap.size (.slice no X.length nc) X by rw [← hwb]; exact HO.out.alloc _)
      have hzb : wb.heap.size = wr.heap.size + 1 := by rw [← hwb]; simp
      rw [hwb]
      clear hwb
      obtain ⟨g, hg⟩ : ∃ g, wr.heap.size = g := ⟨_, rfl⟩
      rw [hg] at hgb hzb ⊢
      have hfc := HF.out wb p hbb
      obtain ⟨r, hr⟩ : ∃ r, findS m p = r := ⟨_, rfl⟩
      rw [hr] at hfc
      unfold fileV strV at hfc
      refine hfc.mono ?_
      rintro e w2 ⟨rfl, hb2⟩
      have hg2 := (hb2.block _ (lt_of_block hgb)).trans hgb
      have q1 : w2.cell? ⟨g, 0, none⟩ = some (.string ⟨p.toArray⟩) := blk_cell (i := 0) hg2 rfl
      have q2 : w2.cell? ⟨g, 1, none⟩ = some (.bool x) := blk_cell (i := 1) hg2 rfl
      have q3 : w2.cell? ⟨g, 2, none⟩ = some (.string ⟨t.toArray⟩) := blk_cell (i := 2) hg2 rfl
      have HO2 := hid (show OwnF w2 w.heap.size (.slice no X.length nc) X from owns_kept HOB.out fun q _ hq => hb2.block q hq)
      have HW2 := hid (below_step hbb hb2 hbb.size)
      have hglt : g < w2.heap.size := lt_of_block hg2
      clear hgb hzb hb2 hfc hbb HOB
      cases r with
      | some f2 =>
        obtain ⟨p2, x2, t2⟩ := f2
        have HE := hid (show X = loneS (l.take (k + 1)) m by
          rw [HS.out]
          simp [loneS, loneB, hr])
        clear hr
        go_wp2_with fail
        go_roundg (l.length - (k + 1))
        case measure => omega
        case rel => exact ⟨k + 1, X, by omega, rfl, by go_num, hid ⟨HE.out, by have := HX.out; omega⟩, hid (owns_kept HO2.out fun q _ hq => Below.heap_alloc _ _ q hq), hid (HW2.out.alloc HW2.out.size _)⟩
      | none =>
        by_cases ht : t = []
        · subst ht
          have HE := hid (show X = loneS (l.take (k + 1)) m by
            rw [HS.out]
            simp [loneS, loneB])
          clear hr
          go_wp2_with fail
          go_roundg (l.length - (k + 1))
          case measure => omega
          case rel => exact ⟨k + 1, X, by omega, rfl, by go_num, hid ⟨HE.out, by have := HX.out; omega⟩, hid (owns_kept HO2.out fun q _ hq => Below.heap_alloc _ _ q hq), hid (HW2.out.alloc HW2.out.size _)⟩
        · have HE := hid (show X ++ [(p, x, t)] = loneS (l.take (k + 1)) m by
            rw [HS.out]
            simp [loneS, loneB, hr, ht])
          have t1 : (t == []) = false := by simpa using ht
          clear hr
          have hxl : X.length ≤ 1000000 := by have := HX.out; have := HL.out; omega
          have hbase : w.heap.size ≤ w2.heap.size := HW2.out.size
          have HO3 := hid (show OwnF (w2.alloc (.cells #[.string ⟨#[]⟩, .bool false, .string ⟨#[]⟩] 31)) w.heap.size (.slice no X.length nc) X from HO2.out.alloc _)
          have HW3 := hid (HW2.out.alloc HW2.out.size (.cells #[.string ⟨#[]⟩, .bool false, .string ⟨#[]⟩] 31))
          go_wp2_with (at_builtin; refine wpList_append_f1 (by rfl) (.tmp 30) (.tmp 32) rfl w.heap.size _ X (p, x, t) rfl HO3.out _ rfl (by simp) (by omega) (by simp; omega) ?_; intro v5 w5 hO5 hb5)
          go_roundg (l.length - (k + 1))
          case measure => omega
          case rel => exact ⟨k + 1, X ++ [(p, x, t)], by omega, rfl, by go_num, hid ⟨HE.out, by have := HX.out; simp; omega⟩, hid hO5, hid (HW3.out.trans hb5)⟩
    · obtain rfl : k = l.length := by omega
      have hneg : ¬ (l.length : Int) < (l.length : Int) := by omega
      go_wp2_with fail
      go_ret
      have hX := HX.out.1
      rw [List.take_length] at hX
      rw [← hX]
      exact ⟨_, rfl, HO.out, HW.out⟩
end
end Go.Proofs.Ytnpgfbgnbonhfaa

namespace Go.Proofs.Ytnpgfbgnbonhfaa
open Go.RowKit

def Try.lays212_ren : Go.Shelf.Ren := ⟨fun | 212 => 53 | 263 => 65 | 264 => 66 | n => n, fun | 46 => 37 | 51 => 101 | 53 => 104 | 146 => 102 | 148 => 105 | n => n, fun | n => n⟩
theorem Try.lays212 : Go.Proofs.Lays.n212 Try.prog Try.lays212_ren := {
  mixed := by kernel_rfl
  f212 := Try.func53.trans (congrArg some (by kernel_rfl))
  f263 := Try.func65.trans (congrArg some (by kernel_rfl))
  f264 := Try.func66.trans (congrArg some (by kernel_rfl))
  t46 := Try.underlying37
  a46 := Try.isAgg37
  z46 := Try.sizeOf37
  v46 := Try.zeroValue37
  t51 := Try.underlying101
  a51 := Try.isAgg101
  z51 := Try.sizeOf101
  v51 := Try.zeroValue101
  t53 := Try.underlying104
  a53 := Try.isAgg104
  z53 := Try.sizeOf104
  v53 := Try.zeroValue104
  t146 := Try.underlying102
  a146 := Try.isAgg102
  z146 := Try.sizeOf102
  v146 := Try.zeroValue102
  t148 := Try.underlying105
  a148 := Try.isAgg105
  z148 := Try.sizeOf105
  v148 := Try.zeroValue105 }
theorem Try.infoInt : (Try.prog.info? 3).map (fun i => (i.zero, i.size, i.bytes)) = some (some (.int .i64 0), 1, 8) := by kernel_rfl
/-- a row of numbers, in memory -/
def iRow (l : List Int) : Array Value := (l.map (Value.int .i64)).toArray
/-- '.. -1 ..': nothing yet; behind it zeros -/
def negs (k n : Nat) : List Value := List.replicate k (.int .i64 (-1)) ++ List.replicate (n - k) (.int .i64 0)
theorem negs_row (n : Nat) : (negs n n).toArray = iRow (List.replicate n (-1)) := by simp [negs, iRow]
theorem negs_length {k n : Nat} (h : k ≤ n) : (negs k n).length = n := by simp [negs]; omega
theorem negs_at {k n j : Nat} (h : j < k) : (negs k n)[j]? = some (.int .i64 (-1)) := by
  rw [negs, List.getElem?_append_left (by simpa using h)]
  simp [h]
theorem negs_more {k n m : Nat} (h : k + m ≤ n) : (negs k n).take k ++ List.replicate m (.int .i64 (-1)) ++ (negs k n).drop (k + m) = negs (k + m) n := by
  have e1 : (negs k n).take k = List.replicate k (.int .i64 (-1)) := by rw [negs, List.take_left' (by simp)]
  have e2 : (negs k n).drop (k + m) = List.replicate (n - (k + m)) (.int .i64 0) := by
    rw [negs, List.drop_append, List.drop_of_length_le (by simp), List.nil_append, List.length_replicate, List.drop_replicate]
    congr 1
    omega
  rw [e1, e2, negs, List.replicate_append_replicate]
section
set_option maxRecDepth 100000
set_option maxHeartbeats 4000000
theorem run_ints_from (g k n : Nat) (hk : k < n) (wx : World) : (Instr.slice 63 (.slice (some ⟨g, 0, none⟩) n n) (some (.int .i64 (k : Int))) none none).run Try.prog wx = .ok (.slice (some ⟨g, k, none⟩) (n - k) (n - k)) wx := by
  obtain ⟨i0, hi0, hz0, hz1, hz2⟩ := info_parts Try.infoInt
  have h2 : (k : Int) ≤ n := by omega
  have h3 : ¬ n = k := by omega
  have ht := Try.underlying63
  simp [Instr.slice, run_underlying ht, Instr.sliceBounds, run_sliceBound, sizeOf, typeInfo, hi0, hz1, h2, h3, Addr.add]
  exact fun h => h.symm
theorem run_ints_to (g k n : Nat) (hk : k ≤ n) (wx : World) : (Instr.slice 63 (.slice (some ⟨g, 0, none⟩) n n) none (some (.int .i64 (k : Int))) none).run Try.prog wx = .ok (.slice (some ⟨g, 0, none⟩) k n) wx := by
  obtain ⟨i0, hi0, hz0, hz1, hz2⟩ := info_parts Try.infoInt
  have h2 : (k : Int) ≤ n := by omega
  have ht := Try.underlying63
  simp [Instr.slice, run_underlying ht, Instr.sliceBounds, run_sliceBound, sizeOf, typeInfo, hi0, h2]
  intro _
  simp [Addr.add]
theorem DMul_any (n : Nat) (w : World) (hn : n ≤ 1000000) : Calls Try.prog 53 #[.int .u64 1, .int .u64 (n : Nat)] w fun e w' => e = .returned (.tuple #[.int .u64 0, .int .u64 (n : Nat)]) ∧ w = w' := by
  refine (show Calls Try.prog 53 #[.int .u64 ((1 : Nat) : Int), .int .u64 (n : Nat)] w _ from Any.bits_Mul Try.lays212 1 n (by omega) (by omega) w).mono ?_
  rintro e w' ⟨rfl, rfl⟩
  refine ⟨?_, rfl⟩
  rw [show 1 * n / 18446744073709551616 = 0 by omega, show 1 * n % 18446744073709551616 = n by omega]
  rfl
theorem DRepeat_any (gx n : Nat) (w : World) (hx : w.cell? ⟨gx, 0, none⟩ = some (.int .i64 (-1))) (hn : n ≤ 1000000) :
    Calls Try.prog 38 #[.slice (some ⟨gx, 0, none⟩) 1 1, .int .i64 (n : Nat)] w fun e w' => ∃ g, e = .returned (.slice (some ⟨g, 0, none⟩) n n) ∧ w.heap.size ≤ g ∧
      w'.heap[g]? = some (.cells (iRow (List.replicate n (-1))) 3 (0, 0)) ∧ Below w.heap.size w w' := by
  obtain ⟨i0, hi0, hi1, hi2, hi3⟩ := info_parts Try.infoInt
  have hgx := World.block_lt_of_cell? w _ hx
  simp only at hgx
  have mk : ∀ wx : World, (Instr.makeSlice 63 (.int .i64 (n : Int)) (.int .i64 (n : Int))).run Try.prog wx = .ok (.slice (some ⟨wx.heap.size, 0, none⟩) n n) (wx.alloc (.cells (negs 0 n).toArray 3)) := fun wx => by
    rw [negs, List.replicate_zero, List.nil_append, Nat.sub_zero]
    exact run_make1 (P := Try.prog) wx 63 3 i0 (.int .i64 0) Try.underlying63 hi0 hi1 hi2 rfl n (by rw [hi3]; omega) (by omega)
  have hsz : (Try.prog.info? 3).map (·.size) = some 1 := by rw [hi0, Option.map_some, hi2]
  have HM := hid fun (wx : World) => DMul_any n wx hn
  obtain ⟨W, hW⟩ : ∃ W, w.alloc (.cells (negs 0 n).toArray 3) = W := ⟨_, rfl⟩
  have hbW : Below w.heap.size w W := by rw [← hW]; exact (Below.refl _ w).alloc (Nat.le_refl _) _
  have hgW : W.heap[w.heap.size]? = some (.cells (negs 0 n).toArray 3 (0, 0)) := by rw [← hW]; exact World.alloc_heap_new w _
  have hxW : W.cell? ⟨gx, 0, none⟩ = some (.int .i64 (-1)) := (hbW.cell (p := ⟨gx, 0, none⟩) hgx).trans hx
  have mkw := mk w
  rw [hW] at mkw
  obtain ⟨g, hg⟩ : ∃ g, w.heap.size = g := ⟨_, rfl⟩
  have HG := hid hg
  rw [hg] at hgW mkw
  have n0 : (0 : Int) ≤ (n : Int) := Int.natCast_nonneg _
  have nu : IntKind.u64.wrap (n : Int) = (n : Int) := by rw [IntKind.wrap_u64]; omega
  have ni : IntKind.i64.wrap (n : Int) = (n : Int) := IntWalk.i64_in _ (by omega)
  have nm : ¬ (9223372036854775807 : Int) < (n : Int) := by omega
  have HBW := hid hbW
  have HNN := hid hn
  by_cases h0 : n = 0
  · subst h0
    have cp := run_copy_none (P := Try.prog) W 63 63 3 3 (some ⟨g, 0, none⟩) (some ⟨gx, 0, none⟩) 0 0 1 1 Try.underlying63 hsz rfl
    have mk0 : (Instr.makeSlice 63 (.int .i64 0) (.int .i64 0)).run Try.prog w = .ok (.slice (some ⟨g, 0, none⟩) 0 0) W := mkw
    have hm0 : ∀ wx, Calls Try.prog 53 #[.int .u64 1, .int .u64 0] wx fun e w' => e = .returned (.tuple #[.int .u64 0, .int .u64 0]) ∧ wx = w' := fun wx => HM.out wx
    have HM0 := hid hm0
    clear mk mkw hW hg hm0 hx hxW hbW nu ni nm n0
    show Calls _ _ #[.slice (some ⟨gx, 0, none⟩) 1 1, .int .i64 0] _ _
    go_enter Try.func38, Try.ntmps38
    go_wp2_with (go_at_call 53; refine (HM0.out _).mono ?_; rintro e w1 ⟨rfl, rfl⟩)
    refine wp_loop_rounds 1 ?_
    rw [rounds_succ]
    go_wp2_with fail
    go_ret
    exact ⟨g, rfl, by rw [HG.out]; exact Nat.le_refl _, by rw [← negs_row]; exact hgW, HBW.out⟩
  · have cp := run_copy_row (P := Try.prog) W 63 63 3 3 g 0 n n ⟨gx, 0, none⟩ 1 1 (negs 0 n).toArray 3 [.int .i64 (-1)] Try.underlying63 hsz hgW (Nat.min_eq_left (show 1 ≤ n by omega)).symm (fun j v h => by
      cases j with
      | zero => cases h; exact hxW
      | succ j => simp at h) (by simp [negs]; omega) (fun v h => by rw [List.mem_singleton.1 h]; rfl)
    have hN1 : ((negs 0 n).toArray.toList.take 0 ++ [Value.int .i64 (-1)] ++ (negs 0 n).toArray.toList.drop (0 + [Value.int .i64 (-1)].length)).toArray = (negs 1 n).toArray := by
      congr 1
      exact negs_more (k := 0) (m := 1) (by omega)
    rw [hN1] at cp
    have hgW1 : (W.setRow g (negs 1 n).toArray).heap[g]? = some (.cells (negs 1 n).toArray 3 (0, 0)) := setRow_heap W g _ _ _ _ hgW
    have HK1 := hid (show Keep (· = g) W (W.setRow g (negs 1 n).toArray) from ⟨rfl, rfl, rfl, by simp [World.setRow], fun k _ hk => setRow_other W g k _ hk⟩)
    obtain ⟨W1, hW1⟩ : ∃ W1, W.setRow g (negs 1 n).toArray = W1 := ⟨_, rfl⟩
    rw [hW1] at cp hgW1 HK1
    have HB1 := hid (show Below w.heap.size w W1 from HBW.out.trans (HK1.out.below HBW.out.size (fun j hj e => by have := HG.out; omega)))
    have HG1 := hid hgW1
    have HSZ := hid hsz
    clear mk hW hg hx hxW hbW hN1 hgW hgW1 hW1 HK1 hsz
    go_enter Try.func38, Try.ntmps38
    go_wp2_with (go_at_call 53; refine (HM.out _).mono ?_; rintro e w1 ⟨rfl, rfl⟩)
    go_loopg [8] n (fun q s8 wr => ∃ k : Nat, s8 = .int .i64 (k : Int) ∧ Hid (1 ≤ k ∧ k ≤ n ∧ n - k ≤ q) ∧ Hid (wr.heap[g]? = some (.cells (negs k n).toArray 3 (0, 0))) ∧ Hid (Below w.heap.size w wr))
    case atStart => exact ⟨1, rfl, hid ⟨Nat.le_refl _, by omega, by omega⟩, HG1, HB1⟩
    case round =>
      clear HG1 HB1
      obtain ⟨k, rfl, HQ, HC, HB⟩ := hrel
      have hQ := HQ.out
      by_cases hlt : k < n
      · have hltz : (k : Int) < (n : Int) := by omega
        obtain ⟨m, hm⟩ : ∃ m, m = min k (n - k) := ⟨_, rfl⟩
        have hm1 : 1 ≤ m ∧ k + m ≤ n := by omega
        have r1 := run_ints_from g k n hlt
        have r2 := run_ints_to g k n (by omega)
        have cpy : ∀ wx : World, wx.heap = wr.heap → (Builtin.copy_ #[63, 63] 3 #[.slice (some ⟨g, k, none⟩) (n - k) (n - k), .slice (some ⟨g, 0, none⟩) k n]).run Try.prog wx = .ok (.int .i64 (m : Int)) (wx.setRow g (negs (k + m) n).toArray) := fun wx hwx => by
          have hgx : wx.heap[g]? = some (.cells (negs k n).toArray 3 (0, 0)) := by rw [hwx]; exact HC.out
          have h := run_copy_row (P := Try.prog) wx 63 63 3 3 g k (n - k) (n - k) ⟨g, 0, none⟩ k n (negs k n).toArray 3 (List.replicate m (.int .i64 (-1))) Try.underlying63 HSZ.out hgx (by rw [List.length_replicate]; exact hm) (fun j v hj => by
            have hjm : j < m := by have := (List.getElem?_eq_some_iff.1 hj).1; simpa using this
            rw [Addr.add_lit]
            refine blk_cell hgx ?_
            rw [List.getElem?_toArray, Nat.zero_add, negs_at (by omega)]
            rw [List.getElem?_replicate, if_pos hjm] at hj
            exact hj) (by rw [List.length_replicate, List.size_toArray, negs_length hQ.2.1]; exact hm1.2) (fun v hv => by rw [(List.mem_replicate.1 hv).2]; rfl)
          rw [List.length_replicate] at h
          have e : ((negs k n).toArray.toList.take k ++ List.replicate m (Value.int .i64 (-1)) ++ (negs k n).toArray.toList.drop (k + m)).toArray = (negs (k + m) n).toArray := by
            congr 1
            exact negs_more hm1.2
          rw [e] at h
          exact h
        have cpw := cpy wr.drew rfl
        obtain ⟨s, hs⟩ : ∃ s, k + m = s := ⟨_, rfl⟩
        rw [hs] at cpw hm1
        have sw : IntKind.i64.wrap ((k : Int) + (m : Int)) = (s : Int) := (IntWalk.i64_in _ (by have := HNN.out; omega)).trans (by omega)
        have k0 : (0 : Int) ≤ (k : Int) := Int.natCast_nonneg _
        have HGS := hid (setRow_heap wr.drew g _ (negs s n).toArray _ _ HC.out)
        have HKS := hid (show Keep (· = g) wr.drew (wr.drew.setRow g (negs s n).toArray) from ⟨rfl, rfl, rfl, by simp [World.setRow], fun k _ hk => setRow_other _ g k _ hk⟩)
        have HQ2 := hid (show 1 ≤ s ∧ s ≤ n ∧ n - s < gk + 1 ∧ n - s < n - k by omega)
        obtain ⟨WS, hWS⟩ : ∃ WS, wr.drew.setRow g (negs s n).toArray = WS := ⟨_, rfl⟩
        rw [hWS] at cpw HGS HKS
        clear cpy hWS hm hs hm1
        go_wp2_with fail
        go_region
        all_goals go_wp2
        all_goals (
          go_roundg (n - s)
          case measure => have := HQ2.out; omega
          case rel => exact ⟨s, rfl, hid ⟨HQ2.out.1, HQ2.out.2.1, Nat.le_refl _⟩, HGS, hid ((HB.out.trans ((below_drewN wr 1).mono HB.out.size)).trans (HKS.out.below HB.out.size (fun j hj e => by have := HG.out; omega)))⟩)
      · obtain rfl : k = n := by omega
        have hneg : ¬ (k : Int) < (k : Int) := by omega
        go_wp2_with fail
        go_ret
        refine ⟨g, rfl, by rw [HG.out]; exact Nat.le_refl _, ?_, HB.out⟩
        rw [HC.out, negs_row]

/-- A pairing in memory: its block, and the rows of its two lists of places; all that it stands on is as in w0. -/
structure PairAt (w0 : World) (vb vs : Value) (gp gt gf : Nat) (ts fs : List Int) (w : World) : Prop where
  cell : w.heap[gp]? = some (.cells #[vb, vs, .slice (some ⟨gt, 0, none⟩) ts.length ts.length, .slice (some ⟨gf, 0, none⟩) fs.length fs.length] 66 (0, 0))
  rowT : w.heap[gt]? = some (.cells (iRow ts) 3 (0, 0))
  rowF : w.heap[gf]? = some (.cells (iRow fs) 3 (0, 0))
  hp : w0.heap.size ≤ gp
  ht : w0.heap.size ≤ gt
  hf : w0.heap.size ≤ gf
  ptf : gt ≠ gf
  ppt : gp ≠ gt
  ppf : gp ≠ gf
  below : Below w0.heap.size w0 w
theorem Try.sizePr : (Try.prog.info? 66).map (·.size) = some 4 := by kernel_rfl
theorem DNewPairing_any (vb vs : Value) (l m : List FileS) (w : World) (hb : SlF w vb l) (hs : SlF w vs m) (hl : l.length ≤ 1000000) (hm : m.length ≤ 1000000) :
    Calls Try.prog 20 #[vb, vs] w fun e w' => ∃ gp gt gf, e = .returned (.pointer (some ⟨gp, 0, none⟩)) ∧ PairAt w vb vs gp gt gf (List.replicate l.length (-1)) (List.replicate m.length (-1)) w' := by
  obtain ⟨ao, ac, rfl⟩ := hb.form
  obtain ⟨bo, bc, rfl⟩ := hs.form
  have HR1 := hid fun (gx : Nat) (wx : World) (h : wx.cell? ⟨gx, 0, none⟩ = some (.int .i64 (-1))) => DRepeat_any gx l.length wx h hl
  have HR2 := hid fun (gx : Nat) (wx : World) (h : wx.cell? ⟨gx, 0, none⟩ = some (.int .i64 (-1))) => DRepeat_any gx m.length wx h hm
  obtain ⟨n, hn⟩ : ∃ n, l.length = n := ⟨_, rfl⟩
  obtain ⟨k, hk⟩ : ∃ k, m.length = k := ⟨_, rfl⟩
  rw [hn] at HR1 ⊢
  rw [hk] at HR2 ⊢
  clear hb hs hl hm hn hk
  go_enter Try.func20, Try.ntmps20
  go_wp2_with fail
  refine (HR1.out w.heap.size _ (blk_cell (i := 0) (heap_alloc_new w _) rfl)).mono ?_
  rintro e w1 ⟨gt, rfl, hgt, hrt, hb1⟩
  have hz0 : (w.alloc (.cells #[.int .i64 (-1)] 3)).heap.size = w.heap.size + 1 := by simp
  have hw1 : Below w.heap.size w w1 := below_step ((Below.refl _ w).alloc (Nat.le_refl _) _) hb1 (by omega)
  rw [hz0] at hgt
  have hz1 := hw1.size
  have hlt1 := lt_of_block hrt
  clear hb1
  go_wp2_with fail
  refine (HR2.out w1.heap.size _ (blk_cell (i := 0) (heap_alloc_new w1 _) rfl)).mono ?_
  rintro e w2 ⟨gf, rfl, hgf, hrf, hb2⟩
  have hz2 : (w1.alloc (.cells #[.int .i64 (-1)] 3)).heap.size = w1.heap.size + 1 := by simp
  have hw12 : Below w1.heap.size w1 w2 := below_step ((Below.refl _ w1).alloc (Nat.le_refl _) _) hb2 (by omega)
  rw [hz2] at hgf
  have hrt2 := (hw12.block _ hlt1).trans hrt
  have HRT := hid hrt2
  have HRF := hid hrf
  have HW2 := hid (below_step hw1 hw12 hw1.size)
  have hlt2 := lt_of_block hrt2
  have hlt3 := lt_of_block hrf
  clear hb2 hrt hrf hw12 hw1 hz0 hz2
  go_wp2_with fail
  go_ret
  refine ⟨w2.heap.size, gt, gf, rfl, ?_, (Below.heap_alloc _ _ _ hlt2).trans HRT.out, (Below.heap_alloc _ _ _ hlt3).trans HRF.out, HW2.out.size, by omega, by omega, by omega, by omega, by omega, HW2.out.alloc HW2.out.size _⟩
  rw [List.length_replicate, List.length_replicate]
  exact World.alloc_heap_new w2 _
end
end Go.Proofs.Ytnpgfbgnbonhfaa

namespace Go.Proofs.Ytnpgfbgnbonhfaa
open Go.RowKit

/-- two places are paired, if both are left -/
def joinL (st : List Int × List Int) (i j : Nat) : List Int × List Int :=
  if st.1[i]? = some (-1) ∧ st.2[j]? = some (-1) then (st.1.set i (j : Nat), st.2.set j (i : Nat)) else st
theorem joinL_len (st : List Int × List Int) (i j : Nat) : (joinL st i j).1.length = st.1.length ∧ (joinL st i j).2.length = st.2.length := by
  unfold joinL
  split <;> simp
theorem iRow_at {l : List Int} {i : Nat} {z : Int} (h : l[i]? = some z) : (iRow l)[i]? = some (.int .i64 z) := by simp [iRow, h]
theorem iRow_set (l : List Int) (i : Nat) (z : Int) : (iRow l).setIfInBounds i (.int .i64 z) = iRow (l.set i z) := by simp [iRow, List.map_set]
section
set_option maxRecDepth 100000
set_option maxHeartbeats 4000000
theorem DJoin_any (w0 : World) (vb vs : Value) (gp gt gf : Nat) (ts fs : List Int) (i j : Nat) (w : World) (h : PairAt w0 vb vs gp gt gf ts fs w) (hi : i < ts.length) (hj : j < fs.length) (_hil : ts.length ≤ 1000000) (_hjl : fs.length ≤ 1000000) :
    Calls Try.prog 41 #[.pointer (some ⟨gp, 0, none⟩), .int .i64 (i : Nat), .int .i64 (j : Nat)] w fun e w' => e = .returned (.tuple #[]) ∧
      PairAt w0 vb vs gp gt gf (joinL (ts, fs) i j).1 (joinL (ts, fs) i j).2 w' ∧ Keep (fun k => k = gt ∨ k = gf) w w' := by
  obtain ⟨z, hz⟩ : ∃ z, ts[i]? = some z := ⟨_, List.getElem?_eq_getElem hi⟩
  obtain ⟨y, hy⟩ : ∃ y, fs[j]? = some y := ⟨_, List.getElem?_eq_getElem hj⟩
  have c2 : w.cell? ⟨gp, 2, none⟩ = some (.slice (some ⟨gt, 0, none⟩) ts.length ts.length) := blk_cell (i := 2) h.cell rfl
  have c3 : w.cell? ⟨gp, 3, none⟩ = some (.slice (some ⟨gf, 0, none⟩) fs.length fs.length) := blk_cell (i := 3) h.cell rfl
  have ct : w.cell? ⟨gt, i, none⟩ = some (.int .i64 z) := blk_cell h.rowT (iRow_at hz)
  have cf : w.cell? ⟨gf, j, none⟩ = some (.int .i64 y) := blk_cell h.rowF (iRow_at hy)
  have ft : w.frozen? ⟨gt, i, none⟩ = false := blk_free h.rowT
  have ff : w.frozen? ⟨gf, j, none⟩ = false := blk_free h.rowF
  have HJ := hid (show joinL (ts, fs) i j = if z = -1 ∧ y = -1 then (ts.set i (j : Nat), fs.set j (i : Nat)) else (ts, fs) by
    unfold joinL
    simp only [hz, hy, Option.some.injEq])
  have i0 : (0 : Int) ≤ (i : Int) := Int.natCast_nonneg _
  have j0 : (0 : Int) ≤ (j : Int) := Int.natCast_nonneg _
  have HH := hid h
  obtain ⟨n, hn⟩ : ∃ n, ts.length = n := ⟨_, rfl⟩
  obtain ⟨m, hm⟩ : ∃ m, fs.length = m := ⟨_, rfl⟩
  rw [hn] at c2 hi
  rw [hm] at c3 hj
  have HN := hid (And.intro hn hm)
  have i1 : (i : Int) < (n : Int) := by omega
  have j1 : (j : Int) < (m : Int) := by omega
  clear hz hy hn hm h
  by_cases hz1 : z = -1
  · subst hz1
    by_cases hy1 : y = -1
    · subst hy1
      have HJ2 := hid (show joinL (ts, fs) i j = (ts.set i (j : Nat), fs.set j (i : Nat)) by rw [HJ.out, if_pos ⟨rfl, rfl⟩])
      rw [HJ2.out]
      have hne : ¬ gt = gf := HH.out.ptf
      have hne2 : ¬ gf = gt := fun e => hne e.symm
      have hd := HH.out
      have hgt1 : ((w.drew.setCell ⟨gt, i, none⟩ (.int .i64 (j : Nat))).setCell ⟨gf, j, none⟩ (.int .i64 (i : Nat))).heap[gt]? = some (.cells (iRow (ts.set i (j : Nat))) 3 (0, 0)) := by
        rw [Below.heap_setCell _ _ _ _ (show gt ≠ gf from hne), ← iRow_set]
        exact blk_set hd.rowT
      have hgf1 : ((w.drew.setCell ⟨gt, i, none⟩ (.int .i64 (j : Nat))).setCell ⟨gf, j, none⟩ (.int .i64 (i : Nat))).heap[gf]? = some (.cells (iRow (fs.set j (i : Nat))) 3 (0, 0)) := by
        rw [← iRow_set]
        refine blk_set ?_
        rw [Below.heap_setCell _ _ _ _ (show gf ≠ gt from hne2)]
        exact hd.rowF
      have hgp1 : ((w.drew.setCell ⟨gt, i, none⟩ (.int .i64 (j : Nat))).setCell ⟨gf, j, none⟩ (.int .i64 (i : Nat))).heap[gp]? = w.heap[gp]? := by
        rw [Below.heap_setCell _ _ _ _ (show gp ≠ gf from hd.ppf), Below.heap_setCell _ _ _ _ (show gp ≠ gt from hd.ppt)]
        rfl
      have hb1 : Below w0.heap.size w0 ((w.drew.setCell ⟨gt, i, none⟩ (.int .i64 (j : Nat))).setCell ⟨gf, j, none⟩ (.int .i64 (i : Nat))) :=
        ((hd.below.trans ((below_drewN w 1).mono hd.below.size)).setCell (by show w0.heap.size ≤ gt; exact hd.ht) _).setCell (by show w0.heap.size ≤ gf; exact hd.hf) _
      have HR := hid (show PairAt w0 vb vs gp gt gf (ts.set i (j : Nat)) (fs.set j (i : Nat)) ((w.drew.setCell ⟨gt, i, none⟩ (.int .i64 (j : Nat))).setCell ⟨gf, j, none⟩ (.int .i64 (i : Nat))) from
        ⟨by rw [hgp1, List.length_set, List.length_set]; exact hd.cell, hgt1, hgf1, hd.hp, hd.ht, hd.hf, hd.ptf, hd.ppt, hd.ppf, hb1⟩)
      have HK := hid (show Keep (fun k => k = gt ∨ k = gf) w ((w.drew.setCell ⟨gt, i, none⟩ (.int .i64 (j : Nat))).setCell ⟨gf, j, none⟩ (.int .i64 (i : Nat))) from
        ((Keep.refl _ w).drew.setCell (.inl rfl) _).setCell (.inr rfl) _)
      clear hgt1 hgf1 hgp1 hb1 hd HJ HJ2 HN
      go_enter Try.func41, Try.ntmps41
      go_wp2_with fail
      go_region
      all_goals go_wp2
      all_goals (
        go_end0
        exact ⟨rfl, HR.out, HK.out⟩)
    · have hyb : (y == -1) = false := by simpa using hy1
      have HJ2 := hid (show joinL (ts, fs) i j = (ts, fs) by rw [HJ.out, if_neg (fun h => hy1 h.2)])
      rw [HJ2.out]
      clear HJ
      go_enter Try.func41, Try.ntmps41
      go_wp2_with fail
      go_end0
      exact ⟨rfl, HH.out, Keep.refl _ _⟩
  · have hzb : (z == -1) = false := by simpa using hz1
    have HJ2 := hid (show joinL (ts, fs) i j = (ts, fs) by rw [HJ.out, if_neg (fun h => hz1 h.1)])
    rw [HJ2.out]
    clear HJ
    go_enter Try.func41, Try.ntmps41
    go_wp2_with fail
    go_end0
    exact ⟨rfl, HH.out, Keep.refl _ _⟩
/-- what is left of the first k files: their places, and their lines -/
def leftOne (l : List FileS) (ws : List Int) (i : Nat) : Option TxS :=
  match l[i]?, ws[i]? with
  | some f, some z => if z = -1 then some (i, linesOf f.2.2) else none
  | _, _ => none
def leftUp (l : List FileS) (ws : List Int) (k : Nat) : List TxS := (List.range k).filterMap (leftOne l ws)
theorem leftUp_more (l : List FileS) (ws : List Int) (k : Nat) : leftUp l ws (k + 1) = leftUp l ws k ++ (leftOne l ws k).toList := by
  rw [leftUp, List.range_succ, List.filterMap_append]
  cases h : leftOne l ws k <;> simp [h, leftUp]
theorem leftUp_len (l : List FileS) (ws : List Int) (k : Nat) : (leftUp l ws k).length ≤ k := by
  have := List.length_filterMap_le (leftOne l ws) (List.range k)
  simpa [leftUp] using this
theorem DLeft_any (va : Value) (gw c : Nat) (l : List FileS) (ws : List Int) (w : World) (ha : SlF w va l) (hw : w.heap[gw]? = some (.cells (iRow ws) 3 (0, 0))) (hl : l.length ≤ ws.length) (hwl : ws.length ≤ 1000000) (hfl : ∀ f ∈ l, f.2.2.length ≤ 1000000) :
    Calls Try.prog 54 #[va, .slice (some ⟨gw, 0, none⟩) ws.length c] w fun e w' => ∃ v, e = .returned v ∧ OwnX w' w.heap.size v (leftUp l ws l.length) ∧ Below w.heap.size w w' := by
  obtain ⟨ao, ac, rfl⟩ := ha.form
  have HA := hid ha
  have HW := hid hw
  have HL := hid (And.intro hl hwl)
  have HF := hid hfl
  obtain ⟨n, hn⟩ : ∃ n, ws.length = n := ⟨_, rfl⟩
  have HN := hid hn
  rw [hn]
  clear ha hw hl hwl hfl hn
  go_enter Try.func54, Try.ntmps54
  go_wp2_with fail
  go_loopg [5, 10] l.length (fun g v i wr => ∃ (k : Nat) (X : List TxS), k ≤ l.length ∧ l.length - k = g ∧ i = .int .i64 k ∧ Hid (X = leftUp l ws k ∧ X.length ≤ k) ∧ Hid (OwnX wr w.heap.size v X) ∧ Hid (Below w.heap.size w wr))
  case atStart => exact ⟨0, [], Nat.zero_le _, rfl, rfl, hid ⟨rfl, Nat.le_refl _⟩, hid (OwnX.nil _ _), hid (Below.refl _ _)⟩
  case round =>
    obtain ⟨k, X, hk, rfl, rfl, HX, HO, HB⟩ := hrel
    obtain ⟨no, nc, rfl⟩ := HO.out.form
    have k0 : (0 : Int) ≤ (k : Int) := Int.natCast_nonneg _
    by_cases hlt : k < l.length
    · have k1 : (k : Int) < (l.length : Int) := by omega
      have kn : (k : Int) < (n : Int) := by have := HL.out.1; have := HN.out; omega
      have kw : IntKind.i64.wrap ((k : Int) + 1) = (k : Int) + 1 := IntWalk.i64_in _ (by have := HL.out; omega)
      obtain ⟨b, o, p, x, t, rfl, he, c1, c2, c3⟩ := SlF.at (HA.out.old HB.out) hlt
      have htl : t.length ≤ 1000000 := HF.out (p, x, t) (List.mem_of_getElem? he)
      have hwr := (HB.out.block _ (lt_of_block HW.out)).trans HW.out
      obtain ⟨z, hz⟩ : ∃ z, ws[k]? = some z := ⟨_, List.getElem?_eq_getElem (by have := HL.out.1; omega)⟩
      have HOne := hid (show leftOne l ws k = if z = -1 then some (k, linesOf t) else none by rw [leftOne, he, hz])
      obtain ⟨wb, hwb⟩ : ∃ wb, wr.alloc (.cells #[.string ⟨p.toArray⟩, .bool x, .string ⟨t.toArray⟩] 31) = wb := ⟨_, rfl⟩
      have hbb : Below w.heap.size w wb := by rw [← hwb]; exact HB.out.alloc HB.out.size _
      have hgb : wb.heap[wr.heap.size]? = some (.cells #[.string ⟨p.toArray⟩, .bool x, .string ⟨t.toArray⟩] 31 (0, 0)) := by rw [← hwb]; exact heap_alloc_new wr _
      have HOB := hid (show OwnX wb w.heap.size (.slice no X.length nc) X by rw [← hwb]; exact HO.out.old ((Below.refl _ _).alloc (Nat.le_refl _) _))
      have hgw : wb.heap[gw]? = some (.cells (iRow ws) 3 (0, 0)) := by rw [← hwb]; exact (Below.heap_alloc _ _ _ (lt_of_block hwr)).trans hwr
      have cz : wb.cell? ⟨gw, k, none⟩ = some (.int .i64 z) := blk_cell hgw (iRow_at hz)
      have q0 : wb.cell? ⟨wr.heap.size, 0, none⟩ = some (.string ⟨p.toArray⟩) := blk_cell (i := 0) hgb rfl
      have q1 : wb.cell? ⟨wr.heap.size, 1, none⟩ = some (.bool x) := blk_cell (i := 1) hgb rfl
      have q2 : wb.cell? ⟨wr.heap.size, 2, none⟩ = some (.string ⟨t.toArray⟩) := blk_cell (i := 2) hgb rfl
      have HBB := hid hbb
      have HXL := hid (show X.length ≤ 1000000 by have := HX.out; have := HL.out; omega)
      have HT := hid (DTextOf_any (p, x, t) k wb htl)
      unfold fileV strV at HT
      obtain ⟨gb, hgbn⟩ : ∃ gb, wr.heap.size = gb := ⟨_, rfl⟩
      rw [hgbn] at q0 q1 q2
      have hwbn : wr.alloc (.cells #[.string ⟨p.toArray⟩, .bool x, .string ⟨t.toArray⟩] 31) = wb := hwb
      clear he hz hwr hbb hgb hgw htl
      by_cases hzn : z = -1
      · subst hzn
        have HE := hid (show X ++ [(k, linesOf t)] = leftUp l ws (k + 1) by rw [leftUp_more, HOne.out, ← HX.out.1]; rfl)
        go_upto_region 5 with fail
        clear hwb hwbn hgbn HOne c1 c2 c3
        go_wp2_with fail
        refine HT.out.mono ?_
        rintro e w2 ⟨vl, vs, rfl, hr1, hr2, hb2⟩
        obtain ⟨lo, lc, rfl⟩ := owns_form hr1
        obtain ⟨so, sc, rfl⟩ := owns_form hr2
        have hlt2 : ∀ q, (Value.slice no X.length nc).ownBlock = some q → q < wb.heap.size := fun q hq => (HOB.out.lt q hq).2
        have HN1 := hid (nestL_own hr1 hlt2)
        have HN2 := hid (nestL_own hr2 hlt2)
        have HO2 := hid (HOB.out.old hb2)
        have HB2 := hid (below_step HBB.out hb2 HBB.out.size)
        clear hr1 hr2 hb2 hlt2 HOB HT
        go_wp2_with (at_builtin; refine wpList_append_txt3 (by rfl) (.tmp 20) (.tmp 24) rfl w.heap.size _ X k (linesOf t) _ _ rfl HO2.out HN1.out HN2.out _ rfl rfl rfl rfl (by have := HXL.out; omega) HB2.out.size ?_; intro v5 w5 hO5 hb5)
        go_roundg (l.length - (k + 1))
        case measure => omega
        case rel => exact ⟨k + 1, _, by omega, rfl, by go_num, hid ⟨HE.out, by have := HX.out; simp; omega⟩, hid hO5, hid (HB2.out.trans hb5)⟩
      · have HE := hid (show X = leftUp l ws (k + 1) by rw [leftUp_more, HOne.out, if_neg hzn, ← HX.out.1]; simp)
        have hzb : (z == -1) = false := by simpa using hzn
        go_upto_region 5 with fail
        clear hwb hwbn hgbn HOne c1 c2 c3 HT
        go_wp2_with fail
        go_roundg (l.length - (k + 1))
        case measure => omega
        case rel => exact ⟨k + 1, X, by omega, rfl, by go_num, hid ⟨HE.out, by have := HX.out; omega⟩, hid HOB.out, hid HBB.out⟩
    · obtain rfl : k = l.length := by omega
      have hneg : ¬ (l.length : Int) < (l.length : Int) := by omega
      go_wp2_with fail
      go_ret
      rw [← HX.out.1]
      exact ⟨_, rfl, HO.out, HB.out⟩
end
end Go.Proofs.Ytnpgfbgnbonhfaa

namespace Go.Proofs.Ytnpgfbgnbonhfaa
open Go.RowKit

/-- each two that are alike -/
def oneM (a b : TxS) : Option MtS := if alikeB a.2 b.2 = true then some (a.1, b.1, ratioL a.2 b.2) else none
def rowUp (a : TxS) (B : List TxS) (j : Nat) : List MtS := (B.take j).filterMap (oneM a)
def matUp (A B : List TxS) (k : Nat) : List MtS := (A.take k).flatMap fun a => rowUp a B B.length
theorem rowUp_more {a b : TxS} {B : List TxS} {j : Nat} (h : B[j]? = some b) : rowUp a B (j + 1) = rowUp a B j ++ (oneM a b).toList := by
  rw [rowUp, List.take_add_one, h, List.filterMap_append]
  cases e : oneM a b <;> simp [e, rowUp]
theorem rowUp_len (a : TxS) (B : List TxS) (j : Nat) : (rowUp a B j).length ≤ j := by
  have h := List.length_filterMap_le (oneM a) (B.take j)
  rw [List.length_take] at h
  exact Nat.le_trans h (Nat.min_le_left ..)
theorem matUp_more {a : TxS} {A B : List TxS} {k : Nat} (h : A[k]? = some a) : matUp A B (k + 1) = matUp A B k ++ rowUp a B B.length := by
  rw [matUp, List.take_add_one, h, List.flatMap_append]
  simp [matUp]
theorem matUp_len (A B : List TxS) : ∀ k, (matUp A B k).length ≤ k * B.length
  | 0 => by simp [matUp]
  | k + 1 => by
    by_cases h : k < A.length
    · rw [matUp_more (List.getElem?_eq_getElem h), List.length_append, Nat.succ_mul]
      exact Nat.add_le_add (matUp_len A B k) (rowUp_len _ _ _)
    · have : matUp A B (k + 1) = matUp A B k := by rw [matUp, matUp, List.take_of_length_le (by omega), List.take_of_length_le (by omega)]
      rw [this, Nat.succ_mul]
      have := matUp_len A B k
      omega
def few (l : List FileS) : Prop := l.length ≤ 1000 ∧ ∀ f ∈ l, f.2.2.length ≤ 1000000
theorem leftUp_mem {l : List FileS} {ws : List Int} {k : Nat} {x : TxS} (h : x ∈ leftUp l ws k) : ∃ f, l[x.1]? = some f ∧ ws[x.1]? = some (-1) ∧ x.2 = linesOf f.2.2 ∧ x.1 < k := by
  obtain ⟨i, hi, he⟩ := List.mem_filterMap.1 h
  unfold leftOne at he
  split at he
  · rename_i f z h1 h2
    split at he
    · rename_i hz
      cases he
      subst hz
      exact ⟨f, h1, h2, rfl, List.mem_range.1 hi⟩
    · cases he
  · cases he
section
set_option maxRecDepth 100000
set_option maxHeartbeats 8000000
theorem DMatches_any (w0 : World) (vb vs : Value) (gp gt gf : Nat) (ts fs : List Int) (l m : List FileS) (w : World) (h : PairAt w0 vb vs gp gt gf ts fs w) (hb : SlF w0 vb l) (hs : SlF w0 vs m)
    (hl : ts.length = l.length) (hm : fs.length = m.length) (fl : few l) (fm : few m) :
    Calls Try.prog 42 #[.pointer (some ⟨gp, 0, none⟩)] w fun e w' => ∃ v, e = .returned v ∧
      OwnMt w' w.heap.size v (stableA (ltOf cfMt) (matUp (leftUp l ts l.length) (leftUp m fs m.length) (leftUp l ts l.length).length).toArray).toList ∧ Below w.heap.size w w' := by
  have hsb := hb.old h.below
  have hss := hs.old h.below
  have HL1 := hid fun (wx : World) (hk : Below w.heap.size w wx) => DLeft_any vb gt ts.length l ts wx (hsb.old hk) ((hk.block _ (lt_of_block h.rowT)).trans h.rowT) (Nat.le_of_eq hl.symm) (by rw [hl]; have := fl.1; omega) fl.2
  have HL2 := hid fun (wx : World) (hk : Below w.heap.size w wx) => DLeft_any vs gf fs.length m fs wx (hss.old hk) ((hk.block _ (lt_of_block h.rowF)).trans h.rowF) (Nat.le_of_eq hm.symm) (by rw [hm]; have := fm.1; omega) fm.2
  have HXA := hid fun (x : TxS) (hx : x ∈ leftUp l ts l.length) => show x.2.length ≤ 1000000 by
    obtain ⟨f, h1, _, h3, _⟩ := leftUp_mem hx
    rw [h3]
    exact Nat.le_trans (linesOf_count _) (fl.2 f (List.mem_of_getElem? h1))
  have HXB := hid fun (x : TxS) (hx : x ∈ leftUp m fs m.length) => show x.2.length ≤ 1000000 by
    obtain ⟨f, h1, _, h3, _⟩ := leftUp_mem hx
    rw [h3]
    exact Nat.le_trans (linesOf_count _) (fm.2 f (List.mem_of_getElem? h1))
  have hal := leftUp_len l ts l.length
  have hbl := leftUp_len m fs m.length
  obtain ⟨A, hA⟩ : ∃ A, leftUp l ts l.length = A := ⟨_, rfl⟩
  obtain ⟨B, hB⟩ : ∃ B, leftUp m fs m.length = B := ⟨_, rfl⟩
  rw [hA] at HL1 HXA hal
  rw [hB] at HL2 HXB hbl
  rw [hA, hB]
  have HAB := hid (show A.length ≤ 1000 ∧ B.length ≤ 1000 by have := fl.1; have := fm.1; omega)
  obtain ⟨n1, hn1⟩ : ∃ n, ts.length = n := ⟨_, rfl⟩
  obtain ⟨n2, hn2⟩ : ∃ n, fs.length = n := ⟨_, rfl⟩
  have hcell := h.cell
  rw [hn1] at HL1 hcell
  rw [hn2] at HL2 hcell
  have c0 : w.cell? ⟨gp, 0, none⟩ = some vb := blk_cell (i := 0) hcell rfl
  have c1 : w.cell? ⟨gp, 1, none⟩ = some vs := blk_cell (i := 1) hcell rfl
  have c2 : w.cell? ⟨gp, 2, none⟩ = some (.slice (some ⟨gt, 0, none⟩) n1 n1) := blk_cell (i := 2) hcell rfl
  have c3 : w.cell? ⟨gp, 3, none⟩ = some (.slice (some ⟨gf, 0, none⟩) n2 n2) := blk_cell (i := 3) hcell rfl
  have HCELL := hid hcell
  obtain ⟨ao, ac, rfl⟩ := hb.form
  obtain ⟨bo, bc, rfl⟩ := hs.form
  obtain ⟨k1, hk1⟩ : ∃ k, l.length = k := ⟨_, rfl⟩
  obtain ⟨k2, hk2⟩ : ∃ k, m.length = k := ⟨_, rfl⟩
  rw [hk1] at c0 HL1 HCELL
  rw [hk2] at c1 HL2 HCELL
  clear h hb hs hl hm fl fm hsb hss hal hbl hA hB hn1 hn2 hcell hk1 hk2
  go_enter Try.func42, Try.ntmps42
  go_upto_region 1 with fail
  go_cut [3] from 11 to 19 (fun v1 wx => Hid (OwnX wx w.heap.size v1 B) ∧ Hid (Below w.heap.size w wx))
  case first =>
    have HLW := hid (HL2.out w.drew (below_drewN w 1))
    go_region_law (go_simp; go_at_call 54; refine HLW.out.mono ?_; rintro e w1 ⟨v1, rfl, ho1, hb1⟩; go_simp)
    all_goals (
      go_wp2_with fail
      go_meet
      exact ⟨hid ho1, hid ((below_drewN w 1).trans hb1)⟩)
  case rest =>
    obtain ⟨HO1, HB1⟩ := hcut
    obtain ⟨o1, p1, rfl⟩ := HO1.out.form
    have hc2 := (HB1.out.block _ (lt_of_block HCELL.out)).trans HCELL.out
    have d0 : wc.cell? ⟨gp, 0, none⟩ = some (.slice ao k1 ac) := blk_cell (i := 0) hc2 rfl
    have d2 : wc.cell? ⟨gp, 2, none⟩ = some (.slice (some ⟨gt, 0, none⟩) n1 n1) := blk_cell (i := 2) hc2 rfl
    clear c0 c1 c2 c3 hc2 HL2
    go_upto_region 3 with fail
    go_cut [28, 29, 30] from 20 to 30 (fun v2 v3 v4 wx => Hid (OwnX wx w.heap.size v2 A) ∧ v3 = .int .i64 A.length ∧ v4 = .int .i64 0 ∧ Hid (Below wc.heap.size wc wx))
    case first =>
      have HLW := hid (HL1.out wc.drew ((HB1.out.trans ((below_drewN wc 1).mono HB1.out.size))))
      have hzc := HB1.out.size
      go_region_law (go_simp; go_at_call 54; refine HLW.out.mono ?_; rintro e w2 ⟨v2, rfl, ho2, hb2⟩; obtain ⟨o2, p2, rfl⟩ := ho2.form; have HO2 := hid ho2; have HB2 := hid hb2; clear ho2 hb2; go_simp)
      all_goals (
        go_wp2_with fail
        go_meet
        obtain ⟨flat, q1, q2⟩ := HO2.out
        exact ⟨hid ⟨flat, owns_base q1 hzc, q2⟩, rfl, rfl, hid ((below_drewN wc 1).trans HB2.out)⟩)
    case rest =>
      clear d0 d2
      obtain ⟨HO2, rfl, rfl, HB2⟩ := hcut
      rename_i w1 w2
      obtain ⟨o2, p2, rfl⟩ := HO2.out.form
      have HS1 := hid (HO1.out.slX.old HB2.out)
      have HS2 := hid HO2.out.slX
      have HB3 := hid (below_step HB1.out HB2.out HB1.out.size)
      clear HO1 HO2 HB1 HB2 HL1 HCELL
      have hAL := HAB.out
      obtain ⟨na, hna⟩ : ∃ n, A.length = n := ⟨_, rfl⟩
      obtain ⟨nb, hnb⟩ : ∃ n, B.length = n := ⟨_, rfl⟩
      rw [hna] at HS2 hAL ⊢
      rw [hnb] at HS1 hAL ⊢
      have HNA := hid hna
      have HNB := hid hnb
      have HAL := hid hAL
      clear HAB hna hnb hAL
      have HMU := hid fun k => matUp_len A B k
      have HRU := hid fun (a : TxS) j => rowUp_len a B j
      go_wp2_with fail
      go_loopg [4, 30] na (fun g s4 s30 wr => ∃ (k : Nat) (L : List MtS), s30 = .int .i64 (k : Int) ∧ Hid (k ≤ na ∧ na - k ≤ g) ∧ Hid (L = matUp A B k) ∧ Hid (OwnMt wr wc.heap.size s4 L) ∧ Hid (Below wc.heap.size wc wr))
      case atStart => exact ⟨0, [], rfl, hid ⟨Nat.zero_le _, Nat.le_refl _⟩, hid rfl, hid (World.ownsRow_nil _ _ _ _), hid (Below.refl _ _)⟩
      case round =>
        obtain ⟨k, L, rfl, HQ, HLL, HO, HW⟩ := hrel
        obtain ⟨no, nc, rfl⟩ := owns_form HO.out
        have hQ := HQ.out
        have k0 : (0 : Int) ≤ (k : Int) := Int.natCast_nonneg _
        by_cases hlt : k < na
        · have k1 : (k : Int) < (na : Int) := by omega
          have kw : IntKind.i64.wrap ((k : Int) + 1) = (k : Int) + 1 := IntWalk.i64_in _ (by have := HAL.out; omega)
          obtain ⟨ba, oa, ka, xa, la, sa, rfl, e1, e2, e3, ta, tb, hxa⟩ := HS2.out.at' (i := k) (by rw [HNA.out]; exact hlt)
          obtain ⟨lo, lc, rfl⟩ := ta.form
          obtain ⟨so, sc, rfl⟩ := tb.form
          have old : ∀ {p : Addr} {u : Value}, wc.cell? p = some u → wr.cell? p = some u := fun {p u} hp => (World.cell?_of_block (w := wc) (HW.out.block _ (World.block_lt_of_cell? _ _ hp))).trans hp
          have f1 := old e1
          have f2 := old e2
          have f3 := old e3
          have HTA := hid (show TxIn wc _ _ xa from ⟨ta, tb⟩)
          have HXL := hid (show xa.length ≤ 1000000 from HXA.out _ (List.mem_of_getElem? hxa))
          have HNEXT := hid (show matUp A B (k + 1) = L ++ rowUp (ka, xa) B B.length by rw [matUp_more hxa, HLL.out])
          have HLB := hid (show L.length ≤ k * nb by rw [HLL.out, ← HNB.out]; exact HMU.out k)
          obtain ⟨m1, hm1⟩ : ∃ n, (strCells xa).length = n := ⟨_, rfl⟩
          obtain ⟨m2, hm2⟩ : ∃ n, (strCells (sortT xa)).length = n := ⟨_, rfl⟩
          rw [hm1] at f2 HTA
          rw [hm2] at f3 HTA
          obtain ⟨wb, hwb⟩ : ∃ wb, wr.alloc (.cells #[.int .i64 (ka : Nat), .slice lo m1 lc, .slice so m2 sc] 90) = wb := ⟨_, rfl⟩
          have hgb : wb.heap[wr.heap.size]? = some (.cells #[.int .i64 (ka : Nat), .slice lo m1 lc, .slice so m2 sc] 90 (0, 0)) := by rw [← hwb]; exact heap_alloc_new wr _
          have HOB := hid (show OwnMt wb wc.heap.size (.slice no L.length nc) L by rw [← hwb]; exact HO.out.alloc _)
          have HWB := hid (show Below wc.heap.size wc wb by rw [← hwb]; exact HW.out.alloc HW.out.size _)
          obtain ⟨ga, hga⟩ : ∃ g, wr.heap.size = g := ⟨_, rfl⟩
          rw [hga] at hgb
          have HGB := hid hgb
          clear old e1 e2 e3 ta tb hxa hm1 hm2 hQ hgb
          go_upto_region 6 with fail
          clear f1 f2 f3 hwb hga HO HW
          go_wp2_with fail
          go_loopg [4, 36] nb (fun g s4 s36 wr => ∃ (j : Nat) (M : List MtS), s36 = .int .i64 (j : Int) ∧ Hid (j ≤ nb ∧ nb - j ≤ g) ∧ Hid (M = L ++ rowUp (ka, xa) B j) ∧ Hid (OwnMt wr wc.heap.size s4 M) ∧ Hid (wr.heap[ga]? = some (.cells #[.int .i64 (ka : Nat), .slice lo m1 lc, .slice so m2 sc] 90 (0, 0))) ∧ Hid (Below wc.heap.size wc wr))
          case atStart => exact ⟨0, L, rfl, hid ⟨Nat.zero_le _, Nat.le_refl _⟩, hid (by simp [rowUp]), HOB, HGB, HWB⟩
          case round =>
            clear HOB HGB HWB
            obtain ⟨j, M, rfl, HQ2, HM, HO, HG, HW⟩ := hrel
            obtain ⟨no2, nc2, rfl⟩ := owns_form HO.out
            have hQ2 := HQ2.out
            have j0 : (0 : Int) ≤ (j : Int) := Int.natCast_nonneg _
            by_cases hjt : j < nb
            · have j1 : (j : Int) < (nb : Int) := by omega
              have jw : IntKind.i64.wrap ((j : Int) + 1) = (j : Int) + 1 := IntWalk.i64_in _ (by have := HAL.out; omega)
              obtain ⟨bb, ob, kb, xb, lb, sb, rfl, e1, e2, e3, tc, td, hxb⟩ := HS1.out.at' (i := j) (by rw [HNB.out]; exact hjt)
              obtain ⟨lo2, lc2, rfl⟩ := tc.form
              obtain ⟨so2, sc2, rfl⟩ := td.form
              have old : ∀ {p : Addr} {u : Value}, wc.cell? p = some u → wr.cell? p = some u := fun {p u} hp => (World.cell?_of_block (w := wc) (HW.out.block _ (World.block_lt_of_cell? _ _ hp))).trans hp
              have f1 := old e1
              have f2 := old e2
              have f3 := old e3
              have HTB := hid (show TxIn wc _ _ xb from ⟨tc, td⟩)
              have HXL2 := hid (show xb.length ≤ 1000000 from HXB.out _ (List.mem_of_getElem? hxb))
              have HNX := hid (show L ++ rowUp (ka, xa) B (j + 1) = M ++ (oneM (ka, xa) (kb, xb)).toList by rw [rowUp_more hxb, HM.out, List.append_assoc])
              have HML := hid (show M.length ≤ 2000000 by
                have h1 := HRU.out (ka, xa) j
                have h2 := HLB.out
                have h3 := HAL.out
                have h4 := HQ.out
                have h5 : k * nb ≤ 1000 * 1000 := Nat.mul_le_mul (by omega) h3.2
                rw [HM.out, List.length_append]
                omega)
              obtain ⟨m3, hm3⟩ : ∃ n, (strCells xb).length = n := ⟨_, rfl⟩
              obtain ⟨m4, hm4⟩ : ∃ n, (strCells (sortT xb)).length = n := ⟨_, rfl⟩
              rw [hm3] at f2 HTB
              rw [hm4] at f3 HTB
              obtain ⟨wz, hwz⟩ : ∃ wz, wr.alloc (.cells #[.int .i64 (kb : Nat), .slice lo2 m3 lc2, .slice so2 m4 sc2] 90) = wz := ⟨_, rfl⟩
              have hgz : wz.heap[wr.heap.size]? = some (.cells #[.int .i64 (kb : Nat), .slice lo2 m3 lc2, .slice so2 m4 sc2] 90 (0, 0)) := by rw [← hwz]; exact heap_alloc_new wr _
              have hga2 : wz.heap[ga]? = some (.cells #[.int .i64 (ka : Nat), .slice lo m1 lc, .slice so m2 sc] 90 (0, 0)) := by rw [← hwz]; exact (Below.heap_alloc _ _ _ (lt_of_block HG.out)).trans HG.out
              have HOZ := hid (show OwnMt wz wc.heap.size (.slice no2 M.length nc2) M by rw [← hwz]; exact HO.out.alloc _)
              have HWZ := hid (show Below wc.heap.size wc wz by rw [← hwz]; exact HW.out.alloc HW.out.size _)
              obtain ⟨gz, hgzn⟩ : ∃ g, wr.heap.size = g := ⟨_, rfl⟩
              rw [hgzn] at hgz
              have HGZ := hid hgz
              have HGA := hid hga2
              have HAC := hid (DAlikeT_any ka kb _ _ _ _ xa xb wz (HTA.out.old (HWZ.out.mono (Nat.le_refl _))) (HTB.out.old (HWZ.out.mono (Nat.le_refl _))) HXL.out HXL2.out)
              have HONE := hid (show oneM (ka, xa) (kb, xb) = if alikeB xa xb = true then some (ka, kb, ratioL xa xb) else none from rfl)
              clear old e1 e2 e3 tc td hxb hm3 hm4 hQ2 hgz hga2 HO HG HW
              go_upto_region 9 with fail
              clear f1 f2 f3 hwz hgzn
              have a0 : wz.cell? ⟨ga, 0, none⟩ = some (.int .i64 (ka : Nat)) := blk_cell (i := 0) HGA.out rfl
              have a1 : wz.cell? ⟨ga, 1, none⟩ = some (.slice lo m1 lc) := blk_cell (i := 1) HGA.out rfl
              have a2 : wz.cell? ⟨ga, 2, none⟩ = some (.slice so m2 sc) := blk_cell (i := 2) HGA.out rfl
              have z0 : wz.cell? ⟨gz, 0, none⟩ = some (.int .i64 (kb : Nat)) := blk_cell (i := 0) HGZ.out rfl
              have z1 : wz.cell? ⟨gz, 1, none⟩ = some (.slice lo2 m3 lc2) := blk_cell (i := 1) HGZ.out rfl
              have z2 : wz.cell? ⟨gz, 2, none⟩ = some (.slice so2 m4 sc2) := blk_cell (i := 2) HGZ.out rfl
              go_wp2_with fail
              refine HAC.out.mono ?_
              rintro e w3 ⟨r, rfl, hr, hb3⟩
              have hga3 := (hb3.block _ (lt_of_block HGA.out)).trans HGA.out
              have hgz3 := (hb3.block _ (lt_of_block HGZ.out)).trans HGZ.out
              have HO3 := hid (show OwnMt w3 wc.heap.size (.slice no2 M.length nc2) M from owns_kept HOZ.out fun q _ hq => hb3.block q hq)
              have HW3 := hid (below_step HWZ.out hb3 HWZ.out.size)
              have HG3 := hid hga3
              clear a0 a1 a2 z0 z1 z2 HAC HGA HGZ HOZ HWZ hb3
              cases hal : alikeB xa xb with
              | true =>
                obtain rfl := hr hal
                have HE := hid (show M ++ [(ka, kb, ratioL xa xb)] = L ++ rowUp (ka, xa) B (j + 1) by rw [HNX.out, HONE.out, hal]; rfl)
                have a0 : w3.cell? ⟨ga, 0, none⟩ = some (.int .i64 (ka : Nat)) := blk_cell (i := 0) hga3 rfl
                have z0 : w3.cell? ⟨gz, 0, none⟩ = some (.int .i64 (kb : Nat)) := blk_cell (i := 0) hgz3 rfl
                have hne : (Value.slice no2 M.length nc2).ownBlock ≠ some ga := by
                  rcases ownsRow_ne_a HO3.out hga3 (fun cur e => absurd (Obj.cells.inj e).2.1 (by decide)) with h1 | h1
                  · rw [h1]
                    exact fun e => by cases e
                  · exact h1
                have HNE := hid hne
                have hlga := lt_of_block hga3
                obtain ⟨rr, hrr⟩ : ∃ rr, ratioL xa xb = rr := ⟨_, rfl⟩
                rw [hrr] at HE ⊢
                clear hr hal hga3 hgz3 hne hrr
                go_wp2_with (at_builtin; refine wpList_append_mtk (by rfl) (.tmp 47) (.tmp 54) rfl wc.heap.size _ M (ka, kb, rr) rfl HO3.out _ rfl rfl (by have := HML.out; omega) HW3.out.size ?_; intro v5 w5 hO5 hb5 hk5)
                go_roundg (nb - (j + 1))
                case measure => have := HQ2.out; omega
                case rel => exact ⟨j + 1, _, by go_num, hid ⟨by have := HQ2.out; omega, Nat.le_refl _⟩, hid HE.out, hid hO5, hid ((hk5 ga hlga HNE.out).trans HG3.out), hid (HW3.out.trans hb5)⟩
              | false =>
                have HE := hid (show M = L ++ rowUp (ka, xa) B (j + 1) by rw [HNX.out, HONE.out, hal]; simp)
                clear hr hal hga3 hgz3
                go_wp2_with fail
                go_roundg (nb - (j + 1))
                case measure => have := HQ2.out; omega
                case rel => exact ⟨j + 1, M, by go_num, hid ⟨by have := HQ2.out; omega, Nat.le_refl _⟩, HE, HO3, HG3, HW3⟩
            · obtain rfl : j = nb := by omega
              have hneg : ¬ (j : Int) < (j : Int) := by omega
              have HE := hid (show M = matUp A B (k + 1) by rw [HNEXT.out, HM.out, ← HNB.out])
              clear hQ2
              go_wp2_with fail
              go_roundg (na - (k + 1))
              case measure => have := HQ.out; omega
              case rel => exact ⟨k + 1, M, by go_num, hid ⟨by omega, Nat.le_refl _⟩, HE, HO, HW⟩
        · obtain rfl : k = na := by omega
          have hneg : ¬ (k : Int) < (k : Int) := by omega
          have HE := hid (show L = matUp A B A.length by rw [HLL.out, HNA.out])
          have HLB := hid (show L.length ≤ 2000000 by
            have h1 := HMU.out k
            have h3 := HAL.out
            have h5 : k * nb ≤ 1000 * 1000 := Nat.mul_le_mul h3.1 h3.2
            rw [HLL.out]
            have := HNB.out
            rw [this] at h1
            omega)
          have HSO := hid (PStMt_any _ L wr wc.heap.size HW.out.size HO.out (by have := HLB.out; omega))
          clear hQ
          go_wp2_with (go_at_call 56; refine HSO.out.mono ?_; rintro e w5 ⟨rfl, hO5, hb5⟩)
          go_ret
          rw [← HNA.out] at *
          rw [← HE.out]
          exact ⟨_, rfl, owns_base hO5 HB3.out.size, HB3.out.trans ((HW.out.trans hb5).mono HB3.out.size)⟩
end
end Go.Proofs.Ytnpgfbgnbonhfaa

namespace Go.Proofs.Ytnpgfbgnbonhfaa
open Go.RowKit

def joinAll (st : List Int × List Int) (ms : List MtS) : List Int × List Int := ms.foldl (fun s m => joinL s m.1 m.2.1) st
theorem joinAll_len (ms : List MtS) : ∀ st : List Int × List Int, (joinAll st ms).1.length = st.1.length ∧ (joinAll st ms).2.length = st.2.length := by
  induction ms with
  | nil => exact fun st => ⟨rfl, rfl⟩
  | cons m ms ih =>
    intro st
    have h1 := ih (joinL st m.1 m.2.1)
    have h2 := joinL_len st m.1 m.2.1
    exact ⟨h1.1.trans h2.1, h1.2.trans h2.2⟩
theorem joinAll_more (ms : List MtS) (st : List Int × List Int) {k : Nat} {m : MtS} (h : ms[k]? = some m) : joinAll st (ms.take (k + 1)) = joinL (joinAll st (ms.take k)) m.1 m.2.1 := by
  rw [List.take_add_one, h, joinAll, List.foldl_append]
  rfl
/-- the matches of two lists, the greatest ratio first -/
def matchS (l m : List FileS) (st : List Int × List Int) : List MtS :=
  (stableA (ltOf cfMt) (matUp (leftUp l st.1 l.length) (leftUp m st.2 m.length) (leftUp l st.1 l.length).length).toArray).toList
theorem matUp_mem {A B : List TxS} {k : Nat} {x : MtS} (h : x ∈ matUp A B k) : ∃ a b, a ∈ A ∧ b ∈ B ∧ alikeB a.2 b.2 = true ∧ x = (a.1, b.1, ratioL a.2 b.2) := by
  obtain ⟨a, ha, h⟩ := List.mem_flatMap.1 h
  obtain ⟨b, hb, he⟩ := List.mem_filterMap.1 h
  unfold oneM at he
  split at he
  · rename_i hal
    cases he
    exact ⟨a, b, List.mem_of_mem_take ha, List.mem_of_mem_take hb, hal, rfl⟩
  · cases he
theorem matchS_mem {l m : List FileS} {st : List Int × List Int} {x : MtS} : x ∈ matchS l m st ↔ x ∈ matUp (leftUp l st.1 l.length) (leftUp m st.2 m.length) (leftUp l st.1 l.length).length := by
  unfold matchS
  rw [(perm_stableA _ _).mem_iff]
theorem matchS_in {l m : List FileS} {st : List Int × List Int} {x : MtS} (h : x ∈ matchS l m st) : x.1 < l.length ∧ x.2.1 < m.length := by
  obtain ⟨a, b, ha, hb, _, rfl⟩ := matUp_mem (matchS_mem.1 h)
  obtain ⟨_, _, _, _, h1⟩ := leftUp_mem ha
  obtain ⟨_, _, _, _, h2⟩ := leftUp_mem hb
  exact ⟨h1, h2⟩
section
set_option maxRecDepth 100000
set_option maxHeartbeats 4000000
theorem DJoinAlike_any (w0 : World) (vb vs : Value) (gp gt gf : Nat) (ts fs : List Int) (l m : List FileS) (w : World) (h : PairAt w0 vb vs gp gt gf ts fs w) (hb : SlF w0 vb l) (hs : SlF w0 vs m)
    (hl : ts.length = l.length) (hm : fs.length = m.length) (fl : few l) (fm : few m) :
    Calls Try.prog 23 #[.pointer (some ⟨gp, 0, none⟩)] w fun e w' => e = .returned (.tuple #[]) ∧
      PairAt w0 vb vs gp gt gf (joinAll (ts, fs) (matchS l m (ts, fs))).1 (joinAll (ts, fs) (matchS l m (ts, fs))).2 w' := by
  have HM := hid (DMatches_any w0 vb vs gp gt gf ts fs l m w h hb hs hl hm fl fm)
  have hin := fun x => @matchS_in l m (ts, fs) x
  have hms : matchS l m (ts, fs) = (stableA (ltOf cfMt) (matUp (leftUp l ts l.length) (leftUp m fs m.length) (leftUp l ts l.length).length).toArray).toList := rfl
  rw [← hms] at HM
  obtain ⟨Ms, hMs⟩ : ∃ M, matchS l m (ts, fs) = M := ⟨_, rfl⟩
  rw [hMs] at HM hin ⊢
  have HIN := hid (show ∀ x ∈ Ms, x.1 < ts.length ∧ x.2.1 < fs.length by rw [hl, hm]; exact hin)
  have HLE := hid (show ts.length ≤ 1000000 ∧ fs.length ≤ 1000000 by rw [hl, hm]; have := fl.1; have := fm.1; omega)
  have hml : Ms.length ≤ 1000000 := by
    rw [← hMs, hms, Array.length_toList, size_stableA, List.size_toArray]
    have h1 := matUp_len (leftUp l ts l.length) (leftUp m fs m.length) (leftUp l ts l.length).length
    have h2 := leftUp_len l ts l.length
    have h3 := leftUp_len m fs m.length
    have h4 := Nat.mul_le_mul (Nat.le_trans h2 fl.1) (Nat.le_trans h3 fm.1)
    omega
  have HML := hid hml
  have HP := hid h
  clear h hb hs hl hm fl fm hin hms hMs hml
  go_enter Try.func23, Try.ntmps23
  go_wp2_with fail
  refine HM.out.mono ?_
  rintro e w1 ⟨v, rfl, ho, hb1⟩
  obtain ⟨no, nc, rfl⟩ := owns_form ho
  have HSM := hid (OwnMt.sl ho)
  have HP1 := hid (show PairAt w0 vb vs gp gt gf ts fs w1 from
    ⟨(hb1.block _ (lt_of_block HP.out.cell)).trans HP.out.cell, (hb1.block _ (lt_of_block HP.out.rowT)).trans HP.out.rowT, (hb1.block _ (lt_of_block HP.out.rowF)).trans HP.out.rowF, HP.out.hp, HP.out.ht, HP.out.hf, HP.out.ptf, HP.out.ppt, HP.out.ppf, HP.out.below.trans (hb1.mono HP.out.below.size)⟩)
  have HGT := hid (show ∀ q, (Value.slice no Ms.length nc).ownBlock = some q → q ≠ gt ∧ q ≠ gf from fun q hq => by
    have h1 := (World.ownsRow.lt ho q hq).1
    have h2 := lt_of_block HP.out.rowT
    have h3 := lt_of_block HP.out.rowF
    omega)
  have HOM := hid ho
  clear ho hb1 HP HM
  go_wp2_with fail
  go_loopg [7] Ms.length (fun g i wr => ∃ k : Nat, i = .int .i64 (k : Int) ∧ Hid (k ≤ Ms.length ∧ Ms.length - k ≤ g) ∧
    Hid (PairAt w0 vb vs gp gt gf (joinAll (ts, fs) (Ms.take k)).1 (joinAll (ts, fs) (Ms.take k)).2 wr) ∧ Hid (Keep (fun q => q = gt ∨ q = gf) w1 wr))
  case atStart => exact ⟨0, rfl, hid ⟨Nat.zero_le _, Nat.le_refl _⟩, HP1, hid (Keep.refl _ _)⟩
  case round =>
    obtain ⟨k, rfl, HQ, HP, HK⟩ := hrel
    have hQ := HQ.out
    have k0 : (0 : Int) ≤ (k : Int) := Int.natCast_nonneg _
    by_cases hlt : k < Ms.length
    · have k1 : (k : Int) < (Ms.length : Int) := by omega
      have kw : IntKind.i64.wrap ((k : Int) + 1) = (k : Int) + 1 := IntWalk.i64_in _ (by have := HML.out; omega)
      have HSL := HOM.out
      obtain ⟨b, o, p, q, r, rfl, he, c1, c2, c3⟩ := SlMt.at HSM.out hlt
      have hbo : b ≠ gt ∧ b ≠ gf := HGT.out b (by
        rcases HSL.2 with ⟨e, _⟩ | ⟨g, cap, cur, e, _⟩
        · cases e
        · rfl)
      have old : ∀ {j : Nat} {u : Value}, w1.cell? ⟨b, j, none⟩ = some u → wr.cell? ⟨b, j, none⟩ = some u := fun {j u} hp => (World.cell?_of_block (w := w1) (HK.out.block b (World.block_lt_of_cell? _ _ hp) (fun e => by rcases e with e | e; exact hbo.1 e; exact hbo.2 e))).trans hp
      have f1 := old c1
      have f2 := old c2
      have f3 := old c3
      have hpq := HIN.out _ (List.mem_of_getElem? he)
      have hjl := joinAll_len (Ms.take k) (ts, fs)
      have HNX := hid (joinAll_more Ms (ts, fs) he)
      have HJ := hid (fun (wx : World) (hx : PairAt w0 vb vs gp gt gf (joinAll (ts, fs) (Ms.take k)).1 (joinAll (ts, fs) (Ms.take k)).2 wx) =>
        DJoin_any w0 vb vs gp gt gf _ _ p q wx hx (by rw [hjl.1]; exact hpq.1) (by rw [hjl.2]; exact hpq.2) (by rw [hjl.1]; exact HLE.out.1) (by rw [hjl.2]; exact HLE.out.2))
      have HA := hid (show PairAt w0 vb vs gp gt gf (joinAll (ts, fs) (Ms.take k)).1 (joinAll (ts, fs) (Ms.take k)).2 (wr.alloc (.cells #[.int .i64 (p : Nat), .int .i64 (q : Nat), .int .i64 (r : Nat)] 77)) from
        ⟨(Below.heap_alloc _ _ _ (lt_of_block HP.out.cell)).trans HP.out.cell, (Below.heap_alloc _ _ _ (lt_of_block HP.out.rowT)).trans HP.out.rowT, (Below.heap_alloc _ _ _ (lt_of_block HP.out.rowF)).trans HP.out.rowF, HP.out.hp, HP.out.ht, HP.out.hf, HP.out.ptf, HP.out.ppt, HP.out.ppf, HP.out.below.alloc HP.out.below.size _⟩)
      have HKA := hid (HK.out.alloc (.cells #[.int .i64 (p : Nat), .int .i64 (q : Nat), .int .i64 (r : Nat)] 77))
      have HJA := hid (HJ.out _ HA.out)
      clear old c1 c2 c3 he hpq hjl hbo HSL HJ
      go_wp2_with (go_at_call 41; refine HJA.out.mono ?_; rintro e w2 ⟨rfl, hP2, hK2⟩)
      go_roundg (Ms.length - (k + 1))
      case measure => omega
      case rel => exact ⟨k + 1, by go_num, hid ⟨by omega, Nat.le_refl _⟩, hid (by rw [HNX.out]; exact hP2), hid (HKA.out.trans hK2)⟩
    · obtain rfl : k = Ms.length := by omega
      have hneg : ¬ (Ms.length : Int) < (Ms.length : Int) := by omega
      have HE := HP.out
      rw [List.take_length] at HE
      have HE2 := hid HE
      clear HE hQ
      go_wp2_with fail
      go_end0
      exact ⟨rfl, HE2.out⟩
end
end Go.Proofs.Ytnpgfbgnbonhfaa

namespace Go.Proofs.Ytnpgfbgnbonhfaa
open Go.RowKit

/-! ### As mathematics -/
abbrev TwS := Txt × Nat
/-- how many files have that text -/
def cntT (l : List FileS) (t : Txt) : Nat := (l.filter fun f => f.2.2 == t).length
theorem cntT_snoc (l : List FileS) (f : FileS) (t : Txt) : cntT (l ++ [f]) t = cntT l t + if f.2.2 = t then 1 else 0 := by
  unfold cntT
  rw [List.filter_append, List.length_append]
  congr 1
  by_cases h : f.2.2 = t
  · simp [h]
  · simp [h]
theorem cntT_le (l : List FileS) (t : Txt) : cntT l t ≤ l.length := List.length_filter_le _ _
def twinAt (l : List FileS) (i : Nat) : TwS := ((l.getD i fileZ).2.2, cntT (l.take i) (l.getD i fileZ).2.2)
def twUp (l : List FileS) (k : Nat) : List TwS := (List.range k).map (twinAt l)
theorem twUp_more (l : List FileS) (k : Nat) : twUp l (k + 1) = twUp l k ++ [twinAt l k] := by rw [twUp, List.range_succ, List.map_append]; rfl
theorem twUp_len (l : List FileS) (k : Nat) : (twUp l k).length = k := by simp [twUp]
theorem twUp_at {l : List FileS} {k i : Nat} (h : i < k) : (twUp l k)[i]? = some (twinAt l i) := by simp [twUp, h]

/-! ### In memory -/
def encTw : Enc TwS := ⟨2, by omega, fun f => [strV f.1, .int .i64 (f.2 : Nat)], fun _ => rfl, fun f u hu => by
  simp only [List.mem_cons, List.not_mem_nil, or_false] at hu
  rcases hu with rfl | rfl <;> rfl⟩
theorem Try.infoTw : (Try.prog.info? 71).map (fun i => (i.zero, i.size, i.bytes)) = some (some (.agg #[strV [], .int .i64 0]), 2, 24) := by kernel_rfl
theorem Try.sizeTw : (Try.prog.info? 71).map (·.size) = some 2 := by kernel_rfl
abbrev SlTw (w : World) (v : Value) (fs : List TwS) : Prop := SlR encTw w v fs
abbrev OwnTw (w : World) (base : Nat) (v : Value) (fs : List TwS) : Prop := w.ownsRow base 71 2 v fs.length (flatR encTw fs)
theorem OwnTw.sl {w : World} {base : Nat} {v : Value} {fs : List TwS} (h : OwnTw w base v fs) : SlTw w v fs := SlR.ofOwns (E := encTw) h
theorem SlTw.at {w : World} {ao : Option Addr} {n cap : Nat} {fs : List TwS} (h : SlTw w (.slice ao n cap) fs) {i : Nat} (hi : i < fs.length) :
    ∃ b o p q, ao = some ⟨b, o, none⟩ ∧ fs[i]? = some (p, q) ∧ w.cell? ⟨b, o + i * 2, none⟩ = some (.string ⟨List.toArray p⟩) ∧ w.cell? ⟨b, o + i * 2 + 1, none⟩ = some (.int .i64 (q : Nat)) := by
  obtain ⟨b, o, ⟨p, q⟩, ha, hx, hc⟩ := SlR.at' h hi
  exact ⟨b, o, p, q, ha, hx, hc 0 _ rfl, hc 1 _ rfl⟩
theorem wpList_append_twk {w : World} {ops : Array Oper} {rest : List Oper} {o : Oper} {a : Act} {Q : Exit → Act → World → Prop} (hgd : o.guard = none) (s sx : Operand)
    (ho : o.op = .call { callee := .builtin .append, args := #[s, sx], argTypes := #[68, 68] })
    (base : Nat) (v : Value) (xs : List TwS) (x : TwS) (he : a.eval s = v) (hown : OwnTw w base v xs) (q : Nat) (hx : a.eval sx = .slice (some ⟨q, 0, none⟩) 1 1) (hq : w.heap.size = q)
    (hlen : xs.length ≤ 100000000) (hbase : base ≤ w.heap.size)
    (h : ∀ v' w', OwnTw w' base v' (xs ++ [x]) → Below base w w' → (w.alloc (.cells #[.string ⟨x.1.toArray⟩, .int .i64 (x.2 : Nat)] 71)).grownBy w' v.ownBlock → wpList Try.prog ops Q rest (a.put o.dst v') w') : wpList Try.prog ops Q (o :: rest) a (w.alloc (.cells #[.string ⟨x.1.toArray⟩, .int .i64 (x.2 : Nat)] 71)) := by
  obtain ⟨i0, hi0, hi1, hi2, hi3⟩ := info_parts Try.infoTw
  subst hq
  have hsrc : Src Try.prog 2 68 (.slice (some ⟨w.heap.size, 0, none⟩) 1 1) 1 (encTw.enc x) (w.alloc (.cells #[.string ⟨x.1.toArray⟩, .int .i64 (x.2 : Nat)] 71)) := by
    refine Src.ofSlice _ Try.underlying68 ⟨w.heap.size, 0, none⟩ 1 1 (encTw.enc x) rfl (fun j u hu => ?_) (encTw.one x)
    rw [Addr.add_lit, Nat.zero_add]
    refine blk_cell (heap_alloc_new w _) ?_
    rw [List.getElem?_toArray]
    exact hu
  refine wpList_append_any _ hgd s sx _ _ ho base 71 i0 _ 2 24 Try.underlying68 hi0 hi1 hi2 hi3 rfl (by omega) v _ _ he (hown.alloc _) _ 1 _ hx hsrc (by unfold maxLen; omega) (by omega) (by simp; omega) fun v' w' h2 h3 h4 => h v' w' ?_ ?_ h3
  · unfold OwnTw
    rw [List.length_append, flatR_append, flatR_one]
    exact h2
  · exact ((Below.refl base w).alloc hbase _).grown h3 (by simp; omega) (fun j hj => (hown.lt j hj).1)
abbrev MW := DataW Unit
theorem Try.zeroIntI (w : World) : (zeroValue 3).run Try.prog w = .ok (.int .i64 0) w := by kernel_rfl
abbrev OwnCn (w : World) (b n : Nat) (D : MW) : Prop := w.ownsMap Try.prog 9 (plainElem Try.prog 3) b n D
/-- what the map of counts tells of the files ahead -/
def Counts (D : MW) (l : List FileS) : Prop := Maps.IsMap D ∧ ∀ t : Txt, D.atKey (.string t) (.lit (.int .i64 0)) = .lit (.int .i64 (cntT l t : Nat))
theorem Counts.nil : Counts (.map []) [] := ⟨Maps.isMap_empty, fun _ => rfl⟩
theorem Counts.put {D : MW} {l : List FileS} (h : Counts D l) (f : FileS) : Counts (D.put (.string f.2.2) (.lit (.int .i64 ((cntT l f.2.2 + 1 : Nat) : Int)))) (l ++ [f]) := by
  refine ⟨h.1.put _ _, fun t => ?_⟩
  rw [cntT_snoc]
  by_cases e : f.2.2 = t
  · rw [if_pos e, ← e]
    exact Maps.atKey_put_same h.1 (show WideAt.IsKeyLit (.string f.2.2) from trivial) _ _
  · rw [if_neg e, Maps.atKey_put_other (fun e' => e (by cases e'; rfl))]
    exact h.2 t
theorem key_str {t : Txt} (ht : t.length ≤ maxLen) : keyOf Try.prog 9 (.string ⟨t.toArray⟩) = some (.string t) := by
  have hsz : (ByteArray.mk t.toArray).size ≤ maxLen := by
    show t.toArray.size ≤ maxLen
    simpa using ht
  simp [keyOf, Try.underlying9, mapKey, hsz]
/-- (after the kit's own, at rows of any width) -/
theorem ownsRow_ne_a' {W : World} {base : Nat} {e : TypeId} {size : Nat} {v : Value} {k : Nat} {xs : List Value} (h : W.ownsRow base e size v k xs) {j : Nat} {o : Obj} (hj : W.heap[j]? = some o) (hno : ∀ cur, o ≠ .cells cur e (0, 0)) :
    v.ownBlock = none ∨ v.ownBlock ≠ some j := ownsRow_ne_a h hj hno
section
set_option maxRecDepth 100000
set_option maxHeartbeats 4000000
theorem DTwins_any (v : Value) (l : List FileS) (w : World) (hv : SlF w v l) (hl : l.length ≤ 1000000) (hf : ∀ f ∈ l, f.2.2.length ≤ 1000000) :
    Calls Try.prog 40 #[v] w fun e w' => ∃ u, e = .returned u ∧ OwnTw w' w.heap.size u (twUp l l.length) ∧ Below w.heap.size w w' := by
  obtain ⟨ao, cap, rfl⟩ := hv.form
  have HV := hid hv
  have HL := hid hl
  have HF := hid hf
  clear hv hl hf
  have hmm := @run_makeMap Try.prog
  go_enter Try.func40, Try.ntmps40
  go_wp2_with fail
  clear hmm
  obtain ⟨w1, hw1⟩ : ∃ w1, w.alloc (.map #[] 0) = w1 := ⟨_, rfl⟩
  have hm1 : OwnCn w1 w.heap.size 0 (.map []) := by rw [← hw1]; exact World.ownsMap_made w _ _ _
  have hb1 : Below w.heap.size w w1 := by rw [← hw1]; exact (Below.refl _ w).alloc (Nat.le_refl _) _
  rw [hw1]
  obtain ⟨gm, hgm⟩ : ∃ g, w.heap.size = g := ⟨_, rfl⟩
  have HGM := hid hgm
  rw [hgm] at hm1 ⊢
  have HM1 := hid hm1
  have HB1 := hid hb1
  clear hm1 hb1 hw1 hgm
  go_loopg [4, 10] l.length (fun g s4 i wr => ∃ (k n : Nat) (D : MW) (T : List TwS), i = .int .i64 (k : Int) ∧ Hid (k ≤ l.length ∧ l.length - k ≤ g ∧ n ≤ k) ∧ Hid (T = twUp l k) ∧ Hid (OwnTw wr w.heap.size s4 T) ∧ Hid (OwnCn wr gm n D) ∧ Hid (Counts D (l.take k)) ∧ Hid (Below w.heap.size w wr))
  case atStart => exact ⟨0, 0, .map [], [], rfl, hid ⟨Nat.zero_le _, Nat.le_refl _, Nat.le_refl _⟩, hid rfl, hid (World.ownsRow_nil _ _ _ _), HM1, hid Counts.nil, HB1⟩
  case round =>
    clear HM1 HB1
    obtain ⟨k, n, D, T, rfl, HQ, HT, HO, HM, HC, HB⟩ := hrel
    obtain ⟨no, nc, rfl⟩ := owns_form HO.out
    have hQ := HQ.out
    have k0 : (0 : Int) ≤ (k : Int) := Int.natCast_nonneg _
    by_cases hlt : k < l.length
    · have k1 : (k : Int) < (l.length : Int) := by omega
      have kw : IntKind.i64.wrap ((k : Int) + 1) = (k : Int) + 1 := IntWalk.i64_in _ (by have := HL.out; omega)
      obtain ⟨b, o, p, x, t, rfl, he, c1, c2, c3⟩ := SlF.at (HV.out.old HB.out) hlt
      have htl : t.length ≤ maxLen := by have := HF.out (p, x, t) (List.mem_of_getElem? he); unfold maxLen; simp only at this; omega
      have hgd : l.getD k fileZ = (p, x, t) := by rw [List.getD_eq_getElem?_getD, he]; rfl
      have htk : l.take (k + 1) = l.take k ++ [(p, x, t)] := by rw [List.take_add_one, he]; rfl
      have hql : cntT (l.take k) t ≤ 1000000 := by have := cntT_le (l.take k) t; rw [List.length_take] at this; have := HL.out; omega
      obtain ⟨q, hq⟩ : ∃ q, cntT (l.take k) t = q := ⟨_, rfl⟩
      have HTW := hid (show T ++ [(t, q)] = twUp l (k + 1) by rw [twUp_more, twinAt, hgd, ← hq, HT.out])
      have HC2 := hid (show Counts (D.put (.string t) (.lit (.int .i64 ((q + 1 : Nat) : Int)))) (l.take (k + 1)) by rw [htk, ← hq]; exact HC.out.put (p, x, t))
      have HAT := hid (show D.atKey (.string t) (.lit (.int .i64 0)) = .lit (.int .i64 (q : Nat)) by rw [← hq]; exact HC.out.2 t)
      rw [hq] at hql
      have HKEY := hid (key_str htl)
      have HTL := hid (show T.length = k by rw [HT.out]; exact twUp_len l k)
      obtain ⟨wb, hwb⟩ : ∃ wb, wr.alloc (.cells #[.string ⟨p.toArray⟩, .bool x, .string ⟨t.toArray⟩] 31) = wb := ⟨_, rfl⟩
      have hgb : wb.heap[wr.heap.size]? = some (.cells #[.string ⟨p.toArray⟩, .bool x, .string ⟨t.toArray⟩] 31 (0, 0)) := by rw [← hwb]; exact heap_alloc_new wr _
      have HBB := hid (show Below w.heap.size w wb by rw [← hwb]; exact HB.out.alloc HB.out.size _)
      have HOB := hid (show OwnTw wb w.heap.size (.slice no T.length nc) T by rw [← hwb]; exact HO.out.alloc _)
      have HMB := hid (show OwnCn wb gm n D by rw [← hwb]; exact HM.out.alloc _)
      obtain ⟨gb, hgbn⟩ : ∃ g, wr.heap.size = g := ⟨_, rfl⟩
      rw [hgbn] at hgb
      have q0 : wb.cell? ⟨gb, 2, none⟩ = some (.string ⟨t.toArray⟩) := blk_cell (i := 2) hgb rfl
      have HGB := hid hgb
      have qw : IntKind.i64.wrap ((q : Int) + 1) = ((q + 1 : Nat) : Int) := (IntWalk.i64_in _ (by omega)).trans (by omega)
      have HQL := hid hql
      have HZI := hid Try.zeroIntI
      clear he htl hgd htk hq hql hgb
      go_upto_region 6 with fail
      clear c1 c2 c3 hwb hgbn HO HM HC
      have ql := HQL.out
      go_upto_region 7 with (first
        | (at_lookup; refine wpList_lookup_own_int _ rfl (.tmp 17) (.tmp 19) 86 rfl 9 3 .i64 (Maps.string_keyed Try.underlying9) Try.underlying86 Try.underlying3 (HZI.out _) gm n D rfl HMB.out _ (.string t) rfl HKEY.out ?_; intro c hc _; obtain rfl : c = (q : Int) := by (have := hc.symm.trans HAT.out; simpa using this))
        | (at_builtin; refine wpList_append_twk (by rfl) (.tmp 14) (.tmp 22) rfl w.heap.size _ T (t, q) rfl HOB.out _ rfl rfl (by have := HTL.out; have := HQ.out; have := HL.out; omega) HBB.out.size ?_; intro v5 w5 hO5 hb5 hg5))
      have hrow : ∀ {W : World} {u : Value} {m : Nat} {xs : List Value}, W.ownsRow w.heap.size 71 2 u m xs → OwnCn W gm n D → u.ownBlock ≠ some gm := fun {W u m xs} h hm => by
        obtain ⟨es, clock, hbm, _⟩ := hm
        rcases ownsRow_ne_a' h hbm (fun cur e => by cases e) with h1 | h1
        · rw [h1]
          exact fun e => by cases e
        · exact h1
      have hngb : (Value.slice no T.length nc).ownBlock ≠ some gb := by
        rcases ownsRow_ne_a' HOB.out HGB.out (fun cur e => absurd (Obj.cells.inj e).2.1 (by decide)) with h1 | h1
        · rw [h1]
          exact fun e => by cases e
        · exact h1
      have hgb5 := (hg5.block gb (by have := lt_of_block HGB.out; simp; omega) (fun e => hngb e.symm)).trans ((Below.heap_alloc _ _ _ (lt_of_block HGB.out)).trans HGB.out)
      have r0 : w5.cell? ⟨gb, 2, none⟩ = some (.string ⟨t.toArray⟩) := blk_cell (i := 2) hgb5 rfl
      have HM5 := hid (show OwnCn w5 gm n D from World.ownsMap.kept (HMB.out.alloc _) hg5 (fun e => hrow HOB.out HMB.out e.symm))
      have HO5 := hid hO5
      have HB5 := hid (HBB.out.trans hb5)
      have HROW := hid (hrow HO5.out HM5.out)
      have HNM := hid (show n < maxLen by have := HQ.out; have := HL.out; unfold maxLen; omega)
      have HWF := hid (show (Lit.int .i64 ((q + 1 : Nat) : Int)).wf = true by have := HQL.out; simp [Lit.wf, IntKind.min, IntKind.max, IntKind.signed, IntKind.bits]; omega)
      clear hrow hngb hgb5 hg5 hO5 hb5 q0 ql HOB HMB HGB
      go_wp2_with (first
        | (at_lookup; refine wpList_lookup_own_int _ rfl (.tmp 24) (.tmp 26) 86 rfl 9 3 .i64 (Maps.string_keyed Try.underlying9) Try.underlying86 Try.underlying3 (HZI.out _) gm n D rfl HM5.out _ (.string t) rfl HKEY.out ?_; intro c hc _; obtain rfl : c = (q : Int) := by (have := hc.symm.trans HAT.out; simpa using this))
        | (at_mapUpdate; refine wpList_mapUpdate_own _ rfl (.tmp 24) (.tmp 26) (.tmp 28) 86 rfl 9 3 (Maps.string_keyed Try.underlying9) Try.underlying86 _ gm n D rfl HM5.out HNM.out _ _ (.string t) rfl rfl HKEY.out (.lit (.int .i64 ((q + 1 : Nat) : Int))) [] (plainElem_int Try.underlying3 HWF.out) ?_; intro w6 hown6 hg6; have HM6 := hid hown6; have HG6 := hid hg6; clear hown6 hg6))
      go_roundg (l.length - (k + 1))
      case measure => omega
      case rel => exact ⟨k + 1, n + 1, _, _, by go_num, hid ⟨by omega, Nat.le_refl _, by omega⟩, HTW, hid (HO5.out.kept HG6.out (.inr HROW.out)), HM6, HC2, hid (HB5.out.grown HG6.out HB5.out.size (fun j hj => by cases hj; exact Nat.le_of_eq HGM.out))⟩
    · obtain rfl : k = l.length := by omega
      have hneg : ¬ (l.length : Int) < (l.length : Int) := by omega
      clear hQ
      go_wp2_with fail
      go_ret
      rw [← HT.out]
      exact ⟨_, rfl, HO.out, HB.out⟩
end
end Go.Proofs.Ytnpgfbgnbonhfaa

namespace Go.Proofs.Ytnpgfbgnbonhfaa
open Go.RowKit

/-! ### As mathematics -/
def idxTw (l : List TwS) (x : TwS) : Option Nat := l.findIdx? (· == x)
theorem idxTw_snoc (l : List TwS) (q p : TwS) : idxTw (l ++ [q]) p = match idxTw l p with | some i => some i | none => if q = p then some l.length else none := by
  unfold idxTw
  rw [List.findIdx?_append]
  cases h : List.findIdx? (· == p) l with
  | some i => simp
  | none =>
    by_cases e : q = p
    · simp [e, List.findIdx?_cons]
    · simp [e, List.findIdx?_cons]
theorem idxTw_some {l : List TwS} {x : TwS} {i : Nat} (h : idxTw l x = some i) : l[i]? = some x := by
  unfold idxTw at h
  rw [List.findIdx?_eq_some_iff_getElem] at h
  obtain ⟨h1, h2, _⟩ := h
  rw [List.getElem?_eq_getElem h1]
  simpa using h2
theorem idxTw_none {l : List TwS} {x : TwS} (h : ∀ i : Nat, l[i]? ≠ some x) : idxTw l x = none := by
  cases e : idxTw l x with
  | none => rfl
  | some i => exact absurd (idxTw_some e) (h i)
theorem cnt_take_lt {l : List FileS} {i j : Nat} {t : Txt} (hij : i < j) (hi : i < l.length) (ht : (l.getD i fileZ).2.2 = t) : cntT (l.take i) t < cntT (l.take j) t := by
  have h1 : l.take (i + 1) = l.take i ++ [l.getD i fileZ] := by
    rw [List.take_add_one, List.getElem?_eq_getElem hi, List.getD_eq_getElem?_getD, List.getElem?_eq_getElem hi]
    rfl
  have h2 : cntT (l.take (i + 1)) t = cntT (l.take i) t + 1 := by rw [h1, cntT_snoc, if_pos ht]
  have h3 : cntT (l.take (i + 1)) t ≤ cntT (l.take j) t := by
    unfold cntT
    exact ((List.take_sublist_take_left (by omega)).filter _).length_le
  omega
theorem twinAt_inj {l : List FileS} {i j : Nat} (hi : i < l.length) (hj : j < l.length) (h : twinAt l i = twinAt l j) : i = j := by
  unfold twinAt at h
  obtain ⟨h1, h2⟩ := Prod.mk.inj h
  rcases Nat.lt_trichotomy i j with e | e | e
  · have := cnt_take_lt (t := (l.getD i fileZ).2.2) e hi rfl
    rw [h1] at this
    rw [h1] at h2
    omega
  · exact e
  · have := cnt_take_lt (t := (l.getD j fileZ).2.2) e hj rfl
    rw [← h1] at this h2
    omega
theorem idxTw_new {l : List FileS} {k : Nat} (hk : k < l.length) : idxTw (twUp l k) (twinAt l k) = none := idxTw_none fun i h => by
  have hlt := (List.getElem?_eq_some_iff.1 h).1
  rw [twUp_len] at hlt
  rw [twUp_at hlt] at h
  have := twinAt_inj (l := l) (by omega) hk (Option.some.inj h)
  omega
def twinStep (l m : List FileS) (s : List Int × List Int) (i : Nat) : List Int × List Int :=
  match idxTw (twUp m m.length) (twinAt l i) with
  | some j => joinL s i j
  | none => s
def joinTw (l m : List FileS) (st : List Int × List Int) (k : Nat) : List Int × List Int := (List.range k).foldl (twinStep l m) st
theorem joinTw_more (l m : List FileS) (st : List Int × List Int) (k : Nat) : joinTw l m st (k + 1) = twinStep l m (joinTw l m st k) k := by
  rw [joinTw, List.range_succ, List.foldl_append]
  rfl
theorem twinStep_len (l m : List FileS) (s : List Int × List Int) (i : Nat) : (twinStep l m s i).1.length = s.1.length ∧ (twinStep l m s i).2.length = s.2.length := by
  unfold twinStep
  split
  · exact joinL_len _ _ _
  · exact ⟨rfl, rfl⟩
theorem joinTw_len (l m : List FileS) (st : List Int × List Int) : ∀ k, (joinTw l m st k).1.length = st.1.length ∧ (joinTw l m st k).2.length = st.2.length
  | 0 => ⟨rfl, rfl⟩
  | k + 1 => by
    rw [joinTw_more]
    have h1 := twinStep_len l m (joinTw l m st k) k
    have h2 := joinTw_len l m st k
    exact ⟨h1.1.trans h2.1, h1.2.trans h2.2⟩

/-! ### In memory -/
theorem PairAt.old {w0 : World} {vb vs : Value} {gp gt gf : Nat} {ts fs : List Int} {w w' : World} (h : PairAt w0 vb vs gp gt gf ts fs w) (hk : Below w.heap.size w w') : PairAt w0 vb vs gp gt gf ts fs w' :=
  ⟨(hk.block _ (lt_of_block h.cell)).trans h.cell, (hk.block _ (lt_of_block h.rowT)).trans h.rowT, (hk.block _ (lt_of_block h.rowF)).trans h.rowF, h.hp, h.ht, h.hf, h.ptf, h.ppt, h.ppf, h.below.trans (hk.mono h.below.size)⟩
theorem PairAt.alloc {w0 : World} {vb vs : Value} {gp gt gf : Nat} {ts fs : List Int} {w : World} (h : PairAt w0 vb vs gp gt gf ts fs w) (o : Obj) : PairAt w0 vb vs gp gt gf ts fs (w.alloc o) := h.old ((Below.refl _ w).alloc (Nat.le_refl _) o)
theorem Try.laidOutJ : laidOutB Try.prog = true := by kernel_rfl
theorem Try.rowTwin : (71 : TypeId) < Try.prog.types.size := of_decide_eq_true (by kernel_rfl)
theorem Try.wideTwin : (match Try.prog.underlying 71 with | some (.array _ _) | some (.struct _) => true | _ => false) = true := by rw [Try.underlying71]
set_option maxRecDepth 100000 in
theorem Try.twinLaw : Maps.Keyed Try.prog 71 := Maps.Keyed.of_law (deep_law_laid Try.laidOutJ (m := 3) (by omega) Try.rowTwin (by kernel_rfl) Try.wideTwin)
def keyTw (x : TwS) : Lit := .string (keyBytes [.string x.1, .int .i64 (x.2 : Nat)])
def twFit (x : TwS) : Prop := x.1.length ≤ maxLen ∧ x.2 ≤ 4000000000
theorem tw_key {x : TwS} (h : twFit x) : keyOf Try.prog 71 (.agg #[.string ⟨x.1.toArray⟩, .int .i64 (x.2 : Nat)]) = some (keyTw x) := by
  have hk : Try.prog.keyType 71 = true := by kernel_rfl
  have hc : Try.prog.cellsOf 71 = 2 := by kernel_rfl
  have hc1 : Try.prog.cellsOf 9 = 1 := by kernel_rfl
  have hc2 : Try.prog.cellsOf 3 = 1 := by kernel_rfl
  obtain ⟨h1, h2⟩ := h
  have w2 : (Lit.int .i64 (x.2 : Int)).wf = true := by simp [Lit.wf, IntKind.min, IntKind.max, IntKind.signed, IntKind.bits]; omega
  have hsz : (ByteArray.mk x.1.toArray).size ≤ maxLen := by
    show x.1.toArray.size ≤ maxLen
    simpa using h1
  obtain ⟨n, hn⟩ : ∃ n, Try.prog.types.size + 1 = n + 2 := ⟨Try.prog.types.size - 1, by have h : 71 < Try.prog.types.size := Try.rowTwin; omega⟩
  unfold keyOf
  rw [Try.underlying71, hk, hn]
  simp [Value.formed, Try.underlying71, hc, Value.cells, Program.keyLits, hc1, hc2, Try.underlying3, Try.underlying9, w2, keyTw, hsz]
theorem keyTw_inj {x y : TwS} (hx : twFit x) (hy : twFit y) (h : keyTw x = keyTw y) : x = y := by
  have := Try.twinLaw.inj (tw_key hx) (h ▸ tw_key hy)
  simp at this
  exact Prod.ext this.1 (by omega)
abbrev OwnAt (w : World) (b n : Nat) (D : MW) : Prop := w.ownsMap Try.prog 71 (plainElem Try.prog 3) b n D
/-- what the map tells: where each twin stands -/
def ShowsW (D : MW) (l : List TwS) : Prop := Maps.IsMap D ∧ ∀ x, twFit x → Maps.has D (keyTw x) = (idxTw l x).isSome ∧ ∀ i, idxTw l x = some i → ∀ z, D.atKey (keyTw x) z = .lit (.int .i64 (i : Nat))
theorem ShowsW.nil : ShowsW (.map []) [] := ⟨Maps.isMap_empty, fun x _ => ⟨rfl, fun i h => by simp [idxTw] at h⟩⟩
theorem ShowsW.put {D : MW} {l : List TwS} {q : TwS} (h : ShowsW D l) (hq : twFit q) (hn : idxTw l q = none) : ShowsW (D.put (keyTw q) (.lit (.int .i64 (l.length : Nat)))) (l ++ [q]) := by
  refine ⟨h.1.put _ _, fun x hx => ?_⟩
  obtain ⟨h1, h2⟩ := h.2 x hx
  rw [idxTw_snoc]
  by_cases e : q = x
  · subst e
    rw [hn]
    simp only [if_true]
    refine ⟨(Maps.has_put_same h.1 (show WideAt.IsKeyLit (keyTw q) from trivial) _).trans rfl, fun i hi z => ?_⟩
    cases hi
    exact Maps.atKey_put_same h.1 (show WideAt.IsKeyLit (keyTw q) from trivial) _ z
  · have hne : keyTw x ≠ keyTw q := fun e' => e (keyTw_inj hx hq e').symm
    rw [Maps.has_put_other hne]
    cases hi : idxTw l x with
    | some i =>
      rw [hi] at h1 h2
      refine ⟨h1, fun j hj z => ?_⟩
      rw [Maps.atKey_put_other hne]
      exact h2 j hj z
    | none =>
      simp only [e, if_false]
      rw [hi] at h1
      exact ⟨h1, fun j hj => by cases hj⟩
theorem OwnAt.old {w w' : World} {b n : Nat} {D : MW} (h : OwnAt w b n D) (hk : b < w.heap.size → w'.heap[b]? = w.heap[b]?) : OwnAt w' b n D := by
  have hlt := h.lt
  obtain ⟨es, clock, hb, r⟩ := h
  exact ⟨es, clock, (hk hlt).trans hb, r⟩
theorem OwnAt.alloc {w : World} {b n : Nat} {D : MW} (h : OwnAt w b n D) (o : Obj) : OwnAt (w.alloc o) b n D := h.old fun hb => Below.heap_alloc _ _ _ hb
section
set_option maxRecDepth 100000
set_option maxHeartbeats 4000000
theorem DJoinTwins_any (w0 : World) (vb vs : Value) (gp gt gf : Nat) (ts fs : List Int) (l m : List FileS) (w : World) (h : PairAt w0 vb vs gp gt gf ts fs w) (hb : SlF w0 vb l) (hs : SlF w0 vs m)
    (hl : ts.length = l.length) (hm : fs.length = m.length) (fl : few l) (fm : few m) :
    Calls Try.prog 22 #[.pointer (some ⟨gp, 0, none⟩)] w fun e w' => e = .returned (.tuple #[]) ∧
      PairAt w0 vb vs gp gt gf (joinTw l m (ts, fs) l.length).1 (joinTw l m (ts, fs) l.length).2 w' := by
  have HP := hid h
  have HTS := hid fun (wx : World) (hk : Below w.heap.size w wx) => DTwins_any vs m wx (hs.old (h.below.trans (hk.mono h.below.size))) (by have := fm.1; omega) fm.2
  have HTB := hid fun (wx : World) (hk : Below w.heap.size w wx) => DTwins_any vb l wx (hb.old (h.below.trans (hk.mono h.below.size))) (by have := fl.1; omega) fl.2
  have HLE := hid (show ts.length = l.length ∧ fs.length = m.length ∧ l.length ≤ 1000 ∧ m.length ≤ 1000 from ⟨hl, hm, fl.1, fm.1⟩)
  have fit : ∀ (L : List FileS), few L → ∀ k x, x ∈ twUp L k → twFit x := fun L fL k x hx => by
    obtain ⟨i, hi, rfl⟩ := List.mem_map.1 hx
    refine ⟨?_, ?_⟩
    · show (L.getD i fileZ).2.2.length ≤ maxLen
      rw [List.getD_eq_getElem?_getD]
      cases e : L[i]? with
      | none => exact Nat.zero_le _
      | some f =>
        have := fL.2 f (List.mem_of_getElem? e)
        show f.2.2.length ≤ maxLen
        unfold maxLen
        omega
    · have h1 := cntT_le (L.take i) (L.getD i fileZ).2.2
      rw [List.length_take] at h1
      have h2 := fL.1
      show cntT (L.take i) (L.getD i fileZ).2.2 ≤ 4000000000
      omega
  have HFS := hid (fit m fm m.length)
  have HFB := hid (fit l fl l.length)
  have c1 : w.cell? ⟨gp, 1, none⟩ = some vs := blk_cell (i := 1) h.cell rfl
  obtain ⟨ao, ac, rfl⟩ := hb.form
  obtain ⟨bo, bc, rfl⟩ := hs.form
  clear h hb hs hl hm fl fm fit
  have hmm := @run_makeMap Try.prog
  go_enter Try.func22, Try.ntmps22
  go_upto_region 1 with fail
  clear hmm
  obtain ⟨w1, hw1⟩ : ∃ w1, w.alloc (.map #[] 0) = w1 := ⟨_, rfl⟩
  have hm1 : OwnAt w1 w.heap.size 0 (.map []) := by rw [← hw1]; exact World.ownsMap_made w _ _ _
  have hb1 : Below w.heap.size w w1 := by rw [← hw1]; exact (Below.refl _ w).alloc (Nat.le_refl _) _
  have d1 : w1.cell? ⟨gp, 1, none⟩ = some (.slice bo m.length bc) := (hb1.cell (p := ⟨gp, 1, none⟩) (World.block_lt_of_cell? _ _ c1)).trans c1
  rw [hw1]
  obtain ⟨gm, hgm⟩ : ∃ g, w.heap.size = g := ⟨_, rfl⟩
  have HGM := hid hgm
  rw [hgm] at hm1 ⊢
  have HM1 := hid hm1
  have HB1 := hid hb1
  clear hm1 hb1 hw1 c1
  go_wp2_with fail
  refine (HTS.out w1 HB1.out).mono ?_
  rintro e w2 ⟨v2, rfl, ho2, hb2⟩
  obtain ⟨no, nc, rfl⟩ := owns_form ho2
  have HS2 := hid (OwnTw.sl ho2)
  have HM2 := hid (HM1.out.old fun hb => hb2.block _ hb)
  have HB2 := hid (below_step HB1.out hb2 HB1.out.size)
  have HSB := hid (show ∀ bb oo, no = some (⟨bb, oo, none⟩ : Addr) → bb ≠ gm from fun bb oo e => by
    subst e
    have h1 := (World.ownsRow.lt ho2 bb rfl).1
    have h2 := HM1.out.lt
    omega)
  have HGT := hid (show gm < w2.heap.size from HM2.out.lt)
  rw [twUp_len] at HS2 ⊢
  clear ho2 hb2 HM1 d1 HTS
  have HTU := hid fun (L : List FileS) (k : Nat) => twUp_len L k
  have HZI := hid Try.zeroIntI
  go_wp2_with fail
  go_loopg [16] m.length (fun g i wr => ∃ (k n : Nat) (D : MW), i = .int .i64 (k : Int) ∧ Hid (k ≤ m.length ∧ m.length - k ≤ g ∧ n ≤ k) ∧ Hid (OwnAt wr gm n D) ∧ Hid (ShowsW D (twUp m k)) ∧ Hid (Keep (fun q => q = gm) w2 wr) ∧ Hid (Below w.heap.size w wr))
  case atStart => exact ⟨0, 0, .map [], rfl, hid ⟨Nat.zero_le _, Nat.le_refl _, Nat.le_refl _⟩, HM2, hid ShowsW.nil, hid (Keep.refl _ _), HB2⟩
  case round =>
    clear HM2 HB2
    obtain ⟨k, n, D, rfl, HQ, HM, HC, HK, HB⟩ := hrel
    have hQ := HQ.out
    have k0 : (0 : Int) ≤ (k : Int) := Int.natCast_nonneg _
    by_cases hlt : k < m.length
    · have k1 : (k : Int) < (m.length : Int) := by omega
      have kw : IntKind.i64.wrap ((k : Int) + 1) = (k : Int) + 1 := IntWalk.i64_in _ (by have := HLE.out; omega)
      obtain ⟨b, o, p, q, rfl, he, c1, c2⟩ := SlTw.at HS2.out (i := k) (by rw [HTU.out]; exact hlt)
      have hbm : b ≠ gm := by
        have h2 := HSB.out b o
        exact h2 rfl
      have old : ∀ {j : Nat} {u : Value}, w2.cell? ⟨b, j, none⟩ = some u → wr.cell? ⟨b, j, none⟩ = some u := fun {j u} hp => (World.cell?_of_block (w := w2) (HK.out.block b (World.block_lt_of_cell? _ _ hp) hbm)).trans hp
      have f1 := old c1
      have f2 := old c2
      have hpq : twinAt m k = (p, q) := by
        rw [twUp_at hlt] at he
        exact Option.some.inj he
      have HFIT := hid (show twFit (p, q) from HFS.out _ (List.mem_of_getElem? he))
      have HKEY := hid (tw_key HFIT.out)
      have HS3 := hid (show ShowsW (D.put (keyTw (p, q)) (.lit (.int .i64 (k : Nat)))) (twUp m (k + 1)) by
        have h1 := HC.out.put HFIT.out (by rw [← hpq]; exact idxTw_new hlt)
        rw [twUp_len] at h1
        rw [twUp_more, hpq]
        exact h1)
      have HNM := hid (show n < maxLen by have := HLE.out; unfold maxLen; omega)
      have HWF := hid (show (Lit.int .i64 (k : Int)).wf = true by have := HLE.out; simp [Lit.wf, IntKind.min, IntKind.max, IntKind.signed, IntKind.bits]; omega)
      have HMA := hid (HM.out.alloc (.cells #[.string ⟨p.toArray⟩, .int .i64 (q : Nat)] 71))
      have HKA := hid (HK.out.alloc (.cells #[.string ⟨p.toArray⟩, .int .i64 (q : Nat)] 71))
      have HBA := hid (HB.out.alloc HB.out.size (.cells #[.string ⟨p.toArray⟩, .int .i64 (q : Nat)] 71))
      have HZM := hid (show gm < w2.heap.size from HGT.out)
      clear old c1 c2 he hpq hbm HM HC HK HB
      go_wp2_with (first
        | (at_mapUpdate; refine wpList_mapUpdate_own _ rfl (.tmp 21) (.tmp 22) (.tmp 23) 67 rfl 71 3 Try.twinLaw Try.underlying67 _ gm n D rfl HMA.out HNM.out _ _ (keyTw (p, q)) rfl rfl HKEY.out (.lit (.int .i64 (k : Int))) [] (plainElem_int Try.underlying3 HWF.out) ?_; intro w6 hown6 hg6; have HM6 := hid hown6; have HG6 := hid hg6; clear hown6 hg6))
      go_roundg (m.length - (k + 1))
      case measure => omega
      case rel => exact ⟨k + 1, n + 1, _, by go_num, hid ⟨by omega, Nat.le_refl _, by omega⟩, HM6, HS3, hid (HKA.out.grown HG6.out (fun j hj e => by cases e; rfl)), hid (HBA.out.grown HG6.out HBA.out.size (fun j hj => by cases hj; exact Nat.le_of_eq HGM.out))⟩
    · obtain rfl : k = m.length := by omega
      have hneg : ¬ (m.length : Int) < (m.length : Int) := by omega
      have hP := HP.out.old HB.out
      have d0 : wr.cell? ⟨gp, 0, none⟩ = some (.slice ao l.length ac) := blk_cell (i := 0) hP.cell rfl
      have HP1 := hid hP
      clear hP hQ
      go_wp2_with fail
      refine (HTB.out wr HB.out).mono ?_
      rintro e w4 ⟨v4, rfl, ho4, hb4⟩
      obtain ⟨no4, nc4, rfl⟩ := owns_form ho4
      have HS4 := hid (OwnTw.sl ho4)
      have HM4 := hid (HM.out.old fun hb => hb4.block _ hb)
      have HB4 := hid (below_step HB.out hb4 HB.out.size)
      have HP4 := hid (HP1.out.old hb4)
      have HSB4 := hid (show ∀ bb oo, no4 = some (⟨bb, oo, none⟩ : Addr) → bb ≠ gt ∧ bb ≠ gf from fun bb oo e => by
        subst e
        have h1 := (World.ownsRow.lt ho4 bb rfl).1
        have h2 := lt_of_block HP1.out.rowT
        have h3 := lt_of_block HP1.out.rowF
        omega)
      have HGTF := hid (show gm ≠ gt ∧ gm ≠ gf by
        have h2 := lt_of_block HP.out.rowT
        have h3 := lt_of_block HP.out.rowF
        have := HGM.out
        omega)
      rw [twUp_len] at HS4 ⊢
      clear ho4 hb4 d0 HM HK HB HP1 HTB
      have HJT := hid fun (k : Nat) => joinTw_len l m (ts, fs) k
      go_wp2_with fail
      go_loopg [31] l.length (fun g i wr => ∃ k : Nat, i = .int .i64 (k : Int) ∧ Hid (k ≤ l.length ∧ l.length - k ≤ g) ∧
        Hid (PairAt w0 (.slice ao l.length ac) (.slice bo m.length bc) gp gt gf (joinTw l m (ts, fs) k).1 (joinTw l m (ts, fs) k).2 wr) ∧ Hid (Keep (fun q => q = gt ∨ q = gf) w4 wr))
      case atStart => exact ⟨0, rfl, hid ⟨Nat.zero_le _, Nat.le_refl _⟩, HP4, hid (Keep.refl _ _)⟩
      case round =>
        clear HP4
        obtain ⟨k, rfl, HQ, HP5, HK⟩ := hrel
        have hQ := HQ.out
        have k0 : (0 : Int) ≤ (k : Int) := Int.natCast_nonneg _
        by_cases hlt : k < l.length
        · have k1 : (k : Int) < (l.length : Int) := by omega
          have kw : IntKind.i64.wrap ((k : Int) + 1) = (k : Int) + 1 := IntWalk.i64_in _ (by have := HLE.out; omega)
          obtain ⟨b, o, p, q, rfl, he, c1, c2⟩ := SlTw.at HS4.out (i := k) (by rw [HTU.out]; exact hlt)
          have hbm : b ≠ gt ∧ b ≠ gf := HSB4.out b o rfl
          have old : ∀ {j : Nat} {u : Value}, w4.cell? ⟨b, j, none⟩ = some u → wr.cell? ⟨b, j, none⟩ = some u := fun {j u} hp => (World.cell?_of_block (w := w4) (HK.out.block b (World.block_lt_of_cell? _ _ hp) (fun e => by rcases e with e | e; exact hbm.1 e; exact hbm.2 e))).trans hp
          have f1 := old c1
          have f2 := old c2
          have hpq : twinAt l k = (p, q) := by
            rw [twUp_at hlt] at he
            exact Option.some.inj he
          have HFIT := hid (show twFit (p, q) from HFB.out _ (List.mem_of_getElem? he))
          have HKEY := hid (tw_key HFIT.out)
          have HST := hid (show joinTw l m (ts, fs) (k + 1) = match idxTw (twUp m m.length) (p, q) with | some j => joinL (joinTw l m (ts, fs) k) k j | none => joinTw l m (ts, fs) k by
            rw [joinTw_more, twinStep, hpq])
          have HSH := hid (HC.out.2 (p, q) HFIT.out)
          have HIX := hid fun (j : Nat) (hj : idxTw (twUp m m.length) (p, q) = some j) => show j < m.length by
            have := (List.getElem?_eq_some_iff.1 (idxTw_some hj)).1
            rwa [twUp_len] at this
          have HMA := hid (show OwnAt (wr.alloc (.cells #[.string ⟨p.toArray⟩, .int .i64 (q : Nat)] 71)) gm n D from
            (HM4.out.old fun hb => HK.out.block gm hb (fun e => by rcases e with e | e; exact HGTF.out.1 e; exact HGTF.out.2 e)).alloc _)
          have HKA := hid (HK.out.alloc (.cells #[.string ⟨p.toArray⟩, .int .i64 (q : Nat)] 71))
          have HPA := hid (HP5.out.alloc (.cells #[.string ⟨p.toArray⟩, .int .i64 (q : Nat)] 71))
          obtain ⟨r, hr⟩ : ∃ r, idxTw (twUp m m.length) (p, q) = r := ⟨_, rfl⟩
          rw [hr] at HST HSH HIX
          clear old c1 c2 he hpq hbm hr HP5 HK
          cases r with
          | none =>
            have HHAS := hid (show Maps.has D (keyTw (p, q)) = false from HSH.out.1)
            go_wp2_with (first
              | (at_lookup; refine wpList_lookup_own_ok_int _ rfl (.tmp 37) (.tmp 38) 67 rfl 71 3 .i64 Try.twinLaw Try.underlying67 Try.underlying3 (HZI.out _) gm n D rfl HMA.out _ (keyTw (p, q)) rfl HKEY.out ?_; intro c hc _; rw [HHAS.out]; clear hc))
            go_roundg (l.length - (k + 1))
            case measure => omega
            case rel => exact ⟨k + 1, by go_num, hid ⟨by omega, Nat.le_refl _⟩, hid (by rw [HST.out]; exact HPA.out), HKA⟩
          | some j =>
            have HHAS := hid (show Maps.has D (keyTw (p, q)) = true from HSH.out.1)
            have HAT := hid (show D.atKey (keyTw (p, q)) (.lit (.int .i64 0)) = .lit (.int .i64 (j : Nat)) from HSH.out.2 j rfl _)
            have hjm := HIX.out j rfl
            have hln := HJT.out k
            have HJA := hid (DJoin_any w0 _ _ gp gt gf _ _ k j _ HPA.out (by rw [hln.1]; show k < ts.length; rw [HLE.out.1]; exact hlt) (by rw [hln.2]; show j < fs.length; rw [HLE.out.2.1]; exact hjm) (by rw [hln.1]; show ts.length ≤ _; have := HLE.out; omega) (by rw [hln.2]; show fs.length ≤ _; have := HLE.out; omega))
            clear hln hjm
            go_wp2_with (first
              | (at_lookup; refine wpList_lookup_own_ok_int _ rfl (.tmp 37) (.tmp 38) 67 rfl 71 3 .i64 Try.twinLaw Try.underlying67 Try.underlying3 (HZI.out _) gm n D rfl HMA.out _ (keyTw (p, q)) rfl HKEY.out ?_; intro c hc _; rw [HHAS.out]; obtain rfl : c = (j : Int) := by (have := hc.symm.trans HAT.out; simpa using this))
              | (go_at_call 41; refine HJA.out.mono ?_; rintro e w6 ⟨rfl, hP6, hK6⟩))
            go_roundg (l.length - (k + 1))
            case measure => omega
            case rel => exact ⟨k + 1, by go_num, hid ⟨by omega, Nat.le_refl _⟩, hid (by rw [HST.out]; exact hP6), hid (HKA.out.trans hK6)⟩
        · obtain rfl : k = l.length := by omega
          have hneg : ¬ (l.length : Int) < (l.length : Int) := by omega
          clear hQ
          go_wp2_with fail
          go_end0
          exact ⟨rfl, HP5.out⟩
end
end Go.Proofs.Ytnpgfbgnbonhfaa

namespace Go.Proofs.Ytnpgfbgnbonhfaa
open Go.RowKit

/-- places that there are, or none -/
def Valid (ts : List Int) (n : Nat) : Prop := ∀ (i : Nat) (z : Int), ts[i]? = some z → z = -1 ∨ ∃ j : Nat, z = (j : Int) ∧ j < n
def renOne (B S : List FileS) (ts : List Int) (i : Nat) : Option MvS :=
  match ts[i]? with
  | some z => if z = -1 then none else some ((B.getD i fileZ).1, (S.getD z.toNat fileZ).1)
  | none => none
def renUp (B S : List FileS) (ts : List Int) (k : Nat) : List MvS := (List.range k).filterMap (renOne B S ts)
theorem renUp_more (B S : List FileS) (ts : List Int) (k : Nat) : renUp B S ts (k + 1) = renUp B S ts k ++ (renOne B S ts k).toList := by
  rw [renUp, List.range_succ, List.filterMap_append]
  cases h : renOne B S ts k <;> simp [h, renUp]
theorem renUp_len (B S : List FileS) (ts : List Int) (k : Nat) : (renUp B S ts k).length ≤ k := by
  have := List.length_filterMap_le (renOne B S ts) (List.range k)
  simpa [renUp] using this
section
set_option maxRecDepth 100000
set_option maxHeartbeats 4000000
theorem DRenamesP_any (w0 : World) (vb vs : Value) (gp gt gf : Nat) (ts fs : List Int) (l m : List FileS) (w : World) (h : PairAt w0 vb vs gp gt gf ts fs w) (hb : SlF w0 vb l) (hs : SlF w0 vs m)
    (hl : ts.length = l.length) (hv : Valid ts m.length) (fl : few l) :
    Calls Try.prog 24 #[.pointer (some ⟨gp, 0, none⟩)] w fun e w' => ∃ v, e = .returned v ∧
      OwnV w' w.heap.size v (stableA (ltOf cfV) (renUp l m ts l.length).toArray).toList ∧ Below w.heap.size w w' := by
  have HP := hid h
  have HLB := hid (hb.old h.below)
  have HLS := hid (hs.old h.below)
  have HLE := hid (show ts.length = l.length ∧ l.length ≤ 1000 from ⟨hl, fl.1⟩)
  have HV := hid hv
  obtain ⟨ao, ac, rfl⟩ := hb.form
  obtain ⟨bo, bc, rfl⟩ := hs.form
  have c2 : w.cell? ⟨gp, 2, none⟩ = some (.slice (some ⟨gt, 0, none⟩) l.length l.length) := by rw [← hl]; exact blk_cell (i := 2) h.cell rfl
  clear h hb hs hl hv fl
  go_enter Try.func24, Try.ntmps24
  go_wp2_with fail
  clear c2
  go_loopg [3, 11] l.length (fun g s3 i wr => ∃ (k : Nat) (X : List MvS), i = .int .i64 (k : Int) ∧ Hid (k ≤ l.length ∧ l.length - k ≤ g) ∧ Hid (X = renUp l m ts k ∧ X.length ≤ k) ∧ Hid (OwnV wr w.heap.size s3 X) ∧ Hid (Below w.heap.size w wr))
  case atStart => exact ⟨0, [], rfl, hid ⟨Nat.zero_le _, Nat.le_refl _⟩, hid ⟨rfl, Nat.le_refl _⟩, hid (World.ownsRow_nil _ _ _ _), hid (Below.refl _ _)⟩
  case round =>
    obtain ⟨k, X, rfl, HQ, HX, HO, HB⟩ := hrel
    obtain ⟨no, nc, rfl⟩ := owns_form HO.out
    have hQ := HQ.out
    have k0 : (0 : Int) ≤ (k : Int) := Int.natCast_nonneg _
    by_cases hlt : k < l.length
    · have k1 : (k : Int) < (l.length : Int) := by omega
      have kw : IntKind.i64.wrap ((k : Int) + 1) = (k : Int) + 1 := IntWalk.i64_in _ (by have := HLE.out; omega)
      obtain ⟨z, hz⟩ : ∃ z, ts[k]? = some z := ⟨_, List.getElem?_eq_getElem (by have := HLE.out.1; omega)⟩
      have hP := HP.out.old HB.out
      have ct : wr.cell? ⟨gt, k, none⟩ = some (.int .i64 z) := blk_cell hP.rowT (iRow_at hz)
      have HOne := hid (show renOne l m ts k = if z = -1 then none else some ((l.getD k fileZ).1, (m.getD z.toNat fileZ).1) by rw [renOne, hz])
      by_cases hzn : z = -1
      · subst hzn
        have HE := hid (show X = renUp l m ts (k + 1) by rw [renUp_more, HOne.out, if_pos rfl, ← HX.out.1]; simp)
        clear hz hP
        go_wp2_with fail
        go_roundg (l.length - (k + 1))
        case measure => omega
        case rel => exact ⟨k + 1, X, by go_num, hid ⟨by omega, Nat.le_refl _⟩, hid ⟨HE.out, by have := HX.out; omega⟩, HO, HB⟩
      · obtain ⟨j, rfl, hj⟩ : ∃ j : Nat, z = (j : Int) ∧ j < m.length := by
          rcases HV.out k z hz with h | h
          · exact absurd h hzn
          · exact h
        have hzb : ((j : Int) != -1) = true := by simp
        have hzb2 : ((j : Int) == -1) = false := by simp
        obtain ⟨b1, o1, p1, x1, t1, rfl, he1, c11, c12, c13⟩ := SlF.at (HLB.out.old HB.out) hlt
        obtain ⟨b2, o2, p2, x2, t2, rfl, he2, c21, c22, c23⟩ := SlF.at (HLS.out.old HB.out) hj
        have HE := hid (show X ++ [(p1, p2)] = renUp l m ts (k + 1) by
          have e1 : l.getD k fileZ = (p1, x1, t1) := by rw [List.getD_eq_getElem?_getD, he1]; rfl
          have e2 : m.getD j fileZ = (p2, x2, t2) := by rw [List.getD_eq_getElem?_getD, he2]; rfl
          rw [renUp_more, HOne.out, if_neg hzn, ← HX.out.1, Int.toNat_natCast, e1, e2]
          rfl)
        have d0 : wr.cell? ⟨gp, 0, none⟩ = some (.slice (some ⟨b1, o1, none⟩) l.length ac) := blk_cell (i := 0) hP.cell rfl
        have d1 : wr.cell? ⟨gp, 1, none⟩ = some (.slice (some ⟨b2, o2, none⟩) m.length bc) := blk_cell (i := 1) hP.cell rfl
        have j0 : (0 : Int) ≤ (j : Int) := Int.natCast_nonneg _
        have j1 : (j : Int) < (m.length : Int) := by omega
        have HOD := hid (show OwnV wr.drew w.heap.size (.slice no X.length nc) X from HO.out)
        have HXL := hid (show X.length ≤ 1000 by have := HX.out; have := HLE.out; omega)
        have hzr := HB.out.size
        have HBD := hid (HB.out.trans ((below_drewN wr 1).mono HB.out.size))
        have hpg : gp < wr.heap.size := lt_of_block hP.cell
        clear hz hP he1 he2 c12 c13 c22 c23 hzn hj
        go_wp2_with fail
        go_region_law (refine step_append_v1 (by rfl) (.tmp 18) (.tmp 36) rfl w.heap.size (.slice no X.length nc) X (p1, p2) (by kernel_rfl) (World.ownsRow.alloc HOD.out _) _ rfl (SlR.one (heap_alloc_new _ _) rfl) (by have := HXL.out; omega) (Nat.le_trans hzr (by simp)) ?_; intro v8 w8 o8 b8; have HO8 := hid o8; have HB8 := hid b8; clear o8 b8)
        all_goals (
          go_wp2_with fail
          go_roundg (l.length - (k + 1))
          case measure => omega
          case rel => exact ⟨k + 1, X ++ [(p1, p2)], by go_num, hid ⟨by omega, Nat.le_refl _⟩, hid ⟨HE.out, by have := HX.out; simp; omega⟩, HO8, hid ((HBD.out.alloc HBD.out.size _).trans HB8.out)⟩)
    · obtain rfl : k = l.length := by omega
      have hneg : ¬ (l.length : Int) < (l.length : Int) := by omega
      have HSO := hid (PStV_any _ X wr w.heap.size HB.out.size HO.out (by have := HX.out; have := HLE.out; omega))
      clear hQ
      go_wp2_with (go_at_call 43; refine HSO.out.mono ?_; rintro e w5 ⟨rfl, hO5, hb5⟩)
      go_ret
      rw [← HX.out.1]
      exact ⟨_, rfl, hO5, HB.out.trans hb5⟩
end
end Go.Proofs.Ytnpgfbgnbonhfaa

namespace Go.Proofs.Ytnpgfbgnbonhfaa

/-! ### Pairs, one by one -/
structure Inv (n m : Nat) (P : Nat → Nat → Prop) (st : List Int × List Int) : Prop where
  len1 : st.1.length = n
  len2 : st.2.length = m
  val1 : ∀ (i : Nat) (z : Int), st.1[i]? = some z → z = -1 ∨ ∃ j : Nat, z = (j : Int)
  val2 : ∀ (j : Nat) (z : Int), st.2[j]? = some z → z = -1 ∨ ∃ i : Nat, z = (i : Int)
  fwd : ∀ i j : Nat, st.1[i]? = some (j : Int) → st.2[j]? = some (i : Int) ∧ P i j
  bwd : ∀ j i : Nat, st.2[j]? = some (i : Int) → st.1[i]? = some (j : Int)
theorem Inv.mono {n m : Nat} {P Q : Nat → Nat → Prop} {st : List Int × List Int} (h : Inv n m P st) (hPQ : ∀ i j, i < n → j < m → P i j → Q i j) : Inv n m Q st :=
  ⟨h.len1, h.len2, h.val1, h.val2, fun i j hij => ⟨(h.fwd i j hij).1, hPQ i j (by
    have := (List.getElem?_eq_some_iff.1 hij).1
    rw [← h.len1]
    exact this) (by
    have := (List.getElem?_eq_some_iff.1 (h.fwd i j hij).1).1
    rw [← h.len2]
    exact this) (h.fwd i j hij).2⟩, h.bwd⟩
theorem Inv.start (n m : Nat) (P : Nat → Nat → Prop) : Inv n m P (List.replicate n (-1), List.replicate m (-1)) := by
  have e : ∀ (n i : Nat) (z : Int), (List.replicate n (-1 : Int))[i]? = some z → z = -1 := fun n i z h => by
    rw [List.getElem?_replicate] at h
    split at h
    · exact (Option.some.inj h).symm
    · cases h
  exact ⟨by simp, by simp, fun i z h => .inl (e n i z h), fun i z h => .inl (e m i z h), fun i j h => by have := e n i _ h; omega, fun j i h => by have := e m j _ h; omega⟩
theorem Inv.join {n m : Nat} {P : Nat → Nat → Prop} {st : List Int × List Int} (h : Inv n m P st) {i j : Nat} (hi : i < n) (hj : j < m) (hP : P i j) : Inv n m P (joinL st i j) := by
  unfold joinL
  split
  · rename_i hf
    have g1 : ∀ (a : Nat) (z : Int), (st.1.set i (j : Int))[a]? = some z → (a = i ∧ z = (j : Int)) ∨ (a ≠ i ∧ st.1[a]? = some z) := fun a z hz => by
      rw [List.getElem?_set] at hz
      split at hz
      · rename_i e
        split at hz
        · exact .inl ⟨e.symm, (Option.some.inj hz).symm⟩
        · cases hz
      · rename_i e
        exact .inr ⟨fun e' => e e'.symm, hz⟩
    have g2 : ∀ (a : Nat) (z : Int), (st.2.set j (i : Int))[a]? = some z → (a = j ∧ z = (i : Int)) ∨ (a ≠ j ∧ st.2[a]? = some z) := fun a z hz => by
      rw [List.getElem?_set] at hz
      split at hz
      · rename_i e
        split at hz
        · exact .inl ⟨e.symm, (Option.some.inj hz).symm⟩
        · cases hz
      · rename_i e
        exact .inr ⟨fun e' => e e'.symm, hz⟩
    have s1 : (st.1.set i (j : Int))[i]? = some (j : Int) := by rw [List.getElem?_set_self (by rw [h.len1]; exact hi)]
    have s2 : (st.2.set j (i : Int))[j]? = some (i : Int) := by rw [List.getElem?_set_self (by rw [h.len2]; exact hj)]
    refine ⟨by rw [List.length_set]; exact h.len1, by rw [List.length_set]; exact h.len2, fun a z hz => ?_, fun a z hz => ?_, fun a b hab => ?_, fun b a hab => ?_⟩
    · rcases g1 a z hz with ⟨_, rfl⟩ | ⟨_, hz⟩
      · exact .inr ⟨j, rfl⟩
      · exact h.val1 a z hz
    · rcases g2 a z hz with ⟨_, rfl⟩ | ⟨_, hz⟩
      · exact .inr ⟨i, rfl⟩
      · exact h.val2 a z hz
    · rcases g1 a _ hab with ⟨rfl, e⟩ | ⟨hne, hz⟩
      · obtain rfl : b = j := by omega
        exact ⟨s2, hP⟩
      · obtain ⟨q1, q2⟩ := h.fwd a b hz
        refine ⟨?_, q2⟩
        have hbj : b ≠ j := fun e => by
          subst e
          rw [hf.2] at q1
          have := Option.some.inj q1
          omega
        show (st.2.set j (i : Int))[b]? = _
        rw [List.getElem?_set_ne (fun e => hbj e.symm)]
        exact q1
    · rcases g2 b _ hab with ⟨rfl, e⟩ | ⟨hne, hz⟩
      · obtain rfl : a = i := by omega
        exact s1
      · have q1 := h.bwd b a hz
        have hai : a ≠ i := fun e => by
          subst e
          rw [hf.1] at q1
          have := Option.some.inj q1
          omega
        show (st.1.set i (j : Int))[a]? = _
        rw [List.getElem?_set_ne (fun e => hai e.symm)]
        exact q1
  · exact h
/-- one of the two is paired -/
def Taken (st : List Int × List Int) (i j : Nat) : Prop := st.1[i]? ≠ some (-1) ∨ st.2[j]? ≠ some (-1)
theorem Taken.mono {st : List Int × List Int} {i j : Nat} (h : Taken st i j) (a b : Nat) : Taken (joinL st a b) i j := by
  unfold joinL
  split
  · rcases h with h | h
    · left
      show (st.1.set a (b : Int))[i]? ≠ _
      rw [List.getElem?_set]
      split
      · split
        · exact fun e => by have := Option.some.inj e; omega
        · exact fun e => by cases e
      · exact h
    · right
      show (st.2.set b (a : Int))[j]? ≠ _
      rw [List.getElem?_set]
      split
      · split
        · exact fun e => by have := Option.some.inj e; omega
        · exact fun e => by cases e
      · exact h
  · exact h
theorem Taken.did (st : List Int × List Int) (i j : Nat) : Taken (joinL st i j) i j := by
  unfold joinL
  split
  · rename_i h
    left
    show (st.1.set i (j : Int))[i]? ≠ _
    have hlt := (List.getElem?_eq_some_iff.1 h.1).1
    rw [List.getElem?_set_self hlt]
    exact fun e => by have := Option.some.inj e; omega
  · rename_i h
    unfold Taken
    exact Decidable.not_and_iff_or_not.1 h
theorem joinAll_taken : ∀ (ms : List MtS) (st : List Int × List Int), (∀ i j, Taken st i j → Taken (joinAll st ms) i j) ∧ ∀ x ∈ ms, Taken (joinAll st ms) x.1 x.2.1
  | [], st => ⟨fun _ _ h => h, fun x hx => by cases hx⟩
  | x :: ms, st => by
    obtain ⟨h1, h2⟩ := joinAll_taken ms (joinL st x.1 x.2.1)
    refine ⟨fun i j h => h1 i j (h.mono _ _), fun y hy => ?_⟩
    rcases List.mem_cons.1 hy with rfl | hy
    · exact h1 _ _ (Taken.did _ _ _)
    · exact h2 y hy
theorem Inv.joinAll {n m : Nat} {P : Nat → Nat → Prop} : ∀ (ms : List MtS) (st : List Int × List Int), Inv n m P st → (∀ x ∈ ms, x.1 < n ∧ x.2.1 < m ∧ P x.1 x.2.1) → Inv n m P (joinAll st ms)
  | [], st, h, _ => h
  | x :: ms, st, h, hx => by
    have q := hx x (List.mem_cons_self ..)
    exact Inv.joinAll ms (joinL st x.1 x.2.1) (h.join q.1 q.2.1 q.2.2) fun y hy => hx y (List.mem_cons_of_mem _ hy)

/-! ### Twins -/
theorem idx_of {l : List FileS} {j : Nat} {x : TwS} (hj : j < l.length) (h : twinAt l j = x) : idxTw (twUp l l.length) x = some j := by
  cases e : idxTw (twUp l l.length) x with
  | none =>
    unfold idxTw at e
    rw [List.findIdx?_eq_none_iff] at e
    have := e x (List.mem_of_getElem? (by rw [twUp_at hj, h]))
    simp at this
  | some i =>
    have h1 := idxTw_some e
    have hlt := (List.getElem?_eq_some_iff.1 h1).1
    rw [twUp_len] at hlt
    rw [twUp_at hlt] at h1
    rw [twinAt_inj hlt hj ((Option.some.inj h1).trans h.symm)]
theorem idx_twin {l : List FileS} {j : Nat} {x : TwS} (h : idxTw (twUp l l.length) x = some j) : j < l.length ∧ twinAt l j = x := by
  have h1 := idxTw_some h
  have hlt := (List.getElem?_eq_some_iff.1 h1).1
  rw [twUp_len] at hlt
  rw [twUp_at hlt] at h1
  exact ⟨hlt, Option.some.inj h1⟩
theorem Inv.joinTw {l m : List FileS} {st : List Int × List Int} (h : Inv l.length m.length (fun i j => twinAt l i = twinAt m j) st) : ∀ k, k ≤ l.length → Inv l.length m.length (fun i j => twinAt l i = twinAt m j) (joinTw l m st k)
  | 0, _ => h
  | k + 1, hk => by
    rw [joinTw_more]
    have ih := Inv.joinTw h k (by omega)
    unfold twinStep
    split
    · rename_i j hj
      obtain ⟨h1, h2⟩ := idx_twin hj
      exact ih.join (by omega) h1 h2.symm
    · exact ih
theorem joinTw_taken {l m : List FileS} {st : List Int × List Int} {i j : Nat} (he : twinAt l i = twinAt m j) (hj : j < m.length) : ∀ k, i < k → Taken (joinTw l m st k) i j
  | 0, h => by omega
  | k + 1, h => by
    rw [joinTw_more]
    by_cases e : i = k
    · subst e
      rw [twinStep, idx_of hj he.symm]
      exact Taken.did _ _ _
    · have ih := joinTw_taken (st := st) he hj k (by omega)
      unfold twinStep
      split
      · exact ih.mono _ _
      · exact ih
/-- of each number of twins ahead there is one -/
theorem twin_below {l : List FileS} {t : Txt} : ∀ (j : Nat), j < l.length → (l.getD j fileZ).2.2 = t → ∀ n, n ≤ cntT (l.take j) t → ∃ i, i ≤ j ∧ twinAt l i = (t, n) := by
  intro j
  induction j using Nat.strongRecOn with
  | ind j ih =>
    intro hj ht n hn
    by_cases e : n = cntT (l.take j) t
    · exact ⟨j, Nat.le_refl _, by rw [twinAt, ht, e]⟩
    · -- the last twin ahead of j
      have hpos : 0 < cntT (l.take j) t := by omega
      have key : ∀ q, q ≤ l.length → 0 < cntT (l.take q) t → ∃ i, i < q ∧ (l.getD i fileZ).2.2 = t ∧ cntT (l.take q) t = cntT (l.take i) t + 1 := by
        intro q
        induction q with
        | zero => intro _ h; simp [cntT] at h
        | succ q ihq =>
          intro hq h
          have hs : l.take (q + 1) = l.take q ++ [l.getD q fileZ] := by
            rw [List.take_add_one, List.getElem?_eq_getElem (by omega), List.getD_eq_getElem?_getD, List.getElem?_eq_getElem (by omega)]
            rfl
          have hc := cntT_snoc (l.take q) (l.getD q fileZ) t
          rw [← hs] at hc
          by_cases e2 : (l.getD q fileZ).2.2 = t
          · rw [if_pos e2] at hc
            exact ⟨q, by omega, e2, hc⟩
          · rw [if_neg e2] at hc
            obtain ⟨i, h1, h2, h3⟩ := ihq (by omega) (by omega)
            exact ⟨i, by omega, h2, by omega⟩
      obtain ⟨i, h1, h2, h3⟩ := key j (by omega) hpos
      obtain ⟨i', h4, h5⟩ := ih i h1 (by omega) h2 n (by omega)
      exact ⟨i', by omega, h5⟩
theorem twins_taken {l m : List FileS} {st : List Int × List Int} (h : Inv l.length m.length (fun i j => twinAt l i = twinAt m j) st) {i j : Nat} (hi : i < l.length) (hj : j < m.length) (ht : (l.getD i fileZ).2.2 = (m.getD j fileZ).2.2) :
    Taken (joinTw l m st l.length) i j := by
  have hI := Inv.joinTw h l.length (Nat.le_refl _)
  obtain ⟨t, et⟩ : ∃ t, (m.getD j fileZ).2.2 = t := ⟨_, rfl⟩
  rw [et] at ht
  by_cases hle : cntT (l.take i) t ≤ cntT (m.take j) t
  · obtain ⟨j', h1, h2⟩ := twin_below j hj et _ hle
    have he : twinAt l i = twinAt m j' := by rw [h2, twinAt, ht]
    rcases joinTw_taken (st := st) he (by omega) l.length hi with h3 | h3
    · exact .inl h3
    · left
      obtain ⟨z, hz⟩ : ∃ z, (joinTw l m st l.length).2[j']? = some z := ⟨_, List.getElem?_eq_getElem (by rw [hI.len2]; omega)⟩
      rcases hI.val2 j' z hz with e | ⟨i', e⟩
      · rw [hz, e] at h3
        exact absurd rfl h3
      · rw [e] at hz
        have h4 := hI.bwd j' i' hz
        have h5 := (hI.fwd i' j' h4).2
        have hi' : i' < l.length := by have := (List.getElem?_eq_some_iff.1 h4).1; rw [hI.len1] at this; exact this
        have : i' = i := twinAt_inj hi' hi (h5.trans he.symm)
        rw [← this, h4]
        exact fun e => by have := Option.some.inj e; omega
  · obtain ⟨i', h1, h2⟩ := twin_below i hi ht _ (Nat.le_of_lt (Nat.not_le.1 hle))
    have he : twinAt l i' = twinAt m j := by rw [h2, twinAt, et]
    have hi' : i' < l.length := by omega
    rcases joinTw_taken (st := st) he hj l.length hi' with h3 | h3
    · right
      obtain ⟨z, hz⟩ : ∃ z, (joinTw l m st l.length).1[i']? = some z := ⟨_, List.getElem?_eq_getElem (by rw [hI.len1]; omega)⟩
      rcases hI.val1 i' z hz with e | ⟨j', e⟩
      · rw [hz, e] at h3
        exact absurd rfl h3
      · rw [e] at hz
        obtain ⟨h4, h5⟩ := hI.fwd i' j' hz
        have hj' : j' < m.length := by have := (List.getElem?_eq_some_iff.1 h4).1; rw [hI.len2] at this; exact this
        have : j' = j := twinAt_inj hj' hj (h5.symm.trans he)
        rw [← this, h4]
        exact fun e => by have := Option.some.inj e; omega
    · exact .inr h3
end Go.Proofs.Ytnpgfbgnbonhfaa

namespace Go.Proofs.Ytnpgfbgnbonhfaa
open Go.Sort

theorem lone_mem {l m : List FileS} {x : FileS} : x ∈ loneS l m ↔ x ∈ l ∧ leftF m x := by
  unfold loneS leftF
  rw [List.mem_filter]
  have : loneB m x = true ↔ findS m x.1 = none ∧ x.2.2 ≠ [] := by
    unfold loneB
    rw [Bool.and_eq_true, Option.isNone_iff_eq_none]
    simp
  rw [this]
theorem lone_rise {l m : List FileS} (h : Rise l) : Rise (loneS l m) := List.Pairwise.sublist List.filter_sublist h
def st0S (B S : List FileS) : List Int × List Int := (List.replicate B.length (-1), List.replicate S.length (-1))
def st1S (B S : List FileS) : List Int × List Int := joinTw B S (st0S B S) B.length
def st2S (B S : List FileS) : List Int × List Int := joinAll (st1S B S) (matchS B S (st1S B S))
/-- the renames of two lists -/
def renS (l m : List FileS) : List MvS := renUp (loneS l m) (loneS m l) (st2S (loneS l m) (loneS m l)).1 (loneS l m).length
theorem getD_at {l : List FileS} {i : Nat} {f : FileS} (h : l[i]? = some f) : l.getD i fileZ = f := by rw [List.getD_eq_getElem?_getD, h]; rfl
theorem twin_text {B S : List FileS} {i j : Nat} (h : twinAt B i = twinAt S j) : (B.getD i fileZ).2.2 = (S.getD j fileZ).2.2 := congrArg Prod.fst h
def pairP (B S : List FileS) (i j : Nat) : Prop := alikeF (B.getD i fileZ) (S.getD j fileZ)
theorem inv1 (B S : List FileS) : Inv B.length S.length (pairP B S) (st1S B S) :=
  (Inv.joinTw (Inv.start B.length S.length _) B.length (Nat.le_refl _)).mono fun _ _ _ _ h => .inl (twin_text h)
theorem inv2 (B S : List FileS) : Inv B.length S.length (pairP B S) (st2S B S) := by
  refine Inv.joinAll _ _ (inv1 B S) fun x hx => ?_
  obtain ⟨h1, h2⟩ := matchS_in hx
  refine ⟨h1, h2, ?_⟩
  obtain ⟨a, b, ha, hb, hal, rfl⟩ := matUp_mem (matchS_mem.1 hx)
  obtain ⟨f, f1, _, f3, _⟩ := leftUp_mem ha
  obtain ⟨g, g1, _, g3, _⟩ := leftUp_mem hb
  show alikeF (B.getD a.1 fileZ) (S.getD b.1 fileZ)
  rw [getD_at f1, getD_at g1]
  right
  rw [alikeB, f3, g3] at hal
  exact of_decide_eq_true hal
theorem left_in {l : List FileS} {ws : List Int} {i : Nat} {f : FileS} (h : l[i]? = some f) (hw : ws[i]? = some (-1)) : (i, linesOf f.2.2) ∈ leftUp l ws l.length := by
  refine List.mem_filterMap.2 ⟨i, List.mem_range.2 (List.getElem?_eq_some_iff.1 h).1, ?_⟩
  rw [leftOne, h, hw]
  simp
theorem mat_in {A B : List TxS} {a b : TxS} (ha : a ∈ A) (hb : b ∈ B) (h : alikeB a.2 b.2 = true) : (a.1, b.1, ratioL a.2 b.2) ∈ matUp A B A.length := by
  refine List.mem_flatMap.2 ⟨a, by rw [List.take_length]; exact ha, List.mem_filterMap.2 ⟨b, by rw [List.take_length]; exact hb, ?_⟩⟩
  rw [oneM, if_pos h]
theorem taken2 {B S : List FileS} {i j : Nat} {x y : FileS} (hi : B[i]? = some x) (hj : S[j]? = some y) (h : alikeF x y) : Taken (st2S B S) i j := by
  have hil := (List.getElem?_eq_some_iff.1 hi).1
  have hjl := (List.getElem?_eq_some_iff.1 hj).1
  by_cases ht : Taken (st1S B S) i j
  · exact (joinAll_taken _ _).1 i j ht
  · have h1 : (st1S B S).1[i]? = some (-1) := Decidable.not_not.1 fun e => ht (.inl e)
    have h2 : (st1S B S).2[j]? = some (-1) := Decidable.not_not.1 fun e => ht (.inr e)
    rcases h with he | h5
    · exact absurd (twins_taken (Inv.start B.length S.length _) hil hjl (by rw [getD_at hi, getD_at hj]; exact he)) ht
    · exact (joinAll_taken _ _).2 (i, j, ratioL (linesOf x.2.2) (linesOf y.2.2)) (matchS_mem.2 (mat_in (a := (i, linesOf x.2.2)) (b := (j, linesOf y.2.2)) (left_in hi h1) (left_in hj h2) (decide_eq_true h5)))
theorem ren_one {B S : List FileS} {ts : List Int} {i : Nat} {p : MvS} (h : renOne B S ts i = some p) : ∃ z, ts[i]? = some z ∧ z ≠ -1 ∧ p = ((B.getD i fileZ).1, (S.getD z.toNat fileZ).1) := by
  unfold renOne at h
  split at h
  · rename_i z hz
    split at h
    · cases h
    · rename_i hn
      exact ⟨z, hz, hn, (Option.some.inj h).symm⟩
  · cases h
theorem ren_at {B S : List FileS} {i : Nat} {p : MvS} (h : renOne B S (st2S B S).1 i = some p) : ∃ (j : Nat) (x y : FileS), (st2S B S).1[i]? = some (j : Int) ∧ (st2S B S).2[j]? = some (i : Int) ∧ B[i]? = some x ∧ S[j]? = some y ∧ p = (x.1, y.1) ∧ alikeF x y := by
  obtain ⟨z, hz, hn, rfl⟩ := ren_one h
  have hI := inv2 B S
  rcases hI.val1 i z hz with e | ⟨j, rfl⟩
  · exact absurd e hn
  · obtain ⟨h1, h2⟩ := hI.fwd i j hz
    have hi := (List.getElem?_eq_some_iff.1 hz).1
    have hj := (List.getElem?_eq_some_iff.1 h1).1
    rw [hI.len1] at hi
    rw [hI.len2] at hj
    refine ⟨j, B[i], S[j], hz, h1, List.getElem?_eq_getElem hi, List.getElem?_eq_getElem hj, ?_, ?_⟩
    · rw [getD_at (List.getElem?_eq_getElem hi), Int.toNat_natCast, getD_at (List.getElem?_eq_getElem hj)]
    · unfold pairP at h2
      rw [getD_at (List.getElem?_eq_getElem hi), getD_at (List.getElem?_eq_getElem hj)] at h2
      exact h2
theorem rise_at {l : List FileS} (h : Rise l) {i j : Nat} {x y : FileS} (hij : i < j) (hi : l[i]? = some x) (hj : l[j]? = some y) : ltS x.1 y.1 = true := by
  obtain ⟨h1, rfl⟩ := List.getElem?_eq_some_iff.1 hi
  obtain ⟨h2, rfl⟩ := List.getElem?_eq_some_iff.1 hj
  exact List.pairwise_iff_getElem.1 h i j h1 h2 hij
theorem range_pw (n : Nat) : (List.range n).Pairwise (· < ·) := List.pairwise_lt_range
theorem ren_rise {l m : List FileS} (tl : Rise l) : (renS l m).Pairwise fun p q => ltS p.1 q.1 = true := by
  unfold renS renUp
  rw [List.pairwise_filterMap]
  refine (range_pw _).imp fun {i j} hij p hp q hq => ?_
  obtain ⟨_, x, _, _, _, hx, _, rfl, _⟩ := ren_at hp
  obtain ⟨_, y, _, _, _, hy, _, rfl, _⟩ := ren_at hq
  exact rise_at (lone_rise tl) hij hx hy
theorem ren_once {l m : List FileS} (tm : Rise m) : (renS l m).Pairwise fun p q => p.2 ≠ q.2 := by
  unfold renS renUp
  rw [List.pairwise_filterMap]
  refine (range_pw _).imp fun {i j} hij p hp q hq he => ?_
  obtain ⟨a, _, x, _, h1, _, hx, rfl, _⟩ := ren_at hp
  obtain ⟨b, _, y, _, h2, _, hy, rfl, _⟩ := ren_at hq
  have he : x.1 = y.1 := he
  rcases Nat.lt_trichotomy a b with e | e | e
  · have := rise_at (lone_rise tm) e hx hy
    rw [he, lt_irr] at this
    cases this
  · subst e
    rw [h1] at h2
    have := Option.some.inj h2
    omega
  · have := rise_at (lone_rise tm) e hy hx
    rw [he, lt_irr] at this
    cases this
theorem ren_ok {l m : List FileS} (tl : Rise l) (tm : Rise m) : RenOk l m (renS l m) := by
  have mk : ∀ (i j : Nat) (x y : FileS), (loneS l m)[i]? = some x → (loneS m l)[j]? = some y → (st2S (loneS l m) (loneS m l)).1[i]? = some (j : Int) → (x.1, y.1) ∈ renS l m := fun i j x y hx hy hz => by
    refine List.mem_filterMap.2 ⟨i, List.mem_range.2 (List.getElem?_eq_some_iff.1 hx).1, ?_⟩
    rw [renOne, hz]
    dsimp only
    rw [if_neg (by omega), getD_at hx, Int.toNat_natCast, getD_at hy]
  refine ⟨fun p hp => ?_, ren_rise tl, ren_once tm, fun x hx y hy lx ly hal => ?_⟩
  · obtain ⟨i, _, hi⟩ := List.mem_filterMap.1 hp
    obtain ⟨j, x, y, _, _, hx, hy, rfl, hal⟩ := ren_at hi
    have h1 := lone_mem.1 (List.mem_of_getElem? hx)
    have h2 := lone_mem.1 (List.mem_of_getElem? hy)
    exact ⟨x, y, h1.1, h2.1, rfl, rfl, h1.2, h2.2, hal⟩
  · obtain ⟨i, hi⟩ := List.mem_iff_getElem?.1 (lone_mem.2 ⟨hx, lx⟩)
    obtain ⟨j, hj⟩ := List.mem_iff_getElem?.1 (lone_mem.2 ⟨hy, ly⟩)
    have hI := inv2 (loneS l m) (loneS m l)
    have hil := (List.getElem?_eq_some_iff.1 hi).1
    have hjl := (List.getElem?_eq_some_iff.1 hj).1
    rcases taken2 hi hj hal with h | h
    · left
      obtain ⟨z, hz⟩ : ∃ z, (st2S (loneS l m) (loneS m l)).1[i]? = some z := ⟨_, List.getElem?_eq_getElem (by rw [hI.len1]; exact hil)⟩
      rcases hI.val1 i z hz with e | ⟨j', rfl⟩
      · rw [hz, e] at h
        exact absurd rfl h
      · have hj' := (List.getElem?_eq_some_iff.1 (hI.fwd i j' hz).1).1
        rw [hI.len2] at hj'
        exact ⟨_, mk i j' x _ hi (List.getElem?_eq_getElem hj') hz, rfl⟩
    · right
      obtain ⟨z, hz⟩ : ∃ z, (st2S (loneS l m) (loneS m l)).2[j]? = some z := ⟨_, List.getElem?_eq_getElem (by rw [hI.len2]; exact hjl)⟩
      rcases hI.val2 j z hz with e | ⟨i', rfl⟩
      · rw [hz, e] at h
        exact absurd rfl h
      · have hz' := hI.bwd j i' hz
        have hi' := (List.getElem?_eq_some_iff.1 hz').1
        rw [hI.len1] at hi'
        exact ⟨_, mk i' j _ y (List.getElem?_eq_getElem hi') hj hz', rfl⟩
theorem ren_sorted {l m : List FileS} (tl : Rise l) : (stableA (ltOf cfV) (renS l m).toArray).toList = renS l m := by
  have h : Asc (ltOf cfV) (renS l m).toArray := fun i j hij hj => by
    have hj' : j < (renS l m).length := by simpa using hj
    have := List.pairwise_iff_getElem.1 (ren_rise (m := m) tl) i j (by omega) hj' hij
    rw [getElem!_pos _ _ (by simpa using hj'), getElem!_pos _ _ (by simp; omega)]
    simp only [List.getElem_toArray]
    exact (cmp_neg _ _).trans (lt_asym this)
  rw [stable_asc h]
theorem ren_valid (l m : List FileS) : Valid (st2S (loneS l m) (loneS m l)).1 (loneS m l).length := fun i z hz => by
  have hI := inv2 (loneS l m) (loneS m l)
  rcases hI.val1 i z hz with e | ⟨j, rfl⟩
  · exact .inl e
  · have hj := (List.getElem?_eq_some_iff.1 (hI.fwd i j hz).1).1
    rw [hI.len2] at hj
    exact .inr ⟨j, rfl, hj⟩
theorem lone_few {l m : List FileS} (h : IsTree l) : few (loneS l m) := by
  refine ⟨Nat.le_trans (List.length_filter_le _ _) (by have := h.len; omega), fun f hf => ?_⟩
  have := h.ok f (lone_mem.1 hf).1
  rw [okOne, Bool.and_eq_true] at this
  have := of_decide_eq_true this.2
  omega
end Go.Proofs.Ytnpgfbgnbonhfaa

namespace Go.Proofs.Ytnpgfbgnbonhfaa
open Go.RowKit

section
set_option maxRecDepth 100000
set_option maxHeartbeats 4000000
theorem DRenames_any (va vb : Value) (l m : List FileS) (w : World) (ha : SlF w va l) (hb : SlF w vb m) (tl : IsTree l) (tm : IsTree m) :
    Calls Try.prog 11 #[va, vb] w fun e w' => ∃ v r, e = .returned v ∧ RenOk l m r ∧ OwnV w' w.heap.size v r ∧ Below w.heap.size w w' := by
  have HL1 := hid (DLone_any va vb l m w ha hb (by have := tl.len; omega) (by have := tm.len; omega))
  have HL2 := hid fun (wx : World) (hk : Below w.heap.size w wx) => DLone_any vb va m l wx (hb.old hk) (ha.old hk) (by have := tm.len; omega) (by have := tl.len; omega)
  have HOK := hid (ren_ok tl.rise tm.rise)
  have HSO := hid (ren_sorted (m := m) tl.rise)
  have HVA := hid (ren_valid l m)
  have HFB := hid (lone_few (m := m) tl)
  have HFS := hid (lone_few (m := l) tm)
  have HI1 := hid (inv1 (loneS l m) (loneS m l))
  have HI2 := hid (inv2 (loneS l m) (loneS m l))
  have hRN : renS l m = renUp (loneS l m) (loneS m l) (st2S (loneS l m) (loneS m l)).1 (loneS l m).length := rfl
  have h1S : st1S (loneS l m) (loneS m l) = joinTw (loneS l m) (loneS m l) (List.replicate (loneS l m).length (-1), List.replicate (loneS m l).length (-1)) (loneS l m).length := rfl
  have h2S : st2S (loneS l m) (loneS m l) = joinAll (st1S (loneS l m) (loneS m l)) (matchS (loneS l m) (loneS m l) (st1S (loneS l m) (loneS m l))) := rfl
  obtain ⟨T1, hT1⟩ : ∃ T, st1S (loneS l m) (loneS m l) = T := ⟨_, rfl⟩
  obtain ⟨T2, hT2⟩ : ∃ T, st2S (loneS l m) (loneS m l) = T := ⟨_, rfl⟩
  obtain ⟨R, hR⟩ : ∃ R, renS l m = R := ⟨_, rfl⟩
  rw [hT1] at h1S h2S HI1
  rw [hT2] at h2S HI2 HVA hRN
  rw [hR] at hRN HOK HSO
  clear hT1 hT2 hR
  obtain ⟨B, hB⟩ : ∃ B, loneS l m = B := ⟨_, rfl⟩
  obtain ⟨S, hS⟩ : ∃ S, loneS m l = S := ⟨_, rfl⟩
  rw [hB] at HL1 hRN h1S h2S HI1 HI2 HFB
  rw [hS] at HL2 hRN h1S h2S HI1 HI2 HVA HFS
  have HRN := hid hRN
  have H1S := hid h1S
  have H2S := hid h2S
  clear hRN h1S h2S hB hS ha hb tl tm
  go_enter Try.func11, Try.ntmps11
  go_wp2_with fail
  refine HL1.out.mono ?_
  rintro e w1 ⟨vB, rfl, ho1, hb1⟩
  have HOB := hid ho1
  have HB1 := hid hb1
  clear ho1 hb1
  go_wp2_with fail
  refine (HL2.out w1 HB1.out).mono ?_
  rintro e w2 ⟨vS, rfl, ho2, hb2⟩
  have HSB := hid (SlR.old (OwnF.sl HOB.out) hb2)
  have HSS := hid (OwnF.sl ho2)
  have HB2 := hid (HB1.out.trans (hb2.mono HB1.out.size))
  clear ho2 hb2 HL1 HL2
  go_wp2_with fail
  refine (DNewPairing_any vB vS B S w2 HSB.out HSS.out (by have := HFB.out.1; omega) (by have := HFS.out.1; omega)).mono ?_
  rintro e w3 ⟨gp, gt, gf, rfl, hp3⟩
  have HP3 := hid hp3
  clear hp3
  go_wp2_with fail
  refine (DJoinTwins_any w2 vB vS gp gt gf _ _ B S w3 HP3.out HSB.out HSS.out (by simp) (by simp) HFB.out HFS.out).mono ?_
  rintro e w4 ⟨rfl, hp4⟩
  rw [← H1S.out] at hp4
  have HP4 := hid hp4
  clear hp4 HP3
  go_wp2_with fail
  refine (DJoinAlike_any w2 vB vS gp gt gf T1.1 T1.2 B S w4 HP4.out HSB.out HSS.out HI1.out.len1 HI1.out.len2 HFB.out HFS.out).mono ?_
  rintro e w5 ⟨rfl, hp5⟩
  rw [show ((T1.1, T1.2) : List Int × List Int) = T1 from rfl, ← H2S.out] at hp5
  have HP5 := hid hp5
  clear hp5 HP4
  go_wp2_with fail
  refine (DRenamesP_any w2 vB vS gp gt gf T2.1 T2.2 B S w5 HP5.out HSB.out HSS.out HI2.out.len1 HVA.out HFB.out).mono ?_
  rintro e w6 ⟨v, rfl, ho6, hb6⟩
  rw [← HRN.out, HSO.out] at ho6
  have HO6 := hid ho6
  have HB5 := hid (HB2.out.trans (HP5.out.below.mono HB2.out.size))
  have HB6 := hid (HB5.out.trans (hb6.mono HB5.out.size))
  clear ho6 hb6
  go_wp2_with fail
  go_ret
  exact ⟨v, R, rfl, HOK.out, ⟨HO6.out.1, HO6.out.2.imp id fun ⟨g, cap, cur, h1, h2, h3⟩ => ⟨g, cap, cur, h1, Nat.le_trans HB5.out.size h2, h3⟩⟩, HB6.out⟩
end
end Go.Proofs.Ytnpgfbgnbonhfaa

namespace Go.Proofs.Ytnpgfbgnbonhfaa
open Go.RowKit
open BigFrame

theorem RenOk.len {a b : List FileS} {r : List RenS} (h : RenOk a b r) : r.length ≤ a.length := by
  have h1 : (r.map (·.1)).Nodup := by
    rw [List.nodup_iff_pairwise_ne, List.pairwise_map]
    exact h.rise.imp fun e => lt_ne e
  have := nodup_len (r.map (·.1)) (a.map (·.1)) h1 fun x hx => by
    obtain ⟨p, hp, rfl⟩ := List.mem_map.1 hx
    obtain ⟨y, _, hy, _, e, _⟩ := h.there p hp
    exact List.mem_map.2 ⟨y, hy, e⟩
  simpa using this
/-- a truth, whichever -/
def SomeBool (e : Ending) : Prop := ∃ b : Bool, e = .returned (.bool b)
section
set_option maxRecDepth 100000
set_option maxHeartbeats 4000000
theorem few_any (v : Value) (l : List FileS) (w : World) (hv : SlF w v l) (hl : l.length ≤ maxLen) :
    Calls Try.prog 9 #[v] w fun e w' => SomeBool e ∧ w = w' := by
  obtain ⟨ao, cap, rfl⟩ := SlR.form hv
  have HV := hid hv
  have HL := hid hl
  clear hv hl
  go_enter Try.func9, Try.ntmps9
  go_wp2_with fail
  go_loopg [3, 4] l.length (fun g n i wr => ∃ (k : Nat) (z : Int), k ≤ l.length ∧ l.length - k = g ∧ n = .int .i64 z ∧ i = .int .i64 k ∧ w = wr)
  case atStart => exact ⟨0, 0, Nat.zero_le _, rfl, rfl, rfl, rfl⟩
  case round =>
    obtain ⟨k, z, hk, rfl, rfl, rfl, rfl⟩ := hrel
    have k0 : (0 : Int) ≤ (k : Int) := Int.natCast_nonneg _
    by_cases hlt : k < l.length
    · have k1 : (k : Int) < (l.length : Int) := by omega
      have kw : IntKind.i64.wrap ((k : Int) + 1) = (k : Int) + 1 := IntWalk.i64_in _ (by have := HL.out; unfold maxLen at this; omega)
      obtain ⟨b, o, p, x, t, hao, he, c1, c2, c3⟩ := SlF.at HV.out hlt
      subst hao
      clear he
      go_wp2_with fail
      go_roundg (l.length - (k + 1))
      case measure => omega
      case rel => exact ⟨k + 1, _, by omega, rfl, rfl, by go_num, rfl⟩
    · obtain rfl : k = l.length := by omega
      have hneg : ¬ (l.length : Int) < (l.length : Int) := by omega
      by_cases h2 : (l.length : Int) ≤ 20
      · have z1 : decide ((l.length : Int) ≤ 20) = true := decide_eq_true h2
        have z2 : decide (l.length ≤ 20) = true := decide_eq_true (by omega)
        clear h2
        go_wp2_with fail
        all_goals go_ret
        all_goals exact ⟨⟨_, rfl⟩, rfl⟩
      · have z1 : decide ((l.length : Int) ≤ 20) = false := decide_eq_false h2
        have z2 : decide (l.length ≤ 20) = false := decide_eq_false (by omega)
        clear h2
        go_wp2_with fail
        all_goals go_ret
        all_goals exact ⟨⟨_, rfl⟩, rfl⟩
theorem awake_any (w : World) : Calls Try.prog 7 #[] w fun e w' => e = .returned (.bool true) ∧ Below w.heap.size w w' := by
  have HB0 := hid (((Below.refl _ w).alloc (Nat.le_refl w.heap.size) (.cells #[.string ⟨#[97]⟩, .bool false, .string ⟨#[120, 10]⟩] 31)).alloc (by simp) (.cells #[.string ⟨#[98]⟩, .bool false, .string ⟨#[120, 10]⟩] 31))
  have HA := hid (show SlF ((w.alloc (.cells #[.string ⟨#[97]⟩, .bool false, .string ⟨#[120, 10]⟩] 31)).alloc (.cells #[.string ⟨#[98]⟩, .bool false, .string ⟨#[120, 10]⟩] 31)) (.slice (some ⟨w.heap.size, 0, none⟩) 1 1) [([97], false, [120, 10])] from SlR.alloc (SlR.one (heap_alloc_new w _) rfl) _)
  have HB := hid (show SlF ((w.alloc (.cells #[.string ⟨#[97]⟩, .bool false, .string ⟨#[120, 10]⟩] 31)).alloc (.cells #[.string ⟨#[98]⟩, .bool false, .string ⟨#[120, 10]⟩] 31)) (.slice (some ⟨(w.alloc (.cells #[.string ⟨#[97]⟩, .bool false, .string ⟨#[120, 10]⟩] 31)).heap.size, 0, none⟩) 1 1) [([98], false, [120, 10])] from SlR.one (heap_alloc_new _ _) rfl)
  rw [show (w.alloc (.cells #[.string ⟨#[97]⟩, .bool false, .string ⟨#[120, 10]⟩] 31)).heap.size = w.heap.size + 1 by simp] at HB
  have HR := hid (fun (va vb : Value) (wy : World) (h1 : SlF wy va [([97], false, [120, 10])]) (h2 : SlF wy vb [([98], false, [120, 10])]) => DRenames_any va vb _ _ wy h1 h2 (one_tree (by decide +kernel)) (one_tree (by decide +kernel)))
  have HT := hid (fun (wy : World) => DRatio_any [97, 10] [97, 10] wy (by simp) (by simp))
  rw [show ratioS [97, 10] [97, 10] = 100 from ratioS_self (by simp)] at HT
  go_enter Try.func7, Try.ntmps7
  go_wp2_with fail
  refine (HR.out _ _ _ HA.out HB.out).mono ?_
  rintro e w1 ⟨v, r, rfl, hr, ho, hb⟩
  obtain rfl := hr.two_same (by decide +kernel) (by simp) rfl
  have hB1 := hid (below_step HB0.out hb HB0.out.size)
  have HO := hid ho.sl
  obtain ⟨xo, xc, rfl⟩ := owns_form ho
  clear hr ho hb HR HA HB HB0
  have HP := hid (PlainV_any _ (.slice (some ⟨w1.heap.size, 0, none⟩) 1 1) [([97], [98])] [([97], [98])] (w1.alloc (.cells #[.string ⟨#[97]⟩, .string ⟨#[98]⟩] 35)) (SlR.alloc HO.out _) (SlR.one (heap_alloc_new w1 _) rfl) (by simp))
  have hB2 := hid (hB1.out.alloc hB1.out.size (.cells #[.string ⟨#[97]⟩, .string ⟨#[98]⟩] 35))
  rw [show (([([97], [98])] : List MvS) == [([97], [98])]) = true from by decide +kernel] at HP
  go_wp2_with fail
  refine HP.out.mono ?_
  rintro e w2 ⟨rfl, hb⟩
  have hB3 := hid (below_step hB2.out hb hB2.out.size)
  clear hb HP
  go_wp2_with fail
  refine (HT.out _).mono ?_
  rintro e w3 ⟨rfl, hb⟩
  have hB4 := hid (below_step hB3.out hb hB3.out.size)
  clear hb HT
  go_wp2_with fail
  go_ret
  exact ⟨rfl, hB4.out⟩
end
end Go.Proofs.Ytnpgfbgnbonhfaa

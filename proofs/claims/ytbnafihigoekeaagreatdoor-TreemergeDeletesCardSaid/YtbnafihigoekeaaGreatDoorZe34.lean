/-
  TmDe, part 34.
-/
import Derived.Test.YtbnafihigoekeaaGreatDoorZe23
import Derived.Test.YtbnafihigoekeaaGreatDoorZe33
import Derived.Test.YtbnafihigoekeaaGreatDoorZe25
import Derived.Test.YtbnafihigoekeaaGreatDoorZe8
import Derived.Deep.RegionLaw
import Derived.Deep.RegionHeld3
import Derived.Deep.DeepCutAuto
import Derived.Deep.CutBlock
import Derived.Deep.CutRange
import Derived.Laws.Rows
namespace Go.Proofs.YtbnafihigoekeaaGreatDoor
theorem le_lt (x y : Txt) : decide (x ≤ y) = !ltS y x := by
  have h : ∀ a b : Txt, ltS a b = true ↔ a < b := by
    intro a
    induction a with
    | nil =>
      intro b
      cases b with
      | nil => simp [ltS, Op.bytesLess]
      | cons c b => simp [ltS, Op.bytesLess]
    | cons c a ih =>
      intro b
      cases b with
      | nil => simp [ltS, Op.bytesLess]
      | cons d b => rw [lt_cons, ih, List.cons_lt_cons_iff]
  have e : (x ≤ y) = ¬ (y < x) := rfl
  cases hl : ltS y x with
  | true => rw [decide_eq_false]; rfl; rw [e]; exact fun hn => hn ((h _ _).1 hl)
  | false => rw [decide_eq_true]; rfl; rw [e]; exact fun hn => by rw [(h _ _).2 hn] at hl; cases hl
theorem sorted_texts (l : List Txt) : (l.mergeSort fun x y => decide (x ≤ y)).Pairwise fun x y => ltS y x = false := by
  have h := List.pairwise_mergeSort (le := fun x y : Txt => decide (x ≤ y)) (fun a b c hab hbc => by
    rw [le_lt, Bool.not_eq_true'] at hab hbc ⊢
    cases e : ltS c a with
    | false => rfl
    | true =>
      exfalso
      cases e2 : ltS a b with
      | true => rw [lt_trans' _ _ _ e e2] at hbc; cases hbc
      | false =>
        have := lt_tri _ _ e2 hab
        rw [this, hbc] at e
        cases e) (fun a b => by
    rw [le_lt, le_lt]
    cases e : ltS b a with
    | false => rfl
    | true => rw [lt_asym e]; rfl) l
  refine h.imp fun {x y} hxy => ?_
  rw [le_lt] at hxy
  simpa using hxy
end Go.Proofs.YtbnafihigoekeaaGreatDoor
namespace Go.Proofs.YtbnafihigoekeaaGreatDoor
def shareGo : Nat → List Txt → List Txt → Nat
  | 0, _, _ => 0
  | _ + 1, [], _ => 0
  | _ + 1, _ :: _, [] => 0
  | g + 1, x :: a, y :: b => if x = y then shareGo g a b + 1 else if ltS x y = true then shareGo g a (y :: b) else shareGo g (x :: a) b
def sharedN (a b : List Txt) : Nat := shareGo (a.length + b.length) a b
theorem share_le : ∀ (g : Nat) (a b : List Txt), shareGo g a b ≤ a.length
  | 0, _, _ => Nat.zero_le _
  | _ + 1, [], _ => Nat.le_refl _
  | _ + 1, _ :: _, [] => Nat.zero_le _
  | g + 1, x :: a, y :: b => by
    rw [shareGo]
    split
    · have := share_le g a b
      simp only [List.length_cons]
      omega
    · split
      · have := share_le g a (y :: b)
        simp only [List.length_cons]
        omega
      · exact share_le g (x :: a) b
theorem share_most : ∀ (g : Nat) (a b s : List Txt), a.length + b.length ≤ g → (a.Pairwise fun x y => ltS y x = false) → (b.Pairwise fun x y => ltS y x = false) →
    (∀ t, s.count t ≤ a.count t) → (∀ t, s.count t ≤ b.count t) → s.length ≤ shareGo g a b
  | _, [], b, s, _, _, _, h1, _ => by
    have : s = [] := by
      rw [List.eq_nil_iff_forall_not_mem]
      intro t ht
      have := h1 t
      rw [List.count_nil] at this
      have := List.count_pos_iff.2 ht
      omega
    subst this
    exact Nat.zero_le _
  | _, _ :: _, [], s, _, _, _, _, h2 => by
    have : s = [] := by
      rw [List.eq_nil_iff_forall_not_mem]
      intro t ht
      have := h2 t
      rw [List.count_nil] at this
      have := List.count_pos_iff.2 ht
      omega
    subst this
    exact Nat.zero_le _
  | 0, _ :: _, _ :: _, _, hg, _, _, _, _ => by simp at hg
  | g + 1, x :: a, y :: b, s, hg, ha, hb, h1, h2 => by
    rw [List.pairwise_cons] at ha hb
    simp only [List.length_cons] at hg
    rw [shareGo]
    by_cases hxy : x = y
    · subst hxy
      rw [if_pos rfl]
      have hlen : s.length ≤ (s.erase x).length + 1 := by
        rw [List.length_erase]
        split <;> omega
      have hc : ∀ (l : List Txt), (∀ t, s.count t ≤ (x :: l).count t) → ∀ t, (s.erase x).count t ≤ l.count t := fun l h t => by
        have := h t
        rw [List.count_cons] at this
        rw [List.count_erase]
        by_cases e : x = t
        · subst e
          simp at this ⊢
          omega
        · have e2 : (x == t) = false := by simpa using e
          rw [e2] at this ⊢
          simpa using this
      have := share_most g a b (s.erase x) (by omega) ha.2 hb.2 (hc a h1) (hc b h2)
      omega
    · rw [if_neg hxy]
      by_cases hl : ltS x y = true
      · rw [if_pos hl]
        have hx : x ∉ y :: b := fun hm => by
          rcases List.mem_cons.1 hm with e | hm
          · exact hxy e
          · have := hb.1 x hm
            rw [hl] at this
            cases this
        have h0 : s.count x = 0 := by
          have := h2 x
          rw [List.count_eq_zero_of_not_mem hx] at this
          omega
        refine share_most g a (y :: b) s (by simp only [List.length_cons]; omega) ha.2 (List.pairwise_cons.2 hb) (fun t => ?_) h2
        have := h1 t
        rw [List.count_cons] at this
        by_cases e : x = t
        · subst e
          omega
        · have e2 : (x == t) = false := by simpa using e
          rw [e2] at this
          simpa using this
      · rw [if_neg hl]
        have hl2 : ltS y x = true := by
          cases e : ltS y x with
          | true => rfl
          | false => exact absurd (lt_tri _ _ (by simpa using hl) e) hxy
        have hy : y ∉ x :: a := fun hm => by
          rcases List.mem_cons.1 hm with e | hm
          · exact hxy e.symm
          · have := ha.1 y hm
            rw [hl2] at this
            cases this
        have h0 : s.count y = 0 := by
          have := h1 y
          rw [List.count_eq_zero_of_not_mem hy] at this
          omega
        refine share_most g (x :: a) b s (by simp only [List.length_cons]; omega) (List.pairwise_cons.2 ha) hb.2 h1 (fun t => ?_)
        have := h2 t
        rw [List.count_cons] at this
        by_cases e : y = t
        · subst e
          omega
        · have e2 : (y == t) = false := by simpa using e
          rw [e2] at this
          simpa using this
theorem lcs_shared (a b : List Txt) : lcs a b ≤ sharedN (a.mergeSort fun x y => decide (x ≤ y)) (b.mergeSort fun x y => decide (x ≤ y)) := by
  obtain ⟨s, h1, h2, h3⟩ := lcs_there a b
  rw [← h3]
  refine share_most _ _ _ s (Nat.le_refl _) (sorted_texts a) (sorted_texts b) (fun t => ?_) (fun t => ?_)
  · rw [(List.mergeSort_perm a fun x y => decide (x ≤ y)).count_eq]
    exact h1.count_le t
  · rw [(List.mergeSort_perm b fun x y => decide (x ≤ y)).count_eq]
    exact h2.count_le t
end Go.Proofs.YtbnafihigoekeaaGreatDoor
namespace Go.Proofs.YtbnafihigoekeaaGreatDoor
open Go.RowKit
section
set_option maxRecDepth 100000
set_option maxHeartbeats 4000000
theorem drewN_more {w wr : World} (h : ∃ q, wr = w.drewN q) (n : Nat) : ∃ q, wr.drewN n = w.drewN q := by
  obtain ⟨q, rfl⟩ := h
  exact ⟨q + n, World.drewN_drewN ..⟩
theorem DShared_any (va vb : Value) (a b : List Txt) (w : World) (ha : Sl w va (strCells a)) (hb : Sl w vb (strCells b)) (hal : a.length ≤ 1000000) (hbl : b.length ≤ 1000000) :
    Calls Tryz.prog 204 #[va, vb] w fun e w' => e = .returned (.int .i64 (sharedN a b : Nat)) ∧ ∃ q, w' = w.drewN q := by
  have HA := hid ha
  have HB := hid hb
  have HL := hid (And.intro hal hbl)
  have hsl := share_le (a.length + b.length) a b
  have HS := hid (show sharedN a b = shareGo (a.length + b.length) a b from rfl)
  obtain ⟨N, hN⟩ : ∃ N, sharedN a b = N := ⟨_, rfl⟩
  have HN := hid (show N ≤ 1000000 by rw [← hN]; exact Nat.le_trans hsl hal)
  rw [hN] at HS ⊢
  have HC := hid fun (x y : Txt) (wx : World) => PCmp_any x y wx
  unfold strV at HC
  clear ha hb hal hbl hsl hN
  go_enter Tryz.func204, Tryz.ntmps204
  go_wp2_with fail
  go_loopg [0, 1, 5] (a.length + b.length) (fun kx s0 s1 s5 wr => ∃ (x y : List Txt) (n : Nat), Hid (Sl wr s0 (strCells x)) ∧ Hid (Sl wr s1 (strCells y)) ∧ s5 = .int .i64 n ∧ Hid (n + shareGo kx x y = N ∧ x.length + y.length ≤ kx ∧ x.length ≤ 1000000 ∧ y.length ≤ 1000000) ∧ Hid (∃ q, wr = w.drewN q))
  case atStart => exact ⟨a, b, 0, HA, HB, rfl, hid ⟨by rw [Nat.zero_add]; exact HS.out.symm, Nat.le_refl _, HL.out.1, HL.out.2⟩, hid ⟨0, rfl⟩⟩
  case round =>
    clear HA HB HS
    obtain ⟨x, y, n, HX, HY, rfl, HQ, HW⟩ := hrel
    obtain ⟨ao, ac, rfl⟩ := HX.out.form
    obtain ⟨bo, bc, rfl⟩ := HY.out.form
    rw [strCells_length] at HX
    rw [strCells_length] at HY
    rw [strCells_length, strCells_length]
    have fin : ∀ m : Nat, m = N → Value.int .i64 (m : Int) = .int .i64 (N : Int) := fun m e => by rw [e]
    have HFIN := hid fin
    clear fin
    cases x with
    | nil =>
      have hQ := HQ.out
      have hnn : n = N := by
        have h1 := hQ.1
        have h2 := share_le gk [] y
        simp only [List.length_nil] at h2
        omega
      subst hnn
      rw [List.length_nil]
      clear hQ HQ HX HY
      go_wp2_with fail
      go_ret
      exact ⟨rfl, HW.out⟩
    | cons x0 x' =>
    cases y with
    | nil =>
      have hQ := HQ.out
      have hnn : n = N := by
        have h1 := hQ.1
        cases gk with
        | zero => exact h1
        | succ g => exact h1
      have hp : (0 : Int) < ((x0 :: x').length : Int) := by simp only [List.length_cons]; omega
      subst hnn
      rw [List.length_nil]
      obtain ⟨p, hpp⟩ : ∃ p, (x0 :: x').length = p := ⟨_, rfl⟩
      rw [hpp] at hp ⊢
      clear hQ HQ HX HY hpp
      go_wp2_with fail
      go_ret
      exact ⟨rfl, HW.out⟩
    | cons y0 y' =>
    have hQ := HQ.out
    cases gk with
    | zero => exact absurd hQ.2.1 (by simp)
    | succ g =>
    obtain ⟨a1, x1, ea, hca, hxa⟩ := HX.out.strAt' (i := 0) (by simp)
    obtain ⟨b1, y1, eb, hcb, hyb⟩ := HY.out.strAt' (i := 0) (by simp)
    simp only [List.getElem?_cons_zero, Option.some.injEq] at hxa hyb
    subst hxa hyb ea eb
    have z0 : ∀ u : Addr, u.add 0 = u := fun u => by obtain ⟨bb, oo, sp⟩ := u; cases sp <;> rfl
    rw [z0] at hca hcb
    clear z0
    obtain ⟨fo, fc, rf, hf⟩ := cutS_from HX.out 1 (by simp)
    obtain ⟨so, sc, rs, hs⟩ := cutS_from HY.out 1 (by simp)
    have hp : (0 : Int) < ((x0 :: x').length : Int) := by simp only [List.length_cons]; omega
    have hq : (0 : Int) < ((y0 :: y').length : Int) := by simp only [List.length_cons]; omega
    have lx : (x0 :: x').length ≤ 1000000 := hQ.2.2.1
    have ly : (y0 :: y').length ≤ 1000000 := hQ.2.2.2
    have hn1 : n ≤ 1000000 := by have := HN.out; have := hQ.1; omega
    have nw : IntKind.i64.wrap ((n : Int) + 1) = (n : Int) + 1 := IntWalk.i64_in _ (by omega)
    rw [show (x0 :: x').drop 1 = x' from rfl] at hf
    rw [show (y0 :: y').drop 1 = y' from rfl] at hs
    have rf1 : ∀ wx, (Instr.slice 96 (.slice (some a1) (x0 :: x').length ac) (some (.int .i64 1)) none none).run Tryz.prog wx = .ok (.slice fo ((x0 :: x').length - 1) fc) wx := rf
    have rs1 : ∀ wx, (Instr.slice 96 (.slice (some b1) (y0 :: y').length bc) (some (.int .i64 1)) none none).run Tryz.prog wx = .ok (.slice so ((y0 :: y').length - 1) sc) wx := rs
    have hsg : n + shareGo (g + 1) (x0 :: x') (y0 :: y') = N := hQ.1
    have hlen : x'.length + y'.length + 2 ≤ g + 1 := by have := hQ.2.1; simp only [List.length_cons] at this; omega
    have hlx : x'.length ≤ 1000000 ∧ y'.length ≤ 1000000 := by simp only [List.length_cons] at lx ly; omega
    have HSG := hid hsg
    have HLN := hid hlen
    have HLX := hid (And.intro hlx (And.intro lx ly))
    have HF := hid hf
    have HS2 := hid hs
    obtain ⟨p, hpp⟩ : ∃ p, (x0 :: x').length = p := ⟨_, rfl⟩
    obtain ⟨q, hqq⟩ : ∃ q, (y0 :: y').length = q := ⟨_, rfl⟩
    obtain ⟨p1, hp1⟩ : ∃ p1, (x0 :: x').length - 1 = p1 := ⟨_, rfl⟩
    obtain ⟨q1, hq1⟩ : ∃ q1, (y0 :: y').length - 1 = q1 := ⟨_, rfl⟩
    rw [hp1] at rf1 HF
    rw [hq1] at rs1 HS2
    rw [hpp] at hp rf1 HX ⊢
    rw [hqq] at hq rs1 HY ⊢
    have p0 : (0 : Int) ≤ (p : Int) := by omega
    have q0 : (0 : Int) ≤ (q : Int) := by omega
    clear hQ HQ hpp hqq hp1 hq1 hf hs rf rs hsg hlen hlx lx ly hn1
    have hcq := HC.out x0 y0
    have hz := cmp_zero x0 y0
    have hng := cmp_neg x0 y0
    obtain ⟨c, hc⟩ : ∃ c, Lib.compareBytes x0 y0 = c := ⟨_, rfl⟩
    rw [hc] at hcq hz hng
    clear hc
    have HCQ := hid hcq
    clear hcq
    by_cases he : x0 = y0
    · subst he
      have hc0 : c = 0 := by simpa using hz
      subst hc0
      have HG := hid (show (n + 1) + shareGo g x' y' = N by have := HSG.out; rw [shareGo, if_pos rfl] at this; omega)
      clear hz hng
      go_wp2_with fail
      go_quiet ((go_at_call 57; exact Calls.quiet_of_same ((HCQ.out _).mono fun _ _ ⟨h, e⟩ => ⟨h, e.symm⟩)))
      go_wp2_with fail
      go_roundg g
      case measure => omega
      case rel => exact ⟨x', y', n + 1, HF, HS2, by go_num, hid ⟨HG.out, by have := HLN.out; omega, HLX.out.1.1, HLX.out.1.2⟩, hid (drewN_more HW.out nq)⟩
    · have hc0 : (c == 0) = false := by rw [hz]; simpa using he
      have hc1 : ¬ c = 0 := by simpa using hc0
      by_cases hl : ltS x0 y0 = true
      · rw [hl] at hng
        have hcn : c < 0 := of_decide_eq_true hng
        have hcl : c ≤ 0 := by omega
        have hcg : ¬ 0 ≤ c := by omega
        have HG := hid (show n + shareGo g x' (y0 :: y') = N by have := HSG.out; rwa [shareGo, if_neg he, if_pos hl] at this)
        clear hz hng hcn
        go_wp2_with fail
        go_quiet ((go_at_call 57; exact Calls.quiet_of_same ((HCQ.out _).mono fun _ _ ⟨h, e⟩ => ⟨h, e.symm⟩)))
        go_wp2_with fail
        go_roundg g
        case measure => omega
        case rel => exact ⟨x', y0 :: y', n, HF, HY, rfl, hid ⟨HG.out, by have := HLN.out; simp only [List.length_cons]; omega, HLX.out.1.1, HLX.out.2.2⟩, hid (drewN_more HW.out nq)⟩
      · have hl0 : ltS x0 y0 = false := by simpa using hl
        rw [hl0] at hng
        have hcn : ¬ c < 0 := of_decide_eq_false hng
        have hcl : ¬ c ≤ 0 := by omega
        have hcg : 0 ≤ c := by omega
        have HG := hid (show n + shareGo g (x0 :: x') y' = N by have := HSG.out; rwa [shareGo, if_neg he, if_neg hl] at this)
        clear hz hng hcn
        go_wp2_with fail
        go_quiet ((go_at_call 57; exact Calls.quiet_of_same ((HCQ.out _).mono fun _ _ ⟨h, e⟩ => ⟨h, e.symm⟩)))
        go_wp2_with fail
        go_roundg g
        case measure => omega
        case rel => exact ⟨x0 :: x', y', n, HX, HS2, rfl, hid ⟨HG.out, by have := HLN.out; simp only [List.length_cons]; omega, HLX.out.2.1, HLX.out.1.2⟩, hid (drewN_more HW.out nq)⟩
structure TxIn (w : World) (vl vs : Value) (xl : List Txt) : Prop where
  lines : Sl w vl (strCells xl)
  sorted : Sl w vs (strCells (sortT xl))
theorem TxIn.old {w w' : World} {vl vs : Value} {xl : List Txt} (h : TxIn w vl vs xl) (hk : Below w.heap.size w w') : TxIn w' vl vs xl := ⟨h.lines.old hk, h.sorted.old hk⟩
theorem sortT_length (x : List Txt) : (sortT x).length = x.length := List.length_mergeSort x
def mayS (x y : List Txt) : Bool := !decide (400 < x.length) && !decide (400 < y.length) && decide (50 ≤ shareS (sharedN (sortT x) (sortT y)) x.length y.length)
theorem DMay_any (k1 k2 : Nat) (l1 s1 l2 s2 : Value) (x y : List Txt) (w : World) (h1 : TxIn w l1 s1 x) (h2 : TxIn w l2 s2 y) (hx : x.length ≤ 1000000) (hy : y.length ≤ 1000000) :
    Calls Tryz.prog 183 #[.agg #[.int .i64 (k1 : Nat), l1, s1], .agg #[.int .i64 (k2 : Nat), l2, s2]] w fun e w' => e = .returned (.bool (mayS x y)) ∧ Below w.heap.size w w' := by
  obtain ⟨ao, ac, rfl⟩ := h1.lines.form
  obtain ⟨ao2, ac2, rfl⟩ := h1.sorted.form
  obtain ⟨bo, bc, rfl⟩ := h2.lines.form
  obtain ⟨bo2, bc2, rfl⟩ := h2.sorted.form
  have HS := hid fun (wx : World) (hk : Below w.heap.size w wx) => DShared_any _ _ (sortT x) (sortT y) wx (h1.old hk).sorted (h2.old hk).sorted (by rw [sortT_length]; exact hx) (by rw [sortT_length]; exact hy)
  rw [strCells_length, strCells_length] at HS ⊢
  rw [strCells_length, strCells_length]
  have hc : sharedN (sortT x) (sortT y) ≤ 1000000 := by
    have := share_le ((sortT x).length + (sortT y).length) (sortT x) (sortT y)
    exact Nat.le_trans this (by rw [sortT_length]; exact hx)
  have hM : mayS x y = (!decide (400 < x.length) && !decide (400 < y.length) && decide (50 ≤ shareS (sharedN (sortT x) (sortT y)) x.length y.length)) := rfl
  obtain ⟨M, hMM⟩ : ∃ M, mayS x y = M := ⟨_, rfl⟩
  rw [hMM] at hM ⊢
  obtain ⟨c, hcc⟩ : ∃ c, sharedN (sortT x) (sortT y) = c := ⟨_, rfl⟩
  rw [hcc] at hc hM HS
  obtain ⟨n, hn⟩ : ∃ n, x.length = n := ⟨_, rfl⟩
  obtain ⟨m, hm⟩ : ∃ m, y.length = m := ⟨_, rfl⟩
  rw [sortT_length, sortT_length] at HS ⊢
  rw [hn] at hM hx HS ⊢
  rw [hm] at hM hy HS ⊢
  have HL := hid fun (o : Option Addr) (k cp : Nat) (wx : World) => DLong_any o k cp wx
  have HH := hid fun (wx : World) => DShare_any c n m ao bo ac bc wx hc hx hy
  clear hn hm hcc hMM h1 h2 hc hx hy
  by_cases q1 : 400 < n
  · have d1 : decide (400 < n) = true := decide_eq_true q1
    have hM2 : M = false := by rw [hM, d1]; rfl
    subst hM2
    clear HS HH hM q1
    go_enter Tryz.func183, Tryz.ntmps183
    go_wp2_with (go_at_call 202; refine (HL.out _ _ _ _).mono ?_; rintro e w1 ⟨rfl, rfl⟩; rw [d1])
    go_ret
    exact ⟨rfl, ((Below.refl _ w).alloc (Nat.le_refl _) _).alloc (by simp) _⟩
  · have d1 : decide (400 < n) = false := decide_eq_false q1
    by_cases q2 : 400 < m
    · have d2 : decide (400 < m) = true := decide_eq_true q2
      have hM2 : M = false := by rw [hM, d1, d2]; rfl
      subst hM2
      clear HS HH hM q1 q2
      go_enter Tryz.func183, Tryz.ntmps183
      go_wp2_with (go_at_call 202; refine (HL.out _ _ _ _).mono ?_; rintro e w1 ⟨rfl, rfl⟩; first | rw [d1] | rw [d2])
      go_ret
      exact ⟨rfl, ((Below.refl _ w).alloc (Nat.le_refl _) _).alloc (by simp) _⟩
    · have d2 : decide (400 < m) = false := decide_eq_false q2
      obtain ⟨z, hz⟩ : ∃ z, shareS c n m = z := ⟨_, rfl⟩
      rw [hz] at hM HH
      have hM2 : M = decide (50 ≤ z) := by rw [hM, d1, d2]; rfl
      have hge : decide ((z : Int) ≥ 50) = decide (50 ≤ z) := by
        by_cases e : 50 ≤ z
        · rw [decide_eq_true e, decide_eq_true (by omega)]
        · rw [decide_eq_false e, decide_eq_false (by omega)]
      have hge2 : decide ((50 : Int) ≤ (z : Int)) = M := by rw [hM2]; exact hge
      rw [← hM2] at hge
      have HGE := hid (And.intro hge hge2)
      clear hz hM hM2 q1 q2 hge hge2
      go_enter Tryz.func183, Tryz.ntmps183
      go_wp2_with (go_at_call 202; refine (HL.out _ _ _ _).mono ?_; rintro e w1 ⟨rfl, rfl⟩; first | rw [d1] | rw [d2])
      obtain ⟨W, hW⟩ : ∃ W, (w.alloc (.cells #[.int .i64 (k1 : Nat), .slice ao n ac, .slice ao2 n ac2] 225)).alloc (.cells #[.int .i64 (k2 : Nat), .slice bo m bc, .slice bo2 m bc2] 225) = W := ⟨_, rfl⟩
      have hbW : Below w.heap.size w W := by rw [← hW]; exact ((Below.refl _ w).alloc (Nat.le_refl _) _).alloc (by simp) _
      have hg2 : W.heap[w.heap.size + 1]? = some (.cells #[.int .i64 (k2 : Nat), .slice bo m bc, .slice bo2 m bc2] 225 (0, 0)) := by
        rw [← hW]
        have := World.alloc_heap_new (w.alloc (.cells #[.int .i64 (k1 : Nat), .slice ao n ac, .slice ao2 n ac2] 225)) (.cells #[.int .i64 (k2 : Nat), .slice bo m bc, .slice bo2 m bc2] 225)
        rwa [World.size_alloc] at this
      have hg1 : W.heap[w.heap.size]? = some (.cells #[.int .i64 (k1 : Nat), .slice ao n ac, .slice ao2 n ac2] 225 (0, 0)) := by
        rw [← hW]
        exact (Below.heap_alloc _ _ _ (by simp)).trans (World.alloc_heap_new w _)
      rw [hW]
      have c11 : W.cell? ⟨w.heap.size, 1, none⟩ = some (.slice ao n ac) := blk_cell (i := 1) hg1 rfl
      have c12 : W.cell? ⟨w.heap.size, 2, none⟩ = some (.slice ao2 n ac2) := blk_cell (i := 2) hg1 rfl
      have c21 : W.cell? ⟨w.heap.size + 1, 1, none⟩ = some (.slice bo m bc) := blk_cell (i := 1) hg2 rfl
      have c22 : W.cell? ⟨w.heap.size + 1, 2, none⟩ = some (.slice bo2 m bc2) := blk_cell (i := 2) hg2 rfl
      have HSW := hid fun (k : Nat) => HS.out (W.drewN k) (below_step hbW (below_drewN _ _) hbW.size)
      have HBW := hid hbW
      clear hW hg1 hg2 hbW HS
      go_quiet (first
        | (go_at_call 204; exact Calls.quiet_of (HSW.out _))
        | (go_at_call 203; exact Calls.quiet_of_same ((HH.out _).mono fun _ _ ⟨h, e⟩ => ⟨h, e.symm⟩)))
      go_wp2_with fail
      go_ret
      refine ⟨?_, below_step HBW.out (below_drewN _ _) HBW.out.size⟩
      first | rfl | (rw [HGE.out.1]; rfl) | (rw [HGE.out.2]; rfl)
def alikeB (x y : List Txt) : Bool := decide (50 ≤ ratioL x y)
theorem may_of_alike {x y : List Txt} (h : 50 ≤ ratioL x y) : mayS x y = true := by
  have hl := lcs_shared x y
  unfold mayS
  by_cases h0 : x.length + y.length = 0
  · have e1 : ¬ 400 < x.length := by omega
    have e2 : ¬ 400 < y.length := by omega
    rw [decide_eq_false e1, decide_eq_false e2, shareS, if_pos h0]
    rfl
  · have e : ¬ (400 < x.length ∨ 400 < y.length) := fun e => by
      unfold ratioL at h
      rw [if_neg h0, if_pos e] at h
      omega
    rw [ratioL_share x y (by omega) (by omega)] at h
    rw [decide_eq_false (fun q => e (.inl q)), decide_eq_false (fun q => e (.inr q))]
    have hle : shareS (lcs x y) x.length y.length ≤ shareS (sharedN (sortT x) (sortT y)) x.length y.length := by
      unfold shareS
      rw [if_neg h0, if_neg h0]
      exact Nat.div_le_div_right (Nat.mul_le_mul_left _ hl)
    rw [decide_eq_true (Nat.le_trans h hle)]
    rfl
theorem DAlikeT_any (k1 k2 : Nat) (l1 s1 l2 s2 : Value) (x y : List Txt) (w : World) (h1 : TxIn w l1 s1 x) (h2 : TxIn w l2 s2 y) (hx : x.length ≤ 1000000) (hy : y.length ≤ 1000000) :
    Calls Tryz.prog 163 #[.agg #[.int .i64 (k1 : Nat), l1, s1], .agg #[.int .i64 (k2 : Nat), l2, s2]] w fun e w' => ∃ r : Nat, e = .returned (.tuple #[.int .i64 (r : Nat), .bool (alikeB x y)]) ∧ (alikeB x y = true → r = ratioL x y) ∧ Below w.heap.size w w' := by
  have o1 := h1.lines.form
  obtain ⟨ao, ac, rfl⟩ := o1
  obtain ⟨ao2, ac2, rfl⟩ := h1.sorted.form
  obtain ⟨bo, bc, rfl⟩ := h2.lines.form
  obtain ⟨bo2, bc2, rfl⟩ := h2.sorted.form
  have HM := hid fun (wx : World) (hk : Below w.heap.size w wx) => DMay_any k1 k2 _ _ _ _ x y wx (h1.old hk) (h2.old hk) hx hy
  have HR := hid fun (wx : World) (hk : Below w.heap.size w wx) => DRatioL_any _ _ x y wx (h1.old hk).lines (h2.old hk).lines hx hy
  have hmay := fun h => may_of_alike (x := x) (y := y) h
  have hA : alikeB x y = decide (50 ≤ ratioL x y) := rfl
  obtain ⟨A, hAA⟩ : ∃ A, alikeB x y = A := ⟨_, rfl⟩
  obtain ⟨z, hz⟩ : ∃ z, ratioL x y = z := ⟨_, rfl⟩
  obtain ⟨M, hM⟩ : ∃ M, mayS x y = M := ⟨_, rfl⟩
  rw [hAA, hz] at hA
  rw [hz] at HR hmay
  rw [hM] at HM hmay
  rw [hAA, hz]
  have HA := hid hA
  have HMAY := hid hmay
  obtain ⟨n1, hn1⟩ : ∃ n, (strCells x).length = n := ⟨_, rfl⟩
  obtain ⟨n2, hn2⟩ : ∃ n, (strCells (sortT x)).length = n := ⟨_, rfl⟩
  obtain ⟨m1, hm1⟩ : ∃ n, (strCells y).length = n := ⟨_, rfl⟩
  obtain ⟨m2, hm2⟩ : ∃ n, (strCells (sortT y)).length = n := ⟨_, rfl⟩
  rw [hn1] at HM HR
  rw [hn2] at HM
  rw [hm1] at HM HR
  rw [hm2] at HM
  rw [hn1, hn2, hm1, hm2]
  clear hA hAA hz hM hmay h1 h2 hx hy hn1 hn2 hm1 hm2
  go_enter Tryz.func163, Tryz.ntmps163
  go_wp2_with fail
  obtain ⟨W, hW⟩ : ∃ W, (w.alloc (.cells #[.int .i64 (k1 : Nat), .slice ao n1 ac, .slice ao2 n2 ac2] 225)).alloc (.cells #[.int .i64 (k2 : Nat), .slice bo m1 bc, .slice bo2 m2 bc2] 225) = W := ⟨_, rfl⟩
  have hbW : Below w.heap.size w W := by rw [← hW]; exact ((Below.refl _ w).alloc (Nat.le_refl _) _).alloc (by simp) _
  have hg2 : W.heap[w.heap.size + 1]? = some (.cells #[.int .i64 (k2 : Nat), .slice bo m1 bc, .slice bo2 m2 bc2] 225 (0, 0)) := by
    rw [← hW]
    have := World.alloc_heap_new (w.alloc (.cells #[.int .i64 (k1 : Nat), .slice ao n1 ac, .slice ao2 n2 ac2] 225)) (.cells #[.int .i64 (k2 : Nat), .slice bo m1 bc, .slice bo2 m2 bc2] 225)
    rwa [World.size_alloc] at this
  have hg1 : W.heap[w.heap.size]? = some (.cells #[.int .i64 (k1 : Nat), .slice ao n1 ac, .slice ao2 n2 ac2] 225 (0, 0)) := by
    rw [← hW]
    exact (Below.heap_alloc _ _ _ (by simp)).trans (World.alloc_heap_new w _)
  have hWs : W.heap.size = w.heap.size + 2 := by rw [← hW]; simp
  rw [hW]
  clear hW
  refine (HM.out W hbW).mono ?_
  rintro e w2 ⟨rfl, hb2⟩
  have hg12 := (hb2.block _ (by omega)).trans hg1
  have hg22 := (hb2.block _ (by omega)).trans hg2
  have c11 : w2.cell? ⟨w.heap.size, 1, none⟩ = some (.slice ao n1 ac) := blk_cell (i := 1) hg12 rfl
  have c21 : w2.cell? ⟨w.heap.size + 1, 1, none⟩ = some (.slice bo m1 bc) := blk_cell (i := 1) hg22 rfl
  have HB2 := hid (below_step hbW hb2 hbW.size)
  clear hg1 hg2 hg12 hg22 hb2 hbW hWs HM
  cases M with
  | false =>
    have hAf : A = false := by
      rw [HA.out]
      exact decide_eq_false fun h => by have := HMAY.out h; cases this
    subst hAf
    go_wp2_with fail
    refine bodyPost_ret (results_tmp2 rfl _ _ _) rfl ?_
    exact ⟨0, rfl, (fun h => by cases h), HB2.out⟩
  | true =>
    have hge : decide ((z : Int) ≥ 50) = A := by
      rw [HA.out]
      by_cases e : 50 ≤ z
      · rw [decide_eq_true e, decide_eq_true (by omega)]
      · rw [decide_eq_false e, decide_eq_false (by omega)]
    have HGE := hid (And.intro hge (show decide ((50 : Int) ≤ (z : Int)) = A from hge))
    have HRW := hid (HR.out w2 HB2.out)
    clear hge HR
    go_wp2_with (go_at_call 184; refine HRW.out.mono ?_; rintro e w3 ⟨rfl, hb3⟩)
    refine bodyPost_ret (results_tmp2 rfl _ _ _) rfl ?_
    refine ⟨z, ?_, fun _ => rfl, below_step HB2.out hb3 HB2.out.size⟩
    first | rfl | (rw [HGE.out.1]; rfl) | (rw [HGE.out.2]; rfl)
end
end Go.Proofs.YtbnafihigoekeaaGreatDoor
namespace Go.Proofs.YtbnafihigoekeaaGreatDoor
open Go.RowKit
section
set_option maxRecDepth 100000
set_option maxHeartbeats 4000000
theorem DTextOf_any (f : FileS) (k : Nat) (w : World) (hl : f.2.2.length ≤ 1000000) :
    Calls Tryz.prog 182 #[fileV f, .int .i64 (k : Nat)] w fun e w' => ∃ vl vs, e = .returned (.agg #[.int .i64 (k : Nat), vl, vs]) ∧ w'.ownsRow w.heap.size 9 1 vl (linesOf f.2.2).length (strCells (linesOf f.2.2)) ∧
      w'.ownsRow w.heap.size 9 1 vs (sortT (linesOf f.2.2)).length (strCells (sortT (linesOf f.2.2))) ∧ Below w.heap.size w w' := by
  obtain ⟨p, x, t⟩ := f
  simp only at hl ⊢
  have hlc := linesOf_count t
  have HS := hid fun (wx : World) => PSplit_row t wx (by omega)
  obtain ⟨L, hL⟩ : ∃ L, linesOf t = L := ⟨_, rfl⟩
  rw [hL] at hlc HS ⊢
  have HLN := hid (show L.length ≤ 1000000 by omega)
  clear hL hlc hl
  unfold fileV strV at *
  simp only
  go_enter Tryz.func182, Tryz.ntmps182
  go_wp2_with fail
  obtain ⟨W, hW⟩ : ∃ W, (w.alloc (.cells #[.string ⟨p.toArray⟩, .bool x, .string ⟨t.toArray⟩] 28)).alloc (.cells #[.int .i64 0, .slice none 0 0, .slice none 0 0] 225) = W := ⟨_, rfl⟩
  have hbW : Below w.heap.size w W := by rw [← hW]; exact ((Below.refl _ w).alloc (Nat.le_refl _) _).alloc (by simp) _
  have hg2 : W.heap[w.heap.size + 1]? = some (.cells #[.int .i64 0, .slice none 0 0, .slice none 0 0] 225 (0, 0)) := by
    rw [← hW]
    have := World.alloc_heap_new (w.alloc (.cells #[.string ⟨p.toArray⟩, .bool x, .string ⟨t.toArray⟩] 28)) (.cells #[.int .i64 0, .slice none 0 0, .slice none 0 0] 225)
    rwa [World.size_alloc] at this
  have hWs : W.heap.size = w.heap.size + 2 := by rw [← hW]; simp
  rw [hW]
  clear hW
  obtain ⟨g, hg⟩ : ∃ g, w.heap.size + 1 = g := ⟨_, rfl⟩
  rw [hg] at hg2 ⊢
  refine (HS.out W).mono ?_
  rintro e w1 ⟨vl, rfl, hr1, hb1⟩
  obtain ⟨lo, lc, rfl⟩ := owns_form hr1
  have HR1 := hid hr1
  have hz1 := hb1.size
  have hg21 := (hb1.block _ (by omega)).trans hg2
  have HV := hid fun (wx : World) => Vals_any lo L.length lc wx
  clear hg2 HS
  have hlt1 : ((w1.alloc (.cells #[.slice lo L.length lc] 96)).heap.size) = w1.heap.size + 1 := by simp
  have HSo := hid (Sorted_any w1 (w1.alloc (.cells #[.slice lo L.length lc] 96)) w1.heap.size (.slice lo L.length lc) L (Sl.ofOwns HR1.out) ((Below.refl _ w1).alloc (Nat.le_refl _) _) (blk_cell (i := 0) (heap_alloc_new w1 _) rfl) HLN.out)
  go_wp2_with (go_at_call 201; refine (HV.out _).mono ?_; rintro e w2 ⟨rfl, rfl⟩)
  refine HSo.out.mono ?_
  rintro e w3 ⟨vs, rfl, ho3, hb3⟩
  obtain ⟨so, sc, rfl⟩ := owns_form ho3
  have hb13 : Below w1.heap.size w1 w3 := below_step ((Below.refl _ w1).alloc (Nat.le_refl _) _) hb3 (by rw [hlt1]; omega)
  have hg23 := (hb13.block _ (lt_of_block hg21)).trans hg21
  have HO3 := hid (show w3.ownsRow w.heap.size 9 1 (.slice so (sortT L).length sc) (sortT L).length (strCells (sortT L)) from by
    have h := ho3
    unfold OwnT at h
    rw [flatT] at h
    exact owns_base h (by rw [hlt1]; omega))
  have HR3 := hid (show w3.ownsRow w.heap.size 9 1 (.slice lo L.length lc) L.length (strCells L) from owns_base (owns_kept HR1.out fun q _ hq => hb13.block q hq) (by omega))
  have HB3 := hid (below_step hbW (below_step hb1 hb13 (by omega)) (by omega))
  have hne1 : ∀ {u : Value} {n : Nat} {xs : List Value} , w3.ownsRow w.heap.size 9 1 u n xs → some g ≠ u.ownBlock := fun {u n xs} h e => by
    rcases ownsRow_ne_a h hg23 (fun cur e => absurd (Obj.cells.inj e).2.1 (by decide)) with h1 | h1
    · rw [h1] at e
      cases e
    · exact h1 e.symm
  have HN1 := hid (hne1 HR3.out)
  have HN2 := hid (hne1 HO3.out)
  have HGG := hid hg
  clear hne1 ho3 hb3 hb13 hg21 hr1 hb1 hbW HSo HV HR1
  go_wp2_with (refine file_store rfl 225 _ _ rfl g #[.int .i64 (k : Nat), .slice lo L.length lc, .slice so (sortT L).length sc] rfl rfl _ _ hg23 3 Tryz.sizeTx rfl rfl (by simp [Value.oneCell']) ?_; intro w9 hg9 hk9)
  refine bodyPost_ret (results_cell_row rfl _ _ g _ _ _ _ rfl hg9 Tryz.underlying225 rfl Tryz.sizeTx) rfl ?_
  refine ⟨_, _, rfl, owns_kept HR3.out fun q hq hl => hk9.block q hl (fun e => HN1.out (by rw [← e]; exact hq.symm)), owns_kept HO3.out fun q hq hl => hk9.block q hl (fun e => HN2.out (by rw [← e]; exact hq.symm)), HB3.out.trans (hk9.below HB3.out.size (fun j hj e => by have := HGG.out; omega))⟩
def loneS (l other : List FileS) : List FileS := l.filter (loneB other)
theorem DLone_any (va vb : Value) (l m : List FileS) (w : World) (ha : SlF w va l) (hb : SlF w vb m) (hl : l.length ≤ 1000000) (hm : m.length ≤ 1000000) :
    Calls Tryz.prog 116 #[va, vb] w fun e w' => ∃ v, e = .returned v ∧ OwnF w' w.heap.size v (loneS l m) ∧ Below w.heap.size w w' := by
  obtain ⟨ao, ac, rfl⟩ := ha.form
  have HA := hid ha
  have HL := hid hl
  have HF := hid fun (wx : World) (p : Txt) (hk : Below w.heap.size w wx) => DFind_any vb m p wx (hb.old hk) (by omega)
  clear ha hb hl hm
  go_enter Tryz.func116, Tryz.ntmps116
  go_wp2_with fail
  go_loopg [5, 12] l.length (fun g v i wr => ∃ (k : Nat) (X : List FileS), k ≤ l.length ∧ l.length - k = g ∧ i = .int .i64 k ∧ Hid (X = loneS (l.take k) m ∧ X.length ≤ k) ∧ Hid (OwnF wr w.heap.size v X) ∧ Hid (Below w.heap.size w wr))
  case atStart => exact ⟨0, [], Nat.zero_le _, rfl, rfl, hid ⟨rfl, Nat.le_refl _⟩, hid (World.ownsRow_nil _ _ _ _), hid (Below.refl _ _)⟩
  case round =>
    obtain ⟨k, X, hk, rfl, rfl, HX, HO, HW⟩ := hrel
    obtain ⟨no, nc, rfl⟩ := owns_form HO.out
    have k0 : (0 : Int) ≤ (k : Int) := Int.natCast_nonneg _
    by_cases hlt : k < l.length
    · have k1 : (k : Int) < (l.length : Int) := by omega
      have kw : IntKind.i64.wrap ((k : Int) + 1) = (k : Int) + 1 := IntWalk.i64_in _ (by have := HL.out; omega)
      obtain ⟨b, o, p, x, t, rfl, he, c1, c2, c3⟩ := SlF.at (HA.out.old HW.out) hlt
      have HS := hid (show loneS (l.take (k + 1)) m = X ++ loneS [(p, x, t)] m by
        rw [HX.out.1, List.take_add_one, he, loneS, loneS, loneS, ← List.filter_append]
        rfl)
      clear he
      go_wp2_with fail
      obtain ⟨wb, hwb⟩ : ∃ wb, wr.alloc (.cells #[.string ⟨p.toArray⟩, .bool x, .string ⟨t.toArray⟩] 28) = wb := ⟨_, rfl⟩
      have hbb : Below w.heap.size w wb := by rw [← hwb]; exact HW.out.alloc HW.out.size _
      have hgb : wb.heap[wr.heap.size]? = some (.cells #[.string ⟨p.toArray⟩, .bool x, .string ⟨t.toArray⟩] 28 (0, 0)) := by rw [← hwb]; exact heap_alloc_new wr _
      have HOB := hid (show OwnF wb w.heap.size (.slice no X.length nc) X by rw [← hwb]; exact HO.out.alloc _)
      have hzb : wb.heap.size = wr.heap.size + 1 := by rw [← hwb]; simp
      rw [hwb]
      clear hwb
      obtain ⟨g, hg⟩ : ∃ g, wr.heap.size = g := ⟨_, rfl⟩
      rw [hg] at hgb hzb ⊢
      have hfc := HF.out wb p hbb
      obtain ⟨r, hr⟩ : ∃ r, findS m p = r := ⟨_, rfl⟩
      rw [hr] at hfc
      unfold fileV strV at hfc
      refine hfc.mono ?_
      rintro e w2 ⟨rfl, hb2⟩
      have hg2 := (hb2.block _ (lt_of_block hgb)).trans hgb
      have q1 : w2.cell? ⟨g, 0, none⟩ = some (.string ⟨p.toArray⟩) := blk_cell (i := 0) hg2 rfl
      have q2 : w2.cell? ⟨g, 1, none⟩ = some (.bool x) := blk_cell (i := 1) hg2 rfl
      have q3 : w2.cell? ⟨g, 2, none⟩ = some (.string ⟨t.toArray⟩) := blk_cell (i := 2) hg2 rfl
      have HO2 := hid (show OwnF w2 w.heap.size (.slice no X.length nc) X from owns_kept HOB.out fun q _ hq => hb2.block q hq)
      have HW2 := hid (below_step hbb hb2 hbb.size)
      have hglt : g < w2.heap.size := lt_of_block hg2
      clear hgb hzb hb2 hfc hbb HOB
      cases r with
      | some f2 =>
        obtain ⟨p2, x2, t2⟩ := f2
        have HE := hid (show X = loneS (l.take (k + 1)) m by
          rw [HS.out]
          simp [loneS, loneB, hr])
        clear hr
        go_wp2_with fail
        go_roundg (l.length - (k + 1))
        case measure => omega
        case rel => exact ⟨k + 1, X, by omega, rfl, by go_num, hid ⟨HE.out, by have := HX.out; omega⟩, hid (owns_kept HO2.out fun q _ hq => Below.heap_alloc _ _ q hq), hid (HW2.out.alloc HW2.out.size _)⟩
      | none =>
        by_cases ht : t = []
        · subst ht
          have HE := hid (show X = loneS (l.take (k + 1)) m by
            rw [HS.out]
            simp [loneS, loneB])
          clear hr
          go_wp2_with fail
          go_roundg (l.length - (k + 1))
          case measure => omega
          case rel => exact ⟨k + 1, X, by omega, rfl, by go_num, hid ⟨HE.out, by have := HX.out; omega⟩, hid (owns_kept HO2.out fun q _ hq => Below.heap_alloc _ _ q hq), hid (HW2.out.alloc HW2.out.size _)⟩
        · have HE := hid (show X ++ [(p, x, t)] = loneS (l.take (k + 1)) m by
            rw [HS.out]
            simp [loneS, loneB, hr, ht])
          have t1 : (t == []) = false := by simpa using ht
          clear hr
          have hxl : X.length ≤ 1000000 := by have := HX.out; have := HL.out; omega
          have hbase : w.heap.size ≤ w2.heap.size := HW2.out.size
          have HO3 := hid (show OwnF (w2.alloc (.cells #[.string ⟨#[]⟩, .bool false, .string ⟨#[]⟩] 28)) w.heap.size (.slice no X.length nc) X from HO2.out.alloc _)
          have HW3 := hid (HW2.out.alloc HW2.out.size (.cells #[.string ⟨#[]⟩, .bool false, .string ⟨#[]⟩] 28))
          go_wp2_with (at_builtin; refine wpList_append_f1 (by rfl) (.tmp 30) (.tmp 32) rfl w.heap.size _ X (p, x, t) rfl HO3.out _ rfl (by simp) (by omega) (by simp; omega) ?_; intro v5 w5 hO5 hb5)
          go_roundg (l.length - (k + 1))
          case measure => omega
          case rel => exact ⟨k + 1, X ++ [(p, x, t)], by omega, rfl, by go_num, hid ⟨HE.out, by have := HX.out; simp; omega⟩, hid hO5, hid (HW3.out.trans hb5)⟩
    · obtain rfl : k = l.length := by omega
      have hneg : ¬ (l.length : Int) < (l.length : Int) := by omega
      go_wp2_with fail
      go_ret
      have hX := HX.out.1
      rw [List.take_length] at hX
      rw [← hX]
      exact ⟨_, rfl, HO.out, HW.out⟩
end
end Go.Proofs.YtbnafihigoekeaaGreatDoor

/-
  A range over a function, where the body must know which round it is: the rounds are numbered, and the k-th is handed enc k. Regions that draw their order within a round. Nothing of the program. Rows of numbers that are filled from behind (fill). slices.Backward over texts: what it hands its rounds. How many lines two lists begin and end with (alike, alikeAtEnd); edits for each of some lines (add). What each rest of a list has in common with each rest of another one, in rows (rests). rests, walked. The script's walk (walk), and Script. Script.
-/
import Derived.RangeFuncNested
import Derived.RangeFuncBound
import Derived.RangeFuncCalls
import Derived.RangeFuncLeaves
import Derived.Shelf.Abstract
import Derived.Shelf.RegionOpen
import Derived.WalkKit
import Derived.OwnWalkIn
import Derived.TacticsInMore
import Derived.LoopNIn
import Derived.LoopIn
import Derived.OrdersIn
import Derived.Deep.RegionHeld3
import Derived.Test.YtfldheegebopoaaRdfT
import Derived.Test.YtfldheegebopoaaEdA
import Derived.Test.YtfldheegebopoaaStr
import Derived.Test.YtfldheegebopoaaRdfA
import Derived.Test.YtfldheegebopoaaDifL
import Derived.Deep.LoopGhost
import Derived.Deep.CutRange
import Derived.Test.YtfldheegebopoaaCutS
namespace Go.Proofs.Ytfldheegebopoaa
open Go.RowKit

/-! ### Regions within a round -/
/-- Q, but no panic, and the machine's room never runs out. -/
def NoOut (Q : Exit → Act → World → Prop) : Exit → Act → World → Prop
  | .outgrown, _, _ => False
  | .panic _, _, _ => False
  | e, a, w => Q e a w
theorem NoOut.normal {Q : Exit → Act → World → Prop} {a : Act} {w : World} (h : Q .normal a w) : NoOut Q .normal a w := h
section
variable {P : Program} {ops : Array Oper} {Q : Exit → Act → World → Prop} {l m : Nat}
theorem op_round {i : Nat} {K : Act → World → Prop} {a : Act} {w : World} (hnd : ∀ o, ops[i]? = some o → ∀ c, o.op ≠ .defer c) (h : wpOp P ops (NoOut Q) i K a w) :
    wpOpIn (Fence.wide.inRound l) m P ops Q i K a w := by
  have hno : ¬ LetsOut (NoOut Q) := fun ⟨_, _, h⟩ => h
  unfold wpOp at h
  unfold wpOpIn
  cases ho : ops[i]? with
  | none => simpa [ho] using h
  | some o =>
    simp only [ho] at h ⊢
    by_cases hw : Region.wanted o (yielded ops a.tmps) = true
    · simp only [hw, if_true] at h ⊢
      rcases h with h | ⟨_, h⟩
      · refine ⟨fun _ _ => trivial, ?_⟩
        rw [Oper.semAt_eq _ _ _ (hnd o ho)]
        unfold Oper.wp at h
        generalize (execOp a.eval o).run P w = r at h ⊢
        cases r with
        | ok n w' =>
          cases n <;> simp only [Oper.upon, Oper.uponIn] at h ⊢
          case value => exact h
          case skip => exact h
          case defer => exact h
          case enter f args =>
            refine ⟨(by intro hd; cases hd), CallsIn.inRound l ((callsIn_wide.2 h).mono ?_)⟩
            rintro e w2 he
            cases e with
            | returned v => exact he
            | panicked c => exact (he : False).elim
            | outgrown => exact absurd he hno
          case row row args =>
            refine ⟨(by intro hd; cases hd), fun c cs _ => ?_⟩
            obtain ⟨v, w1, r, s⟩ := h c cs
            exact ⟨v, w1, r, stepsIn_wide.2 s⟩
        | halt x w' =>
          cases x <;> simp only [Oper.upon, Oper.uponIn] at h ⊢
          case panic => exact (h : False).elim
      · exact absurd h hno
    · simp only [hw, if_false, Bool.false_eq_true] at h ⊢
      exact ⟨fun _ _ => trivial, h⟩
theorem any_round (hnd : ∀ (i : Nat) (o : Oper), ops[i]? = some o → ∀ c, o.op ≠ .defer c) : ∀ (fuel : Nat) (listed : Array Bool) (a : Act) (w : World), wpAny P .any ops (NoOut Q) fuel listed a w → wpAnyIn (Fence.wide.inRound l) m P .any ops Q fuel listed a w
  | 0, _, _, _, h => h
  | fuel + 1, _, _, _, h => ⟨h.1, fun i hi => op_round (hnd i) (wpOp_mono (fun a' w' h' => any_round hnd fuel _ a' w' h') (h.2 i hi))⟩
/-- A region that draws its order, within a round: walked as one outside of it, S held. -/
theorem region_round {id : Nat} {a : Act} {w : World} (S : World → Prop) (hm : P.follows .mixedOrders = true) (hnd : (ops.all fun o => match o.op with | .defer _ => false | _ => true) = true)
    (h : wpAnyH P .any ops (NoOut Q) S ops.size (Array.replicate ops.size false) a w.drew) : (Code.region id ops true).wpIn (Fence.wide.inRound l) m P Q a w := by
  refine wpIn_region_any hm (any_round (fun i o ho c hc => ?_) _ _ _ _ (wpAny_of_held _ _ _ _ h))
  obtain ⟨hi, e⟩ := Array.getElem?_eq_some_iff.1 ho
  have := Array.all_eq_true.1 hnd i hi
  rw [e, hc] at this
  cases this
end

/-! ### The rounds, numbered -/
/-- What an iterator does, whatever its rounds are: N rounds, the k-th handed enc k, if no round wants to leave and each keeps what Kp says. -/
def Rounds (P : Program) (gf : Nat) (lb : Array Value) (N : Nat) (enc : Nat → Array Value) (Kp : World → World → Prop) (w : World) : Prop :=
  ∀ (l : Nat) (J : Nat → World → Prop) (W : World), Below w.heap.size w W →
    (∀ k W1, k < N → J k W1 → YieldAt Fence.wide 1 P l (enc k) W1 fun e W' => e = .returned (.bool true) ∧ J (k + 1) W' ∧ Kp W1 W') →
    J 0 W → CallsIn Fence.wide 2 P gf (#[.func (.yield l) #[] #[]] ++ lb) W fun e W' => (∃ v, e = .returned v) ∧ J N W'
/-- how a round's body is left -/
def roundsPost (B : Nat) (Kp : World → World → Prop) (I : World → Prop) (W : World) : Exit → Act → World → Prop
  | .normal, _, W' => KeepsFrom B W W' ∧ Kp W W' ∧ I W'
  | _, _, _ => False

theorem wpIn_rounds {P : Program} {g : Operand} {ps : Array Tmp} {assign body : Code} {Q : Exit → Act → World → Prop} {a : Act} {w : World} {gf : Nat} {lb : Array Value} {N : Nat} {enc : Nat → Array Value} {Kp : World → World → Prop} {w0 : World}
    (hg : a.eval g = .func (.func gf) #[] lb) (eg : ∀ args w, (callFunc gf args).run P w = .ok (.enter gf args) w) (hseq : Rounds P gf lb N enc Kp w0) (hb0 : Below w0.heap.size w0 w) (hps : ∀ k, (enc k).size = ps.size)
    (hKt : ∀ {A B C : World}, Kp A B → Kp B C → Kp A C) (hKb : ∀ (W : World) (l : Nat) (o : Obj), w.heap.size ≤ l → l < W.heap.size → Kp W (W.putObj l o))
    (I : Nat → World → Prop) (hI : OwnFrom w.heap.size I) (h0 : I 0 w) (a₁ : Nat → Act)
    (hassign : ∀ (l k : Nat) (W : World) (K : Act → World → Prop), K (a₁ k) W → assign.wpIn (Fence.wide.inRound l) 1 P (Exit.then K (fun _ _ _ => False)) { tmps := (ps.zip (enc k)).foldl (fun t (p, v) => t.setIfInBounds p v) a.tmps, defers := [] } W)
    (hbody : ∀ (l k : Nat) (W : World), k < N → I k W → body.wpIn (Fence.wide.inRound l) 1 P (roundsPost w.heap.size Kp (I (k + 1)) W) (a₁ k) W)
    (hdone : ∀ (D : Nat) (W : World), w.heap.size ≤ D → I N W → W.heap[D]? = some (.deferred (some [])) → Q .normal { a with defers := { target := .collected D, args := #[] } :: a.defers } W) :
    (Code.rangeFunc g ps assign body).wpIn Fence.wide 3 P Q a w := by
  refine wpIn_rangeFunc fun fn _ => ?_
  have hsz : ∀ o : Obj, (w.alloc o).heap.size = w.heap.size + 1 := fun o => by simp
  -- the record, in its three states
  let R : LoopState → Loop := fun st => { state := st, pending := none, fn, tmps := a.tmps, params := ps, assign, body, defers := w.heap.size }
  obtain ⟨W1, hW1⟩ : ∃ W1, (w.alloc (.deferred (some []))).alloc (.loop (R .ready)) = W1 := ⟨_, rfl⟩
  have rec1 : W1.heap[w.heap.size + 1]? = some (.loop (R .ready)) := by
    have := World.alloc_heap_new (w.alloc (.deferred (some []))) (.loop (R .ready))
    rw [hsz, hW1] at this
    exact this
  have def1 : W1.heap[w.heap.size]? = some (.deferred (some [])) := by
    rw [← hW1]
    exact (Below.heap_alloc _ _ _ (by rw [hsz]; omega)).trans (World.alloc_heap_new w _)
  have bel1 : Below w0.heap.size w0 W1 := by
    rw [← hW1]
    exact hb0.trans (((Below.refl _ w).alloc hb0.size _).alloc (by rw [hsz]; have := hb0.size; omega) _)
  have inv1 : I 0 W1 := by
    rw [← hW1]
    exact hI.alloc _ (hI.alloc _ h0)
  refine ⟨w.heap.size + 1, [{ target := .collected w.heap.size, args := #[] }], W1, { target := .fn (.func gf) lb, args := #[.func (.yield (w.heap.size + 1)) #[] #[]] }, W1, gf, #[.func (.yield (w.heap.size + 1)) #[] #[]] ++ lb, W1, ?_, ?_, fun _ _ => trivial, ?_, (by intro h; cases h), ?_⟩
  · exact (run_enterLoop_outer fn a.tmps ps assign body).trans (by rw [← hW1])
  · simp only [resolve, hg]
    simp [go_sem]
  · simp [invoke, go_sem, eg]
  · refine (hseq (w.heap.size + 1) (fun k W => I k W ∧ W.heap[w.heap.size + 1]? = some (.loop (R .ready)) ∧ W.heap[w.heap.size]? = some (.deferred (some []))) W1 bel1 ?_ ⟨inv1, rec1, def1⟩).mono ?_
    · rintro k W hk ⟨hi, hrec, hdef⟩
      have hlt := (Array.getElem?_eq_some_iff.1 hrec).1
      refine ⟨fn, _, assign, body, run_yield hrec (hps k), roundIn_of_wpIn trivial (hassign _ k W _ ⟨_, run_beginRound hrec rfl, ?_⟩)⟩
      obtain ⟨Wb, hWb⟩ : ∃ Wb, W.putObj (w.heap.size + 1) (.loop { R .ready with state := .busy }) = Wb := ⟨_, rfl⟩
      have hib : I k Wb := by
        rw [← hWb]
        exact hI.putObj _ hi (by omega) hrec rfl
      have rb : Wb.heap[w.heap.size + 1]? = some (.loop { R .ready with state := .busy }) := by
        rw [← hWb]
        exact World.putObj_heap_same hlt
      have db : Wb.heap[w.heap.size]? = some (.deferred (some [])) := by
        rw [← hWb]
        exact (World.putObj_heap_other (by omega)).trans hdef
      have kb : Kp W Wb := by
        rw [← hWb]
        exact hKb W _ _ (by omega) hlt
      refine wpIn_mono (show body.wpIn (Fence.wide.inRound (w.heap.size + 1)) 1 P (roundsPost w.heap.size Kp (I (k + 1)) Wb) (a₁ k) _ from ?_) ?_
      · have := hbody (w.heap.size + 1) k Wb hk hib
        rw [← hWb] at this ⊢
        exact this
      · rintro e a3 W3 hp
        cases e with
        | normal =>
          obtain ⟨kf, kp, hi3⟩ := hp
          have r3 := kf.same _ _ (by omega) rb rfl
          have hlt3 := (Array.getElem?_eq_some_iff.1 r3).1
          have d3 := kf.same _ _ (Nat.le_refl _) db rfl
          refine ⟨_, _, run_endRound none r3, rfl, ⟨hI.putObj _ hi3 (by omega) r3 rfl, ?_, ?_⟩, hKt (hKt kb kp) (hKb _ _ _ (by omega) hlt3)⟩
          · exact World.putObj_heap_same hlt3
          · exact (World.putObj_heap_other (by omega)).trans d3
        | _ => exact (hp : False).elim
    · rintro e W2 ⟨⟨v, rfl⟩, hi, hrec, hdef⟩
      refine ⟨none, _, run_endLoop hrec (by show LoopState.ready ≠ .busy; intro h; cases h), ?_⟩
      exact hdone _ _ (Nat.le_refl _) (hI.putObj _ hi (by omega) hrec rfl) ((World.putObj_heap_other (by omega)).trans hdef)
end Go.Proofs.Ytfldheegebopoaa

namespace Go.Proofs.Ytfldheegebopoaa
open Go.RowKit

/-- All that a step turns is what one block holds. -/
structure Only (br : Nat) (w w' : World) : Prop where
  os : w'.os = w.os
  tape : w'.tape = w.tape
  output : w'.output = w.output
  size : w'.heap.size = w.heap.size
  block : ∀ k, k ≠ br → w'.heap[k]? = w.heap[k]?
theorem Only.refl (br : Nat) (w : World) : Only br w w := ⟨rfl, rfl, rfl, rfl, fun _ _ => rfl⟩
theorem Only.drewN {br : Nat} {w wr : World} (h : Only br w wr) (q : Nat) : Only br w (wr.drewN q) := ⟨h.os, h.tape, h.output, h.size, h.block⟩
theorem Only.setCell {br : Nat} {w wr : World} (h : Only br w wr) (i : Nat) (u : Value) : Only br w (wr.setCell ⟨br, i, none⟩ u) :=
  ⟨h.os, h.tape, h.output, by simpa [World.setCell] using h.size, fun k hk => (Below.heap_setCell _ _ _ _ hk).trans (h.block k hk)⟩
theorem Only.below {br n₀ : Nat} {w w' : World} (h : Only br w w') (hn : n₀ ≤ br) : Below n₀ w w' := ⟨h.os, h.tape, h.output, Nat.le_of_eq h.size.symm, fun k hk => h.block k (by omega)⟩

def mixL (f z : Nat → Value) (N K : Nat) : List Value := (List.range N).map fun k => if K ≤ k then f k else z k
theorem mixL_length (f z : Nat → Value) (N K : Nat) : (mixL f z N K).length = N := by simp [mixL]
theorem mixL_at {f z : Nat → Value} {N K k : Nat} (h : k < N) (hK : K ≤ k) : (mixL f z N K)[k]? = some (f k) := by simp [mixL, h, hK]
theorem mixL_lo {f z : Nat → Value} {N K k : Nat} (h : k < N) (hK : k < K) : (mixL f z N K)[k]? = some (z k) := by
  simp [mixL, h]
  omega
theorem mixL_set (f z : Nat → Value) (N K : Nat) (h : K < N) : (mixL f z N (K + 1)).set K (f K) = mixL f z N K := by
  apply List.ext_getElem
  · simp [mixL]
  · intro i h1 h2
    have hi : i < N := by simpa [mixL] using h2
    by_cases e : i = K
    · subst e
      simp [mixL]
    · rw [List.getElem_set_ne (fun h => e h.symm)]
      simp only [mixL, List.getElem_map, List.getElem_range]
      by_cases h3 : K ≤ i
      · rw [if_pos h3, if_pos (by omega)]
      · rw [if_neg h3, if_neg (by omega)]
theorem mixL_last (f z : Nat → Value) (N : Nat) (h : f N = z N) : (List.range (N + 1)).map z = mixL f z (N + 1) N := by
  apply List.ext_getElem
  · simp [mixL]
  · intro i h1 h2
    have hi : i < N + 1 := by simpa [mixL] using h2
    simp only [mixL, List.getElem_map, List.getElem_range]
    by_cases h3 : N ≤ i
    · rw [if_pos h3, show i = N by omega, h]
    · rw [if_neg h3]
theorem mixL_all (f z : Nat → Value) (N : Nat) : mixL f z N 0 = (List.range N).map f := by simp [mixL]

/-- a row of numbers -/
def rowL (q : IntKind) (g : Nat → Nat) (N : Nat) : List Value := (List.range N).map fun k => .int q (g k : Nat)
theorem rowL_at {q : IntKind} {g : Nat → Nat} {N k : Nat} (h : k < N) : (rowL q g N)[k]? = some (.int q (g k : Nat)) := by simp [rowL, h]
theorem rowL_zero (q : IntKind) (N : Nat) : List.replicate N (Value.int q 0) = rowL q (fun _ => 0) N := by
  apply List.ext_getElem
  · simp [rowL]
  · intro i h1 h2
    simp [rowL]
/-- what a line and all behind it have in common with the rests of another list, out of what all behind it has -/
structure Steps (x : List UInt8) (b : List (List UInt8)) (g h : Nat → Nat) : Prop where
  last : g b.length = 0
  same : ∀ k, b[k]? = some x → g k = h (k + 1) + 1
  other : ∀ k y, b[k]? = some y → x ≠ y → g k = max (h k) (g (k + 1))
theorem steps_lcs (x : List UInt8) (a b : List (List UInt8)) : Steps x b (fun k => lcs (x :: a) (b.drop k)) (fun k => lcs a (b.drop k)) := by
  refine ⟨by simp [lcs_nil_right], fun k hk => ?_, fun k y hk hne => ?_⟩
  · obtain ⟨q2, e2⟩ := List.getElem?_eq_some_iff.1 hk
    show lcs (x :: a) (b.drop k) = lcs a (b.drop (k + 1)) + 1
    rw [List.drop_eq_getElem_cons q2, e2, lcs_cons_eq]
  · obtain ⟨q2, e2⟩ := List.getElem?_eq_some_iff.1 hk
    show lcs (x :: a) (b.drop k) = max (lcs a (b.drop k)) (lcs (x :: a) (b.drop (k + 1)))
    rw [List.drop_eq_getElem_cons q2, e2, lcs_cons_ne hne]

section
set_option maxRecDepth 100000
set_option maxHeartbeats 4000000
structure FillUp16 (br m : Nat) (g z : Nat → Nat) (K : Nat) (w wr : World) : Prop where
  only : Only br w wr
  cur : wr.heap[br]? = some (.cells (mixL (fun k => .int .u16 (g k : Nat)) (fun k => .int .u16 (z k : Nat)) (m + 1) K).toArray 117 (0, 0))
theorem FillUp16.put {br m : Nat} {g z : Nat → Nat} {K : Nat} {w wr w1 : World} (h : FillUp16 br m g z (K + 1) w wr) (hK : K < m + 1) (hd : ∃ q, w1 = wr.drewN q) (u : Value) (hu : u = .int .u16 (g K : Nat)) : FillUp16 br m g z K w (w1.setCell ⟨br, K, none⟩ u) := by
  subst hu
  obtain ⟨q, rfl⟩ := hd
  refine ⟨(h.only.drewN q).setCell _ _, ?_⟩
  have := blk_set (i := K) (u := .int .u16 (g K : Nat)) (show (wr.drewN q).heap[_]? = _ from h.cur)
  rw [List.setIfInBounds_toArray, mixL_set (fun k => .int .u16 (g k : Nat)) _ _ _ hK] at this
  exact this
theorem fill16_any (w0 : World) (br bb m : Nat) (x : List UInt8) (vb : Value) (b : List (List UInt8)) (g h z : Nat → Nat) (w : World) (hm : b.length = m) (hbl : m ≤ 1000000) (hb : Sl w0 vb (strCells b)) (hbel : Below w0.heap.size w0 w) (hlo : w0.heap.size ≤ br) (hne : bb ≠ br)
    (hrow : w.heap[br]? = some (.cells (rowL .u16 z (m + 1)).toArray 117 (0, 0))) (hz : z m = 0) (hbeh : w.heap[bb]? = some (.cells (rowL .u16 h (m + 1)).toArray 117 (0, 0)))
    (hst : Steps x b g h) (hh : ∀ k, h k ≤ 65000) (hg : ∀ k, g k ≤ 65000) :
    Calls Try.prog 76 #[.slice (some ⟨br, 0, none⟩) (m + 1) (m + 1), .slice (some ⟨bb, 0, none⟩) (m + 1) (m + 1), .string ⟨x.toArray⟩, vb] w fun e w' => (∃ v, e = .returned v) ∧ Only br w w' ∧ w'.heap[br]? = some (.cells (rowL .u16 g (m + 1)).toArray 117 (0, 0)) := by
  obtain ⟨ab, cb, rfl⟩ := hb.form
  rw [strCells_length, hm] at hb ⊢
  obtain ⟨m1, hm1⟩ : ∃ m1, m + 1 = m1 := ⟨_, rfl⟩
  have h0 : FillUp16 br m g z m w w := by
    refine ⟨Only.refl _ _, ?_⟩
    rw [← mixL_last _ _ _ (show Value.int .u16 (g m : Nat) = .int .u16 (z m : Nat) by rw [hz, ← hm, hst.last])]
    exact hrow
  have HF0 := hid h0
  have HST := hid hst
  have HH := hid hh
  have HG := hid hg
  have HML := hid hm
  have HM1 := hid hm1
  have HB := hid hbeh
  have m0 : (0 : Int) ≤ (m : Int) := Int.natCast_nonneg _
  have mw : IntKind.i64.wrap ((m : Int) - 1) = (m : Int) - 1 := IntWalk.i64_in _ (by omega)
  rw [hm1]
  clear h0 hst hh hg hm hm1 hrow hbeh hz
  go_enter Try.func76, Try.ntmps76
  go_wp2_with fail
  go_loopg [8] m (fun g' k wr => ∃ K : Nat, K ≤ m ∧ K = g' ∧ k = .int .i64 ((K : Int) - 1) ∧ Hid (FillUp16 br m g z K w wr))
  case atStart => exact ⟨m, Nat.le_refl _, rfl, rfl, HF0⟩
  case round =>
    obtain ⟨K, hK, rfl, rfl, HU⟩ := hrel
    by_cases hK0 : K = 0
    · subst hK0
      have hneg : ¬ (0 : Int) ≤ ((0 : Nat) : Int) - 1 := by omega
      go_wp2
      go_end0
      refine ⟨⟨_, rfl⟩, HU.out.only, ?_⟩
      have := HU.out.cur
      rw [mixL_all, HM1.out] at this
      exact this
    · obtain ⟨k, rfl⟩ : ∃ k, K = k + 1 := ⟨K - 1, by omega⟩
      rw [show ((k + 1 : Nat) : Int) - 1 = (k : Int) by omega]
      have k0 : (0 : Int) ≤ (k : Int) := Int.natCast_nonneg _
      have kw : IntKind.i64.wrap ((k : Int) - 1) = (k : Int) - 1 := IntWalk.i64_in _ (by omega)
      have hkm : k < m := by omega
      obtain ⟨a2, y, rfl, hcy, hy⟩ := (Sl.old hb (hbel.trans (HU.out.only.below hlo))).strAt' (i := k) (by rw [HML.out]; exact hkm)
      have km1 : (k : Int) < (m : Int) := by omega
      obtain ⟨k2, hk2'⟩ : ∃ k2, k + 1 = k2 := ⟨_, rfl⟩
      have kw2 : IntKind.i64.wrap ((k : Int) + 1) = (k2 : Int) := (IntWalk.i64_in _ (by omega)).trans (by omega)
      have hrow := (HU.out.only.block bb hne).trans HB.out
      have hcur := HU.out.cur
      have cr0 := blk_cell (i := k) hrow (by rw [List.getElem?_toArray]; exact rowL_at (by omega))
      have cr1 := blk_cell (i := k2) hrow (by rw [List.getElem?_toArray]; exact rowL_at (by omega))
      have cc1 := blk_cell (i := k2) hcur (by rw [List.getElem?_toArray]; exact mixL_at (by omega) (by omega))
      have cc0 := blk_cell (i := k) hcur (by rw [List.getElem?_toArray]; exact mixL_lo (by omega) (by omega))
      have zc0 := blk_free (i := k) hcur
      have hm1 : (k2 : Int) < (m1 : Int) := by have := HM1.out; omega
      have hm2 : (k : Int) < (m1 : Int) := by have := HM1.out; omega
      have k20 : (0 : Int) ≤ (k2 : Int) := Int.natCast_nonneg _
      by_cases hxy : x = y
      · subst hxy
        have hbe : (x == x) = true := by simp
        have hfe := HST.out.same k hy
        have hfm := HH.out (k + 1)
        rw [hk2'] at hfe hfm
        obtain ⟨V, hV⟩ : ∃ V, h k2 = V := ⟨_, rfl⟩
        rw [hV] at hfe hfm cr1
        have HFE2 := hid hfe
        have HK2 := hid hk2'
        have vw : IntKind.u16.wrap ((V : Int) + 1) = (V : Int) + 1 := IntWalk.u16_in _ (by omega)
        clear hfe hV hrow hcur hk2' hy cr0 cc1
        go_wp2_with fail
        have R := HU.out.put (by omega) ⟨0, rfl⟩ (.int .u16 ((V : Int) + 1)) (by rw [HFE2.out]; rfl)
        go_roundg k
        case measure => omega
        case rel => exact ⟨k, by omega, rfl, rfl, hid R⟩
      · have hbe : (x == y) = false := by simpa using hxy
        have hfe := HST.out.other k y hy hxy
        have hfm0 := HH.out k
        have hfm1 := HG.out (k + 1)
        rw [hk2'] at hfe hfm1
        obtain ⟨V0, hV0⟩ : ∃ V, h k = V := ⟨_, rfl⟩
        obtain ⟨V1, hV1⟩ : ∃ V, g k2 = V := ⟨_, rfl⟩
        rw [hV0, hV1] at hfe
        rw [hV0] at hfm0 cr0
        rw [hV1] at hfm1 cc1
        have HFE2 := hid hfe
        clear hfe hV0 hV1 hrow hcur hk2' hy cr1 hxy
        go_wp2_with fail
        refine wp_region_still_tail 13 (by kernel_rfl) (by kernel_rfl) ?_
        simp only [List.take_succ_cons, List.take_zero, List.drop_succ_cons, List.drop_zero]
        have e2 : (wr).drew.cell? ⟨bb, k, none⟩ = _ := cr0
        have e5 : (wr).drew.cell? ⟨br, k2, none⟩ = _ := cc1
        have e3 : (wr).drew.cell? ⟨br, k, none⟩ = _ := cc0
        have e4 : (wr).drew.frozen? ⟨br, k, none⟩ = false := zc0
        have HQ := hid (show ∃ q, (wr).drew = wr.drewN q from ⟨1, rfl⟩)
        change wpStill _ _ (World.drew wr) (fun a' => wpList _ _ _ _ a' (World.drew wr)) _ _
        clear cr0 cc0 cc1 zc0 hcy
        generalize (wr).drew = w5 at e2 e3 e4 e5 HQ ⊢
        repeat still_step
        try refine wpStill_nil ?_
        go_wp2_with fail
        · rename_i hmx
          have R := HU.out.put (by omega) HQ.out (.int .u16 (V1 : Int)) (by rw [HFE2.out, Nat.max_eq_right (by omega)])
          go_roundg k
          case measure => omega
          case rel => exact ⟨k, by omega, rfl, rfl, hid R⟩
        · rename_i hmx
          have R := HU.out.put (by omega) HQ.out (.int .u16 (V0 : Int)) (by rw [HFE2.out, Nat.max_eq_left (by omega)])
          go_roundg k
          case measure => omega
          case rel => exact ⟨k, by omega, rfl, rfl, hid R⟩
end

end Go.Proofs.Ytfldheegebopoaa

namespace Go.Proofs.Ytfldheegebopoaa
open Go.RowKit

attribute [local go_sem] Oper.semAt_some

/-- What a round keeps: what lay below n₀, and the block Bs. -/
def KpB (n₀ Bs : Nat) (A B : World) : Prop := Below n₀ A B ∧ B.heap[Bs]? = A.heap[Bs]?
theorem KpB.refl (n₀ Bs : Nat) (A : World) : KpB n₀ Bs A A := ⟨Below.refl _ _, rfl⟩
theorem KpB.trans {n₀ Bs : Nat} {A B C : World} (h : KpB n₀ Bs A B) (k : KpB n₀ Bs B C) : KpB n₀ Bs A C := ⟨h.1.trans k.1, k.2.trans h.2⟩
theorem KpB.put {n₀ Bs l : Nat} (W : World) (o : Obj) (h1 : n₀ ≤ l) (h2 : Bs ≠ l) (hl : l < W.heap.size) : KpB n₀ Bs W (W.putObj l o) :=
  ⟨(Below.refl n₀ W).grown (grownBy_putObj' W l o) (by omega) (fun k e => by cases e; omega), World.putObj_heap_other h2⟩

section
set_option maxRecDepth 100000
set_option maxHeartbeats 2000000
theorem Back_any (ao : Option Addr) (n cap : Nat) (w : World) :
    Calls Try.prog 75 #[.slice ao n cap] w fun e w' => e = .returned (.func (.func 77) #[] #[.pointer (some ⟨w.heap.size, 0, none⟩)]) ∧ w' = w.alloc (.cells #[.slice ao n cap] 32) := by
  go_enter Try.func75, Try.ntmps75
  go_wp2
  go_ret
  exact ⟨rfl, rfl⟩

/-- what the k-th round is handed -/
def backEnc (a : List (List UInt8)) (k : Nat) : Array Value := #[.int .i64 ((a.length - 1 - k : Nat) : Int), .string ⟨(a[a.length - 1 - k]?.getD []).toArray⟩]
theorem back_rounds (w1 w : World) (Bs : Nat) (va : Value) (a : List (List UInt8)) (ha : Sl w1 va (strCells a)) (hb : Below w1.heap.size w1 w) (hBs : w.cell? ⟨Bs, 0, none⟩ = some va) (hn : a.length ≤ 1000000) :
    Rounds Try.prog 77 #[.pointer (some ⟨Bs, 0, none⟩)] a.length (backEnc a) (KpB w1.heap.size Bs) w := fun l J W hW hY h0 => by
  obtain ⟨ao, cap, rfl⟩ := ha.form
  rw [strCells_length] at ha hBs
  obtain ⟨n, hn'⟩ : ∃ n, a.length = n := ⟨_, rfl⟩
  rw [hn'] at ha hBs hn hY ⊢
  have HA := hid hn'
  have hBlt : Bs < w.heap.size := World.block_lt_of_cell? w _ hBs
  have hB1 : W.cell? ⟨Bs, 0, none⟩ = _ := (hW.cell (p := ⟨Bs, 0, none⟩) hBlt).trans hBs
  have HW1 := hid (hb.trans (hW.mono hb.size) : Below w1.heap.size w1 W)
  have HY := hid hY
  have n0 : (0 : Int) ≤ (n : Int) := Int.natCast_nonneg _
  have nw : IntKind.i64.wrap ((n : Int) - 1) = (n : Int) - 1 := IntWalk.i64_in _ (by omega)
  clear hY hn' hBs hW hb
  refine callsIn_of_wp Try.func77 rfl trivial ?_ rfl
  simp only [Try.ntmps77, List.size_toArray, List.length_cons, List.length_nil, Nat.reduceAdd, Nat.reduceSub, Array.replicate_succ, Array.replicate_zero, List.push_toArray, List.append_toArray, List.nil_append, List.cons_append]
  gi_wp2
  gi_loopw [3] (fun i wr => ∃ k : Nat, k ≤ n ∧ i = .int .i64 ((n : Int) - 1 - (k : Int)) ∧ Hid (J k wr) ∧ Hid (KpB w1.heap.size Bs W wr)) (fun i _ => (intOf i + 1).toNat)
  case atStart => exact ⟨0, Nat.zero_le _, by simp, hid h0, hid (KpB.refl _ _ _)⟩
  case round =>
    obtain ⟨k, hk, rfl, HJ, HK⟩ := hrel
    by_cases hlt : k < n
    · obtain ⟨j, hj⟩ : ∃ j, n - 1 - k = j := ⟨_, rfl⟩
      rw [show (n : Int) - 1 - (k : Int) = (j : Int) by omega]
      obtain ⟨fn, tmps, assign, body, hy, hR⟩ := HY.out k wr hlt HJ.out
      obtain ⟨a1, x, rfl, hcx, hx⟩ := (Sl.old ha (HW1.out.trans HK.out.1)).strAt' (i := j) (by rw [HA.out]; omega)
      rw [backEnc, HA.out, hj, hx, Option.getD_some] at hy
      have hB2 : wr.cell? ⟨Bs, 0, none⟩ = _ := (World.cell?_of_block (w := W) HK.out.2).trans hB1
      have j0 : (0 : Int) ≤ (j : Int) := Int.natCast_nonneg _
      have j1 : (j : Int) < (n : Int) := by omega
      have jw : IntKind.i64.wrap ((j : Int) - 1) = (j : Int) - 1 := IntWalk.i64_in _ (by omega)
      have HJ1 := hid hj
      have HR := hid hR
      clear hj hx hR
      gi_wp2
      refine HR.out.mono ?_
      rintro e W3 ⟨rfl, hJ3, hk3⟩
      have HJ3 := hid hJ3
      have HK3 := hid (HK.out.trans hk3)
      clear hJ3 hk3
      gi_wp2
      go_roundw
      case rel => exact ⟨k + 1, by omega, by have := HJ1.out; congr 1; omega, HJ3, HK3⟩
      case measure => simp [intOf]
    · obtain rfl : k = n := by omega
      have hneg : ¬ (0 : Int) ≤ (k : Int) - 1 - (k : Int) := by omega
      gi_wp2
      go_end0
      exact ⟨⟨_, rfl⟩, HJ.out⟩
end
end Go.Proofs.Ytfldheegebopoaa

namespace Go.Proofs.Ytfldheegebopoaa
open Go.RowKit

section
set_option maxRecDepth 100000
set_option maxHeartbeats 4000000
theorem DAlike_any (va vb : Value) (a b : List (List UInt8)) (w : World) (ha : Sl w va (strCells a)) (hb : Sl w vb (strCells b)) (hal : a.length ≤ 1000000) :
    Calls Try.prog 69 #[va, vb] w fun e w' => ∃ k : Nat, e = .returned (.int .i64 k) ∧ (k ≤ a.length ∧ k ≤ b.length ∧ a.take k = b.take k ∧ ∀ x y, a[k]? = some x → b[k]? = some y → x ≠ y) ∧ Below w.heap.size w w' := by
  obtain ⟨aa, ca, rfl⟩ := ha.form
  obtain ⟨ab, cb, rfl⟩ := hb.form
  rw [strCells_length] at ha hb ⊢
  rw [strCells_length]
  go_enter Try.func69, Try.ntmps69
  go_wp2_with fail
  go_loopg [5] a.length (fun g n wr => ∃ k : Nat, k ≤ a.length ∧ k ≤ b.length ∧ g = a.length - k ∧ n = .int .i64 k ∧ Hid (a.take k = b.take k) ∧ Below w.heap.size w wr)
  case atStart => exact ⟨0, Nat.zero_le _, Nat.zero_le _, rfl, rfl, hid rfl, Below.refl _ _⟩
  case round =>
    obtain ⟨k, hka, hkb, rfl, rfl, HE, hbel⟩ := hrel
    have hz := hbel.size
    have k0 : (0 : Int) ≤ (k : Int) := Int.natCast_nonneg _
    have kw : IntKind.i64.wrap ((k : Int) + 1) = (k : Int) + 1 := IntWalk.i64_in _ (by omega)
    by_cases h1 : k < a.length
    · have h1' : (k : Int) < (a.length : Int) := by omega
      by_cases h2 : k < b.length
      · have h2' : (k : Int) < (b.length : Int) := by omega
        obtain ⟨a1, x, rfl, hcx, hx⟩ := (Sl.old ha hbel).strAt' (i := k) h1
        obtain ⟨a2, y, rfl, hcy, hy⟩ := (Sl.old hb hbel).strAt' (i := k) h2
        by_cases hxy : x = y
        · subst hxy
          have hbe : (x == x) = true := by simp
          have HE' := hid (take_one_more HE.out hx hy)
          clear hx hy
          go_wp2_with fail
          go_quiet (fail)
          go_wp2_with fail
          go_roundg (a.length - (k + 1))
          case measure => omega
          case rel => exact ⟨k + 1, by omega, by omega, rfl, rfl, HE', below_step hbel (below_drewN _ _) hz⟩
        · have hbe : (x == y) = false := by simpa using hxy
          have HM := hid (show ∀ x y, a[k]? = some x → b[k]? = some y → x ≠ y from fun x' y' q1 q2 => by
            rw [hx] at q1
            rw [hy] at q2
            cases q1
            cases q2
            exact hxy)
          clear hx hy
          go_wp2_with fail
          go_quiet (fail)
          go_wp2_with fail
          go_ret
          exact ⟨k, rfl, ⟨hka, hkb, HE.out, HM.out⟩, below_step hbel (below_drewN _ _) hz⟩
      · have hn2 : ¬ (k : Int) < (b.length : Int) := by omega
        go_wp2_with fail
        go_quiet (fail)
        go_wp2_with fail
        go_ret
        exact ⟨k, rfl, ⟨hka, hkb, HE.out, fun x y _ q => absurd (List.getElem?_eq_some_iff.1 q).1 h2⟩, below_step hbel (below_drewN _ _) hz⟩
    · have hn1 : ¬ (k : Int) < (a.length : Int) := by omega
      go_wp2_with fail
      go_quiet (fail)
      go_wp2_with fail
      go_ret
      exact ⟨k, rfl, ⟨hka, hkb, HE.out, fun x y q _ => absurd (List.getElem?_eq_some_iff.1 q).1 h1⟩, below_step hbel (below_drewN _ _) hz⟩

/-- l, which the call may write, with an edit of that kind for each of xs behind it -/
theorem DAdd_any (w0 : World) (l vs : Value) (es : List (Int × List UInt8)) (kind : Int) (xs : List (List UInt8)) (w : World) (hO : OwnE w w0.heap.size l es) (hs : Sl w0 vs (strCells xs)) (hb : Below w0.heap.size w0 w) (hlen : es.length + xs.length ≤ 4000000)
    (B Z : Nat) (wA : World) (hZ : Z ≤ w.heap.size) (hA : Aside B Z wA w l) :
    Calls Try.prog 70 #[l, .int .i64 kind, vs] w fun e w' => ∃ l', e = .returned l' ∧ OwnE w' w0.heap.size l' (es ++ xs.map fun x => (kind, x)) ∧ Below w0.heap.size w0 w' ∧ w.heap.size ≤ w'.heap.size ∧ Aside B Z wA w' l' := by
  obtain ⟨ao, cap, rfl⟩ := hs.form
  rw [strCells_length] at hs ⊢
  have hw := hb.size
  go_enter Try.func70, Try.ntmps70
  go_wp2_with fail
  go_loopg [0, 11] xs.length (fun g l i wr => ∃ k : Nat, k ≤ xs.length ∧ g = xs.length - k ∧ i = .int .i64 k ∧ Hid (OwnE wr w0.heap.size l (es ++ (xs.take k).map fun x => (kind, x))) ∧ Below w0.heap.size w0 wr ∧ w.heap.size ≤ wr.heap.size ∧ Hid (Aside B Z wA wr l))
  case atStart => exact ⟨0, Nat.zero_le _, rfl, rfl, hid (by simpa using hO), hb, Nat.le_refl _, hid hA⟩
  case round =>
    obtain ⟨k, hk, rfl, rfl, HO, hbel, hz, HA⟩ := hrel
    have k0 : (0 : Int) ≤ (k : Int) := Int.natCast_nonneg _
    by_cases hlt : k < xs.length
    · have k1 : (k : Int) < (xs.length : Int) := by omega
      have kw : IntKind.i64.wrap ((k : Int) + 1) = (k : Int) + 1 := IntWalk.i64_in _ (by omega)
      obtain ⟨a1, x, rfl, hcx, hx⟩ := (Sl.old hs hbel).strAt' (i := k) hlt
      have HS := hid (show (es ++ (xs.take k).map fun x => (kind, x)) ++ [(kind, x)] = es ++ (xs.take (k + 1)).map fun x => (kind, x) by
        rw [take_snoc hx, List.map_append, List.append_assoc]
        rfl)
      have hl4 : (es ++ (xs.take k).map fun x => (kind, x)).length ≤ 4000000 := by rw [List.length_append, List.length_map, List.length_take]; omega
      obtain ⟨E, hE⟩ : ∃ E, (es ++ (xs.take k).map fun x => (kind, x)) = E := ⟨_, rfl⟩
      rw [hE] at HO HS hl4
      have HL4 := hid hl4
      have hbase : w0.heap.size ≤ wr.heap.size := hbel.size
      clear hx hE hl4
      go_wp2_with (refine wpList_append_ed2 rfl 15 19 rfl w0.heap.size _ _ kind x rfl HO.out rfl HL4.out hbase B Z wA (by omega) HA.out ?_; intro v5 w5 hown5 hb5 hA5)
      have HO' := hid (show OwnE w5 w0.heap.size v5 (es ++ (xs.take (k + 1)).map fun x => (kind, x)) by
        rw [← HS.out]
        exact hown5)
      have HA' := hid hA5
      have hb6 := hbel.trans hb5
      have hs6 := hb5.size
      clear hown5 hA5 hb5
      go_roundg (xs.length - (k + 1))
      case measure => omega
      case rel => exact ⟨k + 1, by omega, rfl, rfl, HO', hb6, by omega, HA'⟩
    · obtain rfl : k = xs.length := by omega
      have hneg : ¬ (xs.length : Int) < (xs.length : Int) := by omega
      go_wp2_with fail
      go_ret
      have := HO.out
      rw [List.take_length] at this
      exact ⟨_, rfl, this, hbel, hz, HA.out⟩
end
end Go.Proofs.Ytfldheegebopoaa

namespace Go.Proofs.Ytfldheegebopoaa
open Go.RowKit

attribute [local go_sem] Oper.semAt_some

/-- What a table shows: of each two places a number of that kind. Its blocks are new ones. -/
def TabQ (q : IntKind) (w : World) (base : Nat) (t : Value) (n m : Nat) (f : Nat → Nat → Nat) : Prop :=
  ∃ g, base ≤ g ∧ t = .slice (some ⟨g, 0, none⟩) (n + 1) (n + 1) ∧ ∀ i, i ≤ n → ∃ r, base ≤ r ∧ w.cell? ⟨g, i, none⟩ = some (.slice (some ⟨r, 0, none⟩) (m + 1) (m + 1)) ∧ ∀ k, k ≤ m → w.cell? ⟨r, k, none⟩ = some (.int q (f i k : Nat))
theorem TabQ.old {q : IntKind} {w w' : World} {base : Nat} {t : Value} {n m : Nat} {f : Nat → Nat → Nat} (h : TabQ q w base t n m f) (hk : ∀ b, base ≤ b → b < w.heap.size → w'.heap[b]? = w.heap[b]?) : TabQ q w' base t n m f := by
  obtain ⟨g, hg, rfl, h1⟩ := h
  refine ⟨g, hg, rfl, fun i hi => ?_⟩
  obtain ⟨r, hr, h2, h3⟩ := h1 i hi
  refine ⟨r, hr, (World.cell?_of_block (w := w) (hk _ hg (World.block_lt_of_cell? w _ h2))).trans h2, fun k hkm => ?_⟩
  exact (World.cell?_of_block (w := w) (hk _ hr (World.block_lt_of_cell? w _ (h3 k hkm)))).trans (h3 k hkm)

/-- .. while it is built: the rows from K on are laid, those from L on are filled. -/
structure TabR (w W : World) (vB : Value) (n m g p K L : Nat) (R : Nat → Nat) (f : Nat → Nat → Nat) : Prop where
  box : W.heap[w.heap.size]? = some (.cells #[vB] 32 (0, 0))
  bp : W.heap[p]? = some (.cells #[.slice (some ⟨g, 0, none⟩) (n + 1) (n + 1)] 115 (0, 0))
  top : W.heap[g]? = some (.cells (mixL (fun j => .slice (some ⟨R j, 0, none⟩) (m + 1) (m + 1)) (fun _ => .slice none 0 0) (n + 1) K).toArray 118 (0, 0))
  rows : ∀ j, L ≤ j → j ≤ n → W.heap[R j]? = some (.cells (rowL .u16 (f j) (m + 1)).toArray 117 (0, 0))
  far : w.heap.size < g ∧ g < p ∧ ∀ j, L ≤ j → j ≤ n → p < R j
  below : Below w.heap.size w W
theorem TabR.tab {w W : World} {vB : Value} {n m g p : Nat} {R : Nat → Nat} {f : Nat → Nat → Nat} (h : TabR w W vB n m g p 0 0 R f) : TabQ .u16 W w.heap.size (.slice (some ⟨g, 0, none⟩) (n + 1) (n + 1)) n m f := by
  obtain ⟨h1, h2, h3⟩ := h.far
  refine ⟨g, by omega, rfl, fun i hi => ⟨R i, by have := h3 i (Nat.zero_le _) hi; omega, blk_cell h.top ?_, fun k hk => blk_cell (h.rows i (Nat.zero_le _) hi) ?_⟩⟩
  · rw [List.getElem?_toArray, mixL_at (by omega) (Nat.zero_le _)]
  · rw [List.getElem?_toArray, rowL_at (by omega)]
/-- the next row is laid -/
theorem TabR.row {w W W1 : World} {vB : Value} {n m g p i : Nat} {R : Nat → Nat} {f : Nat → Nat → Nat} (h : TabR w W vB n m g p (i + 1) (i + 1) R f) (hi : i ≤ n)
    (hw : W1 = ((W.setCell ⟨g, i, none⟩ (.slice (some ⟨W.heap.size, 0, none⟩) (m + 1) (m + 1))).alloc (.cells (List.replicate (m + 1) (Value.int .u16 0)).toArray 117)).drew) :
    TabR w W1 vB n m g p i (i + 1) (fun j => if j = i then W.heap.size else R j) f ∧ W1.heap[W.heap.size]? = some (.cells (rowL .u16 (fun _ => 0) (m + 1)).toArray 117 (0, 0)) := by
  obtain ⟨h1, h2, h3⟩ := h.far
  have lg := lt_of_block h.top
  have lp := lt_of_block h.bp
  have ls := h.below.size
  have hss : (W.setCell ⟨g, i, none⟩ (.slice (some ⟨W.heap.size, 0, none⟩) (m + 1) (m + 1))).heap.size = W.heap.size := by simp [World.setCell]
  have hne : ∀ b, b ≠ g → b < W.heap.size → W1.heap[b]? = W.heap[b]? := fun b hb hl => by
    rw [hw]
    exact (Below.heap_alloc _ _ b (by rw [hss]; exact hl)).trans (Below.heap_setCell _ _ _ _ hb)
  refine ⟨⟨?_, ?_, ?_, fun j h4 h5 => ?_, ⟨h1, h2, fun j h4 h5 => ?_⟩, ?_⟩, ?_⟩
  · rw [hne _ (by omega) (by omega)]
    exact h.box
  · rw [hne _ (by omega) (by omega)]
    exact h.bp
  · have := blk_set (i := i) (u := .slice (some ⟨W.heap.size, 0, none⟩) (m + 1) (m + 1)) h.top
    rw [hw]
    refine ((Below.heap_alloc _ _ g (by rw [hss]; exact lg)).trans this).trans ?_
    rw [List.setIfInBounds_toArray]
    congr 3
    have e := mixL_set (fun j => Value.slice (some ⟨if j = i then W.heap.size else R j, 0, none⟩) (m + 1) (m + 1)) (fun _ => .slice none 0 0) (n + 1) i (by omega)
    rw [if_pos rfl] at e
    rw [← e]
    congr 1
    apply List.ext_getElem
    · simp [mixL]
    · intro q q1 q2
      simp only [mixL, List.getElem_map, List.getElem_range]
      by_cases hq : i + 1 ≤ q
      · rw [if_pos hq, if_pos hq, if_neg (by omega)]
      · rw [if_neg hq, if_neg hq]
  · have lr := lt_of_block (h.rows j h4 h5)
    have := h3 j h4 h5
    rw [if_neg (by omega), hne _ (by omega) lr]
    exact h.rows j h4 h5
  · rw [if_neg (by omega)]
    exact h3 j h4 h5
  · rw [hw]
    exact ((h.below.setCell (by show w.heap.size ≤ g; omega) _).alloc (by rw [hss]; exact ls) _).trans (show Below w.heap.size _ _ from ⟨rfl, rfl, rfl, Nat.le_refl _, fun _ _ => rfl⟩)
  · rw [hw, ← rowL_zero]
    have := World.alloc_heap_new (W.setCell ⟨g, i, none⟩ (.slice (some ⟨W.heap.size, 0, none⟩) (m + 1) (m + 1))) (.cells (List.replicate (m + 1) (Value.int .u16 0)).toArray 117)
    rw [hss] at this
    exact this
theorem TabR.row2 {w W W1 : World} {vB : Value} {n m m1 g p i : Nat} {R : Nat → Nat} {f : Nat → Nat → Nat} {Z : Array Value} (h : TabR w W vB n m g p (i + 1) (i + 1) R f) (hi : i ≤ n) (hm : m + 1 = m1) (hZ : (List.replicate m1 (Value.int .u16 0)).toArray = Z)
    (hw : W1 = ((W.setCell ⟨g, i, none⟩ (.slice (some ⟨W.heap.size, 0, none⟩) m1 m1)).alloc (.cells Z 117)).drew) :
    TabR w W1 vB n m g p i (i + 1) (fun j => if j = i then W.heap.size else R j) f ∧ W1.heap[W.heap.size]? = some (.cells (rowL .u16 (fun _ => 0) (m + 1)).toArray 117 (0, 0)) := by
  subst hm
  subst hZ
  exact h.row hi hw
/-- .. and filled -/
theorem TabR.fill {w W W2 : World} {vB : Value} {n m g p i r : Nat} {R : Nat → Nat} {f : Nat → Nat → Nat} (h : TabR w W vB n m g p i (i + 1) R f) (hr : R i = r) (hne : ∀ j, i + 1 ≤ j → j ≤ n → R j ≠ r) (hp : p < r) (hO : Only r W W2) (hrow : W2.heap[r]? = some (.cells (rowL .u16 (f i) (m + 1)).toArray 117 (0, 0))) :
    TabR w W2 vB n m g p i i R f := by
  obtain ⟨h1, h2, h3⟩ := h.far
  refine ⟨?_, ?_, ?_, fun j h4 h5 => ?_, ⟨h1, h2, fun j h4 h5 => ?_⟩, h.below.trans (hO.below (by omega))⟩
  · rw [hO.block _ (by omega)]
    exact h.box
  · rw [hO.block _ (by omega)]
    exact h.bp
  · rw [hO.block _ (by omega)]
    exact h.top
  · by_cases e : j = i
    · subst e
      rw [hr]
      exact hrow
    · rw [hO.block _ (hne j (by omega) h5)]
      exact h.rows j (by omega) h5
  · by_cases e : j = i
    · subst e
      rw [hr]
      exact hp
    · exact h3 j (by omega) h5
theorem TabR.alloc {w W : World} {vB : Value} {n m g p K L : Nat} {R : Nat → Nat} {f : Nat → Nat → Nat} (h : TabR w W vB n m g p K L R f) (o : Obj) : TabR w (W.alloc o) vB n m g p K L R f := by
  have k : ∀ {b : Nat} {ob : Obj}, W.heap[b]? = some ob → (W.alloc o).heap[b]? = some ob := fun {b ob} hb => (Below.heap_alloc W o b (Array.getElem?_eq_some_iff.1 hb).1).trans hb
  exact ⟨k h.box, k h.bp, k h.top, fun j h4 h5 => k (h.rows j h4 h5), h.far, h.below.alloc h.below.size _⟩
theorem tab_own {B Z : Nat} {w : World} {vB : Value} {n m g p : Nat} {f : Nat → Nat → Nat} (hB : w.heap.size ≤ B) : OwnFrom B (fun (k : Nat) W => ∃ R, Hid (TabR w W vB n m g p (n - k) (n - k) R f) ∧ Z ≤ W.heap.size) := fun k X Y row hs hg hr => by
  obtain ⟨R, H, hZ⟩ := hs
  have keep : ∀ {b : Nat} {cs : Array Value} {t : TypeId}, X.heap[b]? = some (.cells cs t (0, 0)) → Y.heap[b]? = some (.cells cs t (0, 0)) := fun {b cs t} hb => by
    refine (hg.block b (lt_of_block hb) fun e => ?_).trans hb
    obtain ⟨_, o, ho, hc⟩ := hr b e.symm
    rw [hb] at ho
    cases ho
    cases hc
  exact ⟨R, hid ⟨keep H.out.box, keep H.out.bp, keep H.out.top, fun j h4 h5 => keep (H.out.rows j h4 h5), H.out.far, H.out.below.grown hg H.out.below.size (fun j e => by have := (hr j e).1; omega)⟩, Nat.le_trans hZ hg.size⟩
theorem Only.others' {br : Nat} {w w' : World} {cs : Array Value} {t : TypeId} {fr : Nat × Nat} (h : Only br w w') (hb : w.heap[br]? = some (.cells cs t fr)) : KeepsOthers w w' :=
  ⟨Nat.le_of_eq h.size.symm, fun k o hk ho => by
    by_cases e : k = br
    · subst e
      rw [hb] at hk
      cases hk
      cases ho
    · exact (h.block k e).trans hk⟩
/-- the table and its box, no row yet -/
theorem tab_start {w : World} {vB : Value} {n m n1 : Nat} {Z1 : Array Value} {R : Nat → Nat} {f : Nat → Nat → Nat} (hn : n + 1 = n1) (hZ1 : (List.replicate n1 (Value.slice none 0 0)).toArray = Z1) :
    TabR w (((w.alloc (.cells #[vB] 32)).alloc (.cells Z1 118)).alloc (.cells #[.slice (some ⟨w.heap.size + 1, 0, none⟩) n1 n1] 115)) vB n m (w.heap.size + 1) (w.heap.size + 1 + 1) (n + 1) (n + 1) R f := by
  subst hn
  generalize hA : (.cells #[vB] 32 : Obj) = o0
  generalize hB : (.cells Z1 118 : Obj) = o1
  generalize hC : (.cells #[.slice (some ⟨w.heap.size + 1, 0, none⟩) (n + 1) (n + 1)] 115 : Obj) = o2
  have s0 : (w.alloc o0).heap.size = w.heap.size + 1 := by simp
  have s1 : ((w.alloc o0).alloc o1).heap.size = w.heap.size + 1 + 1 := by simp
  have e0 : (((w.alloc o0).alloc o1).alloc o2).heap[w.heap.size]? = some o0 := by rw [Below.heap_alloc _ _ _ (by omega), Below.heap_alloc _ _ _ (by omega), World.alloc_heap_new]
  have e1 : (((w.alloc o0).alloc o1).alloc o2).heap[w.heap.size + 1]? = some o1 := by rw [Below.heap_alloc _ _ _ (by omega), ← s0, World.alloc_heap_new]
  have e2 : (((w.alloc o0).alloc o1).alloc o2).heap[w.heap.size + 1 + 1]? = some o2 := by rw [← s1, World.alloc_heap_new]
  refine ⟨e0.trans (congrArg some hA.symm), e2.trans (congrArg some hC.symm), ?_, fun j h4 h5 => by omega, ⟨by omega, by omega, fun j h4 h5 => by omega⟩, (((Below.refl _ w).alloc (Nat.le_refl _) o0).alloc (by omega) o1).alloc (by omega) o2⟩
  refine (e1.trans (congrArg some hB.symm)).trans ?_
  rw [← hZ1]
  congr 3
  apply List.ext_getElem
  · simp [mixL]
  · intro q q1 q2
    have : q < n + 1 := by simpa using q1
    simp only [mixL, List.getElem_map, List.getElem_range, List.getElem_replicate]
    rw [if_neg (by omega)]
end Go.Proofs.Ytfldheegebopoaa

namespace Go.Proofs.Ytfldheegebopoaa
open Go.RowKit

attribute [local go_sem] Oper.semAt_some

section
set_option maxRecDepth 100000
set_option maxHeartbeats 4000000
theorem Try.infoU16 : (Try.prog.info? 117).map (fun i => (i.zero, i.size, i.bytes)) = some (some (.int .u16 0), 1, 2) := by kernel_rfl
theorem Try.infoSlU : (Try.prog.info? 118).map (fun i => (i.zero, i.size, i.bytes)) = some (some (.slice none 0 0), 1, 24) := by kernel_rfl

theorem DRests_any (va vb : Value) (a b : List (List UInt8)) (w : World) (ha : Sl w va (strCells a)) (hb : Sl w vb (strCells b)) (hal : a.length ≤ 60000) (hbl : b.length ≤ 60000) :
    Calls Try.prog 74 #[va, vb] w fun e w' => ∃ t, e = .returned t ∧ TabQ .u16 w' w.heap.size t a.length b.length (fun i k => lcs (a.drop i) (b.drop k)) ∧ Below w.heap.size w w' := by
  obtain ⟨i0, hi0, hi1, hi2, hi3⟩ := info_parts Try.infoU16
  obtain ⟨i9, hj0, hj1, hj2, hj3⟩ := info_parts Try.infoSlU
  obtain ⟨aa, ca, rfl⟩ := ha.form
  obtain ⟨ab, cb, rfl⟩ := hb.form
  rw [strCells_length] at ha hb ⊢
  rw [strCells_length]
  obtain ⟨n, hn⟩ : ∃ n, a.length = n := ⟨_, rfl⟩
  obtain ⟨m, hm⟩ : ∃ m, b.length = m := ⟨_, rfl⟩
  rw [hn] at ha hal ⊢
  rw [hm] at hb hbl ⊢
  obtain ⟨n1, hn1⟩ : ∃ n1, n + 1 = n1 := ⟨_, rfl⟩
  obtain ⟨m1, hm1⟩ : ∃ m1, m + 1 = m1 := ⟨_, rfl⟩
  have nw : IntKind.i64.wrap ((n : Int) + 1) = (n1 : Int) := (IntWalk.i64_in _ (by omega)).trans (by omega)
  have mw : IntKind.i64.wrap ((m : Int) + 1) = (m1 : Int) := (IntWalk.i64_in _ (by omega)).trans (by omega)
  have mk1 := fun wx : World => run_make1 (P := Try.prog) wx 115 118 i9 (.slice none 0 0) Try.underlying115 hj0 hj1 hj2 rfl n1 (by rw [hj3]; omega) (by omega)
  have mk2 := fun wx : World => run_make1 (P := Try.prog) wx 118 117 i0 (.int .u16 0) Try.underlying118 hi0 hi1 hi2 rfl m1 (by rw [hi3]; omega) (by omega)
  obtain ⟨f, hf⟩ : ∃ f : Nat → Nat → Nat, f = fun i k => lcs (a.drop i) (b.drop k) := ⟨_, rfl⟩
  rw [← hf]
  have f0 : ∀ k, f n k = 0 := fun k => by rw [hf]; show lcs (a.drop n) _ = 0; rw [List.drop_of_length_le (l := a) (by omega), lcs_nil_left]
  have fs : ∀ i x, a[i]? = some x → Steps x b (f i) (f (i + 1)) := fun i x hx => by
    obtain ⟨q1, e1⟩ := List.getElem?_eq_some_iff.1 hx
    have := steps_lcs x (a.drop (i + 1)) b
    rw [← e1, ← List.drop_eq_getElem_cons q1] at this
    rw [hf, ← e1]
    exact this
  have fm : ∀ i k, f i k ≤ 65000 := fun i k => by
    rw [hf]
    have := (lcs_le (a.drop i) (b.drop k)).1
    rw [List.length_drop] at this
    show lcs _ _ ≤ 65000
    omega
  obtain ⟨Z1, hZ1⟩ : ∃ Z, (List.replicate n1 (Value.slice none 0 0)).toArray = Z := ⟨_, rfl⟩
  obtain ⟨Z2, hZ2⟩ : ∃ Z, (List.replicate m1 (Value.int .u16 0)).toArray = Z := ⟨_, rfl⟩
  rw [hZ1] at mk1
  rw [hZ2] at mk2
  have n0 : (0 : Int) ≤ (n : Int) := Int.natCast_nonneg _
  have nlt : (n : Int) < (n1 : Int) := by omega
  have HA := hid ha
  have HB := hid hb
  have HF := hid (And.intro f0 (And.intro fs fm))
  have HN := hid (And.intro hn hn1)
  have HM := hid (And.intro hm hm1)
  have HZ := hid (And.intro hZ1 hZ2)
  have HL := hid (And.intro hal hbl)
  clear hi0 hi1 hi2 hi3 hj0 hj1 hj2 hj3 ha hb hf f0 fs fm hn hm hal hbl
  refine (callsIn_wide (n := 3)).1 ?_
  refine callsIn_of_wp_marks Try.func74 rfl trivial ?_ rfl
  simp only [Try.ntmps74, List.size_toArray, List.length_cons, List.length_nil, Nat.reduceAdd, Nat.reduceSub, Array.replicate_succ, Array.replicate_zero, List.push_toArray, List.append_toArray, List.nil_append, List.cons_append]
  refine wpIn_wide.2 ?_
  go_upto_region 2 with fail
  have hT0 := tab_start (w := w) (vB := .slice ab m cb) (m := m) (R := fun _ => 0) (f := f) HN.out.2 HZ.out.1
  generalize ((w.alloc (.cells #[.slice ab m cb] 32)).alloc (.cells Z1 118)).alloc (.cells #[.slice (some ⟨w.heap.size + 1, 0, none⟩) n1 n1] 115) = w2 at hT0 ⊢
  have HT0 := hid hT0
  rw [HN.out.2] at hT0
  have ckb := blk_cell (i := 0) hT0.box rfl
  have ckp := blk_cell (i := 0) HT0.out.bp rfl
  rw [HN.out.2] at ckp
  have lt2 := lt_of_block hT0.top
  have h0 : (w2.alloc (.cells Z2 117)).heap[w.heap.size + 1]? = _ := (Below.heap_alloc w2 _ _ lt2).trans hT0.top
  have ckt := blk_cell (i := n) (v := .slice none 0 0) h0 (by rw [List.getElem?_toArray]; exact mixL_lo (by have := HN.out.2; omega) (by have := HN.out.2; omega))
  have zkt := blk_free (i := n) h0
  clear hT0 h0
  go_cut [5] from 8 to 19 (fun v5 wx => v5 = .pointer (some ⟨w.heap.size + 1 + 1, 0, none⟩) ∧ Hid (wx = ((w2.setCell ⟨w.heap.size + 1, n, none⟩ (.slice (some ⟨w2.heap.size, 0, none⟩) m1 m1)).alloc (.cells Z2 117)).drew))
  case first =>
    go_region_held3 (fun wy => wy.cell? ⟨w.heap.size + 1 + 1, 0, none⟩ = some (.slice (some ⟨w.heap.size + 1, 0, none⟩) n1 n1) ∧ wy.cell? ⟨w.heap.size, 0, none⟩ = some (.slice ab m cb)) (simp (maxDischargeDepth := 12) [*, World.cell?_alloc_some, World.cell?_setCell_far]) (fail)
    go_wp2_with fail
    go_meet
    exact ⟨rfl, hid rfl⟩
  case rest =>
    obtain ⟨rfl, HW⟩ := hcut
    have lt1 : w.heap.size + 1 + 1 < w2.heap.size := lt_of_block HT0.out.bp
    obtain ⟨hT1, hrow0⟩ := HT0.out.row2 (W1 := wc) (Nat.le_refl _) HM.out.2 HZ.out.2 HW.out
    have hf0 : f n = fun _ => 0 := funext HF.out.1
    rw [← hf0] at hrow0
    have HT2 := hid (hT1.fill (r := w2.heap.size) (if_pos rfl) (fun j h4 h5 => by omega) lt1 (Only.refl _ _) hrow0)
    clear hT1 hrow0 hf0 HT0 HW ckb ckp ckt zkt
    go_wp2_with (go_at_call 75; refine (Back_any _ _ _ _).mono ?_; rintro e w5 ⟨rfl, rfl⟩)
    obtain ⟨w9, hw9⟩ : ∃ w9, wc.alloc (.cells #[.slice aa n ca] 32) = w9 := ⟨_, rfl⟩
    have HT9 := hid (HT2.out.alloc (.cells #[.slice aa n ca] 32))
    rw [hw9] at HT9
    have hz9 : w9.heap.size = wc.heap.size + 1 := by
      rw [← hw9]
      simp
    have hc9 : w9.cell? ⟨wc.heap.size, 0, none⟩ = some (.slice aa n ca) := by
      rw [← hw9]
      exact blk_cell (i := 0) (World.alloc_heap_new wc _) rfl
    have ltp := lt_of_block HT2.out.bp
    obtain ⟨g, hg⟩ : ∃ g, w.heap.size + 1 = g := ⟨_, rfl⟩
    obtain ⟨p, hp⟩ : ∃ p, g + 1 = p := ⟨_, rfl⟩
    have hwz := HT2.out.below.size
    rw [hg, hp] at HT9 ltp
    rw [hw9, hg, hp]
    clear HT2 hw9 lt1
    refine (wpIn_wide (n := 3)).1 ?_
    refine' wpIn_rounds (gf := 77) (lb := #[.pointer (some ⟨wc.heap.size, 0, none⟩)]) (N := a.length) (enc := backEnc a) (Kp := KpB w.heap.size wc.heap.size) (w0 := w9) rfl (enters_of Try.func77 (by kernel_rfl) rfl) ?seq (Below.refl _ _) (fun _ => rfl) KpB.trans ?kb
      (fun k W => ∃ R, Hid (TabR w W (.slice ab m cb) n m g p (n - k) (n - k) R f) ∧ w9.heap.size ≤ W.heap.size) (tab_own HT9.out.below.size) ?start _ ?assign ?body ?done
    case seq => exact back_rounds w w9 wc.heap.size _ a HA.out HT9.out.below hc9 (by have h1 := HN.out.1; have h2 := HL.out.1; omega)
    case kb => exact fun W l o h1 h2 => KpB.put W o (by omega) (by omega) h2
    case start => exact ⟨_, HT9, Nat.le_refl _⟩
    case assign =>
      intro l k W K hK
      dsimp only [backEnc]
      gi_wp2
      exact hK
    case body =>
      rintro l k W hk ⟨R, HT, hWz⟩
      rw [HN.out.1] at hk
      obtain ⟨i, hi⟩ : ∃ i, n - 1 - k = i := ⟨_, rfl⟩
      have hki : n - k = i + 1 := by omega
      rw [hki] at HT
      obtain ⟨x, hx⟩ : ∃ x, a[i]? = some x := ⟨_, List.getElem?_eq_getElem (by rw [HN.out.1]; omega)⟩
      rw [HN.out.1, hi, hx, Option.getD_some]
      have HX := hid hx
      have hin : i < n := by omega
      have HIK := hid (show n - (k + 1) = i by omega)
      have i0 : (0 : Int) ≤ (i : Int) := Int.natCast_nonneg _
      have i1 : (i : Int) < (n1 : Int) := by have := HN.out.2; omega
      have hT := HT.out
      have ckb := blk_cell (i := 0) hT.box rfl
      have ckp := blk_cell (i := 0) hT.bp rfl
      rw [HN.out.2] at ckp
      have ltg := lt_of_block hT.top
      have h0 : (W.alloc (.cells Z2 117)).heap[g]? = _ := (Below.heap_alloc W _ _ ltg).trans hT.top
      have ckt := blk_cell (i := i) (v := .slice none 0 0) h0 (by rw [List.getElem?_toArray]; exact mixL_lo (by omega) (by omega))
      have zkt := blk_free (i := i) h0
      clear hT h0 hx hi hki hk
      gi_wp2
      refine region_round (fun wy => wy.cell? ⟨p, 0, none⟩ = some (.slice (some ⟨g, 0, none⟩) n1 n1) ∧ wy.cell? ⟨w.heap.size, 0, none⟩ = some (.slice ab m cb)) (by kernel_rfl) (by kernel_rfl) ?_
      have hS : (fun wy => wy.cell? ⟨p, 0, none⟩ = some (.slice (some ⟨g, 0, none⟩) n1 n1) ∧ wy.cell? ⟨w.heap.size, 0, none⟩ = some (.slice ab m cb)) W.drew := ⟨ckp, ckb⟩
      refine wpAnyH_take (i := 0) (v := .slice (some ⟨g, 0, none⟩) n1 n1) rfl (by kernel_rfl) (by kernel_rfl) (by kernel_rfl) (fun _ _ _ h => h) (Or.inl ⟨by rfl, fun wz hz => ?_⟩) hS ?_
      · obtain ⟨z1, z2⟩ := hz
        go_simp
      simp only [Act.put, List.setIfInBounds_toArray]
      refine wpAnyH_take (i := 1) (v := .int .i64 (i : Int)) rfl (by kernel_rfl) (by kernel_rfl) (by kernel_rfl) (fun _ _ _ h => h) (Or.inl ⟨by rfl, fun wz hz => ?_⟩) hS ?_
      · obtain ⟨z1, z2⟩ := hz
        go_simp
      simp only [Act.put]
      refine wpAnyH_take (i := 2) (v := .slice ab m cb) rfl (by kernel_rfl) (by kernel_rfl) (by kernel_rfl) (fun _ _ _ h => h) (Or.inl ⟨by rfl, fun wz hz => ?_⟩) hS ?_
      · obtain ⟨z1, z2⟩ := hz
        go_simp
      simp only [Act.put]
      refine wpAnyH_take (i := 3) (v := .int .i64 (m : Int)) rfl (by kernel_rfl) (by kernel_rfl) (by kernel_rfl) (fun _ _ _ h => h) (Or.inl ⟨by rfl, fun wz hz => ?_⟩) hS ?_
      · obtain ⟨z1, z2⟩ := hz
        go_simp
      simp only [Act.put]
      refine wpAnyH_take (i := 4) (v := .int .i64 (m1 : Int)) rfl (by kernel_rfl) (by kernel_rfl) (by kernel_rfl) (fun _ _ _ h => h) (Or.inl ⟨by rfl, fun wz hz => ?_⟩) hS ?_
      · obtain ⟨z1, z2⟩ := hz
        go_simp
      simp only [Act.put]
      refine wpAnyH_ready (rs := [5]) (by kernel_rfl) (by simp) ?_
      refine AllReadyH.cons rfl (fun K' hK' => ?_) AllReadyH.nil
      go_simp
      have s1 : (W.alloc (.cells Z2 117)).cell? ⟨p, 0, none⟩ = _ := (World.cell?_alloc_some W _ _ (by rw [ckp]; rfl)).trans ckp
      have s2 : (W.alloc (.cells Z2 117)).cell? ⟨w.heap.size, 0, none⟩ = _ := (World.cell?_alloc_some W _ _ (by rw [ckb]; rfl)).trans ckb
      refine hK'.out _ _ ⟨s1, s2⟩ (fun hS2 => ?_)
      clear hK' s1 s2
      refine wpAnyH_take (i := 6) (v := .pointer (some ⟨g, i, none⟩)) rfl (by kernel_rfl) (by kernel_rfl) (by kernel_rfl) (fun _ _ _ h => h) (Or.inl ⟨by rfl, fun wz hz => ?_⟩) hS2 ?_
      · obtain ⟨z1, z2⟩ := hz
        go_simp
      simp only [Act.put]
      refine wpAnyH_ready (rs := [7]) (by kernel_rfl) (by simp) ?_
      refine AllReadyH.cons rfl (fun K' hK' => ?_) AllReadyH.nil
      go_simp
      obtain ⟨far1, far2, far3⟩ := HT.out.far
      have s3 : (W.setCell ⟨g, i, none⟩ (.slice (some ⟨W.heap.size, 0, none⟩) m1 m1)).cell? ⟨p, 0, none⟩ = _ := (World.cell?_setCell_far W ⟨g, i, none⟩ ⟨p, 0, none⟩ _ (by show g ≠ p; omega)).trans ckp
      have s4 : (W.setCell ⟨g, i, none⟩ (.slice (some ⟨W.heap.size, 0, none⟩) m1 m1)).cell? ⟨w.heap.size, 0, none⟩ = _ := (World.cell?_setCell_far W ⟨g, i, none⟩ ⟨w.heap.size, 0, none⟩ _ (by show g ≠ w.heap.size; omega)).trans ckb
      refine hK'.out _ _ ⟨(World.cell?_alloc_some _ _ _ (by rw [s3]; rfl)).trans s3, (World.cell?_alloc_some _ _ _ (by rw [s4]; rfl)).trans s4⟩ (fun _ => ?_)
      clear hK' s3 s4 hS hS2
      refine wpAnyH_done (by kernel_rfl) ?_ _
      obtain ⟨W1, hW1⟩ : ∃ W1, W1 = ((W.setCell ⟨g, i, none⟩ (.slice (some ⟨W.heap.size, 0, none⟩) m1 m1)).alloc (.cells Z2 117)).drew := ⟨_, rfl⟩
      obtain ⟨hT1, hrow⟩ := HT.out.row2 (by omega) HM.out.2 HZ.out.2 hW1
      have hKO := (((KeepsOthers.setCell W ⟨g, i, none⟩ (.slice (some ⟨W.heap.size, 0, none⟩) m1 m1)).trans (KeepsOthers.alloc _ (.cells Z2 117))).trans (KeepsOthers.drew _))
      have hss : (W.setCell ⟨g, i, none⟩ (.slice (some ⟨W.heap.size, 0, none⟩) m1 m1)).heap.size = W.heap.size := by simp [World.setCell]
      have hBs : W1.heap[wc.heap.size]? = W.heap[wc.heap.size]? := by
        rw [hW1]
        exact (Below.heap_alloc _ _ _ (by rw [hss]; omega)).trans (Below.heap_setCell _ _ _ _ (by show wc.heap.size ≠ g; omega))
      have hBW : Below w.heap.size W W1 := by
        rw [hW1]
        exact (((Below.refl _ W).setCell (by show w.heap.size ≤ g; omega) _).alloc (by rw [hss]; exact HT.out.below.size) _).trans (show Below w.heap.size _ _ from ⟨rfl, rfl, rfl, Nat.le_refl _, fun _ _ => rfl⟩)
      have hsz1 : W1.heap.size = W.heap.size + 1 := by
        rw [hW1]
        show ((W.setCell ⟨g, i, none⟩ (.slice (some ⟨W.heap.size, 0, none⟩) m1 m1)).alloc (.cells Z2 117)).heap.size = _
        rw [World.size_alloc, hss]
      rw [← hW1] at hKO ⊢
      have hR2lt := lt_of_block (HT.out.rows (i + 1) (Nat.le_refl _) (by omega))
      have hRlt : ∀ j, i + 1 ≤ j → j ≤ n → R j < W.heap.size := fun j h4 h5 => lt_of_block (HT.out.rows j h4 h5)
      have hp1 := lt_of_block HT.out.bp
      have hbeh := hT1.rows (i + 1) (Nat.le_refl _) (by omega)
      have c3 := blk_cell (i := i) hT1.top (by rw [List.getElem?_toArray]; exact mixL_at (by omega) (Nat.le_refl _))
      have c4 := blk_cell (i := i + 1) hT1.top (by rw [List.getElem?_toArray]; exact mixL_at (by omega) (by omega))
      rw [if_pos rfl] at c3
      rw [if_neg (by omega)] at c4 hbeh
      have HR1 := hid (show (fun j => if j = i then W.heap.size else R j) i = W.heap.size from if_pos rfl)
      have HR2 := hid (show ∀ j, i + 1 ≤ j → j ≤ n → (fun j => if j = i then W.heap.size else R j) j ≠ W.heap.size from fun j h4 h5 => by
        show (if j = i then W.heap.size else R j) ≠ _
        rw [if_neg (by omega)]
        have := hRlt j h4 h5
        omega)
      have c1 := blk_cell (i := 0) hT1.bp rfl
      have c2 := blk_cell (i := 0) hT1.box rfl
      obtain ⟨R', hR'⟩ : ∃ R', (fun j => if j = i then W.heap.size else R j) = R' := ⟨_, rfl⟩
      rw [hR'] at hT1 HR1 HR2
      obtain ⟨rn, hrn⟩ : ∃ rn, W.heap.size = rn := ⟨_, rfl⟩
      obtain ⟨R2, hR2⟩ : ∃ R2, R (i + 1) = R2 := ⟨_, rfl⟩
      obtain ⟨i2, hi2⟩ : ∃ i2, i + 1 = i2 := ⟨_, rfl⟩
      have iw2 : IntKind.i64.wrap ((i : Int) + 1) = (i2 : Int) := (IntWalk.i64_in _ (by have := HL.out.1; omega)).trans (by omega)
      have i20 : (0 : Int) ≤ (i2 : Int) := Int.natCast_nonneg _
      have i21 : (i2 : Int) < (n1 : Int) := by have := HN.out.2; omega
      have HFILL := hid (fill16_any w rn R2 m x (.slice ab m cb) b (f i) (f (i + 1)) (fun _ => 0) W1.drew HM.out.1 (by have := HL.out.2; omega) HB.out (hT1.below.trans ⟨rfl, rfl, rfl, Nat.le_refl _, fun _ _ => rfl⟩) (by omega) (by rw [← hR2]; omega) (by rw [← hrn]; exact hrow) rfl (by rw [← hR2]; exact hbeh) (HF.out.2.1 i x HX.out) (HF.out.2.2 (i + 1)) (HF.out.2.2 i))
      rw [HM.out.2] at HFILL c3 c4
      rw [HN.out.2] at c1
      rw [hrn] at c3 HR1 HR2 hrow hsz1 hp1
      rw [hi2] at c4
      rw [← hi2, hR2, hi2] at c4
      have HT1 := hid hT1
      have HROW := hid hrow
      have HKO := hid hKO
      have HBW := hid hBW
      have HBS := hid hBs
      have HRN := hid hrn
      have HI2 := hid hi2
      clear hT1 hrow hKO hBW hBs hrn hi2 hR2 hR' hRlt hbeh hW1 ckb ckp ckt zkt hss far3
      refine NoOut.normal ?_
      gi_wp2
      refine region_round (fun wy => wy.cell? ⟨p, 0, none⟩ = some (.slice (some ⟨g, 0, none⟩) n1 n1) ∧ wy.cell? ⟨w.heap.size, 0, none⟩ = some (.slice ab m cb) ∧ wy.cell? ⟨g, i, none⟩ = some (.slice (some ⟨rn, 0, none⟩) m1 m1) ∧ wy.cell? ⟨g, i2, none⟩ = some (.slice (some ⟨R2, 0, none⟩) m1 m1)) (by kernel_rfl) (by kernel_rfl) ?_
      have hS7 : (fun wy => wy.cell? ⟨p, 0, none⟩ = some (.slice (some ⟨g, 0, none⟩) n1 n1) ∧ wy.cell? ⟨w.heap.size, 0, none⟩ = some (.slice ab m cb) ∧ wy.cell? ⟨g, i, none⟩ = some (.slice (some ⟨rn, 0, none⟩) m1 m1) ∧ wy.cell? ⟨g, i2, none⟩ = some (.slice (some ⟨R2, 0, none⟩) m1 m1)) W1.drew := ⟨c1, c2, c3, c4⟩
      refine wpAnyH_take (i := 0) (v := .slice (some ⟨g, 0, none⟩) n1 n1) rfl (by kernel_rfl) (by kernel_rfl) (by kernel_rfl) (fun _ _ _ h => h) (Or.inl ⟨by rfl, fun wz hz => ?_⟩) hS7 ?_
      · obtain ⟨z1, z2, z3, z4⟩ := hz
        go_simp
      simp only [Act.put, List.setIfInBounds_toArray]
      refine wpAnyH_take (i := 1) (v := .int .i64 (i : Int)) rfl (by kernel_rfl) (by kernel_rfl) (by kernel_rfl) (fun _ _ _ h => h) (Or.inl ⟨by rfl, fun wz hz => ?_⟩) hS7 ?_
      · obtain ⟨z1, z2, z3, z4⟩ := hz
        go_simp
      simp only [Act.put]
      refine wpAnyH_take (i := 2) (v := .pointer (some ⟨g, i, none⟩)) rfl (by kernel_rfl) (by kernel_rfl) (by kernel_rfl) (fun _ _ _ h => h) (Or.inl ⟨by rfl, fun wz hz => ?_⟩) hS7 ?_
      · obtain ⟨z1, z2, z3, z4⟩ := hz
        go_simp
      simp only [Act.put]
      refine wpAnyH_take (i := 3) (v := .slice (some ⟨rn, 0, none⟩) m1 m1) rfl (by kernel_rfl) (by kernel_rfl) (by kernel_rfl) (fun _ _ _ h => h) (Or.inl ⟨by rfl, fun wz hz => ?_⟩) hS7 ?_
      · obtain ⟨z1, z2, z3, z4⟩ := hz
        go_simp
      simp only [Act.put]
      refine wpAnyH_take (i := 4) (v := .slice (some ⟨g, 0, none⟩) n1 n1) rfl (by kernel_rfl) (by kernel_rfl) (by kernel_rfl) (fun _ _ _ h => h) (Or.inl ⟨by rfl, fun wz hz => ?_⟩) hS7 ?_
      · obtain ⟨z1, z2, z3, z4⟩ := hz
        go_simp
      simp only [Act.put]
      refine wpAnyH_take (i := 5) (v := .int .i64 (i : Int)) rfl (by kernel_rfl) (by kernel_rfl) (by kernel_rfl) (fun _ _ _ h => h) (Or.inl ⟨by rfl, fun wz hz => ?_⟩) hS7 ?_
      · obtain ⟨z1, z2, z3, z4⟩ := hz
        go_simp
      simp only [Act.put]
      refine wpAnyH_take (i := 6) (v := .int .i64 (i2 : Int)) rfl (by kernel_rfl) (by kernel_rfl) (by kernel_rfl) (fun _ _ _ h => h) (Or.inl ⟨by rfl, fun wz hz => ?_⟩) hS7 ?_
      · obtain ⟨z1, z2, z3, z4⟩ := hz
        go_simp
      simp only [Act.put]
      refine wpAnyH_take (i := 7) (v := .pointer (some ⟨g, i2, none⟩)) rfl (by kernel_rfl) (by kernel_rfl) (by kernel_rfl) (fun _ _ _ h => h) (Or.inl ⟨by rfl, fun wz hz => ?_⟩) hS7 ?_
      · obtain ⟨z1, z2, z3, z4⟩ := hz
        go_simp
      simp only [Act.put]
      refine wpAnyH_take (i := 8) (v := .slice (some ⟨R2, 0, none⟩) m1 m1) rfl (by kernel_rfl) (by kernel_rfl) (by kernel_rfl) (fun _ _ _ h => h) (Or.inl ⟨by rfl, fun wz hz => ?_⟩) hS7 ?_
      · obtain ⟨z1, z2, z3, z4⟩ := hz
        go_simp
      simp only [Act.put]
      refine wpAnyH_take (i := 9) (v := .string ⟨x.toArray⟩) rfl (by kernel_rfl) (by kernel_rfl) (by kernel_rfl) (fun _ _ _ h => h) (Or.inl ⟨by rfl, fun wz hz => ?_⟩) hS7 ?_
      · obtain ⟨z1, z2, z3, z4⟩ := hz
        go_simp
      simp only [Act.put]
      refine wpAnyH_take (i := 10) (v := .slice ab m cb) rfl (by kernel_rfl) (by kernel_rfl) (by kernel_rfl) (fun _ _ _ h => h) (Or.inl ⟨by rfl, fun wz hz => ?_⟩) hS7 ?_
      · obtain ⟨z1, z2, z3, z4⟩ := hz
        go_simp
      simp only [Act.put]
      refine wpAnyH_ready (rs := [11]) (by kernel_rfl) (by simp) ?_
      refine AllReadyH.cons rfl (fun K' hK' => ?_) AllReadyH.nil
      go_simp
      refine HFILL.out.mono ?_
      rintro e w6 ⟨⟨v, rfl⟩, hO, hr6⟩
      obtain ⟨far1, far2, _⟩ := HT1.out.far
      have d1 : w6.cell? ⟨p, 0, none⟩ = _ := (World.cell?_of_block (w := W1) (hO.block p (by omega))).trans c1
      have d2 : w6.cell? ⟨w.heap.size, 0, none⟩ = _ := (World.cell?_of_block (w := W1) (hO.block w.heap.size (by omega))).trans c2
      have d3 : w6.cell? ⟨g, i, none⟩ = _ := (World.cell?_of_block (w := W1) (hO.block g (by omega))).trans c3
      have d4 : w6.cell? ⟨g, i2, none⟩ = _ := (World.cell?_of_block (w := W1) (hO.block g (by omega))).trans c4
      refine hK'.out _ _ ⟨d1, d2, d3, d4⟩ (fun _ => ?_)
      clear hK' d1 d2 d3 d4 hS7 c1 c2 c3 c4
      refine wpAnyH_done (by kernel_rfl) ?_ _
      refine NoOut.normal ?_
      have HO1 := hid (show Only rn W1 w6 from ⟨hO.os, hO.tape, hO.output, hO.size, hO.block⟩)
      have HR6 := hid hr6
      clear hO hr6 HFILL
      gi_wp2
      refine ⟨(HKO.out.trans (HO1.out.others' HROW.out)).from _, ⟨HBW.out.trans (HO1.out.below (by omega)), (HO1.out.block _ (by have := HRN.out; omega)).trans HBS.out⟩, R', ?_, ?_⟩
      · rw [HIK.out]
        have h6 := HR6.out
        rw [← HM.out.2] at h6
        exact hid (HT1.out.fill HR1.out HR2.out (by omega) HO1.out h6)
      · have h1 := HO1.out.size
        have h2 := HRN.out
        omega
    case done =>
      rintro D W hD ⟨R, HT, hWz⟩ hK
      obtain ⟨R', HT', _⟩ := (tab_own (B := w9.heap.size) (Z := w9.heap.size) (w := w) (vB := .slice ab m cb) (n := n) (m := m) (g := g) (p := p) (f := f) HT9.out.below.size).putObj (.deferred none) (s := a.length) ⟨R, HT, hWz⟩ hD hK rfl
      rw [HN.out.1, Nat.sub_self] at HT HT'
      have ckp := blk_cell (i := 0) HT.out.bp rfl
      rw [HN.out.2] at ckp
      have HTAB := hid HT'.out.tab
      rw [HN.out.2] at HTAB
      clear HT'
      dsimp only
      go_wp2_with fail
      refine ⟨by simp, .inl ⟨_, _, rfl, run_takeDeferred hK, ?_⟩⟩
      refine ⟨.slice (some ⟨g, 0, none⟩) n1 n1, results_tmp (show Try.f74.results = #[.tmp 4] from rfl) _ _ _, _, rfl, HTAB.out, HT.out.below.trans (belowK_b (w := w) (Nat.le_refl _) W D _ _ (by have := HT9.out.below.size; omega) hK rfl rfl)⟩
end
end Go.Proofs.Ytfldheegebopoaa

namespace Go.Proofs.Ytfldheegebopoaa
open Go.RowKit

theorem drop_one {α : Type} {a : List α} {k : Nat} {x : α} (h : a[k]? = some x) : a.drop k = x :: a.drop (k + 1) := by
  obtain ⟨q, e⟩ := List.getElem?_eq_some_iff.1 h
  rw [List.drop_eq_getElem_cons q, e]
theorem Aside.none (w0 w : World) (v : Value) : Aside 0 0 w0 w v := ⟨fun _ _ => .inr (Nat.zero_le _), fun b _ h2 => by omega⟩

section
set_option maxRecDepth 100000
set_option maxHeartbeats 8000000
theorem DWalk_any (w0 : World) (l va vb : Value) (es : List (Int × List UInt8)) (a b : List (List UInt8)) (w : World) (hO : OwnE w w0.heap.size l es) (ha : Sl w0 va (strCells a)) (hb : Sl w0 vb (strCells b)) (hbel : Below w0.heap.size w0 w) (hel : es.length ≤ 1000000) (hal : a.length ≤ 60000) (hbl : b.length ≤ 60000) :
    Calls Try.prog 71 #[l, va, vb] w fun e w' => ∃ l', e = .returned l' ∧ OwnE w' w0.heap.size l' (es ++ goS a b) ∧ Below w0.heap.size w0 w' := by
  obtain ⟨aa, ca, rfl⟩ := ha.form
  obtain ⟨ab, cb, rfl⟩ := hb.form
  have HR := hid (DRests_any _ _ a b w (Sl.old ha hbel) (Sl.old hb hbel) hal hbl)
  rw [strCells_length] at ha hb HR ⊢
  rw [strCells_length] at HR ⊢
  obtain ⟨p, hp⟩ : ∃ p, a.length = p := ⟨_, rfl⟩
  obtain ⟨q, hq⟩ : ∃ q, b.length = q := ⟨_, rfl⟩
  rw [hp] at ha hal HR ⊢
  rw [hq] at hb hbl HR ⊢
  have HA := hid ha
  have HB := hid hb
  have HP := hid hp
  have HQ := hid hq
  have HO := hid hO
  have HL := hid (And.intro hel (And.intro hal hbl))
  have hw0 := hbel.size
  have HBEL := hid hbel
  clear ha hb hp hq hO hel hal hbl hbel
  go_enter Try.func71, Try.ntmps71
  go_wp2_with fail
  refine HR.out.mono ?_
  rintro e w1 ⟨t, rfl, ht, hb2⟩
  have hbw1 : Below w0.heap.size w0 w1 := below_step HBEL.out hb2 hw0
  have HO1 := hid (show OwnE w1 w0.heap.size l es from OwnE.old HO.out hb2)
  have HA1 := hid (show Aside w.heap.size w1.heap.size w1 w1 l from ⟨fun j hj => .inl (HO.out.lt j hj).2, fun _ _ _ => rfl⟩)
  obtain ⟨g, hg, rfl, ht'⟩ := ht
  have HT := hid (show TabQ .u16 w1 w.heap.size (.slice (some ⟨g, 0, none⟩) (p + 1) (p + 1)) p q (fun i k => lcs (a.drop i) (b.drop k)) from ⟨g, hg, rfl, ht'⟩)
  obtain ⟨p1, hp1⟩ : ∃ n, p + 1 = n := ⟨_, rfl⟩
  obtain ⟨q1, hq1⟩ : ∃ n, q + 1 = n := ⟨_, rfl⟩
  rw [hp1]
  have HP1 := hid hp1
  have HQ1 := hid hq1
  clear ht' hg hp1 hq1 HO HR HBEL hb2 hw0
  go_wp2_with fail
  go_loopg [0, 8, 9] (p + q) (fun gg l i j wr => ∃ (I J : Nat) (E : List (Int × List UInt8)), I ≤ p ∧ J ≤ q ∧ gg = (p - I) + (q - J) ∧ i = .int .i64 I ∧ j = .int .i64 J ∧ Hid (E ++ goS (a.drop I) (b.drop J) = es ++ goS a b) ∧ Hid (OwnE wr w0.heap.size l E) ∧ Hid (E.length ≤ es.length + I + J) ∧ Hid (Aside w.heap.size w1.heap.size w1 wr l) ∧ w1.heap.size ≤ wr.heap.size ∧ Below w0.heap.size w0 wr)
  case atStart => exact ⟨0, 0, es, Nat.zero_le _, Nat.zero_le _, by omega, rfl, rfl, hid rfl, HO1, hid (by omega), HA1, Nat.le_refl _, hbw1⟩
  case round =>
    clear HO1 HA1 hbw1
    obtain ⟨I, J, E, hI, hJ, rfl, rfl, rfl, HG, HE, HN, HS, hZr, hbr⟩ := hrel
    have hzr := hbr.size
    have I0 : (0 : Int) ≤ (I : Int) := Int.natCast_nonneg _
    have J0 : (0 : Int) ≤ (J : Int) := Int.natCast_nonneg _
    have HLE := hid (show E.length + p + q ≤ 3000000 by have h1 := HN.out; have h2 := HL.out.1; have h3 := HL.out.2.1; have h4 := HL.out.2.2; omega)
    obtain ⟨I2, hI2⟩ : ∃ n, I + 1 = n := ⟨_, rfl⟩
    obtain ⟨J2, hJ2⟩ : ∃ n, J + 1 = n := ⟨_, rfl⟩
    have Iw2 : IntKind.i64.wrap ((I : Int) + 1) = (I2 : Int) := (IntWalk.i64_in _ (by have := HLE.out; omega)).trans (by omega)
    have Jw2 : IntKind.i64.wrap ((J : Int) + 1) = (J2 : Int) := (IntWalk.i64_in _ (by have := HLE.out; omega)).trans (by omega)
    have HI2 := hid hI2
    have HJ2 := hid hJ2
    by_cases hi : I < p
    · have hi' : (I : Int) < (p : Int) := by omega
      by_cases hj : J < q
      · have hj' : (J : Int) < (q : Int) := by omega
        obtain ⟨a1, x, rfl, hcx, hx⟩ := (Sl.old HA.out hbr).strAt' (i := I) (by rw [HP.out]; exact hi)
        obtain ⟨a2, y, rfl, hcy, hy⟩ := (Sl.old HB.out hbr).strAt' (i := J) (by rw [HQ.out]; exact hj)
        have HX := hid hx
        have HY := hid hy
        clear hx hy
        by_cases hxy : x = y
        · subst hxy
          have hbe : (x == x) = true := by simp
          obtain ⟨ao, c, rc, hc⟩ := cutS_mid HA.out I I2 (by have := HI2.out; omega) (by have := HI2.out; rw [HP.out]; omega)
          rw [show I2 - I = 1 by have := HI2.out; omega] at rc hc
          rw [show (a.drop I).take 1 = [x] by rw [drop_one HX.out]; rfl] at hc
          have HC := hid hc
          clear hc hI2 hJ2
          go_wp2_with fail
          go_quiet (fail)
          have hS' := hid (HS.out.drew nq)
          have hE' := hid (HE.out.drew nq)
          have hb' : Below w0.heap.size w0 (wr.drewN nq) := below_step hbr (below_drewN _ _) hzr
          have hZ' : w1.heap.size ≤ (wr.drewN nq).heap.size := hZr
          clear hcx hcy hbr hzr hZr HS HE
          generalize wr.drewN nq = wa at hS' hE' hb' hZ'  ⊢

          go_wp2_with (go_at_call 70; refine (DAdd_any w0 _ _ E 1 [x] _ hE'.out HC.out hb' (by have := HLE.out; simp; omega) w.heap.size w1.heap.size w1 hZ' hS'.out).mono ?_; rintro e w5 ⟨l5, rfl, hO5, hb5, hz5, hA5⟩; have HO5 := hid hO5; have HA5 := hid hA5; clear hO5 hA5)
          have HG' := hid (show (E ++ [((1 : Int), x)]) ++ goS (a.drop I2) (b.drop J2) = es ++ goS a b by
            rw [← HG.out, drop_one HX.out, drop_one HY.out, goS_cons, if_pos rfl, HI2.out, HJ2.out, List.append_assoc]
            rfl)
          have HN' := hid (show (E ++ [((1 : Int), x)]).length ≤ es.length + I2 + J2 by have h1 := HN.out; have h2 := HI2.out; have h3 := HJ2.out; rw [List.length_append]; simp; omega)
          go_roundg ((p - I2) + (q - J2))
          case measure => have h2 := HI2.out; have h3 := HJ2.out; omega
          case rel => exact ⟨I2, J2, _, by have h2 := HI2.out; omega, by have h3 := HJ2.out; omega, rfl, rfl, rfl, HG', HO5, HN', HA5, Nat.le_trans hZ' hz5, hb5⟩
        · have hbe : (x == y) = false := by simpa using hxy
          obtain ⟨g', hg', eg, ht⟩ := HT.out.old (w' := wr) (fun b h1 h2 => HS.out.kept b h1 h2)
          simp only [Value.slice.injEq, Option.some.injEq, Addr.mk.injEq, and_true] at eg
          obtain rfl := eg
          obtain ⟨r1, hr1, e1, e2⟩ := ht I2 (by omega)
          obtain ⟨r0, hr0, e3, e4⟩ := ht I (by omega)
          have e2 := e2 J (by omega)
          have e4 := e4 J2 (by omega)
          rw [HQ1.out] at e1 e3
          obtain ⟨V, hV⟩ : ∃ V, lcs (a.drop I2) (b.drop J) = V := ⟨_, rfl⟩
          obtain ⟨U, hU⟩ : ∃ U, lcs (a.drop I) (b.drop J2) = U := ⟨_, rfl⟩
          have e2 : wr.cell? ⟨r1, J, none⟩ = some (.int .u16 (V : Nat)) := by rw [← hV]; exact e2
          have e4 : wr.cell? ⟨r0, J2, none⟩ = some (.int .u16 (U : Nat)) := by rw [← hU]; exact e4
          have I20 : (0 : Int) ≤ (I2 : Int) := Int.natCast_nonneg _
          have J20 : (0 : Int) ≤ (J2 : Int) := Int.natCast_nonneg _
          have g1 : (I : Int) < (p1 : Int) := by have := HP1.out; omega
          have g2 : (I2 : Int) < (p1 : Int) := by have := HP1.out; omega
          have g3 : (J : Int) < (q1 : Int) := by have := HQ1.out; omega
          have g4 : (J2 : Int) < (q1 : Int) := by have := HQ1.out; omega
          clear hg' hr1 hr0 ht hI2 hJ2
          by_cases hUV : U ≤ V
          · have hUV' : (U : Int) ≤ (V : Int) := by omega
            have HF := hid (show goS (a.drop I) (b.drop J) = ((2 : Int), x) :: goS (a.drop I2) (b.drop J) by
              have dx := drop_one HX.out
              have dy := drop_one HY.out
              rw [HI2.out] at dx
              rw [HJ2.out] at dy
              rw [dx, dy, goS_cons, if_neg hxy, ← dy, if_pos (by rw [← dx, hV, hU]; exact hUV)])
            clear hV hU hUV
            obtain ⟨ao, c, rc, hc⟩ := cutS_mid HA.out I I2 (by have := HI2.out; omega) (by have := HI2.out; rw [HP.out]; omega)
            rw [show I2 - I = 1 by have := HI2.out; omega] at rc hc
            rw [show (a.drop I).take 1 = [x] by rw [drop_one HX.out]; rfl] at hc
            have HC := hid hc
            clear hc
            go_wp2_with fail
            go_quiet (fail)
            have hS' := hid (HS.out.drew nq)
            have hE' := hid (HE.out.drew nq)
            have hb' : Below w0.heap.size w0 (wr.drewN nq) := below_step hbr (below_drewN _ _) hzr
            have hZ' : w1.heap.size ≤ (wr.drewN nq).heap.size := hZr
            have k1 : (wr.drewN nq).cell? ⟨g, I2, none⟩ = _ := e1
            have k2 : (wr.drewN nq).cell? ⟨r1, J, none⟩ = _ := e2
            have k3 : (wr.drewN nq).cell? ⟨g, I, none⟩ = _ := e3
            have k4 : (wr.drewN nq).cell? ⟨r0, J2, none⟩ = _ := e4
            clear hcx hcy hbr hzr hZr HS HE e1 e2 e3 e4
            generalize wr.drewN nq = wa at hS' hE' hb' hZ' k1 k2 k3 k4 ⊢
            go_wp2_with fail
            go_quiet (fail)
            have hS2 := hid (hS'.out.drew nq)
            have hE2 := hid (hE'.out.drew nq)
            have hb2 : Below w0.heap.size w0 (wa.drewN nq) := below_step hb' (below_drewN _ _) hb'.size
            have hZ2 : w1.heap.size ≤ (wa.drewN nq).heap.size := hZ'
            clear hS' hE' hb' hZ' k1 k2 k3 k4
            generalize wa.drewN nq = wb at hS2 hE2 hb2 hZ2 ⊢
            have hS' := hS2
            have hE' := hE2
            have hb' := hb2
            have hZ' := hZ2
            clear hS2 hE2 hb2 hZ2
            go_wp2_with (go_at_call 70; refine (DAdd_any w0 _ _ E 2 [x] _ hE'.out HC.out hb' (by have := HLE.out; simp; omega) w.heap.size w1.heap.size w1 hZ' hS'.out).mono ?_; rintro e w5 ⟨l5, rfl, hO5, hb5, hz5, hA5⟩; have HO5 := hid hO5; have HA5 := hid hA5; clear hO5 hA5)
            have HG' := hid (show (E ++ [((2 : Int), x)]) ++ goS (a.drop I2) (b.drop J) = es ++ goS a b by
              rw [← HG.out, HF.out, List.append_assoc]
              rfl)
            have HN' := hid (show (E ++ [((2 : Int), x)]).length ≤ es.length + I2 + J by have h1 := HN.out; have h2 := HI2.out; have h3 := HJ2.out; rw [List.length_append]; simp; omega)
            go_roundg ((p - I2) + (q - J))
            case measure => have h2 := HI2.out; have h3 := HJ2.out; omega
            case rel => exact ⟨I2, J, _, by have h2 := HI2.out; omega, by have h3 := HJ2.out; omega, rfl, rfl, rfl, HG', HO5, HN', HA5, Nat.le_trans hZ' hz5, hb5⟩
          · have hUV' : ¬ (U : Int) ≤ (V : Int) := by omega
            have HF := hid (show goS (a.drop I) (b.drop J) = ((3 : Int), y) :: goS (a.drop I) (b.drop J2) by
              have dx := drop_one HX.out
              have dy := drop_one HY.out
              rw [HI2.out] at dx
              rw [HJ2.out] at dy
              rw [dx, dy, goS_cons, if_neg hxy, ← dy, if_neg (by rw [← dx, hV, hU]; exact hUV), ← dx])
            clear hV hU hUV
            obtain ⟨ao, c, rc, hc⟩ := cutS_mid HB.out J J2 (by have := HJ2.out; omega) (by have := HJ2.out; rw [HQ.out]; omega)
            rw [show J2 - J = 1 by have := HJ2.out; omega] at rc hc
            rw [show (b.drop J).take 1 = [y] by rw [drop_one HY.out]; rfl] at hc
            have HC := hid hc
            clear hc
            go_wp2_with fail
            go_quiet (fail)
            have hS' := hid (HS.out.drew nq)
            have hE' := hid (HE.out.drew nq)
            have hb' : Below w0.heap.size w0 (wr.drewN nq) := below_step hbr (below_drewN _ _) hzr
            have hZ' : w1.heap.size ≤ (wr.drewN nq).heap.size := hZr
            have k1 : (wr.drewN nq).cell? ⟨g, I2, none⟩ = _ := e1
            have k2 : (wr.drewN nq).cell? ⟨r1, J, none⟩ = _ := e2
            have k3 : (wr.drewN nq).cell? ⟨g, I, none⟩ = _ := e3
            have k4 : (wr.drewN nq).cell? ⟨r0, J2, none⟩ = _ := e4
            clear hcx hcy hbr hzr hZr HS HE e1 e2 e3 e4
            generalize wr.drewN nq = wa at hS' hE' hb' hZ' k1 k2 k3 k4 ⊢
            go_wp2_with fail
            go_quiet (fail)
            have hS2 := hid (hS'.out.drew nq)
            have hE2 := hid (hE'.out.drew nq)
            have hb2 : Below w0.heap.size w0 (wa.drewN nq) := below_step hb' (below_drewN _ _) hb'.size
            have hZ2 : w1.heap.size ≤ (wa.drewN nq).heap.size := hZ'
            clear hS' hE' hb' hZ' k1 k2 k3 k4
            generalize wa.drewN nq = wb at hS2 hE2 hb2 hZ2 ⊢
            have hS' := hS2
            have hE' := hE2
            have hb' := hb2
            have hZ' := hZ2
            clear hS2 hE2 hb2 hZ2
            go_wp2_with (go_at_call 70; refine (DAdd_any w0 _ _ E 3 [y] _ hE'.out HC.out hb' (by have := HLE.out; simp; omega) w.heap.size w1.heap.size w1 hZ' hS'.out).mono ?_; rintro e w5 ⟨l5, rfl, hO5, hb5, hz5, hA5⟩; have HO5 := hid hO5; have HA5 := hid hA5; clear hO5 hA5)
            have HG' := hid (show (E ++ [((3 : Int), y)]) ++ goS (a.drop I) (b.drop J2) = es ++ goS a b by
              rw [← HG.out, HF.out, List.append_assoc]
              rfl)
            have HN' := hid (show (E ++ [((3 : Int), y)]).length ≤ es.length + I + J2 by have h1 := HN.out; have h2 := HI2.out; have h3 := HJ2.out; rw [List.length_append]; simp; omega)
            go_roundg ((p - I) + (q - J2))
            case measure => have h2 := HI2.out; have h3 := HJ2.out; omega
            case rel => exact ⟨I, J2, _, by have h2 := HI2.out; omega, by have h3 := HJ2.out; omega, rfl, rfl, rfl, HG', HO5, HN', HA5, Nat.le_trans hZ' hz5, hb5⟩
      · have hj' : ¬ (J : Int) < (q : Int) := by omega
        have HF := hid (show goS (a.drop I) (b.drop J) = ((a.drop I).map fun x => ((2 : Int), x)) ++ (b.drop J).map fun x => ((3 : Int), x) by
          rw [List.drop_of_length_le (l := b) (by rw [HQ.out]; omega), goS_nil]
          simp)
        obtain ⟨ao, c, rc, hc⟩ := cutS_from HA.out I (by rw [HP.out]; exact hI)
        obtain ⟨bo, d, rd, hd⟩ := cutS_from HB.out J (by rw [HQ.out]; exact hJ)
        rw [HP.out] at rc hc
        rw [HQ.out] at rd hd
        have HC := hid hc
        have HD := hid hd
        have I1 : (I : Int) ≤ (p : Int) := by omega
        have J1 : (J : Int) ≤ (q : Int) := by omega
        have hd1 : Below w0.heap.size w0 wr.drew := below_step hbr (show Below wr.heap.size wr wr.drew from ⟨rfl, rfl, rfl, Nat.le_refl _, fun _ _ => rfl⟩) hzr
        have H1 := hid (DAdd_any w0 _ _ E 2 (a.drop I) wr.drew (show OwnE wr.drew _ _ _ from HE.out) HC.out hd1 (by have := HLE.out; rw [List.length_drop, HP.out]; omega) 0 0 w (Nat.zero_le _) (Aside.none _ _ _))
        have HLD := hid (show (E ++ (a.drop I).map fun x => ((2 : Int), x)).length + (b.drop J).length ≤ 4000000 by have := HLE.out; rw [List.length_append, List.length_map, List.length_drop, List.length_drop, HP.out, HQ.out]; omega)
        clear hc hd hI2 hJ2
        go_wp2_with fail
        go_region_held3 (fun _ => True) (trivial) ((first
          | (go_at_call 70; with_reducible refine H1.out.mono ?_; rintro e w5 ⟨l5, rfl, hO5, hb5, hz5, hA5⟩; clear H1)
          | (go_at_call 70; with_reducible refine (DAdd_any w0 l5 _ _ 3 (b.drop J) _ hO5 HD.out hb5 HLD.out 0 0 w (Nat.zero_le _) (Aside.none _ _ _)).mono ?_; rintro e w6 ⟨l6, rfl, hO6, hb6, hz6, hA6⟩)))
        go_wp2_with fail
        go_ret
        refine ⟨_, rfl, ?_, hb6⟩
        rw [← HG.out, HF.out, ← List.append_assoc]
        exact hO6
    · have hi' : ¬ (I : Int) < (p : Int) := by omega
      have HF := hid (show goS (a.drop I) (b.drop J) = ((a.drop I).map fun x => ((2 : Int), x)) ++ (b.drop J).map fun x => ((3 : Int), x) by
        rw [List.drop_of_length_le (l := a) (by rw [HP.out]; omega), goS_nil_left]
        simp)
      obtain ⟨ao, c, rc, hc⟩ := cutS_from HA.out I (by rw [HP.out]; exact hI)
      obtain ⟨bo, d, rd, hd⟩ := cutS_from HB.out J (by rw [HQ.out]; exact hJ)
      rw [HP.out] at rc hc
      rw [HQ.out] at rd hd
      have HC := hid hc
      have HD := hid hd
      have I1 : (I : Int) ≤ (p : Int) := by omega
      have J1 : (J : Int) ≤ (q : Int) := by omega
      have hd1 : Below w0.heap.size w0 wr.drew := below_step hbr (show Below wr.heap.size wr wr.drew from ⟨rfl, rfl, rfl, Nat.le_refl _, fun _ _ => rfl⟩) hzr
      have H1 := hid (DAdd_any w0 _ _ E 2 (a.drop I) wr.drew (show OwnE wr.drew _ _ _ from HE.out) HC.out hd1 (by have := HLE.out; rw [List.length_drop, HP.out]; omega) 0 0 w (Nat.zero_le _) (Aside.none _ _ _))
      have HLD := hid (show (E ++ (a.drop I).map fun x => ((2 : Int), x)).length + (b.drop J).length ≤ 4000000 by have := HLE.out; rw [List.length_append, List.length_map, List.length_drop, List.length_drop, HP.out, HQ.out]; omega)
      clear hc hd hI2 hJ2
      go_wp2_with fail
      go_region_held3 (fun _ => True) (trivial) ((first
        | (go_at_call 70; with_reducible refine H1.out.mono ?_; rintro e w5 ⟨l5, rfl, hO5, hb5, hz5, hA5⟩; clear H1)
        | (go_at_call 70; with_reducible refine (DAdd_any w0 l5 _ _ 3 (b.drop J) _ hO5 HD.out hb5 HLD.out 0 0 w (Nat.zero_le _) (Aside.none _ _ _)).mono ?_; rintro e w6 ⟨l6, rfl, hO6, hb6, hz6, hA6⟩)))
      go_wp2_with fail
      go_ret
      refine ⟨_, rfl, ?_, hb6⟩
      rw [← HG.out, HF.out, ← List.append_assoc]
      exact hO6
end
end Go.Proofs.Ytfldheegebopoaa

namespace Go.Proofs.Ytfldheegebopoaa
open Go.RowKit

section
set_option maxRecDepth 100000
set_option maxHeartbeats 4000000
theorem DScript_any (va vb : Value) (a b : List (List UInt8)) (w : World) (ha : Sl w va (strCells a)) (hb : Sl w vb (strCells b)) (hal : a.length ≤ 1000000) (hbl : b.length ≤ 1000000) :
    Calls Try.prog 65 #[va, vb] w fun e w' => ∃ l, e = .returned l ∧ OwnE w' w.heap.size l (scriptS a b) ∧ Below w.heap.size w w' := by
  obtain ⟨aa, ca, rfl⟩ := ha.form
  obtain ⟨ab, cb, rfl⟩ := hb.form
  have HAl := hid (DAlike_any _ _ a b w ha hb hal)
  rw [strCells_length] at ha hb HAl ⊢
  rw [strCells_length] at HAl ⊢
  have HA := hid ha
  have HB := hid hb
  have HL := hid (And.intro hal hbl)
  clear ha hb
  go_enter Try.func65, Try.ntmps65
  go_wp2_with fail
  refine HAl.out.mono ?_
  rintro e w1 ⟨k, rfl, ⟨hka, hkb, hE, hmax⟩, hb1⟩
  have HS := hid (script_behind hE hmax)
  obtain ⟨ho, tc, rt, ht⟩ := cutS_to HA.out k hka
  obtain ⟨fo, fc, rf, hf⟩ := cutS_from HA.out k hka
  obtain ⟨so, sc, rs, hs⟩ := cutS_from HB.out k hkb
  have k0 : (0 : Int) ≤ (k : Int) := Int.natCast_nonneg _
  have k1 : (k : Int) ≤ (a.length : Int) := by omega
  have k2 : (k : Int) ≤ (b.length : Int) := by omega
  obtain ⟨E, hEE⟩ : ∃ E, (a.take k).map (fun x => ((1 : Int), x)) = E := ⟨_, rfl⟩
  obtain ⟨c, hc⟩ : ∃ c, a.drop k = c := ⟨_, rfl⟩
  obtain ⟨d, hd⟩ : ∃ d, b.drop k = d := ⟨_, rfl⟩
  obtain ⟨p, hp⟩ : ∃ p, a.length - k = p := ⟨_, rfl⟩
  obtain ⟨q, hq⟩ : ∃ q, b.length - k = q := ⟨_, rfl⟩
  have HCP := hid (show c.length = p by rw [← hc, List.length_drop]; exact hp)
  have HDQ := hid (show d.length = q by rw [← hd, List.length_drop]; exact hq)
  have HEL := hid (show E.length ≤ 1000000 by rw [← hEE, List.length_map, List.length_take]; omega)
  have HPQ := hid (show p ≤ 1000000 ∧ q ≤ 1000000 by omega)
  rw [hEE, hc, hd] at HS
  rw [hc, hp] at hf
  rw [hd, hq] at hs
  rw [hp] at rf
  rw [hq] at rs
  have HTK := hid ht
  have HC := hid hf
  have HD := hid hs
  have H1 := hid (DAdd_any w (.slice none 0 0) _ [] 1 (a.take k) w1 (OwnE.nil _ _) ht hb1 (by rw [List.length_take]; simp; omega) 0 0 w (Nat.zero_le _) (Aside.none _ _ _))
  rw [hEE] at H1
  clear ht hf hs hE hmax hEE hc hd hp hq HAl hka hkb
  go_wp2_with (go_at_call 70; refine H1.out.mono ?_; rintro e w2 ⟨l2, rfl, hO2, hb2, hz2, hA2⟩; clear H1 hA2 hz2; have HO2 := hid hO2; clear hO2)
  go_quiet (fail)
  have hO3 := hid (HO2.out.drew nq)
  have hb3 : Below w.heap.size w (w2.drewN nq) := below_step hb2 (below_drewN _ _) hb2.size
  clear HO2 hb2
  generalize w2.drewN nq = w3 at hO3 hb3 ⊢
  rw [List.nil_append] at hO3
  by_cases hlong : 400 < p ∨ 400 < q
  · have HR := hid (show scriptS a b = E ++ ((c.map fun x => ((2 : Int), x)) ++ d.map fun x => ((3 : Int), x)) by
      rw [HS.out, restS, if_pos (show tooLong c d by unfold tooLong; rw [HCP.out, HDQ.out]; exact hlong)])
    have hsplit : (400 : Int) < (p : Int) ∨ (¬ (400 : Int) < (p : Int) ∧ (400 : Int) < (q : Int)) := by omega
    clear hlong HS
    have H2 := hid (DAdd_any w _ _ E 2 c w3 hO3.out HC.out hb3 (by have h1 := HEL.out; have h2 := HPQ.out.1; rw [HCP.out]; omega) 0 0 w (Nat.zero_le _) (Aside.none _ _ _))
    have HLD := hid (show (E ++ c.map fun x => ((2 : Int), x)).length + d.length ≤ 4000000 by have h1 := HEL.out; have h2 := HPQ.out; rw [List.length_append, List.length_map, HCP.out, HDQ.out]; omega)
    rcases hsplit with hs1 | ⟨hs1, hs2⟩
    all_goals
      go_wp2_with (first
        | (go_at_call 70; with_reducible refine H2.out.mono ?_; rintro e w5 ⟨l5, rfl, hO5, hb5, hz5, hA5⟩; clear H2)
        | (go_at_call 70; with_reducible refine (DAdd_any w l5 _ _ 3 d _ hO5 HD.out hb5 HLD.out 0 0 w (Nat.zero_le _) (Aside.none _ _ _)).mono ?_; rintro e w6 ⟨l6, rfl, hO6, hb6, hz6, hA6⟩))
      go_ret
      refine ⟨_, rfl, ?_, hb6⟩
      rw [HR.out, ← List.append_assoc]
      exact hO6
  · have HR := hid (show scriptS a b = E ++ goS c d by
      rw [HS.out, restS, if_neg (show ¬ tooLong c d by unfold tooLong; rw [HCP.out, HDQ.out]; exact hlong)])
    have hs1 : ¬ (400 : Int) < (p : Int) := by omega
    have hs2 : ¬ (400 : Int) < (q : Int) := by omega
    have H2 := hid (DWalk_any w _ _ _ E c d w3 hO3.out HC.out HD.out hb3 HEL.out (by rw [HCP.out]; omega) (by rw [HDQ.out]; omega))
    clear hlong HS
    go_wp2_with (go_at_call 71; refine H2.out.mono ?_; rintro e w6 ⟨l6, rfl, hO6, hb6⟩)
    go_ret
    refine ⟨_, rfl, ?_, hb6⟩
    rw [HR.out]
    exact hO6
end
end Go.Proofs.Ytfldheegebopoaa

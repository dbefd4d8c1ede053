/-
  The document's own diff (rickref05): the sides of a script. What two lists have in common, with one end for both; scripts behind a common beginning (mathematics). A range over a function, where the body must know which round it is: the rounds are numbered, and the k-th is handed enc k. Regions that draw their order within a round. Nothing of the program. Rows of numbers that are filled from behind (fill). slices.Backward over texts: what it hands its rounds. How many lines two lists begin and end with (alike, alikeAtEnd); edits for each of some lines (add). What two lists have in common, by two rows (between). Lists of texts, cut. Common (landed).
-/
import Derived.Test.YtnpgfbgnbonhfaaG6
import Derived.Test.YtnpgfbgnbonhfaaStr
import Derived.Test.YtnpgfbgnbonhfaaDifM
import Derived.RangeFuncNested
import Derived.RangeFuncBound
import Derived.RangeFuncCalls
import Derived.RangeFuncLeaves
import Derived.Shelf.Abstract
import Derived.Shelf.RegionOpen
import Derived.WalkKit
import Derived.OwnWalkIn
import Derived.TacticsInMore
import Derived.LoopNIn
import Derived.LoopIn
import Derived.OrdersIn
import Derived.Deep.RegionHeld3
import Derived.Deep.LoopGhost
import Derived.Deep.DeepCutAuto
import Derived.Deep.CutRange
import Derived.Test.YtnpgfbgnbonhfaaHelpS
import Derived.Test.YtnpgfbgnbonhfaaLaw3
namespace Go.Proofs.Ytnpgfbgnbonhfaa
open Go.RowKit

theorem sideS_snoc (k : Int) (l : List (Int × List UInt8)) (i : Nat) (e : Int × List UInt8) (h : l[i]? = some e) : sideS k (l.take (i + 1)) = if e.1 = 1 ∨ e.1 = k then sideS k (l.take i) ++ [e.2] else sideS k (l.take i) := by
  rw [take_snoc h, sideS_append, sideS_cons, sideS_nil]
  split
  · rfl
  · simp
theorem sideS_le (k : Int) (l : List (Int × List UInt8)) : (sideS k l).length ≤ l.length := by
  unfold sideS
  rw [List.length_map]
  exact List.length_filter_le _ _


end Go.Proofs.Ytnpgfbgnbonhfaa

namespace Go.Proofs.Ytnpgfbgnbonhfaa

section
variable {α : Type}
theorem lcs_dropLast {s a : List α} {x : α} (h : s.Sublist (a ++ [x])) : s.dropLast.Sublist a := by
  obtain ⟨s1, s2, rfl, h1, h2⟩ := List.sublist_append_iff.1 h
  rcases s2 with _ | ⟨y, _ | ⟨z, s3⟩⟩
  · rw [List.append_nil]
    exact (List.dropLast_sublist s1).trans h1
  · rw [List.dropLast_concat]
    exact h1
  · have := h2.length_le
    simp at this
theorem take_one_more {a b : List α} {k : Nat} {x : α} (h : a.take k = b.take k) (ha : a[k]? = some x) (hb : b[k]? = some x) : a.take (k + 1) = b.take (k + 1) := by
  rw [List.take_add_one, List.take_add_one, h, ha, hb]
theorem drop_one_more {a b : List α} {i j : Nat} {x : α} (h : a.drop (i + 1) = b.drop (j + 1)) (ha : a[i]? = some x) (hb : b[j]? = some x) : a.drop i = b.drop j := by
  obtain ⟨q1, e1⟩ := List.getElem?_eq_some_iff.1 ha
  obtain ⟨q2, e2⟩ := List.getElem?_eq_some_iff.1 hb
  rw [List.drop_eq_getElem_cons q1, List.drop_eq_getElem_cons q2, e1, e2, h]
end

section
variable {α : Type} [DecidableEq α]
theorem lcs_snoc (a b : List α) (x : α) : lcs (a ++ [x]) (b ++ [x]) = lcs a b + 1 := by
  apply Nat.le_antisymm
  · obtain ⟨s, h1, h2, h3⟩ := lcs_there (a ++ [x]) (b ++ [x])
    have := lcs_most a b s.dropLast (lcs_dropLast h1) (lcs_dropLast h2)
    rw [List.length_dropLast] at this
    omega
  · obtain ⟨s, h1, h2, h3⟩ := lcs_there a b
    have := lcs_most (a ++ [x]) (b ++ [x]) (s ++ [x]) (h1.append (List.Sublist.refl _)) (h2.append (List.Sublist.refl _))
    rw [List.length_append] at this
    simp at this
    omega
theorem lcs_suffix (l a b : List α) : lcs (a ++ l) (b ++ l) = lcs a b + l.length := by
  induction l generalizing a b with
  | nil => simp
  | cons x l ih =>
    have := ih (a ++ [x]) (b ++ [x])
    rw [List.append_assoc, List.append_assoc, List.singleton_append, lcs_snoc] at this
    rw [this, List.length_cons]
    omega
/-- head and tail off -/
theorem lcs_core {a b : List α} {k t : Nat} (h : a.take k = b.take k) (hka : k ≤ a.length) (ht : (a.drop k).drop ((a.drop k).length - t) = (b.drop k).drop ((b.drop k).length - t)) (h1 : t ≤ (a.drop k).length) :
    lcs a b = k + lcs ((a.drop k).take ((a.drop k).length - t)) ((b.drop k).take ((b.drop k).length - t)) + t := by
  have e1 : lcs a b = k + lcs (a.drop k) (b.drop k) := by
    have := lcs_prefix (a.take k) (a.drop k) (b.drop k)
    rw [List.take_append_drop, h, List.take_append_drop, ← h, List.length_take, Nat.min_eq_left hka] at this
    exact this
  have e2 := lcs_suffix ((a.drop k).drop ((a.drop k).length - t)) ((a.drop k).take ((a.drop k).length - t)) ((b.drop k).take ((b.drop k).length - t))
  have e3 : ((a.drop k).drop ((a.drop k).length - t)).length = t := by rw [List.length_drop]; omega
  rw [List.take_append_drop, ht, List.take_append_drop, ← ht, e3] at e2
  rw [e1, e2]
  omega
/-- the script behind what both begin with -/
theorem script_behind {a b : List α} {k : Nat} (h : a.take k = b.take k) (hmax : ∀ x y, a[k]? = some x → b[k]? = some y → x ≠ y) : scriptS a b = ((a.take k).map fun x => ((1 : Int), x)) ++ restS (a.drop k) (b.drop k) := by
  have e := scriptS_prefix (a.take k) (a.drop k) (b.drop k)
  rw [List.take_append_drop, h, List.take_append_drop, ← h] at e
  rw [e]
  congr 1
  by_cases h1 : k < a.length
  · by_cases h2 : k < b.length
    · rw [List.drop_eq_getElem_cons h1, List.drop_eq_getElem_cons h2, scriptS_cons, if_neg (hmax _ _ (List.getElem?_eq_getElem h1) (List.getElem?_eq_getElem h2))]
    · rw [List.drop_of_length_le (l := b) (by omega), scriptS_nil_right]
  · rw [List.drop_of_length_le (l := a) (by omega), scriptS_nil_left]
end
end Go.Proofs.Ytnpgfbgnbonhfaa

namespace Go.Proofs.Ytnpgfbgnbonhfaa
open Go.RowKit

/-! ### Regions within a round -/
/-- Q, but no panic, and the machine's room never runs out. -/
def NoOut (Q : Exit → Act → World → Prop) : Exit → Act → World → Prop
  | .outgrown, _, _ => False
  | .panic _, _, _ => False
  | e, a, w => Q e a w
theorem NoOut.normal {Q : Exit → Act → World → Prop} {a : Act} {w : World} (h : Q .normal a w) : NoOut Q .normal a w := h
section
variable {P : Program} {ops : Array Oper} {Q : Exit → Act → World → Prop} {l m : Nat}
theorem op_round {i : Nat} {K : Act → World → Prop} {a : Act} {w : World} (hnd : ∀ o, ops[i]? = some o → ∀ c, o.op ≠ .defer c) (h : wpOp P ops (NoOut Q) i K a w) :
    wpOpIn (Fence.wide.inRound l) m P ops Q i K a w := by
  have hno : ¬ LetsOut (NoOut Q) := fun ⟨_, _, h⟩ => h
  unfold wpOp at h
  unfold wpOpIn
  cases ho : ops[i]? with
  | none => simpa [ho] using h
  | some o =>
    simp only [ho] at h ⊢
    by_cases hw : Region.wanted o (yielded ops a.tmps) = true
    · simp only [hw, if_true] at h ⊢
      rcases h with h | ⟨_, h⟩
      · refine ⟨fun _ _ => trivial, ?_⟩
        rw [Oper.semAt_eq _ _ _ (hnd o ho)]
        unfold Oper.wp at h
        generalize (execOp a.eval o).run P w = r at h ⊢
        cases r with
        | ok n w' =>
          cases n <;> simp only [Oper.upon, Oper.uponIn] at h ⊢
          case value => exact h
          case skip => exact h
          case defer => exact h
          case enter f args =>
            refine ⟨(by intro hd; cases hd), CallsIn.inRound l ((callsIn_wide.2 h).mono ?_)⟩
            rintro e w2 he
            cases e with
            | returned v => exact he
            | panicked c => exact (he : False).elim
            | outgrown => exact absurd he hno
          case row row args =>
            refine ⟨(by intro hd; cases hd), fun c cs _ => ?_⟩
            obtain ⟨v, w1, r, s⟩ := h c cs
            exact ⟨v, w1, r, stepsIn_wide.2 s⟩
        | halt x w' =>
          cases x <;> simp only [Oper.upon, Oper.uponIn] at h ⊢
          case panic => exact (h : False).elim
      · exact absurd h hno
    · simp only [hw, if_false, Bool.false_eq_true] at h ⊢
      exact ⟨fun _ _ => trivial, h⟩
theorem any_round (hnd : ∀ (i : Nat) (o : Oper), ops[i]? = some o → ∀ c, o.op ≠ .defer c) : ∀ (fuel : Nat) (listed : Array Bool) (a : Act) (w : World), wpAny P .any ops (NoOut Q) fuel listed a w → wpAnyIn (Fence.wide.inRound l) m P .any ops Q fuel listed a w
  | 0, _, _, _, h => h
  | fuel + 1, _, _, _, h => ⟨h.1, fun i hi => op_round (hnd i) (wpOp_mono (fun a' w' h' => any_round hnd fuel _ a' w' h') (h.2 i hi))⟩
/-- A region that draws its order, within a round: walked as one outside of it, S held. -/
theorem region_round {id : Nat} {a : Act} {w : World} (S : World → Prop) (hm : P.follows .mixedOrders = true) (hnd : (ops.all fun o => match o.op with | .defer _ => false | _ => true) = true)
    (h : wpAnyH P .any ops (NoOut Q) S ops.size (Array.replicate ops.size false) a w.drew) : (Code.region id ops true).wpIn (Fence.wide.inRound l) m P Q a w := by
  refine wpIn_region_any hm (any_round (fun i o ho c hc => ?_) _ _ _ _ (wpAny_of_held _ _ _ _ h))
  obtain ⟨hi, e⟩ := Array.getElem?_eq_some_iff.1 ho
  have := Array.all_eq_true.1 hnd i hi
  rw [e, hc] at this
  cases this
end

/-! ### The rounds, numbered -/
/-- What an iterator does, whatever its rounds are: N rounds, the k-th handed enc k, if no round wants to leave and each keeps what Kp says. -/
def Rounds (P : Program) (gf : Nat) (lb : Array Value) (N : Nat) (enc : Nat → Array Value) (Kp : World → World → Prop) (w : World) : Prop :=
  ∀ (l : Nat) (J : Nat → World → Prop) (W : World), Below w.heap.size w W →
    (∀ k W1, k < N → J k W1 → YieldAt Fence.wide 1 P l (enc k) W1 fun e W' => e = .returned (.bool true) ∧ J (k + 1) W' ∧ Kp W1 W') →
    J 0 W → CallsIn Fence.wide 2 P gf (#[.func (.yield l) #[] #[]] ++ lb) W fun e W' => (∃ v, e = .returned v) ∧ J N W'
/-- how a round's body is left -/
def roundsPost (B : Nat) (Kp : World → World → Prop) (I : World → Prop) (W : World) : Exit → Act → World → Prop
  | .normal, _, W' => KeepsFrom B W W' ∧ Kp W W' ∧ I W'
  | _, _, _ => False

theorem wpIn_rounds {P : Program} {g : Operand} {ps : Array Tmp} {assign body : Code} {Q : Exit → Act → World → Prop} {a : Act} {w : World} {gf : Nat} {lb : Array Value} {N : Nat} {enc : Nat → Array Value} {Kp : World → World → Prop} {w0 : World}
    (hg : a.eval g = .func (.func gf) #[] lb) (eg : ∀ args w, (callFunc gf args).run P w = .ok (.enter gf args) w) (hseq : Rounds P gf lb N enc Kp w0) (hb0 : Below w0.heap.size w0 w) (hps : ∀ k, (enc k).size = ps.size)
    (hKt : ∀ {A B C : World}, Kp A B → Kp B C → Kp A C) (hKb : ∀ (W : World) (l : Nat) (o : Obj), w.heap.size ≤ l → l < W.heap.size → Kp W (W.putObj l o))
    (I : Nat → World → Prop) (hI : OwnFrom w.heap.size I) (h0 : I 0 w) (a₁ : Nat → Act)
    (hassign : ∀ (l k : Nat) (W : World) (K : Act → World → Prop), K (a₁ k) W → assign.wpIn (Fence.wide.inRound l) 1 P (Exit.then K (fun _ _ _ => False)) { tmps := (ps.zip (enc k)).foldl (fun t (p, v) => t.setIfInBounds p v) a.tmps, defers := [] } W)
    (hbody : ∀ (l k : Nat) (W : World), k < N → I k W → body.wpIn (Fence.wide.inRound l) 1 P (roundsPost w.heap.size Kp (I (k + 1)) W) (a₁ k) W)
    (hdone : ∀ (D : Nat) (W : World), w.heap.size ≤ D → I N W → W.heap[D]? = some (.deferred (some [])) → Q .normal { a with defers := { target := .collected D, args := #[] } :: a.defers } W) :
    (Code.rangeFunc g ps assign body).wpIn Fence.wide 3 P Q a w := by
  refine wpIn_rangeFunc fun fn _ => ?_
  have hsz : ∀ o : Obj, (w.alloc o).heap.size = w.heap.size + 1 := fun o => by simp
  -- the record, in its three states
  let R : LoopState → Loop := fun st => { state := st, pending := none, fn, tmps := a.tmps, params := ps, assign, body, defers := w.heap.size }
  obtain ⟨W1, hW1⟩ : ∃ W1, (w.alloc (.deferred (some []))).alloc (.loop (R .ready)) = W1 := ⟨_, rfl⟩
  have rec1 : W1.heap[w.heap.size + 1]? = some (.loop (R .ready)) := by
    have := World.alloc_heap_new (w.alloc (.deferred (some []))) (.loop (R .ready))
    rw [hsz, hW1] at this
    exact this
  have def1 : W1.heap[w.heap.size]? = some (.deferred (some [])) := by
    rw [← hW1]
    exact (Below.heap_alloc _ _ _ (by rw [hsz]; omega)).trans (World.alloc_heap_new w _)
  have bel1 : Below w0.heap.size w0 W1 := by
    rw [← hW1]
    exact hb0.trans (((Below.refl _ w).alloc hb0.size _).alloc (by rw [hsz]; have := hb0.size; omega) _)
  have inv1 : I 0 W1 := by
    rw [← hW1]
    exact hI.alloc _ (hI.alloc _ h0)
  refine ⟨w.heap.size + 1, [{ target := .collected w.heap.size, args := #[] }], W1, { target := .fn (.func gf) lb, args := #[.func (.yield (w.heap.size + 1)) #[] #[]] }, W1, gf, #[.func (.yield (w.heap.size + 1)) #[] #[]] ++ lb, W1, ?_, ?_, fun _ _ => trivial, ?_, (by intro h; cases h), ?_⟩
  · exact (run_enterLoop_outer fn a.tmps ps assign body).trans (by rw [← hW1])
  · simp only [resolve, hg]
    simp [go_sem]
  · simp [invoke, go_sem, eg]
  · refine (hseq (w.heap.size + 1) (fun k W => I k W ∧ W.heap[w.heap.size + 1]? = some (.loop (R .ready)) ∧ W.heap[w.heap.size]? = some (.deferred (some []))) W1 bel1 ?_ ⟨inv1, rec1, def1⟩).mono ?_
    · rintro k W hk ⟨hi, hrec, hdef⟩
      have hlt := (Array.getElem?_eq_some_iff.1 hrec).1
      refine ⟨fn, _, assign, body, run_yield hrec (hps k), roundIn_of_wpIn trivial (hassign _ k W _ ⟨_, run_beginRound hrec rfl, ?_⟩)⟩
      obtain ⟨Wb, hWb⟩ : ∃ Wb, W.putObj (w.heap.size + 1) (.loop { R .ready with state := .busy }) = Wb := ⟨_, rfl⟩
      have hib : I k Wb := by
        rw [← hWb]
        exact hI.putObj _ hi (by omega) hrec rfl
      have rb : Wb.heap[w.heap.size + 1]? = some (.loop { R .ready with state := .busy }) := by
        rw [← hWb]
        exact World.putObj_heap_same hlt
      have db : Wb.heap[w.heap.size]? = some (.deferred (some [])) := by
        rw [← hWb]
        exact (World.putObj_heap_other (by omega)).trans hdef
      have kb : Kp W Wb := by
        rw [← hWb]
        exact hKb W _ _ (by omega) hlt
      refine wpIn_mono (show body.wpIn (Fence.wide.inRound (w.heap.size + 1)) 1 P (roundsPost w.heap.size Kp (I (k + 1)) Wb) (a₁ k) _ from ?_) ?_
      · have := hbody (w.heap.size + 1) k Wb hk hib
        rw [← hWb] at this ⊢
        exact this
      · rintro e a3 W3 hp
        cases e with
        | normal =>
          obtain ⟨kf, kp, hi3⟩ := hp
          have r3 := kf.same _ _ (by omega) rb rfl
          have hlt3 := (Array.getElem?_eq_some_iff.1 r3).1
          have d3 := kf.same _ _ (Nat.le_refl _) db rfl
          refine ⟨_, _, run_endRound none r3, rfl, ⟨hI.putObj _ hi3 (by omega) r3 rfl, ?_, ?_⟩, hKt (hKt kb kp) (hKb _ _ _ (by omega) hlt3)⟩
          · exact World.putObj_heap_same hlt3
          · exact (World.putObj_heap_other (by omega)).trans d3
        | _ => exact (hp : False).elim
    · rintro e W2 ⟨⟨v, rfl⟩, hi, hrec, hdef⟩
      refine ⟨none, _, run_endLoop hrec (by show LoopState.ready ≠ .busy; intro h; cases h), ?_⟩
      exact hdone _ _ (Nat.le_refl _) (hI.putObj _ hi (by omega) hrec rfl) ((World.putObj_heap_other (by omega)).trans hdef)
end Go.Proofs.Ytnpgfbgnbonhfaa

namespace Go.Proofs.Ytnpgfbgnbonhfaa
open Go.RowKit

/-- All that a step turns is what one block holds. -/
structure Only (br : Nat) (w w' : World) : Prop where
  os : w'.os = w.os
  tape : w'.tape = w.tape
  output : w'.output = w.output
  size : w'.heap.size = w.heap.size
  block : ∀ k, k ≠ br → w'.heap[k]? = w.heap[k]?
theorem Only.refl (br : Nat) (w : World) : Only br w w := ⟨rfl, rfl, rfl, rfl, fun _ _ => rfl⟩
theorem Only.drewN {br : Nat} {w wr : World} (h : Only br w wr) (q : Nat) : Only br w (wr.drewN q) := ⟨h.os, h.tape, h.output, h.size, h.block⟩
theorem Only.setCell {br : Nat} {w wr : World} (h : Only br w wr) (i : Nat) (u : Value) : Only br w (wr.setCell ⟨br, i, none⟩ u) :=
  ⟨h.os, h.tape, h.output, by simpa [World.setCell] using h.size, fun k hk => (Below.heap_setCell _ _ _ _ hk).trans (h.block k hk)⟩
theorem Only.below {br n₀ : Nat} {w w' : World} (h : Only br w w') (hn : n₀ ≤ br) : Below n₀ w w' := ⟨h.os, h.tape, h.output, Nat.le_of_eq h.size.symm, fun k hk => h.block k (by omega)⟩

def mixL (f z : Nat → Value) (N K : Nat) : List Value := (List.range N).map fun k => if K ≤ k then f k else z k
theorem mixL_length (f z : Nat → Value) (N K : Nat) : (mixL f z N K).length = N := by simp [mixL]
theorem mixL_at {f z : Nat → Value} {N K k : Nat} (h : k < N) (hK : K ≤ k) : (mixL f z N K)[k]? = some (f k) := by simp [mixL, h, hK]
theorem mixL_lo {f z : Nat → Value} {N K k : Nat} (h : k < N) (hK : k < K) : (mixL f z N K)[k]? = some (z k) := by
  simp [mixL, h]
  omega
theorem mixL_set (f z : Nat → Value) (N K : Nat) (h : K < N) : (mixL f z N (K + 1)).set K (f K) = mixL f z N K := by
  apply List.ext_getElem
  · simp [mixL]
  · intro i h1 h2
    have hi : i < N := by simpa [mixL] using h2
    by_cases e : i = K
    · subst e
      simp [mixL]
    · rw [List.getElem_set_ne (fun h => e h.symm)]
      simp only [mixL, List.getElem_map, List.getElem_range]
      by_cases h3 : K ≤ i
      · rw [if_pos h3, if_pos (by omega)]
      · rw [if_neg h3, if_neg (by omega)]
theorem mixL_last (f z : Nat → Value) (N : Nat) (h : f N = z N) : (List.range (N + 1)).map z = mixL f z (N + 1) N := by
  apply List.ext_getElem
  · simp [mixL]
  · intro i h1 h2
    have hi : i < N + 1 := by simpa [mixL] using h2
    simp only [mixL, List.getElem_map, List.getElem_range]
    by_cases h3 : N ≤ i
    · rw [if_pos h3, show i = N by omega, h]
    · rw [if_neg h3]
theorem mixL_all (f z : Nat → Value) (N : Nat) : mixL f z N 0 = (List.range N).map f := by simp [mixL]

/-- a row of numbers -/
def rowL (q : IntKind) (g : Nat → Nat) (N : Nat) : List Value := (List.range N).map fun k => .int q (g k : Nat)
theorem rowL_at {q : IntKind} {g : Nat → Nat} {N k : Nat} (h : k < N) : (rowL q g N)[k]? = some (.int q (g k : Nat)) := by simp [rowL, h]
theorem rowL_zero (q : IntKind) (N : Nat) : List.replicate N (Value.int q 0) = rowL q (fun _ => 0) N := by
  apply List.ext_getElem
  · simp [rowL]
  · intro i h1 h2
    simp [rowL]
/-- what a line and all behind it have in common with the rests of another list, out of what all behind it has -/
structure Steps (x : List UInt8) (b : List (List UInt8)) (g h : Nat → Nat) : Prop where
  last : g b.length = 0
  same : ∀ k, b[k]? = some x → g k = h (k + 1) + 1
  other : ∀ k y, b[k]? = some y → x ≠ y → g k = max (h k) (g (k + 1))
theorem steps_lcs (x : List UInt8) (a b : List (List UInt8)) : Steps x b (fun k => lcs (x :: a) (b.drop k)) (fun k => lcs a (b.drop k)) := by
  refine ⟨by simp [lcs_nil_right], fun k hk => ?_, fun k y hk hne => ?_⟩
  · obtain ⟨q2, e2⟩ := List.getElem?_eq_some_iff.1 hk
    show lcs (x :: a) (b.drop k) = lcs a (b.drop (k + 1)) + 1
    rw [List.drop_eq_getElem_cons q2, e2, lcs_cons_eq]
  · obtain ⟨q2, e2⟩ := List.getElem?_eq_some_iff.1 hk
    show lcs (x :: a) (b.drop k) = max (lcs a (b.drop k)) (lcs (x :: a) (b.drop (k + 1)))
    rw [List.drop_eq_getElem_cons q2, e2, lcs_cons_ne hne]


section
set_option maxRecDepth 100000
set_option maxHeartbeats 4000000
structure FillUp32 (br m : Nat) (g z : Nat → Nat) (K : Nat) (w wr : World) : Prop where
  only : Only br w wr
  cur : wr.heap[br]? = some (.cells (mixL (fun k => .int .u32 (g k : Nat)) (fun k => .int .u32 (z k : Nat)) (m + 1) K).toArray 101 (0, 0))
theorem FillUp32.put {br m : Nat} {g z : Nat → Nat} {K : Nat} {w wr w1 : World} (h : FillUp32 br m g z (K + 1) w wr) (hK : K < m + 1) (hd : ∃ q, w1 = wr.drewN q) (u : Value) (hu : u = .int .u32 (g K : Nat)) : FillUp32 br m g z K w (w1.setCell ⟨br, K, none⟩ u) := by
  subst hu
  obtain ⟨q, rfl⟩ := hd
  refine ⟨(h.only.drewN q).setCell _ _, ?_⟩
  have := blk_set (i := K) (u := .int .u32 (g K : Nat)) (show (wr.drewN q).heap[_]? = _ from h.cur)
  rw [List.setIfInBounds_toArray, mixL_set (fun k => .int .u32 (g k : Nat)) _ _ _ hK] at this
  exact this
theorem fill32_any (w0 : World) (br bb m : Nat) (x : List UInt8) (vb : Value) (b : List (List UInt8)) (g h z : Nat → Nat) (w : World) (hm : b.length = m) (hbl : m ≤ 1000000) (hb : Sl w0 vb (strCells b)) (hbel : Below w0.heap.size w0 w) (hlo : w0.heap.size ≤ br) (hne : bb ≠ br)
    (hrow : w.heap[br]? = some (.cells (rowL .u32 z (m + 1)).toArray 101 (0, 0))) (hz : z m = 0) (hbeh : w.heap[bb]? = some (.cells (rowL .u32 h (m + 1)).toArray 101 (0, 0)))
    (hst : Steps x b g h) (hh : ∀ k, h k ≤ 1000000) (hg : ∀ k, g k ≤ 1000000) :
    Calls Try.prog 63 #[.slice (some ⟨br, 0, none⟩) (m + 1) (m + 1), .slice (some ⟨bb, 0, none⟩) (m + 1) (m + 1), .string ⟨x.toArray⟩, vb] w fun e w' => (∃ v, e = .returned v) ∧ Only br w w' ∧ w'.heap[br]? = some (.cells (rowL .u32 g (m + 1)).toArray 101 (0, 0)) := by
  obtain ⟨ab, cb, rfl⟩ := hb.form
  rw [strCells_length, hm] at hb ⊢
  obtain ⟨m1, hm1⟩ : ∃ m1, m + 1 = m1 := ⟨_, rfl⟩
  have h0 : FillUp32 br m g z m w w := by
    refine ⟨Only.refl _ _, ?_⟩
    rw [← mixL_last _ _ _ (show Value.int .u32 (g m : Nat) = .int .u32 (z m : Nat) by rw [hz, ← hm, hst.last])]
    exact hrow
  have HF0 := hid h0
  have HST := hid hst
  have HH := hid hh
  have HG := hid hg
  have HML := hid hm
  have HM1 := hid hm1
  have HB := hid hbeh
  have m0 : (0 : Int) ≤ (m : Int) := Int.natCast_nonneg _
  have mw : IntKind.i64.wrap ((m : Int) - 1) = (m : Int) - 1 := IntWalk.i64_in _ (by omega)
  rw [hm1]
  clear h0 hst hh hg hm hm1 hrow hbeh hz
  go_enter Try.func63, Try.ntmps63
  go_wp2_with fail
  go_loopg [8] m (fun g' k wr => ∃ K : Nat, K ≤ m ∧ K = g' ∧ k = .int .i64 ((K : Int) - 1) ∧ Hid (FillUp32 br m g z K w wr))
  case atStart => exact ⟨m, Nat.le_refl _, rfl, rfl, HF0⟩
  case round =>
    obtain ⟨K, hK, rfl, rfl, HU⟩ := hrel
    by_cases hK0 : K = 0
    · subst hK0
      have hneg : ¬ (0 : Int) ≤ ((0 : Nat) : Int) - 1 := by omega
      go_wp2
      go_end0
      refine ⟨⟨_, rfl⟩, HU.out.only, ?_⟩
      have := HU.out.cur
      rw [mixL_all, HM1.out] at this
      exact this
    · obtain ⟨k, rfl⟩ : ∃ k, K = k + 1 := ⟨K - 1, by omega⟩
      rw [show ((k + 1 : Nat) : Int) - 1 = (k : Int) by omega]
      have k0 : (0 : Int) ≤ (k : Int) := Int.natCast_nonneg _
      have kw : IntKind.i64.wrap ((k : Int) - 1) = (k : Int) - 1 := IntWalk.i64_in _ (by omega)
      have hkm : k < m := by omega
      obtain ⟨a2, y, rfl, hcy, hy⟩ := (Sl.old hb (hbel.trans (HU.out.only.below hlo))).strAt' (i := k) (by rw [HML.out]; exact hkm)
      have km1 : (k : Int) < (m : Int) := by omega
      obtain ⟨k2, hk2'⟩ : ∃ k2, k + 1 = k2 := ⟨_, rfl⟩
      have kw2 : IntKind.i64.wrap ((k : Int) + 1) = (k2 : Int) := (IntWalk.i64_in _ (by omega)).trans (by omega)
      have hrow := (HU.out.only.block bb hne).trans HB.out
      have hcur := HU.out.cur
      have cr0 := blk_cell (i := k) hrow (by rw [List.getElem?_toArray]; exact rowL_at (by omega))
      have cr1 := blk_cell (i := k2) hrow (by rw [List.getElem?_toArray]; exact rowL_at (by omega))
      have cc1 := blk_cell (i := k2) hcur (by rw [List.getElem?_toArray]; exact mixL_at (by omega) (by omega))
      have cc0 := blk_cell (i := k) hcur (by rw [List.getElem?_toArray]; exact mixL_lo (by omega) (by omega))
      have zc0 := blk_free (i := k) hcur
      have hm1 : (k2 : Int) < (m1 : Int) := by have := HM1.out; omega
      have hm2 : (k : Int) < (m1 : Int) := by have := HM1.out; omega
      have k20 : (0 : Int) ≤ (k2 : Int) := Int.natCast_nonneg _
      by_cases hxy : x = y
      · subst hxy
        have hbe : (x == x) = true := by simp
        have hfe := HST.out.same k hy
        have hfm := HH.out (k + 1)
        rw [hk2'] at hfe hfm
        obtain ⟨V, hV⟩ : ∃ V, h k2 = V := ⟨_, rfl⟩
        rw [hV] at hfe hfm cr1
        have HFE2 := hid hfe
        have HK2 := hid hk2'
        have vw : IntKind.u32.wrap ((V : Int) + 1) = (V : Int) + 1 := IntWalk.u32_in _ (by omega)
        clear hfe hV hrow hcur hk2' hy cr0 cc1
        go_wp2_with fail
        have R := HU.out.put (by omega) ⟨0, rfl⟩ (.int .u32 ((V : Int) + 1)) (by rw [HFE2.out]; rfl)
        go_roundg k
        case measure => omega
        case rel => exact ⟨k, by omega, rfl, rfl, hid R⟩
      · have hbe : (x == y) = false := by simpa using hxy
        have hfe := HST.out.other k y hy hxy
        have hfm0 := HH.out k
        have hfm1 := HG.out (k + 1)
        rw [hk2'] at hfe hfm1
        obtain ⟨V0, hV0⟩ : ∃ V, h k = V := ⟨_, rfl⟩
        obtain ⟨V1, hV1⟩ : ∃ V, g k2 = V := ⟨_, rfl⟩
        rw [hV0, hV1] at hfe
        rw [hV0] at hfm0 cr0
        rw [hV1] at hfm1 cc1
        have HFE2 := hid hfe
        clear hfe hV0 hV1 hrow hcur hk2' hy cr1 hxy
        go_wp2_with fail
        refine wp_region_still_tail 13 (by kernel_rfl) (by kernel_rfl) ?_
        simp only [List.take_succ_cons, List.take_zero, List.drop_succ_cons, List.drop_zero]
        have e2 : (wr).drew.cell? ⟨bb, k, none⟩ = _ := cr0
        have e5 : (wr).drew.cell? ⟨br, k2, none⟩ = _ := cc1
        have e3 : (wr).drew.cell? ⟨br, k, none⟩ = _ := cc0
        have e4 : (wr).drew.frozen? ⟨br, k, none⟩ = false := zc0
        have HQ := hid (show ∃ q, (wr).drew = wr.drewN q from ⟨1, rfl⟩)
        change wpStill _ _ (World.drew wr) (fun a' => wpList _ _ _ _ a' (World.drew wr)) _ _
        clear cr0 cc0 cc1 zc0 hcy
        generalize (wr).drew = w5 at e2 e3 e4 e5 HQ ⊢
        repeat still_step
        try refine wpStill_nil ?_
        go_wp2_with fail
        · rename_i hmx
          have R := HU.out.put (by omega) HQ.out (.int .u32 (V1 : Int)) (by rw [HFE2.out, Nat.max_eq_right (by omega)])
          go_roundg k
          case measure => omega
          case rel => exact ⟨k, by omega, rfl, rfl, hid R⟩
        · rename_i hmx
          have R := HU.out.put (by omega) HQ.out (.int .u32 (V0 : Int)) (by rw [HFE2.out, Nat.max_eq_left (by omega)])
          go_roundg k
          case measure => omega
          case rel => exact ⟨k, by omega, rfl, rfl, hid R⟩
end
end Go.Proofs.Ytnpgfbgnbonhfaa

namespace Go.Proofs.Ytnpgfbgnbonhfaa
open Go.RowKit

attribute [local go_sem] Oper.semAt_some

/-- What a round keeps: what lay below n₀, and the block Bs. -/
def KpB (n₀ Bs : Nat) (A B : World) : Prop := Below n₀ A B ∧ B.heap[Bs]? = A.heap[Bs]?
theorem KpB.refl (n₀ Bs : Nat) (A : World) : KpB n₀ Bs A A := ⟨Below.refl _ _, rfl⟩
theorem KpB.trans {n₀ Bs : Nat} {A B C : World} (h : KpB n₀ Bs A B) (k : KpB n₀ Bs B C) : KpB n₀ Bs A C := ⟨h.1.trans k.1, k.2.trans h.2⟩
theorem KpB.put {n₀ Bs l : Nat} (W : World) (o : Obj) (h1 : n₀ ≤ l) (h2 : Bs ≠ l) (hl : l < W.heap.size) : KpB n₀ Bs W (W.putObj l o) :=
  ⟨(Below.refl n₀ W).grown (grownBy_putObj' W l o) (by omega) (fun k e => by cases e; omega), World.putObj_heap_other h2⟩

section
set_option maxRecDepth 100000
set_option maxHeartbeats 2000000
theorem Back_any (ao : Option Addr) (n cap : Nat) (w : World) :
    Calls Try.prog 62 #[.slice ao n cap] w fun e w' => e = .returned (.func (.func 74) #[] #[.pointer (some ⟨w.heap.size, 0, none⟩)]) ∧ w' = w.alloc (.cells #[.slice ao n cap] 47) := by
  go_enter Try.func62, Try.ntmps62
  go_wp2
  go_ret
  exact ⟨rfl, rfl⟩

/-- what the k-th round is handed -/
def backEnc (a : List (List UInt8)) (k : Nat) : Array Value := #[.int .i64 ((a.length - 1 - k : Nat) : Int), .string ⟨(a[a.length - 1 - k]?.getD []).toArray⟩]
theorem back_rounds (w1 w : World) (Bs : Nat) (va : Value) (a : List (List UInt8)) (ha : Sl w1 va (strCells a)) (hb : Below w1.heap.size w1 w) (hBs : w.cell? ⟨Bs, 0, none⟩ = some va) (hn : a.length ≤ 1000000) :
    Rounds Try.prog 74 #[.pointer (some ⟨Bs, 0, none⟩)] a.length (backEnc a) (KpB w1.heap.size Bs) w := fun l J W hW hY h0 => by
  obtain ⟨ao, cap, rfl⟩ := ha.form
  rw [strCells_length] at ha hBs
  obtain ⟨n, hn'⟩ : ∃ n, a.length = n := ⟨_, rfl⟩
  rw [hn'] at ha hBs hn hY ⊢
  have HA := hid hn'
  have hBlt : Bs < w.heap.size := World.block_lt_of_cell? w _ hBs
  have hB1 : W.cell? ⟨Bs, 0, none⟩ = _ := (hW.cell (p := ⟨Bs, 0, none⟩) hBlt).trans hBs
  have HW1 := hid (hb.trans (hW.mono hb.size) : Below w1.heap.size w1 W)
  have HY := hid hY
  have n0 : (0 : Int) ≤ (n : Int) := Int.natCast_nonneg _
  have nw : IntKind.i64.wrap ((n : Int) - 1) = (n : Int) - 1 := IntWalk.i64_in _ (by omega)
  clear hY hn' hBs hW hb
  refine callsIn_of_wp Try.func74 rfl trivial ?_ rfl
  simp only [Try.ntmps74, List.size_toArray, List.length_cons, List.length_nil, Nat.reduceAdd, Nat.reduceSub, Array.replicate_succ, Array.replicate_zero, List.push_toArray, List.append_toArray, List.nil_append, List.cons_append]
  gi_wp2
  gi_loopw [3] (fun i wr => ∃ k : Nat, k ≤ n ∧ i = .int .i64 ((n : Int) - 1 - (k : Int)) ∧ Hid (J k wr) ∧ Hid (KpB w1.heap.size Bs W wr)) (fun i _ => (intOf i + 1).toNat)
  case atStart => exact ⟨0, Nat.zero_le _, by simp, hid h0, hid (KpB.refl _ _ _)⟩
  case round =>
    obtain ⟨k, hk, rfl, HJ, HK⟩ := hrel
    by_cases hlt : k < n
    · obtain ⟨j, hj⟩ : ∃ j, n - 1 - k = j := ⟨_, rfl⟩
      rw [show (n : Int) - 1 - (k : Int) = (j : Int) by omega]
      obtain ⟨fn, tmps, assign, body, hy, hR⟩ := HY.out k wr hlt HJ.out
      obtain ⟨a1, x, rfl, hcx, hx⟩ := (Sl.old ha (HW1.out.trans HK.out.1)).strAt' (i := j) (by rw [HA.out]; omega)
      rw [backEnc, HA.out, hj, hx, Option.getD_some] at hy
      have hB2 : wr.cell? ⟨Bs, 0, none⟩ = _ := (World.cell?_of_block (w := W) HK.out.2).trans hB1
      have j0 : (0 : Int) ≤ (j : Int) := Int.natCast_nonneg _
      have j1 : (j : Int) < (n : Int) := by omega
      have jw : IntKind.i64.wrap ((j : Int) - 1) = (j : Int) - 1 := IntWalk.i64_in _ (by omega)
      have HJ1 := hid hj
      have HR := hid hR
      clear hj hx hR
      gi_wp2
      refine HR.out.mono ?_
      rintro e W3 ⟨rfl, hJ3, hk3⟩
      have HJ3 := hid hJ3
      have HK3 := hid (HK.out.trans hk3)
      clear hJ3 hk3
      gi_wp2
      go_roundw
      case rel => exact ⟨k + 1, by omega, by have := HJ1.out; congr 1; omega, HJ3, HK3⟩
      case measure => simp [intOf]
    · obtain rfl : k = n := by omega
      have hneg : ¬ (0 : Int) ≤ (k : Int) - 1 - (k : Int) := by omega
      gi_wp2
      go_end0
      exact ⟨⟨_, rfl⟩, HJ.out⟩
end
end Go.Proofs.Ytnpgfbgnbonhfaa

namespace Go.Proofs.Ytnpgfbgnbonhfaa
open Go.RowKit

section
set_option maxRecDepth 100000
set_option maxHeartbeats 4000000
theorem DAlike_any (va vb : Value) (a b : List (List UInt8)) (w : World) (ha : Sl w va (strCells a)) (hb : Sl w vb (strCells b)) (hal : a.length ≤ 1000000) :
    Calls Try.prog 49 #[va, vb] w fun e w' => ∃ k : Nat, e = .returned (.int .i64 k) ∧ (k ≤ a.length ∧ k ≤ b.length ∧ a.take k = b.take k ∧ ∀ x y, a[k]? = some x → b[k]? = some y → x ≠ y) ∧ Below w.heap.size w w' := by
  obtain ⟨aa, ca, rfl⟩ := ha.form
  obtain ⟨ab, cb, rfl⟩ := hb.form
  rw [strCells_length] at ha hb ⊢
  rw [strCells_length]
  go_enter Try.func49, Try.ntmps49
  go_wp2_with fail
  go_loopg [5] a.length (fun g n wr => ∃ k : Nat, k ≤ a.length ∧ k ≤ b.length ∧ g = a.length - k ∧ n = .int .i64 k ∧ Hid (a.take k = b.take k) ∧ Below w.heap.size w wr)
  case atStart => exact ⟨0, Nat.zero_le _, Nat.zero_le _, rfl, rfl, hid rfl, Below.refl _ _⟩
  case round =>
    obtain ⟨k, hka, hkb, rfl, rfl, HE, hbel⟩ := hrel
    have hz := hbel.size
    have k0 : (0 : Int) ≤ (k : Int) := Int.natCast_nonneg _
    have kw : IntKind.i64.wrap ((k : Int) + 1) = (k : Int) + 1 := IntWalk.i64_in _ (by omega)
    by_cases h1 : k < a.length
    · have h1' : (k : Int) < (a.length : Int) := by omega
      by_cases h2 : k < b.length
      · have h2' : (k : Int) < (b.length : Int) := by omega
        obtain ⟨a1, x, rfl, hcx, hx⟩ := (Sl.old ha hbel).strAt' (i := k) h1
        obtain ⟨a2, y, rfl, hcy, hy⟩ := (Sl.old hb hbel).strAt' (i := k) h2
        by_cases hxy : x = y
        · subst hxy
          have hbe : (x == x) = true := by simp
          have HE' := hid (take_one_more HE.out hx hy)
          clear hx hy
          go_wp2_with fail
          go_quiet (fail)
          go_wp2_with fail
          go_roundg (a.length - (k + 1))
          case measure => omega
          case rel => exact ⟨k + 1, by omega, by omega, rfl, rfl, HE', below_step hbel (below_drewN _ _) hz⟩
        · have hbe : (x == y) = false := by simpa using hxy
          have HM := hid (show ∀ x y, a[k]? = some x → b[k]? = some y → x ≠ y from fun x' y' q1 q2 => by
            rw [hx] at q1
            rw [hy] at q2
            cases q1
            cases q2
            exact hxy)
          clear hx hy
          go_wp2_with fail
          go_quiet (fail)
          go_wp2_with fail
          go_ret
          exact ⟨k, rfl, ⟨hka, hkb, HE.out, HM.out⟩, below_step hbel (below_drewN _ _) hz⟩
      · have hn2 : ¬ (k : Int) < (b.length : Int) := by omega
        go_wp2_with fail
        go_quiet (fail)
        go_wp2_with fail
        go_ret
        exact ⟨k, rfl, ⟨hka, hkb, HE.out, fun x y _ q => absurd (List.getElem?_eq_some_iff.1 q).1 h2⟩, below_step hbel (below_drewN _ _) hz⟩
    · have hn1 : ¬ (k : Int) < (a.length : Int) := by omega
      go_wp2_with fail
      go_quiet (fail)
      go_wp2_with fail
      go_ret
      exact ⟨k, rfl, ⟨hka, hkb, HE.out, fun x y q _ => absurd (List.getElem?_eq_some_iff.1 q).1 h1⟩, below_step hbel (below_drewN _ _) hz⟩

theorem DTail_any (va vb : Value) (a b : List (List UInt8)) (w : World) (ha : Sl w va (strCells a)) (hb : Sl w vb (strCells b)) (hal : a.length ≤ 1000000) (hbl : b.length ≤ 1000000) :
    Calls Try.prog 50 #[va, vb] w fun e w' => ∃ k : Nat, e = .returned (.int .i64 k) ∧ (k ≤ a.length ∧ k ≤ b.length ∧ a.drop (a.length - k) = b.drop (b.length - k)) ∧ Below w.heap.size w w' := by
  obtain ⟨aa, ca, rfl⟩ := ha.form
  obtain ⟨ab, cb, rfl⟩ := hb.form
  rw [strCells_length] at ha hb ⊢
  rw [strCells_length]
  go_enter Try.func50, Try.ntmps50
  go_wp2_with fail
  go_loopg [5] a.length (fun g n wr => ∃ k : Nat, k ≤ a.length ∧ k ≤ b.length ∧ g = a.length - k ∧ n = .int .i64 k ∧ Hid (a.drop (a.length - k) = b.drop (b.length - k)) ∧ Below w.heap.size w wr)
  case atStart => exact ⟨0, Nat.zero_le _, Nat.zero_le _, rfl, rfl, hid (by simp), Below.refl _ _⟩
  case round =>
    obtain ⟨k, hka, hkb, rfl, rfl, HE, hbel⟩ := hrel
    have hz := hbel.size
    have k0 : (0 : Int) ≤ (k : Int) := Int.natCast_nonneg _
    have kw : IntKind.i64.wrap ((k : Int) + 1) = (k : Int) + 1 := IntWalk.i64_in _ (by omega)
    by_cases h1 : k < a.length
    · have h1' : (k : Int) < (a.length : Int) := by omega
      by_cases h2 : k < b.length
      · have h2' : (k : Int) < (b.length : Int) := by omega
        obtain ⟨i, hi⟩ : ∃ i, a.length - (k + 1) = i := ⟨_, rfl⟩
        obtain ⟨j, hj⟩ : ∃ j, b.length - (k + 1) = j := ⟨_, rfl⟩
        obtain ⟨a1, x, rfl, hcx, hx⟩ := (Sl.old ha hbel).strAt' (i := i) (by omega)
        obtain ⟨a2, y, rfl, hcy, hy⟩ := (Sl.old hb hbel).strAt' (i := j) (by omega)
        have i0 : (0 : Int) ≤ (i : Int) := Int.natCast_nonneg _
        have i1 : (i : Int) < (a.length : Int) := by omega
        have j0 : (0 : Int) ≤ (j : Int) := Int.natCast_nonneg _
        have j1 : (j : Int) < (b.length : Int) := by omega
        have aw1 : IntKind.i64.wrap ((a.length : Int) - 1) = (a.length : Int) - 1 := IntWalk.i64_in _ (by omega)
        have aw2 : IntKind.i64.wrap ((a.length : Int) - 1 - (k : Int)) = (i : Int) := (IntWalk.i64_in _ (by omega)).trans (by omega)
        have bw1 : IntKind.i64.wrap ((b.length : Int) - 1) = (b.length : Int) - 1 := IntWalk.i64_in _ (by omega)
        have bw2 : IntKind.i64.wrap ((b.length : Int) - 1 - (k : Int)) = (j : Int) := (IntWalk.i64_in _ (by omega)).trans (by omega)
        by_cases hxy : x = y
        · subst hxy
          have hbe : (x == x) = true := by simp
          have HE' := hid (show a.drop (a.length - (k + 1)) = b.drop (b.length - (k + 1)) by
            rw [hi, hj]
            refine drop_one_more ?_ hx hy
            rw [show i + 1 = a.length - k by omega, show j + 1 = b.length - k by omega]
            exact HE.out)
          clear hx hy hi hj
          go_wp2_with fail
          go_quiet (fail)
          go_wp2_with fail
          go_roundg (a.length - (k + 1))
          case measure => omega
          case rel => exact ⟨k + 1, by omega, by omega, rfl, rfl, HE', below_step hbel (below_drewN _ _) hz⟩
        · have hbe : (x == y) = false := by simpa using hxy
          clear hx hy hi hj
          go_wp2_with fail
          go_quiet (fail)
          go_wp2_with fail
          go_ret
          exact ⟨k, rfl, ⟨hka, hkb, HE.out⟩, below_step hbel (below_drewN _ _) hz⟩
      · have hn2 : ¬ (k : Int) < (b.length : Int) := by omega
        go_wp2_with fail
        go_quiet (fail)
        go_wp2_with fail
        go_ret
        exact ⟨k, rfl, ⟨hka, hkb, HE.out⟩, below_step hbel (below_drewN _ _) hz⟩
    · have hn1 : ¬ (k : Int) < (a.length : Int) := by omega
      go_wp2_with fail
      go_quiet (fail)
      go_wp2_with fail
      go_ret
      exact ⟨k, rfl, ⟨hka, hkb, HE.out⟩, below_step hbel (below_drewN _ _) hz⟩
end
end Go.Proofs.Ytnpgfbgnbonhfaa

namespace Go.Proofs.Ytnpgfbgnbonhfaa
open Go.RowKit

attribute [local go_sem] Oper.semAt_some

section
set_option maxRecDepth 100000
set_option maxHeartbeats 4000000
theorem Try.infoU32 : (Try.prog.info? 101).map (fun i => (i.zero, i.size, i.bytes)) = some (some (.int .u32 0), 1, 4) := by kernel_rfl

/-- what lies there between two rounds -/
structure BtUp (w wx : World) (vB : Value) (m r h p q : Nat) (g f : Nat → Nat) : Prop where
  box : wx.heap[w.heap.size]? = some (.cells #[vB] 47 (0, 0))
  bp : wx.heap[p]? = some (.cells #[.slice (some ⟨r, 0, none⟩) (m + 1) (m + 1)] 96 (0, 0))
  bq : wx.heap[q]? = some (.cells #[.slice (some ⟨h, 0, none⟩) (m + 1) (m + 1)] 96 (0, 0))
  rr : wx.heap[r]? = some (.cells (rowL .u32 g (m + 1)).toArray 101 (0, 0))
  rh : wx.heap[h]? = some (.cells (rowL .u32 f (m + 1)).toArray 101 (0, 0))
  far : w.heap.size < r ∧ w.heap.size < h ∧ w.heap.size < p ∧ w.heap.size < q
  apart : r ≠ h ∧ r ≠ p ∧ r ≠ q ∧ h ≠ p ∧ h ≠ q ∧ p ≠ q
  below : Below w.heap.size w wx
/-- five new blocks -/
theorem five_new (w : World) (o0 o1 o2 o3 o4 : Obj) : let X := (((((w.alloc o0).alloc o1).alloc o2).alloc o3).alloc o4).drew
    X.heap[w.heap.size]? = some o0 ∧ X.heap[w.heap.size + 1]? = some o1 ∧ X.heap[w.heap.size + 1 + 1]? = some o2 ∧ X.heap[w.heap.size + 1 + 1 + 1]? = some o3 ∧ X.heap[w.heap.size + 1 + 1 + 1 + 1]? = some o4 ∧ Below w.heap.size w X := by
  have s0 : (w.alloc o0).heap.size = w.heap.size + 1 := by simp
  have s1 : ((w.alloc o0).alloc o1).heap.size = w.heap.size + 1 + 1 := by simp
  have s2 : (((w.alloc o0).alloc o1).alloc o2).heap.size = w.heap.size + 1 + 1 + 1 := by simp
  have s3 : ((((w.alloc o0).alloc o1).alloc o2).alloc o3).heap.size = w.heap.size + 1 + 1 + 1 + 1 := by simp
  intro X
  refine ⟨?_, ?_, ?_, ?_, ?_, ?_⟩
  · show (((((w.alloc o0).alloc o1).alloc o2).alloc o3).alloc o4).heap[_]? = _
    rw [Below.heap_alloc _ _ _ (by omega), Below.heap_alloc _ _ _ (by omega), Below.heap_alloc _ _ _ (by omega), Below.heap_alloc _ _ _ (by omega), World.alloc_heap_new]
  · show (((((w.alloc o0).alloc o1).alloc o2).alloc o3).alloc o4).heap[_]? = _
    rw [Below.heap_alloc _ _ _ (by omega), Below.heap_alloc _ _ _ (by omega), Below.heap_alloc _ _ _ (by omega), ← s0, World.alloc_heap_new]
  · show (((((w.alloc o0).alloc o1).alloc o2).alloc o3).alloc o4).heap[_]? = _
    rw [Below.heap_alloc _ _ _ (by omega), Below.heap_alloc _ _ _ (by omega), ← s1, World.alloc_heap_new]
  · show (((((w.alloc o0).alloc o1).alloc o2).alloc o3).alloc o4).heap[_]? = _
    rw [Below.heap_alloc _ _ _ (by omega), ← s2, World.alloc_heap_new]
  · show (((((w.alloc o0).alloc o1).alloc o2).alloc o3).alloc o4).heap[_]? = _
    rw [← s3, World.alloc_heap_new]
  · exact ((((((Below.refl _ w).alloc (Nat.le_refl _) o0).alloc (by omega) o1).alloc (by omega) o2).alloc (by omega) o3).alloc (by omega) o4).trans (show Below w.heap.size _ X from ⟨rfl, rfl, rfl, Nat.le_refl _, fun _ _ => rfl⟩)
theorem BtUp.alloc {w wx : World} {vB : Value} {m r h p q : Nat} {g f : Nat → Nat} (hU : BtUp w wx vB m r h p q g f) (o : Obj) : BtUp w (wx.alloc o) vB m r h p q g f := by
  have k : ∀ {b : Nat} {ob : Obj}, wx.heap[b]? = some ob → (wx.alloc o).heap[b]? = some ob := fun {b ob} hb => (Below.heap_alloc wx o b (Array.getElem?_eq_some_iff.1 hb).1).trans hb
  exact ⟨k hU.box, k hU.bp, k hU.bq, k hU.rr, k hU.rh, hU.far, hU.apart, hU.below.alloc hU.below.size _⟩
def CutN (w : World) (vA vB : Value) (m : Nat) (v0 v5 v6 : Value) (wx : World) : Prop :=
  v0 = vA ∧ ∃ r h p q : Nat, v5 = .pointer (some ⟨p, 0, none⟩) ∧ v6 = .pointer (some ⟨q, 0, none⟩) ∧ Hid (BtUp w wx vB m r h p q (fun _ => 0) (fun _ => 0))
theorem cutN_make {w wx : World} {vA vB : Value} {Z : Array Value} {m m1 r h p q : Nat} (hm1 : m + 1 = m1) (hZ : (List.replicate m1 (Value.int .u32 0)).toArray = Z) (h0 : wx.heap[w.heap.size]? = some (.cells #[vB] 47 (0, 0)))
    (hp : wx.heap[p]? = some (.cells #[.slice (some ⟨r, 0, none⟩) m1 m1] 96 (0, 0))) (hq : wx.heap[q]? = some (.cells #[.slice (some ⟨h, 0, none⟩) m1 m1] 96 (0, 0)))
    (hr : wx.heap[r]? = some (.cells Z 101 (0, 0))) (hh : wx.heap[h]? = some (.cells Z 101 (0, 0))) (far : w.heap.size < r ∧ w.heap.size < h ∧ w.heap.size < p ∧ w.heap.size < q) (apart : r ≠ h ∧ r ≠ p ∧ r ≠ q ∧ h ≠ p ∧ h ≠ q ∧ p ≠ q)
    (hb : Below w.heap.size w wx) : CutN w vA vB m vA (.pointer (some ⟨p, 0, none⟩)) (.pointer (some ⟨q, 0, none⟩)) wx := by
  subst hm1
  rw [← hZ, rowL_zero] at hr hh
  exact ⟨rfl, r, h, p, q, rfl, rfl, hid ⟨h0, hp, hq, hr, hh, far, apart, hb⟩⟩
/-- a round: the row is filled anew, and both change places -/
theorem BtUp.step {w wx w1 : World} {vB : Value} {m r h p q : Nat} {g f g' : Nat → Nat} (hU : BtUp w wx vB m r h p q g f) (hO : Only r wx w1) (hr : w1.heap[r]? = some (.cells (rowL .u32 g' (m + 1)).toArray 101 (0, 0))) :
    BtUp w ((w1.setCell ⟨p, 0, none⟩ (.slice (some ⟨h, 0, none⟩) (m + 1) (m + 1))).setCell ⟨q, 0, none⟩ (.slice (some ⟨r, 0, none⟩) (m + 1) (m + 1))) vB m h r p q f g' := by
  obtain ⟨f1, f2, f3, f4⟩ := hU.far
  obtain ⟨a1, a2, a3, a4, a5, a6⟩ := hU.apart
  have hne : ∀ b, b ≠ p → b ≠ q → ((w1.setCell ⟨p, 0, none⟩ (.slice (some ⟨h, 0, none⟩) (m + 1) (m + 1))).setCell ⟨q, 0, none⟩ (.slice (some ⟨r, 0, none⟩) (m + 1) (m + 1))).heap[b]? = w1.heap[b]? := fun b h1 h2 => (Below.heap_setCell _ _ _ _ h2).trans (Below.heap_setCell _ _ _ _ h1)
  refine ⟨?_, ?_, ?_, ?_, ?_, ⟨f2, f1, f3, f4⟩, ⟨a1.symm, a4, a5, a2, a3, a6⟩, ?_⟩
  · rw [hne _ (by omega) (by omega), hO.block _ (by omega)]
    exact hU.box
  · rw [Below.heap_setCell _ _ _ _ (show p ≠ q by omega)]
    have := blk_set (i := 0) (u := .slice (some ⟨h, 0, none⟩) (m + 1) (m + 1)) ((hO.block _ (by omega)).trans hU.bp)
    simpa using this
  · have := blk_set (i := 0) (u := .slice (some ⟨r, 0, none⟩) (m + 1) (m + 1)) ((Below.heap_setCell w1 ⟨p, 0, none⟩ (.slice (some ⟨h, 0, none⟩) (m + 1) (m + 1)) q (by show q ≠ p; omega)).trans ((hO.block _ (by omega)).trans hU.bq))
    simpa using this
  · rw [hne _ (by omega) (by omega), hO.block _ (by omega)]
    exact hU.rh
  · rw [hne _ (by omega) (by omega)]
    exact hr
  · exact ((hU.below.trans (hO.below (by omega))).setCell (by show w.heap.size ≤ p; omega) _).setCell (by show w.heap.size ≤ q; omega) _
/-- what is kept from the loop's own bookkeeping -/
theorem bt_own {B Z : Nat} {w : World} {vB : Value} {m p q : Nat} {F : Nat → Nat → Nat} (hB : w.heap.size ≤ B) : OwnFrom B (fun (k : Nat) W => ∃ r h g, Hid (BtUp w W vB m r h p q g (F k)) ∧ Hid (g m = 0 ∧ r < Z ∧ h < Z)) := fun k X Y row hs hg hr => by
  obtain ⟨r, h, g, HU, g0⟩ := hs
  have hU := HU.out
  have keep : ∀ {b : Nat} {cs : Array Value} {t : TypeId}, X.heap[b]? = some (.cells cs t (0, 0)) → Y.heap[b]? = some (.cells cs t (0, 0)) := fun {b cs t} hb => by
    refine (hg.block b (lt_of_block hb) fun e => ?_).trans hb
    obtain ⟨_, o, ho, hc⟩ := hr b e.symm
    rw [hb] at ho
    cases ho
    cases hc
  exact ⟨r, h, g, hid ⟨keep hU.box, keep hU.bp, keep hU.bq, keep hU.rr, keep hU.rh, hU.far, hU.apart, hU.below.grown hg hU.below.size (fun j e => by have := (hr j e).1; omega)⟩, g0⟩
theorem Only.others {br : Nat} {w w' : World} {cs : Array Value} {t : TypeId} {fr : Nat × Nat} (h : Only br w w') (hb : w.heap[br]? = some (.cells cs t fr)) : KeepsOthers w w' :=
  ⟨Nat.le_of_eq h.size.symm, fun k o hk ho => by
    by_cases e : k = br
    · subst e
      rw [hb] at hk
      cases hk
      cases ho
    · exact (h.block k e).trans hk⟩

theorem DBetween_any (va vb : Value) (a b : List (List UInt8)) (w : World) (ha : Sl w va (strCells a)) (hb : Sl w vb (strCells b)) (hal : a.length ≤ 1000000) (hbl : b.length ≤ 1000000) :
    Calls Try.prog 51 #[va, vb] w fun e w' => e = .returned (.int .i64 (lcs a b : Nat)) ∧ Below w.heap.size w w' := by
  obtain ⟨i0, hi0, hi1, hi2, hi3⟩ := info_parts Try.infoU32
  obtain ⟨aa, ca, rfl⟩ := ha.form
  obtain ⟨ab, cb, rfl⟩ := hb.form
  rw [strCells_length] at ha hb ⊢
  rw [strCells_length]
  refine (callsIn_wide (n := 3)).1 ?_
  refine callsIn_of_wp_marks Try.func51 rfl trivial ?_ rfl
  simp only [Try.ntmps51, List.size_toArray, List.length_cons, List.length_nil, Nat.reduceAdd, Nat.reduceSub, Array.replicate_succ, Array.replicate_zero, List.push_toArray, List.append_toArray, List.nil_append, List.cons_append]
  refine wpIn_wide.2 ?_
  have mk1 := fun (wx : World) (m : Nat) (hm : m ≤ 1000001) => run_make1 (P := Try.prog) wx 96 101 i0 (.int .u32 0) Try.underlying96 hi0 hi1 hi2 rfl m (by rw [hi3]; omega) (by omega)
  have HA := hid ha
  have HB := hid hb
  clear hi0 hi1 hi2 hi3 ha hb
  by_cases hlt : a.length < b.length
  · have hlt' : (a.length : Int) < (b.length : Int) := by omega
    have hlc : lcs a b = lcs b a := lcs_comm a b
    obtain ⟨m, hm⟩ : ∃ m, a.length = m := ⟨_, rfl⟩
    obtain ⟨n, hn⟩ : ∃ n, b.length = n := ⟨_, rfl⟩
    obtain ⟨m1, hm1⟩ : ∃ m1, m + 1 = m1 := ⟨_, rfl⟩
    have mk2 := fun wx : World => mk1 wx m1 (by omega)
    have mw : IntKind.i64.wrap ((m : Int) + 1) = (m1 : Int) := (IntWalk.i64_in _ (by omega)).trans (by omega)
    obtain ⟨Z, hZ⟩ : ∃ Z, (List.replicate m1 (Value.int .u32 0)).toArray = Z := ⟨_, rfl⟩
    rw [hZ] at mk2
    rw [hlc]
    rw [hm, hn] at hlt' ⊢
    rw [hm] at HA
    rw [hn] at HB
    have HM1 := hid hm1
    have HZ := hid hZ
    have HM := hid hm
    have HN := hid hn
    have HLB := hid (show m ≤ 1000000 ∧ n ≤ 1000000 by omega)
    clear mk1 hm1 hm hn hZ hlt hlc hal hbl
    go_upto_region 3 with fail
    have hne1 := Nat.ne_of_gt (Nat.lt_succ_self w.heap.size)
    go_cut [0, 5, 6] from 9 to 24 (fun v0 v5 v6 wx => CutN w (.slice ab n cb) (.slice aa m ca) m v0 v5 v6 wx)
    case first =>
      go_region_held3 (fun wy => wy.cell? ⟨w.heap.size, 0, none⟩ = some (.slice aa m ca)) (simp (maxDischargeDepth := 12) [*, World.cell?_alloc_some]) (fail)
      all_goals
        go_wp2_with fail
        go_meet
        apply cutN_make HM1.out HZ.out (five_new _ _ _ _ _ _).1 ?hp ?hq ?hr ?hh ?far ?apart (five_new _ _ _ _ _ _).2.2.2.2.2
        case hp => first | exact (five_new _ _ _ _ _ _).2.1 | exact (five_new _ _ _ _ _ _).2.2.1 | exact (five_new _ _ _ _ _ _).2.2.2.1 | exact (five_new _ _ _ _ _ _).2.2.2.2.1
        case hq => first | exact (five_new _ _ _ _ _ _).2.1 | exact (five_new _ _ _ _ _ _).2.2.1 | exact (five_new _ _ _ _ _ _).2.2.2.1 | exact (five_new _ _ _ _ _ _).2.2.2.2.1
        case hr => first | exact (five_new _ _ _ _ _ _).2.1 | exact (five_new _ _ _ _ _ _).2.2.1 | exact (five_new _ _ _ _ _ _).2.2.2.1 | exact (five_new _ _ _ _ _ _).2.2.2.2.1
        case hh => first | exact (five_new _ _ _ _ _ _).2.1 | exact (five_new _ _ _ _ _ _).2.2.1 | exact (five_new _ _ _ _ _ _).2.2.2.1 | exact (five_new _ _ _ _ _ _).2.2.2.2.1
        case far => omega
        case apart => omega
    case rest =>
      obtain ⟨rfl, r, h, p, q, rfl, rfl, HU⟩ := hcut
      have hzc := HU.out.below.size
      obtain ⟨q1, q2, q3, q4⟩ := HU.out.far
      have hr0 := lt_of_block HU.out.rr
      have hh0 := lt_of_block HU.out.rh
      have hp0 := lt_of_block HU.out.bp
      have hq0 := lt_of_block HU.out.bq
      go_wp2_with (go_at_call 62; refine (Back_any _ _ _ _).mono ?_; rintro e w5 ⟨rfl, rfl⟩)
      obtain ⟨w9, hw9⟩ : ∃ w9, wc.alloc (.cells #[.slice ab n cb] 47) = w9 := ⟨_, rfl⟩
      have hU9 : BtUp w w9 (.slice aa m ca) m r h p q (fun _ => 0) (fun _ => 0) := by
        rw [← hw9]
        exact HU.out.alloc _
      have hz9 : w9.heap.size = wc.heap.size + 1 := by
        rw [← hw9]
        simp
      have hc9 : w9.cell? ⟨wc.heap.size, 0, none⟩ = some (.slice ab n cb) := by
        rw [← hw9]
        exact blk_cell (i := 0) (World.alloc_heap_new wc _) rfl
      rw [hw9]
      clear HU hw9
      refine (wpIn_wide (n := 3)).1 ?_
      refine' wpIn_rounds (gf := 74) (lb := #[.pointer (some ⟨wc.heap.size, 0, none⟩)]) (N := b.length) (enc := backEnc b) (Kp := KpB w.heap.size wc.heap.size) (w0 := w9) rfl (enters_of Try.func74 (by kernel_rfl) rfl) ?seq (Below.refl _ _) (fun _ => rfl) KpB.trans ?kb
        (fun k W => ∃ r h g, Hid (BtUp w W (.slice aa m ca) m r h p q g (fun j => lcs (b.drop (b.length - k)) (a.drop j))) ∧ Hid (g m = 0 ∧ r < wc.heap.size ∧ h < wc.heap.size)) (bt_own hU9.below.size) ?start _ ?assign ?body ?done
      case seq => exact back_rounds w w9 wc.heap.size _ b HB.out hU9.below hc9 (by rw [HN.out]; exact HLB.out.2)
      case kb => exact fun W l o h1 h2 => KpB.put W o (by omega) (by omega) h2
      case start =>
        refine ⟨r, h, fun _ => 0, hid ?_, hid ⟨rfl, hr0, hh0⟩⟩
        have : (fun j => lcs (b.drop (b.length - 0)) (a.drop j)) = fun _ => 0 := by
          funext j
          rw [Nat.sub_zero, List.drop_length, lcs_nil_left]
        rw [this]
        exact hU9
      case assign =>
        intro l k W K hK
        dsimp only [backEnc]
        gi_wp2
        exact hK
      case body =>
        rintro l k W hk ⟨r, h, g, HU, HG⟩
        obtain ⟨f1, f2, f3, f4⟩ := HU.out.far
        obtain ⟨a1, a2, a3, a4, a5, a6⟩ := HU.out.apart
        obtain ⟨x, hx⟩ : ∃ x, b[b.length - 1 - k]? = some x := ⟨_, List.getElem?_eq_getElem (by omega)⟩
        rw [hx, Option.getD_some]
        have hA' : b.drop (b.length - (k + 1)) = x :: b.drop (b.length - k) := by
          obtain ⟨e1, e2⟩ := List.getElem?_eq_some_iff.1 hx
          rw [show b.length - (k + 1) = b.length - 1 - k by omega, List.drop_eq_getElem_cons e1, e2, show b.length - 1 - k + 1 = b.length - k by omega]
        have HST := hid (steps_lcs x (b.drop (b.length - k)) a)
        rw [← hA'] at HST
        obtain ⟨F, hF⟩ : ∃ F : Nat → Nat, F = fun j => lcs (b.drop (b.length - k)) (a.drop j) := ⟨_, rfl⟩
        obtain ⟨G, hG⟩ : ∃ G : Nat → Nat, G = fun j => lcs (b.drop (b.length - (k + 1))) (a.drop j) := ⟨_, rfl⟩
        have HF1 := hid (show ∀ j, F j ≤ 1000000 from fun j => by
          rw [hF]
          have := (lcs_le (b.drop (b.length - k)) (a.drop j)).1
          have h1 := HLB.out.2
          have h2 := HN.out
          rw [List.length_drop] at this
          show lcs _ _ ≤ 1000000
          omega)
        have HG1 := hid (show ∀ j, G j ≤ 1000000 from fun j => by
          rw [hG]
          have := (lcs_le (b.drop (b.length - (k + 1))) (a.drop j)).1
          have h1 := HLB.out.2
          have h2 := HN.out
          rw [List.length_drop] at this
          show lcs _ _ ≤ 1000000
          omega)
        have HF0 := hid (show F m = 0 by
          rw [hF]
          show lcs _ (a.drop m) = 0
          rw [List.drop_of_length_le (l := a) (Nat.le_of_eq HM.out), lcs_nil_right])
        rw [← hF, ← hG] at HST
        rw [← hF] at HU
        have HGE := hid hG
        have ckb := blk_cell (i := 0) HU.out.box rfl
        have ckp := blk_cell (i := 0) HU.out.bp rfl
        have ckq := blk_cell (i := 0) HU.out.bq rfl
        clear hx hA' hF hG
        gi_wp2_with (refine ⟨trivial, ?_⟩; gi_at_call 63; refine (CallsIn.inRound l (callsIn_wide.2 (fill32_any w r h m x (.slice aa m ca) a G F g W HM.out (by have := HLB.out.1; omega) HA.out HU.out.below (by omega) (by omega) HU.out.rr HG.out.1 HU.out.rh HST.out HF1.out HG1.out))).mono ?_; rintro e w6 ⟨⟨v, rfl⟩, hO, hr6⟩; have c6p := blk_cell (i := 0) ((hO.block p (by omega)).trans HU.out.bp) rfl; have c6q := blk_cell (i := 0) ((hO.block q (by omega)).trans HU.out.bq) rfl; have z6p := blk_free (i := 0) ((hO.block p (by omega)).trans HU.out.bp); have z6q := blk_free (i := 0) ((hO.block q (by omega)).trans HU.out.bq); have HO6 := hid hO; have HR6 := hid hr6; clear hO hr6)
        refine ⟨(((Only.others HO6.out HU.out.rr).trans (KeepsOthers.setCell _ _ _)).trans (KeepsOthers.setCell _ _ _)).from _, ⟨((HO6.out.below (by omega)).setCell (by show w.heap.size ≤ p; omega) _).setCell (by show w.heap.size ≤ q; omega) _, ?_⟩, h, r, F, ?_, hid ⟨HF0.out, HG.out.2.2, HG.out.2.1⟩⟩
        · exact ((Below.heap_setCell _ _ _ _ (by show wc.heap.size ≠ q; omega)).trans (Below.heap_setCell _ _ _ _ (by show wc.heap.size ≠ p; omega))).trans (HO6.out.block _ (by have := HG.out.2.1; omega))
        · have hs := HU.out.step HO6.out HR6.out
          rw [HGE.out] at hs
          exact hid hs
      case done =>
        rintro D W hD ⟨r, h, g, HU, HG⟩ hK
        have ckq := blk_cell (i := 0) HU.out.bq rfl
        have ckh := blk_cell (i := 0) HU.out.rh (by rw [List.getElem?_toArray]; exact rowL_at (by omega))
        have HV : lcs (b.drop (b.length - b.length)) (a.drop 0) = lcs b a := by
          rw [Nat.sub_self, List.drop_zero, List.drop_zero]
        have hle := (lcs_le b a).1
        rw [HV] at ckh
        obtain ⟨V, hV⟩ : ∃ V, lcs b a = V := ⟨_, rfl⟩
        rw [HN.out] at hle
        rw [hV] at ckh hle
        have HVE := hid hV
        have hl1 := HLB.out.2
        have vw : IntKind.i64.wrap (V : Int) = (V : Int) := IntWalk.i64_in _ (by omega)
        have p0 : (0 : Int) < ((m : Int) + 1) := by omega
        clear hle hV HV
        dsimp only
        go_wp2_with fail
        refine ⟨by simp, .inl ⟨_, _, rfl, run_takeDeferred hK, ?_⟩⟩
        exact ⟨_, results_tmp rfl _ _ _, (by rw [HVE.out]; rfl), HU.out.below.trans (belowK_b (w := w) (Nat.le_refl _) W D _ _ (by have := hU9.below.size; omega) hK rfl rfl)⟩
  · have hlt' : ¬ (a.length : Int) < (b.length : Int) := by omega
    have hlc : lcs a b = lcs a b := rfl
    obtain ⟨m, hm⟩ : ∃ m, b.length = m := ⟨_, rfl⟩
    obtain ⟨n, hn⟩ : ∃ n, a.length = n := ⟨_, rfl⟩
    obtain ⟨m1, hm1⟩ : ∃ m1, m + 1 = m1 := ⟨_, rfl⟩
    have mk2 := fun wx : World => mk1 wx m1 (by omega)
    have mw : IntKind.i64.wrap ((m : Int) + 1) = (m1 : Int) := (IntWalk.i64_in _ (by omega)).trans (by omega)
    obtain ⟨Z, hZ⟩ : ∃ Z, (List.replicate m1 (Value.int .u32 0)).toArray = Z := ⟨_, rfl⟩
    rw [hZ] at mk2
    rw [hlc]
    rw [hm, hn] at hlt' ⊢
    rw [hm] at HB
    rw [hn] at HA
    have HM1 := hid hm1
    have HZ := hid hZ
    have HM := hid hm
    have HN := hid hn
    have HLB := hid (show m ≤ 1000000 ∧ n ≤ 1000000 by omega)
    clear mk1 hm1 hm hn hZ hlt hlc hal hbl
    go_upto_region 3 with fail
    have hne1 := Nat.ne_of_gt (Nat.lt_succ_self w.heap.size)
    go_cut [0, 5, 6] from 9 to 24 (fun v0 v5 v6 wx => CutN w (.slice aa n ca) (.slice ab m cb) m v0 v5 v6 wx)
    case first =>
      go_region_held3 (fun wy => wy.cell? ⟨w.heap.size, 0, none⟩ = some (.slice ab m cb)) (simp (maxDischargeDepth := 12) [*, World.cell?_alloc_some]) (fail)
      all_goals
        go_wp2_with fail
        go_meet
        apply cutN_make HM1.out HZ.out (five_new _ _ _ _ _ _).1 ?hp ?hq ?hr ?hh ?far ?apart (five_new _ _ _ _ _ _).2.2.2.2.2
        case hp => first | exact (five_new _ _ _ _ _ _).2.1 | exact (five_new _ _ _ _ _ _).2.2.1 | exact (five_new _ _ _ _ _ _).2.2.2.1 | exact (five_new _ _ _ _ _ _).2.2.2.2.1
        case hq => first | exact (five_new _ _ _ _ _ _).2.1 | exact (five_new _ _ _ _ _ _).2.2.1 | exact (five_new _ _ _ _ _ _).2.2.2.1 | exact (five_new _ _ _ _ _ _).2.2.2.2.1
        case hr => first | exact (five_new _ _ _ _ _ _).2.1 | exact (five_new _ _ _ _ _ _).2.2.1 | exact (five_new _ _ _ _ _ _).2.2.2.1 | exact (five_new _ _ _ _ _ _).2.2.2.2.1
        case hh => first | exact (five_new _ _ _ _ _ _).2.1 | exact (five_new _ _ _ _ _ _).2.2.1 | exact (five_new _ _ _ _ _ _).2.2.2.1 | exact (five_new _ _ _ _ _ _).2.2.2.2.1
        case far => omega
        case apart => omega
    case rest =>
      obtain ⟨rfl, r, h, p, q, rfl, rfl, HU⟩ := hcut
      have hzc := HU.out.below.size
      obtain ⟨q1, q2, q3, q4⟩ := HU.out.far
      have hr0 := lt_of_block HU.out.rr
      have hh0 := lt_of_block HU.out.rh
      have hp0 := lt_of_block HU.out.bp
      have hq0 := lt_of_block HU.out.bq
      go_wp2_with (go_at_call 62; refine (Back_any _ _ _ _).mono ?_; rintro e w5 ⟨rfl, rfl⟩)
      obtain ⟨w9, hw9⟩ : ∃ w9, wc.alloc (.cells #[.slice aa n ca] 47) = w9 := ⟨_, rfl⟩
      have hU9 : BtUp w w9 (.slice ab m cb) m r h p q (fun _ => 0) (fun _ => 0) := by
        rw [← hw9]
        exact HU.out.alloc _
      have hz9 : w9.heap.size = wc.heap.size + 1 := by
        rw [← hw9]
        simp
      have hc9 : w9.cell? ⟨wc.heap.size, 0, none⟩ = some (.slice aa n ca) := by
        rw [← hw9]
        exact blk_cell (i := 0) (World.alloc_heap_new wc _) rfl
      rw [hw9]
      clear HU hw9
      refine (wpIn_wide (n := 3)).1 ?_
      refine' wpIn_rounds (gf := 74) (lb := #[.pointer (some ⟨wc.heap.size, 0, none⟩)]) (N := a.length) (enc := backEnc a) (Kp := KpB w.heap.size wc.heap.size) (w0 := w9) rfl (enters_of Try.func74 (by kernel_rfl) rfl) ?seq (Below.refl _ _) (fun _ => rfl) KpB.trans ?kb
        (fun k W => ∃ r h g, Hid (BtUp w W (.slice ab m cb) m r h p q g (fun j => lcs (a.drop (a.length - k)) (b.drop j))) ∧ Hid (g m = 0 ∧ r < wc.heap.size ∧ h < wc.heap.size)) (bt_own hU9.below.size) ?start _ ?assign ?body ?done
      case seq => exact back_rounds w w9 wc.heap.size _ a HA.out hU9.below hc9 (by rw [HN.out]; exact HLB.out.2)
      case kb => exact fun W l o h1 h2 => KpB.put W o (by omega) (by omega) h2
      case start =>
        refine ⟨r, h, fun _ => 0, hid ?_, hid ⟨rfl, hr0, hh0⟩⟩
        have : (fun j => lcs (a.drop (a.length - 0)) (b.drop j)) = fun _ => 0 := by
          funext j
          rw [Nat.sub_zero, List.drop_length, lcs_nil_left]
        rw [this]
        exact hU9
      case assign =>
        intro l k W K hK
        dsimp only [backEnc]
        gi_wp2
        exact hK
      case body =>
        rintro l k W hk ⟨r, h, g, HU, HG⟩
        obtain ⟨f1, f2, f3, f4⟩ := HU.out.far
        obtain ⟨a1, a2, a3, a4, a5, a6⟩ := HU.out.apart
        obtain ⟨x, hx⟩ : ∃ x, a[a.length - 1 - k]? = some x := ⟨_, List.getElem?_eq_getElem (by omega)⟩
        rw [hx, Option.getD_some]
        have hA' : a.drop (a.length - (k + 1)) = x :: a.drop (a.length - k) := by
          obtain ⟨e1, e2⟩ := List.getElem?_eq_some_iff.1 hx
          rw [show a.length - (k + 1) = a.length - 1 - k by omega, List.drop_eq_getElem_cons e1, e2, show a.length - 1 - k + 1 = a.length - k by omega]
        have HST := hid (steps_lcs x (a.drop (a.length - k)) b)
        rw [← hA'] at HST
        obtain ⟨F, hF⟩ : ∃ F : Nat → Nat, F = fun j => lcs (a.drop (a.length - k)) (b.drop j) := ⟨_, rfl⟩
        obtain ⟨G, hG⟩ : ∃ G : Nat → Nat, G = fun j => lcs (a.drop (a.length - (k + 1))) (b.drop j) := ⟨_, rfl⟩
        have HF1 := hid (show ∀ j, F j ≤ 1000000 from fun j => by
          rw [hF]
          have := (lcs_le (a.drop (a.length - k)) (b.drop j)).1
          have h1 := HLB.out.2
          have h2 := HN.out
          rw [List.length_drop] at this
          show lcs _ _ ≤ 1000000
          omega)
        have HG1 := hid (show ∀ j, G j ≤ 1000000 from fun j => by
          rw [hG]
          have := (lcs_le (a.drop (a.length - (k + 1))) (b.drop j)).1
          have h1 := HLB.out.2
          have h2 := HN.out
          rw [List.length_drop] at this
          show lcs _ _ ≤ 1000000
          omega)
        have HF0 := hid (show F m = 0 by
          rw [hF]
          show lcs _ (b.drop m) = 0
          rw [List.drop_of_length_le (l := b) (Nat.le_of_eq HM.out), lcs_nil_right])
        rw [← hF, ← hG] at HST
        rw [← hF] at HU
        have HGE := hid hG
        have ckb := blk_cell (i := 0) HU.out.box rfl
        have ckp := blk_cell (i := 0) HU.out.bp rfl
        have ckq := blk_cell (i := 0) HU.out.bq rfl
        clear hx hA' hF hG
        gi_wp2_with (refine ⟨trivial, ?_⟩; gi_at_call 63; refine (CallsIn.inRound l (callsIn_wide.2 (fill32_any w r h m x (.slice ab m cb) b G F g W HM.out (by have := HLB.out.1; omega) HB.out HU.out.below (by omega) (by omega) HU.out.rr HG.out.1 HU.out.rh HST.out HF1.out HG1.out))).mono ?_; rintro e w6 ⟨⟨v, rfl⟩, hO, hr6⟩; have c6p := blk_cell (i := 0) ((hO.block p (by omega)).trans HU.out.bp) rfl; have c6q := blk_cell (i := 0) ((hO.block q (by omega)).trans HU.out.bq) rfl; have z6p := blk_free (i := 0) ((hO.block p (by omega)).trans HU.out.bp); have z6q := blk_free (i := 0) ((hO.block q (by omega)).trans HU.out.bq); have HO6 := hid hO; have HR6 := hid hr6; clear hO hr6)
        refine ⟨(((Only.others HO6.out HU.out.rr).trans (KeepsOthers.setCell _ _ _)).trans (KeepsOthers.setCell _ _ _)).from _, ⟨((HO6.out.below (by omega)).setCell (by show w.heap.size ≤ p; omega) _).setCell (by show w.heap.size ≤ q; omega) _, ?_⟩, h, r, F, ?_, hid ⟨HF0.out, HG.out.2.2, HG.out.2.1⟩⟩
        · exact ((Below.heap_setCell _ _ _ _ (by show wc.heap.size ≠ q; omega)).trans (Below.heap_setCell _ _ _ _ (by show wc.heap.size ≠ p; omega))).trans (HO6.out.block _ (by have := HG.out.2.1; omega))
        · have hs := HU.out.step HO6.out HR6.out
          rw [HGE.out] at hs
          exact hid hs
      case done =>
        rintro D W hD ⟨r, h, g, HU, HG⟩ hK
        have ckq := blk_cell (i := 0) HU.out.bq rfl
        have ckh := blk_cell (i := 0) HU.out.rh (by rw [List.getElem?_toArray]; exact rowL_at (by omega))
        have HV : lcs (a.drop (a.length - a.length)) (b.drop 0) = lcs a b := by
          rw [Nat.sub_self, List.drop_zero, List.drop_zero]
        have hle := (lcs_le a b).1
        rw [HV] at ckh
        obtain ⟨V, hV⟩ : ∃ V, lcs a b = V := ⟨_, rfl⟩
        rw [HN.out] at hle
        rw [hV] at ckh hle
        have HVE := hid hV
        have hl1 := HLB.out.2
        have vw : IntKind.i64.wrap (V : Int) = (V : Int) := IntWalk.i64_in _ (by omega)
        have p0 : (0 : Int) < ((m : Int) + 1) := by omega
        clear hle hV HV
        dsimp only
        go_wp2_with fail
        refine ⟨by simp, .inl ⟨_, _, rfl, run_takeDeferred hK, ?_⟩⟩
        exact ⟨_, results_tmp rfl _ _ _, (by rw [HVE.out]; rfl), HU.out.below.trans (belowK_b (w := w) (Nat.le_refl _) W D _ _ (by have := hU9.below.size; omega) hK rfl rfl)⟩
end
end Go.Proofs.Ytnpgfbgnbonhfaa

namespace Go.Proofs.Ytnpgfbgnbonhfaa
open Go.RowKit

theorem cutS_mid {w : World} {v : Value} {xs : List (List UInt8)} (h : Sl w v (strCells xs)) (n m : Nat) (hnm : n ≤ m) (hm : m ≤ xs.length) :
    ∃ ao c, (∀ wx, (Instr.slice 47 v (some (.int .i64 n)) (some (.int .i64 m)) none).run Try.prog wx = .ok (.slice ao (m - n) c) wx) ∧ Sl w (.slice ao (m - n) c) (strCells ((xs.drop n).take (m - n))) := by
  obtain ⟨j0, hj0, hj1, hj2, hj3⟩ := info_parts Try.infoStr
  obtain ⟨ao, c, h1, h2, _⟩ := run_slice_mid 47 9 Try.underlying47 hj0 hj2 h n m hnm (by rw [strCells_length]; exact hm)
  exact ⟨ao, c, h1, by rw [show strCells ((xs.drop n).take (m - n)) = ((strCells xs).drop n).take (m - n) by simp [strCells]]; exact h2⟩
theorem cutS_from {w : World} {v : Value} {xs : List (List UInt8)} (h : Sl w v (strCells xs)) (n : Nat) (hn : n ≤ xs.length) :
    ∃ ao c, (∀ wx, (Instr.slice 47 v (some (.int .i64 n)) none none).run Try.prog wx = .ok (.slice ao (xs.length - n) c) wx) ∧ Sl w (.slice ao (xs.length - n) c) (strCells (xs.drop n)) := by
  obtain ⟨j0, hj0, hj1, hj2, hj3⟩ := info_parts Try.infoStr
  obtain ⟨v', h1, h2, _, ao, c, rfl⟩ := run_slice_from 47 9 Try.underlying47 hj0 hj2 h n (by rw [strCells_length]; exact hn)
  rw [strCells_length] at h1 h2
  exact ⟨ao, c, h1, by rw [show strCells (xs.drop n) = (strCells xs).drop n by simp [strCells]]; exact h2⟩
theorem cutS_to {w : World} {v : Value} {xs : List (List UInt8)} (h : Sl w v (strCells xs)) (n : Nat) (hn : n ≤ xs.length) :
    ∃ ao c, (∀ wx, (Instr.slice 47 v none (some (.int .i64 n)) none).run Try.prog wx = .ok (.slice ao n c) wx) ∧ Sl w (.slice ao n c) (strCells (xs.take n)) := by
  obtain ⟨j0, hj0, hj1, hj2, hj3⟩ := info_parts Try.infoStr
  obtain ⟨v', h1, h2, _, ao, c, rfl⟩ := run_slice_to 47 9 Try.underlying47 hj0 h n (by rw [strCells_length]; exact hn)
  exact ⟨ao, c, h1, by rw [show strCells (xs.take n) = (strCells xs).take n by simp [strCells]]; exact h2⟩
end Go.Proofs.Ytnpgfbgnbonhfaa

namespace Go.Proofs.Ytnpgfbgnbonhfaa
open Go.RowKit

section
set_option maxRecDepth 100000
set_option maxHeartbeats 4000000
theorem DCommon_any (va vb : Value) (a b : List (List UInt8)) (w : World) (ha : Sl w va (strCells a)) (hb : Sl w vb (strCells b)) (hal : a.length ≤ 1000000) (hbl : b.length ≤ 1000000) :
    Calls Try.prog 36 #[va, vb] w fun e w' => e = .returned (.int .i64 (lcs a b : Nat)) ∧ Below w.heap.size w w' := by
  obtain ⟨aa, ca, rfl⟩ := ha.form
  obtain ⟨ab, cb, rfl⟩ := hb.form
  have HAl := hid (DAlike_any _ _ a b w ha hb hal)
  rw [strCells_length] at ha hb HAl ⊢
  rw [strCells_length] at HAl ⊢
  have HA := hid ha
  have HB := hid hb
  clear ha hb
  go_enter Try.func36, Try.ntmps36
  go_wp2_with fail
  refine HAl.out.mono ?_
  rintro e w1 ⟨k, rfl, ⟨hka, hkb, hE, _⟩, hb1⟩
  obtain ⟨fo, fc, rf, hf⟩ := cutS_from HA.out k hka
  obtain ⟨so, sc, rs, hs⟩ := cutS_from HB.out k hkb
  have k0 : (0 : Int) ≤ (k : Int) := Int.natCast_nonneg _
  have k1 : (k : Int) ≤ (a.length : Int) := by omega
  have k2 : (k : Int) ≤ (b.length : Int) := by omega
  have hCORE := fun (t : Nat) => lcs_core (t := t) hE hka
  obtain ⟨c, hc⟩ : ∃ c, a.drop k = c := ⟨_, rfl⟩
  obtain ⟨d, hd⟩ : ∃ d, b.drop k = d := ⟨_, rfl⟩
  obtain ⟨p, hp⟩ : ∃ p, a.length - k = p := ⟨_, rfl⟩
  obtain ⟨q, hq⟩ : ∃ q, b.length - k = q := ⟨_, rfl⟩
  have hcp : c.length = p := by rw [← hc, List.length_drop]; exact hp
  have hdq : d.length = q := by rw [← hd, List.length_drop]; exact hq
  rw [hc, hd, hcp, hdq] at hCORE
  rw [hc, hp] at hf
  rw [hd, hq] at hs
  rw [hp] at rf
  rw [hq] at rs
  have HCORE := hid hCORE
  have HC := hid hf
  have HD := hid hs
  have HCP := hid hcp
  have HDQ := hid hdq
  have HPQ := hid (show p ≤ 1000000 ∧ q ≤ 1000000 ∧ k ≤ 1000000 by omega)
  clear hf hs hE hc hd hp hq HAl hka hkb hCORE hcp hdq hal hbl
  go_wp2_with fail
  go_quiet (fail)
  have hb3 : Below w.heap.size w (w1.drewN nq) := below_step hb1 (below_drewN _ _) hb1.size
  clear hb1
  generalize w1.drewN nq = w3 at hb3 ⊢
  have HT := hid (DTail_any _ _ c d w3 (Sl.old HC.out hb3) (Sl.old HD.out hb3) (by rw [HCP.out]; exact HPQ.out.1) (by rw [HDQ.out]; exact HPQ.out.2.1))
  rw [HCP.out, HDQ.out] at HT
  go_wp2_with (go_at_call 50; refine HT.out.mono ?_; rintro e w4 ⟨t, rfl, ⟨htp, htq, htE⟩, hb4⟩)
  have hb5 : Below w.heap.size w w4 := below_step hb3 hb4 hb3.size
  obtain ⟨m, hm⟩ : ∃ m, p - t = m := ⟨_, rfl⟩
  obtain ⟨n, hn⟩ : ∃ n, q - t = n := ⟨_, rfl⟩
  have hco := HCORE.out t htE htp
  rw [hm, hn] at hco
  have HCO := hid hco
  have t0 : (0 : Int) ≤ (t : Int) := Int.natCast_nonneg _
  have mw : IntKind.i64.wrap ((p : Int) - (t : Int)) = (m : Int) := (IntWalk.i64_in _ (by have := HPQ.out; omega)).trans (by omega)
  have nw : IntKind.i64.wrap ((q : Int) - (t : Int)) = (n : Int) := (IntWalk.i64_in _ (by have := HPQ.out; omega)).trans (by omega)
  obtain ⟨uo, uc, ru, hu⟩ := cutS_to HC.out m (by rw [HCP.out]; omega)
  obtain ⟨xo, xc, rx, hx⟩ := cutS_to HD.out n (by rw [HDQ.out]; omega)
  have HU := hid hu
  have HX := hid hx
  have HM := hid (show m ≤ 1000000 ∧ n ≤ 1000000 ∧ t ≤ 1000000 ∧ m ≤ p ∧ n ≤ q by have := HPQ.out; omega)
  have m0 : (0 : Int) ≤ (m : Int) := Int.natCast_nonneg _
  have n0 : (0 : Int) ≤ (n : Int) := Int.natCast_nonneg _
  clear hu hx hco htE hm hn hb4 hb3 HCORE HT
  go_wp2_with fail
  go_quiet (fail)
  have hb6 : Below w.heap.size w (w4.drewN nq) := below_step hb5 (below_drewN _ _) hb5.size
  clear hb5
  generalize w4.drewN nq = w6 at hb6 ⊢
  obtain ⟨C, hC⟩ : ∃ C, c.take m = C := ⟨_, rfl⟩
  obtain ⟨D, hD⟩ : ∃ D, d.take n = D := ⟨_, rfl⟩
  have HCL := hid (show C.length = m by rw [← hC, List.length_take, HCP.out, Nat.min_eq_left HM.out.2.2.2.1])
  have HDL := hid (show D.length = n by rw [← hD, List.length_take, HDQ.out, Nat.min_eq_left HM.out.2.2.2.2])
  rw [hC] at HU HCO
  rw [hD] at HX HCO
  have HBT := hid (DBetween_any _ _ C D w6 (Sl.old HU.out hb6) (Sl.old HX.out hb6) (by rw [HCL.out]; exact HM.out.1) (by rw [HDL.out]; exact HM.out.2.1))
  have hle := (lcs_le C D).1
  rw [HCL.out] at hle
  obtain ⟨V, hV⟩ : ∃ V, lcs C D = V := ⟨_, rfl⟩
  rw [hV] at hle HBT HCO
  have w1' : IntKind.i64.wrap ((k : Int) + (V : Int)) = (k : Int) + (V : Int) := IntWalk.i64_in _ (by have := HPQ.out; have := HM.out; omega)
  have w2' : IntKind.i64.wrap ((k : Int) + (V : Int) + (t : Int)) = (k : Int) + (V : Int) + (t : Int) := IntWalk.i64_in _ (by have := HPQ.out; have := HM.out; omega)
  clear hC hD hV hle
  go_wp2_with (go_at_call 51; refine HBT.out.mono ?_; rintro e w7 ⟨rfl, hb7⟩)
  go_ret
  refine ⟨?_, below_step hb6 hb7 hb6.size⟩
  rw [HCO.out]
  simp
end
end Go.Proofs.Ytnpgfbgnbonhfaa

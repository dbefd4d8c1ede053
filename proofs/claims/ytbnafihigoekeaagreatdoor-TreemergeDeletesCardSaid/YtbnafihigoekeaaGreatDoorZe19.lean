/-
  TmDe, part 19.
-/
import Derived.Test.YtbnafihigoekeaaGreatDoorZe13
import Derived.Test.YtbnafihigoekeaaGreatDoorZe9
import Derived.Test.YtbnafihigoekeaaGreatDoorZe2
import Derived.Test.YtbnafihigoekeaaGreatDoorZe1
import Derived.Laws.IdiomMaps
import Derived.Maps.OwnSet
import Derived.Test.YtbnafihigoekeaaGreatDoorZe10
import Derived.Deep.LoopGhost
import Derived.Deep.RegionLaw
import Derived.Deep.DeepCutAuto
import Derived.Deep.CutBlock
import Derived.Deep.CutRange
import Derived.Deep.QuietTactic
import Derived.Test.YtbnafihigoekeaaGreatDoorZe14
import Derived.Test.YtbnafihigoekeaaGreatDoorZe3
import Derived.Test.YtbnafihigoekeaaGreatDoorZe7
import Derived.Test.YtbnafihigoekeaaGreatDoorZe8
import Derived.Deep.RegionHeld3
import Derived.StillTailTactics
namespace Go.Proofs.YtbnafihigoekeaaGreatDoor
abbrev Tx := List UInt8
def mk0 : Tx := [60, 60, 60, 60, 60, 60, 60, 32, 111, 117, 114, 115, 10]
def mk1 : Tx := [124, 124, 124, 124, 124, 124, 124, 32, 98, 97, 115, 101, 10]
def mk2 : Tx := [61, 61, 61, 61, 61, 61, 61, 10]
def mk3 : Tx := [62, 62, 62, 62, 62, 62, 62, 32, 116, 104, 101, 105, 114, 115, 10]
def endedS (s : Tx) : Tx := if s = [] ∨ s.getLast? = some 10 then s else s ++ [10]
def markS (x : Tx) : Int := if x = mk0 then 0 else if x = mk1 then 1 else if x = mk2 then 2 else if x = mk3 then 3 else -1
def ckOne (c : Ck Tx) : List Tx := if c.1 = 3 then c.2.2.2 else c.2.2.1
def mergeOut : Tx → List (Ck Tx) → Tx
  | out, [] => out
  | out, c :: r => if c.1 = 5 then mergeOut (endedS out ++ mk0 ++ endedS c.2.2.1.flatten ++ mk1 ++ endedS c.2.1.flatten ++ mk2 ++ endedS c.2.2.2.flatten ++ mk3) r else mergeOut (out ++ (ckOne c).flatten) r
def mergeS (b o t : Tx) : Tx × Bool :=
  if cleanS (chunksS (linesOf b) (linesOf o) (linesOf t)) then ((mergedS (chunksS (linesOf b) (linesOf o) (linesOf t))).flatten, true) else (mergeOut [] (chunksS (linesOf b) (linesOf o) (linesOf t)), false)
def plainS (s : Tx) : Bool := (linesOf s).all fun x => decide (markS (endedS x) < 0)
def addLn (out : List (Ck Tx)) (st : Int) (x : Tx) : List (Ck Tx) :=
  match out.getLast? with
  | some c => out.dropLast ++ [(c.1, if st = -1 ∨ st = 1 then c.2.1 ++ [x] else c.2.1, if st = -1 ∨ st = 0 then c.2.2.1 ++ [x] else c.2.2.1, if st = -1 ∨ st = 2 then c.2.2.2 ++ [x] else c.2.2.2)]
  | none => out
def needS (out : List (Ck Tx)) (st : Int) : Bool := decide (st = -1) && (match out.getLast? with | some c => decide (c.1 = 5) | none => true)
def pStep (out : List (Ck Tx)) (st : Int) (x : Tx) : Option (List (Ck Tx) × Int) :=
  if 0 ≤ markS x then
    if markS x ≠ st + 1 then none
    else some (if markS x = 0 then out ++ [(5, [], [], [])] else out, if markS x = 3 then -1 else markS x)
  else some (addLn (if needS out st then out ++ [(1, [], [], [])] else out) st x, st)
def pRun : List (Ck Tx) → Int → List Tx → Option (List (Ck Tx) × Int)
  | out, st, [] => some (out, st)
  | out, st, x :: r => match pStep out st x with
    | some (o, s) => pRun o s r
    | none => none
def parseS (s : Tx) : Option (List (Ck Tx)) := match pRun [] (-1) (linesOf s) with
  | some (l, st) => if st = -1 then some l else none
  | none => none
def pickS (ours : Bool) (l : List (Ck Tx)) : Tx := l.flatMap fun c => (if ours then c.2.2.1 else c.2.2.2).flatten
def confN (l : List (Ck Tx)) : Nat := l.countP fun c => decide (c.1 = 5)
def NoMark (xs : List Tx) : Prop := ∀ x ∈ xs, markS x < 0
def ckLines (c : Ck Tx) : List Tx := if c.1 = 5 then mk0 :: c.2.2.1 ++ mk1 :: c.2.1 ++ mk2 :: c.2.2.2 ++ [mk3] else ckOne c
def CkPlain (c : Ck Tx) : Prop := NoMark c.2.1 ∧ NoMark c.2.2.1 ∧ NoMark c.2.2.2
theorem CkPlain.one {c : Ck Tx} (h : CkPlain c) : NoMark (ckOne c) := by
  unfold ckOne
  split
  · exact h.2.2
  · exact h.2.1
def ckPick (q : Bool) (c : Ck Tx) : Tx := if c.1 = 5 then (if q then c.2.2.1 else c.2.2.2).flatten else (ckOne c).flatten
def Line (x : Tx) : Prop := ∃ y, (∀ b ∈ y, b ≠ 10) ∧ x = y ++ [10]
theorem Line.lines {xs : List Tx} (h : ∀ x ∈ xs, Line x) : linesOf xs.flatten = xs := by
  induction xs with
  | nil => rfl
  | cons x xs ih =>
    obtain ⟨y, hy, rfl⟩ := h x (List.mem_cons_self ..)
    rw [List.flatten_cons, List.append_assoc]
    show linesOf (y ++ 10 :: xs.flatten) = _
    rw [linesOf_line y _ hy, ih fun z hz => h z (List.mem_cons_of_mem _ hz)]
theorem line_mk : Line mk0 ∧ Line mk1 ∧ Line mk2 ∧ Line mk3 := by
  refine ⟨⟨mk0.dropLast, ?_, by decide⟩, ⟨mk1.dropLast, ?_, by decide⟩, ⟨mk2.dropLast, ?_, by decide⟩, ⟨mk3.dropLast, ?_, by decide⟩⟩ <;> decide
def CkLine (c : Ck Tx) : Prop := (∀ x ∈ c.2.1, Line x) ∧ (∀ x ∈ c.2.2.1, Line x) ∧ ∀ x ∈ c.2.2.2, Line x
theorem CkLine.one {c : Ck Tx} (h : CkLine c) : ∀ x ∈ ckOne c, Line x := by
  unfold ckOne
  split
  · exact h.2.2
  · exact h.2.1
theorem CkLine.all {c : Ck Tx} (h : CkLine c) : ∀ x ∈ ckLines c, Line x := by
  intro x hx
  unfold ckLines at hx
  split at hx
  · simp only [List.cons_append, List.append_assoc, List.mem_cons, List.mem_append, List.not_mem_nil, or_false] at hx
    obtain ⟨a0, a1, a2, a3⟩ := line_mk
    rcases hx with rfl | hx | rfl | hx | rfl | hx | rfl
    · exact a0
    · exact h.2.1 x hx
    · exact a1
    · exact h.1 x hx
    · exact a2
    · exact h.2.2 x hx
    · exact a3
  · exact h.one x hx
end Go.Proofs.YtbnafihigoekeaaGreatDoor
namespace Go.Proofs.YtbnafihigoekeaaGreatDoor
open Go.RowKit
abbrev MT := DataW Unit
def turnD (a b : Int) : MT := .agg [.lit (.int .u8 a), .lit (.int .u8 b)]
def turnElem : Value → Option (MT × List MemPlace)
  | .agg cs => match cs.toList with
    | [.int .u8 a, .int .u8 b] => some (turnD a b, [])
    | _ => none
  | _ => none
def turnOf (k : Int) : Int × Int := if k = 0 then (0, 1) else if k = 1 then (1, 2) else if k = 2 then (2, 3) else if k = 3 then (3, 0) else (0, 0)
def turnV (k : Int) : Value := .agg #[.int .u8 (turnOf k).1, .int .u8 (turnOf k).2]
def markD : MT := (((((.map [] : MT).put (.string mk0) (turnD 0 1)).put (.string mk1) (turnD 1 2)).put (.string mk2) (turnD 2 3)).put (.string mk3) (turnD 3 0))
section
variable {w : World}
end
section
set_option maxRecDepth 100000
set_option maxHeartbeats 4000000
def hasEnd (s : Tx) : Bool := decide (s.getLast? = some 10)
def lineEnded (s : Tx) : Tx := if hasEnd s then s else s ++ [10]
theorem PHas_any (s : Tx) (w : World) (hlen : s.length ≤ 4611686018427387904) : Calls Tryz.prog 194 #[strV s, strV [10]] w fun e w' => e = .returned (.bool (hasEnd s)) ∧ w = w' := by
  unfold strV
  rcases List.eq_nil_or_concat s with rfl | ⟨t, c, rfl⟩
  · clear hlen
    go_enter Tryz.func194, Tryz.ntmps194
    go_wp2_with fail
    go_ret
    exact ⟨rfl, rfl⟩
  · rw [List.concat_eq_append] at hlen ⊢
    have hsl := run_str_from (P := Tryz.prog) 9 Tryz.underlying9 (t ++ [c]) t.length (by simp)
    rw [List.drop_left] at hsl
    have hE : hasEnd (t ++ [c]) = (c == 10) := by
      unfold hasEnd
      rw [List.getLast?_concat]
      by_cases h : c = 10 <;> simp [h]
    have hl : (t ++ [c]).length = t.length + 1 := by simp
    obtain ⟨s, hs⟩ : ∃ s, t ++ [c] = s := ⟨_, rfl⟩
    rw [hs] at hsl hE hl hlen ⊢
    obtain ⟨m, hm⟩ : ∃ m, s.length = m := ⟨_, rfl⟩
    obtain ⟨j, hj⟩ : ∃ j, t.length = j := ⟨_, rfl⟩
    rw [hj] at hsl hl
    have h1 : (1 : Int) ≤ (m : Int) := by omega
    have mw : IntKind.i64.wrap ((m : Int) - 1) = (j : Int) := (IntWalk.i64_in _ (by omega)).trans (by omega)
    have mlen : s.length = m := hm
    have HE := hid hE
    clear hE hs hj hm hl hlen
    go_enter Tryz.func194, Tryz.ntmps194
    go_wp2_with fail
    go_ret
    exact ⟨by rw [HE.out]; rfl, rfl⟩
theorem DHas_any (s : Tx) (w : World) (hlen : s.length ≤ 4611686018427387904) : Calls Tryz.prog 175 #[strV s, strV [10]] w fun e w' => e = .returned (.bool (hasEnd s)) ∧ w = w' := by
  have H := hid (PHas_any s w hlen)
  unfold strV at H ⊢
  clear hlen
  go_enter Tryz.func175, Tryz.ntmps175
  go_wp2_with fail
  refine H.out.mono ?_
  rintro e _ ⟨rfl, rfl⟩
  go_wp2_with fail
  go_ret
  exact ⟨rfl, rfl⟩
theorem DEnded_any (s : Tx) (w : World) (hlen : s.length ≤ 4611686018427387904) : Calls Tryz.prog 155 #[strV s] w fun e w' => e = .returned (strV (lineEnded s)) ∧ w = w' := by
  have H := hid (DHas_any s w hlen)
  have hadd := run_str_add (P := Tryz.prog) s [10] (by simp; omega)
  obtain ⟨q, hq⟩ : ∃ q, hasEnd s = q := ⟨_, rfl⟩
  unfold lineEnded
  rw [hq] at H ⊢
  unfold strV at H ⊢
  clear hlen hq
  go_enter Tryz.func155, Tryz.ntmps155
  go_wp2_with fail
  refine H.out.mono ?_
  rintro e _ ⟨rfl, rfl⟩
  cases q with
  | true =>
    go_wp2_with fail
    go_ret
    exact ⟨rfl, rfl⟩
  | false =>
    go_wp2_with fail
    go_ret
    exact ⟨rfl, rfl⟩
theorem lineEnded_ne {s : Tx} (h : s ≠ []) : lineEnded s = endedS s := by
  unfold lineEnded endedS hasEnd
  by_cases hq : s.getLast? = some 10
  · rw [if_pos (by simpa using hq), if_pos (.inr hq)]
  · rw [if_neg (by simpa using hq), if_neg (by simp [h, hq])]
end
end Go.Proofs.YtbnafihigoekeaaGreatDoor
namespace Go.Proofs.YtbnafihigoekeaaGreatDoor
def tok (k : Nat) : Tx := if k = 0 then mk0 else if k = 1 then mk1 else if k = 2 then mk2 else if k = 3 then mk3 else [120, 10]
def marksGo : Bool → Nat → List Nat → Bool × Nat
  | r, a, [] => (r, a)
  | r, a, k :: l => if k = 4 then marksGo r a l else marksGo (r && decide (k = a)) ((k + 1) % 4) l
def gapLine (x : Tx) : List (It Tx) := [.gap [] [] [], .line x]
end Go.Proofs.YtbnafihigoekeaaGreatDoor
namespace Go.Proofs.YtbnafihigoekeaaGreatDoor
open Go.RowKit
def markedT (T : List Tx) (m : Tx) : List Tx := (match T.getLast? with | some x => T.dropLast ++ [lineEnded x] | none => []) ++ [m]
theorem owns_store {w : World} {base : Nat} {e : TypeId} {v : Value} {n : Nat} {xs : List Value} (h : w.ownsRow base e 1 v n xs) {g cap : Nat} (hv : v = .slice (some ⟨g, 0, none⟩) n cap) (j : Nat) (u : Value) :
    (w.setCell ⟨g, j, none⟩ u).ownsRow base e 1 v n (xs.set j u) := by
  rcases h.2 with ⟨e0, _⟩ | ⟨g1, c1, cur, hv1, q0, q1, q2, q3, q4, q5⟩
  · rw [hv] at e0; cases e0
  · have : g1 = g := by rw [hv1] at hv; cases hv; rfl
    subst this
    refine ⟨by have := h.1; simpa using this, .inr ⟨g1, c1, _, hv1, q0, blk_set q1, q2, q3, by simpa using q4, ?_⟩⟩
    rw [Array.toList_setIfInBounds, List.take_set, q5]
abbrev Aside9 (base bx : Nat) : Nat → Prop := fun k => base ≤ k ∧ k ≠ bx
section
variable {w : World}
theorem wpList_append_s9 {ops : Array Oper} {rest : List Oper} {o : Oper} {a : Act} {Q : Exit → Act → World → Prop} (hgd : o.guard = none) (s sx : Operand)
    (ho : o.op = .call { callee := .builtin .append, args := #[s, sx], argTypes := #[96, 96] })
    (base : Nat) (v : Value) (xs ys : List (List UInt8)) (he : a.eval s = v) (hown : w.ownsRow base 9 1 v xs.length (strCells xs)) (u : Value) (hx : a.eval sx = u) (hu : Sl w u (strCells ys))
    (hlen : xs.length + ys.length ≤ 8000000000000) (hbase : base ≤ w.heap.size)
    (h : ∀ v' w', w'.ownsRow base 9 1 v' (xs ++ ys).length (strCells (xs ++ ys)) → w.grownBy w' v.ownBlock → (v'.ownBlock = v.ownBlock ∨ v'.ownBlock = some w.heap.size) → wpList Tryz.prog ops Q rest (a.put o.dst v') w') : wpList Tryz.prog ops Q (o :: rest) a w := by
  obtain ⟨i0, hi0, hi1, hi2, hi3⟩ := info_parts Tryz.infoStr
  have hs := hu.src (P := Tryz.prog) Tryz.underlying96 (str_one _)
  rw [strCells_length] at hs
  refine wpList_append_any w hgd s sx _ _ ho base 9 i0 _ 1 16 Tryz.underlying96 hi0 hi1 hi2 hi3 rfl (by omega) v _ _ he hown u _ _ hx hs (by unfold maxLen; omega) (by omega) hbase fun v' w' h2 h3 h4 => h v' w' ?_ h3 h4
  rw [List.length_append, strCells_append]
  exact h2
theorem step_append_s9 {ops : Array Oper} {o : Oper} {a : Act} {K : Act → World → Prop} {Q : Exit → Act → World → Prop} {E : Prop} (hgd : o.guard = none) (s sx : Operand)
    (ho : o.op = .call { callee := .builtin .append, args := #[s, sx], argTypes := #[96, 96] })
    (base : Nat) (v : Value) (xs ys : List (List UInt8)) (he : a.eval s = v) (hown : w.ownsRow base 9 1 v xs.length (strCells xs)) (u : Value) (hx : a.eval sx = u) (hu : Sl w u (strCells ys))
    (hlen : xs.length + ys.length ≤ 8000000000000) (hbase : base ≤ w.heap.size)
    (h : ∀ v' w', w'.ownsRow base 9 1 v' (xs ++ ys).length (strCells (xs ++ ys)) → w.grownBy w' v.ownBlock → (v'.ownBlock = v.ownBlock ∨ v'.ownBlock = some w.heap.size) → K (a.put o.dst v') w') :
    if Region.wanted o (yielded ops a.tmps) = true then Oper.wp Tryz.prog o a w K Q else E := by
  obtain ⟨i0, hi0, hi1, hi2, hi3⟩ := info_parts Tryz.infoStr
  have hs := hu.src (P := Tryz.prog) Tryz.underlying96 (str_one _)
  rw [strCells_length] at hs
  refine step_append_any w hgd s sx _ _ ho base 9 i0 _ 1 16 Tryz.underlying96 hi0 hi1 hi2 hi3 rfl (by omega) v _ _ he hown u _ _ hx hs (by unfold maxLen; omega) (by omega) hbase fun v' w' h2 h3 h4 => h v' w' ?_ h3 h4
  rw [List.length_append, strCells_append]
  exact h2
end
section
set_option maxRecDepth 100000
set_option maxHeartbeats 4000000
theorem PJoinL_any (v : Value) (l : List Tx) (w : World) (hv : Sl w v (strCells l)) (hlen : l.flatten.length ≤ 1099511627776) (hn : l.length ≤ 1099511627776) :
    Calls Tryz.prog 96 #[v] w fun e w' => e = .returned (strV l.flatten) ∧ Below w.heap.size w w' := by
  have hc := hid (SJoin_any v l w hv hlen hn)
  clear hv hlen hn
  go_enter Tryz.func96, Tryz.ntmps96
  go_wp2_with fail
  refine hc.out.mono ?_
  rintro e w' ⟨rfl, hb⟩
  unfold strV
  go_wp2
  go_ret
  exact ⟨rfl, hb⟩
theorem DMarked_any (base bx : Nat) (v : Value) (T : List Tx) (m : Tx) (w : World) (ho : w.ownsRow base 9 1 v T.length (strCells T)) (hl : T.length ≤ 1000000000) (hx : ∀ x ∈ T, x.length ≤ 1099511627776) (hb : base ≤ w.heap.size) (hbx : bx < w.heap.size) (hne : v.ownBlock ≠ some bx) :
    Calls Tryz.prog 128 #[v, strV m] w fun e w' => ∃ u, e = .returned u ∧ w'.ownsRow base 9 1 u (markedT T m).length (strCells (markedT T m)) ∧ u.ownBlock ≠ some bx ∧ Keep (Aside9 base bx) w w' := by
  have hlast : ∀ (wx : World) (vx : Value) (xs : List Tx) (o : Obj), wx.ownsRow base 9 1 vx xs.length (strCells xs) → Keep (Aside9 base bx) w wx → w.heap.size ≤ wx.heap.size → vx.ownBlock ≠ some bx → ∀ (u : Value) (w5 : World), (wx.alloc o).grownBy w5 vx.ownBlock → (u.ownBlock = vx.ownBlock ∨ u.ownBlock = some (wx.alloc o).heap.size) → u.ownBlock ≠ some bx ∧ Keep (Aside9 base bx) w w5 := fun wx vx xs o h1 h2 h3 h4 u w5 hg hd => by
    refine ⟨?_, (h2.alloc o).grown hg fun k _ e => ⟨(h1.lt k e).1, fun e' => h4 (e' ▸ e)⟩⟩
    rcases hd with e | e
    · rw [e]; exact h4
    · rw [e]
      intro e'
      have := Option.some.inj e'
      simp at this
      omega
  have HLS := hid hlast
  clear hlast
  rcases List.eq_nil_or_concat T with rfl | ⟨T0, x, rfl⟩
  · obtain ⟨ao, cap, rfl⟩ := owns_form ho
    have HO := hid ho
    have HB := hid (And.intro hb hbx)
    have HN := hid hne
    unfold strV
    clear ho hl hx hb hbx hne
    go_enter Tryz.func128, Tryz.ntmps128
    go_wp2_with (at_builtin; refine wpList_append_s9 rfl (.tmp 20) (.tmp 22) rfl base _ [] [m] rfl (HO.out.alloc _) _ rfl (show Sl _ (.slice (some ⟨w.heap.size, 0, none⟩) 1 1) (strCells [m]) from Sl.ofBlock (heap_alloc_new w _)) (by simp) (by have := HB.out.1; simp; omega) ?_; intro v5 w5 o5 g5 d5; have HO5 := hid o5; have HG5 := hid g5; have HD5 := hid d5; clear o5 g5 d5)
    go_ret
    exact ⟨_, rfl, HO5.out, HLS.out w _ [] _ HO.out (Keep.refl _ _) (Nat.le_refl _) HN.out _ _ HG5.out HD5.out⟩
  · rw [List.concat_eq_append] at ho hl hx ⊢
    have hm : markedT (T0 ++ [x]) m = T0 ++ [lineEnded x] ++ [m] := by unfold markedT; rw [List.getLast?_concat, List.dropLast_concat]
    rw [hm]
    obtain ⟨ao, cap, rfl⟩ := owns_form ho
    rw [strCells_append] at ho
    have hn : (T0 ++ [x]).length = T0.length + 1 := by simp
    rcases ho.2 with ⟨e0, h0⟩ | ⟨g, c1, cur, hv1, q0, q1, q2, q3, q4, q5⟩
    · simp at h0
    obtain ⟨rfl, _, rfl⟩ := Value.slice.inj hv1
    have hc0 := ho.cells (g := g) rfl T0.length (strV x) (by rw [List.getElem?_append_right (by simp [strCells])]; simp [strCells])
    rw [Addr.add_lit, Nat.zero_add] at hc0
    have hfz : w.frozen? ⟨g, T0.length, none⟩ = false := blk_free q1
    have HST := hid (owns_store ho rfl T0.length (strV (lineEnded x)))
    have HEN := hid (DEnded_any x w (by have := hx x (by simp); omega))
    have HK := hid ((Keep.refl (Aside9 base bx) w).setCell (p := ⟨g, T0.length, none⟩) ⟨q0, fun e => hne (by rw [← e]; rfl)⟩ (strV (lineEnded x)))
    have HB := hid (And.intro hb hbx)
    have HN := hid hne
    obtain ⟨y, hy⟩ : ∃ y, lineEnded x = y := ⟨_, rfl⟩
    rw [hy] at HST HEN HK ⊢
    have HST := hid (show (w.setCell ⟨g, T0.length, none⟩ (strV y)).ownsRow base 9 1 (.slice (some ⟨g, 0, none⟩) (T0 ++ [x]).length cap) (T0 ++ [y]).length (strCells (T0 ++ [y])) by
      have h := HST.out
      rw [show (strCells T0 ++ strCells [x]).set T0.length (strV y) = strCells (T0 ++ [y]) by
        rw [List.set_append_right _ _ (by simp [strCells])]
        simp [strCells]] at h
      rw [show (T0 ++ [y]).length = (T0 ++ [x]).length by simp]
      exact h)
    obtain ⟨n, hnn⟩ : ∃ z, (T0 ++ [x]).length = z := ⟨_, rfl⟩
    obtain ⟨j, hj⟩ : ∃ z, T0.length = z := ⟨_, rfl⟩
    rw [hnn] at hn hl HST HN ⊢
    rw [hj] at hn hc0 hfz HST HK
    have n0 : (0 : Int) < (n : Int) := by omega
    have j0 : (0 : Int) ≤ (j : Int) := Int.natCast_nonneg _
    have jn : (j : Int) < (n : Int) := by omega
    have nw : IntKind.i64.wrap ((n : Int) - 1) = (j : Int) := (IntWalk.i64_in _ (by omega)).trans (by omega)
    have HLL := hid (show (T0 ++ [y]).length ≤ 1000000000 by simp; omega)
    have HSL := hid (show Sl ((w.setCell ⟨g, j, none⟩ (strV y)).alloc (.cells #[strV m] 9)) (.slice (some ⟨w.heap.size, 0, none⟩) 1 1) (strCells [m]) from Sl.ofBlock (cs := #[strV m]) (t := 9) (fr := (0, 0)) (by have h := heap_alloc_new (w.setCell ⟨g, j, none⟩ (strV y)) (.cells #[strV m] 9); simpa using h))
    unfold strV at hc0 HEN HST HK HSL ⊢
    clear ho hl hx hb hbx hne hm hn hnn hj hy hv1 q0 q1 q2 q3 q4 q5
    go_enter Tryz.func128, Tryz.ntmps128
    go_wp2_with (first
      | (go_at_call 155; with_reducible refine HEN.out.mono ?_; rintro e _ ⟨rfl, rfl⟩)
      | (at_builtin; refine wpList_append_s9 rfl (.tmp 20) (.tmp 22) rfl base _ (T0 ++ [y]) [m] rfl (HST.out.alloc _) _ rfl HSL.out (by have := HLL.out; simp only [List.length_singleton]; omega) (by have := HB.out.1; simp; omega) ?_; intro v5 w5 o5 g5 d5; have HO5 := hid o5; have HG5 := hid g5; have HD5 := hid d5; clear o5 g5 d5))
    go_ret
    exact ⟨_, rfl, HO5.out, HLS.out _ _ (T0 ++ [y]) _ HST.out HK.out HK.out.size HN.out _ _ HG5.out HD5.out⟩
def pickL (q : Bool) (l : List CkS) : List Tx := l.flatMap fun c => if q then c.2.2.1 else c.2.2.2
end
end Go.Proofs.YtbnafihigoekeaaGreatDoor
namespace Go.Proofs.YtbnafihigoekeaaGreatDoor
open Go.RowKit
def confT (T : List Tx) (c : CkS) : List Tx := markedT (markedT (markedT (markedT T mk0 ++ c.2.2.1) mk1 ++ c.2.1) mk2 ++ c.2.2.2) mk3
theorem markedT_len (T : List Tx) (m : Tx) : (markedT T m).length = T.length + 1 := by
  unfold markedT
  rcases List.eq_nil_or_concat T with rfl | ⟨L, x, rfl⟩
  · rfl
  · rw [List.concat_eq_append, List.getLast?_concat, List.dropLast_concat]; simp
theorem lineEnded_len (x : Tx) : (lineEnded x).length ≤ x.length + 1 := by
  unfold lineEnded
  split
  · omega
  · simp
theorem markedT_each {T : List Tx} {m : Tx} {n : Nat} (h : ∀ x ∈ T, x.length ≤ n) (hm : m.length ≤ n + 1) : ∀ x ∈ markedT T m, x.length ≤ n + 1 := by
  unfold markedT
  rcases List.eq_nil_or_concat T with rfl | ⟨L, y, rfl⟩
  · intro x hx
    simp at hx
    rw [hx]; exact hm
  · rw [List.concat_eq_append] at h ⊢
    rw [List.getLast?_concat, List.dropLast_concat]
    intro x hx
    simp only [List.mem_append, List.mem_singleton] at hx
    rcases hx with (hx | hx) | hx
    · have := h x (by simp [hx]); omega
    · rw [hx]
      have := lineEnded_len y
      have := h y (by simp)
      omega
    · rw [hx]; exact hm
structure C9 (w : World) (base : Nat) (k : Int) (vb vo vt : Value) (u : Value) (T : List Tx) (wx : World) : Prop where
  own : wx.ownsRow base 9 1 u T.length (strCells T)
  ne : u.ownBlock ≠ some w.heap.size
  keep : Keep (Aside9 base w.heap.size) (w.alloc (.cells #[.int .i64 k, vb, vo, vt] 104)) wx
  at0 : base ≤ w.heap.size
section
variable {w : World} {base : Nat} {k : Int} {vb vo vt u : Value} {T : List Tx} {wx : World}
theorem C9.size (h : C9 w base k vb vo vt u T wx) : w.heap.size < wx.heap.size ∧ base ≤ wx.heap.size := by
  have h1 := h.keep.size
  have h2 := h.at0
  rw [World.size_alloc] at h1
  omega
theorem C9.blk (h : C9 w base k vb vo vt u T wx) : wx.heap[w.heap.size]? = some (.cells #[.int .i64 k, vb, vo, vt] 104 (0, 0)) :=
  (h.keep.block w.heap.size (by simp) (fun e => e.2 rfl)).trans (heap_alloc_new w _)
theorem C9.below (h : C9 w base k vb vo vt u T wx) : Below base w wx :=
  (((Below.refl base w).alloc h.at0 _)).trans (h.keep.below (by have := h.at0; simp; omega) (fun j hj e => by have := e.1; omega))
theorem C9.put {w2 : World} {u2 : Value} {T2 : List Tx} (h : C9 w base k vb vo vt u T wx) (ho : w2.ownsRow base 9 1 u2 T2.length (strCells T2)) (hn : u2.ownBlock ≠ some w.heap.size) (hk : Keep (Aside9 base w.heap.size) wx w2) : C9 w base k vb vo vt u2 T2 w2 := ⟨ho, hn, h.keep.trans hk, h.at0⟩
theorem C9.drew (h : C9 w base k vb vo vt u T wx) : C9 w base k vb vo vt u T wx.drew := ⟨h.own, h.ne, h.keep.drew, h.at0⟩
theorem C9.grown {w2 : World} {u2 : Value} {T2 : List Tx} (h : C9 w base k vb vo vt u T wx) (ho : w2.ownsRow base 9 1 u2 T2.length (strCells T2)) (hg : wx.grownBy w2 u.ownBlock) (hd : u2.ownBlock = u.ownBlock ∨ u2.ownBlock = some wx.heap.size) : C9 w base k vb vo vt u2 T2 w2 := by
  refine h.put ho ?_ ((Keep.refl _ _).grown hg fun j _ e => ⟨(h.own.lt j e).1, fun e' => h.ne (e' ▸ e)⟩)
  rcases hd with e | e
  · rw [e]; exact h.ne
  · rw [e]
    intro e'
    have := Option.some.inj e'
    have := h.size
    omega
theorem C9.marked (h : C9 w base k vb vo vt u T wx) (m : Tx) (hl : T.length ≤ 1000000000) (hx : ∀ x ∈ T, x.length ≤ 1099511627776) :
    Calls Tryz.prog 128 #[u, strV m] wx fun e w' => ∃ u', e = .returned u' ∧ C9 w base k vb vo vt u' (markedT T m) w' :=
  (DMarked_any base w.heap.size u T m wx h.own hl hx h.size.2 h.size.1 h.ne).mono fun _ _ ⟨u', e, h1, h2, h3⟩ => ⟨u', e, h.put h1 h2 h3⟩
end
section
set_option maxRecDepth 100000
set_option maxHeartbeats 4000000
theorem DConflict_any (base : Nat) (v : Value) (T : List Tx) (k : Int) (xb xo xt : List Tx) (vb vo vt : Value) (w : World) (ho : w.ownsRow base 9 1 v T.length (strCells T))
    (hS : ∀ wx, Below base w wx → Sl wx vb (strCells xb) ∧ Sl wx vo (strCells xo) ∧ Sl wx vt (strCells xt))
    (hl : T.length ≤ 900000000 ∧ xb.length ≤ 1000000 ∧ xo.length ≤ 1000000 ∧ xt.length ≤ 1000000) (hx : (∀ x ∈ T, x.length ≤ 1000000000) ∧ (∀ x ∈ xb, x.length ≤ 1000000000) ∧ (∀ x ∈ xo, x.length ≤ 1000000000) ∧ ∀ x ∈ xt, x.length ≤ 1000000000) (hb : base ≤ w.heap.size) :
    Calls Tryz.prog 98 #[v, .agg #[.int .i64 k, vb, vo, vt]] w fun e w' => ∃ u, e = .returned u ∧ w'.ownsRow base 9 1 u (confT T (k, xb, xo, xt)).length (strCells (confT T (k, xb, xo, xt))) ∧ Below base w w' := by
  have h0 : C9 w base k vb vo vt v T (w.alloc (.cells #[.int .i64 k, vb, vo, vt] 104)) := ⟨ho.alloc _, fun e => by have := (ho.lt _ e).2; omega, Keep.refl _ _, hb⟩
  have l0 : mk0.length = 13 := rfl
  have l1 : mk1.length = 13 := rfl
  have l2 : mk2.length = 8 := rfl
  have e1 := markedT_each (m := mk0) hx.1 (by omega)
  have n1 := markedT_len T mk0
  have a1 : ∀ x ∈ markedT T mk0 ++ xo, x.length ≤ 1000000001 := fun x h => by
    rcases List.mem_append.1 h with h | h
    · exact e1 x h
    · have := hx.2.2.1 x h; omega
  have e2 := markedT_each (m := mk1) a1 (by omega)
  have n2 := markedT_len (markedT T mk0 ++ xo) mk1
  have a2 : ∀ x ∈ markedT (markedT T mk0 ++ xo) mk1 ++ xb, x.length ≤ 1000000002 := fun x h => by
    rcases List.mem_append.1 h with h | h
    · exact e2 x h
    · have := hx.2.1 x h; omega
  have e3 := markedT_each (m := mk2) a2 (by omega)
  have n3 := markedT_len (markedT (markedT T mk0 ++ xo) mk1 ++ xb) mk2
  have a3 : ∀ x ∈ markedT (markedT (markedT T mk0 ++ xo) mk1 ++ xb) mk2 ++ xt, x.length ≤ 1000000003 := fun x h => by
    rcases List.mem_append.1 h with h | h
    · exact e3 x h
    · have := hx.2.2.2 x h; omega
  rw [List.length_append] at n2 n3
  have HL := hid (show (markedT T mk0).length ≤ 900000001 ∧ (markedT (markedT T mk0 ++ xo) mk1).length ≤ 901000003 ∧ (markedT (markedT (markedT T mk0 ++ xo) mk1 ++ xb) mk2).length ≤ 902000004 by omega)
  have HC := hid h0
  have HS := hid hS
  have HM1 := hid (fun wx (h : C9 w base k vb vo vt v T wx) => h.marked mk0 (by omega) (fun x hx' => by have := hx.1 x hx'; omega))
  have HM2 := hid (fun u wx (h : C9 w base k vb vo vt u (markedT T mk0 ++ xo) wx) => h.marked mk1 (by rw [List.length_append]; omega) (fun x hx' => by have := a1 x hx'; omega))
  have HM3 := hid (fun u wx (h : C9 w base k vb vo vt u (markedT (markedT T mk0 ++ xo) mk1 ++ xb) wx) => h.marked mk2 (by rw [List.length_append]; omega) (fun x hx' => by have := a2 x hx'; omega))
  have HM4 := hid (fun u wx (h : C9 w base k vb vo vt u (markedT (markedT (markedT T mk0 ++ xo) mk1 ++ xb) mk2 ++ xt) wx) => h.marked mk3 (by rw [List.length_append]; omega) (fun x hx' => by have := a3 x hx'; omega))
  have HLX := hid hl.2
  have HCT := hid (show confT T (k, xb, xo, xt) = markedT (markedT (markedT (markedT T mk0 ++ xo) mk1 ++ xb) mk2 ++ xt) mk3 from rfl)
  obtain ⟨R, hR⟩ : ∃ R, confT T (k, xb, xo, xt) = R := ⟨_, rfl⟩
  rw [hR] at HCT ⊢
  clear h0 l0 l1 l2 e1 e2 e3 n1 n2 n3 a1 a2 a3 hR ho hS hl hx hb
  obtain ⟨T1, hT1⟩ : ∃ z, markedT T mk0 = z := ⟨_, rfl⟩
  rw [hT1] at HL HM1 HM2 HM3 HM4 HCT
  obtain ⟨T2, hT2⟩ : ∃ z, markedT (T1 ++ xo) mk1 = z := ⟨_, rfl⟩
  rw [hT2] at HL HM2 HM3 HM4 HCT
  obtain ⟨T3, hT3⟩ : ∃ z, markedT (T2 ++ xb) mk2 = z := ⟨_, rfl⟩
  rw [hT3] at HL HM3 HM4 HCT
  rw [← HCT.out] at HM4
  clear hT1 hT2 hT3
  unfold strV mk0 at HM1
  unfold strV mk1 at HM2
  unfold strV mk2 at HM3
  unfold strV mk3 at HM4
  have c1 := blk_cell (i := 1) HC.out.blk rfl
  have c2 := blk_cell (i := 2) HC.out.blk rfl
  have c3 := blk_cell (i := 3) HC.out.blk rfl
  go_enter Tryz.func98, Tryz.ntmps98
  go_upto_region 1 with fail
  go_cut [0] from 5 to 9 (fun v0 wx => C9 w base k vb vo vt v0 (T1 ++ xo) wx)
  case first =>
    go_region_law (first
      | (go_simp; go_at_call 128; refine (HM1.out _ HC.out.drew).mono ?_; rintro e w2 ⟨u2, rfl, hc2⟩; have q1 := blk_cell (i := 1) hc2.blk rfl; have q2 := blk_cell (i := 2) hc2.blk rfl; have q3 := blk_cell (i := 3) hc2.blk rfl; have HC2 := hid hc2; clear hc2; go_simp)
      | (refine step_append_s9 rfl (.tmp 6) (.tmp 8) rfl base _ T1 xo rfl HC2.out.own _ rfl (HS.out _ HC2.out.below).2.1 (by have h1 := HL.out; have h2 := HLX.out; omega) HC2.out.size.2 ?_; intro u3 w3 o3 g3 d3; have HC3 := hid (HC2.out.grown o3 g3 d3); clear o3 g3 d3))
    all_goals (
      go_wp2_with fail
      go_meet
      exact HC3.out)
  case rest =>
    have HD1 := hid hcut
    have c1 := blk_cell (i := 1) hcut.blk rfl
    have c2 := blk_cell (i := 2) hcut.blk rfl
    have c3 := blk_cell (i := 3) hcut.blk rfl
    clear hcut
    go_upto_region 2 with fail
    go_cut [0] from 10 to 14 (fun v0 wx => C9 w base k vb vo vt v0 (T2 ++ xb) wx)
    case first =>
      go_region_law (first
        | (go_simp; go_at_call 128; refine (HM2.out _ _ HD1.out.drew).mono ?_; rintro e w2 ⟨u2, rfl, hc2⟩; have q1 := blk_cell (i := 1) hc2.blk rfl; have q2 := blk_cell (i := 2) hc2.blk rfl; have q3 := blk_cell (i := 3) hc2.blk rfl; have HC2 := hid hc2; clear hc2; go_simp)
        | (refine step_append_s9 rfl (.tmp 11) (.tmp 13) rfl base _ T2 xb rfl HC2.out.own _ rfl (HS.out _ HC2.out.below).1 (by have h1 := HL.out; have h2 := HLX.out; omega) HC2.out.size.2 ?_; intro u3 w3 o3 g3 d3; have HC3 := hid (HC2.out.grown o3 g3 d3); clear o3 g3 d3))
      all_goals (
        go_wp2_with fail
        go_meet
        exact HC3.out)
    case rest =>
      have HD2 := hid hcut
      have c1 := blk_cell (i := 1) hcut.blk rfl
      have c2 := blk_cell (i := 2) hcut.blk rfl
      have c3 := blk_cell (i := 3) hcut.blk rfl
      clear hcut
      go_upto_region 3 with fail
      go_cut [0] from 15 to 19 (fun v0 wx => C9 w base k vb vo vt v0 (T3 ++ xt) wx)
      case first =>
        go_region_law (first
          | (go_simp; go_at_call 128; refine (HM3.out _ _ HD2.out.drew).mono ?_; rintro e w2 ⟨u2, rfl, hc2⟩; have q1 := blk_cell (i := 1) hc2.blk rfl; have q2 := blk_cell (i := 2) hc2.blk rfl; have q3 := blk_cell (i := 3) hc2.blk rfl; have HC2 := hid hc2; clear hc2; go_simp)
          | (refine step_append_s9 rfl (.tmp 16) (.tmp 18) rfl base _ T3 xt rfl HC2.out.own _ rfl (HS.out _ HC2.out.below).2.2 (by have h1 := HL.out; have h2 := HLX.out; omega) HC2.out.size.2 ?_; intro u3 w3 o3 g3 d3; have HC3 := hid (HC2.out.grown o3 g3 d3); clear o3 g3 d3))
        all_goals (
          go_wp2_with fail
          go_meet
          exact HC3.out)
      case rest =>
        have HD3 := hid hcut
        have c1 := blk_cell (i := 1) hcut.blk rfl
        have c2 := blk_cell (i := 2) hcut.blk rfl
        have c3 := blk_cell (i := 3) hcut.blk rfl
        clear hcut
        go_wp2_with (go_at_call 128; refine (HM4.out _ _ HD3.out).mono ?_; rintro e w4 ⟨u4, rfl, hc4⟩; have HC4 := hid hc4; clear hc4)
        go_ret
        exact ⟨_, rfl, HC4.out.own, HC4.out.below⟩
end
end Go.Proofs.YtbnafihigoekeaaGreatDoor
namespace Go.Proofs.YtbnafihigoekeaaGreatDoor
open Go.RowKit
def mkAt (k : Nat) : Tx := if k = 0 then mk0 else if k = 1 then mk1 else if k = 2 then mk2 else mk3
def marksV : Array Value := #[strV mk0, strV mk1, strV mk2, strV mk3]
section
set_option maxRecDepth 100000
set_option maxHeartbeats 2000000
end
end Go.Proofs.YtbnafihigoekeaaGreatDoor
namespace Go.Proofs.YtbnafihigoekeaaGreatDoor
open Go.RowKit
theorem endedS_len (s : Tx) : (endedS s).length ≤ s.length + 1 := by
  unfold endedS
  split
  · omega
  · simp
theorem cut_ck {w : World} {ao : Option Addr} {n cap : Nat} {cs : List CkS} (h : SlC w (.slice ao n cap) cs) {i : Nat} {p : CkS} (hp : cs[i]? = some p) :
    ∃ ao' c', (∀ wx, (Instr.slice 94 (.slice ao n cap) (some (.int .i64 (i : Int))) (some (.int .i64 ((i : Int) + 1))) none).run Tryz.prog wx = .ok (.slice ao' 1 c') wx) ∧ SlC w (.slice ao' 1 c') [p] := by
  obtain ⟨i0, hi0, hi1, hi2, hi3⟩ := info_parts Tryz.infoCk
  obtain ⟨ao', cap', hv, hnone, hcap, hc⟩ := h
  obtain ⟨rfl, rfl, rfl⟩ := Value.slice.inj hv
  have hlt := (List.getElem?_eq_some_iff.1 hp).1
  refine ⟨if cap = i then ao else ao.map (·.add (i * 4)), cap - i, fun wx => ?_, ⟨_, cap - i, rfl, fun h => ?_, by simp; omega, fun a ha j u hu => ?_⟩⟩
  · have e1 : (i : Int) + 1 = ((i + 1 : Nat) : Int) := by omega
    have h1 : (i : Int) ≤ ((i + 1 : Nat) : Int) := by omega
    have h2 : ((i + 1 : Nat) : Int) ≤ cap := by omega
    have h3 : i + 1 - i = 1 := by omega
    rw [e1]
    generalize hm : i + 1 = m at h1 h2 h3 ⊢
    simp [Instr.slice, run_underlying Tryz.underlying94, Instr.sliceBounds, run_sliceBound, sizeOf, typeInfo, hi0, hi2, h1, h2, h3]
  · have : ao = none := by
      split at h
      · exact h
      · simpa using h
    rw [hnone this] at hlt
    cases hlt
  · obtain ⟨rfl, rfl⟩ : j = 0 ∧ u = p := by
      cases j with
      | zero => exact ⟨rfl, by simpa using hu.symm⟩
      | succ j => simp at hu
    rw [if_neg (by omega)] at ha
    cases ao with
    | none => cases ha
    | some b =>
      cases ha
      obtain ⟨vb, vo, vt, h1, h2, h3, h4, h5, h6, h7⟩ := hc b rfl i _ hp
      refine ⟨vb, vo, vt, ?_, ?_, ?_, ?_, h5, h6, h7⟩
      · rw [addr_add_add]; simpa using h1
      · rw [addr_add_add]; simpa using h2
      · rw [addr_add_add]; simpa using h3
      · rw [addr_add_add]; simpa using h4
theorem mergedS_append (a b : List CkS) : mergedS (a ++ b) = mergedS a ++ mergedS b := by simp [mergedS]
section
set_option maxRecDepth 100000
set_option maxHeartbeats 4000000
theorem chunk_flat {b o t : Tx} (hb : b.length ≤ 3000) (ho : o.length ≤ 3000) (ht : t.length ≤ 3000) : ∀ c ∈ chunksS (linesOf b) (linesOf o) (linesOf t), c.2.1.flatten.length ≤ 3000 ∧ c.2.2.1.flatten.length ≤ 3000 ∧ c.2.2.2.flatten.length ≤ 3000 := by
  obtain ⟨h1, h2, h3, _⟩ := chunks_sides (linesOf b) (linesOf o) (linesOf t)
  have key : ∀ (f : CkS → List Tx) (l : List CkS) (c : CkS), c ∈ l → (f c).flatten.length ≤ (l.flatMap f).flatten.length := fun f l c hc => by
    induction l with
    | nil => cases hc
    | cons x l ih =>
      rw [List.flatMap_cons, List.flatten_append, List.length_append]
      rcases List.mem_cons.1 hc with rfl | hc
      · omega
      · have := ih hc; omega
  intro c hc
  have e1 := key (fun k => k.2.1) _ c hc
  have e2 := key (fun k => k.2.2.1) _ c hc
  have e3 := key (fun k => k.2.2.2) _ c hc
  rw [h1, linesOf_join] at e1
  rw [h2, linesOf_join] at e2
  rw [h3, linesOf_join] at e3
  omega
theorem merged_flat {l : List CkS} {n : Nat} (h : ∀ c ∈ l, c.2.1.flatten.length ≤ n ∧ c.2.2.1.flatten.length ≤ n ∧ c.2.2.2.flatten.length ≤ n) : (mergedS l).flatten.length ≤ l.length * n := by
  induction l with
  | nil => simp [mergedS]
  | cons c l ih =>
    have h1 := h c (List.mem_cons_self ..)
    have h2 := ih fun x hx => h x (List.mem_cons_of_mem _ hx)
    have e : mergedS (c :: l) = (if c.1 = 3 then c.2.2.2 else c.2.2.1) ++ mergedS l := by simp [mergedS]
    rw [e, List.flatten_append, List.length_append, List.length_cons, Nat.succ_mul]
    split <;> omega
theorem merged_count {l : List CkS} {n : Nat} (h : ∀ c ∈ l, c.2.2.1.length ≤ n ∧ c.2.2.2.length ≤ n) : (mergedS l).length ≤ l.length * n := by
  induction l with
  | nil => simp [mergedS]
  | cons c l ih =>
    have h1 := h c (List.mem_cons_self ..)
    have h2 := ih fun x hx => h x (List.mem_cons_of_mem _ hx)
    have e : mergedS (c :: l) = (if c.1 = 3 then c.2.2.2 else c.2.2.1) ++ mergedS l := by simp [mergedS]
    rw [e, List.length_append, List.length_cons, Nat.succ_mul]
    split <;> omega
theorem chunk_lines {b o t : List Tx} (_ : b.length ≤ 3000) (ho : o.length ≤ 3000) (ht : t.length ≤ 3000) : ∀ c ∈ chunksS b o t, c.2.2.1.length ≤ 3000 ∧ c.2.2.2.length ≤ 3000 := fun c hc => by
  obtain ⟨h1, h2, h3, _⟩ := chunks_sides b o t
  have e2 := flat_len (f := fun k : CkS => k.2.2.1) hc
  have e3 := flat_len (f := fun k : CkS => k.2.2.2) hc
  rw [h2] at e2
  rw [h3] at e3
  omega
end
end Go.Proofs.YtbnafihigoekeaaGreatDoor

/-
  TmDe, part 10.
-/
import Derived.Test.YtbnafihigoekeaaGreatDoorZe3
import Derived.Test.YtbnafihigoekeaaGreatDoorZe1
import Derived.Test.YtbnafihigoekeaaGreatDoorZe5
import Derived.Test.YtbnafihigoekeaaGreatDoorZe8
import Derived.Deep.CutRange
import Derived.Deep.RegionHeld3
namespace Go.Proofs.YtbnafihigoekeaaGreatDoor
open Go.RowKit
section
variable {w : World}
theorem wpList_append_ss {ops : Array Oper} {rest : List Oper} {o : Oper} {a : Act} {Q : Exit → Act → World → Prop} (hgd : o.guard = none) (s sx : Operand)
    (ho : o.op = .call { callee := .builtin .append, args := #[s, sx], argTypes := #[96, 96] })
    (base : Nat) (v : Value) (xs ys : List (List UInt8)) (he : a.eval s = v) (hown : w.ownsRow base 9 1 v xs.length (strCells xs)) (u : Value) (hx : a.eval sx = u) (hu : Sl w u (strCells ys))
    (hlen : xs.length + ys.length ≤ 4000000000) (hbase : base ≤ w.heap.size)
    (h : ∀ v' w', w'.ownsRow base 9 1 v' (xs ++ ys).length (strCells (xs ++ ys)) → Below base w w' → wpList Tryz.prog ops Q rest (a.put o.dst v') w') : wpList Tryz.prog ops Q (o :: rest) a w := by
  obtain ⟨i0, hi0, hi1, hi2, hi3⟩ := info_parts Tryz.infoStr
  have hs := hu.src (P := Tryz.prog) Tryz.underlying96 (str_one _)
  rw [strCells_length] at hs
  refine wpList_append_any w hgd s sx _ _ ho base 9 i0 _ 1 16 Tryz.underlying96 hi0 hi1 hi2 hi3 rfl (by omega) v _ _ he hown u _ _ hx hs (by unfold maxLen; omega) (by omega) hbase fun v' w' h2 h3 h4 => h v' w' ?_ ?_
  · rw [List.length_append, strCells_append]
    exact h2
  · exact (Below.refl base w).grown h3 hbase (fun j hj => (hown.lt j hj).1)
structure TwoS (w : World) (base : Nat) (v u : Value) (xs ys : List (List UInt8)) : Prop where
  one : w.ownsRow base 9 1 v xs.length (strCells xs)
  two : w.ownsRow base 9 1 u ys.length (strCells ys)
  apart : ∀ g, v.ownBlock = some g → u.ownBlock ≠ some g
theorem TwoS.nil (w : World) (base : Nat) : TwoS w base (.slice none 0 0) (.slice none 0 0) [] [] := ⟨World.ownsRow_nil _ _ _ _, World.ownsRow_nil _ _ _ _, fun g h => by cases h⟩
end
end Go.Proofs.YtbnafihigoekeaaGreatDoor
namespace Go.Proofs.YtbnafihigoekeaaGreatDoor
open Go.RowKit
attribute [local go_sem] Oper.semAt_some
def TabQ (q : IntKind) (w : World) (base : Nat) (t : Value) (n m : Nat) (f : Nat → Nat → Nat) : Prop :=
  ∃ g, base ≤ g ∧ t = .slice (some ⟨g, 0, none⟩) (n + 1) (n + 1) ∧ ∀ i, i ≤ n → ∃ r, base ≤ r ∧ w.cell? ⟨g, i, none⟩ = some (.slice (some ⟨r, 0, none⟩) (m + 1) (m + 1)) ∧ ∀ k, k ≤ m → w.cell? ⟨r, k, none⟩ = some (.int q (f i k : Nat))
theorem TabQ.old {q : IntKind} {w w' : World} {base : Nat} {t : Value} {n m : Nat} {f : Nat → Nat → Nat} (h : TabQ q w base t n m f) (hk : ∀ b, base ≤ b → b < w.heap.size → w'.heap[b]? = w.heap[b]?) : TabQ q w' base t n m f := by
  obtain ⟨g, hg, rfl, h1⟩ := h
  refine ⟨g, hg, rfl, fun i hi => ?_⟩
  obtain ⟨r, hr, h2, h3⟩ := h1 i hi
  refine ⟨r, hr, (World.cell?_of_block (w := w) (hk _ hg (World.block_lt_of_cell? w _ h2))).trans h2, fun k hkm => ?_⟩
  exact (World.cell?_of_block (w := w) (hk _ hr (World.block_lt_of_cell? w _ (h3 k hkm)))).trans (h3 k hkm)
structure TabR (w W : World) (vB : Value) (n m g p K L : Nat) (R : Nat → Nat) (f : Nat → Nat → Nat) : Prop where
  box : W.heap[w.heap.size]? = some (.cells #[vB] 96 (0, 0))
  bp : W.heap[p]? = some (.cells #[.slice (some ⟨g, 0, none⟩) (n + 1) (n + 1)] 261 (0, 0))
  top : W.heap[g]? = some (.cells (mixL (fun j => .slice (some ⟨R j, 0, none⟩) (m + 1) (m + 1)) (fun _ => .slice none 0 0) (n + 1) K).toArray 264 (0, 0))
  rows : ∀ j, L ≤ j → j ≤ n → W.heap[R j]? = some (.cells (rowL .u16 (f j) (m + 1)).toArray 263 (0, 0))
  far : w.heap.size < g ∧ g < p ∧ ∀ j, L ≤ j → j ≤ n → p < R j
  below : Below w.heap.size w W
theorem TabR.tab {w W : World} {vB : Value} {n m g p : Nat} {R : Nat → Nat} {f : Nat → Nat → Nat} (h : TabR w W vB n m g p 0 0 R f) : TabQ .u16 W w.heap.size (.slice (some ⟨g, 0, none⟩) (n + 1) (n + 1)) n m f := by
  obtain ⟨h1, h2, h3⟩ := h.far
  refine ⟨g, by omega, rfl, fun i hi => ⟨R i, by have := h3 i (Nat.zero_le _) hi; omega, blk_cell h.top ?_, fun k hk => blk_cell (h.rows i (Nat.zero_le _) hi) ?_⟩⟩
  · rw [List.getElem?_toArray, mixL_at (by omega) (Nat.zero_le _)]
  · rw [List.getElem?_toArray, rowL_at (by omega)]
theorem TabR.row {w W W1 : World} {vB : Value} {n m g p i : Nat} {R : Nat → Nat} {f : Nat → Nat → Nat} (h : TabR w W vB n m g p (i + 1) (i + 1) R f) (hi : i ≤ n)
    (hw : W1 = ((W.setCell ⟨g, i, none⟩ (.slice (some ⟨W.heap.size, 0, none⟩) (m + 1) (m + 1))).alloc (.cells (List.replicate (m + 1) (Value.int .u16 0)).toArray 263)).drew) :
    TabR w W1 vB n m g p i (i + 1) (fun j => if j = i then W.heap.size else R j) f ∧ W1.heap[W.heap.size]? = some (.cells (rowL .u16 (fun _ => 0) (m + 1)).toArray 263 (0, 0)) := by
  obtain ⟨h1, h2, h3⟩ := h.far
  have lg := lt_of_block h.top
  have lp := lt_of_block h.bp
  have ls := h.below.size
  have hss : (W.setCell ⟨g, i, none⟩ (.slice (some ⟨W.heap.size, 0, none⟩) (m + 1) (m + 1))).heap.size = W.heap.size := by simp [World.setCell]
  have hne : ∀ b, b ≠ g → b < W.heap.size → W1.heap[b]? = W.heap[b]? := fun b hb hl => by
    rw [hw]
    exact (Below.heap_alloc _ _ b (by rw [hss]; exact hl)).trans (Below.heap_setCell _ _ _ _ hb)
  refine ⟨⟨?_, ?_, ?_, fun j h4 h5 => ?_, ⟨h1, h2, fun j h4 h5 => ?_⟩, ?_⟩, ?_⟩
  · rw [hne _ (by omega) (by omega)]
    exact h.box
  · rw [hne _ (by omega) (by omega)]
    exact h.bp
  · have := blk_set (i := i) (u := .slice (some ⟨W.heap.size, 0, none⟩) (m + 1) (m + 1)) h.top
    rw [hw]
    refine ((Below.heap_alloc _ _ g (by rw [hss]; exact lg)).trans this).trans ?_
    rw [List.setIfInBounds_toArray]
    congr 3
    have e := mixL_set (fun j => Value.slice (some ⟨if j = i then W.heap.size else R j, 0, none⟩) (m + 1) (m + 1)) (fun _ => .slice none 0 0) (n + 1) i (by omega)
    rw [if_pos rfl] at e
    rw [← e]
    congr 1
    apply List.ext_getElem
    · simp [mixL]
    · intro q q1 q2
      simp only [mixL, List.getElem_map, List.getElem_range]
      by_cases hq : i + 1 ≤ q
      · rw [if_pos hq, if_pos hq, if_neg (by omega)]
      · rw [if_neg hq, if_neg hq]
  · have lr := lt_of_block (h.rows j h4 h5)
    have := h3 j h4 h5
    rw [if_neg (by omega), hne _ (by omega) lr]
    exact h.rows j h4 h5
  · rw [if_neg (by omega)]
    exact h3 j h4 h5
  · rw [hw]
    exact ((h.below.setCell (by show w.heap.size ≤ g; omega) _).alloc (by rw [hss]; exact ls) _).trans (show Below w.heap.size _ _ from ⟨rfl, rfl, rfl, Nat.le_refl _, fun _ _ => rfl⟩)
  · rw [hw, ← rowL_zero]
    have := World.alloc_heap_new (W.setCell ⟨g, i, none⟩ (.slice (some ⟨W.heap.size, 0, none⟩) (m + 1) (m + 1))) (.cells (List.replicate (m + 1) (Value.int .u16 0)).toArray 263)
    rw [hss] at this
    exact this
theorem TabR.row2 {w W W1 : World} {vB : Value} {n m m1 g p i : Nat} {R : Nat → Nat} {f : Nat → Nat → Nat} {Z : Array Value} (h : TabR w W vB n m g p (i + 1) (i + 1) R f) (hi : i ≤ n) (hm : m + 1 = m1) (hZ : (List.replicate m1 (Value.int .u16 0)).toArray = Z)
    (hw : W1 = ((W.setCell ⟨g, i, none⟩ (.slice (some ⟨W.heap.size, 0, none⟩) m1 m1)).alloc (.cells Z 263)).drew) :
    TabR w W1 vB n m g p i (i + 1) (fun j => if j = i then W.heap.size else R j) f ∧ W1.heap[W.heap.size]? = some (.cells (rowL .u16 (fun _ => 0) (m + 1)).toArray 263 (0, 0)) := by
  subst hm
  subst hZ
  exact h.row hi hw
theorem TabR.fill {w W W2 : World} {vB : Value} {n m g p i r : Nat} {R : Nat → Nat} {f : Nat → Nat → Nat} (h : TabR w W vB n m g p i (i + 1) R f) (hr : R i = r) (hne : ∀ j, i + 1 ≤ j → j ≤ n → R j ≠ r) (hp : p < r) (hO : Only r W W2) (hrow : W2.heap[r]? = some (.cells (rowL .u16 (f i) (m + 1)).toArray 263 (0, 0))) :
    TabR w W2 vB n m g p i i R f := by
  obtain ⟨h1, h2, h3⟩ := h.far
  refine ⟨?_, ?_, ?_, fun j h4 h5 => ?_, ⟨h1, h2, fun j h4 h5 => ?_⟩, h.below.trans (hO.below (by omega))⟩
  · rw [hO.block _ (by omega)]
    exact h.box
  · rw [hO.block _ (by omega)]
    exact h.bp
  · rw [hO.block _ (by omega)]
    exact h.top
  · by_cases e : j = i
    · subst e
      rw [hr]
      exact hrow
    · rw [hO.block _ (hne j (by omega) h5)]
      exact h.rows j (by omega) h5
  · by_cases e : j = i
    · subst e
      rw [hr]
      exact hp
    · exact h3 j (by omega) h5
theorem TabR.alloc {w W : World} {vB : Value} {n m g p K L : Nat} {R : Nat → Nat} {f : Nat → Nat → Nat} (h : TabR w W vB n m g p K L R f) (o : Obj) : TabR w (W.alloc o) vB n m g p K L R f := by
  have k : ∀ {b : Nat} {ob : Obj}, W.heap[b]? = some ob → (W.alloc o).heap[b]? = some ob := fun {b ob} hb => (Below.heap_alloc W o b (Array.getElem?_eq_some_iff.1 hb).1).trans hb
  exact ⟨k h.box, k h.bp, k h.top, fun j h4 h5 => k (h.rows j h4 h5), h.far, h.below.alloc h.below.size _⟩
theorem tab_own {B Z : Nat} {w : World} {vB : Value} {n m g p : Nat} {f : Nat → Nat → Nat} (hB : w.heap.size ≤ B) : OwnFrom B (fun (k : Nat) W => ∃ R, Hid (TabR w W vB n m g p (n - k) (n - k) R f) ∧ Z ≤ W.heap.size) := fun k X Y row hs hg hr => by
  obtain ⟨R, H, hZ⟩ := hs
  have keep : ∀ {b : Nat} {cs : Array Value} {t : TypeId}, X.heap[b]? = some (.cells cs t (0, 0)) → Y.heap[b]? = some (.cells cs t (0, 0)) := fun {b cs t} hb => by
    refine (hg.block b (lt_of_block hb) fun e => ?_).trans hb
    obtain ⟨_, o, ho, hc⟩ := hr b e.symm
    rw [hb] at ho
    cases ho
    cases hc
  exact ⟨R, hid ⟨keep H.out.box, keep H.out.bp, keep H.out.top, fun j h4 h5 => keep (H.out.rows j h4 h5), H.out.far, H.out.below.grown hg H.out.below.size (fun j e => by have := (hr j e).1; omega)⟩, Nat.le_trans hZ hg.size⟩
theorem Only.others' {br : Nat} {w w' : World} {cs : Array Value} {t : TypeId} {fr : Nat × Nat} (h : Only br w w') (hb : w.heap[br]? = some (.cells cs t fr)) : KeepsOthers w w' :=
  ⟨Nat.le_of_eq h.size.symm, fun k o hk ho => by
    by_cases e : k = br
    · subst e
      rw [hb] at hk
      cases hk
      cases ho
    · exact (h.block k e).trans hk⟩
theorem tab_start {w : World} {vB : Value} {n m n1 : Nat} {Z1 : Array Value} {R : Nat → Nat} {f : Nat → Nat → Nat} (hn : n + 1 = n1) (hZ1 : (List.replicate n1 (Value.slice none 0 0)).toArray = Z1) :
    TabR w (((w.alloc (.cells #[vB] 96)).alloc (.cells Z1 264)).alloc (.cells #[.slice (some ⟨w.heap.size + 1, 0, none⟩) n1 n1] 261)) vB n m (w.heap.size + 1) (w.heap.size + 1 + 1) (n + 1) (n + 1) R f := by
  subst hn
  generalize hA : (.cells #[vB] 96 : Obj) = o0
  generalize hB : (.cells Z1 264 : Obj) = o1
  generalize hC : (.cells #[.slice (some ⟨w.heap.size + 1, 0, none⟩) (n + 1) (n + 1)] 261 : Obj) = o2
  have s0 : (w.alloc o0).heap.size = w.heap.size + 1 := by simp
  have s1 : ((w.alloc o0).alloc o1).heap.size = w.heap.size + 1 + 1 := by simp
  have e0 : (((w.alloc o0).alloc o1).alloc o2).heap[w.heap.size]? = some o0 := by rw [Below.heap_alloc _ _ _ (by omega), Below.heap_alloc _ _ _ (by omega), World.alloc_heap_new]
  have e1 : (((w.alloc o0).alloc o1).alloc o2).heap[w.heap.size + 1]? = some o1 := by rw [Below.heap_alloc _ _ _ (by omega), ← s0, World.alloc_heap_new]
  have e2 : (((w.alloc o0).alloc o1).alloc o2).heap[w.heap.size + 1 + 1]? = some o2 := by rw [← s1, World.alloc_heap_new]
  refine ⟨e0.trans (congrArg some hA.symm), e2.trans (congrArg some hC.symm), ?_, fun j h4 h5 => by omega, ⟨by omega, by omega, fun j h4 h5 => by omega⟩, (((Below.refl _ w).alloc (Nat.le_refl _) o0).alloc (by omega) o1).alloc (by omega) o2⟩
  refine (e1.trans (congrArg some hB.symm)).trans ?_
  rw [← hZ1]
  congr 3
  apply List.ext_getElem
  · simp [mixL]
  · intro q q1 q2
    have : q < n + 1 := by simpa using q1
    simp only [mixL, List.getElem_map, List.getElem_range, List.getElem_replicate]
    rw [if_neg (by omega)]
end Go.Proofs.YtbnafihigoekeaaGreatDoor
namespace Go.Proofs.YtbnafihigoekeaaGreatDoor
open Go.RowKit
attribute [local go_sem] Oper.semAt_some
section
set_option maxRecDepth 100000
set_option maxHeartbeats 4000000
theorem Tryz.infoU16 : (Tryz.prog.info? 263).map (fun i => (i.zero, i.size, i.bytes)) = some (some (.int .u16 0), 1, 2) := by kernel_rfl
theorem Tryz.infoSlU : (Tryz.prog.info? 264).map (fun i => (i.zero, i.size, i.bytes)) = some (some (.slice none 0 0), 1, 24) := by kernel_rfl
theorem DRests_any (va vb : Value) (a b : List (List UInt8)) (w : World) (ha : Sl w va (strCells a)) (hb : Sl w vb (strCells b)) (hal : a.length ≤ 60000) (hbl : b.length ≤ 60000) :
    Calls Tryz.prog 209 #[va, vb] w fun e w' => ∃ t, e = .returned t ∧ TabQ .u16 w' w.heap.size t a.length b.length (fun i k => lcs (a.drop i) (b.drop k)) ∧ Below w.heap.size w w' := by
  obtain ⟨i0, hi0, hi1, hi2, hi3⟩ := info_parts Tryz.infoU16
  obtain ⟨i9, hj0, hj1, hj2, hj3⟩ := info_parts Tryz.infoSlU
  obtain ⟨aa, ca, rfl⟩ := ha.form
  obtain ⟨ab, cb, rfl⟩ := hb.form
  rw [strCells_length] at ha hb ⊢
  rw [strCells_length]
  obtain ⟨n, hn⟩ : ∃ n, a.length = n := ⟨_, rfl⟩
  obtain ⟨m, hm⟩ : ∃ m, b.length = m := ⟨_, rfl⟩
  rw [hn] at ha hal ⊢
  rw [hm] at hb hbl ⊢
  obtain ⟨n1, hn1⟩ : ∃ n1, n + 1 = n1 := ⟨_, rfl⟩
  obtain ⟨m1, hm1⟩ : ∃ m1, m + 1 = m1 := ⟨_, rfl⟩
  have nw : IntKind.i64.wrap ((n : Int) + 1) = (n1 : Int) := (IntWalk.i64_in _ (by omega)).trans (by omega)
  have mw : IntKind.i64.wrap ((m : Int) + 1) = (m1 : Int) := (IntWalk.i64_in _ (by omega)).trans (by omega)
  have mk1 := fun wx : World => run_make1 (P := Tryz.prog) wx 261 264 i9 (.slice none 0 0) Tryz.underlying261 hj0 hj1 hj2 rfl n1 (by rw [hj3]; omega) (by omega)
  have mk2 := fun wx : World => run_make1 (P := Tryz.prog) wx 264 263 i0 (.int .u16 0) Tryz.underlying264 hi0 hi1 hi2 rfl m1 (by rw [hi3]; omega) (by omega)
  obtain ⟨f, hf⟩ : ∃ f : Nat → Nat → Nat, f = fun i k => lcs (a.drop i) (b.drop k) := ⟨_, rfl⟩
  rw [← hf]
  have f0 : ∀ k, f n k = 0 := fun k => by rw [hf]; show lcs (a.drop n) _ = 0; rw [List.drop_of_length_le (l := a) (by omega), lcs_nil_left]
  have fs : ∀ i x, a[i]? = some x → Steps x b (f i) (f (i + 1)) := fun i x hx => by
    obtain ⟨q1, e1⟩ := List.getElem?_eq_some_iff.1 hx
    have := steps_lcs x (a.drop (i + 1)) b
    rw [← e1, ← List.drop_eq_getElem_cons q1] at this
    rw [hf, ← e1]
    exact this
  have fm : ∀ i k, f i k ≤ 65000 := fun i k => by
    rw [hf]
    have := (lcs_le (a.drop i) (b.drop k)).1
    rw [List.length_drop] at this
    show lcs _ _ ≤ 65000
    omega
  obtain ⟨Z1, hZ1⟩ : ∃ Z, (List.replicate n1 (Value.slice none 0 0)).toArray = Z := ⟨_, rfl⟩
  obtain ⟨Z2, hZ2⟩ : ∃ Z, (List.replicate m1 (Value.int .u16 0)).toArray = Z := ⟨_, rfl⟩
  rw [hZ1] at mk1
  rw [hZ2] at mk2
  have n0 : (0 : Int) ≤ (n : Int) := Int.natCast_nonneg _
  have nlt : (n : Int) < (n1 : Int) := by omega
  have HA := hid ha
  have HB := hid hb
  have HF := hid (And.intro f0 (And.intro fs fm))
  have HN := hid (And.intro hn hn1)
  have HM := hid (And.intro hm hm1)
  have HZ := hid (And.intro hZ1 hZ2)
  have HL := hid (And.intro hal hbl)
  clear hi0 hi1 hi2 hi3 hj0 hj1 hj2 hj3 ha hb hf f0 fs fm hn hm hal hbl
  refine (callsIn_wide (n := 3)).1 ?_
  refine callsIn_of_wp_marks Tryz.func209 rfl trivial ?_ rfl
  simp only [Tryz.ntmps209, List.size_toArray, List.length_cons, List.length_nil, Nat.reduceAdd, Nat.reduceSub, Array.replicate_succ, Array.replicate_zero, List.push_toArray, List.append_toArray, List.nil_append, List.cons_append]
  refine wpIn_wide.2 ?_
  go_upto_region 2 with fail
  have hT0 := tab_start (w := w) (vB := .slice ab m cb) (m := m) (R := fun _ => 0) (f := f) HN.out.2 HZ.out.1
  generalize ((w.alloc (.cells #[.slice ab m cb] 96)).alloc (.cells Z1 264)).alloc (.cells #[.slice (some ⟨w.heap.size + 1, 0, none⟩) n1 n1] 261) = w2 at hT0 ⊢
  have HT0 := hid hT0
  rw [HN.out.2] at hT0
  have ckb := blk_cell (i := 0) hT0.box rfl
  have ckp := blk_cell (i := 0) HT0.out.bp rfl
  rw [HN.out.2] at ckp
  have lt2 := lt_of_block hT0.top
  have h0 : (w2.alloc (.cells Z2 263)).heap[w.heap.size + 1]? = _ := (Below.heap_alloc w2 _ _ lt2).trans hT0.top
  have ckt := blk_cell (i := n) (v := .slice none 0 0) h0 (by rw [List.getElem?_toArray]; exact mixL_lo (by have := HN.out.2; omega) (by have := HN.out.2; omega))
  have zkt := blk_free (i := n) h0
  clear hT0 h0
  go_cut [5] from 8 to 19 (fun v5 wx => v5 = .pointer (some ⟨w.heap.size + 1 + 1, 0, none⟩) ∧ Hid (wx = ((w2.setCell ⟨w.heap.size + 1, n, none⟩ (.slice (some ⟨w2.heap.size, 0, none⟩) m1 m1)).alloc (.cells Z2 263)).drew))
  case first =>
    go_region_held3 (fun wy => wy.cell? ⟨w.heap.size + 1 + 1, 0, none⟩ = some (.slice (some ⟨w.heap.size + 1, 0, none⟩) n1 n1) ∧ wy.cell? ⟨w.heap.size, 0, none⟩ = some (.slice ab m cb)) (simp (maxDischargeDepth := 12) [*, World.cell?_alloc_some, World.cell?_setCell_far]) (fail)
    go_wp2_with fail
    go_meet
    exact ⟨rfl, hid rfl⟩
  case rest =>
    obtain ⟨rfl, HW⟩ := hcut
    have lt1 : w.heap.size + 1 + 1 < w2.heap.size := lt_of_block HT0.out.bp
    obtain ⟨hT1, hrow0⟩ := HT0.out.row2 (W1 := wc) (Nat.le_refl _) HM.out.2 HZ.out.2 HW.out
    have hf0 : f n = fun _ => 0 := funext HF.out.1
    rw [← hf0] at hrow0
    have HT2 := hid (hT1.fill (r := w2.heap.size) (if_pos rfl) (fun j h4 h5 => by omega) lt1 (Only.refl _ _) hrow0)
    clear hT1 hrow0 hf0 HT0 HW ckb ckp ckt zkt
    go_wp2_with (go_at_call 219; refine (Back_any _ _ _ _).mono ?_; rintro e w5 ⟨rfl, rfl⟩)
    obtain ⟨w9, hw9⟩ : ∃ w9, wc.alloc (.cells #[.slice aa n ca] 96) = w9 := ⟨_, rfl⟩
    have HT9 := hid (HT2.out.alloc (.cells #[.slice aa n ca] 96))
    rw [hw9] at HT9
    have hz9 : w9.heap.size = wc.heap.size + 1 := by
      rw [← hw9]
      simp
    have hc9 : w9.cell? ⟨wc.heap.size, 0, none⟩ = some (.slice aa n ca) := by
      rw [← hw9]
      exact blk_cell (i := 0) (World.alloc_heap_new wc _) rfl
    have ltp := lt_of_block HT2.out.bp
    obtain ⟨g, hg⟩ : ∃ g, w.heap.size + 1 = g := ⟨_, rfl⟩
    obtain ⟨p, hp⟩ : ∃ p, g + 1 = p := ⟨_, rfl⟩
    have hwz := HT2.out.below.size
    rw [hg, hp] at HT9 ltp
    rw [hw9, hg, hp]
    clear HT2 hw9 lt1
    refine (wpIn_wide (n := 3)).1 ?_
    refine' wpIn_rounds (gf := 225) (lb := #[.pointer (some ⟨wc.heap.size, 0, none⟩)]) (N := a.length) (enc := backEnc a) (Kp := KpB w.heap.size wc.heap.size) (w0 := w9) rfl (enters_of Tryz.func225 (by kernel_rfl) rfl) ?seq (Below.refl _ _) (fun _ => rfl) KpB.trans ?kb
      (fun k W => ∃ R, Hid (TabR w W (.slice ab m cb) n m g p (n - k) (n - k) R f) ∧ w9.heap.size ≤ W.heap.size) (tab_own HT9.out.below.size) ?start _ ?assign ?body ?done
    case seq => exact back_rounds w w9 wc.heap.size _ a HA.out HT9.out.below hc9 (by have h1 := HN.out.1; have h2 := HL.out.1; omega)
    case kb => exact fun W l o h1 h2 => KpB.put W o (by omega) (by omega) h2
    case start => exact ⟨_, HT9, Nat.le_refl _⟩
    case assign =>
      intro l k W K hK
      dsimp only [backEnc]
      gi_wp2
      exact hK
    case body =>
      rintro l k W hk ⟨R, HT, hWz⟩
      rw [HN.out.1] at hk
      obtain ⟨i, hi⟩ : ∃ i, n - 1 - k = i := ⟨_, rfl⟩
      have hki : n - k = i + 1 := by omega
      rw [hki] at HT
      obtain ⟨x, hx⟩ : ∃ x, a[i]? = some x := ⟨_, List.getElem?_eq_getElem (by rw [HN.out.1]; omega)⟩
      rw [HN.out.1, hi, hx, Option.getD_some]
      have HX := hid hx
      have hin : i < n := by omega
      have HIK := hid (show n - (k + 1) = i by omega)
      have i0 : (0 : Int) ≤ (i : Int) := Int.natCast_nonneg _
      have i1 : (i : Int) < (n1 : Int) := by have := HN.out.2; omega
      have hT := HT.out
      have ckb := blk_cell (i := 0) hT.box rfl
      have ckp := blk_cell (i := 0) hT.bp rfl
      rw [HN.out.2] at ckp
      have ltg := lt_of_block hT.top
      have h0 : (W.alloc (.cells Z2 263)).heap[g]? = _ := (Below.heap_alloc W _ _ ltg).trans hT.top
      have ckt := blk_cell (i := i) (v := .slice none 0 0) h0 (by rw [List.getElem?_toArray]; exact mixL_lo (by omega) (by omega))
      have zkt := blk_free (i := i) h0
      clear hT h0 hx hi hki hk
      gi_wp2
      refine region_round (fun wy => wy.cell? ⟨p, 0, none⟩ = some (.slice (some ⟨g, 0, none⟩) n1 n1) ∧ wy.cell? ⟨w.heap.size, 0, none⟩ = some (.slice ab m cb)) (by kernel_rfl) (by kernel_rfl) ?_
      have hS : (fun wy => wy.cell? ⟨p, 0, none⟩ = some (.slice (some ⟨g, 0, none⟩) n1 n1) ∧ wy.cell? ⟨w.heap.size, 0, none⟩ = some (.slice ab m cb)) W.drew := ⟨ckp, ckb⟩
      refine wpAnyH_take (i := 0) (v := .slice (some ⟨g, 0, none⟩) n1 n1) rfl (by kernel_rfl) (by kernel_rfl) (by kernel_rfl) (fun _ _ _ h => h) (Or.inl ⟨by rfl, fun wz hz => ?_⟩) hS ?_
      · obtain ⟨z1, z2⟩ := hz
        go_simp
      simp only [Act.put, List.setIfInBounds_toArray]
      refine wpAnyH_take (i := 1) (v := .int .i64 (i : Int)) rfl (by kernel_rfl) (by kernel_rfl) (by kernel_rfl) (fun _ _ _ h => h) (Or.inl ⟨by rfl, fun wz hz => ?_⟩) hS ?_
      · obtain ⟨z1, z2⟩ := hz
        go_simp
      simp only [Act.put]
      refine wpAnyH_take (i := 2) (v := .slice ab m cb) rfl (by kernel_rfl) (by kernel_rfl) (by kernel_rfl) (fun _ _ _ h => h) (Or.inl ⟨by rfl, fun wz hz => ?_⟩) hS ?_
      · obtain ⟨z1, z2⟩ := hz
        go_simp
      simp only [Act.put]
      refine wpAnyH_take (i := 3) (v := .int .i64 (m : Int)) rfl (by kernel_rfl) (by kernel_rfl) (by kernel_rfl) (fun _ _ _ h => h) (Or.inl ⟨by rfl, fun wz hz => ?_⟩) hS ?_
      · obtain ⟨z1, z2⟩ := hz
        go_simp
      simp only [Act.put]
      refine wpAnyH_take (i := 4) (v := .int .i64 (m1 : Int)) rfl (by kernel_rfl) (by kernel_rfl) (by kernel_rfl) (fun _ _ _ h => h) (Or.inl ⟨by rfl, fun wz hz => ?_⟩) hS ?_
      · obtain ⟨z1, z2⟩ := hz
        go_simp
      simp only [Act.put]
      refine wpAnyH_ready (rs := [5]) (by kernel_rfl) (by simp) ?_
      refine AllReadyH.cons rfl (fun K' hK' => ?_) AllReadyH.nil
      go_simp
      have s1 : (W.alloc (.cells Z2 263)).cell? ⟨p, 0, none⟩ = _ := (World.cell?_alloc_some W _ _ (by rw [ckp]; rfl)).trans ckp
      have s2 : (W.alloc (.cells Z2 263)).cell? ⟨w.heap.size, 0, none⟩ = _ := (World.cell?_alloc_some W _ _ (by rw [ckb]; rfl)).trans ckb
      refine hK'.out _ _ ⟨s1, s2⟩ (fun hS2 => ?_)
      clear hK' s1 s2
      refine wpAnyH_take (i := 6) (v := .pointer (some ⟨g, i, none⟩)) rfl (by kernel_rfl) (by kernel_rfl) (by kernel_rfl) (fun _ _ _ h => h) (Or.inl ⟨by rfl, fun wz hz => ?_⟩) hS2 ?_
      · obtain ⟨z1, z2⟩ := hz
        go_simp
      simp only [Act.put]
      refine wpAnyH_ready (rs := [7]) (by kernel_rfl) (by simp) ?_
      refine AllReadyH.cons rfl (fun K' hK' => ?_) AllReadyH.nil
      go_simp
      obtain ⟨far1, far2, far3⟩ := HT.out.far
      have s3 : (W.setCell ⟨g, i, none⟩ (.slice (some ⟨W.heap.size, 0, none⟩) m1 m1)).cell? ⟨p, 0, none⟩ = _ := (World.cell?_setCell_far W ⟨g, i, none⟩ ⟨p, 0, none⟩ _ (by show g ≠ p; omega)).trans ckp
      have s4 : (W.setCell ⟨g, i, none⟩ (.slice (some ⟨W.heap.size, 0, none⟩) m1 m1)).cell? ⟨w.heap.size, 0, none⟩ = _ := (World.cell?_setCell_far W ⟨g, i, none⟩ ⟨w.heap.size, 0, none⟩ _ (by show g ≠ w.heap.size; omega)).trans ckb
      refine hK'.out _ _ ⟨(World.cell?_alloc_some _ _ _ (by rw [s3]; rfl)).trans s3, (World.cell?_alloc_some _ _ _ (by rw [s4]; rfl)).trans s4⟩ (fun _ => ?_)
      clear hK' s3 s4 hS hS2
      refine wpAnyH_done (by kernel_rfl) ?_ _
      obtain ⟨W1, hW1⟩ : ∃ W1, W1 = ((W.setCell ⟨g, i, none⟩ (.slice (some ⟨W.heap.size, 0, none⟩) m1 m1)).alloc (.cells Z2 263)).drew := ⟨_, rfl⟩
      obtain ⟨hT1, hrow⟩ := HT.out.row2 (by omega) HM.out.2 HZ.out.2 hW1
      have hKO := (((KeepsOthers.setCell W ⟨g, i, none⟩ (.slice (some ⟨W.heap.size, 0, none⟩) m1 m1)).trans (KeepsOthers.alloc _ (.cells Z2 263))).trans (KeepsOthers.drew _))
      have hss : (W.setCell ⟨g, i, none⟩ (.slice (some ⟨W.heap.size, 0, none⟩) m1 m1)).heap.size = W.heap.size := by simp [World.setCell]
      have hBs : W1.heap[wc.heap.size]? = W.heap[wc.heap.size]? := by
        rw [hW1]
        exact (Below.heap_alloc _ _ _ (by rw [hss]; omega)).trans (Below.heap_setCell _ _ _ _ (by show wc.heap.size ≠ g; omega))
      have hBW : Below w.heap.size W W1 := by
        rw [hW1]
        exact (((Below.refl _ W).setCell (by show w.heap.size ≤ g; omega) _).alloc (by rw [hss]; exact HT.out.below.size) _).trans (show Below w.heap.size _ _ from ⟨rfl, rfl, rfl, Nat.le_refl _, fun _ _ => rfl⟩)
      have hsz1 : W1.heap.size = W.heap.size + 1 := by
        rw [hW1]
        show ((W.setCell ⟨g, i, none⟩ (.slice (some ⟨W.heap.size, 0, none⟩) m1 m1)).alloc (.cells Z2 263)).heap.size = _
        rw [World.size_alloc, hss]
      rw [← hW1] at hKO ⊢
      have hR2lt := lt_of_block (HT.out.rows (i + 1) (Nat.le_refl _) (by omega))
      have hRlt : ∀ j, i + 1 ≤ j → j ≤ n → R j < W.heap.size := fun j h4 h5 => lt_of_block (HT.out.rows j h4 h5)
      have hp1 := lt_of_block HT.out.bp
      have hbeh := hT1.rows (i + 1) (Nat.le_refl _) (by omega)
      have c3 := blk_cell (i := i) hT1.top (by rw [List.getElem?_toArray]; exact mixL_at (by omega) (Nat.le_refl _))
      have c4 := blk_cell (i := i + 1) hT1.top (by rw [List.getElem?_toArray]; exact mixL_at (by omega) (by omega))
      rw [if_pos rfl] at c3
      rw [if_neg (by omega)] at c4 hbeh
      have HR1 := hid (show (fun j => if j = i then W.heap.size else R j) i = W.heap.size from if_pos rfl)
      have HR2 := hid (show ∀ j, i + 1 ≤ j → j ≤ n → (fun j => if j = i then W.heap.size else R j) j ≠ W.heap.size from fun j h4 h5 => by
        show (if j = i then W.heap.size else R j) ≠ _
        rw [if_neg (by omega)]
        have := hRlt j h4 h5
        omega)
      have c1 := blk_cell (i := 0) hT1.bp rfl
      have c2 := blk_cell (i := 0) hT1.box rfl
      obtain ⟨R', hR'⟩ : ∃ R', (fun j => if j = i then W.heap.size else R j) = R' := ⟨_, rfl⟩
      rw [hR'] at hT1 HR1 HR2
      obtain ⟨rn, hrn⟩ : ∃ rn, W.heap.size = rn := ⟨_, rfl⟩
      obtain ⟨R2, hR2⟩ : ∃ R2, R (i + 1) = R2 := ⟨_, rfl⟩
      obtain ⟨i2, hi2⟩ : ∃ i2, i + 1 = i2 := ⟨_, rfl⟩
      have iw2 : IntKind.i64.wrap ((i : Int) + 1) = (i2 : Int) := (IntWalk.i64_in _ (by have := HL.out.1; omega)).trans (by omega)
      have i20 : (0 : Int) ≤ (i2 : Int) := Int.natCast_nonneg _
      have i21 : (i2 : Int) < (n1 : Int) := by have := HN.out.2; omega
      have HFILL := hid (fill16_any w rn R2 m x (.slice ab m cb) b (f i) (f (i + 1)) (fun _ => 0) W1.drew HM.out.1 (by have := HL.out.2; omega) HB.out (hT1.below.trans ⟨rfl, rfl, rfl, Nat.le_refl _, fun _ _ => rfl⟩) (by omega) (by rw [← hR2]; omega) (by rw [← hrn]; exact hrow) rfl (by rw [← hR2]; exact hbeh) (HF.out.2.1 i x HX.out) (HF.out.2.2 (i + 1)) (HF.out.2.2 i))
      rw [HM.out.2] at HFILL c3 c4
      rw [HN.out.2] at c1
      rw [hrn] at c3 HR1 HR2 hrow hsz1 hp1
      rw [hi2] at c4
      rw [← hi2, hR2, hi2] at c4
      have HT1 := hid hT1
      have HROW := hid hrow
      have HKO := hid hKO
      have HBW := hid hBW
      have HBS := hid hBs
      have HRN := hid hrn
      have HI2 := hid hi2
      clear hT1 hrow hKO hBW hBs hrn hi2 hR2 hR' hRlt hbeh hW1 ckb ckp ckt zkt hss far3
      refine NoOut.normal ?_
      gi_wp2
      refine region_round (fun wy => wy.cell? ⟨p, 0, none⟩ = some (.slice (some ⟨g, 0, none⟩) n1 n1) ∧ wy.cell? ⟨w.heap.size, 0, none⟩ = some (.slice ab m cb) ∧ wy.cell? ⟨g, i, none⟩ = some (.slice (some ⟨rn, 0, none⟩) m1 m1) ∧ wy.cell? ⟨g, i2, none⟩ = some (.slice (some ⟨R2, 0, none⟩) m1 m1)) (by kernel_rfl) (by kernel_rfl) ?_
      have hS7 : (fun wy => wy.cell? ⟨p, 0, none⟩ = some (.slice (some ⟨g, 0, none⟩) n1 n1) ∧ wy.cell? ⟨w.heap.size, 0, none⟩ = some (.slice ab m cb) ∧ wy.cell? ⟨g, i, none⟩ = some (.slice (some ⟨rn, 0, none⟩) m1 m1) ∧ wy.cell? ⟨g, i2, none⟩ = some (.slice (some ⟨R2, 0, none⟩) m1 m1)) W1.drew := ⟨c1, c2, c3, c4⟩
      refine wpAnyH_take (i := 0) (v := .slice (some ⟨g, 0, none⟩) n1 n1) rfl (by kernel_rfl) (by kernel_rfl) (by kernel_rfl) (fun _ _ _ h => h) (Or.inl ⟨by rfl, fun wz hz => ?_⟩) hS7 ?_
      · obtain ⟨z1, z2, z3, z4⟩ := hz
        go_simp
      simp only [Act.put, List.setIfInBounds_toArray]
      refine wpAnyH_take (i := 1) (v := .int .i64 (i : Int)) rfl (by kernel_rfl) (by kernel_rfl) (by kernel_rfl) (fun _ _ _ h => h) (Or.inl ⟨by rfl, fun wz hz => ?_⟩) hS7 ?_
      · obtain ⟨z1, z2, z3, z4⟩ := hz
        go_simp
      simp only [Act.put]
      refine wpAnyH_take (i := 2) (v := .pointer (some ⟨g, i, none⟩)) rfl (by kernel_rfl) (by kernel_rfl) (by kernel_rfl) (fun _ _ _ h => h) (Or.inl ⟨by rfl, fun wz hz => ?_⟩) hS7 ?_
      · obtain ⟨z1, z2, z3, z4⟩ := hz
        go_simp
      simp only [Act.put]
      refine wpAnyH_take (i := 3) (v := .slice (some ⟨rn, 0, none⟩) m1 m1) rfl (by kernel_rfl) (by kernel_rfl) (by kernel_rfl) (fun _ _ _ h => h) (Or.inl ⟨by rfl, fun wz hz => ?_⟩) hS7 ?_
      · obtain ⟨z1, z2, z3, z4⟩ := hz
        go_simp
      simp only [Act.put]
      refine wpAnyH_take (i := 4) (v := .slice (some ⟨g, 0, none⟩) n1 n1) rfl (by kernel_rfl) (by kernel_rfl) (by kernel_rfl) (fun _ _ _ h => h) (Or.inl ⟨by rfl, fun wz hz => ?_⟩) hS7 ?_
      · obtain ⟨z1, z2, z3, z4⟩ := hz
        go_simp
      simp only [Act.put]
      refine wpAnyH_take (i := 5) (v := .int .i64 (i : Int)) rfl (by kernel_rfl) (by kernel_rfl) (by kernel_rfl) (fun _ _ _ h => h) (Or.inl ⟨by rfl, fun wz hz => ?_⟩) hS7 ?_
      · obtain ⟨z1, z2, z3, z4⟩ := hz
        go_simp
      simp only [Act.put]
      refine wpAnyH_take (i := 6) (v := .int .i64 (i2 : Int)) rfl (by kernel_rfl) (by kernel_rfl) (by kernel_rfl) (fun _ _ _ h => h) (Or.inl ⟨by rfl, fun wz hz => ?_⟩) hS7 ?_
      · obtain ⟨z1, z2, z3, z4⟩ := hz
        go_simp
      simp only [Act.put]
      refine wpAnyH_take (i := 7) (v := .pointer (some ⟨g, i2, none⟩)) rfl (by kernel_rfl) (by kernel_rfl) (by kernel_rfl) (fun _ _ _ h => h) (Or.inl ⟨by rfl, fun wz hz => ?_⟩) hS7 ?_
      · obtain ⟨z1, z2, z3, z4⟩ := hz
        go_simp
      simp only [Act.put]
      refine wpAnyH_take (i := 8) (v := .slice (some ⟨R2, 0, none⟩) m1 m1) rfl (by kernel_rfl) (by kernel_rfl) (by kernel_rfl) (fun _ _ _ h => h) (Or.inl ⟨by rfl, fun wz hz => ?_⟩) hS7 ?_
      · obtain ⟨z1, z2, z3, z4⟩ := hz
        go_simp
      simp only [Act.put]
      refine wpAnyH_take (i := 9) (v := .string ⟨x.toArray⟩) rfl (by kernel_rfl) (by kernel_rfl) (by kernel_rfl) (fun _ _ _ h => h) (Or.inl ⟨by rfl, fun wz hz => ?_⟩) hS7 ?_
      · obtain ⟨z1, z2, z3, z4⟩ := hz
        go_simp
      simp only [Act.put]
      refine wpAnyH_take (i := 10) (v := .slice ab m cb) rfl (by kernel_rfl) (by kernel_rfl) (by kernel_rfl) (fun _ _ _ h => h) (Or.inl ⟨by rfl, fun wz hz => ?_⟩) hS7 ?_
      · obtain ⟨z1, z2, z3, z4⟩ := hz
        go_simp
      simp only [Act.put]
      refine wpAnyH_ready (rs := [11]) (by kernel_rfl) (by simp) ?_
      refine AllReadyH.cons rfl (fun K' hK' => ?_) AllReadyH.nil
      go_simp
      refine HFILL.out.mono ?_
      rintro e w6 ⟨⟨v, rfl⟩, hO, hr6⟩
      obtain ⟨far1, far2, _⟩ := HT1.out.far
      have d1 : w6.cell? ⟨p, 0, none⟩ = _ := (World.cell?_of_block (w := W1) (hO.block p (by omega))).trans c1
      have d2 : w6.cell? ⟨w.heap.size, 0, none⟩ = _ := (World.cell?_of_block (w := W1) (hO.block w.heap.size (by omega))).trans c2
      have d3 : w6.cell? ⟨g, i, none⟩ = _ := (World.cell?_of_block (w := W1) (hO.block g (by omega))).trans c3
      have d4 : w6.cell? ⟨g, i2, none⟩ = _ := (World.cell?_of_block (w := W1) (hO.block g (by omega))).trans c4
      refine hK'.out _ _ ⟨d1, d2, d3, d4⟩ (fun _ => ?_)
      clear hK' d1 d2 d3 d4 hS7 c1 c2 c3 c4
      refine wpAnyH_done (by kernel_rfl) ?_ _
      refine NoOut.normal ?_
      have HO1 := hid (show Only rn W1 w6 from ⟨hO.os, hO.tape, hO.output, hO.size, hO.block⟩)
      have HR6 := hid hr6
      clear hO hr6 HFILL
      gi_wp2
      refine ⟨(HKO.out.trans (HO1.out.others' HROW.out)).from _, ⟨HBW.out.trans (HO1.out.below (by omega)), (HO1.out.block _ (by have := HRN.out; omega)).trans HBS.out⟩, R', ?_, ?_⟩
      · rw [HIK.out]
        have h6 := HR6.out
        rw [← HM.out.2] at h6
        exact hid (HT1.out.fill HR1.out HR2.out (by omega) HO1.out h6)
      · have h1 := HO1.out.size
        have h2 := HRN.out
        omega
    case done =>
      rintro D W hD ⟨R, HT, hWz⟩ hK
      obtain ⟨R', HT', _⟩ := (tab_own (B := w9.heap.size) (Z := w9.heap.size) (w := w) (vB := .slice ab m cb) (n := n) (m := m) (g := g) (p := p) (f := f) HT9.out.below.size).putObj (.deferred none) (s := a.length) ⟨R, HT, hWz⟩ hD hK rfl
      rw [HN.out.1, Nat.sub_self] at HT HT'
      have ckp := blk_cell (i := 0) HT.out.bp rfl
      rw [HN.out.2] at ckp
      have HTAB := hid HT'.out.tab
      rw [HN.out.2] at HTAB
      clear HT'
      dsimp only
      go_wp2_with fail
      refine ⟨by simp, .inl ⟨_, _, rfl, run_takeDeferred hK, ?_⟩⟩
      refine ⟨.slice (some ⟨g, 0, none⟩) n1 n1, results_tmp (show Tryz.f209.results = #[.tmp 4] from rfl) _ _ _, _, rfl, HTAB.out, HT.out.below.trans (belowK_b (w := w) (Nat.le_refl _) W D _ _ (by have := HT9.out.below.size; omega) hK rfl rfl)⟩
end
end Go.Proofs.YtbnafihigoekeaaGreatDoor

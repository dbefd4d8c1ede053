/-
  DiskKeeps: for all parts, choices of syncs, counts of steps and keeps, behind a crash the file has all that was synced, and a beginning of what was loose, no more than was kept. No condition.
-/
import Derived.Test.YtblhabiginckbaaDskV
import Derived.Test.YtblhabiginckbaaOpen
namespace Go.Proofs.Ytblhabiginckbaa.diskKeeps
open Go.ChangeShapes Go.WideShapes Go.ChangeAt Go.RowKit

/-! ### Parts that come in -/
def FactParts (w : World) (v : Value) (bss : List (List UInt8)) : Prop := ∃ vs, Sl w v vs ∧ vs.length = bss.length ∧ bss.length ≤ maxLen ∧ ∀ (i : Nat) u, vs[i]? = some u → ∃ b, bss[i]? = some b ∧ Sl w u (Lib.byteCells b) ∧ b.length ≤ maxLen
theorem open_parts {H : Type} {enc : TypeId × Value → H} {w : World} {base : Nat} {spare : Nat → Bool} {held : Bool} {fuel : Nat} {cs : List Value} {x : DataW H × List MemPlace} (h : DataW.trod enc Try.prog w base spare held fuel 43 cs = some x) :
    ∃ v bss, cs = [v] ∧ FactParts w v bss := by
  obtain ⟨v, vs, n, rfl, hs, hl, hu⟩ := open_sl Try.underlying43 (by kernel_rfl) h
  obtain ⟨bss, hbl, hb⟩ := map_of (p := fun u b => Sl w u (Lib.byteCells b) ∧ b.length ≤ maxLen) vs fun u hu' => by
    obtain ⟨y, hy⟩ := hu u hu'
    obtain ⟨v', b, e, h1, h2⟩ := open_bytes Try.underlying28 Try.underlying5 (by kernel_rfl) hy
    obtain rfl : u = v' := by simpa using e
    exact ⟨b, h1, h2⟩
  exact ⟨v, bss, rfl, vs, hs, hbl.symm, by omega, hb⟩
theorem part_at {w : World} {ao : Option Addr} {n c : Nat} {bss : List (List UInt8)} (h : FactParts w (.slice ao n c) bss) {k : Nat} (hk : k < bss.length) :
    ∃ a oa l ca b, ao = some a ∧ bss[k]? = some b ∧ l = b.length ∧ w.cell? (a.add k) = some (.slice oa l ca) ∧ Sl w (.slice oa l ca) (Lib.byteCells b) ∧ b.length ≤ maxLen := by
  obtain ⟨vs, hs, hl, _, hv⟩ := h
  obtain ⟨a, c', e, hc⟩ := hs.at (i := k) (by omega)
  obtain ⟨b, hb, hsb, hbl⟩ := hv k vs[k] (List.getElem?_eq_getElem (by omega))
  obtain ⟨oa, ca, hu⟩ := hsb.form
  rw [Lib.byteCells_length] at hu
  rw [hu] at hc hsb
  exact ⟨a, oa, b.length, ca, b, (Value.slice.inj e).1, hb, rfl, hc, hsb, hbl⟩

/-! ### What the walk holds on to: the disk, all that was appended, what is safe -/
structure St (w wr : World) (v0 v1 : Value) (D : Dk) (va : Value) (l : List UInt8) (vs : Value) (t : List UInt8) : Prop where
  disk : DiskOk w wr w.heap.size v0 v1 D
  all : wr.ownsRow w.heap.size 5 1 va l.length (Lib.byteCells l)
  safe : wr.ownsRow w.heap.size 5 1 vs t.length (Lib.byteCells t)
  sepA : ∀ j, va.ownBlock = some j → ¬ feet w.heap.size v0 v1 j
  sepS : ∀ j, vs.ownBlock = some j → ¬ feet w.heap.size v0 v1 j
  sepB : ∀ j, vs.ownBlock = some j → va.ownBlock ≠ some j
/-- Another call on the disk. -/
theorem St.call {w wr w' : World} {v0 v1 x0 x1 va vs : Value} {D D' : Dk} {l t : List UInt8} (h : St w wr v0 v1 D va l vs t) (hd : DiskOk w w' w.heap.size x0 x1 D') (k : Did wr w' w.heap.size v0 v1 x0 x1) : St w w' x0 x1 D' va l vs t := by
  have nf : ∀ (v : Value) {n : Nat} {xs : List Value}, wr.ownsRow w.heap.size 5 1 v n xs → (∀ j, v.ownBlock = some j → ¬ feet w.heap.size v0 v1 j) → ∀ j, v.ownBlock = some j → ¬ feet w.heap.size x0 x1 j := by
    intro v n xs ho hs j e e'
    rcases k.new j e' with e2 | e2
    · exact hs j e e2
    · have := own_lt ho e; omega
  exact ⟨hd, k.keep.owns h.all h.sepA, k.keep.owns h.safe h.sepS, nf va h.all h.sepA, nf vs h.safe h.sepS, h.sepB⟩
/-- Something is appended to all. -/
theorem St.grow {w wr w' : World} {v0 v1 va vs va' : Value} {D : Dk} {l t l' : List UInt8} (h : St w wr v0 v1 D va l vs t) (ho : w'.ownsRow w.heap.size 5 1 va' l'.length (Lib.byteCells l')) (hk : Keep (fun k => va.ownBlock = some k) wr w') (hat : va'.ownBlock = va.ownBlock ∨ va'.ownBlock = some wr.heap.size) : St w w' v0 v1 D va' l' vs t := by
  have hb : Below w.heap.size wr w' := hk.below h.disk.size fun j hj e => by have := (h.all.lt j e).1; omega
  refine ⟨⟨h.disk.at_.kept hk fun j e e' => h.sepA j e' e, h.disk.ok, h.disk.foot, h.disk.below.trans hb⟩, ho, hk.owns h.safe h.sepB, ?_, h.sepS, ?_⟩
  · intro j e e'
    rcases hat with e2 | e2
    · exact h.sepA j (e2.symm.trans e) e'
    · rw [e2] at e
      have := h.disk.at_.foot_lt e'
      simp at e
      omega
  · intro j e e'
    rcases hat with e2 | e2
    · exact h.sepB j e (e2.symm.trans e')
    · rw [e2] at e'
      have := own_lt h.safe e
      simp at e'
      omega
/-- What is safe is copied anew. -/
theorem St.fresh {w wr w' : World} {v0 v1 va vs vs' : Value} {D : Dk} {l t t' : List UInt8} (h : St w wr v0 v1 D va l vs t) (ho : w'.ownsRow wr.heap.size 5 1 vs' t'.length (Lib.byteCells t')) (hb : Below wr.heap.size wr w') : St w w' v0 v1 D va l vs' t' := by
  refine ⟨h.disk.on hb, (Keep.ofBelow (S := fun _ => False) hb).owns h.all fun _ _ h => h, ho.below_base _ h.disk.size, h.sepA, fun j e e' => ?_, fun j e e' => ?_⟩
  · have := (ho.lt j e).1
    have := h.disk.at_.foot_lt e'
    omega
  · have := (ho.lt j e).1
    have := own_lt h.all e'
    omega
theorem wpList_append_own8 {ops : Array Oper} {rest : List Oper} {o : Oper} {a : Act} {w : World} {Q : Exit → Act → World → Prop} (hw : Region.wanted o (yielded ops a.tmps) = true) (s sx : Operand)
    (ho : o.op = .call { callee := .builtin .append, args := #[s, sx], argTypes := #[28, 28] })
    (base : Nat) (v : Value) (l : List UInt8) (he : a.eval s = v) (hown : w.ownsRow base 5 1 v l.length (Lib.byteCells l)) (x : Value) (c : List UInt8) (hx : a.eval sx = x) (hs : Sl w x (Lib.byteCells c))
    (hl : l.length + c.length ≤ 70368744177664) (hbase : base ≤ w.heap.size)
    (h : ∀ ao cap w', w'.ownsRow base 5 1 (.slice ao (l.length + c.length) cap) (l ++ c).length (Lib.byteCells (l ++ c)) → Keep (fun k => v.ownBlock = some k) w w' → ((Value.slice ao (l.length + c.length) cap).ownBlock = v.ownBlock ∨ (Value.slice ao (l.length + c.length) cap).ownBlock = some w.heap.size) → wpList Try.prog ops Q rest (a.put o.dst (.slice ao (l.length + c.length) cap)) w') : wpList Try.prog ops Q (o :: rest) a w := by
  obtain ⟨i0, hi0, hz0, hz1, hz2⟩ := info_parts Try.info5
  have hla := Lib.byteCells_length c
  obtain ⟨v1, w1, hr1, ho1, hg1, hat⟩ := run_append_any (P := Try.prog) w base 28 28 o.type 5 i0 _ 1 1 Try.underlying28 hi0 hz0 hz1 hz2 rfl (by omega) v _ _ hown x _ _ (hs.src Try.underlying28 (byte_one c)) (by rw [hla]; unfold maxLen; omega) (by rw [hla]; omega) hbase
  have hb1 : Keep (fun k => v.ownBlock = some k) w w1 := (Keep.refl _ _).grown hg1 fun k _ e => e
  rw [hla, ← Lib.byteCells_append] at ho1
  obtain ⟨ao, cap, rfl⟩ := owns_form ho1
  rw [← List.length_append] at ho1
  refine BigFrame.wpList_want hw fun K hK => ?_
  unfold Oper.wp execOp
  simp only [ho, resolve, invoke, builtin, Sem.run_bind, Sem.run_pure, Result.andThen_ok, List.map_toArray, List.map_cons, List.map_nil, he, hx, hr1]
  exact hK _ _ (h ao cap w1 (by rw [List.length_append] at ho1 ⊢; exact ho1) hb1 hat)

/-! ### The disk, as mathematics -/
theorem step_f1 (D : Dk) : D.step.f1 = D.f1 ∧ D.step.k1 = D.k1 := by unfold Dk.step; split <;> exact ⟨rfl, rfl⟩
theorem append_yes (D : Dk) (p : List UInt8) (h : D.askAppend 1 p.length = 0) : (D.append 1 p).f1 = ⟨D.f1.b ++ p, D.f1.s⟩ ∧ (D.append 1 p).k1 = D.k1 := by
  unfold Dk.append
  rw [h, if_pos rfl, if_neg (by omega)]
  exact step_f1 _
theorem append_no (D : Dk) (p : List UInt8) (h : ¬ D.askAppend 1 p.length = 0) : D.append 1 p = D := by
  unfold Dk.append
  rw [if_neg h]
theorem sync_yes (D : Dk) (h : D.ask 1 = 0) : (D.sync 1).f1 = ⟨D.f1.b, D.f1.b.length⟩ ∧ (D.sync 1).k1 = D.k1 := by
  unfold Dk.sync
  rw [h, if_pos rfl, if_neg (by omega)]
  exact step_f1 _
theorem sync_no (D : Dk) (h : ¬ D.ask 1 = 0) : D.sync 1 = D := by
  unfold Dk.sync
  rw [if_neg h]
/-- Behind a crash. -/
theorem behind (D : Dk) (q : Nat) (hq : (q : Int) = (D.f1.s : Int) + heldI D.k1 ((D.f1.b.length : Int) - (D.f1.s : Int))) :
    D.restart.ask 1 = 0 ∧ D.restart.read 1 = D.f1.b.take q ∧ D.restart.synced 1 = q ∧ (D.f1.b.take q).length = q ∧ D.restart.down = false := by
  have hql : q ≤ D.f1.b.length := by
    have : (q : Int) ≤ D.f1.b.length := by rw [hq]; unfold heldI; omega
    omega
  have hc : D.f1.crash D.k1 = ⟨D.f1.b.take q, q⟩ := by unfold Fl.crash; rw [← hq]; rfl
  refine ⟨rfl, ?_, ?_, by rw [List.length_take]; omega, rfl⟩
  · show (D.f1.crash D.k1).b = _
    rw [hc]
  · show (D.f1.crash D.k1).s = _
    rw [hc]
theorem new_armed (m : Nat) (zs : List Int) : ((Dk.new 1000000).arm (m : Int) zs).f1 = ⟨[], 0⟩ ∧ ((Dk.new 1000000).arm (m : Int) zs).k1 = zs.getD 1 0 := ⟨rfl, rfl⟩
theorem mod_nat (a : Int) (q : Nat) (hq : 0 < q) (hq' : q < 1000000) : ∃ m : Nat, wrap64 ((IntKind.u64.wrap a).tmod (q : Int)) = (m : Int) ∧ m < q := by
  have h0 : 0 ≤ IntKind.u64.wrap a := by simp only [IntKind.wrap_u64]; omega
  generalize IntKind.u64.wrap a = x at h0
  obtain ⟨x, rfl⟩ := Int.eq_ofNat_of_zero_le h0
  have hx := Nat.mod_lt x hq
  have e : (x : Int).tmod (q : Int) = ((x % q : Nat) : Int) := by rw [Int.tmod_eq_emod_of_nonneg (by omega)]; omega
  exact ⟨x % q, by rw [e]; exact IntWalk.wrap64_in _ (by omega), hx⟩
end Go.Proofs.Ytblhabiginckbaa.diskKeeps

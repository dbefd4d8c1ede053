/-
  TmDe, part 33.
-/
import Derived.Test.YtbnafihigoekeaaGreatDoorZe23
import Derived.Test.YtbnafihigoekeaaGreatDoorZe3
import Derived.Test.YtbnafihigoekeaaGreatDoorZe9
import Derived.Test.YtbnafihigoekeaaGreatDoorZe22
import Derived.Deep.RegionLaw
import Derived.Test.YtbnafihigoekeaaGreatDoorZe8
import Derived.Shelf.Sort.AssemblysIn
import Derived.Shelf.Slices.In.SortNone
import Derived.Sort.EveryDepth
import Derived.Sort.OwnSorted
import Derived.Test.YtbnafihigoekeaaGreatDoorZe1
import Derived.Test.YtbnafihigoekeaaGreatDoorZe4
import Derived.Test.YtbnafihigoekeaaGreatDoorZe5
import Derived.OwnWalkIn
import Derived.Shelf.SlIter.Collect
namespace Go.Proofs.YtbnafihigoekeaaGreatDoor
def ratioL (x y : List Txt) : Nat := if x.length + y.length = 0 then 100 else if 400 < x.length ∨ 400 < y.length then 0 else 200 * lcs x y / (x.length + y.length)
def ratioS (a b : Txt) : Nat := ratioL (linesOf a) (linesOf b)
theorem ratioL_le (x y : List Txt) : ratioL x y ≤ 100 := by
  unfold ratioL
  split
  · exact Nat.le_refl _
  · split
    · omega
    · rename_i h _
      obtain ⟨h1, h2⟩ := lcs_le x y
      exact Nat.div_le_of_le_mul (by omega)
theorem ratioS_le (a b : Txt) : ratioS a b ≤ 100 := ratioL_le _ _
abbrev RenS := Txt × Txt
def leftF (other : List FileS) (f : FileS) : Prop := findS other f.1 = none ∧ f.2.2 ≠ []
def alikeF (x y : FileS) : Prop := x.2.2 = y.2.2 ∨ 50 ≤ ratioS x.2.2 y.2.2
structure RenOk (a b : List FileS) (r : List RenS) : Prop where
  there : ∀ p ∈ r, ∃ x y, x ∈ a ∧ y ∈ b ∧ x.1 = p.1 ∧ y.1 = p.2 ∧ leftF b x ∧ leftF a y ∧ alikeF x y
  rise : r.Pairwise fun p q => ltS p.1 q.1 = true
  once : r.Pairwise fun p q => p.2 ≠ q.2
  most : ∀ x ∈ a, ∀ y ∈ b, leftF b x → leftF a y → alikeF x y → (∃ p ∈ r, p.1 = x.1) ∨ ∃ p ∈ r, p.2 = y.1
theorem RenOk.nil_a {a b : List FileS} {r : List RenS} (h : RenOk a b r) (ha : ∀ x ∈ a, ¬ leftF b x) : r = [] := by
  cases r with
  | nil => rfl
  | cons p r =>
    obtain ⟨x, _, hx, _, _, _, hl, _⟩ := h.there p (List.mem_cons_self ..)
    exact absurd hl (ha x hx)
theorem RenOk.same {a : List FileS} {r : List RenS} (h : RenOk a a r) : r = [] :=
  h.nil_a fun x hx hl => find_none.1 hl.1 x hx rfl
theorem RenOk.one {a b : List FileS} {r : List RenS} (h : RenOk a b r) {f g : FileS} (hf : f ∈ a) (hg : g ∈ b) (ha : ∀ x ∈ a, leftF b x → x = f) (hb : ∀ y ∈ b, leftF a y → y = g)
    (lf : leftF b f) (lg : leftF a g) (al : alikeF f g) : r = [(f.1, g.1)] := by
  have all : ∀ p ∈ r, p = (f.1, g.1) := fun p hp => by
    obtain ⟨x, y, hx, hy, ex, ey, lx, ly, _⟩ := h.there p hp
    rw [ha x hx lx] at ex
    rw [hb y hy ly] at ey
    exact Prod.ext ex.symm ey.symm
  cases r with
  | nil => rcases h.most f hf g hg lf lg al with ⟨p, hp, _⟩ | ⟨p, hp, _⟩ <;> cases hp
  | cons p r =>
    cases r with
    | nil => rw [all p (List.mem_cons_self ..)]
    | cons q r =>
      have e := h.rise
      rw [List.pairwise_cons] at e
      have := e.1 q (List.mem_cons_self ..)
      rw [all p (List.mem_cons_self ..), all q (List.mem_cons_of_mem _ (List.mem_cons_self ..)), lt_irr] at this
      cases this
theorem RenOk.two {f g : FileS} {r : List RenS} (h : RenOk [f] [g] r) (hp : f.1 ≠ g.1) (hf : f.2.2 ≠ []) (hg : g.2.2 ≠ []) (hne : f.2.2 ≠ g.2.2) :
    r = if 50 ≤ ratioS f.2.2 g.2.2 then [(f.1, g.1)] else [] := by
  have lf : leftF [g] f := ⟨find_none.2 fun x hx => by rw [List.mem_singleton.1 hx]; exact hp.symm, hf⟩
  have lg : leftF [f] g := ⟨find_none.2 fun x hx => by rw [List.mem_singleton.1 hx]; exact hp, hg⟩
  split
  · rename_i h5
    exact h.one (List.mem_singleton.2 rfl) (List.mem_singleton.2 rfl) (fun x hx _ => List.mem_singleton.1 hx) (fun x hx _ => List.mem_singleton.1 hx) lf lg (.inr h5)
  · rename_i h5
    cases r with
    | nil => rfl
    | cons p r =>
      obtain ⟨x, y, hx, hy, _, _, _, _, ha⟩ := h.there p (List.mem_cons_self ..)
      rw [List.mem_singleton.1 hx, List.mem_singleton.1 hy] at ha
      exact absurd ha (not_or.2 ⟨hne, h5⟩)
theorem RenOk.find {a b : List FileS} {r : List RenS} (h : RenOk a b r) (ha : Rise a) (hb : Rise b) {p : RenS} (hp : p ∈ r) :
    ∃ x y, findS a p.1 = some x ∧ findS b p.2 = some y ∧ findS b p.1 = none ∧ findS a p.2 = none ∧ x.2.2 ≠ [] ∧ (x.2.2 = y.2.2 ∨ 50 ≤ ratioS x.2.2 y.2.2) := by
  obtain ⟨x, y, hx, hy, ex, ey, lx, ly, al⟩ := h.there p hp
  rw [← ex, ← ey]
  exact ⟨x, y, ha.find hx, hb.find hy, lx.1, ly.1, lx.2, al⟩
end Go.Proofs.YtbnafihigoekeaaGreatDoor
namespace Go.Proofs.YtbnafihigoekeaaGreatDoor
open Go.RowKit
abbrev MvS := List UInt8 × List UInt8
def encV : Enc MvS := ⟨2, by omega, fun f => [strV f.1, strV f.2], fun _ => rfl, fun f u hu => by
  simp only [List.mem_cons, List.not_mem_nil, or_false] at hu
  rcases hu with rfl | rfl <;> rfl⟩
def mvV (f : MvS) : Value := .agg #[strV f.1, strV f.2]
theorem Tryz.infoMv : (Tryz.prog.info? 78).map (fun i => (i.zero, i.size, i.bytes)) = some (some (.agg #[strV [], strV []]), 2, 32) := by kernel_rfl
abbrev SlV (w : World) (v : Value) (fs : List MvS) : Prop := SlR encV w v fs
abbrev OwnV (w : World) (base : Nat) (v : Value) (fs : List MvS) : Prop := w.ownsRow base 78 2 v fs.length (flatR encV fs)
theorem OwnV.sl {w : World} {base : Nat} {v : Value} {fs : List MvS} (h : OwnV w base v fs) : SlV w v fs := SlR.ofOwns (E := encV) h
theorem SlV.at {w : World} {ao : Option Addr} {n cap : Nat} {fs : List MvS} (h : SlV w (.slice ao n cap) fs) {i : Nat} (hi : i < fs.length) :
    ∃ b o p t, ao = some ⟨b, o, none⟩ ∧ fs[i]? = some (p, t) ∧ w.cell? ⟨b, o + i * 2, none⟩ = some (.string ⟨List.toArray p⟩) ∧ w.cell? ⟨b, o + i * 2 + 1, none⟩ = some (.string ⟨List.toArray t⟩) := by
  obtain ⟨b, o, ⟨p, t⟩, ha, hx, hc⟩ := SlR.at' h hi
  exact ⟨b, o, p, t, ha, hx, hc 0 _ rfl, hc 1 _ rfl⟩
section
variable {w : World}
theorem step_append_v1 {ops : Array Oper} {o : Oper} {a : Act} {K : Act → World → Prop} {Q : Exit → Act → World → Prop} {X : Prop} (hgd : o.guard = none) (s sx : Operand)
    (ho : o.op = .call { callee := .builtin .append, args := #[s, sx], argTypes := #[39, 39] })
    (base : Nat) (v : Value) (xs : List MvS) (x : MvS) (he : a.eval s = v) (hown : OwnV w base v xs) (u : Value) (hx : a.eval sx = u) (hu : SlV w u [x])
    (hlen : xs.length ≤ 100000000) (hbase : base ≤ w.heap.size)
    (h : ∀ v' w', OwnV w' base v' (xs ++ [x]) → Below base w w' → K (a.put o.dst v') w') : if Region.wanted o (yielded ops a.tmps) = true then Oper.wp Tryz.prog o a w K Q else X := by
  obtain ⟨i0, hi0, hi1, hi2, hi3⟩ := info_parts Tryz.infoMv
  exact step_append_r1 (E := encV) hgd s sx 39 78 ho Tryz.underlying39 hi0 hi1 hi2 (by rw [hi3]; omega) rfl base v xs x he hown u hx hu hlen hbase h
end
end Go.Proofs.YtbnafihigoekeaaGreatDoor
namespace Go.Proofs.YtbnafihigoekeaaGreatDoor
def loneB (other : List FileS) (f : FileS) : Bool := (findS other f.1).isNone && !(f.2.2 == [])
def renOne (B S : List FileS) (ts : List Int) (i : Nat) : Option MvS :=
  match ts[i]? with
  | some z => if z = -1 then none else some ((B.getD i fileZ).1, (S.getD z.toNat fileZ).1)
  | none => none
def renUp (B S : List FileS) (ts : List Int) (k : Nat) : List MvS := (List.range k).filterMap (renOne B S ts)
theorem renUp_more (B S : List FileS) (ts : List Int) (k : Nat) : renUp B S ts (k + 1) = renUp B S ts k ++ (renOne B S ts k).toList := by
  rw [renUp, List.range_succ, List.filterMap_append]
  cases h : renOne B S ts k <;> simp [h, renUp]
theorem renUp_len (B S : List FileS) (ts : List Int) (k : Nat) : (renUp B S ts k).length ≤ k := by
  have := List.length_filterMap_le (renOne B S ts) (List.range k)
  simpa [renUp] using this
theorem getD_at {l : List FileS} {i : Nat} {f : FileS} (h : l[i]? = some f) : l.getD i fileZ = f := by rw [List.getD_eq_getElem?_getD, h]; rfl
theorem ren_one {B S : List FileS} {ts : List Int} {i : Nat} {p : MvS} (h : renOne B S ts i = some p) : ∃ z, ts[i]? = some z ∧ z ≠ -1 ∧ p = ((B.getD i fileZ).1, (S.getD z.toNat fileZ).1) := by
  unfold renOne at h
  split at h
  · rename_i z hz
    split at h
    · cases h
    · rename_i hn
      exact ⟨z, hz, hn, (Option.some.inj h).symm⟩
  · cases h
theorem rise_at {l : List FileS} (h : Rise l) {i j : Nat} {x y : FileS} (hij : i < j) (hi : l[i]? = some x) (hj : l[j]? = some y) : ltS x.1 y.1 = true := by
  obtain ⟨h1, rfl⟩ := List.getElem?_eq_some_iff.1 hi
  obtain ⟨h2, rfl⟩ := List.getElem?_eq_some_iff.1 hj
  exact List.pairwise_iff_getElem.1 h i j h1 h2 hij
theorem range_pw (n : Nat) : (List.range n).Pairwise (· < ·) := List.pairwise_lt_range
def posS (l : List FileS) (x : FileS) : Nat := l.findIdx fun f => f.1 == x.1
def clsS (x y : FileS) : Nat := if x.2.2 = y.2.2 then 0 else 101 - ratioS x.2.2 y.2.2
def keyP (l m : List FileS) (x y : FileS) : Nat := (clsS x y * 1000 + posS l x) * 1000 + posS m y
structure Paired (l m : List FileS) (M : FileS → FileS → Prop) : Prop where
  sub : ∀ x y, M x y → x ∈ l ∧ y ∈ m ∧ leftF m x ∧ leftF l y ∧ alikeF x y
  one : ∀ x y y', M x y → M x y' → y = y'
  eno : ∀ x x' y, M x y → M x' y → x = x'
  most : ∀ x ∈ l, ∀ y ∈ m, leftF m x → leftF l y → alikeF x y → ∃ x' y', M x' y' ∧ (x' = x ∨ y' = y) ∧ keyP l m x' y' ≤ keyP l m x y
theorem pos_lt {l : List FileS} {x : FileS} (hx : x ∈ l) : posS l x < l.length := List.findIdx_lt_length_of_exists ⟨x, hx, by simp⟩
theorem pos_at {l : List FileS} (h : Rise l) {i : Nat} {x : FileS} (hi : l[i]? = some x) : posS l x = i := by
  obtain ⟨h1, e⟩ := List.getElem?_eq_some_iff.1 hi
  have hp := pos_lt (List.mem_of_getElem? hi)
  have h2 : (l[posS l x]).1 = x.1 := by
    have := List.findIdx_getElem (p := fun f : FileS => f.1 == x.1) (w := hp)
    exact eq_of_beq this
  rcases Nat.lt_trichotomy (posS l x) i with q | q | q
  · have := List.pairwise_iff_getElem.1 h _ _ hp h1 q
    rw [e, h2, lt_irr] at this
    cases this
  · exact q
  · have := List.pairwise_iff_getElem.1 h _ _ h1 hp q
    rw [e, h2, lt_irr] at this
    cases this
theorem pos_inj {l : List FileS} (h : Rise l) {x y : FileS} (hx : x ∈ l) (hy : y ∈ l) (e : posS l x = posS l y) : x = y := by
  obtain ⟨i, hi⟩ := List.mem_iff_getElem?.1 hx
  obtain ⟨j, hj⟩ := List.mem_iff_getElem?.1 hy
  rw [pos_at h hi, pos_at h hj] at e
  subst e
  exact Option.some.inj (hi.symm.trans hj)
theorem key_inj {l m : List FileS} (tl : Rise l) (tm : Rise m) (hl : l.length ≤ 1000) (hm : m.length ≤ 1000) {x y x' y' : FileS} (hx : x ∈ l) (hy : y ∈ m) (hx' : x' ∈ l) (hy' : y' ∈ m)
    (e : keyP l m x' y' = keyP l m x y) : x' = x ∧ y' = y := by
  have h1 := pos_lt hx
  have h2 := pos_lt hy
  have h3 := pos_lt hx'
  have h4 := pos_lt hy'
  unfold keyP at e
  exact ⟨pos_inj tl hx' hx (by omega), pos_inj tm hy' hy (by omega)⟩
theorem paired_one {l m : List FileS} (tl : Rise l) (tm : Rise m) (hl : l.length ≤ 1000) (hm : m.length ≤ 1000) {M N : FileS → FileS → Prop} (hM : Paired l m M) (hN : Paired l m N) :
    ∀ (k : Nat) (x y : FileS), keyP l m x y = k → (M x y ↔ N x y) := by
  have half : ∀ {M N : FileS → FileS → Prop}, Paired l m M → Paired l m N → ∀ k, (∀ j, j < k → ∀ x y, keyP l m x y = j → (M x y ↔ N x y)) → ∀ x y, keyP l m x y = k → M x y → N x y := by
    intro M N hM hN k ih x y hk h
    obtain ⟨s1, s2, s3, s4, s5⟩ := hM.sub x y h
    obtain ⟨x', y', hN', hs, hle⟩ := hN.most x s1 y s2 s3 s4 s5
    obtain ⟨t1, t2, _⟩ := hN.sub x' y' hN'
    by_cases e : keyP l m x' y' = keyP l m x y
    · obtain ⟨rfl, rfl⟩ := key_inj tl tm hl hm s1 s2 t1 t2 e
      exact hN'
    · have hM' := (ih _ (by omega) x' y' rfl).2 hN'
      rcases hs with rfl | rfl
      · rw [hM.one _ _ _ h hM']
        exact hN'
      · rw [hM.eno _ _ _ h hM']
        exact hN'
  intro k
  induction k using Nat.strongRecOn with
  | ind k ih => exact fun x y hk => ⟨half hM hN k ih x y hk, half hN hM k (fun j hj x y h => (ih j hj x y h).symm) x y hk⟩
structure RenEx (l m : List FileS) (r : List RenS) : Prop where
  there : ∀ p ∈ r, ∃ x y, x ∈ l ∧ y ∈ m ∧ x.1 = p.1 ∧ y.1 = p.2
  rise : r.Pairwise fun p q => ltS p.1 q.1 = true
  pair : Paired l m fun x y => x ∈ l ∧ y ∈ m ∧ (x.1, y.1) ∈ r
theorem RenEx.mem {l m : List FileS} (tl : Rise l) (tm : Rise m) (hl : l.length ≤ 1000) (hm : m.length ≤ 1000) {r q : List RenS} (hr : RenEx l m r) (hq : RenEx l m q) {p : RenS} (hp : p ∈ r) : p ∈ q := by
  obtain ⟨x, y, hx, hy, ex, ey⟩ := hr.there p hp
  have e : (x.1, y.1) = p := Prod.ext ex ey
  have h := (paired_one tl tm hl hm hr.pair hq.pair _ x y rfl).1 ⟨hx, hy, by rw [e]; exact hp⟩
  have h3 := h.2.2
  rwa [e] at h3
theorem RenEx.only {l m : List FileS} (tl : Rise l) (tm : Rise m) (hl : l.length ≤ 1000) (hm : m.length ≤ 1000) {r q : List RenS} (hr : RenEx l m r) (hq : RenEx l m q) : r = q :=
  sorted_ext (R := fun p q : RenS => ltS p.1 q.1 = true) (fun x y h1 h2 => by rw [lt_asym h1] at h2; cases h2) r q hr.rise hq.rise fun _ => ⟨hr.mem tl tm hl hm hq, hq.mem tl tm hl hm hr⟩
theorem key_cls {l m : List FileS} {x y x' y' : FileS} (hx : x' ∈ l) (hy : y' ∈ m) (hl : l.length ≤ 1000) (hm : m.length ≤ 1000) (h : clsS x' y' < clsS x y) : keyP l m x' y' ≤ keyP l m x y := by
  have h1 := pos_lt hx
  have h2 := pos_lt hy
  unfold keyP
  omega
theorem key_lex {l m : List FileS} {x y x' y' : FileS} (hy : y' ∈ m) (hm : m.length ≤ 1000) (h : clsS x' y' = clsS x y) (hp : posS l x' < posS l x ∨ (posS l x' = posS l x ∧ posS m y' ≤ posS m y)) : keyP l m x' y' ≤ keyP l m x y := by
  have h2 := pos_lt hy
  unfold keyP
  rw [h]
  omega
theorem pos_rise {l : List FileS} (h : Rise l) {x y : FileS} (hx : x ∈ l) (hy : y ∈ l) (hlt : ltS x.1 y.1 = true) : posS l x < posS l y := by
  obtain ⟨i, hi⟩ := List.mem_iff_getElem?.1 hx
  obtain ⟨j, hj⟩ := List.mem_iff_getElem?.1 hy
  rw [pos_at h hi, pos_at h hj]
  rcases Nat.lt_trichotomy i j with q | q | q
  · exact q
  · subst q
    rw [Option.some.inj (hi.symm.trans hj), lt_irr] at hlt
    cases hlt
  · have := rise_at h q hj hi
    rw [lt_asym hlt] at this
    cases this
def fAt (l : List FileS) (i : Nat) : FileS := l.getD i fileZ
end Go.Proofs.YtbnafihigoekeaaGreatDoor
namespace Go.Proofs.YtbnafihigoekeaaGreatDoor
open Go.RowKit
def shareS (c n m : Nat) : Nat := if n + m = 0 then 100 else 200 * c / (n + m)
section
set_option maxRecDepth 100000
set_option maxHeartbeats 4000000
theorem DLong_any (ao : Option Addr) (n cap : Nat) (w : World) : Calls Tryz.prog 202 #[.slice ao n cap] w fun e w' => e = .returned (.bool (decide (400 < n))) ∧ w = w' := by
  go_enter Tryz.func202, Tryz.ntmps202
  go_wp2
  go_ret
  refine ⟨?_, rfl⟩
  by_cases h : 400 < n
  · have h2 : (400 : Int) < (n : Int) := by omega
    simp [h, h2]
  · have h2 : ¬ (400 : Int) < (n : Int) := by omega
    simp [h, h2]
theorem DShare_any (c n m : Nat) (ao bo : Option Addr) (ac bc : Nat) (w : World) (hc : c ≤ 1000000) (hn : n ≤ 1000000) (hm : m ≤ 1000000) :
    Calls Tryz.prog 203 #[.int .i64 (c : Nat), .slice ao n ac, .slice bo m bc] w fun e w' => e = .returned (.int .i64 (shareS c n m : Nat)) ∧ w = w' := by
  have kw : IntKind.i64.wrap ((n : Int) + (m : Int)) = (n : Int) + (m : Int) := IntWalk.i64_in _ (by omega)
  by_cases h0 : n + m = 0
  · have e0 : (n : Int) + (m : Int) = 0 := by omega
    rw [shareS, if_pos h0]
    clear h0
    go_enter Tryz.func203, Tryz.ntmps203
    go_wp2
    go_ret
    exact ⟨rfl, rfl⟩
  · have e0 : ¬ (n : Int) + (m : Int) = 0 := by omega
    have e1 : ((n : Int) + (m : Int) == 0) = false := by simpa using e0
    have kc : IntKind.i64.wrap (200 * (c : Int)) = 200 * (c : Int) := IntWalk.i64_in _ (by omega)
    have hs : ((shareS c n m : Nat) : Int) = 200 * (c : Int) / ((n : Int) + (m : Int)) := by
      rw [shareS, if_neg h0]
      simp
    have hb : shareS c n m ≤ 200 * c := by
      rw [shareS, if_neg h0]
      exact Nat.div_le_self _ _
    have kq : IntKind.i64.wrap (200 * (c : Int) / ((n : Int) + (m : Int))) = 200 * (c : Int) / ((n : Int) + (m : Int)) := by
      rw [← hs]
      exact IntWalk.i64_in _ (by omega)
    have kt : Int.tdiv (200 * (c : Int)) ((n : Int) + (m : Int)) = 200 * (c : Int) / ((n : Int) + (m : Int)) := Int.tdiv_eq_ediv_of_nonneg (by omega)
    rw [hs]
    clear hs hb h0 hc hn hm
    go_enter Tryz.func203, Tryz.ntmps203
    go_wp2
    go_ret
    exact ⟨rfl, rfl⟩
theorem ratioL_share (x y : List Txt) (hx : x.length ≤ 400) (hy : y.length ≤ 400) : ratioL x y = shareS (lcs x y) x.length y.length := by
  unfold ratioL shareS
  split
  · rfl
  · rw [if_neg (by omega)]
theorem DRatioL_any (va vb : Value) (x y : List Txt) (w : World) (ha : Sl w va (strCells x)) (hb : Sl w vb (strCells y)) (hx : x.length ≤ 1000000) (hy : y.length ≤ 1000000) :
    Calls Tryz.prog 184 #[va, vb] w fun e w' => e = .returned (.int .i64 (ratioL x y : Nat)) ∧ Below w.heap.size w w' := by
  have HC := hid (DCommon_any va vb x y w ha hb hx hy)
  obtain ⟨ao, ac, rfl⟩ := ha.form
  obtain ⟨bo, bc, rfl⟩ := hb.form
  rw [strCells_length] at ha hb HC ⊢
  rw [strCells_length] at HC ⊢
  clear ha hb
  have hle := (lcs_le x y).1
  have hz : ratioL x y = if 400 < x.length ∨ 400 < y.length then 0 else shareS (lcs x y) x.length y.length := by
    split
    · rename_i h
      unfold ratioL
      rw [if_neg (by omega), if_pos h]
    · exact ratioL_share x y (by omega) (by omega)
  obtain ⟨c, hc⟩ : ∃ c, lcs x y = c := ⟨_, rfl⟩
  obtain ⟨z, hzz⟩ : ∃ z, ratioL x y = z := ⟨_, rfl⟩
  rw [hzz] at hz
  rw [hzz]
  rw [hc] at hz hle HC
  clear hzz hc
  obtain ⟨n, hn⟩ : ∃ n, x.length = n := ⟨_, rfl⟩
  obtain ⟨m, hm⟩ : ∃ m, y.length = m := ⟨_, rfl⟩
  rw [hn] at hz hle hx HC ⊢
  rw [hm] at hz hy HC ⊢
  clear hn hm
  have HL := hid fun (o : Option Addr) (k cp : Nat) (wx : World) => DLong_any o k cp wx
  by_cases h1 : 400 < n
  · rw [if_pos (.inl h1)] at hz
    have d1 : decide (400 < n) = true := decide_eq_true h1
    subst hz
    clear HC hle hx hy h1
    go_enter Tryz.func184, Tryz.ntmps184
    go_wp2_with (go_at_call 202; refine (HL.out _ _ _ _).mono ?_; rintro e w1 ⟨rfl, rfl⟩; rw [d1])
    go_ret
    exact ⟨rfl, Below.refl _ _⟩
  · have d1 : decide (400 < n) = false := decide_eq_false h1
    by_cases h2 : 400 < m
    · rw [if_pos (.inr h2)] at hz
      have d2 : decide (400 < m) = true := decide_eq_true h2
      subst hz
      clear HC hle hx hy h1 h2
      go_enter Tryz.func184, Tryz.ntmps184
      go_wp2_with (go_at_call 202; refine (HL.out _ _ _ _).mono ?_; rintro e w1 ⟨rfl, rfl⟩; first | rw [d1] | rw [d2])
      go_ret
      exact ⟨rfl, Below.refl _ _⟩
    · rw [if_neg (by omega)] at hz
      have d2 : decide (400 < m) = false := decide_eq_false h2
      have HS := hid fun (wx : World) => DShare_any c n m ao bo ac bc wx (by omega) hx hy
      rw [← hz] at HS
      clear hle hx hy h1 h2 hz
      go_enter Tryz.func184, Tryz.ntmps184
      go_wp2_with (first | (go_at_call 202; refine (HL.out _ _ _ _).mono ?_; rintro e w1 ⟨rfl, rfl⟩; first | rw [d1] | rw [d2]) | (go_at_call 205; refine HC.out.mono ?_; rintro e w1 ⟨rfl, hb1⟩) | (go_at_call 203; refine (HS.out _).mono ?_; rintro e w1 ⟨rfl, rfl⟩))
      go_ret
      exact ⟨rfl, hb1⟩
end
end Go.Proofs.YtbnafihigoekeaaGreatDoor
namespace Go.Proofs.YtbnafihigoekeaaGreatDoor
open Go.RowKit Go.Shelf Go.Sort
def Tryz.lays190_ren : Go.Shelf.Ren := ⟨fun | 125 => 80 | 128 => 107 | 129 => 108 | 190 => 213 | 258 => 222 | 302 => 226 | 303 => 227 | 304 => 228 | 305 => 229 | 306 => 230 | 307 => 231 | 308 => 232 | 309 => 233 | 310 => 234 | 329 => 130 | 330 => 131 | 333 => 235 | 334 => 236 | 335 => 237 | 336 => 238 | 344 => 239 | n => n, fun | 0 => 0 | 3 => 3 | 4 => 4 | 5 => 5 | 9 => 9 | 31 => 96 | 46 => 126 | 51 => 110 | 53 => 147 | 131 => 143 | 182 => 138 | 183 => 139 | 218 => 175 | 222 => 179 | 228 => 215 | 229 => 216 | n => n, fun | n => n⟩
theorem Tryz.lays190 : Go.Proofs.Lays.n190 Tryz.prog Tryz.lays190_ren := {
  mixed := by kernel_rfl
  f125 := Tryz.func80.trans (congrArg some (by kernel_rfl))
  f128 := Tryz.func107.trans (congrArg some (by kernel_rfl))
  f129 := Tryz.func108.trans (congrArg some (by kernel_rfl))
  f190 := Tryz.func213.trans (congrArg some (by kernel_rfl))
  f258 := Tryz.func222.trans (congrArg some (by kernel_rfl))
  f302 := Tryz.func226.trans (congrArg some (by kernel_rfl))
  f303 := Tryz.func227.trans (congrArg some (by kernel_rfl))
  f304 := Tryz.func228.trans (congrArg some (by kernel_rfl))
  f305 := Tryz.func229.trans (congrArg some (by kernel_rfl))
  f306 := Tryz.func230.trans (congrArg some (by kernel_rfl))
  f307 := Tryz.func231.trans (congrArg some (by kernel_rfl))
  f308 := Tryz.func232.trans (congrArg some (by kernel_rfl))
  f309 := Tryz.func233.trans (congrArg some (by kernel_rfl))
  f310 := Tryz.func234.trans (congrArg some (by kernel_rfl))
  f329 := Tryz.func130.trans (congrArg some (by kernel_rfl))
  f330 := Tryz.func131.trans (congrArg some (by kernel_rfl))
  f333 := Tryz.func235.trans (congrArg some (by kernel_rfl))
  f334 := Tryz.func236.trans (congrArg some (by kernel_rfl))
  f335 := Tryz.func237.trans (congrArg some (by kernel_rfl))
  f336 := Tryz.func238.trans (congrArg some (by kernel_rfl))
  f344 := Tryz.func239.trans (congrArg some (by kernel_rfl))
  t0 := Tryz.underlying0
  a0 := Tryz.isAgg0
  z0 := Tryz.sizeOf0
  v0 := Tryz.zeroValue0
  t3 := Tryz.underlying3
  a3 := Tryz.isAgg3
  z3 := Tryz.sizeOf3
  v3 := Tryz.zeroValue3
  t4 := Tryz.underlying4
  a4 := Tryz.isAgg4
  z4 := Tryz.sizeOf4
  v4 := Tryz.zeroValue4
  t5 := Tryz.underlying5
  a5 := Tryz.isAgg5
  z5 := Tryz.sizeOf5
  v5 := Tryz.zeroValue5
  t9 := Tryz.underlying9
  a9 := Tryz.isAgg9
  z9 := Tryz.sizeOf9
  v9 := Tryz.zeroValue9
  t31 := Tryz.underlying96
  a31 := Tryz.isAgg96
  z31 := Tryz.sizeOf96
  v31 := Tryz.zeroValue96
  t46 := Tryz.underlying126
  a46 := Tryz.isAgg126
  z46 := Tryz.sizeOf126
  v46 := Tryz.zeroValue126
  t51 := Tryz.underlying110
  a51 := Tryz.isAgg110
  z51 := Tryz.sizeOf110
  v51 := Tryz.zeroValue110
  t53 := Tryz.underlying147
  a53 := Tryz.isAgg147
  z53 := Tryz.sizeOf147
  v53 := Tryz.zeroValue147
  t131 := Tryz.underlying143
  a131 := Tryz.isAgg143
  z131 := Tryz.sizeOf143
  v131 := Tryz.zeroValue143
  t182 := Tryz.underlying138
  a182 := Tryz.isAgg138
  z182 := Tryz.sizeOf138
  v182 := Tryz.zeroValue138
  t183 := Tryz.underlying139
  a183 := Tryz.isAgg139
  z183 := Tryz.sizeOf139
  v183 := Tryz.zeroValue139
  t218 := Tryz.underlying175
  a218 := Tryz.isAgg175
  z218 := Tryz.sizeOf175
  v218 := Tryz.zeroValue175
  t222 := Tryz.underlying179
  a222 := Tryz.isAgg179
  z222 := Tryz.sizeOf179
  v222 := Tryz.zeroValue179
  t228 := Tryz.underlying215
  a228 := Tryz.isAgg215
  z228 := Tryz.sizeOf215
  v228 := Tryz.zeroValue215
  t229 := Tryz.underlying216
  a229 := Tryz.isAgg216
  z229 := Tryz.sizeOf216
  v229 := Tryz.zeroValue216 }
theorem encStr_eq (l : List Txt) : flatR encT l = l.map encStr := by rw [flatT]; rfl
theorem PSort_any (v : Value) (l : List Txt) (w : World) (base : Nat) (hb : base ≤ w.heap.size) (hv : OwnT w base v l) (hl : l.length ≤ 1000000) :
    Calls Tryz.prog 213 #[v] w fun e w' => e = .returned (.tuple #[]) ∧ OwnT w' base v (l.mergeSort fun x y => decide (x ≤ y)) ∧ Below base w w' := by
  have hv2 := hv
  rcases hv.2 with ⟨rfl, h0⟩ | ⟨g, cap, cur, rfl, hbg, hg, h1, h2, h3, h4⟩
  · obtain rfl := List.eq_nil_of_length_eq_zero h0
    refine (show Calls Tryz.prog 213 #[.slice none 0 0] w _ from Any.slices_Sort_string_none Tryz.lays190 none 0 w).mono ?_
    rintro e w' ⟨rfl, rfl⟩
    exact ⟨rfl, by simpa using hv2, Below.refl _ _⟩
  · have hH : Holds encStr w g 0 l.toArray := holds_of_block hg (by rw [Nat.mul_one] at h4; rw [h4, encStr_eq])
    refine (show Calls Tryz.prog 213 #[.slice (some ⟨g, 0, none⟩) l.length cap] w _ from calls_of_every_depth fun D => AnyS.slices_Sort_string_in Tryz.lays190 D g 0 cap l w hH (Array.getElem?_eq_some_iff.1 hg).1 (by omega)).mono ?_
    rintro e w' ⟨rfl, n, os, rfl⟩
    refine ⟨rfl, ?_, (Below.refl base w).grown (grownBy_sorted _) hb (fun j hj => by cases hj; exact hbg)⟩
    have := ownsRow_sorted (w := w) (n := n) (os := os) (ss := l) (ts := l.mergeSort fun x y => decide (x ≤ y)) (List.length_mergeSort l) hbg hg h1 h2 h3
    unfold OwnT
    rw [encStr_eq, List.length_mergeSort]
    exact this
end Go.Proofs.YtbnafihigoekeaaGreatDoor
namespace Go.Proofs.YtbnafihigoekeaaGreatDoor
open Go.RowKit
def sortT (a : List Txt) : List Txt := a.mergeSort fun x y => decide (x ≤ y)
abbrev TxS := Nat × List Txt
def SlX (w : World) (v : Value) (cs : List TxS) : Prop :=
  ∃ ao cap, v = .slice ao cs.length cap ∧ (ao = none → cs = []) ∧ cs.length ≤ cap ∧ ∀ a, ao = some a → ∀ i c, cs[i]? = some c → ∃ vl vs, w.cell? (a.add (i * 3)) = some (.int .i64 (c.1 : Nat)) ∧ w.cell? (a.add (i * 3 + 1)) = some vl ∧ w.cell? (a.add (i * 3 + 2)) = some vs ∧
    Sl w vl (strCells c.2) ∧ Sl w vs (strCells (sortT c.2))
theorem SlX.nil (w : World) : SlX w (.slice none 0 0) [] := ⟨none, 0, rfl, fun _ => rfl, Nat.le_refl _, fun a h => by cases h⟩
theorem SlX.form {w : World} {v : Value} {cs : List TxS} (h : SlX w v cs) : ∃ ao cap, v = .slice ao cs.length cap := by
  obtain ⟨ao, cap, rfl, _⟩ := h
  exact ⟨ao, cap, rfl⟩
theorem SlX.old {w w' : World} {v : Value} {cs : List TxS} (h : SlX w v cs) (hk : Below w.heap.size w w') : SlX w' v cs := by
  obtain ⟨ao, cap, rfl, hn, hcap, hc⟩ := h
  refine ⟨ao, cap, rfl, hn, hcap, fun a ha i c hi => ?_⟩
  obtain ⟨vl, vs, h1, h2, h3, h5, h6⟩ := hc a ha i c hi
  have k : ∀ {p : Addr} {u : Value}, w.cell? p = some u → w'.cell? p = some u := fun {p u} hp => (World.cell?_of_block (w := w) (hk.block _ (World.block_lt_of_cell? w _ hp))).trans hp
  exact ⟨vl, vs, k h1, k h2, k h3, h5.old hk, h6.old hk⟩
theorem SlX.at' {w : World} {ao : Option Addr} {n cap : Nat} {cs : List TxS} (h : SlX w (.slice ao n cap) cs) {i : Nat} (hi : i < cs.length) :
    ∃ b o k xl vl vs, ao = some ⟨b, o, none⟩ ∧ w.cell? ⟨b, o + i * 3, none⟩ = some (.int .i64 (k : Nat)) ∧ w.cell? ⟨b, o + i * 3 + 1, none⟩ = some vl ∧ w.cell? ⟨b, o + i * 3 + 2, none⟩ = some vs ∧
      Sl w vl (strCells xl) ∧ Sl w vs (strCells (sortT xl)) ∧ cs[i]? = some (k, xl) := by
  obtain ⟨ao', cap', hv, hn, _, hc⟩ := h
  obtain ⟨rfl, _, _⟩ := Value.slice.inj hv
  cases ao with
  | none => rw [hn rfl] at hi; cases hi
  | some a =>
    obtain ⟨b, o, sp⟩ := a
    obtain ⟨vl, vs, h1, h2, h3, h5, h6⟩ := hc _ rfl i _ (List.getElem?_eq_getElem hi)
    obtain ⟨_, _, h0, _⟩ := hc _ rfl 0 _ (List.getElem?_eq_getElem (by omega))
    rw [Nat.zero_mul, show (⟨b, o, sp⟩ : Addr).add 0 = ⟨b, o, sp⟩ from rfl] at h0
    have hsp : sp = none := World.cell?_spot h0
    subst hsp
    have hadd : ∀ j, (⟨b, o, none⟩ : Addr).add j = ⟨b, o + j, none⟩ := fun j => Addr.add_lit ..
    rw [hadd] at h1 h2 h3
    rw [← Nat.add_assoc] at h2 h3
    exact ⟨b, o, _, _, vl, vs, rfl, h1, h2, h3, h5, h6, List.getElem?_eq_getElem hi⟩
def TxFlat (w : World) (v : Value) (cs : List TxS) (flat : List Value) : Prop :=
  ∀ i c, cs[i]? = some c → ∃ vl vs, flat[i * 3]? = some (.int .i64 (c.1 : Nat)) ∧ flat[i * 3 + 1]? = some vl ∧ flat[i * 3 + 2]? = some vs ∧ NestL w v vl c.2 ∧ NestL w v vs (sortT c.2)
def OwnX (w : World) (base : Nat) (v : Value) (cs : List TxS) : Prop := ∃ flat, w.ownsRow base 225 3 v cs.length flat ∧ TxFlat w v cs flat
theorem OwnX.nil (w : World) (base : Nat) : OwnX w base (.slice none 0 0) [] := ⟨[], World.ownsRow_nil _ _ _ _, fun i h hi => by simp at hi⟩
theorem OwnX.form {w : World} {base : Nat} {v : Value} {cs : List TxS} (h : OwnX w base v cs) : ∃ ao cap, v = .slice ao cs.length cap := by
  obtain ⟨flat, h, _⟩ := h
  exact owns_form h
theorem OwnX.lt {w : World} {base : Nat} {v : Value} {cs : List TxS} (h : OwnX w base v cs) : ∀ j, v.ownBlock = some j → base ≤ j ∧ j < w.heap.size := by
  obtain ⟨flat, h, _⟩ := h
  exact h.lt
theorem OwnX.slX {w : World} {base : Nat} {v : Value} {cs : List TxS} (h : OwnX w base v cs) : SlX w v cs := by
  obtain ⟨flat, h1, h2⟩ := h
  rcases h1.2 with ⟨rfl, hn⟩ | ⟨g, cap, cur, rfl, r⟩
  · have : cs = [] := List.eq_nil_of_length_eq_zero hn
    subst this
    exact SlX.nil w
  · refine ⟨some ⟨g, 0, none⟩, cap, rfl, (fun h => by cases h), r.2.2.1, fun a ha i x hx => ?_⟩
    cases ha
    obtain ⟨vl, vs, e1, e2, e3, n1, n2⟩ := h2 i x hx
    exact ⟨vl, vs, h1.cells rfl _ _ e1, h1.cells rfl _ _ e2, h1.cells rfl _ _ e3, n1.1, n2.1⟩
theorem OwnX.old {w w' : World} {base : Nat} {v : Value} {cs : List TxS} (h : OwnX w base v cs) (hk : Below w.heap.size w w') : OwnX w' base v cs := by
  obtain ⟨flat, h1, h2⟩ := h
  refine ⟨flat, ?_, fun i x hx => ?_⟩
  · rcases h1.2 with ⟨rfl, h0⟩ | ⟨g, cap, cur, rfl, r1, r2, r3⟩
    · exact ⟨h1.1, .inl ⟨rfl, h0⟩⟩
    · exact ⟨h1.1, .inr ⟨g, cap, cur, rfl, r1, (hk.block g (h1.lt g rfl).2).trans r2, r3⟩⟩
  · obtain ⟨vl, vs, e1, e2, e3, n1, n2⟩ := h2 i x hx
    have k : ∀ {u xs}, NestL w v u xs → NestL w' v u xs := fun n => n.kept (fun b hb _ => hk.block b hb) hk.size (.inl rfl)
    exact ⟨vl, vs, e1, e2, e3, k n1, k n2⟩
theorem Tryz.infoTx : (Tryz.prog.info? 225).map (fun i => (i.zero, i.size, i.bytes)) = some (some (.agg #[.int .i64 0, .slice none 0 0, .slice none 0 0]), 3, 56) := by kernel_rfl
theorem Tryz.sizeTx : (Tryz.prog.info? 225).map (·.size) = some 3 := by kernel_rfl
section
variable {w : World}
theorem tx_appended {base : Nat} {v : Value} {cs : List TxS} {k : Nat} {xl : List Txt} {vl vs : Value} {flat : List Value} (h1 : w.ownsRow base 225 3 v cs.length flat)
    (h2 : TxFlat w v cs flat) (hn1 : NestL w v vl xl) (hn2 : NestL w v vs (sortT xl))
    {o : Obj} {v' : Value} {w' : World} (q1 : w'.ownsRow base 225 3 v' (cs.length + 1) (flat ++ [.int .i64 (k : Nat), vl, vs])) (q2 : (w.alloc o).grownBy w' v.ownBlock) (q3 : v'.ownBlock = v.ownBlock ∨ v'.ownBlock = some (w.alloc o).heap.size) :
    OwnX w' base v' (cs ++ [(k, xl)]) := by
  have hl := h1.1
  have hz : (w.alloc o).heap.size = w.heap.size + 1 := by simp
  have keep : ∀ b, b < w.heap.size → v.ownBlock ≠ some b → w'.heap[b]? = w.heap[b]? := fun b hb hne => (q2.block b (by omega) (fun e => hne e.symm)).trans (Below.heap_alloc w _ b hb)
  have hv : v'.ownBlock = v.ownBlock ∨ ∃ f, v'.ownBlock = some f ∧ w.heap.size ≤ f := by
    rcases q3 with e | e
    · exact .inl e
    · exact .inr ⟨_, e, by omega⟩
  have hsz : w.heap.size ≤ w'.heap.size := by have := q2.size; omega
  have kk : ∀ {u xs}, NestL w v u xs → NestL w' v' u xs := fun n => n.kept keep hsz hv
  refine ⟨flat ++ [.int .i64 (k : Nat), vl, vs], by rw [List.length_append]; exact q1, fun i x hx => ?_⟩
  by_cases hi : i < cs.length
  · rw [List.getElem?_append_left hi] at hx
    obtain ⟨a, b, e1, e2, e3, n1, n2⟩ := h2 i x hx
    refine ⟨a, b, ?_, ?_, ?_, kk n1, kk n2⟩
    · rw [List.getElem?_append_left (by omega)]; exact e1
    · rw [List.getElem?_append_left (by omega)]; exact e2
    · rw [List.getElem?_append_left (by omega)]; exact e3
  · have hlt := (List.getElem?_eq_some_iff.1 hx).1
    rw [List.length_append, List.length_singleton] at hlt
    obtain rfl : i = cs.length := by omega
    rw [List.getElem?_append_right (Nat.le_refl _), Nat.sub_self] at hx
    cases hx
    refine ⟨vl, vs, ?_, ?_, ?_, kk hn1, kk hn2⟩
    · rw [List.getElem?_append_right (by omega), show cs.length * 3 - flat.length = 0 by omega]; rfl
    · rw [List.getElem?_append_right (by omega), show cs.length * 3 + 1 - flat.length = 1 by omega]; rfl
    · rw [List.getElem?_append_right (by omega), show cs.length * 3 + 2 - flat.length = 2 by omega]; rfl
theorem wp_append_txt3 {o : Oper} {a : Act} {K : Act → World → Prop} {Q : Exit → Act → World → Prop} (s sx : Operand)
    (ho : o.op = .call { callee := .builtin .append, args := #[s, sx], argTypes := #[222, 222] })
    (base : Nat) (v : Value) (cs : List TxS) (k : Nat) (xl : List Txt) (vl vs : Value) (he : a.eval s = v) (hown : OwnX w base v cs) (hn1 : NestL w v vl xl) (hn2 : NestL w v vs (sortT xl))
    (hx : a.eval sx = .slice (some ⟨w.heap.size, 0, none⟩) 1 1) (c1 : vl.oneCell' = true) (c2 : vs.oneCell' = true) (hlen : cs.length ≤ 4000000) (hbase : base ≤ w.heap.size)
    (h : ∀ v' w', OwnX w' base v' (cs ++ [(k, xl)]) → Below base w w' → (∀ b, b < w.heap.size → v.ownBlock ≠ some b → w'.heap[b]? = w.heap[b]?) → K (a.put o.dst v') w') : o.wp Tryz.prog a (w.alloc (.cells #[.int .i64 (k : Nat), vl, vs] 225)) K Q := by
  obtain ⟨flat, h1, h2⟩ := hown
  obtain ⟨i0, hi0, hi1, hi2, hi3⟩ := info_parts Tryz.infoTx
  have hz : (w.alloc (.cells #[.int .i64 (k : Nat), vl, vs] 225)).heap.size = w.heap.size + 1 := by simp
  refine wp_append_any _ s sx _ _ ho base 225 i0 _ 3 56 Tryz.underlying222 hi0 hi1 hi2 hi3 rfl (by omega) v _ _ he (h1.alloc _) _ 1 [.int .i64 (k : Nat), vl, vs] hx
    (Src.ofSlice _ Tryz.underlying222 ⟨w.heap.size, 0, none⟩ 1 1 [.int .i64 (k : Nat), vl, vs] (by rfl) (World.news_of_block (cs := #[.int .i64 (k : Nat), vl, vs]) (t := 225) (fr := (0, 0)) (heap_alloc_new w _)) (fun u hu => ?_)) (by unfold maxLen; omega) (by omega) (by omega) fun v' w' q1 q2 q3 => h v' w' (tx_appended h1 h2 hn1 hn2 q1 q2 q3) ?_ fun b hb hne => (q2.block b (by omega) (fun e => hne e.symm)).trans (Below.heap_alloc w _ b hb)
  · rcases List.mem_cons.1 hu with rfl | hu
    · rfl
    rcases List.mem_cons.1 hu with rfl | hu
    · exact c1
    rcases List.mem_cons.1 hu with rfl | hu
    · exact c2
    cases hu
  · exact ((Below.refl base w).alloc hbase _).grown q2 (by omega) (fun j hj => (h1.lt j hj).1)
theorem wpList_append_txt3 {ops : Array Oper} {rest : List Oper} {o : Oper} {a : Act} {Q : Exit → Act → World → Prop} (hgd : o.guard = none) (s sx : Operand)
    (ho : o.op = .call { callee := .builtin .append, args := #[s, sx], argTypes := #[222, 222] })
    (base : Nat) (v : Value) (cs : List TxS) (k : Nat) (xl : List Txt) (vl vs : Value) (he : a.eval s = v) (hown : OwnX w base v cs) (hn1 : NestL w v vl xl) (hn2 : NestL w v vs (sortT xl))
    (g : Nat) (hg : w.heap.size = g) (hx : a.eval sx = .slice (some ⟨g, 0, none⟩) 1 1) (c1 : vl.oneCell' = true) (c2 : vs.oneCell' = true) (hlen : cs.length ≤ 4000000) (hbase : base ≤ w.heap.size)
    (h : ∀ v' w', OwnX w' base v' (cs ++ [(k, xl)]) → Below base w w' → wpList Tryz.prog ops Q rest (a.put o.dst v') w') : wpList Tryz.prog ops Q (o :: rest) a (w.alloc (.cells #[.int .i64 (k : Nat), vl, vs] 225)) := by
  subst hg
  exact wpList_plain hgd fun _ hK => wp_append_txt3 s sx ho base v cs k xl vl vs he hown hn1 hn2 hx c1 c2 hlen hbase fun v' w' h2 h3 _ => hK _ _ (h v' w' h2 h3)
end
end Go.Proofs.YtbnafihigoekeaaGreatDoor
namespace Go.Proofs.YtbnafihigoekeaaGreatDoor
open Go.RowKit
attribute [local go_sem] Oper.semAt_some
section
set_option maxRecDepth 100000
set_option maxHeartbeats 4000000
theorem Vals_any (ao : Option Addr) (n cap : Nat) (w : World) :
    Calls Tryz.prog 201 #[.slice ao n cap] w fun e w' => e = .returned (.func (.func 214) #[] #[.pointer (some ⟨w.heap.size, 0, none⟩)]) ∧ w' = w.alloc (.cells #[.slice ao n cap] 96) := by
  go_enter Tryz.func201, Tryz.ntmps201
  go_wp2
  go_ret
  exact ⟨rfl, rfl⟩
def valEnc (a : List Txt) (k : Nat) : Array Value := #[.string ⟨(a[k]?.getD []).toArray⟩]
theorem vals_rounds (w1 w : World) (Bs : Nat) (va : Value) (a : List Txt) (ha : Sl w1 va (strCells a)) (hb : Below w1.heap.size w1 w) (hBs : w.cell? ⟨Bs, 0, none⟩ = some va) (hn : a.length ≤ 1000000) :
    Rounds Tryz.prog 214 #[.pointer (some ⟨Bs, 0, none⟩)] a.length (valEnc a) (KpB w1.heap.size Bs) w := fun l J W hW hY h0 => by
  obtain ⟨ao, cap, rfl⟩ := ha.form
  rw [strCells_length] at ha hBs
  obtain ⟨n, hn'⟩ : ∃ n, a.length = n := ⟨_, rfl⟩
  rw [hn'] at ha hBs hn hY ⊢
  have HA := hid hn'
  have hBlt : Bs < w.heap.size := World.block_lt_of_cell? w _ hBs
  have hB1 : W.cell? ⟨Bs, 0, none⟩ = _ := (hW.cell (p := ⟨Bs, 0, none⟩) hBlt).trans hBs
  have HW1 := hid (hb.trans (hW.mono hb.size) : Below w1.heap.size w1 W)
  have HY := hid hY
  have n0 : (0 : Int) ≤ (n : Int) := Int.natCast_nonneg _
  clear hY hn' hBs hW hb
  refine callsIn_of_wp Tryz.func214 rfl trivial ?_ rfl
  simp only [Tryz.ntmps214, List.size_toArray, List.length_cons, List.length_nil, Nat.reduceAdd, Nat.reduceSub, Array.replicate_succ, Array.replicate_zero, List.push_toArray, List.append_toArray, List.nil_append, List.cons_append]
  gi_wp2
  gi_loopw [7] (fun i wr => ∃ k : Nat, k ≤ n ∧ i = .int .i64 (k : Int) ∧ Hid (J k wr) ∧ Hid (KpB w1.heap.size Bs W wr)) (fun i _ => n - (intOf i).toNat)
  case atStart => exact ⟨0, Nat.zero_le _, by simp, hid h0, hid (KpB.refl _ _ _)⟩
  case round =>
    obtain ⟨k, hk, rfl, HJ, HK⟩ := hrel
    by_cases hlt : k < n
    · obtain ⟨fn, tmps, assign, body, hy, hR⟩ := HY.out k wr hlt HJ.out
      obtain ⟨a1, x, rfl, hcx, hx⟩ := (Sl.old ha (HW1.out.trans HK.out.1)).strAt' (i := k) (by rw [HA.out]; omega)
      rw [valEnc, hx, Option.getD_some] at hy
      have hB2 : wr.cell? ⟨Bs, 0, none⟩ = _ := (World.cell?_of_block (w := W) HK.out.2).trans hB1
      have k0 : (0 : Int) ≤ (k : Int) := Int.natCast_nonneg _
      have k1 : (k : Int) < (n : Int) := by omega
      have kw : IntKind.i64.wrap ((k : Int) + 1) = (k : Int) + 1 := IntWalk.i64_in _ (by omega)
      have HR := hid hR
      clear hx hR
      gi_wp2
      refine HR.out.mono ?_
      rintro e W3 ⟨rfl, hJ3, hk3⟩
      have HJ3 := hid hJ3
      have HK3 := hid (HK.out.trans hk3)
      clear hJ3 hk3
      gi_wp2
      go_roundw
      case rel => exact ⟨k + 1, by omega, by go_num, HJ3, HK3⟩
      case measure => simp [intOf]; omega
    · obtain rfl : k = n := by omega
      have hneg : ¬ (k : Int) < (k : Int) := by omega
      gi_wp2
      go_end0
      exact ⟨⟨_, rfl⟩, HJ.out⟩
def ApI (w : World) (a : List Txt) (k : Nat) (W : World) : Prop :=
  ∃ v, W.heap[w.heap.size]? = some (.cells #[v] 96 (0, 0)) ∧ OwnT W w.heap.size v (a.take k) ∧ Below w.heap.size w W
theorem ApI.own {B : Nat} {w : World} {a : List Txt} (hB : w.heap.size ≤ B) : OwnFrom B (ApI w a) := fun k X Y row hs hg hr => by
  obtain ⟨v, hv, ho, hb⟩ := hs
  have keep : ∀ {b : Nat} {cs : Array Value} {t : TypeId}, X.heap[b]? = some (.cells cs t (0, 0)) → Y.heap[b]? = some (.cells cs t (0, 0)) := fun {b cs t} hb => by
    refine (hg.block b (lt_of_block hb) fun e => ?_).trans hb
    obtain ⟨_, o, ho, hc⟩ := hr b e.symm
    rw [hb] at ho
    cases ho
    cases hc
  refine ⟨v, keep hv, ?_, hb.grown hg hb.size (fun j e => by have := (hr j e).1; omega)⟩
  rcases ho.2 with ⟨rfl, h0⟩ | ⟨g, cap, cur, rfl, h1, h2, h3⟩
  · exact ⟨ho.1, .inl ⟨rfl, h0⟩⟩
  · exact ⟨ho.1, .inr ⟨g, cap, cur, rfl, h1, keep h2, h3⟩⟩
theorem ApSeq_any (w1 w : World) (Bs : Nat) (va : Value) (a : List Txt) (ha : Sl w1 va (strCells a)) (hb : Below w1.heap.size w1 w) (hBs : w.cell? ⟨Bs, 0, none⟩ = some va) (hn : a.length ≤ 1000000) :
    Calls Tryz.prog 221 #[.slice none 0 0, .func (.func 214) #[] #[.pointer (some ⟨Bs, 0, none⟩)]] w fun e w' => ∃ v, e = .returned v ∧ OwnT w' w.heap.size v a ∧ Below w.heap.size w w' := by
  obtain ⟨i0, hi0, hi1, hi2, hi3⟩ := info_parts Tryz.infoStr
  have hBlt : Bs < w.heap.size := World.block_lt_of_cell? w _ hBs
  have HN := hid hn
  have HA := hid ha
  have HB := hid hb
  have HBS := hid hBs
  have hw1 := hb.size
  clear ha hb hBs hn
  refine (callsIn_wide (n := 3)).1 ?_
  refine callsIn_of_wp_marks Tryz.func221 rfl trivial ?_ rfl
  refine (wpIn_wide (n := 3)).2 ?_
  simp only [Tryz.ntmps221, List.size_toArray, List.length_cons, List.length_nil, Nat.reduceAdd, Nat.reduceSub, Array.replicate_succ, Array.replicate_zero, List.push_toArray, List.append_toArray, List.nil_append, List.cons_append]
  go_wp2_with fail
  obtain ⟨w9, hw9⟩ : ∃ w9, w.alloc (.cells #[.slice none 0 0] 96) = w9 := ⟨_, rfl⟩
  have hz9 : w9.heap.size = w.heap.size + 1 := by rw [← hw9]; simp
  have hb9 : Below w.heap.size w w9 := by rw [← hw9]; exact (Below.refl _ w).alloc (Nat.le_refl _) _
  have hv9 : w9.heap[w.heap.size]? = some (.cells #[.slice none 0 0] 96 (0, 0)) := by rw [← hw9]; exact World.alloc_heap_new w _
  have hB9 : w9.cell? ⟨Bs, 0, none⟩ = some va := (hb9.cell (p := ⟨Bs, 0, none⟩) hBlt).trans HBS.out
  rw [hw9]
  clear hw9
  refine (wpIn_wide (n := 3)).1 ?_
  refine' wpIn_rounds (gf := 214) (lb := #[.pointer (some ⟨Bs, 0, none⟩)]) (N := a.length) (enc := valEnc a) (Kp := KpB w1.heap.size Bs) (w0 := w9) rfl (enters_of Tryz.func214 (by kernel_rfl) rfl) ?seq (Below.refl _ _) (fun _ => rfl) KpB.trans ?kb (ApI w a) (ApI.own hb9.size) ?start _ ?assign ?body ?done
  case seq => exact vals_rounds w1 w9 Bs va a HA.out (HB.out.trans (hb9.mono hw1)) hB9 HN.out
  case kb => exact fun W l o h1 h2 => KpB.put W o (by omega) (by omega) h2
  case start => exact ⟨_, hv9, ⟨rfl, .inl ⟨rfl, rfl⟩⟩, hb9⟩
  case assign =>
    intro l k W K hK
    dsimp only [valEnc]
    gi_wp2
    exact hK
  case body =>
    rintro l k W hk ⟨v, hv, ho, hbW⟩
    obtain ⟨x, hx⟩ : ∃ x, a[k]? = some x := ⟨_, List.getElem?_eq_getElem (by omega)⟩
    rw [hx, Option.getD_some]
    have hTK : a.take (k + 1) = a.take k ++ [x] := by rw [List.take_add_one, hx]; rfl
    have hkl : (a.take k).length ≤ 1000000 := by rw [List.length_take]; have := HN.out; omega
    have cv : W.cell? ⟨w.heap.size, 0, none⟩ = some v := blk_cell (i := 0) hv rfl
    have fv : W.frozen? ⟨w.heap.size, 0, none⟩ = false := by simp [World.frozen?, hv]
    have HV := hid hv
    have HO := hid ho
    have hlt := lt_of_block hv
    clear hv ho hx
    have hne : ∀ (X : World) (u : Value) (n : Nat) (xs : List Value) (c : Array Value), X.ownsRow w.heap.size 9 1 u n xs → X.heap[w.heap.size]? = some (.cells c 96 (0, 0)) → some w.heap.size ≠ u.ownBlock := fun X u n xs c h hj e => by
      rcases ownsRow_ne_a h hj (fun cur e => absurd (Obj.cells.inj e).2.1 (by decide)) with h1 | h1
      · rw [h1] at e
        cases e
      · exact h1 e.symm
    have HNE := hid hne
    clear hne
    gi_wp2_with (first
      | (gi_at_builtin; refine wpListIn_append_own _ rfl _ _ 96 rfl w.heap.size 9 i0 (.string ⟨#[]⟩) 1 16 Tryz.underlying96 hi0 hi1 hi2 hi3 rfl (by decide) _ _ _ rfl (HO.out.alloc _) ⟨W.heap.size, 0, none⟩ 1 1 [strV x] rfl rfl (cell_one_new _ _ _) (by simp [Value.oneCell', strV]) (by unfold maxLen; omega) (by omega) (by have := hbW.size; simp; omega) ?_; intro v3 w3 hown3 hg3 hnil3
         obtain ⟨a3, c3, rfl⟩ := owns_form hown3
         have hv3 := hid ((hg3.block w.heap.size (by simp; omega) (HNE.out _ _ _ _ _ HO.out HV.out)).trans ((Below.heap_alloc W _ _ hlt).trans HV.out))
         have cv3 : w3.cell? ⟨w.heap.size, 0, none⟩ = some v := blk_cell (i := 0) hv3.out rfl
         have fv3 : w3.frozen? ⟨w.heap.size, 0, none⟩ = false := by simp [World.frozen?, hv3.out]
         have HG3 := hid hg3
         have HO3 := hid hown3
         clear hg3 hown3 hnil3)
      | gi_round_op_a)
    have hml : (a.take k).length = min k a.length := List.length_take ..
    have ho3 := HO3.out
    have hcells : ∀ (j : Nat) (o : Obj), v.ownBlock = some j → (W.alloc (.cells #[strV x] 9)).heap[j]? = some o → o.isCells = true := fun j o hj ho => by
      rcases (show OwnT (W.alloc (.cells #[strV x] 9)) w.heap.size v (a.take k) from HO.out.alloc _).2 with ⟨rfl, _⟩ | ⟨g, cap, cur, rfl, _, h2, _⟩
      · cases hj
      · cases hj
        rw [h2] at ho
        cases ho
        rfl
    have hb4 : Below w.heap.size W (w3.setCell ⟨w.heap.size, 0, none⟩ (Value.slice a3 (min k a.length + 1) c3)) :=
      ((((Below.refl w.heap.size W).alloc hbW.size _).grown HG3.out (by have := hbW.size; simp; omega) (fun j e => (HO.out.lt j e).1)).setCell (Nat.le_refl _) _)
    refine ⟨(((KeepsOthers.alloc W _).trans (KeepsOthers.of_grownBy HG3.out hcells)).trans (KeepsOthers.setCell _ _ _)).from _, ⟨hb4.mono hw1, hb4.block Bs hBlt⟩, .slice a3 (min k a.length + 1) c3, ?_, ?_, hbW.trans hb4⟩
    · have := blk_set (i := 0) (u := .slice a3 (min k a.length + 1) c3) hv3.out
      simpa using this
    · have hn3 := HNE.out _ _ _ _ _ ho3 hv3.out
      rw [hml] at ho3 hn3
      have hlen : (a.take (k + 1)).length = min k a.length + 1 := by rw [hTK, List.length_append, hml]; rfl
      have hfl : flatR encT (a.take (k + 1)) = flatR encT (a.take k) ++ [strV x] := by rw [hTK, flatR_append, flatR_one]; rfl
      unfold OwnT
      rw [hlen, hfl]
      refine ⟨ho3.1, ?_⟩
      rcases ho3.2 with ⟨hn0, h0⟩ | ⟨g, cap, cur, hve, h1, h2, h3⟩
      · exact .inl ⟨hn0, h0⟩
      · refine .inr ⟨g, cap, cur, hve, h1, ?_, h3⟩
        rw [hve] at hn3
        exact (Below.heap_setCell _ _ _ _ (fun e => hn3 (by rw [show g = w.heap.size from e]; rfl))).trans h2
  case done =>
    rintro D W hD ⟨v, hv, ho, hbW⟩ hK
    have cv : W.cell? ⟨w.heap.size, 0, none⟩ = some v := blk_cell (i := 0) hv rfl
    rw [List.take_length] at ho
    have HO := hid ho
    clear ho hv
    dsimp only
    go_wp2_with fail
    refine ⟨by simp, .inl ⟨_, _, rfl, run_takeDeferred hK, ?_⟩⟩
    refine ⟨_, results_tmp rfl _ _ _, v, rfl, ?_, hbW.trans (belowK_b (w := w) (Nat.le_refl _) W D _ _ (by omega) hK rfl rfl)⟩
    rcases HO.out.2 with ⟨rfl, h0⟩ | ⟨g, cap, cur, rfl, h1, h2, h3⟩
    · exact ⟨HO.out.1, .inl ⟨rfl, h0⟩⟩
    · refine ⟨HO.out.1, .inr ⟨g, cap, cur, rfl, h1, ?_, h3⟩⟩
      rw [World.putObj_heap_other (fun e => by rw [← e, h2] at hK; cases hK)]
      exact h2
theorem Coll_any (w1 w : World) (Bs : Nat) (va : Value) (a : List Txt) (ha : Sl w1 va (strCells a)) (hb : Below w1.heap.size w1 w) (hBs : w.cell? ⟨Bs, 0, none⟩ = some va) (hn : a.length ≤ 1000000) :
    Calls Tryz.prog 212 #[.func (.func 214) #[] #[.pointer (some ⟨Bs, 0, none⟩)]] w fun e w' => ∃ v, e = .returned v ∧ OwnT w' w.heap.size v a ∧ Below w.heap.size w w' := by
  have HC := hid (ApSeq_any w1 w Bs va a ha hb hBs hn)
  clear ha hb hBs hn
  go_enter Tryz.func212, Tryz.ntmps212
  go_wp2_with (go_at_call 221; refine HC.out.mono ?_; rintro e w2 ⟨v, rfl, ho, hb2⟩)
  go_ret
  exact ⟨v, rfl, ho, hb2⟩
theorem Sorted_any (w1 w : World) (Bs : Nat) (va : Value) (a : List Txt) (ha : Sl w1 va (strCells a)) (hb : Below w1.heap.size w1 w) (hBs : w.cell? ⟨Bs, 0, none⟩ = some va) (hn : a.length ≤ 1000000) :
    Calls Tryz.prog 200 #[.func (.func 214) #[] #[.pointer (some ⟨Bs, 0, none⟩)]] w fun e w' => ∃ v, e = .returned v ∧ OwnT w' w.heap.size v (sortT a) ∧ Below w.heap.size w w' := by
  have HC := hid (Coll_any w1 w Bs va a ha hb hBs hn)
  have HN := hid hn
  clear ha hb hBs hn
  go_enter Tryz.func200, Tryz.ntmps200
  go_wp2_with fail
  refine HC.out.mono ?_
  rintro e w2 ⟨v, rfl, ho, hb2⟩
  have HS := hid (PSort_any v a w2 w.heap.size hb2.size ho HN.out)
  have HB := hid hb2
  clear ho hb2
  go_wp2_with (go_at_call 213; refine HS.out.mono ?_; rintro e w3 ⟨rfl, ho3, hb3⟩)
  go_ret
  exact ⟨v, rfl, ho3, HB.out.trans hb3⟩
end
end Go.Proofs.YtbnafihigoekeaaGreatDoor

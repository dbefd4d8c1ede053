/-
  TmDe, part 39.
-/
import Derived.Test.YtbnafihigoekeaaGreatDoorZe22
import Derived.Test.YtbnafihigoekeaaGreatDoorZe23
import Derived.Deep.RegionLaw
import Derived.Test.YtbnafihigoekeaaGreatDoorZe24
import Derived.Test.YtbnafihigoekeaaGreatDoorZe19
import Derived.Test.YtbnafihigoekeaaGreatDoorZe33
import Derived.Test.YtbnafihigoekeaaGreatDoorZe32
import Derived.Deep.LoopGhost
import Derived.Deep.RegionHeld3
namespace Go.Proofs.YtbnafihigoekeaaGreatDoor
open Go.RowKit
abbrev ClaS := List UInt8 × Int × List UInt8
def encC : Enc ClaS := ⟨3, by omega, fun f => [strV f.1, .int .i64 f.2.1, strV f.2.2], fun _ => rfl, fun f u hu => by
  simp only [List.mem_cons, List.not_mem_nil, or_false] at hu
  rcases hu with rfl | rfl | rfl <;> rfl⟩
def claV (f : ClaS) : Value := .agg #[strV f.1, .int .i64 f.2.1, strV f.2.2]
theorem Tryz.infoCla : (Tryz.prog.info? 36).map (fun i => (i.zero, i.size, i.bytes)) = some (some (.agg #[strV [], .int .i64 0, strV []]), 3, 40) := by kernel_rfl
abbrev SlCl (w : World) (v : Value) (fs : List ClaS) : Prop := SlR encC w v fs
abbrev OwnC (w : World) (base : Nat) (v : Value) (fs : List ClaS) : Prop := w.ownsRow base 36 3 v fs.length (flatR encC fs)
theorem OwnC.sl {w : World} {base : Nat} {v : Value} {fs : List ClaS} (h : OwnC w base v fs) : SlCl w v fs := SlR.ofOwns (E := encC) h
theorem SlCl.at {w : World} {ao : Option Addr} {n cap : Nat} {fs : List ClaS} (h : SlCl w (.slice ao n cap) fs) {i : Nat} (hi : i < fs.length) :
    ∃ b o p x t, ao = some ⟨b, o, none⟩ ∧ fs[i]? = some (p, x, t) ∧ w.cell? ⟨b, o + i * 3, none⟩ = some (.string ⟨List.toArray p⟩) ∧ w.cell? ⟨b, o + i * 3 + 1, none⟩ = some (.int .i64 x) ∧ w.cell? ⟨b, o + i * 3 + 2, none⟩ = some (.string ⟨List.toArray t⟩) := by
  obtain ⟨b, o, ⟨p, x, t⟩, ha, hx, hc⟩ := SlR.at' h hi
  exact ⟨b, o, p, x, t, ha, hx, hc 0 _ rfl, hc 1 _ rfl, hc 2 _ rfl⟩
section
variable {w : World}
end
theorem cla_eql (p1 t1 p2 t2 : Txt) (x1 x2 : Int) (wx : World) : (binOp .eql 36 (.agg #[.string ⟨p1.toArray⟩, .int .i64 x1, .string ⟨t1.toArray⟩]) (.agg #[.string ⟨p2.toArray⟩, .int .i64 x2, .string ⟨t2.toArray⟩])).run Tryz.prog wx = .ok (.bool (((p1, x1, t1) : ClaS) == (p2, x2, t2))) wx := by
  by_cases h1 : p1 = p2
  · subst h1
    have n1 : (p1 == p1) = true := by simp
    by_cases h2 : x1 = x2
    · subst h2
      have n2 : (x1 == x1) = true := by simp
      by_cases h3 : t1 = t2
      · subst h3
        have n3 : (t1 == t1) = true := by simp
        have n4 : (((p1, x1, t1) : ClaS) == (p1, x1, t1)) = true := by simp
        rw [n4]
        go_simp
      · have n3 : (t1 == t2) = false := by simpa using h3
        have n4 : (((p1, x1, t1) : ClaS) == (p1, x1, t2)) = false := by simpa using h3
        rw [n4]
        clear h3
        go_simp
    · have n2 : (x1 == x2) = false := by simpa using h2
      have n4 : (((p1, x1, t1) : ClaS) == (p1, x2, t2)) = false := by
        rw [beq_eq_false_iff_ne]
        exact fun e => h2 (congrArg (fun f : ClaS => f.2.1) e)
      rw [n4]
      clear h2
      go_simp
  · have n1 : (p1 == p2) = false := by simpa using h1
    have n4 : (((p1, x1, t1) : ClaS) == (p2, x2, t2)) = false := by
      rw [beq_eq_false_iff_ne]
      exact fun e => h1 (congrArg Prod.fst e)
    rw [n4]
    clear h1
    go_simp
end Go.Proofs.YtbnafihigoekeaaGreatDoor
namespace Go.Proofs.YtbnafihigoekeaaGreatDoor
def whereS (p : Txt) (side : List FileS) (R : List MvS) : Option FileS :=
  match findS side p with
  | some f => some f
  | none => R.findSome? fun r => if r.1 = p then findS side r.2 else none
def addOne (base : List FileS) (R : List MvS) (f : FileS) : Bool := (findS base f.1).isNone && !(R.any fun r => r.2 == f.1)
def addedS (base side : List FileS) (R : List MvS) : List FileS := side.filter (addOne base R)
abbrev WhS := List FileS × List ClaS
def barS (M : List FileS) (p : Txt) : Bool := M.any fun f => clashS f.1 p
def putW (s : WhS) (f : FileS) (k : Int) : WhS :=
  if barS s.1 f.1 = true then (s.1, s.2 ++ [(f.1, 5, f.2.2)]) else (s.1 ++ [f], if k = 0 then s.2 else s.2 ++ [(f.1, k, f.2.2)])
def bothF (b o t : FileS) : FileS := (if o.1 = b.1 then t.1 else o.1, if o.2.1 = b.2.1 then t.2.1 else o.2.1, (mergeS b.2.2 o.2.2 t.2.2).1)
def bothK (b o t : FileS) : Int := if o.1 ≠ b.1 ∧ t.1 ≠ b.1 ∧ t.1 ≠ o.1 then 4 else if (mergeS b.2.2 o.2.2 t.2.2).2 = true then 0 else 1
def oneW (s : WhS) (b x : FileS) : WhS := if b = x then s else putW s x 3
def keepW (s : WhS) (b : FileS) (o t : Option FileS) : WhS :=
  match o, t with
  | some o, some t => putW s (bothF b o t) (bothK b o t)
  | some o, none => oneW s b o
  | none, some t => oneW s b t
  | none, none => s
def keepAll (s : WhS) (base ours theirs : List FileS) (P Q : List MvS) : WhS := base.foldl (fun s b => keepW s b (whereS b.1 ours P) (whereS b.1 theirs Q)) s
def joinF (x t : FileS) : FileS := (x.1, x.2.1, (mergeS [] x.2.2 t.2.2).1)
def addOW (Y : List FileS) (s : WhS) (x : FileS) : WhS :=
  match findS Y x.1 with
  | none => putW s x 0
  | some t => if t = x then putW s x 0 else putW s (joinF x t) 2
def addTW (X : List FileS) (s : WhS) (y : FileS) : WhS := if (findS X y.1).isSome = true then s else putW s y 0
def tmW (base ours theirs : List FileS) (P Q : List MvS) : WhS :=
  (addedS base theirs Q).foldl (addTW (addedS base ours P)) ((addedS base ours P).foldl (addOW (addedS base theirs Q)) (keepAll ([], []) base ours theirs P Q))
def srtF (M : List FileS) : List FileS := M.foldl sortedS []
def aftC : List ClaS → Txt → Nat
  | [], _ => 0
  | c :: r, p => if (c :: r).all (fun d => ltS p d.1) = true then 0 else aftC r p + 1
def insC (out : List ClaS) (c : ClaS) : List ClaS := out.take (aftC out c.1) ++ [c] ++ out.drop (aftC out c.1)
def srtC (C : List ClaS) : List ClaS := C.foldl insC []
def tmS (base ours theirs : List FileS) (P Q : List MvS) : List FileS × List ClaS × Nat :=
  if rightT base = true ∧ rightT ours = true ∧ rightT theirs = true then
    (if rightT (srtF (tmW base ours theirs P Q).1) = true then (srtF (tmW base ours theirs P Q).1, srtC (tmW base ours theirs P Q).2, 0) else ([], [], 6))
  else ([], [], 5)
theorem srt_mem (M : List FileS) (x : FileS) : x ∈ srtF M ↔ x ∈ M := by
  suffices h : ∀ (M A : List FileS), x ∈ M.foldl sortedS A ↔ x ∈ A ∨ x ∈ M by simpa [srtF] using h M []
  intro M
  induction M with
  | nil => intro A; simp
  | cons f M ih =>
    intro A
    rw [List.foldl_cons, ih, sorted_mem]
    simp only [List.mem_cons]
    constructor
    · rintro ((h | h) | h)
      · exact .inr (.inl h)
      · exact .inl h
      · exact .inr (.inr h)
    · rintro (h | h | h)
      · exact .inl (.inr h)
      · exact .inl (.inl h)
      · exact .inr h
theorem srt_len (M : List FileS) : (srtF M).length = M.length := by
  suffices h : ∀ (M A : List FileS), (M.foldl sortedS A).length = A.length + M.length by simpa [srtF] using h M []
  intro M
  induction M with
  | nil => intro A; simp
  | cons f M ih => intro A; rw [List.foldl_cons, ih, sorted_len, List.length_cons]; omega
theorem put_apart {s : WhS} (h : Apart s.1) (f : FileS) (k : Int) : Apart (putW s f k).1 := by
  unfold putW
  split
  · exact h
  · rename_i hb
    refine List.pairwise_append.2 ⟨h, List.pairwise_singleton _ _, fun a ha b hb2 => ?_⟩
    rw [List.mem_singleton.1 hb2]
    have hb' : barS s.1 f.1 = false := by simpa using hb
    have := (List.any_eq_false.1 hb') a ha
    simpa using this
theorem one_apart {s : WhS} (h : Apart s.1) (b x : FileS) : Apart (oneW s b x).1 := by
  unfold oneW
  split
  · exact h
  · exact put_apart h _ _
theorem keep_apart {s : WhS} (h : Apart s.1) (b : FileS) (o t : Option FileS) : Apart (keepW s b o t).1 := by
  unfold keepW
  split
  · exact put_apart h _ _
  · exact one_apart h _ _
  · exact one_apart h _ _
  · exact h
theorem addO_apart {s : WhS} (h : Apart s.1) (Y : List FileS) (x : FileS) : Apart (addOW Y s x).1 := by
  unfold addOW
  split
  · exact put_apart h _ _
  · split <;> exact put_apart h _ _
theorem addT_apart {s : WhS} (h : Apart s.1) (X : List FileS) (y : FileS) : Apart (addTW X s y).1 := by
  unfold addTW
  split
  · exact h
  · exact put_apart h _ _
theorem fold_inv {α β : Type} {I : β → Prop} {f : β → α → β} (h : ∀ b a, I b → I (f b a)) : ∀ (l : List α) (b : β), I b → I (l.foldl f b)
  | [], _, hb => hb
  | a :: l, b, hb => fold_inv h l _ (h b a hb)
theorem tm_apart (base ours theirs : List FileS) (P Q : List MvS) : Apart (tmW base ours theirs P Q).1 :=
  fold_inv (I := fun s : WhS => Apart s.1) (fun _ _ h => addT_apart h _ _) _ _ (fold_inv (I := fun s : WhS => Apart s.1) (fun _ _ h => addO_apart h _ _) _ _
    (fold_inv (I := fun s : WhS => Apart s.1) (fun _ _ h => keep_apart h _ _ _) _ _ List.Pairwise.nil))
theorem apart_ne {M : List FileS} (h : Apart M) : (M.map (·.1)).Nodup := by
  unfold Apart at h
  rw [List.nodup_iff_pairwise_ne, List.pairwise_map]
  exact h.imp fun {a b} hab e => by rw [e, clash_self] at hab; cases hab
theorem srt_rise {M : List FileS} (h : (M.map (·.1)).Nodup) : Rise (srtF M) := by
  suffices hs : ∀ (M A : List FileS), Rise A → (M.map (·.1)).Nodup → (∀ a ∈ A, ∀ m ∈ M, a.1 ≠ m.1) → Rise (M.foldl sortedS A) from hs M [] List.Pairwise.nil h (by simp)
  intro M
  induction M with
  | nil => intro A hA _ _; exact hA
  | cons f M ih =>
    intro A hA hN hd
    rw [List.map_cons, List.nodup_cons] at hN
    rw [List.foldl_cons]
    refine ih _ (sorted_rise hA fun g hg => hd g hg f (List.mem_cons_self ..)) hN.2 fun a ha m hm => ?_
    rcases (sorted_mem _ _ _).1 ha with rfl | ha
    · exact fun e => hN.1 (e ▸ List.mem_map_of_mem hm)
    · exact hd a ha m (List.mem_cons_of_mem _ hm)
theorem srt_only {M L : List FileS} (h : (M.map (·.1)).Nodup) (hm : ∀ x, x ∈ L ↔ x ∈ M) (hr : Rise L) : L = srtF M :=
  sorted_ext (R := fun g f : FileS => ltS g.1 f.1 = true) (fun x y h1 h2 => by rw [lt_asym h1] at h2; cases h2) _ _ hr (srt_rise h) fun x => (hm x).trans (srt_mem M x).symm
def Sorted (l : List ClaS) : Prop := l.Pairwise fun x y => ltS y.1 x.1 = false
theorem lt_le {p q r : Txt} (h1 : ltS p q = true) (h2 : ltS r q = false) : ltS p r = true := by
  cases h : ltS q r with
  | true => exact lt_trans' _ _ _ h1 h
  | false => rw [lt_tri r q h2 h]; exact h1
theorem aft_drop : ∀ (out : List ClaS) (p : Txt), ∀ d ∈ out.drop (aftC out p), ltS p d.1 = true
  | [], _, d, h => by simp at h
  | c :: r, p, d, h => by
    rw [aftC] at h
    split at h
    · rename_i ha
      exact (List.all_eq_true.1 ha) d h
    · exact aft_drop r p d h
theorem aft_take : ∀ (out : List ClaS) (p : Txt), Sorted out → ∀ d ∈ out.take (aftC out p), ltS p d.1 = false
  | [], _, _, d, h => by simp at h
  | c :: r, p, hs, d, h => by
    rw [aftC] at h
    unfold Sorted at hs
    rw [List.pairwise_cons] at hs
    split at h
    · simp at h
    · rename_i ha
      rw [List.take_succ_cons, List.mem_cons] at h
      rcases h with rfl | h
      · cases hc : ltS p d.1 with
        | false => rfl
        | true =>
          refine absurd (List.all_eq_true.2 fun e he => ?_) ha
          rcases List.mem_cons.1 he with rfl | he
          · exact hc
          · exact lt_le hc (hs.1 e he)
      · exact aft_take r p hs.2 d h
theorem ins_sorted {out : List ClaS} (h : Sorted out) (c : ClaS) : Sorted (insC out c) := by
  have h1 := aft_take out c.1 h
  have h2 := aft_drop out c.1
  have h0 := h
  rw [← List.take_append_drop (aftC out c.1) out] at h0
  obtain ⟨s1, s2, s3⟩ := List.pairwise_append.1 h0
  unfold insC Sorted
  rw [List.append_assoc]
  refine List.pairwise_append.2 ⟨s1, List.pairwise_append.2 ⟨List.pairwise_singleton _ _, s2, fun a ha b hb => ?_⟩, fun a ha b hb => ?_⟩
  · rw [List.mem_singleton.1 ha]
    exact lt_asym (h2 b hb)
  · rcases List.mem_append.1 hb with hb | hb
    · rw [List.mem_singleton.1 hb]
      exact h1 a ha
    · exact s3 a ha b hb
theorem ins_filter (out : List ClaS) (c : ClaS) (p : Txt) : (insC out c).filter (fun d => d.1 == p) = out.filter (fun d => d.1 == p) ++ [c].filter (fun d => d.1 == p) := by
  have h2 := aft_drop out c.1
  have e : out.filter (fun d => d.1 == p) = (out.take (aftC out c.1)).filter (fun d => d.1 == p) ++ (out.drop (aftC out c.1)).filter (fun d => d.1 == p) := by
    rw [← List.filter_append, List.take_append_drop]
  rw [e, insC, List.filter_append, List.filter_append, List.append_assoc, List.append_assoc]
  congr 1
  by_cases hp : c.1 = p
  · have : (out.drop (aftC out c.1)).filter (fun d => d.1 == p) = [] := List.filter_eq_nil_iff.2 fun d hd he => by
      have h3 := h2 d hd
      rw [eq_of_beq he, hp, lt_irr] at h3
      cases h3
    rw [this]
    simp
  · have : [c].filter (fun d => d.1 == p) = [] := List.filter_eq_nil_iff.2 fun d hd he => by
      rw [List.mem_singleton.1 hd] at he
      exact hp (eq_of_beq he)
    rw [this]
    simp
theorem srtC_ok (C : List ClaS) : Sorted (srtC C) ∧ ∀ p, (srtC C).filter (fun d => d.1 == p) = C.filter (fun d => d.1 == p) := by
  suffices h : ∀ (C A : List ClaS), Sorted A → Sorted (C.foldl insC A) ∧ ∀ p, (C.foldl insC A).filter (fun d => d.1 == p) = (A ++ C).filter (fun d => d.1 == p) by simpa [srtC] using h C [] List.Pairwise.nil
  intro C
  induction C with
  | nil => intro A h; simpa using h
  | cons c C ih =>
    intro A h
    rw [List.foldl_cons]
    obtain ⟨h1, h2⟩ := ih _ (ins_sorted h c)
    refine ⟨h1, fun p => ?_⟩
    rw [h2 p, List.filter_append, ins_filter, ← List.filter_append, ← List.filter_append, List.append_assoc]
    rfl
theorem st_only : ∀ (a b : List ClaS), Sorted a → Sorted b → (∀ p, a.filter (fun d => d.1 == p) = b.filter (fun d => d.1 == p)) → a = b
  | [], b, _, _, h => by
    cases b with
    | nil => rfl
    | cons y b => have := h y.1; simp at this
  | x :: a, [], _, _, h => by have := h x.1; simp at this
  | x :: a, y :: b, ha, hb, h => by
    unfold Sorted at ha hb
    rw [List.pairwise_cons] at ha hb
    have m1 : x ∈ y :: b := by
      have : x ∈ (y :: b).filter (fun d => d.1 == x.1) := by rw [← h x.1]; simp
      exact (List.mem_filter.1 this).1
    have m2 : y ∈ x :: a := by
      have : y ∈ (x :: a).filter (fun d => d.1 == y.1) := by rw [h y.1]; simp
      exact (List.mem_filter.1 this).1
    have e : x.1 = y.1 := by
      rcases List.mem_cons.1 m1 with rfl | m1
      · rfl
      · rcases List.mem_cons.1 m2 with rfl | m2
        · rfl
        · exact lt_tri _ _ (hb.1 x m1) (ha.1 y m2)
    have hxy := h x.1
    rw [List.filter_cons_of_pos (by simp), List.filter_cons_of_pos (by simp [e])] at hxy
    obtain ⟨rfl, _⟩ := List.cons.inj hxy
    rw [st_only a b ha.2 hb.2 fun p => ?_]
    have hp := h p
    by_cases q : x.1 = p
    · rw [List.filter_cons_of_pos (by simp [q]), List.filter_cons_of_pos (by simp [q])] at hp
      exact (List.cons.inj hp).2
    · rwa [List.filter_cons_of_neg (by simp [q]), List.filter_cons_of_neg (by simp [q])] at hp
section
open Go.Sort
variable {α : Type} [Inhabited α]
theorem range_map (d : Array α) : d.toList = (List.range d.size).map fun k => d[k]! := by
  refine List.ext_getElem (by simp) fun i h1 h2 => ?_
  have hi : i < d.size := by simpa using h1
  simp [getElem!_pos d i hi]
theorem stable_filter {lt : α → α → Bool} (hS : SWO lt) (d : Array α) (q : α → Bool) (hq : ∀ x y, q x = true → q y = true → lt x y = false) : (stableA lt d).toList.filter q = d.toList.filter q := by
  obtain ⟨⟨hs, π, p1, p2, p3, p4, p5⟩, _⟩ := stable_ok hS d
  have hL : (stableA lt d).toList = ((List.range d.size).map π).map fun k => d[k]! := by
    rw [range_map, hs, List.map_map]
    exact List.map_congr_left fun k _ => p1 k
  have key : ((List.range d.size).filter fun k => q d[π k]!).map π = (List.range d.size).filter fun k => q d[k]! := by
    have hp : (((List.range d.size).filter fun k => q d[π k]!).map π).Pairwise (· < ·) := by
      rw [List.pairwise_map]
      refine (List.Pairwise.filter _ (List.pairwise_lt_range (n := d.size))).imp_of_mem fun {i j} hi hj hij => ?_
      rcases Nat.lt_trichotomy (π i) (π j) with e | e | e
      · exact e
      · exact absurd e (p4 i j hij)
      · have h1 := p5 i j hij e
        rw [hq _ _ (List.mem_filter.1 hi).2 (List.mem_filter.1 hj).2] at h1
        cases h1
    have hn : ((List.range d.size).filter fun k => q d[k]!).Pairwise (· < ·) := List.Pairwise.filter _ (List.pairwise_lt_range (n := d.size))
    have hsub : ∀ x ∈ ((List.range d.size).filter fun k => q d[π k]!).map π, x ∈ (List.range d.size).filter fun k => q d[k]! := fun x hx => by
      obtain ⟨k, hk, rfl⟩ := List.mem_map.1 hx
      obtain ⟨h1, h2⟩ := List.mem_filter.1 hk
      exact List.mem_filter.2 ⟨List.mem_range.2 (p2 k (Nat.zero_le _) (List.mem_range.1 h1)).2, h2⟩
    have hlen : (((List.range d.size).filter fun k => q d[π k]!).map π).length = ((List.range d.size).filter fun k => q d[k]!).length := by
      have h1 := ((perm_stableA lt d).filter q).length_eq
      rw [hL, range_map d, List.map_map, List.filter_map, List.filter_map, List.length_map, List.length_map] at h1
      rw [List.length_map]
      exact h1
    refine sorted_ext (R := fun i j : Nat => i < j) (fun x y h1 h2 => by omega) _ _ hp hn fun x => ⟨hsub x, fun hx => ?_⟩
    refine Decidable.byContradiction fun hno => ?_
    have h1 := nodup_len (x :: ((List.range d.size).filter fun k => q d[π k]!).map π) ((List.range d.size).filter fun k => q d[k]!)
      (List.nodup_cons.2 ⟨hno, hp.imp fun {a b} h => Nat.ne_of_lt h⟩) (fun y hy => by
        rcases List.mem_cons.1 hy with rfl | hy
        · exact hx
        · exact hsub y hy)
    rw [List.length_cons, hlen] at h1
    omega
  rw [hL, List.map_map, List.filter_map, range_map d, List.filter_map, ← List.map_map]
  have e : (List.range d.size).filter (q ∘ ((fun k => d[k]!) ∘ π)) = (List.range d.size).filter fun k => q d[π k]! := rfl
  rw [e, key]
  rfl
end
end Go.Proofs.YtbnafihigoekeaaGreatDoor
namespace Go.Proofs.YtbnafihigoekeaaGreatDoor
def upd {K V : Type} [DecidableEq K] (f : K → Option V) (k : K) (v : V) : K → Option V := fun p => if p = k then some v else f p
def orgA (a : List FileS) : Txt → Option MvS := a.foldl (fun f b => upd f b.1 (b.1, b.1)) fun _ => none
def orgF (a : List FileS) (R : List MvS) : Txt → Option MvS := R.foldl (fun f r => upd f r.2 r) (orgA a)
def spotF (a : List FileS) (R : List MvS) (p : Txt) : Txt := match orgF a R p with | some o => o.1 | none => p
def entF (a : List FileS) (R : List MvS) (i : Nat) (g : Txt × Nat → Option FileS) (l : List FileS) : Txt × Nat → Option FileS := l.foldl (fun g f => upd g (spotF a R f.1, i) f) g
def newF (a : List FileS) (R : List MvS) (l : List FileS) : List FileS := l.filter fun f => (orgF a R f.1).isNone
theorem fold_upd {α K V : Type} [DecidableEq K] (key : α → K) (val : α → V) (k : K) : ∀ (l : List α) (f : K → Option V),
    l.foldl (fun f a => upd f (key a) (val a)) f k = match (l.filter fun a => decide (key a = k)).getLast? with | some a => some (val a) | none => f k := by
  intro l
  induction l with
  | nil => intro f; rfl
  | cons x l ih =>
    intro f
    rw [List.foldl_cons, ih]
    by_cases e : key x = k
    · rw [List.filter_cons_of_pos (by simpa using e)]
      cases h : (l.filter fun a => decide (key a = k)) with
      | nil => simp [upd, e]
      | cons y r =>
        rw [List.getLast?_cons_cons]
        cases h2 : (y :: r).getLast? with
        | none => rw [List.getLast?_eq_none_iff] at h2; cases h2
        | some z => rfl
    · rw [List.filter_cons_of_neg (by simpa using e)]
      cases h : (l.filter fun a => decide (key a = k)).getLast? with
      | none => simp only [upd]; rw [if_neg fun h => e h.symm]
      | some y => rfl
theorem fold_none {α K V : Type} [DecidableEq K] {key : α → K} {val : α → V} {k : K} {l : List α} {f : K → Option V} (h : ∀ a ∈ l, key a ≠ k) : l.foldl (fun f a => upd f (key a) (val a)) f k = f k := by
  rw [fold_upd, List.filter_eq_nil_iff.2 fun a ha e => h a ha (by simpa using e)]
  rfl
theorem fold_one {α K V : Type} [DecidableEq K] {key : α → K} {val : α → V} {k : K} {l : List α} {f : K → Option V} {x : α} (hx : x ∈ l) (hk : key x = k) (h : ∀ a ∈ l, key a = k → a = x) : l.foldl (fun f a => upd f (key a) (val a)) f k = some (val x) := by
  rw [fold_upd]
  have hm : x ∈ l.filter fun a => decide (key a = k) := List.mem_filter.2 ⟨hx, by simpa using hk⟩
  cases e : (l.filter fun a => decide (key a = k)).getLast? with
  | none => rw [List.getLast?_eq_none_iff] at e; rw [e] at hm; cases hm
  | some y =>
    have hy := List.mem_of_getLast? e
    obtain ⟨h1, h2⟩ := List.mem_filter.1 hy
    rw [h y h1 (by simpa using h2)]
theorem orgA_at (a : List FileS) (p : Txt) : orgA a p = if (findS a p).isSome = true then some (p, p) else none := by
  unfold orgA
  rw [fold_upd (fun b : FileS => b.1) (fun b => (b.1, b.1))]
  cases e : (a.filter fun b => decide (b.1 = p)).getLast? with
  | none =>
    rw [List.getLast?_eq_none_iff, List.filter_eq_nil_iff] at e
    have : findS a p = none := find_none.2 fun f hf h => e f hf (by simpa using h)
    rw [this]
    rfl
  | some y =>
    obtain ⟨h1, h2⟩ := List.mem_filter.1 (List.mem_of_getLast? e)
    have h2 : y.1 = p := by simpa using h2
    have : (findS a p).isSome = true := by
      cases h : findS a p with
      | some _ => rfl
      | none => exact absurd h2 (find_none.1 h y h1)
    rw [if_pos this]
    show some (y.1, y.1) = some (p, p)
    rw [h2]
structure RenP (a b : List FileS) (R : List MvS) : Prop where
  there : ∀ r ∈ R, (findS a r.1).isSome = true ∧ (findS b r.2).isSome = true
  gone : ∀ r ∈ R, findS b r.1 = none ∧ findS a r.2 = none
  one : ∀ r ∈ R, ∀ q ∈ R, r.1 = q.1 ∨ r.2 = q.2 → r = q
theorem find_is {l : List FileS} {f : FileS} (h : f ∈ l) : (findS l f.1).isSome = true := by
  cases e : findS l f.1 with
  | some _ => rfl
  | none => exact absurd rfl (find_none.1 e f h)
theorem RenEx.ok {a b : List FileS} {R : List MvS} (ta : Rise a) (tb : Rise b) (h : RenEx a b R) : RenP a b R where
  there r hr := by
    obtain ⟨x, y, hx, hy, e1, e2⟩ := h.there r hr
    exact ⟨e1 ▸ find_is hx, e2 ▸ find_is hy⟩
  gone r hr := by
    obtain ⟨x, y, hx, hy, e1, e2⟩ := h.there r hr
    have := h.pair.sub x y ⟨hx, hy, by rw [e1, e2]; exact hr⟩
    exact ⟨e1 ▸ this.2.2.1.1, e2 ▸ this.2.2.2.1.1⟩
  one r hr q hq he := by
    obtain ⟨x, y, hx, hy, e1, e2⟩ := h.there r hr
    obtain ⟨x', y', hx', hy', e1', e2'⟩ := h.there q hq
    have m1 : x ∈ a ∧ y ∈ b ∧ (x.1, y.1) ∈ R := ⟨hx, hy, by rw [e1, e2]; exact hr⟩
    have m2 : x' ∈ a ∧ y' ∈ b ∧ (x'.1, y'.1) ∈ R := ⟨hx', hy', by rw [e1', e2']; exact hq⟩
    rcases he with he | he
    · have : x = x' := ta.one hx hx' (by rw [e1, e1', he])
      subst this
      have := h.pair.one x y y' m1 m2
      subst this
      exact Prod.ext (e1.symm.trans e1') (e2.symm.trans e2')
    · have : y = y' := tb.one hy hy' (by rw [e2, e2', he])
      subst this
      have := h.pair.eno x x' y m1 m2
      subst this
      exact Prod.ext (e1.symm.trans e1') (e2.symm.trans e2')
section
variable {a b : List FileS} {R : List MvS}
theorem org_ren (h : RenP a b R) {r : MvS} (hr : r ∈ R) : orgF a R r.2 = some r := fold_one (key := fun r : MvS => r.2) (val := fun r => r) hr rfl fun q hq e => h.one q hq r hr (.inr e)
theorem org_other {p : Txt} (hp : ∀ r ∈ R, r.2 ≠ p) : orgF a R p = if (findS a p).isSome = true then some (p, p) else none := by
  rw [← orgA_at]
  exact fold_none (key := fun r : MvS => r.2) (val := fun r => r) hp
theorem org_none (p : Txt) : (orgF a R p).isNone = ((findS a p).isNone && !(R.any fun r => r.2 == p)) := by
  unfold orgF
  rw [fold_upd (fun r : MvS => r.2) (fun r => r), orgA_at]
  cases e : (R.filter fun r => decide (r.2 = p)).getLast? with
  | none =>
    rw [List.getLast?_eq_none_iff, List.filter_eq_nil_iff] at e
    have : (R.any fun r => r.2 == p) = false := List.any_eq_false.2 fun r hr h => e r hr (by simpa using h)
    rw [this]
    cases findS a p <;> rfl
  | some y =>
    obtain ⟨h1, h2⟩ := List.mem_filter.1 (List.mem_of_getLast? e)
    have : (R.any fun r => r.2 == p) = true := List.any_eq_true.2 ⟨y, h1, by simpa using h2⟩
    rw [this]
    simp
theorem new_added (l : List FileS) : newF a R l = addedS a l R := List.filter_congr fun f _ => org_none f.1
theorem spot_ren (h : RenP a b R) {r : MvS} (hr : r ∈ R) : spotF a R r.2 = r.1 := by rw [spotF, org_ren h hr]
theorem spot_other {p : Txt} (hp : ∀ r ∈ R, r.2 ≠ p) : spotF a R p = p := by
  rw [spotF, org_other hp]
  split
  · rename_i o ho
    split at ho
    · cases ho; rfl
    · cases ho
  · rfl
theorem spot_cases (h : RenP a b R) (p : Txt) : (∃ r ∈ R, r.2 = p ∧ spotF a R p = r.1) ∨ ((∀ r ∈ R, r.2 ≠ p) ∧ spotF a R p = p) := by
  by_cases hp : ∃ r ∈ R, r.2 = p
  · obtain ⟨r, hr, rfl⟩ := hp
    exact .inl ⟨r, hr, rfl, spot_ren h hr⟩
  · have hp : ∀ r ∈ R, r.2 ≠ p := fun r hr e => hp ⟨r, hr, e⟩
    exact .inr ⟨hp, spot_other hp⟩
theorem ent_other (i j : Nat) (hij : i ≠ j) (g : Txt × Nat → Option FileS) (l : List FileS) (p : Txt) : entF a R i g l (p, j) = g (p, j) :=
  fold_none (key := fun f : FileS => (spotF a R f.1, i)) (val := fun f => f) fun _ _ e => hij (Prod.mk.inj e).2
theorem ent_base (tb : Rise b) (h : RenP a b R) {p : Txt} (hp : (findS a p).isSome = true) (i : Nat) (g : Txt × Nat → Option FileS) (hg : g (p, i) = none) : entF a R i g b (p, i) = whereS p b R := by
  have key : ∀ f ∈ b, (spotF a R f.1, i) = (p, i) → whereS p b R = some f := fun f hf e => by
    have e := (Prod.mk.inj e).1
    unfold whereS
    rcases spot_cases h f.1 with ⟨r, hr, h1, h2⟩ | ⟨h1, h2⟩
    · have hrp : r.1 = p := h2.symm.trans e
      have hn := (h.gone r hr).1
      rw [hrp] at hn
      rw [hn]
      simp only
      have hfr : findS b r.2 = some f := by rw [h1]; exact tb.find hf
      cases hs : R.findSome? fun r => if r.1 = p then findS b r.2 else none with
      | none =>
        have := List.findSome?_eq_none_iff.1 hs r hr
        rw [if_pos hrp, hfr] at this
        cases this
      | some y =>
        obtain ⟨q, hq, hqy⟩ := List.exists_of_findSome?_eq_some hs
        split at hqy
        · rename_i hqp
          have := h.one q hq r hr (.inl (hqp.trans hrp.symm))
          subst this
          rw [hfr] at hqy
          exact hqy.symm
        · cases hqy
    · have : f.1 = p := h2.symm.trans e
      rw [← this, tb.find hf]
  cases hw : whereS p b R with
  | none =>
    rw [entF, fold_none (key := fun f : FileS => (spotF a R f.1, i)) (val := fun f => f) fun f hf e => by rw [key f hf e] at hw; cases hw]
    exact hg
  | some f =>
    have hex : ∃ f' ∈ b, spotF a R f'.1 = p := by
      unfold whereS at hw
      cases hb : findS b p with
      | some f' =>
        obtain ⟨h1, h2⟩ := find_some hb
        refine ⟨f', h1, ?_⟩
        rw [h2]
        refine spot_other fun r hr e => ?_
        have := (h.gone r hr).2
        rw [e] at this
        rw [this] at hp
        cases hp
      | none =>
        rw [hb] at hw
        simp only at hw
        obtain ⟨r, hr, hry⟩ := List.exists_of_findSome?_eq_some hw
        split at hry
        · rename_i hrp
          obtain ⟨h1, h2⟩ := find_some hry
          exact ⟨f, h1, by rw [h2, spot_ren h hr, hrp]⟩
        · cases hry
    obtain ⟨f', hf', hs⟩ := hex
    have e := key f' hf' (by rw [hs])
    have : f' = f := Option.some.inj (e.symm.trans hw)
    subst this
    rw [entF, fold_one (key := fun f : FileS => (spotF a R f.1, i)) (val := fun f => f) hf' (by rw [hs]) fun x hx e => Option.some.inj ((key x hx e).symm.trans hw)]
theorem ent_added (tb : Rise b) (h : RenP a b R) {p : Txt} (hp : findS a p = none) (i : Nat) (g : Txt × Nat → Option FileS) (hg : g (p, i) = none) : entF a R i g b (p, i) = findS (addedS a b R) p := by
  have hno : ∀ f ∈ b, (spotF a R f.1, i) = (p, i) → f.1 = p ∧ ∀ r ∈ R, r.2 ≠ f.1 := by
    intro f _ e
    have e := (Prod.mk.inj e).1
    rcases spot_cases h f.1 with ⟨r, hr, h1, h2⟩ | ⟨h1, h2⟩
    · have := (h.there r hr).1
      rw [← h2, e, hp] at this
      cases this
    · exact ⟨h2.symm.trans e, h1⟩
  cases hX : findS (addedS a b R) p with
  | some f =>
    obtain ⟨h1, h2⟩ := find_some hX
    obtain ⟨h3, h4⟩ := List.mem_filter.1 h1
    unfold addOne at h4
    rw [Bool.and_eq_true, Bool.not_eq_true', List.any_eq_false] at h4
    have hs : spotF a R f.1 = p := by rw [spot_other fun r hr e => h4.2 r hr (by simpa using e), h2]
    rw [entF, fold_one (key := fun f : FileS => (spotF a R f.1, i)) (val := fun f => f) h3 (by rw [hs]) fun x hx e => tb.one hx h3 ((hno x hx e).1.trans h2.symm)]
  | none =>
    rw [entF, fold_none (key := fun f : FileS => (spotF a R f.1, i)) (val := fun f => f) fun f hf e => ?_]
    · exact hg
    · obtain ⟨h1, h2⟩ := hno f hf e
      refine find_none.1 hX f (List.mem_filter.2 ⟨hf, ?_⟩) h1
      unfold addOne
      rw [Bool.and_eq_true, Bool.not_eq_true', List.any_eq_false]
      exact ⟨by rw [h1, hp]; rfl, fun r hr e => h2 r hr (by simpa using e)⟩
end
def lookF (a b c : List FileS) (P Q : List MvS) : Txt × Nat → Option FileS := entF a Q 1 (entF a P 0 (fun _ => none) b) c
theorem look0 {a b c : List FileS} {P Q : List MvS} (tb : Rise b) (hP : RenP a b P) (p : Txt) : lookF a b c P Q (p, 0) = if (findS a p).isSome = true then whereS p b P else findS (addedS a b P) p := by
  unfold lookF
  rw [ent_other 1 0 (by decide)]
  split
  · rename_i h
    exact ent_base tb hP h 0 _ rfl
  · rename_i h
    exact ent_added tb hP (by simpa using h) 0 _ rfl
theorem look1 {a b c : List FileS} {P Q : List MvS} (tc : Rise c) (hQ : RenP a c Q) (p : Txt) : lookF a b c P Q (p, 1) = if (findS a p).isSome = true then whereS p c Q else findS (addedS a c Q) p := by
  unfold lookF
  have h0 : entF a P 0 (fun _ => none) b (p, 1) = none := ent_other 0 1 (by decide) _ _ _
  split
  · rename_i h
    exact ent_base tc hQ h 1 _ h0
  · rename_i h
    exact ent_added tc hQ (by simpa using h) 1 _ h0
end Go.Proofs.YtbnafihigoekeaaGreatDoor
namespace Go.Proofs.YtbnafihigoekeaaGreatDoor
open Go.RowKit
def whereK (p : Txt) (side : List FileS) (R : List MvS) (k : Nat) : Option FileS := whereS p side (R.take k)
theorem _root_.Go.World.ownsRow.kept' {w w' : World} {base : Nat} {e : TypeId} {size : Nat} {v : Value} {n : Nat} {xs : List Value} (h : w.ownsRow base e size v n xs) (hk : Below w.heap.size w w') : w'.ownsRow base e size v n xs :=
  (Keep.ofBelow (S := fun _ => False) hk).owns h (fun _ _ hf => hf)
section
set_option maxRecDepth 100000
set_option maxHeartbeats 4000000
end
end Go.Proofs.YtbnafihigoekeaaGreatDoor
namespace Go.Proofs.YtbnafihigoekeaaGreatDoor
open Go.RowKit
section
variable {w : World}
theorem step_append_c1g {ops : Array Oper} {o : Oper} {a : Act} {K : Act → World → Prop} {Q : Exit → Act → World → Prop} {X : Prop} (hgd : o.guard = none) (s sx : Operand)
    (ho : o.op = .call { callee := .builtin .append, args := #[s, sx], argTypes := #[29, 29] })
    (base : Nat) (v : Value) (xs : List ClaS) (x : ClaS) (he : a.eval s = v) (hown : OwnC w base v xs) (u : Value) (hx : a.eval sx = u) (hu : SlCl w u [x])
    (hlen : xs.length ≤ 100000000) (hbase : base ≤ w.heap.size)
    (h : ∀ v' w', OwnC w' base v' (xs ++ [x]) → w.grownBy w' v.ownBlock → K (a.put o.dst v') w') : if Region.wanted o (yielded ops a.tmps) = true then Oper.wp Tryz.prog o a w K Q else X := by
  obtain ⟨i0, hi0, hi1, hi2, hi3⟩ := info_parts Tryz.infoCla
  refine step_append_any w hgd s sx _ _ ho base 36 i0 _ 3 40 Tryz.underlying29 hi0 hi1 hi2 hi3 rfl (by omega) v _ _ he hown u 1 _ hx (hu.src Tryz.underlying29) (by unfold maxLen; omega) (by omega) hbase fun v' w' h2 h3 h4 => h v' w' ?_ h3
  unfold OwnC
  rw [List.length_append, flatR_append]
  exact h2
end
end Go.Proofs.YtbnafihigoekeaaGreatDoor

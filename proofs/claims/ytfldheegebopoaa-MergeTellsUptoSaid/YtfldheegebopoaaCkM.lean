/-
  Chunks (P9.1, P9.2), as mathematics.
-/
import Derived.Test.YtfldheegebopoaaHkT
import Derived.Test.YtfldheegebopoaaDifL
namespace Go.Proofs.Ytfldheegebopoaa

/-- kind, base, ours, theirs -/
abbrev Ck (α : Type) := Int × List α × List α × List α
/-- what stands between two firm lines; a firm line -/
inductive It (α : Type) where
  | gap (b o t : List α)
  | line (x : α)

section
variable {α : Type}
/-- where each line of the first side is kept in the other one; -1 -/
def placesG : Nat → List (Int × α) → List Int
  | _, [] => []
  | n, e :: s => if e.1 = 1 then (n : Int) :: placesG (n + 1) s else if e.1 = 2 then -1 :: placesG n s else placesG (n + 1) s
/-- base, the places in ours and theirs, line by line -/
def gapsP (ours theirs : List α) : List α → Nat → Nat → List α → List Int → List Int → List (It α)
  | p, o, t, z :: bs, x :: xs, y :: ys =>
    if x < 0 ∨ y < 0 then gapsP ours theirs (p ++ [z]) o t bs xs ys
    else .gap p ((ours.drop o).take (x.toNat - o)) ((theirs.drop t).take (y.toNat - t)) :: .line z :: gapsP ours theirs [] (x.toNat + 1) (y.toNat + 1) bs xs ys
  | p, o, t, _, _, _ => [.gap p (ours.drop o) (theirs.drop t)]
def stab (run : List α) : List (Ck α) := if run = [] then [] else [(1, run, run, run)]
end

section
variable {α : Type} [DecidableEq α]
def kindOf (b o t : List α) : Int := if o = b then 3 else if t = b then 2 else if o = t then 4 else 5
def build : List α → List (It α) → List (Ck α)
  | run, [] => stab run
  | run, .gap b o t :: r => if b = [] ∧ o = [] ∧ t = [] then build run r else stab run ++ (kindOf b o t, b, o, t) :: build [] r
  | run, .line z :: r => build (run ++ [z]) r
def placesS (base side : List α) : List Int := placesG 0 (scriptS base side)
def chunksS (base ours theirs : List α) : List (Ck α) := build [] (gapsP ours theirs [] 0 0 base (placesS base ours) (placesS base theirs))
def cleanS (l : List (Ck α)) : Bool := l.all fun c => c.1 != 5
def mergedS (l : List (Ck α)) : List α := l.flatMap fun c => if c.1 = 3 then c.2.2.2 else c.2.2.1
end

section
variable {α : Type}
/-- the items of two scripts of one base: what is pending of base, ours, theirs; the scripts -/
inductive GQ : List α → List α → List α → List (Int × α) → List (Int × α) → List (It α) → Prop where
  | done (b o t) : GQ b o t [] [] [.gap b o t]
  | insO {b o t z s1 s2 I} : GQ b (o ++ [z]) t s1 s2 I → GQ b o t ((3, z) :: s1) s2 I
  | insT {b o t z s1 s2 I} : GQ b o (t ++ [z]) s1 s2 I → GQ b o t s1 ((3, z) :: s2) I
  | firm {b o t z s1 s2 I} : GQ [] [] [] s1 s2 I → GQ b o t ((1, z) :: s1) ((1, z) :: s2) (.gap b o t :: .line z :: I)
  | ko {b o t z s1 s2 I} : GQ (b ++ [z]) (o ++ [z]) t s1 s2 I → GQ b o t ((1, z) :: s1) ((2, z) :: s2) I
  | kt {b o t z s1 s2 I} : GQ (b ++ [z]) o (t ++ [z]) s1 s2 I → GQ b o t ((2, z) :: s1) ((1, z) :: s2) I
  | kd {b o t z s1 s2 I} : GQ (b ++ [z]) o t s1 s2 I → GQ b o t ((2, z) :: s1) ((2, z) :: s2) I

theorem GQ.there : ∀ (n : Nat) (b o t : List α) (s1 s2 : List (Int × α)), s1.length + s2.length ≤ n → Kinds s1 → Kinds s2 → sideS 2 s1 = sideS 2 s2 → ∃ I, GQ b o t s1 s2 I
  | 0, b, o, t, s1, s2, h, _, _, _ => by
    obtain rfl : s1 = [] := List.eq_nil_of_length_eq_zero (by omega)
    obtain rfl : s2 = [] := List.eq_nil_of_length_eq_zero (by omega)
    exact ⟨_, .done b o t⟩
  | n + 1, b, o, t, s1, s2, h, k1, k2, he => by
    by_cases h1 : ∃ z s, s1 = (3, z) :: s
    · obtain ⟨z, s, rfl⟩ := h1
      obtain ⟨I, hI⟩ := GQ.there n b (o ++ [z]) t s s2 (by simp at h; omega) k1.tail k2 (by rw [sideS_cons, if_neg (by simp)] at he; exact he)
      exact ⟨I, .insO hI⟩
    by_cases h2 : ∃ z s, s2 = (3, z) :: s
    · obtain ⟨z, s, rfl⟩ := h2
      obtain ⟨I, hI⟩ := GQ.there n b o (t ++ [z]) s1 s (by simp at h; omega) k1 k2.tail (by rw [sideS_cons, if_neg (by simp)] at he; exact he)
      exact ⟨I, .insT hI⟩
    cases s1 with
    | nil =>
      cases s2 with
      | nil => exact ⟨_, .done b o t⟩
      | cons e2 s2 =>
        obtain ⟨c2, z2⟩ := e2
        have hk2 := k2 _ (List.mem_cons_self ..)
        simp only at hk2
        rw [sideS_cons, if_pos (hk2.elim .inl fun q => q.elim .inr fun q => absurd ⟨z2, s2, by rw [q]⟩ h2)] at he
        cases he
    | cons e1 s1 =>
      obtain ⟨c1, z1⟩ := e1
      have hk1 := k1 _ (List.mem_cons_self ..)
      simp only at hk1
      have g1 : c1 = 1 ∨ c1 = 2 := hk1.elim .inl fun q => q.elim .inr fun q => absurd ⟨z1, s1, by rw [q]⟩ h1
      rw [sideS_cons, if_pos g1] at he
      cases s2 with
      | nil => cases he
      | cons e2 s2 =>
        obtain ⟨c2, z2⟩ := e2
        have hk2 := k2 _ (List.mem_cons_self ..)
        simp only at hk2
        have g2 : c2 = 1 ∨ c2 = 2 := hk2.elim .inl fun q => q.elim .inr fun q => absurd ⟨z2, s2, by rw [q]⟩ h2
        rw [sideS_cons, if_pos g2] at he
        simp only [List.cons.injEq] at he
        obtain ⟨rfl, he⟩ := he
        have hl : s1.length + s2.length ≤ n := by simp at h; omega
        rcases g1 with rfl | rfl <;> rcases g2 with rfl | rfl
        · obtain ⟨I, hI⟩ := GQ.there n [] [] [] s1 s2 hl k1.tail k2.tail he
          exact ⟨_, .firm hI⟩
        · obtain ⟨I, hI⟩ := GQ.there n (b ++ [z1]) (o ++ [z1]) t s1 s2 hl k1.tail k2.tail he
          exact ⟨_, .ko hI⟩
        · obtain ⟨I, hI⟩ := GQ.there n (b ++ [z1]) o (t ++ [z1]) s1 s2 hl k1.tail k2.tail he
          exact ⟨_, .kt hI⟩
        · obtain ⟨I, hI⟩ := GQ.there n (b ++ [z1]) o t s1 s2 hl k1.tail k2.tail he
          exact ⟨_, .kd hI⟩

theorem take_pre {l a b : List α} {o n : Nat} (h : l.drop o = a ++ b) (hn : n = o + a.length) : (l.drop o).take (n - o) = a ∧ l.drop n = b := by
  subst hn
  constructor
  · rw [h, Nat.add_sub_cancel_left, List.take_left']
    rfl
  · rw [← List.drop_drop, h, List.drop_left']
    rfl
/-- by places, and by scripts: the same items -/
theorem GQ.places {ours theirs b o t : List α} {s1 s2 : List (Int × α)} {I : List (It α)} (h : GQ b o t s1 s2 I) :
    ∀ (p q n m : Nat), n = p + o.length → m = q + t.length → ours.drop p = o ++ sideS 3 s1 → theirs.drop q = t ++ sideS 3 s2 → gapsP ours theirs b p q (sideS 2 s1) (placesG n s1) (placesG m s2) = I := by
  induction h with
  | done b o t =>
    intro p q n m hn hm h1 h2
    show [It.gap b (ours.drop p) (theirs.drop q)] = _
    rw [h1, h2]
    simp [sideS_nil]
  | @insO b o t z s1 s2 I _ ih =>
    intro p q n m hn hm h1 h2
    rw [sideS_cons, if_neg (by simp), placesG, if_neg (by simp), if_neg (by simp)]
    refine ih p q (n + 1) m (by simp; omega) hm ?_ h2
    rw [h1, sideS_cons, if_pos (by simp), List.append_assoc]
    rfl
  | @insT b o t z s1 s2 I _ ih =>
    intro p q n m hn hm h1 h2
    rw [placesG.eq_2 _ (3, z), if_neg (by simp), if_neg (by simp)]
    refine ih p q n (m + 1) hn (by simp; omega) h1 ?_
    rw [h2, sideS_cons, if_pos (by simp), List.append_assoc]
    rfl
  | @firm b o t z s1 s2 I _ ih =>
    intro p q n m hn hm h1 h2
    rw [sideS_cons, if_pos (by simp)] at h1 h2
    rw [sideS_cons, if_pos (by simp), placesG.eq_2 _ (1, z), if_pos rfl, placesG.eq_2 _ (1, z), if_pos rfl, gapsP, if_neg (by omega)]
    obtain ⟨a1, a2⟩ := take_pre (n := n) h1 hn
    obtain ⟨b1, b2⟩ := take_pre (n := m) h2 hm
    rw [Int.toNat_natCast, Int.toNat_natCast, a1, b1]
    rw [ih (n + 1) (m + 1) (n + 1) (m + 1) (by simp) (by simp) (by rw [← List.drop_drop, a2]; rfl) (by rw [← List.drop_drop, b2]; rfl)]
  | @ko b o t z s1 s2 I _ ih =>
    intro p q n m hn hm h1 h2
    rw [sideS_cons, if_pos (by simp)] at h1
    rw [sideS_cons, if_neg (by simp)] at h2
    rw [sideS_cons, if_pos (by simp), placesG.eq_2 _ (1, z), if_pos rfl, placesG.eq_2 _ (2, z), if_neg (by simp), if_pos rfl, gapsP, if_pos (.inr (by decide))]
    refine ih p q (n + 1) m (by simp; omega) hm ?_ h2
    rw [h1, List.append_assoc]
    rfl
  | @kt b o t z s1 s2 I _ ih =>
    intro p q n m hn hm h1 h2
    rw [sideS_cons, if_neg (by simp)] at h1
    rw [sideS_cons, if_pos (by simp)] at h2
    rw [sideS_cons, if_pos (by simp), placesG.eq_2 _ (2, z), if_neg (by simp), if_pos rfl, placesG.eq_2 _ (1, z), if_pos rfl, gapsP, if_pos (.inl (by decide))]
    refine ih p q n (m + 1) hn (by simp; omega) h1 ?_
    rw [h2, List.append_assoc]
    rfl
  | @kd b o t z s1 s2 I _ ih =>
    intro p q n m hn hm h1 h2
    rw [sideS_cons, if_neg (by simp)] at h1
    rw [sideS_cons, if_neg (by simp)] at h2
    rw [sideS_cons, if_pos (by simp), placesG.eq_2 _ (2, z), if_neg (by simp), if_pos rfl, placesG.eq_2 _ (2, z), if_neg (by simp), if_pos rfl, gapsP, if_pos (.inl (by decide))]
    exact ih p q n m hn hm h1 h2

/-! ### What the items say -/
def itB : List (It α) → List α
  | [] => []
  | .gap b _ _ :: r => b ++ itB r
  | .line x :: r => x :: itB r
def itO : List (It α) → List α
  | [] => []
  | .gap _ o _ :: r => o ++ itO r
  | .line x :: r => x :: itO r
def itT : List (It α) → List α
  | [] => []
  | .gap _ _ t :: r => t ++ itT r
  | .line x :: r => x :: itT r
theorem GQ.sides {b o t : List α} {s1 s2 : List (Int × α)} {I : List (It α)} (h : GQ b o t s1 s2 I) : itB I = b ++ sideS 2 s1 ∧ itO I = o ++ sideS 3 s1 ∧ itT I = t ++ sideS 3 s2 := by
  induction h with
  | done b o t => exact ⟨rfl, rfl, rfl⟩
  | insO _ ih => simpa [sideS_cons] using ih
  | insT _ ih => simpa [sideS_cons] using ih
  | firm _ ih => obtain ⟨h1, h2, h3⟩ := ih; simp [itB, itO, itT, sideS_cons, h1, h2, h3]
  | ko _ ih => simpa [sideS_cons] using ih
  | kt _ ih => simpa [sideS_cons] using ih
  | kd _ ih => simpa [sideS_cons] using ih
/-- something of each gap -/
def Gaps (P : List α → List α → List α → Prop) (I : List (It α)) : Prop := ∀ b o t, It.gap b o t ∈ I → P b o t
theorem Gaps.cons {P : List α → List α → List α → Prop} {b o t : List α} {x : α} {I : List (It α)} (h : P b o t) (k : Gaps P I) : Gaps P (.gap b o t :: .line x :: I) := fun b' o' t' hm => by
  rcases List.mem_cons.1 hm with e | hm
  · cases e; exact h
  · rcases List.mem_cons.1 hm with e | hm
    · cases e
    · exact k _ _ _ hm
theorem Gaps.one {P : List α → List α → List α → Prop} {b o t : List α} (h : P b o t) : Gaps P [.gap b o t] := fun b' o' t' hm => by
  rcases List.mem_singleton.1 hm with e
  cases e
  exact h
/-- where ours keeps all, and brings nothing: of each gap ours is base -/
theorem GQ.keepO {b o t : List α} {s1 s2 : List (Int × α)} {I : List (It α)} (h : GQ b o t s1 s2 I) (hs : ∀ e ∈ s1, e.1 = 1) (hbo : o = b) : Gaps (fun b o _ => o = b) I := by
  induction h with
  | done b o t => exact Gaps.one hbo
  | insO _ ih => exact absurd (hs _ (List.mem_cons_self ..)) (by simp)
  | insT _ ih => exact ih hs hbo
  | firm _ ih => exact Gaps.cons hbo (ih (fun e he => hs e (List.mem_cons_of_mem _ he)) rfl)
  | ko _ ih => exact ih (fun e he => hs e (List.mem_cons_of_mem _ he)) (by rw [hbo])
  | kt _ ih => exact absurd (hs _ (List.mem_cons_self ..)) (by simp)
  | kd _ ih => exact absurd (hs _ (List.mem_cons_self ..)) (by simp)
/-- turned -/
def turnIt : It α → It α
  | .gap b o t => .gap b t o
  | .line x => .line x
theorem GQ.turn {b o t : List α} {s1 s2 : List (Int × α)} {I : List (It α)} (h : GQ b o t s1 s2 I) : GQ b t o s2 s1 (I.map turnIt) := by
  induction h with
  | done b o t => exact .done b t o
  | insO _ ih => exact .insT ih
  | insT _ ih => exact .insO ih
  | firm _ ih => exact .firm ih
  | ko _ ih => exact .kt ih
  | kt _ ih => exact .ko ih
  | kd _ ih => exact .kd ih
theorem Gaps.turn {P : List α → List α → List α → Prop} {I : List (It α)} (h : Gaps (fun b o t => P b t o) (I.map turnIt)) : Gaps P I := fun b o t hm => h b t o (List.mem_map.2 ⟨_, hm, rfl⟩)
theorem GQ.keepT {b o t : List α} {s1 s2 : List (Int × α)} {I : List (It α)} (h : GQ b o t s1 s2 I) (hs : ∀ e ∈ s2, e.1 = 1) (hbo : t = b) : Gaps (fun b _ t => t = b) I :=
  Gaps.turn (h.turn.keepO hs hbo)
/-- both scripts are one: of each gap both sides are alike (inserts taken together) -/
theorem gapsP_same {o p : List α} (b : List α) (q : Nat) (bs : List α) (xs : List Int) (h : o = p) : Gaps (fun _ o t => o = t) (gapsP o p b q q bs xs xs) := by
  subst h
  induction bs generalizing b q xs with
  | nil => cases xs <;> exact Gaps.one rfl
  | cons z bs ih =>
    cases xs with
    | nil => exact Gaps.one rfl
    | cons x xs =>
      rw [gapsP]
      split
      · exact ih _ _ _
      · exact Gaps.cons rfl (ih _ _ _)
/-- two scripts joined at a line that both keep -/
theorem GQ.join {b o t : List α} {s1 s2 r1 r2 : List (Int × α)} {I J : List (It α)} {x : α} (h : GQ b o t s1 s2 I) (k : GQ [] [] [] r1 r2 J) : GQ b o t (s1 ++ (1, x) :: r1) (s2 ++ (1, x) :: r2) (I ++ .line x :: J) := by
  induction h with
  | done b o t => exact .firm k
  | insO _ ih => exact .insO ih
  | insT _ ih => exact .insT ih
  | firm _ ih => exact .firm ih
  | ko _ ih => exact .ko ih
  | kt _ ih => exact .kt ih
  | kd _ ih => exact .kd ih
/-- nothing firm -/
theorem GQ.none {b o t : List α} {s1 s2 : List (Int × α)} {I : List (It α)} (h : GQ b o t s1 s2 I) (hs : ∀ e ∈ s1, e.1 ≠ 1) : I = [.gap (b ++ sideS 2 s1) (o ++ sideS 3 s1) (t ++ sideS 3 s2)] := by
  induction h with
  | done b o t => simp [sideS_nil]
  | insO _ ih => have := ih fun e he => hs e (List.mem_cons_of_mem _ he); simpa [sideS_cons] using this
  | insT _ ih => have := ih hs; simpa [sideS_cons] using this
  | firm _ ih => exact absurd rfl (hs _ (List.mem_cons_self ..))
  | ko _ ih => exact absurd rfl (hs _ (List.mem_cons_self ..))
  | kt _ ih => have := ih fun e he => hs e (List.mem_cons_of_mem _ he); simpa [sideS_cons] using this
  | kd _ ih => have := ih fun e he => hs e (List.mem_cons_of_mem _ he); simpa [sideS_cons] using this
end
end Go.Proofs.Ytfldheegebopoaa

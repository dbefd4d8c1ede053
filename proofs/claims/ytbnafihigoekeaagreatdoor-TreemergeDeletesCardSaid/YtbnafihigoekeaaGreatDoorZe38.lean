/-
  TmDe, part 38.
-/
import Derived.Test.YtbnafihigoekeaaGreatDoorZe37
import Derived.Test.YtbnafihigoekeaaGreatDoorZe32
namespace Go.Proofs.YtbnafihigoekeaaGreatDoor
open Go.RowKit
section
set_option maxRecDepth 100000
set_option maxHeartbeats 4000000
theorem DRenamesX_any (va vb : Value) (l m : List FileS) (w : World) (ha : SlF w va l) (hb : SlF w vb m) (tl : IsTree l) (tm : IsTree m) :
    Calls Tryz.prog 89 #[va, vb] w fun e w' => ∃ v, e = .returned v ∧ OwnV w' w.heap.size v (renS l m) ∧ Below w.heap.size w w' := by
  have HL1 := hid (DLone_any va vb l m w ha hb (by have := tl.len; omega) (by have := tm.len; omega))
  have HL2 := hid fun (wx : World) (hk : Below w.heap.size w wx) => DLone_any vb va m l wx (hb.old hk) (ha.old hk) (by have := tm.len; omega) (by have := tl.len; omega)
  have HSO := hid (ren_sorted (m := m) tl.rise)
  have HVA := hid (ren_valid l m)
  have HFB := hid (lone_few (m := m) tl)
  have HFS := hid (lone_few (m := l) tm)
  have HI1 := hid (inv1 (loneS l m) (loneS m l))
  have HI2 := hid (inv2 (loneS l m) (loneS m l))
  have hRN : renS l m = renUp (loneS l m) (loneS m l) (st2S (loneS l m) (loneS m l)).1 (loneS l m).length := rfl
  have h1S : st1S (loneS l m) (loneS m l) = joinTw (loneS l m) (loneS m l) (List.replicate (loneS l m).length (-1), List.replicate (loneS m l).length (-1)) (loneS l m).length := rfl
  have h2S : st2S (loneS l m) (loneS m l) = joinAll (st1S (loneS l m) (loneS m l)) (matchS (loneS l m) (loneS m l) (st1S (loneS l m) (loneS m l))) := rfl
  obtain ⟨T1, hT1⟩ : ∃ T, st1S (loneS l m) (loneS m l) = T := ⟨_, rfl⟩
  obtain ⟨T2, hT2⟩ : ∃ T, st2S (loneS l m) (loneS m l) = T := ⟨_, rfl⟩
  obtain ⟨R, hR⟩ : ∃ R, renS l m = R := ⟨_, rfl⟩
  rw [hT1] at h1S h2S HI1
  rw [hT2] at h2S HI2 HVA hRN
  rw [hR] at hRN HSO ⊢
  clear hT1 hT2 hR
  obtain ⟨B, hB⟩ : ∃ B, loneS l m = B := ⟨_, rfl⟩
  obtain ⟨S, hS⟩ : ∃ S, loneS m l = S := ⟨_, rfl⟩
  rw [hB] at HL1 hRN h1S h2S HI1 HI2 HFB
  rw [hS] at HL2 hRN h1S h2S HI1 HI2 HVA HFS
  have HRN := hid hRN
  have H1S := hid h1S
  have H2S := hid h2S
  clear hRN h1S h2S hB hS ha hb tl tm
  go_enter Tryz.func89, Tryz.ntmps89
  go_wp2_with fail
  refine HL1.out.mono ?_
  rintro e w1 ⟨vB, rfl, ho1, hb1⟩
  have HOB := hid ho1
  have HB1 := hid hb1
  clear ho1 hb1
  go_wp2_with fail
  refine (HL2.out w1 HB1.out).mono ?_
  rintro e w2 ⟨vS, rfl, ho2, hb2⟩
  have HSB := hid (SlR.old (OwnF.sl HOB.out) hb2)
  have HSS := hid (OwnF.sl ho2)
  have HB2 := hid (HB1.out.trans (hb2.mono HB1.out.size))
  clear ho2 hb2 HL1 HL2
  go_wp2_with fail
  refine (DNewPairing_any vB vS B S w2 HSB.out HSS.out (by have := HFB.out.1; omega) (by have := HFS.out.1; omega)).mono ?_
  rintro e w3 ⟨gp, gt, gf, rfl, hp3⟩
  have HP3 := hid hp3
  clear hp3
  go_wp2_with fail
  refine (DJoinTwins_any w2 vB vS gp gt gf _ _ B S w3 HP3.out HSB.out HSS.out (by simp) (by simp) HFB.out HFS.out).mono ?_
  rintro e w4 ⟨rfl, hp4⟩
  rw [← H1S.out] at hp4
  have HP4 := hid hp4
  clear hp4 HP3
  go_wp2_with fail
  refine (DJoinAlike_any w2 vB vS gp gt gf T1.1 T1.2 B S w4 HP4.out HSB.out HSS.out HI1.out.len1 HI1.out.len2 HFB.out HFS.out).mono ?_
  rintro e w5 ⟨rfl, hp5⟩
  rw [show ((T1.1, T1.2) : List Int × List Int) = T1 from rfl, ← H2S.out] at hp5
  have HP5 := hid hp5
  clear hp5 HP4
  go_wp2_with fail
  refine (DRenamesP_any w2 vB vS gp gt gf T2.1 T2.2 B S w5 HP5.out HSB.out HSS.out HI2.out.len1 HVA.out HFB.out).mono ?_
  rintro e w6 ⟨v, rfl, ho6, hb6⟩
  rw [← HRN.out, HSO.out] at ho6
  have HO6 := hid ho6
  have HB5 := hid (HB2.out.trans (HP5.out.below.mono HB2.out.size))
  have HB6 := hid (HB5.out.trans (hb6.mono HB5.out.size))
  clear ho6 hb6
  go_wp2_with fail
  go_ret
  exact ⟨v, rfl, ⟨HO6.out.1, HO6.out.2.imp id fun ⟨g, cap, cur, h1, h2, h3⟩ => ⟨g, cap, cur, h1, Nat.le_trans HB5.out.size h2, h3⟩⟩, HB6.out⟩
end
end Go.Proofs.YtbnafihigoekeaaGreatDoor
namespace Go.Proofs.YtbnafihigoekeaaGreatDoor
open Go.Sort
def Pr (st : List Int × List Int) (i j : Nat) : Prop := st.1[i]? = some (j : Int)
theorem Pr.keep {st : List Int × List Int} {i j : Nat} (h : Pr st i j) (a b : Nat) : Pr (joinL st a b) i j := by
  unfold joinL
  split
  · rename_i hf
    show (st.1.set a (b : Int))[i]? = _
    rw [List.getElem?_set_ne (fun e => by
      subst e
      have := hf.1.symm.trans h
      have := Option.some.inj this
      omega)]
    exact h
  · exact h
theorem Pr.made {st : List Int × List Int} {i j a b : Nat} (h : Pr (joinL st a b) i j) : Pr st i j ∨ (i = a ∧ j = b) := by
  unfold joinL at h
  split at h
  · have h : (st.1.set a (b : Int))[i]? = some (j : Int) := h
    rw [List.getElem?_set] at h
    split at h
    · rename_i e
      split at h
      · have := Option.some.inj h
        exact .inr ⟨e.symm, by omega⟩
      · cases h
    · exact .inl h
  · exact .inl h
theorem Pr.all {i j : Nat} : ∀ (ms : List MtS) {st : List Int × List Int}, Pr st i j → Pr (joinAll st ms) i j
  | [], _, h => h
  | x :: ms, _, h => Pr.all ms (h.keep x.1 x.2.1)
theorem joinAll_by {n m : Nat} : ∀ (ms : List MtS) (st : List Int × List Int), Inv n m (fun _ _ => True) st → (∀ x ∈ ms, x.1 < n ∧ x.2.1 < m) → ∀ (p : Nat) (x : MtS), ms[p]? = some x →
    ∃ i j, Pr (joinAll st ms) i j ∧ (i = x.1 ∨ j = x.2.1) ∧ (Pr st i j ∨ ∃ q y, q ≤ p ∧ ms[q]? = some y ∧ i = y.1 ∧ j = y.2.1)
  | [], _, _, _, p, x, h => by simp at h
  | y :: ms, st, hI, hb, 0, x, h => by
    obtain rfl : y = x := by simpa using h
    have hy := hb y (List.mem_cons_self ..)
    by_cases hf : st.1[y.1]? = some (-1) ∧ st.2[y.2.1]? = some (-1)
    · refine ⟨y.1, y.2.1, Pr.all ms ?_, .inl rfl, .inr ⟨0, y, Nat.le_refl _, rfl, rfl, rfl⟩⟩
      show (joinL st y.1 y.2.1).1[y.1]? = some (y.2.1 : Int)
      rw [joinL, if_pos hf]
      show (st.1.set y.1 (y.2.1 : Int))[y.1]? = _
      rw [List.getElem?_set_self (by rw [hI.len1]; exact hy.1)]
    · by_cases h1 : st.1[y.1]? = some (-1)
      · have h2 : st.2[y.2.1]? ≠ some (-1) := fun e => hf ⟨h1, e⟩
        obtain ⟨z, hz⟩ : ∃ z, st.2[y.2.1]? = some z := ⟨_, List.getElem?_eq_getElem (by rw [hI.len2]; exact hy.2)⟩
        rcases hI.val2 _ z hz with e | ⟨i, rfl⟩
        · rw [hz, e] at h2
          exact absurd rfl h2
        · have hp : Pr st i y.2.1 := hI.bwd _ i hz
          exact ⟨i, y.2.1, Pr.all ms (hp.keep _ _), .inr rfl, .inl hp⟩
      · obtain ⟨z, hz⟩ : ∃ z, st.1[y.1]? = some z := ⟨_, List.getElem?_eq_getElem (by rw [hI.len1]; exact hy.1)⟩
        rcases hI.val1 _ z hz with e | ⟨j, rfl⟩
        · rw [hz, e] at h1
          exact absurd rfl h1
        · have hp : Pr st y.1 j := hz
          exact ⟨y.1, j, Pr.all ms (hp.keep _ _), .inl rfl, .inl hp⟩
  | y :: ms, st, hI, hb, p + 1, x, h => by
    have hy := hb y (List.mem_cons_self ..)
    obtain ⟨i, j, h1, h2, h3⟩ := joinAll_by ms (joinL st y.1 y.2.1) (hI.join hy.1 hy.2 trivial) (fun z hz => hb z (List.mem_cons_of_mem _ hz)) p x (by simpa using h)
    refine ⟨i, j, h1, h2, ?_⟩
    rcases h3 with h3 | ⟨q, z, e1, e2, e3⟩
    · rcases h3.made with h4 | ⟨rfl, rfl⟩
      · exact .inl h4
      · exact .inr ⟨0, y, Nat.zero_le _, rfl, rfl, rfl⟩
    · exact .inr ⟨q + 1, z, by omega, by simpa using e2, e3⟩
def lexM (a b : MtS) : Prop := a.1 < b.1 ∨ (a.1 = b.1 ∧ a.2.1 < b.2.1)
theorem left_rise (l : List FileS) (ws : List Int) (k : Nat) : (leftUp l ws k).Pairwise fun a b => a.1 < b.1 := by
  unfold leftUp
  rw [List.pairwise_filterMap]
  refine (range_pw _).imp fun {i j} hij a ha b hb => ?_
  have e : ∀ (i : Nat) (a : TxS), leftOne l ws i = some a → a.1 = i := fun i a ha => by
    unfold leftOne at ha
    split at ha
    · split at ha
      · cases ha
        rfl
      · cases ha
    · cases ha
  rw [e i a ha, e j b hb]
  exact hij
theorem one_at {a b : TxS} {x : MtS} (h : oneM a b = some x) : x.1 = a.1 ∧ x.2.1 = b.1 := by
  unfold oneM at h
  split at h
  · cases h
    exact ⟨rfl, rfl⟩
  · cases h
theorem mat_lex {A B : List TxS} (hA : A.Pairwise fun a b => a.1 < b.1) (hB : B.Pairwise fun a b => a.1 < b.1) (k : Nat) : (matUp A B k).Pairwise lexM := by
  unfold matUp
  rw [List.pairwise_flatMap]
  refine ⟨fun a _ => ?_, (hA.sublist (List.take_sublist _ _)).imp fun {a b} hab x hx y hy => ?_⟩
  · unfold rowUp
    rw [List.pairwise_filterMap]
    refine (hB.sublist (List.take_sublist _ _)).imp fun {b c} hbc x hx y hy => ?_
    obtain ⟨x1, x2⟩ := one_at hx
    obtain ⟨y1, y2⟩ := one_at hy
    exact .inr ⟨by rw [x1, y1], by rw [x2, y2]; exact hbc⟩
  · obtain ⟨c, _, hc⟩ := List.mem_filterMap.1 hx
    obtain ⟨e, _, he⟩ := List.mem_filterMap.1 hy
    exact .inl (by rw [(one_at hc).1, (one_at he).1]; exact hab)
theorem lt_mt (x y : MtS) : ltOf cfMt x y = decide (y.2.2 < x.2.2) := by
  unfold ltOf cfMt
  split
  · rename_i h
    rw [decide_eq_true h]
    rfl
  · rename_i h
    rw [decide_eq_false h]
    split <;> rfl
theorem swo_mt : SWO (ltOf cfMt) := ⟨fun x => by rw [lt_mt]; simp, fun x y z h1 h2 => by rw [lt_mt, decide_eq_true_eq] at *; omega, fun x y z h1 h2 => by rw [lt_mt, decide_eq_false_iff_not] at *; omega⟩
theorem match_order {B S : List FileS} {st : List Int × List Int} {p q : Nat} {x y : MtS} (hqp : q < p) (hq : (matchS B S st)[q]? = some y) (hp : (matchS B S st)[p]? = some x) :
    x.2.2 < y.2.2 ∨ (x.2.2 = y.2.2 ∧ lexM y x) := by
  have hl := mat_lex (left_rise B st.1 B.length) (left_rise S st.2 S.length) (leftUp B st.1 B.length).length
  unfold matchS at hq hp
  generalize matUp (leftUp B st.1 B.length) (leftUp S st.2 S.length) (leftUp B st.1 B.length).length = L at hl hq hp
  have h := stable_tie swo_mt L.toArray lexM (fun i j hij hj _ _ => by
    have hj' : j < L.length := by simpa using hj
    rw [getElem!_pos L.toArray j hj, getElem!_pos L.toArray i (by omega)]
    exact List.pairwise_iff_getElem.1 hl i j (by omega) hj' hij)
  have hs : (stableA (ltOf cfMt) L.toArray).size = L.toArray.size := size_stableA _ _
  rw [Array.getElem?_toList] at hq hp
  obtain ⟨p1, p2⟩ := Array.getElem?_eq_some_iff.1 hp
  obtain ⟨q1, q2⟩ := Array.getElem?_eq_some_iff.1 hq
  have hh := h q p hqp (by rw [← hs]; exact p1)
  rw [getElem!_pos (stableA (ltOf cfMt) L.toArray) p p1, getElem!_pos (stableA (ltOf cfMt) L.toArray) q q1, p2, q2, lt_mt, lt_mt, decide_eq_false_iff_not, decide_eq_false_iff_not] at hh
  by_cases e : x.2.2 < y.2.2
  · exact .inl e
  · exact .inr ⟨by omega, hh.2 e⟩
theorem lone_pos {l m : List FileS} (h : Rise l) {i j : Nat} {x y : FileS} (hi : (loneS l m)[i]? = some x) (hj : (loneS l m)[j]? = some y) (hij : i < j) : posS l x < posS l y :=
  pos_rise h (lone_mem.1 (List.mem_of_getElem? hi)).1 (lone_mem.1 (List.mem_of_getElem? hj)).1 (rise_at (lone_rise h) hij hi hj)
theorem ren_iff {l m : List FileS} (tl : Rise l) (tm : Rise m) {x y : FileS} (hx : x ∈ l) (hy : y ∈ m) :
    (x.1, y.1) ∈ renS l m ↔ ∃ i j, (loneS l m)[i]? = some x ∧ (loneS m l)[j]? = some y ∧ Pr (st2S (loneS l m) (loneS m l)) i j := by
  constructor
  · intro h
    obtain ⟨i, _, hi⟩ := List.mem_filterMap.1 h
    obtain ⟨j, x', y', h1, _, hx', hy', he, _⟩ := ren_at hi
    have e1 : x = x' := tl.one hx (lone_mem.1 (List.mem_of_getElem? hx')).1 (Prod.mk.inj he).1
    have e2 : y = y' := tm.one hy (lone_mem.1 (List.mem_of_getElem? hy')).1 (Prod.mk.inj he).2
    subst e1 e2
    exact ⟨i, j, hx', hy', h1⟩
  · rintro ⟨i, j, h1, h2, h3⟩
    refine List.mem_filterMap.2 ⟨i, List.mem_range.2 (List.getElem?_eq_some_iff.1 h1).1, ?_⟩
    have h3 : (st2S (loneS l m) (loneS m l)).1[i]? = some (j : Int) := h3
    rw [renOne, h3]
    dsimp only
    rw [if_neg (by omega), getD_at h1, Int.toNat_natCast, getD_at h2]
theorem twins_by {B S : List FileS} {i j : Nat} (hi : i < B.length) (hj : j < S.length) (ht : (B.getD i fileZ).2.2 = (S.getD j fileZ).2.2) :
    ∃ i' j', Pr (st1S B S) i' j' ∧ ((i' = i ∧ j' ≤ j) ∨ (j' = j ∧ i' ≤ i)) ∧ twinAt B i' = twinAt S j' := by
  have hI := Inv.joinTw (Inv.start B.length S.length (fun i j => twinAt B i = twinAt S j)) B.length (Nat.le_refl _)
  change Inv B.length S.length _ (st1S B S) at hI
  have find : ∀ i j, i < B.length → j < S.length → twinAt B i = twinAt S j → Pr (st1S B S) i j := fun i j hi hj he => by
    rcases joinTw_taken (st := st0S B S) he hj B.length hi with h | h
    · change (st1S B S).1[i]? ≠ some (-1) at h
      obtain ⟨z, hz⟩ : ∃ z, (st1S B S).1[i]? = some z := ⟨_, List.getElem?_eq_getElem (by rw [hI.len1]; exact hi)⟩
      rcases hI.val1 _ z hz with e | ⟨j', rfl⟩
      · rw [hz, e] at h
        exact absurd rfl h
      · obtain ⟨q1, q2⟩ := hI.fwd i j' hz
        have hj' := (List.getElem?_eq_some_iff.1 q1).1
        rw [hI.len2] at hj'
        rw [← twinAt_inj hj' hj (q2.symm.trans he)]
        exact hz
    · change (st1S B S).2[j]? ≠ some (-1) at h
      obtain ⟨z, hz⟩ : ∃ z, (st1S B S).2[j]? = some z := ⟨_, List.getElem?_eq_getElem (by rw [hI.len2]; exact hj)⟩
      rcases hI.val2 _ z hz with e | ⟨i', rfl⟩
      · rw [hz, e] at h
        exact absurd rfl h
      · have q0 := hI.bwd j i' hz
        have q2 := (hI.fwd i' j q0).2
        have hi' := (List.getElem?_eq_some_iff.1 q0).1
        rw [hI.len1] at hi'
        rw [← twinAt_inj hi' hi (q2.trans he.symm)]
        exact q0
  obtain ⟨t, et⟩ : ∃ t, (S.getD j fileZ).2.2 = t := ⟨_, rfl⟩
  rw [et] at ht
  by_cases hle : cntT (B.take i) t ≤ cntT (S.take j) t
  · obtain ⟨j', h1, h2⟩ := twin_below j hj et _ hle
    have he : twinAt B i = twinAt S j' := by rw [h2, twinAt, ht]
    exact ⟨i, j', find i j' hi (by omega) he, .inl ⟨rfl, h1⟩, he⟩
  · obtain ⟨i', h1, h2⟩ := twin_below i hi ht _ (Nat.le_of_lt (Nat.not_le.1 hle))
    have he : twinAt B i' = twinAt S j := by rw [h2, twinAt, et]
    exact ⟨i', j, find i' j (by omega) hj he, .inr ⟨rfl, h1⟩, he⟩
theorem ren_ex {l m : List FileS} (tl : Rise l) (tm : Rise m) (hl : l.length ≤ 1000) (hm : m.length ≤ 1000) : RenEx l m (renS l m) := by
  have hok := ren_ok tl tm
  have hI := inv2 (loneS l m) (loneS m l)
  have hI1 := inv1 (loneS l m) (loneS m l)
  refine ⟨fun p hp => ?_, hok.rise, ⟨fun x y h => ?_, fun x y y' h h' => ?_, fun x x' y h h' => ?_, fun x hx y hy lx ly hal => ?_⟩⟩
  · obtain ⟨x, y, h1, h2, h3, h4, _⟩ := hok.there p hp
    exact ⟨x, y, h1, h2, h3, h4⟩
  · obtain ⟨x', y', h1, h2, h3, h4, h5, h6, h7⟩ := hok.there _ h.2.2
    have e1 : x' = x := tl.one h1 h.1 h3
    have e2 : y' = y := tm.one h2 h.2.1 h4
    subst e1 e2
    exact ⟨h1, h2, h5, h6, h7⟩
  · obtain ⟨i, j, a1, a2, a3⟩ := (ren_iff tl tm h.1 h.2.1).1 h.2.2
    obtain ⟨i', j', b1, b2, b3⟩ := (ren_iff tl tm h'.1 h'.2.1).1 h'.2.2
    have ei : i = i' := by
      rcases Nat.lt_trichotomy i i' with q | q | q
      · have := rise_at (lone_rise tl) q a1 b1
        rw [lt_irr] at this
        cases this
      · exact q
      · have := rise_at (lone_rise tl) q b1 a1
        rw [lt_irr] at this
        cases this
    subst ei
    have := Option.some.inj (a3.symm.trans b3)
    have ej : j = j' := by omega
    subst ej
    exact Option.some.inj (a2.symm.trans b2)
  · obtain ⟨i, j, a1, a2, a3⟩ := (ren_iff tl tm h.1 h.2.1).1 h.2.2
    obtain ⟨i', j', b1, b2, b3⟩ := (ren_iff tl tm h'.1 h'.2.1).1 h'.2.2
    have ej : j = j' := by
      rcases Nat.lt_trichotomy j j' with q | q | q
      · have := rise_at (lone_rise tm) q a2 b2
        rw [lt_irr] at this
        cases this
      · exact q
      · have := rise_at (lone_rise tm) q b2 a2
        rw [lt_irr] at this
        cases this
    subst ej
    have := Option.some.inj ((hI.fwd _ _ a3).1.symm.trans (hI.fwd _ _ b3).1)
    have ei : i = i' := by omega
    subst ei
    exact Option.some.inj (a1.symm.trans b1)
  · obtain ⟨i, hi⟩ := List.mem_iff_getElem?.1 (lone_mem.2 ⟨hx, lx⟩)
    obtain ⟨j, hj⟩ := List.mem_iff_getElem?.1 (lone_mem.2 ⟨hy, ly⟩)
    have hil := (List.getElem?_eq_some_iff.1 hi).1
    have hjl := (List.getElem?_eq_some_iff.1 hj).1
    have put : ∀ i' j', Pr (st2S (loneS l m) (loneS m l)) i' j' → (i' = i ∨ j' = j) → (∀ x' y', (loneS l m)[i']? = some x' → (loneS m l)[j']? = some y' → keyP l m x' y' ≤ keyP l m x y) →
        ∃ x' y', (x' ∈ l ∧ y' ∈ m ∧ (x'.1, y'.1) ∈ renS l m) ∧ (x' = x ∨ y' = y) ∧ keyP l m x' y' ≤ keyP l m x y := fun i' j' hp hs hk => by
      have q1 := (List.getElem?_eq_some_iff.1 hp).1
      rw [hI.len1] at q1
      have q2 := (List.getElem?_eq_some_iff.1 (hI.fwd _ _ hp).1).1
      rw [hI.len2] at q2
      have g1 := List.getElem?_eq_getElem q1
      have g2 := List.getElem?_eq_getElem q2
      have m1 := (lone_mem.1 (List.mem_of_getElem? g1)).1
      have m2 := (lone_mem.1 (List.mem_of_getElem? g2)).1
      refine ⟨_, _, ⟨m1, m2, (ren_iff tl tm m1 m2).2 ⟨i', j', g1, g2, hp⟩⟩, ?_, hk _ _ g1 g2⟩
      rcases hs with rfl | rfl
      · exact .inl (Option.some.inj (g1.symm.trans hi))
      · exact .inr (Option.some.inj (g2.symm.trans hj))
    by_cases he : x.2.2 = y.2.2
    · obtain ⟨i', j', h1, h2, h3⟩ := twins_by hil hjl (by rw [getD_at hi, getD_at hj]; exact he)
      refine put i' j' (Pr.all _ h1) (by rcases h2 with h2 | h2 <;> simp [h2.1]) fun x' y' g1 g2 => ?_
      have ht := twin_text h3
      rw [getD_at g1, getD_at g2] at ht
      have m2 := (lone_mem.1 (List.mem_of_getElem? g2)).1
      refine key_lex m2 hm (by unfold clsS; rw [if_pos ht, if_pos he]) ?_
      rcases h2 with ⟨rfl, h2⟩ | ⟨rfl, h2⟩
      · obtain rfl := Option.some.inj (g1.symm.trans hi)
        refine .inr ⟨rfl, ?_⟩
        by_cases e : j' = j
        · subst e
          rw [Option.some.inj (g2.symm.trans hj)]
          exact Nat.le_refl _
        · exact Nat.le_of_lt (lone_pos tm g2 hj (by omega))
      · obtain rfl := Option.some.inj (g2.symm.trans hj)
        by_cases e : i' = i
        · subst e
          rw [Option.some.inj (g1.symm.trans hi)]
          exact .inr ⟨rfl, Nat.le_refl _⟩
        · exact .inl (lone_pos tl g1 hi (by omega))
    · have h5 : 50 ≤ ratioS x.2.2 y.2.2 := hal.resolve_left he
      have hcl : clsS x y = 101 - ratioS x.2.2 y.2.2 := by unfold clsS; rw [if_neg he]
      have hr1 := ratioS_le x.2.2 y.2.2
      have early : ∀ i' j', Pr (st1S (loneS l m) (loneS m l)) i' j' → ∀ x' y', (loneS l m)[i']? = some x' → (loneS m l)[j']? = some y' → keyP l m x' y' ≤ keyP l m x y := fun i' j' hp x' y' g1 g2 => by
        have hT := Inv.joinTw (Inv.start (loneS l m).length (loneS m l).length (fun i j => twinAt (loneS l m) i = twinAt (loneS m l) j)) (loneS l m).length (Nat.le_refl _)
        have ht := twin_text (hT.fwd _ _ hp).2
        rw [getD_at g1, getD_at g2] at ht
        refine key_cls (lone_mem.1 (List.mem_of_getElem? g1)).1 (lone_mem.1 (List.mem_of_getElem? g2)).1 hl hm ?_
        rw [hcl]
        unfold clsS
        rw [if_pos ht]
        omega
      by_cases hf : (st1S (loneS l m) (loneS m l)).1[i]? = some (-1) ∧ (st1S (loneS l m) (loneS m l)).2[j]? = some (-1)
      · have hin : (i, j, ratioL (linesOf x.2.2) (linesOf y.2.2)) ∈ matchS (loneS l m) (loneS m l) (st1S (loneS l m) (loneS m l)) :=
          matchS_mem.2 (mat_in (a := (i, linesOf x.2.2)) (b := (j, linesOf y.2.2)) (left_in hi hf.1) (left_in hj hf.2) (decide_eq_true h5))
        obtain ⟨p, hp⟩ := List.mem_iff_getElem?.1 hin
        obtain ⟨i', j', h1, h2, h3⟩ := joinAll_by _ _ (hI1.mono fun _ _ _ _ _ => trivial) (fun z hz => matchS_in hz) p _ hp
        refine put i' j' h1 h2 ?_
        rcases h3 with h3 | ⟨q, z, hq, hz, e1, e2⟩
        · exact early i' j' h3
        · intro x' y' g1 g2
          by_cases hqp : q = p
          · subst hqp
            have := Option.some.inj (hz.symm.trans hp)
            subst this
            have e1 : i' = i := e1
            have e2 : j' = j := e2
            subst e1 e2
            rw [Option.some.inj (g1.symm.trans hi), Option.some.inj (g2.symm.trans hj)]
            exact Nat.le_refl _
          · have hzm := List.mem_of_getElem? hz
            obtain ⟨a, b, ha, hb, _, hzz⟩ := matUp_mem (matchS_mem.1 hzm)
            obtain ⟨f, f1, _, f3, _⟩ := leftUp_mem ha
            obtain ⟨g, g3, _, g5, _⟩ := leftUp_mem hb
            have z1 : a.1 = i' := by rw [e1, hzz]
            have z2 : b.1 = j' := by rw [e2, hzz]
            rw [z1, g1] at f1
            rw [z2, g2] at g3
            obtain rfl := Option.some.inj f1
            obtain rfl := Option.some.inj g3
            have hzr : z.2.2 = ratioS x'.2.2 y'.2.2 := by rw [hzz, f3, g5]; rfl
            have hord := match_order (show q < p by omega) hz hp
            have m1 := (lone_mem.1 (List.mem_of_getElem? g1)).1
            have m2 := (lone_mem.1 (List.mem_of_getElem? g2)).1
            have hr2 := ratioS_le x'.2.2 y'.2.2
            have hcl2 : clsS x' y' ≤ 101 - ratioS x'.2.2 y'.2.2 := by unfold clsS; split <;> omega
            rcases hord with ho | ⟨ho, hx2⟩
            · refine key_cls m1 m2 hl hm ?_
              have ho : ratioS x.2.2 y.2.2 < z.2.2 := ho
              omega
            · have ho : ratioS x.2.2 y.2.2 = z.2.2 := ho
              by_cases hcc : clsS x' y' < clsS x y
              · exact key_cls m1 m2 hl hm hcc
              · refine key_lex m2 hm (by omega) ?_
                have hx2 : z.1 < i ∨ (z.1 = i ∧ z.2.1 < j) := hx2
                rw [← e1, ← e2] at hx2
                rcases hx2 with hx2 | ⟨hx2, hx3⟩
                · exact .inl (lone_pos tl g1 hi hx2)
                · subst hx2
                  rw [Option.some.inj (g1.symm.trans hi)]
                  exact .inr ⟨rfl, Nat.le_of_lt (lone_pos tm g2 hj hx3)⟩
      · by_cases h1 : (st1S (loneS l m) (loneS m l)).1[i]? = some (-1)
        · obtain ⟨z, hz⟩ : ∃ z, (st1S (loneS l m) (loneS m l)).2[j]? = some z := ⟨_, List.getElem?_eq_getElem (by rw [hI1.len2]; exact hjl)⟩
          rcases hI1.val2 _ z hz with e | ⟨i', rfl⟩
          · rw [e] at hz
            exact absurd ⟨h1, hz⟩ hf
          · have q0 := hI1.bwd j i' hz
            exact put i' j (Pr.all _ q0) (.inr rfl) (early i' j q0)
        · obtain ⟨z, hz⟩ : ∃ z, (st1S (loneS l m) (loneS m l)).1[i]? = some z := ⟨_, List.getElem?_eq_getElem (by rw [hI1.len1]; exact hil)⟩
          rcases hI1.val1 _ z hz with e | ⟨j', rfl⟩
          · rw [e] at hz
            exact absurd hz h1
          · exact put i j' (Pr.all _ hz) (.inl rfl) (early i j' hz)
end Go.Proofs.YtbnafihigoekeaaGreatDoor

/-
  The document's own Scan (rickref01).
-/
import Derived.Test.YtjnhgoedhggocaaDoorRecB
namespace Go.Proofs.YtjnhgoedhggocaaDoor
open Go.RowKit

section
set_option maxRecDepth 100000
set_option maxHeartbeats 400000

theorem oneOf_no2 {l : List UInt8} (h : l.length < 8 ∨ 200000 < numOf (l.take 4) ∨ l.length - 8 < numOf (l.take 4) ∨ sum32 ((l.drop 8).take (numOf (l.take 4))) ≠ numOf ((l.drop 4).take 4)) : oneOf l = none := by
  unfold oneOf
  rw [if_neg]
  rintro ⟨h1, h2, h3, h4⟩
  rcases h with h | h | h | h
  · omega
  · omega
  · omega
  · exact h h4

theorem RScan_any (v : Value) (bs : List UInt8) (hlen : bs.length ≤ 1099511627776) (w : World) (hv : Sl w v (Lib.byteCells bs)) :
    Calls Tryd.prog 10 #[v] w fun e w' => ∃ l, e = .returned (.tuple #[l, .int .i64 ((scanOf bs).2 : Nat)]) ∧ OwnB w' w.heap.size l (scanOf bs).1 ∧ Below w.heap.size w w' := by
  obtain ⟨i0, hi0, hi1, hi2, hi3⟩ := info_parts Tryd.info5
  obtain ⟨i1, hj0, hj1, hj2, hj3⟩ := info_parts Tryd.infoSlB
  obtain ⟨ao, cap, rfl⟩ := hv.form
  rw [Lib.byteCells_length] at hv ⊢
  have hlo : ∀ a n c, Value.slice ao bs.length cap = .slice (some a) n c → bs ≠ [] → a.block < w.heap.size := by
    intro a n c e hne
    obtain ⟨rfl, _, _⟩ := Value.slice.inj e
    exact hv.lt (i := 0) (by rw [Lib.byteCells_length]; exact List.length_pos_iff.2 hne)
  go_enter Tryd.func10, Tryd.ntmps10
  go_wp2_with fail
  go_loopw [4, 5] (fun l i wr => ∃ ds p, Hid (Came bs ds p) ∧ p ≤ bs.length ∧ ds.length ≤ p ∧ i = .int .i64 (p : Nat) ∧ OwnB wr w.heap.size l ds ∧ Below w.heap.size w wr) (fun _ i _ => bs.length - (intOf i).toNat)
  case atStart => exact ⟨[], 0, hid (Came.start bs), Nat.zero_le _, Nat.le_refl _, rfl, OwnB.nil _ _, Below.refl _ _⟩
  case round =>
    obtain ⟨ds, p, HC, hp, hdp, rfl, hown, hbel⟩ := hrel
    have hz := hbel.size
    obtain ⟨L, hL⟩ : ∃ L, L = bs.drop p := ⟨_, rfl⟩
    have hLl : L.length = bs.length - p := by rw [hL, List.length_drop]
    have hw0 : IntKind.i64.wrap ((bs.length : Int) - (p : Int)) = (L.length : Int) := (IntWalk.i64_in _ (by omega)).trans (by omega)
    have HL := hid hL
    have HLL := hid hLl
    by_cases h8 : L.length < 8
    · have HS := hid (HC.out.stop (by rw [← hL]; exact oneOf_no2 (.inl h8)))
      have h8' : ¬ (8 : Int) ≤ (L.length : Int) := by omega
      clear hL hLl
      go_wp2
      rw [HS.out]
      exact bodyPost_ret (results_tmp2 rfl _ _ _) rfl ⟨_, rfl, hown, hbel⟩
    · have h8' : (8 : Int) ≤ (L.length : Int) := by omega
      obtain ⟨n, hn⟩ : ∃ n, n = numOf (L.take 4) := ⟨_, rfl⟩
      obtain ⟨s, hs⟩ : ∃ s, s = numOf ((L.drop 4).take 4) := ⟨_, rfl⟩
      have hn32 : n < 4294967296 := by have := numOf_lt (L.take 4); rw [← hn, List.length_take, Nat.min_eq_left (by omega)] at this; exact this
      have e1 : stV (heldN 4) L 0 = L.take 4 ∧ stL (heldN 4) L 0 = L.drop 4 ∧ stE (heldN 4) L 0 = 0 := st_ok (h := 4) (by omega)
      have e2 : stV (heldN 4) (L.drop 4) 0 = (L.drop 4).take 4 ∧ stL (heldN 4) (L.drop 4) 0 = (L.drop 4).drop 4 ∧ stE (heldN 4) (L.drop 4) 0 = 0 := st_ok (h := 4) (by rw [List.length_drop]; omega)
      have hR0 : Rf (wr.alloc (.cells #[.slice ao bs.length cap, .int .i64 (p : Nat), .int .i64 0] 43)) wr.heap.size wr.heap.size bs L 0 :=
        ⟨_, p, heap_alloc_new wr _, (Sl.old hv hbel).alloc _, ⟨fun a n c e hne => Nat.lt_of_lt_of_le (hlo a n c e hne) hz, Nat.le_refl _⟩, hp, by omega, fun _ => hL, fun h => absurd rfl h⟩
      have hba : Below w.heap.size w (wr.alloc (.cells #[.slice ao bs.length cap, .int .i64 (p : Nat), .int .i64 0] 43)) := hbel.alloc hz _
      have HNN := hid hn
      have HSS := hid hs
      clear hL hLl hn hs
      go_wp2_with fail
      refine (FNum_all _ _ bs L 0 4 _ hR0).mono ?_
      rw [e1.1, e1.2.1, e1.2.2, ← HNN.out]
      rintro e w1 ⟨rfl, hR1, hk1⟩
      have hz1 := hk1.size
      rw [World.size_alloc] at hz1
      have hb1 : Below w.heap.size w w1 := hba.trans (hk1.below (by simp; omega) fun k hk => by show ¬ k = _; omega)
      clear hR0 hba
      go_wp2_with fail
      refine (FNum_all _ _ bs _ 0 4 _ hR1).mono ?_
      rw [e2.1, e2.2.1, e2.2.2, ← HSS.out]
      rintro e w2 ⟨rfl, hR2, hk2⟩
      have hz2 := hk2.size
      have hkk := hk1.trans hk2
      have hb2 : Below w.heap.size w w2 := hb1.trans (hk2.below (by omega) fun k hk => by show ¬ k = _; omega)
      have hbr2 : Below wr.heap.size wr w2 := ((Below.refl _ _).alloc (Nat.le_refl _) _).trans (hkk.below (by simp) fun k hk => by show ¬ k = _; omega)
      clear hR1 hR2 hb1 hk1 hk2 hkk e1 e2
      have hn := HNN.out
      have hs := HSS.out
      obtain ⟨q, hq⟩ : ∃ q, q = p + 8 := ⟨_, rfl⟩
      obtain ⟨m, hm⟩ : ∃ m, m = q + n := ⟨_, rfl⟩
      obtain ⟨k8, hk8⟩ : ∃ k8, k8 = L.length - 8 := ⟨_, rfl⟩
      have hll := HLL.out
      have hw1 : IntKind.i64.wrap ((L.length : Int) - 8) = (k8 : Int) := (IntWalk.i64_in _ (by omega)).trans (by omega)
      have hw2 : IntKind.i64.wrap (n : Int) = (n : Int) := IntWalk.i64_in _ (by omega)
      have hw3 : IntKind.i64.wrap ((p : Int) + 8) = (q : Int) := (IntWalk.i64_in _ (by omega)).trans (by omega)
      have hw4 : IntKind.i64.wrap ((q : Int) + (n : Int)) = (m : Int) := (IntWalk.i64_in _ (by omega)).trans (by omega)
      have hn0 : (0 : Int) ≤ (n : Int) := Int.natCast_nonneg _
      by_cases c1 : 200000 < n
      · have c1' : (200000 : Int) < (n : Int) := by omega
        have HS := hid (HC.out.stop (by rw [← HL.out]; exact oneOf_no2 (l := L) (.inr (.inl (by rw [← hn]; omega)))))
        clear c1 hll hn hs hq hm hk8
        go_wp2
        rw [HS.out]
        exact bodyPost_ret (results_tmp2 rfl _ _ _) rfl ⟨_, rfl, hown.old hbr2, hb2⟩
      · have c1' : ¬ (200000 : Int) < (n : Int) := by omega
        by_cases c2 : k8 < n
        · have c2' : (k8 : Int) < (n : Int) := by omega
          have HS := hid (HC.out.stop (by rw [← HL.out]; exact oneOf_no2 (l := L) (.inr (.inr (.inl (by rw [← hn]; omega))))))
          clear c1 c2 hll hn hs hq hm hk8
          go_wp2
          rw [HS.out]
          exact bodyPost_ret (results_tmp2 rfl _ _ _) rfl ⟨_, rfl, hown.old hbr2, hb2⟩
        · have c2' : ¬ (k8 : Int) < (n : Int) := by omega
          obtain ⟨am, cm, rm, sm, _⟩ := run_slice_mid (P := Tryd.prog) 22 5 Tryd.underlying22 hi0 hi2 hv q m (by omega) (by rw [Lib.byteCells_length]; omega)
          rw [show m - q = n by omega] at rm sm
          obtain ⟨x, hx⟩ : ∃ x, x = (L.drop 8).take n := ⟨_, rfl⟩
          have hxl : x.length = n := by rw [hx, List.length_take, List.length_drop]; omega
          have hsm : ((Lib.byteCells bs).drop q).take n = Lib.byteCells x := by
            rw [hx, HL.out, List.drop_drop, byteCells_take, byteCells_drop, hq]
          rw [hsm] at sm
          have hsx := sum32_lt x
          have hwx : IntKind.u64.wrap (sum32 x : Int) = (sum32 x : Int) := by rw [IntKind.wrap_u64]; omega
          have hqm : (q : Int) ≤ (m : Int) := by omega
          have hq0 : (0 : Int) ≤ (q : Int) := by omega
          have hmb : m ≤ bs.length := by omega
          have hmq := hid hm
          have hqp := hid hq
          have hk8' := hid hk8
          have HC2 := hid c2
          by_cases c3 : sum32 x = s
          · have c3' : (((sum32 x : Nat) : Int) != ((s : Nat) : Int)) = false := by simp [c3]
            have ho : oneOf (bs.drop p) = some x := by
              rw [← HL.out, hx]
              exact oneOf_yes (by omega) hn.symm (by omega) (by omega) (by rw [← hx, ← hs]; exact c3)
            have HN := hid (HC.out.step ho)
            rw [hxl] at HN
            have hown2 := hown.old hbr2
            have sm2 := Sl.old sm hb2
            clear c1 c2 c3 hll hn hs hq hm hk8 ho hx hsm hown
            go_wp2_with fail
            refine (RSum32_any _ x (by omega) w2 sm2).mono ?_
            rintro e w3 ⟨rfl, hb3⟩
            have hz3 := hb3.size
            have sm3 := Sl.old sm2 hb3
            have hbw3 := below_step hb2 hb3 (by omega)
            have hbx := hid (Lib.byteCells_length x)
            have g1 : 0 + (Lib.byteCells x).length ≤ maxLen := by rw [hbx.out]; unfold maxLen; omega
            have g2 : (0 + (Lib.byteCells x).length) * 1 ≤ 140737488355328 := by rw [hbx.out]; omega
            have hnx := hid hxl
            have hdn := hid (show n ≤ k8 from Nat.not_lt.1 HC2.out)
            have hown3 := hown2.old hb3
            have hlt4 : ∀ j, Value.ownBlock u4 = some j → j < w3.heap.size := by
              obtain ⟨vs', q1, _⟩ := hown3.ex
              exact fun j hj => (q1.lt j hj).2
            obtain ⟨a9, c9, hu4⟩ := hown3.form
            subst hu4
            have HLT := hid hlt4
            have g3 : ds.length + 1 ≤ maxLen := by unfold maxLen; omega
            have g4 : (ds.length + 1) * 24 ≤ 140737488355328 := by omega
            clear hsx hxl rm hv hbr2 hown2 hlt4
            go_wp2_with (first
              | (refine wpList_append_any _ rfl (.const (.slice none 0 0)) (.tmp 50) _ _ rfl w3.heap.size 5 i0 _ 1 1 Tryd.underlying22 hi0 hi1 hi2 hi3 rfl (by omega) (.slice none 0 0) 0 [] rfl (World.ownsRow_nil _ _ _ _) _ _ _ rfl (sm3.src Tryd.underlying22 (byte_one _)) g1 g2 (Nat.le_refl _) ?_
                 intro v4 w4 hown4 hgrow4 hat4
                 have hb4 := (Below.refl w3.heap.size w3).grown hgrow4 (Nat.le_refl _) (by simp [Value.ownBlock])
                 rw [Nat.zero_add, List.nil_append, hbx.out] at hown4
                 obtain ⟨a4, c4, hv4⟩ := owns_form hown4
                 have hz4 := hb4.size
                 obtain ⟨vs, o1, o2, o3⟩ := (hown3.old hb4).ex
                 have hue : ∀ a n c, v4 = .slice (some a) n c → some a.block ≠ Value.ownBlock (.slice a9 ds.length c9) ∧ a.block < w4.heap.size := by
                   intro a n c e
                   have q := hown4.lt a.block (by rw [e]; rfl)
                   refine ⟨fun e' => ?_, q.2⟩
                   have := HLT.out _ e'.symm
                   omega
                 subst hv4
                 have hbase : w.heap.size ≤ (w4.alloc (.cells #[.slice a4 x.length c4] 22)).heap.size := by simp; omega
                 clear hgrow4 hat4 g1 g2)
              | (refine wpList_append_any _ rfl (.tmp 49) (.tmp 52) _ _ rfl w.heap.size 22 i1 _ 1 24 Tryd.underlying25 hj0 hj1 hj2 hj3 rfl (by omega) _ _ _ rfl (o1.alloc _) _ 1 [.slice a4 x.length c4] rfl (Src.ofSlice _ Tryd.underlying25 ⟨w4.heap.size, 0, none⟩ 1 1 [.slice a4 x.length c4] (by rfl) (World.news_of_block (cs := #[.slice a4 x.length c4]) (t := 22) (fr := (0, 0)) (heap_alloc_new w4 _)) (by simp [Value.oneCell'])) g3 g4 hbase ?_
                 intro v5 w5 hown5 hgrow5 hat5
                 have hbx : Below w4.heap.size w4 (w4.alloc (.cells #[.slice a4 x.length c4] 22)) := (Below.refl _ _).alloc (Nat.le_refl _) _
                 have R := OwnB.push o2 o3 (Sl.ofOwns hown4) hue hbx hown5 hgrow5 hat5
                 have hb5 : Below w.heap.size w w5 := ((below_step hbw3 hb4 (by omega)).alloc (by omega) _).grown hgrow5 (by simp; omega) (fun j hj => (o1.lt j hj).1)
                 clear hown5 hgrow5 hat5 o1 o2 o3 hue hbx))
            go_roundw
            case rel => exact ⟨ds ++ [x], p + (8 + n), HN, by have := hdn.out; have := hk8'.out; have := HLL.out; omega, by simp; omega, by have := hmq.out; have := hqp.out; congr 1; omega, R, hb5⟩
            case measure => have := hmq.out; have := hqp.out; simp [intOf]; omega
          · have c3' : (((sum32 x : Nat) : Int) != ((s : Nat) : Int)) = true := by simp; omega
            have HS := hid (HC.out.stop (by rw [← HL.out]; exact oneOf_no2 (l := L) (.inr (.inr (.inr (by rw [← hn, ← hx, ← hs]; exact c3))))))
            have sm2 := Sl.old sm hb2
            clear c1 c2 c3 hll hn hs hq hm hk8 hx hsm
            go_wp2_with fail
            refine (RSum32_any _ x (by omega) w2 sm2).mono ?_
            rintro e w3 ⟨rfl, hb3⟩
            go_wp2
            rw [HS.out]
            exact bodyPost_ret (results_tmp2 rfl _ _ _) rfl ⟨_, rfl, (hown.old hbr2).old hb3, below_step hb2 hb3 (by omega)⟩
end
end Go.Proofs.YtjnhgoedhggocaaDoor

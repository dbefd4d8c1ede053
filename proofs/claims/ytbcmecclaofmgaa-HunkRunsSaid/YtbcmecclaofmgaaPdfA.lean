/-
  The document's own diff (rickref05): the sides of a script.
-/
import Derived.Test.YtbcmecclaofmgaaEdit
import Derived.Test.YtbcmecclaofmgaaStr
import Derived.Test.YtbcmecclaofmgaaRdfA
namespace Go.Proofs.Ytbcmecclaofmgaa
open Go.RowKit

section
set_option maxRecDepth 100000
set_option maxHeartbeats 2000000
theorem Dside_any (v : Value) (es : List (Int × List UInt8)) (kind : Int) (w : World) (hv : SlE w v es) (hn : es.length ≤ 1099511627776) :
    Calls Try.prog 37 #[v, .int .i64 kind] w fun e w' => ∃ u, e = .returned u ∧ w'.ownsRow w.heap.size 9 1 u (sideS kind es).length (strCells (sideS kind es)) ∧ Below w.heap.size w w' := by
  obtain ⟨i0, hi0, hi1, hi2, hi3⟩ := info_parts Try.infoStr
  obtain ⟨ao, cap, rfl⟩ := hv.form
  go_enter Try.func37, Try.ntmps37
  go_wp2_with fail
  go_loopw [5, 10] (fun o i wr => ∃ k : Nat, k ≤ es.length ∧ i = .int .i64 k ∧ wr.ownsRow w.heap.size 9 1 o (sideS kind (es.take k)).length (strCells (sideS kind (es.take k))) ∧ Below w.heap.size w wr) (fun _ i _ => es.length - (intOf i).toNat)
  case atStart => exact ⟨0, Nat.zero_le _, rfl, World.ownsRow_nil _ _ _ _, Below.refl _ _⟩
  case round =>
    obtain ⟨k, hk, rfl, hown, hbel⟩ := hrel
    have hz := hbel.size
    by_cases hlt : k < es.length
    · obtain ⟨b, o, c, x, rfl, hc, hd, he⟩ := (hv.old hbel).at' (i := k) hlt
      have k0 : (0 : Int) ≤ (k : Int) := Int.natCast_nonneg _
      have k1 : (k : Int) < (es.length : Int) := by omega
      have kw : IntKind.i64.wrap ((k : Int) + 1) = (k : Int) + 1 := IntWalk.i64_in _ (by omega)
      have hs := sideS_snoc kind es k _ he
      have hle := sideS_le kind (es.take k)
      rw [List.length_take] at hle
      obtain ⟨D, hD⟩ : ∃ D, sideS kind (es.take k) = D := ⟨_, rfl⟩
      rw [hD] at hown hs hle
      have g3 : D.length + 1 ≤ maxLen := by unfold maxLen; omega
      have g4 : (D.length + 1) * 16 ≤ 140737488355328 := by omega
      obtain ⟨al, cl, hof⟩ := owns_form hown
      subst hof
      have hbase : ∀ o1 o2, w.heap.size ≤ ((wr.alloc o1).alloc o2).heap.size := fun o1 o2 => by simp; omega
      have hsz1 : ∀ o1, w.heap.size ≤ (wr.alloc o1).heap.size := fun o1 => by simp; omega
      by_cases hyes : c = 1 ∨ c = kind
      · have HS := hid (show sideS kind (es.take (k + 1)) = D ++ [x] by rw [hs, if_pos hyes])
        rcases (show c = 1 ∨ (c ≠ 1 ∧ c = kind) by omega) with h1 | ⟨h1, h2⟩
        · subst h1
          clear hs hD hyes he
          go_wp2_with (refine wpList_append_any _ rfl (.tmp 23) (.tmp 26) _ _ rfl w.heap.size 9 i0 _ 1 16 Try.underlying23 hi0 hi1 hi2 hi3 rfl (by omega) (.slice al D.length cl) _ _ rfl ((hown.alloc _).alloc _) _ 1 [.string ⟨x.toArray⟩] rfl (Src.ofSlice _ Try.underlying23 ⟨wr.heap.size + 1, 0, none⟩ 1 1 [.string ⟨x.toArray⟩] (by rfl) (World.news_of_block (cs := #[.string ⟨x.toArray⟩]) (t := 9) (fr := (0, 0)) (heap_alloc2_new wr _ _)) (by simp [Value.oneCell'])) g3 g4 (hbase _ _) ?_; intro v5 w5 hown5 hgrow5 hat5)
          have hb5 : Below w.heap.size w w5 := ((hbel.alloc hz _).alloc (hsz1 _) _).grown hgrow5 (hbase _ _) (fun j hj => (hown.lt j hj).1)
          have R : w5.ownsRow w.heap.size 9 1 v5 (sideS kind (es.take (k + 1))).length (strCells (sideS kind (es.take (k + 1)))) := by
            rw [HS.out, strCells_append, List.length_append]
            exact hown5
          clear hown5 hgrow5 hat5 hown
          go_roundw
          case rel => exact ⟨k + 1, by omega, by go_num, R, hb5⟩
          case measure => simp [intOf]; omega
        · subst h2
          have hc1 : (c == 1) = false := by simpa using h1
          clear hs hD hyes he h1
          go_wp2_with (refine wpList_append_any _ rfl (.tmp 23) (.tmp 26) _ _ rfl w.heap.size 9 i0 _ 1 16 Try.underlying23 hi0 hi1 hi2 hi3 rfl (by omega) (.slice al D.length cl) _ _ rfl ((hown.alloc _).alloc _) _ 1 [.string ⟨x.toArray⟩] rfl (Src.ofSlice _ Try.underlying23 ⟨wr.heap.size + 1, 0, none⟩ 1 1 [.string ⟨x.toArray⟩] (by rfl) (World.news_of_block (cs := #[.string ⟨x.toArray⟩]) (t := 9) (fr := (0, 0)) (heap_alloc2_new wr _ _)) (by simp [Value.oneCell'])) g3 g4 (hbase _ _) ?_; intro v5 w5 hown5 hgrow5 hat5)
          have hb5 : Below w.heap.size w w5 := ((hbel.alloc hz _).alloc (hsz1 _) _).grown hgrow5 (hbase _ _) (fun j hj => (hown.lt j hj).1)
          have R : w5.ownsRow w.heap.size 9 1 v5 (sideS c (es.take (k + 1))).length (strCells (sideS c (es.take (k + 1)))) := by
            rw [HS.out, strCells_append, List.length_append]
            exact hown5
          clear hown5 hgrow5 hat5 hown
          go_roundw
          case rel => exact ⟨k + 1, by omega, by go_num, R, hb5⟩
          case measure => simp [intOf]; omega
      · have HS := hid (show sideS kind (es.take (k + 1)) = D by rw [hs, if_neg hyes])
        have hc1 : (c == 1) = false := by simp; omega
        have hc2 : (c == kind) = false := by simp; omega
        clear hs hD hyes he
        go_wp2_with fail
        go_roundw
        case rel => exact ⟨k + 1, by omega, by go_num, by rw [HS.out]; exact hown.alloc _, hbel.alloc hz _⟩
        case measure => simp [intOf]; omega
    · obtain rfl : k = es.length := by omega
      have hlt' : ¬ (es.length : Int) < (es.length : Int) := by omega
      rw [List.take_length] at hown
      clear hlt
      go_wp2
      go_ret
      exact ⟨_, rfl, hown, hbel⟩

theorem DOld_any (v : Value) (es : List (Int × List UInt8)) (w : World) (hv : SlE w v es) (hn : es.length ≤ 1099511627776) :
    Calls Try.prog 29 #[v] w fun e w' => ∃ u, e = .returned u ∧ w'.ownsRow w.heap.size 9 1 u (sideS 2 es).length (strCells (sideS 2 es)) ∧ Below w.heap.size w w' := by
  obtain ⟨ao, cap, rfl⟩ := hv.form
  go_enter Try.func29, Try.ntmps29
  go_wp2_with fail
  refine (Dside_any _ es 2 w hv hn).mono ?_
  rintro e w1 ⟨u, rfl, h1, h2⟩
  go_wp2
  go_ret
  exact ⟨u, rfl, h1, h2⟩
theorem DNew_any (v : Value) (es : List (Int × List UInt8)) (w : World) (hv : SlE w v es) (hn : es.length ≤ 1099511627776) :
    Calls Try.prog 30 #[v] w fun e w' => ∃ u, e = .returned u ∧ w'.ownsRow w.heap.size 9 1 u (sideS 3 es).length (strCells (sideS 3 es)) ∧ Below w.heap.size w w' := by
  obtain ⟨ao, cap, rfl⟩ := hv.form
  go_enter Try.func30, Try.ntmps30
  go_wp2_with fail
  refine (Dside_any _ es 3 w hv hn).mono ?_
  rintro e w1 ⟨u, rfl, h1, h2⟩
  go_wp2
  go_ret
  exact ⟨u, rfl, h1, h2⟩
end
end Go.Proofs.Ytbcmecclaofmgaa

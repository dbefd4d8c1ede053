/-
  The document's own lines (rickref05): Split, Join, Whole.
-/
import Derived.Test.YtfldheegebopoaaHelpS
import Derived.Test.YtfldheegebopoaaLinM
import Derived.Test.YtfldheegebopoaaStr
namespace Go.Proofs.Ytfldheegebopoaa
open Go.RowKit

section
set_option maxRecDepth 100000
set_option maxHeartbeats 2000000

theorem RSplit_any (s : List UInt8) (w : World) (hlen : s.length ≤ 1099511627776) :
    Calls Try.prog 21 #[strV s] w fun e w' => ∃ v, e = .returned v ∧ w'.ownsRow w.heap.size 9 1 v (linesOf s).length (strCells (linesOf s)) ∧ Below w.heap.size w w' := by
  obtain ⟨i0, hi0, hi1, hi2, hi3⟩ := info_parts Try.infoStr
  unfold strV
  have hsz := hid (rfl : (⟨s.toArray⟩ : ByteArray).size = s.length)
  go_enter Try.func21, Try.ntmps21
  go_wp2_with fail
  go_loopw [3, 4, 5] (fun l f i wr => ∃ (ds : List (List UInt8)) (p k : Nat), Hid (LinesAt s ds p k) ∧ p ≤ k ∧ k ≤ s.length ∧ ds.length ≤ p ∧ f = .int .i64 (p : Nat) ∧ i = .int .i64 (k : Nat) ∧ wr.ownsRow w.heap.size 9 1 l ds.length (strCells ds) ∧ Below w.heap.size w wr) (fun _ _ i _ => s.length - (intOf i).toNat)
  case atStart => exact ⟨[], 0, 0, hid (LinesAt.start s), Nat.le_refl _, Nat.zero_le _, Nat.le_refl _, rfl, rfl, World.ownsRow_nil _ _ _ _, Below.refl _ _⟩
  case round =>
    obtain ⟨ds, p, k, HL, hpk, hk, hdp, rfl, rfl, hown, hbel⟩ := hrel
    have hz := hbel.size
    by_cases hlt : k < s.length
    · obtain ⟨b, hb⟩ : ∃ b, s[k]? = some b := ⟨_, List.getElem?_eq_getElem hlt⟩
      have hix := run_str_at (P := Try.prog) 9 Try.underlying9 hb
      have k1 : (k : Int) < (s.length : Int) := by omega
      obtain ⟨e, he⟩ : ∃ e, e = k + 1 := ⟨_, rfl⟩
      have kw : IntKind.i64.wrap ((k : Int) + 1) = (e : Int) := (IntWalk.i64_in _ (by omega)).trans (by omega)
      by_cases h10 : b = 10
      · subst h10
        have hsl := run_str_mid (P := Try.prog) 9 Try.underlying9 s p e (by omega) (by omega)
        have hbe : ((UInt8.toNat 10 : Nat) : Int) = 10 := rfl
        rw [hbe] at hix
        have HN := hid (HL.out.line hb)
        rw [← he] at HN
        obtain ⟨x, hx⟩ : ∃ x, (s.drop p).take (e - p) = x := ⟨_, rfl⟩
        rw [hx] at hsl HN
        have g3 : ds.length + 1 ≤ maxLen := by unfold maxLen; omega
        have g4 : (ds.length + 1) * 16 ≤ 140737488355328 := by omega
        have HE := hid he
        obtain ⟨al, cl, rfl⟩ := owns_form hown
        have hbase : w.heap.size ≤ (wr.alloc (.cells #[.string ⟨x.toArray⟩] 9)).heap.size := by simp; omega
        clear hb hx he
        go_wp2_with (refine wpList_append_any _ rfl (.tmp 16) (.tmp 22) _ _ rfl w.heap.size 9 i0 _ 1 16 Try.underlying32 hi0 hi1 hi2 hi3 rfl (by omega) (.slice al ds.length cl) _ _ rfl (hown.alloc _) _ 1 [.string ⟨x.toArray⟩] rfl (Src.ofSlice _ Try.underlying32 ⟨wr.heap.size, 0, none⟩ 1 1 [.string ⟨x.toArray⟩] (by rfl) (World.news_of_block (cs := #[.string ⟨x.toArray⟩]) (t := 9) (fr := (0, 0)) (heap_alloc_new wr _)) (by simp [Value.oneCell'])) g3 g4 hbase ?_; intro v5 w5 hown5 hgrow5 hat5)
        have hb5 : Below w.heap.size w w5 := (hbel.alloc hz _).grown hgrow5 hbase (fun j hj => (hown.lt j hj).1)
        have R : w5.ownsRow w.heap.size 9 1 v5 (ds ++ [x]).length (strCells (ds ++ [x])) := by
          rw [strCells_append, List.length_append]
          exact hown5
        have he := HE.out
        clear hown5 hgrow5 hat5 hown
        go_roundw
        case rel => exact ⟨ds ++ [x], e, e, HN, by omega, by omega, by simp; omega, rfl, rfl, R, hb5⟩
        case measure => simp [intOf]; omega
      · have hbe : (((b.toNat : Nat) : Int) == 10) = false := by
          simp
          intro h
          exact h10 (UInt8.toNat_inj.1 (by rw [show UInt8.toNat 10 = 10 from rfl]; omega))
        have HN := hid (HL.out.more hb h10)
        rw [← he] at HN
        have HE := hid he
        clear hb h10 he
        go_wp2
        go_roundw
        case rel => exact ⟨ds, p, e, HN, by have := HE.out; omega, by have := HE.out; omega, hdp, rfl, rfl, hown, hbel⟩
        case measure => have := HE.out; simp [intOf]; omega
    · obtain rfl : k = s.length := by omega
      have HS := hid HL.out.stop
      by_cases hps : p < s.length
      · have hps' : (p : Int) < (s.length : Int) := by omega
        have hsl := run_str_from (P := Try.prog) 9 Try.underlying9 s p (by omega)
        obtain ⟨x, hx⟩ : ∃ x, s.drop p = x := ⟨_, rfl⟩
        have HS2 := hid (show linesOf s = ds ++ [x] by rw [HS.out, if_pos hps, hx])
        rw [hx] at hsl
        have g3 : ds.length + 1 ≤ maxLen := by unfold maxLen; omega
        have g4 : (ds.length + 1) * 16 ≤ 140737488355328 := by omega
        obtain ⟨al, cl, rfl⟩ := owns_form hown
        have hbase : w.heap.size ≤ (wr.alloc (.cells #[.string ⟨x.toArray⟩] 9)).heap.size := by simp; omega
        have hlt' : ¬ (s.length : Int) < (s.length : Int) := by omega
        clear hx hlt hps
        go_wp2_with (refine wpList_append_any _ rfl (.tmp 30) (.tmp 34) _ _ rfl w.heap.size 9 i0 _ 1 16 Try.underlying32 hi0 hi1 hi2 hi3 rfl (by omega) (.slice al ds.length cl) _ _ rfl (hown.alloc _) _ 1 [.string ⟨x.toArray⟩] rfl (Src.ofSlice _ Try.underlying32 ⟨wr.heap.size, 0, none⟩ 1 1 [.string ⟨x.toArray⟩] (by rfl) (World.news_of_block (cs := #[.string ⟨x.toArray⟩]) (t := 9) (fr := (0, 0)) (heap_alloc_new wr _)) (by simp [Value.oneCell'])) g3 g4 hbase ?_; intro v5 w5 hown5 hgrow5 hat5)
        have hb5 : Below w.heap.size w w5 := (hbel.alloc hz _).grown hgrow5 hbase (fun j hj => (hown.lt j hj).1)
        go_ret
        refine ⟨v5, rfl, ?_, hb5⟩
        rw [HS2.out, strCells_append, List.length_append]
        exact hown5
      · have hps' : ¬ (p : Int) < (s.length : Int) := by omega
        have HS2 := hid (show linesOf s = ds by rw [HS.out, if_neg hps])
        have hlt' : ¬ (s.length : Int) < (s.length : Int) := by omega
        clear hlt hps
        go_wp2
        go_ret
        refine ⟨_, rfl, ?_, hbel⟩
        rw [HS2.out]
        exact hown

theorem RJoin_any (v : Value) (l : List (List UInt8)) (w : World) (hv : Sl w v (strCells l)) (hlen : l.flatten.length ≤ 9223372036854775807) (hn : l.length ≤ maxLen) :
    Calls Try.prog 22 #[v] w fun e w' => e = .returned (strV l.flatten) ∧ w = w' := by
  obtain ⟨ao, cap, rfl⟩ := hv.form
  rw [strCells_length] at hv ⊢
  unfold maxLen at hn
  go_enter Try.func22, Try.ntmps22
  go_wp2_with fail
  go_loop [3, 4] (fun o i => ∃ k : Nat, k ≤ l.length ∧ i = .int .i64 (k : Nat) ∧ o = .string ⟨(l.take k).flatten.toArray⟩) (fun _ i => l.length - (intOf i).toNat)
  case atStart => exact ⟨0, Nat.zero_le _, rfl, by simp⟩
  case round =>
    obtain ⟨k, hk, rfl, rfl⟩ := hrel
    by_cases hlt : k < l.length
    · obtain ⟨a, x, rfl, hc, hx⟩ := hv.strAt' (i := k) hlt
      have k0 : (0 : Int) ≤ (k : Int) := Int.natCast_nonneg _
      have k1 : (k : Int) < (l.length : Int) := by omega
      have kw : IntKind.i64.wrap ((k : Int) + 1) = (k : Int) + 1 := IntWalk.i64_in _ (by omega)
      have e1 : (l.take (k + 1)).flatten = (l.take k).flatten ++ x := by rw [take_snoc hx]; simp
      have hle : (l.take (k + 1)).flatten.length ≤ l.flatten.length := by
        conv => rhs; rw [← List.take_append_drop (k + 1) l]
        rw [List.flatten_append, List.length_append]
        omega
      obtain ⟨o, ho⟩ : ∃ o, (l.take k).flatten = o := ⟨_, rfl⟩
      rw [ho] at e1 ⊢
      have hadd := run_str_add (P := Try.prog) o x (by rw [e1, List.length_append] at hle; omega)
      have HE := hid e1
      clear hx e1 hle ho hlen hn
      go_wp2
      go_round
      case rel => exact ⟨k + 1, by omega, by go_num, by rw [HE.out]⟩
      case measure => simp [intOf]; omega
    · obtain rfl : k = l.length := by omega
      have hlt' : ¬ (l.length : Int) < (l.length : Int) := by omega
      clear hlt hlen hn
      go_wp2
      go_ret
      exact ⟨rfl, rfl⟩
end
end Go.Proofs.Ytfldheegebopoaa

/-
  Lists of numbers (int): two held against each other; one more appended.
-/
import Derived.Test.YtikemkgedmbijaaBase
import Derived.Test.YtikemkgedmbijaaLaw3
import Derived.Deep.QuietTactic
import Derived.BigQuiet
import Derived.Deep.RegionHeld3
import Derived.Deep.DrawnRows
namespace Go.Proofs.Ytikemkgedmbijaa
open Go.RowKit

section
set_option maxHeartbeats 1000000
set_option maxRecDepth 100000

/-- Numbers, as a slice's cells. -/
def intCells (l : List Int) : List Value := l.map (Value.int .i64)
theorem intCells_length (l : List Int) : (intCells l).length = l.length := by simp [intCells]
theorem intCells_append (l m : List Int) : intCells (l ++ m) = intCells l ++ intCells m := by simp [intCells]
theorem int_one (l : List Int) : ∀ v ∈ intCells l, v.oneCell' = true := by
  intro v hv
  obtain ⟨b, _, rfl⟩ := List.mem_map.1 hv
  rfl
theorem Sl.intAt' {w : World} {ao : Option Addr} {n cap : Nat} {l : List Int} (h : Sl w (.slice ao n cap) (intCells l)) {i : Nat} (hi : i < l.length) :
    ∃ a b, ao = some a ∧ w.cell? (a.add i) = some (.int .i64 b) ∧ l[i]? = some b := Sl.elemAt' (f := Value.int .i64) h hi
theorem Try.infoInt : (Try.prog.info? 3).map (fun i => (i.zero, i.size, i.bytes)) = some (some (.int .i64 0), 1, 8) := by kernel_rfl

theorem ieq1_any (x y : Int) (w : World) : Calls Try.prog 16 #[Value.int .i64 x, Value.int .i64 y] w fun e w' => e = .returned (.bool (x == y)) ∧ w = w' := by
  go_enter Try.func16, Try.ntmps16
  go_wp2
  go_ret
  exact ⟨rfl, rfl⟩

theorem ISame_at (a b : Value) (x y : List Int) (w : World) (ha : Sl w a (intCells x)) (hb : Sl w b (intCells y)) (hx : x.length ≤ maxLen) :
    Calls Try.prog 15 #[a, b, .func (Fn.func 16) #[] #[]] w fun e w' => e = .returned (.bool (x == y)) ∧ ∃ k, w' = w.drewN k := by
  obtain ⟨aa, ca, rfl⟩ := ha.form
  obtain ⟨ab, cb, rfl⟩ := hb.form
  rw [intCells_length] at ha hb ⊢
  rw [intCells_length]
  unfold maxLen at hx
  by_cases hl : x.length = y.length
  · have hne : (x.length != y.length) = false := by simp [hl]
    have hne' : ((x.length : Int) != (y.length : Int)) = false := by simp [hl]
    have HL := hid hl
    clear hl
    go_enter Try.func15, Try.ntmps15
    go_wp2
    go_loopw [7] (fun i wr => ∃ k : Nat, k ≤ x.length ∧ i = .int .i64 k ∧ x.take k = y.take k ∧ ∃ q, wr = w.drewN q) (fun i _ => x.length - (intOf i).toNat)
    case atStart => exact ⟨0, Nat.zero_le _, rfl, rfl, 0, rfl⟩
    case round =>
      obtain ⟨k, hk, rfl, heq, q, rfl⟩ := hrel
      by_cases hlt : k < x.length
      · obtain ⟨a1, b1, rfl, hc1, hb1⟩ := ha.intAt' (i := k) hlt
        obtain ⟨a2, b2, rfl, hc2, hb2⟩ := hb.intAt' (i := k) (by rw [← HL.out]; exact hlt)
        have hlt2 : k < y.length := by rw [← HL.out]; exact hlt
        have i0 : (0 : Int) ≤ (k : Int) := Int.natCast_nonneg _
        have i1 : (k : Int) < (x.length : Int) := by omega
        have i2 : (k : Int) < (y.length : Int) := by omega
        by_cases he : b1 = b2
        · subst he
          have hbe : (b1 == b1) = true := by simp
          have HEQ := hid (show x.take (k + 1) = y.take (k + 1) by rw [take_snoc hb1, take_snoc hb2, heq])
          clear hb1 hb2 heq
          go_wp2_with fail
          go_region_held3 (fun wy => wy.cell? (a1.add k) = some (.int .i64 b1) ∧ wy.cell? (a2.add k) = some (.int .i64 b1)) (go_keep) ((go_at_call 16; refine (ieq1_any _ _ _).mono ?_; rintro e w7 ⟨rfl, rfl⟩))
          go_wp2
          go_roundw
          case rel => exact ⟨k + 1, by omega, by go_num, HEQ.out, q + 1, rfl⟩
          case measure => simp [intOf]; omega
        · have hbe : (b1 == b2) = false := by simpa using he
          have hxy := hid (show (x == y) = false by
            simp
            rintro rfl
            rw [hb1] at hb2
            exact he (by simpa using hb2))
          clear hb1 hb2 heq he
          go_wp2_with fail
          go_region_held3 (fun wy => wy.cell? (a1.add k) = some (.int .i64 b1) ∧ wy.cell? (a2.add k) = some (.int .i64 b2)) (go_keep) ((go_at_call 16; refine (ieq1_any _ _ _).mono ?_; rintro e w7 ⟨rfl, rfl⟩))
          go_wp2
          go_ret
          rw [hxy.out]
          exact ⟨rfl, q + 1, rfl⟩
      · obtain rfl : k = x.length := by omega
        have hxy := hid (show (x == y) = true by
          rw [List.take_length, HL.out, List.take_length] at heq
          simpa using heq)
        clear heq
        go_wp2
        go_ret
        rw [hxy.out]
        exact ⟨rfl, q, rfl⟩
  · have hne : (x.length != y.length) = true := by simpa using hl
    have hne' : ((x.length : Int) != (y.length : Int)) = true := by simp; omega
    have hxy := hid (show (x == y) = false by
      simp
      rintro rfl
      exact hl rfl)
    clear hl
    go_enter Try.func15, Try.ntmps15
    go_wp2
    go_ret
    rw [hxy.out]
    exact ⟨rfl, 0, rfl⟩

theorem IPlain_any (a b : Value) (x y : List Int) (w : World) (ha : Sl w a (intCells x)) (hb : Sl w b (intCells y)) (hx : x.length ≤ maxLen) :
    Calls Try.prog 9 #[a, b] w fun e w' => e = .returned (.bool (x == y)) ∧ ∃ k, w' = w.drewN k := by
  go_enter Try.func9, Try.ntmps9
  go_wp2_with fail
  refine (ISame_at a b x y w ha hb hx).mono ?_
  rintro e w' ⟨rfl, k, rfl⟩
  go_wp2
  go_ret
  exact ⟨rfl, k, rfl⟩

end
section
variable {w : World}
theorem wp_append_int {o : Oper} {a : Act} {K : Act → World → Prop} {Q : Exit → Act → World → Prop} (s sx : Operand)
    (ho : o.op = .call { callee := .builtin .append, args := #[s, sx], argTypes := #[28, 28] })
    (base : Nat) (v : Value) (xs : List Int) (x : Int) (he : a.eval s = v) (hown : w.ownsRow base 3 1 v xs.length (intCells xs))
    (hx : a.eval sx = .slice (some ⟨w.heap.size, 0, none⟩) 1 1) (hlen : xs.length ≤ 4000000000) (hbase : base ≤ w.heap.size)
    (h : ∀ v' w', w'.ownsRow base 3 1 v' (xs ++ [x]).length (intCells (xs ++ [x])) → Below base w w' → (∀ b, b < w.heap.size → v.ownBlock ≠ some b → w'.heap[b]? = w.heap[b]?) → K (a.put o.dst v') w') : o.wp Try.prog a (w.alloc (.cells #[.int .i64 x] 3)) K Q := by
  obtain ⟨i0, hi0, hi1, hi2, hi3⟩ := info_parts Try.infoInt
  have hz : (w.alloc (.cells #[.int .i64 x] 3)).heap.size = w.heap.size + 1 := by simp
  refine wp_append_any _ s sx _ _ ho base 3 i0 _ 1 8 Try.underlying28 hi0 hi1 hi2 hi3 rfl (by omega) v _ _ he (hown.alloc _) _ 1 [.int .i64 x] hx
    (Src.ofSlice _ Try.underlying28 ⟨w.heap.size, 0, none⟩ 1 1 [.int .i64 x] (by rfl) (World.news_of_block (cs := #[.int .i64 x]) (t := 3) (fr := (0, 0)) (heap_alloc_new w _)) (by simp [Value.oneCell'])) (by unfold maxLen; omega) (by omega) (by omega) fun v' w' q1 q2 q3 => h v' w' ?_ ?_ fun b hb hne => (q2.block b (by omega) (fun e => hne e.symm)).trans (Below.heap_alloc w _ b hb)
  · rw [List.length_append, intCells_append]
    exact q1
  · exact ((Below.refl base w).alloc hbase _).grown q2 (by omega) (fun j hj => (hown.lt j hj).1)
theorem wpList_append_int {ops : Array Oper} {rest : List Oper} {o : Oper} {a : Act} {Q : Exit → Act → World → Prop} (hgd : o.guard = none) (s sx : Operand)
    (ho : o.op = .call { callee := .builtin .append, args := #[s, sx], argTypes := #[28, 28] })
    (base : Nat) (v : Value) (xs : List Int) (x : Int) (he : a.eval s = v) (hown : w.ownsRow base 3 1 v xs.length (intCells xs))
    (hx : a.eval sx = .slice (some ⟨w.heap.size, 0, none⟩) 1 1) (hlen : xs.length ≤ 4000000000) (hbase : base ≤ w.heap.size)
    (h : ∀ v' w', w'.ownsRow base 3 1 v' (xs ++ [x]).length (intCells (xs ++ [x])) → Below base w w' → (∀ b, b < w.heap.size → v.ownBlock ≠ some b → w'.heap[b]? = w.heap[b]?) → wpList Try.prog ops Q rest (a.put o.dst v') w') : wpList Try.prog ops Q (o :: rest) a (w.alloc (.cells #[.int .i64 x] 3)) :=
  wpList_plain hgd fun _ hK => wp_append_int s sx ho base v xs x he hown hx hlen hbase fun v' w' h2 h3 h4 => hK _ _ (h v' w' h2 h3 h4)
end
end Go.Proofs.Ytikemkgedmbijaa

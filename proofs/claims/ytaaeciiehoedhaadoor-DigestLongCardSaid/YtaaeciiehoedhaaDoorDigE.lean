/-
  Package digest: Hex, FromHex, Less by plain lists.
-/
import Derived.Test.YtaaeciiehoedhaaDoorDigD
namespace Go.Proofs.YtaaeciiehoedhaaDoor
open Go.RowKit

/-- A name, as a value. -/
def keyV (k : List UInt8) : Value := .agg (Lib.byteCells k).toArray
theorem key_size (k : List UInt8) (h : k.length = 32) : (Lib.byteCells k).toArray.size = 32 := by rw [List.size_toArray, Lib.byteCells_length, h]
theorem key_one (k : List UInt8) : (Lib.byteCells k).toArray.all (·.oneCell') = true := by
  rw [Array.all_eq_true_iff_forall_mem]
  intro v hv
  exact byte_one k v (by simpa using hv)
theorem key_info (k : List UInt8) (h : k.length = 32) : (Tryd.prog.info? 24).map (·.size) = some (Lib.byteCells k).toArray.size := by rw [key_size k h, Tryd.sizeKey]

/-- The digits that the program names. -/
def digs : ByteArray := ⟨#[48, 49, 50, 51, 52, 53, 54, 55, 56, 57, 97, 98, 99, 100, 101, 102]⟩
theorem digs_get : ∀ n : Fin 16, digs[n.val]? = some (Sha.dig n.val) := by decide
theorem run_digit {P : Program} (t : TypeId) (ht : P.underlying t = some .string) (n : Nat) (h : n < 16) (x : Int) (hx : x = (n : Int)) : ∀ w, (Instr.index t (.string digs) (.int .u8 x)).run P w = .ok (.int .u8 ((Sha.dig n).toNat : Int)) w := by
  intro w
  subst hx
  have h0 : (0 : Int) ≤ (n : Int) := by omega
  simp [Instr.index, asIntOf, run_underlying ht, digs_get ⟨n, h⟩]
theorem own_make' {w : World} {e : TypeId} (B n : Nat) (mc : Array Value) (hB : B ≤ w.heap.size) (hm : mc.size = n) (hn : n ≤ maxLen) : (w.alloc (.cells mc e)).ownsRow B e 1 (.slice (some ⟨w.heap.size, 0, none⟩) 0 n) 0 [] :=
  ⟨rfl, .inr ⟨w.heap.size, n, mc, rfl, hB, heap_alloc_new w _, Nat.zero_le _, hn, by rw [hm, Nat.mul_one], rfl⟩⟩

set_option maxRecDepth 100000 in
set_option maxHeartbeats 1000000 in
theorem Hex_any (k : List UInt8) (hk : k.length = 32) (w : World) :
    Calls Tryd.prog 9 #[keyV k] w fun e w' => e = .returned (.string ⟨(Sha.hex k).toArray⟩) ∧ Below w.heap.size w w' := by
  obtain ⟨i0, hi0, hi1, hi2, hi3⟩ := info_parts Tryd.info5
  have hb1 : Below w.heap.size w (w.alloc (.cells (Lib.byteCells k).toArray 24)) := (Below.refl _ _).alloc (Nat.le_refl _) _
  have hg1 := heap_alloc_new w (.cells (Lib.byteCells k).toArray 24)
  obtain ⟨w1, hw1⟩ : ∃ w1, w1 = w.alloc (.cells (Lib.byteCells k).toArray 24) := ⟨_, rfl⟩
  have hz1 : w1.heap.size = w.heap.size + 1 := by rw [hw1, World.size_alloc]
  have hmk := run_make (P := Tryd.prog) w1 22 5 i0 (.int .u8 0) Tryd.underlying22 hi0 hi1 .i64 .i64 0 64 (by omega) (by omega) (by rw [hi3]; omega) (by omega)
  obtain ⟨mc, hmc, hms⟩ : ∃ mc, mc = madeCells (Value.int .u8 0).cells ((64 : Int).toNat * i0.size) ∧ mc.size = 64 := ⟨_, rfl, by rw [size_madeCells, hi2]; rfl⟩
  rw [← hmc, show ((0 : Int)).toNat = 0 from rfl, show (64 : Int).toNat = 64 from rfl] at hmk
  have hown0 := own_make' (w := w1) (e := 5) w.heap.size 64 mc (by omega) hms (by decide)
  rw [← hw1] at hb1 hg1
  have hb2 : Below w.heap.size w (w1.alloc (.cells mc 5)) := hb1.alloc (by omega) _
  have hg2 := (Below.heap_alloc w1 (.cells mc 5) w.heap.size (by omega)).trans hg1
  rw [hz1] at hmk hown0
  rw [hw1] at hmk hb2 hg2 hown0
  clear hmc hms hb1 hg1 hz1 hw1
  have hki := key_info k hk
  unfold keyV
  go_enter Tryd.func9, Tryd.ntmps9
  go_wp2_with (refine wpList_load_row rfl 24 _ rfl w.heap.size rfl _ _ _ _ hg2 Tryd.underlying24 rfl hki ?_)
  clear hmk hg2
  go_loopw [8, 3] (fun i o wr => ∃ j : Nat, j ≤ 32 ∧ i = .int .i64 (j : Int) ∧ wr.ownsRow w.heap.size 5 1 o (2 * j) (Lib.byteCells (Sha.hex (k.take j))) ∧ Below w.heap.size w wr) (fun i _ _ => 32 - (intOf i).toNat)
  case atStart => exact ⟨0, by omega, rfl, hown0, hb2⟩
  case round =>
    clear hown0 hb2
    obtain ⟨j, hj, rfl, hown, hbel⟩ := hrel
    by_cases hlt : j < 32
    · obtain ⟨b, hb⟩ : ∃ b, k[j]? = some b := ⟨_, List.getElem?_eq_getElem (by omega)⟩
      have hrun := run_index_arr (P := Tryd.prog) 24 5 32 (Lib.byteCells k).toArray j (.int .u8 (b.toNat : Int)) _ Tryd.underlying24 Tryd.underlying5 rfl hi0 hi2 hlt (by simp [Lib.byteCells, hb])
      have i1 : (j : Int) < 32 := by omega
      have i0' : (0 : Int) ≤ (j : Int) := Int.natCast_nonneg _
      have hb256 := b.toNat_lt
      have hx1 := run_digit (P := Tryd.prog) 9 Tryd.underlying9 (b.toNat / 16) (by omega) ((b.toNat : Int) / 16) (by omega)
      have hx2 := run_digit (P := Tryd.prog) 9 Tryd.underlying9 (b.toNat % 16) (by omega) ((b.toNat : Int) % 16) (by omega)
      have hand : bits .and .u8 (b.toNat : Int) 15 = (b.toNat : Int) % 16 := by
        rw [show (15 : Int) = ((15 : Nat) : Int) from rfl, u8_and_nat _ _ (by omega) (by omega), show (15 : Nat) = 2 ^ 4 - 1 from rfl, Nat.and_two_pow_sub_one_eq_mod]
        omega
      have hx3 : ∀ w, (Instr.index 9 (.string digs) (.int .u8 (bits .and .u8 (b.toNat : Int) 15))).run Tryd.prog w = .ok (.int .u8 ((Sha.dig (b.toNat % 16)).toNat : Int)) w := by rw [hand]; exact hx2
      clear hand
      unfold digs at hx1 hx2 hx3
      have hsz := hbel.size
      have g3 : 2 * j + 2 ≤ maxLen := by unfold maxLen; omega
      have g4 : (2 * j + 2) * 1 ≤ 140737488355328 := by omega
      go_wp2_with fail
      go_region_law
        ((refine step_append_any _ (by rfl) _ _ _ _ (by rfl) w.heap.size 5 i0 _ 1 1 Tryd.underlying22 hi0 hi1 hi2 hi3 rfl (by omega) u3 _ _ (by rfl) ((hown.alloc _).drew) _ 2 [_, _] (by rfl) (Src.ofSlice _ Tryd.underlying22 ⟨wr.heap.size, 0, none⟩ 2 2 [_, _] (by rfl) (World.news_of_block (cs := #[_, _]) (t := 5) (fr := (0, 0)) (heap_alloc_new wr _)) (by simp [Value.oneCell'])) g3 g4 (by simp; omega) ?_; intro v1 w5 hown1 hgrow hat))
      all_goals
        have hb5 : Below w.heap.size w w5 := (hbel.alloc hsz _).drew.grown hgrow (by simp; omega) (fun j hj => (hown.lt j hj).1)
        have R : w5.ownsRow w.heap.size 5 1 v1 (2 * (j + 1)) (Lib.byteCells (Sha.hex (k.take (j + 1)))) := by
          rw [take_snoc hb, Sha.hex_snoc, Lib.byteCells_append]
          exact hown1
        clear hown1 hgrow hat hown
        go_wp2
        go_roundw
        case rel => exact ⟨j + 1, by omega, by go_num, R, hb5⟩
        case measure => simp [intOf]; omega
    · obtain rfl : j = 32 := by omega
      rw [List.take_of_length_le (by omega)] at hown
      obtain ⟨ao, cap, rfl⟩ := owns_form hown
      have hcv := run_string_of (P := Tryd.prog) (w := wr) 22 9 5 Tryd.underlying22 Tryd.underlying5 Tryd.underlying9 (Sl.ofOwns hown)
      rw [show ((32 : Nat) : Int) = 32 from rfl]
      clear hj hlt hown
      go_wp2
      go_ret
      exact ⟨rfl, hbel⟩
end Go.Proofs.YtaaeciiehoedhaaDoor

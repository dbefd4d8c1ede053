/-
  The document's own answer (rickref01): Less and Hex by plain lists.
-/
import Derived.Test.YtaaeciiehoedhaaDoorDigF
import Derived.Laws.DeepStrings4
import Derived.Laws.Concat
namespace Go.Proofs.YtaaeciiehoedhaaDoor
open Go.RowKit

set_option maxRecDepth 100000 in
set_option maxHeartbeats 1000000 in
theorem RLess_any (a b : List UInt8) (ha : a.length = 32) (hb : b.length = 32) (w : World) :
    Calls Tryd.prog 12 #[keyV a, keyV b] w fun e w' => e = .returned (.bool (lessK a b)) ∧ Below w.heap.size w w' := by
  have hb2 : Below w.heap.size w ((w.alloc (.cells (Lib.byteCells a).toArray 24)).alloc (.cells (Lib.byteCells b).toArray 24)) := ((Below.refl _ _).alloc (Nat.le_refl _) _).alloc (by simp) _
  have hg0 := heap_alloc2_old w (.cells (Lib.byteCells a).toArray 24) (.cells (Lib.byteCells b).toArray 24)
  have hg1 := heap_alloc2_new w (.cells (Lib.byteCells a).toArray 24) (.cells (Lib.byteCells b).toArray 24)
  unfold keyV
  go_enter Tryd.func12, Tryd.ntmps12
  go_wp2
  go_loopw [5] (fun i wr => ∃ j : Nat, j ≤ 32 ∧ i = .int .i64 (j : Int) ∧ a.take j = b.take j ∧ Calm ((w.alloc (.cells (Lib.byteCells a).toArray 24)).alloc (.cells (Lib.byteCells b).toArray 24)) wr) (fun i _ => 32 - (intOf i).toNat)
  case atStart => exact ⟨0, by omega, rfl, rfl, Calm.refl _⟩
  case round =>
    obtain ⟨j, hj, rfl, heq, hcalm⟩ := hrel
    have hbw : Below w.heap.size w wr := hb2.trans ⟨hcalm.os, hcalm.tape, hcalm.output, by rw [hcalm.heap]; exact Nat.le_refl _, fun _ _ => by rw [hcalm.heap]⟩
    by_cases hlt : j < 32
    · obtain ⟨x, hx⟩ : ∃ x, a[j]? = some x := ⟨_, List.getElem?_eq_getElem (by omega)⟩
      obtain ⟨y, hy⟩ : ∃ y, b[j]? = some y := ⟨_, List.getElem?_eq_getElem (by omega)⟩
      have c0 := hcalm.cell (blk8_at hg0 hx)
      have c1 := hcalm.cell (blk8_at hg1 hy)
      have i1 : (j : Int) < 32 := by omega
      have i0' : (0 : Int) ≤ (j : Int) := Int.natCast_nonneg _
      by_cases hxy : x = y
      · subst hxy
        have hne : (((x.toNat : Nat) : Int) != ((x.toNat : Nat) : Int)) = false := by simp
        have HT := hid (show a.take (j + 1) = b.take (j + 1) by rw [take_snoc hx, take_snoc hy, heq])
        clear hx hy heq
        go_wp2
        go_region
        go_wp2
        exact ⟨⟨j + 1, by omega, by go_num, HT.out, hcalm.drew⟩, by simp [intOf]; omega⟩
      · have hne : (((x.toNat : Nat) : Int) != ((y.toNat : Nat) : Int)) = true := by
          simp
          intro h
          exact hxy (UInt8.toNat_inj.1 (by omega))
        have HL := hid (lessK_at heq hx hy hxy)
        clear hx hy heq hxy
        go_wp2
        go_region
        go_wp2
        go_region
        go_wp2
        go_ret
        rw [HL.out]
        exact ⟨by simp, hbw.drew.drew⟩
    · obtain rfl : j = 32 := by omega
      rw [List.take_of_length_le (by omega), List.take_of_length_le (by omega)] at heq
      subst heq
      have HL := hid (lessK_same a)
      rw [show ((32 : Nat) : Int) = 32 from rfl]
      clear hj hlt
      go_wp2
      go_ret
      rw [HL.out]
      exact ⟨rfl, hbw⟩

/-- 'digits[n:n+1]'. -/
theorem digs_cut : ∀ n : Fin 16, digs.extract n.val (n.val + 1) = ⟨[Sha.dig n.val].toArray⟩ := by decide
theorem run_cut {P : Program} (t : TypeId) (ht : P.underlying t = some .string) (n : Nat) (h : n < 16) (x y : Int) (hx : x = (n : Int)) (hy : y = (n : Int) + 1) : ∀ w, (Instr.slice t (.string digs) (some (.int .u8 x)) (some (.int .u8 y)) none).run P w = .ok (.string ⟨[Sha.dig n].toArray⟩) w := by
  intro w
  subst hx hy
  have hsz : digs.size = 16 := by decide
  rw [run_slice_string_if _ t digs .u8 .u8 _ _ ht, hsz, if_pos (by omega), if_pos (by omega), show ((n : Int)).toNat = n by omega, show ((n : Int) + 1).toNat = n + 1 by omega, digs_cut ⟨n, h⟩]

theorem str_snoc (l : List UInt8) (x : UInt8) : (⟨l.toArray⟩ : ByteArray) ++ ⟨[x].toArray⟩ = ⟨(l ++ [x]).toArray⟩ := by
  apply ByteArray.ext
  rw [ByteArray.data_append]
  simp
theorem run_snoc {P : Program} (l : List UInt8) (x : UInt8) (h : l.length ≤ 64) : ∀ w, (Op.stringOp .add (⟨l.toArray⟩ : ByteArray) ⟨[x].toArray⟩).run P w = .ok (.string ⟨(l ++ [x]).toArray⟩) w := by
  intro w
  rw [run_string_add_sum, str_snoc]
  show l.toArray.size + [x].toArray.size ≤ _
  simp
  omega

set_option maxRecDepth 100000 in
set_option maxHeartbeats 1000000 in
theorem RHex_any (k : List UInt8) (hk : k.length = 32) (w : World) :
    Calls Tryd.prog 10 #[keyV k] w fun e w' => e = .returned (.string ⟨(Sha.hex k).toArray⟩) ∧ Below w.heap.size w w' := by
  have hb0 : Below w.heap.size w (w.alloc (.cells (Lib.byteCells k).toArray 24)) := (Below.refl _ _).alloc (Nat.le_refl _) _
  have hg0 := heap_alloc_new w (.cells (Lib.byteCells k).toArray 24)
  unfold keyV
  go_enter Tryd.func10, Tryd.ntmps10
  go_wp2
  go_loopw [4, 3] (fun i o wr => ∃ j : Nat, j ≤ 32 ∧ i = .int .i64 (j : Int) ∧ o = .string ⟨(Sha.hex (k.take j)).toArray⟩ ∧ Calm (w.alloc (.cells (Lib.byteCells k).toArray 24)) wr) (fun i _ _ => 32 - (intOf i).toNat)
  case atStart => exact ⟨0, by omega, rfl, rfl, Calm.refl _⟩
  case round =>
    obtain ⟨j, hj, rfl, rfl, hcalm⟩ := hrel
    have hbw : Below w.heap.size w wr := hb0.trans ⟨hcalm.os, hcalm.tape, hcalm.output, by rw [hcalm.heap]; exact Nat.le_refl _, fun _ _ => by rw [hcalm.heap]⟩
    by_cases hlt : j < 32
    · obtain ⟨b, hb⟩ : ∃ b, k[j]? = some b := ⟨_, List.getElem?_eq_getElem (by omega)⟩
      have c0 := hcalm.cell (blk8_at hg0 hb)
      have i1 : (j : Int) < 32 := by omega
      have i0' : (0 : Int) ≤ (j : Int) := Int.natCast_nonneg _
      have hb256 := b.toNat_lt
      have hand : bits .and .u8 (b.toNat : Int) 15 = (b.toNat : Int) % 16 := by
        rw [show (15 : Int) = ((15 : Nat) : Int) from rfl, u8_and_nat _ _ (by omega) (by omega), show (15 : Nat) = 2 ^ 4 - 1 from rfl, Nat.and_two_pow_sub_one_eq_mod]
        omega
      have HT := hid (show Sha.hex (k.take (j + 1)) = Sha.hex (k.take j) ++ Sha.two b by rw [take_snoc hb, Sha.hex_snoc])
      have hs1 := run_cut (P := Tryd.prog) 9 Tryd.underlying9 (b.toNat / 16) (by omega) ((b.toNat : Int) / 16) (IntKind.u8.wrap ((b.toNat : Int) / 16 + 1)) (by omega) (by rw [IntKind.wrap_u8']; omega)
      have hs2 := run_cut (P := Tryd.prog) 9 Tryd.underlying9 (b.toNat % 16) (by omega) ((b.toNat : Int) % 16) (IntKind.u8.wrap ((b.toNat : Int) % 16 + 1)) (by omega) (by rw [IntKind.wrap_u8']; omega)
      have hs3 := run_cut (P := Tryd.prog) 9 Tryd.underlying9 (b.toNat % 16) (by omega) (bits .and .u8 (b.toNat : Int) 15) (IntKind.u8.wrap (bits .and .u8 (b.toNat : Int) 15 + 1)) (by rw [hand]; omega) (by rw [hand, IntKind.wrap_u8']; omega)
      unfold digs at hs1 hs2 hs3
      have hl1 : (Sha.hex (k.take j)).length = 2 * j := by rw [Sha.hex_length, List.length_take]; omega
      have ha1 := run_snoc (P := Tryd.prog) (Sha.hex (k.take j)) (Sha.dig (b.toNat / 16)) (by omega)
      have ha2 := run_snoc (P := Tryd.prog) (Sha.hex (k.take j) ++ [Sha.dig (b.toNat / 16)]) (Sha.dig (b.toNat % 16)) (by rw [List.length_append, List.length_cons, List.length_nil]; omega)
      clear hb hand hl1
      go_wp2
      go_quiet (fail)
      go_wp2
      exact ⟨⟨j + 1, by omega, by go_num, by rw [HT.out]; rfl, hcalm.drewN _⟩, by simp [intOf]; omega⟩
    · obtain rfl : j = 32 := by omega
      rw [List.take_of_length_le (by omega), show ((32 : Nat) : Int) = 32 from rfl]
      clear hj hlt
      go_wp2
      go_ret
      exact ⟨rfl, hbw⟩
end Go.Proofs.YtaaeciiehoedhaaDoor

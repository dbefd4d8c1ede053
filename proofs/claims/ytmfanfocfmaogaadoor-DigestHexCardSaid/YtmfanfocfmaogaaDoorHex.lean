/-
  DigestHex: for every key, text, place and byte: the digits of a key lead back to it, and there are 64; a text that leads to a key is that key's digits; with one digit replaced the text leads to a key just if the byte is a digit, and then its digits are that text; with a digit less it leads to none. Condition: the package's table of words holds what its initialiser lays (the card ties it to the program's text).
-/
import Derived.Test.YtmfanfocfmaogaaDoorDigH
import Derived.ShutString
import Derived.ChangeMaps5
namespace Go.Proofs.YtmfanfocfmaogaaDoor.digestHex
open Go.ChangeShapes Go.WideShapes Go.ChangeAt Go.RowKit

theorem range_of {w : World} {b : Nat} {l : List Value} {t : TypeId} {fr : Nat × Nat} (h : w.heap[b]? = some (.cells l.toArray t fr)) : w.rangeAt b 0 l := by
  intro j v hv
  simp [World.cell?, h, hv]
theorem range_old {w w' : World} {b o : Nat} {l : List Value} (h : w.rangeAt b o l) (hk : Below w.heap.size w w') : w'.rangeAt b o l := by
  intro j v hv
  have hc := h j v hv
  exact (World.cell?_of_block (w := w) (hk.block _ (World.block_lt_of_cell? w _ hc))).trans hc
theorem fromHex_hex {k : List UInt8} (hk : k.length = 32) : Sha.fromHex (Sha.hex k) = some k := by
  rw [Sha.fromHex, if_pos (by rw [Sha.hex_length, hk]), Sha.unhex_hex]
theorem hex_fromHex {s y : List UInt8} (h : Sha.fromHex s = some y) : Sha.hex y = s ∧ y.length = 32 := by
  unfold Sha.fromHex at h
  split at h
  · rename_i hl
    exact ⟨Sha.hex_unhex _ s y (Nat.le_refl _) h, Sha.unhex_length 32 s y (by rw [hl]) h⟩
  · cases h
theorem fromHex_some {s : List UInt8} (hl : s.length = 64) : (Sha.fromHex s).isSome = s.all Sha.isDig := by
  rw [Sha.fromHex, if_pos hl, Sha.unhex_some 32 s (by rw [hl])]
theorem hex_digits (k : List UInt8) : (Sha.hex k).all Sha.isDig = true := by
  rw [← Sha.unhex_some k.length _ (Sha.hex_length k), Sha.unhex_hex]
  rfl
theorem set_digits {l : List UInt8} {i : Nat} {b : UInt8} (h : l.all Sha.isDig = true) (hi : i < l.length) : (l.set i b).all Sha.isDig = Sha.isDig b := by
  rw [Bool.eq_iff_iff, List.all_eq_true]
  constructor
  · intro h1
    exact h1 b (List.mem_iff_getElem.2 ⟨i, by rw [List.length_set]; exact hi, by simp⟩)
  · intro hb x hx
    rcases List.mem_or_eq_of_mem_set hx with hx | rfl
    · exact List.all_eq_true.1 h x hx
    · exact hb
theorem get_length (o : Option (List UInt8)) (h : ∀ y, o = some y → y.length = 32) : (o.getD (List.replicate 32 0)).length = 32 := by
  cases o with
  | none => simp
  | some y => exact h y rfl

/-- '[]byte(s)'. -/
theorem conv_bytes {P : Program} (w : World) (src dst e : TypeId) (l : List UInt8) (hs : P.underlying src = some .string) (hd : P.underlying dst = some (.slice e)) (he : P.underlying e = some (.int .u8)) :
    ∃ cap C fr w', (convert src dst (.string ⟨l.toArray⟩)).run P w = .ok (.slice (some ⟨w.heap.size, 0, none⟩) l.length cap) w' ∧ w'.heap[w.heap.size]? = some (.cells C e fr) ∧ (∀ (i : Nat) c, l[i]? = some c → C[i]? = some (.int .u8 (UInt8.toNat c : Int))) ∧ l.length ≤ cap ∧
      (∀ i, i < l.length → w'.frozen? ⟨w.heap.size, i, none⟩ = false) ∧ Below w.heap.size w w' := by
  have hr := run_bytes_of_string (P := P) w src dst e ⟨l.toArray⟩ hs hd he
  have hsz : (ByteArray.mk l.toArray).size = l.length := by
    show l.toArray.size = l.length
    simp
  rw [hsz] at hr
  have hge := grownCap_ge w l.length 0 e
  have hg := heap_alloc_new w.drew (.cells (bytesRow ⟨l.toArray⟩ (grownCap w l.length 0 e)) e ((bytesRow ⟨l.toArray⟩ (grownCap w l.length 0 e)).size, (bytesRow ⟨l.toArray⟩ (grownCap w l.length 0 e)).size + 1))
  refine ⟨_, _, _, _, hr, hg, fun i c hc => ?_, hge, fun i hi => ?_, ((Below.refl _ _).drew).alloc (Nat.le_refl _) _⟩
  · have hlt := (List.getElem?_eq_some_iff.1 hc).1
    show (bytesRow ⟨l.toArray⟩ (grownCap w l.length 0 e))[i]? = _
    rw [bytesRow, Array.getElem?_append_left (by simpa using hlt)]
    simp [hc]
  · have hrow : l.length ≤ (bytesRow ⟨l.toArray⟩ (grownCap w l.length 0 e)).size := by
      unfold bytesRow
      rw [Array.size_append]
      simp
    have hg' := hg
    rw [show w.drew.heap.size = w.heap.size from rfl] at hg'
    simp only [World.frozen?, hg']
    simp
    omega
theorem blk_set' {w : World} {b i : Nat} {cs : Array Value} {t : TypeId} {fr : Nat × Nat} {u : Value} (h : w.heap[b]? = some (.cells cs t fr)) : (w.setCell ⟨b, i, none⟩ u).heap[b]? = some (.cells (cs.setIfInBounds i u) t fr) := by
  have hlt := (Array.getElem?_eq_some_iff.1 h).1
  have h' : w.heap[b] = .cells cs t fr := by simpa [Array.getElem?_eq_getElem hlt] using h
  show (w.heap.modify b _)[b]? = _
  rw [Array.getElem?_eq_getElem (by simpa using hlt), Array.getElem_modify_self, h']
  rfl
/-- A byte of such a slice, set. -/
theorem sl_set {w : World} {g cap : Nat} {C : Array Value} {e : TypeId} {fr : Nat × Nat} {l : List UInt8} (h : w.heap[g]? = some (.cells C e fr)) (hC : ∀ (i : Nat) c, l[i]? = some c → C[i]? = some (.int .u8 (UInt8.toNat c : Int))) (hcap : l.length ≤ cap) (n : Nat) (b : UInt8) (hn : n < l.length) :
    Sl (w.setCell ⟨g, n, none⟩ (.int .u8 (b.toNat : Int))) (.slice (some ⟨g, 0, none⟩) l.length cap) (Lib.byteCells (l.set n b)) := by
  have h2 := blk_set' (i := n) (u := .int .u8 (b.toNat : Int)) h
  refine ⟨_, cap, by rw [Lib.byteCells_length, List.length_set], (fun h => by cases h), by rw [Lib.byteCells_length, List.length_set]; exact hcap, fun a ha j u hu => ?_⟩
  cases ha
  rw [Addr.add_lit, Nat.zero_add]
  simp only [World.cell?, h2]
  have hj : j < l.length := by
    have := (List.getElem?_eq_some_iff.1 hu).1
    rwa [Lib.byteCells_length, List.length_set] at this
  have hCn : ∀ i, i < l.length → C[i]? = some (.int .u8 ((l[i]?.getD 0).toNat : Int)) := fun i hi => by
    rw [hC i l[i] (List.getElem?_eq_getElem hi), List.getElem?_eq_getElem hi]
    rfl
  have hs : n < C.size := by
    have := hCn n hn
    exact (Array.getElem?_eq_some_iff.1 this).1
  have hu' : u = .int .u8 (((l.set n b)[j]?.getD 0).toNat : Int) := by
    simp only [Lib.byteCells, List.getElem?_map, Option.map_eq_some_iff] at hu
    obtain ⟨c, hc, rfl⟩ := hu
    rw [hc]
    rfl
  rw [hu', Array.getElem?_setIfInBounds]
  by_cases hnj : n = j
  · subst hnj
    simp [hs, hn]
  · rw [if_neg hnj, hCn j hj, List.getElem?_set_ne hnj]
    rfl

theorem short (k : List UInt8) : Sha.fromHex (((⟨(Sha.hex k).toArray⟩ : ByteArray).extract 1 64).data.toList) = none := by
  have h : ((⟨(Sha.hex k).toArray⟩ : ByteArray).extract 1 64).data.toList.length ≠ 64 := by
    rw [Array.length_toList]
    show ((⟨(Sha.hex k).toArray⟩ : ByteArray).extract 1 64).size ≠ 64
    rw [ByteArray.size_extract]
    omega
  rw [Sha.fromHex, if_neg h]

theorem five (b : UInt8) : (Sha.isDig b = false ∧ decide ((48 : Int) ≤ (b.toNat : Int)) = false ∧ decide ((b.toNat : Int) ≤ 57) = true ∧ decide ((97 : Int) ≤ (b.toNat : Int)) = false ∧ decide ((b.toNat : Int) ≤ 102) = true) ∨
    (Sha.isDig b = true ∧ decide ((48 : Int) ≤ (b.toNat : Int)) = true ∧ decide ((b.toNat : Int) ≤ 57) = true ∧ decide ((97 : Int) ≤ (b.toNat : Int)) = false ∧ decide ((b.toNat : Int) ≤ 102) = true) ∨
    (Sha.isDig b = false ∧ decide ((48 : Int) ≤ (b.toNat : Int)) = true ∧ decide ((b.toNat : Int) ≤ 57) = false ∧ decide ((97 : Int) ≤ (b.toNat : Int)) = false ∧ decide ((b.toNat : Int) ≤ 102) = true) ∨
    (Sha.isDig b = true ∧ decide ((48 : Int) ≤ (b.toNat : Int)) = true ∧ decide ((b.toNat : Int) ≤ 57) = false ∧ decide ((97 : Int) ≤ (b.toNat : Int)) = true ∧ decide ((b.toNat : Int) ≤ 102) = true) ∨
    (Sha.isDig b = false ∧ decide ((48 : Int) ≤ (b.toNat : Int)) = true ∧ decide ((b.toNat : Int) ≤ 57) = false ∧ decide ((97 : Int) ≤ (b.toNat : Int)) = true ∧ decide ((b.toNat : Int) ≤ 102) = false) := by
  have h := b.toNat_lt
  have hc : b.toNat < 48 ∨ (48 ≤ b.toNat ∧ b.toNat ≤ 57) ∨ (57 < b.toNat ∧ b.toNat < 97) ∨ (97 ≤ b.toNat ∧ b.toNat ≤ 102) ∨ 102 < b.toNat := by omega
  rcases hc with h | h | h | h | h
  · exact .inl ⟨by simp [Sha.isDig]; omega, by simp; omega, by simp; omega, by simp; omega, by simp; omega⟩
  · exact .inr (.inl ⟨by simp [Sha.isDig]; omega, by simp; omega, by simp; omega, by simp; omega, by simp; omega⟩)
  · exact .inr (.inr (.inl ⟨by simp [Sha.isDig]; omega, by simp; omega, by simp; omega, by simp; omega, by simp; omega⟩))
  · exact .inr (.inr (.inr (.inl ⟨by simp [Sha.isDig]; omega, by simp; omega, by simp; omega, by simp; omega, by simp; omega⟩)))
  · exact .inr (.inr (.inr (.inr ⟨by simp [Sha.isDig]; omega, by simp; omega, by simp; omega, by simp; omega, by simp; omega⟩)))

set_option maxRecDepth 100000 in
set_option maxHeartbeats 4000000 in
theorem walk_at (k : List UInt8) (S : ByteArray) (x : Int) (b : UInt8) (w : World) (hk : k.length = 32) (ht : Tab w) :
    Calls Tryd.prog 4 #[keyV k, .string S, .int .i64 x, .int .u8 (b.toNat : Int)] w fun e w' => e = .returned (.bool true) ∧ Below w.heap.size w w' := by
  have hb0 : Below w.heap.size w (w.alloc (.cells (Lib.byteCells k).toArray 24)) := (Below.refl _ _).alloc (Nat.le_refl _) _
  have hg0 := heap_alloc_new w (.cells (Lib.byteCells k).toArray 24)
  have hkI := key_info k hk
  by_cases hlong : 200 < S.size
  · have i1 : (200 : Int) < (S.size : Int) := by omega
    have ht0 := ht.old hb0 ht.pos
    unfold keyV
    go_enter Tryd.func4, Tryd.ntmps4
    go_wp2_with fail
    refine (awake_any _ ht0).mono ?_
    rintro e w1 ⟨rfl, hb1⟩
    have hb := below_step hb0 hb1 hb0.size
    go_wp2
    go_ret
    exact ⟨rfl, hb⟩
  · have i1 : (S.size : Int) ≤ 200 := by omega
    obtain ⟨s, hs⟩ : ∃ s, s = S.data.toList := ⟨_, rfl⟩
    unfold keyV
    go_enter Tryd.func4, Tryd.ntmps4
    go_wp2_with (refine wpList_load_row rfl 24 _ rfl w.heap.size rfl _ _ _ _ hg0 Tryd.underlying24 rfl hkI ?_)
    refine (Hex_any k hk _).mono ?_
    rintro e w1 ⟨rfl, hb1'⟩
    have hb1 := below_step hb0 hb1' hb0.size
    have hg1 := (hb1'.block w.heap.size (by simp)).trans hg0
    have hz1 := hb1'.size
    rw [World.size_alloc] at hz1
    clear hb1' hb0 hg0
    go_wp2_with fail
    refine (FromHex_any _ (Sha.hex k) (by rfl) w1).mono ?_
    rw [fromHex_hex hk]
    rintro e w2 ⟨rfl, hb2'⟩
    have hb2 := below_step hb1 hb2' hb1.size
    have hg2 := (hb2'.block w.heap.size (by omega)).trans hg1
    have hz2 := hb2'.size
    clear hb2' hb1 hg1
    unfold keyV
    go_wp2_with (refine wpList_store_all rfl 24 _ _ rfl w2.heap.size _ rfl rfl _ _ (heap_alloc_new w2 _) 32 Tryd.sizeKey (key_size k hk) rfl (key_one k) ?_; intro w3 hx3 hk3)
    have hz3 := hk3.size
    rw [World.size_alloc] at hz3
    have hb3 : Below w.heap.size w w3 := (hb2.alloc (by omega) _).trans (hk3.below (by simp; omega) fun k hk => by show ¬ k = _; omega)
    have hg3 := (hk3.block w.heap.size (by simp; omega) (by show ¬ _ = w2.heap.size; omega)).trans ((heap_alloc_old w2 _ (by omega)).trans hg2)
    clear hk3 hb2 hg2
    refine (FromHex_any S s hs.symm w3).mono ?_
    obtain ⟨y, has, hyl, hyh, hyo⟩ : ∃ y has, y.length = 32 ∧ ((Sha.fromHex s).isSome = has) ∧ y = (Sha.fromHex s).getD (List.replicate 32 0) :=
      ⟨_, _, get_length _ (fun y h => (hex_fromHex h).2), rfl, rfl⟩
    have hyx : has = true → Sha.hex y = S.data.toList := by
      intro h
      rw [h] at hyh
      obtain ⟨z, hz⟩ := Option.isSome_iff_exists.1 hyh
      rw [hyo, hz, Option.getD_some, (hex_fromHex hz).1, hs]
    rw [hyh, ← hyo]
    have HYX := hid hyx
    clear hyx hyh hyo hs
    rintro e w4 ⟨rfl, hb4'⟩
    have hb4 := below_step hb3 hb4' hb3.size
    have hg4 := (hb4'.block w.heap.size (by omega)).trans hg3
    have hx4 := (hb4'.block w2.heap.size (by omega)).trans hx3
    have hz4 := hb4'.size
    clear hb4' hb3 hg3 hx3
    unfold keyV
    go_wp2_with (refine wpList_store_all rfl 24 _ _ rfl w4.heap.size _ rfl rfl _ _ (heap_alloc_new w4 _) 32 Tryd.sizeKey (key_size y hyl) rfl (key_one y) ?_; intro w5 hy5 hk5)
    have hz5 := hk5.size
    rw [World.size_alloc] at hz5
    have hb5 : Below w.heap.size w w5 := (hb4.alloc (by omega) _).trans (hk5.below (by simp; omega) fun k hk => by show ¬ k = _; omega)
    have hg5 := (hk5.block w.heap.size (by simp; omega) (by show ¬ _ = w4.heap.size; omega)).trans ((heap_alloc_old w4 _ (by omega)).trans hg4)
    have hx5 := (hk5.block w2.heap.size (by simp; omega) (by show ¬ _ = w4.heap.size; omega)).trans ((heap_alloc_old w4 _ (by omega)).trans hx4)
    clear hk5 hb4 hg4 hx4
    refine (awake_any w5 (ht.old hb5 ht.pos)).mono ?_
    rintro e w6 ⟨rfl, hb6'⟩
    have hb6 := below_step hb5 hb6' hb5.size
    have hg6 := (hb6'.block w.heap.size (by omega)).trans hg5
    have hx6 := (hb6'.block w2.heap.size (by omega)).trans hx5
    have hy6 := (hb6'.block w4.heap.size (by omega)).trans hy5
    have hz6 := hb6'.size
    clear hb6' hb5 hg5 hx5 hy5
    obtain ⟨i0, hi0, hi1, hi2, hi3⟩ := info_parts Tryd.info5
    have hne := run_eq_key Tryd.underlying24 Tryd.underlying5 hi0 cellsU8 k k hk hk
    rw [show (k == k) = true by simp] at hne
    have hl64 : (Sha.hex k).length = 64 := by rw [Sha.hex_length, hk]
    have hyI := key_info y hyl
    obtain ⟨n, hn, hn64⟩ : ∃ n : Nat, x % 64 = (n : Int) ∧ n < 64 := ⟨(x % 64).toNat, by omega, by omega⟩
    have hn2 : wrap64 ((IntKind.u64.wrap x).tmod 64) = (n : Int) := by
      rw [IntKind.wrap_u64, Int.tmod_eq_emod_of_nonneg (by omega), show x % 18446744073709551616 % 64 = (n : Int) by omega]
      unfold wrap64
      omega
    obtain ⟨t, htt⟩ : ∃ t, t = (Sha.hex k).set n b := ⟨_, rfl⟩
    have htl : t.length = 64 := by rw [htt, List.length_set, hl64]
    have hconv : ∀ wz : World, ∃ cap wc, (convert 9 22 (.string ⟨(Sha.hex k).toArray⟩)).run Tryd.prog wz = .ok (.slice (some ⟨wz.heap.size, 0, none⟩) 64 cap) wc ∧ 64 ≤ cap ∧ (∃ c0, wc.cell? ⟨wz.heap.size, n, none⟩ = some c0) ∧ wc.frozen? ⟨wz.heap.size, n, none⟩ = false ∧
        Sl (wc.setCell ⟨wz.heap.size, n, none⟩ (.int .u8 (b.toNat : Int))) (.slice (some ⟨wz.heap.size, 0, none⟩) 64 cap) (Lib.byteCells t) ∧ Below wz.heap.size wz wc ∧ wz.heap.size < wc.heap.size := by
      intro wz
      obtain ⟨cap, C, fr, wc, hcv, hgc, hC, hcap, hfc, hbc⟩ := conv_bytes (P := Tryd.prog) wz 9 22 5 (Sha.hex k) Tryd.underlying9 Tryd.underlying22 Tryd.underlying5
      have hsl := sl_set hgc hC hcap n b (by rw [hl64]; exact hn64)
      rw [hl64] at hcv hcap hsl
      rw [← htt] at hsl
      refine ⟨cap, wc, hcv, hcap, ?_, hfc n (by rw [hl64]; exact hn64), hsl, hbc, (Array.getElem?_eq_some_iff.1 hgc).1⟩
      exact ⟨_, (show wc.cell? ⟨wz.heap.size, n, none⟩ = _ by simp only [World.cell?, hgc]; exact hC n _ (List.getElem?_eq_getElem (by rw [hl64]; exact hn64)))⟩
    have HTT := hid htt
    clear htt
    have i3 : (n : Int) < 64 := by omega
    have i4 : (0 : Int) ≤ (n : Int) := Int.natCast_nonneg _
    cases has
    case false =>
      obtain ⟨cap, wc, hcv, hcap, ⟨c0, hc0⟩, hf0, hsl, hbc, hzc⟩ := hconv w6
      have hback := run_string_of (P := Tryd.prog) 22 9 5 Tryd.underlying22 Tryd.underlying5 Tryd.underlying9 hsl
      have hbt := (below_step hb6 hbc hb6.size).setCell (p := ⟨w6.heap.size, n, none⟩) (by show _ ≤ w6.heap.size; exact hb6.size) (.int .u8 (b.toNat : Int))
      clear hconv hbc hzc
      go_wp2_with (refine wpList_load_g (by rfl) 24 _ rfl _ rfl _ _ _ _ (by assumption) Tryd.underlying24 rfl hkI ?_)
      clear hg6 hx6 hy6 hz6 hb6
      obtain ⟨wt, hwt⟩ : ∃ wt, wt = wc.setCell ⟨w6.heap.size, n, none⟩ (.int .u8 (b.toNat : Int)) := ⟨_, rfl⟩
      rw [← hwt] at hsl hbt ⊢
      obtain ⟨g, hg⟩ : ∃ g, g = w6.heap.size := ⟨_, rfl⟩
      rw [← hg] at hsl ⊢
      clear hwt hg hback hcv hc0 hf0
      refine (FromHex_any ⟨t.toArray⟩ t (by simp) wt).mono ?_
      obtain ⟨z, d, hzl, hzd, hzo⟩ : ∃ z d, z.length = 32 ∧ (Sha.fromHex t).isSome = d ∧ z = (Sha.fromHex t).getD (List.replicate 32 0) := ⟨_, _, get_length _ (fun y h => (hex_fromHex h).2), rfl, rfl⟩
      have hd : d = Sha.isDig b := by rw [← hzd, fromHex_some htl, HTT.out, set_digits (hex_digits k) (by rw [hl64]; exact hn64)]
      have hzx : d = true → Sha.hex z = t := by
        intro h
        rw [h] at hzd
        obtain ⟨y, hy⟩ := Option.isSome_iff_exists.1 hzd
        rw [hzo, hy, Option.getD_some, (hex_fromHex hy).1]
      rw [hzd, ← hzo]
      have HZX := hid hzx
      clear hzx hzd hzo
      rintro e w8 ⟨rfl, hb8'⟩
      have hb8 := below_step hbt hb8' hbt.size
      have hs8 := hsl.old hb8'
      clear hb8' hbt hsl
      unfold keyV
      have key : (d = false ∧ decide ((48 : Int) ≤ (b.toNat : Int)) = false ∧ decide ((b.toNat : Int) ≤ 57) = true ∧ decide ((97 : Int) ≤ (b.toNat : Int)) = false ∧ decide ((b.toNat : Int) ≤ 102) = true) ∨
          (d = true ∧ decide ((48 : Int) ≤ (b.toNat : Int)) = true ∧ decide ((b.toNat : Int) ≤ 57) = true ∧ decide ((97 : Int) ≤ (b.toNat : Int)) = false ∧ decide ((b.toNat : Int) ≤ 102) = true) ∨
          (d = false ∧ decide ((48 : Int) ≤ (b.toNat : Int)) = true ∧ decide ((b.toNat : Int) ≤ 57) = false ∧ decide ((97 : Int) ≤ (b.toNat : Int)) = false ∧ decide ((b.toNat : Int) ≤ 102) = true) ∨
          (d = true ∧ decide ((48 : Int) ≤ (b.toNat : Int)) = true ∧ decide ((b.toNat : Int) ≤ 57) = false ∧ decide ((97 : Int) ≤ (b.toNat : Int)) = true ∧ decide ((b.toNat : Int) ≤ 102) = true) ∨
          (d = false ∧ decide ((48 : Int) ≤ (b.toNat : Int)) = true ∧ decide ((b.toNat : Int) ≤ 57) = false ∧ decide ((97 : Int) ≤ (b.toNat : Int)) = true ∧ decide ((b.toNat : Int) ≤ 102) = false) := by
        rw [hd]
        exact five b
      clear hd
      rcases key with ⟨rfl, e1, e2, e3, e4⟩ | ⟨rfl, e1, e2, e3, e4⟩ | ⟨rfl, e1, e2, e3, e4⟩ | ⟨rfl, e1, e2, e3, e4⟩ | ⟨rfl, e1, e2, e3, e4⟩
      all_goals
        go_wp2_with (refine wpList_store_all rfl 24 _ _ rfl w8.heap.size _ rfl rfl _ _ (heap_alloc_new w8 _) 32 Tryd.sizeKey (key_size z hzl) rfl (key_one z) ?_; intro w9 hz9 hk9)
        have hz9' := hk9.size
        rw [World.size_alloc] at hz9'
        have hb9 : Below w.heap.size w w9 := (hb8.alloc hb8.size _).trans (hk9.below (by have := hb8.size; simp; omega) fun k hk => by have := hb8.size; show ¬ k = _; omega)
        have hs9 : Sl w9 _ _ := (hs8.alloc _).kept fun a n c e hlt' => hk9.block _ hlt' (by
          cases e
          have hlt2 := hs8.lt (i := 0) (by rw [Lib.byteCells_length]; omega)
          show ¬ _ = w8.heap.size
          omega)
        clear hk9 hb8 hs8
        refine (FromHex_any _ _ rfl w9).mono ?_
        rw [short k]
        rintro e w10 ⟨rfl, hb10'⟩
        have hb10 := below_step hb9 hb10' hb9.size
        have hs10 := hs9.old hb10'
        have hz10 := (hb10'.block w8.heap.size (lt_of_block hz9)).trans hz9
        have hz10' := hb10'.size
        clear hb10' hb9 hs9
        unfold keyV
        go_wp2_with (refine wpList_store_all rfl 24 _ _ rfl w10.heap.size _ rfl rfl _ _ (heap_alloc_new w10 _) 32 Tryd.sizeKey (key_size _ (get_length none (fun _ h => by cases h))) rfl (key_one _) ?_; intro w11 hh11 hk11)
        have hlt10 := lt_of_block hz10
        have hb11 : Below w.heap.size w w11 := (hb10.alloc hb10.size _).trans (hk11.below (by have := hb10.size; simp; omega) fun k hk => by have := hb10.size; show ¬ k = _; omega)
        have hz11 := (hk11.block w8.heap.size (by simp; omega) (by show ¬ _ = w10.heap.size; omega)).trans ((heap_alloc_old w10 _ hlt10).trans hz10)
        have hs11 : Sl w11 _ _ := (hs10.alloc _).kept fun a n c e hlt' => hk11.block _ hlt' (by
          cases e
          have hlt2 := hs10.lt (i := 0) (by rw [Lib.byteCells_length]; omega)
          show ¬ _ = w10.heap.size
          omega)
        clear hh11 hk11 hb10 hs10 hz10 hz9
        obtain ⟨C, hC⟩ : ∃ C : World → Prop, C = fun wy => wy.rangeAt w8.heap.size 0 (Lib.byteCells z) ∧ Sl wy (.slice (some ⟨g, 0, none⟩) 64 cap) (Lib.byteCells t) ∧ Below w.heap.size w wy := ⟨_, rfl⟩
        have hC0 : C w11.drew := by
          rw [hC]
          exact ⟨range_of (w := w11) hz11, hs11.old ⟨rfl, rfl, rfl, Nat.le_refl _, fun _ _ => rfl⟩, hb11.drew⟩
        have HCZ := hid (show ∀ wy, C wy → wy.rangeAt w8.heap.size 0 (Lib.byteCells z) by rw [hC]; exact fun _ h => h.1)
        have HCV := hid (show ∀ wy, C wy → (convert 22 9 (.slice (some ⟨g, 0, none⟩) 64 cap)).run Tryd.prog wy = .ok (.string ⟨t.toArray⟩) wy by
          rw [hC]
          exact fun _ h => run_string_of (P := Tryd.prog) 22 9 5 Tryd.underlying22 Tryd.underlying5 Tryd.underlying9 h.2.1)
        have HCW := hid (show ∀ wy, C wy → Below w.heap.size w wy by rw [hC]; exact fun _ h => h.2.2)
        have HCH := hid (show Sha.hex z = t → ∀ wy, C wy → Calls Tryd.prog 11 #[.agg (Lib.byteCells z).toArray] wy fun e w' => e = .returned (.string ⟨t.toArray⟩) ∧ C w' by
          intro hz
          rw [hC, ← hz]
          exact fun wy h => (Hex_any z hzl wy).mono fun e w' ⟨h1, h2⟩ => ⟨h1, range_old h.1 h2, hz ▸ h.2.1.old h2, below_step h.2.2 h2 h.2.2.size⟩)
        have HIZ := hid (show (Tryd.prog.info? 24).map (·.size) = some (Lib.byteCells z).length by rw [Lib.byteCells_length, hzl, Tryd.sizeKey])
        clear hC hz11 hs11 hb11 e1 e2 e3 e4
        refine quiet_region C (by kernel_rfl) (by kernel_rfl) hC0 ?_
        clear hC0
        repeat (first
          | go_big_quiet_skip
          | (go_big_quiet_want; first
            | (refine quiet_load 24 _ rfl w8.heap.size 0 rfl _ _ HCZ.out Tryd.underlying24 rfl HIZ.out ?_; simp only [Act.put, List.setIfInBounds_toArray, List.set_cons_zero, List.set_cons_succ]; go_big_quiet_on)
            | (refine quiet_convert 22 9 _ rfl _ _ rfl HCV.out ?_; simp only [Act.put, List.setIfInBounds_toArray, List.set_cons_zero, List.set_cons_succ]; go_big_quiet_on)
            | (go_big_quiet_op; first
              | go_big_quiet_on
              | (apply Exists.intro; with_reducible refine ⟨fun _ _ => rfl, ?_⟩; go_big_quiet_on)
              | (apply Exists.intro
                 refine ⟨fun wy hy => ?_, ?_⟩
                 · (with_reducible exact HCH.out (HZX.out (by simp)) wy hy)
                 go_big_quiet_on))))
        refine wpQuiet_nil ?_
        intro w12 hC12
        have hbw := HCW.out w12 hC12
        go_wp2
        go_ret
        exact ⟨rfl, hbw⟩
    case true =>
      go_wp2_with (first
        | refine wpList_load_g (by rfl) 24 _ rfl _ rfl _ _ _ _ hg6 Tryd.underlying24 rfl hkI ?_
        | refine wpList_load_g (by rfl) 24 _ rfl _ rfl _ _ _ _ hx6 Tryd.underlying24 rfl hkI ?_
        | refine wpList_load_g (by rfl) 24 _ rfl _ rfl _ _ _ _ hy6 Tryd.underlying24 rfl hyI ?_)
      refine (Hex_any y hyl w6).mono ?_
      rw [HYX.out (by simp), show (⟨S.data.toList.toArray⟩ : ByteArray) = S from by simp]
      rintro e w7 ⟨rfl, hb7'⟩
      have hb7 := below_step hb6 hb7' hb6.size
      clear hb7' hg6 hx6 hy6 hz6 hb6
      obtain ⟨cap, wc, hcv, hcap, ⟨c0, hc0⟩, hf0, hsl, hbc, hzc⟩ := hconv w7
      have hback := run_string_of (P := Tryd.prog) 22 9 5 Tryd.underlying22 Tryd.underlying5 Tryd.underlying9 hsl
      have hbt := (below_step hb7 hbc hb7.size).setCell (p := ⟨w7.heap.size, n, none⟩) (by show _ ≤ w7.heap.size; exact hb7.size) (.int .u8 (b.toNat : Int))
      clear hconv hbc hzc
      go_wp2_with fail
      clear hb7
      obtain ⟨wt, hwt⟩ : ∃ wt, wt = wc.setCell ⟨w7.heap.size, n, none⟩ (.int .u8 (b.toNat : Int)) := ⟨_, rfl⟩
      rw [← hwt] at hsl hbt ⊢
      obtain ⟨g, hg⟩ : ∃ g, g = w7.heap.size := ⟨_, rfl⟩
      rw [← hg] at hsl ⊢
      clear hwt hg hback hcv hc0 hf0
      refine (FromHex_any ⟨t.toArray⟩ t (by simp) wt).mono ?_
      obtain ⟨z, d, hzl, hzd, hzo⟩ : ∃ z d, z.length = 32 ∧ (Sha.fromHex t).isSome = d ∧ z = (Sha.fromHex t).getD (List.replicate 32 0) := ⟨_, _, get_length _ (fun y h => (hex_fromHex h).2), rfl, rfl⟩
      have hd : d = Sha.isDig b := by rw [← hzd, fromHex_some htl, HTT.out, set_digits (hex_digits k) (by rw [hl64]; exact hn64)]
      have hzx : d = true → Sha.hex z = t := by
        intro h
        rw [h] at hzd
        obtain ⟨y, hy⟩ := Option.isSome_iff_exists.1 hzd
        rw [hzo, hy, Option.getD_some, (hex_fromHex hy).1]
      rw [hzd, ← hzo]
      have HZX := hid hzx
      clear hzx hzd hzo
      rintro e w8 ⟨rfl, hb8'⟩
      have hb8 := below_step hbt hb8' hbt.size
      have hs8 := hsl.old hb8'
      clear hb8' hbt hsl
      unfold keyV
      have key : (d = false ∧ decide ((48 : Int) ≤ (b.toNat : Int)) = false ∧ decide ((b.toNat : Int) ≤ 57) = true ∧ decide ((97 : Int) ≤ (b.toNat : Int)) = false ∧ decide ((b.toNat : Int) ≤ 102) = true) ∨
          (d = true ∧ decide ((48 : Int) ≤ (b.toNat : Int)) = true ∧ decide ((b.toNat : Int) ≤ 57) = true ∧ decide ((97 : Int) ≤ (b.toNat : Int)) = false ∧ decide ((b.toNat : Int) ≤ 102) = true) ∨
          (d = false ∧ decide ((48 : Int) ≤ (b.toNat : Int)) = true ∧ decide ((b.toNat : Int) ≤ 57) = false ∧ decide ((97 : Int) ≤ (b.toNat : Int)) = false ∧ decide ((b.toNat : Int) ≤ 102) = true) ∨
          (d = true ∧ decide ((48 : Int) ≤ (b.toNat : Int)) = true ∧ decide ((b.toNat : Int) ≤ 57) = false ∧ decide ((97 : Int) ≤ (b.toNat : Int)) = true ∧ decide ((b.toNat : Int) ≤ 102) = true) ∨
          (d = false ∧ decide ((48 : Int) ≤ (b.toNat : Int)) = true ∧ decide ((b.toNat : Int) ≤ 57) = false ∧ decide ((97 : Int) ≤ (b.toNat : Int)) = true ∧ decide ((b.toNat : Int) ≤ 102) = false) := by
        rw [hd]
        exact five b
      clear hd
      rcases key with ⟨rfl, e1, e2, e3, e4⟩ | ⟨rfl, e1, e2, e3, e4⟩ | ⟨rfl, e1, e2, e3, e4⟩ | ⟨rfl, e1, e2, e3, e4⟩ | ⟨rfl, e1, e2, e3, e4⟩
      all_goals
        go_wp2_with (refine wpList_store_all rfl 24 _ _ rfl w8.heap.size _ rfl rfl _ _ (heap_alloc_new w8 _) 32 Tryd.sizeKey (key_size z hzl) rfl (key_one z) ?_; intro w9 hz9 hk9)
        have hz9' := hk9.size
        rw [World.size_alloc] at hz9'
        have hb9 : Below w.heap.size w w9 := (hb8.alloc hb8.size _).trans (hk9.below (by have := hb8.size; simp; omega) fun k hk => by have := hb8.size; show ¬ k = _; omega)
        have hs9 : Sl w9 _ _ := (hs8.alloc _).kept fun a n c e hlt' => hk9.block _ hlt' (by
          cases e
          have hlt2 := hs8.lt (i := 0) (by rw [Lib.byteCells_length]; omega)
          show ¬ _ = w8.heap.size
          omega)
        clear hk9 hb8 hs8
        refine (FromHex_any _ _ rfl w9).mono ?_
        rw [short k]
        rintro e w10 ⟨rfl, hb10'⟩
        have hb10 := below_step hb9 hb10' hb9.size
        have hs10 := hs9.old hb10'
        have hz10 := (hb10'.block w8.heap.size (lt_of_block hz9)).trans hz9
        have hz10' := hb10'.size
        clear hb10' hb9 hs9
        unfold keyV
        go_wp2_with (refine wpList_store_all rfl 24 _ _ rfl w10.heap.size _ rfl rfl _ _ (heap_alloc_new w10 _) 32 Tryd.sizeKey (key_size _ (get_length none (fun _ h => by cases h))) rfl (key_one _) ?_; intro w11 hh11 hk11)
        have hlt10 := lt_of_block hz10
        have hb11 : Below w.heap.size w w11 := (hb10.alloc hb10.size _).trans (hk11.below (by have := hb10.size; simp; omega) fun k hk => by have := hb10.size; show ¬ k = _; omega)
        have hz11 := (hk11.block w8.heap.size (by simp; omega) (by show ¬ _ = w10.heap.size; omega)).trans ((heap_alloc_old w10 _ hlt10).trans hz10)
        have hs11 : Sl w11 _ _ := (hs10.alloc _).kept fun a n c e hlt' => hk11.block _ hlt' (by
          cases e
          have hlt2 := hs10.lt (i := 0) (by rw [Lib.byteCells_length]; omega)
          show ¬ _ = w10.heap.size
          omega)
        clear hh11 hk11 hb10 hs10 hz10 hz9
        obtain ⟨C, hC⟩ : ∃ C : World → Prop, C = fun wy => wy.rangeAt w8.heap.size 0 (Lib.byteCells z) ∧ Sl wy (.slice (some ⟨g, 0, none⟩) 64 cap) (Lib.byteCells t) ∧ Below w.heap.size w wy := ⟨_, rfl⟩
        have hC0 : C w11.drew := by
          rw [hC]
          exact ⟨range_of (w := w11) hz11, hs11.old ⟨rfl, rfl, rfl, Nat.le_refl _, fun _ _ => rfl⟩, hb11.drew⟩
        have HCZ := hid (show ∀ wy, C wy → wy.rangeAt w8.heap.size 0 (Lib.byteCells z) by rw [hC]; exact fun _ h => h.1)
        have HCV := hid (show ∀ wy, C wy → (convert 22 9 (.slice (some ⟨g, 0, none⟩) 64 cap)).run Tryd.prog wy = .ok (.string ⟨t.toArray⟩) wy by
          rw [hC]
          exact fun _ h => run_string_of (P := Tryd.prog) 22 9 5 Tryd.underlying22 Tryd.underlying5 Tryd.underlying9 h.2.1)
        have HCW := hid (show ∀ wy, C wy → Below w.heap.size w wy by rw [hC]; exact fun _ h => h.2.2)
        have HCH := hid (show Sha.hex z = t → ∀ wy, C wy → Calls Tryd.prog 11 #[.agg (Lib.byteCells z).toArray] wy fun e w' => e = .returned (.string ⟨t.toArray⟩) ∧ C w' by
          intro hz
          rw [hC, ← hz]
          exact fun wy h => (Hex_any z hzl wy).mono fun e w' ⟨h1, h2⟩ => ⟨h1, range_old h.1 h2, hz ▸ h.2.1.old h2, below_step h.2.2 h2 h.2.2.size⟩)
        have HIZ := hid (show (Tryd.prog.info? 24).map (·.size) = some (Lib.byteCells z).length by rw [Lib.byteCells_length, hzl, Tryd.sizeKey])
        clear hC hz11 hs11 hb11 e1 e2 e3 e4
        refine quiet_region C (by kernel_rfl) (by kernel_rfl) hC0 ?_
        clear hC0
        repeat (first
          | go_big_quiet_skip
          | (go_big_quiet_want; first
            | (refine quiet_load 24 _ rfl w8.heap.size 0 rfl _ _ HCZ.out Tryd.underlying24 rfl HIZ.out ?_; simp only [Act.put, List.setIfInBounds_toArray, List.set_cons_zero, List.set_cons_succ]; go_big_quiet_on)
            | (refine quiet_convert 22 9 _ rfl _ _ rfl HCV.out ?_; simp only [Act.put, List.setIfInBounds_toArray, List.set_cons_zero, List.set_cons_succ]; go_big_quiet_on)
            | (go_big_quiet_op; first
              | go_big_quiet_on
              | (apply Exists.intro; with_reducible refine ⟨fun _ _ => rfl, ?_⟩; go_big_quiet_on)
              | (apply Exists.intro
                 refine ⟨fun wy hy => ?_, ?_⟩
                 · (with_reducible exact HCH.out (HZX.out (by simp)) wy hy)
                 go_big_quiet_on))))
        refine wpQuiet_nil ?_
        intro w12 hC12
        have hbw := HCW.out w12 hC12
        go_wp2
        go_ret
        exact ⟨rfl, hbw⟩

theorem walk (k : List UInt8) (S : ByteArray) (x y : Int) (w : World) (hk : k.length = 32) (_ : S.size ≤ maxLen) (_ : (Lit.int .i64 x).wf = true) (hy : (Lit.int .u8 y).wf = true) (ht : Tab w) :
    Calls Tryd.prog 4 #[keyV k, .string S, .int .i64 x, .int .u8 y] w fun e w' => e = .returned (.bool true) ∧ Below w.heap.size w w' := by
  have hb := bounds_u8 hy
  obtain ⟨b, rfl⟩ : ∃ b : UInt8, y = (b.toNat : Int) := ⟨UInt8.ofNat y.toNat, by simp; omega⟩
  exact walk_at k S x b w hk ht

theorem own : ownKnob Tryd.prog.godebug = none := by kernel_rfl
theorem laidOut : laidOutB Tryd.prog = true := by kernel_rfl
theorem laid_met (os : Os) : laidMet Tryd.prog Rows.digestHexRow.laid ((laidWorld os).forCall (fun _ _ => 0) ⟨#[], #[key0, .string ByteArray.empty, .int .i64 0, .int .u8 0], []⟩).memory :=
  laidMet_of_run' 8 (by kernel_rfl) (by kernel_rfl)
theorem reads (os : Os) {H : Type} (enc : TypeId × Value → H) : ∃ places, DataW.whole enc Tryd.prog ((laidWorld os).forCall (fun _ _ => 0) ⟨#[], #[key0, .string ByteArray.empty, .int .i64 0, .int .u8 0], []⟩).memory Tryd.f4.params.toList Rows.digestHexSpec.vars false (#[key0, .string ByteArray.empty, .int .i64 0, .int .u8 0] : Array Value).toList 8 = some ([.agg (List.replicate 32 (.lit (.int .u8 0))), .lit (.string []), .lit (.int .i64 0), .lit (.int .u8 0)], [], places) :=
  ⟨[], by kernel_rfl⟩

theorem contract (H : Type) (enc : TypeId × Value → H) (W : World) (base : Nat) (args : Array Value) (ds gs : List (DataW H)) (before : List MemPlace)
    (hval : ∀ (j : Nat) t v, Tryd.f4.params[j]? = some t → args[j]? = some v → Value.okWide Tryd.prog W .any base t v)
    (hW : DataW.Whole enc Tryd.prog Tryd.f4.params.toList Rows.digestHexSpec.vars false W args.toList ds gs before) (hL : laidMetH Tryd.prog Rows.digestHexRow.laid W) :
    Calls Tryd.prog 4 args W fun e W' => ∃ v, e = .returned v ∧ Rows.digestHexSpec.post enc Tryd.prog Tryd.f4 false true false false W args v W' := by
  have hW' := hW
  obtain ⟨p, q, hA0, hV, rfl, hfz, hnd⟩ := hW
  have hA : DataW.TrodAll enc Tryd.prog W 0 (fun _ => true) true Tryd.f4.params.toList args.toList ds p := hA0
  rw [Tryd.params4] at hA hval
  obtain ⟨v0, vs0, d0, ds0, p0, q0, hargs, rfl, rfl, h0, r0⟩ := trodAll_cons hA
  obtain ⟨v1, vs1, d1, ds1, p1, q1, rfl, rfl, rfl, h1, r1⟩ := trodAll_cons r0
  obtain ⟨v2, vs2, d2, ds2, p2, q2, rfl, rfl, rfl, h2, r2⟩ := trodAll_cons r1
  obtain ⟨v3, vs3, d3, ds3, p3, q3, rfl, rfl, rfl, h3, r3⟩ := trodAll_cons r2
  obtain ⟨rfl, rfl, rfl⟩ := trodAll_nil r3
  obtain rfl : args = #[v0, v1, v2, v3] := by cases args; simp_all
  obtain ⟨rfl, rfl⟩ := trodVars_none hV
  have k0 := h0
  have lt0 : ∀ x ∈ p0, x.block < W.heap.size := by obtain ⟨m, hm⟩ := k0; exact DataW.trod_lt m _ _ _ hm
  obtain ⟨a0, rfl, w0⟩ := open_key Tryd.underlying24 Tryd.underlying5 cellsU8 cellsKey (hval 0 24 v0 rfl rfl) h0
  have k1 := h1
  have lt1 : ∀ x ∈ p1, x.block < W.heap.size := by obtain ⟨m, hm⟩ := k1; exact DataW.trod_lt m _ _ _ hm
  obtain ⟨a1, rfl, _, _, w1⟩ := Go.ChangeMaps.open_string Tryd.underlying9 (hval 1 9 v1 rfl rfl) h1
  have k2 := h2
  have lt2 : ∀ x ∈ p2, x.block < W.heap.size := by obtain ⟨m, hm⟩ := k2; exact DataW.trod_lt m _ _ _ hm
  obtain ⟨a2, rfl, _, _, w2⟩ := open_int Tryd.underlying3 (hval 2 3 v2 rfl rfl) h2
  have k3 := h3
  have lt3 : ∀ x ∈ p3, x.block < W.heap.size := by obtain ⟨m, hm⟩ := k3; exact DataW.trod_lt m _ _ _ hm
  obtain ⟨a3, rfl, _, _, w3⟩ := open_int Tryd.underlying5 (hval 3 5 v3 rfl rfl) h3
  clear hA0
  refine (walk a0 a1 a2 a3 W w0 w1 w2 w3 (Tab_of hL)).mono fun e W' ⟨he, bel⟩ => ?_
  subst he
  exact ⟨_, rfl, _, _, _, [], _, [], hW', trodAll_mk1 (shut_bool Tryd.underlying4 _), (trodAll_cons_mk (Below.trod laidOut (by kernel_rfl) (of_decide_eq_true (by kernel_rfl)) k0 bel lt0) (trodAll_cons_mk (Below.trod laidOut (by kernel_rfl) (of_decide_eq_true (by kernel_rfl)) k1 bel lt1) (trodAll_cons_mk (Below.trod laidOut (by kernel_rfl) (of_decide_eq_true (by kernel_rfl)) k2 bel lt2) (trodAll_cons_mk (Below.trod laidOut (by kernel_rfl) (of_decide_eq_true (by kernel_rfl)) k3 bel lt3) trodAll_mk0)))), rfl, bel.frame _, fun h => by cases h⟩

set_option maxRecDepth 100000 in
theorem lifted (os : Os) (started : os.Started) (H : Type) (enc : TypeId × Value → H) (F : Stop.Interp) :
    ReturnsInHanded {} Tryd.checked os 4 .any ((OpenSpec.ofChange Rows.digestHexSpec).preRow enc Tryd.prog Tryd.f4 Rows.digestHexRow.domain false Rows.digestHexRow.laid) (((OpenSpec.ofChange Rows.digestHexSpec).at F).post enc Tryd.prog Tryd.f4 false true false false) := by
  obtain ⟨places, hx⟩ := reads os enc
  refine returnsInHanded_of_row (C := Tryd.checked) (s := OpenSpec.ofChange Rows.digestHexSpec) own started (by kernel_rfl) Tryd.func4
    (witness_row_at (enc := enc) (C := Tryd.checked) false (laidWorld os) #[key0, .string ByteArray.empty, .int .i64 0, .int .u8 0] rfl (by kernel_rfl) (by kernel_rfl) (by kernel_rfl)
      (OpenSpec.preRow_of_cond 8 hx (by kernel_rfl) (fun k hk => by cases hk) (by kernel_rfl) (laid_met os))) ?_
  intro W base args ds gs before hval hW _ _ _ hL _ _
  exact contract H enc W base args ds gs before hval hW hL

theorem said : Rows.DigestHexSaid :=
  OpenClaim.holds_of_cond 4 Tryd.f4 rfl rfl rfl rfl rfl rfl rfl ⟨rfl, rfl, rfl, rfl, rfl⟩ rfl rfl rfl rfl rfl (by kernel_rfl) Tryd.func4 (by kernel_rfl)
    (of_decide_eq_true (by kernel_rfl)) (by unfold Func.isWrapper; first | (rw [if_pos (by decide +kernel)]; kernel_rfl) | (rw [if_neg (by decide +kernel)]; exact ⟨rfl, rfl⟩))
    (fun os started H enc _ F => by rw [OpenClaim.pre_eq_preRow]; exact lifted os started H enc F)

theorem plain (f : FuncId) (fn : Func) (hf : Tryd.pinned.checked.prog.funcNamed "rick/ricklaw02.DigestHex" = some f) (hfn : Tryd.pinned.checked.prog.funcs[f]? = some fn) :
    false = Tryd.pinned.checked.prog.looks [] ∧ ∀ (j : Nat) t, fn.params[j]? = some t → Tryd.pinned.checked.prog.wantsStandIn t = false := by
  obtain rfl : f = 4 := Option.some.inj ((show Tryd.prog.funcNamed "rick/ricklaw02.DigestHex" = some 4 by kernel_rfl).symm.trans hf) |>.symm
  obtain rfl : fn = Tryd.f4 := (Option.some.inj (Tryd.func4.symm.trans hfn)).symm
  refine ⟨by kernel_rfl, fun j t ht => ?_⟩
  rw [Tryd.params4] at ht
  have hm := Array.mem_of_getElem? ht
  simp only [List.mem_toArray, List.mem_cons, List.not_mem_nil, or_false] at hm
  rcases hm with rfl | rfl | rfl | rfl
  · exact (show Tryd.prog.wantsStandIn 24 = false by kernel_rfl)
  · exact (show Tryd.prog.wantsStandIn 9 = false by kernel_rfl)
  · exact (show Tryd.prog.wantsStandIn 3 = false by kernel_rfl)
  · exact (show Tryd.prog.wantsStandIn 5 = false by kernel_rfl)

/-- The statement: its tied card. -/
theorem proved : Rows.DigestHexCardSaid :=
  Claim7.holds_tied_plain_at .later [] _ _ _ _ said (fun _ h => by cases h) (by kernel_rfl) (fun _ h => by cases h) digestHex_row_tie rfl ⟨rfl, rfl⟩ (by kernel_rfl) rfl plain (by kernel_rfl)
#print axioms proved
end Go.Proofs.YtmfanfocfmaogaaDoor.digestHex

/-
  Package digest: FromHex by plain lists.
-/
import Derived.Test.YtmfanfocfmaogaaDoorDigG
namespace Go.Proofs.YtmfanfocfmaogaaDoor
open Go.RowKit

namespace Sha
/-- What a digit stands for. -/
def isDig (c : UInt8) : Bool := (48 ≤ c.toNat && c.toNat ≤ 57) || (97 ≤ c.toNat && c.toNat ≤ 102)
def digV (c : UInt8) : Nat := if c.toNat ≤ 57 then c.toNat - 48 else c.toNat - 87
def unhex : List UInt8 → Option (List UInt8)
  | [] => some []
  | [_] => none
  | a :: b :: l => if isDig a && isDig b then (unhex l).map (UInt8.ofNat (16 * digV a + digV b) :: ·) else none
def fromHex (s : List UInt8) : Option (List UInt8) := if s.length = 64 then unhex s else none

theorem isDig_dig : ∀ n : Fin 16, isDig (dig n.val) = true ∧ digV (dig n.val) = n.val := by decide
theorem dig_digV : ∀ n : Fin 256, isDig (UInt8.ofNat n.val) = true → dig (digV (UInt8.ofNat n.val)) = UInt8.ofNat n.val ∧ digV (UInt8.ofNat n.val) < 16 := by decide +kernel
theorem dig_of (c : UInt8) (h : isDig c = true) : dig (digV c) = c ∧ digV c < 16 := by
  have := dig_digV ⟨c.toNat, c.toNat_lt⟩
  simp only [UInt8.ofNat_toNat] at this
  exact this h
theorem unhex_hex (k : List UInt8) : unhex (hex k) = some k := by
  induction k with
  | nil => rfl
  | cons b k ih =>
    have hb := b.toNat_lt
    have h1 := isDig_dig ⟨b.toNat / 16, by omega⟩
    have h2 := isDig_dig ⟨b.toNat % 16, by omega⟩
    simp only at h1 h2
    rw [hex, List.flatMap_cons, ← hex]
    simp only [two, List.cons_append, List.nil_append, unhex, h1.1, h2.1, h1.2, h2.2, Bool.and_self, if_true, ih, Option.map_some]
    rw [show 16 * (b.toNat / 16) + b.toNat % 16 = b.toNat by omega, UInt8.ofNat_toNat]
theorem hex_unhex : ∀ (n : Nat) (s k : List UInt8), s.length ≤ n → unhex s = some k → hex k = s := by
  intro n
  induction n using Nat.strongRecOn with
  | ind n ih =>
    intro s k hn h
    match s, h with
    | [], h => cases h; rfl
    | a :: b :: l, h =>
      rw [unhex] at h
      split at h
      · rename_i hd
        simp only [Bool.and_eq_true] at hd
        obtain ⟨m, hm, rfl⟩ := Option.map_eq_some_iff.1 h
        simp only [List.length_cons] at hn
        have := ih (n - 2) (by omega) l m (by omega) hm
        have d1 := dig_of a hd.1
        have d2 := dig_of b hd.2
        have e : (UInt8.ofNat (16 * digV a + digV b)).toNat = 16 * digV a + digV b := by rw [UInt8.toNat_ofNat']; omega
        rw [hex, List.flatMap_cons, ← hex, this, two, e, show (16 * digV a + digV b) / 16 = digV a by omega, show (16 * digV a + digV b) % 16 = digV b by omega, d1.1, d2.1]
        rfl
      · cases h
theorem unhex_some : ∀ (n : Nat) (s : List UInt8), s.length = 2 * n → (unhex s).isSome = s.all isDig := by
  intro n
  induction n with
  | zero =>
    intro s h
    obtain rfl := List.eq_nil_of_length_eq_zero (by simpa using h)
    rfl
  | succ n ih =>
    intro s h
    match s, h with
    | a :: b :: l, h =>
      rw [unhex]
      have := ih l (by simp at h; omega)
      cases h1 : isDig a <;> cases h2 : isDig b <;> simp [h1, h2, this]
theorem unhex_append : ∀ (n : Nat) (l m k : List UInt8), l.length = 2 * n → unhex l = some k → unhex (l ++ m) = (unhex m).map (k ++ ·) := by
  intro n
  induction n with
  | zero =>
    intro l m k h hk
    obtain rfl := List.eq_nil_of_length_eq_zero (by simpa using h)
    cases hk
    rw [List.nil_append]
    cases unhex m <;> rfl
  | succ n ih =>
    intro l m k h hk
    match l, h with
    | a :: b :: l, h =>
      rw [unhex] at hk
      rw [List.cons_append, List.cons_append, unhex]
      split at hk
      · rename_i hd
        rw [if_pos hd]
        obtain ⟨k', hk', rfl⟩ := Option.map_eq_some_iff.1 hk
        rw [ih l m k' (by simp at h; omega) hk']
        cases unhex m <;> rfl
      · cases hk
theorem unhex_length : ∀ (n : Nat) (l k : List UInt8), l.length = 2 * n → unhex l = some k → k.length = n := by
  intro n l k h hk
  have := hex_unhex _ l k (Nat.le_refl _) hk
  have e := hex_length k
  rw [this, h] at e
  omega
end Sha

def Sha.digI (c : UInt8) : Int := if Sha.isDig c then (Sha.digV c : Int) else 0
set_option maxHeartbeats 400000 in
theorem digit_any (c : UInt8) (w : World) :
    Calls Tryd.prog 24 #[.int .u8 (c.toNat : Int)] w fun e w' => e = .returned (.tuple #[.int .u8 (Sha.digI c), .bool (Sha.isDig c)]) ∧ w = w' := by
  have hc := c.toNat_lt
  have hcase : (c.toNat < 48) ∨ (48 ≤ c.toNat ∧ c.toNat ≤ 57) ∨ (57 < c.toNat ∧ c.toNat < 97) ∨ (97 ≤ c.toNat ∧ c.toNat ≤ 102) ∨ 102 < c.toNat := by omega
  obtain ⟨d, v, hd, hv⟩ : ∃ d v, d = Sha.isDig c ∧ v = Sha.digI c := ⟨_, _, rfl, rfl⟩
  have HD := hid hd
  have HV := hid hv
  rw [← hd, ← hv]
  clear hd hv
  rcases hcase with h | h | h | h | h
  case inr.inl =>
    have i1 : (48 : Int) ≤ (c.toNat : Int) := by omega
    have i2 : (c.toNat : Int) ≤ 57 := by omega
    obtain rfl : d = true := by rw [HD.out, Sha.isDig]; simp; omega
    obtain rfl : v = (c.toNat : Int) - 48 := by
      have e : Sha.isDig c = true := HD.out.symm
      rw [HV.out, Sha.digI, if_pos e, Sha.digV, if_pos h.2]; omega
    clear h
    go_enter Tryd.func24, Tryd.ntmps24
    go_wp2
    exact bodyPost_ret (results_tmp2 rfl _ _ _) rfl ⟨rfl, rfl⟩
  case inr.inr.inr.inl =>
    have i1 : (97 : Int) ≤ (c.toNat : Int) := by omega
    have i2 : (c.toNat : Int) ≤ 102 := by omega
    have i3 : decide ((c.toNat : Int) ≤ 57) = false := by simp; omega
    obtain rfl : d = true := by rw [HD.out, Sha.isDig]; simp; omega
    obtain rfl : v = (c.toNat : Int) - 97 + 10 := by
      have e : Sha.isDig c = true := HD.out.symm
      rw [HV.out, Sha.digI, if_pos e, Sha.digV, if_neg (by omega)]; omega
    go_enter Tryd.func24, Tryd.ntmps24
    go_wp2
    exact bodyPost_ret (results_tmp2 rfl _ _ _) rfl ⟨rfl, rfl⟩
  all_goals
    have hdf : Sha.isDig c = false := by simp [Sha.isDig]; omega
    obtain rfl : d = false := by rw [HD.out, hdf]
    obtain rfl : v = 0 := by rw [HV.out, Sha.digI, hdf]; rfl
    clear hdf
    go_enter Tryd.func24, Tryd.ntmps24
    go_wp2
    all_goals first
      | exact bodyPost_ret (results_tmp2 rfl _ _ _) rfl ⟨rfl, rfl⟩
      | omega

theorem run_str_at {P : Program} (t : TypeId) (ht : P.underlying t = some .string) (S : ByteArray) (i : Nat) (c : UInt8) (h : S.data.toList[i]? = some c) (x : Int) (hx : x = (i : Int)) : ∀ w, (Instr.index t (.string S) (.int .i64 x)).run P w = .ok (.int .u8 (c.toNat : Int)) w := by
  intro w
  subst hx
  have hlt := (List.getElem?_eq_some_iff.1 h).1
  have hsz : i < S.size := by simpa using hlt
  have he : S[i] = c := by
    have := (List.getElem?_eq_some_iff.1 h).2
    show S.data[i] = c
    simpa using this
  rw [run_index_string _ t S .i64 _ ht, dif_pos (by omega)]
  simp [he]
theorem results_cell_tmp {P : Program} {fn : Func} {p q : Tmp} {ty : TypeId} (h : fn.results = #[.cell p ty, .tmp q]) (tmps : Array Value) (w : World) (g : Nat) (t : TypeId) (cs : Array Value) (fr : Nat × Nat) (d : TypeDesc) (v : Value)
    (hp : tmps.getD p undef = .pointer (some ⟨g, 0, none⟩)) (hv : tmps.getD q undef = v) (hg : w.heap[g]? = some (.cells cs t fr))
    (hu : P.underlying ty = some d) (hd : (match d with | .struct _ | .array _ _ => true | _ => false) = true) (hi : (P.info? ty).map (·.size) = some cs.size) :
    (results fn tmps).run P w = .ok (.tuple #[.agg cs, v]) w := by
  have hp' : tmps[p]?.getD undef = .pointer (some ⟨g, 0, none⟩) := by simpa using hp
  have hv' : tmps[q]?.getD undef = v := by simpa using hv
  simp [results, h, hp', hv', asAddr, run_loadVar_row w g t ty cs fr d hg hu hd hi]

theorem wdig (a b : Nat) (ha : a < 16) (hb : b < 16) : bits .or .u8 ((a : Int) * 16 % 256) (b : Int) = ((UInt8.ofNat (16 * a + b)).toNat : Int) := by
  rw [show (a : Int) * 16 % 256 = ((a * 2 ^ 4 : Nat) : Int) by omega, u8_or_nat _ _ (by omega) (by omega), nat_join 4 _ _ (Nat.mul_mod_left _ _) (by omega), UInt8.toNat_ofNat']
  omega
theorem digI_of {c : UInt8} (h : Sha.isDig c = true) : Sha.digI c = (Sha.digV c : Int) := by rw [Sha.digI, if_pos h]

set_option maxRecDepth 100000 in
set_option maxHeartbeats 2000000 in
theorem FromHex_any (S : ByteArray) (s : List UInt8) (hs : S.data.toList = s) (w : World) :
    Calls Tryd.prog 16 #[.string S] w fun e w' => e = .returned (.tuple #[keyV ((Sha.fromHex s).getD (List.replicate 32 0)), .bool (Sha.fromHex s).isSome]) ∧ Below w.heap.size w w' := by
  have hsz : S.size = s.length := by rw [← hs]; simp
  obtain ⟨Z, hZ⟩ : ∃ Z : List UInt8, Z = List.replicate 32 0 := ⟨_, rfl⟩
  have hZl : Z.length = 32 := by rw [hZ, List.length_replicate]
  have HZ := hid hZ
  rw [← hZ]
  clear hZ
  by_cases hl : s.length = 64
  · have hlen : ((S.size : Int) != 64) = false := by simp; omega
    have hun : Sha.fromHex s = Sha.unhex s := by rw [Sha.fromHex, if_pos hl]
    rw [hun]
    clear hsz hun
    unfold keyV
    go_enter Tryd.func16, Tryd.ntmps16
    go_wp2
    go_loopw [14] (fun i wr => ∃ j : Nat, j ≤ 32 ∧ i = .int .i64 (j : Int) ∧ ∃ k : List UInt8, Sha.unhex (s.take (2 * j)) = some k ∧ wr.heap[w.heap.size]? = some (.cells (Lib.byteCells Z).toArray 24 (0, 0)) ∧ wr.heap[w.heap.size + 1]? = some (.cells (Lib.byteCells (k ++ List.replicate (32 - j) 0)).toArray 24 (0, 0)) ∧ Below w.heap.size w wr) (fun i _ => 32 - (intOf i).toNat)
    case atStart =>
      refine ⟨0, by omega, rfl, [], rfl, ?_, ?_, (Below.refl _ _).alloc (Nat.le_refl _) _ |>.alloc (by simp) _⟩
      · rw [HZ.out]
        exact heap_alloc2_old w _ _
      · exact heap_alloc2_new w _ _
    case round =>
      obtain ⟨j, hj, rfl, k, hk, hb0, hb1, hbel⟩ := hrel
      have htl : (s.take (2 * j)).length = 2 * j := by rw [List.length_take]; omega
      have hkl := Sha.unhex_length j _ k htl hk
      by_cases hlt : j < 32
      · obtain ⟨a, ha⟩ : ∃ a, s[2 * j]? = some a := ⟨_, List.getElem?_eq_getElem (by omega)⟩
        obtain ⟨b, hb⟩ : ∃ b, s[2 * j + 1]? = some b := ⟨_, List.getElem?_eq_getElem (by omega)⟩
        have hxa := run_str_at (P := Tryd.prog) 9 Tryd.underlying9 S (2 * j) a (by rw [hs]; exact ha) (2 * (j : Int)) (by omega)
        have hxb := run_str_at (P := Tryd.prog) 9 Tryd.underlying9 S (2 * j + 1) b (by rw [hs]; exact hb) (2 * (j : Int) + 1) (by omega)
        have hsplit : s = s.take (2 * j) ++ a :: b :: s.drop (2 * j + 2) := by
          conv => lhs; rw [← List.take_append_drop (2 * j) s]
          congr 1
          rw [List.drop_eq_getElem_cons (by omega), List.drop_eq_getElem_cons (by omega), (List.getElem?_eq_some_iff.1 ha).2, (List.getElem?_eq_some_iff.1 hb).2]
        have i1 : (j : Int) < 32 := by omega
        have i0 : (0 : Int) ≤ (j : Int) := Int.natCast_nonneg _
        have hzz := hbel.size
        have hz1 : w.heap.size < wr.heap.size := lt_of_block hb0
        by_cases hda : Sha.isDig a = true
        · by_cases hdb : Sha.isDig b = true
          · have hva := digI_of hda
            have hvb := digI_of hdb
            have hlo := wdig _ _ (Sha.dig_of a hda).2 (Sha.dig_of b hdb).2
            have hk2 : Sha.unhex (s.take (2 * (j + 1))) = some (k ++ [UInt8.ofNat (16 * Sha.digV a + Sha.digV b)]) := by
              rw [show 2 * (j + 1) = 2 * j + 1 + 1 by omega, take_snoc hb, take_snoc ha, List.append_assoc, Sha.unhex_append j _ _ k htl hk]
              simp [Sha.unhex, hda, hdb]
            have hc0 : wr.cell? ⟨w.heap.size + 1, j, none⟩ = some (.int .u8 (((0 : UInt8).toNat : Nat) : Int)) := blk8_at hb1 (by rw [List.getElem?_append_right (by omega), hkl, Nat.sub_self, List.getElem?_replicate, if_pos (by omega)])
            have hf0 := blk_free (i := j) hb1
            have hnew := blk8_set hb1 j (UInt8.ofNat (16 * Sha.digV a + Sha.digV b))
            rw [List.set_append_right _ _ (by omega), hkl, Nat.sub_self, show 32 - j = (32 - (j + 1)) + 1 by omega, List.replicate_succ, List.set_cons_zero, List.append_cons] at hnew
            have hold := (Below.heap_setCell wr ⟨w.heap.size + 1, j, none⟩ (.int .u8 ((UInt8.ofNat (16 * Sha.digV a + Sha.digV b)).toNat : Int)) w.heap.size (by show ¬ w.heap.size = w.heap.size + 1; omega)).trans hb0
            have HN := hid hnew
            have HO := hid hold
            have HK2 := hid hk2
            have HLO := hid hlo
            clear hb0 hb1 hnew hold hk2 hlo hsplit hk ha hb
            go_wp2_with fail
            refine (digit_any a _).mono ?_
            rw [hda, hva]
            rintro e w1 ⟨rfl, rfl⟩
            go_wp2_with fail
            refine (digit_any b _).mono ?_
            rw [hdb, hvb]
            rintro e w1 ⟨rfl, rfl⟩
            go_wp2
            rw [HLO.out]
            exact ⟨⟨j + 1, by omega, by go_num, _, HK2.out, HO.out, HN.out, hbel.setCell (p := ⟨w.heap.size + 1, j, none⟩) (by show _ ≤ w.heap.size + 1; omega) _⟩, by simp [intOf]; omega⟩
          · have hdb' : Sha.isDig b = false := by simpa using hdb
            have hnone : Sha.unhex s = none := by
              rw [hsplit, Sha.unhex_append j _ _ k htl hk]
              simp [Sha.unhex, hdb']
            have HNO := hid hnone
            clear hnone hsplit hk ha hb hb1
            go_wp2_with fail
            refine (digit_any a _).mono ?_
            rw [hda]
            rintro e w1 ⟨rfl, rfl⟩
            go_wp2_with fail
            refine (digit_any b _).mono ?_
            rw [hdb']
            rintro e w1 ⟨rfl, rfl⟩
            go_wp2_with (refine wpList_store_all rfl 24 _ _ rfl w.heap.size #[.int .u8 0, .int .u8 0, .int .u8 0, .int .u8 0, .int .u8 0, .int .u8 0, .int .u8 0, .int .u8 0, .int .u8 0, .int .u8 0, .int .u8 0, .int .u8 0, .int .u8 0, .int .u8 0, .int .u8 0, .int .u8 0, .int .u8 0, .int .u8 0, .int .u8 0, .int .u8 0, .int .u8 0, .int .u8 0, .int .u8 0, .int .u8 0, .int .u8 0, .int .u8 0, .int .u8 0, .int .u8 0, .int .u8 0, .int .u8 0, .int .u8 0, .int .u8 0] rfl rfl _ _ hb0 32 Tryd.sizeKey rfl (key_size Z hZl) (by simp [Value.oneCell']) ?_; intro w9 hg9 hk9)
            have hb9 : Below w.heap.size w w9 := hbel.trans (hk9.below hzz fun k hk => by show ¬ k = _; omega)
            clear hk9
            refine bodyPost_ret (results_cell_tmp rfl _ _ w.heap.size _ _ _ _ _ rfl rfl hg9 Tryd.underlying24 rfl Tryd.sizeKey) rfl ⟨?_, hb9⟩
            rw [HNO.out, HZ.out]
            rfl
        · have hda' : Sha.isDig a = false := by simpa using hda
          have hnone : Sha.unhex s = none := by
            rw [hsplit, Sha.unhex_append j _ _ k htl hk]
            simp [Sha.unhex, hda']
          have HNO := hid hnone
          clear hnone hsplit hk ha hb hb1
          go_wp2_with fail
          refine (digit_any a _).mono ?_
          rw [hda']
          rintro e w1 ⟨rfl, rfl⟩
          go_wp2_with fail
          refine (digit_any b _).mono ?_
          rintro e w1 ⟨rfl, rfl⟩
          go_wp2_with (refine wpList_store_all rfl 24 _ _ rfl w.heap.size #[.int .u8 0, .int .u8 0, .int .u8 0, .int .u8 0, .int .u8 0, .int .u8 0, .int .u8 0, .int .u8 0, .int .u8 0, .int .u8 0, .int .u8 0, .int .u8 0, .int .u8 0, .int .u8 0, .int .u8 0, .int .u8 0, .int .u8 0, .int .u8 0, .int .u8 0, .int .u8 0, .int .u8 0, .int .u8 0, .int .u8 0, .int .u8 0, .int .u8 0, .int .u8 0, .int .u8 0, .int .u8 0, .int .u8 0, .int .u8 0, .int .u8 0, .int .u8 0] rfl rfl _ _ hb0 32 Tryd.sizeKey rfl (key_size Z hZl) (by simp [Value.oneCell']) ?_; intro w9 hg9 hk9)
          have hb9 : Below w.heap.size w w9 := hbel.trans (hk9.below hzz fun k hk => by show ¬ k = _; omega)
          clear hk9
          refine bodyPost_ret (results_cell_tmp rfl _ _ w.heap.size _ _ _ _ _ rfl rfl hg9 Tryd.underlying24 rfl Tryd.sizeKey) rfl ⟨?_, hb9⟩
          rw [HNO.out, HZ.out]
          rfl
      · obtain rfl : j = 32 := by omega
        rw [List.take_of_length_le (by omega)] at hk
        rw [Nat.sub_self, List.replicate_zero, List.append_nil] at hb1
        have hKi := key_info k hkl
        have hzz := hbel.size
        have HK := hid hk
        rw [show ((32 : Nat) : Int) = 32 from rfl]
        clear hk hj hlt htl
        go_wp2_with (first
          | refine wpList_load_row rfl 24 _ rfl (w.heap.size + 1) rfl _ _ _ _ hb1 Tryd.underlying24 rfl hKi ?_
          | (refine wpList_store_all rfl 24 _ _ rfl w.heap.size _ rfl rfl _ _ hb0 32 Tryd.sizeKey (key_size k hkl) (key_size Z hZl) (key_one k) ?_; intro w9 hg9 hk9))
        have hb9 : Below w.heap.size w w9 := hbel.trans (hk9.below hzz fun k hk => by show ¬ k = _; omega)
        clear hk9
        refine bodyPost_ret (results_cell_tmp rfl _ _ w.heap.size _ _ _ _ _ rfl rfl hg9 Tryd.underlying24 rfl hKi) rfl ⟨?_, hb9⟩
        rw [HK.out]
        rfl
  · have hlen : ((S.size : Int) != 64) = true := by simp; omega
    have hnone : Sha.fromHex s = none := by rw [Sha.fromHex, if_neg hl]
    rw [hnone]
    clear hl hsz
    unfold keyV
    go_enter Tryd.func16, Tryd.ntmps16
    go_wp2_with (refine wpList_store_all rfl 24 _ _ rfl w.heap.size #[.int .u8 0, .int .u8 0, .int .u8 0, .int .u8 0, .int .u8 0, .int .u8 0, .int .u8 0, .int .u8 0, .int .u8 0, .int .u8 0, .int .u8 0, .int .u8 0, .int .u8 0, .int .u8 0, .int .u8 0, .int .u8 0, .int .u8 0, .int .u8 0, .int .u8 0, .int .u8 0, .int .u8 0, .int .u8 0, .int .u8 0, .int .u8 0, .int .u8 0, .int .u8 0, .int .u8 0, .int .u8 0, .int .u8 0, .int .u8 0, .int .u8 0, .int .u8 0] rfl rfl _ #[.int .u8 0, .int .u8 0, .int .u8 0, .int .u8 0, .int .u8 0, .int .u8 0, .int .u8 0, .int .u8 0, .int .u8 0, .int .u8 0, .int .u8 0, .int .u8 0, .int .u8 0, .int .u8 0, .int .u8 0, .int .u8 0, .int .u8 0, .int .u8 0, .int .u8 0, .int .u8 0, .int .u8 0, .int .u8 0, .int .u8 0, .int .u8 0, .int .u8 0, .int .u8 0, .int .u8 0, .int .u8 0, .int .u8 0, .int .u8 0, .int .u8 0, .int .u8 0] (heap_alloc2_old w _ _) 32 Tryd.sizeKey rfl rfl (by simp [Value.oneCell']) ?_; intro w9 hg9 hk9)
    have hb9 : Below w.heap.size w w9 := (((Below.refl _ _).alloc (Nat.le_refl _) _).alloc (by simp) _).trans (hk9.below (by simp; omega) fun k hk => by show ¬ k = _; omega)
    clear hk9
    go_wp2
    refine bodyPost_ret (results_cell_tmp rfl _ _ w.heap.size _ _ _ _ _ rfl rfl hg9 Tryd.underlying24 rfl Tryd.sizeKey) rfl ⟨?_, hb9⟩
    rw [HZ.out]
    rfl
end Go.Proofs.YtmfanfocfmaogaaDoor

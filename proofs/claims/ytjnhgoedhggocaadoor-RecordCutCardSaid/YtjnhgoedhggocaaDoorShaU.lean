/-
  SHA-256 over words of 32 bits, told as the numbers' SHA-256 lifted; a name (32 bytes), its digits (64); how blocks, rounds and words go on by one. No condition. Nothing of the program.
-/
import Derived.Test.YtjnhgoedhggocaaDoorShaRel
namespace Go.Proofs.YtjnhgoedhggocaaDoor.Sha

def u32 : Alg UInt32 where
  xor a b := UInt32.ofNat (one.xor a.toNat b.toNat)
  and a b := UInt32.ofNat (one.and a.toNat b.toNat)
  or a b := UInt32.ofNat (one.or a.toNat b.toNat)
  not a := UInt32.ofNat (one.not a.toNat)
  add a b := UInt32.ofNat (one.add a.toNat b.toNat)
  rot r x := UInt32.ofNat (one.rot r x.toNat)
  shr r x := UInt32.ofNat (one.shr r x.toNat)
  shl r x := UInt32.ofNat (one.shl r x.toNat)
  con n := UInt32.ofNat (one.con n)

def RU (x : UInt32) (n : Nat) : Prop := x.toNat = n
theorem lt32 (x : UInt32) : x.toNat < 4294967296 := x.toNat_lt
theorem ofNat32 {n : Nat} (h : n < 4294967296) : (UInt32.ofNat n).toNat = n := by
  rw [UInt32.toNat_ofNat']
  exact Nat.mod_eq_of_lt h
theorem u32_xor (a b : UInt32) : (u32.xor a b).toNat = a.toNat ^^^ b.toNat := ofNat32 (xor_lt (lt32 a) (lt32 b))
theorem u32_and (a b : UInt32) : (u32.and a b).toNat = a.toNat &&& b.toNat := ofNat32 (and_lt (lt32 b))
theorem u32_or (a b : UInt32) : (u32.or a b).toNat = a.toNat ||| b.toNat := ofNat32 (or_lt (lt32 a) (lt32 b))
theorem u32_not (a : UInt32) : (u32.not a).toNat = a.toNat ^^^ 4294967295 := ofNat32 (xor_lt (lt32 a) (by decide))
theorem u32_add (a b : UInt32) : (u32.add a b).toNat = (a.toNat + b.toNat) &&& 4294967295 := ofNat32 lo
theorem u32_rot (r : Nat) (x : UInt32) : (u32.rot r x).toNat = ((x.toNat >>> r) ||| (x.toNat <<< (32 - r))) &&& 4294967295 := ofNat32 lo
theorem u32_shr (r : Nat) (x : UInt32) : (u32.shr r x).toNat = (x.toNat >>> r) &&& 4294967295 := ofNat32 lo
theorem u32_shl (r : Nat) (x : UInt32) : (u32.shl r x).toNat = (x.toNat <<< r) &&& 4294967295 := ofNat32 lo
theorem u32_con (n : Nat) : (u32.con n).toNat = n &&& 4294967295 := ofNat32 lo
theorem mask_mod (n : Nat) : n &&& 4294967295 = n % 4294967296 := by
  rw [show (4294967295 : Nat) = 2 ^ 32 - 1 from rfl, Nat.and_two_pow_sub_one_eq_mod]

theorem rel_u32 : Rel u32 one RU where
  xor {a b c d} h k := by cases h; cases k; exact u32_xor a b
  and {a b c d} h k := by cases h; cases k; exact u32_and a b
  or {a b c d} h k := by cases h; cases k; exact u32_or a b
  not {a c} h := by cases h; exact u32_not a
  add {a b c d} h k := by cases h; cases k; exact u32_add a b
  rot {a c} r _ h := by cases h; exact u32_rot r a
  shr {a c} r _ h := by cases h; exact u32_shr r a
  shl {a c} r _ h := by cases h; exact u32_shl r a
  con n := u32_con n

/-! ### A name -/
def inn (b : UInt8) : UInt32 := UInt32.ofNat b.toNat
theorem inn_toNat (b : UInt8) : (inn b).toNat = b.toNat := ofNat32 (by have := b.toNat_lt; omega)
/-- The j-th byte of a word, the highest first. -/
def byteOf (x : UInt32) (j : Nat) : UInt8 := UInt8.ofNat (x.toNat >>> (24 - 8 * j))
def keyByte (s : St UInt32) (i : Nat) : UInt8 := byteOf (s.list.getD (i / 4) 0) (i % 4)
def keyOf (s : St UInt32) : List UInt8 := (List.range 32).map (keyByte s)
/-- The name of bytes. -/
def sum (bs : List UInt8) : List UInt8 := keyOf (sha u32 (bs.map inn))
theorem keyOf_length (s : St UInt32) : (keyOf s).length = 32 := by simp [keyOf]
theorem sum_length (bs : List UInt8) : (sum bs).length = 32 := keyOf_length _
theorem keyOf_get (s : St UInt32) {i : Nat} (h : i < 32) : (keyOf s)[i]? = some (keyByte s i) := by simp [keyOf, h]

theorem byteOf_inj {x y : UInt32} (h : ∀ j, j < 4 → byteOf x j = byteOf y j) : x = y := by
  have g : ∀ j, j < 4 → x.toNat >>> (24 - 8 * j) % 256 = y.toNat >>> (24 - 8 * j) % 256 := by
    intro j hj
    have := congrArg UInt8.toNat (h j hj)
    simpa [byteOf] using this
  have g0 := g 0 (by omega); have g1 := g 1 (by omega); have g2 := g 2 (by omega); have g3 := g 3 (by omega)
  simp only [Nat.shiftRight_eq_div_pow] at g0 g1 g2 g3
  rw [show 2 ^ (24 - 8 * 0) = 16777216 from rfl] at g0
  rw [show 2 ^ (24 - 8 * 1) = 65536 from rfl] at g1
  rw [show 2 ^ (24 - 8 * 2) = 256 from rfl] at g2
  rw [show 2 ^ (24 - 8 * 3) = 1 from rfl, Nat.div_one, Nat.div_one] at g3
  have hx := lt32 x; have hy := lt32 y
  apply UInt32.toNat_inj.1
  omega
theorem keyOf_h {s t : St UInt32} (h : keyOf s = keyOf t) : s.h = t.h := by
  refine byteOf_inj fun j hj => ?_
  have e : ∀ i, i < 32 → keyByte s i = keyByte t i := by
    intro i hi
    have h1 := keyOf_get s hi
    have h2 := keyOf_get t hi
    rw [h, h2] at h1
    exact (Option.some.inj h1).symm
  have := e (28 + j) (by omega)
  have d : (28 + j) / 4 = 7 := by omega
  have m : (28 + j) % 4 = j := by omega
  simpa only [keyByte, d, m, St.list, List.getD_cons_succ, List.getD_cons_zero] using this

theorem lr_inn (bs : List UInt8) : LR RU (bs.map inn) (bs.map UInt8.toNat) := by
  induction bs with
  | nil => exact .nil
  | cons b l ih => exact .cons (inn_toNat b) ih
theorem sum_nat (bs : List UInt8) : SR RU (sha u32 (bs.map inn)) (sha one (bs.map UInt8.toNat)) := rel_sha rel_u32 (lr_inn bs)

/-! ### Digits -/
def dig (n : Nat) : UInt8 := UInt8.ofNat (if n < 10 then 48 + n else 87 + n)
def two (b : UInt8) : List UInt8 := [dig (b.toNat / 16), dig (b.toNat % 16)]
def hex (k : List UInt8) : List UInt8 := k.flatMap two
theorem hex_length (k : List UInt8) : (hex k).length = 2 * k.length := by
  induction k with
  | nil => rfl
  | cons b l ih => rw [hex, List.flatMap_cons, List.length_append, List.length_cons, show (two b).length = 2 from rfl, ← hex, ih]; omega
theorem hex_snoc (k : List UInt8) (b : UInt8) : hex (k ++ [b]) = hex k ++ two b := by simp [hex]

/-! ### On by one -/
section
variable {α : Type} (A : Alg α)
theorem grow_succ (n : Nat) (r : List α) : grow A (n + 1) r = nextW A (grow A n r) :: grow A n r := by
  induction n generalizing r with
  | zero => rfl
  | succ n ih => rw [grow, ih, grow]
theorem grow_length (n : Nat) (r : List α) : (grow A n r).length = n + r.length := by
  induction n generalizing r with
  | zero => simp [grow]
  | succ n ih => rw [grow, ih, List.length_cons]; omega
theorem rounds_snoc {s : St α} {ks : List Nat} {ws : List α} (h : ks.length = ws.length) (k : Nat) (w : α) : rounds A s (ks ++ [k]) (ws ++ [w]) = round A (rounds A s ks ws) k w := by
  induction ks generalizing s ws with
  | nil => cases ws with
    | nil => rfl
    | cons => simp at h
  | cons a ks ih => cases ws with
    | nil => simp at h
    | cons b ws => exact ih (by simpa using h)
theorem blocks_succ (n : Nat) (s : St α) (l : List α) : blocks A (n + 1) s l = block A (blocks A n s l) ((l.drop (64 * n)).take 64) := by
  induction n generalizing s l with
  | zero => rfl
  | succ n ih => rw [blocks, ih, List.drop_drop, blocks, show 64 + 64 * n = 64 * (n + 1) by omega]
theorem blocks_add (n m : Nat) (s : St α) (l l' : List α) (h : l.length = 64 * n) : blocks A (n + m) s (l ++ l') = blocks A m (blocks A n s l) l' := by
  induction n generalizing s l with
  | zero =>
    obtain rfl := List.eq_nil_of_length_eq_zero (by simpa using h)
    rw [Nat.zero_add]; rfl
  | succ n ih =>
    rw [show n + 1 + m = (n + m) + 1 by omega, blocks, blocks, List.take_append_of_le_length (by omega), List.drop_append_of_le_length (by omega)]
    exact ih _ _ (by rw [List.length_drop]; omega)
theorem words_length : ∀ (n : Nat) (l : List α), l.length = 4 * n → (words A l).length = n := by
  intro n
  induction n with
  | zero =>
    intro l h
    obtain rfl := List.eq_nil_of_length_eq_zero (by simpa using h)
    rfl
  | succ n ih =>
    intro l h
    obtain ⟨a, b, c, d, m, rfl⟩ : ∃ a b c d m, l = a :: b :: c :: d :: m := by
      match l, h with
      | a :: b :: c :: d :: m, _ => exact ⟨a, b, c, d, m, rfl⟩
    rw [words, List.length_cons, ih m (by simp at h; omega)]
theorem words_get : ∀ (i : Nat) (l : List α) {a b c d : α}, l[4 * i]? = some a → l[4 * i + 1]? = some b → l[4 * i + 2]? = some c → l[4 * i + 3]? = some d → (words A l)[i]? = some (word A a b c d) := by
  intro i
  induction i with
  | zero =>
    intro l a b c d ha hb hc hd
    match l, ha, hb, hc, hd with
    | a :: b :: c :: d :: m, ha, hb, hc, hd =>
      simp at ha hb hc hd
      subst ha hb hc hd
      rfl
  | succ i ih =>
    intro l a b c d ha hb hc hd
    match l, ha, hb, hc, hd with
    | x :: y :: z :: t :: m, ha, hb, hc, hd =>
      rw [show 4 * (i + 1) = 4 * i + 4 by omega] at ha
      rw [show 4 * (i + 1) + 1 = (4 * i + 1) + 4 by omega] at hb
      rw [show 4 * (i + 1) + 2 = (4 * i + 2) + 4 by omega] at hc
      rw [show 4 * (i + 1) + 3 = (4 * i + 3) + 4 by omega] at hd
      rw [words, List.getElem?_cons_succ]
      exact ih m (by simpa using ha) (by simpa using hb) (by simpa using hc) (by simpa using hd)
    | [], _, _, _, hd => have := (List.getElem?_eq_some_iff.1 hd).1; simp at this <;> omega
    | [_], _, _, _, hd => have := (List.getElem?_eq_some_iff.1 hd).1; simp at this <;> omega
    | [_, _], _, _, _, hd => have := (List.getElem?_eq_some_iff.1 hd).1; simp at this <;> omega
    | [_, _, _], _, _, _, hd => have := (List.getElem?_eq_some_iff.1 hd).1; simp at this <;> omega
end
theorem behind_length {α : Type} (A : Alg α) (n : Nat) : (behind A n).length = zeros n + 9 := by simp [behind]
theorem firsts_length : firsts.length = 64 := rfl
end Go.Proofs.YtjnhgoedhggocaaDoor.Sha

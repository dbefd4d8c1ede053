/-
  SHA-256 as plain mathematics, over any algebra of words: over numbers, and over many numbers packed in one. No condition.
-/
namespace Go.Proofs.YtjnhgoedhggocaaDoor.Sha

/-- What SHA-256 does with words. -/
structure Alg (α : Type) where
  xor : α → α → α
  and : α → α → α
  or : α → α → α
  not : α → α
  add : α → α → α
  rot : Nat → α → α
  shr : Nat → α → α
  shl : Nat → α → α
  con : Nat → α

structure St (α : Type) where
  a : α
  b : α
  c : α
  d : α
  e : α
  f : α
  g : α
  h : α
def St.list {α : Type} (s : St α) : List α := [s.a, s.b, s.c, s.d, s.e, s.f, s.g, s.h]

section
variable {α : Type} (A : Alg α)
def lit0 (x : α) : α := A.xor (A.xor (A.rot 7 x) (A.rot 18 x)) (A.shr 3 x)
def lit1 (x : α) : α := A.xor (A.xor (A.rot 17 x) (A.rot 19 x)) (A.shr 10 x)
def big1 (x : α) : α := A.xor (A.xor (A.rot 6 x) (A.rot 11 x)) (A.rot 25 x)
def big0 (x : α) : α := A.xor (A.xor (A.rot 2 x) (A.rot 13 x)) (A.rot 22 x)
def pick (e f g : α) : α := A.xor (A.and e f) (A.and (A.not e) g)
def most (a b c : α) : α := A.xor (A.xor (A.and a b) (A.and a c)) (A.and b c)

/-- The next word; the newest word stands first. -/
def nextW (r : List α) : α := A.add (A.add (A.add (r.getD 15 (A.con 0)) (lit0 A (r.getD 14 (A.con 0)))) (r.getD 6 (A.con 0))) (lit1 A (r.getD 1 (A.con 0)))
def grow : Nat → List α → List α
  | 0, r => r
  | n + 1, r => grow n (nextW A r :: r)

def mix (s : St α) (k : Nat) (w : α) : α := A.add (A.add (A.add (A.add s.h (big1 A s.e)) (pick A s.e s.f s.g)) (A.con k)) w
def round (s : St α) (k : Nat) (w : α) : St α :=
  ⟨A.add (A.add (mix A s k w) (big0 A s.a)) (most A s.a s.b s.c), s.a, s.b, s.c, A.add s.d (mix A s k w), s.e, s.f, s.g⟩
def rounds : St α → List Nat → List α → St α
  | s, k :: ks, w :: ws => rounds (round A s k w) ks ws
  | s, _, _ => s
def sumSt (s t : St α) : St α := ⟨A.add s.a t.a, A.add s.b t.b, A.add s.c t.c, A.add s.d t.d, A.add s.e t.e, A.add s.f t.f, A.add s.g t.g, A.add s.h t.h⟩

def word (a b c d : α) : α := A.or (A.or (A.or (A.shl 24 a) (A.shl 16 b)) (A.shl 8 c)) d
def words : List α → List α
  | a :: b :: c :: d :: l => word A a b c d :: words l
  | _ => []
end

def firsts : List Nat := [
  0x428a2f98, 0x71374491, 0xb5c0fbcf, 0xe9b5dba5, 0x3956c25b, 0x59f111f1, 0x923f82a4, 0xab1c5ed5,
  0xd807aa98, 0x12835b01, 0x243185be, 0x550c7dc3, 0x72be5d74, 0x80deb1fe, 0x9bdc06a7, 0xc19bf174,
  0xe49b69c1, 0xefbe4786, 0x0fc19dc6, 0x240ca1cc, 0x2de92c6f, 0x4a7484aa, 0x5cb0a9dc, 0x76f988da,
  0x983e5152, 0xa831c66d, 0xb00327c8, 0xbf597fc7, 0xc6e00bf3, 0xd5a79147, 0x06ca6351, 0x14292967,
  0x27b70a85, 0x2e1b2138, 0x4d2c6dfc, 0x53380d13, 0x650a7354, 0x766a0abb, 0x81c2c92e, 0x92722c85,
  0xa2bfe8a1, 0xa81a664b, 0xc24b8b70, 0xc76c51a3, 0xd192e819, 0xd6990624, 0xf40e3585, 0x106aa070,
  0x19a4c116, 0x1e376c08, 0x2748774c, 0x34b0bcb5, 0x391c0cb3, 0x4ed8aa4a, 0x5b9cca4f, 0x682e6ff3,
  0x748f82ee, 0x78a5636f, 0x84c87814, 0x8cc70208, 0x90befffa, 0xa4506ceb, 0xbef9a3f7, 0xc67178f2]

section
variable {α : Type} (A : Alg α)
/-- One block: sixty-four bytes. -/
def block (h : St α) (l : List α) : St α := sumSt A h (rounds A h firsts (grow A 48 (words A l).reverse).reverse)
def blocks : Nat → St α → List α → St α
  | 0, h, _ => h
  | n + 1, h, l => blocks n (block A h (l.take 64)) (l.drop 64)
def begin : St α := ⟨A.con 0x6a09e667, A.con 0xbb67ae85, A.con 0x3c6ef372, A.con 0xa54ff53a, A.con 0x510e527f, A.con 0x9b05688c, A.con 0x1f83d9ab, A.con 0x5be0cd19⟩
/-- What stands behind n bytes. -/
def zeros (n : Nat) : Nat := (119 - n % 64) % 64
def behind (n : Nat) : List α := A.con 128 :: List.replicate (zeros n) (A.con 0) ++ [A.con (8 * n / 2 ^ 56 % 256), A.con (8 * n / 2 ^ 48 % 256), A.con (8 * n / 2 ^ 40 % 256), A.con (8 * n / 2 ^ 32 % 256), A.con (8 * n / 2 ^ 24 % 256), A.con (8 * n / 2 ^ 16 % 256), A.con (8 * n / 2 ^ 8 % 256), A.con (8 * n % 256)]
def sha (l : List α) : St α := blocks A ((l.length + 72) / 64) (begin A) (l ++ behind A l.length)
end

/-- Words as numbers. -/
def one : Alg Nat where
  xor := Nat.xor
  and := Nat.land
  or := Nat.lor
  not x := Nat.xor x 4294967295
  add x y := Nat.land (Nat.add x y) 4294967295
  rot r x := Nat.land (Nat.lor (Nat.shiftRight x r) (Nat.shiftLeft x (Nat.sub 32 r))) 4294967295
  shr r x := Nat.land (Nat.shiftRight x r) 4294967295
  shl r x := Nat.land (Nat.shiftLeft x r) 4294967295
  con n := Nat.land n 4294967295

/-- Words, packed: one in each 64 bits. -/
def ones : Nat → Nat
  | 0 => 0
  | n + 1 => Nat.add 1 (Nat.mul 18446744073709551616 (ones n))
def many (M E : Nat) : Alg Nat where
  xor := Nat.xor
  and := Nat.land
  or := Nat.lor
  not x := Nat.xor x M
  add x y := Nat.land (Nat.add x y) M
  rot r x := Nat.land (Nat.lor (Nat.shiftRight x r) (Nat.shiftLeft x (Nat.sub 32 r))) M
  shr r x := Nat.land (Nat.shiftRight x r) M
  shl r x := Nat.land (Nat.shiftLeft x r) M
  con n := Nat.mul (Nat.land n 4294967295) E

/-! ### Many texts at once -/
def pack : List Nat → Nat
  | [] => 0
  | a :: l => Nat.add a (Nat.mul 18446744073709551616 (pack l))
def Mn (n : Nat) : Nat := Nat.mul 4294967295 (ones n)
def P0 : Nat := pack (List.range 256)
def A256 : Alg Nat := many (Mn 256) (ones 256)
def msg {α : Type} (A : Alg α) : Nat → α → List α
  | 0, _ => []
  | n + 1, p => p :: msg A n (A.and (A.add p (A.con 1)) (A.con 255))
def noZero : Nat → Nat → Bool
  | 0, _ => true
  | n + 1, x => !(Nat.beq (Nat.mod x 18446744073709551616) 0) && noZero n (Nat.div x 18446744073709551616)
def apart (n : Nat) : Bool := noZero 256 (Nat.xor (sha A256 (msg A256 n P0)).h (sha A256 (msg A256 n P0 ++ [P0])).h)
end Go.Proofs.YtjnhgoedhggocaaDoor.Sha

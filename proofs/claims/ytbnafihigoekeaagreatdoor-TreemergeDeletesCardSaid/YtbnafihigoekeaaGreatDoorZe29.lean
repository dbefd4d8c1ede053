/-
  TmDe, part 29.
-/
import Derived.Sort.Lot0
import Derived.Sort.LotA
namespace Go.Proofs.YtbnafihigoekeaaGreatDoor
open Go.Sort
section
variable {α : Type} [Inhabited α]
def swapGo (a b : Nat) : Nat → Nat → Array α → Array α
  | 0, _, d => d
  | n + 1, i, d => swapGo a b n (i + 1) (swp d (a + i) (b + i))
def rotGo (m : Nat) : Nat → Nat → Nat → Array α → Array α
  | 0, _, _, d => d
  | g + 1, i, j, d =>
    if i = j then swapGo (m - i) m i 0 d
    else if j < i then rotGo m g (i - j) j (swapGo (m - i) m j 0 d)
    else rotGo m g i (j - i) (swapGo (m - i) (m + j - i) i 0 d)
def rotateS (d : Array α) (a m b : Nat) : Array α := rotGo m (b - a) (m - a) (b - m) d
def bsGo (f : Nat → Bool) : Nat → Nat → Nat → Nat
  | 0, i, _ => i
  | g + 1, i, j => if i < j then (if f ((i + j) / 2) then bsGo f g ((i + j) / 2 + 1) j else bsGo f g i ((i + j) / 2)) else i
def upGo : Nat → Nat → Array α → Array α
  | 0, _, d => d
  | n + 1, k, d => upGo n (k + 1) (swp d k (k + 1))
def downGo : Nat → Nat → Array α → Array α
  | 0, _, d => d
  | n + 1, k, d => downGo n (k - 1) (swp d k (k - 1))
section
variable (lt : α → α → Bool)
def mgLo (a m b : Nat) : Nat := if (a + b) / 2 < m then (a + b) / 2 + m - b else a
def mgHi (a m b : Nat) : Nat := if (a + b) / 2 < m then (a + b) / 2 else m
def mgAt (d : Array α) (a m b : Nat) : Nat :=
  bsGo (fun c => !lt d[(a + b) / 2 + m - 1 - c]! d[c]!) (mgHi a m b - mgLo a m b) (mgLo a m b) (mgHi a m b)
def symGo : Nat → Nat → Nat → Nat → Array α → Array α
  | 0, _, _, _, d => d
  | g + 1, a, m, b, d =>
    if m - a = 1 then upGo (bsGo (fun h => lt d[h]! d[a]!) (b - m) m b - 1 - a) a d
    else if b - m = 1 then downGo (m - bsGo (fun h => !lt d[m]! d[h]!) (m - a) a m) m d
    else
      let mid := (a + b) / 2
      let s := mgAt lt d a m b
      let e := mid + m - s
      let d1 := if s < m ∧ m < e then rotateS d s m e else d
      let d2 := if a < s ∧ s < mid then symGo g a s mid d1 else d1
      if mid < e ∧ e < b then symGo g mid e b d2 else d2
def blkGo : Nat → Nat → Array α → Array α
  | 0, _, d => d
  | g + 1, a, d => if a + 20 ≤ d.size then blkGo g (a + 20) (insertionSort lt d a (a + 20)) else insertionSort lt d a d.size
def mrgGo (s : Nat) : Nat → Nat → Array α → Array α
  | 0, _, d => d
  | g + 1, a, d => if a + 2 * s ≤ d.size then mrgGo s g (a + 2 * s) (symGo lt (2 * s) a (a + s) (a + 2 * s) d)
    else if a + s < d.size then symGo lt (2 * s) a (a + s) d.size d else d
def passGo : Nat → Nat → Array α → Array α
  | 0, _, d => d
  | g + 1, s, d => if s < d.size then passGo g (2 * s) (mrgGo lt s (d.size + 1) 0 d) else d
def stableA (d : Array α) : Array α := passGo lt (d.size + 1) 20 (blkGo lt (d.size + 1) 0 d)
end
theorem size_swapGo (a b : Nat) : ∀ (n i : Nat) (d : Array α), (swapGo a b n i d).size = d.size
  | 0, _, _ => rfl
  | n + 1, i, d => by rw [swapGo, size_swapGo a b n, size_swp]
theorem size_rotGo (m : Nat) : ∀ (g i j : Nat) (d : Array α), (rotGo m g i j d).size = d.size
  | 0, _, _, _ => rfl
  | g + 1, i, j, d => by
    rw [rotGo]
    split
    · rw [size_swapGo]
    · split
      · rw [size_rotGo m g, size_swapGo]
      · rw [size_rotGo m g, size_swapGo]
theorem size_rotateS (d : Array α) (a m b : Nat) : (rotateS d a m b).size = d.size := size_rotGo _ _ _ _ _
theorem size_upGo : ∀ (n k : Nat) (d : Array α), (upGo n k d).size = d.size
  | 0, _, _ => rfl
  | n + 1, k, d => by rw [upGo, size_upGo n, size_swp]
theorem size_downGo : ∀ (n k : Nat) (d : Array α), (downGo n k d).size = d.size
  | 0, _, _ => rfl
  | n + 1, k, d => by rw [downGo, size_downGo n, size_swp]
theorem bsGo_in (f : Nat → Bool) : ∀ (g i j : Nat), i ≤ j → i ≤ bsGo f g i j ∧ bsGo f g i j ≤ j
  | 0, i, j, h => ⟨Nat.le_refl _, h⟩
  | g + 1, i, j, h => by
    rw [bsGo]
    split
    · split
      · have := bsGo_in f g ((i + j) / 2 + 1) j (by omega)
        omega
      · have := bsGo_in f g i ((i + j) / 2) (by omega)
        omega
    · omega
theorem bsGo_end (f : Nat → Bool) (g i j : Nat) (h : ¬ i < j) : bsGo f g i j = i := by
  cases g with
  | zero => rfl
  | succ g => rw [bsGo, if_neg h]
theorem bsGo_go (f : Nat → Bool) (g i j : Nat) (h : i < j) (hf : f ((i + j) / 2) = true) : bsGo f (g + 1) i j = bsGo f g ((i + j) / 2 + 1) j := by rw [bsGo, if_pos h, if_pos hf]
theorem bsGo_no (f : Nat → Bool) (g i j : Nat) (h : i < j) (hf : f ((i + j) / 2) = false) : bsGo f (g + 1) i j = bsGo f g i ((i + j) / 2) := by rw [bsGo, if_pos h, if_neg (by rw [hf]; simp)]
theorem mg_in {a m b : Nat} (h1 : a < m) (h2 : m < b) : a ≤ mgLo a m b ∧ mgLo a m b ≤ mgHi a m b ∧ mgHi a m b ≤ m ∧ mgHi a m b ≤ (a + b) / 2 ∧ (a + b) / 2 + m ≤ mgLo a m b + b ∧ (a + b) / 2 ≤ (a + b) / 2 + m - mgHi a m b ∧ m ≤ (a + b) / 2 + m - mgHi a m b := by
  unfold mgLo mgHi
  split <;> omega
theorem mgAt_in (lt : α → α → Bool) (d : Array α) {a m b : Nat} (h1 : a < m) (h2 : m < b) : mgLo a m b ≤ mgAt lt d a m b ∧ mgAt lt d a m b ≤ mgHi a m b := bsGo_in _ _ _ _ (mg_in h1 h2).2.1
theorem size_symGo (lt : α → α → Bool) : ∀ (g a m b : Nat) (d : Array α), (symGo lt g a m b d).size = d.size
  | 0, _, _, _, _ => rfl
  | g + 1, a, m, b, d => by
    rw [symGo]
    split
    · rw [size_upGo]
    · split
      · rw [size_downGo]
      · dsimp only
        have h1 : ∀ s e, (if s < m ∧ m < e then rotateS d s m e else d).size = d.size := fun s e => by split; exact size_rotateS _ _ _ _; rfl
        split
        · rw [size_symGo lt g]
          split
          · rw [size_symGo lt g, h1]
          · rw [h1]
        · split
          · rw [size_symGo lt g, h1]
          · rw [h1]
theorem size_insInner (lt : α → α → Bool) (a : Nat) : ∀ (j : Nat) (d : Array α), (insInner lt a j d).size = d.size
  | 0, _ => rfl
  | j + 1, d => by
    rw [insInner]
    split
    · rw [size_insInner lt a j, size_swp]
    · rfl
theorem size_insOuter (lt : α → α → Bool) (a b : Nat) : ∀ (n i : Nat) (d : Array α), b - i ≤ n → (insOuter lt a b i d).size = d.size
  | 0, i, d, h => by rw [insOuter, if_neg (by omega)]
  | n + 1, i, d, h => by
    rw [insOuter]
    split
    · rw [size_insOuter lt a b n _ _ (by omega), size_insInner]
    · rfl
theorem size_insertionSort (lt : α → α → Bool) (d : Array α) (a b : Nat) : (insertionSort lt d a b).size = d.size := size_insOuter lt a b _ _ _ (Nat.le_refl _)
theorem size_blkGo (lt : α → α → Bool) : ∀ (g a : Nat) (d : Array α), (blkGo lt g a d).size = d.size
  | 0, _, _ => rfl
  | g + 1, a, d => by
    rw [blkGo]
    split
    · rw [size_blkGo lt g, size_insertionSort]
    · rw [size_insertionSort]
theorem size_mrgGo (lt : α → α → Bool) (s : Nat) : ∀ (g a : Nat) (d : Array α), (mrgGo lt s g a d).size = d.size
  | 0, _, _ => rfl
  | g + 1, a, d => by
    rw [mrgGo]
    split
    · rw [size_mrgGo lt s g, size_symGo]
    · split
      · rw [size_symGo]
      · rfl
theorem size_passGo (lt : α → α → Bool) : ∀ (g s : Nat) (d : Array α), (passGo lt g s d).size = d.size
  | 0, _, _ => rfl
  | g + 1, s, d => by
    rw [passGo]
    split
    · rw [size_passGo lt g, size_mrgGo]
    · rfl
theorem size_stableA (lt : α → α → Bool) (d : Array α) : (stableA lt d).size = d.size := by rw [stableA, size_passGo, size_blkGo]
end
end Go.Proofs.YtbnafihigoekeaaGreatDoor

/-
  Strings, read and cut. Nothing of the program. Lines, as mathematics (P5.1). Names of files (P11.1, P11.2), as mathematics. Texts, byte by byte: which one stands ahead. Plain mathematics. Names of files (the document's own): Parts, Path, Within, Clash, each by a contract. strings.Split at a separator of one byte: the shelf's contract of genSplit's core, laid at this program (its callees at one byte read no package-level variable); then the parts of a name. '[]byte(s)' as a slice that shows a string's bytes. The contracts of package path that the laws of stage 11 use, over the landed code. path.Right, at any length.
-/
import Derived.Test.YtbcpfakdmnccmaaDoorLaw2
import Derived.Laws.Strings2
import Derived.WalkKit
import Derived.Test.YtbcpfakdmnccmaaDoorHelpS
import Derived.Deep.LoopGhost
import Derived.Shelf.Strings.SplitCore
import Derived.Shelf.Strings.Search3
import Derived.Shelf.Strings.Count
import Derived.Lib.SplitLaws
import Derived.Test.YtbcpfakdmnccmaaDoorProg
import Derived.Laws.IdiomStrings
namespace Go.Proofs.YtbcpfakdmnccmaaDoor
open Go.RowKit

section
variable {P : Program}
theorem str_extract (s : List UInt8) (a b : Nat) : (⟨s.toArray⟩ : ByteArray).extract a b = ⟨((s.drop a).take (b - a)).toArray⟩ := by
  apply ByteArray.ext
  simp [ByteArray.data_extract]
/-- 's[i]'. -/
theorem run_str_at (t : TypeId) (ht : P.underlying t = some .string) {s : List UInt8} {i : Nat} {b : UInt8} (hb : s[i]? = some b) (wx : World) :
    (Instr.index t (.string ⟨s.toArray⟩) (.int .i64 (i : Nat))).run P wx = .ok (.int .u8 (b.toNat : Nat)) wx := by
  obtain ⟨hi, rfl⟩ := List.getElem?_eq_some_iff.1 hb
  rw [run_index_string (P := P) wx t _ _ _ ht]
  have hs : (⟨s.toArray⟩ : ByteArray).size = s.length := by simp [ByteArray.size]
  rw [dif_pos ⟨by omega, by rw [hs]; omega⟩]
  rfl
/-- 's[a:b]'. -/
theorem run_str_mid (t : TypeId) (ht : P.underlying t = some .string) (s : List UInt8) (a b : Nat) (hab : a ≤ b) (hb : b ≤ s.length) (wx : World) :
    (Instr.slice t (.string ⟨s.toArray⟩) (some (.int .i64 (a : Nat))) (some (.int .i64 (b : Nat))) none).run P wx = .ok (.string ⟨((s.drop a).take (b - a)).toArray⟩) wx := by
  have hs : (⟨s.toArray⟩ : ByteArray).size = s.length := by simp [ByteArray.size]
  rw [run_slice_string (P := P) wx t _ _ _ _ _ ht (by omega) (by omega) (by rw [hs]; omega), str_extract]
  simp
/-- 's[a:]'. -/
theorem run_str_from (t : TypeId) (ht : P.underlying t = some .string) (s : List UInt8) (a : Nat) (ha : a ≤ s.length) (wx : World) :
    (Instr.slice t (.string ⟨s.toArray⟩) (some (.int .i64 (a : Nat))) none none).run P wx = .ok (.string ⟨(s.drop a).toArray⟩) wx := by
  have hs : (⟨s.toArray⟩ : ByteArray).size = s.length := by simp [ByteArray.size]
  rw [run_slice_string_l (P := P) wx t _ ht _ _ (by omega) (by rw [hs]; omega), str_extract, hs, Int.toNat_natCast, List.take_of_length_le (by rw [List.length_drop]; omega)]
/-- 's[:b]'. -/
theorem run_str_to (t : TypeId) (ht : P.underlying t = some .string) (s : List UInt8) (b : Nat) (hb : b ≤ s.length) (wx : World) :
    (Instr.slice t (.string ⟨s.toArray⟩) none (some (.int .i64 (b : Nat))) none).run P wx = .ok (.string ⟨(s.take b).toArray⟩) wx := by
  have hs : (⟨s.toArray⟩ : ByteArray).size = s.length := by simp [ByteArray.size]
  rw [run_slice_string_h (P := P) wx t _ ht _ _ (by omega) (by rw [hs]; omega), str_extract, Int.toNat_natCast]
  simp
/-- 's + t'. -/
theorem run_str_add (x y : List UInt8) (h : x.length + y.length ≤ 9223372036854775807) (wx : World) :
    (Op.stringOp .add ⟨x.toArray⟩ ⟨y.toArray⟩).run P wx = .ok (.string ⟨(x ++ y).toArray⟩) wx := by
  have hx : (⟨x.toArray⟩ : ByteArray).size = x.length := by simp [ByteArray.size]
  have hy : (⟨y.toArray⟩ : ByteArray).size = y.length := by simp [ByteArray.size]
  have hm : ¬ (((x.length + y.length : Nat) : Int) > IntKind.i64.max) := by
    simp [IntKind.max, IntKind.signed, IntKind.bits]
    omega
  simp only [Op.stringOp, hx, hy, if_neg hm]
  rw [Sem.run_pure]
  congr 2
end
end Go.Proofs.YtbcpfakdmnccmaaDoor

namespace Go.Proofs.YtbcpfakdmnccmaaDoor

/-- a text's lines: each up to, and with, its byte 10 -/
def linesOf : List UInt8 → List (List UInt8)
  | [] => []
  | b :: s => if b = 10 then [b] :: linesOf s else match linesOf s with
    | [] => [[b]]
    | l :: ls => (b :: l) :: ls

theorem linesOf_line (x r : List UInt8) (h : ∀ b ∈ x, b ≠ 10) : linesOf (x ++ 10 :: r) = (x ++ [10]) :: linesOf r := by
  induction x with
  | nil => simp [linesOf]
  | cons b x ih =>
    have hb := h b (List.mem_cons_self ..)
    have := ih (fun c hc => h c (List.mem_cons_of_mem _ hc))
    simp only [List.cons_append, linesOf, if_neg hb, this]
theorem linesOf_last (x : List UInt8) (h : ∀ b ∈ x, b ≠ 10) (hx : x ≠ []) : linesOf x = [x] := by
  induction x with
  | nil => exact absurd rfl hx
  | cons b x ih =>
    have hb := h b (List.mem_cons_self ..)
    by_cases hx' : x = []
    · subst hx'
      simp [linesOf, hb]
    · have := ih (fun c hc => h c (List.mem_cons_of_mem _ hc)) hx'
      simp only [linesOf, if_neg hb, this]
theorem linesOf_join (s : List UInt8) : (linesOf s).flatten = s := by
  induction s with
  | nil => rfl
  | cons b s ih =>
    simp only [linesOf]
    split
    · simp [ih]
    · cases hl : linesOf s with
      | nil => rw [hl] at ih; simp at ih; subst ih; simp
      | cons l ls => rw [hl] at ih; simp at ih ⊢; exact ih
theorem linesOf_count (s : List UInt8) : (linesOf s).length ≤ s.length := by
  induction s with
  | nil => simp [linesOf]
  | cons b s ih =>
    simp only [linesOf]
    split
    · simpa using ih
    · cases hl : linesOf s with
      | nil => simp
      | cons l ls => rw [hl] at ih; simp at ih ⊢; omega
/-- behind a line's end lines begin anew -/
theorem linesOf_append (s t : List UInt8) : linesOf (s ++ 10 :: t) = linesOf (s ++ [10]) ++ linesOf t := by
  induction s with
  | nil => simp [linesOf]
  | cons b s ih =>
    simp only [List.cons_append, linesOf]
    split
    · simp [ih]
    · rw [ih]
      cases hl : linesOf (s ++ [10]) with
      | nil =>
        have := linesOf_join (s ++ [10])
        rw [hl] at this
        simp at this
      | cons l ls => simp
theorem linesOf_ne (s : List UInt8) : ∀ x ∈ linesOf s, x ≠ [] := by
  induction s with
  | nil => simp [linesOf]
  | cons b s ih =>
    simp only [linesOf]
    split
    · intro x hx
      rcases List.mem_cons.1 hx with rfl | h
      · simp
      · exact ih x h
    · cases hl : linesOf s with
      | nil => simp
      | cons l ls =>
        rw [hl] at ih
        intro x hx
        rcases List.mem_cons.1 hx with rfl | h
        · simp
        · exact ih x (List.mem_cons_of_mem _ h)

/-- How far a scan for lines has come: what is done; 'from' is where the line at hand begins; up to i it has no end. -/
structure LinesAt (s : List UInt8) (done : List (List UInt8)) (f i : Nat) : Prop where
  fi : f ≤ i
  il : i ≤ s.length
  cnt : done.length ≤ f
  all : linesOf s = done ++ linesOf (s.drop f)
  none : ∀ b ∈ (s.drop f).take (i - f), b ≠ 10
theorem LinesAt.start (s : List UInt8) : LinesAt s [] 0 0 := ⟨Nat.le_refl _, Nat.zero_le _, Nat.le_refl _, by simp, by simp⟩
theorem LinesAt.more {s : List UInt8} {done : List (List UInt8)} {f i : Nat} {b : UInt8} (h : LinesAt s done f i) (hb : s[i]? = some b) (hne : b ≠ 10) : LinesAt s done f (i + 1) := by
  have hi := (List.getElem?_eq_some_iff.1 hb).1
  have hfi := h.fi
  refine ⟨by omega, hi, h.cnt, h.all, ?_⟩
  have e : (s.drop f).take (i + 1 - f) = (s.drop f).take (i - f) ++ [b] := by
    rw [show i + 1 - f = i - f + 1 by omega]
    exact take_snoc (by rw [List.getElem?_drop, show f + (i - f) = i by omega]; exact hb)
  rw [e]
  intro c hc
  rcases List.mem_append.1 hc with h1 | h1
  · exact h.none c h1
  · simp at h1
    rw [h1]; exact hne
theorem LinesAt.line {s : List UInt8} {done : List (List UInt8)} {f i : Nat} (h : LinesAt s done f i) (hb : s[i]? = some 10) : LinesAt s (done ++ [(s.drop f).take (i + 1 - f)]) (i + 1) (i + 1) := by
  have hi := (List.getElem?_eq_some_iff.1 hb).1
  have hfi := h.fi
  have hcnt := h.cnt
  have e : (s.drop f).take (i + 1 - f) = (s.drop f).take (i - f) ++ [10] := by
    rw [show i + 1 - f = i - f + 1 by omega]
    exact take_snoc (by rw [List.getElem?_drop, show f + (i - f) = i by omega]; exact hb)
  have e2 : s.drop f = (s.drop f).take (i - f) ++ 10 :: s.drop (i + 1) := by
    conv => lhs; rw [← List.take_append_drop (i - f) (s.drop f)]
    rw [List.drop_drop, show f + (i - f) = i by omega, List.drop_eq_getElem_cons hi]
    obtain ⟨_, h10⟩ := List.getElem?_eq_some_iff.1 hb
    rw [h10]
  refine ⟨Nat.le_refl _, hi, by simp; omega, ?_, by simp⟩
  rw [h.all]
  conv => lhs; rw [e2]
  rw [linesOf_line _ _ h.none, e]
  simp
theorem LinesAt.stop {s : List UInt8} {done : List (List UInt8)} {f : Nat} (h : LinesAt s done f s.length) : linesOf s = if f < s.length then done ++ [s.drop f] else done := by
  have hn := h.none
  have hfi := h.fi
  rw [List.take_of_length_le (by rw [List.length_drop]; omega)] at hn
  rw [h.all]
  split
  · rw [linesOf_last _ hn (by
      intro e
      have := congrArg List.length e
      rw [List.length_drop] at this
      simp at this
      omega)]
  · rw [List.drop_of_length_le (by omega)]
    simp [linesOf]
end Go.Proofs.YtbcpfakdmnccmaaDoor

namespace Go.Proofs.YtbcpfakdmnccmaaDoor

/-- what stands between slashes; what of the first one is read already -/
def partsG : List UInt8 → List UInt8 → List (List UInt8)
  | cur, [] => [cur]
  | cur, c :: r => if c = 47 then cur :: partsG [] r else partsG (cur ++ [c]) r
def partsS (p : List UInt8) : List (List UInt8) := partsG [] p
def okByte (c : UInt8) : Bool := decide (33 ≤ c.toNat ∧ c.toNat ≤ 126)
def okPart (x : List UInt8) : Bool := x != [] && (x != [46] && x != [46, 46])
def rightS (p : List UInt8) : Bool := decide (1 ≤ p.length ∧ p.length ≤ 100) && (p.all okByte && (partsS p).all okPart)
def withinS (p d : List UInt8) : Bool := decide (d.length < p.length) && ((p.take d.length == d) && (p[d.length]? == some 47))
def clashS (a b : List UInt8) : Bool := a == b || (withinS a b || withinS b a)

theorem partsG_ne (cur p : List UInt8) : partsG cur p ≠ [] := by
  induction p generalizing cur with
  | nil => simp [partsG]
  | cons c r ih =>
    rw [partsG]
    split
    · simp
    · exact ih _
theorem partsG_len (cur p : List UInt8) : (partsG cur p).length ≤ p.length + 1 := by
  induction p generalizing cur with
  | nil => simp [partsG]
  | cons c r ih =>
    rw [partsG]
    split
    · have := ih []; simp; omega
    · have := ih (cur ++ [c]); simp; omega
theorem partsS_len (p : List UInt8) : (partsS p).length ≤ p.length + 1 := partsG_len [] p
/-- with slashes between they are the name -/
def joinSl : List (List UInt8) → List UInt8
  | [] => []
  | [x] => x
  | x :: y :: r => x ++ 47 :: joinSl (y :: r)
theorem joinSl_cons {x : List UInt8} {l : List (List UInt8)} (h : l ≠ []) : joinSl (x :: l) = x ++ 47 :: joinSl l := by
  cases l with
  | nil => exact absurd rfl h
  | cons y r => rfl
theorem partsG_noslash (cur x r : List UInt8) (h : ∀ c ∈ x, c ≠ 47) : partsG cur (x ++ r) = partsG (cur ++ x) r := by
  induction x generalizing cur with
  | nil => simp
  | cons c x ih =>
    rw [List.cons_append, partsG, if_neg (h c (by simp)), ih _ (fun d hd => h d (by simp [hd]))]
    simp
theorem partsS_join {l : List (List UInt8)} (hl : l ≠ []) (h : ∀ x ∈ l, ∀ c ∈ x, c ≠ 47) : partsS (joinSl l) = l := by
  induction l with
  | nil => exact absurd rfl hl
  | cons x l ih =>
    by_cases hn : l = []
    · subst hn
      have := partsG_noslash [] x [] (h x (by simp))
      rw [List.append_nil] at this
      rw [partsS, joinSl, this]
      simp [partsG]
    · rw [joinSl_cons hn, partsS, partsG_noslash [] x _ (h x (by simp)), partsG, if_pos rfl]
      have := ih hn fun y hy => h y (by simp [hy])
      rw [partsS] at this
      rw [this]
      simp
/-- behind a slash the parts are those of what stands behind it -/
theorem partsG_slash (cur a b : List UInt8) : partsG cur (a ++ 47 :: b) = partsG cur a ++ partsG [] b := by
  induction a generalizing cur with
  | nil => simp [partsG]
  | cons c a ih =>
    rw [List.cons_append, partsG, partsG]
    split
    · rw [ih]; simp
    · exact ih _
theorem partsS_slash (a b : List UInt8) : partsS (a ++ 47 :: b) = partsS a ++ partsS b := partsG_slash [] a b
/-- one part, and it has no slash -/
theorem partsG_one {cur x : List UInt8} (h : (partsG cur x).length = 1) : ∀ c ∈ x, c ≠ 47 := by
  induction x generalizing cur with
  | nil => intro c hc; cases hc
  | cons d x ih =>
    rw [partsG] at h
    split at h
    · rw [List.length_cons] at h
      exact absurd (List.eq_nil_of_length_eq_zero (by omega)) (partsG_ne [] x)
    · rename_i hd
      intro c hc
      rcases List.mem_cons.1 hc with rfl | hc
      · exact hd
      · exact ih h c hc
theorem joinSl_snoc {L : List (List UInt8)} (h : L ≠ []) (x : List UInt8) : joinSl (L ++ [x]) = joinSl L ++ 47 :: x := by
  induction L with
  | nil => exact absurd rfl h
  | cons y L ih =>
    by_cases hn : L = []
    · subst hn; rfl
    · rw [List.cons_append, joinSl_cons (by simp), ih hn, joinSl_cons hn]
      simp
theorem partsS_noslash {x : List UInt8} (h : ∀ c ∈ x, c ≠ 47) : partsS x = [x] := by
  have := partsG_noslash [] x [] h
  rw [List.append_nil] at this
  rw [partsS, this]
  rfl
/-- a right part of a name -/
def goodPart (x : List UInt8) : Bool := rightS x && decide ((partsS x).length = 1)
theorem goodPart_iff {x : List UInt8} (h : goodPart x = true) : (∀ c ∈ x, c ≠ 47) ∧ x ≠ [] ∧ x.all okByte = true ∧ okPart x = true := by
  unfold goodPart rightS at h
  simp only [Bool.and_eq_true, decide_eq_true_eq] at h
  obtain ⟨⟨⟨h1, _⟩, h2, h3⟩, h4⟩ := h
  have hs := partsG_one h4
  refine ⟨hs, fun e => by rw [e] at h1; simp at h1, h2, ?_⟩
  rw [partsS_noslash hs] at h3
  simpa using h3
theorem joinSl_bytes {l : List (List UInt8)} (h : ∀ x ∈ l, x.all okByte = true) : (joinSl l).all okByte = true := by
  induction l with
  | nil => rfl
  | cons x l ih =>
    by_cases hn : l = []
    · subst hn
      exact h x (by simp)
    · rw [joinSl_cons hn, List.all_append, h x (by simp), List.all_cons, ih fun y hy => h y (by simp [hy])]
      rfl
/-- right parts, with slashes between, are a right name -/
theorem right_join {l : List (List UInt8)} (hl : l ≠ []) (h : l.all goodPart = true) (hn : (joinSl l).length ≤ 100) : rightS (joinSl l) = true ∧ partsS (joinSl l) = l := by
  have hg : ∀ x ∈ l, goodPart x = true := fun x hx => List.all_eq_true.1 h x hx
  have hp := partsS_join hl fun x hx => (goodPart_iff (hg x hx)).1
  refine ⟨?_, hp⟩
  have h1 : 1 ≤ (joinSl l).length := by
    cases l with
    | nil => exact absurd rfl hl
    | cons x r =>
      have hx : 0 < x.length := List.length_pos_iff.2 (goodPart_iff (hg x (by simp))).2.1
      by_cases hr : r = []
      · subst hr; exact hx
      · rw [joinSl_cons hr]; simp; omega
  unfold rightS
  rw [decide_eq_true ⟨h1, hn⟩, joinSl_bytes fun x hx => (goodPart_iff (hg x hx)).2.2.1, hp]
  simp only [Bool.true_and, List.all_eq_true]
  exact fun x hx => (goodPart_iff (hg x hx)).2.2.2
theorem right_not {p : List UInt8} {x : List UInt8} (hx : x ∈ partsS p) (h : okPart x = false) : rightS p = false := by
  unfold rightS
  have : (partsS p).all okPart = false := by
    rw [List.all_eq_false]
    exact ⟨x, hx, by rw [h]; simp⟩
  rw [this]
  simp
theorem right_slash (s : List UInt8) : rightS (s ++ [47]) = false := right_not (x := []) (by rw [show s ++ [47] = s ++ 47 :: [] from rfl, partsS_slash]; exact List.mem_append_right _ (by simp [partsS, partsG])) rfl
theorem slash_right (s : List UInt8) : rightS (47 :: s) = false := right_not (x := []) (by rw [show 47 :: s = [] ++ 47 :: s from rfl, partsS_slash]; exact List.mem_append_left _ (by simp [partsS, partsG])) rfl
theorem right_dots (s : List UInt8) : rightS (s ++ [47, 46, 46, 47, 97]) = false := right_not (x := [46, 46]) (by rw [show s ++ [47, 46, 46, 47, 97] = s ++ 47 :: ([46, 46] ++ 47 :: [97]) from rfl, partsS_slash, partsS_slash]; exact List.mem_append_right _ (List.mem_append_left _ (by decide))) rfl
theorem right_byte (c : UInt8) : rightS [c] = (okByte c && (c != 46 && c != 47)) := by
  unfold rightS
  by_cases h : c = 47
  · subst h; rfl
  · rw [partsS_noslash (x := [c]) (by simpa using h)]
    by_cases h2 : c = 46
    · subst h2; rfl
    · have h3 : okPart [c] = true := by simp [okPart, h2]
      simp [h3, h, h2]
theorem right_long {m : Nat} (h : 90 ≤ m) : rightS (List.replicate m 97) = decide (m ≤ 100) := by
  have hs : ∀ c ∈ List.replicate m (97 : UInt8), c ≠ 47 := fun c hc => by rw [(List.mem_replicate.1 hc).2]; decide
  have h1 : (List.replicate m (97 : UInt8)).all okByte = true := List.all_eq_true.2 fun c hc => by rw [(List.mem_replicate.1 hc).2]; rfl
  have hne : ∀ y : List UInt8, y.length < 90 → (List.replicate m (97 : UInt8) == y) = false := fun y hy => by
    apply beq_false_of_ne
    intro e
    have := congrArg List.length e
    simp at this
    omega
  have h2 : okPart (List.replicate m (97 : UInt8)) = true := by
    unfold okPart bne
    rw [hne [] (by simp), hne [46] (by simp), hne [46, 46] (by simp)]
    rfl
  unfold rightS
  rw [partsS_noslash hs, h1, List.all_cons, h2, List.length_replicate]
  by_cases hm : m ≤ 100
  · rw [decide_eq_true hm, decide_eq_true ⟨by omega, hm⟩]; rfl
  · rw [decide_eq_false hm, decide_eq_false (fun h => hm h.2)]; rfl
theorem withinS_iff (p d : List UInt8) : withinS p d = true ↔ ∃ r, p = d ++ 47 :: r := by
  unfold withinS
  constructor
  · intro h
    rw [Bool.and_eq_true, Bool.and_eq_true] at h
    obtain ⟨_, h2, h3⟩ := h
    have h2 : p.take d.length = d := by simpa using h2
    have h3 : p[d.length]? = some 47 := by simpa using h3
    obtain ⟨q, e⟩ := List.getElem?_eq_some_iff.1 h3
    refine ⟨p.drop (d.length + 1), ?_⟩
    have := List.take_append_drop d.length p
    rw [List.drop_eq_getElem_cons q, e, h2] at this
    exact this.symm
  · rintro ⟨r, rfl⟩
    simp
theorem withinS_not {p d : List UInt8} (h : ¬ ∃ r, p = d ++ 47 :: r) : withinS p d = false := by
  cases hb : withinS p d with
  | false => rfl
  | true => exact absurd ((withinS_iff p d).1 hb) h
theorem beq_comm (a b : List UInt8) : (a == b) = (b == a) := by
  by_cases h : a = b
  · rw [h]
  · rw [show (a == b) = false by simpa using h, show (b == a) = false by simpa using fun e => h e.symm]
theorem clash_comm (a b : List UInt8) : clashS a b = clashS b a := by
  unfold clashS
  rw [Bool.or_comm (withinS a b), beq_comm]
theorem clash_self (a : List UInt8) : clashS a a = true := by simp [clashS]
theorem within_self (a : List UInt8) : withinS a a = false := withinS_not (by
  rintro ⟨r, h⟩
  have := congrArg List.length h
  simp at this)
theorem within_put (a b : List UInt8) : withinS (a ++ 47 :: b) a = true := (withinS_iff _ _).2 ⟨b, rfl⟩
theorem within_both (a b : List UInt8) : (withinS a b && withinS b a) = false := by
  rw [Bool.and_eq_false_iff]
  by_cases h : ∃ r, a = b ++ 47 :: r
  · right
    refine withinS_not ?_
    rintro ⟨r, h2⟩
    obtain ⟨s, h⟩ := h
    have h3 := congrArg List.length h
    have h4 := congrArg List.length h2
    simp at h3 h4
    omega
  · exact .inl (withinS_not h)
end Go.Proofs.YtbcpfakdmnccmaaDoor

namespace Go.Proofs.YtbcpfakdmnccmaaDoor

abbrev ltS (p q : List UInt8) : Bool := Op.bytesLess p q
theorem lt_irr : ∀ x : List UInt8, ltS x x = false
  | [] => rfl
  | a :: x => by
    have : ¬ a < a := by rw [UInt8.lt_iff_toNat_lt]; omega
    simp only [ltS, Op.bytesLess] at *
    rw [show Op.bytesLess x x = false from lt_irr x]
    simp [this]
theorem lt_cons (a b : UInt8) (x y : List UInt8) : ltS (a :: x) (b :: y) = true ↔ a < b ∨ (a = b ∧ ltS x y = true) := by simp [ltS, Op.bytesLess]
theorem lt_trans' : ∀ x y z : List UInt8, ltS x y = true → ltS y z = true → ltS x z = true
  | [], [], z, h, _ => by simp [ltS, Op.bytesLess] at h
  | [], _ :: _, [], _, h => by simp [ltS, Op.bytesLess] at h
  | [], _ :: _, _ :: _, _, _ => rfl
  | _ :: _, [], _, h, _ => by simp [ltS, Op.bytesLess] at h
  | _ :: _, _ :: _, [], _, h => by simp [ltS, Op.bytesLess] at h
  | a :: x, b :: y, c :: z, h, h' => by
    rw [lt_cons] at h h' ⊢
    simp only [UInt8.lt_iff_toNat_lt] at *
    rcases h with h | ⟨rfl, h⟩
    · rcases h' with h' | ⟨rfl, h'⟩
      · exact .inl (by omega)
      · exact .inl h
    · rcases h' with h' | ⟨rfl, h'⟩
      · exact .inl h'
      · exact .inr ⟨rfl, lt_trans' x y z h h'⟩
theorem lt_tri : ∀ x y : List UInt8, ltS x y = false → ltS y x = false → x = y
  | [], [], _, _ => rfl
  | [], _ :: _, h, _ => by simp [ltS, Op.bytesLess] at h
  | _ :: _, [], _, h => by simp [ltS, Op.bytesLess] at h
  | a :: x, b :: y, h, h' => by
    have h1 : ¬ ltS (a :: x) (b :: y) = true := by simp [h]
    have h2 : ¬ ltS (b :: y) (a :: x) = true := by simp [h']
    rw [lt_cons] at h1 h2
    simp only [UInt8.lt_iff_toNat_lt, not_or, not_and] at h1 h2
    have e : a = b := UInt8.toNat_inj.1 (by omega)
    subst e
    have h3 := h1.2 rfl
    have h4 := h2.2 rfl
    rw [lt_tri x y (by simpa using h3) (by simpa using h4)]
theorem lt_asym {x y : List UInt8} (h : ltS x y = true) : ltS y x = false := by
  cases e : ltS y x with
  | false => rfl
  | true => exact absurd (lt_trans' x y x h e) (by rw [lt_irr]; simp)
theorem lt_ne {x y : List UInt8} (h : ltS x y = true) : x ≠ y := fun e => by rw [e, lt_irr] at h; cases h
theorem lt_app (x : List UInt8) (a : UInt8) (y : List UInt8) : ltS x (x ++ a :: y) = true := by
  induction x with
  | nil => rfl
  | cons b x ih =>
    rw [List.cons_append, lt_cons]
    exact .inr ⟨rfl, ih⟩
end Go.Proofs.YtbcpfakdmnccmaaDoor

namespace Go.Proofs.YtbcpfakdmnccmaaDoor
open Go.RowKit

theorem one_str {w : World} {q : Nat} {t : TypeId} {fr : Nat × Nat} (x : List UInt8) (h : w.heap[q]? = some (.cells #[.string ⟨x.toArray⟩] t fr)) : Sl w (.slice (some ⟨q, 0, none⟩) 1 1) (strCells [x]) := Sl.ofBlock (cs := #[.string ⟨x.toArray⟩]) h
section
variable {w : World}
/-- a text more, behind a list of texts of the call's own -/
theorem wpList_append_tx {ops : Array Oper} {rest : List Oper} {o : Oper} {a : Act} {Q : Exit → Act → World → Prop} (hgd : o.guard = none) (s sx : Operand)
    (ho : o.op = .call { callee := .builtin .append, args := #[s, sx], argTypes := #[96, 96] })
    (base : Nat) (v : Value) (xs : List (List UInt8)) (x : List UInt8) (he : a.eval s = v) (hown : w.ownsRow base 9 1 v xs.length (strCells xs)) (q : Nat) (hx : a.eval sx = .slice (some ⟨q, 0, none⟩) 1 1) (hq : w.heap.size = q)
    (hlen : xs.length ≤ 4000000000) (hbase : base ≤ w.heap.size)
    (h : ∀ v' w', w'.ownsRow base 9 1 v' (xs ++ [x]).length (strCells (xs ++ [x])) → Below base w w' → wpList Tryd.prog ops Q rest (a.put o.dst v') w') : wpList Tryd.prog ops Q (o :: rest) a (w.alloc (.cells #[.string ⟨x.toArray⟩] 9)) := by
  subst hq
  obtain ⟨i0, hi0, hi1, hi2, hi3⟩ := info_parts Tryd.infoStr
  have hs := (one_str x (heap_alloc_new w (.cells #[.string ⟨x.toArray⟩] 9))).src (P := Tryd.prog) Tryd.underlying96 (str_one _)
  refine wpList_append_any _ hgd s sx _ _ ho base 9 i0 _ 1 16 Tryd.underlying96 hi0 hi1 hi2 hi3 rfl (by omega) v _ _ he (hown.alloc _) _ _ _ hx hs (by simp [strCells]; unfold maxLen; omega) (by simp [strCells]; omega) (by simp; omega) fun v' w' h2 h3 h4 => h v' w' ?_ ?_
  · rw [List.length_append, strCells_append]
    exact h2
  · exact ((Below.refl base w).alloc hbase _).grown h3 (by simp; omega) (fun j hj => (hown.lt j hj).1)
end
section
set_option maxRecDepth 100000
set_option maxHeartbeats 4000000
theorem RParts_any (p : List UInt8) (w : World) (hl : p.length ≤ 1000000) :
    Calls Tryd.prog 75 #[strV p] w fun e w' => ∃ u, e = .returned u ∧ w'.ownsRow w.heap.size 9 1 u (partsS p).length (strCells (partsS p)) ∧ Below w.heap.size w w' := by
  have HL := hid hl
  have hpl := partsS_len p
  have HPL := hid hpl
  obtain ⟨R, hR⟩ : ∃ R, partsS p = R := ⟨_, rfl⟩
  rw [hR] at HPL ⊢
  have HR := hid (show partsG [] p = R from hR)
  clear hl hpl hR
  unfold strV
  go_enter Tryd.func75, Tryd.ntmps75
  go_wp2_with fail
  go_loopg [3, 4, 5] p.length (fun g v f i wr => ∃ (k j : Nat) (X : List (List UInt8)), k ≤ p.length ∧ j ≤ k ∧ p.length - k = g ∧ i = .int .i64 k ∧ f = .int .i64 j ∧ Hid (X ++ partsG ((p.take k).drop j) (p.drop k) = R) ∧ Hid (wr.ownsRow w.heap.size 9 1 v X.length (strCells X)) ∧ Below w.heap.size w wr)
  case atStart => exact ⟨0, 0, [], Nat.zero_le _, Nat.le_refl _, rfl, rfl, rfl, hid (by simpa using HR.out), hid (World.ownsRow_nil _ _ _ _), Below.refl _ _⟩
  case round =>
    obtain ⟨k, j, X, hk, hj, rfl, rfl, rfl, HX, HN, hbel⟩ := hrel
    have hz := hbel.size
    have k0 : (0 : Int) ≤ (k : Int) := Int.natCast_nonneg _
    have j0 : (0 : Int) ≤ (j : Int) := Int.natCast_nonneg _
    obtain ⟨no, nc, rfl⟩ := owns_form HN.out
    have hxl : X.length ≤ 2000000 := by
      have h1 := HPL.out
      have h2 := HL.out
      rw [← HX.out, List.length_append] at h1
      omega
    by_cases hlt : k < p.length
    · have k1 : (k : Int) < (p.length : Int) := by omega
      have kw : IntKind.i64.wrap ((k : Int) + 1) = (k : Int) + 1 := IntWalk.i64_in _ (by have := HL.out; omega)
      obtain ⟨c, hc⟩ : ∃ c, p[k]? = some c := ⟨p[k], List.getElem?_eq_getElem hlt⟩
      have hix := run_str_at (P := Tryd.prog) 9 Tryd.underlying9 hc
      have hd : p.drop k = c :: p.drop (k + 1) := by
        obtain ⟨q, e⟩ := List.getElem?_eq_some_iff.1 hc
        rw [List.drop_eq_getElem_cons q, e]
      have ht : p.take (k + 1) = p.take k ++ [c] := by rw [List.take_add_one, hc]; rfl
      by_cases h47 : c = 47
      · have hb : (((c.toNat : Nat) : Int) == 47) = true := by rw [h47]; rfl
        have hsl := run_str_mid (P := Tryd.prog) 9 Tryd.underlying9 p j k hj hk
        have hcur : (p.drop j).take (k - j) = (p.take k).drop j := by rw [List.drop_take]
        rw [hcur] at hsl
        obtain ⟨x, hx⟩ : ∃ x, (p.take k).drop j = x := ⟨_, rfl⟩
        rw [hx] at hsl
        have HX2 := hid (show X ++ [x] ++ partsG ((p.take (k + 1)).drop (k + 1)) (p.drop (k + 1)) = R by
          rw [← HX.out, hd, hx, partsG, if_pos h47, List.drop_of_length_le (by rw [List.length_take]; omega)]
          simp)
        clear hd ht hcur hx h47 hc HX
        go_wp2_with (at_builtin; refine wpList_append_tx rfl (.tmp 16) (.tmp 21) rfl w.heap.size _ X x rfl HN.out _ rfl rfl (by omega) hz ?_; intro v5 w5 hO5 hb5; have HO5 := hid hO5; have hb6 := hbel.trans hb5; clear hO5 hb5)
        go_roundg (p.length - (k + 1))
        case measure => omega
        case rel => exact ⟨k + 1, k + 1, X ++ [x], by omega, Nat.le_refl _, rfl, by go_num, by go_num, HX2, HO5, hb6⟩
      · have hb : (((c.toNat : Nat) : Int) == 47) = false := by
          simp
          intro h
          exact h47 (UInt8.toNat_inj.1 (by rw [show UInt8.toNat 47 = 47 from rfl]; omega))
        have HX2 := hid (show X ++ partsG ((p.take (k + 1)).drop j) (p.drop (k + 1)) = R by
          rw [← HX.out, hd, partsG, if_neg h47, ht, List.drop_append_of_le_length (by rw [List.length_take]; omega)])
        clear hd ht h47 hc HX
        go_wp2_with fail
        go_roundg (p.length - (k + 1))
        case measure => omega
        case rel => exact ⟨k + 1, j, X, by omega, by omega, rfl, by go_num, rfl, HX2, HN, hbel⟩
    · obtain rfl : k = p.length := by omega
      have hneg : ¬ (p.length : Int) < (p.length : Int) := by omega
      have hsl := run_str_from (P := Tryd.prog) 9 Tryd.underlying9 p j hj
      obtain ⟨x, hx⟩ : ∃ x, p.drop j = x := ⟨_, rfl⟩
      rw [hx] at hsl
      have HX2 := hid (show X ++ [x] = R by
        rw [← HX.out, List.take_length, List.drop_length, hx]
        rfl)
      clear hx HX
      go_wp2_with (at_builtin; refine wpList_append_tx rfl (.tmp 25) (.tmp 29) rfl w.heap.size _ X x rfl HN.out _ rfl rfl (by omega) hz ?_; intro v5 w5 hO5 hb5; have HO5 := hid hO5; have hb6 := hbel.trans hb5; clear hO5 hb5)
      go_ret
      rw [← HX2.out]
      exact ⟨_, rfl, HO5.out, hb6⟩
theorem RPath_any (p : List UInt8) (w : World) :
    Calls Tryd.prog 56 #[strV p] w fun e w' => e = .returned (.bool (rightS p)) ∧ Below w.heap.size w w' := by
  unfold strV
  by_cases hn : 1 ≤ p.length ∧ p.length ≤ 100
  · have hr : rightS p = (p.all okByte && (partsS p).all okPart) := by unfold rightS; rw [decide_eq_true hn, Bool.true_and]
    have p1 : decide ((p.length : Int) < 1) = false := decide_eq_false (by omega)
    have p2 : decide (100 < (p.length : Int)) = false := decide_eq_false (by omega)
    have p3 : decide (p.length < 1) = false := decide_eq_false (by omega)
    have p4 : decide (100 < p.length) = false := decide_eq_false (by omega)
    have p5 : p ≠ [] := fun e => by rw [e] at hn; simp at hn
    have HN := hid hn
    have HP := hid (RParts_any p w (by omega))
    have hpl := partsS_len p
    obtain ⟨L, hL⟩ : ∃ L, partsS p = L := ⟨_, rfl⟩
    rw [hL] at HP hr hpl
    unfold strV at HP
    have HLL := hid (show L.length ≤ 1000 by omega)
    have HR := hid hr
    clear hn hr hL hpl
    go_enter Tryd.func56, Tryd.ntmps56
    go_wp2_with fail
    go_loopg [3] p.length (fun g i wr => ∃ k : Nat, k ≤ p.length ∧ p.length - k = g ∧ i = .int .i64 k ∧ Hid (p.all okByte = (p.drop k).all okByte) ∧ wr = w)
    case atStart => exact ⟨0, Nat.zero_le _, rfl, rfl, hid rfl, rfl⟩
    case round =>
      obtain ⟨k, hk, rfl, rfl, HA, rfl⟩ := hrel
      have k0 : (0 : Int) ≤ (k : Int) := Int.natCast_nonneg _
      by_cases hlt : k < p.length
      · have k1 : (k : Int) < (p.length : Int) := by omega
        have kw : IntKind.i64.wrap ((k : Int) + 1) = (k : Int) + 1 := IntWalk.i64_in _ (by have := HN.out; omega)
        obtain ⟨c, hc⟩ : ∃ c, p[k]? = some c := ⟨p[k], List.getElem?_eq_getElem hlt⟩
        have hix := run_str_at (P := Tryd.prog) 9 Tryd.underlying9 hc
        have hd : p.drop k = c :: p.drop (k + 1) := by
          obtain ⟨q, e⟩ := List.getElem?_eq_some_iff.1 hc
          rw [List.drop_eq_getElem_cons q, e]
        have HX := hid (show p.all okByte = (okByte c && (p.drop (k + 1)).all okByte) by rw [HA.out, hd]; rfl)
        by_cases h1 : c.toNat < 33
        · have b1 : decide (((c.toNat : Nat) : Int) < 33) = true := decide_eq_true (by omega)
          have b2 : decide (c.toNat < 33) = true := decide_eq_true h1
          have hz : okByte c = false := by unfold okByte; exact decide_eq_false (by omega)
          have HF := hid (show rightS p = false by rw [HR.out, HX.out, hz]; rfl)
          clear hd hc h1 hz HX HA
          go_wp2_with fail
          go_ret
          exact ⟨by rw [HF.out]; rfl, Below.refl _ _⟩
        · have b1 : decide (((c.toNat : Nat) : Int) < 33) = false := decide_eq_false (by omega)
          have b2 : decide (c.toNat < 33) = false := decide_eq_false h1
          by_cases h2 : 126 < c.toNat
          · have b3 : decide (126 < ((c.toNat : Nat) : Int)) = true := decide_eq_true (by omega)
            have b4 : decide (126 < c.toNat) = true := decide_eq_true h2
            have hz : okByte c = false := by unfold okByte; exact decide_eq_false (by omega)
            have HF := hid (show rightS p = false by rw [HR.out, HX.out, hz]; rfl)
            clear hd hc h1 h2 hz HX HA
            go_wp2_with fail
            go_ret
            exact ⟨by rw [HF.out]; rfl, Below.refl _ _⟩
          · have b3 : decide (126 < ((c.toNat : Nat) : Int)) = false := decide_eq_false (by omega)
            have b4 : decide (126 < c.toNat) = false := decide_eq_false h2
            have hz : okByte c = true := by unfold okByte; exact decide_eq_true (by omega)
            have HX2 := hid (show p.all okByte = (p.drop (k + 1)).all okByte by rw [HX.out, hz, Bool.true_and])
            clear hd hc h1 h2 hz HX HA
            go_wp2_with fail
            go_roundg (p.length - (k + 1))
            case measure => omega
            case rel => exact ⟨k + 1, by omega, rfl, by go_num, HX2, rfl⟩
      · obtain rfl : k = p.length := by omega
        have hneg : ¬ (p.length : Int) < (p.length : Int) := by omega
        have HR2 := hid (show rightS p = L.all okPart by rw [HR.out, HA.out, List.drop_length]; rfl)
        clear HR HA
        go_wp2_with fail
        refine HP.out.mono ?_
        rintro e w1 ⟨v, rfl, ho, hb1⟩
        obtain ⟨lo, lc, rfl⟩ := owns_form ho
        have HS := hid (Sl.ofOwns ho)
        have HB := hid hb1
        clear ho hb1
        go_wp2_with fail
        go_loopg [5] L.length (fun g i wx => ∃ k : Nat, k ≤ L.length ∧ L.length - k = g ∧ i = .int .i64 k ∧ Hid (L.all okPart = (L.drop k).all okPart) ∧ wx = w1)
        case atStart => exact ⟨0, Nat.zero_le _, rfl, rfl, hid rfl, rfl⟩
        case round =>
          obtain ⟨m, hm, rfl, rfl, HA, rfl⟩ := hrel
          have m0 : (0 : Int) ≤ (m : Int) := Int.natCast_nonneg _
          by_cases hlm : m < L.length
          · have m1 : (m : Int) < (L.length : Int) := by omega
            have mw : IntKind.i64.wrap ((m : Int) + 1) = (m : Int) + 1 := IntWalk.i64_in _ (by have := HLL.out; omega)
            obtain ⟨a, x, rfl, hc, hx⟩ := HS.out.strAt' (i := m) hlm
            have hd : L.drop m = x :: L.drop (m + 1) := by
              obtain ⟨q, e⟩ := List.getElem?_eq_some_iff.1 hx
              rw [List.drop_eq_getElem_cons q, e]
            have HX := hid (show L.all okPart = (okPart x && (L.drop (m + 1)).all okPart) by rw [HA.out, hd]; rfl)
            have bad : okPart x = false → Hid (rightS p = false) := fun hz => hid (by rw [HR2.out, HX.out, hz]; rfl)
            have good : okPart x = true → Hid (L.all okPart = (L.drop (m + 1)).all okPart) := fun hz => hid (by rw [HX.out, hz, Bool.true_and])
            clear hd hx HX HA
            by_cases h1 : x = []
            · subst h1
              have HF := bad rfl
              clear bad good
              go_wp2_with fail
              go_ret
              exact ⟨by rw [HF.out]; rfl, HB.out⟩
            · have b1 : (x == []) = false := by simpa using h1
              by_cases h2 : x = [46]
              · subst h2
                have HF := bad rfl
                clear bad good h1
                go_wp2_with fail
                go_ret
                exact ⟨by rw [HF.out]; rfl, HB.out⟩
              · have b2 : (x == [46]) = false := by simpa using h2
                by_cases h3 : x = [46, 46]
                · subst h3
                  have HF := bad rfl
                  clear bad good h1 h2
                  go_wp2_with fail
                  go_ret
                  exact ⟨by rw [HF.out]; rfl, HB.out⟩
                · have b3 : (x == [46, 46]) = false := by simpa using h3
                  have HX2 := good (by unfold okPart bne; rw [b1, b2, b3]; rfl)
                  clear bad good h2 h3
                  go_wp2_with fail
                  go_roundg (L.length - (m + 1))
                  case measure => omega
                  case rel => exact ⟨m + 1, by omega, rfl, by go_num, HX2, rfl⟩
          · obtain rfl : m = L.length := by omega
            have hneg2 : ¬ (L.length : Int) < (L.length : Int) := by omega
            have HF := hid (show rightS p = true by rw [HR2.out, HA.out, List.drop_length]; rfl)
            go_wp2_with fail
            go_ret
            exact ⟨by rw [HF.out]; rfl, HB.out⟩
  · have hr : rightS p = false := by unfold rightS; rw [decide_eq_false hn, Bool.false_and]
    have HR := hid hr
    by_cases h1 : p.length < 1
    · have p1 : decide ((p.length : Int) < 1) = true := decide_eq_true (by omega)
      have p3 : decide (p.length < 1) = true := decide_eq_true h1
      obtain rfl : p = [] := List.eq_nil_of_length_eq_zero (by omega)
      clear hn hr h1 p1 p3
      go_enter Tryd.func56, Tryd.ntmps56
      go_wp2_with fail
      go_ret
      exact ⟨rfl, Below.refl _ _⟩
    · have p1 : decide ((p.length : Int) < 1) = false := decide_eq_false (by omega)
      have p2 : decide (100 < (p.length : Int)) = true := decide_eq_true (by omega)
      have p3 : decide (p.length < 1) = false := decide_eq_false h1
      have p4 : decide (100 < p.length) = true := decide_eq_true (by omega)
      clear hn hr
      go_enter Tryd.func56, Tryd.ntmps56
      go_wp2_with fail
      go_ret
      exact ⟨by rw [HR.out]; rfl, Below.refl _ _⟩
theorem RWithin_any (p d : List UInt8) (w : World) :
    Calls Tryd.prog 76 #[strV p, strV d] w fun e w' => e = .returned (.bool (withinS p d)) ∧ w = w' := by
  unfold strV
  by_cases h1 : d.length < p.length
  · have b1 : decide ((d.length : Int) < (p.length : Int)) = true := decide_eq_true (by omega)
    have b2 : decide (d.length < p.length) = true := decide_eq_true h1
    have b3 : (d.length : Int) < (p.length : Int) := by omega
    obtain ⟨c, hc⟩ : ∃ c, p[d.length]? = some c := ⟨p[d.length], List.getElem?_eq_getElem h1⟩
    have hix := run_str_at (P := Tryd.prog) 9 Tryd.underlying9 hc
    have hsl := run_str_to (P := Tryd.prog) 9 Tryd.underlying9 p d.length (by omega)
    have hW : withinS p d = ((p.take d.length == d) && (c == 47)) := by
      unfold withinS
      rw [b2, Bool.true_and, hc]
      rfl
    obtain ⟨x, hx⟩ : ∃ x, p.take d.length = x := ⟨_, rfl⟩
    rw [hx] at hsl hW
    obtain ⟨W, hWW⟩ : ∃ W, withinS p d = W := ⟨_, rfl⟩
    rw [hWW] at hW ⊢
    by_cases h2 : x = d
    · have c1 : (x == d) = true := by simpa using h2
      by_cases h3 : c = 47
      · have c2 : (((c.toNat : Nat) : Int) == 47) = true := by rw [h3]; rfl
        have HW := hid (show W = true by rw [hW, c1, h3]; rfl)
        clear hW hWW hx hc h2 h3
        go_enter Tryd.func76, Tryd.ntmps76
        go_wp2_with fail
        go_ret
        exact ⟨by rw [HW.out]; rfl, rfl⟩
      · have c2 : (((c.toNat : Nat) : Int) == 47) = false := by
          simp
          intro h
          exact h3 (UInt8.toNat_inj.1 (by rw [show UInt8.toNat 47 = 47 from rfl]; omega))
        have HW := hid (show W = false by rw [hW, c1, Bool.true_and]; simpa using h3)
        clear hW hWW hx hc h2 h3
        go_enter Tryd.func76, Tryd.ntmps76
        go_wp2_with fail
        go_ret
        exact ⟨by rw [HW.out]; rfl, rfl⟩
    · have c1 : (x == d) = false := by simpa using h2
      have HW := hid (show W = false by rw [hW, c1]; rfl)
      clear hW hWW hx hc h2
      go_enter Tryd.func76, Tryd.ntmps76
      go_wp2_with fail
      go_ret
      exact ⟨by rw [HW.out]; rfl, rfl⟩
  · have b1 : decide ((d.length : Int) < (p.length : Int)) = false := decide_eq_false (by omega)
    have b2 : decide (d.length < p.length) = false := decide_eq_false h1
    have b3 : ¬ (d.length : Int) < (p.length : Int) := by omega
    have HW := hid (show withinS p d = false by unfold withinS; rw [b2]; rfl)
    go_enter Tryd.func76, Tryd.ntmps76
    go_wp2_with fail
    go_ret
    exact ⟨by rw [HW.out]; rfl, rfl⟩
theorem RClash_any (a b : List UInt8) (w : World) :
    Calls Tryd.prog 57 #[strV a, strV b] w fun e w' => e = .returned (.bool (clashS a b)) ∧ w = w' := by
  have H1 := hid (RWithin_any a b w)
  have H2 := hid (RWithin_any b a w)
  have hC : clashS a b = (a == b || (withinS a b || withinS b a)) := rfl
  obtain ⟨C, hCC⟩ : ∃ C, clashS a b = C := ⟨_, rfl⟩
  obtain ⟨x, hx⟩ : ∃ x, withinS a b = x := ⟨_, rfl⟩
  obtain ⟨y, hy⟩ : ∃ y, withinS b a = y := ⟨_, rfl⟩
  rw [hCC, hx, hy] at hC
  rw [hx] at H1
  rw [hy] at H2
  rw [hCC]
  unfold strV at H1 H2 ⊢
  clear hCC hx hy
  by_cases h : a = b
  · have c1 : (a == b) = true := by simpa using h
    have HC := hid (show C = true by rw [hC, c1]; rfl)
    clear hC h
    go_enter Tryd.func57, Tryd.ntmps57
    go_wp2_with fail
    go_ret
    exact ⟨by rw [HC.out]; rfl, rfl⟩
  · have c1 : (a == b) = false := by simpa using h
    rw [c1, Bool.false_or] at hC
    have HC := hid hC
    clear hC h
    go_enter Tryd.func57, Tryd.ntmps57
    cases x <;> (
      go_wp2_with (first
        | (go_at_call 76; with_reducible refine H1.out.mono ?_; rintro e _ ⟨rfl, rfl⟩)
        | (go_at_call 76; with_reducible refine H2.out.mono ?_; rintro e _ ⟨rfl, rfl⟩))
      go_ret
      exact ⟨by rw [HC.out]; rfl, rfl⟩)
end
end Go.Proofs.YtbcpfakdmnccmaaDoor

namespace Go.Proofs.YtbcpfakdmnccmaaDoor
open Go.RowKit Go.Shelf

def Tryd.lays221_ren : Go.Shelf.Ren := ⟨fun | 138 => 86 | 143 => 87 | 195 => 89 | 197 => 90 | 217 => 94 | 218 => 91 | 219 => 92 | 221 => 83 | 224 => 96 | 225 => 95 | 260 => 93 | 266 => 98 | 267 => 97 | 268 => 85 | 314 => 99 | n => n, fun | 0 => 0 | 3 => 3 | 4 => 4 | 5 => 5 | 9 => 9 | 21 => 21 | 31 => 96 | 46 => 52 | 51 => 116 | 105 => 109 | 119 => 112 | 138 => 114 | 139 => 115 | 146 => 117 | n => n, fun | 1 => 0 | 3 => 1 | 4 => 2 | n => n⟩
theorem Tryd.lays221 : Go.Proofs.Lays.n221 Tryd.prog Tryd.lays221_ren := {
  mixed := by kernel_rfl
  f138 := Tryd.func86.trans (congrArg some (by kernel_rfl))
  f143 := Tryd.func87.trans (congrArg some (by kernel_rfl))
  f195 := Tryd.func89.trans (congrArg some (by kernel_rfl))
  f197 := Tryd.func90.trans (congrArg some (by kernel_rfl))
  f217 := Tryd.func94.trans (congrArg some (by kernel_rfl))
  f218 := Tryd.func91.trans (congrArg some (by kernel_rfl))
  f219 := Tryd.func92.trans (congrArg some (by kernel_rfl))
  f221 := Tryd.func83.trans (congrArg some (by kernel_rfl))
  f224 := Tryd.func96.trans (congrArg some (by kernel_rfl))
  f225 := Tryd.func95.trans (congrArg some (by kernel_rfl))
  f260 := Tryd.func93.trans (congrArg some (by kernel_rfl))
  f266 := Tryd.func98.trans (congrArg some (by kernel_rfl))
  f267 := Tryd.func97.trans (congrArg some (by kernel_rfl))
  f268 := Tryd.func85.trans (congrArg some (by kernel_rfl))
  f314 := Tryd.func99.trans (congrArg some (by kernel_rfl))
  t0 := Tryd.underlying0
  a0 := Tryd.isAgg0
  z0 := Tryd.sizeOf0
  v0 := Tryd.zeroValue0
  t3 := Tryd.underlying3
  a3 := Tryd.isAgg3
  z3 := Tryd.sizeOf3
  v3 := Tryd.zeroValue3
  t4 := Tryd.underlying4
  a4 := Tryd.isAgg4
  z4 := Tryd.sizeOf4
  v4 := Tryd.zeroValue4
  t5 := Tryd.underlying5
  a5 := Tryd.isAgg5
  z5 := Tryd.sizeOf5
  v5 := Tryd.zeroValue5
  t9 := Tryd.underlying9
  a9 := Tryd.isAgg9
  z9 := Tryd.sizeOf9
  v9 := Tryd.zeroValue9
  t21 := Tryd.underlying21
  a21 := Tryd.isAgg21
  z21 := Tryd.sizeOf21
  v21 := Tryd.zeroValue21
  t31 := Tryd.underlying96
  a31 := Tryd.isAgg96
  z31 := Tryd.sizeOf96
  v31 := Tryd.zeroValue96
  t46 := Tryd.underlying52
  a46 := Tryd.isAgg52
  z46 := Tryd.sizeOf52
  v46 := Tryd.zeroValue52
  t51 := Tryd.underlying116
  a51 := Tryd.isAgg116
  z51 := Tryd.sizeOf116
  v51 := Tryd.zeroValue116
  t105 := Tryd.underlying109
  a105 := Tryd.isAgg109
  z105 := Tryd.sizeOf109
  v105 := Tryd.zeroValue109
  t119 := Tryd.underlying112
  a119 := Tryd.isAgg112
  z119 := Tryd.sizeOf112
  t138 := Tryd.underlying114
  a138 := Tryd.isAgg114
  z138 := Tryd.sizeOf114
  v138 := Tryd.zeroValue114
  t139 := Tryd.underlying115
  a139 := Tryd.isAgg115
  z139 := Tryd.sizeOf115
  v139 := Tryd.zeroValue115
  t146 := Tryd.underlying117
  a146 := Tryd.isAgg117
  z146 := Tryd.sizeOf117
  v146 := Tryd.zeroValue117
  g1 := by kernel_rfl
  g3 := by kernel_rfl
  g4 := by kernel_rfl }

/-! ### mathematics: cut at each byte c -/
def cutsG (c : UInt8) : List UInt8 → List UInt8 → List (List UInt8)
  | cur, [] => [cur]
  | cur, x :: r => if x = c then cur :: cutsG c [] r else cutsG c (cur ++ [x]) r
theorem index_none (c : UInt8) : ∀ cur : List UInt8, (∀ x ∈ cur, x ≠ c) → Lib.index cur [c] = -1
  | [], _ => by simp [Lib.index]
  | b :: l, h => by
    have ih := index_none c l fun x hx => h x (by simp [hx])
    have hb : ([c] : List UInt8).isPrefixOf (b :: l) = false := by simp [List.isPrefixOf, Ne.symm (h b (by simp))]
    rw [Lib.index, hb, ih]
    rfl
theorem index_at (c : UInt8) (r : List UInt8) : ∀ cur : List UInt8, (∀ x ∈ cur, x ≠ c) → Lib.index (cur ++ c :: r) [c] = (cur.length : Int)
  | [], _ => by simp [Lib.index, List.isPrefixOf]
  | b :: l, h => by
    have ih := index_at c r l fun x hx => h x (by simp [hx])
    have hb : ([c] : List UInt8).isPrefixOf (b :: (l ++ c :: r)) = false := by simp [List.isPrefixOf, Ne.symm (h b (by simp))]
    rw [List.cons_append, Lib.index, hb, ih]
    have hne : (((l.length : Nat) : Int) == -1) = false := beq_false_of_ne (by omega)
    simp [hne]
theorem splitK_cuts (c : UInt8) : ∀ (p cur : List UInt8), (∀ x ∈ cur, x ≠ c) → Lib.splitK [c] 0 (Lib.count (cur ++ p) [c]) (cur ++ p) = cutsG c cur p
  | [], cur, h => by
    rw [List.append_nil, Lib.count_miss (index_none c cur h)]
    rfl
  | x :: r, cur, h => by
    by_cases hx : x = c
    · subst hx
      have hi := index_at x r cur h
      rw [Lib.count_hit (by simp) hi, Nat.add_comm 1, Lib.splitK, hi]
      have hne : (((cur.length : Nat) : Int) == -1) = false := beq_false_of_ne (by omega)
      have hd : (cur ++ x :: r).drop (cur.length + [x].length) = r := by
        rw [show cur ++ x :: r = (cur ++ [x]) ++ r by simp, List.drop_left' (by simp)]
      have ih := splitK_cuts x r [] (by simp)
      rw [List.nil_append] at ih
      simp only [hne, Int.toNat_natCast, Nat.add_zero, Bool.false_eq_true, if_false]
      rw [hd, ih, cutsG, if_pos rfl, List.take_left' rfl]
    · have ih := splitK_cuts c r (cur ++ [x]) (by
        intro y hy
        rcases List.mem_append.1 hy with hy | hy
        · exact h y hy
        · rw [List.mem_singleton.1 hy]; exact hx)
      rw [List.append_assoc, List.singleton_append] at ih
      rw [ih, cutsG, if_neg hx]
theorem cutsG_len (c : UInt8) (cur p : List UInt8) : (cutsG c cur p).length ≤ p.length + 1 := by
  induction p generalizing cur with
  | nil => simp [cutsG]
  | cons x r ih =>
    rw [cutsG]
    split
    · have := ih []; simp; omega
    · have := ih (cur ++ [x]); simp; omega
theorem cuts_parts (cur p : List UInt8) : cutsG 47 cur p = partsG cur p := by
  induction p generalizing cur with
  | nil => rfl
  | cons x r ih => rw [cutsG, partsG, ih, ih]
theorem map_str (l : List ByteArray) : l.map Value.string = strCells (l.map fun b => b.data.toList) := by
  rw [strCells, List.map_map]
  rfl

section
set_option maxRecDepth 100000
set_option maxHeartbeats 2000000
/-- strings.Split at a separator of one byte. -/
theorem SSplit_any (p : List UInt8) (c : UInt8) (w : World) (hl : p.length ≤ 1000000) :
    Calls Tryd.prog 80 #[strV p, .string ⟨#[c]⟩] w fun e w' => ∃ u, e = .returned u ∧ Sl w' u (strCells (cutsG c [] p)) ∧ Below w.heap.size w w' := by
  have L := Tryd.lays221
  have hsz : (⟨p.toArray⟩ : ByteArray).size = p.length := by simp [ByteArray.size]
  have h1 : 1 ≤ (⟨#[c]⟩ : ByteArray).size := Nat.le_refl 1
  have hle := Lib.countB_le ⟨#[c]⟩ h1 p.length ⟨p.toArray⟩ (by omega)
  have hlen := Lib.splitB_all ⟨#[c]⟩ h1 0 _ ⟨p.toArray⟩ rfl
  have hC := (Any.strings_Count_one { L with } ⟨p.toArray⟩ c w).mono (R' := fun e w' => e = .returned (.int .i64 (Lib.countB ⟨p.toArray⟩ ⟨#[c]⟩)) ∧ w' = w) fun e w' ⟨he, hw⟩ => ⟨by
    rw [he]
    show _ = Ending.returned (Value.int .i64 ((Lib.count p [c] : Nat) : Int))
    rw [Lib.count_one]
    rfl, hw⟩
  have hI : ∀ (x : ByteArray) (cs : Array Value), x.size ≤ (⟨p.toArray⟩ : ByteArray).size → Calls Tryd.prog (Tryd.lays221_ren.f 143) #[.string x, .string ⟨#[c]⟩] (w.alloc (.cells cs (Tryd.lays221_ren.t 9))) fun e w' => e = .returned (.int .i64 (Lib.indexB x ⟨#[c]⟩)) ∧ w' = w.alloc (.cells cs (Tryd.lays221_ren.t 9)) := fun x cs _ =>
    (Any.strings_Index_one { L with } x c _).mono fun e w' ⟨he, hw⟩ => ⟨by
      rw [he]
      show _ = Ending.returned (Value.int .i64 (Lib.index x.data.toList [c]))
      rw [Lib.index_one], hw⟩
  have g := Any.strings_genSplit_core L (by kernel_rfl) ⟨p.toArray⟩ ⟨#[c]⟩ 0 (-1) (Lib.countB ⟨p.toArray⟩ ⟨#[c]⟩ + 1) w (by omega) h1 (Nat.zero_le _) hI hC (by decide) (by decide) (by rw [if_pos (by decide)]; omega)
  rw [Nat.add_sub_cancel, hlen] at g
  have e2 : Lib.cellsOf (Lib.splitB ⟨#[c]⟩ 0 (Lib.countB ⟨p.toArray⟩ ⟨#[c]⟩) ⟨p.toArray⟩) (Lib.countB ⟨p.toArray⟩ ⟨#[c]⟩ + 1) = (strCells (cutsG c [] p)).toArray := by
    rw [← hlen, Lib.cellsOf_full, map_str, Lib.splitB_data]
    have := splitK_cuts c p [] (by simp)
    rw [List.nil_append] at this
    exact congrArg (fun l => (strCells l).toArray) this
  have e3 : Lib.countB ⟨p.toArray⟩ ⟨#[c]⟩ + 1 = (strCells (cutsG c [] p)).toArray.size := by
    rw [← e2, ← hlen, Lib.cellsOf_full]
    simp
  rw [e2, e3] at g
  have G : Calls Tryd.prog 83 #[strV p, .string ⟨#[c]⟩, .int .i64 0, .int .i64 (-1)] w fun e w' => ∃ u, e = .returned u ∧ Hid (Sl w' u (strCells (cutsG c [] p))) ∧ Hid (Below w.heap.size w w') := by
    refine g.mono ?_
    rintro e w' ⟨rfl, rfl⟩
    refine ⟨_, rfl, hid ?_, hid ((Below.refl _ _).alloc (Nat.le_refl _) _)⟩
    have := Sl.ofBlock (heap_alloc_new w (.cells (strCells (cutsG c [] p)).toArray (Tryd.lays221_ren.t 9)))
    simpa using this
  have HG := hid G
  clear g G e2 e3 hC hI L hsz h1 hle hlen hl
  unfold strV at HG ⊢
  go_enter Tryd.func80, Tryd.ntmps80
  go_wp2_with fail
  refine HG.out.mono ?_
  rintro e w1 ⟨u, rfl, HS, HB⟩
  go_wp2_with fail
  go_ret
  exact ⟨u, rfl, HS.out, HB.out⟩
end
end Go.Proofs.YtbcpfakdmnccmaaDoor

namespace Go.Proofs.YtbcpfakdmnccmaaDoor
open Go.RowKit

section
variable {P : Program}
/-- '[]byte(s)'. -/
theorem conv_sl (w : World) (src dst e : TypeId) (l : List UInt8) (hs : P.underlying src = some .string) (hd : P.underlying dst = some (.slice e)) (he : P.underlying e = some (.int .u8)) :
    ∃ cap w', (convert src dst (.string ⟨l.toArray⟩)).run P w = .ok (.slice (some ⟨w.heap.size, 0, none⟩) l.length cap) w' ∧ Sl w' (.slice (some ⟨w.heap.size, 0, none⟩) l.length cap) (Lib.byteCells l) ∧ w'.heap.size = w.heap.size + 1 ∧ Below w.heap.size w w' := by
  have hr := run_bytes_of_string (P := P) w src dst e ⟨l.toArray⟩ hs hd he
  have hsz : (ByteArray.mk l.toArray).size = l.length := by
    show l.toArray.size = l.length
    simp
  rw [hsz] at hr
  have hge := grownCap_ge w l.length 0 e
  have hg := heap_alloc_new w.drew (.cells (bytesRow ⟨l.toArray⟩ (grownCap w l.length 0 e)) e ((bytesRow ⟨l.toArray⟩ (grownCap w l.length 0 e)).size, (bytesRow ⟨l.toArray⟩ (grownCap w l.length 0 e)).size + 1))
  rw [show w.drew.heap.size = w.heap.size from rfl] at hg
  refine ⟨_, _, hr, ⟨_, _, by rw [Lib.byteCells_length], (fun h => by cases h), by rw [Lib.byteCells_length]; exact hge, fun a ha j u hu => ?_⟩, by simp, ((Below.refl _ _).drew).alloc (Nat.le_refl _) _⟩
  cases ha
  rw [Addr.add_lit, Nat.zero_add]
  have hj : j < l.length := by
    have := (List.getElem?_eq_some_iff.1 hu).1
    rwa [Lib.byteCells_length] at this
  simp only [World.cell?, hg]
  show (bytesRow ⟨l.toArray⟩ (grownCap w l.length 0 e))[j]? = _
  rw [bytesRow, Array.getElem?_append_left (by simpa using hj), ← hu]
  simp [Lib.byteCells]
end
end Go.Proofs.YtbcpfakdmnccmaaDoor

namespace Go.Proofs.YtbcpfakdmnccmaaDoor
open Go.RowKit
section
/-- does s begin with p -/
def prefS (s p : List UInt8) : Bool := decide (p.length ≤ s.length) && s.take p.length == p
theorem within_pref (p d : List UInt8) : withinS p d = (prefS p d && prefS (p.drop d.length) [47]) := by
  unfold withinS prefS
  by_cases h1 : d.length < p.length
  · obtain ⟨c, hc⟩ : ∃ c, p[d.length]? = some c := ⟨p[d.length], List.getElem?_eq_getElem h1⟩
    have hd : p.drop d.length = c :: p.drop (d.length + 1) := by
      obtain ⟨q, e⟩ := List.getElem?_eq_some_iff.1 hc
      rw [List.drop_eq_getElem_cons q, e]
    rw [hd, hc, decide_eq_true h1, decide_eq_true (Nat.le_of_lt h1)]
    simp
  · rw [decide_eq_false h1]
    have : (p.drop d.length).length = 0 := by rw [List.length_drop]; omega
    rw [List.eq_nil_of_length_eq_zero this]
    simp
end
section
set_option maxRecDepth 100000
set_option maxHeartbeats 2000000
theorem PHasP_any (s p : List UInt8) (w : World) :
    Calls Tryd.prog 81 #[strV s, strV p] w fun e w' => e = .returned (.bool (prefS s p)) ∧ w = w' := by
  unfold strV
  by_cases h1 : p.length ≤ s.length
  · have b1 : decide ((p.length : Int) ≤ (s.length : Int)) = true := decide_eq_true (by omega)
    have b2 : decide (p.length ≤ s.length) = true := decide_eq_true h1
    have hsl := run_str_to (P := Tryd.prog) 9 Tryd.underlying9 s p.length h1
    have hW : prefS s p = (s.take p.length == p) := by
      unfold prefS
      rw [b2, Bool.true_and]
    obtain ⟨x, hx⟩ : ∃ x, s.take p.length = x := ⟨_, rfl⟩
    rw [hx] at hsl hW
    have HW := hid hW
    clear hW hx
    go_enter Tryd.func81, Tryd.ntmps81
    go_wp2_with fail
    go_ret
    exact ⟨by rw [HW.out]; rfl, rfl⟩
  · have b1 : decide ((p.length : Int) ≤ (s.length : Int)) = false := decide_eq_false (by omega)
    have b2 : decide (p.length ≤ s.length) = false := decide_eq_false h1
    have HW := hid (show prefS s p = false by unfold prefS; rw [b2]; rfl)
    go_enter Tryd.func81, Tryd.ntmps81
    go_wp2_with fail
    go_ret
    exact ⟨by rw [HW.out]; rfl, rfl⟩
theorem DHasP_any (s p : List UInt8) (w : World) :
    Calls Tryd.prog 73 #[strV s, strV p] w fun e w' => e = .returned (.bool (prefS s p)) ∧ w = w' := by
  have H := hid (PHasP_any s p w)
  unfold strV at H ⊢
  go_enter Tryd.func73, Tryd.ntmps73
  go_wp2_with fail
  refine H.out.mono ?_
  rintro e w1 ⟨rfl, rfl⟩
  go_wp2_with fail
  go_ret
  exact ⟨rfl, rfl⟩
theorem PCutP_any (s p : List UInt8) (w : World) :
    Calls Tryd.prog 88 #[strV s, strV p] w fun e w' => e = .returned (.tuple #[strV (if prefS s p then s.drop p.length else s), .bool (prefS s p)]) ∧ w = w' := by
  have H := hid (PHasP_any s p w)
  obtain ⟨b, hb⟩ : ∃ b, prefS s p = b := ⟨_, rfl⟩
  have hl : b = true → p.length ≤ s.length := fun h => by
    rw [← hb] at h
    unfold prefS at h
    exact of_decide_eq_true (Bool.and_eq_true _ _ ▸ h).1
  rw [hb] at H ⊢
  clear hb
  unfold strV at H ⊢
  cases b with
  | true =>
    have hsl := run_str_from (P := Tryd.prog) 9 Tryd.underlying9 s p.length (hl rfl)
    obtain ⟨x, hx⟩ : ∃ x, s.drop p.length = x := ⟨_, rfl⟩
    rw [hx] at hsl
    have HX := hid hx
    clear hl hx
    go_enter Tryd.func88, Tryd.ntmps88
    go_wp2_with fail
    refine H.out.mono ?_
    rintro e w1 ⟨rfl, rfl⟩
    go_wp2_with fail
    go_ret2
    exact ⟨by rw [← HX.out]; rfl, rfl⟩
  | false =>
    clear hl
    go_enter Tryd.func88, Tryd.ntmps88
    go_wp2_with fail
    refine H.out.mono ?_
    rintro e w1 ⟨rfl, rfl⟩
    go_wp2_with fail
    go_ret2
    exact ⟨rfl, rfl⟩
theorem DCutP_any (s p : List UInt8) (w : World) :
    Calls Tryd.prog 84 #[strV s, strV p] w fun e w' => e = .returned (.tuple #[strV (if prefS s p then s.drop p.length else s), .bool (prefS s p)]) ∧ w = w' := by
  obtain ⟨x, hx⟩ : ∃ x, (if prefS s p then s.drop p.length else s) = x := ⟨_, rfl⟩
  obtain ⟨b, hb⟩ : ∃ b, prefS s p = b := ⟨_, rfl⟩
  have H := PCutP_any s p w
  rw [hx, hb] at H ⊢
  have H := hid H
  clear hx hb
  unfold strV at H ⊢
  go_enter Tryd.func84, Tryd.ntmps84
  go_wp2_with fail
  refine H.out.mono ?_
  rintro e w1 ⟨rfl, rfl⟩
  go_wp2_with fail
  go_ret2
  exact ⟨rfl, rfl⟩
theorem DParts_any (p : List UInt8) (w : World) (hl : p.length ≤ 1000000) :
    Calls Tryd.prog 71 #[strV p] w fun e w' => ∃ u, e = .returned u ∧ Sl w' u (strCells (partsS p)) ∧ Below w.heap.size w w' := by
  have H := SSplit_any p 47 w hl
  rw [cuts_parts] at H
  have H := hid H
  clear hl
  unfold partsS
  unfold strV at H ⊢
  go_enter Tryd.func71, Tryd.ntmps71
  go_wp2_with fail
  refine H.out.mono ?_
  rintro e w1 ⟨u, rfl, ho, hb⟩
  have HS := hid ho
  have HB := hid hb
  clear ho hb
  go_wp2_with fail
  go_ret
  exact ⟨u, rfl, HS.out, HB.out⟩
theorem PName_any (x : List UInt8) (w : World) :
    Calls Tryd.prog 72 #[strV x] w fun e w' => e = .returned (.bool (okPart x)) ∧ w = w' := by
  have hY : okPart x = (!(x == []) && (!(x == [46]) && !(x == [46, 46]))) := rfl
  obtain ⟨Y, hYY⟩ : ∃ Y, okPart x = Y := ⟨_, rfl⟩
  rw [hYY] at hY ⊢
  unfold strV
  clear hYY
  by_cases h1 : x = []
  · have b1 : (x == []) = true := by simpa using h1
    have HY := hid (show Y = false by rw [hY, b1]; rfl)
    clear h1 hY
    go_enter Tryd.func72, Tryd.ntmps72
    go_wp2_with fail
    go_ret
    exact ⟨by rw [HY.out]; rfl, rfl⟩
  · have b1 : (x == []) = false := by simpa using h1
    by_cases h2 : x = [46]
    · have b2 : (x == [46]) = true := by simpa using h2
      have HY := hid (show Y = false by rw [hY, b1, b2]; rfl)
      clear h1 h2 hY
      go_enter Tryd.func72, Tryd.ntmps72
      go_wp2_with fail
      go_ret
      exact ⟨by rw [HY.out]; rfl, rfl⟩
    · have b2 : (x == [46]) = false := by simpa using h2
      by_cases h3 : x = [46, 46]
      · have b3 : (x == [46, 46]) = true := by simpa using h3
        have HY := hid (show Y = false by rw [hY, b1, b2, b3]; rfl)
        clear h1 h2 h3 hY
        go_enter Tryd.func72, Tryd.ntmps72
        go_wp2_with fail
        go_ret
        exact ⟨by rw [HY.out]; rfl, rfl⟩
      · have b3 : (x == [46, 46]) = false := by simpa using h3
        have HY := hid (show Y = true by rw [hY, b1, b2, b3]; rfl)
        clear h1 h2 h3 hY
        go_enter Tryd.func72, Tryd.ntmps72
        go_wp2_with fail
        go_ret
        exact ⟨by rw [HY.out]; rfl, rfl⟩
theorem PStand_any (p : List UInt8) (w : World) (hl : p.length ≤ 1000000) :
    Calls Tryd.prog 70 #[strV p] w fun e w' => e = .returned (.bool (p.all okByte)) ∧ Below w.heap.size w w' := by
  have HL := hid hl
  obtain ⟨cap, wc, hcv, hsc, hzc, hbc⟩ := conv_sl (P := Tryd.prog) w 9 32 5 p Tryd.underlying9 Tryd.underlying32 Tryd.underlying5
  have HS := hid hsc
  have HB := hid hbc
  clear hsc hbc hl
  unfold strV
  go_enter Tryd.func70, Tryd.ntmps70
  go_wp2_with fail
  go_loopg [9] p.length (fun g i wr => ∃ k : Nat, k ≤ p.length ∧ p.length - k = g ∧ i = .int .i64 k ∧ Hid (p.all okByte = (p.drop k).all okByte) ∧ wr = wc)
  case atStart => exact ⟨0, Nat.zero_le _, rfl, rfl, hid rfl, rfl⟩
  case round =>
    obtain ⟨k, hk, rfl, rfl, HA, rfl⟩ := hrel
    have k0 : (0 : Int) ≤ (k : Int) := Int.natCast_nonneg _
    by_cases hlt : k < p.length
    · have k1 : (k : Int) < (p.length : Int) := by omega
      have kw : IntKind.i64.wrap ((k : Int) + 1) = (k : Int) + 1 := IntWalk.i64_in _ (by have := HL.out; omega)
      obtain ⟨a, c, hae, hcell, hc⟩ := HS.out.byteAt' (i := k) hlt
      cases hae
      rw [Addr.add_lit, Nat.zero_add] at hcell
      have c256 := c.toNat_lt
      have cw : wrap64 ((c.toNat : Nat) : Int) = ((c.toNat : Nat) : Int) := IntWalk.wrap64_in _ (by omega)
      have cw' : IntKind.i64.wrap ((c.toNat : Nat) : Int) = ((c.toNat : Nat) : Int) := IntWalk.i64_in _ (by omega)
      clear c256
      have hd : p.drop k = c :: p.drop (k + 1) := by
        obtain ⟨q, e⟩ := List.getElem?_eq_some_iff.1 hc
        rw [List.drop_eq_getElem_cons q, e]
      have HX := hid (show p.all okByte = (okByte c && (p.drop (k + 1)).all okByte) by rw [HA.out, hd]; rfl)
      by_cases h1 : c.toNat < 33
      · have b1 : decide (((c.toNat : Nat) : Int) < 33) = true := decide_eq_true (by omega)
        have b2 : decide (c.toNat < 33) = true := decide_eq_true h1
        have hz : okByte c = false := by unfold okByte; exact decide_eq_false (by omega)
        have HF := hid (show p.all okByte = false by rw [HX.out, hz]; rfl)
        clear hd hc h1 hz HX HA
        go_wp2_with fail
        go_ret
        exact ⟨by rw [HF.out]; rfl, HB.out⟩
      · have b1 : decide (((c.toNat : Nat) : Int) < 33) = false := decide_eq_false (by omega)
        have b2 : decide (c.toNat < 33) = false := decide_eq_false h1
        by_cases h2 : 126 < c.toNat
        · have b3 : decide (126 < ((c.toNat : Nat) : Int)) = true := decide_eq_true (by omega)
          have b4 : decide (126 < c.toNat) = true := decide_eq_true h2
          have hz : okByte c = false := by unfold okByte; exact decide_eq_false (by omega)
          have HF := hid (show p.all okByte = false by rw [HX.out, hz]; rfl)
          clear hd hc h1 h2 hz HX HA
          go_wp2_with fail
          go_ret
          exact ⟨by rw [HF.out]; rfl, HB.out⟩
        · have b3 : decide (126 < ((c.toNat : Nat) : Int)) = false := decide_eq_false (by omega)
          have b4 : decide (126 < c.toNat) = false := decide_eq_false h2
          have hz : okByte c = true := by unfold okByte; exact decide_eq_true (by omega)
          have HX2 := hid (show p.all okByte = (p.drop (k + 1)).all okByte by rw [HX.out, hz, Bool.true_and])
          clear hd hc h1 h2 hz HX HA
          go_wp2_with fail
          go_roundg (p.length - (k + 1))
          case measure => omega
          case rel => exact ⟨k + 1, by omega, rfl, by go_num, HX2, rfl⟩
    · obtain rfl : k = p.length := by omega
      have hneg : ¬ (p.length : Int) < (p.length : Int) := by omega
      have HF := hid (show p.all okByte = true by rw [HA.out, List.drop_length]; rfl)
      clear HA
      go_wp2_with fail
      go_ret
      exact ⟨by rw [HF.out]; rfl, HB.out⟩
theorem DWithin_any (p d : List UInt8) (w : World) (_hp : p.length ≤ 1000000) (_hd : d.length ≤ 1000000) :
    Calls Tryd.prog 82 #[strV p, strV d] w fun e w' => e = .returned (.bool (withinS p d)) ∧ Below w.heap.size w w' := by
  have hY := within_pref p d
  obtain ⟨Y, hYY⟩ : ∃ Y, withinS p d = Y := ⟨_, rfl⟩
  rw [hYY] at hY ⊢
  have H1 := DCutP_any p d w
  obtain ⟨b, hb⟩ : ∃ b, prefS p d = b := ⟨_, rfl⟩
  rw [hb] at hY H1
  clear hYY hb _hp _hd
  cases b with
  | true =>
    rw [if_pos rfl] at H1
    have H2 := DHasP_any (p.drop d.length) [47] w
    obtain ⟨x, hx⟩ : ∃ x, p.drop d.length = x := ⟨_, rfl⟩
    rw [hx] at hY H1 H2
    obtain ⟨y, hy⟩ : ∃ y, prefS x [47] = y := ⟨_, rfl⟩
    rw [hy] at hY H2
    have HY := hid hY
    have H1 := hid H1
    have H2 := hid H2
    clear hx hy hY
    unfold strV at H1 H2 ⊢
    go_enter Tryd.func82, Tryd.ntmps82
    go_wp2_with (first
      | (go_at_call 84; with_reducible refine H1.out.mono ?_; rintro e _ ⟨rfl, rfl⟩)
      | (go_at_call 73; with_reducible refine H2.out.mono ?_; rintro e _ ⟨rfl, rfl⟩))
    go_ret
    exact ⟨by rw [HY.out]; rfl, Below.refl _ _⟩
  | false =>
    rw [if_neg (by decide)] at H1
    have HY := hid (show Y = false by rw [hY]; rfl)
    have H1 := hid H1
    clear hY
    unfold strV at H1 ⊢
    go_enter Tryd.func82, Tryd.ntmps82
    go_wp2_with (first
      | (go_at_call 84; with_reducible refine H1.out.mono ?_; rintro e _ ⟨rfl, rfl⟩))
    go_ret
    exact ⟨by rw [HY.out]; rfl, Below.refl _ _⟩
theorem DClash_any (p d : List UInt8) (w : World) (hp : p.length ≤ 1000000) (hd : d.length ≤ 1000000) :
    Calls Tryd.prog 74 #[strV p, strV d] w fun e w' => e = .returned (.bool (clashS p d)) ∧ Below w.heap.size w w' := by
  have H1 := hid fun wx => DWithin_any p d wx hp hd
  have H2 := hid fun wx => DWithin_any d p wx hd hp
  have hC : clashS p d = (p == d || (withinS p d || withinS d p)) := rfl
  obtain ⟨C, hCC⟩ : ∃ C, clashS p d = C := ⟨_, rfl⟩
  obtain ⟨x, hx⟩ : ∃ x, withinS p d = x := ⟨_, rfl⟩
  obtain ⟨y, hy⟩ : ∃ y, withinS d p = y := ⟨_, rfl⟩
  rw [hCC, hx, hy] at hC
  rw [hx] at H1
  rw [hy] at H2
  rw [hCC]
  unfold strV at H1 H2 ⊢
  clear hCC hx hy hp hd
  by_cases h : p = d
  · have c1 : (p == d) = true := by simpa using h
    have HC := hid (show C = true by rw [hC, c1]; rfl)
    clear hC h
    go_enter Tryd.func74, Tryd.ntmps74
    go_wp2_with fail
    go_ret
    exact ⟨by rw [HC.out]; rfl, Below.refl _ _⟩
  · have c1 : (p == d) = false := by simpa using h
    rw [c1, Bool.false_or] at hC
    have HC := hid hC
    clear hC h
    go_enter Tryd.func74, Tryd.ntmps74
    cases x <;> (
      go_wp2_with (first
        | (go_at_call 82; with_reducible refine (H1.out _).mono ?_; rintro e w1 ⟨rfl, hb1⟩; have HB1 := hid hb1; clear hb1)
        | (go_at_call 82; with_reducible refine (H2.out _).mono ?_; rintro e w2 ⟨rfl, hb2⟩; have HB1 := hid (below_step HB1.out hb2 HB1.out.size); clear hb2))
      go_ret
      exact ⟨by rw [HC.out]; rfl, HB1.out⟩)
theorem DRightP_any (p : List UInt8) (w : World) (hl : p.length ≤ 1000000) :
    Calls Tryd.prog 51 #[strV p] w fun e w' => e = .returned (.bool (rightS p)) ∧ Below w.heap.size w w' := by
  have hr : rightS p = (decide (p.length ≤ 100) && (p.all okByte && (partsS p).all okPart)) := by
    unfold rightS
    by_cases h0 : p.length = 0
    · obtain rfl := List.eq_nil_of_length_eq_zero h0
      rfl
    · by_cases h1 : p.length ≤ 100
      · rw [decide_eq_true h1, decide_eq_true ⟨by omega, h1⟩]
      · rw [decide_eq_false h1, decide_eq_false (fun h => h1 h.2)]
  obtain ⟨Y, hYY⟩ : ∃ Y, rightS p = Y := ⟨_, rfl⟩
  rw [hYY] at hr ⊢
  clear hYY
  have H1 := PStand_any p w hl
  obtain ⟨b, hb⟩ : ∃ b, p.all okByte = b := ⟨_, rfl⟩
  rw [hb] at hr H1
  clear hb
  have H1 := hid H1
  have H2 := hid fun wx => DParts_any p wx hl
  have hpl := partsS_len p
  obtain ⟨L, hL⟩ : ∃ L, partsS p = L := ⟨_, rfl⟩
  rw [hL] at H2 hr hpl
  have HLL := hid (show L.length ≤ 1000001 by omega)
  clear hL hpl hl
  unfold strV at H1 H2 ⊢
  by_cases hn : p.length ≤ 100
  · have p2 : decide (100 < (p.length : Int)) = false := decide_eq_false (by omega)
    have p4 : decide (100 < p.length) = false := decide_eq_false (by omega)
    rw [decide_eq_true hn, Bool.true_and] at hr
    cases b with
    | false =>
      have HY := hid (show Y = false by rw [hr]; rfl)
      clear hr hn
      go_enter Tryd.func51, Tryd.ntmps51
      go_wp2_with (go_at_call 70; with_reducible refine H1.out.mono ?_; rintro e w1 ⟨rfl, hb1⟩; have HB1 := hid hb1; clear hb1)
      go_ret
      exact ⟨by rw [HY.out]; rfl, HB1.out⟩
    | true =>
      have HY := hid (show Y = L.all okPart by rw [hr]; rfl)
      clear hr hn
      go_enter Tryd.func51, Tryd.ntmps51
      go_wp2_with (first
        | (go_at_call 70; with_reducible refine H1.out.mono ?_; rintro e w1 ⟨rfl, hb1⟩; have HB1 := hid hb1; clear hb1)
        | (go_at_call 71; with_reducible refine (H2.out _).mono ?_; rintro e w2 ⟨u, rfl, hs2, hb2⟩; obtain ⟨lo, lc, rfl⟩ := hs2.form; have HS := hid hs2; have HB := hid (below_step HB1.out hb2 HB1.out.size); clear hs2 hb2; rw [strCells_length]))
      go_loopg [16] L.length (fun g i wx => ∃ k : Nat, k ≤ L.length ∧ L.length - k = g ∧ i = .int .i64 k ∧ Hid (L.all okPart = (L.drop k).all okPart) ∧ wx = w2)
      case atStart => exact ⟨0, Nat.zero_le _, rfl, rfl, hid rfl, rfl⟩
      case round =>
        obtain ⟨m, hm, rfl, rfl, HA, rfl⟩ := hrel
        have m0 : (0 : Int) ≤ (m : Int) := Int.natCast_nonneg _
        by_cases hlm : m < L.length
        · have m1 : (m : Int) < (L.length : Int) := by omega
          have mw : IntKind.i64.wrap ((m : Int) + 1) = (m : Int) + 1 := IntWalk.i64_in _ (by have := HLL.out; omega)
          obtain ⟨a, x, rfl, hc, hx⟩ := HS.out.strAt' (i := m) hlm
          have hd : L.drop m = x :: L.drop (m + 1) := by
            obtain ⟨q, e⟩ := List.getElem?_eq_some_iff.1 hx
            rw [List.drop_eq_getElem_cons q, e]
          have hX : L.all okPart = (okPart x && (L.drop (m + 1)).all okPart) := by rw [HA.out, hd]; rfl
          have H3 := PName_any x wr
          obtain ⟨y, hy⟩ : ∃ y, okPart x = y := ⟨_, rfl⟩
          rw [hy] at hX H3
          have H3 := hid H3
          unfold strV at H3
          cases y with
          | false =>
            have HF := hid (show Y = false by rw [HY.out, hX]; rfl)
            clear hd hx hX HA hy
            go_wp2_with (go_at_call 72; with_reducible refine H3.out.mono ?_; rintro e _ ⟨rfl, rfl⟩)
            go_ret
            exact ⟨by rw [HF.out]; rfl, HB.out⟩
          | true =>
            have HX2 := hid (show L.all okPart = (L.drop (m + 1)).all okPart by rw [hX, Bool.true_and])
            clear hd hx hX HA hy
            go_wp2_with (go_at_call 72; with_reducible refine H3.out.mono ?_; rintro e _ ⟨rfl, rfl⟩)
            go_roundg (L.length - (m + 1))
            case measure => omega
            case rel => exact ⟨m + 1, by omega, rfl, by go_num, HX2, rfl⟩
        · obtain rfl : m = L.length := by omega
          have hneg2 : ¬ (L.length : Int) < (L.length : Int) := by omega
          have HF := hid (show Y = true by rw [HY.out, HA.out, List.drop_length]; rfl)
          go_wp2_with fail
          go_ret
          exact ⟨by rw [HF.out]; rfl, HB.out⟩
  · have p2 : decide (100 < (p.length : Int)) = true := decide_eq_true (by omega)
    have p4 : decide (100 < p.length) = true := decide_eq_true (by omega)
    have HY := hid (show Y = false by rw [hr, decide_eq_false hn]; rfl)
    clear hr hn
    go_enter Tryd.func51, Tryd.ntmps51
    go_wp2_with fail
    go_ret
    exact ⟨by rw [HY.out]; rfl, Below.refl _ _⟩
end
end Go.Proofs.YtbcpfakdmnccmaaDoor

namespace Go.Proofs.YtbcpfakdmnccmaaDoor
open Go.RowKit

section
set_option maxRecDepth 100000
set_option maxHeartbeats 2000000
theorem DRightQ_any (p : List UInt8) (w : World) :
    Calls Tryd.prog 51 #[strV p] w fun e w' => e = .returned (.bool (rightS p)) ∧ Below w.heap.size w w' := by
  by_cases hn : p.length ≤ 100
  · exact DRightP_any p w (by omega)
  · have p2 : decide (100 < (p.length : Int)) = true := decide_eq_true (by omega)
    have p4 : decide (100 < p.length) = true := decide_eq_true (by omega)
    have HY := hid (show rightS p = false by unfold rightS; rw [decide_eq_false (fun h => hn h.2)]; rfl)
    clear hn
    unfold strV
    go_enter Tryd.func51, Tryd.ntmps51
    go_wp2_with fail
    go_ret
    exact ⟨by rw [HY.out]; rfl, Below.refl _ _⟩
end
end Go.Proofs.YtbcpfakdmnccmaaDoor

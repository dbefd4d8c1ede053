/-
  Package blame: what a script does to the places of lines, and places as numbers.
-/
import Derived.Test.YtikemkgedmbijaaBlN
import Derived.Test.YtikemkgedmbijaaEdit
namespace Go.Proofs.Ytikemkgedmbijaa
open Go.RowKit

/-- Places, as a slice's cells. -/
def plCells (l : List Nat) : List Value := l.map fun (n : Nat) => Value.int .u32 (n : Int)
theorem plCells_length (l : List Nat) : (plCells l).length = l.length := by simp [plCells]
theorem plCells_append (l m : List Nat) : plCells (l ++ m) = plCells l ++ plCells m := by simp [plCells]
theorem plCells_drop (l : List Nat) (n : Nat) : plCells (l.drop n) = (plCells l).drop n := by simp [plCells]
theorem Sl.plAt' {w : World} {ao : Option Addr} {n cap : Nat} {l : List Nat} (h : Sl w (.slice ao n cap) (plCells l)) {i : Nat} (hi : i < l.length) :
    ∃ a b, ao = some a ∧ w.cell? (a.add i) = some (.int .u32 ((b : Nat) : Int)) ∧ l[i]? = some b := Sl.elemAt' (f := fun (n : Nat) => Value.int .u32 (n : Int)) h hi
theorem Try.infoPl : (Try.prog.info? 41).map (fun i => (i.zero, i.size, i.bytes)) = some (some (.int .u32 0), 1, 4) := by kernel_rfl
theorem cutP_from {w : World} {v : Value} {xs : List Nat} (h : Sl w v (plCells xs)) (n : Nat) (hn : n ≤ xs.length) :
    ∃ ao c, (∀ wx, (Instr.slice 36 v (some (.int .i64 n)) none none).run Try.prog wx = .ok (.slice ao (xs.length - n) c) wx) ∧ Sl w (.slice ao (xs.length - n) c) (plCells (xs.drop n)) := by
  obtain ⟨j0, hj0, hj1, hj2, hj3⟩ := info_parts Try.infoPl
  obtain ⟨v', h1, h2, _, ao, c, rfl⟩ := run_slice_from 36 41 Try.underlying36 hj0 hj2 h n (by rw [plCells_length]; exact hn)
  rw [plCells_length] at h1 h2
  exact ⟨ao, c, h1, by rw [plCells_drop]; exact h2⟩
section
variable {w : World}
theorem wp_append_pl {o : Oper} {a : Act} {K : Act → World → Prop} {Q : Exit → Act → World → Prop} (s sx : Operand)
    (ho : o.op = .call { callee := .builtin .append, args := #[s, sx], argTypes := #[36, 36] })
    (base : Nat) (v : Value) (xs : List Nat) (x : Nat) (he : a.eval s = v) (hown : w.ownsRow base 41 1 v xs.length (plCells xs))
    (hx : a.eval sx = .slice (some ⟨w.heap.size, 0, none⟩) 1 1) (hlen : xs.length ≤ 4000000000) (hbase : base ≤ w.heap.size)
    (h : ∀ v' w', w'.ownsRow base 41 1 v' (xs ++ [x]).length (plCells (xs ++ [x])) → Below base w w' → (∀ b, b < w.heap.size → v.ownBlock ≠ some b → w'.heap[b]? = w.heap[b]?) → K (a.put o.dst v') w') : o.wp Try.prog a (w.alloc (.cells #[.int .u32 (x : Int)] 41)) K Q := by
  obtain ⟨i0, hi0, hi1, hi2, hi3⟩ := info_parts Try.infoPl
  have hz : (w.alloc (.cells #[.int .u32 (x : Int)] 41)).heap.size = w.heap.size + 1 := by simp
  refine wp_append_any _ s sx _ _ ho base 41 i0 _ 1 4 Try.underlying36 hi0 hi1 hi2 hi3 rfl (by omega) v _ _ he (hown.alloc _) _ 1 [.int .u32 (x : Int)] hx
    (Src.ofSlice _ Try.underlying36 ⟨w.heap.size, 0, none⟩ 1 1 [.int .u32 (x : Int)] (by rfl) (World.news_of_block (cs := #[.int .u32 (x : Int)]) (t := 41) (fr := (0, 0)) (heap_alloc_new w _)) (by simp [Value.oneCell'])) (by unfold maxLen; omega) (by omega) (by omega) fun v' w' q1 q2 q3 => h v' w' ?_ ?_ fun b hb hne => (q2.block b (by omega) (fun e => hne e.symm)).trans (Below.heap_alloc w _ b hb)
  · rw [List.length_append, plCells_append]
    exact q1
  · exact ((Below.refl base w).alloc hbase _).grown q2 (by omega) (fun j hj => (hown.lt j hj).1)
theorem wpList_append_pl {ops : Array Oper} {rest : List Oper} {o : Oper} {a : Act} {Q : Exit → Act → World → Prop} (hgd : o.guard = none) (s sx : Operand)
    (ho : o.op = .call { callee := .builtin .append, args := #[s, sx], argTypes := #[36, 36] })
    (base : Nat) (v : Value) (xs : List Nat) (x : Nat) (he : a.eval s = v) (hown : w.ownsRow base 41 1 v xs.length (plCells xs))
    (g : Nat) (hg : w.heap.size = g) (hx : a.eval sx = .slice (some ⟨g, 0, none⟩) 1 1) (hlen : xs.length ≤ 4000000000) (hbase : base ≤ w.heap.size)
    (h : ∀ v' w', w'.ownsRow base 41 1 v' (xs ++ [x]).length (plCells (xs ++ [x])) → Below base w w' → (∀ b, b < w.heap.size → v.ownBlock ≠ some b → w'.heap[b]? = w.heap[b]?) → wpList Try.prog ops Q rest (a.put o.dst v') w') : wpList Try.prog ops Q (o :: rest) a (w.alloc (.cells #[.int .u32 (x : Int)] 41)) :=
  by
  subst hg
  exact wpList_plain hgd fun _ hK => wp_append_pl s sx ho base v xs x he hown hx hlen hbase fun v' w' h2 h3 h4 => hK _ _ (h v' w' h2 h3 h4)
end

section
set_option maxRecDepth 100000
set_option maxHeartbeats 4000000
theorem DFollow_any (vf vs : Value) (O : List Nat) (s : List (Int × List UInt8)) (v : Nat) (w : World) (hf : Sl w vf (plCells O)) (hs : SlE w vs s) (hK : Kinds s) (hA : (sideS 2 s).length = O.length) (hsl : s.length ≤ 4000000) :
    Calls Try.prog 17 #[vf, vs, .int .u32 (v : Int)] w fun e w' => ∃ u, e = .returned u ∧ w'.ownsRow w.heap.size 41 1 u (blameStep v s O).length (plCells (blameStep v s O)) ∧ Below w.heap.size w w' := by
  obtain ⟨fo, fc, rfl⟩ := hf.form
  obtain ⟨so, sc, rfl⟩ := hs.form
  rw [plCells_length] at hf ⊢
  have HE := hid hs
  have HK := hid hK
  go_enter Try.func17, Try.ntmps17
  go_wp2_with fail
  go_loopg [0, 7, 12] s.length (fun g f nx i wx => ∃ (m A : Nat) (X : List Nat) (fo' : Option Addr) (fc' : Nat), m ≤ s.length ∧ g = s.length - m ∧ i = .int .i64 m ∧ f = .slice fo' (O.length - A) fc' ∧ Hid (Sl w f (plCells (O.drop A))) ∧ Hid (X ++ blameStep v (s.drop m) (O.drop A) = blameStep v s O) ∧ Hid ((sideS 2 (s.drop m)).length + A = O.length) ∧ Hid (wx.ownsRow w.heap.size 41 1 nx X.length (plCells X)) ∧ Hid (X.length ≤ m) ∧ Below w.heap.size w wx)
  case atStart => exact ⟨0, 0, [], fo, fc, Nat.zero_le _, rfl, rfl, rfl, hid hf, hid (by rw [List.drop_zero, List.drop_zero]; rfl), hid (by rw [List.drop_zero, hA, Nat.add_zero]), hid (World.ownsRow_nil _ _ _ _), hid (Nat.le_refl _), Below.refl _ _⟩
  case round =>
    obtain ⟨m, A, X, fo', fc', hm, rfl, rfl, rfl, HF, HX, HA, HN, HXL, hbx⟩ := hrel
    have hzx := hbx.size
    obtain ⟨no, nc, rfl⟩ := owns_form HN.out
    have m0 : (0 : Int) ≤ (m : Int) := Int.natCast_nonneg _
    by_cases hmt : m < s.length
    · have m1 : (m : Int) < (s.length : Int) := by omega
      have mw : IntKind.i64.wrap ((m : Int) + 1) = (m : Int) + 1 := IntWalk.i64_in _ (by omega)
      obtain ⟨be, oe, c, x, rfl, hc, hd, he⟩ := (HE.out.old hbx).at' (i := m) hmt
      have HST := hid (step_at he v (O.drop A))
      have HSD := hid (side2_at he)
      have hAl : (if c = 1 ∨ c = 2 then 1 else 0) + (sideS 2 (s.drop (m + 1))).length + A = O.length := by rw [← HSD.out]; exact HA.out
      have hkind := HK.out (c, x) (List.mem_of_getElem? he)
      simp only at hkind
      clear he HSD
      have hXm : X.length ≤ 4000000000 := by have := HXL.out; omega
      rcases hkind with h1 | h1 | h1
      · subst h1
        rw [if_pos (.inl rfl)] at hAl
        obtain ⟨ob, p, rfl, hcz, hzz⟩ := (Sl.old HF.out hbx).plAt' (i := 0) (by rw [List.length_drop]; omega)
        rw [List.getElem?_drop, Nat.add_zero] at hzz
        have hcz : wr.cell? ob = _ := (congrArg wr.cell? (show ob.add 0 = ob by unfold Addr.add; split <;> simp_all)).symm.trans hcz
        have hcz2 : ∀ o, (wr.alloc o).cell? ob = _ := fun o => (World.cell?_of_block (w := wr) (Below.heap_alloc _ _ _ (World.block_lt_of_cell? wr _ hcz))).trans hcz
        obtain ⟨o2, c2, hcut, hsl2⟩ := cutP_from HF.out 1 (by rw [List.length_drop]; omega)
        rw [List.drop_drop, List.length_drop, Nat.sub_sub] at hsl2
        rw [List.length_drop, Nat.sub_sub] at hcut
        have hcut : ∀ wx, (Instr.slice 36 (.slice (some ob) (O.length - A) fc') (some (.int .i64 1)) none none).run Try.prog wx = .ok (.slice o2 (O.length - (A + 1)) c2) wx := hcut
        have hdr : O.drop A = p :: O.drop (A + 1) := by
          obtain ⟨q, e⟩ := List.getElem?_eq_some_iff.1 hzz
          rw [List.drop_eq_getElem_cons q, e]
        have HX2 := hid (show (X ++ [p]) ++ blameStep v (s.drop (m + 1)) (O.drop (A + 1)) = blameStep v s O by
          rw [← HX.out, HST.out, if_pos rfl, hdr, List.append_assoc]
          rfl)
        have HAL := hid (show (sideS 2 (s.drop (m + 1))).length + (A + 1) = O.length by omega)
        have HF2 := hid hsl2
        have a0 : (0 : Int) < ((O.length - A : Nat) : Int) := by omega
        have a1 : 0 < O.length - A := by omega
        clear hzz hdr HX HST hAl HA hsl2
        go_wp2_with (refine wpList_append_pl (w := _) (by rfl) (.tmp 20) (.tmp 24) (by rfl) w.heap.size _ X p (by rfl) (HN.out.alloc _) (wr.heap.size + 1) (by simp) (by rfl) hXm (Nat.le_trans hzx (by simp)) ?_; intro v5 w5 hO5 B5 K5; have HO5 := hid hO5; have hb5 := (hbx.alloc hzx _).trans B5; clear hO5 B5 K5)
        go_wp2_with fail
        go_roundg (s.length - (m + 1))
        case measure => omega
        case rel => exact ⟨m + 1, A + 1, X ++ [p], _, _, by omega, rfl, by go_num, rfl, HF2, HX2, HAL, HO5, hid (by have := HXL.out; rw [List.length_append, List.length_singleton]; omega), hb5⟩
      · subst h1
        rw [if_pos (.inr rfl)] at hAl
        obtain ⟨o2, c2, hcut, hsl2⟩ := cutP_from HF.out 1 (by rw [List.length_drop]; omega)
        rw [List.drop_drop, List.length_drop, Nat.sub_sub] at hsl2
        rw [List.length_drop, Nat.sub_sub] at hcut
        have hcut : ∀ wx, (Instr.slice 36 (.slice fo' (O.length - A) fc') (some (.int .i64 1)) none none).run Try.prog wx = .ok (.slice o2 (O.length - (A + 1)) c2) wx := hcut
        have HX2 := hid (show X ++ blameStep v (s.drop (m + 1)) (O.drop (A + 1)) = blameStep v s O by
          rw [← HX.out, HST.out, if_neg (by decide), if_pos rfl, List.tail_drop])
        have HAL := hid (show (sideS 2 (s.drop (m + 1))).length + (A + 1) = O.length by omega)
        have HF2 := hid hsl2
        clear HX HST hAl HA hsl2
        go_wp2_with fail
        go_roundg (s.length - (m + 1))
        case measure => omega
        case rel => exact ⟨m + 1, A + 1, X, _, _, by omega, rfl, by go_num, rfl, HF2, HX2, HAL, hid (HN.out.alloc _), hid (by have := HXL.out; omega), hbx.alloc hzx _⟩
      · subst h1
        rw [if_neg (by decide)] at hAl
        have HX2 := hid (show (X ++ [v]) ++ blameStep v (s.drop (m + 1)) (O.drop A) = blameStep v s O by
          rw [← HX.out, HST.out, if_neg (by decide), if_neg (by decide), List.append_assoc]
          rfl)
        have HAL := hid (show (sideS 2 (s.drop (m + 1))).length + A = O.length by omega)
        clear HX HST hAl HA
        go_wp2_with (refine wpList_append_pl (w := _) (by rfl) (.tmp 34) (.tmp 36) (by rfl) w.heap.size _ X v (by rfl) (HN.out.alloc _) (wr.heap.size + 1) (by simp) (by rfl) hXm (Nat.le_trans hzx (by simp)) ?_; intro v5 w5 hO5 B5 K5; have HO5 := hid hO5; have hb5 := (hbx.alloc hzx _).trans B5; clear hO5 B5 K5)
        go_wp2_with fail
        go_roundg (s.length - (m + 1))
        case measure => omega
        case rel => exact ⟨m + 1, A, X ++ [v], _, _, by omega, rfl, by go_num, rfl, HF, HX2, HAL, HO5, hid (by have := HXL.out; rw [List.length_append, List.length_singleton]; omega), hb5⟩
    · obtain rfl : m = s.length := by omega
      have hneg : ¬ (s.length : Int) < (s.length : Int) := by omega
      have hXe : X = blameStep v s O := by
        have := HX.out
        rw [List.drop_length] at this
        rw [← this]
        exact (List.append_nil X).symm
      go_wp2_with fail
      go_ret
      subst hXe
      exact ⟨_, rfl, HN.out, hbx⟩

theorem DNumbers_any (vf : Value) (O : List Nat) (w : World) (hf : Sl w vf (plCells O)) (hO : O.length ≤ 4000000) (hsm : ∀ x ∈ O, x < 4000000) :
    Calls Try.prog 19 #[vf] w fun e w' => ∃ u, e = .returned u ∧ Sl w' u (intCells (nI O)) ∧ Below w.heap.size w w' := by
  obtain ⟨fo, fc, rfl⟩ := hf.form
  rw [plCells_length] at hf ⊢
  have HF := hid hf
  have HS := hid hsm
  clear hf hsm
  go_enter Try.func19, Try.ntmps19
  go_wp2_with fail
  go_loopg [3, 8] O.length (fun g nx i wx => ∃ k : Nat, k ≤ O.length ∧ g = O.length - k ∧ i = .int .i64 k ∧ Hid (wx.ownsRow w.heap.size 3 1 nx (nI (O.take k)).length (intCells (nI (O.take k)))) ∧ Below w.heap.size w wx)
  case atStart => exact ⟨0, Nat.zero_le _, rfl, rfl, hid (World.ownsRow_nil _ _ _ _), Below.refl _ _⟩
  case round =>
    obtain ⟨k, hk, rfl, rfl, HN, hbx⟩ := hrel
    have hzx := hbx.size
    obtain ⟨no, nc, rfl⟩ := owns_form HN.out
    have k0 : (0 : Int) ≤ (k : Int) := Int.natCast_nonneg _
    by_cases hlt : k < O.length
    · have k1 : (k : Int) < (O.length : Int) := by omega
      have kw : IntKind.i64.wrap ((k : Int) + 1) = (k : Int) + 1 := IntWalk.i64_in _ (by omega)
      obtain ⟨ob, p, rfl, hcz, hzz⟩ := (Sl.old HF.out hbx).plAt' (i := k) hlt
      have hp := HS.out p (List.mem_of_getElem? hzz)
      have pw : IntKind.i64.wrap (p : Int) = (p : Int) := IntWalk.i64_in _ (by omega)
      have HT := hid (show nI (O.take k) ++ [(p : Int)] = nI (O.take (k + 1)) by rw [take_snoc hzz, nI_append]; rfl)
      have hl4 : (nI (O.take k)).length ≤ 4000000000 := by rw [nI_length, List.length_take]; omega
      clear hzz
      generalize hY : nI (O.take k) = Y at HN HT hl4 ⊢
      clear hY
      go_wp2_with (refine wpList_append_int (w := _) (by rfl) (.tmp 12) (.tmp 15) (by rfl) w.heap.size _ Y (p : Int) (by rfl) HN.out (by rfl) hl4 hzx ?_; intro v5 w5 hO5 B5 K5; have HO5 := hid (show w5.ownsRow w.heap.size 3 1 v5 (nI (O.take (k + 1))).length (intCells (nI (O.take (k + 1)))) by rw [← HT.out]; exact hO5); have hb5 := hbx.trans B5; clear hO5 B5 K5)
      go_wp2_with fail
      go_roundg (O.length - (k + 1))
      case measure => omega
      case rel => exact ⟨k + 1, by omega, rfl, by go_num, HO5, hb5⟩
    · obtain rfl : k = O.length := by omega
      have hneg : ¬ (O.length : Int) < (O.length : Int) := by omega
      rw [List.take_length] at HN
      have HSL := hid (Sl.ofOwns HN.out)
      go_wp2_with fail
      go_ret
      exact ⟨_, rfl, HSL.out, hbx⟩
end
end Go.Proofs.Ytikemkgedmbijaa

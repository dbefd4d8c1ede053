/-
  OctetsWrite: for every list of things to write, the bytes are the document's, and read again they are the same. No condition.
-/
import Derived.Test.YtccfhbdafoamoaaRefW
import Derived.Test.YtccfhbdafoamoaaHelp
import Derived.Test.YtccfhbdafoamoaaOpen2
import Derived.Test.YtccfhbdafoamoaaWMath
namespace Go.Proofs.Ytccfhbdafoamoaa.octetsWrite
open Go.ChangeShapes Go.WideShapes Go.ChangeAt Go.RowKit

/-- What is written: a number, an Int, a Text, a Bool. -/
structure It where
  k : Int
  v : Int
  n : Int
  s : ByteArray
  b : Bool
def It.cells (x : It) : List Value := [.int .i64 x.k, .int .u64 x.v, .int .i64 x.n, .string x.s, .bool x.b]
structure It.Ok (x : It) : Prop where
  v : (Lit.int .u64 x.v).wf = true
  n : (Lit.int .i64 x.n).wf = true

theorem cells28 : Try.prog.cellsOf 28 = 5 := by kernel_rfl
theorem cells3 : Try.prog.cellsOf 3 = 1 := by kernel_rfl
theorem cells26 : Try.prog.cellsOf 26 = 1 := by kernel_rfl
theorem cells9 : Try.prog.cellsOf 9 = 1 := by kernel_rfl
theorem cells4 : Try.prog.cellsOf 4 = 1 := by kernel_rfl

section
variable {H : Type} {enc : TypeId × Value → H} {w : World} {base : Nat} {spare : Nat → Bool} {held : Bool}
theorem it_of {fuel : Nat} {cs : List Value} {y : DataW H × List MemPlace} (h : DataW.trod enc Try.prog w base spare held fuel 28 cs = some y) : ∃ x : It, cs = x.cells ∧ x.Ok := by
  obtain ⟨ys, n, _, _, hl, hlen, hf⟩ := DataW.trod_struct Try.underlying28 h
  rw [cells28] at hl
  match cs, hl, ys, hlen with
  | [c0, c1, c2, c3, c4], _, [y0, y1, y2, y3, y4], _ =>
    have f0 : DataW.trod enc Try.prog w base spare held n 3 [c0] = some y0 := by simpa [cells3] using hf 0 _ rfl
    have f1 : DataW.trod enc Try.prog w base spare held n 26 [c1] = some y1 := by simpa [cells26] using hf 1 _ rfl
    have f2 : DataW.trod enc Try.prog w base spare held n 3 [c2] = some y2 := by simpa [cells3] using hf 2 _ rfl
    have f3 : DataW.trod enc Try.prog w base spare held n 9 [c3] = some y3 := by simpa [cells9] using hf 3 _ rfl
    have f4 : DataW.trod enc Try.prog w base spare held n 4 [c4] = some y4 := by simpa [cells4] using hf 4 _ rfl
    obtain ⟨k0, e0, _, _⟩ := DataW.trod_int Try.underlying3 f0
    obtain ⟨k1, e1, _, w1⟩ := DataW.trod_int Try.underlying26 f1
    obtain ⟨k2, e2, _, w2⟩ := DataW.trod_int Try.underlying3 f2
    obtain ⟨k3, e3, _⟩ := DataW.trod_string Try.underlying9 f3
    obtain ⟨k4, e4, _⟩ := DataW.trod_bool Try.underlying4 f4
    refine ⟨⟨k0, k1, k2, k3, k4⟩, ?_, ⟨w1, w2⟩⟩
    simp at e0 e1 e2 e3 e4
    simp [It.cells, e0, e1, e2, e3, e4]
end

def FactItems (w : World) (v : Value) (l : List It) : Prop := SlN 5 w v (l.map It.cells) ∧ l.length ≤ maxLen ∧ ∀ x ∈ l, x.Ok
theorem open_items {H : Type} {enc : TypeId × Value → H} {w : World} {base : Nat} {spare : Nat → Bool} {held : Bool} {fuel : Nat} {cs : List Value} {x : DataW H × List MemPlace} (h : DataW.trod enc Try.prog w base spare held fuel 22 cs = some x) :
    ∃ v l, cs = [v] ∧ FactItems w v l := by
  obtain ⟨v, css, n, rfl, hs, hl, hu⟩ := open_slN Try.underlying22 cells28 h
  obtain ⟨l, rfl, hok⟩ : ∃ l : List It, css = l.map It.cells ∧ ∀ x ∈ l, x.Ok := by
    clear hs hl
    induction css with
    | nil => exact ⟨[], rfl, fun x hx => by cases hx⟩
    | cons c css ih =>
      obtain ⟨y, hy⟩ := hu c (List.mem_cons_self ..)
      obtain ⟨x, rfl, hx⟩ := it_of hy
      obtain ⟨l, rfl, hl⟩ := ih fun u hu' => hu u (List.mem_cons_of_mem _ hu')
      exact ⟨x :: l, rfl, fun z hz => by rcases List.mem_cons.1 hz with rfl | hz; exact hx; exact hl z hz⟩
  exact ⟨v, l, rfl, hs, by simpa using hl, hok⟩

def It.bytes (x : It) : List UInt8 := if x.k = 1 then intBytes x.n else if x.k = 2 then intBytes x.s.size ++ x.s.data.toList else if x.k = 3 then [if x.b then 1 else 0] else lowBytes x.v.toNat (heldN x.n)
def allBytes (l : List It) : List UInt8 := l.flatMap It.bytes
theorem allBytes_snoc (l : List It) (x : It) : allBytes (l ++ [x]) = allBytes l ++ x.bytes := by simp [allBytes]
theorem It.bytes_length (x : It) (h : x.s.size ≤ 300) : x.bytes.length ≤ 304 := by
  have hd := heldN_bd x.n
  unfold It.bytes
  split
  · rw [intBytes_length]; omega
  · split
    · rw [List.length_append, intBytes_length, Array.length_toList]
      have : x.s.data.size = x.s.size := rfl
      omega
    · split
      · simp
      · rw [lowBytes_length]; omega

theorem allBytes_le : ∀ m : List It, (∀ x ∈ m, x.s.size ≤ 300) → (allBytes m).length ≤ 304 * m.length := by
  intro m
  induction m with
  | nil => intro _; simp [allBytes]
  | cons y m ih =>
    intro hm
    have h1 := y.bytes_length (hm y (List.mem_cons_self ..))
    have h2 := ih fun z hz => hm z (List.mem_cons_of_mem _ hz)
    simp only [allBytes, List.flatMap_cons, List.length_append, List.length_cons] at h2 ⊢
    omega

/-- What each round of the writing finds, and leaves. -/
structure InvW (W w : World) (v vb : Value) (bs : List UInt8) : Prop where
  bel : Below W.heap.size W w
  wr : Wr w W.heap.size W.heap.size v bs
  own : w.ownsRow W.heap.size 5 1 vb bs.length (Lib.byteCells bs)
  apart : ∀ g, vb.ownBlock = some g → v.ownBlock ≠ some g ∧ g ≠ W.heap.size

theorem owns_base {w : World} {B B' : Nat} {e : TypeId} {size : Nat} {v : Value} {n : Nat} {xs : List Value} (h : w.ownsRow B e size v n xs) (hB : B' ≤ B) : w.ownsRow B' e size v n xs := by
  refine ⟨h.1, ?_⟩
  rcases h.2 with hn | ⟨g, cap, cur, rfl, hg, r⟩
  · exact .inl hn
  · exact .inr ⟨g, cap, cur, rfl, Nat.le_trans hB hg, r⟩
theorem InvW.alloc {W w : World} {v vb : Value} {bs : List UInt8} (h : InvW W w v vb bs) (o : Obj) : InvW W (w.alloc o) v vb bs :=
  ⟨h.bel.alloc h.bel.size o, h.wr.kept ((Keep.refl (fun _ => False) w).alloc o) (fun h => h) (fun _ _ h => h), h.own.alloc o, h.apart⟩
theorem InvW.lt {W w : World} {v vb : Value} {bs : List UInt8} (h : InvW W w v vb bs) : W.heap.size < w.heap.size := lt_of_block h.wr.block
/-- Behind the Writer's call: what the document's writer owns, and a block that is not the Writer's. -/
theorem InvW.wrote {W w w' : World} {v v' vb : Value} {bs : List UInt8} (h : InvW W w v vb bs) (hf : Foot w w' W.heap.size v v') : Below W.heap.size W w' ∧ Sl w' vb (Lib.byteCells bs) :=
  ⟨hf.below h.wr h.bel h.bel.size (Nat.le_refl _), Sl.ofOwns (hf.keep.owns h.own fun k hk => by
    obtain ⟨h1, h2⟩ := h.apart k hk
    rintro (e | e)
    · exact h2 e
    · exact h1 e)⟩
theorem InvW.side {W w w' : World} {v v' vb : Value} {bs : List UInt8} {o : Obj} (h : InvW W w v vb bs) (hf : Foot (w.alloc o) w' W.heap.size v v') : w'.heap[w.heap.size]? = some o := by
  refine (hf.keep.block w.heap.size (by simp) ?_).trans (heap_alloc_new w o)
  rintro (e | e)
  · have := h.lt; omega
  · have := (h.wr.own.lt _ e).2; omega
theorem InvW.next {W w w' w'' : World} {v v' vb vb' : Value} {bs cs : List UInt8} {n : Nat} (h : InvW W w v vb bs) (hw : Wr w' W.heap.size W.heap.size v' (bs ++ cs)) (hf : Foot w w' W.heap.size v v')
    (ho : w''.ownsRow w'.heap.size 5 1 vb' n (Lib.byteCells (bs ++ cs))) (hn : n = (bs ++ cs).length) (hb : Below w'.heap.size w' w'') : InvW W w'' v' vb' (bs ++ cs) := by
  subst hn
  have hb1 := hf.below h.wr h.bel h.bel.size (Nat.le_refl _)
  refine ⟨below_step hb1 hb hb1.size, hw.old hb, owns_base ho hb1.size, fun g hg => ?_⟩
  have h1 := (ho.lt g hg).1
  have h2 := lt_of_block hw.block
  refine ⟨fun e => ?_, by omega⟩
  have := (hw.own.lt g e).2
  omega

set_option maxRecDepth 1000000 in
set_option maxHeartbeats 4000000 in
theorem walk (v0 : Value) (l : List It) (w : World) (w0 : FactItems w v0 l) :
    Calls Try.prog 3 #[v0] w fun e w' => e = .returned (.bool true) ∧ Below w.heap.size w w' := by
  obtain ⟨hl0, hlm, hok⟩ := w0
  obtain ⟨ao, cap, hv⟩ := hl0.form
  rw [List.length_map] at hv
  subst hv
  unfold maxLen at hlm
  obtain ⟨N, hN⟩ : ∃ N, N = min l.length 40 := ⟨_, rfl⟩
  have hNl : N ≤ l.length := by omega
  have hN4 : N ≤ 40 := by omega
  have HN := hid hN
  clear hN
  have HOK := hid hok
  clear hok
  go_enter Try.func3, Try.ntmps3
  go_wp2
  go_loopw [4, 5] (fun b i wr => ∃ k : Nat, k ≤ N ∧ i = .int .i64 k ∧ (∀ x ∈ l.take k, x.s.size ≤ 300) ∧ ∃ v, InvW w wr v b (allBytes (l.take k))) (fun _ i _ => N - (intOf i).toNat)
  case atStart =>
    refine ⟨0, Nat.zero_le _, rfl, fun x hx => by simp at hx, .slice none 0 0, (Below.refl _ _).alloc (Nat.le_refl _) _, Wr.new w, World.ownsRow_nil _ _ _ _, fun g hg => by simp [Value.ownBlock] at hg⟩
  case round =>
    obtain ⟨k, hk, rfl, hsm, v, hin⟩ := hrel
    by_cases hlt : k < N
    · have hx : l[k]? = some (l[k]'(by omega)) := List.getElem?_eq_getElem (by omega)
      obtain ⟨x, hxd⟩ : ∃ x, x = l[k]'(by omega) := ⟨_, rfl⟩
      rw [← hxd] at hx
      have hxo := HOK.out x (by rw [hxd]; exact List.getElem_mem _)
      obtain ⟨gb, go, rfl, hgb, hc⟩ := (hl0.old hin.bel).at' (i := k) (cs := x.cells) (by rw [List.getElem?_map, hx]; rfl) (by simp [It.cells])
      have c0 : wr.cell? ⟨gb, go + k * 5, none⟩ = some (.int .i64 x.k) := hc 0 _ rfl
      have c1 := hc 1 _ rfl
      have c2 := hc 2 _ rfl
      have c3 := hc 3 _ rfl
      have c4 := hc 4 _ rfl
      have hk40 : (k : Int) < 40 := by omega
      have hkl : k < l.length := by omega
      have HX := hid hx
      have HSM := hid hsm
      clear hx hxd hc hsm
      have hbl : (allBytes (l.take k)).length ≤ 304 * k := by
        have h1 := allBytes_le _ HSM.out
        rw [List.length_take] at h1
        omega
      have hsn : Hid (allBytes (l.take (k + 1)) = allBytes (l.take k) ++ x.bytes) := hid (by rw [take_snoc HX.out, allBytes_snoc])
      have hin' := hin.alloc (.cells #[.int .i64 x.k, .int .u64 x.v, .int .i64 x.n, .string x.s, .bool x.b] 28)
      have hzx := hin.bel.size
      have hzx' := hin'.bel.size
      obtain ⟨bs, hbs⟩ : ∃ bs, bs = allBytes (l.take k) := ⟨_, rfl⟩
      rw [← hbs] at hin hin' hbl hsn
      have HBS := hid hbs
      clear hbs
      by_cases hbig : 300 < x.s.size
      · have hb1 : decide ((300 : Int) < (x.s.size : Int)) = true := by simp; omega
        go_wp2_with fail
        refine (awake_any _).mono ?_
        rintro e w7 ⟨rfl, hb7⟩
        have hb8 := below_step hin'.bel hb7 hzx'
        go_wp2
        go_ret
        exact ⟨rfl, hb8⟩
      · have hb1 : decide ((300 : Int) < (x.s.size : Int)) = false := by simp; omega
        have hxs : x.s.size ≤ 300 := by omega
        have hsm' := hid (show ∀ y ∈ l.take (k + 1), y.s.size ≤ 300 by
          intro y hy
          rw [take_snoc HX.out] at hy
          rcases List.mem_append.1 hy with h | h
          · exact HSM.out y h
          · rw [List.mem_singleton.1 h]; exact hxs)
        have hxv := (bounds_u64 hxo.v).1
        clear hbig hxo
        by_cases hk1 : x.k = 1
        · have t1 : (x.k == 1) = true := by simp [hk1]
          have hby := hid (show x.bytes = intBytes x.n by simp [It.bytes, hk1])
          clear hk1
          go_wp2_with fail
          refine (Int_any w.heap.size w.heap.size v bs x.n _ hin'.wr hzx' (by omega)).mono ?_
          rintro e w7 ⟨rfl, v7, hw7, hf7⟩
          obtain ⟨hb7, hs7⟩ := hin'.wrote hf7
          have hx7 := hin.side hf7
          have d1 := blk_cell (i := 1) hx7 rfl
          have d2 := blk_cell (i := 2) hx7 rfl
          go_wp2_with fail
          refine (WInt_any _ bs x.n w7 hs7 (by omega)).mono ?_
          rintro e w8 ⟨v8, rfl, hown8, hb8⟩
          have R := hin'.next hw7 hf7 hown8 (by rw [List.length_append, intBytes_length]) hb8
          rw [← hby.out, ← hsn.out] at R
          clear hw7 hf7 hown8 hb8 hin hin' hb7 hs7 hx7 d1 d2
          go_wp2
          go_roundw
          case rel => exact ⟨k + 1, by omega, by go_num, hsm'.out, v7, R⟩
          case measure => simp [intOf]; omega
        · have t1 : (x.k == 1) = false := by simpa using hk1
          by_cases hk2 : x.k = 2
          · have t2 : (x.k == 2) = true := by simp [hk2]
            have hby := hid (show x.bytes = intBytes x.s.size ++ x.s.data.toList by simp [It.bytes, hk2])
            clear hk1 hk2
            go_wp2_with fail
            refine (Text_any w.heap.size w.heap.size v bs x.s _ hin'.wr hzx' (by omega)).mono ?_
            rintro e w7 ⟨rfl, v7, hw7, hf7⟩
            obtain ⟨hb7, hs7⟩ := hin'.wrote hf7
            have hx7 := hin.side hf7
            have d3 := blk_cell (i := 3) hx7 rfl
            go_wp2_with fail
            refine (WText_any _ bs x.s w7 hs7 (by omega)).mono ?_
            rintro e w8 ⟨v8, rfl, hown8, hb8⟩
            rw [List.append_assoc] at hw7 hown8
            have R := hin'.next hw7 hf7 hown8 (by rw [List.length_append, List.length_append, intBytes_length, Array.length_toList, Nat.add_assoc]; rfl) hb8
            rw [← hby.out, ← hsn.out] at R
            clear hw7 hf7 hown8 hb8 hin hin' hb7 hs7 hx7 d3
            go_wp2
            go_roundw
            case rel => exact ⟨k + 1, by omega, by go_num, hsm'.out, v7, R⟩
            case measure => simp [intOf]; omega
          · have t2 : (x.k == 2) = false := by simpa using hk2
            by_cases hk3 : x.k = 3
            · have t3 : (x.k == 3) = true := by simp [hk3]
              have hby := hid (show x.bytes = [if x.b then 1 else 0] by simp [It.bytes, hk3])
              clear hk1 hk2 hk3
              go_wp2_with fail
              refine (Bool_any w.heap.size w.heap.size v bs x.b _ hin'.wr hzx' (by omega)).mono ?_
              rintro e w7 ⟨rfl, v7, hw7, hf7⟩
              obtain ⟨hb7, hs7⟩ := hin'.wrote hf7
              have hx7 := hin.side hf7
              have d4 := blk_cell (i := 4) hx7 rfl
              go_wp2_with fail
              refine (WBool_any _ bs x.b w7 hs7 (by omega)).mono ?_
              rintro e w8 ⟨v8, rfl, hown8, hb8⟩
              have R := hin'.next hw7 hf7 hown8 (by simp) hb8
              rw [← hby.out, ← hsn.out] at R
              clear hw7 hf7 hown8 hb8 hin hin' hb7 hs7 hx7 d4
              go_wp2
              go_roundw
              case rel => exact ⟨k + 1, by omega, by go_num, hsm'.out, v7, R⟩
              case measure => simp [intOf]; omega
            · have t3 : (x.k == 3) = false := by simpa using hk3
              have hby := hid (show x.bytes = lowBytes x.v.toNat (heldN x.n) by simp [It.bytes, hk1, hk2, hk3])
              clear hk1 hk2 hk3
              go_wp2_with fail
              refine (Num_any w.heap.size w.heap.size v bs x.v x.n hxv _ hin'.wr hzx' (by omega)).mono ?_
              rintro e w7 ⟨rfl, v7, hw7, hf7⟩
              obtain ⟨hb7, hs7⟩ := hin'.wrote hf7
              have hx7 := hin.side hf7
              have d1 := blk_cell (i := 1) hx7 rfl
              have d2 := blk_cell (i := 2) hx7 rfl
              go_wp2_with fail
              refine (WNum_any _ bs x.v x.n hxv w7 hs7 (by omega)).mono ?_
              rintro e w8 ⟨v8, rfl, hown8, hb8⟩
              have R := hin'.next hw7 hf7 hown8 (by rw [List.length_append, lowBytes_length]) hb8
              rw [← hby.out, ← hsn.out] at R
              clear hw7 hf7 hown8 hb8 hin hin' hb7 hs7 hx7 d1 d2
              go_wp2
              go_roundw
              case rel => exact ⟨k + 1, by omega, by go_num, hsm'.out, v7, R⟩
              case measure => simp [intOf]; omega
    · obtain rfl : k = N := by omega
      have hbl : (allBytes (l.take k)).length ≤ 304 * k := by
        have h1 := allBytes_le _ hsm
        rw [List.length_take] at h1
        omega
      obtain ⟨bs, hbs⟩ : ∃ bs, bs = allBytes (l.take k) := ⟨_, rfl⟩
      rw [← hbs] at hin hbl
      have HBS := hid hbs
      have HSM := hid hsm
      clear hbs hsm
      have hq : k < l.length ∧ decide ((k : Int) < 40) = false ∨ decide (k < l.length) = false := by have := HN.out; simp; omega
      clear hlt hk
      have hzx := hin.bel.size
      rcases hq with ⟨h2, h3⟩ | h2
      all_goals
        go_wp2_with fail
        refine (Bytes_any _ _ _ _ _ hin.wr (by omega)).mono ?_
        rintro e w2 ⟨v2, rfl, hown2, hb2'⟩
        have hb2 := below_step hin.bel hb2' hzx
        have hs2 := Sl.ofOwns hown2
        have hwr2 := hin.wr.old hb2'
        have hvb2 := (Sl.ofOwns hin.own).old hb2'
        clear hb2' hown2 hin
        go_wp2_with fail
        refine (Read_any _ bs w2 hs2 (by omega)).mono ?_
        rintro e w3 ⟨br, rfl, hr3, hbr, hbr', hb3'⟩
        have hb3 := below_step hb2 hb3' hb2.size
        have hwr3 := hwr2.old hb3'
        have hvb3 := hvb2.old hb3'
        clear hb3' hs2 hwr2 hvb2
        go_wp2_with fail
        refine (awake_any _).mono ?_
        rintro e w4 ⟨rfl, hb4'⟩
        have hb4 := below_step hb3 hb4' hb3.size
        have hwr4 := hwr3.old hb4'
        have hvb4 := hvb3.old hb4'
        have hr4 := hr3.old hb4'
        have hz34 := hb4'.size
        clear hb4' hwr3 hvb3 hr3
        go_wp2_with fail
        refine (Bytes_any _ _ _ _ _ hwr4 (by omega)).mono ?_
        rintro e w5 ⟨v5, rfl, hown5, hb5'⟩
        have hb5 := below_step hb4 hb5' hb4.size
        have hs5 := Sl.ofOwns hown5
        have hvb5 := hvb4.old hb5'
        have hr5 := hr4.old hb5'
        have hz45 := hb5'.size
        clear hb5' hown5 hwr4 hvb4 hr4
        go_wp2_with fail
        refine (Same_bytes _ _ bs bs w5 hs5 hvb5).mono ?_
        rw [show (bs == bs) = true from by simp]
        rintro e w6 ⟨rfl, rfl⟩
        have hwb : w.heap.size ≤ br := by have := hb2.size; omega
        have hb6 := hb5
        have hz6 : br < w5.heap.size := by omega
        rw [HBS.out] at hr5
        clear hb2 hb3 hb4 hb5 hs5 hvb5 hbl
        go_wp2
        go_loopw [8] (fun i wx => ∃ j : Nat, j ≤ k ∧ i = .int .i64 j ∧ Rd wx br (allBytes ((l.take k).drop j)) 0 ∧ Below w.heap.size w wx ∧ br < wx.heap.size) (fun i _ => k - (intOf i).toNat)
        case atStart => exact ⟨0, Nat.zero_le _, rfl, hr5, hb6, hz6⟩
        case round =>
          obtain ⟨j, hj, rfl, hrd, hbx, hzb⟩ := hrel
          by_cases hlt : j < k
          · obtain ⟨x, hxd⟩ : ∃ x, x = l[j]'(by omega) := ⟨_, rfl⟩
            have hx : l[j]? = some x := by rw [hxd]; exact List.getElem?_eq_getElem (by omega)
            have hxo := HOK.out x (by rw [hxd]; exact List.getElem_mem _)
            have hxs := HSM.out x (by rw [hxd]; exact List.mem_take_iff_getElem.2 ⟨j, by omega, rfl⟩)
            obtain ⟨gb, go, rfl, hgb, hc⟩ := (hl0.old hbx).at' (i := j) (cs := x.cells) (by rw [List.getElem?_map, hx]; rfl) (by simp [It.cells])
            have c0 : wr.cell? ⟨gb, go + j * 5, none⟩ = some (Value.int .i64 x.k) := hc 0 _ rfl
            have c1 := hc 1 _ rfl
            have c2 := hc 2 _ rfl
            have c3 := hc 3 _ rfl
            have c4 := hc 4 _ rfl
            obtain ⟨r, hr⟩ : ∃ r, r = allBytes ((l.take k).drop (j + 1)) := ⟨_, rfl⟩
            have hdr : allBytes ((l.take k).drop j) = x.bytes ++ r := by
              have hjt : j < (l.take k).length := by rw [List.length_take]; omega
              rw [List.drop_eq_getElem_cons hjt, hr]
              simp only [allBytes, List.flatMap_cons, List.getElem_take]
              rw [← hxd]
            rw [hdr] at hrd
            have HR := hid hr
            have hj40 : (j : Int) < 40 := by omega
            have hjl : j < l.length := by omega
            obtain ⟨y, hx1, hx2⟩ := held_ifs x.n
            have hhb := heldN_bd x.n
            have hxv := bounds_u64 hxo.v
            have hwh : IntKind.u64.wrap (heldN x.n : Int) = (heldN x.n : Int) := by rw [IntKind.wrap_u64]; omega
            have hrx := hrd.old ((Below.refl _ _).alloc (Nat.le_refl _) (.cells #[.int .i64 x.k, .int .u64 x.v, .int .i64 x.n, .string x.s, .bool x.b] 28))
            have hbel := hbx.alloc hbx.size (.cells #[.int .i64 x.k, .int .u64 x.v, .int .i64 x.n, .string x.s, .bool x.b] 28)
            have hsx := hbel.size
            clear hx hxd hdr hr hc hxo
            by_cases hk1 : x.k = 1
            · have t1 : (x.k == 1) = true := by simp [hk1]
              rw [show x.bytes = intBytes x.n by simp [It.bytes, hk1]] at hrx
              clear hk1
              go_wp2_with fail
              refine (RInt_all br _ _ _ hrx).mono ?_
              rw [(int_app x.n r).1, (int_app x.n r).2]
              rintro e w7 ⟨rfl, hr7, hk7⟩
              have hx7 := (hk7.block wr.heap.size (by simp) (by show ¬ _ = br; omega)).trans (heap_alloc_new wr _)
              have d2 := blk_cell (i := 2) hx7 rfl
              have hb7 := hbel.trans (hk7.below hsx fun i hi => by show ¬ i = br; omega)
              have hz7 : br < w7.heap.size := by have := hk7.size; simp at this; omega
              rw [HR.out] at hr7
              have hcase : decide (x.n < -1) = true ∨ (decide (x.n < -1) = false ∧ decide ((4294967294 : Int) < x.n) = true) ∨ (decide (x.n < -1) = false ∧ decide ((4294967294 : Int) < x.n) = false ∧ Hid (intV (intBytes x.n ++ r) 0 = x.n)) := by
                by_cases h1 : x.n < -1
                · left; simp [h1]
                · by_cases h2 : 4294967294 < x.n
                  · right; left; simp [h1, h2]
                  · right; right
                    exact ⟨by simp [h1], by simp [h2], hid (intV_app (by omega) (by omega))⟩
              clear hk7 hx7 hrx hbel
              rcases hcase with n1 | ⟨n1, n2⟩ | ⟨n1, n2, n3⟩
              · go_wp2
                go_roundw
                case rel => exact ⟨j + 1, by omega, by go_num, hr7, hb7, hz7⟩
                case measure => simp [intOf]; omega
              · go_wp2
                go_roundw
                case rel => exact ⟨j + 1, by omega, by go_num, hr7, hb7, hz7⟩
                case measure => simp [intOf]; omega
              · rw [n3.out]
                go_wp2
                go_roundw
                case rel => exact ⟨j + 1, by omega, by go_num, hr7, hb7, hz7⟩
                case measure => simp [intOf]; omega
            · have t1 : (x.k == 1) = false := by simpa using hk1
              by_cases hk2 : x.k = 2
              · have t2 : (x.k == 2) = true := by simp [hk2]
                rw [show x.bytes = intBytes x.s.size ++ x.s.data.toList by simp [It.bytes, hk2]] at hrx
                obtain ⟨e1, e2, e3⟩ := text_app (s := x.s) (r := r) hxs
                have E := hid (And.intro e1 (And.intro e2 e3))
                clear hk1 hk2 e1 e2 e3
                go_wp2_with fail
                go_region_held3 (fun wy => wy.cell? ⟨wr.heap.size, 3, none⟩ = some (.string x.s)) (go_keep) ((go_at_call 21; refine (RText_all br _ 0 _ hrx.drew).mono ?_; rw [E.out.1, E.out.2.1, E.out.2.2]; rintro e w7 ⟨rfl, hr7, hk7⟩; have hx7 := (hk7.block wr.heap.size (by simp) (by show ¬ _ = br; omega)).trans (heap_alloc_new wr _); have d3 := blk_cell (i := 3) hx7 rfl))
                have hb7 := (hbel.drew).trans (hk7.below hsx fun i hi => by show ¬ i = br; omega)
                have hz7 : br < w7.heap.size := by have := hk7.size; simp at this; omega
                rw [HR.out] at hr7
                clear hk7 hx7 hrx hbel d3
                go_wp2
                go_roundw
                case rel => exact ⟨j + 1, by omega, by go_num, hr7, hb7, hz7⟩
                case measure => simp [intOf]; omega
              · have t2 : (x.k == 2) = false := by simpa using hk2
                by_cases hk3 : x.k = 3
                · have t3 : (x.k == 3) = true := by simp [hk3]
                  rw [show x.bytes = [if x.b then 1 else 0] by simp [It.bytes, hk3], List.singleton_append] at hrx
                  have E := hid (bool_app x.b r)
                  clear hk1 hk2 hk3
                  go_wp2_with fail
                  go_region_held3 (fun wy => wy.cell? ⟨wr.heap.size, 4, none⟩ = some (.bool x.b)) (go_keep) ((go_at_call 22; refine (RBool_all br _ 0 _ hrx.drew).mono ?_; rw [E.out.1, E.out.2.1, E.out.2.2]; rintro e w7 ⟨rfl, hr7, hk7⟩; have hx7 := (hk7.block wr.heap.size (by simp) (by show ¬ _ = br; omega)).trans (heap_alloc_new wr _); have d4 := blk_cell (i := 4) hx7 rfl))
                  have hb7 := (hbel.drew).trans (hk7.below hsx fun i hi => by show ¬ i = br; omega)
                  have hz7 : br < w7.heap.size := by have := hk7.size; simp at this; omega
                  rw [HR.out] at hr7
                  clear hk7 hx7 hrx hbel d4
                  go_wp2
                  go_roundw
                  case rel => exact ⟨j + 1, by omega, by go_num, hr7, hb7, hz7⟩
                  case measure => simp [intOf]; omega
                · have t3 : (x.k == 3) = false := by simpa using hk3
                  rw [show x.bytes = lowBytes x.v.toNat (heldN x.n) by simp [It.bytes, hk1, hk2, hk3]] at hrx
                  have E := hid (st_app (r := r) (lowBytes_length x.v.toNat (heldN x.n)))
                  clear hk1 hk2 hk3
                  obtain ⟨h, hh⟩ : ∃ h, h = heldN x.n := ⟨_, rfl⟩
                  rw [← hh] at hwh hx2 hhb hrx E
                  have HH := hid hh
                  clear hh
                  obtain ⟨s8, hs8⟩ : ∃ s8 : Nat, s8 = 8 * h := ⟨_, rfl⟩
                  obtain ⟨s6, hs6⟩ : ∃ s6 : Nat, s6 = 64 - s8 := ⟨_, rfl⟩
                  have hw8 : IntKind.u64.wrap (8 * (h : Int)) = (s8 : Int) := by rw [IntKind.wrap_u64]; omega
                  have hw6 : IntKind.u64.wrap (64 - (s8 : Int)) = (s6 : Int) := by rw [IntKind.wrap_u64]; omega
                  have h60 : (0 : Int) ≤ (s6 : Int) := by omega
                  have h61 : (s6 : Int) ≤ 64 := by omega
                  have hEq : (((numOf (lowBytes x.v.toNat h) : Nat) : Int) == IntKind.u64.wrap (x.v * 2 ^ s6) / 2 ^ s6) = true := by
                    obtain ⟨v, hv⟩ := Int.eq_ofNat_of_zero_le hxv.1
                    rw [hv, numOf_lowBytes, Int.toNat_natCast, hs6, hs8, IntKind.wrap_u64, ← low_shift v h hhb.1 hhb.2, beq_iff_eq]
                    simp
                  clear hs6 hs8
                  go_wp2_with fail
                  go_region_held3 (fun wy => wy.cell? ⟨wr.heap.size, 1, none⟩ = some (.int .u64 x.v) ∧ wy.cell? ⟨wr.heap.size, 2, none⟩ = some (.int .i64 x.n)) (go_keep) ((go_at_call 23; refine (Num_all br _ 0 x.n _ hrx.drew).mono ?_; rw [← HH.out, E.out.1, E.out.2.1, E.out.2.2]; rintro e w7 ⟨rfl, hr7, hk7⟩; have hx7 := (hk7.block wr.heap.size (by simp) (by show ¬ _ = br; omega)).trans (heap_alloc_new wr _); have d1 := blk_cell (i := 1) hx7 rfl; have d2 := blk_cell (i := 2) hx7 rfl))
                  have hb7 := (hbel.drew).trans (hk7.below hsx fun i hi => by show ¬ i = br; omega)
                  have hz7 : br < w7.heap.size := by have := hk7.size; simp at this; omega
                  rw [HR.out] at hr7
                  clear hk7 hx7 hrx hbel d1 d2
                  go_wp2
                  go_roundw
                  case rel => exact ⟨j + 1, by omega, by go_num, hr7, hb7, hz7⟩
                  case measure => simp [intOf]; omega
          · obtain rfl : j = k := by omega
            rw [show allBytes ((l.take j).drop j) = [] by rw [List.drop_eq_nil_of_le (List.length_take_le ..)]; rfl] at hrd
            go_wp2_with fail
            refine (Err_any br _ _ _ hrd).mono ?_
            rintro e w7 ⟨rfl, rfl⟩
            go_wp2_with fail
            refine (Left_any br _ _ _ hrd).mono ?_
            rintro e w8 ⟨rfl, rfl⟩
            go_wp2_with fail
            refine (RBool_all br _ _ _ hrd).mono ?_
            rw [show blV [] 0 = false by decide, show blL [] 0 = [] by decide, show blE [] 0 = 4 by decide]
            rintro e w9 ⟨rfl, hr9, hk9⟩
            have hb9 := hbx.trans (hk9.below hbx.size fun i hi => by show ¬ i = br; omega)
            go_wp2_with fail
            refine (Err_any br _ _ _ hr9).mono ?_
            rintro e w10 ⟨rfl, rfl⟩
            go_wp2
            go_ret
            exact ⟨rfl, hb9⟩

theorem own : ownKnob Try.prog.godebug = none := by kernel_rfl
theorem laidOut : laidOutB Try.prog = true := by kernel_rfl

set_option maxRecDepth 100000 in
theorem lifted (os : Os) (started : os.Started) (H : Type) (enc : TypeId × Value → H) :
    ReturnsInHanded {} Try.checked os 3 .any (Rows.octetsWriteSpec.pre6 enc Try.prog Try.f3 Rows.octetsWriteRow.domain false) (Rows.octetsWriteSpec.post enc Try.prog Try.f3 false true false false) := by
  refine returnsInHanded_of_change (C := Try.checked) own started (by kernel_rfl) Try.func3
    (ChangeSpec.witness6 (enc := enc) (C := Try.checked) false ⟨#[], #[.slice none 0 0], []⟩ 8 (by kernel_rfl) (by kernel_rfl) (by kernel_rfl) (by kernel_rfl)) ?_
  intro W base args ds gs before hval0 hW hcnd _
  have hval : ∀ (j : Nat) t v, Try.f3.params[j]? = some t → args[j]? = some v → Value.okWide Try.prog W .any base t v := hval0
  have hW' := hW
  obtain ⟨p, q, hA0, hV, rfl, hfz, hnd⟩ := hW
  have hA : DataW.TrodAll enc Try.prog W 0 (fun _ => true) true Try.f3.params.toList args.toList ds p := hA0
  rw [Try.params3] at hA hval
  obtain ⟨v0, vs0, d0, ds0, p0, q0, hargs, rfl, rfl, h0, r0⟩ := trodAll_cons hA
  obtain ⟨rfl, rfl, rfl⟩ := trodAll_nil r0
  obtain rfl : args = #[v0] := by cases args; simp_all
  obtain ⟨rfl, rfl⟩ := trodVars_none hV
  have k0 := h0
  have lt0 : ∀ x ∈ p0, x.block < W.heap.size := by obtain ⟨m, hm⟩ := k0; exact DataW.trod_lt m _ _ _ hm
  obtain ⟨x0, l0, c0, rfl⟩ := okWide_slice Try.underlying22 (hval 0 22 v0 rfl rfl)
  obtain ⟨a0, w0⟩ : ∃ a, FactItems W (.slice x0 l0 c0) a := by
    obtain ⟨fuel, hf⟩ := h0
    obtain ⟨v', a, hcs, hs⟩ := open_items hf
    obtain rfl : v' = .slice x0 l0 c0 := by simpa [Value.cells] using hcs.symm
    exact ⟨a, hs⟩
  clear hA0 hval0
  refine (walk (.slice x0 l0 c0) a0 W w0).mono fun e W' ⟨he, bel⟩ => ?_
  subst he
  exact ⟨_, rfl, _, _, _, [], _, [], hW', trodAll_mk1 (shut_bool Try.underlying4 _), (trodAll_cons_mk (Below.trod laidOut (by kernel_rfl) (of_decide_eq_true (by kernel_rfl)) k0 bel lt0) trodAll_mk0), rfl, bel.frame _, fun h => by cases h⟩

theorem over : Rows.octetsWriteRow.holds Try.pinned (OpenSpec.ofChange Rows.octetsWriteSpec) :=
  OpenClaim.holds_of_wide 3 Try.f3 rfl rfl rfl rfl rfl rfl rfl ⟨rfl, rfl, rfl, rfl, rfl⟩ rfl rfl rfl rfl rfl (by kernel_rfl) Try.func3 (by kernel_rfl)
    (of_decide_eq_true (by kernel_rfl)) (by unfold Func.isWrapper; first | (rw [if_pos (by decide +kernel)]; kernel_rfl) | (rw [if_neg (by decide +kernel)]; exact ⟨rfl, rfl⟩))
    (fun os started H enc _ => lifted os started H enc)

/-- The statement. -/
theorem proved : Rows.OctetsWriteSaid :=
  over
#print axioms proved

end Go.Proofs.Ytccfhbdafoamoaa.octetsWrite

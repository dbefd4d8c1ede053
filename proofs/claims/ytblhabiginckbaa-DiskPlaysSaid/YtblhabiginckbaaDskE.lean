/-
  Package disk: Arm, New, what a crash leaves of a file, Restart, Fork.
-/
import Derived.Test.YtblhabiginckbaaDskD
import Derived.Laws.CopyOwn
namespace Go.Proofs.Ytblhabiginckbaa
open Go.RowKit

/-- 'copy' into a part of a block that is known whole. -/
theorem run_copy_keep {P : Program} {w : World} (dT sT ty elem : TypeId) (hu : P.underlying dT = some (.slice elem)) (hsz : (P.info? elem).map (·.size) = some 1)
    (g off dLen dCap : Nat) (sp : Option Addr) (sLen sCap : Nat)
    (cur : List Value) (t : TypeId) (hg : w.heap[g]? = some (.cells cur.toArray t (0, 0))) (cs : List Value) (hn : cs.length = Nat.min sLen dLen)
    (hpos : 0 < cs.length → ∃ ad, sp = some ad ∧ ∀ j v, cs[j]? = some v → w.cell? (ad.add j) = some v)
    (hfit : off + cs.length ≤ cur.length) (h1 : ∀ v ∈ cs, v.oneCell' = true) :
    ∃ u w', (Builtin.copy_ #[dT, sT] ty #[.slice (some ⟨g, off, none⟩) dLen dCap, .slice sp sLen sCap]).run P w = .ok u w' ∧ w'.heap[g]? = some (.cells (cur.take off ++ (cs ++ cur.drop (off + cs.length))).toArray t (0, 0)) ∧ Keep (· = g) w w' := by
  by_cases h0 : cs.length = 0
  · obtain rfl : cs = [] := List.eq_nil_of_length_eq_zero h0
    exact ⟨_, w, run_copy_none (P := P) w dT sT ty elem _ sp dLen dCap sLen sCap hu hsz (by simpa using hn.symm), by simpa using hg, Keep.refl _ _⟩
  · obtain ⟨ad, rfl, hsrc⟩ := hpos (by omega)
    exact ⟨_, _, run_copy_row (P := P) w dT sT ty elem g off dLen dCap ad sLen sCap cur.toArray t cs hu hsz hg hn hsrc (by simpa using hfit) h1, by simpa using setRow_heap w g cur.toArray _ t _ hg, ⟨rfl, rfl, rfl, by simp [World.setRow], fun k _ hk => setRow_other w g k _ hk⟩⟩

theorem Try.sizeInt : (Try.prog.info? 3).map (·.size) = some 1 := by kernel_rfl
/-- A disk, armed. -/
def Dk.arm (D : Dk) (n : Int) (zs : List Int) : Dk := if D.down then D else { D with armed := true, left := n.toNat, k0 := zs.getD 0 0, k1 := zs.getD 1 0 }
theorem Arm_nil (n : Int) (v : Value) (w : World) : Calls Try.prog 16 #[.pointer none, .int .i64 n, v] w fun e w' => e = .returned (.tuple #[]) ∧ w = w' := by
  go_enter Try.func16, Try.ntmps16
  go_wp2
  exact ret0 rfl rfl ⟨rfl, rfl⟩
theorem Sl.puts {w : World} {v : Value} {cs : List Value} {b i : Nat} {u : Value} (h : Sl w v cs) (hne : 0 < cs.length → ∀ a n c, v = .slice (some a) n c → a.block ≠ b) : Sl (w.setCell ⟨b, i, none⟩ u) v cs := by
  obtain ⟨ao, cap, rfl, hn, hcap, hc⟩ := h
  refine ⟨ao, cap, rfl, hn, hcap, fun a ha j u' hu => ?_⟩
  have hj := (List.getElem?_eq_some_iff.1 hu).1
  have hb := hne (by omega) a _ _ (by rw [ha])
  have := hc a ha j u' hu
  exact (World.cell?_of_block (w := w) (Below.heap_setCell _ ⟨b, i, none⟩ u _ (by rw [addr_add_block]; exact hb))).trans this
theorem Sl.takes {w : World} {ao : Option Addr} {n c : Nat} {cs : List Value} (h : Sl w (.slice ao n c) cs) (k : Nat) (h0 : 0 < (cs.take k).length) : ∃ ad, ao = some ad ∧ ∀ j v, (cs.take k)[j]? = some v → w.cell? (ad.add j) = some v := by
  obtain ⟨ao', c', hv, hn, _, hc⟩ := h
  obtain ⟨rfl, _, _⟩ := Value.slice.inj hv
  cases ao with
  | none => rw [hn rfl] at h0; simp at h0
  | some a =>
    refine ⟨a, rfl, fun j v hj => hc a rfl j v ?_⟩
    rw [List.getElem?_take] at hj
    split at hj
    · exact hj
    · cases hj

/-- Behind the copy. -/
theorem armed_cells (D : Dk) (v0 v1 : Value) (zs : List Int) : ((dkCells { D with k0 := 0, k1 := 0 } v0 v1).toList.take 7 ++ (((zs.map (Value.int .i64)).take 2) ++ (dkCells { D with k0 := 0, k1 := 0 } v0 v1).toList.drop (7 + ((zs.map (Value.int .i64)).take 2).length))).toArray = dkCells { D with k0 := zs.getD 0 0, k1 := zs.getD 1 0 } v0 v1 := by
  match zs with
  | [] => rfl
  | [_] => rfl
  | _ :: _ :: _ => rfl

theorem DiskIn.after {w w' : World} {dp : Nat} {v0 v1 : Value} {D D' : Dk} (h : DiskIn w dp v0 v1 D) (hk : Keep (· = dp) w w') (hb : w'.heap[dp]? = some (.cells (dkCells D' v0 v1) 61 (0, 0))) (h0 : D'.f0.b = D.f0.b := by rfl) (h1 : D'.f1.b = D.f1.b := by rfl) : DiskIn w' dp v0 v1 D' :=
  ⟨hb, by rw [h0]; exact hk.owns h.own0 fun k e e' => h.ne0 (e' ▸ e), by rw [h1]; exact hk.owns h.own1 fun k e e' => h.ne1 (e' ▸ e), h.ne0, h.ne1, h.apart⟩

set_option maxHeartbeats 1000000 in
theorem Arm_at {dp : Nat} {v0 v1 : Value} {D : Dk} (ao : Option Addr) (cap : Nat) (n : Int) (zs : List Int) (w : World) (h : DiskIn w dp v0 v1 D) (hd : D.down = false) (hk : Sl w (.slice ao zs.length cap) (zs.map (Value.int .i64))) (hne : 0 < (zs.map (Value.int .i64)).length → ∀ a n c, Value.slice ao zs.length cap = .slice (some a) n c → a.block ≠ dp) :
    Calls Try.prog 16 #[.pointer (some ⟨dp, 0, none⟩), .int .i64 n, .slice ao zs.length cap] w fun e w' => e = .returned (.tuple #[]) ∧ DiskIn w' dp v0 v1 { D with armed := true, left := n.toNat, k0 := zs.getD 0 0, k1 := zs.getD 1 0 } ∧ Did w w' dp v0 v1 v0 v1 := by
  have hzl : ((zs.map (Value.int .i64)).take 2).length = Nat.min zs.length 2 := by rw [List.length_take, List.length_map]; exact Nat.min_comm _ _
  by_cases hn : 0 ≤ n
  · obtain ⟨l, rfl⟩ : ∃ l : Nat, n = (l : Int) := ⟨n.toNat, by omega⟩
    rw [show ((l : Int)).toNat = l from rfl]
    have hA := (((h.put (D' := { D with armed := true }) 5 (.bool true) rfl rfl rfl).put (D' := { D with armed := true, left := l }) 6 (.int .i64 (l : Int)) rfl rfl rfl).put (D' := { D with armed := true, left := l, k0 := 0 }) 7 (.int .i64 0) rfl rfl rfl).put (D' := { D with armed := true, left := l, k0 := 0, k1 := 0 }) 8 (.int .i64 0) rfl rfl rfl
    have dA := (((Did.put (w := w) (dp := dp) (v0 := v0) (v1 := v1) 5 (.bool true)).trans (Did.put 6 (.int .i64 (l : Int)))).trans (Did.put 7 (.int .i64 0))).trans (Did.put 8 (.int .i64 0))
    have sA := (((hk.puts (i := 5) (u := .bool true) hne).puts (i := 6) (u := .int .i64 (l : Int)) hne).puts (i := 7) (u := .int .i64 0) hne).puts (i := 8) (u := .int .i64 0) hne
    have e5 := h.c5
    have e6 := h.c6
    have e7 := h.c7
    have e8 := h.c8
    have g5 := h.free 5
    have g6 := h.free 6
    have g7 := h.free 7
    have g8 := h.free 8
    obtain ⟨L, hL⟩ : ∃ L, L = (dkCells { D with armed := true, left := l, k0 := 0, k1 := 0 } v0 v1).toList := ⟨_, rfl⟩
    have hLb := hA.block
    rw [show dkCells { D with armed := true, left := l, k0 := 0, k1 := 0 } v0 v1 = L.toArray by rw [hL]] at hLb
    have hLl : L.length = 9 := by rw [hL]; rfl
    have HA := hid hA
    have hfit : 7 + ((zs.map (Value.int .i64)).take 2).length ≤ L.length := by rw [hLl, hzl]; have : Nat.min zs.length 2 ≤ 2 := Nat.min_le_right _ _; omega
    have hone : ∀ v ∈ (zs.map (Value.int .i64)).take 2, v.oneCell' = true := by
      intro v hv
      obtain ⟨z, _, rfl⟩ := List.mem_map.1 (List.mem_of_mem_take hv)
      rfl
    obtain ⟨u9, w9, hrun, hb9, hk9⟩ := run_copy_keep (P := Try.prog) 29 29 3 3 Try.underlying29 Try.sizeInt dp 7 2 2 ao zs.length cap L _ hLb _ hzl (fun hp => sA.takes 2 hp) hfit hone
    have hfin := armed_cells { D with armed := true, left := l } v0 v1 zs
    rw [← hL] at hfin
    rw [hfin] at hb9
    have HB9 := hid hb9
    clear hL hLb hLl hfit hone hfin hb9
    have HD := hid dA
    clear hA dA sA hzl hne hk
    go_enter Try.func16, Try.ntmps16
    go_wp2_with fail
    refine (Down_any w h).mono ?_
    rw [hd]
    rintro e w' ⟨rfl, rfl⟩
    clear hd
    go_wp2
    go_end0
    exact ⟨rfl, HA.out.after hk9 HB9.out, HD.out.trans ⟨hk9.mono fun k _ e => .inl e, fun k e => .inl e⟩⟩
  · have hn : n < 0 := by omega
    rw [show n.toNat = 0 by omega]
    have hA := (((h.put (D' := { D with armed := true }) 5 (.bool true) rfl rfl rfl).put (D' := { D with armed := true, left := 0 }) 6 (.int .i64 ((0 : Nat) : Int)) rfl rfl rfl).put (D' := { D with armed := true, left := 0, k0 := 0 }) 7 (.int .i64 0) rfl rfl rfl).put (D' := { D with armed := true, left := 0, k0 := 0, k1 := 0 }) 8 (.int .i64 0) rfl rfl rfl
    have dA := (((Did.put (w := w) (dp := dp) (v0 := v0) (v1 := v1) 5 (.bool true)).trans (Did.put 6 (.int .i64 ((0 : Nat) : Int)))).trans (Did.put 7 (.int .i64 0))).trans (Did.put 8 (.int .i64 0))
    have sA := (((hk.puts (i := 5) (u := .bool true) hne).puts (i := 6) (u := .int .i64 ((0 : Nat) : Int)) hne).puts (i := 7) (u := .int .i64 0) hne).puts (i := 8) (u := .int .i64 0) hne
    have z0 : ((0 : Nat) : Int) = 0 := rfl
    rw [z0] at hA dA sA
    clear z0
    have e5 := h.c5
    have e6 := h.c6
    have e7 := h.c7
    have e8 := h.c8
    have g5 := h.free 5
    have g6 := h.free 6
    have g7 := h.free 7
    have g8 := h.free 8
    obtain ⟨L, hL⟩ : ∃ L, L = (dkCells { D with armed := true, left := 0, k0 := 0, k1 := 0 } v0 v1).toList := ⟨_, rfl⟩
    have hLb := hA.block
    rw [show dkCells { D with armed := true, left := 0, k0 := 0, k1 := 0 } v0 v1 = L.toArray by rw [hL]] at hLb
    have hLl : L.length = 9 := by rw [hL]; rfl
    have HA := hid hA
    have hfit : 7 + ((zs.map (Value.int .i64)).take 2).length ≤ L.length := by rw [hLl, hzl]; have : Nat.min zs.length 2 ≤ 2 := Nat.min_le_right _ _; omega
    have hone : ∀ v ∈ (zs.map (Value.int .i64)).take 2, v.oneCell' = true := by
      intro v hv
      obtain ⟨z, _, rfl⟩ := List.mem_map.1 (List.mem_of_mem_take hv)
      rfl
    obtain ⟨u9, w9, hrun, hb9, hk9⟩ := run_copy_keep (P := Try.prog) 29 29 3 3 Try.underlying29 Try.sizeInt dp 7 2 2 ao zs.length cap L _ hLb _ hzl (fun hp => sA.takes 2 hp) hfit hone
    have hfin := armed_cells { D with armed := true, left := 0 } v0 v1 zs
    rw [← hL] at hfin
    rw [hfin] at hb9
    have HB9 := hid hb9
    clear hL hLb hLl hfit hone hfin hb9
    have HD := hid dA
    clear hA dA sA hzl hne hk
    go_enter Try.func16, Try.ntmps16
    go_wp2_with fail
    refine (Down_any w h).mono ?_
    rw [hd]
    rintro e w' ⟨rfl, rfl⟩
    clear hd
    go_wp2
    go_end0
    exact ⟨rfl, HA.out.after hk9 HB9.out, HD.out.trans ⟨hk9.mono fun k _ e => .inl e, fun k e => .inl e⟩⟩

theorem Arm_any {dp : Nat} {v0 v1 kv : Value} {D : Dk} (n : Int) (zs : List Int) (w : World) (h : DiskIn w dp v0 v1 D) (hk : Sl w kv (zs.map (Value.int .i64))) (hne : 0 < (zs.map (Value.int .i64)).length → ∀ a n c, kv = .slice (some a) n c → a.block ≠ dp) :
    Calls Try.prog 16 #[.pointer (some ⟨dp, 0, none⟩), .int .i64 n, kv] w fun e w' => e = .returned (.tuple #[]) ∧ DiskIn w' dp v0 v1 (D.arm n zs) ∧ Did w w' dp v0 v1 v0 v1 := by
  cases hd : D.down
  · rw [show D.arm n zs = { D with armed := true, left := n.toNat, k0 := zs.getD 0 0, k1 := zs.getD 1 0 } by unfold Dk.arm; rw [hd]; rfl]
    obtain ⟨ao, cap, rfl⟩ := hk.form
    have hne' := hne
    rw [List.length_map] at hk ⊢
    simp only [List.length_map] at hne'
    exact Arm_at ao cap n zs w h hd hk (by simpa using hne')
  · rw [show D.arm n zs = D by unfold Dk.arm; rw [hd]; rfl]
    go_enter Try.func16, Try.ntmps16
    go_wp2_with fail
    refine (Down_any w h).mono ?_
    rw [hd]
    rintro e w' ⟨rfl, rfl⟩
    clear hd
    go_wp2
    exact ret0 rfl rfl ⟨rfl, h, Did.refl _ _ _ _⟩
end Go.Proofs.Ytblhabiginckbaa

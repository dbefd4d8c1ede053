/-
  The document's own TakeTree and TakeCommit. The document's own TakeCommit.
-/
import Derived.Test.YtbcpfakdmnccmaaDoorG3
import Derived.Test.YtbcpfakdmnccmaaDoorG5
import Derived.Test.YtbcpfakdmnccmaaDoorG4
namespace Go.Proofs.YtbcpfakdmnccmaaDoor
open Go.RowKit

theorem kind_len {b : List UInt8} {k : Nat} (h : kindS b = k) (hk : k ≠ 0) : 1 ≤ b.length := by
  cases b with
  | nil => exact absurd h.symm hk
  | cons x r => simp
theorem Rf.below {w w' : World} {rr H B : Nat} {bs l : List UInt8} {c : Int} (h : Rf w rr H bs l c) (hk : Below B w w') (hr : rr < B) : Rf w' rr H bs l c := by
  obtain ⟨v, p, h1, h2, hlo, r⟩ := h.ex
  refine ⟨v, p, (hk.block rr hr).trans h1, ?_, hlo, r⟩
  obtain ⟨ao, cap, rfl, hn, hcap, hc⟩ := h2
  refine ⟨ao, cap, rfl, hn, hcap, fun a ha j u hu => ?_⟩
  have hne : bs ≠ [] := by rintro rfl; simp [Lib.byteCells] at hu
  have hab := hlo.1 a _ _ (by rw [ha]) hne
  have hx := hc a ha j u hu
  exact (World.cell?_of_block (w := w) (by rw [addr_add_block]; exact hk.block _ (by have := hlo.2; omega))).trans hx
theorem Rf.new (w : World) {ao : Option Addr} {cap : Nat} {b : List UInt8} (hv : Sl w (.slice ao b.length cap) (Lib.byteCells b)) (h1 : 1 ≤ b.length) (hlen : b.length ≤ 140737488355328) :
    Rf (w.alloc (.cells #[.slice ao b.length cap, .int .i64 1, .int .i64 0] 73)) w.heap.size w.heap.size b (b.drop 1) 0 := by
  refine ⟨.slice ao b.length cap, 1, heap_alloc_new w _, hv.alloc _, ⟨fun a n c e hb => ?_, Nat.le_refl _⟩, h1, hlen, fun _ => rfl, fun h => absurd rfl h⟩
  obtain ⟨rfl, _, _⟩ := Value.slice.inj e
  exact hv.lt (i := 0) (by rw [Lib.byteCells_length]; omega)
theorem Rf.err {w : World} {rr H : Nat} {bs l : List UInt8} {c : Int} (h : Rf w rr H bs l c) : w.cell? ⟨rr, 2, none⟩ = some (.int .i64 c) := by
  obtain ⟨v, p, h1, _⟩ := h.ex
  exact blk_cell h1 rfl
theorem Rf.lt {w : World} {rr H : Nat} {bs l : List UInt8} {c : Int} (h : Rf w rr H bs l c) : rr < w.heap.size := by
  obtain ⟨v, p, h1, _⟩ := h.ex
  exact lt_of_block h1
section
set_option maxRecDepth 100000
set_option maxHeartbeats 4000000
theorem RTakeTree_any (v : Value) (b : List UInt8) (w : World) (hv : Sl w v (Lib.byteCells b)) (hlen : b.length ≤ 1000000) :
    Calls Tryd.prog 21 #[v] w fun e w' => ∃ u, e = .returned (.tuple #[u, .int .i64 (takeTreeS b).2]) ∧ OwnEnt w' w.heap.size u (takeTreeS b).1 ∧ Below w.heap.size w w' := by
  have HK := hid (RKind_any v b w hv)
  obtain ⟨ao, cap, rfl⟩ := hv.form
  rw [Lib.byteCells_length] at HK hv ⊢
  by_cases hk : kindS b = 2
  · rw [hk] at HK
    have hb1 := kind_len hk (by decide)
    have HR0 := hid (Rf.new w hv hb1 (by omega))
    have HT := hid (take_again b hk rfl)
    have hb0 : Below w.heap.size w (w.alloc (.cells #[.slice ao b.length cap, .int .i64 1, .int .i64 0] 73)) := (Below.refl _ w).alloc (Nat.le_refl _) _
    have HB0 := hid hb0
    have hn := stV_lt 4 (b.drop 1) 0
    rw [show (2 : Nat) ^ (8 * 4) = 4294967296 by decide] at hn
    have hll : (stL 4 (b.drop 1) 0).length ≤ 1000000 := by
      have h1 : (b.drop 1).length ≤ 1000000 := by rw [List.length_drop]; omega
      unfold stL
      split
      · exact h1
      · split
        · simp
        · simp only [List.length_drop] at h1 ⊢; omega
    have HLL := hid hll
    have HN := hid hn
    have HV := hid hv
    have HE4 := hid (show stE 4 (b.drop 1) 0 = stE 4 (b.drop 1) 0 from rfl)
    clear hk hb0 hn hll hv hb1 HE4
    go_enter Tryd.func21, Tryd.ntmps21
    go_wp2_with fail
    refine HK.out.mono ?_
    rintro e _ ⟨rfl, rfl⟩
    go_wp2_with fail
    refine (FNum_all w.heap.size w.heap.size b _ 0 4 _ HR0.out).mono ?_
    rw [show heldN 4 = 4 from rfl]
    rintro e w1 ⟨rfl, hr1, hk1⟩
    generalize numOf (stV 4 (b.drop 1) 0) = n at *
    generalize stL 4 (b.drop 1) 0 = l4 at *
    generalize stE 4 (b.drop 1) 0 = c4 at *
    obtain ⟨R, hR⟩ : ∃ R, ensR n l4 c4 = R := ⟨_, rfl⟩
    rw [hR] at HT
    have HR := hid hR
    have HR1 := hid hr1
    have HB1 := hid (HB0.out.trans (hk1.below HB0.out.size fun k hk => by show ¬ k = _; omega))
    have HZ1 := hid (show w.heap.size + 1 ≤ w1.heap.size from hr1.lt)
    clear hR hr1 hk1 HR0
    go_wp2_with fail
    go_loopg [6, 7] n (fun g v i wr => ∃ (k : Nat) (X : List EntS) (lk : List UInt8) (ck : Int), k ≤ n ∧ n - k = g ∧ i = .int .u64 (k : Nat) ∧ Hid (OwnEnt wr (w.heap.size + 1) v X) ∧ Hid (Rf wr w.heap.size w.heap.size b lk ck) ∧ Hid (R = (X ++ (ensR (n - k) lk ck).1, (ensR (n - k) lk ck).2)) ∧ Hid (ck = 0 → X.length + lk.length ≤ l4.length) ∧ Hid (Below w.heap.size w wr) ∧ Hid (w.heap.size + 1 ≤ wr.heap.size))
    case atStart => exact ⟨0, [], l4, c4, Nat.zero_le _, rfl, rfl, hid (World.ownsRow_nil _ _ _ _), HR1, hid (by rw [← HR.out]; rfl), hid (fun _ => by simp), HB1, HZ1⟩
    case round =>
      obtain ⟨k, X, lk, ck, hk, rfl, rfl, HO, HD, HX, HB, HBL, HZ⟩ := hrel
      obtain ⟨no, nc, rfl⟩ := owns_form HO.out
      have hn := HN.out
      have herr := HD.out.err
      have k0 : (0 : Int) ≤ (k : Int) := Int.natCast_nonneg _
      by_cases hgo : k < n ∧ ck = 0
      · obtain ⟨hlt, rfl⟩ := hgo
        have k1 : (k : Int) < (n : Int) := by omega
        have kw : IntKind.u64.wrap ((k : Int) + 1) = (k : Int) + 1 := by rw [IntKind.wrap_u64]; omega
        have kw2 : ((k : Int) + 1) % 18446744073709551616 = (k : Int) + 1 := by omega
        obtain ⟨m, hm⟩ : ∃ m, n - k = m + 1 := ⟨n - k - 1, by omega⟩
        have HM := hid (show n - (k + 1) = m by omega)
        have HX2 := hid (show R = (X ++ [enV lk 0] ++ (ensR (n - (k + 1)) (enL lk 0) (enE lk 0)).1, (ensR (n - (k + 1)) (enL lk 0) (enE lk 0)).2) by rw [HM.out, HX.out, hm, ens_go]; simp)
        have HB2 := hid (show enE lk 0 = 0 → (X ++ [enV lk 0]).length + (enL lk 0).length ≤ l4.length from fun he => by
          have h1 := en_less he
          have h2 := HB.out rfl
          rw [List.length_append, List.length_singleton]
          omega)
        have HXL := hid (show X.length ≤ 100000000 by have h1 := HB.out rfl; have h2 := HLL.out; omega)
        clear hm HX hn
        go_wp2_with fail
        refine (FText_all _ _ _ _ _ _ HD.out).mono ?_
        rintro e w2 ⟨rfl, hr2, hk2⟩
        go_wp2_with fail
        refine (FBool_all _ _ _ _ _ _ hr2).mono ?_
        rintro e w3 ⟨rfl, hr3, hk3⟩
        go_wp2_with fail
        refine (RKey_any _ _ _ _ _ _ hr3).mono ?_
        rintro e w4 ⟨rfl, hr4, hk4⟩
        have hkx := (hk2.trans hk3).trans hk4
        have HZ4 := hid (Nat.le_trans HZ.out hkx.size)
        have HO4 := hid (show OwnEnt w4 (w.heap.size + 1) (.slice no X.length nc) X from hkx.owns HO.out (fun q hq e => by
          have h1 := (HO.out.lt q hq).1
          omega))
        have HBL4 := hid (HBL.out.trans (hkx.below HBL.out.size fun k hk => by show ¬ k = _; omega))
        have HR4 := hid (show Rf w4 w.heap.size w.heap.size b (enL lk 0) (enE lk 0) from hr4)
        obtain ⟨f, hf⟩ : ∃ f, enV lk 0 = f := ⟨_, rfl⟩
        have hf1 : txV lk 0 = f.1 := by rw [← hf]; rfl
        have hf2 : blV (txL lk 0) (txE lk 0) = f.2.1 := by rw [← hf]; rfl
        have hf3 : kyV (blL (txL lk 0) (txE lk 0)) (blE (txL lk 0) (txE lk 0)) = f.2.2 := by rw [← hf]; rfl
        rw [hf] at HX2 HB2
        rw [hf1, hf2, hf3, keyW]
        clear hf hf1 hf2 hf3 hkx hk2 hk3 hk4 hr2 hr3 hr4 herr
        go_wp2_with (first
          | (refine wpList_build_ent rfl (.tmp 32) (.tmp 34) (.tmp 36) rfl f rfl rfl rfl ?_)
          | (refine wpList_lit_ent rfl (.tmp 37) rfl f rfl ?_)
          | (at_builtin; refine wpList_append_en1 rfl (.tmp 30) (.tmp 38) rfl (w.heap.size + 1) _ X f rfl HO4.out _ rfl rfl HXL.out HZ4.out ?_; intro v6 w6 hO6 hb6
             obtain ⟨no6, nc6, rfl⟩ := owns_form hO6
             have HO6 := hid hO6; have HB6 := hid hb6; clear hO6 hb6))
        have HR6 := hid (HR4.out.below HB6.out (Nat.lt_succ_self _))
        have HBL6 := hid (HBL4.out.trans (HB6.out.mono (Nat.le_succ _)))
        have HZ6 := hid (Nat.le_trans HZ4.out HB6.out.size)
        go_roundg (n - (k + 1))
        case measure => omega
        case rel => exact ⟨k + 1, X ++ [f], enL lk 0, enE lk 0, by omega, rfl, by go_num, (by rw [← show (X ++ [f]).length = X.length + 1 by simp]; exact HO6), HR6, HX2, HB2, HBL6, HZ6⟩
      · have HX2 : Hid (R = (X, lk, ck)) := by
          show R = (X, lk, ck)
          by_cases hc : ck = 0
          · have hkn : k = n := Nat.le_antisymm hk (Nat.le_of_not_lt fun h => hgo ⟨h, hc⟩)
            rw [HX.out, hkn, Nat.sub_self, ens_end]
            simp
          · rw [HX.out, ens_bad hc]
            simp
        have hT := HT.out
        rw [HX2.out] at hT
        have HT2 := hid hT
        clear hT HT HX HB
        have hce1 : ck ≠ 0 → (ck == 0) = false := fun h => by simpa using h
        have hce2 : ck ≠ 0 → (ck != 0) = true := fun h => by simpa using h
        by_cases hlt : k < n
        · have hc : ck ≠ 0 := fun h => hgo ⟨hlt, h⟩
          have k1 : decide ((k : Int) < (n : Int)) = true := decide_eq_true (by omega)
          have k2 : decide (k < n) = true := decide_eq_true hlt
          have e1 := hce1 hc
          have e2 := hce2 hc
          have HT3 := hid (show takeTreeS b = ([], ck) by rw [HT2.out, if_pos hc])
          clear hce1 hce2 hc hgo HT2 HX2 hn
          go_wp2_with fail
          go_quiet (fail)
          go_wp2
          refine bodyPost_ret (results_tmp2 rfl _ _ _) rfl ⟨.slice none 0 0, by rw [HT3.out]; rfl, ?_, below_step HBL.out (below_drewN wr _) HBL.out.size⟩
          rw [HT3.out]
          exact World.ownsRow_nil _ _ _ _
        · have k1 : decide ((k : Int) < (n : Int)) = false := decide_eq_false (by omega)
          have k2 : decide (k < n) = false := decide_eq_false hlt
          by_cases hc : ck = 0
          · subst hc
            have HT3 := hid (show takeTreeS b = if (treeW X).2 ≠ 0 then ([], 5) else if (treeW X).1 = b then (X, 0) else ([], 5) by rw [HT2.out, if_neg (by simp)])
            have HTR := hid (RTree_any _ X wr (OwnEnt.sl HO.out))
            have HOX := hid (owns_lower HO.out (Nat.le_succ w.heap.size))
            clear hce1 hce2 hgo HT2 HX2 hn hlt
            go_wp2_with fail
            refine HTR.out.mono ?_
            rintro e w5 ⟨u, rfl, hu, hb5⟩
            have HU := hid hu
            have HB5 := hid (below_step HBL.out hb5 HBL.out.size)
            have HO5 := hid ((Keep.ofBelow (S := fun _ => False) hb5).owns HOX.out fun _ _ h => h)
            have HV5 := hid ((HV.out.old HBL.out).old hb5)
            clear hu hb5
            by_cases he : (treeW X).2 = 0
            · have HBY := hid (HBytes_any _ _ (treeW X).1 b w5 (Sl.ofOwns HU.out) HV5.out)
              rw [he]
              by_cases hbb : (treeW X).1 = b
              · have HT4 := hid (show takeTreeS b = (X, 0) by rw [HT3.out, if_neg (by simp [he]), if_pos hbb])
                rw [show ((treeW X).1 == b) = true by simpa using hbb] at HBY
                clear hbb he HT3
                go_wp2_with fail
                refine HBY.out.mono ?_
                rintro e _ ⟨rfl, rfl⟩
                go_wp2_with fail
                refine bodyPost_ret (results_tmp2 rfl _ _ _) rfl ⟨.slice no X.length nc, by rw [HT4.out]; rfl, ?_, HB5.out⟩
                rw [HT4.out]
                exact HO5.out
              · have HT4 := hid (show takeTreeS b = ([], 5) by rw [HT3.out, if_neg (by simp [he]), if_neg hbb])
                rw [show ((treeW X).1 == b) = false by simpa using hbb] at HBY
                clear hbb he HT3
                go_wp2_with fail
                refine HBY.out.mono ?_
                rintro e _ ⟨rfl, rfl⟩
                go_wp2_with fail
                refine bodyPost_ret (results_tmp2 rfl _ _ _) rfl ⟨.slice none 0 0, by rw [HT4.out]; rfl, ?_, HB5.out⟩
                rw [HT4.out]
                exact World.ownsRow_nil _ _ _ _
            · have HT4 := hid (show takeTreeS b = ([], 5) by rw [HT3.out, if_pos he])
              have f1 : ((treeW X).2 == 0) = false := by simpa using he
              have f2 : ((treeW X).2 != 0) = true := by simpa using he
              clear he HT3
              go_wp2_with fail
              refine bodyPost_ret (results_tmp2 rfl _ _ _) rfl ⟨.slice none 0 0, by rw [HT4.out]; rfl, ?_, HB5.out⟩
              rw [HT4.out]
              exact World.ownsRow_nil _ _ _ _
          · have e1 := hce1 hc
            have e2 := hce2 hc
            have HT3 := hid (show takeTreeS b = ([], ck) by rw [HT2.out, if_pos hc])
            clear hce1 hce2 hc hgo HT2 HX2 hn
            go_wp2_with fail
            go_quiet (fail)
            go_wp2
            refine bodyPost_ret (results_tmp2 rfl _ _ _) rfl ⟨.slice none 0 0, by rw [HT3.out]; rfl, ?_, below_step HBL.out (below_drewN wr _) HBL.out.size⟩
            rw [HT3.out]
            exact World.ownsRow_nil _ _ _ _
  · have hne : ((kindS b : Int) != 2) = true := by simp; omega
    have hne2 : (kindS b != 2) = true := by simpa using hk
    have hne3 : ((kindS b : Int) == 2) = false := beq_false_of_ne (by omega)
    have hne4 : (kindS b == 2) = false := beq_false_of_ne hk
    have HT := hid (show takeTreeS b = ([], 5) by unfold takeTreeS; rw [if_pos hk])
    generalize kindS b = k at *
    clear hk hv
    go_enter Tryd.func21, Tryd.ntmps21
    go_wp2_with fail
    refine HK.out.mono ?_
    rintro e w1 ⟨rfl, rfl⟩
    go_wp2
    refine bodyPost_ret (results_tmp2 rfl _ _ _) rfl ⟨.slice none 0 0, by rw [HT.out]; rfl, ?_, Below.refl _ _⟩
    rw [HT.out]
    exact World.ownsRow_nil _ _ _ _
end
end Go.Proofs.YtbcpfakdmnccmaaDoor

namespace Go.Proofs.YtbcpfakdmnccmaaDoor
open Go.RowKit

theorem take_d {P : Program} {md : Region.Mode} {ops : Array Oper} {Q : Exit → Act → World → Prop} {S : World → Prop} {i : Nat} {oi : Oper} {v : Value} {fuel : Nat} {listed : Array Bool} {a : Act} {w : World} (d : Option Tmp) (hi : ops[i]? = some oi)
    (hs : Region.noSelect ops = true) (hf : Region.free md ops listed i = true) (hr : (Region.ready md ops listed).contains i = true)
    (hd : oi.dst = d) (hQ : ∀ c a w, Q (.panic c) (a.put oi.dst v) w → Q (.panic c) a w) (hy : YieldsIf P ops S oi v a) (hS : S w)
    (h : wpAnyH P md ops Q S fuel (listed.setIfInBounds i true) (a.put d v) w) : wpAnyH P md ops Q S (fuel + 1) listed a w := by
  subst hd
  exact wpAnyH_take hi hs hf hr hQ hy hS h
theorem exec_com0 {o : Oper} {a : Act} {wz : World} (ho : o.op = .build 27 #[]) : (execOp a.eval o).run Tryd.prog wz = .ok (.value (.agg (comC comZ).toArray)) wz := by
  have h := run_build (P := Tryd.prog) wz 27 #[] _ com_zero
  unfold execOp
  simp only [ho, List.map_toArray, List.map_nil, Sem.run_bind, h, Result.andThen_ok, Sem.run_pure]
theorem Sl.keptB {w w' : World} {v : Value} {cs : List Value} (h : Sl w v cs) (hk : Below w.heap.size w w') : Sl w' v cs := h.old hk
section
set_option maxRecDepth 100000
set_option maxHeartbeats 4000000
theorem RTakeCommit_any (v : Value) (b : List UInt8) (w : World) (hv : Sl w v (Lib.byteCells b)) (hlen : b.length ≤ 1000000) :
    Calls Tryd.prog 23 #[v] w fun e w' => e = .returned (.tuple #[.agg (comC (takeComS b).1).toArray, .int .i64 (takeComS b).2]) ∧ Below w.heap.size w w' := by
  have hb0 : Below w.heap.size w (w.alloc (.cells (comC comZ).toArray 27)) := (Below.refl _ w).alloc (Nat.le_refl _) _
  have hg0 := heap_alloc_new w (.cells (comC comZ).toArray 27)
  have HG0 := hid hg0
  have HB0 := hid hb0
  have HK := hid (RKind_any v b _ (hv.old hb0))
  have HI67 := hid (fun c : ComS => show (comC c).toArray.size = 67 by rw [List.size_toArray, comC_len])
  have HCI := hid (fun c : ComS => show (Tryd.prog.info? 27).map (·.size) = some (comC c).toArray.size by rw [HI67.out, Tryd.sizeCom])
  have HCO := hid (fun c : ComS => arr_one (comC_one c))
  obtain ⟨ao, cap, rfl⟩ := hv.form
  rw [Lib.byteCells_length] at HK hv ⊢
  by_cases hk : kindS b = 3
  · rw [hk] at HK
    have hb1 := kind_len hk (by decide)
    have hr0 := Rf.new _ (hv.old hb0) hb1 (by omega)
    rw [show (w.alloc (.cells (comC comZ).toArray 27)).heap.size = w.heap.size + 1 by simp] at hr0
    have hbx : Below w.heap.size w ((w.alloc (.cells (comC comZ).toArray 27)).alloc (.cells #[.slice ao b.length cap, .int .i64 1, .int .i64 0] 73)) := hb0.alloc hb0.size _
    have hgx := ((Below.refl _ (w.alloc (.cells (comC comZ).toArray 27))).alloc (Nat.le_refl _) (.cells #[.slice ao b.length cap, .int .i64 1, .int .i64 0] 73)).block _ (lt_of_block hg0) |>.trans hg0
    have HT := hid (com_again b hk)
    have HR0 := hid hr0
    have HBX := hid hbx
    have HGX := hid hgx
    have HV := hid hv
    clear hk hb0 hg0 hb1 hr0 hbx hgx hv
    go_enter Tryd.func23, Tryd.ntmps23
    go_wp2_with fail
    refine HK.out.mono ?_
    rintro e _ ⟨rfl, rfl⟩
    go_wp2_with fail
    refine (FBool_all _ _ _ _ _ _ HR0.out).mono ?_
    generalize b.drop 1 = l at *
    rintro e w1 ⟨rfl, hr1, hk1⟩
    go_wp2_with fail
    refine (RKey_any _ _ _ _ _ _ hr1).mono ?_
    rintro e w2 ⟨rfl, hr2, hk2⟩
    go_wp2_with fail
    refine (RKey_any _ _ _ _ _ _ hr2).mono ?_
    rintro e w3 ⟨rfl, hr3, hk3⟩
    go_wp2_with fail
    refine (FText_all _ _ _ _ _ _ hr3).mono ?_
    rintro e w4 ⟨rfl, hr4, hk4⟩
    go_wp2_with fail
    refine (FNum_all _ _ _ _ _ 8 _ hr4).mono ?_
    rw [show heldN 8 = 8 from rfl]
    rintro e w5 ⟨rfl, hr5, hk5⟩
    have hkx := (((hk1.trans hk2).trans hk3).trans hk4).trans hk5
    have HG5 := hid ((hkx.block _ (lt_of_block HGX.out) (by show ¬ _ = _; omega)).trans HGX.out)
    have HB5 := hid (HBX.out.trans (hkx.below HBX.out.size fun k hk => by show ¬ k = _; omega))
    have HR5 := hid (show Rf w5 (w.heap.size + 1) (w.heap.size + 1) b (coL l) (coE l) from hr5)
    obtain ⟨c, hc⟩ : ∃ c, coV l = c := ⟨_, rfl⟩
    have h1 : blV l 0 = c.1 := by rw [← hc]; rfl
    have h2 : kyV (blL l 0) (blE l 0) = c.2.1 := by rw [← hc]; rfl
    have h3 : kyV (kyL (blL l 0) (blE l 0)) (kyE (blL l 0) (blE l 0)) = c.2.2.1 := by rw [← hc]; rfl
    have h4 : txV (kyL (kyL (blL l 0) (blE l 0)) (kyE (blL l 0) (blE l 0))) (kyE (kyL (blL l 0) (blE l 0)) (kyE (blL l 0) (blE l 0))) = c.2.2.2.1 := by rw [← hc]; rfl
    have h5 : numOf (stV 8 (txL (kyL (kyL (blL l 0) (blE l 0)) (kyE (blL l 0) (blE l 0))) (kyE (kyL (blL l 0) (blE l 0)) (kyE (blL l 0) (blE l 0)))) (txE (kyL (kyL (blL l 0) (blE l 0)) (kyE (blL l 0) (blE l 0))) (kyE (kyL (blL l 0) (blE l 0)) (kyE (blL l 0) (blE l 0))))) = c.2.2.2.2 := by rw [← hc]; rfl
    have HS := hid (show c.2.2.2.2 < 18446744073709551616 by rw [← hc]; exact stV_lt 8 (coL4 l) (coE4 l))
    rw [h1, h2, h3, h4, h5, keyW, keyW]
    rw [hc] at HT
    have HZ5 := hid (lt_of_block HG5.out)
    clear h1 h2 h3 h4 h5 hc hkx hk1 hk2 hk3 hk4 hk5 hr1 hr2 hr3 hr4 hr5 HR0 HBX HGX HG0 HB0
    obtain ⟨en, hen⟩ : ∃ en, coE l = en := ⟨_, rfl⟩
    rw [hen] at HT HR5
    clear hen
    by_cases he : en = 0
    · subst he
      go_wp2_with (first
        | (refine wpList_load_row rfl 27 _ rfl w5.heap.size rfl _ _ _ _ HG6.out Tryd.underlying27 rfl (HCI.out c) ?_)
        | (refine wpList_build_com rfl (.tmp 16) (.tmp 18) (.tmp 20) (.tmp 22) (.tmp 24) rfl c rfl rfl rfl rfl rfl ?_)
        | (refine wpList_store_all rfl 27 _ _ rfl w5.heap.size _ rfl rfl _ _ (heap_alloc_new w5 _) 67 Tryd.sizeCom (HI67.out c) rfl (HCO.out c) ?_; intro w6 hg6 hk6
           have HG6 := hid hg6
           have HG66 := hid ((hk6.block _ (by have := HZ5.out; simp; omega) (by have := HZ5.out; show ¬ _ = _; omega)).trans (((Below.refl _ w5).alloc (Nat.le_refl _) (.cells (comC comZ).toArray 27)).block _ HZ5.out |>.trans HG5.out))
           have HB56 := hid (show Below w5.heap.size w5 w6 from ((Below.refl _ w5).alloc (Nat.le_refl _) _).trans (hk6.below (by simp) fun q hq => by show ¬ q = _; omega))
           have HR6 := hid (HR5.out.old HB56.out)
           have hec := HR6.out.err
           clear hg6 hk6))
      have HB6 := hid (below_step HB5.out HB56.out HB5.out.size)
      have HRC := hid (RCommit_any c HS.out w6)
      have HT2 := hid (show takeComS b = if (comW c).2 ≠ 0 then (comZ, 5) else if (comW c).1 = b then (c, 0) else (comZ, 5) by rw [HT.out, if_neg (by simp)])
      clear hec HT HR6 HR5 HB5 HG5 HK
      refine HRC.out.mono ?_
      rintro e w7 ⟨u, rfl, hu, hb7⟩
      have HU := hid hu
      have HB7 := hid (below_step HB6.out hb7 HB6.out.size)
      have HG7 := hid ((hb7.block _ (lt_of_block HG6.out)).trans HG6.out)
      have HG77 := hid ((hb7.block _ (lt_of_block HG66.out)).trans HG66.out)
      have HV7 := hid (HV.out.keptB HB7.out)
      clear hu hb7
      by_cases hx : (comW c).2 = 0
      · have HBY := hid (HBytes_any _ _ (comW c).1 b w7 (Sl.ofOwns HU.out) HV7.out)
        rw [hx]
        by_cases hbb : (comW c).1 = b
        · have HT4 := hid (show takeComS b = (c, 0) by rw [HT2.out, if_neg (by simp [hx]), if_pos hbb])
          rw [show ((comW c).1 == b) = true by simpa using hbb] at HBY
          clear hbb hx HT2
          go_wp2_with fail
          refine HBY.out.mono ?_
          rintro e _ ⟨rfl, rfl⟩
          go_wp2_with (first
            | (refine wpList_load_row rfl 27 _ rfl w5.heap.size rfl _ _ _ _ HG7.out Tryd.underlying27 rfl (HCI.out c) ?_)
            | (refine wpList_store_all rfl 27 _ _ rfl w.heap.size _ rfl rfl _ _ HG77.out 67 Tryd.sizeCom (HI67.out c) (HI67.out comZ) (HCO.out c) ?_; intro w8 hg8 hk8))
          refine bodyPost_ret (row_results rfl _ _ w.heap.size _ _ _ _ _ rfl rfl hg8 Tryd.underlying27 rfl (HCI.out c)) rfl ⟨by rw [HT4.out]; rfl, HB7.out.trans (hk8.below HB7.out.size fun k hk => by show ¬ k = _; omega)⟩
        · have HT4 := hid (show takeComS b = (comZ, 5) by rw [HT2.out, if_neg (by simp [hx]), if_neg hbb])
          rw [show ((comW c).1 == b) = false by simpa using hbb] at HBY
          clear hbb hx HT2
          go_wp2_with fail
          refine HBY.out.mono ?_
          rintro e _ ⟨rfl, rfl⟩
          go_wp2_with (first
            | (refine wpList_build_com0 rfl rfl ?_)
            | (refine wpList_store_all rfl 27 _ _ rfl w.heap.size _ rfl rfl _ _ HG77.out 67 Tryd.sizeCom (HI67.out comZ) (HI67.out comZ) (HCO.out comZ) ?_; intro w8 hg8 hk8))
          refine bodyPost_ret (row_results rfl _ _ w.heap.size _ _ _ _ _ rfl rfl hg8 Tryd.underlying27 rfl (HCI.out comZ)) rfl ⟨by rw [HT4.out]; rfl, HB7.out.trans (hk8.below HB7.out.size fun k hk => by show ¬ k = _; omega)⟩
      · have HT4 := hid (show takeComS b = (comZ, 5) by rw [HT2.out, if_pos hx])
        have f1 : ((comW c).2 == 0) = false := by simpa using hx
        have f2 : ((comW c).2 != 0) = true := by simpa using hx
        clear hx HT2
        go_wp2_with (first
          | (refine wpList_build_com0 rfl rfl ?_)
          | (refine wpList_store_all rfl 27 _ _ rfl w.heap.size _ rfl rfl _ _ HG77.out 67 Tryd.sizeCom (HI67.out comZ) (HI67.out comZ) (HCO.out comZ) ?_; intro w8 hg8 hk8))
        refine bodyPost_ret (row_results rfl _ _ w.heap.size _ _ _ _ _ rfl rfl hg8 Tryd.underlying27 rfl (HCI.out comZ)) rfl ⟨by rw [HT4.out]; rfl, HB7.out.trans (hk8.below HB7.out.size fun k hk => by show ¬ k = _; omega)⟩
    · have HT2 := hid (show takeComS b = (comZ, en) by rw [HT.out, if_pos he])
      have e1 : (en == 0) = false := by simpa using he
      have e2 : (en != 0) = true := by simpa using he
      clear he HT
      go_wp2_with (first
        | (refine wpList_build_com rfl (.tmp 16) (.tmp 18) (.tmp 20) (.tmp 22) (.tmp 24) rfl c rfl rfl rfl rfl rfl ?_)
        | (refine wpList_store_all rfl 27 _ _ rfl w5.heap.size _ rfl rfl _ _ (heap_alloc_new w5 _) 67 Tryd.sizeCom (HI67.out c) rfl (HCO.out c) ?_; intro w6 hg6 hk6
           have HG6 := hid hg6
           have HG66 := hid ((hk6.block _ (by have := HZ5.out; simp; omega) (by have := HZ5.out; show ¬ _ = _; omega)).trans (((Below.refl _ w5).alloc (Nat.le_refl _) (.cells (comC comZ).toArray 27)).block _ HZ5.out |>.trans HG5.out))
           have HB56 := hid (show Below w5.heap.size w5 w6 from ((Below.refl _ w5).alloc (Nat.le_refl _) _).trans (hk6.below (by simp) fun q hq => by show ¬ q = _; omega))
           have HR6 := hid (HR5.out.old HB56.out)
           have hec := HR6.out.err
           clear hg6 hk6))
      have HB6 := hid (below_step HB5.out HB56.out HB5.out.size)
      have HHE := hid hec
      clear hec
      obtain ⟨Z, hZ⟩ : ∃ Z, (comC comZ).toArray = Z := ⟨_, rfl⟩
      have HZZ := hid hZ
      clear hZ
      refine wp_region_held_drew (S := fun wy => wy.cell? ⟨w.heap.size + 1, 2, none⟩ = some (.int .i64 en)) (by kernel_rfl) HHE.out (fun hS => ?_)
      refine take_d (i := 1) (v := .pointer (some ⟨w.heap.size + 1, 0, none⟩)) (some 32) rfl (by kernel_rfl) (by kernel_rfl) (by kernel_rfl) rfl (fun _ _ _ h => h) (Or.inl ⟨by rfl, fun wz hz => ?_⟩) hS ?_
      · clear hz
        go_simp
      simp only [Act.put, List.setIfInBounds_toArray, List.set_cons_zero, List.set_cons_succ]
      refine take_d (i := 2) (v := .pointer (some ⟨w.heap.size + 1, 0, none⟩)) (some 33) rfl (by kernel_rfl) (by kernel_rfl) (by kernel_rfl) rfl (fun _ _ _ h => h) (Or.inl ⟨by rfl, fun wz hz => ?_⟩) hS ?_
      · clear hz
        go_simp
      simp only [Act.put, List.setIfInBounds_toArray, List.set_cons_zero, List.set_cons_succ]
      refine take_d (i := 3) (v := .pointer (some ⟨w.heap.size + 1, 2, none⟩)) (some 34) rfl (by kernel_rfl) (by kernel_rfl) (by kernel_rfl) rfl (fun _ _ _ h => h) (Or.inl ⟨by rfl, fun wz hz => ?_⟩) hS ?_
      · clear hz
        go_simp
      simp only [Act.put, List.setIfInBounds_toArray, List.set_cons_zero, List.set_cons_succ]
      refine take_d (i := 4) (v := .int .i64 en) (some 35) rfl (by kernel_rfl) (by kernel_rfl) (by kernel_rfl) rfl (fun _ _ _ h => h) (Or.inl ⟨by rfl, fun wz hz => ?_⟩) hS ?_
      · go_simp
      simp only [Act.put, List.setIfInBounds_toArray, List.set_cons_zero, List.set_cons_succ]
      refine take_d (i := 0) (v := .agg Z) (some 31) rfl (by kernel_rfl) (by kernel_rfl) (by kernel_rfl) rfl (fun _ _ _ h => h) (Or.inl ⟨by rfl, fun wz hz => ?_⟩) hS ?_
      · rw [← HZZ.out]; refine exec_com0 ?_; rfl
      simp only [Act.put, List.setIfInBounds_toArray, List.set_cons_zero, List.set_cons_succ]
      refine wpAnyH_ready (rs := [5]) (by kernel_rfl) (by simp) ?_
      refine AllReadyH.cons rfl ?_ AllReadyH.nil
      intro K' hK'
      rw [if_pos (by simp [Region.wanted])]
      refine wp_store_row 27 (.tmp 2) (.tmp 31) rfl w.heap.size Z (by rfl) (by rfl) _ _ HG66.out (by rw [← HZZ.out]; exact HCI.out comZ) (by rw [HZZ.out]) (by rw [← HZZ.out]; exact HCO.out comZ) ?_
      have hg7 : (w6.drew.setRow w.heap.size Z).heap[w.heap.size]? = some (.cells Z 27 (0, 0)) := setRow_heap w6.drew w.heap.size _ Z 27 _ HG66.out
      have hk7 : Keep (· = w.heap.size) w6.drew (w6.drew.setRow w.heap.size Z) := ⟨rfl, rfl, rfl, by simp [World.setRow], fun k _ hk => setRow_other w6.drew w.heap.size k _ hk⟩
      have hb7 : Below w.heap.size w (w6.drew.setRow w.heap.size Z) := HB6.out.drew.trans (hk7.below HB6.out.size fun k hk => by show ¬ k = _; omega)
      have hc7 : (w6.drew.setRow w.heap.size Z).cell? ⟨w.heap.size + 1, 2, none⟩ = some (.int .i64 en) := (World.cell?_of_block (a := ⟨w.heap.size + 1, 2, none⟩) (w := w6.drew) (setRow_other w6.drew w.heap.size (w.heap.size + 1) _ (by omega))).trans HHE.out
      generalize w6.drew.setRow w.heap.size Z = w7 at *
      refine hK'.out _ w7 hc7 ?_
      intro hS7
      clear hK' hS
      simp only [Act.put]
      refine take_d (i := 6) (v := .int .i64 en) (some 3) rfl (by kernel_rfl) (by kernel_rfl) (by kernel_rfl) rfl (fun _ _ _ h => h) (Or.inl ⟨by rfl, fun wz hz => ?_⟩) hS7 ?_
      · clear hz
        go_simp
      simp only [Act.put]
      refine wpAnyH_done (by kernel_rfl) ?_ _
      have HB7 := hid hb7
      have HG7 := hid hg7
      clear hk7 hb7 hg7 hc7 hS7
      go_wp2
      refine bodyPost_ret (row_results rfl _ _ w.heap.size _ _ _ _ _ rfl rfl HG7.out Tryd.underlying27 rfl (by rw [← HZZ.out]; exact HCI.out comZ)) rfl ⟨by rw [HT2.out, ← HZZ.out]; rfl, HB7.out⟩
  · have hne : ((kindS b : Int) != 3) = true := by simp; omega
    have hne2 : (kindS b != 3) = true := by simpa using hk
    have hne3 : ((kindS b : Int) == 3) = false := beq_false_of_ne (by omega)
    have hne4 : (kindS b == 3) = false := beq_false_of_ne hk
    have HT := hid (show takeComS b = (comZ, 5) by unfold takeComS; rw [if_pos hk])
    generalize kindS b = k at *
    clear hk hv hg0 hb0
    go_enter Tryd.func23, Tryd.ntmps23
    go_wp2_with fail
    refine HK.out.mono ?_
    rintro e w1 ⟨rfl, rfl⟩
    go_wp2_with (first
      | (refine wpList_build_com0 rfl rfl ?_)
      | (refine wpList_store_all rfl 27 _ _ rfl w.heap.size _ rfl rfl _ _ HG0.out 67 Tryd.sizeCom (HI67.out comZ) (HI67.out comZ) (HCO.out comZ) ?_; intro w2 hg2 hk2))
    refine bodyPost_ret (row_results rfl _ _ w.heap.size _ _ _ _ _ rfl rfl hg2 Tryd.underlying27 rfl (HCI.out comZ)) rfl ⟨by rw [HT.out]; rfl, HB0.out.trans (hk2.below HB0.out.size fun k hk => by show ¬ k = _; omega)⟩
end
end Go.Proofs.YtbcpfakdmnccmaaDoor

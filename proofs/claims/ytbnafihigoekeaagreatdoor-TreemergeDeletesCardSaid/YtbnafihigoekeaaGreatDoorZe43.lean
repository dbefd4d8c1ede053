/-
  TmDe, part 43.
-/
import Derived.Test.YtbnafihigoekeaaGreatDoorZe42
namespace Go.Proofs.YtbnafihigoekeaaGreatDoor
open Go.RowKit
structure FewW (s : WhS) (n : Nat) : Prop where
  files : s.1.length ≤ n
  cl : s.2.length ≤ n
  path : ∀ f ∈ s.1, f.1.length ≤ 1000000
theorem FewW.put {s : WhS} {n : Nat} (h : FewW s n) {f : FileS} (hf : f.1.length ≤ 1000000) (k : Int) : FewW (putW s f k) (n + 1) := by
  obtain ⟨h1, h2, h3⟩ := h
  unfold putW
  split
  · exact ⟨Nat.le_succ_of_le h1, by simp; omega, h3⟩
  · refine ⟨by simp; omega, ?_, fun g hg => ?_⟩
    · split
      · exact Nat.le_succ_of_le h2
      · simp; omega
    · rcases List.mem_append.1 hg with hg | hg
      · exact h3 g hg
      · rw [List.mem_singleton.1 hg]; exact hf
theorem FewW.mono {s : WhS} {n m : Nat} (h : FewW s n) (hm : n ≤ m) : FewW s m := ⟨Nat.le_trans h.files hm, Nat.le_trans h.cl hm, h.path⟩
theorem FewW.one {s : WhS} {n : Nat} (h : FewW s n) (b : FileS) {f : FileS} (hf : f.1.length ≤ 1000000) : FewW (oneW s b f) (n + 1) := by
  unfold oneW
  split
  · exact h.mono (Nat.le_succ _)
  · exact h.put hf 3
theorem FewW.keep {s : WhS} {n : Nat} (h : FewW s n) (b : FileS) {u v : Option FileS} (hu : ∀ g, u = some g → g.1.length ≤ 1000000) (hv : ∀ g, v = some g → g.1.length ≤ 1000000) : FewW (keepW s b u v) (n + 1) := by
  unfold keepW
  split
  · refine h.put ?_ _
    unfold bothF
    simp only
    split
    · exact hv _ rfl
    · exact hu _ rfl
  · exact h.one _ (hu _ rfl)
  · exact h.one _ (hv _ rfl)
  · exact h.mono (Nat.le_succ _)
theorem FewW.ok {s : WhS} {n : Nat} (h : FewW s n) (hn : n ≤ 100000) : (s.1.length ≤ 100000 ∧ s.2.length ≤ 100000) ∧ ∀ f ∈ s.1, f.1.length ≤ 1000000 := ⟨⟨Nat.le_trans h.files hn, Nat.le_trans h.cl hn⟩, h.path⟩
def PtrTo (v : Value) (w : World) (f : FileS) : Prop := ∃ g, v = .pointer (some ⟨g, 0, none⟩) ∧ w.heap[g]? = some (.cells #[.string ⟨f.1.toArray⟩, .bool f.2.1, .string ⟨f.2.2.toArray⟩] 28 (0, 0))
section
set_option maxRecDepth 100000
set_option maxHeartbeats 4000000
theorem DFindM_any (kb gm : Nat) (v0 v1 : Value) (s : WhS) (f : SpS → Option FileS) (W0 w : World) (n : Nat) (D : MW) (h : WhM kb gm v0 v1 s w) (hb : Below kb W0 w) (hk0 : W0.heap.size = kb) (hms : OwnMs W0 gm n D) (hs : ShowsS D f) (p : Txt) (i : Nat) (hp : p.length ≤ maxLen) (hi : i ≤ 1) :
    Calls Tryz.prog 50 #[.pointer (some ⟨kb, 0, none⟩), strV p, .int .u8 (i : Nat)] w fun e w' => e = .returned (.tuple #[fileV ((f (p, i)).getD fileZ), .bool (f (p, i)).isSome]) ∧ Below w.heap.size w w' := by
  obtain ⟨vm, vc, hg, _⟩ := h.ex
  exact DFindS_any kb gm f 57 p i w n D _ rfl hg (hms.old fun hlt => hb.block _ (by omega)) hs hp hi
theorem DKeep_any (kb gm : Nat) (v0 v1 : Value) (f : SpS → Option FileS) (W0 w : World) (n : Nat) (D : MW) (s : WhS) (h : WhM kb gm v0 v1 s w) (hb : Below kb W0 w) (hk0 : W0.heap.size = kb) (hms : OwnMs W0 gm n D) (hs : ShowsS D f) (hfew : FewW s 400) (hf : ∀ p i g, f (p, i) = some g → g.1.length ≤ 1000000 ∧ g.2.2.length ≤ 3000) (va : Value) (a : List FileS) (ha : SlF W0 va a) (hal : a.length ≤ 100) (hat : ∀ x ∈ a, x.1.length ≤ 1000000 ∧ x.2.2.length ≤ 3000) :
    Calls Tryz.prog 26 #[.pointer (some ⟨kb, 0, none⟩), va] w fun e w' => e = .returned (.tuple #[]) ∧ WhM kb gm v0 v1 (a.foldl (fun s b => keepW s b (f (b.1, 0)) (f (b.1, 1))) s) w' ∧ Below kb W0 w' := by
  obtain ⟨ao, ac, rfl⟩ := SlR.form ha
  have HFI := hid (fun (s : WhS) (p : Txt) (i : Nat) (hp : p.length ≤ 1000000) (hi : i ≤ 1) (wx : World) (h : WhM kb gm v0 v1 s wx) (hb : Below kb W0 wx) => DFindM_any kb gm v0 v1 s f W0 wx n D h hb hk0 hms hs p i (by unfold maxLen; omega) hi)
  have HFL := hid hf
  have HW := hid h
  have HB := hid hb
  have HFEW := hid hfew
  have HAo := hid (fun wx (hk : Below kb W0 wx) => SlR.old ha (w' := wx) (by rw [hk0]; exact hk))
  have HAT := hid hat
  have HAL := hid hal
  clear h hb hk0 hms hs hfew hf ha hal hat
  go_enter Tryz.func26, Tryz.ntmps26
  go_wp2_with fail
  go_loopg [12] a.length (fun g i wr => ∃ (k : Nat) (z : WhS), i = .int .i64 (k : Int) ∧ Hid (k ≤ a.length ∧ a.length - k ≤ g) ∧ Hid (z = (a.take k).foldl (fun s b => keepW s b (f (b.1, 0)) (f (b.1, 1))) s ∧ FewW z (400 + k)) ∧ Hid (WhM kb gm v0 v1 z wr) ∧ Hid (Below kb W0 wr))
  case atStart => exact ⟨0, s, rfl, hid ⟨Nat.zero_le _, Nat.le_refl _⟩, hid ⟨rfl, HFEW.out⟩, HW, HB⟩
  case round =>
    clear HW HB HFEW
    obtain ⟨k, z, rfl, HQ, HS, HW, HB⟩ := hrel
    have hQ := HQ.out
    have k0 : (0 : Int) ≤ (k : Int) := Int.natCast_nonneg _
    by_cases hlt : k < a.length
    case neg =>
      obtain rfl : k = a.length := by omega
      have hneg : ¬ (a.length : Int) < (a.length : Int) := by omega
      have HE := hid (show z = a.foldl (fun s b => keepW s b (f (b.1, 0)) (f (b.1, 1))) s by rw [HS.out.1, List.take_length])
      go_wp2_with fail
      go_end0
      exact ⟨rfl, by rw [← HE.out]; exact HW.out, HB.out⟩
    have k1 : (k : Int) < (a.length : Int) := by omega
    have kw : IntKind.i64.wrap ((k : Int) + 1) = (k : Int) + 1 := IntWalk.i64_in _ (by have := HAL.out; omega)
    obtain ⟨b1, p1, p, x, t, e, he, r0, r1, r2⟩ := SlF.at (HAo.out wr HB.out) hlt
    cases e
    obtain ⟨u, hu⟩ : ∃ y, f (p, 0) = y := ⟨_, rfl⟩
    obtain ⟨v, hv⟩ : ∃ y, f (p, 1) = y := ⟨_, rfl⟩
    obtain ⟨⟨up, ux, ut⟩, huv⟩ : ∃ y, u.getD fileZ = y := ⟨_, rfl⟩
    obtain ⟨⟨vp, vx, vt⟩, hvv⟩ : ∃ y, v.getD fileZ = y := ⟨_, rfl⟩
    have HK := hid (show (a.take (k + 1)).foldl (fun s b => keepW s b (f (b.1, 0)) (f (b.1, 1))) s = keepW z (p, x, t) u v by rw [List.take_add_one, he, List.foldl_append, ← HS.out.1]; show keepW z (p, x, t) (f (p, 0)) (f (p, 1)) = _; rw [hu, hv])
    have HPT := hid (HAT.out _ (List.mem_of_getElem? he))
    have HU3 := hid (show ∀ g, u = some g → g.1.length ≤ 1000000 ∧ g.2.2.length ≤ 3000 from fun g hg => HFL.out p 0 g (hu.trans hg))
    have HV3 := hid (show ∀ g, v = some g → g.1.length ≤ 1000000 ∧ g.2.2.length ≤ 3000 from fun g hg => HFL.out p 1 g (hv.trans hg))
    have HF0 := hid (fun wx h1 h2 => (show Calls Tryz.prog 50 #[.pointer (some ⟨kb, 0, none⟩), strV p, .int .u8 0] wx _ from HFI.out z p 0 HPT.out.1 (by omega) wx h1 h2))
    have HF1 := hid (fun wx h1 h2 => (show Calls Tryz.prog 50 #[.pointer (some ⟨kb, 0, none⟩), strV p, .int .u8 1] wx _ from HFI.out z p 1 HPT.out.1 (by omega) wx h1 h2))
    rw [hu, huv] at HF0
    rw [hv, hvv] at HF1
    have HUV := hid huv
    have HVV := hid hvv
    have HZF := hid (show FewW (keepW z (p, x, t) u v) (400 + (k + 1)) from HS.out.2.keep (p, x, t) (fun g hg => (HU3.out g hg).1) (fun g hg => (HV3.out g hg).1))
    have HOK := hid (HS.out.2.ok (by have := HAL.out; omega))
    clear he hu hv huv hvv
    have hbA : Below wr.heap.size wr (wr.alloc (.cells #[.string ⟨p.toArray⟩, .bool x, .string ⟨t.toArray⟩] 28)) := (Below.refl _ wr).alloc (Nat.le_refl _) _
    have hgA := heap_alloc_new wr (.cells #[.string ⟨p.toArray⟩, .bool x, .string ⟨t.toArray⟩] 28)
    have HWA := hid (HW.out.old hbA)
    have HBA := hid (HB.out.trans (hbA.mono (Nat.le_of_lt HW.out.lt)))
    have c0 := blk_cell (i := 0) hgA rfl
    have c1 := blk_cell (i := 1) hgA rfl
    have c2 := blk_cell (i := 2) hgA rfl
    clear hbA hgA
    go_upto_region 3 with fail
    clear r0 r1 r2
    generalize wr.alloc (.cells #[.string ⟨p.toArray⟩, .bool x, .string ⟨t.toArray⟩] 28) = A at *
    generalize wr.heap.size = g5 at *
    have HFa := hid (HF0.out (A.drew) (HWA.out.old ((Below.refl _ _).drew)) (HBA.out.drew))
    have HFb := hid (HF0.out (A.alloc (.cells #[.string ⟨#[]⟩, .bool false, .string ⟨#[]⟩] 28)).drew (HWA.out.old (((Below.refl _ A).alloc (Nat.le_refl _) _).drew)) ((HBA.out.alloc (Nat.le_of_lt HWA.out.lt) _).drew))
    unfold fileV strV at HFa HFb
    have HNZ := hid (show (A.alloc (.cells #[.string ⟨#[]⟩, .bool false, .string ⟨#[]⟩] 28)).drew.heap[A.heap.size]? = some (.cells #[.string ⟨#[]⟩, .bool false, .string ⟨#[]⟩] 28 (0, 0)) from heap_alloc_new A _)
    have zc := below_cell ((Below.refl _ A).alloc (Nat.le_refl _) (.cells #[.string ⟨#[]⟩, .bool false, .string ⟨#[]⟩] 28)) c0
    go_upto_region 3 with fail
    go_cut [6, 7] from 16 to 24 (fun sv sb wx => sb = .bool u.isSome ∧ Hid (PtrTo sv wx (up, ux, ut) ∧ Below A.heap.size A wx))
    case first =>
      go_region_law (first
        | (go_simp
           go_at_call 50
           with_reducible refine HFa.out.mono ?_
           rintro e w5 ⟨rfl, hb5⟩
           have HB5 := hid (show Below A.heap.size A w5 from ((Below.refl _ A).drew).trans hb5)
           clear hb5
           go_simp)
        | (go_simp
           go_at_call 50
           with_reducible refine HFb.out.mono ?_
           rintro e w5 ⟨rfl, hb5⟩
           have HB5 := hid (show Below A.heap.size A w5 from (((Below.refl _ A).alloc (Nat.le_refl _) _).drew).trans (hb5.mono (by simp)))
           have hn := (hb5.block _ (lt_of_block HNZ.out)).trans HNZ.out
           have HN5 := hid hn
           have n0 := blk_cell (i := 0) hn rfl
           have n1 := blk_cell (i := 1) hn rfl
           have n2 := blk_cell (i := 2) hn rfl
           have m0 := blk_free (i := 0) hn
           have m1 := blk_free (i := 1) hn
           have m2 := blk_free (i := 2) hn
           clear hb5 hn
           go_simp))
      all_goals (
        go_wp2_with fail
        go_meet
        exact ⟨rfl, hid (by first | exact ⟨⟨_, rfl, heap_alloc_new _ _⟩, HB5.out.alloc HB5.out.size _⟩ | exact ⟨⟨_, rfl, blk_set (blk_set (blk_set HN5.out))⟩, ((HB5.out.setCell (Nat.le_refl _) _).setCell (Nat.le_refl _) _).setCell (Nat.le_refl _) _⟩)⟩)
    case rest =>
      obtain ⟨rfl, HC⟩ := hcut
      clear HFa HFb HNZ zc
      obtain ⟨g6, rfl, hg6⟩ := HC.out.1
      have hbc := HC.out.2
      have c0_ := below_cell hbc c0
      have c1_ := below_cell hbc c1
      have c2_ := below_cell hbc c2
      have HW6 := hid (HWA.out.old hbc)
      have HB6 := hid (HBA.out.trans (hbc.mono (Nat.le_of_lt HWA.out.lt)))
      have q60 := blk_cell (i := 0) hg6 rfl
      have q61 := blk_cell (i := 1) hg6 rfl
      have q62 := blk_cell (i := 2) hg6 rfl
      clear hbc HC hg6 c0 c1 c2
      have c0 := c0_
      have c1 := c1_
      have c2 := c2_
      clear c0_ c1_ c2_
      generalize wc = B3 at *
      have HFa := hid (HF1.out (B3.drew) (HW6.out.old ((Below.refl _ _).drew)) (HB6.out.drew))
      have HFb := hid (HF1.out (B3.alloc (.cells #[.string ⟨#[]⟩, .bool false, .string ⟨#[]⟩] 28)).drew (HW6.out.old (((Below.refl _ B3).alloc (Nat.le_refl _) _).drew)) ((HB6.out.alloc (Nat.le_of_lt HW6.out.lt) _).drew))
      unfold fileV strV at HFa HFb
      have HNZ := hid (show (B3.alloc (.cells #[.string ⟨#[]⟩, .bool false, .string ⟨#[]⟩] 28)).drew.heap[B3.heap.size]? = some (.cells #[.string ⟨#[]⟩, .bool false, .string ⟨#[]⟩] 28 (0, 0)) from heap_alloc_new B3 _)
      have zc := below_cell ((Below.refl _ B3).alloc (Nat.le_refl _) (.cells #[.string ⟨#[]⟩, .bool false, .string ⟨#[]⟩] 28)) c0
      go_upto_region 4 with fail
      go_cut [8, 9] from 25 to 33 (fun sv sb wx => sb = .bool v.isSome ∧ Hid (PtrTo sv wx (vp, vx, vt) ∧ Below B3.heap.size B3 wx))
      case first =>
        go_region_law (first
          | (go_simp
             go_at_call 50
             with_reducible refine HFa.out.mono ?_
             rintro e w5 ⟨rfl, hb5⟩
             have HB5 := hid (show Below B3.heap.size B3 w5 from ((Below.refl _ B3).drew).trans hb5)
             clear hb5
             go_simp)
          | (go_simp
             go_at_call 50
             with_reducible refine HFb.out.mono ?_
             rintro e w5 ⟨rfl, hb5⟩
             have HB5 := hid (show Below B3.heap.size B3 w5 from (((Below.refl _ B3).alloc (Nat.le_refl _) _).drew).trans (hb5.mono (by simp)))
             have hn := (hb5.block _ (lt_of_block HNZ.out)).trans HNZ.out
             have HN5 := hid hn
             have n0 := blk_cell (i := 0) hn rfl
             have n1 := blk_cell (i := 1) hn rfl
             have n2 := blk_cell (i := 2) hn rfl
             have m0 := blk_free (i := 0) hn
             have m1 := blk_free (i := 1) hn
             have m2 := blk_free (i := 2) hn
             clear hb5 hn
             go_simp))
        all_goals (
          go_wp2_with fail
          go_meet
          exact ⟨rfl, hid (by first | exact ⟨⟨_, rfl, heap_alloc_new _ _⟩, HB5.out.alloc HB5.out.size _⟩ | exact ⟨⟨_, rfl, blk_set (blk_set (blk_set HN5.out))⟩, ((HB5.out.setCell (Nat.le_refl _) _).setCell (Nat.le_refl _) _).setCell (Nat.le_refl _) _⟩)⟩)
      case rest =>
        obtain ⟨rfl, HC⟩ := hcut
        clear HFa HFb HNZ zc
        obtain ⟨g8, rfl, hg8⟩ := HC.out.1
        have hbc := HC.out.2
        have c0_ := below_cell hbc c0
        have c1_ := below_cell hbc c1
        have c2_ := below_cell hbc c2
        have q60_ := below_cell hbc q60
        have q61_ := below_cell hbc q61
        have q62_ := below_cell hbc q62
        have HW8 := hid (HW6.out.old hbc)
        have HB8 := hid (HB6.out.trans (hbc.mono (Nat.le_of_lt HW6.out.lt)))
        have q80 := blk_cell (i := 0) hg8 rfl
        have q81 := blk_cell (i := 1) hg8 rfl
        have q82 := blk_cell (i := 2) hg8 rfl
        clear hbc HC hg8 c0 c1 c2 q60 q61 q62
        have c0 := c0_
        have c1 := c1_
        have c2 := c2_
        have q60 := q60_
        have q61 := q61_
        have q62 := q62_
        clear c0_ c1_ c2_ q60_ q61_ q62_
        generalize wc = B4 at *
        cases u with
        | some g =>
          have hg : g = (up, ux, ut) := HUV.out
          subst hg
          have HU31 := hid (HU3.out _ rfl)
          cases v with
          | some g =>
            have hg : g = (vp, vx, vt) := HVV.out
            subst hg
            have HV31 := hid (HV3.out _ rfl)
            have HUN := hid (fun wx => DUnited_any (p, x, t) (up, ux, ut) (vp, vx, vt) wx HPT.out.2 HU31.out.2 HV31.out.2)
            obtain ⟨⟨mp, mx, mt⟩, hmf⟩ : ∃ y, bothF (p, x, t) (up, ux, ut) (vp, vx, vt) = y := ⟨_, rfl⟩
            have HMP := hid (show mp.length ≤ 1000000 from by
              have h : mp = (bothF (p, x, t) (up, ux, ut) (vp, vx, vt)).1 := by rw [hmf]
              rw [h]; unfold bothF; simp only; split
              · exact HV31.out.1
              · exact HU31.out.1)
            have HKE := hid (show keepW z (p, x, t) (some (up, ux, ut)) (some (vp, vx, vt)) = putW z (mp, mx, mt) (bothK (p, x, t) (up, ux, ut) (vp, vx, vt)) by show putW z (bothF _ _ _) _ = _; rw [hmf])
            rw [hmf] at HUN
            clear hmf
            have HPU := hid (fun wx hh => DPutM_any kb gm v0 v1 z mp mt mx (bothK (p, x, t) (up, ux, ut) (vp, vx, vt)) wx hh HOK.out.1 HOK.out.2 HMP.out)
            unfold fileV strV at HUN
            unfold strV at HPU
            generalize bothK (p, x, t) (up, ux, ut) (vp, vx, vt) = kk at *
            go_wp2_with (first
              | (go_at_call 52; refine (HUN.out _).mono ?_; rintro e w9 ⟨rfl, hb9⟩; have HW9 := hid (HW8.out.old hb9); have HB9 := hid (HB8.out.trans (hb9.mono (Nat.le_of_lt HW8.out.lt))); clear hb9)
              | (go_at_call 51; refine (HPU.out _ HW9.out).mono ?_; rintro e w10 ⟨rfl, h10, hb10⟩; have HW10 := hid h10; have HB10 := hid (HB9.out.trans hb10); clear h10 hb10))
            go_roundg (a.length - (k + 1))
            case measure => omega
            case rel => exact ⟨k + 1, _, by go_num, hid ⟨by omega, Nat.le_refl _⟩, hid ⟨HK.out.symm, HZF.out⟩, hid (by rw [HKE.out]; exact HW10.out), HB10⟩
          | none =>
            have HPU := hid (fun wx hh => DPutLeft_any kb gm v0 v1 z (p, x, t) (up, ux, ut) wx hh HOK.out.1 HOK.out.2 HU31.out.1)
            unfold fileV strV at HPU
            go_wp2_with (go_at_call 53; refine (HPU.out _ HW8.out).mono ?_; rintro e w10 ⟨rfl, h10, hb10⟩; have HW10 := hid h10; have HB10 := hid (HB8.out.trans hb10); clear h10 hb10)
            go_roundg (a.length - (k + 1))
            case measure => omega
            case rel => exact ⟨k + 1, _, by go_num, hid ⟨by omega, Nat.le_refl _⟩, hid ⟨HK.out.symm, HZF.out⟩, HW10, HB10⟩
        | none =>
          cases v with
          | some g =>
            have hg : g = (vp, vx, vt) := HVV.out
            subst hg
            have HV31 := hid (HV3.out _ rfl)
            have HPU := hid (fun wx hh => DPutLeft_any kb gm v0 v1 z (p, x, t) (vp, vx, vt) wx hh HOK.out.1 HOK.out.2 HV31.out.1)
            unfold fileV strV at HPU
            go_wp2_with (go_at_call 53; refine (HPU.out _ HW8.out).mono ?_; rintro e w10 ⟨rfl, h10, hb10⟩; have HW10 := hid h10; have HB10 := hid (HB8.out.trans hb10); clear h10 hb10)
            go_roundg (a.length - (k + 1))
            case measure => omega
            case rel => exact ⟨k + 1, _, by go_num, hid ⟨by omega, Nat.le_refl _⟩, hid ⟨HK.out.symm, HZF.out⟩, HW10, HB10⟩
          | none =>
            go_wp2_with fail
            go_roundg (a.length - (k + 1))
            case measure => omega
            case rel => exact ⟨k + 1, _, by go_num, hid ⟨by omega, Nat.le_refl _⟩, hid ⟨HK.out.symm, HZF.out⟩, HW8, HB8⟩
end
end Go.Proofs.YtbnafihigoekeaaGreatDoor
namespace Go.Proofs.YtbnafihigoekeaaGreatDoor
open Go.RowKit
def addOL (f : SpS → Option FileS) (s : WhS) (x : FileS) : WhS :=
  match f (x.1, 1) with
  | none => putW s x 0
  | some t => putW s (if x = t then x else joinF x t) (if x = t then 0 else 2)
def addTL (f : SpS → Option FileS) (s : WhS) (y : FileS) : WhS := if (f (y.1, 0)).isSome = true then s else putW s y 0
theorem FewW.addO {f : SpS → Option FileS} {s : WhS} {n : Nat} (h : FewW s n) {x : FileS} (hx : x.1.length ≤ 1000000) : FewW (addOL f s x) (n + 1) := by
  unfold addOL
  split
  · exact h.put hx 0
  · refine h.put ?_ _
    split
    · exact hx
    · exact hx
theorem FewW.addT {f : SpS → Option FileS} {s : WhS} {n : Nat} (h : FewW s n) {x : FileS} (hx : x.1.length ≤ 1000000) : FewW (addTL f s x) (n + 1) := by
  unfold addTL
  split
  · exact h.mono (Nat.le_succ _)
  · exact h.put hx 0
section
set_option maxRecDepth 100000
set_option maxHeartbeats 4000000
theorem DAddOurs_any (kb gm N : Nat) (v0 v1 : Value) (f : SpS → Option FileS) (W0 w : World) (n : Nat) (D : MW) (s : WhS) (h : WhM kb gm v0 v1 s w) (hb : Below kb W0 w) (hk0 : W0.heap.size = kb) (hms : OwnMs W0 gm n D) (hs : ShowsS D f) (hfew : FewW s N) (hf : ∀ p i g, f (p, i) = some g → g.1.length ≤ 1000000 ∧ g.2.2.length ≤ 3000) (hN : N ≤ 1000) (X : List FileS) (ha : SlF W0 v0 X) (hal : X.length ≤ 100) (hat : ∀ x ∈ X, x.1.length ≤ 1000000 ∧ x.2.2.length ≤ 3000) :
    Calls Tryz.prog 27 #[.pointer (some ⟨kb, 0, none⟩)] w fun e w' => e = .returned (.tuple #[]) ∧ WhM kb gm v0 v1 (X.foldl (addOL f) s) w' ∧ Below kb W0 w' := by
  have HFI := hid (fun (s : WhS) (p : Txt) (i : Nat) (hp : p.length ≤ 1000000) (hi : i ≤ 1) (wx : World) (h : WhM kb gm v0 v1 s wx) (hb : Below kb W0 wx) => DFindM_any kb gm v0 v1 s f W0 wx n D h hb hk0 hms hs p i (by unfold maxLen; omega) hi)
  have HFL := hid hf
  have HW := hid h
  have HB := hid hb
  have HFEW := hid hfew
  obtain ⟨ao, ac, rfl⟩ := SlR.form ha
  have HAo := hid (fun wx (hk : Below kb W0 wx) => SlR.old ha (w' := wx) (by rw [hk0]; exact hk))
  have HAT := hid hat
  have HAL := hid (And.intro hal hN)
  obtain ⟨vm, vc, hgx, _, _⟩ := h.ex
  have cx := blk_cell (i := 1) hgx rfl
  clear h hb hk0 hms hs hfew hf ha hal hat hN hgx
  go_enter Tryz.func27, Tryz.ntmps27
  go_wp2_with fail
  clear cx
  go_loopg [13] X.length (fun g i wr => ∃ (k : Nat) (z : WhS), i = .int .i64 (k : Int) ∧ Hid (k ≤ X.length ∧ X.length - k ≤ g) ∧ Hid (z = (X.take k).foldl (addOL f) s ∧ FewW z (N + k)) ∧ Hid (WhM kb gm (.slice ao X.length ac) v1 z wr) ∧ Hid (Below kb W0 wr))
  case atStart => exact ⟨0, s, rfl, hid ⟨Nat.zero_le _, Nat.le_refl _⟩, hid ⟨rfl, HFEW.out⟩, HW, HB⟩
  case round =>
    clear HW HB HFEW
    obtain ⟨k, z, rfl, HQ, HS, HW, HB⟩ := hrel
    have hQ := HQ.out
    have k0 : (0 : Int) ≤ (k : Int) := Int.natCast_nonneg _
    by_cases hlt : k < X.length
    case neg =>
      obtain rfl : k = X.length := by omega
      have hneg : ¬ (X.length : Int) < (X.length : Int) := by omega
      have HE := hid (show z = X.foldl (addOL f) s by rw [HS.out.1, List.take_length])
      go_wp2_with fail
      go_end0
      exact ⟨rfl, by rw [← HE.out]; exact HW.out, HB.out⟩
    have k1 : (k : Int) < (X.length : Int) := by omega
    have kw : IntKind.i64.wrap ((k : Int) + 1) = (k : Int) + 1 := IntWalk.i64_in _ (by have := HAL.out.1; omega)
    obtain ⟨b1, p1, p, x, t, e, he, r0, r1, r2⟩ := SlF.at (HAo.out wr HB.out) hlt
    cases e
    obtain ⟨u, hu⟩ : ∃ y, f (p, 1) = y := ⟨_, rfl⟩
    obtain ⟨⟨up, ux, ut⟩, huv⟩ : ∃ y, u.getD fileZ = y := ⟨_, rfl⟩
    have HK := hid (show (X.take (k + 1)).foldl (addOL f) s = addOL f z (p, x, t) by rw [List.take_add_one, he, List.foldl_append, ← HS.out.1]; rfl)
    have HPT := hid (HAT.out _ (List.mem_of_getElem? he))
    have HU3 := hid (show ∀ g, u = some g → g.1.length ≤ 1000000 ∧ g.2.2.length ≤ 3000 from fun g hg => HFL.out p 1 g (hu.trans hg))
    have HF0 := hid (fun wx h1 h2 => (show Calls Tryz.prog 50 #[.pointer (some ⟨kb, 0, none⟩), strV p, .int .u8 1] wx _ from HFI.out z p 1 HPT.out.1 (by omega) wx h1 h2))
    rw [hu, huv] at HF0
    have HUV := hid huv
    have HUE := hid hu
    have HZF := hid (show FewW (addOL f z (p, x, t)) (N + (k + 1)) from FewW.addO HS.out.2 HPT.out.1)
    have HOK := hid (HS.out.2.ok (by have := HAL.out; omega))
    clear he hu huv
    have hbA : Below wr.heap.size wr (wr.alloc (.cells #[.string ⟨p.toArray⟩, .bool x, .string ⟨t.toArray⟩] 28)) := (Below.refl _ wr).alloc (Nat.le_refl _) _
    have hgA := heap_alloc_new wr (.cells #[.string ⟨p.toArray⟩, .bool x, .string ⟨t.toArray⟩] 28)
    have HWA := hid (HW.out.old hbA)
    have HBA := hid (HB.out.trans (hbA.mono (Nat.le_of_lt HW.out.lt)))
    have c0 := blk_cell (i := 0) hgA rfl
    have c1 := blk_cell (i := 1) hgA rfl
    have c2 := blk_cell (i := 2) hgA rfl
    clear hbA hgA
    go_upto_region 3 with fail
    clear r0 r1 r2
    generalize wr.alloc (.cells #[.string ⟨p.toArray⟩, .bool x, .string ⟨t.toArray⟩] 28) = A at *
    generalize wr.heap.size = g3 at *
    have HFa := hid (HF0.out (A.drew) (HWA.out.old ((Below.refl _ _).drew)) (HBA.out.drew))
    have HFb := hid (HF0.out (A.alloc (.cells #[.string ⟨#[]⟩, .bool false, .string ⟨#[]⟩] 28)).drew (HWA.out.old (((Below.refl _ A).alloc (Nat.le_refl _) _).drew)) ((HBA.out.alloc (Nat.le_of_lt HWA.out.lt) _).drew))
    unfold fileV strV at HFa HFb
    have HNZ := hid (show (A.alloc (.cells #[.string ⟨#[]⟩, .bool false, .string ⟨#[]⟩] 28)).drew.heap[A.heap.size]? = some (.cells #[.string ⟨#[]⟩, .bool false, .string ⟨#[]⟩] 28 (0, 0)) from heap_alloc_new A _)
    have zc := below_cell ((Below.refl _ A).alloc (Nat.le_refl _) (.cells #[.string ⟨#[]⟩, .bool false, .string ⟨#[]⟩] 28)) c0
    go_upto_region 3 with fail
    go_cut [4, 5] from 17 to 25 (fun sv sb wx => sb = .bool u.isSome ∧ Hid (PtrTo sv wx (up, ux, ut) ∧ Below A.heap.size A wx))
    case first =>
      go_region_law (first
        | (go_simp
           go_at_call 50
           with_reducible refine HFa.out.mono ?_
           rintro e w5 ⟨rfl, hb5⟩
           have HB5 := hid (show Below A.heap.size A w5 from ((Below.refl _ A).drew).trans hb5)
           clear hb5
           go_simp)
        | (go_simp
           go_at_call 50
           with_reducible refine HFb.out.mono ?_
           rintro e w5 ⟨rfl, hb5⟩
           have HB5 := hid (show Below A.heap.size A w5 from (((Below.refl _ A).alloc (Nat.le_refl _) _).drew).trans (hb5.mono (by simp)))
           have hn := (hb5.block _ (lt_of_block HNZ.out)).trans HNZ.out
           have HN5 := hid hn
           have n0 := blk_cell (i := 0) hn rfl
           have n1 := blk_cell (i := 1) hn rfl
           have n2 := blk_cell (i := 2) hn rfl
           have m0 := blk_free (i := 0) hn
           have m1 := blk_free (i := 1) hn
           have m2 := blk_free (i := 2) hn
           clear hb5 hn
           go_simp))
      all_goals (
        go_wp2_with fail
        go_meet
        exact ⟨rfl, hid (by first | exact ⟨⟨_, rfl, heap_alloc_new _ _⟩, HB5.out.alloc HB5.out.size _⟩ | exact ⟨⟨_, rfl, blk_set (blk_set (blk_set HN5.out))⟩, ((HB5.out.setCell (Nat.le_refl _) _).setCell (Nat.le_refl _) _).setCell (Nat.le_refl _) _⟩)⟩)
    case rest =>
      obtain ⟨rfl, HC⟩ := hcut
      clear HFa HFb HNZ zc
      obtain ⟨g4, rfl, hg4⟩ := HC.out.1
      have hbc := HC.out.2
      have c0_ := below_cell hbc c0
      have c1_ := below_cell hbc c1
      have c2_ := below_cell hbc c2
      have HW4 := hid (HWA.out.old hbc)
      have HB4 := hid (HBA.out.trans (hbc.mono (Nat.le_of_lt HWA.out.lt)))
      have q40 := blk_cell (i := 0) hg4 rfl
      have q41 := blk_cell (i := 1) hg4 rfl
      have q42 := blk_cell (i := 2) hg4 rfl
      clear hbc HC hg4 c0 c1 c2
      have c0 := c0_
      have c1 := c1_
      have c2 := c2_
      clear c0_ c1_ c2_
      generalize wc = B3 at *
      have HPU := hid (fun (g : FileS) (kk : Int) (hp : g.1.length ≤ 1000000) wx hh => DPutM_any kb gm (.slice (some ⟨b1, p1, none⟩) X.length ac) v1 z g.1 g.2.2 g.2.1 kk wx hh HOK.out.1 HOK.out.2 hp)
      unfold strV at HPU
      cases u with
      | none =>
        have HKE := hid (show addOL f z (p, x, t) = putW z (p, x, t) 0 by unfold addOL; simp only [HUE.out]; try rfl)
        go_wp2_with (go_at_call 51; refine (HPU.out (p, x, t) 0 HPT.out.1 _ HW4.out).mono ?_; rintro e w10 ⟨rfl, h10, hb10⟩; have HW10 := hid h10; have HB10 := hid (HB4.out.trans hb10); clear h10 hb10)
        go_roundg (X.length - (k + 1))
        case measure => omega
        case rel => exact ⟨k + 1, _, by go_num, hid ⟨by omega, Nat.le_refl _⟩, hid ⟨HK.out.symm, HZF.out⟩, hid (by rw [HKE.out]; exact HW10.out), HB10⟩
      | some g =>
        have hg : g = (up, ux, ut) := HUV.out
        subst hg
        have HU31 := hid (HU3.out _ rfl)
        have HJO := hid (fun wx => DJoined_any (p, x, t) (up, ux, ut) wx HPT.out.2 HU31.out.2)
        obtain ⟨⟨jp, jx, jt⟩, hj⟩ : ∃ y, (if ((p, x, t) : FileS) = (up, ux, ut) then (p, x, t) else joinF (p, x, t) (up, ux, ut)) = y := ⟨_, rfl⟩
        obtain ⟨jk, hjk⟩ : ∃ y : Int, (if ((p, x, t) : FileS) = (up, ux, ut) then 0 else 2) = y := ⟨_, rfl⟩
        have HKE := hid (show addOL f z (p, x, t) = putW z (jp, jx, jt) jk by unfold addOL; simp only [HUE.out]; rw [hj, hjk])
        have HJP := hid (show jp.length ≤ 1000000 from by
          have h : jp = (if ((p, x, t) : FileS) = (up, ux, ut) then (p, x, t) else joinF (p, x, t) (up, ux, ut)).1 := by rw [hj]
          rw [h]; split
          · exact HPT.out.1
          · exact HPT.out.1)
        rw [hj, hjk] at HJO
        clear hj hjk
        unfold fileV strV at HJO
        go_wp2_with (first
          | (go_at_call 54; refine (HJO.out _).mono ?_; rintro e w9 ⟨rfl, hb9⟩; have HW9 := hid (HW4.out.old hb9); have HB9 := hid (HB4.out.trans (hb9.mono (Nat.le_of_lt HW4.out.lt))); clear hb9)
          | (go_at_call 51; refine (HPU.out (jp, jx, jt) jk HJP.out _ HW9.out).mono ?_; rintro e w10 ⟨rfl, h10, hb10⟩; have HW10 := hid h10; have HB10 := hid (HB9.out.trans hb10); clear h10 hb10))
        go_roundg (X.length - (k + 1))
        case measure => omega
        case rel => exact ⟨k + 1, _, by go_num, hid ⟨by omega, Nat.le_refl _⟩, hid ⟨HK.out.symm, HZF.out⟩, hid (by rw [HKE.out]; exact HW10.out), HB10⟩
theorem DAddTheirs_any (kb gm N : Nat) (v0 v1 : Value) (f : SpS → Option FileS) (W0 w : World) (n : Nat) (D : MW) (s : WhS) (h : WhM kb gm v0 v1 s w) (hb : Below kb W0 w) (hk0 : W0.heap.size = kb) (hms : OwnMs W0 gm n D) (hs : ShowsS D f) (hfew : FewW s N) (hf : ∀ p i g, f (p, i) = some g → g.1.length ≤ 1000000 ∧ g.2.2.length ≤ 3000) (hN : N ≤ 1000) (X : List FileS) (ha : SlF W0 v1 X) (hal : X.length ≤ 100) (hat : ∀ x ∈ X, x.1.length ≤ 1000000 ∧ x.2.2.length ≤ 3000) :
    Calls Tryz.prog 28 #[.pointer (some ⟨kb, 0, none⟩)] w fun e w' => e = .returned (.tuple #[]) ∧ WhM kb gm v0 v1 (X.foldl (addTL f) s) w' ∧ Below kb W0 w' := by
  have HFI := hid (fun (s : WhS) (p : Txt) (i : Nat) (hp : p.length ≤ 1000000) (hi : i ≤ 1) (wx : World) (h : WhM kb gm v0 v1 s wx) (hb : Below kb W0 wx) => DFindM_any kb gm v0 v1 s f W0 wx n D h hb hk0 hms hs p i (by unfold maxLen; omega) hi)
  have HFL := hid hf
  have HW := hid h
  have HB := hid hb
  have HFEW := hid hfew
  obtain ⟨ao, ac, rfl⟩ := SlR.form ha
  have HAo := hid (fun wx (hk : Below kb W0 wx) => SlR.old ha (w' := wx) (by rw [hk0]; exact hk))
  have HAT := hid hat
  have HAL := hid (And.intro hal hN)
  obtain ⟨vm, vc, hgx, _, _⟩ := h.ex
  have cx := blk_cell (i := 2) hgx rfl
  clear h hb hk0 hms hs hfew hf ha hal hat hN hgx
  go_enter Tryz.func28, Tryz.ntmps28
  go_wp2_with fail
  clear cx
  go_loopg [13] X.length (fun g i wr => ∃ (k : Nat) (z : WhS), i = .int .i64 (k : Int) ∧ Hid (k ≤ X.length ∧ X.length - k ≤ g) ∧ Hid (z = (X.take k).foldl (addTL f) s ∧ FewW z (N + k)) ∧ Hid (WhM kb gm v0 (.slice ao X.length ac) z wr) ∧ Hid (Below kb W0 wr))
  case atStart => exact ⟨0, s, rfl, hid ⟨Nat.zero_le _, Nat.le_refl _⟩, hid ⟨rfl, HFEW.out⟩, HW, HB⟩
  case round =>
    clear HW HB HFEW
    obtain ⟨k, z, rfl, HQ, HS, HW, HB⟩ := hrel
    have hQ := HQ.out
    have k0 : (0 : Int) ≤ (k : Int) := Int.natCast_nonneg _
    by_cases hlt : k < X.length
    case neg =>
      obtain rfl : k = X.length := by omega
      have hneg : ¬ (X.length : Int) < (X.length : Int) := by omega
      have HE := hid (show z = X.foldl (addTL f) s by rw [HS.out.1, List.take_length])
      go_wp2_with fail
      go_end0
      exact ⟨rfl, by rw [← HE.out]; exact HW.out, HB.out⟩
    have k1 : (k : Int) < (X.length : Int) := by omega
    have kw : IntKind.i64.wrap ((k : Int) + 1) = (k : Int) + 1 := IntWalk.i64_in _ (by have := HAL.out.1; omega)
    obtain ⟨b1, p1, p, x, t, e, he, r0, r1, r2⟩ := SlF.at (HAo.out wr HB.out) hlt
    cases e
    obtain ⟨u, hu⟩ : ∃ y, f (p, 0) = y := ⟨_, rfl⟩
    obtain ⟨⟨up, ux, ut⟩, huv⟩ : ∃ y, u.getD fileZ = y := ⟨_, rfl⟩
    have HK := hid (show (X.take (k + 1)).foldl (addTL f) s = addTL f z (p, x, t) by rw [List.take_add_one, he, List.foldl_append, ← HS.out.1]; rfl)
    have HPT := hid (HAT.out _ (List.mem_of_getElem? he))
    have HU3 := hid (show ∀ g, u = some g → g.1.length ≤ 1000000 ∧ g.2.2.length ≤ 3000 from fun g hg => HFL.out p 0 g (hu.trans hg))
    have HF0 := hid (fun wx h1 h2 => (show Calls Tryz.prog 50 #[.pointer (some ⟨kb, 0, none⟩), strV p, .int .u8 0] wx _ from HFI.out z p 0 HPT.out.1 (by omega) wx h1 h2))
    rw [hu, huv] at HF0
    have HUV := hid huv
    have HUE := hid hu
    have HZF := hid (show FewW (addTL f z (p, x, t)) (N + (k + 1)) from FewW.addT HS.out.2 HPT.out.1)
    have HOK := hid (HS.out.2.ok (by have := HAL.out; omega))
    clear he hu huv
    have hbA : Below wr.heap.size wr (wr.alloc (.cells #[.string ⟨p.toArray⟩, .bool x, .string ⟨t.toArray⟩] 28)) := (Below.refl _ wr).alloc (Nat.le_refl _) _
    have hgA := heap_alloc_new wr (.cells #[.string ⟨p.toArray⟩, .bool x, .string ⟨t.toArray⟩] 28)
    have HWA := hid (HW.out.old hbA)
    have HBA := hid (HB.out.trans (hbA.mono (Nat.le_of_lt HW.out.lt)))
    have c0 := blk_cell (i := 0) hgA rfl
    have c1 := blk_cell (i := 1) hgA rfl
    have c2 := blk_cell (i := 2) hgA rfl
    clear hbA hgA
    go_upto_region 3 with fail
    clear r0 r1 r2
    generalize wr.alloc (.cells #[.string ⟨p.toArray⟩, .bool x, .string ⟨t.toArray⟩] 28) = A at *
    generalize wr.heap.size = g3 at *
    have HFa := hid (HF0.out (A.drew) (HWA.out.old ((Below.refl _ _).drew)) (HBA.out.drew))
    have HFb := hid (HF0.out (A.alloc (.cells #[.string ⟨#[]⟩, .bool false, .string ⟨#[]⟩] 28)).drew (HWA.out.old (((Below.refl _ A).alloc (Nat.le_refl _) _).drew)) ((HBA.out.alloc (Nat.le_of_lt HWA.out.lt) _).drew))
    unfold fileV strV at HFa HFb
    have HNZ := hid (show (A.alloc (.cells #[.string ⟨#[]⟩, .bool false, .string ⟨#[]⟩] 28)).drew.heap[A.heap.size]? = some (.cells #[.string ⟨#[]⟩, .bool false, .string ⟨#[]⟩] 28 (0, 0)) from heap_alloc_new A _)
    have zc := below_cell ((Below.refl _ A).alloc (Nat.le_refl _) (.cells #[.string ⟨#[]⟩, .bool false, .string ⟨#[]⟩] 28)) c0
    go_upto_region 3 with fail
    go_cut [4, 5] from 17 to 25 (fun sv sb wx => sb = .bool u.isSome ∧ Hid (PtrTo sv wx (up, ux, ut) ∧ Below A.heap.size A wx))
    case first =>
      go_region_law (first
        | (go_simp
           go_at_call 50
           with_reducible refine HFa.out.mono ?_
           rintro e w5 ⟨rfl, hb5⟩
           have HB5 := hid (show Below A.heap.size A w5 from ((Below.refl _ A).drew).trans hb5)
           clear hb5
           go_simp)
        | (go_simp
           go_at_call 50
           with_reducible refine HFb.out.mono ?_
           rintro e w5 ⟨rfl, hb5⟩
           have HB5 := hid (show Below A.heap.size A w5 from (((Below.refl _ A).alloc (Nat.le_refl _) _).drew).trans (hb5.mono (by simp)))
           have hn := (hb5.block _ (lt_of_block HNZ.out)).trans HNZ.out
           have HN5 := hid hn
           have n0 := blk_cell (i := 0) hn rfl
           have n1 := blk_cell (i := 1) hn rfl
           have n2 := blk_cell (i := 2) hn rfl
           have m0 := blk_free (i := 0) hn
           have m1 := blk_free (i := 1) hn
           have m2 := blk_free (i := 2) hn
           clear hb5 hn
           go_simp))
      all_goals (
        go_wp2_with fail
        go_meet
        exact ⟨rfl, hid (by first | exact ⟨⟨_, rfl, heap_alloc_new _ _⟩, HB5.out.alloc HB5.out.size _⟩ | exact ⟨⟨_, rfl, blk_set (blk_set (blk_set HN5.out))⟩, ((HB5.out.setCell (Nat.le_refl _) _).setCell (Nat.le_refl _) _).setCell (Nat.le_refl _) _⟩)⟩)
    case rest =>
      obtain ⟨rfl, HC⟩ := hcut
      clear HFa HFb HNZ zc
      obtain ⟨g4, rfl, hg4⟩ := HC.out.1
      have hbc := HC.out.2
      have c0_ := below_cell hbc c0
      have c1_ := below_cell hbc c1
      have c2_ := below_cell hbc c2
      have HW4 := hid (HWA.out.old hbc)
      have HB4 := hid (HBA.out.trans (hbc.mono (Nat.le_of_lt HWA.out.lt)))
      have q40 := blk_cell (i := 0) hg4 rfl
      have q41 := blk_cell (i := 1) hg4 rfl
      have q42 := blk_cell (i := 2) hg4 rfl
      clear hbc HC hg4 c0 c1 c2
      have c0 := c0_
      have c1 := c1_
      have c2 := c2_
      clear c0_ c1_ c2_
      generalize wc = B3 at *
      have HPU := hid (fun (g : FileS) (kk : Int) (hp : g.1.length ≤ 1000000) wx hh => DPutM_any kb gm v0 (.slice (some ⟨b1, p1, none⟩) X.length ac) z g.1 g.2.2 g.2.1 kk wx hh HOK.out.1 HOK.out.2 hp)
      unfold strV at HPU
      cases u with
      | none =>
        have HKE := hid (show addTL f z (p, x, t) = putW z (p, x, t) 0 by unfold addTL; simp only [HUE.out]; try rfl)
        go_wp2_with (go_at_call 51; refine (HPU.out (p, x, t) 0 HPT.out.1 _ HW4.out).mono ?_; rintro e w10 ⟨rfl, h10, hb10⟩; have HW10 := hid h10; have HB10 := hid (HB4.out.trans hb10); clear h10 hb10)
        go_roundg (X.length - (k + 1))
        case measure => omega
        case rel => exact ⟨k + 1, _, by go_num, hid ⟨by omega, Nat.le_refl _⟩, hid ⟨HK.out.symm, HZF.out⟩, hid (by rw [HKE.out]; exact HW10.out), HB10⟩
      | some g =>
        have HKE := hid (show addTL f z (p, x, t) = z by unfold addTL; simp only [HUE.out]; try rfl)
        go_wp2_with fail
        go_roundg (X.length - (k + 1))
        case measure => omega
        case rel => exact ⟨k + 1, _, by go_num, hid ⟨by omega, Nat.le_refl _⟩, hid ⟨HK.out.symm, HZF.out⟩, hid (by rw [HKE.out]; exact HW4.out), HB4⟩
end
end Go.Proofs.YtbnafihigoekeaaGreatDoor

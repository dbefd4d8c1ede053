/-
  TmTl, part 43.
-/
import Derived.Test.YtbnafihigoekeaaGreatDoorZt42
import Derived.Shelf.SlSortCmp.NoneTotal
set_option maxRecDepth 100000
set_option maxHeartbeats 16000000
namespace Go.Proofs.YtbnafihigoekeaaGreatDoor
open Go.RowKit
def zag(f:SpS->Option zg)(s:jP)(x:zg):jP:=
 match f (x.1,1)with
 |none=>jq s x 0
 |some t=>jq s (if x=t then x else zex x t) (if x=t then 0 else 2)
def zax(f:SpS->Option zg)(s:jP)(y:zg):jP:=if(f (y.1,0)).isSome=true then s else jq s y 0
theorem jO.addO{f:SpS->Option zg}{s:jP}{n:Nat}(h:jO s n){x:zg}(hx:x.1.length<=1000000):jO (zag f s x) (n+1):=by
 unfold zag
 split
 ·exact h.put hx 0
 ·refine h.put ?_ _
  split
  ·exact hx
  ·exact hx
theorem jO.addT{f:SpS->Option zg}{s:jP}{n:Nat}(h:jO s n){x:zg}(hx:x.1.length<=1000000):jO (zax f s x) (n+1):=by
 unfold zax
 split
 ·exact h.mono (Nat.le_succ _)
 ·exact h.put hx 0
section
theorem zka(kb gm N:Nat)(v0 v1:Value)(f:SpS->Option zg)(W0 w:World)(n:Nat)(D:MW)(s:jP)(h:WhM kb gm v0 v1 s w)(hb:Below kb W0 w)(hk0:W0.heap.size=kb)(hms:jM W0 gm n D)(hs:jI D f)(hfew:jO s N)(hf:∀p i g,f (p,i)=some g->g.1.length<=1000000/\g.2.2.length<=3000)(hN:N<=1000)(X:List zg)(ha:yM W0 v0 X)(hal:X.length<=100)(hat:∀x∈X,x.1.length<=1000000/\x.2.2.length<=3000):
  Calls Tryz.prog 27 #[.pointer (some ⟨kb,0,none⟩)] w fun e w'=>e= .returned (.tuple #[])/\WhM kb gm v0 v1 (X.foldl (zag f) s) w'/\Below kb W0 w':=by
 have HFI:=ze (fun(s:jP) (p:zQ) (i:Nat) (hp:p.length<=1000000) (hi:i<=1) (wx:World) (h:WhM kb gm v0 v1 s wx) (hb:Below kb W0 wx)=>zen kb gm v0 v1 s f W0 wx n D h hb hk0 hms hs p i (by unfold maxLen;omega) hi);have HFL:=ze hf;have HW:=ze h;have HB:=ze hb;have HFEW:=ze hfew;obtain⟨ao,ac,rfl⟩:=zy.form ha;have HAo:=ze (fun wx (hk:Below kb W0 wx)=>zy.old ha (w':=wx) (by rw[hk0];exact hk));have HAT:=ze hat;have HAL:=ze (And.intro hal hN);obtain⟨vm,vc,hgx,_,_⟩:=h.ex;have cx:=zd (i:=1) hgx rfl;clear h hb hk0 hms hs hfew hf ha hal hat hN hgx
 go_enter Tryz.func27,Tryz.ntmps27
 go_wp2_with fail;clear cx
 go_loopg [13] X.length (fun g i wr=>∃ (k:Nat) (z:jP),i= .int .i64 (k:Int)/\Hid (k<=X.length/\X.length-k<=g)/\Hid (z=(X.take k).foldl (zag f) s/\jO z (N+k))/\Hid (WhM kb gm (.slice ao X.length ac) v1 z wr)/\Hid (Below kb W0 wr))
 case atStart=>exact⟨0,s,rfl,ze ⟨Nat.zero_le _,Nat.le_refl _⟩,ze ⟨rfl,HFEW.out⟩,HW,HB⟩
 case round=>
  clear HW HB HFEW;obtain⟨k,z,rfl,HQ,HS,HW,HB⟩:=hrel;have hQ:=HQ.out;have k0:(0:Int)<=(k:Int):=Int.natCast_nonneg _
  by_cases hlt:k<X.length
  case neg=>
   obtain rfl:k=X.length:=by omega
   have hneg:¬(X.length:Int)<(X.length:Int):=by omega
   have HE:=ze (show z=X.foldl (zag f) s by rw[HS.out.1,List.take_length]);go_wp2_with fail
   go_end0
   exact⟨rfl,by rw[<-HE.out];exact HW.out,HB.out⟩
  have k1:(k:Int)<(X.length:Int):=by omega
  have kw:IntKind.i64.wrap ((k:Int)+1)=(k:Int)+1:=IntWalk.i64_in _ (by have:=HAL.out.1;omega);obtain⟨b1,p1,p,x,t,e,he,r0,r1,r2⟩:=yM.at (HAo.out wr HB.out) hlt;cases e;obtain⟨u,hu⟩:∃y,f (p,1)=y:=⟨_,rfl⟩;obtain⟨⟨up,ux,ut⟩,huv⟩:∃y,u.getD zM=y:=⟨_,rfl⟩;have HK:=ze (show(X.take (k+1)).foldl (zag f) s=zag f z (p,x,t) by rw[List.take_add_one,he,List.foldl_append,<-HS.out.1];rfl);have HPT:=ze (HAT.out _ (List.mem_of_getElem? he));have HU3:=ze (show ∀g,u=some g->g.1.length<=1000000/\g.2.2.length<=3000 from fun g hg=>HFL.out p 1 g (hu.trans hg));have HF0:=ze (fun wx h1 h2=>(show Calls Tryz.prog 50 #[.pointer (some ⟨kb,0,none⟩),zq p,.int .u8 1] wx _ from HFI.out z p 1 HPT.out.1 (by omega) wx h1 h2));rw[hu,huv]at HF0;have HUV:=ze huv;have HUE:=ze hu;have HZF:=ze (show jO (zag f z (p,x,t)) (N +(k+1))from jO.addO HS.out.2 HPT.out.1);have HOK:=ze (HS.out.2.ok (by have:=HAL.out;omega));clear he hu huv;have hbA:Below wr.heap.size wr (wr.alloc (.cells #[.string ⟨p.toArray⟩,.bool x,.string ⟨t.toArray⟩] 28)):=(Below.refl _ wr).alloc (Nat.le_refl _) _;have hgA:=heap_alloc_new wr (.cells #[.string ⟨p.toArray⟩,.bool x,.string ⟨t.toArray⟩] 28);have HWA:=ze (HW.out.old hbA);have HBA:=ze (HB.out.trans (hbA.mono (Nat.le_of_lt HW.out.lt)));have c0:=zd (i:=0) hgA rfl;have c1:=zd (i:=1) hgA rfl;have c2:=zd (i:=2) hgA rfl;clear hbA hgA
  go_upto_region 3 with fail
  clear r0 r1 r2;generalize wr.alloc (.cells #[.string ⟨p.toArray⟩,.bool x,.string ⟨t.toArray⟩] 28)=A at *;generalize wr.heap.size=g3 at *;have HFa:=ze (HF0.out (A.drew) (HWA.out.old ((Below.refl _ _).drew)) (HBA.out.drew));have HFb:=ze (HF0.out (A.alloc (.cells #[.string ⟨#[]⟩,.bool false,.string ⟨#[]⟩] 28)).drew (HWA.out.old (((Below.refl _ A).alloc (Nat.le_refl _) _).drew)) ((HBA.out.alloc (Nat.le_of_lt HWA.out.lt) _).drew));unfold ye zq at HFa HFb;have HNZ:=ze (show(A.alloc (.cells #[.string ⟨#[]⟩,.bool false,.string ⟨#[]⟩] 28)).drew.heap[A.heap.size]? =some (.cells #[.string ⟨#[]⟩,.bool false,.string ⟨#[]⟩] 28 (0,0))from heap_alloc_new A _);have zc:=zf ((Below.refl _ A).alloc (Nat.le_refl _) (.cells #[.string ⟨#[]⟩,.bool false,.string ⟨#[]⟩] 28)) c0
  go_upto_region 3 with fail
  go_cut [4,5]from 17 to 25 (fun sv sb wx=>sb= .bool u.isSome/\Hid (znp sv wx (up,ux,ut)/\Below A.heap.size A wx))
  case first=>
   go_region_law (first
    |(go_simp
      go_at_call 50
      with_reducible refine HFa.out.mono ?_
      rintro e w5 ⟨rfl,hb5⟩;have HB5:=ze (show Below A.heap.size A w5 from((Below.refl _ A).drew).trans hb5);clear hb5
      go_simp)
    |(go_simp
      go_at_call 50
      with_reducible refine HFb.out.mono ?_
      rintro e w5 ⟨rfl,hb5⟩;have HB5:=ze (show Below A.heap.size A w5 from(((Below.refl _ A).alloc (Nat.le_refl _) _).drew).trans (hb5.mono (by simp)));have hn:=(hb5.block _ (lt_of_block HNZ.out)).trans HNZ.out;have HN5:=ze hn;have n0:=zd (i:=0) hn rfl;have n1:=zd (i:=1) hn rfl;have n2:=zd (i:=2) hn rfl;have m0:=zo (i:=0) hn;have m1:=zo (i:=1) hn;have m2:=zo (i:=2) hn;clear hb5 hn
      go_simp))
   all_goals(
    go_wp2_with fail
    go_meet
    exact⟨rfl,ze (by first |exact⟨⟨_,rfl,heap_alloc_new _ _⟩,HB5.out.alloc HB5.out.size _⟩ |exact⟨⟨_,rfl,zv (zv (zv HN5.out))⟩,((HB5.out.setCell (Nat.le_refl _) _).setCell (Nat.le_refl _) _).setCell (Nat.le_refl _) _⟩)⟩)
  case rest=>
   obtain⟨rfl,HC⟩:=hcut;clear HFa HFb HNZ zc;obtain⟨g4,rfl,hg4⟩:=HC.out.1;have hbc:=HC.out.2;have c0_:=zf hbc c0;have c1_:=zf hbc c1;have c2_:=zf hbc c2;have HW4:=ze (HWA.out.old hbc);have HB4:=ze (HBA.out.trans (hbc.mono (Nat.le_of_lt HWA.out.lt)));have q40:=zd (i:=0) hg4 rfl;have q41:=zd (i:=1) hg4 rfl;have q42:=zd (i:=2) hg4 rfl;clear hbc HC hg4 c0 c1 c2;have c0:=c0_;have c1:=c1_;have c2:=c2_;clear c0_ c1_ c2_;generalize wc=B3 at *;have HPU:=ze (fun(g:zg) (kk:Int) (hp:g.1.length<=1000000) wx hh=>zdu kb gm (.slice (some ⟨b1,p1,none⟩) X.length ac) v1 z g.1 g.2.2 g.2.1 kk wx hh HOK.out.1 HOK.out.2 hp);unfold zq at HPU
   cases u with
   |none=>
    have HKE:=ze (show zag f z (p,x,t)=jq z (p,x,t) 0 by unfold zag;simp only[HUE.out];try rfl)
    go_wp2_with (go_at_call 51;refine(HPU.out (p,x,t) 0 HPT.out.1 _ HW4.out).mono ?_;rintro e w10 ⟨rfl,h10,hb10⟩;have HW10:=ze h10;have HB10:=ze (HB4.out.trans hb10);clear h10 hb10)
    go_roundg (X.length-(k+1))
    case measure=>omega
    case rel=>exact⟨k+1,_,by go_num,ze ⟨by omega,Nat.le_refl _⟩,ze ⟨HK.out.symm,HZF.out⟩,ze (by rw[HKE.out];exact HW10.out),HB10⟩
   |some g=>
    have hg:g=(up,ux,ut):=HUV.out;subst hg;have HU31:=ze (HU3.out _ rfl);have HJO:=ze (fun wx=>zlw (p,x,t) (up,ux,ut) wx HPT.out.2 HU31.out.2);obtain⟨⟨jp,jx,jt⟩,hj⟩:∃y,(if((p,x,t):zg)=(up,ux,ut)then(p,x,t)else zex (p,x,t) (up,ux,ut))=y:=⟨_,rfl⟩;obtain⟨jk,hjk⟩:∃y:Int,(if((p,x,t):zg)=(up,ux,ut)then 0 else 2)=y:=⟨_,rfl⟩;have HKE:=ze (show zag f z (p,x,t)=jq z (jp,jx,jt) jk by unfold zag;simp only[HUE.out];rw[hj,hjk])
    have HJP:=ze (show jp.length<=1000000 from by
     have h:jp=(if((p,x,t):zg)=(up,ux,ut)then(p,x,t)else zex (p,x,t) (up,ux,ut)).1:=by rw[hj]
     rw[h];split
     ·exact HPT.out.1
     ·exact HPT.out.1)
    rw[hj,hjk]at HJO;clear hj hjk;unfold ye zq at HJO
    go_wp2_with (first
     |(go_at_call 54;refine(HJO.out _).mono ?_;rintro e w9 ⟨rfl,hb9⟩;have HW9:=ze (HW4.out.old hb9);have HB9:=ze (HB4.out.trans (hb9.mono (Nat.le_of_lt HW4.out.lt)));clear hb9)
     |(go_at_call 51;refine(HPU.out (jp,jx,jt) jk HJP.out _ HW9.out).mono ?_;rintro e w10 ⟨rfl,h10,hb10⟩;have HW10:=ze h10;have HB10:=ze (HB9.out.trans hb10);clear h10 hb10))
    go_roundg (X.length-(k+1))
    case measure=>omega
    case rel=>exact⟨k+1,_,by go_num,ze ⟨by omega,Nat.le_refl _⟩,ze ⟨HK.out.symm,HZF.out⟩,ze (by rw[HKE.out];exact HW10.out),HB10⟩
theorem zgO(kb gm N:Nat)(v0 v1:Value)(f:SpS->Option zg)(W0 w:World)(n:Nat)(D:MW)(s:jP)(h:WhM kb gm v0 v1 s w)(hb:Below kb W0 w)(hk0:W0.heap.size=kb)(hms:jM W0 gm n D)(hs:jI D f)(hfew:jO s N)(hf:∀p i g,f (p,i)=some g->g.1.length<=1000000/\g.2.2.length<=3000)(hN:N<=1000)(X:List zg)(ha:yM W0 v1 X)(hal:X.length<=100)(hat:∀x∈X,x.1.length<=1000000/\x.2.2.length<=3000):
  Calls Tryz.prog 28 #[.pointer (some ⟨kb,0,none⟩)] w fun e w'=>e= .returned (.tuple #[])/\WhM kb gm v0 v1 (X.foldl (zax f) s) w'/\Below kb W0 w':=by
 have HFI:=ze (fun(s:jP) (p:zQ) (i:Nat) (hp:p.length<=1000000) (hi:i<=1) (wx:World) (h:WhM kb gm v0 v1 s wx) (hb:Below kb W0 wx)=>zen kb gm v0 v1 s f W0 wx n D h hb hk0 hms hs p i (by unfold maxLen;omega) hi);have HFL:=ze hf;have HW:=ze h;have HB:=ze hb;have HFEW:=ze hfew;obtain⟨ao,ac,rfl⟩:=zy.form ha;have HAo:=ze (fun wx (hk:Below kb W0 wx)=>zy.old ha (w':=wx) (by rw[hk0];exact hk));have HAT:=ze hat;have HAL:=ze (And.intro hal hN);obtain⟨vm,vc,hgx,_,_⟩:=h.ex;have cx:=zd (i:=2) hgx rfl;clear h hb hk0 hms hs hfew hf ha hal hat hN hgx
 go_enter Tryz.func28,Tryz.ntmps28
 go_wp2_with fail;clear cx
 go_loopg [13] X.length (fun g i wr=>∃ (k:Nat) (z:jP),i= .int .i64 (k:Int)/\Hid (k<=X.length/\X.length-k<=g)/\Hid (z=(X.take k).foldl (zax f) s/\jO z (N+k))/\Hid (WhM kb gm v0 (.slice ao X.length ac) z wr)/\Hid (Below kb W0 wr))
 case atStart=>exact⟨0,s,rfl,ze ⟨Nat.zero_le _,Nat.le_refl _⟩,ze ⟨rfl,HFEW.out⟩,HW,HB⟩
 case round=>
  clear HW HB HFEW;obtain⟨k,z,rfl,HQ,HS,HW,HB⟩:=hrel;have hQ:=HQ.out;have k0:(0:Int)<=(k:Int):=Int.natCast_nonneg _
  by_cases hlt:k<X.length
  case neg=>
   obtain rfl:k=X.length:=by omega
   have hneg:¬(X.length:Int)<(X.length:Int):=by omega
   have HE:=ze (show z=X.foldl (zax f) s by rw[HS.out.1,List.take_length]);go_wp2_with fail
   go_end0
   exact⟨rfl,by rw[<-HE.out];exact HW.out,HB.out⟩
  have k1:(k:Int)<(X.length:Int):=by omega
  have kw:IntKind.i64.wrap ((k:Int)+1)=(k:Int)+1:=IntWalk.i64_in _ (by have:=HAL.out.1;omega);obtain⟨b1,p1,p,x,t,e,he,r0,r1,r2⟩:=yM.at (HAo.out wr HB.out) hlt;cases e;obtain⟨u,hu⟩:∃y,f (p,0)=y:=⟨_,rfl⟩;obtain⟨⟨up,ux,ut⟩,huv⟩:∃y,u.getD zM=y:=⟨_,rfl⟩;have HK:=ze (show(X.take (k+1)).foldl (zax f) s=zax f z (p,x,t) by rw[List.take_add_one,he,List.foldl_append,<-HS.out.1];rfl);have HPT:=ze (HAT.out _ (List.mem_of_getElem? he));have HU3:=ze (show ∀g,u=some g->g.1.length<=1000000/\g.2.2.length<=3000 from fun g hg=>HFL.out p 0 g (hu.trans hg));have HF0:=ze (fun wx h1 h2=>(show Calls Tryz.prog 50 #[.pointer (some ⟨kb,0,none⟩),zq p,.int .u8 0] wx _ from HFI.out z p 0 HPT.out.1 (by omega) wx h1 h2));rw[hu,huv]at HF0;have HUV:=ze huv;have HUE:=ze hu;have HZF:=ze (show jO (zax f z (p,x,t)) (N +(k+1))from jO.addT HS.out.2 HPT.out.1);have HOK:=ze (HS.out.2.ok (by have:=HAL.out;omega));clear he hu huv;have hbA:Below wr.heap.size wr (wr.alloc (.cells #[.string ⟨p.toArray⟩,.bool x,.string ⟨t.toArray⟩] 28)):=(Below.refl _ wr).alloc (Nat.le_refl _) _;have hgA:=heap_alloc_new wr (.cells #[.string ⟨p.toArray⟩,.bool x,.string ⟨t.toArray⟩] 28);have HWA:=ze (HW.out.old hbA);have HBA:=ze (HB.out.trans (hbA.mono (Nat.le_of_lt HW.out.lt)));have c0:=zd (i:=0) hgA rfl;have c1:=zd (i:=1) hgA rfl;have c2:=zd (i:=2) hgA rfl;clear hbA hgA
  go_upto_region 3 with fail
  clear r0 r1 r2;generalize wr.alloc (.cells #[.string ⟨p.toArray⟩,.bool x,.string ⟨t.toArray⟩] 28)=A at *;generalize wr.heap.size=g3 at *;have HFa:=ze (HF0.out (A.drew) (HWA.out.old ((Below.refl _ _).drew)) (HBA.out.drew));have HFb:=ze (HF0.out (A.alloc (.cells #[.string ⟨#[]⟩,.bool false,.string ⟨#[]⟩] 28)).drew (HWA.out.old (((Below.refl _ A).alloc (Nat.le_refl _) _).drew)) ((HBA.out.alloc (Nat.le_of_lt HWA.out.lt) _).drew));unfold ye zq at HFa HFb;have HNZ:=ze (show(A.alloc (.cells #[.string ⟨#[]⟩,.bool false,.string ⟨#[]⟩] 28)).drew.heap[A.heap.size]? =some (.cells #[.string ⟨#[]⟩,.bool false,.string ⟨#[]⟩] 28 (0,0))from heap_alloc_new A _);have zc:=zf ((Below.refl _ A).alloc (Nat.le_refl _) (.cells #[.string ⟨#[]⟩,.bool false,.string ⟨#[]⟩] 28)) c0
  go_upto_region 3 with fail
  go_cut [4,5]from 17 to 25 (fun sv sb wx=>sb= .bool u.isSome/\Hid (znp sv wx (up,ux,ut)/\Below A.heap.size A wx))
  case first=>
   go_region_law (first
    |(go_simp
      go_at_call 50
      with_reducible refine HFa.out.mono ?_
      rintro e w5 ⟨rfl,hb5⟩;have HB5:=ze (show Below A.heap.size A w5 from((Below.refl _ A).drew).trans hb5);clear hb5
      go_simp)
    |(go_simp
      go_at_call 50
      with_reducible refine HFb.out.mono ?_
      rintro e w5 ⟨rfl,hb5⟩;have HB5:=ze (show Below A.heap.size A w5 from(((Below.refl _ A).alloc (Nat.le_refl _) _).drew).trans (hb5.mono (by simp)));have hn:=(hb5.block _ (lt_of_block HNZ.out)).trans HNZ.out;have HN5:=ze hn;have n0:=zd (i:=0) hn rfl;have n1:=zd (i:=1) hn rfl;have n2:=zd (i:=2) hn rfl;have m0:=zo (i:=0) hn;have m1:=zo (i:=1) hn;have m2:=zo (i:=2) hn;clear hb5 hn
      go_simp))
   all_goals(
    go_wp2_with fail
    go_meet
    exact⟨rfl,ze (by first |exact⟨⟨_,rfl,heap_alloc_new _ _⟩,HB5.out.alloc HB5.out.size _⟩ |exact⟨⟨_,rfl,zv (zv (zv HN5.out))⟩,((HB5.out.setCell (Nat.le_refl _) _).setCell (Nat.le_refl _) _).setCell (Nat.le_refl _) _⟩)⟩)
  case rest=>
   obtain⟨rfl,HC⟩:=hcut;clear HFa HFb HNZ zc;obtain⟨g4,rfl,hg4⟩:=HC.out.1;have hbc:=HC.out.2;have c0_:=zf hbc c0;have c1_:=zf hbc c1;have c2_:=zf hbc c2;have HW4:=ze (HWA.out.old hbc);have HB4:=ze (HBA.out.trans (hbc.mono (Nat.le_of_lt HWA.out.lt)));have q40:=zd (i:=0) hg4 rfl;have q41:=zd (i:=1) hg4 rfl;have q42:=zd (i:=2) hg4 rfl;clear hbc HC hg4 c0 c1 c2;have c0:=c0_;have c1:=c1_;have c2:=c2_;clear c0_ c1_ c2_;generalize wc=B3 at *;have HPU:=ze (fun(g:zg) (kk:Int) (hp:g.1.length<=1000000) wx hh=>zdu kb gm v0 (.slice (some ⟨b1,p1,none⟩) X.length ac) z g.1 g.2.2 g.2.1 kk wx hh HOK.out.1 HOK.out.2 hp);unfold zq at HPU
   cases u with
   |none=>
    have HKE:=ze (show zax f z (p,x,t)=jq z (p,x,t) 0 by unfold zax;simp only[HUE.out];try rfl)
    go_wp2_with (go_at_call 51;refine(HPU.out (p,x,t) 0 HPT.out.1 _ HW4.out).mono ?_;rintro e w10 ⟨rfl,h10,hb10⟩;have HW10:=ze h10;have HB10:=ze (HB4.out.trans hb10);clear h10 hb10)
    go_roundg (X.length-(k+1))
    case measure=>omega
    case rel=>exact⟨k+1,_,by go_num,ze ⟨by omega,Nat.le_refl _⟩,ze ⟨HK.out.symm,HZF.out⟩,ze (by rw[HKE.out];exact HW10.out),HB10⟩
   |some g=>
    have HKE:=ze (show zax f z (p,x,t)=z by unfold zax;simp only[HUE.out];try rfl);go_wp2_with fail
    go_roundg (X.length-(k+1))
    case measure=>omega
    case rel=>exact⟨k+1,_,by go_num,ze ⟨by omega,Nat.le_refl _⟩,ze ⟨HK.out.symm,HZF.out⟩,ze (by rw[HKE.out];exact HW4.out),HB4⟩
end
open Go.Shelf Go.RowKit Go.Lib Go.Sort
def Tryz.stC_ren:Go.Shelf.Ren:=⟨fun |85=>157 |80=>134 |72=>111 |59=>82 |43=>58 |71=>110 |n=>n,fun |0=>0 |3=>3 |4=>4 |37=>126 |28=>29 |35=>36 |79=>93 |n=>n,fun |n=>n⟩
theorem Tryz.stC:StL Tryz.prog Tryz.stC_ren:= {
 mixed:=by kernel_rfl
 f85:=⟨ "slices.swapRangeCmpFunc[rick/api.Clash]",by kernel_rfl,Tryz.func157.trans (congrArg some (by kernel_rfl))⟩
 f80:=⟨ "slices.rotateCmpFunc[rick/api.Clash]",by kernel_rfl,Tryz.func134.trans (congrArg some (by kernel_rfl))⟩
 f72:=⟨ "slices.symMergeCmpFunc[rick/api.Clash]",by kernel_rfl,Tryz.func111.trans (congrArg some (by kernel_rfl))⟩
 f59:=⟨ "slices.stableCmpFunc[rick/api.Clash]",by kernel_rfl,Tryz.func82.trans (congrArg some (by kernel_rfl))⟩
 f43:=⟨ "slices.SortStableFunc[[]rick/api.Clash,rick/api.Clash]",by kernel_rfl,Tryz.func58.trans (congrArg some (by kernel_rfl))⟩
 t0:=Tryz.underlying0
 a0:=Tryz.isAgg0
 z0:=Tryz.sizeOf0
 v0:=Tryz.zeroValue0
 t3:=Tryz.underlying3
 a3:=Tryz.isAgg3
 z3:=Tryz.sizeOf3
 v3:=Tryz.zeroValue3
 t4:=Tryz.underlying4
 a4:=Tryz.isAgg4
 z4:=Tryz.sizeOf4
 v4:=Tryz.zeroValue4
 t37:=Tryz.underlying126
 a37:=Tryz.isAgg126
 z37:=Tryz.sizeOf126
 v37:=Tryz.zeroValue126
 t28:=Tryz.underlying29
 a28:=Tryz.isAgg29
 z28:=Tryz.sizeOf29
 v28:=Tryz.zeroValue29
 t79:=Tryz.underlying93
 a79:=Tryz.isAgg93
 z79:=Tryz.sizeOf93
 v79:=Tryz.zeroValue93 }
def Tryz.stC2_ren:Go.Shelf.Ren:=⟨fun |20=>110 |n=>n,fun |0=>0 |3=>3 |4=>4 |22=>29 |24=>36 |25=>93 |n=>n,fun |n=>n⟩
theorem Tryz.stC2:Go.Proofs.SlLaysF0.n20 Tryz.prog Tryz.stC2_ren:= {
 mixed:=by kernel_rfl
 f20:=⟨ "slices.insertionSortCmpFunc[rick/api.Clash]",by kernel_rfl,Tryz.func110.trans (congrArg some (by kernel_rfl))⟩
 t0:=Tryz.underlying0
 a0:=Tryz.isAgg0
 z0:=Tryz.sizeOf0
 v0:=Tryz.zeroValue0
 t3:=Tryz.underlying3
 a3:=Tryz.isAgg3
 z3:=Tryz.sizeOf3
 v3:=Tryz.zeroValue3
 t4:=Tryz.underlying4
 a4:=Tryz.isAgg4
 z4:=Tryz.sizeOf4
 v4:=Tryz.zeroValue4
 t22:=Tryz.underlying29
 a22:=Tryz.isAgg29
 z22:=Tryz.sizeOf29
 v22:=Tryz.zeroValue29
 t25:=Tryz.underlying93
 a25:=Tryz.isAgg93
 z25:=Tryz.sizeOf93
 v25:=Tryz.zeroValue93 }
def Tryz.sfF_ren:Go.Shelf.Ren:=⟨fun |6=>55 |14=>79 |15=>80 |20=>99 |21=>100 |22=>101 |23=>102 |24=>103 |25=>104 |26=>105 |27=>106 |28=>107 |29=>108 |46=>129 |47=>130 |48=>131 |49=>132 |50=>133 |57=>156 |n=>n,fun |0=>0 |3=>3 |4=>4 |5=>5 |9=>9 |22=>22 |24=>28 |25=>91 |39=>126 |45=>138 |46=>139 |50=>143 |53=>110 |55=>147 |66=>175 |70=>179 |76=>215 |77=>216 |n=>n,fun |n=>n⟩
theorem Tryz.sfF:Go.Proofs.SlLaysF0.n6 Tryz.prog Tryz.sfF_ren:= {
 mixed:=by kernel_rfl
 f6:=⟨ "slices.SortFunc[[]rick/api.File,rick/api.File]",by kernel_rfl,Tryz.func55.trans (congrArg some (by kernel_rfl))⟩
 f14:=⟨ "slices.pdqsortCmpFunc[rick/api.File]",by kernel_rfl,Tryz.func79.trans (congrArg some (by kernel_rfl))⟩
 f15:=Tryz.func80.trans (congrArg some (by kernel_rfl))
 f20:=⟨ "slices.insertionSortCmpFunc[rick/api.File]",by kernel_rfl,Tryz.func99.trans (congrArg some (by kernel_rfl))⟩
 f21:=⟨ "slices.heapSortCmpFunc[rick/api.File]",by kernel_rfl,Tryz.func100.trans (congrArg some (by kernel_rfl))⟩
 f22:=⟨ "slices.breakPatternsCmpFunc[rick/api.File]",by kernel_rfl,Tryz.func101.trans (congrArg some (by kernel_rfl))⟩
 f23:=⟨ "slices.choosePivotCmpFunc[rick/api.File]",by kernel_rfl,Tryz.func102.trans (congrArg some (by kernel_rfl))⟩
 f24:=⟨ "slices.reverseRangeCmpFunc[rick/api.File]",by kernel_rfl,Tryz.func103.trans (congrArg some (by kernel_rfl))⟩
 f25:=⟨ "slices.partialInsertionSortCmpFunc[rick/api.File]",by kernel_rfl,Tryz.func104.trans (congrArg some (by kernel_rfl))⟩
 f26:=⟨ "slices.partitionEqualCmpFunc[rick/api.File]",by kernel_rfl,Tryz.func105.trans (congrArg some (by kernel_rfl))⟩
 f27:=⟨ "slices.partitionCmpFunc[rick/api.File]",by kernel_rfl,Tryz.func106.trans (congrArg some (by kernel_rfl))⟩
 f28:=Tryz.func107.trans (congrArg some (by kernel_rfl))
 f29:=Tryz.func108.trans (congrArg some (by kernel_rfl))
 f46:=⟨ "slices.siftDownCmpFunc[rick/api.File]",by kernel_rfl,Tryz.func129.trans (congrArg some (by kernel_rfl))⟩
 f47:=Tryz.func130.trans (congrArg some (by kernel_rfl))
 f48:=Tryz.func131.trans (congrArg some (by kernel_rfl))
 f49:=⟨ "slices.medianAdjacentCmpFunc[rick/api.File]",by kernel_rfl,Tryz.func132.trans (congrArg some (by kernel_rfl))⟩
 f50:=⟨ "slices.medianCmpFunc[rick/api.File]",by kernel_rfl,Tryz.func133.trans (congrArg some (by kernel_rfl))⟩
 f57:=⟨ "slices.order2CmpFunc[rick/api.File]",by kernel_rfl,Tryz.func156.trans (congrArg some (by kernel_rfl))⟩
 t0:=Tryz.underlying0
 a0:=Tryz.isAgg0
 z0:=Tryz.sizeOf0
 v0:=Tryz.zeroValue0
 t3:=Tryz.underlying3
 a3:=Tryz.isAgg3
 z3:=Tryz.sizeOf3
 v3:=Tryz.zeroValue3
 t4:=Tryz.underlying4
 a4:=Tryz.isAgg4
 z4:=Tryz.sizeOf4
 v4:=Tryz.zeroValue4
 t5:=Tryz.underlying5
 a5:=Tryz.isAgg5
 z5:=Tryz.sizeOf5
 v5:=Tryz.zeroValue5
 t9:=Tryz.underlying9
 a9:=Tryz.isAgg9
 z9:=Tryz.sizeOf9
 v9:=Tryz.zeroValue9
 t22:=Tryz.underlying22
 a22:=Tryz.isAgg22
 z22:=Tryz.sizeOf22
 v22:=Tryz.zeroValue22
 t25:=Tryz.underlying91
 a25:=Tryz.isAgg91
 z25:=Tryz.sizeOf91
 v25:=Tryz.zeroValue91
 t39:=Tryz.underlying126
 a39:=Tryz.isAgg126
 z39:=Tryz.sizeOf126
 v39:=Tryz.zeroValue126
 t45:=Tryz.underlying138
 a45:=Tryz.isAgg138
 z45:=Tryz.sizeOf138
 v45:=Tryz.zeroValue138
 t46:=Tryz.underlying139
 a46:=Tryz.isAgg139
 z46:=Tryz.sizeOf139
 v46:=Tryz.zeroValue139
 t50:=Tryz.underlying143
 a50:=Tryz.isAgg143
 z50:=Tryz.sizeOf143
 v50:=Tryz.zeroValue143
 t53:=Tryz.underlying110
 a53:=Tryz.isAgg110
 z53:=Tryz.sizeOf110
 v53:=Tryz.zeroValue110
 t55:=Tryz.underlying147
 a55:=Tryz.isAgg147
 z55:=Tryz.sizeOf147
 v55:=Tryz.zeroValue147
 t66:=Tryz.underlying175
 a66:=Tryz.isAgg175
 z66:=Tryz.sizeOf175
 v66:=Tryz.zeroValue175
 t70:=Tryz.underlying179
 a70:=Tryz.isAgg179
 z70:=Tryz.sizeOf179
 v70:=Tryz.zeroValue179
 t76:=Tryz.underlying215
 a76:=Tryz.isAgg215
 z76:=Tryz.sizeOf215
 v76:=Tryz.zeroValue215
 t77:=Tryz.underlying216
 a77:=Tryz.isAgg216
 z77:=Tryz.sizeOf216
 v77:=Tryz.zeroValue216 }
section
variable{P:Program}{ρ:Ren}{α:Type} [Inhabited α]
theorem Sf.own(L:SlLaysF0.n6 P ρ)(E:Enc α)(aE:∀w,(isAgg (ρ.t 24)).run P w= .ok true w)(zE:∀w,(Go.sizeOf (ρ.t 24)).run P w= .ok E.k w)(cf:α->α->Int)(hO:SWO (ltOf cf))(g:Nat)(cb:Array Value)
  (eg:∀args w,(callFunc g args).run P w= .ok (.enter g args) w) (ty:TypeId) (v:Value) (xs:List α) (w:World) (base:Nat) (hb:base<=w.heap.size) (hv:w.ownsRow base ty E.k v xs.length (zO E xs)) (hl:xs.length<=100000000)
  (hcmp:∀ (x y:α) (W:World),Calls P g (#[.agg (E.enc x).toArray,.agg (E.enc y).toArray]++cb) W fun e w'=>e= .returned (.int .i64 (cf x y))/\∃q os',w'=grow (W.drewN q) os'):
  Calls P (ρ.f 6) #[v,.func (.func g) #[] cb] w fun e w'=>e= .returned (.tuple #[])/\∃ys:List α,ys.Perm xs/\ys.Pairwise (fun x y=>ltOf cf y x=false)/\w'.ownsRow base ty E.k v xs.length (zO E ys)/\w.grownBy w' v.ownBlock:=by
 have hv2:=hv
 rcases hv.2 with⟨rfl,h0⟩ |⟨gb,cap,cur,rfl,hbg,hg,h1,h2,h3,h4⟩
 ·obtain rfl:=List.eq_nil_of_length_eq_zero h0
  refine(AnyF.slices_SortFunc_none L none 0 _ w).mono ?_;rintro e w' ⟨rfl,rfl⟩;exact⟨rfl,[],List.Perm.refl _,List.Pairwise.nil,hv2,⟨rfl,rfl,rfl,Nat.le_refl _,fun _ _ _ =>rfl⟩⟩
 ·have hH:HoldsK E.enc E.k w gb 0 xs.toArray:=by
   unfold HoldsK;rw[kZ];exact zaZ hg (by rw[yN];exact h4)
  have hlt:=(Array.getElem?_eq_some_iff.1 hg).1
  have hsz:xs.toArray.size<4611686018427387904:=by simp;omega
  have hc:=AnyQ.slices_SortFunc L E.k aE zE E.enc E.len E.one cf hO g cb gb 0 cap xs.toArray w eg (fun m os dk _ x y=>hcmp x y _) hH hlt hsz
  have hs0:xs.toArray.size=xs.length:=by simp
  rw[hs0]at hc;refine hc.mono ?_;rintro e w' ⟨rfl,Y,n,os,hp,hs,rfl⟩
  have hYs:Y.size=xs.length:=by rw[hp.1,hs0]
  have hYl:Y.toList.length=xs.length:=by rw[Array.length_toList];exact hYs
  have hF:flatK E.enc E.k Y=(zO E Y.toList).toArray:=by
   have:=kZ E Y.toList
   rwa [Array.toArray_toList]at this
  have hFl:(zO E Y.toList).length=xs.length*E.k:=by rw[yN,hYl]
  have hperm:Y.toList.Perm xs:=by
   have h:=hp.2.2;rw[<-hs0]at h
   have e1:Y.extract 0 xs.toArray.size=Y:=by rw[hs0,<-hYs];simp
   have e2:xs.toArray.extract 0 xs.toArray.size=xs.toArray:=by simp
   rw[e1,e2]at h;simpa using h
  refine⟨rfl,Y.toList,hperm,?_,?_⟩
  ·rw[List.pairwise_iff_getElem]
   intro i j hi hj hij
   have hi':i<Y.size:=by simpa using hi
   have hj':j<Y.size:=by simpa using hj
   have:=hs i j (Nat.zero_le _) hij (by omega);rw[getElem!_pos Y i hi',getElem!_pos Y j hj']at this;simpa using this
  ·unfold sortWorldK putRowK
   rw[hF]
   have hle:(zO E Y.toList).length<=cur.size:=by rw[hFl,h3];exact Nat.mul_le_mul_right _ h1
   exact⟨⟨hFl,.inr ⟨gb,cap,_,rfl,hbg,zcO _ hg,h1,h2,by simp[putCells,h3],by rw[<-hFl];exact zcJ cur _ hle⟩⟩,zaR _⟩
end
def cfF(x y:zg):Int:=compareBytes x.1 y.1
def cfC(x y:yK):Int:=compareBytes x.1 y.1
theorem zjq(x y:zg):ltOf cfF x y=xv x.1 y.1:=zfi _ _
theorem zhE(x y:yK):ltOf cfC x y=xv x.1 y.1:=zfi _ _
theorem znn{p q r:zQ}(h1:xv p q=false)(h2:xv q r=false):xv p r=false:=by
 cases h:xv p r with
 |false=>rfl
 |true=>rw[zrl h h2]at h1;cases h1
theorem zsl:SWO (ltOf cfF):=⟨fun x=>by rw[zjq];exact jG _,fun x y z h1 h2=>by rw[zjq]at *;exact qe _ _ _ h1 h2,fun x y z h1 h2=>by rw[zjq]at *;exact znn h1 h2⟩
theorem zrn:SWO (ltOf cfC):=⟨fun x=>by rw[zhE];exact jG _,fun x y z h1 h2=>by rw[zhE]at *;exact qe _ _ _ h1 h2,fun x y z h1 h2=>by rw[zhE]at *;exact znn h1 h2⟩
section
theorem zog(x y:zg)(W:World):Calls Tryz.prog 56 #[.agg #[zq x.1,.bool x.2.1,zq x.2.2],.agg #[zq y.1,.bool y.2.1,zq y.2.2]] W fun e w'=>e= .returned (.int .i64 (cfF x y))/\∃q os',w'=grow (W.drewN q) os':=by
 obtain⟨a,b1,b2⟩:=x;obtain⟨c,d1,d2⟩:=y
 have HC:=ze fun(w:World)=>zeG a c w
 unfold zq at HC ⊢
 show Calls _ _ _ _ fun e w'=>e= .returned (.int .i64 (compareBytes a c))/\ _
 go_enter Tryz.func56,Tryz.ntmps56
 go_wp2_with (go_at_call 57;refine(HC.out _).mono ?_;rintro e w1 ⟨rfl,rfl⟩)
 go_ret;exact⟨rfl,0,#[_,_],by simp only[alloc_eq_grow,grow_grow];rfl⟩
theorem zos(x y:yK)(W:World):Calls Tryz.prog 59 #[.agg #[zq x.1,.int .i64 x.2.1,zq x.2.2],.agg #[zq y.1,.int .i64 y.2.1,zq y.2.2]] W fun e w'=>e= .returned (.int .i64 (cfC x y))/\∃q os',w'=grow (W.drewN q) os':=by
 obtain⟨a,b1,b2⟩:=x;obtain⟨c,d1,d2⟩:=y
 have HC:=ze fun(w:World)=>zeG a c w
 unfold zq at HC ⊢
 show Calls _ _ _ _ fun e w'=>e= .returned (.int .i64 (compareBytes a c))/\ _
 go_enter Tryz.func59,Tryz.ntmps59
 go_wp2_with (go_at_call 57;refine(HC.out _).mono ?_;rintro e w1 ⟨rfl,rfl⟩)
 go_ret;exact⟨rfl,0,#[_,_],by simp only[alloc_eq_grow,grow_grow];rfl⟩
end
theorem zpk{l ys:List zg}(hn:(l.map (·.1)).Nodup)(hp:ys.Perm l)(hs:ys.Pairwise fun x y=>ltOf cfF y x=false):ys=xu l:=by
 refine zpr hn (fun x=>hp.mem_iff) ?_;have hn2:(ys.map (·.1)).Nodup:=(hp.map _).nodup_iff.2 hn;rw[List.nodup_iff_pairwise_ne,List.pairwise_map]at hn2
 exact(hs.and hn2).imp fun {x y} ⟨h1,h2⟩=>by
  rw[zjq]at h1
  cases h:xv x.1 y.1 with
  |true=>rfl
  |false=>exact absurd (zcb _ _ h h1) h2
theorem zhe(C:List yK):(zP (ltOf cfC) C.toArray).toList=qY C:=by
 obtain⟨h1,h2⟩:=zqL C
 refine znQ _ _ ?_ h1 fun p=>?_
 ·unfold zat
  rw[List.pairwise_iff_getElem];intro i j hi hj hij;have ho:=(zfl zrn C.toArray).2 i j (Nat.zero_le _) hij (by simpa[xf]using hj)
  have hi':i <(zP (ltOf cfC) C.toArray).size:=by simpa using hi
  have hj':j <(zP (ltOf cfC) C.toArray).size:=by simpa using hj
  rw[getElem!_pos _ i hi',getElem!_pos _ j hj',zhE]at ho;simpa using ho
 ·rw[h2 p,zii zrn C.toArray (fun d=>d.1==p) fun x y hx hy=>by rw[zhE,eq_of_beq hx,eq_of_beq hy];exact jG _]
theorem zmr(v:Value)(l:List zg)(w:World)(base:Nat)(hb:base<=w.heap.size)(hv:zI w base v l)(hl:l.length<=100000000)(hn:(l.map (·.1)).Nodup):
  Calls Tryz.prog 55 #[v,.func (.func 56) #[] #[]] w fun e w'=>e= .returned (.tuple #[])/\zI w' base v (xu l)/\w.grownBy w' v.ownBlock:=by
 refine(Sf.own Tryz.sfF jh Tryz.isAgg28 Tryz.sizeOf28 cfF zsl 56 #[] (enters_of Tryz.func56 (by kernel_rfl) rfl) 28 v l w base hb hv hl (fun x y W=>zog x y W)).mono ?_;rintro e w' ⟨rfl,ys,hp,hs,h,hg⟩;have e1:=zpk hn hp hs;subst e1;refine⟨rfl,?_,hg⟩;unfold zI;rw[zgF];exact h
open Go.Shelf Go.RowKit Go.Lib Go.Sort
section
variable{P:Program}{ρ ρ2:Ren}{α:Type} [Inhabited α]
theorem St.ownG(L:StL P ρ)(L2:SlLaysF0.n20 P ρ2)(h71:ρ2.f 20=ρ.f 71)(h35:ρ2.t 24=ρ.t 35)(E:Enc α)(aE:∀w,(isAgg (ρ.t 35)).run P w= .ok true w)(zE:∀w,(Go.sizeOf (ρ.t 35)).run P w= .ok E.k w)(cf:α->α->Int)(g:Nat)(cb:Array Value)
  (eg:∀args w,(callFunc g args).run P w= .ok (.enter g args) w) (ty:TypeId) (v:Value) (xs:List α) (w:World) (base:Nat) (hb:base<=w.heap.size) (hv:w.ownsRow base ty E.k v xs.length (zO E xs)) (hl:xs.length<=100000000)
  (hcmp:∀ (x y:α) (W:World),Calls P g (#[.agg (E.enc x).toArray,.agg (E.enc y).toArray]++cb) W fun e w'=>e= .returned (.int .i64 (cf x y))/\∃q os',w'=grow (W.drewN q) os'):
  Calls P (ρ.f 43) #[v,.func (.func g) #[] cb] w fun e w'=>e= .returned (.tuple #[])/\w'.ownsRow base ty E.k v xs.length (zO E (zP (ltOf cf) xs.toArray).toList)/\w.grownBy w' v.ownBlock:=by
 have hv2:=hv
 rcases hv.2 with⟨rfl,h0⟩ |⟨gb,cap,cur,rfl,hbg,hg,h1,h2,h3,h4⟩
 ·obtain rfl:=List.eq_nil_of_length_eq_zero h0
  refine(St.top L _ _ 0 none 0 w (fun _ w'=>w'=w) rfl (St.stable_none L L2 h71 none 0 _ w)).mono ?_;rintro e w' ⟨rfl,rfl⟩;refine⟨rfl,?_,⟨rfl,rfl,rfl,Nat.le_refl _,fun _ _ _ =>rfl⟩⟩
  have e0:(zP (ltOf cf) ([]:List α).toArray).toList=[]:=by
   apply List.eq_nil_of_length_eq_zero
   rw[Array.length_toList,xf]
   rfl
  rw[e0];exact hv2
 ·have hH:HoldsK E.enc E.k w gb 0 xs.toArray:=by
   unfold HoldsK;rw[kZ];exact zaZ hg (by rw[yN];exact h4)
  have hlt:=(Array.getElem?_eq_some_iff.1 hg).1
  have hsz:xs.toArray.size<=100000000:=by simpa using hl
  have hc:=St.stable L E.k aE zE E.enc L2 h71 h35 cf g cb gb 0 cap xs.toArray xs.toArray w w eg (fun m os dk _ x y=>hcmp x y _) ⟨E.len,E.one,hH,hlt⟩ rfl (SWK.start hH) hsz
  have hs0:xs.toArray.size=xs.length:=by simp
  rw[hs0]at hc;refine(St.top L _ _ xs.length (some ⟨gb,0,none⟩) cap w (fun _ w'=>SWK E.enc E.k w gb 0 (zP (ltOf cf) xs.toArray) w') rfl hc).mono ?_;rintro e w' ⟨rfl,n,os,rfl⟩;obtain⟨Y,hY⟩:∃Y,zP (ltOf cf) xs.toArray=Y:=⟨_,rfl⟩
  have hYs:Y.size=xs.length:=by rw[<-hY,xf];exact hs0
  have hYl:Y.toList.length=xs.length:=by rw[Array.length_toList];exact hYs
  rw[hY]
  have hF:flatK E.enc E.k Y=(zO E Y.toList).toArray:=by
   have:=kZ E Y.toList
   rwa [Array.toArray_toList]at this
  have hFl:(zO E Y.toList).length=xs.length*E.k:=by rw[yN,hYl]
  unfold sortWorldK putRowK;rw[hF]
  have hle:(zO E Y.toList).length<=cur.size:=by rw[hFl,h3];exact Nat.mul_le_mul_right _ h1
  refine⟨rfl,⟨hFl,.inr ⟨gb,cap,_,rfl,hbg,zcO _ hg,h1,h2,by simp[putCells,h3],by rw[<-hFl];exact zcJ cur _ hle⟩⟩,
   zaR _⟩
end
theorem ziR(C:List yK):(qY C).length=C.length:=by rw[<-zhe,Array.length_toList,xf,List.size_toArray]
theorem znS(v:Value)(l:List yK)(w:World)(base:Nat)(hb:base<=w.heap.size)(hv:jv w base v l)(hl:l.length<=100000000):
  Calls Tryz.prog 58 #[v,.func (.func 59) #[] #[]] w fun e w'=>e= .returned (.tuple #[])/\jv w' base v (qY l)/\w.grownBy w' v.ownBlock:=by
 refine(St.ownG Tryz.stC Tryz.stC2 rfl rfl zig Tryz.isAgg36 Tryz.sizeOf36 cfC 59 #[] (enters_of Tryz.func59 (by kernel_rfl) rfl) 36 v l w base hb hv hl (fun x y W=>zos x y W)).mono ?_;rintro e w' ⟨rfl,h,hg⟩;rw[zhe]at h;refine⟨rfl,?_,hg⟩;unfold jv;rw[ziR];exact h
section
theorem zmM(kb gm:Nat)(v0 v1:Value)(s:jP)(w:World)(h:WhM kb gm v0 v1 s w)(hl:s.1.length<=100000/\s.2.length<=100000)(hn:(s.1.map (·.1)).Nodup):
  Calls Tryz.prog 29 #[.pointer (some ⟨kb,0,none⟩)] w fun e w'=>e= .returned (.tuple #[])/\WhM kb gm v0 v1 (xu s.1,qY s.2) w'/\Below kb w w':=by
 obtain⟨F,C⟩:=s;have HLT:=ze h.lt;obtain⟨vm,vc,hg,hfm,hc⟩:=h.ex;have HG:=ze hg;have HF:=ze hfm;have HC:=ze hc;have HSF:=ze (zmr vm F w (kb+1) h.lt hfm (by have:=hl.1;simp only at this;omega) hn);have HSC:=ze (fun wx (hv:jv wx (kb+1) vc C) (hb:kb<wx.heap.size)=>znS vc C wx (kb+1) hb hv (by have:=hl.2;simp only at this;omega));obtain⟨fo,fc,rfl⟩:=zl hfm;obtain⟨co,cc,rfl⟩:=zl hc;have c3:w.cell? ⟨kb,3,none⟩=some (.slice fo F.length fc):=zd (i:=3) hg rfl;clear h hl hn hg hfm hc
 go_enter Tryz.func29,Tryz.ntmps29
 go_wp2_with (
   (go_at_call 55
    refine HSF.out.mono ?_;rintro e w1 ⟨rfl,o1,g1⟩;have hw1:=(g1.block kb HLT.out (fun e=>yO HF.out HG.out Tryz.neM1 e.symm)).trans HG.out;have HG1:=ze hw1;have HF1:=ze o1;have HC1:=ze (jv.beside HC.out HF.out g1);have HB1:=ze ((Below.refl kb w).grown g1 (Nat.le_of_lt HLT.out) (fun j hj=>Nat.le_of_succ_le (World.ownsRow.lt HF.out j hj).1));have c4:w1.cell? ⟨kb,4,none⟩=some (.slice co C.length cc):=zd (i:=4) hw1 rfl
    clear o1 g1 hw1 c3))
 refine(HSC.out _ HC1.out (lt_of_block HG1.out)).mono ?_;rintro e w2 ⟨rfl,o2,g2⟩;have hw2:=(g2.block kb (lt_of_block HG1.out) (fun e=>yO HC1.out HG1.out Tryz.neM2 e.symm)).trans HG1.out;have HG2:=ze hw2;have HF2:=ze (zI.besideC HF1.out HC1.out g2);have HC2:=ze o2;have HB2:=ze (HB1.out.grown g2 (Nat.le_of_lt (lt_of_block HG1.out)) (fun j hj=>Nat.le_of_succ_le (World.ownsRow.lt HC1.out j hj).1));clear o2 g2 hw2 c4;go_wp2_with fail
 go_end0
 exact⟨rfl,⟨_,_,HG2.out,HF2.out,HC2.out⟩,HB2.out⟩
end
def tmT(a b c:List zg):List zg × List yK × Nat:=tmS a b c (yj a b) (yj a c)
theorem zrX(p q:zQ):xv p q=(!Op.bytesLess q p && !(q==p)):=by
 cases h1:xv p q with
 |true=>rw[show Op.bytesLess q p=false from zbx h1,beq_false_of_ne (znN h1).symm];rfl
 |false=>
  cases h2:xv q p with
  |true=>rw[show Op.bytesLess q p=true from h2];rfl
  |false=>rw[show Op.bytesLess q p=false from h2,zcb p q h1 h2];simp
theorem zpw(C:List yK):(qY C).length=C.length:=by
 suffices h:∀ (C A:List yK),(C.foldl zed A).length=A.length+C.length by simpa[qY]using h C []
 intro C
 induction C with
 |nil=>intro A;simp
 |cons c C ih=>
  intro A;rw[List.foldl_cons,ih];have:=zqe A c.1;simp only[zed,List.length_append,List.length_take,List.length_drop,List.length_cons,List.length_nil];omega
theorem zoG{C:List yK}{k:Nat}{c:yK}(h:C[k]? =some c):qY (C.take (k+1))=zed (qY (C.take k)) c:=by rw[List.take_add_one,h];exact znY _ _
theorem znM(l m:List zg):(yj l m).length<=l.length:=by
 unfold yj;exact Nat.le_trans (zin _ _ _ _) (List.length_filter_le _ _)
theorem ziY{p:zQ}{side:List zg}{R:List jQ}{f:zg}(h:yU p side R=some f):f∈side:=by
 unfold yU at h
 cases hf:zz side p with
 |some g=>
  rw[hf]at h;cases h;exact(xq hf).1
 |none=>
  rw[hf]at h;obtain⟨r,_,hr⟩:=List.exists_of_findSome?_eq_some h
  split at hr
  ·exact(xq hr).1
  ·cases hr
theorem xT(s:jP)(f:zg)(k:Int):(jq s f k).1.length<=s.1.length+1/\(jq s f k).2.length<=s.2.length+1:=by
 unfold jq
 split
 ·simp
 ·refine⟨by simp,?_⟩
  split <;> simp
theorem qR(s:jP)(b:zg)(o t:Option zg):(jV s b o t).1.length<=s.1.length+1/\(jV s b o t).2.length<=s.2.length+1:=by
 unfold jV zec
 split
 ·exact xT _ _ _
 ·split
  ·exact⟨by omega,by omega⟩
  ·exact xT _ _ _
 ·split
  ·exact⟨by omega,by omega⟩
  ·exact xT _ _ _
 ·exact⟨by omega,by omega⟩
theorem znW(Y:List zg)(s:jP)(x:zg):(kY Y s x).1.length<=s.1.length+1/\(kY Y s x).2.length<=s.2.length+1:=by
 unfold kY
 split
 ·exact xT _ _ _
 ·split <;> exact xT _ _ _
theorem zov(X:List zg)(s:jP)(x:zg):(zao X s x).1.length<=s.1.length+1/\(zao X s x).2.length<=s.2.length+1:=by
 unfold zao
 split
 ·exact⟨by omega,by omega⟩
 ·exact xT _ _ _
theorem zjz{s:jP}{a b c:List zg}{Pr Q:List jQ}{k:Nat}{f:zg}(h:a[k]? =some f):zaB s (a.take (k+1)) b c Pr Q=jV (zaB s (a.take k) b c Pr Q) f (yU f.1 b Pr) (yU f.1 c Q):=by
 rw[zaB,List.take_add_one,h,List.foldl_append]
 rfl
theorem zgZ{α β:Type}(g:β->α->β)(z:β){l:List α}{k:Nat}{x:α}(h:l[k]? =some x):(l.take (k+1)).foldl g z=g ((l.take k).foldl g z) x:=by
 rw[List.take_add_one,h,List.foldl_append]
 rfl
theorem zaP(base side:List zg)(R:List jQ):(zN base side R).length<=side.length:=List.length_filter_le _ _
open Go.RowKit
theorem zkf{a:List zg}{R:List jQ}{i:Nat}{g:zQ × Nat->Option zg}{l:List zg}{q:zQ × Nat}{y:zg}(h:km a R i g l q=some y):y∈l∨g q=some y:=by
 unfold km at h;rw[zcY (fun f:zg=>(ke a R f.1,i)) (fun f=>f)]at h
 split at h
 ·rename_i z hz
  cases h;exact .inl (List.mem_filter.1 (List.mem_of_getLast? hz)).1
 ·exact .inr h
theorem zoo{a b c:List zg}{P Q:List jQ}{q:zQ × Nat}{y:zg}(h:zai a b c P Q q=some y):y∈b∨y∈c:=by
 rcases zkf h with h |h
 ·exact .inr h
 ·rcases zkf h with h |h
  ·exact .inl h
  ·cases h
theorem zcw{α β:Type}{f g:β->α->β}:∀ (l:List α) (s:β),(∀x∈l,∀s,f s x=g s x)->l.foldl f s=l.foldl g s
 | [],_,_ =>rfl
 |x::l,s,h=>by rw[List.foldl_cons,List.foldl_cons,h x (List.mem_cons_self ..),zcw l _ fun y hy=>h y (List.mem_cons_of_mem _ hy)]
theorem zrd{a b c:List zg}{P Q:List jQ}(tb:yD b)(tc:yD c)(hP:zim a b P)(hQ:zim a c Q):
  (zN a c Q).foldl (zax (zai a b c P Q)) ((zN a b P).foldl (zag (zai a b c P Q)) (a.foldl (fun s b'=>jV s b' (zai a b c P Q (b'.1,0)) (zai a b c P Q (b'.1,1))) ([],[])))=tmW a b c P Q:=by
 have hn:∀ {side:List zg} {R:List jQ} (x:zg),x∈zN a side R->zz a x.1=none:=fun {side R} x hx=>by
  have h:=(List.mem_filter.1 hx).2;unfold zcf at h;rw[Bool.and_eq_true]at h;simpa using h.1
 have e1:a.foldl (fun s b'=>jV s b' (zai a b c P Q (b'.1,0)) (zai a b c P Q (b'.1,1))) ([],[])=zaB ([],[]) a b c P Q:=
  zcw _ _ fun x hx s=>by
   simp only[zrp tb hP,zro tc hQ,zkc hx,if_true]
 have e2:∀s,(zN a b P).foldl (zag (zai a b c P Q)) s=(zN a b P).foldl (kY (zN a c Q)) s:=fun s=>
  zcw _ _ fun x hx s=>by
   unfold zag kY;rw[zro tc hQ,hn x hx,if_neg (by simp)]
   cases zz (zN a c Q) x.1 with
   |none=>rfl
   |some t=>
    simp only
    by_cases e:x=t
    ·rw[if_pos e,if_pos e,if_pos e.symm]
    ·rw[if_neg e,if_neg e,if_neg (fun h=>e h.symm)]
 have e3:∀s,(zN a c Q).foldl (zax (zai a b c P Q)) s=(zN a c Q).foldl (zao (zN a b P)) s:=fun s=>
  zcw _ _ fun x hx s=>by
   unfold zax zao;rw[zrp tb hP,hn x hx]
   rfl
 rw[e1,e2,e3]
 rfl
theorem zfd{α:Type}{g:jP->α->jP}:∀ (l:List α) (s:jP) (n:Nat),(∀x∈l,∀s n,jO s n->jO (g s x) (n+1))->jO s n->jO (l.foldl g s) (n+l.length)
 | [],_,_,_,h=>h
 |x::l,s,n,hg,h=>by
  rw[List.foldl_cons,List.length_cons,show n +(l.length+1)=n+1+l.length by omega];exact zfd l _ _ (fun y hy=>hg y (List.mem_cons_of_mem _ hy)) (hg x (List.mem_cons_self ..) s n h)
theorem zcL{l:List zg}(h:zT l):∀f∈l,f.1.length<=1000000:=fun f hf=>by
 have:=qV (h.ok f hf);omega
section
theorem zda(va vb vc:Value)(a b c:List zg)(w:World)(ha:yM w va a)(hb:yM w vb b)(hc:yM w vc c)(la:zT a->∀f∈a,f.2.2.length<=3000)(lb:zT b->∀f∈b,f.2.2.length<=3000)(lc:zT c->∀f∈c,f.2.2.length<=3000):
  Calls Tryz.prog 14 #[va,vb,vc] w fun e w'=>∃x y,e= .returned (.tuple #[x,y,.int .i64 ((tmT a b c).2.2:Nat)])/\yM w' x (tmT a b c).1/\zbE w' y (tmT a b c).2.1/\Below w.heap.size w w':=by
 obtain⟨ao,ac,rfl⟩:=zy.form ha;obtain⟨bo,bc,rfl⟩:=zy.form hb;obtain⟨co,cc,rfl⟩:=zy.form hc;have HA:=ze ha;have HB:=ze hb;have HC:=ze hc;have HT:=ze (And.intro la (And.intro lb lc));clear ha hb hc la lb lc;obtain⟨ra,hra⟩:∃z,yf a=z:=⟨_,rfl⟩;obtain⟨rb,hrb⟩:∃z,yf b=z:=⟨_,rfl⟩;obtain⟨rc,hrc⟩:∃z,yf c=z:=⟨_,rfl⟩;have HRA:=ze (fun wx (hk:Below w.heap.size w wx)=>zbu _ a wx (zy.old HA.out hk));have HRB:=ze (fun wx (hk:Below w.heap.size w wx)=>zbu _ b wx (zy.old HB.out hk));have HRC:=ze (fun wx (hk:Below w.heap.size w wx)=>zbu _ c wx (zy.old HC.out hk));have HR0:=ze (And.intro hra (And.intro hrb hrc));rw[hra]at HRA;rw[hrb]at HRB;rw[hrc]at HRC;clear hra hrb hrc
 have HTF:=ze (show(ra&&(rb&&rc))=false->tmT a b c=([],[],5)from fun h=>by
  unfold tmT tmS;rw[HR0.out.1,HR0.out.2.1,HR0.out.2.2,if_neg];rintro⟨rfl,rfl,rfl⟩
  cases h)
 have HB0:=ze (Below.refl w.heap.size w)
 go_enter Tryz.func14,Tryz.ntmps14
 go_wp2_with fail;refine(HRA.out w HB0.out).mono ?_;rintro e w1 ⟨rfl,hb⟩;have HB1:=ze hb;clear hb
 cases ra with
 |false=>
  have HE:=ze (HTF.out rfl);go_wp2_with fail;refine bodyPost_ret (results_tmp3 rfl _ _ _) rfl ?_;exact⟨_,_,by rw[HE.out];rfl,by rw[HE.out];exact zy.nil _,by rw[HE.out];exact zy.nil _,HB1.out⟩
 |true=>
 go_wp2_with fail;refine(HRB.out w1 HB1.out).mono ?_;rintro e w2 ⟨rfl,hb⟩;have HB2:=ze (zi HB1.out hb HB1.out.size);clear hb
 cases rb with
 |false=>
  have HE:=ze (HTF.out rfl);go_wp2_with fail;refine bodyPost_ret (results_tmp3 rfl _ _ _) rfl ?_;exact⟨_,_,by rw[HE.out];rfl,by rw[HE.out];exact zy.nil _,by rw[HE.out];exact zy.nil _,HB2.out⟩
 |true=>
 go_wp2_with fail;refine(HRC.out w2 HB2.out).mono ?_;rintro e w3 ⟨rfl,hb⟩;have HB3:=ze (zi HB2.out hb HB2.out.size);clear hb
 cases rc with
 |false=>
  have HE:=ze (HTF.out rfl);go_wp2_with fail;refine bodyPost_ret (results_tmp3 rfl _ _ _) rfl ?_;exact⟨_,_,by rw[HE.out];rfl,by rw[HE.out];exact zy.nil _,by rw[HE.out];exact zy.nil _,HB3.out⟩
 |true=>
 have HTA:=ze ((yY a).1 HR0.out.1);have HTB:=ze ((yY b).1 HR0.out.2.1);have HTC:=ze ((yY c).1 HR0.out.2.2);have HT:=ze (And.intro (HT.out.1 HTA.out) (And.intro (HT.out.2.1 HTB.out) (HT.out.2.2 HTC.out)))
 have HTT:=ze (show tmT a b c=if yf (xu (tmW a b c (yj a b) (yj a c)).1)=true then(xu (tmW a b c (yj a b) (yj a c)).1,qY (tmW a b c (yj a b) (yj a c)).2,0)else([],[],6) by
  unfold tmT tmS
  rw[if_pos HR0.out])
 clear HTF HR0 HRA HRB HRC HB0 HB1 HB2;go_wp2_with fail;refine(zjY _ _ _ a b c w3 (zy.old HA.out HB3.out) (zy.old HB.out HB3.out) (zy.old HC.out HB3.out) HTA.out HTB.out HTC.out).mono ?_;rintro e w4 ⟨gm,v0,v1,rfl,hsv,hb⟩;have HB4:=ze (zi HB3.out hb HB3.out.size);have HSV:=ze hsv;have HP:=ze (zam.ok HTA.out.rise HTB.out.rise (zgD HTA.out HTB.out));have HQ:=ze (zam.ok HTA.out.rise HTC.out.rise (zgD HTA.out HTC.out));clear hb hsv HB3;have HTM:=ze (zrd HTB.out.rise HTC.out.rise HP.out HQ.out)
 have HLK:=ze (show ∀p i g,zai a b c (yj a b) (yj a c) (p,i)=some g->g.1.length<=1000000/\g.2.2.length<=3000 from fun p i g h=>by
  rcases zoo h with h |h
  ·exact⟨zcL HTB.out g h,HT.out.2.1 g h⟩
  ·exact⟨zcL HTC.out g h,HT.out.2.2 g h⟩)
 have HAP:=ze (zqC (zqa a b c (yj a b) (yj a c)));have HAO:=ze (show(zN a b (yj a b)).length<=100/\∀x∈zN a b (yj a b),x.1.length<=1000000/\x.2.2.length<=3000 from⟨Nat.le_trans (zaP _ _ _) HTB.out.len,fun x hx=>⟨zcL HTB.out x (List.mem_filter.1 hx).1,HT.out.2.1 x (List.mem_filter.1 hx).1⟩⟩);have HAT:=ze (show(zN a c (yj a c)).length<=100/\∀x∈zN a c (yj a c),x.1.length<=1000000/\x.2.2.length<=3000 from⟨Nat.le_trans (zaP _ _ _) HTC.out.len,fun x hx=>⟨zcL HTC.out x (List.mem_filter.1 hx).1,HT.out.2.2 x (List.mem_filter.1 hx).1⟩⟩);have HAA:=ze (show a.length<=100/\∀x∈a,x.1.length<=1000000/\x.2.2.length<=3000 from⟨HTA.out.len,fun x hx=>⟨zcL HTA.out x hx,HT.out.1 x hx⟩⟩);have HA4:=ze (zy.old HA.out HB4.out);clear HA HB HC HP HQ HT HTA HTB HTC;generalize yj a b=rP at *;generalize yj a c=rQ at *;generalize zai a b c rP rQ=f at *;generalize tmW a b c rP rQ=T at *;obtain⟨vX,hX⟩:∃X,zN a b rP=X:=⟨_,rfl⟩;obtain⟨vY,hY⟩:∃Y,zN a c rQ=Y:=⟨_,rfl⟩;rw[hX,hY]at HTM HSV;rw[hX]at HAO;rw[hY]at HAT;clear hX hY;obtain⟨n,D,hms,hsD,h0,h1,hgm⟩:=HSV.out;obtain⟨o0,k0,rfl⟩:=zl h0;obtain⟨o1,k1,rfl⟩:=zl h1;have HMS:=ze hms;have HSD:=ze hsD;have HX:=ze (zI.sl h0);have HY:=ze (zI.sl h1);clear hms hsD h0 h1 hgm HSV
 go_wp2_with (refine zB rfl 57 _ _ rfl _ #[.map (some gm),.slice o0 vX.length k0,.slice o1 vY.length k1,.slice none 0 0,.slice none 0 0] rfl rfl _ _ (heap_alloc_new _ _) 5 Tryz.sizeMerging rfl rfl (by simp[Value.oneCell']) ?_;intro w5 hg hk;have hb:Below w4.heap.size w4 w5:=((Below.refl _ w4).alloc (Nat.le_refl _) _).trans (hk.below (by simp) (fun j hj e=>by omega));have HG5:=ze (hg);have HB5:=ze hb;clear hb hg hk)
 have HW5:=ze (show WhM w4.heap.size gm (.slice o0 vX.length k0) (.slice o1 vY.length k1) ([],[]) w5 from⟨_,_,HG5.out,World.ownsRow_nil _ _ _ _,World.ownsRow_nil _ _ _ _⟩);obtain⟨kb,hkb⟩:∃g,w4.heap.size=g:=⟨_,rfl⟩;have HKB:=ze hkb;rw[hkb]at HG5 HB5 HW5 ⊢;clear HG5;have HF0:=ze (show jO ([],[]) 0 from⟨Nat.le_refl _,Nat.le_refl _,fun _ h=>by cases h⟩);have HK:=ze (fun wx h hb=>zoM kb gm (.slice o0 vX.length k0) (.slice o1 vY.length k1) f w4 wx n D ([],[]) h hb HKB.out HMS.out HSD.out (HF0.out.mono (by omega)) HLK.out _ a HA4.out HAA.out.1 HAA.out.2);have HF1:=ze (zfd (g:=fun s b'=>jV s b' (f (b'.1,0)) (f (b'.1,1))) a _ _ (fun x hx s n h=>h.keep x (fun g hg=>(HLK.out _ _ g hg).1) (fun g hg=>(HLK.out _ _ g hg).1)) HF0.out);generalize a.foldl (fun s b'=>jV s b' (f (b'.1,0)) (f (b'.1,1))) ([],[])=s1 at *;have HO:=ze (fun wx h hb=>zka kb gm (0+a.length) (.slice o0 vX.length k0) (.slice o1 vY.length k1) f w4 wx n D s1 h hb HKB.out HMS.out HSD.out HF1.out HLK.out (by have:=HAA.out.1;omega) vX HX.out HAO.out.1 HAO.out.2);have HF2:=ze (zfd (g:=zag f) vX _ _ (fun x hx s n h=>h.addO (HAO.out.2 x hx).1) HF1.out);generalize vX.foldl (zag f) s1=s2 at *;have HTH:=ze (fun wx h hb=>zgO kb gm (0+a.length+vX.length) (.slice o0 vX.length k0) (.slice o1 vY.length k1) f w4 wx n D s2 h hb HKB.out HMS.out HSD.out HF2.out HLK.out (by have:=HAA.out.1;have:=HAO.out.1;omega) vY HY.out HAT.out.1 HAT.out.2);have HF3:=ze (zfd (g:=zax f) vY _ _ (fun x hx s n h=>h.addT (HAT.out.2 x hx).1) HF2.out);rw[HTM.out]at HTH HF3;clear HTM HLK;have HSO:=ze (fun wx h=>zmM kb gm (.slice o0 vX.length k0) (.slice o1 vY.length k1) T wx h (by have h1:=HF3.out.files;have h2:=HF3.out.cl;have:=HAA.out.1;have:=HAO.out.1;have:=HAT.out.1;omega) HAP.out);clear hkb;refine(HK.out _ HW5.out HB5.out).mono ?_;rintro e w6 ⟨rfl,h,hb⟩;have HW6:=ze h;have HB6:=ze hb;clear h hb HW5 HB5 HK;go_wp2_with fail;refine(HO.out _ HW6.out HB6.out).mono ?_;rintro e w7 ⟨rfl,h,hb⟩;have HW7:=ze h;have HB7:=ze hb;clear h hb HW6 HB6 HO;go_wp2_with fail;refine(HTH.out _ HW7.out HB7.out).mono ?_;rintro e w8 ⟨rfl,h,hb⟩;have HW8:=ze h;have HB8:=ze hb;clear h hb HW7 HB7 HTH;go_wp2_with fail;refine(HSO.out _ HW8.out).mono ?_;rintro e w9 ⟨rfl,h,hb⟩;have HB9:=ze (HB8.out.trans hb);obtain⟨vm,vc,hg,hfm,hcm⟩:=h.ex;obtain⟨fo,fc,rfl⟩:=zl hfm;obtain⟨go,gc,rfl⟩:=zl hcm;have c3:w9.cell? ⟨kb,3,none⟩=some (.slice fo (xu T.1).length fc):=zd (i:=3) hg rfl;have c4:w9.cell? ⟨kb,4,none⟩=some (.slice go (qY T.2).length gc):=zd (i:=4) hg rfl;have HBT:=ze (show Below w.heap.size w w9 from zi HB4.out (by rw[HKB.out];exact HB9.out) HB4.out.size);have HFM:=ze (zI.sl hfm);have HCM:=ze (jv.sl hcm);clear h hb HW8 HB8 HSO hg hfm hcm HB9;have HR:=ze (zbu _ _ w9 HFM.out);obtain⟨r,hr⟩:∃z,yf (xu T.1)=z:=⟨_,rfl⟩;rw[hr]at HR HTT;clear hr;go_wp2_with fail;refine HR.out.mono ?_;rintro e w10 ⟨rfl,hb⟩;have HB10:=ze (zi HBT.out hb HBT.out.size);have HFM:=ze (zy.old HFM.out hb);have HCM:=ze (zy.old HCM.out hb);have d3:=zf hb c3;have d4:=zf hb c4;clear hb c3 c4 HR
 cases r with
 |false=>
  have HE:=ze (show tmT a b c=([],[],6) by rw[HTT.out];rfl);go_wp2_with fail;refine bodyPost_ret (results_tmp3 rfl _ _ _) rfl ?_;exact⟨_,_,by rw[HE.out];rfl,by rw[HE.out];exact zy.nil _,by rw[HE.out];exact zy.nil _,HB10.out⟩
 |true=>
  have HE:=ze (show tmT a b c=(xu T.1,qY T.2,0) by rw[HTT.out];rfl);go_wp2_with fail;go_region;go_wp2_with fail;refine bodyPost_ret (results_tmp3 rfl _ _ _) rfl ?_;exact⟨_,_,by rw[HE.out];rfl,by rw[HE.out];exact zy.old HFM.out (Below.refl _ _).drew,by rw[HE.out];exact zy.old HCM.out (Below.refl _ _).drew,HB10.out.drew⟩
end
end Go.Proofs.YtbnafihigoekeaaGreatDoor

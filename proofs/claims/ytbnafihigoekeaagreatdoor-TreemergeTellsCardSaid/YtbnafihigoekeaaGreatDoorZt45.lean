/-
  TmTl, part 45.
-/
import Derived.Test.YtbnafihigoekeaaGreatDoorZt44
import Derived.Test.YtbnafihigoekeaaGreatDoorZt38
set_option maxRecDepth 100000
set_option maxHeartbeats 16000000
namespace Go.Proofs.YtbnafihigoekeaaGreatDoor
open Go.RowKit
open BigFrame
theorem yk.put{gw:Nat}{s:jP}{f:zg}{k:Int}{w:World}(h:yk gw (zfG (xu s.1,s.2) f k) w):yk gw (xu (jq s f k).1,(jq s f k).2) w:=by
 rwa [zqQ]at h
theorem yk.one{gw:Nat}{s:jP}{b f:zg}{w:World}(h:yk gw (if b=f then(xu s.1,s.2)else zfG (xu s.1,s.2) f 3) w):yk gw (xu (zec s b f).1,(zec s b f).2) w:=by
 unfold zec
 split at h
 ·rename_i e
  rw[if_pos e];exact h
 ·rename_i e
  rw[if_neg e];exact h.put
section
theorem zgh(va vb vc:Value)(a b c:List zg)(w:World)(ha:yM w va a)(hb:yM w vb b)(hc:yM w vc c)(la:zT a->∀f∈a,f.2.2.length<=3000)(lb:zT b->∀f∈b,f.2.2.length<=3000)(lc:zT c->∀f∈c,f.2.2.length<=3000):
  Calls Tryz.prog 15 #[va,vb,vc] w fun e w'=>∃x y,e= .returned (.tuple #[x,y,.int .i64 ((tmT a b c).2.2:Nat)])/\yM w' x (tmT a b c).1/\zbE w' y (tmT a b c).2.1/\Below w.heap.size w w':=by
 obtain⟨ao,ac,rfl⟩:=zy.form ha;obtain⟨bo,bc,rfl⟩:=zy.form hb;obtain⟨co,cc,rfl⟩:=zy.form hc;have HA:=ze ha;have HB:=ze hb;have HC:=ze hc;have HT:=ze (And.intro la (And.intro lb lc));clear ha hb hc la lb lc;obtain⟨ra,hra⟩:∃z,yf a=z:=⟨_,rfl⟩;obtain⟨rb,hrb⟩:∃z,yf b=z:=⟨_,rfl⟩;obtain⟨rc,hrc⟩:∃z,yf c=z:=⟨_,rfl⟩;have HRA:=ze (fun wx (hk:Below w.heap.size w wx)=>zbd _ a wx (zy.old HA.out hk));have HRB:=ze (fun wx (hk:Below w.heap.size w wx)=>zbd _ b wx (zy.old HB.out hk));have HRC:=ze (fun wx (hk:Below w.heap.size w wx)=>zbd _ c wx (zy.old HC.out hk));have HR0:=ze (And.intro hra (And.intro hrb hrc));rw[hra]at HRA;rw[hrb]at HRB;rw[hrc]at HRC;clear hra hrb hrc
 have HTF:=ze (show(ra&&(rb&&rc))=false->tmT a b c=([],[],5)from fun h=>by
  unfold tmT tmS;rw[HR0.out.1,HR0.out.2.1,HR0.out.2.2,if_neg];rintro⟨rfl,rfl,rfl⟩
  cases h)
 have HB0:=ze (Below.refl w.heap.size w)
 go_enter Tryz.func15,Tryz.ntmps15
 go_wp2_with fail;refine(HRA.out w HB0.out).mono ?_;rintro e w1 ⟨rfl,hb⟩;have HB1:=ze hb;clear hb
 cases ra with
 |false=>
  have HE:=ze (HTF.out rfl);go_wp2_with fail;refine bodyPost_ret (results_tmp3 rfl _ _ _) rfl ?_;exact⟨_,_,by rw[HE.out];rfl,by rw[HE.out];exact zy.nil _,by rw[HE.out];exact zy.nil _,HB1.out⟩
 |true=>
 go_wp2_with fail;refine(HRB.out w1 HB1.out).mono ?_;rintro e w2 ⟨rfl,hb⟩;have HB2:=ze (zi HB1.out hb HB1.out.size);clear hb
 cases rb with
 |false=>
  have HE:=ze (HTF.out rfl);go_wp2_with fail;refine bodyPost_ret (results_tmp3 rfl _ _ _) rfl ?_;exact⟨_,_,by rw[HE.out];rfl,by rw[HE.out];exact zy.nil _,by rw[HE.out];exact zy.nil _,HB2.out⟩
 |true=>
 go_wp2_with fail;refine(HRC.out w2 HB2.out).mono ?_;rintro e w3 ⟨rfl,hb⟩;have HB3:=ze (zi HB2.out hb HB2.out.size);clear hb
 cases rc with
 |false=>
  have HE:=ze (HTF.out rfl);go_wp2_with fail;refine bodyPost_ret (results_tmp3 rfl _ _ _) rfl ?_;exact⟨_,_,by rw[HE.out];rfl,by rw[HE.out];exact zy.nil _,by rw[HE.out];exact zy.nil _,HB3.out⟩
 |true=>
 have HTA:=ze ((yY a).1 HR0.out.1);have HTB:=ze ((yY b).1 HR0.out.2.1);have HTC:=ze ((yY c).1 HR0.out.2.2);have HT:=ze (And.intro (HT.out.1 HTA.out) (And.intro (HT.out.2.1 HTB.out) (HT.out.2.2 HTC.out)))
 have HTT:=ze (show tmT a b c=if yf (xu (tmW a b c (yj a b) (yj a c)).1)=true then(xu (tmW a b c (yj a b) (yj a c)).1,qY (tmW a b c (yj a b) (yj a c)).2,0)else([],[],6) by
  unfold tmT tmS
  rw[if_pos HR0.out])
 clear HTF HR0 HRA HRB HRC HB0 HB1 HB2;have HP:=ze (zeU _ _ a b w3 (zy.old HA.out HB3.out) (zy.old HB.out HB3.out) HTA.out HTB.out);go_wp2_with fail;refine HP.out.mono ?_;rintro e w4 ⟨vp,rp,rfl,hr,ho,hb⟩;have hre:=zam.only HTA.out.rise HTB.out.rise (Nat.le_trans HTA.out.len (by omega)) (Nat.le_trans HTB.out.len (by omega)) hr (zmN HTA.out.rise HTB.out.rise (Nat.le_trans HTA.out.len (by omega)) (Nat.le_trans HTB.out.len (by omega)));subst hre;have HRP:=ze ho;have HB4:=ze (zi HB3.out hb HB3.out.size);clear ho hb hr HP HB3;have HQ:=ze (zeU _ _ a c w4 (zy.old HA.out HB4.out) (zy.old HC.out HB4.out) HTA.out HTC.out);go_wp2_with fail;refine HQ.out.mono ?_;rintro e w5 ⟨vq,rq,rfl,hr,ho,hb⟩;have hre:=zam.only HTA.out.rise HTC.out.rise (Nat.le_trans HTA.out.len (by omega)) (Nat.le_trans HTC.out.len (by omega)) hr (zmN HTA.out.rise HTC.out.rise (Nat.le_trans HTA.out.len (by omega)) (Nat.le_trans HTC.out.len (by omega)));subst hre;have HRQ:=ze (zcd.sl ho);have HRP:=ze (zy.old (zcd.sl HRP.out) hb);have HB5:=ze (zi HB4.out hb HB4.out.size);clear ho hb hr HQ HB4;have HA:=ze (zy.old HA.out HB5.out);have HB:=ze (zy.old HB.out HB5.out);have HC:=ze (zy.old HC.out HB5.out);have HLN:=ze (show a.length<=100/\b.length<=100/\c.length<=100 from⟨HTA.out.len,HTB.out.len,HTC.out.len⟩);have HLR:=ze (show(yj a b).length<=1000000/\(yj a c).length<=1000000 from⟨Nat.le_trans (znM a b) (by have:=HTA.out.len;omega),Nat.le_trans (znM a c) (by have:=HTA.out.len;omega)⟩);generalize yj a b=rP at *;generalize yj a c=rQ at *;obtain⟨po,pc,rfl⟩:=zy.form HRP.out;obtain⟨qo,qc,rfl⟩:=zy.form HRQ.out;go_wp2_with fail;have HWH:=ze (show yk w5.heap.size (xu [],[]) (w5.alloc (.cells #[.slice none 0 0,.slice none 0 0] 61))from⟨_,_,heap_alloc_new w5 _,World.ownsRow_nil _ _ _ _,World.ownsRow_nil _ _ _ _⟩);have HBW:=ze (show Below w5.heap.size w5 (w5.alloc (.cells #[.slice none 0 0,.slice none 0 0] 61))from(Below.refl _ w5).alloc (Nat.le_refl _) _);obtain⟨gw,hgw⟩:∃g,w5.heap.size=g:=⟨_,rfl⟩;have HGW:=ze hgw;have HAo:=ze (fun wx (hk:Below gw w5 wx)=>zy.old HA.out (w':=wx) (by rw[hgw];exact hk));have HBo:=ze (fun wx (hk:Below gw w5 wx)=>zy.old HB.out (w':=wx) (by rw[hgw];exact hk));have HCo:=ze (fun wx (hk:Below gw w5 wx)=>zy.old HC.out (w':=wx) (by rw[hgw];exact hk));have HPo:=ze (fun wx (hk:Below gw w5 wx)=>zy.old HRP.out (w':=wx) (by rw[hgw];exact hk));have HQo:=ze (fun wx (hk:Below gw w5 wx)=>zy.old HRQ.out (w':=wx) (by rw[hgw];exact hk));rw[hgw]at HWH HBW ⊢;clear hgw HA HB HC HRP HRQ;generalize w5.alloc (.cells #[.slice none 0 0,.slice none 0 0] 61)=w6 at *
 go_loopg [12] a.length (fun g i wr=>∃ (k:Nat) (s:jP),i= .int .i64 (k:Int)/\Hid (k<=a.length/\a.length-k=g)/\Hid (s=zaB ([],[]) (a.take k) b c rP rQ/\s.1.length<=k/\s.2.length<=k)/\Hid (yk gw (xu s.1,s.2) wr)/\Hid (Below gw w5 wr))
 case atStart=>exact⟨0,([],[]),rfl,ze ⟨Nat.zero_le _,rfl⟩,ze ⟨rfl,Nat.le_refl _,Nat.le_refl _⟩,HWH,HBW⟩
 case round=>
  clear HWH HBW;obtain⟨k,s,rfl,HQ,HS,HWH,HBW⟩:=hrel;have hQ:=HQ.out;have k0:(0:Int)<=(k:Int):=Int.natCast_nonneg _
  by_cases hlt:k<a.length
  case pos=>
   have k1:(k:Int)<(a.length:Int):=by omega
   have kw:IntKind.i64.wrap ((k:Int)+1)=(k:Int)+1:=IntWalk.i64_in _ (by have:=HLN.out;omega);obtain⟨b1,p1,p,x,t,e,he,c0,c1,c2⟩:=yM.at (HAo.out wr HBW.out) hlt;cases e;obtain⟨o,ho⟩:∃z,yU p b rP=z:=⟨_,rfl⟩;obtain⟨u,hu⟩:∃z,yU p c rQ=z:=⟨_,rfl⟩;have HK:=ze (show zaB ([],[]) (a.take (k+1)) b c rP rQ=jV s (p,x,t) o u by rw[zjz he,<-HS.out.1,ho,hu]);have HTX:=ze (show t.length<=3000 from HT.out.1 _ (List.mem_of_getElem? he));have HTO:=ze (show ∀f,o=some f->f.2.2.length<=3000 from fun f hf=>HT.out.2.1 f (ziY (ho.trans hf)));have HTU:=ze (show ∀f,u=some f->f.2.2.length<=3000 from fun f hf=>HT.out.2.2 f (ziY (hu.trans hf)));have hW1:=zhG p t x _ _ b rP wr (HBo.out wr HBW.out) (HPo.out wr HBW.out) (by have:=HLN.out;omega) HLR.out.1;have HW2:=ze (fun wx hk=>zhG p t x _ _ c rQ wx (HCo.out wx hk) (HQo.out wx hk) (by have:=HLN.out;omega) HLR.out.2);obtain⟨⟨op,ox,ot⟩,hov⟩:∃y,o.getD zM=y:=⟨_,rfl⟩;obtain⟨⟨up,ux,ut⟩,huv⟩:∃y,u.getD zM=y:=⟨_,rfl⟩;rw[ho,hov]at hW1;rw[hu,huv]at HW2;have HOV:=ze hov;have HUV:=ze huv;unfold ye zq at hW1 HW2;clear he ho hu hov huv;go_wp2_with fail;refine hW1.mono ?_;rintro e w7 ⟨rfl,hb⟩;have HB7:=ze (HBW.out.trans (hb.mono (Nat.le_of_lt HWH.out.lt)));have HW7:=ze (yk.old HWH.out hb);have d0:=zf hb c0;have d1:=zf hb c1;have d2:=zf hb c2;clear hb c0 c1 c2;clear hW1
   go_wp2_with (refine zB rfl 28 _ _ rfl _ #[.string ⟨op.toArray⟩,.bool ox,.string ⟨ot.toArray⟩] rfl rfl _ _ (heap_alloc_new _ _) 3 Tryz.sizeFile rfl rfl (by simp[Value.oneCell']) ?_;intro w8 hg hk;have hb:Below w7.heap.size w7 w8:=((Below.refl _ w7).alloc (Nat.le_refl _) _).trans (hk.below (by simp) (fun j hj e=>by omega));have HG8:=ze (hg);have HB8:=ze (HB7.out.trans (hb.mono (Nat.le_of_lt HW7.out.lt)));have HW8:=ze (yk.old HW7.out hb);have c0:=zf hb d0;have c1:=zf hb d1;have c2:=zf hb d2;clear hb hg hk d0 d1 d2)
   have o0:=zd (i:=0) HG8.out rfl;have o1:=zd (i:=1) HG8.out rfl;have o2:=zd (i:=2) HG8.out rfl;generalize w7.heap.size=g13 at *;refine(HW2.out w8 HB8.out).mono ?_;rintro e w9 ⟨rfl,hb⟩;have HB9:=ze (HB8.out.trans (hb.mono (Nat.le_of_lt HW8.out.lt)));have HW9:=ze (yk.old HW8.out hb);have d0:=zf hb c0;have d1:=zf hb c1;have d2:=zf hb c2;have q0:=zf hb o0;have q1:=zf hb o1;have q2:=zf hb o2;clear hb c0 c1 c2 o0 o1 o2;have HSL:=ze (show(xu s.1).length<=100000/\s.2.length<=100000 from⟨by rw[zgF];have h:=HS.out.2.1;have:=HLN.out;omega,by have h:=HS.out.2.2;have:=HLN.out;omega⟩)
   cases o with
   |some f=>
    have hf:f=(op,ox,ot):=HOV.out;subst hf;have HTO1:=ze (HTO.out _ rfl)
    cases u with
    |some f=>
     have hf:f=(up,ux,ut):=HUV.out;subst hf;have HTU1:=ze (HTU.out _ rfl);have HCON:=ze (fun wx hh=>zpb gw (xu s.1,s.2) (p,x,t) (op,ox,ot) (up,ux,ut) wx hh HSL.out.1 HSL.out.2 HTX.out HTO1.out HTU1.out);unfold ye zq at HCON
     go_wp2_with (refine zB rfl 28 _ _ rfl _ #[.string ⟨up.toArray⟩,.bool ux,.string ⟨ut.toArray⟩] rfl rfl _ _ (heap_alloc_new _ _) 3 Tryz.sizeFile rfl rfl (by simp[Value.oneCell']) ?_;intro w10 hg hk;have hb:Below w9.heap.size w9 w10:=((Below.refl _ w9).alloc (Nat.le_refl _) _).trans (hk.below (by simp) (fun j hj e=>by omega));have HG10:=ze (hg);have HB10:=ze (HB9.out.trans (hb.mono (Nat.le_of_lt HW9.out.lt)));have HW10:=ze (yk.old HW9.out hb);have c0:=zf hb d0;have c1:=zf hb d1;have c2:=zf hb d2;have o0:=zf hb q0;have o1:=zf hb q1;have o2:=zf hb q2;clear hb hg hk d0 d1 d2 q0 q1 q2)
     have u0:=zd (i:=0) HG10.out rfl;have u1:=zd (i:=1) HG10.out rfl;have u2:=zd (i:=2) HG10.out rfl;generalize w9.heap.size=g15 at *;have HW11:=ze (show yk gw (xu s.1,s.2) w10.drew from yk.old HW10.out ((Below.refl _ _).drew));have HB11:=ze (show Below gw w5 w10.drew from HB10.out.drew)
     go_region_law (
      go_simp
      go_at_call 31
      refine(HCON.out _ HW11.out).mono ?_;rintro e w12 ⟨rfl,h1,h2,h3⟩;have HW12:=ze (yk.put h1);have HB12:=ze (HB11.out.trans h2);clear h1 h2 h3
      go_simp)
     all_goals(
      go_wp2_with fail
      go_roundg (a.length-(k+1))
      case measure=>omega
      case rel=>exact⟨k+1,_,by go_num,ze ⟨by omega,rfl⟩,ze ⟨HK.out.symm,by have h:=(qR s (p,x,t) (some (op,ox,ot)) (some (up,ux,ut))).1;have:=HS.out.2.1;omega,by have h:=(qR s (p,x,t) (some (op,ox,ot)) (some (up,ux,ut))).2;have:=HS.out.2.2;omega⟩,HW12,HB12⟩)
    |none=>
     have HCON:=ze (fun wx hh=>zjd gw (xu s.1,s.2) (p,x,t) (op,ox,ot) wx hh HSL.out.1 HSL.out.2);unfold ye zq at HCON
     go_wp2_with (refine zB rfl 28 _ _ rfl _ #[.string ⟨up.toArray⟩,.bool ux,.string ⟨ut.toArray⟩] rfl rfl _ _ (heap_alloc_new _ _) 3 Tryz.sizeFile rfl rfl (by simp[Value.oneCell']) ?_;intro w10 hg hk;have hb:Below w9.heap.size w9 w10:=((Below.refl _ w9).alloc (Nat.le_refl _) _).trans (hk.below (by simp) (fun j hj e=>by omega));have HG10:=ze (hg);have HB10:=ze (HB9.out.trans (hb.mono (Nat.le_of_lt HW9.out.lt)));have HW10:=ze (yk.old HW9.out hb);have c0:=zf hb d0;have c1:=zf hb d1;have c2:=zf hb d2;have o0:=zf hb q0;have o1:=zf hb q1;have o2:=zf hb q2;clear hb hg hk d0 d1 d2 q0 q1 q2)
     have u0:=zd (i:=0) HG10.out rfl;have u1:=zd (i:=1) HG10.out rfl;have u2:=zd (i:=2) HG10.out rfl;generalize w9.heap.size=g15 at *;have HW11:=ze (show yk gw (xu s.1,s.2) w10.drew from yk.old HW10.out ((Below.refl _ _).drew));have HB11:=ze (show Below gw w5 w10.drew from HB10.out.drew)
     go_region_law (
      go_simp
      go_at_call 32
      refine(HCON.out _ HW11.out).mono ?_;rintro e w12 ⟨rfl,h1,h2,h3⟩;have HW12:=ze (yk.one h1);have HB12:=ze (HB11.out.trans h2);clear h1 h2 h3
      go_simp)
     all_goals(
      go_wp2_with fail
      go_roundg (a.length-(k+1))
      case measure=>omega
      case rel=>exact⟨k+1,_,by go_num,ze ⟨by omega,rfl⟩,ze ⟨HK.out.symm,by have h:=(qR s (p,x,t) (some (op,ox,ot)) (none)).1;have:=HS.out.2.1;omega,by have h:=(qR s (p,x,t) (some (op,ox,ot)) (none)).2;have:=HS.out.2.2;omega⟩,HW12,HB12⟩)
   |none=>
    cases u with
    |some f=>
     have hf:f=(up,ux,ut):=HUV.out;subst hf;have HTU1:=ze (HTU.out _ rfl);have HCON:=ze (fun wx hh=>zjd gw (xu s.1,s.2) (p,x,t) (up,ux,ut) wx hh HSL.out.1 HSL.out.2);unfold ye zq at HCON
     go_wp2_with (refine zB rfl 28 _ _ rfl _ #[.string ⟨up.toArray⟩,.bool ux,.string ⟨ut.toArray⟩] rfl rfl _ _ (heap_alloc_new _ _) 3 Tryz.sizeFile rfl rfl (by simp[Value.oneCell']) ?_;intro w10 hg hk;have hb:Below w9.heap.size w9 w10:=((Below.refl _ w9).alloc (Nat.le_refl _) _).trans (hk.below (by simp) (fun j hj e=>by omega));have HG10:=ze (hg);have HB10:=ze (HB9.out.trans (hb.mono (Nat.le_of_lt HW9.out.lt)));have HW10:=ze (yk.old HW9.out hb);have c0:=zf hb d0;have c1:=zf hb d1;have c2:=zf hb d2;have o0:=zf hb q0;have o1:=zf hb q1;have o2:=zf hb q2;clear hb hg hk d0 d1 d2 q0 q1 q2)
     have u0:=zd (i:=0) HG10.out rfl;have u1:=zd (i:=1) HG10.out rfl;have u2:=zd (i:=2) HG10.out rfl;generalize w9.heap.size=g15 at *;have HW11:=ze (show yk gw (xu s.1,s.2) w10.drew from yk.old HW10.out ((Below.refl _ _).drew));have HB11:=ze (show Below gw w5 w10.drew from HB10.out.drew)
     go_region_law (
      go_simp
      go_at_call 32
      refine(HCON.out _ HW11.out).mono ?_;rintro e w12 ⟨rfl,h1,h2,h3⟩;have HW12:=ze (yk.one h1);have HB12:=ze (HB11.out.trans h2);clear h1 h2 h3
      go_simp)
     all_goals(
      go_wp2_with fail
      go_roundg (a.length-(k+1))
      case measure=>omega
      case rel=>exact⟨k+1,_,by go_num,ze ⟨by omega,rfl⟩,ze ⟨HK.out.symm,by have h:=(qR s (p,x,t) (none) (some (up,ux,ut))).1;have:=HS.out.2.1;omega,by have h:=(qR s (p,x,t) (none) (some (up,ux,ut))).2;have:=HS.out.2.2;omega⟩,HW12,HB12⟩)
    |none=>
     go_wp2_with (refine zB rfl 28 _ _ rfl _ #[.string ⟨up.toArray⟩,.bool ux,.string ⟨ut.toArray⟩] rfl rfl _ _ (heap_alloc_new _ _) 3 Tryz.sizeFile rfl rfl (by simp[Value.oneCell']) ?_;intro w10 hg hk;have hb:Below w9.heap.size w9 w10:=((Below.refl _ w9).alloc (Nat.le_refl _) _).trans (hk.below (by simp) (fun j hj e=>by omega));have HG10:=ze (hg);have HB10:=ze (HB9.out.trans (hb.mono (Nat.le_of_lt HW9.out.lt)));have HW10:=ze (yk.old HW9.out hb);have c0:=zf hb d0;have c1:=zf hb d1;have c2:=zf hb d2;have o0:=zf hb q0;have o1:=zf hb q1;have o2:=zf hb q2;clear hb hg hk d0 d1 d2 q0 q1 q2)
     go_roundg (a.length-(k+1))
     case measure=>omega
     case rel=>exact⟨k+1,s,by go_num,ze ⟨by omega,rfl⟩,ze ⟨HK.out.symm,by have:=HS.out.2.1;omega,by have:=HS.out.2.2;omega⟩,HW10,HB10⟩
  obtain rfl:k=a.length:=by omega
  have hneg:¬(a.length:Int)<(a.length:Int):=by omega
  have HS1:=ze (show s=zaB ([],[]) a b c rP rQ by rw[HS.out.1,List.take_length]);have HSL:=ze HS.out.2;clear HS hQ HQ;go_wp2_with fail;have HX3:=ze (show ∀f∈zN a b rP,f.2.2.length<=3000 from fun f hf=>HT.out.2.1 f (List.mem_filter.1 hf).1);have HY3:=ze (show ∀f∈zN a c rQ,f.2.2.length<=3000 from fun f hf=>HT.out.2.2 f (List.mem_filter.1 hf).1);have HXL:=ze (show(zN a b rP).length<=100/\(zN a c rQ).length<=100 from⟨Nat.le_trans (zaP a b rP) HLN.out.2.1,Nat.le_trans (zaP a c rQ) HLN.out.2.2⟩);have HTM:=ze (show tmW a b c rP rQ=(zN a c rQ).foldl (zao (zN a b rP)) ((zN a b rP).foldl (kY (zN a c rQ)) s) by rw[HS1.out];rfl);refine(zhv _ _ _ a b rP wr (HAo.out _ HBW.out) (HBo.out _ HBW.out) (HPo.out _ HBW.out) (by have:=HLN.out;omega) (by have:=HLN.out;omega) HLR.out.1).mono ?_;rintro e w7 ⟨vx,rfl,ho,hb⟩;have HB7:=ze (HBW.out.trans (hb.mono (Nat.le_of_lt HWH.out.lt)));have HW7:=ze (yk.old HWH.out hb);have HX7:=ze (zY ho (Nat.le_of_lt HWH.out.lt));clear hb ho HWH HBW;go_wp2_with fail;refine(zhv _ _ _ a c rQ w7 (HAo.out _ HB7.out) (HCo.out _ HB7.out) (HQo.out _ HB7.out) (by have:=HLN.out;omega) (by have:=HLN.out;omega) HLR.out.2).mono ?_;rintro e w8 ⟨vy,rfl,ho,hb⟩;have HB8:=ze (HB7.out.trans (hb.mono (Nat.le_of_lt HW7.out.lt)));have HW8:=ze (yk.old HW7.out hb);have HX8:=ze (World.ownsRow.kept' HX7.out hb);have HY8:=ze (zY ho (Nat.le_of_lt HW7.out.lt));clear hb ho HW7 HB7 HX7;generalize zN a b rP=X at *;generalize zN a c rQ=Y at *;obtain⟨xo,xc,rfl⟩:=zl HX8.out;obtain⟨yo,yc,rfl⟩:=zl HY8.out;go_wp2_with fail
  go_loopg [19] X.length (fun g i wr=>∃ (k:Nat) (z:jP),i= .int .i64 (k:Int)/\Hid (k<=X.length/\X.length-k=g)/\Hid (z=(X.take k).foldl (kY Y) s/\z.1.length<=100+k/\z.2.length<=100+k)/\Hid (yk gw (xu z.1,z.2) wr)/\Hid (Below gw w5 wr)/\Hid (zI wr gw (.slice xo X.length xc) X)/\Hid (zI wr gw (.slice yo Y.length yc) Y))
  case atStart=>exact⟨0,s,rfl,ze ⟨Nat.zero_le _,rfl⟩,ze ⟨rfl,by have:=HSL.out;have:=HLN.out;omega,by have:=HSL.out;have:=HLN.out;omega⟩,HW8,HB8,HX8,HY8⟩
  case round=>
   clear HW8 HB8 HX8 HY8;obtain⟨k,z,rfl,HQ,HS,HWH,HBW,HXO,HYO⟩:=hrel;have hQ:=HQ.out;have k0:(0:Int)<=(k:Int):=Int.natCast_nonneg _
   by_cases hlt:k<X.length
   case pos=>
    have k1:(k:Int)<(X.length:Int):=by omega
    have kw:IntKind.i64.wrap ((k:Int)+1)=(k:Int)+1:=IntWalk.i64_in _ (by have:=HXL.out;omega);obtain⟨b1,p1,p,x,t,e,he,c0,c1,c2⟩:=yM.at (zI.sl HXO.out) hlt;cases e;have HK:=ze (show(X.take (k+1)).foldl (kY Y) s=kY Y z (p,x,t) by rw[zgZ _ _ he,<-HS.out.1]);have HTX:=ze (show t.length<=3000 from HX3.out _ (List.mem_of_getElem? he));have HZL:=ze (show(xu z.1).length<=100000/\z.2.length<=100000 from⟨by rw[zgF];have h:=HS.out.2.1;have:=HXL.out;omega,by have h:=HS.out.2.2;have:=HXL.out;omega⟩);have HPU:=ze (fun(f:zg) (kk:Int) wx hh=>zdw gw (xu z.1,z.2) f.1 f.2.2 f.2.1 kk wx hh HZL.out.1 HZL.out.2);obtain⟨u,hu⟩:∃q,zz Y p=q:=⟨_,rfl⟩;obtain⟨⟨up,ux,ut⟩,huv⟩:∃y,u.getD zM=y:=⟨_,rfl⟩;have HU3:=ze (show ∀f,u=some f->f.2.2.length<=3000 from fun f hf=>HY3.out f (xq (hu.trans hf)).1);have hF:=kU _ Y p wr (zI.sl HYO.out) (by have:=HXL.out;omega);rw[hu,huv]at hF;have HUV:=ze huv;have HUE:=ze hu;clear he hu huv;unfold ye zq at hF;unfold zq at HPU;go_wp2_with fail;refine hF.mono ?_;rintro e w7 ⟨rfl,hb⟩;have HX7:=ze (World.ownsRow.kept' HXO.out hb);have HY7:=ze (World.ownsRow.kept' HYO.out hb);have HB7:=ze (HBW.out.trans (hb.mono (Nat.le_of_lt HWH.out.lt)));have HW7:=ze (yk.old HWH.out hb);have d0:=zf hb c0;have d1:=zf hb c1;have d2:=zf hb c2;clear hb hF c0 c1 c2 HXO HYO HWH HBW
    cases u with
    |none=>
     have HAW:=ze (show kY Y z (p,x,t)=jq z (p,x,t) 0 by unfold kY;simp only[HUE.out])
     go_wp2_with (refine zB rfl 28 _ _ rfl _ #[.string ⟨up.toArray⟩,.bool ux,.string ⟨ut.toArray⟩] rfl rfl _ _ (heap_alloc_new _ _) 3 Tryz.sizeFile rfl rfl (by simp[Value.oneCell']) ?_;intro w8 hg hk;have hb:Below w7.heap.size w7 w8:=((Below.refl _ w7).alloc (Nat.le_refl _) _).trans (hk.below (by simp) (fun j hj e=>by omega));have HG8:=ze (hg);have HB8:=ze (HB7.out.trans (hb.mono (Nat.le_of_lt HW7.out.lt)));have HW8:=ze (yk.old HW7.out hb);have c0:=zf hb d0;have c1:=zf hb d1;have c2:=zf hb d2;have HX8:=ze (World.ownsRow.kept' HX7.out hb);have HY8:=ze (World.ownsRow.kept' HY7.out hb);clear hb hg hk HX7 HY7 d0 d1 d2)
     have u0:=zd (i:=0) HG8.out rfl;have u1:=zd (i:=1) HG8.out rfl;have u2:=zd (i:=2) HG8.out rfl;generalize w7.heap.size=g20 at *;go_quiet (fail);have HB9:=ze (show Below gw w5 (w8.drewN nq)from HB8.out.trans ((zm w8 nq).mono (Nat.le_of_lt HW8.out.lt)));have HW9:=ze (yk.old HW8.out (zm w8 nq));have HX9:=ze (World.ownsRow.kept' HX8.out (zm w8 nq));have HY9:=ze (World.ownsRow.kept' HY8.out (zm w8 nq));have d0:=zf (zm w8 nq) c0;have d1:=zf (zm w8 nq) c1;have d2:=zf (zm w8 nq) c2;have v0:=zf (zm w8 nq) u0;have v1:=zf (zm w8 nq) u1;have v2:=zf (zm w8 nq) u2;clear c0 c1 c2 u0 u1 u2 HG8;generalize w8.drewN nq=w9 at *
     go_wp2_with (go_at_call 34;refine(HPU.out (p,x,t) 0 _ HW9.out).mono ?_;rintro e w12 ⟨rfl,h1,h2,h3⟩;have HW12:=ze (yk.put h1);have HB12:=ze (HB9.out.trans h2);have HX12:=ze (zI.fr HX9.out h3);have HY12:=ze (zI.fr HY9.out h3);clear h1 h2 h3)
     go_roundg (X.length-(k+1))
     case measure=>omega
     case rel=>exact⟨k+1,_,by go_num,ze ⟨by omega,rfl⟩,ze ⟨by rw[HK.out];exact HAW.out.symm,by have h:=(xT z (p,x,t) 0).1;have:=HS.out.2.1;omega,by have h:=(xT z (p,x,t) 0).2;have:=HS.out.2.2;omega⟩,HW12,HB12,HX12,HY12⟩
    |some f=>
     have hf:f=(up,ux,ut):=HUV.out;subst hf;have HU31:=ze (HU3.out _ rfl)
     have hq:=fun wx=>zhd up ut p t ux x wx
     obtain⟨bq,hbq⟩:∃y,(((up,ux,ut):zg)==(p,x,t))=y:=⟨_,rfl⟩;rw[hbq]at hq;have HBQ:=ze hbq;clear hbq
     cases bq with
     |true=>
      have HAW:=ze (show kY Y z (p,x,t)=jq z (p,x,t) 0 by unfold kY;simp only[HUE.out];rw[if_pos (eq_of_beq HBQ.out)])
      go_wp2_with (refine zB rfl 28 _ _ rfl _ #[.string ⟨up.toArray⟩,.bool ux,.string ⟨ut.toArray⟩] rfl rfl _ _ (heap_alloc_new _ _) 3 Tryz.sizeFile rfl rfl (by simp[Value.oneCell']) ?_;intro w8 hg hk;have hb:Below w7.heap.size w7 w8:=((Below.refl _ w7).alloc (Nat.le_refl _) _).trans (hk.below (by simp) (fun j hj e=>by omega));have HG8:=ze (hg);have HB8:=ze (HB7.out.trans (hb.mono (Nat.le_of_lt HW7.out.lt)));have HW8:=ze (yk.old HW7.out hb);have c0:=zf hb d0;have c1:=zf hb d1;have c2:=zf hb d2;have HX8:=ze (World.ownsRow.kept' HX7.out hb);have HY8:=ze (World.ownsRow.kept' HY7.out hb);clear hb hg hk HX7 HY7 d0 d1 d2)
      have u0:=zd (i:=0) HG8.out rfl;have u1:=zd (i:=1) HG8.out rfl;have u2:=zd (i:=2) HG8.out rfl;generalize w7.heap.size=g20 at *;go_quiet (fail);have HB9:=ze (show Below gw w5 (w8.drewN nq)from HB8.out.trans ((zm w8 nq).mono (Nat.le_of_lt HW8.out.lt)));have HW9:=ze (yk.old HW8.out (zm w8 nq));have HX9:=ze (World.ownsRow.kept' HX8.out (zm w8 nq));have HY9:=ze (World.ownsRow.kept' HY8.out (zm w8 nq));have d0:=zf (zm w8 nq) c0;have d1:=zf (zm w8 nq) c1;have d2:=zf (zm w8 nq) c2;have v0:=zf (zm w8 nq) u0;have v1:=zf (zm w8 nq) u1;have v2:=zf (zm w8 nq) u2;clear c0 c1 c2 u0 u1 u2 HG8;generalize w8.drewN nq=w9 at *
      go_wp2_with (go_at_call 34;refine(HPU.out (p,x,t) 0 _ HW9.out).mono ?_;rintro e w12 ⟨rfl,h1,h2,h3⟩;have HW12:=ze (yk.put h1);have HB12:=ze (HB9.out.trans h2);have HX12:=ze (zI.fr HX9.out h3);have HY12:=ze (zI.fr HY9.out h3);clear h1 h2 h3)
      go_roundg (X.length-(k+1))
      case measure=>omega
      case rel=>exact⟨k+1,_,by go_num,ze ⟨by omega,rfl⟩,ze ⟨by rw[HK.out];exact HAW.out.symm,by have h:=(xT z (p,x,t) 0).1;have:=HS.out.2.1;omega,by have h:=(xT z (p,x,t) 0).2;have:=HS.out.2.2;omega⟩,HW12,HB12,HX12,HY12⟩
     |false=>
      have HAW:=ze (show kY Y z (p,x,t)=jq z (zex (p,x,t) (up,ux,ut)) 2 by unfold kY;simp only[HUE.out];rw[if_neg (ne_of_beq_false HBQ.out)])
      go_wp2_with (refine zB rfl 28 _ _ rfl _ #[.string ⟨up.toArray⟩,.bool ux,.string ⟨ut.toArray⟩] rfl rfl _ _ (heap_alloc_new _ _) 3 Tryz.sizeFile rfl rfl (by simp[Value.oneCell']) ?_;intro w8 hg hk;have hb:Below w7.heap.size w7 w8:=((Below.refl _ w7).alloc (Nat.le_refl _) _).trans (hk.below (by simp) (fun j hj e=>by omega));have HG8:=ze (hg);have HB8:=ze (HB7.out.trans (hb.mono (Nat.le_of_lt HW7.out.lt)));have HW8:=ze (yk.old HW7.out hb);have c0:=zf hb d0;have c1:=zf hb d1;have c2:=zf hb d2;have HX8:=ze (World.ownsRow.kept' HX7.out hb);have HY8:=ze (World.ownsRow.kept' HY7.out hb);clear hb hg hk HX7 HY7 d0 d1 d2)
      have u0:=zd (i:=0) HG8.out rfl;have u1:=zd (i:=1) HG8.out rfl;have u2:=zd (i:=2) HG8.out rfl;generalize w7.heap.size=g20 at *;go_quiet (fail);have HB9:=ze (show Below gw w5 (w8.drewN nq)from HB8.out.trans ((zm w8 nq).mono (Nat.le_of_lt HW8.out.lt)));have HW9:=ze (yk.old HW8.out (zm w8 nq));have HX9:=ze (World.ownsRow.kept' HX8.out (zm w8 nq));have HY9:=ze (World.ownsRow.kept' HY8.out (zm w8 nq));have d0:=zf (zm w8 nq) c0;have d1:=zf (zm w8 nq) c1;have d2:=zf (zm w8 nq) c2;have v0:=zf (zm w8 nq) u0;have v1:=zf (zm w8 nq) u1;have v2:=zf (zm w8 nq) u2;clear c0 c1 c2 u0 u1 u2 HG8;generalize w8.drewN nq=w9 at *;obtain⟨⟨mt,mc⟩,hmm⟩:∃y,jJ [] t ut=y:=⟨_,rfl⟩;have HMG:=ze (fun wx=>zgQ [] t ut wx (by simp) HTX.out HU31.out);rw[hmm]at HMG;unfold zq at HMG;have HAW:=ze (show kY Y z (p,x,t)=jq z (p,x,mt) 2 by rw[HAW.out];unfold zex;rw[hmm]);clear hmm
      go_upto_region 24 with fail
      have h22:=heap_alloc_new w9 (.cells #[.string ⟨p.toArray⟩,.bool x,.string ⟨t.toArray⟩] 28);have hb10:Below w9.heap.size w9 (w9.alloc (.cells #[.string ⟨p.toArray⟩,.bool x,.string ⟨t.toArray⟩] 28)):=(Below.refl _ w9).alloc (Nat.le_refl _) _;have HBN:=ze hb10;have c0:=zf hb10 d0;have c1:=zf hb10 d1;have c2:=zf hb10 d2;have u0:=zf hb10 v0;have u1:=zf hb10 v1;have u2:=zf hb10 v2;have HG22:=ze h22;clear hb10 h22 d0 d1 d2 v0 v1 v2;generalize w9.alloc (.cells #[.string ⟨p.toArray⟩,.bool x,.string ⟨t.toArray⟩] 28)=w10 at *;obtain⟨g22,hg22⟩:∃g,w9.heap.size=g:=⟨_,rfl⟩;have HZ22:=ze hg22;rw[hg22]at HG22 HBN ⊢;clear hg22;have HLT22:=ze (lt_of_block HG22.out)
      go_region_law (
       go_simp
       go_at_call 35
       refine(HMG.out _).mono ?_;rintro e w11 ⟨rfl,hb11⟩;have hb:=((Below.refl w10.heap.size w10).drew).trans hb11;have hg:=(hb.block g22 HLT22.out).trans HG22.out;have HBN11:=ze (HBN.out.trans (hb.mono (Nat.le_of_lt HLT22.out)));have f0:=zd (i:=0) hg rfl;have f1:=zd (i:=1) hg rfl;have f2:=zd (i:=2) hg rfl;have fz:=zo (i:=2) hg;have HBN12:=ze (HBN11.out.setCell (p:=⟨g22,2,none⟩) (Nat.le_refl _) (.string ⟨mt.toArray⟩));clear hb hb11 hg
       go_simp)
      all_goals(
       have hbn:Below w9.heap.size w9 (w11.setCell ⟨g22,2,none⟩ (.string ⟨mt.toArray⟩)):=by rw[HZ22.out];exact HBN12.out
       have HB13:=ze (HB9.out.trans (hbn.mono (Nat.le_of_lt HW9.out.lt)));have HW13:=ze (yk.old HW9.out hbn);have HX13:=ze (World.ownsRow.kept' HX9.out hbn);have HY13:=ze (World.ownsRow.kept' HY9.out hbn);clear hbn HBN12
       go_wp2_with (go_at_call 34;refine(HPU.out (p,x,mt) 2 _ HW13.out).mono ?_;rintro e w14 ⟨rfl,h1,h2,h3⟩;have HW12:=ze (yk.put h1);have HB12:=ze (HB13.out.trans h2);have HX12:=ze (zI.fr HX13.out h3);have HY12:=ze (zI.fr HY13.out h3);clear h1 h2 h3)
       go_roundg (X.length-(k+1))
       case measure=>omega
       case rel=>exact⟨k+1,_,by go_num,ze ⟨by omega,rfl⟩,ze ⟨by rw[HK.out];exact HAW.out.symm,by have h:=(xT z (p,x,mt) 2).1;have:=HS.out.2.1;omega,by have h:=(xT z (p,x,mt) 2).2;have:=HS.out.2.2;omega⟩,HW12,HB12,HX12,HY12⟩)
   obtain rfl:k=X.length:=by omega
   have hneg:¬(X.length:Int)<(X.length:Int):=by omega
   have HS2:=ze (show z=X.foldl (kY Y) s by rw[HS.out.1,List.take_length]);have HSL2:=ze HS.out.2;have HTM2:=ze (show tmW a b c rP rQ=Y.foldl (zao X) z by rw[HTM.out,HS2.out]);clear HS hQ HQ HTM HS1 HSL;go_wp2_with fail
   go_loopg [23] Y.length (fun g i wr=>∃ (k:Nat) (y:jP),i= .int .i64 (k:Int)/\Hid (k<=Y.length/\Y.length-k=g)/\Hid (y=(Y.take k).foldl (zao X) z/\y.1.length<=200+k/\y.2.length<=200+k)/\Hid (yk gw (xu y.1,y.2) wr)/\Hid (Below gw w5 wr)/\Hid (zI wr gw (.slice xo X.length xc) X)/\Hid (zI wr gw (.slice yo Y.length yc) Y))
   case atStart=>exact⟨0,z,rfl,ze ⟨Nat.zero_le _,rfl⟩,ze ⟨rfl,by have:=HSL2.out;have:=HXL.out;omega,by have:=HSL2.out;have:=HXL.out;omega⟩,HWH,HBW,HXO,HYO⟩
   case round=>
    clear HWH HBW HXO HYO;obtain⟨k,y,rfl,HQ,HS,HWH,HBW,HXO,HYO⟩:=hrel;have hQ:=HQ.out;have k0:(0:Int)<=(k:Int):=Int.natCast_nonneg _
    by_cases hlt:k<Y.length
    case pos=>
     have k1:(k:Int)<(Y.length:Int):=by omega
     have kw:IntKind.i64.wrap ((k:Int)+1)=(k:Int)+1:=IntWalk.i64_in _ (by have:=HXL.out;omega);obtain⟨b1,p1,p,x,t,e,he,c0,c1,c2⟩:=yM.at (zI.sl HYO.out) hlt;cases e;have HK:=ze (show(Y.take (k+1)).foldl (zao X) z=zao X y (p,x,t) by rw[zgZ _ _ he,<-HS.out.1]);have HZL:=ze (show(xu y.1).length<=100000/\y.2.length<=100000 from⟨by rw[zgF];have h:=HS.out.2.1;have:=HXL.out;omega,by have h:=HS.out.2.2;have:=HXL.out;omega⟩);have HPU:=ze (fun(f:zg) (kk:Int) wx hh=>zdw gw (xu y.1,y.2) f.1 f.2.2 f.2.1 kk wx hh HZL.out.1 HZL.out.2);obtain⟨u,hu⟩:∃q,zz X p=q:=⟨_,rfl⟩;obtain⟨⟨up,ux,ut⟩,huv⟩:∃y,u.getD zM=y:=⟨_,rfl⟩;have hF:=kU _ X p wr (zI.sl HXO.out) (by have:=HXL.out;omega);rw[hu,huv]at hF;have HUE:=ze hu;clear he hu huv;unfold ye zq at hF;unfold zq at HPU;go_wp2_with fail;refine hF.mono ?_;rintro e w7 ⟨rfl,hb⟩;have HX7:=ze (World.ownsRow.kept' HXO.out hb);have HY7:=ze (World.ownsRow.kept' HYO.out hb);have HB7:=ze (HBW.out.trans (hb.mono (Nat.le_of_lt HWH.out.lt)));have HW7:=ze (yk.old HWH.out hb);have d0:=zf hb c0;have d1:=zf hb c1;have d2:=zf hb c2;clear hb hF c0 c1 c2 HXO HYO HWH HBW
     cases u with
     |none=>
      have HAW:=ze (show zao X y (p,x,t)=jq y (p,x,t) 0 by unfold zao;rw[HUE.out];rfl)
      go_wp2_with (first |(refine zB rfl 28 _ _ rfl _ #[.string ⟨up.toArray⟩,.bool ux,.string ⟨ut.toArray⟩] rfl rfl _ _ (heap_alloc_new _ _) 3 Tryz.sizeFile rfl rfl (by simp[Value.oneCell']) ?_;intro w8 hg hk;have hb:Below w7.heap.size w7 w8:=((Below.refl _ w7).alloc (Nat.le_refl _) _).trans (hk.below (by simp) (fun j hj e=>by omega));have HG8:=ze (hg);have HB8:=ze (HB7.out.trans (hb.mono (Nat.le_of_lt HW7.out.lt)));have HW8:=ze (yk.old HW7.out hb);have c0:=zf hb d0;have c1:=zf hb d1;have c2:=zf hb d2;have HX8:=ze (World.ownsRow.kept' HX7.out hb);have HY8:=ze (World.ownsRow.kept' HY7.out hb);clear hb hg hk HX7 HY7 d0 d1 d2) |(go_at_call 34;refine(HPU.out (p,x,t) 0 _ HW8.out).mono ?_;rintro e w12 ⟨rfl,h1,h2,h3⟩;have HW12:=ze (yk.put h1);have HB12:=ze (HB8.out.trans h2);have HX12:=ze (zI.fr HX8.out h3);have HY12:=ze (zI.fr HY8.out h3);clear h1 h2 h3))
      go_roundg (Y.length-(k+1))
      case measure=>omega
      case rel=>exact⟨k+1,_,by go_num,ze ⟨by omega,rfl⟩,ze ⟨by rw[HK.out];exact HAW.out.symm,by have h:=(xT y (p,x,t) 0).1;have:=HS.out.2.1;omega,by have h:=(xT y (p,x,t) 0).2;have:=HS.out.2.2;omega⟩,HW12,HB12,HX12,HY12⟩
     |some f=>
      have HAW:=ze (show zao X y (p,x,t)=y by unfold zao;rw[HUE.out];rfl)
      go_wp2_with (refine zB rfl 28 _ _ rfl _ #[.string ⟨up.toArray⟩,.bool ux,.string ⟨ut.toArray⟩] rfl rfl _ _ (heap_alloc_new _ _) 3 Tryz.sizeFile rfl rfl (by simp[Value.oneCell']) ?_;intro w8 hg hk;have hb:Below w7.heap.size w7 w8:=((Below.refl _ w7).alloc (Nat.le_refl _) _).trans (hk.below (by simp) (fun j hj e=>by omega));have HG8:=ze (hg);have HB8:=ze (HB7.out.trans (hb.mono (Nat.le_of_lt HW7.out.lt)));have HW8:=ze (yk.old HW7.out hb);have c0:=zf hb d0;have c1:=zf hb d1;have c2:=zf hb d2;have HX8:=ze (World.ownsRow.kept' HX7.out hb);have HY8:=ze (World.ownsRow.kept' HY7.out hb);clear hb hg hk HX7 HY7 d0 d1 d2)
      go_roundg (Y.length-(k+1))
      case measure=>omega
      case rel=>exact⟨k+1,y,by go_num,ze ⟨by omega,rfl⟩,ze ⟨by rw[HK.out];exact HAW.out.symm,by have:=HS.out.2.1;omega,by have:=HS.out.2.2;omega⟩,HW8,HB8,HX8,HY8⟩
    obtain rfl:k=Y.length:=by omega
    have hneg:¬(Y.length:Int)<(Y.length:Int):=by omega
    have HYE:=ze (show y=tmW a b c rP rQ by rw[HTM2.out,HS.out.1,List.take_length]);have HYL:=ze (show y.1.length<=300/\y.2.length<=300 by have:=HS.out.2;have:=HXL.out;omega);clear HS hQ HQ HTM2 HS2 HSL2 HXO HYO;have HTT:=ze HTT.out;have HTT2:=ze (show tmT a b c=if yf (xu y.1)=true then(xu y.1,qY y.2,0)else([],[],6) by rw[HYE.out];exact HTT.out);clear HYE HTT;obtain⟨M,C⟩:=y;obtain⟨vf,vc,hg,hf,hc⟩:=HWH.out.ex;simp only at HTT2 HYL hf hc;obtain⟨fo,fc,rfl⟩:=zl hf;obtain⟨cco,ccc,rfl⟩:=zl hc;have HG:=ze hg;have HF:=ze (zI.sl hf);have HC:=ze (jv.sl hc);have HBA:=ze (show Below w.heap.size w wr from HB5.out.trans (HBW.out.mono (by rw[<-HGW.out];exact HB5.out.size)));have f0:=zd (i:=0) hg rfl;clear hg hf hc HWH HBW HAo HBo HCo HPo HQo;have hR:=zbd _ (xu M) wr HF.out;obtain⟨rr,hrr⟩:∃b,yf (xu M)=b:=⟨_,rfl⟩;rw[hrr]at hR HTT2;clear hrr;go_wp2_with fail;refine hR.mono ?_;rintro e w7 ⟨rfl,hb⟩;have HB7:=ze (zi HBA.out hb HBA.out.size);have HF7:=ze (zy.old HF.out hb);have HC7:=ze (zy.old HC.out hb);have HG7:=ze ((hb.block _ (lt_of_block HG.out)).trans HG.out);clear hb hR f0 HF HC HG HBA
    cases rr with
    |false=>
     have HE:=ze (show tmT a b c=([],[],6) by rw[HTT2.out];rfl);go_wp2_with fail;refine bodyPost_ret (results_tmp3 rfl _ _ _) rfl ?_;exact⟨_,_,by rw[HE.out];rfl,by rw[HE.out];exact zy.nil _,by rw[HE.out];exact zy.nil _,HB7.out⟩
    |true=>
     have HE:=ze (show tmT a b c=(xu M,qY C,0) by rw[HTT2.out];rfl);clear HTT2;obtain⟨gz,hgz⟩:∃g,w7.heap.size=g:=⟨_,rfl⟩;have HGZ:=ze hgz;have HZ7:=ze (show w.heap.size<=gz from by rw[<-hgz];exact HB7.out.size);have HFo:=ze (fun wx (hk:Below gz w7 wx)=>zy.old HF7.out (w':=wx) (by rw[hgz];exact hk));have HCo:=ze (fun wx (hk:Below gz w7 wx)=>zy.old HC7.out (w':=wx) (by rw[hgz];exact hk));have HG1:=ze (fun wx (hk:Below gz w7 wx)=>(show wx.cell? ⟨gw,1,none⟩=some (.slice cco C.length ccc)from zf (W:=w7) (by rw[hgz];exact hk) (zd (i:=1) HG7.out rfl)));have HG0:=ze (fun wx (hk:Below gz w7 wx)=>(show wx.cell? ⟨gw,0,none⟩=some (.slice fo (xu M).length fc)from zf (W:=w7) (by rw[hgz];exact hk) (zd (i:=0) HG7.out rfl)));have HBR:=ze (show Below gz w7 w7 from Below.refl _ _);have HCL:=ze HYL.out.2;clear hgz HF7 HC7 HG7;go_wp2_with fail
     go_loopg [26,27] C.length (fun g v i wr=>∃ (k:Nat) (D:List yK),i= .int .i64 (k:Int)/\Hid (k<=C.length/\C.length-k=g)/\Hid (D=qY (C.take k))/\Hid (jv wr gz v D)/\Hid (Below gz w7 wr))
     case atStart=>exact⟨0,[],rfl,ze ⟨Nat.zero_le _,rfl⟩,ze rfl,ze (World.ownsRow_nil _ _ _ _),HBR⟩
     case round=>
      clear HBR;obtain⟨k,D,rfl,HQ,HD,HO,HBW⟩:=hrel;have hQ:=HQ.out;have k0:(0:Int)<=(k:Int):=Int.natCast_nonneg _;obtain⟨no,nc,rfl⟩:=zl HO.out;have cg1:=HG1.out wr HBW.out;have cg0:=HG0.out wr HBW.out;have HDL:=ze (show D.length<=300 by rw[HD.out,zpw,List.length_take];have:=HCL.out;omega)
      by_cases hlt:k<C.length
      case neg=>
       obtain rfl:k=C.length:=by omega
       have hneg:¬(C.length:Int)<(C.length:Int):=by omega
       have HDE:=ze (show D=qY C by rw[HD.out,List.take_length]);go_wp2_with fail;refine bodyPost_ret (results_tmp3 rfl _ _ _) rfl ?_;exact⟨_,_,by rw[HE.out];rfl,by rw[HE.out];exact HFo.out wr HBW.out,by rw[HE.out,<-HDE.out];exact jv.sl HO.out,HB7.out.trans (HBW.out.mono HZ7.out)⟩
      have k1:(k:Int)<(C.length:Int):=by omega
      have kw:IntKind.i64.wrap ((k:Int)+1)=(k:Int)+1:=IntWalk.i64_in _ (by have:=HCL.out;omega);obtain⟨b1,p1,p,kk,t,e,he,c0,c1,c2⟩:=zbE.at (HCo.out wr HBW.out) hlt;cases e;have HNX:=ze (show zed D (p,kk,t)=qY (C.take (k+1)) by rw[zoG he,<-HD.out]);clear he;obtain⟨i0,hi0,hi1,hi2,hi3⟩:=info_parts Tryz.infoCla;have HI0:=ze (And.intro hi0 hi2);clear hi0 hi1 hi2 hi3;have HSD:=ze (jv.sl HO.out);generalize wr=wv at *;go_wp2_with fail
      go_loopg [28] D.length (fun g i wx=>∃j:Nat,i= .int .i64 (j:Int)/\Hid (j<=D.length/\j<=g)/\Hid (∀d∈D.drop j,xv p d.1=true)/\Hid (Below wv.heap.size wv wx))
      case atStart=>exact⟨D.length,rfl,ze ⟨Nat.le_refl _,Nat.le_refl _⟩,ze (by simp),ze (Below.refl _ _)⟩
      case round=>
       obtain⟨j,rfl,HJ,HJD,HBX⟩:=hrel;have hJ:=HJ.out.1;have j0:(0:Int)<=(j:Int):=Int.natCast_nonneg _;have hg1:=zf HBX.out cg1;have e0:=zf HBX.out c0;have e1:=zf HBX.out c1;have e2:=zf HBX.out c2
       by_cases hj0:j=0
       case pos=>
        have HAF:=ze (show zcg D p=j from zjA D p j (by omega) HJD.out (.inl hj0));have z1:decide ((0:Int)<(j:Int))=false:=decide_eq_false (by omega);have z2:decide (0<j)=false:=decide_eq_false (by omega);clear hj0;have hcut:=zy.cut_to (P:=Tryz.prog) Tryz.underlying29 HI0.out.1 HSD.out (j:=j) (by omega);obtain⟨ao2,c2',hsl2,hs2⟩:=zy.cut_from (P:=Tryz.prog) Tryz.underlying29 HI0.out.1 HI0.out.2 HSD.out (i:=j) (by omega);have hsl1:=hcut.1;have H1:=ze hcut.2;have H2:=ze hs2;have HKL:=ze (show(D.take j).length<=100000/\(D.drop j).length<=100000 by have:=HDL.out;simp;omega);have HSO:=ze (show []++D.take j++[(p,kk,t)]++D.drop j=qY (C.take (k+1)) by rw[<-HNX.out,zed,HAF.out,List.nil_append]);clear hcut hs2;go_wp2_with fail;go_quiet (fail);have HBy:=ze (show Below wv.heap.size wv (wr.drewN nq)from HBX.out.trans ((zm wr nq).mono HBX.out.size));have q0:=zf HBy.out c0;have q1:=zf HBy.out c1;have q2:=zf HBy.out c2;have qg:=zf HBy.out cg1;clear e0 e1 e2 hg1 HBX;generalize wr.drewN nq=Y2 at *;have HYD:=ze (show Below wv.heap.size wv Y2.drew from HBy.out.drew);have HBF:=ze (show Below wv.heap.size wv (Y2.alloc (.cells #[.string ⟨p.toArray⟩,.int .i64 kk,.string ⟨t.toArray⟩] 36)).drew from(HBy.out.alloc HBy.out.size _).drew);have H1a:=ze (zy.old H1.out HYD.out);have H1b:=ze (zy.old H1.out HBF.out);clear H1;have HSN:=ze (show zbE (Y2.alloc (.cells #[.string ⟨p.toArray⟩,.int .i64 kk,.string ⟨t.toArray⟩] 36)).drew (.slice (some ⟨Y2.heap.size,0,none⟩) 1 1) [(p,kk,t)]from zy.one (heap_alloc_new Y2 _) rfl);go_wp2_with fail
        go_region_law (first
         |(refine jf (by rfl) (.const (.slice none 0 0)) (.tmp 230) rfl _ (.slice none 0 0) [] (D.take j) rfl (World.ownsRow_nil _ _ _ _) (.slice no j nc) (by kernel_rfl) (by first |with_reducible exact H1a.out |with_reducible exact H1b.out) (by have:=HKL.out;simp only[List.length_nil];omega) (Nat.le_refl _) ?_;intro v5 w5 o5 b5
           have HO5:=ze (zY o5 (show wv.heap.size<= _ from by first |exact HYD.out.size |exact HBF.out.size));have HB5:=ze (show Below wv.heap.size wv w5 from by first |exact HYD.out.trans (b5.mono HYD.out.size) |exact HBF.out.trans (b5.mono HBF.out.size));have HC5:=ze b5;have r0:=zf HB5.out c0;have r1:=zf HB5.out c1;have r2:=zf HB5.out c2;have rg:=zf HB5.out cg1
           clear o5 b5)
         |(refine ja (by rfl) (.tmp 231) (.tmp 239) rfl wv.heap.size v5 ([]++D.take j) (p,kk,t) (by kernel_rfl) (World.ownsRow.alloc HO5.out _) (.slice (some ⟨w5.heap.size,0,none⟩) 1 1) (by kernel_rfl) (zy.one (heap_alloc_new w5 _) rfl) (by have:=HKL.out;simp only[List.nil_append];omega) (by have:=HB5.out.size;simp;omega) ?_;intro v6 w6 o6 b6
           have HO6:=ze o6;have HB6:=ze ((HB5.out.alloc HB5.out.size _).trans b6)
           clear o6 b6)
         |(refine ja (by rfl) (.tmp 231) (.tmp 239) rfl wv.heap.size v5 ([]++D.take j) (p,kk,t) (by kernel_rfl) HO5.out (.slice (some ⟨Y2.heap.size,0,none⟩) 1 1) (by kernel_rfl) (zy.old HSN.out HC5.out) (by have:=HKL.out;simp only[List.nil_append];omega) HB5.out.size ?_;intro v6 w6 o6 b6
           have HO6:=ze o6;have HB6:=ze (HB5.out.trans b6)
           clear o6 b6)
         |(refine jf (by rfl) (.tmp 240) (.tmp 243) rfl wv.heap.size v6 ([]++D.take j++[(p,kk,t)]) (D.drop j) (by kernel_rfl) HO6.out (.slice ao2 (D.length-j) c2') (by kernel_rfl) (zy.old H2.out HB6.out) (by have:=HKL.out;simp only[List.nil_append,List.length_append,List.length_singleton];omega) HB6.out.size ?_;intro v7 w7' o7 b7
           have HO7:=ze o7;have HB7':=ze (HB6.out.trans b7)
           clear o7 b7))
        all_goals(
         go_wp2_with fail
         go_roundg (C.length-(k+1))
         case measure=>omega
         case rel=>exact⟨k+1,_,by go_num,ze ⟨by omega,rfl⟩,ze (by exact HSO.out),ze (zY HO7.out (by rw[<-HGZ.out];exact HBW.out.size)),ze (HBW.out.trans (HB7'.out.mono (by rw[<-HGZ.out];exact HBW.out.size)))⟩)
       obtain⟨jj,hjj⟩:∃i,j=i+1:=⟨j-1,by omega⟩;have z1:decide ((0:Int)<(j:Int))=true:=decide_eq_true (by omega);have z2:decide (0<j)=true:=decide_eq_true (by omega);have jw:IntKind.i64.wrap ((j:Int)-1)=(jj:Int):=(IntWalk.i64_in _ (by have:=HDL.out;omega)).trans (by omega);have jz:(0:Int)<=(jj:Int):=Int.natCast_nonneg _
       have jl:(jj:Int)<(D.length:Int):=by omega
       obtain⟨bx,ox,q,qk,qt,e,hqe,cq,_,_⟩:=zbE.at (zy.old HSD.out HBX.out) (i:=jj) (by omega);cases e;obtain⟨x1,hx1⟩:∃z,Op.bytesLess q p=z:=⟨_,rfl⟩;obtain⟨x2,hx2⟩:∃z,(q==p)=z:=⟨_,rfl⟩;have HGT:=ze (show xv p q=(!x1 && !x2) by rw[zrX,hx1,hx2]);have HQE:=ze hqe;have HJJ:=ze hjj;clear hj0 hqe hjj
       cases x1 with
       |true=>
        clear hx2;have HAF:=ze (show zcg D p=j from zjA D p j (by omega) HJD.out (.inr ⟨_,by rw[HJJ.out];exact HQE.out,by rw[HGT.out];rfl⟩));have hcut:=zy.cut_to (P:=Tryz.prog) Tryz.underlying29 HI0.out.1 HSD.out (j:=j) (by omega);obtain⟨ao2,c2',hsl2,hs2⟩:=zy.cut_from (P:=Tryz.prog) Tryz.underlying29 HI0.out.1 HI0.out.2 HSD.out (i:=j) (by omega);have hsl1:=hcut.1;have H1:=ze hcut.2;have H2:=ze hs2;have HKL:=ze (show(D.take j).length<=100000/\(D.drop j).length<=100000 by have:=HDL.out;simp;omega);have HSO:=ze (show []++D.take j++[(p,kk,t)]++D.drop j=qY (C.take (k+1)) by rw[<-HNX.out,zed,HAF.out,List.nil_append]);clear hcut hs2;go_wp2_with fail;go_quiet (fail);have HBy:=ze (show Below wv.heap.size wv (wr.drewN nq)from HBX.out.trans ((zm wr nq).mono HBX.out.size));have q0:=zf HBy.out c0;have q1:=zf HBy.out c1;have q2:=zf HBy.out c2;have qg:=zf HBy.out cg1;clear e0 e1 e2 hg1 HBX;generalize wr.drewN nq=Y2 at *;have HYD:=ze (show Below wv.heap.size wv Y2.drew from HBy.out.drew);have HBF:=ze (show Below wv.heap.size wv (Y2.alloc (.cells #[.string ⟨p.toArray⟩,.int .i64 kk,.string ⟨t.toArray⟩] 36)).drew from(HBy.out.alloc HBy.out.size _).drew);have H1a:=ze (zy.old H1.out HYD.out);have H1b:=ze (zy.old H1.out HBF.out);clear H1;have HSN:=ze (show zbE (Y2.alloc (.cells #[.string ⟨p.toArray⟩,.int .i64 kk,.string ⟨t.toArray⟩] 36)).drew (.slice (some ⟨Y2.heap.size,0,none⟩) 1 1) [(p,kk,t)]from zy.one (heap_alloc_new Y2 _) rfl);go_wp2_with fail
        go_region_law (first
         |(refine jf (by rfl) (.const (.slice none 0 0)) (.tmp 230) rfl _ (.slice none 0 0) [] (D.take j) rfl (World.ownsRow_nil _ _ _ _) (.slice (some ⟨bx,ox,none⟩) j nc) (by kernel_rfl) (by first |with_reducible exact H1a.out |with_reducible exact H1b.out) (by have:=HKL.out;simp only[List.length_nil];omega) (Nat.le_refl _) ?_;intro v5 w5 o5 b5
           have HO5:=ze (zY o5 (show wv.heap.size<= _ from by first |exact HYD.out.size |exact HBF.out.size));have HB5:=ze (show Below wv.heap.size wv w5 from by first |exact HYD.out.trans (b5.mono HYD.out.size) |exact HBF.out.trans (b5.mono HBF.out.size));have HC5:=ze b5;have r0:=zf HB5.out c0;have r1:=zf HB5.out c1;have r2:=zf HB5.out c2;have rg:=zf HB5.out cg1
           clear o5 b5)
         |(refine ja (by rfl) (.tmp 231) (.tmp 239) rfl wv.heap.size v5 ([]++D.take j) (p,kk,t) (by kernel_rfl) (World.ownsRow.alloc HO5.out _) (.slice (some ⟨w5.heap.size,0,none⟩) 1 1) (by kernel_rfl) (zy.one (heap_alloc_new w5 _) rfl) (by have:=HKL.out;simp only[List.nil_append];omega) (by have:=HB5.out.size;simp;omega) ?_;intro v6 w6 o6 b6
           have HO6:=ze o6;have HB6:=ze ((HB5.out.alloc HB5.out.size _).trans b6)
           clear o6 b6)
         |(refine ja (by rfl) (.tmp 231) (.tmp 239) rfl wv.heap.size v5 ([]++D.take j) (p,kk,t) (by kernel_rfl) HO5.out (.slice (some ⟨Y2.heap.size,0,none⟩) 1 1) (by kernel_rfl) (zy.old HSN.out HC5.out) (by have:=HKL.out;simp only[List.nil_append];omega) HB5.out.size ?_;intro v6 w6 o6 b6
           have HO6:=ze o6;have HB6:=ze (HB5.out.trans b6)
           clear o6 b6)
         |(refine jf (by rfl) (.tmp 240) (.tmp 243) rfl wv.heap.size v6 ([]++D.take j++[(p,kk,t)]) (D.drop j) (by kernel_rfl) HO6.out (.slice ao2 (D.length-j) c2') (by kernel_rfl) (zy.old H2.out HB6.out) (by have:=HKL.out;simp only[List.nil_append,List.length_append,List.length_singleton];omega) HB6.out.size ?_;intro v7 w7' o7 b7
           have HO7:=ze o7;have HB7':=ze (HB6.out.trans b7)
           clear o7 b7))
        all_goals(
         go_wp2_with fail
         go_roundg (C.length-(k+1))
         case measure=>omega
         case rel=>exact⟨k+1,_,by go_num,ze ⟨by omega,rfl⟩,ze (by exact HSO.out),ze (zY HO7.out (by rw[<-HGZ.out];exact HBW.out.size)),ze (HBW.out.trans (HB7'.out.mono (by rw[<-HGZ.out];exact HBW.out.size)))⟩)
       |false=>
        cases x2 with
        |true=>
         have HAF:=ze (show zcg D p=j from zjA D p j (by omega) HJD.out (.inr ⟨_,by rw[HJJ.out];exact HQE.out,by rw[HGT.out];rfl⟩));have hcut:=zy.cut_to (P:=Tryz.prog) Tryz.underlying29 HI0.out.1 HSD.out (j:=j) (by omega);obtain⟨ao2,c2',hsl2,hs2⟩:=zy.cut_from (P:=Tryz.prog) Tryz.underlying29 HI0.out.1 HI0.out.2 HSD.out (i:=j) (by omega);have hsl1:=hcut.1;have H1:=ze hcut.2;have H2:=ze hs2;have HKL:=ze (show(D.take j).length<=100000/\(D.drop j).length<=100000 by have:=HDL.out;simp;omega);have HSO:=ze (show []++D.take j++[(p,kk,t)]++D.drop j=qY (C.take (k+1)) by rw[<-HNX.out,zed,HAF.out,List.nil_append]);clear hcut hs2;go_wp2_with fail;go_quiet (fail);have HBy:=ze (show Below wv.heap.size wv (wr.drewN nq)from HBX.out.trans ((zm wr nq).mono HBX.out.size));have q0:=zf HBy.out c0;have q1:=zf HBy.out c1;have q2:=zf HBy.out c2;have qg:=zf HBy.out cg1;clear e0 e1 e2 hg1 HBX;generalize wr.drewN nq=Y2 at *;have HYD:=ze (show Below wv.heap.size wv Y2.drew from HBy.out.drew);have HBF:=ze (show Below wv.heap.size wv (Y2.alloc (.cells #[.string ⟨p.toArray⟩,.int .i64 kk,.string ⟨t.toArray⟩] 36)).drew from(HBy.out.alloc HBy.out.size _).drew);have H1a:=ze (zy.old H1.out HYD.out);have H1b:=ze (zy.old H1.out HBF.out);clear H1;have HSN:=ze (show zbE (Y2.alloc (.cells #[.string ⟨p.toArray⟩,.int .i64 kk,.string ⟨t.toArray⟩] 36)).drew (.slice (some ⟨Y2.heap.size,0,none⟩) 1 1) [(p,kk,t)]from zy.one (heap_alloc_new Y2 _) rfl);go_wp2_with fail
         go_region_law (first
          |(refine jf (by rfl) (.const (.slice none 0 0)) (.tmp 230) rfl _ (.slice none 0 0) [] (D.take j) rfl (World.ownsRow_nil _ _ _ _) (.slice (some ⟨bx,ox,none⟩) j nc) (by kernel_rfl) (by first |with_reducible exact H1a.out |with_reducible exact H1b.out) (by have:=HKL.out;simp only[List.length_nil];omega) (Nat.le_refl _) ?_;intro v5 w5 o5 b5
            have HO5:=ze (zY o5 (show wv.heap.size<= _ from by first |exact HYD.out.size |exact HBF.out.size));have HB5:=ze (show Below wv.heap.size wv w5 from by first |exact HYD.out.trans (b5.mono HYD.out.size) |exact HBF.out.trans (b5.mono HBF.out.size));have HC5:=ze b5;have r0:=zf HB5.out c0;have r1:=zf HB5.out c1;have r2:=zf HB5.out c2;have rg:=zf HB5.out cg1
            clear o5 b5)
          |(refine ja (by rfl) (.tmp 231) (.tmp 239) rfl wv.heap.size v5 ([]++D.take j) (p,kk,t) (by kernel_rfl) (World.ownsRow.alloc HO5.out _) (.slice (some ⟨w5.heap.size,0,none⟩) 1 1) (by kernel_rfl) (zy.one (heap_alloc_new w5 _) rfl) (by have:=HKL.out;simp only[List.nil_append];omega) (by have:=HB5.out.size;simp;omega) ?_;intro v6 w6 o6 b6
            have HO6:=ze o6;have HB6:=ze ((HB5.out.alloc HB5.out.size _).trans b6)
            clear o6 b6)
          |(refine ja (by rfl) (.tmp 231) (.tmp 239) rfl wv.heap.size v5 ([]++D.take j) (p,kk,t) (by kernel_rfl) HO5.out (.slice (some ⟨Y2.heap.size,0,none⟩) 1 1) (by kernel_rfl) (zy.old HSN.out HC5.out) (by have:=HKL.out;simp only[List.nil_append];omega) HB5.out.size ?_;intro v6 w6 o6 b6
            have HO6:=ze o6;have HB6:=ze (HB5.out.trans b6)
            clear o6 b6)
          |(refine jf (by rfl) (.tmp 240) (.tmp 243) rfl wv.heap.size v6 ([]++D.take j++[(p,kk,t)]) (D.drop j) (by kernel_rfl) HO6.out (.slice ao2 (D.length-j) c2') (by kernel_rfl) (zy.old H2.out HB6.out) (by have:=HKL.out;simp only[List.nil_append,List.length_append,List.length_singleton];omega) HB6.out.size ?_;intro v7 w7' o7 b7
            have HO7:=ze o7;have HB7':=ze (HB6.out.trans b7)
            clear o7 b7))
         all_goals(
          go_wp2_with fail
          go_roundg (C.length-(k+1))
          case measure=>omega
          case rel=>exact⟨k+1,_,by go_num,ze ⟨by omega,rfl⟩,ze (by exact HSO.out),ze (zY HO7.out (by rw[<-HGZ.out];exact HBW.out.size)),ze (HBW.out.trans (HB7'.out.mono (by rw[<-HGZ.out];exact HBW.out.size)))⟩)
        |false=>
         have HDN:=ze (show ∀d∈D.drop jj,xv p d.1=true from fun d hd=>by
          rw[yP HQE.out,<-HJJ.out]at hd
          rcases List.mem_cons.1 hd with rfl |hd
          ·rw[HGT.out];rfl
          ·exact HJD.out d hd)
         go_wp2_with fail;go_quiet (fail);go_wp2_with fail
         go_roundg jj
         case measure=>have:=HJJ.out;have:=HJ.out.2;omega
         case rel=>exact⟨jj,rfl,ze ⟨by have:=HJJ.out;omega,Nat.le_refl _⟩,HDN,ze (HBX.out.trans ((zm wr nq).mono HBX.out.size))⟩
end
end Go.Proofs.YtbnafihigoekeaaGreatDoor

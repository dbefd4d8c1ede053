/-
  TmAd, part 4.
-/
import Derived.Test.YtbnafihigoekeaaGreatDoorZt44
import Derived.Test.YtbnafihigoekeaaGreatDoorZt27
import Derived.Test.YtbnafihigoekeaaGreatDoorZx1
set_option maxRecDepth 100000
set_option maxHeartbeats 4000000
namespace Go.Proofs.YtbnafihigoekeaaGreatDoor.treemergeAdds
open Go.ChangeShapes Go.WideShapes Go.ChangeAt Go.RowKit
open BigFrame
section
theorem walk(p q x y:List UInt8)(w:World)(_hp:p.length<=maxLen)(_hq:q.length<=maxLen)(_hx:x.length<=maxLen)(_hy:y.length<=maxLen):
  Calls Tryz.prog 8 #[zq p,zq q,zq x,zq y] w fun e w'=>e= .returned (.bool true)/\Below w.heap.size w w':=by
 clear _hp _hq _hx _hy;have HB0:=ze (Below.refl w.heap.size w);have HAW:=ze (fun wy:World=>zfI wy);unfold zq
 go_enter Tryz.func8,Tryz.ntmps8
 by_cases h1:p.length<=40
 case neg=>
  have h1i:decide (40 <(p.length:Int))=true:=decide_eq_true (by omega);have h1n:decide (40<p.length)=true:=decide_eq_true (by omega);clear h1
  go_wp2_with (go_at_call 11;refine(HAW.out _).mono ?_;rintro e w2 ⟨rfl,hb2⟩;have HB2:=ze (zi HB0.out hb2 HB0.out.size);clear hb2)
  go_ret;exact⟨rfl,HB2.out⟩
 have h1i:decide (40 <(p.length:Int))=false:=decide_eq_false (by omega);have h1n:decide (40<p.length)=false:=decide_eq_false (by omega)
 by_cases h2:q.length<=40
 case neg=>
  have h2i:decide (40 <(q.length:Int))=true:=decide_eq_true (by omega);have h2n:decide (40<q.length)=true:=decide_eq_true (by omega);clear h2
  go_wp2_with (go_at_call 11;refine(HAW.out _).mono ?_;rintro e w2 ⟨rfl,hb2⟩;have HB2:=ze (zi HB0.out hb2 HB0.out.size);clear hb2)
  go_ret;exact⟨rfl,HB2.out⟩
 have h2i:decide (40 <(q.length:Int))=false:=decide_eq_false (by omega);have h2n:decide (40<q.length)=false:=decide_eq_false (by omega)
 by_cases h3:x.length<=200
 case neg=>
  have h3i:decide (200 <(x.length:Int))=true:=decide_eq_true (by omega);have h3n:decide (200<x.length)=true:=decide_eq_true (by omega);clear h3
  go_wp2_with (go_at_call 11;refine(HAW.out _).mono ?_;rintro e w2 ⟨rfl,hb2⟩;have HB2:=ze (zi HB0.out hb2 HB0.out.size);clear hb2)
  go_ret;exact⟨rfl,HB2.out⟩
 have h3i:decide (200 <(x.length:Int))=false:=decide_eq_false (by omega);have h3n:decide (200<x.length)=false:=decide_eq_false (by omega)
 by_cases h4:y.length<=200
 case neg=>
  have h4i:decide (200 <(y.length:Int))=true:=decide_eq_true (by omega);have h4n:decide (200<y.length)=true:=decide_eq_true (by omega);clear h4
  go_wp2_with (go_at_call 11;refine(HAW.out _).mono ?_;rintro e w2 ⟨rfl,hb2⟩;have HB2:=ze (zi HB0.out hb2 HB0.out.size);clear hb2)
  go_ret;exact⟨rfl,HB2.out⟩
 have h4i:decide (200 <(y.length:Int))=false:=decide_eq_false (by omega);have h4n:decide (200<y.length)=false:=decide_eq_false (by omega);have HL:=ze (show x.length<=200/\y.length<=200 from⟨h3,h4⟩);clear h1 h2 h3 h4;obtain⟨⟨X1,en1⟩,hX1⟩:∃z,zak [] (p,false,x)=z:=⟨_,rfl⟩;have HX1:=ze hX1;clear hX1;go_wp2_with fail;have hT:=zpx _ [] p x false w (zy.nil w);rw[HX1.out]at hT;unfold zq at hT;refine hT.mono ?_;rintro e x1 ⟨v,rfl,ho,hb⟩;have hB1:=ze (zi HB0.out hb HB0.out.size);have HA1:=ze ho.sl;obtain⟨vo1,vc1,rfl⟩:=zl ho;clear hb hT ho;obtain⟨⟨X2,en2⟩,hX2⟩:∃z,zak [] (p,false,y)=z:=⟨_,rfl⟩;have HX2:=ze hX2;clear hX2;go_wp2_with fail;have hT:=zpx _ [] p y false x1 (zy.nil x1);rw[HX2.out]at hT;unfold zq at hT;refine hT.mono ?_;rintro e x2 ⟨v,rfl,ho,hb⟩;have hB2:=ze (zi hB1.out hb hB1.out.size);have HA1:=ze (zy.old HA1.out hb);have HA2:=ze ho.sl;obtain⟨vo2,vc2,rfl⟩:=zl ho;clear hb hT ho;obtain⟨⟨X3,en3⟩,hX3⟩:∃z,zak [] (q,false,y)=z:=⟨_,rfl⟩;have HX3:=ze hX3;clear hX3;go_wp2_with fail;have hT:=zpx _ [] q y false x2 (zy.nil x2);rw[HX3.out]at hT;unfold zq at hT;refine hT.mono ?_;rintro e x3 ⟨v,rfl,ho,hb⟩;have hB3:=ze (zi hB2.out hb hB2.out.size);have HA1:=ze (zy.old HA1.out hb);have HA2:=ze (zy.old HA2.out hb);have HA3:=ze ho.sl;obtain⟨vo3,vc3,rfl⟩:=zl ho;clear hb hT ho
 by_cases hen1:en1=0
 case neg=>
  have e1:((en1:Int)==0)=false:=beq_false_of_ne (by omega);have e2:(en1==0)=false:=beq_false_of_ne hen1;have e3:decide ((en1:Int)=0)=false:=decide_eq_false (by omega)
  have e4:¬(en1:Int)=0:=by omega
  go_wp2_with (go_at_call 11;refine(HAW.out _).mono ?_;rintro e w2 ⟨rfl,hb2⟩;have HB2:=ze (zi hB3.out hb2 hB3.out.size);clear hb2)
  go_ret;exact⟨rfl,HB2.out⟩
 subst hen1;have hq1:=zc HX1.out;obtain⟨hq11,hq12⟩:=hq1;subst hq11;have HT1:=ze hq12;clear hq12 HX1
 by_cases hen2:en2=0
 case neg=>
  have e1:((en2:Int)==0)=false:=beq_false_of_ne (by omega);have e2:(en2==0)=false:=beq_false_of_ne hen2;have e3:decide ((en2:Int)=0)=false:=decide_eq_false (by omega)
  have e4:¬(en2:Int)=0:=by omega
  go_wp2_with (go_at_call 11;refine(HAW.out _).mono ?_;rintro e w2 ⟨rfl,hb2⟩;have HB2:=ze (zi hB3.out hb2 hB3.out.size);clear hb2)
  go_ret;exact⟨rfl,HB2.out⟩
 subst hen2;have hq2:=zc HX2.out;obtain⟨hq21,hq22⟩:=hq2;subst hq21;have HT2:=ze hq22;clear hq22 HX2
 by_cases hen3:en3=0
 case neg=>
  have e1:((en3:Int)==0)=false:=beq_false_of_ne (by omega);have e2:(en3==0)=false:=beq_false_of_ne hen3;have e3:decide ((en3:Int)=0)=false:=decide_eq_false (by omega)
  have e4:¬(en3:Int)=0:=by omega
  go_wp2_with (go_at_call 11;refine(HAW.out _).mono ?_;rintro e w2 ⟨rfl,hb2⟩;have HB2:=ze (zi hB3.out hb2 hB3.out.size);clear hb2)
  go_ret;exact⟨rfl,HB2.out⟩
 subst hen3;have hq3:=zc HX3.out;obtain⟨hq31,hq32⟩:=hq3;subst hq31;have HT3:=ze hq32;clear hq32 HX3;have HN:=ze (zy.nil (E:=jh) x3)
 by_cases hxy:x=y
 case pos=>
  subst hxy
  have exx:(x==x)=true:=by simp
  have HAD:=ze (jt HT1.out);go_wp2_with fail;have hT:=zda _ _ _ _ _ _ x3 HN.out HA1.out HA2.out (fun _ f hf=>by cases hf) (fun _ f hf=>by rw[List.mem_singleton.1 hf];exact Nat.le_trans HL.out.1 (by decide)) (fun _ f hf=>by rw[List.mem_singleton.1 hf];exact Nat.le_trans HL.out.1 (by decide));rw[HAD.out]at hT;refine hT.mono ?_;rintro e x4 ⟨a1,a2,rfl,hy,hz,hb⟩;have hB4:=ze (zi hB3.out hb hB3.out.size);have HA1:=ze (zy.old HA1.out hb);have HA2:=ze (zy.old HA2.out hb);have HA3:=ze (zy.old HA3.out hb);have HN:=ze (zy.old HN.out hb);obtain⟨yo4,yc4,hy1⟩:=zy.form hy;obtain⟨zo4,zc4,hz1⟩:=zy.form hz;have hy2:a1= .slice yo4 1 yc4:=hy1;have hz2:a2= .slice zo4 0 zc4:=hz1;subst hy2;subst hz2;have HX:=ze hy;have HP:=ze hz;clear hb hT hy hz hy1 hz1;go_wp2_with fail;have hT:=zfI x4;refine hT.mono ?_;rintro e x5 ⟨rfl,hb⟩;have hB5:=ze (zi hB4.out hb hB4.out.size);have HA1:=ze (zy.old HA1.out hb);have HA2:=ze (zy.old HA2.out hb);have HA3:=ze (zy.old HA3.out hb);have HN:=ze (zy.old HN.out hb);have HX:=ze (zy.old HX.out hb);have HP:=ze (zy.old HP.out hb);clear hb hT;go_wp2_with fail;have hT:=zem _ _ [(p,false,x)] [(p,false,x)] x5 HX.out HA1.out (by simp);rw[show(([(p,false,x)]:List zg)==[(p,false,x)])=true by simp]at hT;refine hT.mono ?_;rintro e x6 ⟨rfl,hb⟩;have hB6:=ze (zi hB5.out hb hB5.out.size);have HA1:=ze (zy.old HA1.out hb);have HA2:=ze (zy.old HA2.out hb);have HA3:=ze (zy.old HA3.out hb);have HN:=ze (zy.old HN.out hb);have HX:=ze (zy.old HX.out hb);have HP:=ze (zy.old HP.out hb);clear hb hT;go_wp2_with fail;go_ret;exact⟨rfl,hB6.out⟩
 have exy:(x==y)=false:=beq_false_of_ne hxy;have HJ:=ze (show zT [zex (p,false,x) (p,false,y)]from xw (by have:=HT1.out.ok _ (List.mem_cons_self ..);unfold jW at this;rw[Bool.and_eq_true]at this;exact jp this.1 (by have:=kl x y;have:=HL.out;simp only;omega)));have HAD:=ze (kk HT1.out HT2.out rfl (fun e=>hxy (congrArg (fun f:zg=>f.2.2) e).symm) HJ.out);unfold zex at HAD;simp only at HAD;obtain⟨T,hTT⟩:∃z,(jJ [] x y).1=z:=⟨_,rfl⟩;rw[hTT]at HAD;clear hTT HJ hxy;go_wp2_with fail;have hT:=zda _ _ _ _ _ _ x3 HN.out HA1.out HA2.out (fun _ f hf=>by cases hf) (fun _ f hf=>by rw[List.mem_singleton.1 hf];exact Nat.le_trans HL.out.1 (by decide)) (fun _ f hf=>by rw[List.mem_singleton.1 hf];exact Nat.le_trans HL.out.2 (by decide));rw[HAD.out]at hT;refine hT.mono ?_;rintro e x4 ⟨a1,a2,rfl,hy,hz,hb⟩;have hB4:=ze (zi hB3.out hb hB3.out.size);have HA1:=ze (zy.old HA1.out hb);have HA2:=ze (zy.old HA2.out hb);have HA3:=ze (zy.old HA3.out hb);have HN:=ze (zy.old HN.out hb);obtain⟨yo4,yc4,hy1⟩:=zy.form hy;obtain⟨zo4,zc4,hz1⟩:=zy.form hz;have hy2:a1= .slice yo4 1 yc4:=hy1;have hz2:a2= .slice zo4 1 zc4:=hz1;subst hy2;subst hz2;have HX:=ze hy;have HP:=ze hz;clear hb hT hy hz hy1 hz1;obtain⟨pb,po,pp,pk,pt,pe,he,c0,c1,c2⟩:=zbE.at HP.out (i:=0) (by simp);cases he;subst pe;obtain⟨fb,fo,fp,fx,ft,fe,he,d0,d1,d2⟩:=yM.at HX.out (i:=0) (by simp);cases he;subst fe;simp only[Nat.zero_mul,Nat.add_zero]at c0 c1 c2 d0 d1 d2
 have epp:(p==p)=true:=by simp
 have ett:(T==T)=true:=by simp
 go_wp2_with fail;go_region;go_wp2_with fail;clear c0 c1 c2 d0 d1 d2;clear HX HP;have hb:Below x4.heap.size x4 x4.drew:=(Below.refl _ _).drew;have hB5:=ze (zi hB4.out hb hB4.out.size);have HA1:=ze (zy.old HA1.out hb);have HA2:=ze (zy.old HA2.out hb);have HA3:=ze (zy.old HA3.out hb);have HN:=ze (zy.old HN.out hb);clear hb;generalize x4.drew=Y9 at *
 by_cases hpq:p=q
 case pos=>
  subst hpq;have hT:=zda _ _ _ _ _ _ Y9 HN.out HA1.out HA3.out (fun _ f hf=>by cases hf) (fun _ f hf=>by rw[List.mem_singleton.1 hf];exact Nat.le_trans HL.out.1 (by decide)) (fun _ f hf=>by rw[List.mem_singleton.1 hf];exact Nat.le_trans HL.out.2 (by decide));rw[HAD.out]at hT;refine hT.mono ?_;rintro e x6 ⟨a1,a2,rfl,hy,hz,hb⟩;have hB6:=ze (zi hB5.out hb hB5.out.size);have HA1:=ze (zy.old HA1.out hb);have HA2:=ze (zy.old HA2.out hb);have HA3:=ze (zy.old HA3.out hb);have HN:=ze (zy.old HN.out hb);obtain⟨yo6,yc6,hy1⟩:=zy.form hy;obtain⟨zo6,zc6,hz1⟩:=zy.form hz;have hy2:a1= .slice yo6 1 yc6:=hy1;have hz2:a2= .slice zo6 1 zc6:=hz1;subst hy2;subst hz2;have HX:=ze hy;have HP:=ze hz;clear hb hT hy hz hy1 hz1;go_wp2_with fail;have hT:=zfI x6;refine hT.mono ?_;rintro e x7 ⟨rfl,hb⟩;have hB7:=ze (zi hB6.out hb hB6.out.size);have HA1:=ze (zy.old HA1.out hb);have HA2:=ze (zy.old HA2.out hb);have HA3:=ze (zy.old HA3.out hb);have HN:=ze (zy.old HN.out hb);have HX:=ze (zy.old HX.out hb);have HP:=ze (zy.old HP.out hb);clear hb hT;go_wp2_with fail;go_ret;exact⟨rfl,hB7.out⟩
 have epq:(p==q)=false:=beq_false_of_ne hpq;obtain⟨cl,hcl⟩:∃z,yS p q=z:=⟨_,rfl⟩
 cases cl with
 |true=>
  have HAB:=ze (kp HT1.out HT3.out hpq hcl);have HCL:=ze hcl;clear hcl hpq;have hT:=zda _ _ _ _ _ _ Y9 HN.out HA1.out HA3.out (fun _ f hf=>by cases hf) (fun _ f hf=>by rw[List.mem_singleton.1 hf];exact Nat.le_trans HL.out.1 (by decide)) (fun _ f hf=>by rw[List.mem_singleton.1 hf];exact Nat.le_trans HL.out.2 (by decide));rw[HAB.out]at hT;refine hT.mono ?_;rintro e x6 ⟨a1,a2,rfl,hy,hz,hb⟩;have hB6:=ze (zi hB5.out hb hB5.out.size);have HA1:=ze (zy.old HA1.out hb);have HA2:=ze (zy.old HA2.out hb);have HA3:=ze (zy.old HA3.out hb);have HN:=ze (zy.old HN.out hb);obtain⟨yo6,yc6,hy1⟩:=zy.form hy;obtain⟨zo6,zc6,hz1⟩:=zy.form hz;have hy2:a1= .slice yo6 1 yc6:=hy1;have hz2:a2= .slice zo6 1 zc6:=hz1;subst hy2;subst hz2;have HX:=ze hy;have HP:=ze hz;clear hb hT hy hz hy1 hz1;obtain⟨pb,po,pp,pk,pt,pe,he,c0,c1,c2⟩:=zbE.at HP.out (i:=0) (by simp);cases he;subst pe;simp only[Nat.zero_mul,Nat.add_zero]at c0 c1 c2;go_wp2_with fail;have hT:=zhx p q x6;rw[HCL.out]at hT;unfold zq at hT;refine hT.mono ?_;rintro e _ ⟨rfl,rfl⟩;clear hT;go_wp2_with fail;have hT:=zfI x6;refine hT.mono ?_;rintro e x7 ⟨rfl,hb⟩;have hB7:=ze (zi hB6.out hb hB6.out.size);have HA1:=ze (zy.old HA1.out hb);have HA2:=ze (zy.old HA2.out hb);have HA3:=ze (zy.old HA3.out hb);have HN:=ze (zy.old HN.out hb);have HX:=ze (zy.old HX.out hb);have HP:=ze (zy.old HP.out hb);have c0:=zf hb c0;have c1:=zf hb c1;have c2:=zf hb c2;clear hb hT;go_wp2_with fail;go_ret;exact⟨rfl,hB7.out⟩
 |false=>
  obtain⟨M,hM,hM2⟩:=kf HT1.out HT3.out hpq hcl;have HAB:=ze hM;have HM2:=ze hM2;have HCL:=ze hcl;clear hcl hpq hM hM2;have hT:=zda _ _ _ _ _ _ Y9 HN.out HA1.out HA3.out (fun _ f hf=>by cases hf) (fun _ f hf=>by rw[List.mem_singleton.1 hf];exact Nat.le_trans HL.out.1 (by decide)) (fun _ f hf=>by rw[List.mem_singleton.1 hf];exact Nat.le_trans HL.out.2 (by decide));rw[HAB.out]at hT;refine hT.mono ?_;rintro e x6 ⟨a1,a2,rfl,hy,hz,hb⟩;have hB6:=ze (zi hB5.out hb hB5.out.size);have HA1:=ze (zy.old HA1.out hb);have HA2:=ze (zy.old HA2.out hb);have HA3:=ze (zy.old HA3.out hb);have HN:=ze (zy.old HN.out hb);obtain⟨yo9,yc9,hy1⟩:=zy.form hy;obtain⟨zo9,zc9,hz1⟩:=zy.form hz
  have hy2:a1= .slice yo9 2 yc9:=by rw[hy1,HM2.out]
  have hz2:a2= .slice zo9 0 zc9:=hz1;subst hy2;subst hz2;clear hb hT hy hz hy1 hz1;go_wp2_with fail;have hT:=zhx p q x6;rw[HCL.out]at hT;unfold zq at hT;refine hT.mono ?_;rintro e _ ⟨rfl,rfl⟩;clear hT;go_wp2_with fail;have hT:=zfI x6;refine hT.mono ?_;rintro e x7 ⟨rfl,hb⟩;have hB7:=ze (zi hB6.out hb hB6.out.size);have HA1:=ze (zy.old HA1.out hb);have HA2:=ze (zy.old HA2.out hb);have HA3:=ze (zy.old HA3.out hb);have HN:=ze (zy.old HN.out hb);clear hb hT;go_wp2_with fail;go_ret;exact⟨rfl,hB7.out⟩
end
theorem own:ownKnob Tryz.prog.godebug=none:=by kernel_rfl
theorem laidOut:laidOutB Tryz.prog=true:=by kernel_rfl
theorem laid_met(os:Os):laidMet Tryz.prog Rows.treemergeAddsRow.laid ((zfA os).forCall (fun _ _ =>0) ⟨#[],#[.string ByteArray.empty,.string ByteArray.empty,.string ByteArray.empty,.string ByteArray.empty],[]⟩).memory:=
 laidMet_of_run' 8 (by kernel_rfl) (by kernel_rfl)
theorem reads(os:Os){H:Type}(enc:TypeId × Value->H):∃places,DataW.whole enc Tryz.prog ((zfA os).forCall (fun _ _ =>0) ⟨#[],#[.string ByteArray.empty,.string ByteArray.empty,.string ByteArray.empty,.string ByteArray.empty],[]⟩).memory Tryz.f8.params.toList Rows.treemergeAddsSpec.vars false (#[.string ByteArray.empty,.string ByteArray.empty,.string ByteArray.empty,.string ByteArray.empty]:Array Value).toList 8=some ([.lit (.string []),.lit (.string []),.lit (.string []),.lit (.string [])],[],places):=
 ⟨[],by kernel_rfl⟩
theorem contract(H:Type)(enc:TypeId × Value->H)(W:World)(base:Nat)(args:Array Value)(ds gs:List (DataW H))(before:List MemPlace)
  (hval:∀ (j:Nat) t v,Tryz.f8.params[j]? =some t->args[j]? =some v->Value.okWide Tryz.prog W .any base t v)
  (hW:DataW.Whole enc Tryz.prog Tryz.f8.params.toList Rows.treemergeAddsSpec.vars false W args.toList ds gs before) (_hL:laidMetH Tryz.prog Rows.treemergeAddsRow.laid W):
  Calls Tryz.prog 8 args W fun e W'=>∃v,e= .returned v/\Rows.treemergeAddsSpec.post enc Tryz.prog Tryz.f8 false true false false W args v W':=by
 have hW':=hW;obtain⟨p,q,hA0,hV,rfl,hfz,hnd⟩:=hW;have hA:DataW.TrodAll enc Tryz.prog W 0 (fun _ =>true) true Tryz.f8.params.toList args.toList ds p:=hA0;rw[Tryz.params8]at hA hval;obtain⟨v0,vs0,d0,ds0,p0,q0,hargs,rfl,rfl,h0,r0⟩:=trodAll_cons hA;obtain⟨v1,vs1,d1,ds1,p1,q1,rfl,rfl,rfl,h1,r1⟩:=trodAll_cons r0;obtain⟨v2,vs2,d2,ds2,p2,q2,rfl,rfl,rfl,h2,r2⟩:=trodAll_cons r1;obtain⟨v3,vs3,d3,ds3,p3,q3,rfl,rfl,rfl,h3,r3⟩:=trodAll_cons r2;obtain⟨rfl,rfl,rfl⟩:=trodAll_nil r3
 obtain rfl:args= #[v0,v1,v2,v3]:=by cases args;simp_all
 obtain⟨rfl,rfl⟩:=trodVars_none hV;have k0:=h0
 have lt0:∀x∈p0,x.block<W.heap.size:=by obtain⟨m,hm⟩:=k0;exact DataW.trod_lt m _ _ _ hm
 obtain⟨a0,rfl,_,_,w0⟩:=za Tryz.underlying9 (hval 0 9 v0 rfl rfl) h0;have k1:=h1
 have lt1:∀x∈p1,x.block<W.heap.size:=by obtain⟨m,hm⟩:=k1;exact DataW.trod_lt m _ _ _ hm
 obtain⟨a1,rfl,_,_,w1⟩:=za Tryz.underlying9 (hval 1 9 v1 rfl rfl) h1;have k2:=h2
 have lt2:∀x∈p2,x.block<W.heap.size:=by obtain⟨m,hm⟩:=k2;exact DataW.trod_lt m _ _ _ hm
 obtain⟨a2,rfl,_,_,w2⟩:=za Tryz.underlying9 (hval 2 9 v2 rfl rfl) h2;have k3:=h3
 have lt3:∀x∈p3,x.block<W.heap.size:=by obtain⟨m,hm⟩:=k3;exact DataW.trod_lt m _ _ _ hm
 obtain⟨a3,rfl,_,_,w3⟩:=za Tryz.underlying9 (hval 3 9 v3 rfl rfl) h3;clear hA0
 refine(walk a0 a1 a2 a3 W w0 w1 w2 w3).mono fun e W' ⟨he,bel⟩=>?_
 subst he;exact⟨_,rfl,_,_,_,[],_,[],hW',trodAll_mk1 (shut_bool Tryz.underlying4 _),(trodAll_cons_mk (Below.trod laidOut (by kernel_rfl) (of_decide_eq_true (by kernel_rfl)) k0 bel lt0) (trodAll_cons_mk (Below.trod laidOut (by kernel_rfl) (of_decide_eq_true (by kernel_rfl)) k1 bel lt1) (trodAll_cons_mk (Below.trod laidOut (by kernel_rfl) (of_decide_eq_true (by kernel_rfl)) k2 bel lt2) (trodAll_cons_mk (Below.trod laidOut (by kernel_rfl) (of_decide_eq_true (by kernel_rfl)) k3 bel lt3) trodAll_mk0)))),rfl,bel.frame _,fun h=>by cases h⟩
theorem lifted(os:Os)(started:os.Started)(H:Type)(enc:TypeId × Value->H)(F:Stop.Interp):
  ReturnsInHanded {} Tryz.checked os 8 .any ((OpenSpec.ofChange Rows.treemergeAddsSpec).preRow enc Tryz.prog Tryz.f8 Rows.treemergeAddsRow.domain false Rows.treemergeAddsRow.laid) (((OpenSpec.ofChange Rows.treemergeAddsSpec).at F).post enc Tryz.prog Tryz.f8 false true false false):=by
 obtain⟨places,hx⟩:=reads os enc;refine returnsInHanded_of_row (C:=Tryz.checked) (s:=OpenSpec.ofChange Rows.treemergeAddsSpec) own started (by kernel_rfl) Tryz.func8
  (witness_row_at (enc:=enc) (C:=Tryz.checked) false (zfA os) #[.string ByteArray.empty,.string ByteArray.empty,.string ByteArray.empty,.string ByteArray.empty] rfl (by kernel_rfl) (by kernel_rfl) (by kernel_rfl)
   (OpenSpec.preRow_of_cond 8 hx (by kernel_rfl) (fun k hk=>by cases hk) (by kernel_rfl) (laid_met os))) ?_
 intro W base args ds gs before hval hW _ _ _ hL _ _;exact contract H enc W base args ds gs before hval hW hL
theorem said:Rows.TreemergeAddsSaid:=
 OpenClaim.holds_of_cond 8 Tryz.f8 rfl rfl rfl rfl rfl rfl rfl ⟨rfl,rfl,rfl,rfl,rfl⟩ rfl rfl rfl rfl rfl (by kernel_rfl) Tryz.func8 (by kernel_rfl)
  (of_decide_eq_true (by kernel_rfl)) (by unfold Func.isWrapper;first |(rw[if_pos (by decide +kernel)];kernel_rfl) |(rw[if_neg (by decide +kernel)];exact⟨rfl,rfl⟩))
  (fun os started H enc _ F=>by rw[OpenClaim.pre_eq_preRow];exact lifted os started H enc F)
theorem plain(f:FuncId)(fn:Func)(hf:Tryz.pinned.checked.prog.funcNamed "rick/ricklaw14.TreemergeAdds" =some f)(hfn:Tryz.pinned.checked.prog.funcs[f]? =some fn):
  false=Tryz.pinned.checked.prog.looks []/\∀ (j:Nat) t,fn.params[j]? =some t->Tryz.pinned.checked.prog.wantsStandIn t=false:=by
 obtain rfl:f=8:=Option.some.inj ((show Tryz.prog.funcNamed "rick/ricklaw14.TreemergeAdds" =some 8 by kernel_rfl).symm.trans hf) |>.symm
 obtain rfl:fn=Tryz.f8:=(Option.some.inj (Tryz.func8.symm.trans hfn)).symm;refine⟨by kernel_rfl,fun j t ht=>?_⟩;rw[Tryz.params8]at ht;have hm:=Array.mem_of_getElem? ht;simp only[List.mem_toArray,List.mem_cons,List.not_mem_nil,or_false]at hm
 rcases hm with rfl |rfl |rfl |rfl
 ·exact(show Tryz.prog.wantsStandIn 9=false by kernel_rfl)
 ·exact(show Tryz.prog.wantsStandIn 9=false by kernel_rfl)
 ·exact(show Tryz.prog.wantsStandIn 9=false by kernel_rfl)
 ·exact(show Tryz.prog.wantsStandIn 9=false by kernel_rfl)
theorem proved:Rows.TreemergeAddsCardSaid:=
 Claim7.holds_tied_plain_at .later [] _ _ _ _ said (fun _ h=>by cases h) (by kernel_rfl) (fun _ h=>by cases h) treemergeAdds_row_tie rfl ⟨rfl,rfl⟩ (by kernel_rfl) rfl plain (by kernel_rfl)
#print axioms proved
end Go.Proofs.YtbnafihigoekeaaGreatDoor.treemergeAdds

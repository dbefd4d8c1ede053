/-
  TmPa, part 4.
-/
import Derived.Test.YtbnafihigoekeaaGreatDoorZt44
import Derived.Test.YtbnafihigoekeaaGreatDoorZt38
import Derived.Test.YtbnafihigoekeaaGreatDoorZt27
import Derived.Test.YtbnafihigoekeaaGreatDoorZy2
set_option maxRecDepth 100000
set_option maxHeartbeats 4000000
namespace Go.Proofs.YtbnafihigoekeaaGreatDoor.treemergePaths
open Go.ChangeShapes Go.WideShapes Go.ChangeAt Go.RowKit
open BigFrame
section
theorem walk(va:Value)(l:List zg)(vb:Value)(m:List zg)(vc:Value)(n:List zg)(p:List UInt8)(w:World)(ha:zaa w va l)(hb:zaa w vb m)(hc:zaa w vc n)(_hp:p.length<=maxLen):
  Calls Tryz.prog 5 #[va,vb,vc,zq p] w fun e w'=>e= .returned (.bool true)/\Below w.heap.size w w':=by
 have HA:=ze ha.1;have HB:=ze hb.1;have HC:=ze hc.1;have HFA:=ze (zjy va l w ha.1 ha.2.1);have HFB:=ze (zjy vb m w hb.1 hb.2.1);have HFC:=ze (zjy vc n w hc.1 hc.2.1);have HAW:=ze (fun wy:World=>zfI wy);have HB0:=ze (Below.refl w.heap.size w);clear ha hb hc _hp;unfold zq
 go_enter Tryz.func5,Tryz.ntmps5
 go_wp2_with fail;refine HFA.out.mono ?_;rintro e _ ⟨⟨b,rfl,hf⟩,rfl⟩
 cases b with
 |false=>
  clear hf
  go_wp2_with (go_at_call 11;refine(HAW.out _).mono ?_;rintro e w2 ⟨rfl,hb2⟩;have HB2:=ze (zi HB0.out hb2 HB0.out.size);clear hb2)
  go_ret;exact⟨rfl,HB2.out⟩
 |true=>
 have HLA:=ze (hf rfl);clear hf;go_wp2_with fail;refine HFB.out.mono ?_;rintro e _ ⟨⟨b,rfl,hf⟩,rfl⟩
 cases b with
 |false=>
  clear hf
  go_wp2_with (go_at_call 11;refine(HAW.out _).mono ?_;rintro e w2 ⟨rfl,hb2⟩;have HB2:=ze (zi HB0.out hb2 HB0.out.size);clear hb2)
  go_ret;exact⟨rfl,HB2.out⟩
 |true=>
 have HLB:=ze (hf rfl);clear hf;go_wp2_with fail;refine HFC.out.mono ?_;rintro e _ ⟨⟨b,rfl,hf⟩,rfl⟩
 cases b with
 |false=>
  clear hf
  go_wp2_with (go_at_call 11;refine(HAW.out _).mono ?_;rintro e w2 ⟨rfl,hb2⟩;have HB2:=ze (zi HB0.out hb2 HB0.out.size);clear hb2)
  go_ret;exact⟨rfl,HB2.out⟩
 |true=>
 have HLC:=ze (hf rfl);clear hf;clear HFA HFB HFC HLA HLB HLC;obtain⟨A,hA⟩:∃y,zcA l=y:=⟨_,rfl⟩;have HTA:=ze (show zT A by rw[<-hA];exact(qJ l).1);have HLA:=ze (show A.length<=30 by rw[<-hA];exact(qJ l).2.1);have HPA:=ze (show ∀f∈A,f.2.2.length<=2000 by rw[<-hA];exact(qJ l).2.2);have HEA:=ze hA;clear hA;obtain⟨B,hB⟩:∃y,zcA m=y:=⟨_,rfl⟩;have HTB:=ze (show zT B by rw[<-hB];exact(qJ m).1);have HLB:=ze (show B.length<=30 by rw[<-hB];exact(qJ m).2.1);have HPB:=ze (show ∀f∈B,f.2.2.length<=2000 by rw[<-hB];exact(qJ m).2.2);have HEB:=ze hB;clear hB;obtain⟨C,hC⟩:∃y,zcA n=y:=⟨_,rfl⟩;have HTC:=ze (show zT C by rw[<-hC];exact(qJ n).1);have HLC:=ze (show C.length<=30 by rw[<-hC];exact(qJ n).2.1);have HPC:=ze (show ∀f∈C,f.2.2.length<=2000 by rw[<-hC];exact(qJ n).2.2);have HEC:=ze hC;clear hC;go_wp2_with fail;have hT:=zfK _ l w HA.out;rw[HEA.out]at hT;refine hT.mono ?_;rintro e x1 ⟨u,rfl,ho,hb⟩;have hB1:=ze (zi HB0.out hb HB0.out.size);have HA:=ze (zy.old HA.out hb);have HB:=ze (zy.old HB.out hb);have HC:=ze (zy.old HC.out hb);have HA:=ze ho.sl;obtain⟨uo1,uc1,rfl⟩:=zl ho;clear hb hT ho;go_wp2_with fail;have hT:=zfK _ m x1 HB.out;rw[HEB.out]at hT;refine hT.mono ?_;rintro e x2 ⟨u,rfl,ho,hb⟩;have hB2:=ze (zi hB1.out hb hB1.out.size);have HA:=ze (zy.old HA.out hb);have HB:=ze (zy.old HB.out hb);have HC:=ze (zy.old HC.out hb);have HB:=ze ho.sl;obtain⟨uo2,uc2,rfl⟩:=zl ho;clear hb hT ho;go_wp2_with fail;have hT:=zfK _ n x2 HC.out;rw[HEC.out]at hT;refine hT.mono ?_;rintro e x3 ⟨u,rfl,ho,hb⟩;have hB3:=ze (zi hB2.out hb hB2.out.size);have HA:=ze (zy.old HA.out hb);have HB:=ze (zy.old HB.out hb);have HC:=ze (zy.old HC.out hb);have HC:=ze ho.sl;obtain⟨uo3,uc3,rfl⟩:=zl ho;clear hb hT ho;clear HEA HEB HEC;obtain⟨X,D,hm1,hm2,hm3⟩:=zsb HTA.out HTB.out HTC.out HLA.out HLB.out HLC.out HPA.out HPB.out HPC.out;have HM1:=ze hm1;have HM2:=ze hm2;have HM3:=ze hm3;clear hm1 hm2 hm3;go_wp2_with fail;have hT:=zda _ _ _ _ _ _ x3 HA.out HB.out HC.out (fun _ f hf=>Nat.le_trans (HPA.out f hf) (by decide)) (fun _ f hf=>Nat.le_trans (HPB.out f hf) (by decide)) (fun _ f hf=>Nat.le_trans (HPC.out f hf) (by decide));rw[HM1.out]at hT;refine hT.mono ?_;rintro e x4 ⟨y,z,rfl,hy,hz,hb⟩;have hB4:=ze (zi hB3.out hb hB3.out.size);have HA:=ze (zy.old HA.out hb);have HB:=ze (zy.old HB.out hb);have HC:=ze (zy.old HC.out hb);obtain⟨yo4,yc4,rfl⟩:=zy.form hy;obtain⟨zo4,zc4,rfl⟩:=zy.form hz;have HX:=ze hy;clear hb hT hy hz;clear HM1 HPA HPB HPC;go_wp2_with fail;have hT:=zfI x4;refine hT.mono ?_;rintro e x5 ⟨rfl,hb⟩;have hB5:=ze (zi hB4.out hb hB4.out.size);have HA:=ze (zy.old HA.out hb);have HB:=ze (zy.old HB.out hb);have HC:=ze (zy.old HC.out hb);have HX:=ze (zy.old HX.out hb);clear hb hT
 by_cases hd:D=[]
 case neg=>
  have n1:0<D.length:=List.length_pos_iff.2 hd;have n2:decide (0 <(D.length:Int))=true:=decide_eq_true (by omega);have n3:decide (0<D.length)=true:=decide_eq_true n1;clear n1;go_wp2_with fail;go_ret;exact⟨rfl,hB5.out⟩
 subst hd;go_wp2_with fail;refine(zeU _ _ _ _ x5 HA.out HB.out HTA.out HTB.out).mono ?_;rintro e x6 ⟨v6,r1,rfl,hx,ho,hb⟩;have hB6:=ze (zi hB5.out hb hB5.out.size);have HA:=ze (zy.old HA.out hb);have HB:=ze (zy.old HB.out hb);have HC:=ze (zy.old HC.out hb);have HX:=ze (zy.old HX.out hb);obtain⟨vo6,vc6,rfl⟩:=zl ho;have HR1:=ze (show r1=yj A B from zam.only HTA.out.rise HTB.out.rise (Nat.le_trans HLA.out (by decide)) (Nat.le_trans HLB.out (by decide)) hx (zmN HTA.out.rise HTB.out.rise (Nat.le_trans HLA.out (by decide)) (Nat.le_trans HLB.out (by decide))));clear hb hx ho
 by_cases hr:r1=[]
 case neg=>
  have n1:0<r1.length:=List.length_pos_iff.2 hr;have n2:decide (0 <(r1.length:Int))=true:=decide_eq_true (by omega);have n3:decide (0<r1.length)=true:=decide_eq_true n1;clear n1;go_wp2_with fail;go_ret;exact⟨rfl,hB6.out⟩
 subst hr;go_wp2_with fail;refine(zeU _ _ _ _ x6 HA.out HC.out HTA.out HTC.out).mono ?_;rintro e x7 ⟨v7,r2,rfl,hx,ho,hb⟩;have hB7:=ze (zi hB6.out hb hB6.out.size);have HA:=ze (zy.old HA.out hb);have HB:=ze (zy.old HB.out hb);have HC:=ze (zy.old HC.out hb);have HX:=ze (zy.old HX.out hb);obtain⟨vo7,vc7,rfl⟩:=zl ho;have HR2:=ze (show r2=yj A C from zam.only HTA.out.rise HTC.out.rise (Nat.le_trans HLA.out (by decide)) (Nat.le_trans HLC.out (by decide)) hx (zmN HTA.out.rise HTC.out.rise (Nat.le_trans HLA.out (by decide)) (Nat.le_trans HLC.out (by decide))));clear hb hx ho
 by_cases hr:r2=[]
 case neg=>
  have n1:0<r2.length:=List.length_pos_iff.2 hr;have n2:decide (0 <(r2.length:Int))=true:=decide_eq_true (by omega);have n3:decide (0<r2.length)=true:=decide_eq_true n1;clear n1;go_wp2_with fail;go_ret;exact⟨rfl,hB7.out⟩
 subst hr;have HPT:=ze (HM3.out HR1.out.symm HR2.out.symm trivial);clear HM3 HR1 HR2;have HA0:=HA;have HB0:=HB;have HC0:=HC;have HX0:=HX
 go_wp2_with (first
  |(at_builtin;refine zt rfl _ (.tmp 73) rfl x7.heap.size _ ([]) A rfl (World.ownsRow_nil _ _ _ _) _ rfl HA.out (by have:=HLA.out;have:=HLB.out;have:=HLC.out;simp only[List.length_nil];omega) (Nat.le_refl _) ?_;intro u1 z1 hO hb;have HO1:=ze hO;have HZ1:=ze hb;have HA:=ze (zy.old HA0.out HZ1.out);have HB:=ze (zy.old HB0.out HZ1.out);have HC:=ze (zy.old HC0.out HZ1.out);have HX:=ze (zy.old HX0.out HZ1.out);clear hO hb)
  |(at_builtin;refine zt rfl _ (.tmp 75) rfl x7.heap.size _ ([]++A) B rfl HO1.out _ rfl HB.out (by have:=HLA.out;have:=HLB.out;have:=HLC.out;simp only[List.length_append,List.length_nil];omega) HZ1.out.size ?_;intro u2 z2 hO hb;have HO2:=ze hO;have HZ2:=ze (HZ1.out.trans hb);have HA:=ze (zy.old HA0.out HZ2.out);have HB:=ze (zy.old HB0.out HZ2.out);have HC:=ze (zy.old HC0.out HZ2.out);have HX:=ze (zy.old HX0.out HZ2.out);clear hO hb)
  |(at_builtin;refine zt rfl _ (.tmp 77) rfl x7.heap.size _ ([]++A++B) C rfl HO2.out _ rfl HC.out (by have:=HLA.out;have:=HLB.out;have:=HLC.out;simp only[List.length_append,List.length_nil];omega) HZ2.out.size ?_;intro u3 z3 hO hb;have HO3:=ze hO;have HZ3:=ze (HZ2.out.trans hb);have HA:=ze (zy.old HA0.out HZ3.out);have HB:=ze (zy.old HB0.out HZ3.out);have HC:=ze (zy.old HC0.out HZ3.out);have HX:=ze (zy.old HX0.out HZ3.out);clear hO hb)
  |(at_builtin;refine qU rfl (.tmp 79) (.tmp 82) rfl x7.heap.size _ ([]++A++B++C) (p,false,[]) rfl HO3.out _ rfl rfl (by have:=HLA.out;have:=HLB.out;have:=HLC.out;simp only[List.length_append,List.length_nil];omega) HZ3.out.size ?_;intro u4 z4 hO hb;have HO4:=ze hO;have HZ4:=ze (HZ3.out.trans hb);have HA:=ze (zy.old HA0.out HZ4.out);have HB:=ze (zy.old HB0.out HZ4.out);have HC:=ze (zy.old HC0.out HZ4.out);have HX:=ze (zy.old HX0.out HZ4.out);clear hO hb))
 have hB8:=ze (zi hB7.out HZ4.out hB7.out.size);obtain⟨L,hL⟩:∃y,[]++A++B++C++[(p,false,[])]=y:=⟨_,rfl⟩;rw[hL]at HO4;have HLL:=ze (show L.length<=91 by rw[<-hL];have:=HLA.out;have:=HLB.out;have:=HLC.out;simp only[List.length_append,List.length_nil,List.length_cons];omega);have HLS:=ze HO4.out.sl;obtain⟨lo,lc,rfl⟩:=zl HO4.out;clear hL HO4 HO3 HO2 HO1 HZ1 HZ2 HZ3 HZ4 HA0 HB0 HC0 HX0
 go_loopg [13] L.length (fun g i wr=>∃k:Nat,i= .int .i64 (k:Int)/\Hid (k<=L.length/\L.length-k=g)/\Hid (Below z4.heap.size z4 wr))
 case atStart=>exact⟨0,rfl,ze ⟨Nat.zero_le _,rfl⟩,ze (Below.refl _ _)⟩
 case round=>
  obtain⟨k,rfl,HK,HW⟩:=hrel;obtain⟨hk,rfl⟩:=HK.out;have HA:=ze (zy.old HA.out HW.out);have HB:=ze (zy.old HB.out HW.out);have HC:=ze (zy.old HC.out HW.out);have HX:=ze (zy.old HX.out HW.out);have HLS:=ze (zy.old HLS.out HW.out);have hBW:=ze (zi hB8.out HW.out hB8.out.size);have k0:(0:Int)<=(k:Int):=Int.natCast_nonneg _;have hll:=HLL.out
  by_cases hlt:k<L.length
  case neg=>
   obtain rfl:k=L.length:=by omega
   have hneg:¬(L.length:Int)<(L.length:Int):=by omega
   go_wp2_with fail;have hT:=zbd _ X wr HX.out;rw[show yf X=true from(yY X).2 HM2.out]at hT;refine hT.mono ?_;rintro e x9 ⟨rfl,hb⟩;have hBZ:=ze (zi hBW.out hb hBW.out.size);clear hb hT;go_wp2_with fail;go_ret;exact⟨rfl,hBZ.out⟩
  have k1:(k:Int)<(L.length:Int):=by omega
  have kw:IntKind.i64.wrap ((k:Int)+1)=(k:Int)+1:=IntWalk.i64_in _ (by omega);obtain⟨lb,lo2,q,lx,lt,hlo,he,c0,c1,c2⟩:=yM.at HLS.out hlt;subst hlo;clear he c1 c2;have HQ:=ze (HPT.out q);obtain⟨⟨p1,x1,t1⟩,hf1⟩:∃y,(zz A q).getD zM=y:=⟨_,rfl⟩;obtain⟨i1,hi1⟩:∃y,(zz A q).isSome=y:=⟨_,rfl⟩;have HF1:=ze hf1;have HI1:=ze hi1;clear hf1 hi1;obtain⟨⟨p2,x2,t2⟩,hf2⟩:∃y,(zz B q).getD zM=y:=⟨_,rfl⟩;obtain⟨i2,hi2⟩:∃y,(zz B q).isSome=y:=⟨_,rfl⟩;have HF2:=ze hf2;have HI2:=ze hi2;clear hf2 hi2;obtain⟨⟨p3,x3,t3⟩,hf3⟩:∃y,(zz C q).getD zM=y:=⟨_,rfl⟩;obtain⟨i3,hi3⟩:∃y,(zz C q).isSome=y:=⟨_,rfl⟩;have HF3:=ze hf3;have HI3:=ze hi3;clear hf3 hi3;obtain⟨⟨p4,x4,t4⟩,hf4⟩:∃y,(zz X q).getD zM=y:=⟨_,rfl⟩;obtain⟨i4,hi4⟩:∃y,(zz X q).isSome=y:=⟨_,rfl⟩;have HF4:=ze hf4;have HI4:=ze hi4;clear hf4 hi4;clear HLS;have HBL:=HW;go_wp2_with fail;have hT:=kU _ A q wr HA.out (by have:=HLA.out;omega);rw[HF1.out,HI1.out]at hT;unfold ye zq at hT;refine hT.mono ?_;rintro e y1 ⟨rfl,hb⟩;have hB10:=ze (zi hBW.out hb hBW.out.size);have HA:=ze (zy.old HA.out hb);have HB:=ze (zy.old HB.out hb);have HC:=ze (zy.old HC.out hb);have HX:=ze (zy.old HX.out hb);have c0:=zf hb c0;have HBL:=ze (zi HBL.out hb HBL.out.size);clear hb hT
  go_wp2_with (refine zB rfl 28 _ _ rfl _ #[.string ⟨p1.toArray⟩,.bool x1,.string ⟨t1.toArray⟩] rfl rfl _ _ (heap_alloc_new _ _) 3 Tryz.sizeFile rfl rfl (by simp[Value.oneCell']) ?_;intro y2 hg9 hk9;have hb:Below y1.heap.size y1 y2:=((Below.refl _ y1).alloc (Nat.le_refl _) _).trans (hk9.below (by simp) (fun j hj e=>by omega));have hB11:=ze (zi hB10.out hb hB10.out.size);have HA:=ze (zy.old HA.out hb);have HB:=ze (zy.old HB.out hb);have HC:=ze (zy.old HC.out hb);have HX:=ze (zy.old HX.out hb);have c0:=zf hb c0;have HBL:=ze (zi HBL.out hb HBL.out.size);have d10:=zd (i:=0) hg9 rfl;have d11:=zd (i:=1) hg9 rfl;have d12:=zd (i:=2) hg9 rfl;clear hb hg9 hk9)
  have hT:=kU _ B q y2 HB.out (by have:=HLB.out;omega);rw[HF2.out,HI2.out]at hT;unfold ye zq at hT;refine hT.mono ?_;rintro e y3 ⟨rfl,hb⟩;have hB12:=ze (zi hB11.out hb hB11.out.size);have HA:=ze (zy.old HA.out hb);have HB:=ze (zy.old HB.out hb);have HC:=ze (zy.old HC.out hb);have HX:=ze (zy.old HX.out hb);have c0:=zf hb c0;have d10:=zf hb d10;have d11:=zf hb d11;have d12:=zf hb d12;have HBL:=ze (zi HBL.out hb HBL.out.size);clear hb hT
  go_wp2_with (refine zB rfl 28 _ _ rfl _ #[.string ⟨p2.toArray⟩,.bool x2,.string ⟨t2.toArray⟩] rfl rfl _ _ (heap_alloc_new _ _) 3 Tryz.sizeFile rfl rfl (by simp[Value.oneCell']) ?_;intro y4 hg9 hk9;have hb:Below y3.heap.size y3 y4:=((Below.refl _ y3).alloc (Nat.le_refl _) _).trans (hk9.below (by simp) (fun j hj e=>by omega));have hB13:=ze (zi hB12.out hb hB12.out.size);have HA:=ze (zy.old HA.out hb);have HB:=ze (zy.old HB.out hb);have HC:=ze (zy.old HC.out hb);have HX:=ze (zy.old HX.out hb);have c0:=zf hb c0;have d10:=zf hb d10;have d11:=zf hb d11;have d12:=zf hb d12;have HBL:=ze (zi HBL.out hb HBL.out.size);have d20:=zd (i:=0) hg9 rfl;have d21:=zd (i:=1) hg9 rfl;have d22:=zd (i:=2) hg9 rfl;clear hb hg9 hk9)
  have hT:=kU _ C q y4 HC.out (by have:=HLC.out;omega);rw[HF3.out,HI3.out]at hT;unfold ye zq at hT;refine hT.mono ?_;rintro e y5 ⟨rfl,hb⟩;have hB14:=ze (zi hB13.out hb hB13.out.size);have HA:=ze (zy.old HA.out hb);have HB:=ze (zy.old HB.out hb);have HC:=ze (zy.old HC.out hb);have HX:=ze (zy.old HX.out hb);have c0:=zf hb c0;have d10:=zf hb d10;have d11:=zf hb d11;have d12:=zf hb d12;have d20:=zf hb d20;have d21:=zf hb d21;have d22:=zf hb d22;have HBL:=ze (zi HBL.out hb HBL.out.size);clear hb hT
  go_wp2_with (refine zB rfl 28 _ _ rfl _ #[.string ⟨p3.toArray⟩,.bool x3,.string ⟨t3.toArray⟩] rfl rfl _ _ (heap_alloc_new _ _) 3 Tryz.sizeFile rfl rfl (by simp[Value.oneCell']) ?_;intro y6 hg9 hk9;have hb:Below y5.heap.size y5 y6:=((Below.refl _ y5).alloc (Nat.le_refl _) _).trans (hk9.below (by simp) (fun j hj e=>by omega));have hB15:=ze (zi hB14.out hb hB14.out.size);have HA:=ze (zy.old HA.out hb);have HB:=ze (zy.old HB.out hb);have HC:=ze (zy.old HC.out hb);have HX:=ze (zy.old HX.out hb);have c0:=zf hb c0;have d10:=zf hb d10;have d11:=zf hb d11;have d12:=zf hb d12;have d20:=zf hb d20;have d21:=zf hb d21;have d22:=zf hb d22;have HBL:=ze (zi HBL.out hb HBL.out.size);have d30:=zd (i:=0) hg9 rfl;have d31:=zd (i:=1) hg9 rfl;have d32:=zd (i:=2) hg9 rfl;clear hb hg9 hk9)
  have hT:=kU _ X q y6 HX.out (by have:=HM2.out.len;omega);rw[HF4.out,HI4.out]at hT;unfold ye zq at hT;refine hT.mono ?_;rintro e y7 ⟨rfl,hb⟩;have hB16:=ze (zi hB15.out hb hB15.out.size);have HA:=ze (zy.old HA.out hb);have HB:=ze (zy.old HB.out hb);have HC:=ze (zy.old HC.out hb);have HX:=ze (zy.old HX.out hb);have c0:=zf hb c0;have d10:=zf hb d10;have d11:=zf hb d11;have d12:=zf hb d12;have d20:=zf hb d20;have d21:=zf hb d21;have d22:=zf hb d22;have d30:=zf hb d30;have d31:=zf hb d31;have d32:=zf hb d32;have HBL:=ze (zi HBL.out hb HBL.out.size);clear hb hT
  by_cases e12:((p1,x1,t1):zg)=(p2,x2,t2)
  case pos=>
   have g1:zz A q=zz B q:=(zdQ HTA.out HTB.out q).1 (by rw[HF1.out,HF2.out,e12]);have g2:=HQ.out.1 g1
   have g3:i1=i2:=by rw[<-HI1.out,<-HI2.out,g1]
   have g4:i4=i3:=by rw[<-HI4.out,<-HI3.out,g2]
   have g5:((p4,x4,t4):zg)=(p3,x3,t3):=by rw[<-HF4.out,<-HF3.out,g2]
   have E1:=zhd p1 t1 p2 t2 x1 x2;rw[show(((p1,x1,t1):zg)==(p2,x2,t2))=true from beq_iff_eq.2 e12]at E1;have E2:=zho p4 t4 p3 t3 x4 x3;rw[show(((p4,x4,t4):zg) !=(p3,x3,t3))=false by rw[g5];exact bne_self_eq_false _]at E2;clear g1 g2 g5 HQ HF1 HF2 HF3 HF4 HI1 HI2 HI3 HI4 e12;subst g3;subst g4;have E3:(i1==i1)=true:=beq_self_eq_true _;have E4:(i4==i4)=true:=beq_self_eq_true _
   go_wp2_with (refine zB rfl 28 _ _ rfl _ #[.string ⟨p4.toArray⟩,.bool x4,.string ⟨t4.toArray⟩] rfl rfl _ _ (heap_alloc_new _ _) 3 Tryz.sizeFile rfl rfl (by simp[Value.oneCell']) ?_;intro y8 hg9 hk9;have hb:Below y7.heap.size y7 y8:=((Below.refl _ y7).alloc (Nat.le_refl _) _).trans (hk9.below (by simp) (fun j hj e=>by omega));have hB17:=ze (zi hB16.out hb hB16.out.size);have HA:=ze (zy.old HA.out hb);have HB:=ze (zy.old HB.out hb);have HC:=ze (zy.old HC.out hb);have HX:=ze (zy.old HX.out hb);have c0:=zf hb c0;have d10:=zf hb d10;have d11:=zf hb d11;have d12:=zf hb d12;have d20:=zf hb d20;have d21:=zf hb d21;have d22:=zf hb d22;have d30:=zf hb d30;have d31:=zf hb d31;have d32:=zf hb d32;have HBL:=ze (zi HBL.out hb HBL.out.size);have d40:=zd (i:=0) hg9 rfl;have d41:=zd (i:=1) hg9 rfl;have d42:=zd (i:=2) hg9 rfl;clear hb hg9 hk9)
   go_roundg (L.length-(k+1))
   case measure=>omega
   case rel=>exact⟨k+1,by go_num,ze ⟨by omega,rfl⟩,HBL⟩
  have E12:=zhd p1 t1 p2 t2 x1 x2;rw[show(((p1,x1,t1):zg)==(p2,x2,t2))=false from beq_false_of_ne e12]at E12;clear e12
  by_cases e13:((p1,x1,t1):zg)=(p3,x3,t3)
  case pos=>
   have g1:zz A q=zz C q:=(zdQ HTA.out HTC.out q).1 (by rw[HF1.out,HF3.out,e13]);have g2:=HQ.out.2.1 g1
   have g3:i1=i3:=by rw[<-HI1.out,<-HI3.out,g1]
   have g4:i4=i2:=by rw[<-HI4.out,<-HI2.out,g2]
   have g5:((p4,x4,t4):zg)=(p2,x2,t2):=by rw[<-HF4.out,<-HF2.out,g2]
   have E1:=zhd p1 t1 p3 t3 x1 x3;rw[show(((p1,x1,t1):zg)==(p3,x3,t3))=true from beq_iff_eq.2 e13]at E1;have E2:=zho p4 t4 p2 t2 x4 x2;rw[show(((p4,x4,t4):zg) !=(p2,x2,t2))=false by rw[g5];exact bne_self_eq_false _]at E2;clear g1 g2 g5 HQ HF1 HF2 HF3 HF4 HI1 HI2 HI3 HI4 e13;subst g3;subst g4;have E3:(i1==i1)=true:=beq_self_eq_true _;have E4:(i4==i4)=true:=beq_self_eq_true _
   go_wp2_with (refine zB rfl 28 _ _ rfl _ #[.string ⟨p4.toArray⟩,.bool x4,.string ⟨t4.toArray⟩] rfl rfl _ _ (heap_alloc_new _ _) 3 Tryz.sizeFile rfl rfl (by simp[Value.oneCell']) ?_;intro y8 hg9 hk9;have hb:Below y7.heap.size y7 y8:=((Below.refl _ y7).alloc (Nat.le_refl _) _).trans (hk9.below (by simp) (fun j hj e=>by omega));have hB17:=ze (zi hB16.out hb hB16.out.size);have HA:=ze (zy.old HA.out hb);have HB:=ze (zy.old HB.out hb);have HC:=ze (zy.old HC.out hb);have HX:=ze (zy.old HX.out hb);have c0:=zf hb c0;have d10:=zf hb d10;have d11:=zf hb d11;have d12:=zf hb d12;have d20:=zf hb d20;have d21:=zf hb d21;have d22:=zf hb d22;have d30:=zf hb d30;have d31:=zf hb d31;have d32:=zf hb d32;have HBL:=ze (zi HBL.out hb HBL.out.size);have d40:=zd (i:=0) hg9 rfl;have d41:=zd (i:=1) hg9 rfl;have d42:=zd (i:=2) hg9 rfl;clear hb hg9 hk9)
   go_roundg (L.length-(k+1))
   case measure=>omega
   case rel=>exact⟨k+1,by go_num,ze ⟨by omega,rfl⟩,HBL⟩
  have E13:=zhd p1 t1 p3 t3 x1 x3;rw[show(((p1,x1,t1):zg)==(p3,x3,t3))=false from beq_false_of_ne e13]at E13;clear e13
  by_cases e23:((p2,x2,t2):zg)=(p3,x3,t3)
  case pos=>
   have g1:zz B q=zz C q:=(zdQ HTB.out HTC.out q).1 (by rw[HF2.out,HF3.out,e23]);have g2:=HQ.out.2.2 g1
   have g3:i2=i3:=by rw[<-HI2.out,<-HI3.out,g1]
   have g4:i4=i2:=by rw[<-HI4.out,<-HI2.out,g2]
   have g5:((p4,x4,t4):zg)=(p2,x2,t2):=by rw[<-HF4.out,<-HF2.out,g2]
   have E1:=zhd p2 t2 p3 t3 x2 x3;rw[show(((p2,x2,t2):zg)==(p3,x3,t3))=true from beq_iff_eq.2 e23]at E1;have E2:=zho p4 t4 p2 t2 x4 x2;rw[show(((p4,x4,t4):zg) !=(p2,x2,t2))=false by rw[g5];exact bne_self_eq_false _]at E2;clear g1 g2 g5 HQ HF1 HF2 HF3 HF4 HI1 HI2 HI3 HI4 e23;subst g3;subst g4;have E4:(i4==i4)=true:=beq_self_eq_true _
   go_wp2_with (refine zB rfl 28 _ _ rfl _ #[.string ⟨p4.toArray⟩,.bool x4,.string ⟨t4.toArray⟩] rfl rfl _ _ (heap_alloc_new _ _) 3 Tryz.sizeFile rfl rfl (by simp[Value.oneCell']) ?_;intro y8 hg9 hk9;have hb:Below y7.heap.size y7 y8:=((Below.refl _ y7).alloc (Nat.le_refl _) _).trans (hk9.below (by simp) (fun j hj e=>by omega));have hB17:=ze (zi hB16.out hb hB16.out.size);have HA:=ze (zy.old HA.out hb);have HB:=ze (zy.old HB.out hb);have HC:=ze (zy.old HC.out hb);have HX:=ze (zy.old HX.out hb);have c0:=zf hb c0;have d10:=zf hb d10;have d11:=zf hb d11;have d12:=zf hb d12;have d20:=zf hb d20;have d21:=zf hb d21;have d22:=zf hb d22;have d30:=zf hb d30;have d31:=zf hb d31;have d32:=zf hb d32;have HBL:=ze (zi HBL.out hb HBL.out.size);have d40:=zd (i:=0) hg9 rfl;have d41:=zd (i:=1) hg9 rfl;have d42:=zd (i:=2) hg9 rfl;clear hb hg9 hk9)
   go_roundg (L.length-(k+1))
   case measure=>omega
   case rel=>exact⟨k+1,by go_num,ze ⟨by omega,rfl⟩,HBL⟩
  have E23:=zhd p2 t2 p3 t3 x2 x3;rw[show(((p2,x2,t2):zg)==(p3,x3,t3))=false from beq_false_of_ne e23]at E23;clear e23;clear HQ HF1 HF2 HF3 HF4 HI1 HI2 HI3 HI4
  go_wp2_with (refine zB rfl 28 _ _ rfl _ #[.string ⟨p4.toArray⟩,.bool x4,.string ⟨t4.toArray⟩] rfl rfl _ _ (heap_alloc_new _ _) 3 Tryz.sizeFile rfl rfl (by simp[Value.oneCell']) ?_;intro y8 hg9 hk9;have hb:Below y7.heap.size y7 y8:=((Below.refl _ y7).alloc (Nat.le_refl _) _).trans (hk9.below (by simp) (fun j hj e=>by omega));have hB17:=ze (zi hB16.out hb hB16.out.size);have HA:=ze (zy.old HA.out hb);have HB:=ze (zy.old HB.out hb);have HC:=ze (zy.old HC.out hb);have HX:=ze (zy.old HX.out hb);have c0:=zf hb c0;have d10:=zf hb d10;have d11:=zf hb d11;have d12:=zf hb d12;have d20:=zf hb d20;have d21:=zf hb d21;have d22:=zf hb d22;have d30:=zf hb d30;have d31:=zf hb d31;have d32:=zf hb d32;have HBL:=ze (zi HBL.out hb HBL.out.size);have d40:=zd (i:=0) hg9 rfl;have d41:=zd (i:=1) hg9 rfl;have d42:=zd (i:=2) hg9 rfl;clear hb hg9 hk9)
  go_roundg (L.length-(k+1))
  case measure=>omega
  case rel=>exact⟨k+1,by go_num,ze ⟨by omega,rfl⟩,HBL⟩
end
theorem own:ownKnob Tryz.prog.godebug=none:=by kernel_rfl
theorem laidOut:laidOutB Tryz.prog=true:=by kernel_rfl
theorem laid_met(os:Os):laidMet Tryz.prog Rows.treemergePathsRow.laid ((zfA os).forCall (fun _ _ =>0) ⟨#[],#[.slice none 0 0,.slice none 0 0,.slice none 0 0,.string ByteArray.empty],[]⟩).memory:=
 laidMet_of_run' 8 (by kernel_rfl) (by kernel_rfl)
theorem reads(os:Os){H:Type}(enc:TypeId × Value->H):∃places,DataW.whole enc Tryz.prog ((zfA os).forCall (fun _ _ =>0) ⟨#[],#[.slice none 0 0,.slice none 0 0,.slice none 0 0,.string ByteArray.empty],[]⟩).memory Tryz.f5.params.toList Rows.treemergePathsSpec.vars false (#[.slice none 0 0,.slice none 0 0,.slice none 0 0,.string ByteArray.empty]:Array Value).toList 8=some ([.nil,.nil,.nil,.lit (.string [])],[],places):=
 ⟨[],by kernel_rfl⟩
theorem contract(H:Type)(enc:TypeId × Value->H)(W:World)(base:Nat)(args:Array Value)(ds gs:List (DataW H))(before:List MemPlace)
  (hval:∀ (j:Nat) t v,Tryz.f5.params[j]? =some t->args[j]? =some v->Value.okWide Tryz.prog W .any base t v)
  (hW:DataW.Whole enc Tryz.prog Tryz.f5.params.toList Rows.treemergePathsSpec.vars false W args.toList ds gs before) (_hL:laidMetH Tryz.prog Rows.treemergePathsRow.laid W):
  Calls Tryz.prog 5 args W fun e W'=>∃v,e= .returned v/\Rows.treemergePathsSpec.post enc Tryz.prog Tryz.f5 false true false false W args v W':=by
 have hW':=hW;obtain⟨p,q,hA0,hV,rfl,hfz,hnd⟩:=hW;have hA:DataW.TrodAll enc Tryz.prog W 0 (fun _ =>true) true Tryz.f5.params.toList args.toList ds p:=hA0;rw[Tryz.params5]at hA hval;obtain⟨v0,vs0,d0,ds0,p0,q0,hargs,rfl,rfl,h0,r0⟩:=trodAll_cons hA;obtain⟨v1,vs1,d1,ds1,p1,q1,rfl,rfl,rfl,h1,r1⟩:=trodAll_cons r0;obtain⟨v2,vs2,d2,ds2,p2,q2,rfl,rfl,rfl,h2,r2⟩:=trodAll_cons r1;obtain⟨v3,vs3,d3,ds3,p3,q3,rfl,rfl,rfl,h3,r3⟩:=trodAll_cons r2;obtain⟨rfl,rfl,rfl⟩:=trodAll_nil r3
 obtain rfl:args= #[v0,v1,v2,v3]:=by cases args;simp_all
 obtain⟨rfl,rfl⟩:=trodVars_none hV;have k0:=h0
 have lt0:∀x∈p0,x.block<W.heap.size:=by obtain⟨m,hm⟩:=k0;exact DataW.trod_lt m _ _ _ hm
 obtain⟨x0,l0,c0,rfl⟩:=okWide_slice Tryz.underlying22 (hval 0 22 v0 rfl rfl)
 obtain⟨a0,w0⟩:∃a,zaa W (.slice x0 l0 c0) a:=by
  obtain⟨fuel,hf⟩:=h0;obtain⟨v',a,hcs,hs⟩:=zdR hf
  obtain rfl:v'= .slice x0 l0 c0:=by simpa[Value.cells]using hcs.symm
  exact⟨a,hs⟩
 have k1:=h1
 have lt1:∀x∈p1,x.block<W.heap.size:=by obtain⟨m,hm⟩:=k1;exact DataW.trod_lt m _ _ _ hm
 obtain⟨x1,l1,c1,rfl⟩:=okWide_slice Tryz.underlying22 (hval 1 22 v1 rfl rfl)
 obtain⟨a1,w1⟩:∃a,zaa W (.slice x1 l1 c1) a:=by
  obtain⟨fuel,hf⟩:=h1;obtain⟨v',a,hcs,hs⟩:=zdR hf
  obtain rfl:v'= .slice x1 l1 c1:=by simpa[Value.cells]using hcs.symm
  exact⟨a,hs⟩
 have k2:=h2
 have lt2:∀x∈p2,x.block<W.heap.size:=by obtain⟨m,hm⟩:=k2;exact DataW.trod_lt m _ _ _ hm
 obtain⟨x2,l2,c2,rfl⟩:=okWide_slice Tryz.underlying22 (hval 2 22 v2 rfl rfl)
 obtain⟨a2,w2⟩:∃a,zaa W (.slice x2 l2 c2) a:=by
  obtain⟨fuel,hf⟩:=h2;obtain⟨v',a,hcs,hs⟩:=zdR hf
  obtain rfl:v'= .slice x2 l2 c2:=by simpa[Value.cells]using hcs.symm
  exact⟨a,hs⟩
 have k3:=h3
 have lt3:∀x∈p3,x.block<W.heap.size:=by obtain⟨m,hm⟩:=k3;exact DataW.trod_lt m _ _ _ hm
 obtain⟨a3,rfl,_,_,w3⟩:=zrK Tryz.underlying9 (hval 3 9 v3 rfl rfl) h3;clear hA0
 refine(walk (.slice x0 l0 c0) a0 (.slice x1 l1 c1) a1 (.slice x2 l2 c2) a2 a3 W w0 w1 w2 w3).mono fun e W' ⟨he,bel⟩=>?_
 subst he;exact⟨_,rfl,_,_,_,[],_,[],hW',trodAll_mk1 (shut_bool Tryz.underlying4 _),(trodAll_cons_mk (Below.trod laidOut (by kernel_rfl) (of_decide_eq_true (by kernel_rfl)) k0 bel lt0) (trodAll_cons_mk (Below.trod laidOut (by kernel_rfl) (of_decide_eq_true (by kernel_rfl)) k1 bel lt1) (trodAll_cons_mk (Below.trod laidOut (by kernel_rfl) (of_decide_eq_true (by kernel_rfl)) k2 bel lt2) (trodAll_cons_mk (Below.trod laidOut (by kernel_rfl) (of_decide_eq_true (by kernel_rfl)) k3 bel lt3) trodAll_mk0)))),rfl,bel.frame _,fun h=>by cases h⟩
theorem lifted(os:Os)(started:os.Started)(H:Type)(enc:TypeId × Value->H)(F:Stop.Interp):
  ReturnsInHanded {} Tryz.checked os 5 .any ((OpenSpec.ofChange Rows.treemergePathsSpec).preRow enc Tryz.prog Tryz.f5 Rows.treemergePathsRow.domain false Rows.treemergePathsRow.laid) (((OpenSpec.ofChange Rows.treemergePathsSpec).at F).post enc Tryz.prog Tryz.f5 false true false false):=by
 obtain⟨places,hx⟩:=reads os enc;refine returnsInHanded_of_row (C:=Tryz.checked) (s:=OpenSpec.ofChange Rows.treemergePathsSpec) own started (by kernel_rfl) Tryz.func5
  (witness_row_at (enc:=enc) (C:=Tryz.checked) false (zfA os) #[.slice none 0 0,.slice none 0 0,.slice none 0 0,.string ByteArray.empty] rfl (by kernel_rfl) (by kernel_rfl) (by kernel_rfl)
   (OpenSpec.preRow_of_cond 8 hx (by kernel_rfl) (fun k hk=>by cases hk) (by kernel_rfl) (laid_met os))) ?_
 intro W base args ds gs before hval hW _ _ _ hL _ _;exact contract H enc W base args ds gs before hval hW hL
theorem said:Rows.TreemergePathsSaid:=
 OpenClaim.holds_of_cond 5 Tryz.f5 rfl rfl rfl rfl rfl rfl rfl ⟨rfl,rfl,rfl,rfl,rfl⟩ rfl rfl rfl rfl rfl (by kernel_rfl) Tryz.func5 (by kernel_rfl)
  (of_decide_eq_true (by kernel_rfl)) (by unfold Func.isWrapper;first |(rw[if_pos (by decide +kernel)];kernel_rfl) |(rw[if_neg (by decide +kernel)];exact⟨rfl,rfl⟩))
  (fun os started H enc _ F=>by rw[OpenClaim.pre_eq_preRow];exact lifted os started H enc F)
theorem plain(f:FuncId)(fn:Func)(hf:Tryz.pinned.checked.prog.funcNamed "rick/ricklaw14.TreemergePaths" =some f)(hfn:Tryz.pinned.checked.prog.funcs[f]? =some fn):
  false=Tryz.pinned.checked.prog.looks []/\∀ (j:Nat) t,fn.params[j]? =some t->Tryz.pinned.checked.prog.wantsStandIn t=false:=by
 obtain rfl:f=5:=Option.some.inj ((show Tryz.prog.funcNamed "rick/ricklaw14.TreemergePaths" =some 5 by kernel_rfl).symm.trans hf) |>.symm
 obtain rfl:fn=Tryz.f5:=(Option.some.inj (Tryz.func5.symm.trans hfn)).symm;refine⟨by kernel_rfl,fun j t ht=>?_⟩;rw[Tryz.params5]at ht;have hm:=Array.mem_of_getElem? ht;simp only[List.mem_toArray,List.mem_cons,List.not_mem_nil,or_false]at hm
 rcases hm with rfl |rfl |rfl |rfl
 ·exact(show Tryz.prog.wantsStandIn 22=false by kernel_rfl)
 ·exact(show Tryz.prog.wantsStandIn 22=false by kernel_rfl)
 ·exact(show Tryz.prog.wantsStandIn 22=false by kernel_rfl)
 ·exact(show Tryz.prog.wantsStandIn 9=false by kernel_rfl)
theorem proved:Rows.TreemergePathsCardSaid:=
 Claim7.holds_tied_plain_at .later [] _ _ _ _ said (fun _ h=>by cases h) (by kernel_rfl) (fun _ h=>by cases h) treemergePaths_row_tie rfl ⟨rfl,rfl⟩ (by kernel_rfl) rfl plain (by kernel_rfl)
#print axioms proved
end Go.Proofs.YtbnafihigoekeaaGreatDoor.treemergePaths

/-
  TmTl, part 47.
-/
import Derived.Test.YtbnafihigoekeaaGreatDoorZt45
import Derived.Test.YtbnafihigoekeaaGreatDoorZt27
import Derived.Test.YtbnafihigoekeaaGreatDoorZt46
set_option maxRecDepth 100000
set_option maxHeartbeats 4000000
namespace Go.Proofs.YtbnafihigoekeaaGreatDoor.treemergeTells
open Go.ChangeShapes Go.WideShapes Go.ChangeAt Go.RowKit
open BigFrame
section
theorem walk(va:Value)(l:List zg)(vb:Value)(m:List zg)(vc:Value)(n:List zg)(raw:Bool)(w:World)(ha:zaa w va l)(hb:zaa w vb m)(hc:zaa w vc n):
  Calls Tryz.prog 3 #[va,vb,vc,.bool raw] w fun e w'=>e= .returned (.bool true)/\Below w.heap.size w w':=by
 have HA:=ze ha.1;have HB:=ze hb.1;have HC:=ze hc.1;have HFA:=ze (zjy va l w ha.1 ha.2.1);have HFB:=ze (zjy vb m w hb.1 hb.2.1);have HFC:=ze (zjy vc n w hc.1 hc.2.1);have HAW:=ze (fun wy:World=>zfI wy);have HB0:=ze (Below.refl w.heap.size w);clear ha hb hc
 go_enter Tryz.func3,Tryz.ntmps3
 go_wp2_with fail;refine HFA.out.mono ?_;rintro e _ ⟨⟨b,rfl,hf⟩,rfl⟩
 cases b with
 |false=>
  clear hf
  go_wp2_with (go_at_call 11;refine(HAW.out _).mono ?_;rintro e w2 ⟨rfl,hb2⟩;have HB2:=ze (zi HB0.out hb2 HB0.out.size);clear hb2)
  go_ret;exact⟨rfl,HB2.out⟩
 |true=>
 have HLA:=ze (hf rfl);clear hf;go_wp2_with fail;refine HFB.out.mono ?_;rintro e _ ⟨⟨b,rfl,hf⟩,rfl⟩
 cases b with
 |false=>
  clear hf
  go_wp2_with (go_at_call 11;refine(HAW.out _).mono ?_;rintro e w2 ⟨rfl,hb2⟩;have HB2:=ze (zi HB0.out hb2 HB0.out.size);clear hb2)
  go_ret;exact⟨rfl,HB2.out⟩
 |true=>
 have HLB:=ze (hf rfl);clear hf;go_wp2_with fail;refine HFC.out.mono ?_;rintro e _ ⟨⟨b,rfl,hf⟩,rfl⟩
 cases b with
 |false=>
  clear hf
  go_wp2_with (go_at_call 11;refine(HAW.out _).mono ?_;rintro e w2 ⟨rfl,hb2⟩;have HB2:=ze (zi HB0.out hb2 HB0.out.size);clear hb2)
  go_ret;exact⟨rfl,HB2.out⟩
 |true=>
 have HLC:=ze (hf rfl);clear hf;clear HFA HFB HFC
 cases raw with
 |true=>
  obtain⟨ao,ac,rfl⟩:=zy.form HA.out;obtain⟨bo,bc,rfl⟩:=zy.form HB.out;obtain⟨co,cc,rfl⟩:=zy.form HC.out;have HEQ:=ze (show(tmT l m n).1.length<=100/\(tmT l m n).2.1.length<=300 from znD);obtain⟨⟨X,C0,n0⟩,hX⟩:∃y,tmT l m n=y:=⟨_,rfl⟩;rw[hX]at HEQ;have HXE:=ze hX;clear hX;go_wp2_with fail;have hT:=zkA _ m ([55,49],false,[]) w HB.out (by have:=HLB.out.1;omega);rw[show(jh.enc ([55,49],false,[])).toArray= #[.string ⟨#[55,49]⟩,.bool false,.string ⟨#[]⟩]from rfl]at hT;refine hT.mono ?_;rintro e x1 ⟨g,hg,rfl,ho,hb⟩;have hB1:=ze (zi HB0.out hb HB0.out.size);have HA:=ze (zy.old HA.out hb);have HB:=ze (zy.old HB.out hb);have HC:=ze (zy.old HC.out hb);have HOC:=ze ho;clear hb hT ho hg;have HIN:=ze HOC.out.sl;go_wp2_with fail;have hT:=zda _ _ _ _ _ _ x1 HA.out HIN.out HC.out (fun h f hf=>Nat.le_trans (HLA.out.2 h.texts f hf) (by decide)) (fun h f hf=>Nat.le_trans (HLB.out.2 h.texts f hf) (by decide)) (fun h f hf=>Nat.le_trans (HLC.out.2 h.texts f hf) (by decide));rw[HXE.out]at hT;refine hT.mono ?_;rintro e x2 ⟨x,y,rfl,hx,hy,hb⟩;have hB2:=ze (zi hB1.out hb hB1.out.size);have HA:=ze (zy.old HA.out hb);have HB:=ze (zy.old HB.out hb);have HC:=ze (zy.old HC.out hb);have HOC:=ze (HOC.out.old hb);have HIN:=ze (zy.old HIN.out hb);have HX:=ze hx;have HP:=ze hy;obtain⟨xo2,xc2,rfl⟩:=zy.form hx;obtain⟨yo2,yc2,rfl⟩:=zy.form hy;clear hb hT hx hy;clear HIN;go_wp2_with fail;have hT:=zgh _ _ _ _ _ _ x2 HA.out HB.out HC.out (fun h f hf=>Nat.le_trans (HLA.out.2 h.texts f hf) (by decide)) (fun h f hf=>Nat.le_trans (HLB.out.2 h.texts f hf) (by decide)) (fun h f hf=>Nat.le_trans (HLC.out.2 h.texts f hf) (by decide));rw[HXE.out]at hT;refine hT.mono ?_;rintro e x3 ⟨x,y,rfl,hx,hy,hb⟩;have hB3:=ze (zi hB2.out hb hB2.out.size);have HA:=ze (zy.old HA.out hb);have HB:=ze (zy.old HB.out hb);have HC:=ze (zy.old HC.out hb);have HOC:=ze (HOC.out.old hb);have HX:=ze (zy.old HX.out hb);have HP:=ze (zy.old HP.out hb);have HY:=ze hx;have HQ:=ze hy;obtain⟨xo3,xc3,rfl⟩:=zy.form hx;obtain⟨yo3,yc3,rfl⟩:=zy.form hy;clear hb hT hx hy;go_wp2_with fail;have hT:=zfI x3;refine hT.mono ?_;rintro e x4 ⟨rfl,hb⟩;have hB4:=ze (zi hB3.out hb hB3.out.size);have HA:=ze (zy.old HA.out hb);have HB:=ze (zy.old HB.out hb);have HC:=ze (zy.old HC.out hb);have HOC:=ze (HOC.out.old hb);have HX:=ze (zy.old HX.out hb);have HP:=ze (zy.old HP.out hb);have HY:=ze (zy.old HY.out hb);have HQ:=ze (zy.old HQ.out hb);clear hb hT;go_wp2_with fail;have hT:=zem _ _ X X x4 HX.out HY.out (Nat.le_trans HEQ.out.1 (by decide));rw[show(X==X)=true by simp]at hT;refine hT.mono ?_;rintro e x5 ⟨rfl,hb⟩;have hB5:=ze (zi hB4.out hb hB4.out.size);have HA:=ze (zy.old HA.out hb);have HB:=ze (zy.old HB.out hb);have HC:=ze (zy.old HC.out hb);have HOC:=ze (HOC.out.old hb);have HX:=ze (zy.old HX.out hb);have HP:=ze (zy.old HP.out hb);have HY:=ze (zy.old HY.out hb);have HQ:=ze (zy.old HQ.out hb);clear hb hT;go_wp2_with fail;have hT:=zhu _ _ C0 C0 x5 HP.out HQ.out (Nat.le_trans HEQ.out.2 (by decide));rw[show(C0==C0)=true by simp]at hT;refine hT.mono ?_;rintro e x6 ⟨rfl,hb⟩;have hB6:=ze (zi hB5.out hb hB5.out.size);have HA:=ze (zy.old HA.out hb);have HB:=ze (zy.old HB.out hb);have HC:=ze (zy.old HC.out hb);have HOC:=ze (HOC.out.old hb);have HX:=ze (zy.old HX.out hb);have HP:=ze (zy.old HP.out hb);have HY:=ze (zy.old HY.out hb);have HQ:=ze (zy.old HQ.out hb);clear hb hT;go_wp2_with fail;have hT:=zjb g _ m ([55,49],false,[]) x6 HOC.out HB.out (by have:=HLB.out.1;omega);rw[show(jh.enc ([55,49],false,[])).toArray= #[.string ⟨#[55,49]⟩,.bool false,.string ⟨#[]⟩]from rfl]at hT;refine hT.mono ?_;rintro e x7 ⟨rfl,hb⟩;have hB7:=ze (zi hB6.out hb hB6.out.size);have HA:=ze (zy.old HA.out hb);have HB:=ze (zy.old HB.out hb);have HC:=ze (zy.old HC.out hb);have HOC:=ze (HOC.out.old hb);have HX:=ze (zy.old HX.out hb);have HP:=ze (zy.old HP.out hb);have HY:=ze (zy.old HY.out hb);have HQ:=ze (zy.old HQ.out hb);clear hb hT;go_wp2_with fail;go_ret;exact⟨rfl,hB7.out⟩
 |false=>
  obtain⟨A,hA⟩:∃y,zcA l=y:=⟨_,rfl⟩;have HTA:=ze (show zT A by rw[<-hA];exact(qJ l).1);have HLA:=ze (show A.length<=30 by rw[<-hA];exact(qJ l).2.1);have HPA:=ze (show ∀f∈A,f.2.2.length<=3000 by rw[<-hA];exact fun f hf=>Nat.le_trans ((qJ l).2.2 f hf) (by decide));have HEA:=ze hA;clear hA;obtain⟨B,hB⟩:∃y,zcA m=y:=⟨_,rfl⟩;have HTB:=ze (show zT B by rw[<-hB];exact(qJ m).1);have HLB:=ze (show B.length<=30 by rw[<-hB];exact(qJ m).2.1);have HPB:=ze (show ∀f∈B,f.2.2.length<=3000 by rw[<-hB];exact fun f hf=>Nat.le_trans ((qJ m).2.2 f hf) (by decide));have HEB:=ze hB;clear hB;obtain⟨C,hC⟩:∃y,zcA n=y:=⟨_,rfl⟩;have HTC:=ze (show zT C by rw[<-hC];exact(qJ n).1);have HLC:=ze (show C.length<=30 by rw[<-hC];exact(qJ n).2.1);have HPC:=ze (show ∀f∈C,f.2.2.length<=3000 by rw[<-hC];exact fun f hf=>Nat.le_trans ((qJ n).2.2 f hf) (by decide));have HEC:=ze hC;clear hC;go_wp2_with fail;have hT:=zfK _ l w HA.out;rw[HEA.out]at hT;refine hT.mono ?_;rintro e x1 ⟨u,rfl,ho,hb⟩;have hB1:=ze (zi HB0.out hb HB0.out.size);have HA:=ze (zy.old HA.out hb);have HB:=ze (zy.old HB.out hb);have HC:=ze (zy.old HC.out hb);have HA:=ze ho.sl;obtain⟨uo1,uc1,rfl⟩:=zl ho;clear hb hT ho;go_wp2_with fail;have hT:=zfK _ m x1 HB.out;rw[HEB.out]at hT;refine hT.mono ?_;rintro e x2 ⟨u,rfl,ho,hb⟩;have hB2:=ze (zi hB1.out hb hB1.out.size);have HA:=ze (zy.old HA.out hb);have HB:=ze (zy.old HB.out hb);have HC:=ze (zy.old HC.out hb);have HB:=ze ho.sl;obtain⟨uo2,uc2,rfl⟩:=zl ho;clear hb hT ho;go_wp2_with fail;have hT:=zfK _ n x2 HC.out;rw[HEC.out]at hT;refine hT.mono ?_;rintro e x3 ⟨u,rfl,ho,hb⟩;have hB3:=ze (zi hB2.out hb hB2.out.size);have HA:=ze (zy.old HA.out hb);have HB:=ze (zy.old HB.out hb);have HC:=ze (zy.old HC.out hb);have HC:=ze ho.sl;obtain⟨uo3,uc3,rfl⟩:=zl ho;clear hb hT ho;clear HEA HEB HEC;have HEQ:=ze (show(tmT A B C).1.length<=100/\(tmT A B C).2.1.length<=300 from znD);obtain⟨⟨X,C0,n0⟩,hX⟩:∃y,tmT A B C=y:=⟨_,rfl⟩;rw[hX]at HEQ;have HXE:=ze hX;clear hX;go_wp2_with fail;have hT:=zkA _ B ([55,49],false,[]) x3 HB.out (by have:=HLB.out;omega);rw[show(jh.enc ([55,49],false,[])).toArray= #[.string ⟨#[55,49]⟩,.bool false,.string ⟨#[]⟩]from rfl]at hT;refine hT.mono ?_;rintro e x4 ⟨g,hg,rfl,ho,hb⟩;have hB4:=ze (zi hB3.out hb hB3.out.size);have HA:=ze (zy.old HA.out hb);have HB:=ze (zy.old HB.out hb);have HC:=ze (zy.old HC.out hb);have HOC:=ze ho;clear hb hT ho hg;have HIN:=ze HOC.out.sl;go_wp2_with fail;have hT:=zda _ _ _ _ _ _ x4 HA.out HIN.out HC.out (fun _ =>HPA.out) (fun _ =>HPB.out) (fun _ =>HPC.out);rw[HXE.out]at hT;refine hT.mono ?_;rintro e x5 ⟨x,y,rfl,hx,hy,hb⟩;have hB5:=ze (zi hB4.out hb hB4.out.size);have HA:=ze (zy.old HA.out hb);have HB:=ze (zy.old HB.out hb);have HC:=ze (zy.old HC.out hb);have HOC:=ze (HOC.out.old hb);have HIN:=ze (zy.old HIN.out hb);have HX:=ze hx;have HP:=ze hy;obtain⟨xo5,xc5,rfl⟩:=zy.form hx;obtain⟨yo5,yc5,rfl⟩:=zy.form hy;clear hb hT hx hy;clear HIN;go_wp2_with fail;have hT:=zgh _ _ _ _ _ _ x5 HA.out HB.out HC.out (fun _ =>HPA.out) (fun _ =>HPB.out) (fun _ =>HPC.out);rw[HXE.out]at hT;refine hT.mono ?_;rintro e x6 ⟨x,y,rfl,hx,hy,hb⟩;have hB6:=ze (zi hB5.out hb hB5.out.size);have HA:=ze (zy.old HA.out hb);have HB:=ze (zy.old HB.out hb);have HC:=ze (zy.old HC.out hb);have HOC:=ze (HOC.out.old hb);have HX:=ze (zy.old HX.out hb);have HP:=ze (zy.old HP.out hb);have HY:=ze hx;have HQ:=ze hy;obtain⟨xo6,xc6,rfl⟩:=zy.form hx;obtain⟨yo6,yc6,rfl⟩:=zy.form hy;clear hb hT hx hy;go_wp2_with fail;have hT:=zfI x6;refine hT.mono ?_;rintro e x7 ⟨rfl,hb⟩;have hB7:=ze (zi hB6.out hb hB6.out.size);have HA:=ze (zy.old HA.out hb);have HB:=ze (zy.old HB.out hb);have HC:=ze (zy.old HC.out hb);have HOC:=ze (HOC.out.old hb);have HX:=ze (zy.old HX.out hb);have HP:=ze (zy.old HP.out hb);have HY:=ze (zy.old HY.out hb);have HQ:=ze (zy.old HQ.out hb);clear hb hT;go_wp2_with fail;have hT:=zem _ _ X X x7 HX.out HY.out (Nat.le_trans HEQ.out.1 (by decide));rw[show(X==X)=true by simp]at hT;refine hT.mono ?_;rintro e x8 ⟨rfl,hb⟩;have hB8:=ze (zi hB7.out hb hB7.out.size);have HA:=ze (zy.old HA.out hb)
  have HB:=ze (zy.old HB.out hb);have HC:=ze (zy.old HC.out hb);have HOC:=ze (HOC.out.old hb);have HX:=ze (zy.old HX.out hb);have HP:=ze (zy.old HP.out hb);have HY:=ze (zy.old HY.out hb);have HQ:=ze (zy.old HQ.out hb);clear hb hT;go_wp2_with fail;have hT:=zhu _ _ C0 C0 x8 HP.out HQ.out (Nat.le_trans HEQ.out.2 (by decide));rw[show(C0==C0)=true by simp]at hT;refine hT.mono ?_;rintro e x9 ⟨rfl,hb⟩;have hB9:=ze (zi hB8.out hb hB8.out.size);have HA:=ze (zy.old HA.out hb);have HB:=ze (zy.old HB.out hb);have HC:=ze (zy.old HC.out hb);have HOC:=ze (HOC.out.old hb);have HX:=ze (zy.old HX.out hb);have HP:=ze (zy.old HP.out hb);have HY:=ze (zy.old HY.out hb);have HQ:=ze (zy.old HQ.out hb);clear hb hT;go_wp2_with fail;have hT:=zjb g _ B ([55,49],false,[]) x9 HOC.out HB.out (by have:=HLB.out;omega);rw[show(jh.enc ([55,49],false,[])).toArray= #[.string ⟨#[55,49]⟩,.bool false,.string ⟨#[]⟩]from rfl]at hT;refine hT.mono ?_;rintro e x10 ⟨rfl,hb⟩;have hB10:=ze (zi hB9.out hb hB9.out.size);have HA:=ze (zy.old HA.out hb);have HB:=ze (zy.old HB.out hb);have HC:=ze (zy.old HC.out hb);have HOC:=ze (HOC.out.old hb);have HX:=ze (zy.old HX.out hb);have HP:=ze (zy.old HP.out hb);have HY:=ze (zy.old HY.out hb);have HQ:=ze (zy.old HQ.out hb);clear hb hT;go_wp2_with fail;go_ret;exact⟨rfl,hB10.out⟩
end
theorem own:ownKnob Tryz.prog.godebug=none:=by kernel_rfl
theorem laidOut:laidOutB Tryz.prog=true:=by kernel_rfl
theorem laid_met(os:Os):laidMet Tryz.prog Rows.treemergeTellsRow.laid ((zfA os).forCall (fun _ _ =>0) ⟨#[],#[.slice none 0 0,.slice none 0 0,.slice none 0 0,.bool false],[]⟩).memory:=
 laidMet_of_run' 8 (by kernel_rfl) (by kernel_rfl)
theorem reads(os:Os){H:Type}(enc:TypeId × Value->H):∃places,DataW.whole enc Tryz.prog ((zfA os).forCall (fun _ _ =>0) ⟨#[],#[.slice none 0 0,.slice none 0 0,.slice none 0 0,.bool false],[]⟩).memory Tryz.f3.params.toList Rows.treemergeTellsSpec.vars false (#[.slice none 0 0,.slice none 0 0,.slice none 0 0,.bool false]:Array Value).toList 8=some ([.nil,.nil,.nil,.lit (.bool false)],[],places):=
 ⟨[],by kernel_rfl⟩
theorem contract(H:Type)(enc:TypeId × Value->H)(W:World)(base:Nat)(args:Array Value)(ds gs:List (DataW H))(before:List MemPlace)
  (hval:∀ (j:Nat) t v,Tryz.f3.params[j]? =some t->args[j]? =some v->Value.okWide Tryz.prog W .any base t v)
  (hW:DataW.Whole enc Tryz.prog Tryz.f3.params.toList Rows.treemergeTellsSpec.vars false W args.toList ds gs before) (_hL:laidMetH Tryz.prog Rows.treemergeTellsRow.laid W):
  Calls Tryz.prog 3 args W fun e W'=>∃v,e= .returned v/\Rows.treemergeTellsSpec.post enc Tryz.prog Tryz.f3 false true false false W args v W':=by
 have hW':=hW;obtain⟨p,q,hA0,hV,rfl,hfz,hnd⟩:=hW;have hA:DataW.TrodAll enc Tryz.prog W 0 (fun _ =>true) true Tryz.f3.params.toList args.toList ds p:=hA0;rw[Tryz.params3]at hA hval;obtain⟨v0,vs0,d0,ds0,p0,q0,hargs,rfl,rfl,h0,r0⟩:=trodAll_cons hA;obtain⟨v1,vs1,d1,ds1,p1,q1,rfl,rfl,rfl,h1,r1⟩:=trodAll_cons r0;obtain⟨v2,vs2,d2,ds2,p2,q2,rfl,rfl,rfl,h2,r2⟩:=trodAll_cons r1;obtain⟨v3,vs3,d3,ds3,p3,q3,rfl,rfl,rfl,h3,r3⟩:=trodAll_cons r2;obtain⟨rfl,rfl,rfl⟩:=trodAll_nil r3
 obtain rfl:args= #[v0,v1,v2,v3]:=by cases args;simp_all
 obtain⟨rfl,rfl⟩:=trodVars_none hV;have k0:=h0
 have lt0:∀x∈p0,x.block<W.heap.size:=by obtain⟨m,hm⟩:=k0;exact DataW.trod_lt m _ _ _ hm
 obtain⟨x0,l0,c0,rfl⟩:=okWide_slice Tryz.underlying22 (hval 0 22 v0 rfl rfl)
 obtain⟨a0,w0⟩:∃a,zaa W (.slice x0 l0 c0) a:=by
  obtain⟨fuel,hf⟩:=h0;obtain⟨v',a,hcs,hs⟩:=zdR hf
  obtain rfl:v'= .slice x0 l0 c0:=by simpa[Value.cells]using hcs.symm
  exact⟨a,hs⟩
 have k1:=h1
 have lt1:∀x∈p1,x.block<W.heap.size:=by obtain⟨m,hm⟩:=k1;exact DataW.trod_lt m _ _ _ hm
 obtain⟨x1,l1,c1,rfl⟩:=okWide_slice Tryz.underlying22 (hval 1 22 v1 rfl rfl)
 obtain⟨a1,w1⟩:∃a,zaa W (.slice x1 l1 c1) a:=by
  obtain⟨fuel,hf⟩:=h1;obtain⟨v',a,hcs,hs⟩:=zdR hf
  obtain rfl:v'= .slice x1 l1 c1:=by simpa[Value.cells]using hcs.symm
  exact⟨a,hs⟩
 have k2:=h2
 have lt2:∀x∈p2,x.block<W.heap.size:=by obtain⟨m,hm⟩:=k2;exact DataW.trod_lt m _ _ _ hm
 obtain⟨x2,l2,c2,rfl⟩:=okWide_slice Tryz.underlying22 (hval 2 22 v2 rfl rfl)
 obtain⟨a2,w2⟩:∃a,zaa W (.slice x2 l2 c2) a:=by
  obtain⟨fuel,hf⟩:=h2;obtain⟨v',a,hcs,hs⟩:=zdR hf
  obtain rfl:v'= .slice x2 l2 c2:=by simpa[Value.cells]using hcs.symm
  exact⟨a,hs⟩
 have k3:=h3
 have lt3:∀x∈p3,x.block<W.heap.size:=by obtain⟨m,hm⟩:=k3;exact DataW.trod_lt m _ _ _ hm
 obtain⟨a3,rfl,_,_⟩:=open_bool Tryz.underlying4 (hval 3 4 v3 rfl rfl) h3;clear hA0
 refine(walk (.slice x0 l0 c0) a0 (.slice x1 l1 c1) a1 (.slice x2 l2 c2) a2 a3 W w0 w1 w2).mono fun e W' ⟨he,bel⟩=>?_
 subst he;exact⟨_,rfl,_,_,_,[],_,[],hW',trodAll_mk1 (shut_bool Tryz.underlying4 _),(trodAll_cons_mk (Below.trod laidOut (by kernel_rfl) (of_decide_eq_true (by kernel_rfl)) k0 bel lt0) (trodAll_cons_mk (Below.trod laidOut (by kernel_rfl) (of_decide_eq_true (by kernel_rfl)) k1 bel lt1) (trodAll_cons_mk (Below.trod laidOut (by kernel_rfl) (of_decide_eq_true (by kernel_rfl)) k2 bel lt2) (trodAll_cons_mk (Below.trod laidOut (by kernel_rfl) (of_decide_eq_true (by kernel_rfl)) k3 bel lt3) trodAll_mk0)))),rfl,bel.frame _,fun h=>by cases h⟩
theorem lifted(os:Os)(started:os.Started)(H:Type)(enc:TypeId × Value->H)(F:Stop.Interp):
  ReturnsInHanded {} Tryz.checked os 3 .any ((OpenSpec.ofChange Rows.treemergeTellsSpec).preRow enc Tryz.prog Tryz.f3 Rows.treemergeTellsRow.domain false Rows.treemergeTellsRow.laid) (((OpenSpec.ofChange Rows.treemergeTellsSpec).at F).post enc Tryz.prog Tryz.f3 false true false false):=by
 obtain⟨places,hx⟩:=reads os enc;refine returnsInHanded_of_row (C:=Tryz.checked) (s:=OpenSpec.ofChange Rows.treemergeTellsSpec) own started (by kernel_rfl) Tryz.func3
  (witness_row_at (enc:=enc) (C:=Tryz.checked) false (zfA os) #[.slice none 0 0,.slice none 0 0,.slice none 0 0,.bool false] rfl (by kernel_rfl) (by kernel_rfl) (by kernel_rfl)
   (OpenSpec.preRow_of_cond 8 hx (by kernel_rfl) (fun k hk=>by cases hk) (by kernel_rfl) (laid_met os))) ?_
 intro W base args ds gs before hval hW _ _ _ hL _ _;exact contract H enc W base args ds gs before hval hW hL
theorem said:Rows.TreemergeTellsSaid:=
 OpenClaim.holds_of_cond 3 Tryz.f3 rfl rfl rfl rfl rfl rfl rfl ⟨rfl,rfl,rfl,rfl,rfl⟩ rfl rfl rfl rfl rfl (by kernel_rfl) Tryz.func3 (by kernel_rfl)
  (of_decide_eq_true (by kernel_rfl)) (by unfold Func.isWrapper;first |(rw[if_pos (by decide +kernel)];kernel_rfl) |(rw[if_neg (by decide +kernel)];exact⟨rfl,rfl⟩))
  (fun os started H enc _ F=>by rw[OpenClaim.pre_eq_preRow];exact lifted os started H enc F)
theorem plain(f:FuncId)(fn:Func)(hf:Tryz.pinned.checked.prog.funcNamed "rick/ricklaw14.TreemergeTells" =some f)(hfn:Tryz.pinned.checked.prog.funcs[f]? =some fn):
  false=Tryz.pinned.checked.prog.looks []/\∀ (j:Nat) t,fn.params[j]? =some t->Tryz.pinned.checked.prog.wantsStandIn t=false:=by
 obtain rfl:f=3:=Option.some.inj ((show Tryz.prog.funcNamed "rick/ricklaw14.TreemergeTells" =some 3 by kernel_rfl).symm.trans hf) |>.symm
 obtain rfl:fn=Tryz.f3:=(Option.some.inj (Tryz.func3.symm.trans hfn)).symm;refine⟨by kernel_rfl,fun j t ht=>?_⟩;rw[Tryz.params3]at ht;have hm:=Array.mem_of_getElem? ht;simp only[List.mem_toArray,List.mem_cons,List.not_mem_nil,or_false]at hm
 rcases hm with rfl |rfl |rfl |rfl
 ·exact(show Tryz.prog.wantsStandIn 22=false by kernel_rfl)
 ·exact(show Tryz.prog.wantsStandIn 22=false by kernel_rfl)
 ·exact(show Tryz.prog.wantsStandIn 22=false by kernel_rfl)
 ·exact(show Tryz.prog.wantsStandIn 4=false by kernel_rfl)
theorem proved:Rows.TreemergeTellsCardSaid:=
 Claim7.holds_tied_plain_at .later [] _ _ _ _ said (fun _ h=>by cases h) (by kernel_rfl) (fun _ h=>by cases h) treemergeTells_row_tie rfl ⟨rfl,rfl⟩ (by kernel_rfl) rfl plain (by kernel_rfl)
#print axioms proved
end Go.Proofs.YtbnafihigoekeaaGreatDoor.treemergeTells

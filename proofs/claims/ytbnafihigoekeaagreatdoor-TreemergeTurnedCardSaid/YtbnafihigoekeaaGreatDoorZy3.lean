/-
  TmTu, part 3.
-/
import Derived.Test.YtbnafihigoekeaaGreatDoorZt44
import Derived.Test.YtbnafihigoekeaaGreatDoorZt38
import Derived.Test.YtbnafihigoekeaaGreatDoorZt27
import Derived.Test.YtbnafihigoekeaaGreatDoorZy2
set_option maxRecDepth 100000
set_option maxHeartbeats 4000000
namespace Go.Proofs.YtbnafihigoekeaaGreatDoor.treemergeTurned
open Go.ChangeShapes Go.WideShapes Go.ChangeAt Go.RowKit
open BigFrame
section
theorem walk(va:Value)(l:List zg)(vb:Value)(m:List zg)(vc:Value)(n:List zg)(w:World)(ha:zaa w va l)(hb:zaa w vb m)(hc:zaa w vc n):
  Calls Tryz.prog 9 #[va,vb,vc] w fun e w'=>e= .returned (.bool true)/\Below w.heap.size w w':=by
 have HA:=ze ha.1;have HB:=ze hb.1;have HC:=ze hc.1;have HFA:=ze (zjy va l w ha.1 ha.2.1);have HFB:=ze (zjy vb m w hb.1 hb.2.1);have HFC:=ze (zjy vc n w hc.1 hc.2.1);have HAW:=ze (fun wy:World=>zfI wy);have HB0:=ze (Below.refl w.heap.size w);clear ha hb hc
 go_enter Tryz.func9,Tryz.ntmps9
 go_wp2_with fail;refine HFA.out.mono ?_;rintro e _ ⟨⟨b,rfl,hf⟩,rfl⟩
 cases b with
 |false=>
  clear hf
  go_wp2_with (go_at_call 11;refine(HAW.out _).mono ?_;rintro e w2 ⟨rfl,hb2⟩;have HB2:=ze (zi HB0.out hb2 HB0.out.size);clear hb2)
  go_ret;exact⟨rfl,HB2.out⟩
 |true=>
 have HLA:=ze (hf rfl);clear hf;go_wp2_with fail;refine HFB.out.mono ?_;rintro e _ ⟨⟨b,rfl,hf⟩,rfl⟩
 cases b with
 |false=>
  clear hf
  go_wp2_with (go_at_call 11;refine(HAW.out _).mono ?_;rintro e w2 ⟨rfl,hb2⟩;have HB2:=ze (zi HB0.out hb2 HB0.out.size);clear hb2)
  go_ret;exact⟨rfl,HB2.out⟩
 |true=>
 have HLB:=ze (hf rfl);clear hf;go_wp2_with fail;refine HFC.out.mono ?_;rintro e _ ⟨⟨b,rfl,hf⟩,rfl⟩
 cases b with
 |false=>
  clear hf
  go_wp2_with (go_at_call 11;refine(HAW.out _).mono ?_;rintro e w2 ⟨rfl,hb2⟩;have HB2:=ze (zi HB0.out hb2 HB0.out.size);clear hb2)
  go_ret;exact⟨rfl,HB2.out⟩
 |true=>
 have HLC:=ze (hf rfl);clear hf;clear HFA HFB HFC HLA HLB HLC;obtain⟨A,hA⟩:∃y,zcA l=y:=⟨_,rfl⟩;have HTA:=ze (show zT A by rw[<-hA];exact(qJ l).1);have HLA:=ze (show A.length<=30 by rw[<-hA];exact(qJ l).2.1);have HPA:=ze (show ∀f∈A,f.2.2.length<=2000 by rw[<-hA];exact(qJ l).2.2);have HEA:=ze hA;clear hA;obtain⟨B,hB⟩:∃y,zcA m=y:=⟨_,rfl⟩;have HTB:=ze (show zT B by rw[<-hB];exact(qJ m).1);have HLB:=ze (show B.length<=30 by rw[<-hB];exact(qJ m).2.1);have HPB:=ze (show ∀f∈B,f.2.2.length<=2000 by rw[<-hB];exact(qJ m).2.2);have HEB:=ze hB;clear hB;obtain⟨C,hC⟩:∃y,zcA n=y:=⟨_,rfl⟩;have HTC:=ze (show zT C by rw[<-hC];exact(qJ n).1);have HLC:=ze (show C.length<=30 by rw[<-hC];exact(qJ n).2.1);have HPC:=ze (show ∀f∈C,f.2.2.length<=2000 by rw[<-hC];exact(qJ n).2.2);have HEC:=ze hC;clear hC;go_wp2_with fail;have hT:=zfK _ l w HA.out;rw[HEA.out]at hT;refine hT.mono ?_;rintro e x1 ⟨u,rfl,ho,hb⟩;have hB1:=ze (zi HB0.out hb HB0.out.size);have HA:=ze (zy.old HA.out hb);have HB:=ze (zy.old HB.out hb);have HC:=ze (zy.old HC.out hb);have HA:=ze ho.sl;obtain⟨uo1,uc1,rfl⟩:=zl ho;clear hb hT ho;go_wp2_with fail;have hT:=zfK _ m x1 HB.out;rw[HEB.out]at hT;refine hT.mono ?_;rintro e x2 ⟨u,rfl,ho,hb⟩;have hB2:=ze (zi hB1.out hb hB1.out.size);have HA:=ze (zy.old HA.out hb);have HB:=ze (zy.old HB.out hb);have HC:=ze (zy.old HC.out hb);have HB:=ze ho.sl;obtain⟨uo2,uc2,rfl⟩:=zl ho;clear hb hT ho;go_wp2_with fail;have hT:=zfK _ n x2 HC.out;rw[HEC.out]at hT;refine hT.mono ?_;rintro e x3 ⟨u,rfl,ho,hb⟩;have hB3:=ze (zi hB2.out hb hB2.out.size);have HA:=ze (zy.old HA.out hb);have HB:=ze (zy.old HB.out hb);have HC:=ze (zy.old HC.out hb);have HC:=ze ho.sl;obtain⟨uo3,uc3,rfl⟩:=zl ho;clear hb hT ho;clear HEA HEB HEC;obtain⟨X,D,Y,K,hm1,hm2,hm3,hm4⟩:=zsu HTA.out HTB.out HTC.out HLA.out HLB.out HLC.out HPA.out HPB.out HPC.out;have HM1:=ze hm1;have HM2:=ze hm2;have HM3:=ze hm3;have HM4:=ze hm4;clear hm1 hm2 hm3 hm4;go_wp2_with fail;have hT:=zda _ _ _ _ _ _ x3 HA.out HB.out HC.out (fun _ f hf=>Nat.le_trans (HPA.out f hf) (by decide)) (fun _ f hf=>Nat.le_trans (HPB.out f hf) (by decide)) (fun _ f hf=>Nat.le_trans (HPC.out f hf) (by decide));rw[HM1.out]at hT;refine hT.mono ?_;rintro e x4 ⟨y,z,rfl,hy,hz,hb⟩;have hB4:=ze (zi hB3.out hb hB3.out.size);have HA:=ze (zy.old HA.out hb);have HB:=ze (zy.old HB.out hb);have HC:=ze (zy.old HC.out hb);obtain⟨yo4,yc4,rfl⟩:=zy.form hy;obtain⟨zo4,zc4,rfl⟩:=zy.form hz;have HX:=ze hy;clear hb hT hy hz;go_wp2_with fail;have hT:=zda _ _ _ _ _ _ x4 HA.out HC.out HB.out (fun _ f hf=>Nat.le_trans (HPA.out f hf) (by decide)) (fun _ f hf=>Nat.le_trans (HPC.out f hf) (by decide)) (fun _ f hf=>Nat.le_trans (HPB.out f hf) (by decide));rw[HM2.out]at hT;refine hT.mono ?_;rintro e x5 ⟨y,z,rfl,hy,hz,hb⟩;have hB5:=ze (zi hB4.out hb hB4.out.size);have HA:=ze (zy.old HA.out hb);have HB:=ze (zy.old HB.out hb);have HC:=ze (zy.old HC.out hb);have HX:=ze (zy.old HX.out hb);obtain⟨yo5,yc5,rfl⟩:=zy.form hy;obtain⟨zo5,zc5,rfl⟩:=zy.form hz;have HY:=ze hy;clear hb hT hy hz;clear HM1 HM2 HPA HPB HPC;go_wp2_with fail;refine(zeU _ _ _ _ x5 HA.out HB.out HTA.out HTB.out).mono ?_;rintro e x6 ⟨v6,r1,rfl,hx,ho,hb⟩;have hB6:=ze (zi hB5.out hb hB5.out.size);have HA:=ze (zy.old HA.out hb);have HB:=ze (zy.old HB.out hb);have HC:=ze (zy.old HC.out hb);have HX:=ze (zy.old HX.out hb);have HY:=ze (zy.old HY.out hb);obtain⟨vo6,vc6,rfl⟩:=zl ho;have HR1:=ze (show r1=yj A B from zam.only HTA.out.rise HTB.out.rise (Nat.le_trans HLA.out (by decide)) (Nat.le_trans HLB.out (by decide)) hx (zmN HTA.out.rise HTB.out.rise (Nat.le_trans HLA.out (by decide)) (Nat.le_trans HLB.out (by decide))));clear hb hx ho;go_wp2_with fail;refine(zeU _ _ _ _ x6 HA.out HC.out HTA.out HTC.out).mono ?_;rintro e x7 ⟨v7,r2,rfl,hx,ho,hb⟩;have hB7:=ze (zi hB6.out hb hB6.out.size);have HA:=ze (zy.old HA.out hb);have HB:=ze (zy.old HB.out hb);have HC:=ze (zy.old HC.out hb);have HX:=ze (zy.old HX.out hb);have HY:=ze (zy.old HY.out hb);obtain⟨vo7,vc7,rfl⟩:=zl ho;have HR2:=ze (show r2=yj A C from zam.only HTA.out.rise HTC.out.rise (Nat.le_trans HLA.out (by decide)) (Nat.le_trans HLC.out (by decide)) hx (zmN HTA.out.rise HTC.out.rise (Nat.le_trans HLA.out (by decide)) (Nat.le_trans HLC.out (by decide))))
 clear hb hx ho
 by_cases hr:r1=[]/\r2=[]
 case neg=>
  have hl:0<r1.length+r2.length:=by
   rcases r1 with _ |⟨x,r1⟩
   ·rcases r2 with _ |⟨y,r2⟩
    ·exact absurd ⟨rfl,rfl⟩ hr
    ·simp
   ·simp;omega
  have hk1:r1.length<=30:=by rw[HR1.out];exact Nat.le_trans (znM _ _) HLA.out
  have hk2:r2.length<=30:=by rw[HR2.out];exact Nat.le_trans (znM _ _) HLA.out
  have e1:IntKind.i64.wrap ((r1.length:Int) +(r2.length:Int))=(r1.length:Int) +(r2.length:Int):=IntWalk.i64_in _ (by omega);have e2:decide (0 <(r1.length:Int) +(r2.length:Int))=true:=decide_eq_true (by omega);have e3:decide (0<r1.length+r2.length)=true:=decide_eq_true hl
  have e4:¬((r1.length:Int) +(r2.length:Int)<=0):=by omega
  clear hr hk1 hk2
  go_wp2_with (go_at_call 11;refine(HAW.out _).mono ?_;rintro e w2 ⟨rfl,hb2⟩;have HB2:=ze (zi hB7.out hb2 hB7.out.size);clear hb2)
  go_ret;exact⟨rfl,HB2.out⟩
 obtain⟨e1,e2⟩:=hr;subst e1;subst e2;have hm5:=HM4.out HR1.out.symm HR2.out.symm;clear HM4 HR1 HR2
 rcases hm5 with⟨e1,e2,e3⟩ |⟨e1,e2⟩
 case inl=>
  subst e1;subst e2;subst e3;go_wp2_with fail;have hT:=zfI x7;refine hT.mono ?_;rintro e x8 ⟨rfl,hb⟩;have hB8:=ze (zi hB7.out hb hB7.out.size);have HA:=ze (zy.old HA.out hb);have HB:=ze (zy.old HB.out hb);have HC:=ze (zy.old HC.out hb);have HX:=ze (zy.old HX.out hb);have HY:=ze (zy.old HY.out hb);clear hb hT;go_wp2_with fail;have hT:=zem _ _ X X x8 HX.out HY.out (Nat.le_trans HM3.out (by decide));rw[show(X==X)=true by simp]at hT;refine hT.mono ?_;rintro e x9 ⟨rfl,hb⟩;have hB9:=ze (zi hB8.out hb hB8.out.size);have HA:=ze (zy.old HA.out hb);have HB:=ze (zy.old HB.out hb);have HC:=ze (zy.old HC.out hb);have HX:=ze (zy.old HX.out hb);have HY:=ze (zy.old HY.out hb);clear hb hT;go_wp2_with fail;go_ret;exact⟨rfl,hB9.out⟩
 case inr=>
  have n1:0<D.length:=List.length_pos_iff.2 e1;have n2:0<K.length:=List.length_pos_iff.2 e2;clear e1 e2;have n1a:((D.length:Int)==0)=false:=beq_false_of_ne (by omega);have n1b:decide ((D.length:Int)=0)=false:=decide_eq_false (by omega);have n1c:(D.length==0)=false:=beq_false_of_ne (by omega);have n1d:decide (0 <(D.length:Int))=true:=decide_eq_true (by omega);have n1e:decide (0<D.length)=true:=decide_eq_true (by omega);have n1f:¬D=[]:=List.length_pos_iff.1 n1;have n2a:((K.length:Int)==0)=false:=beq_false_of_ne (by omega);have n2b:decide ((K.length:Int)=0)=false:=decide_eq_false (by omega);have n2c:(K.length==0)=false:=beq_false_of_ne (by omega);have n2d:decide (0 <(K.length:Int))=true:=decide_eq_true (by omega);have n2e:decide (0<K.length)=true:=decide_eq_true (by omega);have n2f:¬K=[]:=List.length_pos_iff.1 n2;clear n1 n2;go_wp2_with fail;have hT:=zfI x7;refine hT.mono ?_;rintro e x8 ⟨rfl,hb⟩;have hB8:=ze (zi hB7.out hb hB7.out.size);have HA:=ze (zy.old HA.out hb);have HB:=ze (zy.old HB.out hb);have HC:=ze (zy.old HC.out hb);have HX:=ze (zy.old HX.out hb);have HY:=ze (zy.old HY.out hb);clear hb hT;go_wp2_with fail;go_ret;exact⟨rfl,hB8.out⟩
end
theorem own:ownKnob Tryz.prog.godebug=none:=by kernel_rfl
theorem laidOut:laidOutB Tryz.prog=true:=by kernel_rfl
theorem laid_met(os:Os):laidMet Tryz.prog Rows.treemergeTurnedRow.laid ((zfA os).forCall (fun _ _ =>0) ⟨#[],#[.slice none 0 0,.slice none 0 0,.slice none 0 0],[]⟩).memory:=
 laidMet_of_run' 8 (by kernel_rfl) (by kernel_rfl)
theorem reads(os:Os){H:Type}(enc:TypeId × Value->H):∃places,DataW.whole enc Tryz.prog ((zfA os).forCall (fun _ _ =>0) ⟨#[],#[.slice none 0 0,.slice none 0 0,.slice none 0 0],[]⟩).memory Tryz.f9.params.toList Rows.treemergeTurnedSpec.vars false (#[.slice none 0 0,.slice none 0 0,.slice none 0 0]:Array Value).toList 8=some ([.nil,.nil,.nil],[],places):=
 ⟨[],by kernel_rfl⟩
theorem contract(H:Type)(enc:TypeId × Value->H)(W:World)(base:Nat)(args:Array Value)(ds gs:List (DataW H))(before:List MemPlace)
  (hval:∀ (j:Nat) t v,Tryz.f9.params[j]? =some t->args[j]? =some v->Value.okWide Tryz.prog W .any base t v)
  (hW:DataW.Whole enc Tryz.prog Tryz.f9.params.toList Rows.treemergeTurnedSpec.vars false W args.toList ds gs before) (_hL:laidMetH Tryz.prog Rows.treemergeTurnedRow.laid W):
  Calls Tryz.prog 9 args W fun e W'=>∃v,e= .returned v/\Rows.treemergeTurnedSpec.post enc Tryz.prog Tryz.f9 false true false false W args v W':=by
 have hW':=hW;obtain⟨p,q,hA0,hV,rfl,hfz,hnd⟩:=hW;have hA:DataW.TrodAll enc Tryz.prog W 0 (fun _ =>true) true Tryz.f9.params.toList args.toList ds p:=hA0;rw[Tryz.params9]at hA hval;obtain⟨v0,vs0,d0,ds0,p0,q0,hargs,rfl,rfl,h0,r0⟩:=trodAll_cons hA;obtain⟨v1,vs1,d1,ds1,p1,q1,rfl,rfl,rfl,h1,r1⟩:=trodAll_cons r0;obtain⟨v2,vs2,d2,ds2,p2,q2,rfl,rfl,rfl,h2,r2⟩:=trodAll_cons r1;obtain⟨rfl,rfl,rfl⟩:=trodAll_nil r2
 obtain rfl:args= #[v0,v1,v2]:=by cases args;simp_all
 obtain⟨rfl,rfl⟩:=trodVars_none hV;have k0:=h0
 have lt0:∀x∈p0,x.block<W.heap.size:=by obtain⟨m,hm⟩:=k0;exact DataW.trod_lt m _ _ _ hm
 obtain⟨x0,l0,c0,rfl⟩:=okWide_slice Tryz.underlying22 (hval 0 22 v0 rfl rfl)
 obtain⟨a0,w0⟩:∃a,zaa W (.slice x0 l0 c0) a:=by
  obtain⟨fuel,hf⟩:=h0;obtain⟨v',a,hcs,hs⟩:=zdR hf
  obtain rfl:v'= .slice x0 l0 c0:=by simpa[Value.cells]using hcs.symm
  exact⟨a,hs⟩
 have k1:=h1
 have lt1:∀x∈p1,x.block<W.heap.size:=by obtain⟨m,hm⟩:=k1;exact DataW.trod_lt m _ _ _ hm
 obtain⟨x1,l1,c1,rfl⟩:=okWide_slice Tryz.underlying22 (hval 1 22 v1 rfl rfl)
 obtain⟨a1,w1⟩:∃a,zaa W (.slice x1 l1 c1) a:=by
  obtain⟨fuel,hf⟩:=h1;obtain⟨v',a,hcs,hs⟩:=zdR hf
  obtain rfl:v'= .slice x1 l1 c1:=by simpa[Value.cells]using hcs.symm
  exact⟨a,hs⟩
 have k2:=h2
 have lt2:∀x∈p2,x.block<W.heap.size:=by obtain⟨m,hm⟩:=k2;exact DataW.trod_lt m _ _ _ hm
 obtain⟨x2,l2,c2,rfl⟩:=okWide_slice Tryz.underlying22 (hval 2 22 v2 rfl rfl)
 obtain⟨a2,w2⟩:∃a,zaa W (.slice x2 l2 c2) a:=by
  obtain⟨fuel,hf⟩:=h2;obtain⟨v',a,hcs,hs⟩:=zdR hf
  obtain rfl:v'= .slice x2 l2 c2:=by simpa[Value.cells]using hcs.symm
  exact⟨a,hs⟩
 clear hA0
 refine(walk (.slice x0 l0 c0) a0 (.slice x1 l1 c1) a1 (.slice x2 l2 c2) a2 W w0 w1 w2).mono fun e W' ⟨he,bel⟩=>?_
 subst he;exact⟨_,rfl,_,_,_,[],_,[],hW',trodAll_mk1 (shut_bool Tryz.underlying4 _),(trodAll_cons_mk (Below.trod laidOut (by kernel_rfl) (of_decide_eq_true (by kernel_rfl)) k0 bel lt0) (trodAll_cons_mk (Below.trod laidOut (by kernel_rfl) (of_decide_eq_true (by kernel_rfl)) k1 bel lt1) (trodAll_cons_mk (Below.trod laidOut (by kernel_rfl) (of_decide_eq_true (by kernel_rfl)) k2 bel lt2) trodAll_mk0))),rfl,bel.frame _,fun h=>by cases h⟩
theorem lifted(os:Os)(started:os.Started)(H:Type)(enc:TypeId × Value->H)(F:Stop.Interp):
  ReturnsInHanded {} Tryz.checked os 9 .any ((OpenSpec.ofChange Rows.treemergeTurnedSpec).preRow enc Tryz.prog Tryz.f9 Rows.treemergeTurnedRow.domain false Rows.treemergeTurnedRow.laid) (((OpenSpec.ofChange Rows.treemergeTurnedSpec).at F).post enc Tryz.prog Tryz.f9 false true false false):=by
 obtain⟨places,hx⟩:=reads os enc;refine returnsInHanded_of_row (C:=Tryz.checked) (s:=OpenSpec.ofChange Rows.treemergeTurnedSpec) own started (by kernel_rfl) Tryz.func9
  (witness_row_at (enc:=enc) (C:=Tryz.checked) false (zfA os) #[.slice none 0 0,.slice none 0 0,.slice none 0 0] rfl (by kernel_rfl) (by kernel_rfl) (by kernel_rfl)
   (OpenSpec.preRow_of_cond 8 hx (by kernel_rfl) (fun k hk=>by cases hk) (by kernel_rfl) (laid_met os))) ?_
 intro W base args ds gs before hval hW _ _ _ hL _ _;exact contract H enc W base args ds gs before hval hW hL
theorem said:Rows.TreemergeTurnedSaid:=
 OpenClaim.holds_of_cond 9 Tryz.f9 rfl rfl rfl rfl rfl rfl rfl ⟨rfl,rfl,rfl,rfl,rfl⟩ rfl rfl rfl rfl rfl (by kernel_rfl) Tryz.func9 (by kernel_rfl)
  (of_decide_eq_true (by kernel_rfl)) (by unfold Func.isWrapper;first |(rw[if_pos (by decide +kernel)];kernel_rfl) |(rw[if_neg (by decide +kernel)];exact⟨rfl,rfl⟩))
  (fun os started H enc _ F=>by rw[OpenClaim.pre_eq_preRow];exact lifted os started H enc F)
theorem plain(f:FuncId)(fn:Func)(hf:Tryz.pinned.checked.prog.funcNamed "rick/ricklaw14.TreemergeTurned" =some f)(hfn:Tryz.pinned.checked.prog.funcs[f]? =some fn):
  false=Tryz.pinned.checked.prog.looks []/\∀ (j:Nat) t,fn.params[j]? =some t->Tryz.pinned.checked.prog.wantsStandIn t=false:=by
 obtain rfl:f=9:=Option.some.inj ((show Tryz.prog.funcNamed "rick/ricklaw14.TreemergeTurned" =some 9 by kernel_rfl).symm.trans hf) |>.symm
 obtain rfl:fn=Tryz.f9:=(Option.some.inj (Tryz.func9.symm.trans hfn)).symm;refine⟨by kernel_rfl,fun j t ht=>?_⟩;rw[Tryz.params9]at ht;have hm:=Array.mem_of_getElem? ht;simp only[List.mem_toArray,List.mem_cons,List.not_mem_nil,or_false]at hm
 rcases hm with rfl |rfl |rfl
 ·exact(show Tryz.prog.wantsStandIn 22=false by kernel_rfl)
 ·exact(show Tryz.prog.wantsStandIn 22=false by kernel_rfl)
 ·exact(show Tryz.prog.wantsStandIn 22=false by kernel_rfl)
theorem proved:Rows.TreemergeTurnedCardSaid:=
 Claim7.holds_tied_plain_at .later [] _ _ _ _ said (fun _ h=>by cases h) (by kernel_rfl) (fun _ h=>by cases h) treemergeTurned_row_tie rfl ⟨rfl,rfl⟩ (by kernel_rfl) rfl plain (by kernel_rfl)
#print axioms proved
end Go.Proofs.YtbnafihigoekeaaGreatDoor.treemergeTurned

/-
  TmOn, part 3.
-/
import Derived.Test.YtbnafihigoekeaaGreatDoorZt44
import Derived.Test.YtbnafihigoekeaaGreatDoorZt27
import Derived.Test.YtbnafihigoekeaaGreatDoorZx1
set_option maxRecDepth 100000
set_option maxHeartbeats 4000000
namespace Go.Proofs.YtbnafihigoekeaaGreatDoor.treemergeOne
open Go.ChangeShapes Go.WideShapes Go.ChangeAt Go.RowKit
open BigFrame
section
theorem walk(va:Value)(l:List zg)(vb:Value)(m:List zg)(w:World)(ha:zaa w va l)(hb:zaa w vb m):
  Calls Tryz.prog 4 #[va,vb] w fun e w'=>e= .returned (.bool true)/\Below w.heap.size w w':=by
 have HA:=ze ha.1;have HB:=ze hb.1;have HFA:=ze (zjy va l w ha.1 ha.2.1);have HFB:=ze (zjy vb m w hb.1 hb.2.1);have HAW:=ze (fun wy:World=>zfI wy);have HB0:=ze (Below.refl w.heap.size w);clear ha hb
 go_enter Tryz.func4,Tryz.ntmps4
 go_wp2_with fail;refine HFA.out.mono ?_;rintro e _ ⟨⟨b,rfl,hf⟩,rfl⟩
 cases b with
 |false=>
  clear hf
  go_wp2_with (go_at_call 11;refine(HAW.out _).mono ?_;rintro e w2 ⟨rfl,hb2⟩;have HB2:=ze (zi HB0.out hb2 HB0.out.size);clear hb2)
  go_ret;exact⟨rfl,HB2.out⟩
 |true=>
 have HLA:=ze (hf rfl);clear hf;go_wp2_with fail;refine HFB.out.mono ?_;rintro e _ ⟨⟨b,rfl,hf⟩,rfl⟩
 cases b with
 |false=>
  clear hf
  go_wp2_with (go_at_call 11;refine(HAW.out _).mono ?_;rintro e w2 ⟨rfl,hb2⟩;have HB2:=ze (zi HB0.out hb2 HB0.out.size);clear hb2)
  go_ret;exact⟨rfl,HB2.out⟩
 |true=>
 have HLB:=ze (hf rfl);clear hf;clear HFA HFB HLA HLB;obtain⟨A,hA⟩:∃y,zcA l=y:=⟨_,rfl⟩;have HTA:=ze (show zT A by rw[<-hA];exact(qJ l).1);have HLA:=ze (show A.length<=30 by rw[<-hA];exact(qJ l).2.1);have HPA:=ze (show ∀f∈A,f.2.2.length<=3000 by rw[<-hA];exact fun f hf=>Nat.le_trans ((qJ l).2.2 f hf) (by decide));have HEA:=ze hA;clear hA;obtain⟨B,hB⟩:∃y,zcA m=y:=⟨_,rfl⟩;have HTB:=ze (show zT B by rw[<-hB];exact(qJ m).1);have HLB:=ze (show B.length<=30 by rw[<-hB];exact(qJ m).2.1);have HPB:=ze (show ∀f∈B,f.2.2.length<=3000 by rw[<-hB];exact fun f hf=>Nat.le_trans ((qJ m).2.2 f hf) (by decide));have HEB:=ze hB;clear hB;go_wp2_with fail;have hT:=zfK _ l w HA.out;rw[HEA.out]at hT;refine hT.mono ?_;rintro e x1 ⟨u,rfl,ho,hb⟩;have hB1:=ze (zi HB0.out hb HB0.out.size);have HA:=ze (zy.old HA.out hb);have HB:=ze (zy.old HB.out hb);have HA:=ze ho.sl;obtain⟨uo1,uc1,rfl⟩:=zl ho;clear hb hT ho;go_wp2_with fail;have hT:=zfK _ m x1 HB.out;rw[HEB.out]at hT;refine hT.mono ?_;rintro e x2 ⟨u,rfl,ho,hb⟩;have hB2:=ze (zi hB1.out hb hB1.out.size);have HA:=ze (zy.old HA.out hb);have HB:=ze (zy.old HB.out hb);have HB:=ze ho.sl;obtain⟨uo2,uc2,rfl⟩:=zl ho;clear hb hT ho;clear HEA HEB;have HM1:=ze (jn HTA.out HTB.out);have HM2:=ze (kn HTA.out HTB.out);clear HTA HTB;go_wp2_with fail;have hT:=zda _ _ _ _ _ _ x2 HA.out HA.out HB.out (fun _ =>HPA.out) (fun _ =>HPA.out) (fun _ =>HPB.out);rw[HM1.out]at hT;refine hT.mono ?_;rintro e x3 ⟨y,z,rfl,hy,hz,hb⟩;have hB3:=ze (zi hB2.out hb hB2.out.size);have HA:=ze (zy.old HA.out hb);have HB:=ze (zy.old HB.out hb);obtain⟨yo3,yc3,rfl⟩:=zy.form hy;obtain⟨zo3,zc3,hz1⟩:=zy.form hz;have hz2:z= .slice zo3 0 zc3:=hz1;subst hz2;have HX:=ze hy;clear hb hT hy hz hz1;go_wp2_with fail;have hT:=zda _ _ _ _ _ _ x3 HA.out HB.out HA.out (fun _ =>HPA.out) (fun _ =>HPB.out) (fun _ =>HPA.out);rw[HM2.out]at hT;refine hT.mono ?_;rintro e x4 ⟨y,z,rfl,hy,hz,hb⟩;have hB4:=ze (zi hB3.out hb hB3.out.size);have HA:=ze (zy.old HA.out hb);have HB:=ze (zy.old HB.out hb);have HX:=ze (zy.old HX.out hb);obtain⟨yo4,yc4,rfl⟩:=zy.form hy;obtain⟨zo4,zc4,hz1⟩:=zy.form hz;have hz2:z= .slice zo4 0 zc4:=hz1;subst hz2;have HY:=ze hy;clear hb hT hy hz hz1;go_wp2_with fail;have hT:=zfI x4;refine hT.mono ?_;rintro e x5 ⟨rfl,hb⟩;have hB5:=ze (zi hB4.out hb hB4.out.size);have HA:=ze (zy.old HA.out hb);have HB:=ze (zy.old HB.out hb);have HX:=ze (zy.old HX.out hb);have HY:=ze (zy.old HY.out hb);clear hb hT;go_wp2_with fail;have hT:=zem _ _ B B x5 HX.out HB.out (by have:=HLB.out;omega);rw[show(B==B)=true by simp]at hT;refine hT.mono ?_;rintro e x6 ⟨rfl,hb⟩;have hB6:=ze (zi hB5.out hb hB5.out.size);have HA:=ze (zy.old HA.out hb);have HB:=ze (zy.old HB.out hb);have HX:=ze (zy.old HX.out hb);have HY:=ze (zy.old HY.out hb);clear hb hT;go_wp2_with fail;have hT:=zem _ _ B B x6 HY.out HB.out (by have:=HLB.out;omega);rw[show(B==B)=true by simp]at hT;refine hT.mono ?_;rintro e x7 ⟨rfl,hb⟩;have hB7:=ze (zi hB6.out hb hB6.out.size);have HA:=ze (zy.old HA.out hb);have HB:=ze (zy.old HB.out hb);have HX:=ze (zy.old HX.out hb);have HY:=ze (zy.old HY.out hb);clear hb hT;go_wp2_with fail;go_ret;exact⟨rfl,hB7.out⟩
end
theorem own:ownKnob Tryz.prog.godebug=none:=by kernel_rfl
theorem laidOut:laidOutB Tryz.prog=true:=by kernel_rfl
theorem laid_met(os:Os):laidMet Tryz.prog Rows.treemergeOneRow.laid ((zfA os).forCall (fun _ _ =>0) ⟨#[],#[.slice none 0 0,.slice none 0 0],[]⟩).memory:=
 laidMet_of_run' 8 (by kernel_rfl) (by kernel_rfl)
theorem reads(os:Os){H:Type}(enc:TypeId × Value->H):∃places,DataW.whole enc Tryz.prog ((zfA os).forCall (fun _ _ =>0) ⟨#[],#[.slice none 0 0,.slice none 0 0],[]⟩).memory Tryz.f4.params.toList Rows.treemergeOneSpec.vars false (#[.slice none 0 0,.slice none 0 0]:Array Value).toList 8=some ([.nil,.nil],[],places):=
 ⟨[],by kernel_rfl⟩
theorem contract(H:Type)(enc:TypeId × Value->H)(W:World)(base:Nat)(args:Array Value)(ds gs:List (DataW H))(before:List MemPlace)
  (hval:∀ (j:Nat) t v,Tryz.f4.params[j]? =some t->args[j]? =some v->Value.okWide Tryz.prog W .any base t v)
  (hW:DataW.Whole enc Tryz.prog Tryz.f4.params.toList Rows.treemergeOneSpec.vars false W args.toList ds gs before) (_hL:laidMetH Tryz.prog Rows.treemergeOneRow.laid W):
  Calls Tryz.prog 4 args W fun e W'=>∃v,e= .returned v/\Rows.treemergeOneSpec.post enc Tryz.prog Tryz.f4 false true false false W args v W':=by
 have hW':=hW;obtain⟨p,q,hA0,hV,rfl,hfz,hnd⟩:=hW;have hA:DataW.TrodAll enc Tryz.prog W 0 (fun _ =>true) true Tryz.f4.params.toList args.toList ds p:=hA0;rw[Tryz.params4]at hA hval;obtain⟨v0,vs0,d0,ds0,p0,q0,hargs,rfl,rfl,h0,r0⟩:=trodAll_cons hA;obtain⟨v1,vs1,d1,ds1,p1,q1,rfl,rfl,rfl,h1,r1⟩:=trodAll_cons r0;obtain⟨rfl,rfl,rfl⟩:=trodAll_nil r1
 obtain rfl:args= #[v0,v1]:=by cases args;simp_all
 obtain⟨rfl,rfl⟩:=trodVars_none hV;have k0:=h0
 have lt0:∀x∈p0,x.block<W.heap.size:=by obtain⟨m,hm⟩:=k0;exact DataW.trod_lt m _ _ _ hm
 obtain⟨x0,l0,c0,rfl⟩:=okWide_slice Tryz.underlying22 (hval 0 22 v0 rfl rfl)
 obtain⟨a0,w0⟩:∃a,zaa W (.slice x0 l0 c0) a:=by
  obtain⟨fuel,hf⟩:=h0;obtain⟨v',a,hcs,hs⟩:=zdR hf
  obtain rfl:v'= .slice x0 l0 c0:=by simpa[Value.cells]using hcs.symm
  exact⟨a,hs⟩
 have k1:=h1
 have lt1:∀x∈p1,x.block<W.heap.size:=by obtain⟨m,hm⟩:=k1;exact DataW.trod_lt m _ _ _ hm
 obtain⟨x1,l1,c1,rfl⟩:=okWide_slice Tryz.underlying22 (hval 1 22 v1 rfl rfl)
 obtain⟨a1,w1⟩:∃a,zaa W (.slice x1 l1 c1) a:=by
  obtain⟨fuel,hf⟩:=h1;obtain⟨v',a,hcs,hs⟩:=zdR hf
  obtain rfl:v'= .slice x1 l1 c1:=by simpa[Value.cells]using hcs.symm
  exact⟨a,hs⟩
 clear hA0
 refine(walk (.slice x0 l0 c0) a0 (.slice x1 l1 c1) a1 W w0 w1).mono fun e W' ⟨he,bel⟩=>?_
 subst he;exact⟨_,rfl,_,_,_,[],_,[],hW',trodAll_mk1 (shut_bool Tryz.underlying4 _),(trodAll_cons_mk (Below.trod laidOut (by kernel_rfl) (of_decide_eq_true (by kernel_rfl)) k0 bel lt0) (trodAll_cons_mk (Below.trod laidOut (by kernel_rfl) (of_decide_eq_true (by kernel_rfl)) k1 bel lt1) trodAll_mk0)),rfl,bel.frame _,fun h=>by cases h⟩
theorem lifted(os:Os)(started:os.Started)(H:Type)(enc:TypeId × Value->H)(F:Stop.Interp):
  ReturnsInHanded {} Tryz.checked os 4 .any ((OpenSpec.ofChange Rows.treemergeOneSpec).preRow enc Tryz.prog Tryz.f4 Rows.treemergeOneRow.domain false Rows.treemergeOneRow.laid) (((OpenSpec.ofChange Rows.treemergeOneSpec).at F).post enc Tryz.prog Tryz.f4 false true false false):=by
 obtain⟨places,hx⟩:=reads os enc;refine returnsInHanded_of_row (C:=Tryz.checked) (s:=OpenSpec.ofChange Rows.treemergeOneSpec) own started (by kernel_rfl) Tryz.func4
  (witness_row_at (enc:=enc) (C:=Tryz.checked) false (zfA os) #[.slice none 0 0,.slice none 0 0] rfl (by kernel_rfl) (by kernel_rfl) (by kernel_rfl)
   (OpenSpec.preRow_of_cond 8 hx (by kernel_rfl) (fun k hk=>by cases hk) (by kernel_rfl) (laid_met os))) ?_
 intro W base args ds gs before hval hW _ _ _ hL _ _;exact contract H enc W base args ds gs before hval hW hL
theorem said:Rows.TreemergeOneSaid:=
 OpenClaim.holds_of_cond 4 Tryz.f4 rfl rfl rfl rfl rfl rfl rfl ⟨rfl,rfl,rfl,rfl,rfl⟩ rfl rfl rfl rfl rfl (by kernel_rfl) Tryz.func4 (by kernel_rfl)
  (of_decide_eq_true (by kernel_rfl)) (by unfold Func.isWrapper;first |(rw[if_pos (by decide +kernel)];kernel_rfl) |(rw[if_neg (by decide +kernel)];exact⟨rfl,rfl⟩))
  (fun os started H enc _ F=>by rw[OpenClaim.pre_eq_preRow];exact lifted os started H enc F)
theorem plain(f:FuncId)(fn:Func)(hf:Tryz.pinned.checked.prog.funcNamed "rick/ricklaw14.TreemergeOne" =some f)(hfn:Tryz.pinned.checked.prog.funcs[f]? =some fn):
  false=Tryz.pinned.checked.prog.looks []/\∀ (j:Nat) t,fn.params[j]? =some t->Tryz.pinned.checked.prog.wantsStandIn t=false:=by
 obtain rfl:f=4:=Option.some.inj ((show Tryz.prog.funcNamed "rick/ricklaw14.TreemergeOne" =some 4 by kernel_rfl).symm.trans hf) |>.symm
 obtain rfl:fn=Tryz.f4:=(Option.some.inj (Tryz.func4.symm.trans hfn)).symm;refine⟨by kernel_rfl,fun j t ht=>?_⟩;rw[Tryz.params4]at ht;have hm:=Array.mem_of_getElem? ht;simp only[List.mem_toArray,List.mem_cons,List.not_mem_nil,or_false]at hm
 rcases hm with rfl |rfl
 ·exact(show Tryz.prog.wantsStandIn 22=false by kernel_rfl)
 ·exact(show Tryz.prog.wantsStandIn 22=false by kernel_rfl)
theorem proved:Rows.TreemergeOneCardSaid:=
 Claim7.holds_tied_plain_at .later [] _ _ _ _ said (fun _ h=>by cases h) (by kernel_rfl) (fun _ h=>by cases h) treemergeOne_row_tie rfl ⟨rfl,rfl⟩ (by kernel_rfl) rfl plain (by kernel_rfl)
#print axioms proved
end Go.Proofs.YtbnafihigoekeaaGreatDoor.treemergeOne

/-
  TmDe, part 2.
-/
import Derived.Test.YtbnafihigoekeaaGreatDoorZt44
import Derived.Test.YtbnafihigoekeaaGreatDoorZd1
import Derived.Test.YtbnafihigoekeaaGreatDoorZt27
import Derived.Test.YtbnafihigoekeaaGreatDoorZt46
set_option maxRecDepth 100000
set_option maxHeartbeats 4000000
namespace Go.Proofs.YtbnafihigoekeaaGreatDoor.treemergeDeletes
open Go.ChangeShapes Go.WideShapes Go.ChangeAt Go.RowKit
open BigFrame
section
theorem walk(f:zg)(more:List UInt8)(w:World)(_hf:f.1.length<=maxLen/\f.2.2.length<=maxLen)(_hm:more.length<=maxLen):
  Calls Tryz.prog 7 #[ye f,zq more] w fun e w'=>e= .returned (.bool true)/\Below w.heap.size w w':=by
 clear _hf _hm;obtain⟨p,x,t⟩:=f;have HB0:=ze ((Below.refl _ w).alloc (Nat.le_refl w.heap.size) (.cells #[.string ⟨p.toArray⟩,.bool x,.string ⟨t.toArray⟩] 28));have hg:=heap_alloc_new w (.cells #[.string ⟨p.toArray⟩,.bool x,.string ⟨t.toArray⟩] 28);have c0:=zd (i:=0) hg rfl;have c1:=zd (i:=1) hg rfl;have c2:=zd (i:=2) hg rfl;clear hg;have HAW:=ze (fun wy:World=>zfI wy);unfold ye zq
 go_enter Tryz.func7,Tryz.ntmps7
 go_wp2_with fail;generalize w.alloc (.cells #[.string ⟨p.toArray⟩,.bool x,.string ⟨t.toArray⟩] 28)=W at HB0 c0 c1 c2 ⊢;obtain⟨⟨X,en⟩,hX⟩:∃y,zak [] (p,x,t)=y:=⟨_,rfl⟩;have hT:=zpx _ [] p t x W (zy.nil W);rw[hX]at hT;unfold zq at hT;refine hT.mono ?_;rintro e x1 ⟨u,rfl,ho,hb⟩;have hB1:=ze (zi HB0.out hb HB0.out.size);have c0:=zf hb c0;have c1:=zf hb c1;have c2:=zf hb c2;have HA:=ze ho.sl;obtain⟨uo1,uc1,rfl⟩:=zl ho;clear hb hT ho
 by_cases hen:en=0
 case neg=>
  have e1:((en:Int)==0)=false:=beq_false_of_ne (by omega);have e2:(en==0)=false:=beq_false_of_ne hen;have e3:decide ((en:Int)=0)=false:=decide_eq_false (by omega)
  have e4:¬(en:Int)=0:=by omega
  clear hX
  go_wp2_with (go_at_call 11;refine(HAW.out _).mono ?_;rintro e w2 ⟨rfl,hb2⟩;have HB2:=ze (zi hB1.out hb2 hB1.out.size);clear hb2)
  go_ret;exact⟨rfl,HB2.out⟩
 subst hen;have hd:=zqJ (l:=[]) (f:=(p,x,t)) (by rw[hX]);rw[hX]at hd
 have hX1:X=[(p,x,t)]:=by
  have h1:∀y,y∈X ↔ y=(p,x,t):=fun y=>by have:=hd.2.2 y;simpa using this
  have h2:=hd.1.rise
  cases X with
  |nil=>have:=(h1 (p,x,t)).2 rfl;simp at this
  |cons y r=>
   cases r with
   |nil=>rw[(h1 y).1 (List.mem_cons_self ..)]
   |cons z r=>
    have e1:=(h1 y).1 (List.mem_cons_self ..);have e2:=(h1 z).1 (List.mem_cons_of_mem _ (List.mem_cons_self ..));subst e1;subst e2;have:=(List.pairwise_cons.1 h2).1 _ (List.mem_cons_self ..);rw[jG]at this;cases this
 subst hX1;have HTF:=ze hd.1;clear hd hX
 by_cases h1:t.length<=500
 case neg=>
  have h1i:decide (500 <(t.length:Int))=true:=decide_eq_true (by omega);have h1n:decide (500<t.length)=true:=decide_eq_true (by omega);clear h1
  go_wp2_with (go_at_call 11;refine(HAW.out _).mono ?_;rintro e w2 ⟨rfl,hb2⟩;have HB2:=ze (zi hB1.out hb2 hB1.out.size);clear hb2)
  go_ret;exact⟨rfl,HB2.out⟩
 have h1i:decide (500 <(t.length:Int))=false:=decide_eq_false (by omega);have h1n:decide (500<t.length)=false:=decide_eq_false (by omega)
 by_cases h2:more.length<=100
 case neg=>
  have h2i:decide (100 <(more.length:Int))=true:=decide_eq_true (by omega);have h2n:decide (100<more.length)=true:=decide_eq_true (by omega);clear h2
  go_wp2_with (go_at_call 11;refine(HAW.out _).mono ?_;rintro e w2 ⟨rfl,hb2⟩;have HB2:=ze (zi hB1.out hb2 hB1.out.size);clear hb2)
  go_ret;exact⟨rfl,HB2.out⟩
 have h2i:decide (100 <(more.length:Int))=false:=decide_eq_false (by omega);have h2n:decide (100<more.length)=false:=decide_eq_false (by omega)
 by_cases h3:more=[]
 case pos=>
  subst h3
  go_wp2_with (go_at_call 11;refine(HAW.out _).mono ?_;rintro e w2 ⟨rfl,hb2⟩;have HB2:=ze (zi hB1.out hb2 hB1.out.size);clear hb2)
  go_ret;exact⟨rfl,HB2.out⟩
 have h3b:(more==[])=false:=beq_false_of_ne h3;have hadd:=xm (P:=Tryz.prog) t more (by omega);have HG:=ze (show zT [(p,x,t++more)]from zE (by have:=HTF.out.ok _ (List.mem_cons_self ..);unfold jW at this;rw[Bool.and_eq_true]at this;exact yb this.1 (by simp only[List.length_append];omega)));have HNE:=ze (show((p,x,t):zg)≠ (p,x,t++more)from fun e=>by have e2:t=t++more:=congrArg (fun f:zg=>f.2.2) e;have:=congrArg List.length e2;simp at this;exact h3 this);have HTL:=ze (show t.length<=3000/\(t++more).length<=3000 from⟨by omega,by simp only[List.length_append];omega⟩);have HD1:=ze (zx HTF.out);have HD2:=ze (zp HTF.out HG.out rfl HNE.out);have HD3:=ze (ya HTF.out HG.out rfl HNE.out);obtain⟨T,hT2⟩:∃y,t++more=y:=⟨_,rfl⟩;rw[hT2]at hadd HTL HD2 HD3;clear hT2 h1 h2 h3 HG HNE;go_wp2_with fail;have HG0:=ze (show yM (x1.alloc (.cells #[.string ⟨p.toArray⟩,.bool x,.string ⟨T.toArray⟩] 28)) (.slice (some ⟨x1.heap.size,0,none⟩) 1 1) [(p,x,T)]from zy.one (heap_alloc_new x1 _) rfl);have hb:Below x1.heap.size x1 (x1.alloc (.cells #[.string ⟨p.toArray⟩,.bool x,.string ⟨T.toArray⟩] 28)):=(Below.refl _ x1).alloc (Nat.le_refl _) _;have hB2:=ze (zi hB1.out hb hB1.out.size);have c0:=zf hb c0;have c1:=zf hb c1;have c2:=zf hb c2;have HA:=ze (zy.old HA.out hb);have HG:=HG0;clear hb HG0;generalize x1.alloc (.cells #[.string ⟨p.toArray⟩,.bool x,.string ⟨T.toArray⟩] 28)=Y at *;generalize x1.heap.size=gY at *;have HN:=ze (zy.nil (E:=jh) Y);have hT:=zda _ _ _ _ _ _ Y HA.out HN.out HA.out (fun _ f hf=>by rw[List.mem_singleton.1 hf];exact HTL.out.1) (fun _ f hf=>by cases hf) (fun _ f hf=>by rw[List.mem_singleton.1 hf];exact HTL.out.1);rw[HD1.out]at hT;refine hT.mono ?_;rintro e x3 ⟨y,z,rfl,hy,hz,hb⟩;have hB3:=ze (zi hB2.out hb hB2.out.size);have c0:=zf hb c0;have c1:=zf hb c1;have c2:=zf hb c2;have HA:=ze (zy.old HA.out hb);have HG:=ze (zy.old HG.out hb);have HN:=ze (zy.old HN.out hb);obtain⟨yo3,yc3,hy1⟩:=zy.form hy;obtain⟨zo3,zc3,hz1⟩:=zy.form hz;have hy2:y= .slice yo3 0 yc3:=hy1;have hz2:z= .slice zo3 0 zc3:=hz1;subst hy2;subst hz2;have HX:=ze hy;have HP:=ze hz;clear hb hT hy hz hy1 hz1;clear HX HP;go_wp2_with fail;have hT:=zda _ _ _ _ _ _ x3 HA.out HN.out HG.out (fun _ f hf=>by rw[List.mem_singleton.1 hf];exact HTL.out.1) (fun _ f hf=>by cases hf) (fun _ f hf=>by rw[List.mem_singleton.1 hf];exact HTL.out.2);rw[HD2.out]at hT;refine hT.mono ?_;rintro e x4 ⟨y,z,rfl,hy,hz,hb⟩;have hB4:=ze (zi hB3.out hb hB3.out.size);have c0:=zf hb c0;have c1:=zf hb c1;have c2:=zf hb c2;have HA:=ze (zy.old HA.out hb);have HG:=ze (zy.old HG.out hb);have HN:=ze (zy.old HN.out hb);obtain⟨yo4,yc4,hy1⟩:=zy.form hy;obtain⟨zo4,zc4,hz1⟩:=zy.form hz;have hy2:y= .slice yo4 1 yc4:=hy1;have hz2:z= .slice zo4 1 zc4:=hz1;subst hy2;subst hz2;have HY:=ze hy;have HQ:=ze hz;clear hb hT hy hz hy1 hz1;go_wp2_with fail;have hT:=zda _ _ _ _ _ _ x4 HA.out HG.out HN.out (fun _ f hf=>by rw[List.mem_singleton.1 hf];exact HTL.out.1) (fun _ f hf=>by rw[List.mem_singleton.1 hf];exact HTL.out.2) (fun _ f hf=>by cases hf);rw[HD3.out]at hT;refine hT.mono ?_;rintro e x5 ⟨y,z,rfl,hy,hz,hb⟩;have hB5:=ze (zi hB4.out hb hB4.out.size);have c0:=zf hb c0;have c1:=zf hb c1;have c2:=zf hb c2;have HA:=ze (zy.old HA.out hb);have HG:=ze (zy.old HG.out hb);have HN:=ze (zy.old HN.out hb);have HY:=ze (zy.old HY.out hb);have HQ:=ze (zy.old HQ.out hb);obtain⟨yo5,yc5,hy1⟩:=zy.form hy;obtain⟨zo5,zc5,hz1⟩:=zy.form hz;have hy2:y= .slice yo5 1 yc5:=hy1;have hz2:z= .slice zo5 1 zc5:=hz1;subst hy2;subst hz2;have HZ:=ze hy;have HR:=ze hz;clear hb hT hy hz hy1 hz1;clear HN;have HG0:=ze (show zbE (x5.alloc (.cells #[.string ⟨p.toArray⟩,.int .i64 3,.string ⟨T.toArray⟩] 36)) (.slice (some ⟨x5.heap.size,0,none⟩) 1 1) [(p,3,T)]from zy.one (heap_alloc_new x5 _) rfl);have hb:Below x5.heap.size x5 (x5.alloc (.cells #[.string ⟨p.toArray⟩,.int .i64 3,.string ⟨T.toArray⟩] 36)):=(Below.refl _ x5).alloc (Nat.le_refl _) _;have hB6:=ze (zi hB5.out hb hB5.out.size);have c0:=zf hb c0;have c1:=zf hb c1;have c2:=zf hb c2;have HA:=ze (zy.old HA.out hb);have HG:=ze (zy.old HG.out hb)
 have HY:=ze (zy.old HY.out hb);have HQ:=ze (zy.old HQ.out hb);have HZ:=ze (zy.old HZ.out hb);have HR:=ze (zy.old HR.out hb);have HW:=HG0;clear hb HG0;go_wp2_with fail;generalize x5.alloc (.cells #[.string ⟨p.toArray⟩,.int .i64 3,.string ⟨T.toArray⟩] 36)=V at *;generalize x5.heap.size=gV at *;have hT:=zfI V;refine hT.mono ?_;rintro e x7 ⟨rfl,hb⟩;have hB7:=ze (zi hB6.out hb hB6.out.size);have c0:=zf hb c0;have c1:=zf hb c1;have c2:=zf hb c2;have HA:=ze (zy.old HA.out hb);have HG:=ze (zy.old HG.out hb);have HY:=ze (zy.old HY.out hb);have HQ:=ze (zy.old HQ.out hb);have HZ:=ze (zy.old HZ.out hb);have HR:=ze (zy.old HR.out hb);have HW:=ze (zy.old HW.out hb);clear hb hT;go_wp2_with fail;have hT:=zem _ _ [(p,x,T)] [(p,x,T)] x7 HY.out HG.out (by simp);rw[show(([(p,x,T)]:List zg)==[(p,x,T)])=true by simp]at hT;refine hT.mono ?_;rintro e x8 ⟨rfl,hb⟩;have hB8:=ze (zi hB7.out hb hB7.out.size);have c0:=zf hb c0;have c1:=zf hb c1;have c2:=zf hb c2;have HA:=ze (zy.old HA.out hb);have HG:=ze (zy.old HG.out hb);have HY:=ze (zy.old HY.out hb);have HQ:=ze (zy.old HQ.out hb);have HZ:=ze (zy.old HZ.out hb);have HR:=ze (zy.old HR.out hb);have HW:=ze (zy.old HW.out hb);clear hb hT;go_wp2_with fail;have hT:=zhu _ _ [(p,3,T)] [(p,3,T)] x8 HQ.out HW.out (by simp);rw[show(([(p,3,T)]:List yK)==[(p,3,T)])=true by simp]at hT;refine hT.mono ?_;rintro e x9 ⟨rfl,hb⟩;have hB9:=ze (zi hB8.out hb hB8.out.size);have c0:=zf hb c0;have c1:=zf hb c1;have c2:=zf hb c2;have HA:=ze (zy.old HA.out hb);have HG:=ze (zy.old HG.out hb);have HY:=ze (zy.old HY.out hb);have HQ:=ze (zy.old HQ.out hb);have HZ:=ze (zy.old HZ.out hb);have HR:=ze (zy.old HR.out hb);have HW:=ze (zy.old HW.out hb);clear hb hT;go_wp2_with fail;have hT:=zem _ _ [(p,x,T)] [(p,x,T)] x9 HZ.out HG.out (by simp);rw[show(([(p,x,T)]:List zg)==[(p,x,T)])=true by simp]at hT;refine hT.mono ?_;rintro e x10 ⟨rfl,hb⟩;have hB10:=ze (zi hB9.out hb hB9.out.size);have c0:=zf hb c0;have c1:=zf hb c1;have c2:=zf hb c2;have HA:=ze (zy.old HA.out hb);have HG:=ze (zy.old HG.out hb);have HY:=ze (zy.old HY.out hb);have HQ:=ze (zy.old HQ.out hb);have HZ:=ze (zy.old HZ.out hb);have HR:=ze (zy.old HR.out hb);have HW:=ze (zy.old HW.out hb);clear hb hT;go_wp2_with fail;have hT:=zhu _ _ [(p,3,T)] [(p,3,T)] x10 HR.out HW.out (by simp);rw[show(([(p,3,T)]:List yK)==[(p,3,T)])=true by simp]at hT;refine hT.mono ?_;rintro e x11 ⟨rfl,hb⟩;have hB11:=ze (zi hB10.out hb hB10.out.size);have c0:=zf hb c0;have c1:=zf hb c1;have c2:=zf hb c2;have HA:=ze (zy.old HA.out hb);have HG:=ze (zy.old HG.out hb);have HY:=ze (zy.old HY.out hb);have HQ:=ze (zy.old HQ.out hb);have HZ:=ze (zy.old HZ.out hb);have HR:=ze (zy.old HR.out hb);have HW:=ze (zy.old HW.out hb);clear hb hT;go_wp2_with fail;go_ret;exact⟨rfl,hB11.out⟩
end
theorem own:ownKnob Tryz.prog.godebug=none:=by kernel_rfl
theorem laidOut:laidOutB Tryz.prog=true:=by kernel_rfl
theorem laid_met(os:Os):laidMet Tryz.prog Rows.treemergeDeletesRow.laid ((zfA os).forCall (fun _ _ =>0) ⟨#[],#[.agg #[.string ByteArray.empty,.bool false,.string ByteArray.empty],.string ByteArray.empty],[]⟩).memory:=
 laidMet_of_run' 8 (by kernel_rfl) (by kernel_rfl)
theorem reads(os:Os){H:Type}(enc:TypeId × Value->H):∃places,DataW.whole enc Tryz.prog ((zfA os).forCall (fun _ _ =>0) ⟨#[],#[.agg #[.string ByteArray.empty,.bool false,.string ByteArray.empty],.string ByteArray.empty],[]⟩).memory Tryz.f7.params.toList Rows.treemergeDeletesSpec.vars false (#[.agg #[.string ByteArray.empty,.bool false,.string ByteArray.empty],.string ByteArray.empty]:Array Value).toList 8=some ([.agg [.lit (.string []),.lit (.bool false),.lit (.string [])],.lit (.string [])],[],places):=
 ⟨[],by kernel_rfl⟩
theorem contract(H:Type)(enc:TypeId × Value->H)(W:World)(base:Nat)(args:Array Value)(ds gs:List (DataW H))(before:List MemPlace)
  (hval:∀ (j:Nat) t v,Tryz.f7.params[j]? =some t->args[j]? =some v->Value.okWide Tryz.prog W .any base t v)
  (hW:DataW.Whole enc Tryz.prog Tryz.f7.params.toList Rows.treemergeDeletesSpec.vars false W args.toList ds gs before) (_hL:laidMetH Tryz.prog Rows.treemergeDeletesRow.laid W):
  Calls Tryz.prog 7 args W fun e W'=>∃v,e= .returned v/\Rows.treemergeDeletesSpec.post enc Tryz.prog Tryz.f7 false true false false W args v W':=by
 have hW':=hW;obtain⟨p,q,hA0,hV,rfl,hfz,hnd⟩:=hW;have hA:DataW.TrodAll enc Tryz.prog W 0 (fun _ =>true) true Tryz.f7.params.toList args.toList ds p:=hA0;rw[Tryz.params7]at hA hval;obtain⟨v0,vs0,d0,ds0,p0,q0,hargs,rfl,rfl,h0,r0⟩:=trodAll_cons hA;obtain⟨v1,vs1,d1,ds1,p1,q1,rfl,rfl,rfl,h1,r1⟩:=trodAll_cons r0;obtain⟨rfl,rfl,rfl⟩:=trodAll_nil r1
 obtain rfl:args= #[v0,v1]:=by cases args;simp_all
 obtain⟨rfl,rfl⟩:=trodVars_none hV;have k0:=h0
 have lt0:∀x∈p0,x.block<W.heap.size:=by obtain⟨m,hm⟩:=k0;exact DataW.trod_lt m _ _ _ hm
 obtain⟨a0,rfl,w0⟩:=zs (hval 0 28 v0 rfl rfl) h0;have k1:=h1
 have lt1:∀x∈p1,x.block<W.heap.size:=by obtain⟨m,hm⟩:=k1;exact DataW.trod_lt m _ _ _ hm
 obtain⟨a1,rfl,_,_,w1⟩:=zt Tryz.underlying9 (hval 1 9 v1 rfl rfl) h1;clear hA0
 refine(walk a0 a1 W w0 w1).mono fun e W' ⟨he,bel⟩=>?_
 subst he;exact⟨_,rfl,_,_,_,[],_,[],hW',trodAll_mk1 (shut_bool Tryz.underlying4 _),(trodAll_cons_mk (Below.trod laidOut (by kernel_rfl) (of_decide_eq_true (by kernel_rfl)) k0 bel lt0) (trodAll_cons_mk (Below.trod laidOut (by kernel_rfl) (of_decide_eq_true (by kernel_rfl)) k1 bel lt1) trodAll_mk0)),rfl,bel.frame _,fun h=>by cases h⟩
theorem lifted(os:Os)(started:os.Started)(H:Type)(enc:TypeId × Value->H)(F:Stop.Interp):
  ReturnsInHanded {} Tryz.checked os 7 .any ((OpenSpec.ofChange Rows.treemergeDeletesSpec).preRow enc Tryz.prog Tryz.f7 Rows.treemergeDeletesRow.domain false Rows.treemergeDeletesRow.laid) (((OpenSpec.ofChange Rows.treemergeDeletesSpec).at F).post enc Tryz.prog Tryz.f7 false true false false):=by
 obtain⟨places,hx⟩:=reads os enc;refine returnsInHanded_of_row (C:=Tryz.checked) (s:=OpenSpec.ofChange Rows.treemergeDeletesSpec) own started (by kernel_rfl) Tryz.func7
  (witness_row_at (enc:=enc) (C:=Tryz.checked) false (zfA os) #[.agg #[.string ByteArray.empty,.bool false,.string ByteArray.empty],.string ByteArray.empty] rfl (by kernel_rfl) (by kernel_rfl) (by kernel_rfl)
   (OpenSpec.preRow_of_cond 8 hx (by kernel_rfl) (fun k hk=>by cases hk) (by kernel_rfl) (laid_met os))) ?_
 intro W base args ds gs before hval hW _ _ _ hL _ _;exact contract H enc W base args ds gs before hval hW hL
theorem said:Rows.TreemergeDeletesSaid:=
 OpenClaim.holds_of_cond 7 Tryz.f7 rfl rfl rfl rfl rfl rfl rfl ⟨rfl,rfl,rfl,rfl,rfl⟩ rfl rfl rfl rfl rfl (by kernel_rfl) Tryz.func7 (by kernel_rfl)
  (of_decide_eq_true (by kernel_rfl)) (by unfold Func.isWrapper;first |(rw[if_pos (by decide +kernel)];kernel_rfl) |(rw[if_neg (by decide +kernel)];exact⟨rfl,rfl⟩))
  (fun os started H enc _ F=>by rw[OpenClaim.pre_eq_preRow];exact lifted os started H enc F)
theorem plain(f:FuncId)(fn:Func)(hf:Tryz.pinned.checked.prog.funcNamed "rick/ricklaw14.TreemergeDeletes" =some f)(hfn:Tryz.pinned.checked.prog.funcs[f]? =some fn):
  false=Tryz.pinned.checked.prog.looks []/\∀ (j:Nat) t,fn.params[j]? =some t->Tryz.pinned.checked.prog.wantsStandIn t=false:=by
 obtain rfl:f=7:=Option.some.inj ((show Tryz.prog.funcNamed "rick/ricklaw14.TreemergeDeletes" =some 7 by kernel_rfl).symm.trans hf) |>.symm
 obtain rfl:fn=Tryz.f7:=(Option.some.inj (Tryz.func7.symm.trans hfn)).symm;refine⟨by kernel_rfl,fun j t ht=>?_⟩;rw[Tryz.params7]at ht;have hm:=Array.mem_of_getElem? ht;simp only[List.mem_toArray,List.mem_cons,List.not_mem_nil,or_false]at hm
 rcases hm with rfl |rfl
 ·exact(show Tryz.prog.wantsStandIn 28=false by kernel_rfl)
 ·exact(show Tryz.prog.wantsStandIn 9=false by kernel_rfl)
theorem proved:Rows.TreemergeDeletesCardSaid:=
 Claim7.holds_tied_plain_at .later [] _ _ _ _ said (fun _ h=>by cases h) (by kernel_rfl) (fun _ h=>by cases h) treemergeDeletes_row_tie rfl ⟨rfl,rfl⟩ (by kernel_rfl) rfl plain (by kernel_rfl)
#print axioms proved
end Go.Proofs.YtbnafihigoekeaaGreatDoor.treemergeDeletes

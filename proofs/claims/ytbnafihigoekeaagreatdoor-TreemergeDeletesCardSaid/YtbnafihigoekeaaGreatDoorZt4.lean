/-
  TmTl, part 4.
-/
import Derived.RangeFuncNested
import Derived.RangeFuncBound
import Derived.Shelf.RegionOpen
import Derived.WalkKit
import Derived.OwnWalkIn
import Derived.LoopNIn
import Derived.LoopIn
import Derived.Deep.RegionHeld3
namespace Go.Proofs.YtbnafihigoekeaaGreatDoor
open Go.RowKit
def zge(Q:Exit->Act->World->Prop):Exit->Act->World->Prop
 | .outgrown,_,_ =>False
 | .panic _,_,_ =>False
 |e,a,w=>Q e a w
theorem zge.normal{Q:Exit->Act->World->Prop}{a:Act}{w:World}(h:Q .normal a w):zge Q .normal a w:=h
section
variable{P:Program}{ops:Array Oper}{Q:Exit->Act->World->Prop}{l m:Nat}
theorem zpM{i:Nat}{K:Act->World->Prop}{a:Act}{w:World}(hnd:∀o,ops[i]? =some o->∀c,o.op≠ .defer c)(h:wpOp P ops (zge Q) i K a w):
  wpOpIn (Fence.wide.inRound l) m P ops Q i K a w:=by
 have hno:¬LetsOut (zge Q):=fun⟨_,_,h⟩=>h
 unfold wpOp at h;unfold wpOpIn
 cases ho:ops[i]? with
 |none=>simpa[ho]using h
 |some o=>
  simp only[ho]at h ⊢
  by_cases hw:Region.wanted o (yielded ops a.tmps)=true
  ·simp only[hw,if_true]at h ⊢
   rcases h with h |⟨_,h⟩
   ·refine⟨fun _ _ =>trivial,?_⟩
    rw[Oper.semAt_eq _ _ _ (hnd o ho)];unfold Oper.wp at h;generalize(execOp a.eval o).run P w=r at h ⊢
    cases r with
    |ok n w'=>
     cases n <;> simp only[Oper.upon,Oper.uponIn]at h ⊢
     case value=>exact h
     case skip=>exact h
     case defer=>exact h
     case enter f args=>
      refine⟨(by intro hd;cases hd),CallsIn.inRound l ((callsIn_wide.2 h).mono ?_)⟩;rintro e w2 he
      cases e with
      |returned v=>exact he
      |panicked c=>exact(he:False).elim
      |outgrown=>exact absurd he hno
     case row row args=>
      refine⟨(by intro hd;cases hd),fun c cs _ =>?_⟩;obtain⟨v,w1,r,s⟩:=h c cs;exact⟨v,w1,r,stepsIn_wide.2 s⟩
    |halt x w'=>
     cases x <;> simp only[Oper.upon,Oper.uponIn]at h ⊢
     case panic=>exact(h:False).elim
   ·exact absurd h hno
  ·simp only[hw,if_false,Bool.false_eq_true]at h ⊢
   exact⟨fun _ _ =>trivial,h⟩
theorem ziU(hnd:∀ (i:Nat) (o:Oper),ops[i]? =some o->∀c,o.op≠ .defer c):∀ (fuel:Nat) (listed:Array Bool) (a:Act) (w:World),wpAny P .any ops (zge Q) fuel listed a w->wpAnyIn (Fence.wide.inRound l) m P .any ops Q fuel listed a w
 |0,_,_,_,h=>h
 |fuel+1,_,_,_,h=>⟨h.1,fun i hi=>zpM (hnd i) (wpOp_mono (fun a' w' h'=>ziU hnd fuel _ a' w' h') (h.2 i hi))⟩
theorem zeF{id:Nat}{a:Act}{w:World}(S:World->Prop)(hm:P.follows .mixedOrders=true)(hnd:(ops.all fun o=>match o.op with | .defer _ =>false | _ =>true)=true)
  (h:wpAnyH P .any ops (zge Q) S ops.size (Array.replicate ops.size false) a w.drew):(Code.region id ops true).wpIn (Fence.wide.inRound l) m P Q a w:=by
 refine wpIn_region_any hm (ziU (fun i o ho c hc=>?_) _ _ _ _ (wpAny_of_held _ _ _ _ h));obtain⟨hi,e⟩:=Array.getElem?_eq_some_iff.1 ho;have:=Array.all_eq_true.1 hnd i hi;rw[e,hc]at this;cases this
end
def zlK(P:Program)(gf:Nat)(lb:Array Value)(N:Nat)(enc:Nat->Array Value)(Kp:World->World->Prop)(w:World):Prop:=
 ∀ (l:Nat) (J:Nat->World->Prop) (W:World),Below w.heap.size w W->
  (∀k W1,k<N->J k W1->YieldAt Fence.wide 1 P l (enc k) W1 fun e W'=>e= .returned (.bool true)/\J (k+1) W'/\Kp W1 W')->
  J 0 W->CallsIn Fence.wide 2 P gf (#[.func (.yield l) #[] #[]]++lb) W fun e W'=>(∃v,e= .returned v)/\J N W'
def zhf(B:Nat)(Kp:World->World->Prop)(I:World->Prop)(W:World):Exit->Act->World->Prop
 | .normal,_,W'=>KeepsFrom B W W'/\Kp W W'/\I W'
 | _,_,_ =>False
theorem zbp{P:Program}{g:Operand}{ps:Array Tmp}{assign body:Code}{Q:Exit->Act->World->Prop}{a:Act}{w:World}{gf:Nat}{lb:Array Value}{N:Nat}{enc:Nat->Array Value}{Kp:World->World->Prop}{w0:World}
  (hg:a.eval g= .func (.func gf) #[] lb) (eg:∀args w,(callFunc gf args).run P w= .ok (.enter gf args) w) (hseq:zlK P gf lb N enc Kp w0) (hb0:Below w0.heap.size w0 w) (hps:∀k,(enc k).size=ps.size)
  (hKt:∀ {A B C:World},Kp A B->Kp B C->Kp A C) (hKb:∀ (W:World) (l:Nat) (o:Obj),w.heap.size<=l->l<W.heap.size->Kp W (W.putObj l o))
  (I:Nat->World->Prop) (hI:OwnFrom w.heap.size I) (h0:I 0 w) (a₁:Nat->Act)
  (hassign:∀ (l k:Nat) (W:World) (K:Act->World->Prop),K (a₁ k) W->assign.wpIn (Fence.wide.inRound l) 1 P (Exit.then K (fun _ _ _ =>False)) {tmps:=(ps.zip (enc k)).foldl (fun t (p,v)=>t.setIfInBounds p v) a.tmps,defers:=[] } W)
  (hbody:∀ (l k:Nat) (W:World),k<N->I k W->body.wpIn (Fence.wide.inRound l) 1 P (zhf w.heap.size Kp (I (k+1)) W) (a₁ k) W)
  (hdone:∀ (D:Nat) (W:World),w.heap.size<=D->I N W->W.heap[D]? =some (.deferred (some []))->Q .normal {a with defers:= {target:= .collected D,args:= #[] }::a.defers } W):
  (Code.rangeFunc g ps assign body).wpIn Fence.wide 3 P Q a w:=by
 refine wpIn_rangeFunc fun fn _ =>?_
 have hsz:∀o:Obj,(w.alloc o).heap.size=w.heap.size+1:=fun o=>by simp
 let R:LoopState->Loop:=fun st=> {state:=st,pending:=none,fn,tmps:=a.tmps,params:=ps,assign,body,defers:=w.heap.size }
 obtain⟨W1,hW1⟩:∃W1,(w.alloc (.deferred (some []))).alloc (.loop (R .ready))=W1:=⟨_,rfl⟩
 have rec1:W1.heap[w.heap.size+1]? =some (.loop (R .ready)):=by
  have:=World.alloc_heap_new (w.alloc (.deferred (some []))) (.loop (R .ready));rw[hsz,hW1]at this;exact this
 have def1:W1.heap[w.heap.size]? =some (.deferred (some [])):=by
  rw[<-hW1];exact(Below.heap_alloc _ _ _ (by rw[hsz];omega)).trans (World.alloc_heap_new w _)
 have bel1:Below w0.heap.size w0 W1:=by
  rw[<-hW1];exact hb0.trans (((Below.refl _ w).alloc hb0.size _).alloc (by rw[hsz];have:=hb0.size;omega) _)
 have inv1:I 0 W1:=by
  rw[<-hW1];exact hI.alloc _ (hI.alloc _ h0)
 refine⟨w.heap.size+1,[{target:= .collected w.heap.size,args:= #[] }],W1,{target:= .fn (.func gf) lb,args:= #[.func (.yield (w.heap.size+1)) #[] #[]] },W1,gf,#[.func (.yield (w.heap.size+1)) #[] #[]]++lb,W1,?_,?_,fun _ _ =>trivial,?_,(by intro h;cases h),?_⟩
 ·exact(run_enterLoop_outer fn a.tmps ps assign body).trans (by rw[<-hW1])
 ·simp only[resolve,hg]
  simp[go_sem]
 ·simp[invoke,go_sem,eg]
 ·refine(hseq (w.heap.size+1) (fun k W=>I k W/\W.heap[w.heap.size+1]? =some (.loop (R .ready))/\W.heap[w.heap.size]? =some (.deferred (some []))) W1 bel1 ?_ ⟨inv1,rec1,def1⟩).mono ?_
  ·rintro k W hk ⟨hi,hrec,hdef⟩
   have hlt:=(Array.getElem?_eq_some_iff.1 hrec).1;refine⟨fn,_,assign,body,run_yield hrec (hps k),roundIn_of_wpIn trivial (hassign _ k W _ ⟨_,run_beginRound hrec rfl,?_⟩)⟩;obtain⟨Wb,hWb⟩:∃Wb,W.putObj (w.heap.size+1) (.loop {R .ready with state:= .busy })=Wb:=⟨_,rfl⟩
   have hib:I k Wb:=by
    rw[<-hWb];exact hI.putObj _ hi (by omega) hrec rfl
   have rb:Wb.heap[w.heap.size+1]? =some (.loop {R .ready with state:= .busy }):=by
    rw[<-hWb];exact World.putObj_heap_same hlt
   have db:Wb.heap[w.heap.size]? =some (.deferred (some [])):=by
    rw[<-hWb];exact(World.putObj_heap_other (by omega)).trans hdef
   have kb:Kp W Wb:=by
    rw[<-hWb];exact hKb W _ _ (by omega) hlt
   refine wpIn_mono (show body.wpIn (Fence.wide.inRound (w.heap.size+1)) 1 P (zhf w.heap.size Kp (I (k+1)) Wb) (a₁ k) _ from ?_) ?_
   ·have:=hbody (w.heap.size+1) k Wb hk hib
    rw[<-hWb]at this ⊢;exact this
   ·rintro e a3 W3 hp
    cases e with
    |normal=>
     obtain⟨kf,kp,hi3⟩:=hp;have r3:=kf.same _ _ (by omega) rb rfl;have hlt3:=(Array.getElem?_eq_some_iff.1 r3).1;have d3:=kf.same _ _ (Nat.le_refl _) db rfl;refine⟨_,_,run_endRound none r3,rfl,⟨hI.putObj _ hi3 (by omega) r3 rfl,?_,?_⟩,hKt (hKt kb kp) (hKb _ _ _ (by omega) hlt3)⟩
     ·exact World.putObj_heap_same hlt3
     ·exact(World.putObj_heap_other (by omega)).trans d3
    | _ =>exact(hp:False).elim
  ·rintro e W2 ⟨⟨v,rfl⟩,hi,hrec,hdef⟩
   refine⟨none,_,run_endLoop hrec (by show LoopState.ready≠ .busy;intro h;cases h),?_⟩;exact hdone _ _ (Nat.le_refl _) (hI.putObj _ hi (by omega) hrec rfl) ((World.putObj_heap_other (by omega)).trans hdef)
end Go.Proofs.YtbnafihigoekeaaGreatDoor

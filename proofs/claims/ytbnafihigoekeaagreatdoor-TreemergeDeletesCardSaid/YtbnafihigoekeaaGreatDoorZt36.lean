/-
  TmTl, part 36.
-/
import Derived.Test.YtbnafihigoekeaaGreatDoorZt35
import Derived.Test.YtbnafihigoekeaaGreatDoorZt31
import Derived.Test.YtbnafihigoekeaaGreatDoorZt20
set_option maxRecDepth 100000
set_option maxHeartbeats 4000000
namespace Go.Proofs.YtbnafihigoekeaaGreatDoor
open Go.Sort
def Pr(st:List Int × List Int)(i j:Nat):Prop:=st.1[i]? =some (j:Int)
theorem Pr.keep{st:List Int × List Int}{i j:Nat}(h:Pr st i j)(a b:Nat):Pr (xN st a b) i j:=by
 unfold xN
 split
 ·rename_i hf
  show(st.1.set a (b:Int))[i]? = _
  rw[List.getElem?_set_ne (fun e=>by
   subst e;have:=hf.1.symm.trans h;have:=Option.some.inj this
   omega)]
  exact h
 ·exact h
theorem Pr.made{st:List Int × List Int}{i j a b:Nat}(h:Pr (xN st a b) i j):Pr st i j∨(i=a/\j=b):=by
 unfold xN at h
 split at h
 ·have h:(st.1.set a (b:Int))[i]? =some (j:Int):=h
  rw[List.getElem?_set]at h
  split at h
  ·rename_i e
   split at h
   ·have:=Option.some.inj h
    exact .inr ⟨e.symm,by omega⟩
   ·cases h
  ·exact .inl h
 ·exact .inl h
theorem Pr.all{i j:Nat}:∀ (ms:List MtS) {st:List Int × List Int},Pr st i j->Pr (joinAll st ms) i j
 | [],_,h=>h
 |x::ms,_,h=>Pr.all ms (h.keep x.1 x.2.1)
theorem zhQ{n m:Nat}:∀ (ms:List MtS) (st:List Int × List Int),Inv n m (fun _ _ =>True) st->(∀x∈ms,x.1<n/\x.2.1<m)->∀ (p:Nat) (x:MtS),ms[p]? =some x->
  ∃i j,Pr (joinAll st ms) i j/\(i=x.1∨j=x.2.1)/\(Pr st i j∨∃q y,q<=p/\ms[q]? =some y/\i=y.1/\j=y.2.1)
 | [],_,_,_,p,x,h=>by simp at h
 |y::ms,st,hI,hb,0,x,h=>by
  obtain rfl:y=x:=by simpa using h
  have hy:=hb y (List.mem_cons_self ..)
  by_cases hf:st.1[y.1]? =some (-1)/\st.2[y.2.1]? =some (-1)
  ·refine⟨y.1,y.2.1,Pr.all ms ?_,.inl rfl,.inr ⟨0,y,Nat.le_refl _,rfl,rfl,rfl⟩⟩
   show(xN st y.1 y.2.1).1[y.1]? =some (y.2.1:Int);rw[xN,if_pos hf];show(st.1.set y.1 (y.2.1:Int))[y.1]? = _;rw[List.getElem?_set_self (by rw[hI.len1];exact hy.1)]
  ·by_cases h1:st.1[y.1]? =some (-1)
   ·have h2:st.2[y.2.1]?≠some (-1):=fun e=>hf ⟨h1,e⟩
    obtain⟨z,hz⟩:∃z,st.2[y.2.1]? =some z:=⟨_,List.getElem?_eq_getElem (by rw[hI.len2];exact hy.2)⟩
    rcases hI.val2 _ z hz with e |⟨i,rfl⟩
    ·rw[hz,e]at h2
     exact absurd rfl h2
    ·have hp:Pr st i y.2.1:=hI.bwd _ i hz
     exact⟨i,y.2.1,Pr.all ms (hp.keep _ _),.inr rfl,.inl hp⟩
   ·obtain⟨z,hz⟩:∃z,st.1[y.1]? =some z:=⟨_,List.getElem?_eq_getElem (by rw[hI.len1];exact hy.1)⟩
    rcases hI.val1 _ z hz with e |⟨j,rfl⟩
    ·rw[hz,e]at h1
     exact absurd rfl h1
    ·have hp:Pr st y.1 j:=hz
     exact⟨y.1,j,Pr.all ms (hp.keep _ _),.inl rfl,.inl hp⟩
 |y::ms,st,hI,hb,p+1,x,h=>by
  have hy:=hb y (List.mem_cons_self ..);obtain⟨i,j,h1,h2,h3⟩:=zhQ ms (xN st y.1 y.2.1) (hI.join hy.1 hy.2 trivial) (fun z hz=>hb z (List.mem_cons_of_mem _ hz)) p x (by simpa using h);refine⟨i,j,h1,h2,?_⟩
  rcases h3 with h3 |⟨q,z,e1,e2,e3⟩
  ·rcases h3.made with h4 |⟨rfl,rfl⟩
   ·exact .inl h4
   ·exact .inr ⟨0,y,Nat.zero_le _,rfl,rfl,rfl⟩
  ·exact .inr ⟨q+1,z,by omega,by simpa using e2,e3⟩
def zrs(a b:MtS):Prop:=a.1<b.1∨(a.1=b.1/\a.2.1<b.2.1)
theorem ziN(l:List zg)(ws:List Int)(k:Nat):(yu l ws k).Pairwise fun a b=>a.1<b.1:=by
 unfold yu;rw[List.pairwise_filterMap]
 refine(zfg _).imp fun {i j} hij a ha b hb=>?_
 have e:∀ (i:Nat) (a:TxS),zae l ws i=some a->a.1=i:=fun i a ha=>by
  unfold zae at ha
  split at ha
  ·split at ha
   ·cases ha
    rfl
   ·cases ha
  ·cases ha
 rw[e i a ha,e j b hb];exact hij
theorem zkb{a b:TxS}{x:MtS}(h:zik a b=some x):x.1=a.1/\x.2.1=b.1:=by
 unfold zik at h
 split at h
 ·cases h
  exact⟨rfl,rfl⟩
 ·cases h
theorem zqR{A B:List TxS}(hA:A.Pairwise fun a b=>a.1<b.1)(hB:B.Pairwise fun a b=>a.1<b.1)(k:Nat):(jX A B k).Pairwise zrs:=by
 unfold jX;rw[List.pairwise_flatMap];refine⟨fun a _ =>?_,(hA.sublist (List.take_sublist _ _)).imp fun {a b} hab x hx y hy=>?_⟩
 ·unfold zbq
  rw[List.pairwise_filterMap]
  refine(hB.sublist (List.take_sublist _ _)).imp fun {b c} hbc x hx y hy=>?_
  obtain⟨x1,x2⟩:=zkb hx;obtain⟨y1,y2⟩:=zkb hy;exact .inr ⟨by rw[x1,y1],by rw[x2,y2];exact hbc⟩
 ·obtain⟨c,_,hc⟩:=List.mem_filterMap.1 hx
  obtain⟨e,_,he⟩:=List.mem_filterMap.1 hy;exact .inl (by rw[(zkb hc).1,(zkb he).1];exact hab)
theorem zkJ(x y:MtS):ltOf zgq x y=decide (y.2.2<x.2.2):=by
 unfold ltOf zgq
 split
 ·rename_i h
  rw[decide_eq_true h]
  rfl
 ·rename_i h
  rw[decide_eq_false h]
  split <;> rfl
theorem zrI:SWO (ltOf zgq):=⟨fun x=>by rw[zkJ];simp,fun x y z h1 h2=>by rw[zkJ,decide_eq_true_eq]at *;omega,fun x y z h1 h2=>by rw[zkJ,decide_eq_false_iff_not]at *;omega⟩
theorem zkw{B S:List zg}{st:List Int × List Int}{p q:Nat}{x y:MtS}(hqp:q<p)(hq:(qW B S st)[q]? =some y)(hp:(qW B S st)[p]? =some x):
  x.2.2<y.2.2∨(x.2.2=y.2.2/\zrs y x):=by
 have hl:=zqR (ziN B st.1 B.length) (ziN S st.2 S.length) (yu B st.1 B.length).length;unfold qW at hq hp;generalize jX (yu B st.1 B.length) (yu S st.2 S.length) (yu B st.1 B.length).length=L at hl hq hp
 have h:=zlP zrI L.toArray zrs (fun i j hij hj _ _ =>by
  have hj':j<L.length:=by simpa using hj
  rw[getElem!_pos L.toArray j hj,getElem!_pos L.toArray i (by omega)]
  exact List.pairwise_iff_getElem.1 hl i j (by omega) hj' hij)
 have hs:(zP (ltOf zgq) L.toArray).size=L.toArray.size:=xf _ _;rw[Array.getElem?_toList]at hq hp;obtain⟨p1,p2⟩:=Array.getElem?_eq_some_iff.1 hp;obtain⟨q1,q2⟩:=Array.getElem?_eq_some_iff.1 hq;have hh:=h q p hqp (by rw[<-hs];exact p1);rw[getElem!_pos (zP (ltOf zgq) L.toArray) p p1,getElem!_pos (zP (ltOf zgq) L.toArray) q q1,p2,q2,zkJ,zkJ,decide_eq_false_iff_not,decide_eq_false_iff_not]at hh
 by_cases e:x.2.2<y.2.2
 ·exact .inl e
 ·exact .inr ⟨by omega,hh.2 e⟩
theorem zeO{l m:List zg}(h:yD l){i j:Nat}{x y:zg}(hi:(zu l m)[i]? =some x)(hj:(zu l m)[j]? =some y)(hij:i<j):zcG l x<zcG l y:=
 zph h (yX.1 (List.mem_of_getElem? hi)).1 (yX.1 (List.mem_of_getElem? hj)).1 (qM (qd h) hij hi hj)
theorem zfc{l m:List zg}(tl:yD l)(tm:yD m){x y:zg}(hx:x∈l)(hy:y∈m):
  (x.1,y.1)∈yj l m ↔ ∃i j,(zu l m)[i]? =some x/\(zu m l)[j]? =some y/\Pr (zdF (zu l m) (zu m l)) i j:=by
 constructor
 ·intro h
  obtain⟨i,_,hi⟩:=List.mem_filterMap.1 h;obtain⟨j,x',y',h1,_,hx',hy',he,_⟩:=zfN hi;have e1:x=x':=tl.one hx (yX.1 (List.mem_of_getElem? hx')).1 (Prod.mk.inj he).1;have e2:y=y':=tm.one hy (yX.1 (List.mem_of_getElem? hy')).1 (Prod.mk.inj he).2;subst e1 e2;exact⟨i,j,hx',hy',h1⟩
 ·rintro⟨i,j,h1,h2,h3⟩
  refine List.mem_filterMap.2 ⟨i,List.mem_range.2 (List.getElem?_eq_some_iff.1 h1).1,?_⟩;have h3:(zdF (zu l m) (zu m l)).1[i]? =some (j:Int):=h3;rw[kR,h3]
  dsimp only
  rw[if_neg (by omega),ym h1,Int.toNat_natCast,ym h2]
theorem zpl{B S:List zg}{i j:Nat}(hi:i<B.length)(hj:j<S.length)(ht:(B.getD i zM).2.2=(S.getD j zM).2.2):
  ∃i' j',Pr (zaK B S) i' j'/\((i'=i/\j'<=j)∨(j'=j/\i'<=i))/\zZ B i'=zZ S j':=by
 have hI:=Inv.joinTw (Inv.start B.length S.length (fun i j=>zZ B i=zZ S j)) B.length (Nat.le_refl _)
 change Inv B.length S.length _ (zaK B S)at hI
 have find:∀i j,i<B.length->j<S.length->zZ B i=zZ S j->Pr (zaK B S) i j:=fun i j hi hj he=>by
  rcases zaG (st:=zrZ B S) he hj B.length hi with h |h
  ·change(zaK B S).1[i]?≠some (-1)at h
   obtain⟨z,hz⟩:∃z,(zaK B S).1[i]? =some z:=⟨_,List.getElem?_eq_getElem (by rw[hI.len1];exact hi)⟩
   rcases hI.val1 _ z hz with e |⟨j',rfl⟩
   ·rw[hz,e]at h
    exact absurd rfl h
   ·obtain⟨q1,q2⟩:=hI.fwd i j' hz
    have hj':=(List.getElem?_eq_some_iff.1 q1).1;rw[hI.len2]at hj';rw[<-qT hj' hj (q2.symm.trans he)];exact hz
  ·change(zaK B S).2[j]?≠some (-1)at h
   obtain⟨z,hz⟩:∃z,(zaK B S).2[j]? =some z:=⟨_,List.getElem?_eq_getElem (by rw[hI.len2];exact hj)⟩
   rcases hI.val2 _ z hz with e |⟨i',rfl⟩
   ·rw[hz,e]at h
    exact absurd rfl h
   ·have q0:=hI.bwd j i' hz
    have q2:=(hI.fwd i' j q0).2;have hi':=(List.getElem?_eq_some_iff.1 q0).1;rw[hI.len1]at hi';rw[<-qT hi' hi (q2.trans he.symm)];exact q0
 obtain⟨t,et⟩:∃t,(S.getD j zM).2.2=t:=⟨_,rfl⟩;rw[et]at ht
 by_cases hle:cntT (B.take i) t<=cntT (S.take j) t
 ·obtain⟨j',h1,h2⟩:=zce j hj et _ hle
  have he:zZ B i=zZ S j':=by rw[h2,zZ,ht]
  exact⟨i,j',find i j' hi (by omega) he,.inl ⟨rfl,h1⟩,he⟩
 ·obtain⟨i',h1,h2⟩:=zce i hi ht _ (Nat.le_of_lt (Nat.not_le.1 hle))
  have he:zZ B i'=zZ S j:=by rw[h2,zZ,et]
  exact⟨i',j,find i' j (by omega) hj he,.inr ⟨rfl,h1⟩,he⟩
theorem zmN{l m:List zg}(tl:yD l)(tm:yD m)(hl:l.length<=1000)(hm:m.length<=1000):zam l m (yj l m):=by
 have hok:=zrA tl tm;have hI:=zpc (zu l m) (zu m l);have hI1:=inv1 (zu l m) (zu m l);refine⟨fun p hp=>?_,hok.rise,⟨fun x y h=>?_,fun x y y' h h'=>?_,fun x x' y h h'=>?_,fun x hx y hy lx ly hal=>?_⟩⟩
 ·obtain⟨x,y,h1,h2,h3,h4,_⟩:=hok.there p hp
  exact⟨x,y,h1,h2,h3,h4⟩
 ·obtain⟨x',y',h1,h2,h3,h4,h5,h6,h7⟩:=hok.there _ h.2.2
  have e1:x'=x:=tl.one h1 h.1 h3;have e2:y'=y:=tm.one h2 h.2.1 h4;subst e1 e2;exact⟨h1,h2,h5,h6,h7⟩
 ·obtain⟨i,j,a1,a2,a3⟩:=(zfc tl tm h.1 h.2.1).1 h.2.2
  obtain⟨i',j',b1,b2,b3⟩:=(zfc tl tm h'.1 h'.2.1).1 h'.2.2
  have ei:i=i':=by
   rcases Nat.lt_trichotomy i i' with q |q |q
   ·have:=qM (qd tl) q a1 b1
    rw[jG]at this;cases this
   ·exact q
   ·have:=qM (qd tl) q b1 a1
    rw[jG]at this;cases this
  subst ei;have:=Option.some.inj (a3.symm.trans b3)
  have ej:j=j':=by omega
  subst ej;exact Option.some.inj (a2.symm.trans b2)
 ·obtain⟨i,j,a1,a2,a3⟩:=(zfc tl tm h.1 h.2.1).1 h.2.2
  obtain⟨i',j',b1,b2,b3⟩:=(zfc tl tm h'.1 h'.2.1).1 h'.2.2
  have ej:j=j':=by
   rcases Nat.lt_trichotomy j j' with q |q |q
   ·have:=qM (qd tm) q a2 b2
    rw[jG]at this;cases this
   ·exact q
   ·have:=qM (qd tm) q b2 a2
    rw[jG]at this;cases this
  subst ej;have:=Option.some.inj ((hI.fwd _ _ a3).1.symm.trans (hI.fwd _ _ b3).1)
  have ei:i=i':=by omega
  subst ei;exact Option.some.inj (a1.symm.trans b1)
 ·obtain⟨i,hi⟩:=List.mem_iff_getElem?.1 (yX.2 ⟨hx,lx⟩)
  obtain⟨j,hj⟩:=List.mem_iff_getElem?.1 (yX.2 ⟨hy,ly⟩);have hil:=(List.getElem?_eq_some_iff.1 hi).1;have hjl:=(List.getElem?_eq_some_iff.1 hj).1;have put:∀i' j',Pr (zdF (zu l m) (zu m l)) i' j'->(i'=i∨j'=j)->(∀x' y',(zu l m)[i']? =some x'->(zu m l)[j']? =some y'->zan l m x' y'<=zan l m x y)->
    ∃x' y',(x'∈l/\y'∈m/\(x'.1,y'.1)∈yj l m)/\(x'=x∨y'=y)/\zan l m x' y'<=zan l m x y:=fun i' j' hp hs hk=>by
   have q1:=(List.getElem?_eq_some_iff.1 hp).1;rw[hI.len1]at q1;have q2:=(List.getElem?_eq_some_iff.1 (hI.fwd _ _ hp).1).1;rw[hI.len2]at q2;have g1:=List.getElem?_eq_getElem q1;have g2:=List.getElem?_eq_getElem q2;have m1:=(yX.1 (List.mem_of_getElem? g1)).1;have m2:=(yX.1 (List.mem_of_getElem? g2)).1;refine⟨_,_,⟨m1,m2,(zfc tl tm m1 m2).2 ⟨i',j',g1,g2,hp⟩⟩,?_,hk _ _ g1 g2⟩
   rcases hs with rfl |rfl
   ·exact .inl (Option.some.inj (g1.symm.trans hi))
   ·exact .inr (Option.some.inj (g2.symm.trans hj))
  by_cases he:x.2.2=y.2.2
  ·obtain⟨i',j',h1,h2,h3⟩:=zpl hil hjl (by rw[ym hi,ym hj];exact he)
   refine put i' j' (Pr.all _ h1) (by rcases h2 with h2 |h2 <;> simp[h2.1]) fun x' y' g1 g2=>?_
   have ht:=zfJ h3;rw[ym g1,ym g2]at ht;have m2:=(yX.1 (List.mem_of_getElem? g2)).1;refine zgw m2 hm (by unfold zcp;rw[if_pos ht,if_pos he]) ?_
   rcases h2 with⟨rfl,h2⟩ |⟨rfl,h2⟩
   ·obtain rfl:=Option.some.inj (g1.symm.trans hi)
    refine .inr ⟨rfl,?_⟩
    by_cases e:j'=j
    ·subst e
     rw[Option.some.inj (g2.symm.trans hj)];exact Nat.le_refl _
    ·exact Nat.le_of_lt (zeO tm g2 hj (by omega))
   ·obtain rfl:=Option.some.inj (g2.symm.trans hj)
    by_cases e:i'=i
    ·subst e
     rw[Option.some.inj (g1.symm.trans hi)];exact .inr ⟨rfl,Nat.le_refl _⟩
    ·exact .inl (zeO tl g1 hi (by omega))
  ·have h5:50<=ratioS x.2.2 y.2.2:=hal.resolve_left he
   have hcl:zcp x y=101-ratioS x.2.2 y.2.2:=by unfold zcp;rw[if_neg he]
   have hr1:=zaO x.2.2 y.2.2
   have early:∀i' j',Pr (zaK (zu l m) (zu m l)) i' j'->∀x' y',(zu l m)[i']? =some x'->(zu m l)[j']? =some y'->zan l m x' y'<=zan l m x y:=fun i' j' hp x' y' g1 g2=>by
    have hT:=Inv.joinTw (Inv.start (zu l m).length (zu m l).length (fun i j=>zZ (zu l m) i=zZ (zu m l) j)) (zu l m).length (Nat.le_refl _);have ht:=zfJ (hT.fwd _ _ hp).2;rw[ym g1,ym g2]at ht;refine zff (yX.1 (List.mem_of_getElem? g1)).1 (yX.1 (List.mem_of_getElem? g2)).1 hl hm ?_;rw[hcl];unfold zcp;rw[if_pos ht];omega
   by_cases hf:(zaK (zu l m) (zu m l)).1[i]? =some (-1)/\(zaK (zu l m) (zu m l)).2[j]? =some (-1)
   ·have hin:(i,j,ratioL (zn x.2.2) (zn y.2.2))∈qW (zu l m) (zu m l) (zaK (zu l m) (zu m l)):=
     zbe.2 (zpy (a:=(i,zn x.2.2)) (b:=(j,zn y.2.2)) (zgA hi hf.1) (zgA hj hf.2) (decide_eq_true h5))
    obtain⟨p,hp⟩:=List.mem_iff_getElem?.1 hin;obtain⟨i',j',h1,h2,h3⟩:=zhQ _ _ (hI1.mono fun _ _ _ _ _ =>trivial) (fun z hz=>zfO hz) p _ hp;refine put i' j' h1 h2 ?_
    rcases h3 with h3 |⟨q,z,hq,hz,e1,e2⟩
    ·exact early i' j' h3
    ·intro x' y' g1 g2
     by_cases hqp:q=p
     ·subst hqp
      have:=Option.some.inj (hz.symm.trans hp);subst this;have e1:i'=i:=e1;have e2:j'=j:=e2;subst e1 e2;rw[Option.some.inj (g1.symm.trans hi),Option.some.inj (g2.symm.trans hj)];exact Nat.le_refl _
     ·have hzm:=List.mem_of_getElem? hz
      obtain⟨a,b,ha,hb,_,hzz⟩:=zfn (zbe.1 hzm);obtain⟨f,f1,_,f3,_⟩:=jS ha;obtain⟨g,g3,_,g5,_⟩:=jS hb
      have z1:a.1=i':=by rw[e1,hzz]
      have z2:b.1=j':=by rw[e2,hzz]
      rw[z1,g1]at f1;rw[z2,g2]at g3;obtain rfl:=Option.some.inj f1;obtain rfl:=Option.some.inj g3
      have hzr:z.2.2=ratioS x'.2.2 y'.2.2:=by rw[hzz,f3,g5];rfl
      have hord:=zkw (show q<p by omega) hz hp;have m1:=(yX.1 (List.mem_of_getElem? g1)).1;have m2:=(yX.1 (List.mem_of_getElem? g2)).1;have hr2:=zaO x'.2.2 y'.2.2
      have hcl2:zcp x' y'<=101-ratioS x'.2.2 y'.2.2:=by unfold zcp;split <;> omega
      rcases hord with ho |⟨ho,hx2⟩
      ·refine zff m1 m2 hl hm ?_
       have ho:ratioS x.2.2 y.2.2<z.2.2:=ho;omega
      ·have ho:ratioS x.2.2 y.2.2=z.2.2:=ho
       by_cases hcc:zcp x' y'<zcp x y
       ·exact zff m1 m2 hl hm hcc
       ·refine zgw m2 hm (by omega) ?_
        have hx2:z.1<i∨(z.1=i/\z.2.1<j):=hx2;rw[<-e1,<-e2]at hx2
        rcases hx2 with hx2 |⟨hx2,hx3⟩
        ·exact .inl (zeO tl g1 hi hx2)
        ·subst hx2
         rw[Option.some.inj (g1.symm.trans hi)];exact .inr ⟨rfl,Nat.le_of_lt (zeO tm g2 hj hx3)⟩
   ·by_cases h1:(zaK (zu l m) (zu m l)).1[i]? =some (-1)
    ·obtain⟨z,hz⟩:∃z,(zaK (zu l m) (zu m l)).2[j]? =some z:=⟨_,List.getElem?_eq_getElem (by rw[hI1.len2];exact hjl)⟩
     rcases hI1.val2 _ z hz with e |⟨i',rfl⟩
     ·rw[e]at hz
      exact absurd ⟨h1,hz⟩ hf
     ·have q0:=hI1.bwd j i' hz
      exact put i' j (Pr.all _ q0) (.inr rfl) (early i' j q0)
    ·obtain⟨z,hz⟩:∃z,(zaK (zu l m) (zu m l)).1[i]? =some z:=⟨_,List.getElem?_eq_getElem (by rw[hI1.len1];exact hil)⟩
     rcases hI1.val1 _ z hz with e |⟨j',rfl⟩
     ·rw[e]at hz
      exact absurd hz h1
     ·exact put i j' (Pr.all _ hz) (.inl rfl) (early i j' hz)
structure RP(l m:List zg)(T:List Int)(b:List Bool):Prop where
 len:T.length<=l.length
 lenb:b.length=m.length
 val:∀ (i:Nat) (z:Int),T[i]? =some z->z= -1∨∃j:Nat,z=(j:Int)/\j<m.length
 ok:∀i j:Nat,T[i]? =some (j:Int)->yR m (xP l i)=true/\yR l (xP m j)=true/\zbj (xP l i) (xP m j)
 inj:∀i i' j:Nat,T[i]? =some (j:Int)->T[i']? =some (j:Int)->i=i'
 bval:∀j,j<m.length->(b[j]? =some true ↔ (yR l (xP m j)=true/\∀i:Nat,T[i]?≠some (j:Int)))
def Cov(l m:List zg)(T:List Int)(i j:Nat):Prop:=
 ∃i' j':Nat,T[i']? =some (j':Int)/\(i'=i∨j'=j)/\zan l m (xP l i') (xP m j')<=zan l m (xP l i) (xP m j)
def qG(l m:List zg)(i j:Nat):Prop:=(xP l i).2.2=(xP m j).2.2
structure RP1(l m:List zg)(T:List Int)(b:List Bool):Prop extends RP l m T b where
 twin:∀i j:Nat,T[i]? =some (j:Int)->qG l m i j
 cov:∀i j,i<T.length->j<m.length->yR m (xP l i)=true->yR l (xP m j)=true->qG l m i j->Cov l m T i j
theorem RP1.start(l m:List zg):RP1 l m [] (m.map (yR l)):=
 ⟨⟨Nat.zero_le _,by simp,fun i z h=>by simp at h,fun i j h=>by simp at h,fun i i' j h=>by simp at h,fun j hj=>by
  rw[List.getElem?_map,jZ hj]
  simp⟩,fun i j h=>by simp at h,fun i j h=>by simp at h⟩
theorem zbz{T:List Int}{y z:Int}{i:Nat}(h:(T++[y])[i]? =some z):T[i]? =some z∨(i=T.length/\z=y):=by
 by_cases e:i<T.length
 ·rw[List.getElem?_append_left e]at h
  exact .inl h
 ·rw[List.getElem?_append_right (by omega)]at h
  obtain⟨h1,h2⟩:=List.getElem?_eq_some_iff.1 h;simp only[List.length_singleton]at h1
  have:i-T.length=0:=by omega
  simp only[this,List.getElem_cons_zero]at h2;exact .inr ⟨by omega,h2.symm⟩
theorem zeY{T:List Int}{y z:Int}{i:Nat}(h:T[i]? =some z):(T++[y])[i]? =some z:=by
 rw[List.getElem?_append_left (List.getElem?_eq_some_iff.1 h).1];exact h
theorem zqo(T:List Int)(y:Int):(T++[y])[T.length]? =some y:=by simp
theorem Cov.old{l m:List zg}{T T':List Int}(h:∀ (i j:Nat),T[i]? =some (j:Int)->T'[i]? =some (j:Int)){i j:Nat}(hc:Cov l m T i j):Cov l m T' i j:=by
 obtain⟨i',j',h1,h2,h3⟩:=hc;exact⟨i',j',h _ _ h1,h2,h3⟩
section
variable{l m:List zg}(tl:yD l)(tm:yD m)(hl:l.length<=1000)(hm:m.length<=1000)
include tl tm hm in
theorem zko{i j i' j':Nat}(hi:i<l.length)(hj:j<m.length)(hi':i'<l.length)(hj':j'<m.length)(h:qG l m i j)(h':qG l m i' j')(hx:i'<i∨(i'=i/\j'<=j)):
  zan l m (xP l i') (xP m j')<=zan l m (xP l i) (xP m j):=by
 unfold qG at h h';refine zgw (jN hj') hm ?_ ?_
 ·unfold zcp
  rw[if_pos h,if_pos h']
 ·rw[qm tl (jZ hi),qm tl (jZ hi'),qm tm (jZ hj),qm tm (jZ hj')]
  exact hx
include tl tm hm in
theorem RP1.taken{T:List Int}{b:List Bool}(h:RP1 l m T b){j:Nat}(hi:T.length<l.length)(hj:j<m.length)(h2:yR l (xP m j)=true)(hs:qG l m T.length j)(hb:b[j]?≠some true):Cov l m T T.length j:=by
 have:∃i:Nat,T[i]? =some (j:Int):=by
  refine Classical.byContradiction fun hn=>hb ((h.bval j hj).2 ⟨h2,fun i e=>hn ⟨i,e⟩⟩)
 obtain⟨i,e⟩:=this;have hlt:=(List.getElem?_eq_some_iff.1 e).1;exact⟨i,j,e,.inr rfl,zko tl tm hm hi hj (by omega) hj hs (h.twin _ _ e) (.inl hlt)⟩
include tl tm hm in
theorem RP1.pass{T:List Int}{b:List Bool}(h:RP1 l m T b)(hi:T.length<l.length)(hn:yR m (xP l T.length)=true->∀j,j<m.length->b[j]? =some true->¬qG l m T.length j):RP1 l m (T++[-1]) b:=by
 have old:∀ {i j:Nat},(T++[-1])[i]? =some (j:Int)->T[i]? =some (j:Int):=fun {i j} e=>by
  rcases zbz e with e |⟨_,e⟩
  ·exact e
  ·omega
 refine⟨⟨by simp;omega,h.lenb,fun i z e=>?_,fun i j e=>h.ok i j (old e),fun i i' j e e'=>h.inj i i' j (old e) (old e'),fun j hj=>?_⟩,fun i j e=>h.twin i j (old e),fun i j hi' hj l1 l2 hs=>?_⟩
 ·rcases zbz e with e |⟨_,e⟩
  ·exact h.val i z e
  ·exact .inl e
 ·rw[h.bval j hj]
  exact⟨fun⟨e1,e2⟩=>⟨e1,fun i e=>e2 i (old e)⟩,fun⟨e1,e2⟩=>⟨e1,fun i e=>e2 i (zeY e)⟩⟩
 ·have up:∀ (i j:Nat),T[i]? =some (j:Int)->(T++[-1])[i]? =some (j:Int):=fun _ _ e=>zeY e
  simp only[List.length_append,List.length_singleton]at hi'
  by_cases e:i<T.length
  ·exact(h.cov i j e hj l1 l2 hs).old up
  ·obtain rfl:i=T.length:=by omega
   exact(h.taken tl tm hm hi hj l2 hs fun e=>hn l1 j hj e hs).old up
include tl tm hm in
theorem RP1.pair{T:List Int}{b:List Bool}(h:RP1 l m T b)(hi:T.length<l.length){j:Nat}(hj:j<m.length)(l1:yR m (xP l T.length)=true)(hb:b[j]? =some true)(hs:qG l m T.length j)
  (hn:∀k,k<j->b[k]? =some true->¬qG l m T.length k):RP1 l m (T++[(j:Int)]) (b.set j false):=by
 have hbj:=(h.bval j hj).1 hb;have new:=zqo T (j:Int);refine⟨⟨by simp;omega,by rw[List.length_set];exact h.lenb,fun i z e=>?_,fun i k e=>?_,fun i i' k e e'=>?_,fun k hk=>?_⟩,fun i k e=>?_,fun i k hi' hk q1 q2 q3=>?_⟩
 ·rcases zbz e with e |⟨_,e⟩
  ·exact h.val i z e
  ·exact .inr ⟨j,e,hj⟩
 ·rcases zbz e with e |⟨rfl,e⟩
  ·exact h.ok i k e
  ·obtain rfl:k=j:=by omega
   exact⟨l1,hbj.1,.inl hs⟩
 ·rcases zbz e with u |⟨r1,u⟩<;> rcases zbz e' with v |⟨r2,v⟩
  ·exact h.inj i i' k u v
  ·exact absurd (by rw[u,v]) (hbj.2 i)
  ·exact absurd (by rw[v,u]) (hbj.2 i')
  ·omega
 ·by_cases e:k=j
  ·subst e
   rw[List.getElem?_set_self (by rw[h.lenb];exact hk)];exact⟨fun e=>(by cases e),fun e=>absurd new (e.2 _)⟩
  ·rw[List.getElem?_set_ne (fun q=>e q.symm),h.bval k hk]
   exact⟨fun⟨e1,e2⟩=>⟨e1,fun i q=>by
    rcases zbz q with q |⟨_,q⟩
    ·exact e2 i q
    ·omega⟩,fun⟨e1,e2⟩=>⟨e1,fun i q=>e2 i (zeY q)⟩⟩
 ·rcases zbz e with e |⟨rfl,e⟩
  ·exact h.twin i k e
  ·obtain rfl:k=j:=by omega
   exact hs
 ·have up:∀ (i j':Nat),T[i]? =Option.some (j':Int)->(T++[(j:Int)])[i]? =Option.some (j':Int):=fun _ _ e=>zeY e
  simp only[List.length_append,List.length_singleton]at hi'
  by_cases e:i<T.length
  ·exact(h.cov i k e hk q1 q2 q3).old up
  ·obtain rfl:i=T.length:=by omega
   by_cases e2:j<=k
   ·exact⟨T.length,j,new,.inl rfl,zko tl tm hm hi hk hi hj q3 hs (.inr ⟨rfl,e2⟩)⟩
   ·exact(h.taken tl tm hm hi hk q2 q3 fun e=>hn k (by omega) e q3).old up
structure RP2(l m:List zg)(T:List Int)(b:List Bool):Prop extends RP l m T b where
 all:T.length=l.length
 apart:∀i j:Nat,T[i]? =some (-1)->j<m.length->b[j]? =some true->yR m (xP l i)=true->¬qG l m i j
 cov:∀i j,i<l.length->j<m.length->yR m (xP l i)=true->yR l (xP m j)=true->zbj (xP l i) (xP m j)->Cov l m T i j∨(T[i]? =some (-1)/\b[j]? =some true)
include hl hm in
theorem RP1.next{T:List Int}{b:List Bool}(h:RP1 l m T b)(ha:T.length=l.length):RP2 l m T b:=by
 have one:∀i,i<l.length->T[i]? =some (-1)∨∃j:Nat,T[i]? =some (j:Int):=fun i hi=>by
  obtain⟨z,hz⟩:∃z,T[i]? =some z:=⟨_,List.getElem?_eq_getElem (by rw[ha];exact hi)⟩
  rcases h.val i z hz with rfl |⟨j,rfl,_⟩
  ·exact .inl hz
  ·exact .inr ⟨j,hz⟩
 have in_m:∀ {i j:Nat},T[i]? =some (j:Int)->i<l.length/\j<m.length:=fun {i j} e=>by
  refine⟨by have:=(List.getElem?_eq_some_iff.1 e).1;omega,?_⟩
  rcases h.val i _ e with q |⟨k,q,hk⟩
  ·omega
  ·omega
 refine⟨h.toRP,ha,fun i j hi hj hb l1 hs=>?_,fun i j hi hj l1 l2 hal=>?_⟩
 ·have hbj:=(h.bval j hj).1 hb
  have hil:=(List.getElem?_eq_some_iff.1 hi).1;obtain⟨i',j',h1,h2,_⟩:=h.cov i j hil hj l1 hbj.1 hs
  rcases h2 with rfl |rfl
  ·have:=Option.some.inj (hi.symm.trans h1)
   omega
  ·exact hbj.2 _ h1
 ·by_cases hs:qG l m i j
  ·exact .inl (h.cov i j (by omega) hj l1 l2 hs)
  ·have early:∀ {i' j':Nat},T[i']? =some (j':Int)->(i'=i∨j'=j)->Cov l m T i j:=fun {i' j'} e hq=>by
    obtain⟨q1,q2⟩:=in_m e;refine⟨i',j',e,hq,zff (jN q1) (jN q2) hl hm ?_⟩;have:=h.twin _ _ e;unfold qG at this hs;unfold zcp;rw[if_pos this,if_neg hs];have:=zaO (xP l i).2.2 (xP m j).2.2;omega
   rcases one i hi with e |⟨j',e⟩
   ·by_cases hb:b[j]? =some true
    ·exact .inr ⟨e,hb⟩
    ·have:∃i:Nat,T[i]? =some (j:Int):=Classical.byContradiction fun hn=>hb ((h.bval j hj).2 ⟨l2,fun i e=>hn ⟨i,e⟩⟩)
     obtain⟨i',e'⟩:=this;exact .inl (early e' (.inr rfl))
   ·exact .inl (early e (.inl rfl))
include tl tm hl hm in
theorem RP2.join{T:List Int}{b:List Bool}(h:RP2 l m T b){x y:Nat}(hx:T[x]? =some (-1))(hy:y<m.length)(hb:b[y]? =some true)(lx:yR m (xP l x)=true)
  (h50:50<=ratioS (xP l x).2.2 (xP m y).2.2)
  (hbest:∀i j,T[i]? =some (-1)->j<m.length->b[j]? =some true->yR m (xP l i)=true->ratioS (xP l i).2.2 (xP m j).2.2<=ratioS (xP l x).2.2 (xP m y).2.2/\
   (ratioS (xP l i).2.2 (xP m j).2.2=ratioS (xP l x).2.2 (xP m y).2.2->x<i∨(x=i/\y<=j))):RP2 l m (T.set x (y:Int)) (b.set y false):=by
 have hxl:=(List.getElem?_eq_some_iff.1 hx).1;have hby:=(h.bval y hy).1 hb;have new:(T.set x (y:Int))[x]? =some (y:Int):=List.getElem?_set_self hxl
 have up:∀ (i j:Nat),T[i]? =some (j:Int)->(T.set x (y:Int))[i]? =some (j:Int):=fun i j e=>by
  by_cases q:x=i
  ·subst q
   have:=Option.some.inj (hx.symm.trans e);omega
  ·rw[List.getElem?_set_ne q]
   exact e
 have down:∀ {i:Nat} {z:Int},(T.set x (y:Int))[i]? =some z->(i=x/\z=(y:Int))∨(i≠x/\T[i]? =some z):=fun {i z} e=>by
  by_cases q:x=i
  ·subst q
   rw[new]at e;exact .inl ⟨rfl,(Option.some.inj e).symm⟩
  ·rw[List.getElem?_set_ne q]at e
   exact .inr ⟨fun r=>q r.symm,e⟩
 have bdown:∀ {j:Nat},(b.set y false)[j]? =some true->j≠y/\b[j]? =some true:=fun {j} e=>by
  by_cases q:y=j
  ·subst q
   rw[List.getElem?_set_self (by rw[h.lenb];exact hy)]at e;cases e
  ·rw[List.getElem?_set_ne q]at e
   exact⟨fun r=>q r.symm,e⟩
 refine⟨⟨by rw[List.length_set];exact h.len,by rw[List.length_set];exact h.lenb,fun i z e=>?_,fun i j e=>?_,fun i i' j e e'=>?_,fun j hj=>?_⟩,by rw[List.length_set];exact h.all,fun i j e hj e2 l1=>?_,fun i j hi hj l1 l2 hal=>?_⟩
 ·rcases down e with⟨_,e⟩ |⟨_,e⟩
  ·exact .inr ⟨y,e,hy⟩
  ·exact h.val i z e
 ·rcases down e with⟨rfl,e⟩ |⟨_,e⟩
  ·obtain rfl:j=y:=by omega
   exact⟨lx,hby.1,.inr h50⟩
  ·exact h.ok i j e
 ·rcases down e with⟨r1,u⟩ |⟨r1,u⟩<;> rcases down e' with⟨r2,v⟩ |⟨r2,v⟩
  ·omega
  ·exact absurd (by rw[v,u]) (hby.2 i')
  ·exact absurd (by rw[u,v]) (hby.2 i)
  ·exact h.inj i i' j u v
 ·by_cases q:j=y
  ·subst q
   rw[List.getElem?_set_self (by rw[h.lenb];exact hj)];exact⟨fun e=>(by cases e),fun e=>absurd new (e.2 _)⟩
  ·rw[List.getElem?_set_ne (fun r=>q r.symm),h.bval j hj]
   exact⟨fun⟨e1,e2⟩=>⟨e1,fun i r=>by
    rcases down r with⟨_,r⟩ |⟨_,r⟩
    ·omega
    ·exact e2 i r⟩,fun⟨e1,e2⟩=>⟨e1,fun i r=>e2 i (up _ _ r)⟩⟩
 ·rcases down e with⟨_,e⟩ |⟨_,e⟩
  ·omega
  ·exact h.apart i j e hj (bdown e2).2 l1
 ·rcases h.cov i j hi hj l1 l2 hal with hc |⟨e1,e2⟩
  ·exact .inl (hc.old up)
  ·by_cases q:i=x∨j=y
   ·left
    refine⟨x,y,new,?_,?_⟩
    ·rcases q with q |q
     ·exact .inl q.symm
     ·exact .inr q.symm
    ·obtain⟨g1,g2⟩:=hbest i j e1 hj e2 l1
     have n1:=h.apart i j e1 hj e2 l1;have n2:=h.apart x y hx hy hb lx;unfold qG at n1 n2
     have c1:zcp (xP l i) (xP m j)=101-ratioS (xP l i).2.2 (xP m j).2.2:=by unfold zcp;rw[if_neg n1]
     have c2:zcp (xP l x) (xP m y)=101-ratioS (xP l x).2.2 (xP m y).2.2:=by unfold zcp;rw[if_neg n2]
     have b1:=zaO (xP l i).2.2 (xP m j).2.2;have b2:=zaO (xP l x).2.2 (xP m y).2.2
     by_cases g3:ratioS (xP l i).2.2 (xP m j).2.2=ratioS (xP l x).2.2 (xP m y).2.2
     ·refine zgw (jN hy) hm (by omega) ?_
      rw[qm tl (jZ (show x<l.length by rw[<-h.all];exact hxl)),qm tl (jZ hi),qm tm (jZ hy),qm tm (jZ hj)];exact g2 g3
     ·exact zff (jN (show x<l.length by rw[<-h.all];exact hxl)) (jN hy) hl hm (by omega)
   ·right
    rw[List.getElem?_set_ne (fun r=>q (.inl r.symm)),List.getElem?_set_ne (fun r=>q (.inr r.symm))];exact⟨e1,e2⟩
include tl tm in
theorem RP2.done{T:List Int}{b:List Bool}(h:RP2 l m T b)(hn:∀i j,T[i]? =some (-1)->j<m.length->b[j]? =some true->yR m (xP l i)=true->ratioS (xP l i).2.2 (xP m j).2.2<50):
  zam l m (ky l m T l.length):=by
 have at_:∀ {i:Nat} {p:jQ},kR l m T i=some p->∃j:Nat,T[i]? =some (j:Int)/\i<l.length/\j<m.length/\p=((xP l i).1,(xP m j).1):=fun {i p} hp=>by
  obtain⟨z,hz,hne,rfl⟩:=zjB hp;have hi:=(List.getElem?_eq_some_iff.1 hz).1
  rcases h.val i z hz with e |⟨j,rfl,hj⟩
  ·exact absurd e hne
  ·exact⟨j,hz,by rw[<-h.all];exact hi,hj,rfl⟩
 have iff:∀ {x y:zg},x∈l->y∈m->((x.1,y.1)∈ky l m T l.length ↔ ∃i j:Nat,l[i]? =some x/\m[j]? =some y/\T[i]? =some (j:Int)):=fun {x y} hx hy=>by
  constructor
  ·intro hp
   obtain⟨i,_,hi⟩:=List.mem_filterMap.1 hp;obtain⟨j,e1,e2,e3,e4⟩:=at_ hi;have e5:=Prod.mk.inj e4;have q1:x=xP l i:=tl.one hx (jN e2) e5.1;have q2:y=xP m j:=tm.one hy (jN e3) e5.2;exact⟨i,j,by rw[q1];exact jZ e2,by rw[q2];exact jZ e3,e1⟩
  ·rintro⟨i,j,h1,h2,h3⟩
   refine List.mem_filterMap.2 ⟨i,List.mem_range.2 (List.getElem?_eq_some_iff.1 h1).1,?_⟩;rw[kR,h3]
   dsimp only
   rw[if_neg (by omega),ym h1,Int.toNat_natCast,ym h2]
 have same_i:∀ {l:List zg},yD l->∀ {i i':Nat} {x:zg},l[i]? =some x->l[i']? =some x->i=i':=fun {l} tl {i i' x} h1 h2=>by
  rw[<-qm tl h1,<-qm tl h2]
 refine⟨fun p hp=>?_,?_,⟨fun x y hp=>?_,fun x y y' hp hp'=>?_,fun x x' y hp hp'=>?_,fun x hx y hy lx ly hal=>?_⟩⟩
 ·obtain⟨i,_,hi⟩:=List.mem_filterMap.1 hp
  obtain⟨j,_,e2,e3,rfl⟩:=at_ hi;exact⟨_,_,jN e2,jN e3,rfl,rfl⟩
 ·unfold ky
  rw[List.pairwise_filterMap]
  refine(zfg _).imp fun {i j} hij p hp q hq=>?_
  obtain⟨_,_,e2,_,rfl⟩:=at_ hp;obtain⟨_,_,e3,_,rfl⟩:=at_ hq;exact qM tl hij (jZ e2) (jZ e3)
 ·obtain⟨i,j,h1,h2,h3⟩:=(iff hp.1 hp.2.1).1 hp.2.2
  have hk:=h.ok i j h3;have e1:xP l i=x:=ym h1;have e2:xP m j=y:=ym h2;rw[e1,e2]at hk;exact⟨hp.1,hp.2.1,zbP.1 hk.1,zbP.1 hk.2.1,hk.2.2⟩
 ·obtain⟨i,j,h1,h2,h3⟩:=(iff hp.1 hp.2.1).1 hp.2.2
  obtain⟨i',j',g1,g2,g3⟩:=(iff hp'.1 hp'.2.1).1 hp'.2.2;obtain rfl:=same_i tl h1 g1;have:=Option.some.inj (h3.symm.trans g3)
  obtain rfl:j=j':=by omega
  exact Option.some.inj (h2.symm.trans g2)
 ·obtain⟨i,j,h1,h2,h3⟩:=(iff hp.1 hp.2.1).1 hp.2.2
  obtain⟨i',j',g1,g2,g3⟩:=(iff hp'.1 hp'.2.1).1 hp'.2.2;obtain rfl:=same_i tm h2 g2;obtain rfl:=h.inj _ _ _ h3 g3;exact Option.some.inj (h1.symm.trans g1)
 ·obtain⟨i,hi⟩:=List.mem_iff_getElem?.1 hx
  obtain⟨j,hj⟩:=List.mem_iff_getElem?.1 hy;have hil:=(List.getElem?_eq_some_iff.1 hi).1;have hjl:=(List.getElem?_eq_some_iff.1 hj).1;have e1:xP l i=x:=ym hi;have e2:xP m j=y:=ym hj
  rcases h.cov i j hil hjl (by rw[e1];exact zbP.2 lx) (by rw[e2];exact zbP.2 ly) (by rw[e1,e2];exact hal)with⟨i',j',h1,h2,h3⟩ |⟨h1,h2⟩
  ·have q1:i'<l.length:=by rw[<-h.all];exact(List.getElem?_eq_some_iff.1 h1).1
   have q2:j'<m.length:=by
    rcases h.val _ _ h1 with q |⟨k,q,hk⟩<;> omega
   rw[e1,e2]at h3;refine⟨xP l i',xP m j',⟨jN q1,jN q2,(iff (jN q1) (jN q2)).2 ⟨i',j',jZ q1,jZ q2,h1⟩⟩,?_,h3⟩
   rcases h2 with rfl |rfl
   ·exact .inl e1
   ·exact .inr e2
  ·have hne:=h.apart i j h1 hjl h2 (by rw[e1];exact zbP.2 lx)
   have h49:=hn i j h1 hjl h2 (by rw[e1];exact zbP.2 lx);unfold qG at hne;rw[e1,e2]at hne h49
   rcases hal with q |q
   ·exact absurd q hne
   ·omega
end
def zbl(n:Nat)(T:List Int):List Int:=T++List.replicate (n-T.length) 0
theorem znT{n:Nat}{T:List Int}(h:T.length<n)(y:Int):(zbl n T).set T.length y=zbl n (T++[y]):=by
 unfold zbl;rw[List.set_append_right _ _ (Nat.le_refl _),Nat.sub_self,List.append_assoc];obtain⟨k,hk⟩:∃k,n-T.length=k+1:=⟨n-T.length-1,by omega⟩;rw[hk,List.replicate_succ,List.set_cons_zero,List.length_append,List.length_singleton,show n-(T.length+1)=k by omega]
 rfl
theorem zkn{n:Nat}{T:List Int}(x y:Int):(zbl n (T++[x])).set T.length y=zbl n (T++[y]):=by
 unfold zbl;simp only[List.length_append,List.length_singleton,List.append_assoc];rw[List.set_append_right _ _ (Nat.le_refl _),Nat.sub_self]
 rfl
theorem zpB{n:Nat}(T:List Int)(y:Int):(zbl n (T++[y]))[T.length]? =some y:=by
 unfold zbl;rw[List.append_assoc,List.getElem?_append_right (Nat.le_refl _),Nat.sub_self]
 rfl
theorem zmh{n:Nat}{T:List Int}(h:T.length<n):(zbl n T)[T.length]? =some 0:=by
 unfold zbl;rw[List.getElem?_append_right (Nat.le_refl _),Nat.sub_self];obtain⟨k,hk⟩:∃k,n-T.length=k+1:=⟨n-T.length-1,by omega⟩;rw[hk,List.replicate_succ]
 rfl
def zbK(l m:List zg)(T:List Int):List Bool:=(List.range l.length).map fun i=>yR m (xP l i)&&(match T[i]? with |some z=>z== -1 |none=>true)
theorem ji(l m:List zg)(T:List Int):(zbK l m T).length=l.length:=by simp[zbK]
theorem zab{l m:List zg}{T:List Int}{i:Nat}(h:i<l.length):(zbK l m T)[i]? =some (yR m (xP l i)&&(match T[i]? with |some z=>z== -1 |none=>true)):=by
 simp[zbK,h]
theorem zmY(l m:List zg):zbK l m []=l.map (yR m):=by
 refine List.ext_getElem? fun i=>?_
 by_cases h:i<l.length
 ·rw[zab h,List.getElem?_map,jZ h]
  simp
 ·rw[List.getElem?_eq_none (by rw[ji];omega),List.getElem?_eq_none (by simp;omega)]
theorem ziV(l m:List zg)(T:List Int):zbK l m (T++[-1])=zbK l m T:=by
 unfold zbK
 refine List.map_congr_left fun i _ =>?_
 by_cases h:i<T.length
 ·rw[List.getElem?_append_left h]
 ·rw[List.getElem?_eq_none (l:=T) (by omega)]
  by_cases e:i=T.length
  ·subst e
   simp
  ·rw[List.getElem?_eq_none (by simp;omega)]
theorem zoz(l m:List zg)(T:List Int)(j:Nat):(zbK l m T).set T.length false=zbK l m (T++[(j:Int)]):=by
 refine List.ext_getElem? fun i=>?_
 by_cases h:i<l.length
 ·by_cases e:T.length=i
  ·subst e
   rw[List.getElem?_set_self (by rw[ji];exact h),zab h];simp
  ·rw[List.getElem?_set_ne e,zab h,zab h]
   by_cases h2:i<T.length
   ·rw[List.getElem?_append_left h2]
   ·rw[List.getElem?_eq_none (l:=T) (by omega),List.getElem?_eq_none (by simp;omega)]
 ·rw[List.getElem?_eq_none (by rw[List.length_set,ji];omega),List.getElem?_eq_none (by rw[ji];omega)]
theorem zlX{n:Nat}{T:List Int}(h:T.length=n):zbl n T=T:=by
 unfold zbl;rw[h,Nat.sub_self];simp
theorem zqd(l m:List zg)(T:List Int)(x y:Nat)(hx:x<T.length):(zbK l m T).set x false=zbK l m (T.set x (y:Int)):=by
 refine List.ext_getElem? fun i=>?_
 by_cases h:i<l.length
 ·by_cases e:x=i
  ·subst e
   rw[List.getElem?_set_self (by rw[ji];exact h),zab h,List.getElem?_set_self hx];simp
  ·rw[List.getElem?_set_ne e,zab h,zab h,List.getElem?_set_ne e]
 ·rw[List.getElem?_eq_none (by rw[List.length_set,ji];omega),List.getElem?_eq_none (by rw[ji];omega)]
def zlJ(l m:List zg)(T:List Int)(B:List Bool)(i j:Nat):Prop:=T[i]? =some (-1)/\j<m.length/\B[j]? =some true/\yR m (xP l i)=true
def rat(l m:List zg)(i j:Nat):Nat:=ratioS (xP l i).2.2 (xP m j).2.2
def zcH(l m:List zg)(T:List Int)(B:List Bool)(i j:Nat)(R x y:Int):Prop:=
 (x= -1/\R=49/\∀a b,(a<i∨(a=i/\b<j))->zlJ l m T B a b->rat l m a b<50)∨
 ∃X Y:Nat,x=(X:Int)/\y=(Y:Int)/\zlJ l m T B X Y/\50<=rat l m X Y/\R=(rat l m X Y:Int)/\(X<i∨(X=i/\Y<j))/\
  ∀a b,(a<i∨(a=i/\b<j))->zlJ l m T B a b->rat l m a b<=rat l m X Y/\(rat l m a b=rat l m X Y->X<a∨(X=a/\Y<=b))
theorem zcH.start(l m:List zg)(T:List Int)(B:List Bool):zcH l m T B 0 0 49 (-1) (-1):= .inl ⟨rfl,rfl,fun a b h=>by omega⟩
theorem zcH.low{l m:List zg}{T:List Int}{B:List Bool}{i j:Nat}{R x y:Int}(h:zcH l m T B i j R x y):49<=R/\R<=100:=by
 rcases h with⟨_,h,_⟩ |⟨X,Y,_,_,_,h1,h2,_⟩
 ·omega
 ·have:=zaO (xP l X).2.2 (xP m Y).2.2
  unfold rat at h1 h2;omega
theorem zcH.skip{l m:List zg}{T:List Int}{B:List Bool}{i j:Nat}{R x y:Int}(h:zcH l m T B i j R x y)(hf:zlJ l m T B i j->(rat l m i j:Int)<=R):zcH l m T B i (j+1) R x y:=by
 rcases h with⟨h1,h2,h3⟩ |⟨X,Y,h1,h2,h3,h4,h5,h6,h7⟩
 ·refine .inl ⟨h1,h2,fun a b hab hfr=>?_⟩
  by_cases e:a=i/\b=j
  ·obtain⟨rfl,rfl⟩:=e
   have:=hf hfr;omega
  ·exact h3 a b (by omega) hfr
 ·refine .inr ⟨X,Y,h1,h2,h3,h4,h5,by omega,fun a b hab hfr=>?_⟩
  by_cases e:a=i/\b=j
  ·obtain⟨rfl,rfl⟩:=e
   have:=hf hfr;exact⟨by omega,fun _ =>by omega⟩
  ·exact h7 a b (by omega) hfr
theorem zcH.take{l m:List zg}{T:List Int}{B:List Bool}{i j:Nat}{R x y:Int}(h:zcH l m T B i j R x y)(hf:zlJ l m T B i j)(hr:R <(rat l m i j:Int)):zcH l m T B i (j+1) (rat l m i j:Nat) (i:Nat) (j:Nat):=by
 have hl:=h.low;refine .inr ⟨i,j,rfl,rfl,hf,by omega,rfl,by omega,fun a b hab hfr=>?_⟩
 by_cases e:a=i/\b=j
 ·obtain⟨rfl,rfl⟩:=e
  exact⟨Nat.le_refl _,fun _ =>by omega⟩
 ·rcases h with⟨h1,h2,h3⟩ |⟨X,Y,h1,h2,h3,h4,h5,h6,h7⟩
  ·have:=h3 a b (by omega) hfr
   exact⟨by omega,fun _ =>by omega⟩
  ·have:=(h7 a b (by omega) hfr).1
   exact⟨by omega,fun _ =>by omega⟩
theorem zcH.row{l m:List zg}{T:List Int}{B:List Bool}{i:Nat}{R x y:Int}(h:zcH l m T B i m.length R x y):zcH l m T B (i+1) 0 R x y:=by
 rcases h with⟨h1,h2,h3⟩ |⟨X,Y,h1,h2,h3,h4,h5,h6,h7⟩
 ·exact .inl ⟨h1,h2,fun a b hab hfr=>h3 a b (by have:=hfr.2.1;omega) hfr⟩
 ·exact .inr ⟨X,Y,h1,h2,h3,h4,h5,by omega,fun a b hab hfr=>h7 a b (by have:=hfr.2.1;omega) hfr⟩
def zrU(l m:List zg)(T:List Int)(B:List Bool):Prop:=∀i j,T[i]? =some (-1)->j<m.length->B[j]? =some true->yR m (xP l i)=true->ratioS (xP l i).2.2 (xP m j).2.2<50
theorem zcH.ends{l m:List zg}(tl:yD l)(tm:yD m)(hl:l.length<=1000)(hm:m.length<=1000){T:List Int}{B:List Bool}{R x y:Int}(h:zcH l m T B l.length 0 R x y)(hp:RP2 l m T B):
  (x= -1/\zrU l m T B)∨∃X Y:Nat,x=(X:Int)/\y=(Y:Int)/\X<T.length/\Y<m.length/\T[X]? =some (-1)/\B[Y]? =some true/\RP2 l m (T.set X (Y:Int)) (B.set Y false):=by
 have lt:∀ {a:Nat},T[a]? =some (-1)->a<l.length:=fun {a} e=>by
  have:=(List.getElem?_eq_some_iff.1 e).1;rw[hp.all]at this;exact this
 rcases h with⟨h1,h2,h3⟩ |⟨X,Y,h1,h2,h3,h4,h5,h6,h7⟩
 ·exact .inl ⟨h1,fun i j a1 a2 a3 a4=>h3 i j (.inl (lt a1)) ⟨a1,a2,a3,a4⟩⟩
 ·exact .inr ⟨X,Y,h1,h2,(List.getElem?_eq_some_iff.1 h3.1).1,h3.2.1,h3.1,h3.2.2.1,hp.join tl tm hl hm h3.1 h3.2.1 h3.2.2.1 h3.2.2.2 h4 fun i j a1 a2 a3 a4=>h7 i j (.inl (lt a1)) ⟨a1,a2,a3,a4⟩⟩
theorem zna{T:List Int}{X Y:Nat}(h:T[X]? =some (-1)):(T.set X (Y:Int)).count (-1)+1=T.count (-1):=by
 obtain⟨h1,h2⟩:=List.getElem?_eq_some_iff.1 h;have h0:0<T.count (-1):=List.count_pos_iff.2 (List.mem_of_getElem? h);rw[List.count_set h1,h2];have:((Y:Int)== -1)=false:=beq_false_of_ne (by omega);rw[this];simp;omega
open Go.RowKit
section
theorem ziA(va vb:Value)(l m:List zg)(w:World)(ha:yM w va l)(hb:yM w vb m)(hl:l.length<=1000000)(hm:m.length<=1000000):
  Calls Tryz.prog 40 #[va,vb] w fun e w'=>∃v,e= .returned v/\qO w' w.heap.size v (l.map (yR m))/\Below w.heap.size w w':=by
 obtain⟨ao,ac,rfl⟩:=ha.form;have HA:=ze ha;have HL:=ze hl
 have HF:=ze fun(wx:World) (p:zQ) (hk:Below w.heap.size w wx)=>kU vb m p wx (hb.old hk) (by omega)
 clear ha hb hl hm
 go_enter Tryz.func40,Tryz.ntmps40
 go_wp2_with fail
 go_loopg [5,6] l.length (fun g v i wr=>∃ (k:Nat) (X:List Bool),k<=l.length/\l.length-k=g/\i= .int .i64 k/\Hid (X=(l.take k).map (yR m)/\X.length<=k)/\Hid (qO wr w.heap.size v X)/\Hid (Below w.heap.size w wr))
 case atStart=>exact⟨0,[],Nat.zero_le _,rfl,rfl,ze ⟨rfl,Nat.le_refl _⟩,ze (World.ownsRow_nil _ _ _ _),ze (Below.refl _ _)⟩
 case round=>
  obtain⟨k,X,hk,rfl,rfl,HX,HO,HW⟩:=hrel;obtain⟨no,nc,rfl⟩:=zl HO.out;have k0:(0:Int)<=(k:Int):=Int.natCast_nonneg _
  by_cases hlt:k<l.length
  ·have k1:(k:Int)<(l.length:Int):=by omega
   have kw:IntKind.i64.wrap ((k:Int)+1)=(k:Int)+1:=IntWalk.i64_in _ (by have:=HL.out;omega);obtain⟨b,o,p,x,t,rfl,he,c1,c2,c3⟩:=yM.at (HA.out.old HW.out) hlt;obtain⟨z,hz⟩:∃z,yR m (p,x,t)=z:=⟨_,rfl⟩
   have HS:=ze (show X++[z]=(l.take (k+1)).map (yR m) by
    rw[HX.out.1,List.take_add_one,he,List.map_append,<-hz]
    rfl)
   have hfc:=HF.out wr p HW.out;obtain⟨⟨gp,gx,gt⟩,hg⟩:∃y,(zz m p).getD zM=y:=⟨_,rfl⟩;obtain⟨is,his⟩:∃y,(zz m p).isSome=y:=⟨_,rfl⟩;rw[hg,his]at hfc
   have HZ:=ze (show z=(!is && !(t==[])) by
    rw[<-hz,<-his];unfold yR
    cases zz m p <;> rfl)
   unfold ye zq at hfc;have HFC:=ze hfc;clear he hfc hg his hz c2;go_wp2_with fail;refine HFC.out.mono ?_;rintro e w2 ⟨rfl,hb2⟩;have c1:=zf hb2 c1;have c3:=zf hb2 c3;have HW2:=ze (zi HW.out hb2 HW.out.size);have HO2:=ze (show qO w2 w.heap.size (.slice no X.length nc) X from zD HO.out fun q _ hq=>hb2.block q hq)
   have hxl:X.length<=1000000:=by have:=HX.out;have:=HL.out;omega
   clear hb2 HFC c1
   go_upto_region 6 with(refine zB rfl 28 _ _ rfl _ #[.string ⟨gp.toArray⟩,.bool gx,.string ⟨gt.toArray⟩] rfl rfl _ _ (heap_alloc_new _ _) 3 Tryz.sizeFile rfl rfl (by simp[Value.oneCell']) ?_;intro w3 hg9 hk9;have hb:Below w2.heap.size w2 w3:=((Below.refl _ w2).alloc (Nat.le_refl _) _).trans (hk9.below (by simp) (fun j hj e=>by omega));have HW3:=ze (zi HW2.out hb HW2.out.size);have HO3:=ze (show qO w3 w.heap.size (.slice no X.length nc) X from zD HO2.out fun q _ hq=>hb.block q hq);have c3:=zf hb c3;clear hb hg9 hk9)
   cases is with
   |true=>
    obtain rfl:z=false:=HZ.out;clear c3
    go_wp2_with (at_builtin;refine zbo (by rfl) (.tmp 25) (.tmp 36) rfl w.heap.size _ X false rfl HO3.out _ rfl rfl (by omega) HW3.out.size ?_;intro v5 w5 hO5 hb5)
    go_roundg (l.length-(k+1))
    case measure=>omega
    case rel=>exact⟨k+1,X++[false],by omega,rfl,by go_num,ze ⟨HS.out,by have:=HX.out;simp;omega⟩,ze hO5,ze (HW3.out.trans hb5)⟩
   |false=>
    obtain⟨q,hq⟩:∃q,(t==[])=q:=⟨_,rfl⟩
    have hq2:(t !=[])=!q:=by rw[<-hq];rfl
    obtain rfl:z=!q:=by rw[HZ.out,hq];rfl
    go_wp2_with (at_builtin;refine zbo (by rfl) (.tmp 25) (.tmp 36) rfl w.heap.size _ X (!q) rfl HO3.out _ rfl rfl (by omega) HW3.out.size ?_;intro v5 w5 hO5 hb5)
    go_roundg (l.length-(k+1))
    case measure=>omega
    case rel=>exact⟨k+1,X++[!q],by omega,rfl,by go_num,ze ⟨HS.out,by have:=HX.out;simp;omega⟩,ze hO5,ze (HW3.out.trans hb5)⟩
  ·obtain rfl:k=l.length:=by omega
   have hneg:¬(l.length:Int)<(l.length:Int):=by omega
   go_wp2_with fail;go_ret;have hX:=HX.out.1;rw[List.take_length]at hX;rw[<-hX];exact⟨_,rfl,HO.out,HW.out⟩
end
open Go.RowKit
section
theorem zlN(a b:zQ)(w:World)(ha:a.length<=1000000)(hb:b.length<=1000000):
  Calls Tryz.prog 41 #[zq a,zq b] w fun e w'=>e= .returned (.int .i64 (ratioS a b:Nat))/\Below w.heap.size w w':=by
 have hca:=yL a;have hcb:=yL b;have HSA:=ze (zba a w (by omega));have HSB:=ze (fun wx=>zba b wx (by omega));unfold ratioS;obtain⟨x,hx⟩:∃x,zn a=x:=⟨_,rfl⟩;obtain⟨y,hy⟩:∃y,zn b=y:=⟨_,rfl⟩;rw[hx]at HSA hca ⊢;rw[hy]at HSB hcb ⊢
 have hxl:x.length<=1000000:=by omega
 have hyl:y.length<=1000000:=by omega
 clear hca hcb hx hy ha hb;have HC:=ze (fun va vb wx h1 h2=>zll va vb x y wx h1 h2 hxl hyl);have hle:=(zav x y).1
 have hz:ratioL x y=if x.length+y.length=0 then 100 else if 400<x.length∨400<y.length then 0 else 200*lcs x y / (x.length+y.length):=rfl
 obtain⟨c,hc⟩:∃c,lcs x y=c:=⟨_,rfl⟩;obtain⟨z,hzz⟩:∃z,ratioL x y=z:=⟨_,rfl⟩;rw[hzz]at hz;rw[hzz];rw[hc]at hz hle HC;clear hzz hc;obtain⟨n,hn⟩:∃n,x.length=n:=⟨_,rfl⟩;obtain⟨m,hm⟩:∃m,y.length=m:=⟨_,rfl⟩;rw[hn]at hz hle hxl HSA;rw[hm]at hz hyl HSB;clear hn hm;have kw:IntKind.i64.wrap ((n:Int) +(m:Int))=(n:Int) +(m:Int):=IntWalk.i64_in _ (by omega)
 by_cases h0:n+m=0
 ·have e0:(n:Int) +(m:Int)=0:=by omega
  rw[if_pos h0]at hz;subst hz;clear h0 HC hle hxl hyl;unfold zq at *
  go_enter Tryz.func41,Tryz.ntmps41
  go_wp2_with fail;refine HSA.out.mono ?_;rintro e w1 ⟨va,rfl,ho1,hb1⟩;obtain⟨lo,lc,rfl⟩:=zl ho1;have HX:=ze (Sl.ofOwns ho1);clear ho1 HSA;go_wp2_with fail;refine(HSB.out w1).mono ?_;rintro e w2 ⟨vb,rfl,ho2,hb2⟩;obtain⟨lo2,lc2,rfl⟩:=zl ho2;have HY:=ze (Sl.ofOwns ho2);have HX2:=ze (Sl.old HX.out hb2);have HB:=ze (zi hb1 hb2 hb1.size);clear ho2 HSB HX hb1 hb2;go_wp2_with fail;go_ret;exact⟨rfl,HB.out⟩
 have e0:¬(n:Int) +(m:Int)=0:=by omega
 rw[if_neg h0]at hz
 by_cases h1:400<n
 ·have e1:(400:Int)<(n:Int):=by omega
  rw[if_pos (.inl h1)]at hz;subst hz;clear h0 h1 HC hle hxl hyl;unfold zq at *
  go_enter Tryz.func41,Tryz.ntmps41
  go_wp2_with fail;refine HSA.out.mono ?_;rintro e w1 ⟨va,rfl,ho1,hb1⟩;obtain⟨lo,lc,rfl⟩:=zl ho1;have HX:=ze (Sl.ofOwns ho1);clear ho1 HSA;go_wp2_with fail;refine(HSB.out w1).mono ?_;rintro e w2 ⟨vb,rfl,ho2,hb2⟩;obtain⟨lo2,lc2,rfl⟩:=zl ho2;have HY:=ze (Sl.ofOwns ho2);have HX2:=ze (Sl.old HX.out hb2);have HB:=ze (zi hb1 hb2 hb1.size);clear ho2 HSB HX hb1 hb2;go_wp2_with fail;go_ret;exact⟨rfl,HB.out⟩
 have e1:¬(400:Int)<(n:Int):=by omega
 by_cases h2:400<m
 ·have e2:(400:Int)<(m:Int):=by omega
  rw[if_pos (.inr h2)]at hz;subst hz;clear h0 h1 h2 HC hle hxl hyl;unfold zq at *
  go_enter Tryz.func41,Tryz.ntmps41
  go_wp2_with fail;refine HSA.out.mono ?_;rintro e w1 ⟨va,rfl,ho1,hb1⟩;obtain⟨lo,lc,rfl⟩:=zl ho1;have HX:=ze (Sl.ofOwns ho1);clear ho1 HSA;go_wp2_with fail;refine(HSB.out w1).mono ?_;rintro e w2 ⟨vb,rfl,ho2,hb2⟩;obtain⟨lo2,lc2,rfl⟩:=zl ho2;have HY:=ze (Sl.ofOwns ho2);have HX2:=ze (Sl.old HX.out hb2);have HB:=ze (zi hb1 hb2 hb1.size);clear ho2 HSB HX hb1 hb2;go_wp2_with fail;go_ret;exact⟨rfl,HB.out⟩
 have e2:¬(400:Int)<(m:Int):=by omega
 rw[if_neg (by omega)]at hz;have kc:IntKind.i64.wrap (200*(c:Int))=200*(c:Int):=IntWalk.i64_in _ (by omega)
 have kd:Int.tdiv (200*(c:Int)) ((n:Int) +(m:Int))=(z:Int):=by
  rw[Int.tdiv_eq_ediv_of_nonneg (by omega),hz]
  norm_cast
 have hz1:z<=200*c:=by rw[hz];exact Nat.div_le_self _ _
 have kz:IntKind.i64.wrap (z:Int)=(z:Int):=IntWalk.i64_in _ (by omega);clear hz hz1 h0 h1 h2 hle hxl hyl
 ·skip
  unfold zq at *
  go_enter Tryz.func41,Tryz.ntmps41
  go_wp2_with fail;refine HSA.out.mono ?_;rintro e w1 ⟨va,rfl,ho1,hb1⟩;obtain⟨lo,lc,rfl⟩:=zl ho1;have HX:=ze (Sl.ofOwns ho1);clear ho1 HSA;go_wp2_with fail;refine(HSB.out w1).mono ?_;rintro e w2 ⟨vb,rfl,ho2,hb2⟩;obtain⟨lo2,lc2,rfl⟩:=zl ho2;have HY:=ze (Sl.ofOwns ho2);have HX2:=ze (Sl.old HX.out hb2);have HB:=ze (zi hb1 hb2 hb1.size);clear ho2 HSB HX hb1 hb2;go_wp2_with fail;refine(HC.out _ _ w2 HX2.out HY.out).mono ?_;rintro e w3 ⟨rfl,hb3⟩;have HB3:=ze (zi HB.out hb3 HB.out.size);clear HC HX2 HY hb3 HB;go_wp2_with fail;go_ret;exact⟨rfl,HB3.out⟩
end
end Go.Proofs.YtbnafihigoekeaaGreatDoor

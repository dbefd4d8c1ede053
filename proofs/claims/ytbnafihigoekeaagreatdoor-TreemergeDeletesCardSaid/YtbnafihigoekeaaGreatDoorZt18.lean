/-
  TmTl, part 18.
-/
import Derived.Test.YtbnafihigoekeaaGreatDoorZt17
import Derived.Test.YtbnafihigoekeaaGreatDoorZt14
set_option maxRecDepth 100000
set_option maxHeartbeats 4000000
namespace Go.Proofs.YtbnafihigoekeaaGreatDoor
open Go.RowKit
theorem zqZ{X Y:List Int}{k:Nat}{p q:Int}(hx:X[k]? =some p)(hy:Y[k]? =some q)(rs:List Rn):yI k rs (X.drop k) (Y.drop k)=yI (k+1) (kK rs k p q) (X.drop (k+1)) (Y.drop (k+1)):=by
 obtain⟨l1,e1⟩:=List.getElem?_eq_some_iff.1 hx;obtain⟨l2,e2⟩:=List.getElem?_eq_some_iff.1 hy;rw[List.drop_eq_getElem_cons l1,List.drop_eq_getElem_cons l2,e1,e2,yI]
theorem zmB{p q:Int}(h:p<0∨q<0)(rs:List Rn)(k:Nat):kK rs k p q=rs:=by rw[kK,if_pos h]
theorem zlC(k P Q:Nat):kK [] k (P:Int) (Q:Int)=[((k,P,Q),(k+1,P+1,Q+1))]:=by rw[kK,if_neg (by omega)];rfl
theorem zml(rs:List Rn)(f:Cor)(k P Q:Nat):kK (rs++[(f,(k,P,Q))]) k (P:Int) (Q:Int)=rs++[(f,(k+1,P+1,Q+1))]:=by
 rw[kK,if_neg (by omega),List.getLast?_concat,List.dropLast_concat];simp[zgU]
theorem zdo(rs:List Rn)(f:Cor)(t:Cor)(k P Q:Nat)(h:t≠ (k,P,Q)):kK (rs++[(f,t)]) k (P:Int) (Q:Int)=rs++[(f,t)]++[((k,P,Q),(k+1,P+1,Q+1))]:=by
 rw[kK,if_neg (by omega),List.getLast?_concat];simp only[Int.toNat_natCast];rw[if_neg h]
 rfl
section
variable{w:World}{ops:Array Oper}{rest:List Oper}{o:Oper}{a:Act}{Q:Exit->Act->World->Prop}
theorem qA(hg:o.guard=none)(m x:Operand)(hop:o.op=Op.lookup 199 m x true)(b n:Nat)(D:MD)(hm:a.eval m= .map (some b))(hown:zdD w b n D)(key:Value)(kl:Lit)(hx:a.eval x=key)(hkey:keyOf Tryz.prog 203 key=some kl)
  (hh:Maps.has D kl=false) (hK:wpList Tryz.prog ops Q rest (a.put o.dst (.tuple #[.int .i64 0,.bool false])) w):wpList Tryz.prog ops Q (o::rest) a w:=by
 refine wpList_lookup_own_ok_int w hg m x 199 hop 203 3 .i64 Tryz.spotLaw Tryz.underlying199 Tryz.underlying3 (Tryz.zeroInt _) b n D hm hown key kl hx hkey fun c hat _ =>?_
 rw[Maps.atKey_of_not_has hh]at hat;cases hat;rw[hh];exact hK
theorem kM(hg:o.guard=none)(m x:Operand)(hop:o.op=Op.lookup 199 m x true)(b n:Nat)(D:MD)(hm:a.eval m= .map (some b))(hown:zdD w b n D)(key:Value)(kl:Lit)(hx:a.eval x=key)(hkey:keyOf Tryz.prog 203 key=some kl)
  (p:Int) (hh:Maps.has D kl=true) (hp:∀z,D.atKey kl z= .lit (.int .i64 p)) (hK:wpList Tryz.prog ops Q rest (a.put o.dst (.tuple #[.int .i64 p,.bool true])) w):wpList Tryz.prog ops Q (o::rest) a w:=by
 refine wpList_lookup_own_ok_int w hg m x 199 hop 203 3 .i64 Tryz.spotLaw Tryz.underlying199 Tryz.underlying3 (Tryz.zeroInt _) b n D hm hown key kl hx hkey fun c hat _ =>?_
 rw[hp]at hat;cases hat;rw[hh];exact hK
end
section
theorem zbL(x y z:Nat)(w:World)(hx:x<=1000000)(hy:y<=1000000)(hz:z<=1000000):
  Calls Tryz.prog 148 #[.agg #[.int .i64 x,.int .i64 y,.int .i64 z]] w fun e w'=>e= .returned (.agg #[.int .i64 ((x+1:Nat):Int),.int .i64 ((y+1:Nat):Int),.int .i64 ((z+1:Nat):Int)])/\Below w.heap.size w w':=by
 have xw:IntKind.i64.wrap ((x:Int)+1)=(x:Int)+1:=IntWalk.i64_in _ (by omega);have yw:IntKind.i64.wrap ((y:Int)+1)=(y:Int)+1:=IntWalk.i64_in _ (by omega);have zw:IntKind.i64.wrap ((z:Int)+1)=(z:Int)+1:=IntWalk.i64_in _ (by omega)
 have hb1:∀o,((w.alloc (.cells #[.int .i64 x,.int .i64 y,.int .i64 z] 164)).alloc o).heap[w.heap.size]? =some (.cells #[.int .i64 x,.int .i64 y,.int .i64 z] 164 (0,0)):=fun o=>(Below.heap_alloc _ _ _ (by simp)).trans (heap_alloc_new w _)
 have hb2:=heap_alloc_new (w.alloc (.cells #[.int .i64 x,.int .i64 y,.int .i64 z] 164)) (.cells #[.int .i64 0,.int .i64 0,.int .i64 0] 164);have c0:=zd (i:=0) (hb1 (.cells #[.int .i64 0,.int .i64 0,.int .i64 0] 164)) rfl;have c1:=zd (i:=1) (hb1 (.cells #[.int .i64 0,.int .i64 0,.int .i64 0] 164)) rfl;have c2:=zd (i:=2) (hb1 (.cells #[.int .i64 0,.int .i64 0,.int .i64 0] 164)) rfl;have HB2:=ze hb2;clear hb1 hb2
 go_enter Tryz.func148,Tryz.ntmps148
 go_wp2
 refine bodyPost_ret (results_cell_row rfl _ _ (w.heap.size+1) 164 #[.int .i64 ((x:Int)+1),.int .i64 ((y:Int)+1),.int .i64 ((z:Int)+1)] (0,0) _ rfl (by simpa using heap_alloc_new (w.alloc (.cells #[.int .i64 x,.int .i64 y,.int .i64 z] 164)) (.cells #[.int .i64 ((x:Int)+1),.int .i64 ((y:Int)+1),.int .i64 ((z:Int)+1)] 164)) Tryz.underlying164 rfl Tryz.sizeCor) rfl ?_;exact⟨rfl,((Below.refl _ w).alloc (Nat.le_refl _) _).alloc (by simp) _⟩
theorem zqD(va vb vc:Value)(a b c:List (List UInt8))(w:World)(ha:Sl w va (zj a))(hb:Sl w vb (zj b))(hc:Sl w vc (zj c)):
  Calls Tryz.prog 125 #[.agg #[va,vb,vc]] w fun e w'=>e= .returned (.agg #[.int .i64 a.length,.int .i64 b.length,.int .i64 c.length])/\Below w.heap.size w w':=by
 obtain⟨aa,ca,rfl⟩:=ha.form;obtain⟨ab,cb,rfl⟩:=hb.form;obtain⟨ac,cc,rfl⟩:=hc.form;rw[zk,zk,zk];clear ha hb hc
 have hb1:∀o,((w.alloc (.cells #[.slice aa a.length ca,.slice ab b.length cb,.slice ac c.length cc] 162)).alloc o).heap[w.heap.size]? =some (.cells #[.slice aa a.length ca,.slice ab b.length cb,.slice ac c.length cc] 162 (0,0)):=fun o=>(Below.heap_alloc _ _ _ (by simp)).trans (heap_alloc_new w _)
 have c0:=zd (i:=0) (hb1 (.cells #[.int .i64 0,.int .i64 0,.int .i64 0] 164)) rfl;have c1:=zd (i:=1) (hb1 (.cells #[.int .i64 0,.int .i64 0,.int .i64 0] 164)) rfl;have c2:=zd (i:=2) (hb1 (.cells #[.int .i64 0,.int .i64 0,.int .i64 0] 164)) rfl;clear hb1
 go_enter Tryz.func125,Tryz.ntmps125
 go_wp2
 refine bodyPost_ret (results_cell_row rfl _ _ (w.heap.size+1) 164 #[.int .i64 a.length,.int .i64 b.length,.int .i64 c.length] (0,0) _ rfl (by simpa using heap_alloc_new (w.alloc (.cells #[.slice aa a.length ca,.slice ab b.length cb,.slice ac c.length cc] 162)) (.cells #[.int .i64 a.length,.int .i64 b.length,.int .i64 c.length] 164)) Tryz.underlying164 rfl Tryz.sizeCor) rfl ?_;exact⟨rfl,((Below.refl _ w).alloc (Nat.le_refl _) _).alloc (by simp) _⟩
end
section
theorem zoQ(va vb vc:Value)(a b c:List (List UInt8))(w:World)(ha:Sl w va (zj a))(hb:Sl w vb (zj b))(hc:Sl w vc (zj c))(la:a.length<=3000)(lb:b.length<=3000)(lc:c.length<=3000):
  Calls Tryz.prog 122 #[.agg #[va,vb,vc]] w fun e w'=>∃u,e= .returned u/\xd w' w.heap.size u (yI 0 [] (yi a b) (yi a c))/\(yI 0 [] (yi a b) (yi a c)).length<=a.length/\Below w.heap.size w w':=by
 have hb0:=heap_alloc_new w (.cells #[va,vb,vc] 162);have B0:Below w.heap.size w (w.alloc (.cells #[va,vb,vc] 162)):=(Below.refl _ w).alloc (Nat.le_refl _) _;have HKP:=ze (zob va vb vc a b c _ (Sl.old ha B0) (Sl.old hb B0) (Sl.old hc B0) la lb lc);obtain⟨aa,ca,rfl⟩:=ha.form;obtain⟨ab,cb,rfl⟩:=hb.form;obtain⟨ac,cc,rfl⟩:=hc.form;have HXL:=ze (kW a b);have HYL:=ze (kW a c);have HXA:=ze (ks a b);have HYA:=ze (ks a c);obtain⟨X,hX⟩:∃X,yi a b=X:=⟨_,rfl⟩;obtain⟨Y,hY⟩:∃Y,yi a c=Y:=⟨_,rfl⟩;rw[hX]at HKP HXL HXA ⊢;rw[hY]at HKP HYL HYA ⊢;simp only[zk]at HKP hb0 B0 ⊢;have HBL:=ze hb0;have HB0:=ze B0;have HL:=ze (And.intro la (And.intro lb lc));have c0:=zd (i:=0) hb0 rfl;clear ha hb hc la lb lc hX hY hb0 B0
 go_enter Tryz.func122,Tryz.ntmps122
 go_wp2_with (go_at_call 147;refine HKP.out.mono ?_;rintro e w1 ⟨g,n,D,rfl,hg1,hg2,hm,hsx,hsy,hb1⟩;have d0:=zd (i:=0) ((hb1.block w.heap.size (by simp)).trans HBL.out) rfl)
 have HB1:=ze (zi HB0.out hb1 HB0.out.size);have HM:=ze hm;have HSX:=ze hsx;have HSY:=ze hsy;clear hb1 hm hsx hsy HKP HB0 HBL c0 hg1 hg2;clear d0
 go_loopg [4,16] a.length (fun gh l i wx=>∃ (k:Nat) (rs:List Rn),k<=a.length/\gh=a.length-k/\i= .int .i64 k/\Hid (rs.length<=k)/\Hid (yI k rs (X.drop k) (Y.drop k)=yI 0 [] X Y)/\Hid (xd wx w1.heap.size l rs)/\Below w1.heap.size w1 wx)
 case atStart=>exact⟨0,[],Nat.zero_le _,rfl,rfl,ze (Nat.le_refl _),ze (by rw[List.drop_zero,List.drop_zero]),ze (xd.nil _ _),Below.refl _ _⟩
 case round=>
  obtain⟨k,rs,hk,rfl,rfl,HRL,HRU,HO,hbx⟩:=hrel;have hzx:=hbx.size;obtain⟨lo,lcap,rfl⟩:=HO.out.form;have k0:(0:Int)<=(k:Int):=Int.natCast_nonneg _
  by_cases hlt:k<a.length
  ·have k1:(k:Int)<(a.length:Int):=by omega
   have kw:IntKind.i64.wrap ((k:Int)+1)=(k:Int)+1:=IntWalk.i64_in _ (by have:=HL.out;omega);obtain⟨p,hp⟩:∃p,X[k]? =some p:=⟨_,List.getElem?_eq_getElem (by have:=HXL.out;omega)⟩;obtain⟨q,hq⟩:∃q,Y[k]? =some q:=⟨_,List.getElem?_eq_getElem (by have:=HYL.out;omega)⟩;have HST:=ze (zqZ hp hq rs);have HPX:=ze (HSX.out k p hp);have HPY:=ze (HSY.out k q hq);have HK0:=ze (zdf (i:=k) (s:=0) (by have:=HL.out;omega) (by omega));have HK1:=ze (zdf (i:=k) (s:=1) (by have:=HL.out;omega) (by omega));have HMX:=ze (zdD.old HM.out hbx)
   have HPB:=ze (show p<1000000/\q<1000000 by
    have h1:=HXA.out;have h2:=HYA.out;have h3:=HL.out
    constructor
    ·by_cases h:p<0
     ·omega
     ·obtain⟨P,rfl⟩:=Int.eq_ofNat_of_zero_le (show 0<=p by omega)
      have:=zds h1 hp;omega
    ·by_cases h:q<0
     ·omega
     ·obtain⟨P,rfl⟩:=Int.eq_ofNat_of_zero_le (show 0<=q by omega)
      have:=zds h2 hq
      omega)
   clear hp hq
   by_cases hpq:p<0∨q<0
   ·have HN:=ze (show yI (k+1) rs (X.drop (k+1)) (Y.drop (k+1))=yI 0 [] X Y by rw[<-HRU.out,HST.out,zmB hpq])
    clear HST HRU
    rcases(show(p<0/\q<0)∨(p<0/\¬q<0)∨(¬p<0/\q<0) by omega)with⟨h1,h2⟩ |⟨h1,h2⟩ |⟨h1,h2⟩
    ·have N0:=ze (HPX.out.1 h1)
     have N1:=ze (HPY.out.1 h2);clear hpq h1 h2
     go_wp2_with (first
      |(at_lookup;refine qA rfl _ _ rfl g n D rfl HMX.out _ _ rfl HK0.out N0.out ?_)
      |(at_lookup;refine qA rfl _ _ rfl g n D rfl HMX.out _ _ rfl HK1.out N1.out ?_))
     go_roundg (a.length-(k+1))
     case measure=>omega
     case rel=>exact⟨k+1,rs,by omega,rfl,by go_num,ze (by have:=HRL.out;omega),HN,HO,hbx⟩
    ·have N0:=ze (HPX.out.1 h1)
     have Y1:=ze (HPY.out.2 h2);clear hpq h1 h2
     go_wp2_with (first
      |(at_lookup;refine qA rfl _ _ rfl g n D rfl HMX.out _ _ rfl HK0.out N0.out ?_)
      |(at_lookup;refine kM rfl _ _ rfl g n D rfl HMX.out _ _ rfl HK1.out q Y1.out.1 Y1.out.2 ?_))
     go_roundg (a.length-(k+1))
     case measure=>omega
     case rel=>exact⟨k+1,rs,by omega,rfl,by go_num,ze (by have:=HRL.out;omega),HN,HO,hbx⟩
    ·have Y0:=ze (HPX.out.2 h1)
     have N1:=ze (HPY.out.1 h2);clear hpq h1 h2
     go_wp2_with (first
      |(at_lookup;refine kM rfl _ _ rfl g n D rfl HMX.out _ _ rfl HK0.out p Y0.out.1 Y0.out.2 ?_)
      |(at_lookup;refine qA rfl _ _ rfl g n D rfl HMX.out _ _ rfl HK1.out N1.out ?_))
     go_roundg (a.length-(k+1))
     case measure=>omega
     case rel=>exact⟨k+1,rs,by omega,rfl,by go_num,ze (by have:=HRL.out;omega),HN,HO,hbx⟩
   ·have Y0:=ze (HPX.out.2 (by omega))
    have Y1:=ze (HPY.out.2 (by omega));obtain⟨P,rfl⟩:=Int.eq_ofNat_of_zero_le (show 0<=p by omega);obtain⟨Q,rfl⟩:=Int.eq_ofNat_of_zero_le (show 0<=q by omega);have P0:(0:Int)<=(P:Int):=Int.natCast_nonneg _;have Q0:(0:Int)<=(Q:Int):=Int.natCast_nonneg _;clear hpq
    go_wp2_with (first
      |(at_lookup;refine kM rfl _ _ rfl g n D rfl HMX.out _ _ rfl HK0.out P Y0.out.1 Y0.out.2 ?_)
      |(at_lookup;refine kM rfl _ _ rfl g n D rfl HMX.out _ _ rfl HK1.out Q Y1.out.1 Y1.out.2 ?_))
    have HB2:=ze (hbx.alloc hzx (.cells #[.int .i64 k,.int .i64 P,.int .i64 Q] 164));have HG2:=ze (heap_alloc_new wr (.cells #[.int .i64 k,.int .i64 P,.int .i64 Q] 164));have HO2:=ze (show xd (wr.alloc (.cells #[.int .i64 k,.int .i64 P,.int .i64 Q] 164)) w1.heap.size (.slice lo rs.length lcap) rs from World.ownsRow.alloc HO.out _);have HZ2:=ze (show wr.heap.size <(wr.alloc (.cells #[.int .i64 k,.int .i64 P,.int .i64 Q] 164)).heap.size by simp);have HLT:=ze (fun j (hj:(Value.slice lo rs.length lcap).ownBlock=some j)=>(World.ownsRow.lt HO.out j hj).2);generalize wr.alloc (.cells #[.int .i64 k,.int .i64 P,.int .i64 Q] 164)=W2 at HB2 HG2 HO2 HZ2 ⊢;obtain⟨gc,hgc⟩:∃z,wr.heap.size=z:=⟨_,rfl⟩;rw[hgc]at hzx HG2 HZ2 HLT ⊢;clear hgc HO HMX Y0 Y1 HPX HPY HK0 HK1 hbx
    have hcase:rs=[]∨∃L f t,rs=L++[((f,t):Rn)]:=by
     rcases List.eq_nil_or_concat rs with h |⟨L,r,h⟩
     ·exact .inl h
     ·exact .inr ⟨L,r.1,r.2,by rw[h,List.concat_eq_append]⟩
    rcases hcase with rfl |⟨L,f,t,rfl⟩
    ·have HN:=ze (show yI (k+1) ([]++[((k,P,Q),(k+1,P+1,Q+1))]) (X.drop (k+1)) (Y.drop (k+1))=yI 0 [] X Y by rw[<-HRU.out,HST.out,zlC];rfl)
     have HLB:=ze (show([]:List Rn).length<=400 from Nat.zero_le _);have HNE:=ze (show(Value.slice lo ([]:List Rn).length lcap).ownBlock≠some gc from fun e=>Nat.lt_irrefl _ (HLT.out gc e));clear HST HRU;go_quiet (fail);have HB3:=ze (show Below w1.heap.size w1 (W2.drewN nq)from HB2.out.trans ⟨rfl,rfl,rfl,Nat.le_refl _,fun _ _ =>rfl⟩);have HG3:=ze (show(W2.drewN nq).heap[gc]? = _ from HG2.out);have HO3:=ze (show xd (W2.drewN nq) w1.heap.size _ _ from HO2.out);have HZ3:=ze (show gc <(W2.drewN nq).heap.size from HZ2.out);clear HO2 HB2 HG2 HZ2;generalize W2.drewN nq=W3 at HB3 HG3 HO3 HZ3 ⊢;have f0:=zd (i:=0) HG3.out rfl;have f1:=zd (i:=1) HG3.out rfl;have f2:=zd (i:=2) HG3.out rfl
     go_wp2_with (first
      |(refine kr rfl (.tmp 57) (.tmp 60) rfl w1.heap.size _ [] ((k,P,Q),(0,0,0)) rfl HO3.out rfl (by have h1:=HL.out;have h2:=HRL.out;omega) (by have:=HB3.out.size;omega) ?_;intro v4 W4 hO4 hb4 hK4
        have hG4:=(hK4 gc HZ3.out HNE.out).trans HG3.out;have hB4:=HB3.out.trans hb4;clear hb4 hK4;obtain⟨g4,cap4,rfl,hg4,hl4⟩:=hO4.last;obtain⟨m4,hm4⟩:∃z,([]:List Rn).length+1=z:=⟨_,rfl⟩;obtain⟨j4,hj4⟩:∃z,([]:List Rn).length=z:=⟨_,rfl⟩;have HJ4:=ze hj4;have HL4:=ze hg4;have b0:(0:Int)<=(j4:Int):=Int.natCast_nonneg _
        have b1:(j4:Int)<(m4:Int):=by omega
        have b2:IntKind.i64.wrap ((m4:Int)-1)=(j4:Int):=(IntWalk.i64_in _ (by have h1:=HL.out;have h2:=HRL.out;omega)).trans (by omega);rw[hm4]at hO4 ⊢;have HO4:=ze hO4;have HB4:=ze hB4;have HG4:=ze hG4;have c0:=zd (i:=0) hG4 rfl;have c1:=zd (i:=1) hG4 rfl;have c2:=zd (i:=2) hG4 rfl;have HNX:=ze (zbL k P Q W4 (by have:=HL.out;omega) (by have:=HPB.out;omega) (by have:=HPB.out;omega))
        clear hm4 hj4 hO4 hB4 hG4 hg4 hl4)
      |(go_at_call 148;with_reducible refine HNX.out.mono ?_;rintro e w5 ⟨rfl,hb5⟩
        have HO5:=ze (xd.old HO4.out hb5);have HB5:=ze (zi HB4.out hb5 HB4.out.size)
        clear hb5)
      |(refine jb rfl _ _ rfl w1.heap.size g4 m4 cap4 _ _ (k+1,P+1,Q+1) HO5.out (j4*6+3) (by rw[HJ4.out]) rfl rfl ?_;intro w6 hO6 hk6
        have HO6:=ze hO6;have HB6:=ze (HB5.out.trans (hk6.below (by have:=HB5.out.size;omega) (fun b hb e=>by have:=HL4.out;omega)))
        clear hO6 hk6))
     go_roundg (a.length-(k+1))
     case measure=>omega
     case rel=>exact⟨k+1,_,by omega,rfl,by go_num,ze (by simp),HN,HO6,HB6.out⟩
    ·obtain⟨lo',lcap',hv,hlo,hlz⟩:=HO2.out.last
     obtain⟨g',r1,r2,r3,r4,r5,r6,hlo',he,-,-,-,e3,e4,e5⟩:=HO2.out.sl.at' (i:=L.length) (by simp);rw[List.getElem?_concat_length]at he;cases he;rw[List.length_append,List.length_singleton]at hv;cases hv;cases hlo';rw[List.length_append,List.length_singleton]at HO2 HLT HRL ⊢;obtain⟨m,hm⟩:∃m,L.length+1=m:=⟨_,rfl⟩;obtain⟨j,hj⟩:∃j,L.length=j:=⟨_,rfl⟩;have HJ:=ze hj;have HMJ:=ze hm;rw[hm]at HO2 HLT HRL ⊢;rw[hj]at e3 e4 e5;have m0:(0:Int)<=(m:Int):=Int.natCast_nonneg _;have j0:(0:Int)<=(j:Int):=Int.natCast_nonneg _
     have jm:(j:Int)<(m:Int):=by omega
     have mne:((m:Int)==0)=false:=by simp;omega
     have mw:IntKind.i64.wrap ((m:Int)-1)=(j:Int):=(IntWalk.i64_in _ (by have h1:=HL.out;have h2:=HRL.out;omega)).trans (by omega);clear hm hj;have f0:=zd (i:=0) HG2.out rfl;have f1:=zd (i:=1) HG2.out rfl;have f2:=zd (i:=2) HG2.out rfl
     by_cases ht:(r4,r5,r6)=(k,P,Q)
     ·cases ht
      have HN:=ze (show yI (k+1) (L++[((r1,r2,r3),(k+1,P+1,Q+1))]) (X.drop (k+1)) (Y.drop (k+1))=yI 0 [] X Y by rw[<-HRU.out,HST.out,zml]);clear HST HRU;go_quiet (fail);have HB3:=ze (show Below w1.heap.size w1 (W2.drewN nq)from HB2.out.trans ⟨rfl,rfl,rfl,Nat.le_refl _,fun _ _ =>rfl⟩);have HG3:=ze (show(W2.drewN nq).heap[gc]? = _ from HG2.out);have HO3:=ze (show xd (W2.drewN nq) w1.heap.size _ _ from HO2.out);have HZ3:=ze (show gc <(W2.drewN nq).heap.size from HZ2.out);clear HO2 HB2 HG2 HZ2 e3 e4 e5 f0 f1 f2;generalize W2.drewN nq=W3 at HB3 HG3 HO3 HZ3 ⊢;have HJ4:=HJ;have HL4:=ze hlo;have HO4:=HO3;have HB4:=HB3;have f0:=zd (i:=0) HG3.out rfl;have f1:=zd (i:=1) HG3.out rfl;have f2:=zd (i:=2) HG3.out rfl;have HNX:=ze (zbL k P Q W3 (by have:=HL.out;omega) (by have:=HPB.out;omega) (by have:=HPB.out;omega))
      go_wp2_with (first
       |(go_at_call 148;with_reducible refine HNX.out.mono ?_;rintro e w5 ⟨rfl,hb5⟩
         have HO5:=ze (xd.old HO4.out hb5);have HB5:=ze (zi HB4.out hb5 HB4.out.size)
         clear hb5)
       |(refine jb rfl _ _ rfl w1.heap.size lo' m lcap _ _ (k+1,P+1,Q+1) HO5.out (j*6+3) (by rw[HJ4.out]) rfl rfl ?_;intro w6 hO6 hk6
         have HO6:=ze hO6;have HB6:=ze (HB5.out.trans (hk6.below (by have:=HB5.out.size;omega) (fun b hb e=>by have:=HL4.out;omega)))
         clear hO6 hk6))
      go_roundg (a.length-(k+1))
      case measure=>omega
      case rel=>exact⟨k+1,_,by omega,rfl,by go_num,ze (by have h1:=HRL.out;have h2:=HMJ.out;simp;omega),HN,HO6,HB6.out⟩
     ·have hnn:r4≠k∨(k=r4/\r5≠P)∨(k=r4/\P=r5/\r6≠Q):=by
       apply Classical.byContradiction
       intro h
       apply ht
       have:r4=k/\r5=P/\r6=Q:=by omega
       rw[this.1,this.2.1,this.2.2]
      have HT:=ze ht;clear ht
      rcases hnn with h4 |⟨rfl,h5⟩ |⟨rfl,rfl,h6⟩
      ·have n4:((r4:Int)==(k:Int))=false:=by simp;omega
       have n4':(r4==k)=false:=by simpa using h4
       have HN:=ze (show yI (k+1) (L++[((r1,r2,r3),(r4,r5,r6))]++[((k,P,Q),(k+1,P+1,Q+1))]) (X.drop (k+1)) (Y.drop (k+1))=yI 0 [] X Y by rw[<-HRU.out,HST.out,zdo _ _ _ _ _ _ HT.out]);have HLB:=ze (show(L++[((r1,r2,r3),(r4,r5,r6))]).length<=k/\k<=3000 by have h1:=HRL.out;have h2:=HMJ.out;have h3:=HL.out;simp;omega);have HNE:=ze (show(Value.slice (some ⟨lo',0,none⟩) m lcap).ownBlock≠some gc from fun e=>Nat.lt_irrefl _ (HLT.out gc e));clear HST HRU;go_quiet (fail);have HB3:=ze (show Below w1.heap.size w1 (W2.drewN nq)from HB2.out.trans ⟨rfl,rfl,rfl,Nat.le_refl _,fun _ _ =>rfl⟩);have HG3:=ze (show(W2.drewN nq).heap[gc]? = _ from HG2.out);have HO3:=ze (show xd (W2.drewN nq) w1.heap.size _ _ from HO2.out);have HZ3:=ze (show gc <(W2.drewN nq).heap.size from HZ2.out);clear HO2 HB2 HG2 HZ2 e3 e4 e5 f0 f1 f2;generalize W2.drewN nq=W3 at HB3 HG3 HO3 HZ3 ⊢;have f0:=zd (i:=0) HG3.out rfl;have f1:=zd (i:=1) HG3.out rfl;have f2:=zd (i:=2) HG3.out rfl
       go_wp2_with (first
        |(refine kr rfl (.tmp 57) (.tmp 60) rfl w1.heap.size _ (L++[((r1,r2,r3),(r4,r5,r6))]) ((k,P,Q),(0,0,0)) rfl HO3.out rfl (by have h2:=HLB.out;omega) (by have:=HB3.out.size;omega) ?_;intro v4 W4 hO4 hb4 hK4
          have hG4:=(hK4 gc HZ3.out HNE.out).trans HG3.out;have hB4:=HB3.out.trans hb4;clear hb4 hK4;obtain⟨g4,cap4,rfl,hg4,hl4⟩:=hO4.last;obtain⟨m4,hm4⟩:∃z,(L++[((r1,r2,r3),(r4,r5,r6))]).length+1=z:=⟨_,rfl⟩;obtain⟨j4,hj4⟩:∃z,(L++[((r1,r2,r3),(r4,r5,r6))]).length=z:=⟨_,rfl⟩;have HJ4:=ze hj4;have HL4:=ze hg4;have b0:(0:Int)<=(j4:Int):=Int.natCast_nonneg _
          have b1:(j4:Int)<(m4:Int):=by omega
          have b2:IntKind.i64.wrap ((m4:Int)-1)=(j4:Int):=(IntWalk.i64_in _ (by have h1:=HL.out;have h2:=HLB.out;omega)).trans (by omega);rw[hm4]at hO4 ⊢;have HO4:=ze hO4;have HB4:=ze hB4;have HG4:=ze hG4;have c0:=zd (i:=0) hG4 rfl;have c1:=zd (i:=1) hG4 rfl;have c2:=zd (i:=2) hG4 rfl;have HNX:=ze (zbL k P Q W4 (by have:=HL.out;omega) (by have:=HPB.out;omega) (by have:=HPB.out;omega))
          clear hm4 hj4 hO4 hB4 hG4 hg4 hl4)
        |(go_at_call 148;with_reducible refine HNX.out.mono ?_;rintro e w5 ⟨rfl,hb5⟩
          have HO5:=ze (xd.old HO4.out hb5);have HB5:=ze (zi HB4.out hb5 HB4.out.size)
          clear hb5)
        |(refine jb rfl _ _ rfl w1.heap.size g4 m4 cap4 _ _ (k+1,P+1,Q+1) HO5.out (j4*6+3) (by rw[HJ4.out]) rfl rfl ?_;intro w6 hO6 hk6
          have HO6:=ze hO6;have HB6:=ze (HB5.out.trans (hk6.below (by have:=HB5.out.size;omega) (fun b hb e=>by have:=HL4.out;omega)))
          clear hO6 hk6))
       go_roundg (a.length-(k+1))
       case measure=>omega
       case rel=>exact⟨k+1,_,by omega,rfl,by go_num,ze (by have h1:=HLB.out;rw[List.length_append,List.length_singleton];omega),HN,HO6,HB6.out⟩
      ·have n5:((r5:Int)==(P:Int))=false:=by simp;omega
       have n5':(r5==P)=false:=by simpa using h5
       have HN:=ze (show yI (k+1) (L++[((r1,r2,r3),(k,r5,r6))]++[((k,P,Q),(k+1,P+1,Q+1))]) (X.drop (k+1)) (Y.drop (k+1))=yI 0 [] X Y by rw[<-HRU.out,HST.out,zdo _ _ _ _ _ _ HT.out]);have HLB:=ze (show(L++[((r1,r2,r3),(k,r5,r6))]).length<=k/\k<=3000 by have h1:=HRL.out;have h2:=HMJ.out;have h3:=HL.out;simp;omega);have HNE:=ze (show(Value.slice (some ⟨lo',0,none⟩) m lcap).ownBlock≠some gc from fun e=>Nat.lt_irrefl _ (HLT.out gc e));clear HST HRU;go_quiet (fail);have HB3:=ze (show Below w1.heap.size w1 (W2.drewN nq)from HB2.out.trans ⟨rfl,rfl,rfl,Nat.le_refl _,fun _ _ =>rfl⟩);have HG3:=ze (show(W2.drewN nq).heap[gc]? = _ from HG2.out);have HO3:=ze (show xd (W2.drewN nq) w1.heap.size _ _ from HO2.out);have HZ3:=ze (show gc <(W2.drewN nq).heap.size from HZ2.out);clear HO2 HB2 HG2 HZ2 e3 e4 e5 f0 f1 f2;generalize W2.drewN nq=W3 at HB3 HG3 HO3 HZ3 ⊢;have f0:=zd (i:=0) HG3.out rfl;have f1:=zd (i:=1) HG3.out rfl;have f2:=zd (i:=2) HG3.out rfl
       go_wp2_with (first
        |(refine kr rfl (.tmp 57) (.tmp 60) rfl w1.heap.size _ (L++[((r1,r2,r3),(k,r5,r6))]) ((k,P,Q),(0,0,0)) rfl HO3.out rfl (by have h2:=HLB.out;omega) (by have:=HB3.out.size;omega) ?_;intro v4 W4 hO4 hb4 hK4
          have hG4:=(hK4 gc HZ3.out HNE.out).trans HG3.out;have hB4:=HB3.out.trans hb4;clear hb4 hK4;obtain⟨g4,cap4,rfl,hg4,hl4⟩:=hO4.last;obtain⟨m4,hm4⟩:∃z,(L++[((r1,r2,r3),(k,r5,r6))]).length+1=z:=⟨_,rfl⟩;obtain⟨j4,hj4⟩:∃z,(L++[((r1,r2,r3),(k,r5,r6))]).length=z:=⟨_,rfl⟩;have HJ4:=ze hj4;have HL4:=ze hg4;have b0:(0:Int)<=(j4:Int):=Int.natCast_nonneg _
          have b1:(j4:Int)<(m4:Int):=by omega
          have b2:IntKind.i64.wrap ((m4:Int)-1)=(j4:Int):=(IntWalk.i64_in _ (by have h1:=HL.out;have h2:=HLB.out;omega)).trans (by omega);rw[hm4]at hO4 ⊢;have HO4:=ze hO4;have HB4:=ze hB4;have HG4:=ze hG4;have c0:=zd (i:=0) hG4 rfl;have c1:=zd (i:=1) hG4 rfl;have c2:=zd (i:=2) hG4 rfl;have HNX:=ze (zbL k P Q W4 (by have:=HL.out;omega) (by have:=HPB.out;omega) (by have:=HPB.out;omega))
          clear hm4 hj4 hO4 hB4 hG4 hg4 hl4)
        |(go_at_call 148;with_reducible refine HNX.out.mono ?_;rintro e w5 ⟨rfl,hb5⟩
          have HO5:=ze (xd.old HO4.out hb5);have HB5:=ze (zi HB4.out hb5 HB4.out.size)
          clear hb5)
        |(refine jb rfl _ _ rfl w1.heap.size g4 m4 cap4 _ _ (k+1,P+1,Q+1) HO5.out (j4*6+3) (by rw[HJ4.out]) rfl rfl ?_;intro w6 hO6 hk6
          have HO6:=ze hO6;have HB6:=ze (HB5.out.trans (hk6.below (by have:=HB5.out.size;omega) (fun b hb e=>by have:=HL4.out;omega)))
          clear hO6 hk6))
       go_roundg (a.length-(k+1))
       case measure=>omega
       case rel=>exact⟨k+1,_,by omega,rfl,by go_num,ze (by have h1:=HLB.out;rw[List.length_append,List.length_singleton];omega),HN,HO6,HB6.out⟩
      ·have n6:((r6:Int)==(Q:Int))=false:=by simp;omega
       have n6':(r6==Q)=false:=by simpa using h6
       have HN:=ze (show yI (k+1) (L++[((r1,r2,r3),(k,P,r6))]++[((k,P,Q),(k+1,P+1,Q+1))]) (X.drop (k+1)) (Y.drop (k+1))=yI 0 [] X Y by rw[<-HRU.out,HST.out,zdo _ _ _ _ _ _ HT.out]);have HLB:=ze (show(L++[((r1,r2,r3),(k,P,r6))]).length<=k/\k<=3000 by have h1:=HRL.out;have h2:=HMJ.out;have h3:=HL.out;simp;omega);have HNE:=ze (show(Value.slice (some ⟨lo',0,none⟩) m lcap).ownBlock≠some gc from fun e=>Nat.lt_irrefl _ (HLT.out gc e));clear HST HRU;go_quiet (fail);have HB3:=ze (show Below w1.heap.size w1 (W2.drewN nq)from HB2.out.trans ⟨rfl,rfl,rfl,Nat.le_refl _,fun _ _ =>rfl⟩);have HG3:=ze (show(W2.drewN nq).heap[gc]? = _ from HG2.out);have HO3:=ze (show xd (W2.drewN nq) w1.heap.size _ _ from HO2.out);have HZ3:=ze (show gc <(W2.drewN nq).heap.size from HZ2.out);clear HO2 HB2 HG2 HZ2 e3 e4 e5 f0 f1 f2;generalize W2.drewN nq=W3 at HB3 HG3 HO3 HZ3 ⊢;have f0:=zd (i:=0) HG3.out rfl;have f1:=zd (i:=1) HG3.out rfl;have f2:=zd (i:=2) HG3.out rfl
       go_wp2_with (first
        |(refine kr rfl (.tmp 57) (.tmp 60) rfl w1.heap.size _ (L++[((r1,r2,r3),(k,P,r6))]) ((k,P,Q),(0,0,0)) rfl HO3.out rfl (by have h2:=HLB.out;omega) (by have:=HB3.out.size;omega) ?_;intro v4 W4 hO4 hb4 hK4
          have hG4:=(hK4 gc HZ3.out HNE.out).trans HG3.out;have hB4:=HB3.out.trans hb4;clear hb4 hK4;obtain⟨g4,cap4,rfl,hg4,hl4⟩:=hO4.last;obtain⟨m4,hm4⟩:∃z,(L++[((r1,r2,r3),(k,P,r6))]).length+1=z:=⟨_,rfl⟩;obtain⟨j4,hj4⟩:∃z,(L++[((r1,r2,r3),(k,P,r6))]).length=z:=⟨_,rfl⟩;have HJ4:=ze hj4;have HL4:=ze hg4;have b0:(0:Int)<=(j4:Int):=Int.natCast_nonneg _
          have b1:(j4:Int)<(m4:Int):=by omega
          have b2:IntKind.i64.wrap ((m4:Int)-1)=(j4:Int):=(IntWalk.i64_in _ (by have h1:=HL.out;have h2:=HLB.out;omega)).trans (by omega);rw[hm4]at hO4 ⊢;have HO4:=ze hO4;have HB4:=ze hB4;have HG4:=ze hG4;have c0:=zd (i:=0) hG4 rfl;have c1:=zd (i:=1) hG4 rfl;have c2:=zd (i:=2) hG4 rfl;have HNX:=ze (zbL k P Q W4 (by have:=HL.out;omega) (by have:=HPB.out;omega) (by have:=HPB.out;omega))
          clear hm4 hj4 hO4 hB4 hG4 hg4 hl4)
        |(go_at_call 148;with_reducible refine HNX.out.mono ?_;rintro e w5 ⟨rfl,hb5⟩
          have HO5:=ze (xd.old HO4.out hb5);have HB5:=ze (zi HB4.out hb5 HB4.out.size)
          clear hb5)
        |(refine jb rfl _ _ rfl w1.heap.size g4 m4 cap4 _ _ (k+1,P+1,Q+1) HO5.out (j4*6+3) (by rw[HJ4.out]) rfl rfl ?_;intro w6 hO6 hk6
          have HO6:=ze hO6;have HB6:=ze (HB5.out.trans (hk6.below (by have:=HB5.out.size;omega) (fun b hb e=>by have:=HL4.out;omega)))
          clear hO6 hk6))
       go_roundg (a.length-(k+1))
       case measure=>omega
       case rel=>exact⟨k+1,_,by omega,rfl,by go_num,ze (by have h1:=HLB.out;rw[List.length_append,List.length_singleton];omega),HN,HO6,HB6.out⟩
  ·obtain rfl:k=a.length:=by omega
   have hneg:¬(a.length:Int)<(a.length:Int):=by omega
   have HX:Hid (rs=yI 0 [] X Y):=ze (by
    rw[<-HRU.out,List.drop_of_length_le (by have:=HXL.out;omega),yI]
    simp)
   have HSL:=ze (HO.out.low HB1.out.size);go_wp2_with fail;go_ret;rw[<-HX.out];exact⟨_,rfl,HSL.out,HRL.out,zi HB1.out hbx HB1.out.size⟩
end
open Go.RowKit
theorem zgc{x1 x2 x3 y1 y2 y3:Nat}(h:(x1,x2,x3)≠ (y1,y2,y3))(wx:World):(binOp .neq 164 (.agg #[.int .i64 x1,.int .i64 x2,.int .i64 x3]) (.agg #[.int .i64 y1,.int .i64 y2,.int .i64 y3])).run Tryz.prog wx= .ok (.bool true) wx:=by
 have hnn:x1≠y1∨(x1=y1/\x2≠y2)∨(x1=y1/\x2=y2/\x3≠y3):=by
  apply Classical.byContradiction
  intro hc
  apply h
  have:x1=y1/\x2=y2/\x3=y3:=by omega
  rw[this.1,this.2.1,this.2.2]
 clear h
 rcases hnn with h4 |⟨rfl,h5⟩ |⟨rfl,rfl,h6⟩
 ·have n4:((x1:Int)==(y1:Int))=false:=by simp;omega
  clear h4
  go_simp
 ·have n4:((x2:Int)==(y2:Int))=false:=by simp;omega
  clear h5
  go_simp
 ·have n4:((x3:Int)==(y3:Int))=false:=by simp;omega
  clear h6
  go_simp
open Go.RowKit
structure zpe(w:World)(T F E:Array Value)(wx:World):Prop where
 below:Below w.heap.size w wx
 big:w.heap.size+1+1+1<wx.heap.size
 t:wx.heap[w.heap.size]? =some (.cells T 162 (0,0))
 f:wx.heap[w.heap.size+1]? =some (.cells F 164 (0,0))
 e:wx.heap[w.heap.size+1+1]? =some (.cells E 164 (0,0))
structure zaz(w:World)(T F E:Array Value)(wx:World):Prop where
 live:zpe w T F E wx
 z:wx.heap[w.heap.size+1+1+1]? =some (.cells #[.int .i64 0,.slice none 0 0,.slice none 0 0,.slice none 0 0] 104 (0,0))
theorem zpe.set{w wx:World}{T F E:Array Value}(h:zpe w T F E wx)(i:Nat)(u:Value):zpe w T F E (wx.setCell ⟨w.heap.size+1+1+1,i,none⟩ u):=
 ⟨h.below.setCell (by simp only;omega) _,by have:=h.big;simp[World.setCell];omega,(Below.heap_setCell _ _ _ _ (by simp only;omega)).trans h.t,(Below.heap_setCell _ _ _ _ (by simp only;omega)).trans h.f,(Below.heap_setCell _ _ _ _ (by simp only;omega)).trans h.e⟩
theorem zaz.step{w wx w':World}{T F E:Array Value}(h:zaz w T F E wx)(k:Below wx.heap.size wx w'):zaz w T F E w':=by
 have hb:=h.live.big;exact⟨⟨zi h.live.below k h.live.below.size,Nat.lt_of_lt_of_le hb k.size,(k.block _ (by omega)).trans h.live.t,(k.block _ (by omega)).trans h.live.f,(k.block _ (by omega)).trans h.live.e⟩,(k.block _ hb).trans h.z⟩
theorem zaz.start(w:World)(T F E:Array Value):zaz w T F E ((((w.alloc (.cells T 162)).alloc (.cells F 164)).alloc (.cells E 164)).alloc (.cells #[.int .i64 0,.slice none 0 0,.slice none 0 0,.slice none 0 0] 104)):=by
 have z1:(w.alloc (.cells T 162)).heap.size=w.heap.size+1:=by simp
 have z2:((w.alloc (.cells T 162)).alloc (.cells F 164)).heap.size=w.heap.size+1+1:=by simp
 have z3:(((w.alloc (.cells T 162)).alloc (.cells F 164)).alloc (.cells E 164)).heap.size=w.heap.size+1+1+1:=by simp
 refine⟨⟨((((Below.refl _ w).alloc (Nat.le_refl _) _).alloc (by omega) _).alloc (by omega) _).alloc (by omega) _,by simp,?_,?_,?_⟩,?_⟩
 ·exact(Below.heap_alloc _ _ _ (by omega)).trans ((Below.heap_alloc _ _ _ (by omega)).trans ((Below.heap_alloc _ _ _ (by omega)).trans (heap_alloc_new _ _)))
 ·exact(Below.heap_alloc _ _ _ (by omega)).trans ((Below.heap_alloc _ _ _ (by omega)).trans (z1 ▸ heap_alloc_new _ _))
 ·exact(Below.heap_alloc _ _ _ (by omega)).trans (z2 ▸ heap_alloc_new _ _)
 ·exact z3 ▸ heap_alloc_new _ _
theorem set4{wx:World}{z:Nat}{c0 c1 c2 c3:Value}{t:TypeId}(h:wx.heap[z]? =some (.cells #[c0,c1,c2,c3] t (0,0)))(d0 d1 d2 d3:Value):((((wx.setCell ⟨z,0,none⟩ d0).setCell ⟨z,1,none⟩ d1).setCell ⟨z,2,none⟩ d2).setCell ⟨z,3,none⟩ d3).heap[z]? =some (.cells #[d0,d1,d2,d3] t (0,0)):=by
 have e1:=zv (i:=0) (u:=d0) h;have e2:=zv (i:=1) (u:=d1) e1;have e3:=zv (i:=2) (u:=d2) e2;exact zv (i:=3) (u:=d3) e3
theorem zer(wx:World)(z:Nat)(d0 d1 d2 d3:Value)(k:Nat)(hk:k≠z):((((wx.setCell ⟨z,0,none⟩ d0).setCell ⟨z,1,none⟩ d1).setCell ⟨z,2,none⟩ d2).setCell ⟨z,3,none⟩ d3).heap[k]? =wx.heap[k]? :=
 (Below.heap_setCell _ _ _ _ hk).trans ((Below.heap_setCell _ _ _ _ hk).trans ((Below.heap_setCell _ _ _ _ hk).trans (Below.heap_setCell _ _ _ _ hk)))
theorem zmy{w w':World}{base z:Nat}{v:Value}{n:Nat}{xs:List Value}{cs:Array Value}(h:w.ownsRow base 9 1 v n xs)(hz:w.heap[z]? =some (.cells cs 104 (0,0)))(hk:∀k,k≠z->w'.heap[k]? =w.heap[k]?):w'.ownsRow base 9 1 v n xs:=by
 refine⟨h.1,?_⟩
 rcases h.2 with hn |⟨g,cap,cur,rfl,r1,r2,r3⟩
 ·exact .inl hn
 ·refine .inr ⟨g,cap,cur,rfl,r1,(hk g fun e=>?_).trans r2,r3⟩
  rw[e,hz]at r2;simp at r2
theorem zaQ{w wx:World}{T F E:Array Value}{A B C:List (List UInt8)}{ua ub uc:Value}(k:Value)(h:zaz w T F E wx)(ha:wx.ownsRow w.heap.size 9 1 ua A.length (zj A))(hb:wx.ownsRow w.heap.size 9 1 ub B.length (zj B))(hc:wx.ownsRow w.heap.size 9 1 uc C.length (zj C)):
  ((((wx.setCell ⟨w.heap.size+1+1+1,0,none⟩ k).setCell ⟨w.heap.size+1+1+1,1,none⟩ ua).setCell ⟨w.heap.size+1+1+1,2,none⟩ ub).setCell ⟨w.heap.size+1+1+1,3,none⟩ uc).heap[w.heap.size+1+1+1]? =some (.cells #[k,ua,ub,uc] 104 (0,0))/\
   zbM ((((wx.setCell ⟨w.heap.size+1+1+1,0,none⟩ k).setCell ⟨w.heap.size+1+1+1,1,none⟩ ua).setCell ⟨w.heap.size+1+1+1,2,none⟩ ub).setCell ⟨w.heap.size+1+1+1,3,none⟩ uc) w.heap.size ua ub uc A B C/\
   Below w.heap.size w ((((wx.setCell ⟨w.heap.size+1+1+1,0,none⟩ k).setCell ⟨w.heap.size+1+1+1,1,none⟩ ua).setCell ⟨w.heap.size+1+1+1,2,none⟩ ub).setCell ⟨w.heap.size+1+1+1,3,none⟩ uc):=
 ⟨set4 h.z _ _ _ _,⟨zmy ha h.z (zer _ _ _ _ _ _),zmy hb h.z (zer _ _ _ _ _ _),zmy hc h.z (zer _ _ _ _ _ _)⟩,((((h.live.set _ _).set _ _).set _ _).set _ _).below⟩
theorem xJ{w w':World}{base:Nat}{v:Value}{n:Nat}{xs:List Value}(h:w.ownsRow base 9 1 v n xs)(hk:Below w.heap.size w w'):w'.ownsRow base 9 1 v n xs:=zD h fun g _ hg=>hk.block g hg
section
theorem zcV(v:Value)(xs:List (List UInt8))(w:World)(hv:Sl w v (zj xs))(hl:xs.length<=1000000):
  Calls Tryz.prog 150 #[v] w fun e w'=>∃u,e= .returned u/\w'.ownsRow w.heap.size 9 1 u xs.length (zj xs)/\Below w.heap.size w w':=by
 obtain⟨ao,cap,rfl⟩:=hv.form;rw[zk]at hv ⊢;have HV:=ze hv;clear hv
 go_enter Tryz.func150,Tryz.ntmps150
 go_wp2_with (refine zC rfl (.const (.slice none 0 0)) (.tmp 3) rfl w.heap.size _ [] xs rfl (World.ownsRow_nil _ _ _ _) _ rfl HV.out (by simp;omega) (Nat.le_refl _) ?_;intro u1 w1 p1 q1;rw[List.nil_append]at p1;have HP1:=ze p1;have HQ1:=ze q1;clear p1 q1)
 go_ret;exact⟨_,rfl,HP1.out,HQ1.out⟩
theorem zdW(kind:Int)(va vb vc:Value)(a b c:List (List UInt8))(f1 f2 f3 t1 t2 t3:Nat)(w:World)(ha:Sl w va (zj a))(hb:Sl w vb (zj b))(hc:Sl w vc (zj c))(la:a.length<=1000000)(lb:b.length<=1000000)(lc:c.length<=1000000)
  (h1:f1<=t1) (h1':t1<=a.length) (h2:f2<=t2) (h2':t2<=b.length) (h3:f3<=t3) (h3':t3<=c.length):
  Calls Tryz.prog 124 #[.agg #[va,vb,vc],.int .i64 kind,.agg #[.int .i64 f1,.int .i64 f2,.int .i64 f3],.agg #[.int .i64 t1,.int .i64 t2,.int .i64 t3]] w fun e w'=>∃ua ub uc,e= .returned (.agg #[.int .i64 kind,ua,ub,uc])/\zbM w' w.heap.size ua ub uc (zL a f1 t1) (zL b f2 t2) (zL c f3 t3)/\Below w.heap.size w w':=by
 obtain⟨xa,ya,ra,sa⟩:=kD ha f1 t1 h1 h1';obtain⟨xb,yb,rb,sb⟩:=kD hb f2 t2 h2 h2';obtain⟨xc,yc,rc,sc⟩:=kD hc f3 t3 h3 h3';have ka:(zL a f1 t1).length=t1-f1:=zbN h1 h1';have kb:(zL b f2 t2).length=t2-f2:=zbN h2 h2';have kc:(zL c f3 t3).length=t3-f3:=zbN h3 h3'
 have hla:(zL a f1 t1).length<=1000000:=by omega
 have hlb:(zL b f2 t2).length<=1000000:=by omega
 have hlc:(zL c f3 t3).length<=1000000:=by omega
 have HSA:=ze (show Sl w (.slice xa (t1-f1) ya) (zj (zL a f1 t1))from sa);have HSB:=ze (show Sl w (.slice xb (t2-f2) yb) (zj (zL b f2 t2))from sb);have HSC:=ze (show Sl w (.slice xc (t3-f3) yc) (zj (zL c f3 t3))from sc);generalize zL a f1 t1=A at hla HSA ⊢;generalize zL b f2 t2=B at hlb HSB ⊢;generalize zL c f3 t3=C at hlc HSC ⊢;generalize t1-f1=na at ra HSA;generalize t2-f2=nb at rb HSB;generalize t3-f3=nc at rc HSC;have HLE:=ze (And.intro hla (And.intro hlb hlc));clear sa sb sc ka kb kc hla hlb hlc ha hb hc la lb lc h1 h1' h2 h2' h3 h3'
 go_enter Tryz.func124,Tryz.ntmps124
 go_wp2_with fail;have HV0:=zaz.start w #[va,vb,vc] #[.int .i64 f1,.int .i64 f2,.int .i64 f3] #[.int .i64 t1,.int .i64 t2,.int .i64 t3]
 have HCa:=ze (show ∀wx,zaz w #[va,vb,vc] #[.int .i64 f1,.int .i64 f2,.int .i64 f3] #[.int .i64 t1,.int .i64 t2,.int .i64 t3] wx->Calls Tryz.prog 150 #[.slice xa na ya] wx fun e w'=>∃u,e= .returned u/\w'.ownsRow w.heap.size 9 1 u A.length (zj A)/\Below wx.heap.size wx w'/\zaz w #[va,vb,vc] #[.int .i64 f1,.int .i64 f2,.int .i64 f3] #[.int .i64 t1,.int .i64 t2,.int .i64 t3] w' from fun wx hx=>by
  refine(zcV _ A wx (Sl.old HSA.out hx.live.below) HLE.out.1).mono ?_;rintro e w' ⟨u,rfl,q1,q2⟩
  exact⟨u,rfl,jB q1 hx.live.below.size,q2,hx.step q2⟩)
 have HCb:=ze (show ∀wx,zaz w #[va,vb,vc] #[.int .i64 f1,.int .i64 f2,.int .i64 f3] #[.int .i64 t1,.int .i64 t2,.int .i64 t3] wx->Calls Tryz.prog 150 #[.slice xb nb yb] wx fun e w'=>∃u,e= .returned u/\w'.ownsRow w.heap.size 9 1 u B.length (zj B)/\Below wx.heap.size wx w'/\zaz w #[va,vb,vc] #[.int .i64 f1,.int .i64 f2,.int .i64 f3] #[.int .i64 t1,.int .i64 t2,.int .i64 t3] w' from fun wx hx=>by
  refine(zcV _ B wx (Sl.old HSB.out hx.live.below) HLE.out.2.1).mono ?_;rintro e w' ⟨u,rfl,q1,q2⟩
  exact⟨u,rfl,jB q1 hx.live.below.size,q2,hx.step q2⟩)
 have HCc:=ze (show ∀wx,zaz w #[va,vb,vc] #[.int .i64 f1,.int .i64 f2,.int .i64 f3] #[.int .i64 t1,.int .i64 t2,.int .i64 t3] wx->Calls Tryz.prog 150 #[.slice xc nc yc] wx fun e w'=>∃u,e= .returned u/\w'.ownsRow w.heap.size 9 1 u C.length (zj C)/\Below wx.heap.size wx w'/\zaz w #[va,vb,vc] #[.int .i64 f1,.int .i64 f2,.int .i64 f3] #[.int .i64 t1,.int .i64 t2,.int .i64 t3] w' from fun wx hx=>by
  refine(zcV _ C wx (Sl.old HSC.out hx.live.below) HLE.out.2.2).mono ?_;rintro e w' ⟨u,rfl,q1,q2⟩
  exact⟨u,rfl,jB q1 hx.live.below.size,q2,hx.step q2⟩)
 have LS:=ze (show ∀wy,zpe w #[va,vb,vc] #[.int .i64 f1,.int .i64 f2,.int .i64 f3] #[.int .i64 t1,.int .i64 t2,.int .i64 t3] wy->wy.cell? ⟨w.heap.size,0,none⟩=some va/\wy.cell? ⟨w.heap.size,1,none⟩=some vb/\wy.cell? ⟨w.heap.size,2,none⟩=some vc/\wy.cell? ⟨w.heap.size+1,0,none⟩=some (.int .i64 f1)/\wy.cell? ⟨w.heap.size+1,1,none⟩=some (.int .i64 f2)/\wy.cell? ⟨w.heap.size+1,2,none⟩=some (.int .i64 f3)/\wy.cell? ⟨w.heap.size+1+1,0,none⟩=some (.int .i64 t1)/\wy.cell? ⟨w.heap.size+1+1,1,none⟩=some (.int .i64 t2)/\wy.cell? ⟨w.heap.size+1+1,2,none⟩=some (.int .i64 t3)from fun wy h=>⟨zd (i:=0) h.t rfl,zd (i:=1) h.t rfl,zd (i:=2) h.t rfl,zd (i:=0) h.f rfl,zd (i:=1) h.f rfl,zd (i:=2) h.f rfl,zd (i:=0) h.e rfl,zd (i:=1) h.e rfl,zd (i:=2) h.e rfl⟩);generalize(((w.alloc (.cells #[va,vb,vc] 162)).alloc (.cells #[.int .i64 f1,.int .i64 f2,.int .i64 f3] 164)).alloc (.cells #[.int .i64 t1,.int .i64 t2,.int .i64 t3] 164)).alloc (.cells #[.int .i64 0,.slice none 0 0,.slice none 0 0,.slice none 0 0] 104)=W0 at HV0 ⊢;have HV1:=HV0.step (Below.drew (Below.refl _ W0));clear HV0
 go_region_held3 (fun wy=>wy.cell? ⟨w.heap.size,0,none⟩=some va/\wy.cell? ⟨w.heap.size,1,none⟩=some vb/\wy.cell? ⟨w.heap.size,2,none⟩=some vc/\wy.cell? ⟨w.heap.size+1,0,none⟩=some (.int .i64 f1)/\wy.cell? ⟨w.heap.size+1,1,none⟩=some (.int .i64 f2)/\wy.cell? ⟨w.heap.size+1,2,none⟩=some (.int .i64 f3)/\wy.cell? ⟨w.heap.size+1+1,0,none⟩=some (.int .i64 t1)/\wy.cell? ⟨w.heap.size+1+1,1,none⟩=some (.int .i64 t2)/\wy.cell? ⟨w.heap.size+1+1,2,none⟩=some (.int .i64 t3)) (first |exact LS.out _ (zaz.live (by assumption)) |exact LS.out _ (((((zaz.live (by assumption)).set _ _).set _ _).set _ _).set _ _)) ((go_at_call 150;first
   |(with_reducible refine(HCa.out _ (by assumption)).mono ?_;rintro e wa ⟨ua,rfl,hOa,hba,hka⟩
     obtain⟨pa,qa,rfl⟩:=zl hOa;have HOa:=ze hOa;have HBa:=ze hba;have hz:=hka.z;have z0:=zd (i:=0) hz rfl;have z1:=zd (i:=1) hz rfl;have z2:=zd (i:=2) hz rfl;have z3:=zd (i:=3) hz rfl;have g0:=zo (i:=0) hz;have g1:=zo (i:=1) hz;have g2:=zo (i:=2) hz;have g3:=zo (i:=3) hz
     clear hOa hba hz)
   |(with_reducible refine(HCb.out _ (by assumption)).mono ?_;rintro e wb ⟨ub,rfl,hOb,hbb,hkb⟩
     obtain⟨pb,qb,rfl⟩:=zl hOb;have HOb:=ze hOb;have HBb:=ze hbb;have hz:=hkb.z;have z0:=zd (i:=0) hz rfl;have z1:=zd (i:=1) hz rfl;have z2:=zd (i:=2) hz rfl;have z3:=zd (i:=3) hz rfl;have g0:=zo (i:=0) hz;have g1:=zo (i:=1) hz;have g2:=zo (i:=2) hz;have g3:=zo (i:=3) hz
     clear hOb hbb hz)
   |(with_reducible refine(HCc.out _ (by assumption)).mono ?_;rintro e wc ⟨uc,rfl,hOc,hbc,hkc⟩
     obtain⟨pc,qc,rfl⟩:=zl hOc;have HOc:=ze hOc;have HBc:=ze hbc;have hz:=hkc.z;have z0:=zd (i:=0) hz rfl;have z1:=zd (i:=1) hz rfl;have z2:=zd (i:=2) hz rfl;have z3:=zd (i:=3) hz rfl;have g0:=zo (i:=0) hz;have g1:=zo (i:=1) hz;have g2:=zo (i:=2) hz;have g3:=zo (i:=3) hz
     clear hOc hbc hz)))
 all_goals
  first
  |(have hfin:=zaQ (.int .i64 kind) hkc (xJ (xJ HOa.out HBb.out) HBc.out) (xJ HOb.out HBc.out) HOc.out
    have HFZ:=ze hfin.1;have HFT:=ze hfin.2
    clear hfin)
  |(have hfin:=zaQ (.int .i64 kind) hkb (xJ (xJ HOa.out HBc.out) HBb.out) HOb.out (xJ HOc.out HBb.out)
    have HFZ:=ze hfin.1;have HFT:=ze hfin.2
    clear hfin)
  |(have hfin:=zaQ (.int .i64 kind) hkc (xJ HOa.out HBc.out) (xJ (xJ HOb.out HBa.out) HBc.out) HOc.out
    have HFZ:=ze hfin.1;have HFT:=ze hfin.2
    clear hfin)
  |(have hfin:=zaQ (.int .i64 kind) hka HOa.out (xJ (xJ HOb.out HBc.out) HBa.out) (xJ HOc.out HBa.out)
    have HFZ:=ze hfin.1;have HFT:=ze hfin.2
    clear hfin)
  |(have hfin:=zaQ (.int .i64 kind) hkb (xJ HOa.out HBb.out) HOb.out (xJ (xJ HOc.out HBa.out) HBb.out)
    have HFZ:=ze hfin.1;have HFT:=ze hfin.2
    clear hfin)
  |(have hfin:=zaQ (.int .i64 kind) hka HOa.out (xJ HOb.out HBa.out) (xJ (xJ HOc.out HBb.out) HBa.out)
    have HFZ:=ze hfin.1;have HFT:=ze hfin.2
    clear hfin)
  go_wp2_with fail;exact bodyPost_ret (results_cell_row rfl _ _ (w.heap.size+1+1+1) 104 _ (0,0) _ rfl HFZ.out Tryz.underlying104 rfl Tryz.sizeCk) rfl ⟨_,_,_,rfl,HFT.out.1,HFT.out.2⟩
end
open Go.RowKit
section
theorem zdc(a b:Value)(x y:List (List UInt8))(w:World)(ha:Sl w a (zj x))(hb:Sl w b (zj y))(hx:x.length<=maxLen):
  Calls Tryz.prog 149 #[a,b] w fun e w'=>e= .returned (.bool (x==y))/\∃m,w'=w.drewN m:=by
 obtain⟨aa,ca,rfl⟩:=ha.form;obtain⟨ab,cb,rfl⟩:=hb.form;rw[zk]at ha hb ⊢;rw[zk];unfold maxLen at hx
 by_cases hl:x.length=y.length
 ·have hne:(x.length !=y.length)=false:=by simp[hl]
  have hne':((x.length:Int) !=(y.length:Int))=false:=by simp[hl]
  have HL:=ze hl;clear hl
  go_enter Tryz.func149,Tryz.ntmps149
  go_wp2
  go_loopw [13] (fun i wr=>∃k:Nat,k<=x.length/\i= .int .i64 k/\x.take k=y.take k/\∃q,wr=w.drewN q) (fun i _ =>x.length-(intOf i).toNat)
  case atStart=>exact⟨0,Nat.zero_le _,rfl,rfl,0,rfl⟩
  case round=>
   obtain⟨k,hk,rfl,heq,q,rfl⟩:=hrel
   by_cases hlt:k<x.length
   ·obtain⟨a1,b1,rfl,hc1,hb1⟩:=ha.strAt' (i:=k) hlt
    obtain⟨a2,b2,rfl,hc2,hb2⟩:=hb.strAt' (i:=k) (by rw[<-HL.out];exact hlt)
    have hlt2:k<y.length:=by rw[<-HL.out];exact hlt
    have i0:(0:Int)<=(k:Int):=Int.natCast_nonneg _
    have i1:(k:Int)<(x.length:Int):=by omega
    have i2:(k:Int)<(y.length:Int):=by omega
    by_cases he:b1=b2
    ·subst he
     have hbe:(b1==b1)=true:=by simp
     have HEQ:=ze (show x.take (k+1)=y.take (k+1) by rw[yz hb1,yz hb2,heq]);clear hb1 hb2 heq;go_wp2_with fail;go_quiet (fail)
     go_wp2
     go_roundw
     case rel=>exact⟨k+1,by omega,by go_num,HEQ.out,_,rfl⟩
     case measure=>simp[intOf];omega
    ·have hbe:(b1==b2)=false:=by simpa using he
     have hxy:=ze (show(x==y)=false by
      simp;rintro rfl;rw[hb1]at hb2
      exact he (by simpa using hb2))
     clear hb1 hb2 heq he;go_wp2_with fail;go_quiet (fail)
     go_wp2
     go_ret;rw[hxy.out];exact⟨rfl,_,World.drewN_drewN _ _ _⟩
   ·obtain rfl:k=x.length:=by omega
    have hxy:=ze (show(x==y)=true by
     rw[List.take_length,HL.out,List.take_length]at heq
     simpa using heq)
    clear heq
    go_wp2
    go_ret;rw[hxy.out];exact⟨rfl,_,rfl⟩
 ·have hne:(x.length !=y.length)=true:=by simpa using hl
  have hne':((x.length:Int) !=(y.length:Int))=true:=by simp;omega
  have hxy:=ze (show(x==y)=false by
   simp;rintro rfl
   exact hl rfl)
  clear hl
  go_enter Tryz.func149,Tryz.ntmps149
  go_wp2
  go_ret;rw[hxy.out];exact⟨rfl,0,rfl⟩
end
end Go.Proofs.YtbnafihigoekeaaGreatDoor

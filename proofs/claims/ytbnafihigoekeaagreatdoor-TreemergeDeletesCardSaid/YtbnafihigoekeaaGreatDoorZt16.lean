/-
  TmTl, part 16.
-/
import Derived.Test.YtbnafihigoekeaaGreatDoorZt15
import Derived.Test.YtbnafihigoekeaaGreatDoorZt14
import Derived.Test.YtbnafihigoekeaaGreatDoorZt8
set_option maxRecDepth 100000
set_option maxHeartbeats 8000000
namespace Go.Proofs.YtbnafihigoekeaaGreatDoor
open Go.RowKit
section
variable{α:Type}
theorem zpm{s:List (Int × α)}{j:Nat}{k:Int}{x:α}(h:s[j]? =some (k,x))(n:Nat):
  zF n (s.drop j)=if k=1 then(n:Int)::zF (n+1) (s.drop (j+1))else if k=2 then -1::zF n (s.drop (j+1))else zF (n+1) (s.drop (j+1)):=by
 obtain⟨q,e⟩:=List.getElem?_eq_some_iff.1 h;rw[List.drop_eq_getElem_cons q,e]
 rfl
end
section
theorem zfZ(va vb:Value)(a b:List (List UInt8))(w:World)(ha:Sl w va (zj a))(hb:Sl w vb (zj b))(hal:a.length<=3000)(hbl:b.length<=3000):
  Calls Tryz.prog 83 #[va,vb] w fun e w'=>∃u,e= .returned u/\Sl w' u (je (yi a b))/\Below w.heap.size w w':=by
 have HCALL:=ze (zlr va vb a b w ha hb (by omega) (by omega))
 have hfew:(zU a b).length<=6000:=by
  have:=(yr a b).2.2.2;omega
 unfold yi;obtain⟨s,hs⟩:∃s,zU a b=s:=⟨_,rfl⟩;rw[hs]at HCALL hfew ⊢;obtain⟨aa,ca,rfl⟩:=ha.form;obtain⟨ab,cb,rfl⟩:=hb.form;clear ha hb hs hal hbl
 go_enter Tryz.func83,Tryz.ntmps83
 go_wp2_with fail;refine HCALL.out.mono ?_;rintro e w1 ⟨l,rfl,hE,hb1⟩;obtain⟨lo,lc,rfl⟩:=hE.form;have HE:=ze hE.slE;have hz1:=hb1.size;clear hE HCALL;go_wp2_with fail
 go_loopg [6,7,8] s.length (fun g nx at' i wx=>∃ (m A:Nat) (X:List Int),m<=s.length/\g=s.length-m/\i= .int .i64 m/\at'= .int .i64 A/\A<=m/\Hid (X++zF A (s.drop m)=zF 0 s)/\Hid (wx.ownsRow w1.heap.size 3 1 nx X.length (je X))/\Hid (X.length<=m)/\Below w1.heap.size w1 wx)
 case atStart=>exact⟨0,0,[],Nat.zero_le _,rfl,rfl,rfl,Nat.le_refl _,ze (by rw[List.drop_zero];rfl),ze (World.ownsRow_nil _ _ _ _),ze (Nat.le_refl _),Below.refl _ _⟩
 case round=>
  obtain⟨m,A,X,hm,rfl,rfl,rfl,hAm,HX,HN,HXL,hbx⟩:=hrel;have hzx:=hbx.size;obtain⟨no,nc,rfl⟩:=zl HN.out;have m0:(0:Int)<=(m:Int):=Int.natCast_nonneg _;have A0:(0:Int)<=(A:Int):=Int.natCast_nonneg _
  by_cases hmt:m<s.length
  ·have m1:(m:Int)<(s.length:Int):=by omega
   have mw:IntKind.i64.wrap ((m:Int)+1)=(m:Int)+1:=IntWalk.i64_in _ (by omega);have aw:IntKind.i64.wrap ((A:Int)+1)=((A+1:Nat):Int):=(IntWalk.i64_in _ (by omega)).trans (by omega);obtain⟨be,oe,c,x,rfl,hc,hd,he⟩:=(HE.out.old hbx).at' (i:=m) hmt;have HST:=ze (zpm he A)
   have hXm:X.length<=4000000000:=by have:=HXL.out;omega
   clear he hd
   by_cases h1:c=1
   ·subst h1
    have HX2:=ze (show(X++[(A:Int)])++zF (A+1) (s.drop (m+1))=zF 0 s by
     rw[<-HX.out,HST.out,if_pos rfl,List.append_assoc]
     rfl)
    clear HX HST
    go_wp2_with (refine zbv (w:=wr) (by rfl) (.tmp 27) (.tmp 29) (by rfl) w1.heap.size _ X (A:Int) (by rfl) HN.out (by rfl) hXm hzx ?_;intro v5 w5 hO5 B5 K5;have HO5:=ze hO5;have hb5:=hbx.trans B5;clear hO5 B5 K5)
    go_wp2_with fail
    go_roundg (s.length-(m+1))
    case measure=>omega
    case rel=>exact⟨m+1,A+1,X++[(A:Int)],by omega,rfl,by go_num,rfl,by omega,HX2,HO5,ze (by have:=HXL.out;rw[List.length_append,List.length_singleton];omega),hb5⟩
   ·by_cases h2:c=2
    ·subst h2
     have HX2:=ze (show(X++[(-1:Int)])++zF A (s.drop (m+1))=zF 0 s by
      rw[<-HX.out,HST.out,if_neg (by decide),if_pos rfl,List.append_assoc]
      rfl)
     clear HX HST h1
     go_wp2_with (refine zbv (w:=wr) (by rfl) (.tmp 35) (.tmp 36) (by rfl) w1.heap.size _ X (-1:Int) (by rfl) HN.out (by rfl) hXm hzx ?_;intro v5 w5 hO5 B5 K5;have HO5:=ze hO5;have hb5:=hbx.trans B5;clear hO5 B5 K5)
     go_wp2_with fail
     go_roundg (s.length-(m+1))
     case measure=>omega
     case rel=>exact⟨m+1,A,X++[(-1:Int)],by omega,rfl,by go_num,rfl,by omega,HX2,HO5,ze (by have:=HXL.out;rw[List.length_append,List.length_singleton];omega),hb5⟩
    ·have HX2:=ze (show X++zF (A+1) (s.drop (m+1))=zF 0 s by
      rw[<-HX.out,HST.out,if_neg h1,if_neg h2])
     have c1b:(c==1)=false:=by simpa using h1
     have c2b:(c==2)=false:=by simpa using h2
     clear HX HST h1 h2;go_wp2_with fail
     go_roundg (s.length-(m+1))
     case measure=>omega
     case rel=>exact⟨m+1,A+1,X,by omega,rfl,by go_num,rfl,by omega,HX2,HN,ze (by have:=HXL.out;omega),hbx⟩
  ·obtain rfl:m=s.length:=by omega
   have hneg:¬(s.length:Int)<(s.length:Int):=by omega
   have hXe:X=zF 0 s:=by
    have:=HX.out;rw[List.drop_length]at this;rw[<-this];exact(List.append_nil X).symm
   have HXE:=ze hXe;have HSL:=ze (Sl.ofOwns HN.out);clear hXe;go_wp2_with fail;go_ret;rw[<-HXE.out];exact⟨_,rfl,HSL.out,zi hb1 hbx hz1⟩
theorem zmS(v:Value)(cs:List CkS)(w:World)(hv:SlC w v cs)(hl:cs.length<=4000000):
  Calls Tryz.prog 62 #[v] w fun e w'=>e= .returned (.bool (xI cs))/\w=w':=by
 obtain⟨ao,cap,rfl⟩:=hv.form;have HV:=ze hv;clear hv
 go_enter Tryz.func62,Tryz.ntmps62
 go_wp2_with fail
 go_loopg [3] cs.length (fun g i wr=>∃k:Nat,k<=cs.length/\cs.length-k=g/\i= .int .i64 k/\Hid (xI cs=xI (cs.drop k))/\w=wr)
 case atStart=>exact⟨0,Nat.zero_le _,rfl,rfl,ze rfl,rfl⟩
 case round=>
  obtain⟨k,hk,rfl,rfl,HC,rfl⟩:=hrel;have k0:(0:Int)<=(k:Int):=Int.natCast_nonneg _
  by_cases hlt:k<cs.length
  ·have k1:(k:Int)<(cs.length:Int):=by omega
   have kw:IntKind.i64.wrap ((k:Int)+1)=(k:Int)+1:=IntWalk.i64_in _ (by omega);obtain⟨b,o,z,xb,xo,xt,vb,vo,vt,rfl,c1,c2,c3,c4,s1,s2,s3,he⟩:=HV.out.at' (i:=k) hlt
   have hd:cs.drop k=(z,xb,xo,xt)::cs.drop (k+1):=by
    obtain⟨q,e⟩:=List.getElem?_eq_some_iff.1 he;rw[List.drop_eq_getElem_cons q,e]
   have HN:=ze (show xI cs=(z !=5&&xI (cs.drop (k+1))) by rw[HC.out,hd];rfl);clear c2 c3 c4 s1 s2 s3 he hd HC
   by_cases h5:z=5
   ·subst h5
    go_wp2_with fail;go_ret;exact⟨by rw[HN.out];rfl,rfl⟩
   ·have hb:(z==5)=false:=by simpa using h5
    have HN2:=ze (show xI cs=xI (cs.drop (k+1)) by rw[HN.out,bne,hb];rfl);clear h5 HN;go_wp2_with fail
    go_roundg (cs.length-(k+1))
    case measure=>omega
    case rel=>exact⟨k+1,by omega,rfl,rfl,HN2,rfl⟩
  ·obtain rfl:k=cs.length:=by omega
   have hneg:¬(cs.length:Int)<(cs.length:Int):=by omega
   have HN:=ze (show xI cs=true by rw[HC.out,List.drop_length];rfl);go_wp2_with fail;go_ret;exact⟨by rw[HN.out];rfl,rfl⟩
end
open Go.RowKit
theorem ziE(w:World)(g:Nat)(u0 u1 u2 u3:Value)(b:Nat)(hb:b≠g):((((w.setCell ⟨g,0,none⟩ u0).setCell ⟨g,1,none⟩ u1).setCell ⟨g,2,none⟩ u2).setCell ⟨g,3,none⟩ u3).heap[b]? =w.heap[b]? :=by
 rw[Below.heap_setCell _ _ _ _ hb,Below.heap_setCell _ _ _ _ hb,Below.heap_setCell _ _ _ _ hb,Below.heap_setCell _ _ _ _ hb]
section
theorem zra(va vb vc:Value)(a b c:List (List UInt8))(w:World)(ha:Sl w va (zj a))(hb:Sl w vb (zj b))(hc:Sl w vc (zj c))(la:a.length<=3000)(lb:b.length<=3000)(lc:c.length<=3000):
  Calls Tryz.prog 60 #[va,vb,vc] w fun e w'=>∃u,e= .returned u/\SlC w' u (yn a b c)/\Below w.heap.size w w':=by
 obtain⟨ao,ac,rfl⟩:=ha.form;obtain⟨bo,bc,rfl⟩:=hb.form;obtain⟨co,cc,rfl⟩:=hc.form;rw[zk]at ha hb hc ⊢;rw[zk,zk];have HA:=ze ha;have HB:=ze hb;have HC:=ze hc;have HL:=ze (And.intro la (And.intro lb lc));have H1:=ze (zfZ _ _ a b w ha hb la lb);have hXL:=kW a b;have hYL:=kW a c;have hXA:=ks a b;have hYA:=ks a c;have hBEG:=zmR a b c;obtain⟨X,hX⟩:∃X,yi a b=X:=⟨_,rfl⟩;obtain⟨Y,hY⟩:∃Y,yi a c=Y:=⟨_,rfl⟩;rw[hX]at hXL hXA hBEG H1;rw[hY]at hYL hYA hBEG;have HXL:=ze hXL;have HYL:=ze hYL;have HXA:=ze hXA;have HYA:=ze hYA;have HBE:=ze hBEG;have HYE:=ze hY;obtain⟨R,hR⟩:∃R,yn a b c=R:=⟨_,rfl⟩;rw[hR]at HBE ⊢;clear ha hb hc la lb lc hXL hYL hXA hYA hBEG hX hY hR
 go_enter Tryz.func60,Tryz.ntmps60
 go_wp2_with fail;refine H1.out.mono ?_;rintro e w1 ⟨v1,rfl,s1,hb1⟩;have HA:=ze (Sl.old HA.out hb1);have HB:=ze (Sl.old HB.out hb1);have HC:=ze (Sl.old HC.out hb1);obtain⟨xo,xc,rfl⟩:=s1.form;rw[zcC,HXL.out]at s1 ⊢;have HX:=ze s1;have H2:=ze (zfZ _ _ a c w1 HA.out HC.out HL.out.1 HL.out.2.2);rw[HYE.out]at H2;clear s1 H1;go_wp2_with fail;refine H2.out.mono ?_;rintro e w2 ⟨v2,rfl,s2,hb2⟩;have hB2:=zi hb1 hb2 hb1.size;have HA:=ze (Sl.old HA.out hb2);have HB:=ze (Sl.old HB.out hb2);have HC:=ze (Sl.old HC.out hb2);have HX:=ze (Sl.old HX.out hb2);obtain⟨yo,yc,rfl⟩:=s2.form;rw[zcC,HYL.out]at s2 ⊢;have HY:=ze s2;clear s2 H2 hb1 hb2;have hal:=HL.out.1;go_wp2_with fail
 go_loopg [9,10,11,12,13] a.length (fun g l vb' vo vt i wx=>∃ (k B O T:Nat) (D:List CkS),k<=a.length/\a.length-k=g/\i= .int .i64 k/\vb'= .int .i64 B/\vo= .int .i64 O/\vt= .int .i64 T/\B<=k/\O<=b.length/\T<=c.length/\Hid (xZ wx w2.heap.size l D)/\Hid (D++qj a b c X Y k B O T=R)/\Hid (Asc b.length O (X.drop k))/\Hid (Asc c.length T (Y.drop k))/\D.length<=3*k/\Hid (Below w2.heap.size w2 wx))
 case atStart=>exact⟨0,0,0,0,[],Nat.zero_le _,rfl,rfl,rfl,rfl,rfl,Nat.le_refl _,Nat.zero_le _,Nat.zero_le _,ze (xZ.nil _ _),ze (by rw[HBE.out];rfl),ze (by rw[List.drop_zero];exact HXA.out),ze (by rw[List.drop_zero];exact HYA.out),Nat.zero_le _,ze (Below.refl _ _)⟩
 case round=>
  obtain⟨k,B,O,T,D,hk,rfl,rfl,rfl,rfl,rfl,hBk,hOb,hTc,HO,HR,HAX,HAY,hDl,HBW⟩:=hrel;have k0:(0:Int)<=(k:Int):=Int.natCast_nonneg _;obtain⟨lo,lcp,rfl⟩:=HO.out.form
  by_cases hlt:k<a.length
  ·have k1:(k:Int)<(a.length:Int):=by omega
   have kw:IntKind.i64.wrap ((k:Int)+1)=(k:Int)+1:=IntWalk.i64_in _ (by omega);obtain⟨z,hz⟩:∃z,a[k]? =some z:=⟨_,List.getElem?_eq_getElem hlt⟩;obtain⟨ax,p,rfl,hcx,hpx⟩:=(Sl.old HX.out HBW.out).intAt' (i:=k) (by rw[HXL.out];exact hlt);obtain⟨ay,q,rfl,hcy,hpy⟩:=(Sl.old HY.out HBW.out).intAt' (i:=k) (by rw[HYL.out];exact hlt)
   have skip:p<0∨q<0->D++qj a b c X Y (k+1) B O T=R:=fun h=>by rw[<-zoX hBk hz hpx hpy h];exact HR.out
   have HSK:=ze skip;have HAX2:=ze (zkm HAX.out (by rw[HXL.out];exact hlt));have HAY2:=ze (zkm HAY.out (by rw[HYL.out];exact hlt));clear skip
   by_cases hp:p<0
   ·have dp:decide (p<0)=true:=decide_eq_true hp
    have HS2:=ze (HSK.out (.inl hp));clear HSK hpx hpy hz;go_wp2_with fail
    go_roundg (a.length-(k+1))
    case measure=>omega
    case rel=>exact⟨k+1,B,O,T,D,by omega,rfl,by go_num,rfl,rfl,rfl,by omega,hOb,hTc,HO,HS2,HAX2,HAY2,by omega,HBW⟩
   by_cases hq:q<0
   ·have dp:decide (p<0)=false:=decide_eq_false hp
    have dq:decide (q<0)=true:=decide_eq_true hq;have HS2:=ze (HSK.out (.inr hq));clear HSK hpx hpy hz;go_wp2_with fail
    go_roundg (a.length-(k+1))
    case measure=>omega
    case rel=>exact⟨k+1,B,O,T,D,by omega,rfl,by go_num,rfl,rfl,rfl,by omega,hOb,hTc,HO,HS2,HAX2,HAY2,by omega,HBW⟩
   have dp:decide (p<0)=false:=decide_eq_false hp;have dq:decide (q<0)=false:=decide_eq_false hq;obtain⟨P,rfl,hOP,hPb,_⟩:=zjX HAX.out hpx hp;obtain⟨Q,rfl,hTQ,hQc,_⟩:=zjX HAY.out hpy hq;clear HSK HAX2 HAY2 hz
   have LX:=ze (fun(W:World) (h:Below w2.heap.size w2 W)=>by
    obtain⟨ax',p',e,h1,h2⟩:=(Sl.old HX.out h).intAt' (i:=k) (by rw[HXL.out];exact hlt);cases e;rw[hpx]at h2;cases h2
    exact h1)
   have LY:=ze (fun(W:World) (h:Below w2.heap.size w2 W)=>by
    obtain⟨ax',p',e,h1,h2⟩:=(Sl.old HY.out h).intAt' (i:=k) (by rw[HYL.out];exact hlt);cases e;rw[hpy]at h2;cases h2
    exact h1)
   have hPb':P<=3000:=by have:=HL.out;omega
   have hQc':Q<=3000:=by have:=HL.out;omega
   go_upto_block 2 with fail
   go_cut [14]from 44 to 81 (fun n wx=>∃N:Nat,n= .int .i64 N/\0<N/\k+N<=a.length/\Hid (∀j,j<N->X[k+j]? =some ((P+j:Nat):Int)/\Y[k+j]? =some ((Q+j:Nat):Int))/\Hid (k+N=a.length∨X[k+N]?≠some ((P+N:Nat):Int)∨Y[k+N]?≠some ((Q+N:Nat):Int))/\∃q,wx=wr.drewN q)
   case first=>
    go_wp2_with fail
    go_loopg [14] (a.length-(k+1)) (fun g n wx=>∃N:Nat,n= .int .i64 N/\0<N/\k+N<=a.length/\a.length-(k+N)=g/\Hid (∀j,j<N->X[k+j]? =some ((P+j:Nat):Int)/\Y[k+j]? =some ((Q+j:Nat):Int))/\∃q,wx=wr.drewN q)
    case atStart=>exact⟨1,rfl,by omega,by omega,rfl,ze (fun j hj=>by
     obtain rfl:j=0:=by omega
     exact⟨hpx,hpy⟩),0,rfl⟩
    case round=>
     obtain⟨N,rfl,hN,hkN,rfl,HJ,q,rfl⟩:=hrel;have N0:(0:Int)<=(N:Int):=Int.natCast_nonneg _;have Nw:IntKind.i64.wrap ((N:Int)+1)=(N:Int)+1:=IntWalk.i64_in _ (by omega);obtain⟨m,hm⟩:∃m,k+N=m:=⟨_,rfl⟩;have mw:IntKind.i64.wrap ((k:Int) +(N:Int))=(m:Int):=(IntWalk.i64_in _ (by omega)).trans (by omega);have m0:(0:Int)<=(m:Int):=Int.natCast_nonneg _
     by_cases hmt:m<a.length
     ·have m1:(m:Int)<(a.length:Int):=by omega
      have HBQ:Below w2.heap.size w2 (wr.drewN q):=HBW.out.trans ⟨rfl,rfl,rfl,Nat.le_refl _,fun _ _ =>rfl⟩;obtain⟨ax',p',ex,hcx',hpx'⟩:=(Sl.old HX.out HBW.out).intAt' (i:=m) (by rw[HXL.out];exact hmt);obtain⟨ay',q',ey,hcy',hpy'⟩:=(Sl.old HY.out HBW.out).intAt' (i:=m) (by rw[HYL.out];exact hmt);cases ex;cases ey;obtain⟨PN,hPN⟩:∃PN,P+N=PN:=⟨_,rfl⟩;obtain⟨QN,hQN⟩:∃QN,Q+N=QN:=⟨_,rfl⟩;have pw:IntKind.i64.wrap ((P:Int) +(N:Int))=(PN:Int):=(IntWalk.i64_in _ (by omega)).trans (by omega);have qw:IntKind.i64.wrap ((Q:Int) +(N:Int))=(QN:Int):=(IntWalk.i64_in _ (by omega)).trans (by omega)
      by_cases e1:p'=(PN:Int)
      ·have b1:(p'==(PN:Int))=true:=by simpa using e1
       by_cases e2:q'=(QN:Int)
       ·have b2:(q'==(QN:Int))=true:=by simpa using e2
        have HJ2:=ze (show ∀j,j<N+1->X[k+j]? =some ((P+j:Nat):Int)/\Y[k+j]? =some ((Q+j:Nat):Int)from fun j hj=>by
         rcases(show j<N∨j=N by omega)with h |h
         ·exact HJ.out j h
         ·subst h
          rw[hm,hpx',hpy',hPN,hQN,e1,e2]
          exact⟨rfl,rfl⟩)
        have hkN2:k +(N+1)<=a.length:=by omega
        have hms:a.length-(k +(N+1))< a.length-(k+N):=by omega
        clear hpx' hpy' e1 e2 hPN hQN hm hpx hpy;go_wp2_with fail;go_quiet (fail);go_wp2_with fail
        go_roundg (a.length-(k +(N+1)))
        case measure=>exact hms
        case rel=>exact⟨N+1,by go_num,by omega,hkN2,rfl,HJ2,_,rfl⟩
       ·have b2:(q'==(QN:Int))=false:=by simpa using e2
        have HST:=ze (show k+N=a.length∨X[k+N]?≠some ((P+N:Nat):Int)∨Y[k+N]?≠some ((Q+N:Nat):Int)from .inr (.inr (by
         rw[hm,hpy',hQN]
         exact fun h=>e2 (Option.some.inj h))))
        clear hpx' hpy' e1 e2 hPN hQN hm hpx hpy;go_wp2_with fail;go_quiet (fail);go_wp2_with fail
        go_meet
        exact⟨N,rfl,hN,hkN,HJ,HST,_,qf _ _ _⟩
      ·have b1:(p'==(PN:Int))=false:=by simpa using e1
       have HST:=ze (show k+N=a.length∨X[k+N]?≠some ((P+N:Nat):Int)∨Y[k+N]?≠some ((Q+N:Nat):Int)from .inr (.inl (by
        rw[hm,hpx',hPN]
        exact fun h=>e1 (Option.some.inj h))))
       clear hpx' hpy' e1 hPN hQN hm hpx hpy;go_wp2_with fail;go_quiet (fail);go_wp2_with fail
       go_meet
       exact⟨N,rfl,hN,hkN,HJ,HST,_,qf _ _ _⟩
     ·have HST:=ze (show k+N=a.length∨X[k+N]?≠some ((P+N:Nat):Int)∨Y[k+N]?≠some ((Q+N:Nat):Int)from .inl (by omega))
      have m1:¬(m:Int)<(a.length:Int):=by omega
      clear hm hpx hpy;go_wp2_with fail;go_quiet (fail);go_wp2_with fail
      go_meet
      exact⟨N,rfl,hN,hkN,HJ,HST,_,qf _ _ _⟩
   case rest=>
    obtain⟨N,rfl,hN,hkN,HJ,HST,q,rfl⟩:=hcut;have HRUN:=ze (zpK (b:=B) HXL.out HYL.out hlt hN hkN HAX.out HAY.out HJ.out HST.out);obtain⟨m,hm⟩:∃m,k+N=m:=⟨_,rfl⟩;obtain⟨PN,hPN⟩:∃PN,P+N=PN:=⟨_,rfl⟩;obtain⟨QN,hQN⟩:∃QN,Q+N=QN:=⟨_,rfl⟩
    have hPNb:PN<=b.length:=by
     have:=zds HXA.out (HJ.out (N-1) (by omega)).1;omega
    have hQNb:QN<=c.length:=by
     have:=zds HYA.out (HJ.out (N-1) (by omega)).2;omega
    rw[hm,hPN,hQN]at HRUN;have HBQ:=ze (show Below w2.heap.size w2 (wr.drewN q)from HBW.out.trans ⟨rfl,rfl,rfl,Nat.le_refl _,fun _ _ =>rfl⟩);have HO:=ze (HO.out.old (zm wr q));generalize wr.drewN q=wq at HBQ HO ⊢;obtain⟨s1o,s1c,rs1,hs1⟩:=kD HA.out B k hBk (by omega);obtain⟨s2o,s2c,rs2,hs2⟩:=kD HB.out O P hOP (by omega);obtain⟨s3o,s3c,rs3,hs3⟩:=kD HC.out T Q hTQ (by omega);obtain⟨s4o,s4c,rs4,hs4⟩:=kD HA.out k m (by omega) (by omega);obtain⟨n1,hn1⟩:∃n,k-B=n:=⟨_,rfl⟩;obtain⟨n2,hn2⟩:∃n,P-O=n:=⟨_,rfl⟩;obtain⟨n3,hn3⟩:∃n,Q-T=n:=⟨_,rfl⟩;rw[show m-k=N by omega]at rs4 hs4;rw[hn1]at rs1 hs1 HRUN;rw[hn2]at rs2 hs2 HRUN;rw[hn3]at rs3 hs3 HRUN;obtain⟨G1,hG1⟩:∃G,(a.drop B).take n1=G:=⟨_,rfl⟩;obtain⟨G2,hG2⟩:∃G,(b.drop O).take n2=G:=⟨_,rfl⟩;obtain⟨G3,hG3⟩:∃G,(c.drop T).take n3=G:=⟨_,rfl⟩;obtain⟨RUN,hRUN⟩:∃G,(a.drop k).take N=G:=⟨_,rfl⟩
    have lG1:G1.length<=3000:=by rw[<-hG1,List.length_take];have:=HL.out;omega
    have lG2:G2.length<=3000:=by rw[<-hG2,List.length_take];have:=HL.out;omega
    have lG3:G3.length<=3000:=by rw[<-hG3,List.length_take];have:=HL.out;omega
    have lRUN:RUN.length<=3000:=by rw[<-hRUN,List.length_take];have:=HL.out;omega
    rw[hG1]at hs1 HRUN;rw[hG2]at hs2 HRUN;rw[hG3]at hs3 HRUN;rw[hRUN]at hs4 HRUN;have HS1:=ze hs1;have HS2:=ze hs2;have HS3:=ze hs3;have HS4:=ze hs4;have HLG:=ze (And.intro lG1 (And.intro lG2 (And.intro lG3 lRUN)));have B0:(0:Int)<=(B:Int):=Int.natCast_nonneg _;have O0:(0:Int)<=(O:Int):=Int.natCast_nonneg _;have T0:(0:Int)<=(T:Int):=Int.natCast_nonneg _;have P0:(0:Int)<=(P:Int):=Int.natCast_nonneg _;have Q0:(0:Int)<=(Q:Int):=Int.natCast_nonneg _;have HBD:=ze (show Below w2.heap.size w2 wq.drew from HBQ.out.trans ⟨rfl,rfl,rfl,Nat.le_refl _,fun _ _ =>rfl⟩);have HOD:=ze (HO.out.old (show Below wq.heap.size wq wq.drew from⟨rfl,rfl,rfl,Nat.le_refl _,fun _ _ =>rfl⟩));have k2:wq.drew.cell? (ax.add k)=some (.int .i64 (P:Int)):=LX.out _ HBD.out;have k3:wq.drew.cell? (ay.add k)=some (.int .i64 (Q:Int)):=LY.out _ HBD.out;have mw:IntKind.i64.wrap ((k:Int) +(N:Int))=(m:Int):=(IntWalk.i64_in _ (by omega)).trans (by omega);have pw:IntKind.i64.wrap ((P:Int) +(N:Int))=(PN:Int):=(IntWalk.i64_in _ (by omega)).trans (by omega);have qw:IntKind.i64.wrap ((Q:Int) +(N:Int))=(QN:Int):=(IntWalk.i64_in _ (by omega)).trans (by omega);obtain⟨m',hm'⟩:∃m',m=m'+1:=⟨m-1,by omega⟩;have m1w:IntKind.i64.wrap ((m:Int)-1)=(m':Int):=(IntWalk.i64_in _ (by omega)).trans (by omega);have m2w:IntKind.i64.wrap ((m':Int)+1)=(m:Int):=(IntWalk.i64_in _ (by omega)).trans (by omega);have HMN:=ze (show k+N=m/\0<N/\P+N=PN/\Q+N=QN/\B<=k/\m<=a.length/\k<a.length from⟨hm,hN,hPN,hQN,hBk,by omega,hlt⟩);have HPB:=ze (And.intro hPNb hQNb);have HDL:=ze hDl
    have k3':k<=m/\m<=a.length:=by omega
    have HWQ:=ze (show w2.heap.size<=(⟨wq.heap.size,0,none⟩:Addr).block from HBQ.out.size);obtain⟨TT,hTT⟩:∃TT,(!decide (G1=[]/\G2=[]/\G3=[]))=TT:=⟨_,rfl⟩;have HTT:=ze hTT
    have HCALL:=ze (fun(W:World) (h:Below w2.heap.size w2 W)=>by
     have:=zfS _ _ _ G1 G2 G3 W (Sl.old HS1.out h) (Sl.old HS2.out h) (Sl.old HS3.out h) (by have:=HLG.out;omega) (by have:=HLG.out;omega) (by have:=HLG.out;omega);rw[hTT]at this
     exact this)
    have HOQ:=ze HO.out;have HBA:=ze (show Below w2.heap.size w2 (wq.alloc (.cells #[.int .i64 0,.slice none 0 0,.slice none 0 0,.slice none 0 0] 104)).drew from(HBQ.out.alloc HBQ.out.size _).trans ⟨rfl,rfl,rfl,Nat.le_refl _,fun _ _ =>rfl⟩);have HOA:=ze (HO.out.old (show Below wq.heap.size wq (wq.alloc (.cells #[.int .i64 0,.slice none 0 0,.slice none 0 0,.slice none 0 0] 104)).drew from((Below.refl _ wq).alloc (Nat.le_refl _) _).trans ⟨rfl,rfl,rfl,Nat.le_refl _,fun _ _ =>rfl⟩));have HWD:=ze (show Below wq.heap.size wq (wq.alloc (.cells #[.int .i64 0,.slice none 0 0,.slice none 0 0,.slice none 0 0] 104)).drew from((Below.refl _ wq).alloc (Nat.le_refl _) _).trans ⟨rfl,rfl,rfl,Nat.le_refl _,fun _ _ =>rfl⟩);have HZB:=ze (show(wq.alloc (.cells #[.int .i64 0,.slice none 0 0,.slice none 0 0,.slice none 0 0] 104)).drew.heap[wq.heap.size]? = _ from heap_alloc_new wq (.cells #[.int .i64 0,.slice none 0 0,.slice none 0 0,.slice none 0 0] 104));have HZQ:=ze (show wq.heap.size <(wq.alloc (.cells #[.int .i64 0,.slice none 0 0,.slice none 0 0,.slice none 0 0] 104)).drew.heap.size from lt_of_block HZB.out);clear hTT hs1 hs2 hs3 hs4 hn1 hn2 hn3 hG1 hG2 hG3 hRUN lG1 lG2 lG3 lRUN hPNb hQNb hm hPN hQN hm' hpx hpy HJ HST HBW hDl hPb' hQc' dp dq k3'
    go_upto_region 11 with fail
    go_cut [15,16]from 82 to 103 (fun v15 v16 wx=>∃ (g:Nat) (kk:Int) (y1:Option Addr) (z1:Nat) (y2:Option Addr) (z2:Nat) (y3:Option Addr) (z3:Nat),v15= .pointer (some ⟨g,0,none⟩)/\v16= .bool TT/\Hid (¬(G1=[]/\G2=[]/\G3=[])->kk=yg G1 G2 G3)/\Hid (wx.heap[g]? =some (.cells #[.int .i64 kk,.slice y1 G1.length z1,.slice y2 G2.length z2,.slice y3 G3.length z3] 104 (0,0)))/\Hid (yy wx (.slice lo D.length lcp) (.slice y1 G1.length z1) G1)/\Hid (yy wx (.slice lo D.length lcp) (.slice y2 G2.length z2) G2)/\Hid (yy wx (.slice lo D.length lcp) (.slice y3 G3.length z3) G3)/\Hid (xZ wx w2.heap.size (.slice lo D.length lcp) D)/\Hid (Below w2.heap.size w2 wx))
    case first=>
     go_region_held3 (fun wy=>wy.cell? (ax.add k)=some (.int .i64 (P:Int))/\wy.cell? (ay.add k)=some (.int .i64 (Q:Int))) (first |exact⟨k2,k3⟩ |exact⟨LX.out _ HBA.out,LY.out _ HBA.out⟩ |exact⟨LX.out _ (HB6.out.alloc HB6.out.size _),LY.out _ (HB6.out.alloc HB6.out.size _)⟩ |exact⟨LX.out _ (((((HB6.out.setCell HWQ.out _).setCell HWQ.out _).setCell HWQ.out _).setCell HWQ.out _)),LY.out _ (((((HB6.out.setCell HWQ.out _).setCell HWQ.out _).setCell HWQ.out _).setCell HWQ.out _))⟩) ((go_at_call 84;first
      |(with_reducible refine(HCALL.out wq.drew HBD.out).mono ?_;rintro e w6 ⟨kk,y1,z1,y2,z2,y3,z3,rfl,hkk,t1,t2,t3,hb6⟩;have hB6:=zi HBD.out hb6 HBD.out.size;have k2:=LX.out w6 hB6;have k3:=LY.out w6 hB6;have HN1:=ze (zA t1 (fun j hj=>(HOD.out.lt j hj).2));have HN2:=ze (zA t2 (fun j hj=>(HOD.out.lt j hj).2));have HN3:=ze (zA t3 (fun j hj=>(HOD.out.lt j hj).2));have HB6:=ze hB6;have HO6:=ze (HOD.out.old hb6);have HKK:=ze hkk;clear t1 t2 t3 hb6 hB6 hkk)
      |(with_reducible refine(HCALL.out (wq.alloc (.cells #[.int .i64 0,.slice none 0 0,.slice none 0 0,.slice none 0 0] 104)).drew HBA.out).mono ?_;rintro e w6 ⟨kk,y1,z1,y2,z2,y3,z3,rfl,hkk,t1,t2,t3,hb6⟩;have hB6:=zi HBA.out hb6 HBA.out.size;have k2:=LX.out w6 hB6;have k3:=LY.out w6 hB6;have HN1:=ze (zA t1 (fun j hj=>(HOA.out.lt j hj).2));have HN2:=ze (zA t2 (fun j hj=>(HOA.out.lt j hj).2));have HN3:=ze (zA t3 (fun j hj=>(HOA.out.lt j hj).2));have HB6:=ze hB6;have HO6:=ze (HOA.out.old hb6);have HKK:=ze hkk;have HZW:=ze (Nat.lt_of_lt_of_le HZQ.out hb6.size);have g6:w6.heap[wq.heap.size]? = _:=(hb6.block wq.heap.size HZQ.out).trans HZB.out;have c0:=zd (i:=0) g6 rfl;have f0:=zo (i:=0) g6;have g7:=zv (i:=0) (u:= .int .i64 kk) g6;have c1:=zd (i:=1) g7 (v:= .slice none 0 0) rfl;have f1:=zo (i:=1) g7;have g8:=zv (i:=1) (u:= .slice y1 G1.length z1) g7;have c2:=zd (i:=2) g8 (v:= .slice none 0 0) rfl;have f2:=zo (i:=2) g8;have g9:=zv (i:=2) (u:= .slice y2 G2.length z2) g8;have c3:=zd (i:=3) g9 (v:= .slice none 0 0) rfl;have f3:=zo (i:=3) g9;have g10:=zv (i:=3) (u:= .slice y3 G3.length z3) g9;have HG10:=ze g10;have SET:=ze (fun b (hb:b≠wq.heap.size)=>ziE w6 wq.heap.size (.int .i64 kk) (.slice y1 G1.length z1) (.slice y2 G2.length z2) (.slice y3 G3.length z3) b hb);have HBQ6:=ze (show Below wq.heap.size wq w6 from(HWD.out).trans (hb6.mono (Nat.le_of_lt HZQ.out)));have HF1:=ze t1;have HF2:=ze t2;have HF3:=ze t3;clear t1 t2 t3 hb6 hB6 hkk)))
     all_goals
      go_wp2_with fail
      go_meet
      first
       |exact⟨w6.heap.size,kk,y1,z1,y2,z2,y3,z3,rfl,rfl,HKK,ze (heap_alloc_new w6 _),ze (HN1.out.old' ((Below.refl _ w6).alloc (Nat.le_refl _) _)),ze (HN2.out.old' ((Below.refl _ w6).alloc (Nat.le_refl _) _)),ze (HN3.out.old' ((Below.refl _ w6).alloc (Nat.le_refl _) _)),ze (HO6.out.old ((Below.refl _ w6).alloc (Nat.le_refl _) _)),ze (HB6.out.alloc HB6.out.size _)⟩
       |exact⟨wq.heap.size,kk,y1,z1,y2,z2,y3,z3,rfl,rfl,HKK,HG10,ze (zA (w0:=(wq.alloc (.cells #[.int .i64 0,.slice none 0 0,.slice none 0 0,.slice none 0 0] 104)).drew) (zD HF1.out (fun gg e _ =>SET.out gg (by have h1:=(HF1.out.lt gg e).1;have h2:=HZQ.out;omega))) (fun j hj=>(HOA.out.lt j hj).2)),ze (zA (w0:=(wq.alloc (.cells #[.int .i64 0,.slice none 0 0,.slice none 0 0,.slice none 0 0] 104)).drew) (zD HF2.out (fun gg e _ =>SET.out gg (by have h1:=(HF2.out.lt gg e).1;have h2:=HZQ.out;omega))) (fun j hj=>(HOA.out.lt j hj).2)),ze (zA (w0:=(wq.alloc (.cells #[.int .i64 0,.slice none 0 0,.slice none 0 0,.slice none 0 0] 104)).drew) (zD HF3.out (fun gg e _ =>SET.out gg (by have h1:=(HF3.out.lt gg e).1;have h2:=HZQ.out;omega))) (fun j hj=>(HOA.out.lt j hj).2)),ze (HOQ.out.old ((((HBQ6.out.setCell (Nat.le_refl _) _).setCell (Nat.le_refl _) _).setCell (Nat.le_refl _) _).setCell (Nat.le_refl _) _)),ze (((((HB6.out.setCell HWQ.out _).setCell HWQ.out _).setCell HWQ.out _).setCell HWQ.out _))⟩
    case rest=>
     obtain⟨g,kk,y1,z1,y2,z2,y3,z3,rfl,rfl,HKK,HG,HN1,HN2,HN3,HO6,HB6⟩:=hcut
     by_cases h0:G1=[]/\G2=[]/\G3=[]
     ·have hT:TT=false:=by rw[<-HTT.out,decide_eq_true h0];rfl
      subst hT;have HG0:=ze (show jY G1 G2 G3=[] by rw[jY,if_pos h0]);have HO7:=HO6;have HB7:=HB6;clear h0 HTT HN1 HN2 HN3 HG HCALL;generalize wc=w7 at HO7 HB7 HO6 HB6 ⊢
      go_wp2_with (first
       |(at_builtin;refine zC rfl (.const (.slice none 0 0)) (.tmp 114) rfl w7.heap.size _ [] RUN rfl (World.ownsRow_nil _ _ _ _) _ rfl (Sl.old HS4.out HB7.out) (by have:=HLG.out;simp;omega) (Nat.le_refl _) ?_;intro u8' w8 p8 q8;rw[List.nil_append]at p8;obtain⟨x8,y8,rfl⟩:=zl p8;have HP8:=ze p8;have HB8:=ze q8;clear p8 q8)
       |(at_builtin;refine zC rfl (.const (.slice none 0 0)) (.tmp 118) rfl w8.heap.size _ [] RUN rfl (World.ownsRow_nil _ _ _ _) _ rfl (Sl.ofOwns HP8.out) (by have:=HLG.out;simp;omega) (Nat.le_refl _) ?_;intro u9' w9 p9 q9;rw[List.nil_append]at p9;obtain⟨x9,y9,rfl⟩:=zl p9;have HP9:=ze p9;have HB9:=ze q9;clear p9 q9)
       |(at_builtin;refine zC rfl (.const (.slice none 0 0)) (.tmp 120) rfl w9.heap.size _ [] RUN rfl (World.ownsRow_nil _ _ _ _) _ rfl (Sl.old (Sl.ofOwns HP8.out) HB9.out) (by have:=HLG.out;simp;omega) (Nat.le_refl _) ?_;intro u10' w10 p10 q10;rw[List.nil_append]at p10;obtain⟨x10,y10,rfl⟩:=zl p10;have HP10:=ze p10;have HB10:=ze q10;clear p10 q10)
       |(at_builtin;refine jL rfl (.tmp 116) (.tmp 123) rfl w2.heap.size _ (D) 1 RUN RUN RUN _ _ _ rfl (((HO7.out.old HB8.out).old HB9.out).old HB10.out) (((zA HP8.out (fun j hj=>(HO7.out.lt j hj).2)).old' HB9.out).old' HB10.out) ((zA HP9.out (fun j hj=>Nat.lt_of_lt_of_le (HO7.out.lt j hj).2 HB8.out.size)).old' HB10.out) (zA HP10.out (fun j hj=>Nat.lt_of_lt_of_le (Nat.lt_of_lt_of_le (HO7.out.lt j hj).2 HB8.out.size) HB9.out.size)) w10.heap.size rfl rfl rfl rfl rfl (by have:=HDL.out;have:=HMN.out;simp;omega) (Nat.le_trans HB7.out.size (Nat.le_trans HB8.out.size (Nat.le_trans HB9.out.size HB10.out.size))) ?_;intro v11 w11 hO11 q11;have HO11:=ze hO11;have HB11:=ze ((zi (zi (zi HB7.out HB8.out HB7.out.size) HB9.out (Nat.le_trans HB7.out.size HB8.out.size)) HB10.out (Nat.le_trans HB7.out.size (Nat.le_trans HB8.out.size HB9.out.size))).trans q11);have k2:=LX.out w11 HB11.out;have k3:=LY.out w11 HB11.out;clear hO11 q11))
      have HRR:=ze (show((D)++[(1,RUN,RUN,RUN)])++qj a b c X Y m m PN QN=R by
       rw[<-HR.out,HRUN.out.1,HG0.out]
       simp)
      have HDL2:=ze (show((D)++[((1:Int),RUN,RUN,RUN)]).length<=3*m by have:=HDL.out;have:=HMN.out;simp;omega);go_wp2_with fail;go_quiet (fail);go_wp2_with fail
      go_roundg (a.length-m)
      case measure=>have:=HMN.out;omega
      case rel=>
       have hM:=HMN.out;exact⟨m,m,PN,QN,(D)++[(1,RUN,RUN,RUN)],by omega,rfl,rfl,rfl,rfl,rfl,Nat.le_refl _,HPB.out.1,HPB.out.2,ze (HO11.out.old (zm _ _)),HRR,ze HRUN.out.2.1,ze HRUN.out.2.2,HDL2.out,ze (HB11.out.trans ⟨rfl,rfl,rfl,Nat.le_refl _,fun _ _ =>rfl⟩)⟩
     ·have hT:TT=true:=by rw[<-HTT.out,decide_eq_false h0];rfl
      subst hT;have HG0:=ze (show jY G1 G2 G3=[(yg G1 G2 G3,G1,G2,G3)] by rw[jY,if_neg h0]);obtain rfl:kk=yg G1 G2 G3:=HKK.out h0;have l0:=zd (i:=0) HG.out rfl;have l1:=zd (i:=1) HG.out rfl;have l2:=zd (i:=2) HG.out rfl;have l3:=zd (i:=3) HG.out rfl;clear h0 HTT HKK HCALL
      go_wp2_with (first
       |(at_builtin;refine jL rfl (.tmp 105) (.tmp 107) rfl w2.heap.size _ D (yg G1 G2 G3) G1 G2 G3 _ _ _ rfl HO6.out HN1.out HN2.out HN3.out wc.heap.size rfl rfl rfl rfl rfl (by have:=HDL.out;omega) HB6.out.size ?_;intro v7 w7 hO7 q7;have HO7:=ze hO7;have HB7:=ze (HB6.out.trans q7);clear hO7 q7)
       |(at_builtin;refine zC rfl (.const (.slice none 0 0)) (.tmp 114) rfl w7.heap.size _ [] RUN rfl (World.ownsRow_nil _ _ _ _) _ rfl (Sl.old HS4.out HB7.out) (by have:=HLG.out;simp;omega) (Nat.le_refl _) ?_;intro u8' w8 p8 q8;rw[List.nil_append]at p8;obtain⟨x8,y8,rfl⟩:=zl p8;have HP8:=ze p8;have HB8:=ze q8;clear p8 q8)
       |(at_builtin;refine zC rfl (.const (.slice none 0 0)) (.tmp 118) rfl w8.heap.size _ [] RUN rfl (World.ownsRow_nil _ _ _ _) _ rfl (Sl.ofOwns HP8.out) (by have:=HLG.out;simp;omega) (Nat.le_refl _) ?_;intro u9' w9 p9 q9;rw[List.nil_append]at p9;obtain⟨x9,y9,rfl⟩:=zl p9;have HP9:=ze p9;have HB9:=ze q9;clear p9 q9)
       |(at_builtin;refine zC rfl (.const (.slice none 0 0)) (.tmp 120) rfl w9.heap.size _ [] RUN rfl (World.ownsRow_nil _ _ _ _) _ rfl (Sl.old (Sl.ofOwns HP8.out) HB9.out) (by have:=HLG.out;simp;omega) (Nat.le_refl _) ?_;intro u10' w10 p10 q10;rw[List.nil_append]at p10;obtain⟨x10,y10,rfl⟩:=zl p10;have HP10:=ze p10;have HB10:=ze q10;clear p10 q10)
       |(at_builtin;refine jL rfl (.tmp 116) (.tmp 123) rfl w2.heap.size _ (D++[(yg G1 G2 G3,G1,G2,G3)]) 1 RUN RUN RUN _ _ _ rfl (((HO7.out.old HB8.out).old HB9.out).old HB10.out) (((zA HP8.out (fun j hj=>(HO7.out.lt j hj).2)).old' HB9.out).old' HB10.out) ((zA HP9.out (fun j hj=>Nat.lt_of_lt_of_le (HO7.out.lt j hj).2 HB8.out.size)).old' HB10.out) (zA HP10.out (fun j hj=>Nat.lt_of_lt_of_le (Nat.lt_of_lt_of_le (HO7.out.lt j hj).2 HB8.out.size) HB9.out.size)) w10.heap.size rfl rfl rfl rfl rfl (by have:=HDL.out;have:=HMN.out;simp;omega) (Nat.le_trans HB7.out.size (Nat.le_trans HB8.out.size (Nat.le_trans HB9.out.size HB10.out.size))) ?_;intro v11 w11 hO11 q11;have HO11:=ze hO11;have HB11:=ze ((zi (zi (zi HB7.out HB8.out HB7.out.size) HB9.out (Nat.le_trans HB7.out.size HB8.out.size)) HB10.out (Nat.le_trans HB7.out.size (Nat.le_trans HB8.out.size HB9.out.size))).trans q11);have k2:=LX.out w11 HB11.out;have k3:=LY.out w11 HB11.out;clear hO11 q11))
      have HRR:=ze (show((D++[(yg G1 G2 G3,G1,G2,G3)])++[(1,RUN,RUN,RUN)])++qj a b c X Y m m PN QN=R by
       rw[<-HR.out,HRUN.out.1,HG0.out]
       simp)
      have HDL2:=ze (show((D++[(yg G1 G2 G3,G1,G2,G3)])++[((1:Int),RUN,RUN,RUN)]).length<=3*m by have:=HDL.out;have:=HMN.out;simp;omega);go_wp2_with fail;go_quiet (fail);go_wp2_with fail
      go_roundg (a.length-m)
      case measure=>have:=HMN.out;omega
      case rel=>
       have hM:=HMN.out;exact⟨m,m,PN,QN,(D++[(yg G1 G2 G3,G1,G2,G3)])++[(1,RUN,RUN,RUN)],by omega,rfl,rfl,rfl,rfl,rfl,Nat.le_refl _,HPB.out.1,HPB.out.2,ze (HO11.out.old (zm _ _)),HRR,ze HRUN.out.2.1,ze HRUN.out.2.2,HDL2.out,ze (HB11.out.trans ⟨rfl,rfl,rfl,Nat.le_refl _,fun _ _ =>rfl⟩)⟩
  ·obtain rfl:k=a.length:=by omega
   have hneg:¬(a.length:Int)<(a.length:Int):=by omega
   have HRE:=ze (show D++jY (a.drop B) (b.drop O) (c.drop T)=R by rw[<-HR.out,zpP]);obtain⟨s1o,s1c,rs1,hs1⟩:=xG HA.out B hBk;obtain⟨s2o,s2c,rs2,hs2⟩:=xG HB.out O hOb;obtain⟨s3o,s3c,rs3,hs3⟩:=xG HC.out T hTc
   have lG1:(a.drop B).length<=3000:=by rw[List.length_drop];have:=HL.out;omega
   have lG2:(b.drop O).length<=3000:=by rw[List.length_drop];have:=HL.out;omega
   have lG3:(c.drop T).length<=3000:=by rw[List.length_drop];have:=HL.out;omega
   obtain⟨G1,hG1⟩:∃G,a.drop B=G:=⟨_,rfl⟩;obtain⟨G2,hG2⟩:∃G,b.drop O=G:=⟨_,rfl⟩;obtain⟨G3,hG3⟩:∃G,c.drop T=G:=⟨_,rfl⟩;obtain⟨n1,hn1⟩:∃n,a.length-B=n:=⟨_,rfl⟩;obtain⟨n2,hn2⟩:∃n,b.length-O=n:=⟨_,rfl⟩;obtain⟨n3,hn3⟩:∃n,c.length-T=n:=⟨_,rfl⟩;rw[hG1,hG2,hG3]at HRE;rw[hG1]at hs1 lG1;rw[hG2]at hs2 lG2;rw[hG3]at hs3 lG3;rw[hn1]at rs1 hs1;rw[hn2]at rs2 hs2;rw[hn3]at rs3 hs3;have HS1:=ze hs1;have HS2:=ze hs2;have HS3:=ze hs3;have HLG:=ze (And.intro lG1 (And.intro lG2 lG3));have B0:(0:Int)<=(B:Int):=Int.natCast_nonneg _;have O0:(0:Int)<=(O:Int):=Int.natCast_nonneg _;have T0:(0:Int)<=(T:Int):=Int.natCast_nonneg _;have HDL:=ze (show D.length<=3*3000 by have:=HL.out;omega);have HOW:=ze HO.out;have HOQ:=ze (HO.out.old (show Below wr.heap.size wr wr.drew from⟨rfl,rfl,rfl,Nat.le_refl _,fun _ _ =>rfl⟩));have HBD:=ze (show Below w2.heap.size w2 wr.drew from HBW.out.trans ⟨rfl,rfl,rfl,Nat.le_refl _,fun _ _ =>rfl⟩);obtain⟨TT,hTT⟩:∃TT,(!decide (G1=[]/\G2=[]/\G3=[]))=TT:=⟨_,rfl⟩;have HTT:=ze hTT
   have HCALL:=ze (fun(W:World) (h:Below w2.heap.size w2 W)=>by
    have:=zfS _ _ _ G1 G2 G3 W (Sl.old HS1.out h) (Sl.old HS2.out h) (Sl.old HS3.out h) (by have:=HLG.out;omega) (by have:=HLG.out;omega) (by have:=HLG.out;omega);rw[hTT]at this
    exact this)
   have HBA:=ze (show Below w2.heap.size w2 (wr.alloc (.cells #[.int .i64 0,.slice none 0 0,.slice none 0 0,.slice none 0 0] 104)).drew from(HBW.out.alloc HBW.out.size _).trans ⟨rfl,rfl,rfl,Nat.le_refl _,fun _ _ =>rfl⟩);have HOA:=ze (HO.out.old (show Below wr.heap.size wr (wr.alloc (.cells #[.int .i64 0,.slice none 0 0,.slice none 0 0,.slice none 0 0] 104)).drew from((Below.refl _ wr).alloc (Nat.le_refl _) _).trans ⟨rfl,rfl,rfl,Nat.le_refl _,fun _ _ =>rfl⟩));have HWD:=ze (show Below wr.heap.size wr (wr.alloc (.cells #[.int .i64 0,.slice none 0 0,.slice none 0 0,.slice none 0 0] 104)).drew from((Below.refl _ wr).alloc (Nat.le_refl _) _).trans ⟨rfl,rfl,rfl,Nat.le_refl _,fun _ _ =>rfl⟩);have HZB:=ze (show(wr.alloc (.cells #[.int .i64 0,.slice none 0 0,.slice none 0 0,.slice none 0 0] 104)).drew.heap[wr.heap.size]? = _ from heap_alloc_new wr (.cells #[.int .i64 0,.slice none 0 0,.slice none 0 0,.slice none 0 0] 104));have HZQ:=ze (show wr.heap.size <(wr.alloc (.cells #[.int .i64 0,.slice none 0 0,.slice none 0 0,.slice none 0 0] 104)).drew.heap.size from lt_of_block HZB.out);have HWQ:=ze (show w2.heap.size<=(⟨wr.heap.size,0,none⟩:Addr).block from HBW.out.size);have HB2:=ze hB2;clear hTT hs1 hs2 hs3 hn1 hn2 hn3 hG1 hG2 hG3 lG1 lG2 lG3 HR HAX HAY hDl hal hB2 HX HY HXA HYA HXL HYL HBE HYE HA HB HC
   go_upto_region 18 with fail
   go_cut [18,19]from 145 to 156 (fun v15 v16 wx=>∃ (g:Nat) (kk:Int) (y1:Option Addr) (z1:Nat) (y2:Option Addr) (z2:Nat) (y3:Option Addr) (z3:Nat),v15= .pointer (some ⟨g,0,none⟩)/\v16= .bool TT/\Hid (¬(G1=[]/\G2=[]/\G3=[])->kk=yg G1 G2 G3)/\Hid (wx.heap[g]? =some (.cells #[.int .i64 kk,.slice y1 G1.length z1,.slice y2 G2.length z2,.slice y3 G3.length z3] 104 (0,0)))/\Hid (yy wx (.slice lo D.length lcp) (.slice y1 G1.length z1) G1)/\Hid (yy wx (.slice lo D.length lcp) (.slice y2 G2.length z2) G2)/\Hid (yy wx (.slice lo D.length lcp) (.slice y3 G3.length z3) G3)/\Hid (xZ wx w2.heap.size (.slice lo D.length lcp) D)/\Hid (Below w2.heap.size w2 wx))
   case first=>
    go_region_held3 (fun _ =>True) (trivial) ((go_at_call 84;first
     |(with_reducible refine(HCALL.out wr.drew HBD.out).mono ?_;rintro e w6 ⟨kk,y1,z1,y2,z2,y3,z3,rfl,hkk,t1,t2,t3,hb6⟩;have hB6:=zi HBD.out hb6 HBD.out.size;have HN1:=ze (zA t1 (fun j hj=>(HOQ.out.lt j hj).2));have HN2:=ze (zA t2 (fun j hj=>(HOQ.out.lt j hj).2));have HN3:=ze (zA t3 (fun j hj=>(HOQ.out.lt j hj).2));have HB6:=ze hB6;have HO6:=ze (HOQ.out.old hb6);have HKK:=ze hkk;clear t1 t2 t3 hb6 hB6 hkk)
     |(with_reducible refine(HCALL.out (wr.alloc (.cells #[.int .i64 0,.slice none 0 0,.slice none 0 0,.slice none 0 0] 104)).drew HBA.out).mono ?_;rintro e w6 ⟨kk,y1,z1,y2,z2,y3,z3,rfl,hkk,t1,t2,t3,hb6⟩;have hB6:=zi HBA.out hb6 HBA.out.size;have HN1:=ze (zA t1 (fun j hj=>(HOA.out.lt j hj).2));have HN2:=ze (zA t2 (fun j hj=>(HOA.out.lt j hj).2));have HN3:=ze (zA t3 (fun j hj=>(HOA.out.lt j hj).2));have HB6:=ze hB6;have HO6:=ze (HOA.out.old hb6);have HKK:=ze hkk;have HZW:=ze (Nat.lt_of_lt_of_le HZQ.out hb6.size);have g6:w6.heap[wr.heap.size]? = _:=(hb6.block wr.heap.size HZQ.out).trans HZB.out;have c0:=zd (i:=0) g6 rfl;have f0:=zo (i:=0) g6;have g7:=zv (i:=0) (u:= .int .i64 kk) g6;have c1:=zd (i:=1) g7 (v:= .slice none 0 0) rfl;have f1:=zo (i:=1) g7;have g8:=zv (i:=1) (u:= .slice y1 G1.length z1) g7;have c2:=zd (i:=2) g8 (v:= .slice none 0 0) rfl;have f2:=zo (i:=2) g8;have g9:=zv (i:=2) (u:= .slice y2 G2.length z2) g8;have c3:=zd (i:=3) g9 (v:= .slice none 0 0) rfl;have f3:=zo (i:=3) g9;have g10:=zv (i:=3) (u:= .slice y3 G3.length z3) g9;have HG10:=ze g10;have SET:=ze (fun b (hb:b≠wr.heap.size)=>ziE w6 wr.heap.size (.int .i64 kk) (.slice y1 G1.length z1) (.slice y2 G2.length z2) (.slice y3 G3.length z3) b hb);have HBQ6:=ze (show Below wr.heap.size wr w6 from(HWD.out).trans (hb6.mono (Nat.le_of_lt HZQ.out)));have HF1:=ze t1;have HF2:=ze t2;have HF3:=ze t3;clear t1 t2 t3 hb6 hB6 hkk)))
    all_goals
     go_wp2_with fail
     go_meet
     first
      |exact⟨w6.heap.size,kk,y1,z1,y2,z2,y3,z3,rfl,rfl,HKK,ze (heap_alloc_new w6 _),ze (HN1.out.old' ((Below.refl _ w6).alloc (Nat.le_refl _) _)),ze (HN2.out.old' ((Below.refl _ w6).alloc (Nat.le_refl _) _)),ze (HN3.out.old' ((Below.refl _ w6).alloc (Nat.le_refl _) _)),ze (HO6.out.old ((Below.refl _ w6).alloc (Nat.le_refl _) _)),ze (HB6.out.alloc HB6.out.size _)⟩
      |exact⟨wr.heap.size,kk,y1,z1,y2,z2,y3,z3,rfl,rfl,HKK,HG10,ze (zA (w0:=(wr.alloc (.cells #[.int .i64 0,.slice none 0 0,.slice none 0 0,.slice none 0 0] 104)).drew) (zD HF1.out (fun gg e _ =>SET.out gg (by have h1:=(HF1.out.lt gg e).1;have h2:=HZQ.out;omega))) (fun j hj=>(HOA.out.lt j hj).2)),ze (zA (w0:=(wr.alloc (.cells #[.int .i64 0,.slice none 0 0,.slice none 0 0,.slice none 0 0] 104)).drew) (zD HF2.out (fun gg e _ =>SET.out gg (by have h1:=(HF2.out.lt gg e).1;have h2:=HZQ.out;omega))) (fun j hj=>(HOA.out.lt j hj).2)),ze (zA (w0:=(wr.alloc (.cells #[.int .i64 0,.slice none 0 0,.slice none 0 0,.slice none 0 0] 104)).drew) (zD HF3.out (fun gg e _ =>SET.out gg (by have h1:=(HF3.out.lt gg e).1;have h2:=HZQ.out;omega))) (fun j hj=>(HOA.out.lt j hj).2)),ze (HOW.out.old ((((HBQ6.out.setCell (Nat.le_refl _) _).setCell (Nat.le_refl _) _).setCell (Nat.le_refl _) _).setCell (Nat.le_refl _) _)),ze (((((HB6.out.setCell HWQ.out _).setCell HWQ.out _).setCell HWQ.out _).setCell HWQ.out _))⟩
   case rest=>
    obtain⟨g,kk,y1,z1,y2,z2,y3,z3,rfl,rfl,HKK,HG,HN1,HN2,HN3,HO6,HB6⟩:=hcut
    by_cases h0:G1=[]/\G2=[]/\G3=[]
    ·have hT:TT=false:=by rw[<-HTT.out,decide_eq_true h0];rfl
     subst hT;have HRR:=ze (show D=R by rw[<-HRE.out,jY,if_pos h0,List.append_nil]);clear h0 HTT HN1 HN2 HN3 HG HCALL;go_wp2_with fail;go_ret;rw[<-HRR.out];exact⟨_,rfl,HO6.out.slC,zi HB2.out HB6.out HB2.out.size⟩
    ·have hT:TT=true:=by rw[<-HTT.out,decide_eq_false h0];rfl
     subst hT;have HRR:=ze (show D++[(yg G1 G2 G3,G1,G2,G3)]=R by rw[<-HRE.out,jY,if_neg h0]);obtain rfl:kk=yg G1 G2 G3:=HKK.out h0;have l0:=zd (i:=0) HG.out rfl;have l1:=zd (i:=1) HG.out rfl;have l2:=zd (i:=2) HG.out rfl;have l3:=zd (i:=3) HG.out rfl;clear h0 HTT HKK HCALL
     go_wp2_with (at_builtin;refine jL rfl (.tmp 158) (.tmp 160) rfl w2.heap.size _ D (yg G1 G2 G3) G1 G2 G3 _ _ _ rfl HO6.out HN1.out HN2.out HN3.out wc.heap.size rfl rfl rfl rfl rfl (by have:=HDL.out;omega) HB6.out.size ?_;intro v7 w7 hO7 q7;have HO7:=ze hO7;have HB7:=ze (HB6.out.trans q7);clear hO7 q7)
     go_ret;rw[<-HRR.out];exact⟨_,rfl,HO7.out.slC,zi HB2.out HB7.out HB2.out.size⟩
end
end Go.Proofs.YtbnafihigoekeaaGreatDoor

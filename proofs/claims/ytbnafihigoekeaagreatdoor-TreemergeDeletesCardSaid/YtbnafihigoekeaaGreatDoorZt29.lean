/-
  TmTl, part 29.
-/
import Derived.Test.YtbnafihigoekeaaGreatDoorZt28
import Derived.Test.YtbnafihigoekeaaGreatDoorZt1
import Derived.Deep.DeepCutAuto
import Derived.Deep.CutBlock
import Derived.Shelf.SlSortCmp.PivotK
namespace Go.Proofs.YtbnafihigoekeaaGreatDoor
open Go.Shelf Go.RowKit Go.Lib Go.Sort
variable{P:Program}{ρ:Ren}{α:Type} [Inhabited α]
theorem yh(n:Nat):∃p,Hid (p=n):=⟨n,rfl⟩
set_option maxHeartbeats 4000000 in
set_option maxRecDepth 1000000 in
theorem St.swapRange(L:StL P ρ)(k:Nat)(aE:∀w,(isAgg (ρ.t 35)).run P w= .ok true w)(zE:∀w,(Go.sizeOf (ρ.t 35)).run P w= .ok k w)(enc:α->List Value)(g:Nat)(cb:Array Value)(blk off cap a b n:Nat)(d0 d:Array α)(w0 w:World)
  (R:RowK enc k w0 blk off d0) (hs:d0.size=d.size) (S:SWK enc k w0 blk off d w) (ha:a+n<=d.size) (hb:b+n<=d.size) (hsz:d.size<4611686018427387904):
  Calls P (ρ.f 85) #[.slice (some ⟨blk,off,none⟩) d.size cap,.int .i64 a,.int .i64 b,.int .i64 n,.func (.func g) #[] cb] w fun e w'=>e= .returned (.tuple #[])/\SWK enc k w0 blk off (kh a b n 0 d) w':=by
 have mixed:=L.mixed;have t0:=L.t0;have a0:=L.a0;have z0:=L.z0;have v0:=L.v0;have t3:=L.t3;have a3:=L.a3;have z3:=L.z3;have v3:=L.v3;have t4:=L.t4;have a4:=L.a4;have z4:=L.z4;have v4:=L.v4;have t28:=L.t28;have a28:=L.a28;have z28:=L.z28;have v28:=L.v28;have t37:=L.t37;have a37:=L.a37;have z37:=L.z37;have v37:=L.v37;have t79:=L.t79;have a79:=L.a79;have z79:=L.z79;have v79:=L.v79;obtain⟨_,_,FG⟩:=L.f85;have S0:Aside (SWK enc k w0 blk off d w):=S;clear S
 go_enter FG,zij ρ
 go_wp2
 go_loopg [10] n (fun kx s10 wr=>∃ (i:Nat) (dk:Array α),s10= .int .i64 i/\kx+i=n/\dk.size=d.size/\Aside (SWK enc k w0 blk off dk wr)/\Hid (kh a b kx i dk=kh a b n 0 d))
 case atStart=>exact⟨0,d,rfl,by omega,rfl,S0,rfl⟩
 case round=>
  clear S0;obtain⟨i,dk,rfl,hkx,hds,S1,HE⟩:=hrel
  cases gk with
  |zero=>
   have hltz:¬(i:Int)<(n:Int):=by omega
   go_wp2
   go_end0
   exact⟨rfl,by rw[<-HE.out];exact S1.out⟩
  |succ kx=>
   have hltz:(i:Int)<(n:Int):=by omega
   obtain⟨p,hp⟩:=yh (a+i);obtain⟨q,hq⟩:=yh (b+i);have hpo:=hp.out;have hqo:=hq.out;have ip:IntKind.i64.wrap ((a:Int) +(i:Int))=(p:Int):=(IntWalk.i64_in _ (by omega)).trans (by omega);have iq:IntKind.i64.wrap ((b:Int) +(i:Int))=(q:Int):=(IntWalk.i64_in _ (by omega)).trans (by omega);have ii:IntKind.i64.wrap ((i:Int)+1)=(i:Int)+1:=IntWalk.i64_in _ (by omega)
   have hpd:p<d.size:=by omega
   have hqd:q<d.size:=by omega
   clear hpo hqo;have e1a:((p:Nat):Int).toNat=p:=Int.toNat_natCast _;have p1a:(0:Int)<=(p:Int):=Int.natCast_nonneg _
   have b1a:(p:Int)<(d.size:Int):=by omega
   have r1a:IntKind.i64.wrap ((p:Nat):Int)=(p:Int):=IntWalk.i64_in _ (by omega);have e1c:((q:Nat):Int).toNat=q:=Int.toNat_natCast _;have p1c:(0:Int)<=(q:Int):=Int.natCast_nonneg _
   have b1c:(q:Int)<(d.size:Int):=by omega
   have r1c:IntKind.i64.wrap ((q:Nat):Int)=(q:Int):=IntWalk.i64_in _ (by omega);have S2:Aside (SWK enc k w0 blk off (swp dk p q) ((wr.drew.setCells blk (off+p*k) (enc dk[q]!)).setCells blk (off+q*k) (enc dk[p]!))):=S1.out.swapped R p q (by omega) (by omega);have l1a:=S1.out.ld1 R (by omega) P p (by omega);have l1b:=S1.out.ld1 R (by omega) P q (by omega);have s1a:=S1.out.st1 R (by omega) P p (by omega) dk[q]!;have s1b:=S1.out.st2 R (by omega) P p q (by omega) (by omega) dk[q]! dk[p]!;have n1a:(enc dk[p]!).length=k:=R.hk _;have n1b:(enc dk[q]!).length=k:=R.hk _;generalize enc dk[p]! =cI1 at S2 l1a s1b n1a;generalize enc dk[q]! =cJ1 at S2 l1b s1a s1b n1b;clear S1;go_wp2_with fail
   go_big_region_o
   clear l1a l1b s1a s1b;generalize(wr.drew.setCells blk (off+p*k) cJ1).setCells blk (off+q*k) cI1=w2 at S2 ⊢
   go_wp2
   go_roundg kx
   case measure=>omega
   case rel=>exact⟨i+1,swp dk p q,by go_num,by omega,by rw[size_swp];exact hds,S2,(show Hid _ from by rw[hp.out,hq.out];exact HE.out)⟩
set_option maxHeartbeats 4000000 in
set_option maxRecDepth 1000000 in
theorem St.rotate(L:StL P ρ)(k:Nat)(aE:∀w,(isAgg (ρ.t 35)).run P w= .ok true w)(zE:∀w,(Go.sizeOf (ρ.t 35)).run P w= .ok k w)(enc:α->List Value)(g:Nat)(cb:Array Value)(blk off cap a m b:Nat)(d0 d:Array α)(w0 w:World)
  (R:RowK enc k w0 blk off d0) (hs:d0.size=d.size) (S:SWK enc k w0 blk off d w) (h1:a<m) (h2:m<b) (hb:b<=d.size) (hsz:d.size<4611686018427387904):
  Calls P (ρ.f 80) #[.slice (some ⟨blk,off,none⟩) d.size cap,.int .i64 a,.int .i64 m,.int .i64 b,.func (.func g) #[] cb] w fun e w'=>e= .returned (.tuple #[])/\SWK enc k w0 blk off (xY d a m b) w':=by
 have mixed:=L.mixed;have t0:=L.t0;have a0:=L.a0;have z0:=L.z0;have v0:=L.v0;have t3:=L.t3;have a3:=L.a3;have z3:=L.z3;have v3:=L.v3;have t4:=L.t4;have a4:=L.a4;have z4:=L.z4;have v4:=L.v4;have t28:=L.t28;have a28:=L.a28;have z28:=L.z28;have v28:=L.v28;have t37:=L.t37;have a37:=L.a37;have z37:=L.z37;have v37:=L.v37;have t79:=L.t79;have a79:=L.a79;have z79:=L.z79;have v79:=L.v79;obtain⟨_,_,FG⟩:=L.f80;have e85:∀args w,(callFunc (ρ.f 85) args).run P w= .ok (.enter (ρ.f 85) args) w:=L.f85.enters rfl
 have HSW:=ze fun(x y n:Nat) (d:Array α) (w:World)=>St.swapRange L k aE zE enc g cb blk off cap x y n d0 d w0 w R
 have S0:Aside (SWK enc k w0 blk off d w):=S;clear S;obtain⟨i0,hi0⟩:=yh (m-a);obtain⟨j0,hj0⟩:=yh (b-m);have hio:=hi0.out;have hjo:=hj0.out;have wi:IntKind.i64.wrap ((m:Int)-(a:Int))=(i0:Int):=(IntWalk.i64_in _ (by omega)).trans (by omega);have wj:IntKind.i64.wrap ((b:Int)-(m:Int))=(j0:Int):=(IntWalk.i64_in _ (by omega)).trans (by omega);have HB:=ze (show 0<i0/\0<j0/\i0<=m/\m+j0<=d.size/\i0+j0=b-a by omega);have HR:=ze (show xY d a m b=kV m (i0+j0) i0 j0 d by rw[xY,hi0.out,hj0.out,show m-a +(b-m)=b-a by omega]);clear hio hjo;rw[HR.out];clear HR
 go_enter FG,zib ρ
 go_wp2_with fail
 go_loopg [10,11] (i0+j0) (fun kx s10 s11 wr=>∃ (i j:Nat) (dk:Array α),s10= .int .i64 i/\s11= .int .i64 j/\Hid (0<i/\0<j/\i<=i0/\j<=j0/\i+j<=kx)/\dk.size=d.size/\Aside (SWK enc k w0 blk off dk wr)/\Hid (kV m kx i j dk=kV m (i0+j0) i0 j0 d))
 case atStart=>exact⟨i0,j0,d,rfl,rfl,ze ⟨HB.out.1,HB.out.2.1,Nat.le_refl _,Nat.le_refl _,Nat.le_refl _⟩,rfl,S0,rfl⟩
 case round=>
  clear S0;obtain⟨i,j,dk,rfl,rfl,HI,hds,S1,HE⟩:=hrel
  cases gk with
  |zero=>exact absurd HI.out (by omega)
  |succ kx=>
   have hHI:=HI.out;have hHB:=HB.out;obtain⟨p,hp⟩:=yh (m-i);have hpo:=hp.out;have ip:IntKind.i64.wrap ((m:Int)-(i:Int))=(p:Int):=(IntWalk.i64_in _ (by omega)).trans (by omega)
   by_cases he:i=j
   ·subst he
    have HE2:=ze (show kh p m i 0 dk=kV m (i0+j0) i0 j0 d by rw[<-HE.out,kV,if_pos rfl,hp.out]);have hc:=HSW.out p m i dk wr (by omega) S1.out (by omega) (by omega) (by omega);rw[hds]at hc;clear hHI hHB hpo HI HB
    go_wp2_with (go_at_fn (ρ.f 85);refine hc.mono ?_;rintro e w2 ⟨rfl,hS2⟩)
    go_end0
    exact⟨rfl,by rw[<-HE2.out];exact hS2⟩
   ·have hez:¬(i:Int)=(j:Int):=by omega
    have heb:((i:Int)==(j:Int))=false:=by simpa using hez
    by_cases hlt:j<i
    ·have hltz:(j:Int)<(i:Int):=by omega
     obtain⟨i2,hi2⟩:=yh (i-j);have hi2o:=hi2.out;have iw:IntKind.i64.wrap ((i:Int)-(j:Int))=(i2:Int):=(IntWalk.i64_in _ (by omega)).trans (by omega);have HE2:=ze (show kV m kx i2 j (kh p m j 0 dk)=kV m (i0+j0) i0 j0 d by rw[<-HE.out,kV,if_neg he,if_pos hlt,hp.out,hi2.out]);have hc:=HSW.out p m j dk wr (by omega) S1.out (by omega) (by omega) (by omega);rw[hds]at hc;have HI2:=ze (show 0<i2/\0<j/\i2<=i0/\j<=j0/\i2+j<=kx by omega)
     have hkx:kx<kx+1:=by omega
     clear hHI hHB hpo HI hi2o
     go_wp2_with (go_at_fn (ρ.f 85);refine hc.mono ?_;rintro e w2 ⟨rfl,hS2⟩)
     go_roundg kx
     case measure=>exact hkx
     case rel=>exact⟨i2,j,_,rfl,rfl,HI2,by rw[xB];exact hds,hS2,HE2⟩
    ·have hltz:¬(j:Int)<(i:Int):=by omega
     obtain⟨j2,hj2⟩:=yh (j-i);obtain⟨r,hr⟩:=yh (m+j-i);have hj2o:=hj2.out;have hro:=hr.out;have jw:IntKind.i64.wrap ((j:Int)-(i:Int))=(j2:Int):=(IntWalk.i64_in _ (by omega)).trans (by omega);have rw1:IntKind.i64.wrap ((m:Int) +(j:Int))=(m:Int) +(j:Int):=IntWalk.i64_in _ (by omega);have rw2:IntKind.i64.wrap ((m:Int) +(j:Int)-(i:Int))=(r:Int):=(IntWalk.i64_in _ (by omega)).trans (by omega);have HE2:=ze (show kV m kx i j2 (kh p r i 0 dk)=kV m (i0+j0) i0 j0 d by rw[<-HE.out,kV,if_neg he,if_neg hlt,hp.out,hj2.out,hr.out]);have hc:=HSW.out p r i dk wr (by omega) S1.out (by omega) (by omega) (by omega);rw[hds]at hc;have HI2:=ze (show 0<i/\0<j2/\i<=i0/\j2<=j0/\i+j2<=kx by omega)
     have hkx:kx<kx+1:=by omega
     clear hHI hHB hpo HI hj2o hro
     go_wp2_with (go_at_fn (ρ.f 85);refine hc.mono ?_;rintro e w2 ⟨rfl,hS2⟩)
     go_roundg kx
     case measure=>exact hkx
     case rel=>exact⟨i,j2,_,rfl,rfl,HI2,by rw[xB];exact hds,hS2,HE2⟩
theorem ziT(lt:α->α->Bool)(G:Nat){a m b s e mid:Nat}(d:Array α){d1 d2:Array α}(h1:¬m-a=1)(h2:¬b-m=1)(hs:zea lt d a m b=s)(hm:mid=(a+b) / 2)(he:e=mid+m-s)
  (hd1:d1=if s<m/\m<e then xY d s m e else d) (hd2:d2=if a<s/\s<mid then xr lt G a s mid d1 else d1):
  xr lt (G+1) a m b d=if mid<e/\e<b then xr lt G mid e b d2 else d2:=by
 rw[xr,if_neg h1,if_neg h2]
 dsimp only
 rw[hs,<-hm,<-he,<-hd1,<-hd2]
set_option maxHeartbeats 8000000 in
set_option maxRecDepth 1000000 in
theorem St.symMerge(L:StL P ρ)(k:Nat)(aE:∀w,(isAgg (ρ.t 35)).run P w= .ok true w)(zE:∀w,(Go.sizeOf (ρ.t 35)).run P w= .ok k w)(enc:α->List Value)(cf:α->α->Int)(g:Nat)(cb:Array Value)(blk off cap:Nat)(d0:Array α)(w0:World)
  (eg:∀args w,(callFunc g args).run P w= .ok (.enter g args) w) (hcmp:CmpLays P g cb enc k cf blk off d0.size w0) (R:RowK enc k w0 blk off d0) (hsz:d0.size<4611686018427387904):∀ (G a m b:Nat) (d:Array α) (w:World),d0.size=d.size->SWK enc k w0 blk off d w->b-a<=G->a<m->m<b->b<=d.size->
  Calls P (ρ.f 72) #[.slice (some ⟨blk,off,none⟩) d.size cap,.int .i64 a,.int .i64 m,.int .i64 b,.func (.func g) #[] cb] w fun e w'=>e= .returned (.tuple #[])/\SWK enc k w0 blk off (xr (ltOf cf) G a m b d) w':=by
 intro G
 induction G with
 |zero=>intro a m b d w hs S hG h1 h2 hb;omega
 |succ G ih=>
 intro a m b d w hs S hG h1 h2 hb;have mixed:=L.mixed;have t0:=L.t0;have a0:=L.a0;have z0:=L.z0;have v0:=L.v0;have t3:=L.t3;have a3:=L.a3;have z3:=L.z3;have v3:=L.v3;have t4:=L.t4;have a4:=L.a4;have z4:=L.z4;have v4:=L.v4;have t28:=L.t28;have a28:=L.a28;have z28:=L.z28;have v28:=L.v28;have t37:=L.t37;have a37:=L.a37;have z37:=L.z37;have v37:=L.v37;have t79:=L.t79;have a79:=L.a79;have z79:=L.z79;have v79:=L.v79;obtain⟨_,_,FG⟩:=L.f72;have e80:∀args w,(callFunc (ρ.f 80) args).run P w= .ok (.enter (ρ.f 80) args) w:=L.f80.enters rfl;have e72:∀args w,(callFunc (ρ.f 72) args).run P w= .ok (.enter (ρ.f 72) args) w:=L.f72.enters rfl;have HC:Aside _:=hcmp;have S0:Aside (SWK enc k w0 blk off d w):=S;clear S hcmp;rw[hs]at hsz
 by_cases h1m:m-a=1
 ·have wm:IntKind.i64.wrap ((m:Int)-(a:Int))=1:=(IntWalk.i64_in _ (by omega)).trans (by omega)
  obtain⟨f,Hf⟩:∃f:Nat->Bool,Hid (f=fun h=>ltOf cf d[h]! d[a]!):=⟨_,rfl⟩;clear ih
  go_enter FG,zbC ρ
  go_wp2_with fail
  go_loopg [10,11] (b-m) (fun kx s1 s2 wr=>∃ (i j:Nat),s1= .int .i64 i/\s2= .int .i64 j/\Hid (m<=i/\i<=j/\j<=b/\j-i<=kx)/\Aside (SWK enc k w0 blk off d wr)/\Hid (xe f kx i j=xe f (b-m) m b))
  case atStart=>exact⟨m,b,rfl,rfl,ze ⟨Nat.le_refl _,Nat.le_of_lt h2,Nat.le_refl _,Nat.le_refl _⟩,S0,rfl⟩
  case round=>
   clear S0;obtain⟨i,j,rfl,rfl,HI,S1,HE⟩:=hrel;have hHI:=HI.out
   by_cases hlt:i<j
   ·have hltz:(i:Int)<(j:Int):=by omega
    cases gk with
    |zero=>exact absurd hHI (by omega)
    |succ gk=>
     obtain⟨h,hh⟩:=yh ((i+j) / 2);have hho:=hh.out
     have ih:(((i:Nat):Int) +(j:Int)) / 2=(h:Int):=by omega
     have wh:IntKind.i64.wrap (((i:Nat):Int) +(j:Int))=(i:Int) +(j:Int):=IntWalk.i64_in _ (by omega);have zh:IntKind.i64.wrap (h:Int)=(h:Int):=IntWalk.i64_in _ (by omega)
     have bh:h<4611686018427387904:=by omega
     have ch:i<4611686018427387904:=by omega
     have dh:j<4611686018427387904:=by omega
     have ih1:IntKind.i64.wrap ((h:Int)+1)=(h:Int)+1:=IntWalk.i64_in _ (by omega)
     have hhd:h<d.size:=by omega
     cases hv:ltOf cf d[h]! d[a]! with
     |true=>
      have hf1:f ((i+j) / 2)=true:=by rw[<-hh.out,Hf.out];exact hv
      have HE2:=ze (show xe f gk (h+1) j=xe f (b-m) m b by rw[<-HE.out,zjv _ _ _ _ hlt hf1,hh.out]);have HI2:=ze (show m<=h+1/\h+1<=j/\j<=b/\j-(h+1)<=gk by omega);clear HE HI hHI hf1 hho;have e1a:((h:Nat):Int).toNat=h:=Int.toNat_natCast _;have p1a:(0:Int)<=(h:Int):=Int.natCast_nonneg _
      have b1a:(h:Int)<(d.size:Int):=by omega
      have r1a:IntKind.i64.wrap ((h:Nat):Int)=(h:Int):=IntWalk.i64_in _ (by omega);have e1c:((a:Nat):Int).toNat=a:=Int.toNat_natCast _;have p1c:(0:Int)<=(a:Int):=Int.natCast_nonneg _
      have b1c:(a:Int)<(d.size:Int):=by omega
      have r1c:IntKind.i64.wrap ((a:Nat):Int)=(a:Int):=IntWalk.i64_in _ (by omega);obtain⟨x1,hx1⟩:∃x,x=d[h]!:=⟨_,rfl⟩;obtain⟨y1,hy1⟩:∃x,x=d[a]!:=⟨_,rfl⟩;have l1a:=S1.out.ld R (by omega) P h (by omega);have l1b:=S1.out.ld R (by omega) P a (by omega);rw[<-hx1]at l1a;rw[<-hy1]at l1b;have hc1:=S1.out.cmp HC.out (by omega) x1 y1
      have hv1:cf x1 y1<0:=by rw[hx1,hy1];exact of_decide_eq_true hv
      have hd1:decide (cf x1 y1<0)=true:=decide_eq_true hv1;clear hx1 hy1;go_wp2_with fail
      go_quiet_grown (first |(go_at_fn g;refine Calls.grown_of (hc1 _ _)))
      have S2:Aside (SWK enc k w0 blk off d (grow (wr.drewN nq) osq)):=S1.out.grown nq osq;clear l1a l1b hc1 S1;generalize grow (wr.drewN nq) osq=w2 at S2 ⊢;clear nq osq;go_wp2_with fail
      go_roundg gk
      case measure=>omega
      case rel=>exact⟨h+1,j,by go_num,rfl,HI2,S2,HE2⟩
     |false=>
      have hf1:f ((i+j) / 2)=false:=by rw[<-hh.out,Hf.out];exact hv
      have HE2:=ze (show xe f gk i h=xe f (b-m) m b by rw[<-HE.out,zjV _ _ _ _ hlt hf1,hh.out]);have HI2:=ze (show m<=i/\i<=h/\h<=b/\h-i<=gk by omega);clear HE HI hHI hf1 hho;have e1a:((h:Nat):Int).toNat=h:=Int.toNat_natCast _;have p1a:(0:Int)<=(h:Int):=Int.natCast_nonneg _
      have b1a:(h:Int)<(d.size:Int):=by omega
      have r1a:IntKind.i64.wrap ((h:Nat):Int)=(h:Int):=IntWalk.i64_in _ (by omega);have e1c:((a:Nat):Int).toNat=a:=Int.toNat_natCast _;have p1c:(0:Int)<=(a:Int):=Int.natCast_nonneg _
      have b1c:(a:Int)<(d.size:Int):=by omega
      have r1c:IntKind.i64.wrap ((a:Nat):Int)=(a:Int):=IntWalk.i64_in _ (by omega);obtain⟨x1,hx1⟩:∃x,x=d[h]!:=⟨_,rfl⟩;obtain⟨y1,hy1⟩:∃x,x=d[a]!:=⟨_,rfl⟩;have l1a:=S1.out.ld R (by omega) P h (by omega);have l1b:=S1.out.ld R (by omega) P a (by omega);rw[<-hx1]at l1a;rw[<-hy1]at l1b;have hc1:=S1.out.cmp HC.out (by omega) x1 y1
      have hv1:¬cf x1 y1<0:=by rw[hx1,hy1];exact of_decide_eq_false hv
      have hd1:decide (cf x1 y1<0)=false:=decide_eq_false hv1;clear hx1 hy1;go_wp2_with fail
      go_quiet_grown (first |(go_at_fn g;refine Calls.grown_of (hc1 _ _)))
      have S2:Aside (SWK enc k w0 blk off d (grow (wr.drewN nq) osq)):=S1.out.grown nq osq;clear l1a l1b hc1 S1;generalize grow (wr.drewN nq) osq=w2 at S2 ⊢;clear nq osq;go_wp2_with fail
      go_roundg gk
      case measure=>omega
      case rel=>exact⟨i,h,rfl,rfl,HI2,S2,HE2⟩
   ·have hltz:¬(i:Int)<(j:Int):=by omega
    have HX:=ze (show xe f (b-m) m b=i by rw[<-HE.out,zhs _ _ _ _ hlt]);have HI2:=ze (show m<=i/\i<=b by omega);clear HE HI hHI hlt;generalize wr=w3 at S1 ⊢;obtain⟨i1,hi1⟩:=yh (i-1);have hi1o:=hi1.out;have hHI2:=HI2.out;have wi1:IntKind.i64.wrap ((i:Int)-1)=(i1:Int):=(IntWalk.i64_in _ (by omega)).trans (by omega);have HUP:=ze (show a<=i1/\i1<b by omega);have HFIN:=ze (show xr (ltOf cf) (G+1) a m b d=zdC (i1-a) a d by rw[xr,if_pos h1m,<-Hf.out,HX.out,hi1.out]);clear hHI2 hi1o HX;go_wp2_with fail
    go_loopg [13] (i1-a) (fun kx s1 wr=>∃ (q:Nat) (dk:Array α),s1= .int .i64 q/\Hid (a<=q/\kx+q=i1)/\dk.size=d.size/\Aside (SWK enc k w0 blk off dk wr)/\Hid (zdC kx q dk=zdC (i1-a) a d))
    case atStart=>exact⟨a,d,rfl,ze (by have:=HUP.out;omega),rfl,S1,rfl⟩
    case round=>
     clear S1;obtain⟨q,dk,rfl,HQ,hds,S1,HE⟩:=hrel;have hHQ:=HQ.out;have hHU:=HUP.out
     cases gk with
     |zero=>
      have hltz:¬(q:Int)<(i1:Int):=by omega
      clear hHQ hHU;go_wp2_with fail;refine zrt rfl rfl ?_;exact⟨rfl,by rw[HFIN.out,<-HE.out];exact S1.out⟩
     |succ gk=>
      have hltz:(q:Int)<(i1:Int):=by omega
      obtain⟨p,hp⟩:=yh (q+1);have hpo:=hp.out;have ip:IntKind.i64.wrap ((q:Int)+1)=(p:Int):=(IntWalk.i64_in _ (by omega)).trans (by omega)
      have hqd:q<d.size:=by omega
      have hpd:p<d.size:=by omega
      have HQ2:=ze (show a<=p/\gk+p=i1 by omega);have HE2:=ze (show zdC gk p (swp dk q p)=zdC (i1-a) a d by rw[<-HE.out,zdC,hp.out]);clear hpo hHQ hHU HQ HE;have eua:((q:Nat):Int).toNat=q:=Int.toNat_natCast _;have pua:(0:Int)<=(q:Int):=Int.natCast_nonneg _
      have bua:(q:Int)<(d.size:Int):=by omega
      have rua:IntKind.i64.wrap ((q:Nat):Int)=(q:Int):=IntWalk.i64_in _ (by omega);have euc:((p:Nat):Int).toNat=p:=Int.toNat_natCast _;have puc:(0:Int)<=(p:Int):=Int.natCast_nonneg _
      have buc:(p:Int)<(d.size:Int):=by omega
      have ruc:IntKind.i64.wrap ((p:Nat):Int)=(p:Int):=IntWalk.i64_in _ (by omega);have S2:Aside (SWK enc k w0 blk off (swp dk q p) ((wr.drew.setCells blk (off+q*k) (enc dk[p]!)).setCells blk (off+p*k) (enc dk[q]!))):=S1.out.swapped R q p (by omega) (by omega);have lua:=S1.out.ld1 R (by omega) P q (by omega);have lub:=S1.out.ld1 R (by omega) P p (by omega);have sua:=S1.out.st1 R (by omega) P q (by omega) dk[p]!;have sub:=S1.out.st2 R (by omega) P q p (by omega) (by omega) dk[p]! dk[q]!;have nua:(enc dk[q]!).length=k:=R.hk _;have nub:(enc dk[p]!).length=k:=R.hk _;generalize enc dk[q]! =cIu at S2 lua sub nua;generalize enc dk[p]! =cJu at S2 lub sua sub nub;clear S1;go_wp2_with fail
      go_big_region_o
      clear lua lub sua sub;generalize(wr.drew.setCells blk (off+q*k) cJu).setCells blk (off+p*k) cIu=w2 at S2 ⊢;go_wp2_with fail
      go_roundg gk
      case measure=>omega
      case rel=>exact⟨p,swp dk q p,rfl,HQ2,by rw[size_swp];exact hds,S2,HE2⟩
 ·obtain⟨ma,hma⟩:=yh (m-a)
  have hmao:=hma.out;have wm:IntKind.i64.wrap ((m:Int)-(a:Int))=(ma:Int):=(IntWalk.i64_in _ (by omega)).trans (by omega)
  have wm1:((ma:Int)==1)=false:=by simp;omega
  have wm2:¬(ma:Int)=1:=by omega
  clear hmao
  by_cases h1b:b-m=1
  ·have wb:IntKind.i64.wrap ((b:Int)-(m:Int))=1:=(IntWalk.i64_in _ (by omega)).trans (by omega)
   obtain⟨f,Hf⟩:∃f:Nat->Bool,Hid (f=fun h=>!ltOf cf d[m]! d[h]!):=⟨_,rfl⟩
   have hmd:m<d.size:=by omega
   clear ih
   go_enter FG,zbC ρ
   go_wp2_with fail
   go_loopg [14,15] (m-a) (fun kx s1 s2 wr=>∃ (i j:Nat),s1= .int .i64 i/\s2= .int .i64 j/\Hid (a<=i/\i<=j/\j<=m/\j-i<=kx)/\Aside (SWK enc k w0 blk off d wr)/\Hid (xe f kx i j=xe f (m-a) a m))
   case atStart=>exact⟨a,m,rfl,rfl,ze ⟨Nat.le_refl _,Nat.le_of_lt h1,Nat.le_refl _,Nat.le_refl _⟩,S0,rfl⟩
   case round=>
    clear S0;obtain⟨i,j,rfl,rfl,HI,S1,HE⟩:=hrel;have hHI:=HI.out
    by_cases hlt:i<j
    ·have hltz:(i:Int)<(j:Int):=by omega
     cases gk with
     |zero=>exact absurd hHI (by omega)
     |succ gk=>
      obtain⟨h,hh⟩:=yh ((i+j) / 2);have hho:=hh.out
      have ih:(((i:Nat):Int) +(j:Int)) / 2=(h:Int):=by omega
      have wh:IntKind.i64.wrap (((i:Nat):Int) +(j:Int))=(i:Int) +(j:Int):=IntWalk.i64_in _ (by omega);have zh:IntKind.i64.wrap (h:Int)=(h:Int):=IntWalk.i64_in _ (by omega)
      have bh:h<4611686018427387904:=by omega
      have ch:i<4611686018427387904:=by omega
      have dh:j<4611686018427387904:=by omega
      have ih1:IntKind.i64.wrap ((h:Int)+1)=(h:Int)+1:=IntWalk.i64_in _ (by omega)
      have hhd:h<d.size:=by omega
      cases hv:ltOf cf d[m]! d[h]! with
      |false=>
       have hf1:f ((i+j) / 2)=true:=by rw[<-hh.out,Hf.out];show(!_)= _;rw[hv];rfl
       have HE2:=ze (show xe f gk (h+1) j=xe f (m-a) a m by rw[<-HE.out,zjv _ _ _ _ hlt hf1,hh.out]);have HI2:=ze (show a<=h+1/\h+1<=j/\j<=m/\j-(h+1)<=gk by omega);clear HE HI hHI hf1 hho;have e2a:((m:Nat):Int).toNat=m:=Int.toNat_natCast _;have p2a:(0:Int)<=(m:Int):=Int.natCast_nonneg _
       have b2a:(m:Int)<(d.size:Int):=by omega
       have r2a:IntKind.i64.wrap ((m:Nat):Int)=(m:Int):=IntWalk.i64_in _ (by omega);have e2c:((h:Nat):Int).toNat=h:=Int.toNat_natCast _;have p2c:(0:Int)<=(h:Int):=Int.natCast_nonneg _
       have b2c:(h:Int)<(d.size:Int):=by omega
       have r2c:IntKind.i64.wrap ((h:Nat):Int)=(h:Int):=IntWalk.i64_in _ (by omega);obtain⟨x2,hx2⟩:∃x,x=d[m]!:=⟨_,rfl⟩;obtain⟨y2,hy2⟩:∃x,x=d[h]!:=⟨_,rfl⟩;have l2a:=S1.out.ld R (by omega) P m (by omega);have l2b:=S1.out.ld R (by omega) P h (by omega);rw[<-hx2]at l2a;rw[<-hy2]at l2b;have hc2:=S1.out.cmp HC.out (by omega) x2 y2
       have hv2:¬cf x2 y2<0:=by rw[hx2,hy2];exact of_decide_eq_false hv
       have hd2:decide (cf x2 y2<0)=false:=decide_eq_false hv2;clear hx2 hy2;go_wp2_with fail
       go_quiet_grown (first |(go_at_fn g;refine Calls.grown_of (hc2 _ _)))
       have S2:Aside (SWK enc k w0 blk off d (grow (wr.drewN nq) osq)):=S1.out.grown nq osq;clear l2a l2b hc2 S1;generalize grow (wr.drewN nq) osq=w2 at S2 ⊢;clear nq osq;go_wp2_with fail
       go_roundg gk
       case measure=>omega
       case rel=>exact⟨h+1,j,by go_num,rfl,HI2,S2,HE2⟩
      |true=>
       have hf1:f ((i+j) / 2)=false:=by rw[<-hh.out,Hf.out];show(!_)= _;rw[hv];rfl
       have HE2:=ze (show xe f gk i h=xe f (m-a) a m by rw[<-HE.out,zjV _ _ _ _ hlt hf1,hh.out]);have HI2:=ze (show a<=i/\i<=h/\h<=m/\h-i<=gk by omega);clear HE HI hHI hf1 hho;have e2a:((m:Nat):Int).toNat=m:=Int.toNat_natCast _;have p2a:(0:Int)<=(m:Int):=Int.natCast_nonneg _
       have b2a:(m:Int)<(d.size:Int):=by omega
       have r2a:IntKind.i64.wrap ((m:Nat):Int)=(m:Int):=IntWalk.i64_in _ (by omega);have e2c:((h:Nat):Int).toNat=h:=Int.toNat_natCast _;have p2c:(0:Int)<=(h:Int):=Int.natCast_nonneg _
       have b2c:(h:Int)<(d.size:Int):=by omega
       have r2c:IntKind.i64.wrap ((h:Nat):Int)=(h:Int):=IntWalk.i64_in _ (by omega);obtain⟨x2,hx2⟩:∃x,x=d[m]!:=⟨_,rfl⟩;obtain⟨y2,hy2⟩:∃x,x=d[h]!:=⟨_,rfl⟩;have l2a:=S1.out.ld R (by omega) P m (by omega);have l2b:=S1.out.ld R (by omega) P h (by omega);rw[<-hx2]at l2a;rw[<-hy2]at l2b;have hc2:=S1.out.cmp HC.out (by omega) x2 y2
       have hv2:cf x2 y2<0:=by rw[hx2,hy2];exact of_decide_eq_true hv
       have hd2:decide (cf x2 y2<0)=true:=decide_eq_true hv2;clear hx2 hy2;go_wp2_with fail
       go_quiet_grown (first |(go_at_fn g;refine Calls.grown_of (hc2 _ _)))
       have S2:Aside (SWK enc k w0 blk off d (grow (wr.drewN nq) osq)):=S1.out.grown nq osq;clear l2a l2b hc2 S1;generalize grow (wr.drewN nq) osq=w2 at S2 ⊢;clear nq osq;go_wp2_with fail
       go_roundg gk
       case measure=>omega
       case rel=>exact⟨i,h,rfl,rfl,HI2,S2,HE2⟩
    ·have hltz:¬(i:Int)<(j:Int):=by omega
     have HX:=ze (show xe f (m-a) a m=i by rw[<-HE.out,zhs _ _ _ _ hlt]);have HI2:=ze (show a<=i/\i<=m by omega);clear HE HI hHI hlt;generalize wr=w3 at S1 ⊢;have hHI2:=HI2.out;have HFIN:=ze (show xr (ltOf cf) (G+1) a m b d=kC (m-i) m d by rw[xr,if_neg h1m,if_pos h1b,<-Hf.out,HX.out]);clear hHI2 HX;go_wp2_with fail
     go_loopg [17] (m-i) (fun kx s1 wr=>∃ (q:Nat) (dk:Array α),s1= .int .i64 q/\Hid (q<=m/\kx+i=q)/\dk.size=d.size/\Aside (SWK enc k w0 blk off dk wr)/\Hid (kC kx q dk=kC (m-i) m d))
     case atStart=>exact⟨m,d,rfl,ze (by have:=HI2.out;omega),rfl,S1,rfl⟩
     case round=>
      clear S1;obtain⟨q,dk,rfl,HQ,hds,S1,HE⟩:=hrel;have hHQ:=HQ.out
      cases gk with
      |zero=>
       have hltz:¬(i:Int)<(q:Int):=by omega
       clear hHQ;go_wp2_with fail;refine zrt rfl rfl ?_;exact⟨rfl,by rw[HFIN.out,<-HE.out];exact S1.out⟩
      |succ gk=>
       have hltz:(i:Int)<(q:Int):=by omega
       obtain⟨p,hp⟩:=yh (q-1);have hpo:=hp.out;have ip:IntKind.i64.wrap ((q:Int)-1)=(p:Int):=(IntWalk.i64_in _ (by omega)).trans (by omega)
       have hqd:q<d.size:=by omega
       have hpd:p<d.size:=by omega
       have HQ2:=ze (show p<=m/\gk+i=p by omega);have HE2:=ze (show kC gk p (swp dk q p)=kC (m-i) m d by rw[<-HE.out,kC,hp.out]);clear hpo hHQ HQ HE;have eua:((q:Nat):Int).toNat=q:=Int.toNat_natCast _;have pua:(0:Int)<=(q:Int):=Int.natCast_nonneg _
       have bua:(q:Int)<(d.size:Int):=by omega
       have rua:IntKind.i64.wrap ((q:Nat):Int)=(q:Int):=IntWalk.i64_in _ (by omega);have euc:((p:Nat):Int).toNat=p:=Int.toNat_natCast _;have puc:(0:Int)<=(p:Int):=Int.natCast_nonneg _
       have buc:(p:Int)<(d.size:Int):=by omega
       have ruc:IntKind.i64.wrap ((p:Nat):Int)=(p:Int):=IntWalk.i64_in _ (by omega);have S2:Aside (SWK enc k w0 blk off (swp dk q p) ((wr.drew.setCells blk (off+q*k) (enc dk[p]!)).setCells blk (off+p*k) (enc dk[q]!))):=S1.out.swapped R q p (by omega) (by omega);have lua:=S1.out.ld1 R (by omega) P q (by omega);have lub:=S1.out.ld1 R (by omega) P p (by omega);have sua:=S1.out.st1 R (by omega) P q (by omega) dk[p]!;have sub:=S1.out.st2 R (by omega) P q p (by omega) (by omega) dk[p]! dk[q]!;have nua:(enc dk[q]!).length=k:=R.hk _;have nub:(enc dk[p]!).length=k:=R.hk _;generalize enc dk[q]! =cIu at S2 lua sub nua;generalize enc dk[p]! =cJu at S2 lub sua sub nub;clear S1;go_wp2_with fail
       go_big_region_o
       clear lua lub sua sub;generalize(wr.drew.setCells blk (off+q*k) cJu).setCells blk (off+p*k) cIu=w2 at S2 ⊢;go_wp2_with fail
       go_roundg gk
       case measure=>omega
       case rel=>exact⟨p,swp dk q p,rfl,HQ2,by rw[size_swp];exact hds,S2,HE2⟩
  ·obtain⟨mb,hmb⟩:=yh (b-m)
   have hmbo:=hmb.out;have wb:IntKind.i64.wrap ((b:Int)-(m:Int))=(mb:Int):=(IntWalk.i64_in _ (by omega)).trans (by omega)
   have wb1:((mb:Int)==1)=false:=by simp;omega
   have wb2:¬(mb:Int)=1:=by omega
   clear hmbo;obtain⟨mid,hmid⟩:=yh ((a+b) / 2);have hmido:=hmid.out
   have imid:(((a:Nat):Int) +(b:Int)) / 2=(mid:Int):=by omega
   have wmid:IntKind.i64.wrap (((a:Nat):Int) +(b:Int))=(a:Int) +(b:Int):=IntWalk.i64_in _ (by omega);have zmid:IntKind.i64.wrap (mid:Int)=(mid:Int):=IntWalk.i64_in _ (by omega)
   have bmid:mid<4611686018427387904:=by omega
   have cmid:a<4611686018427387904:=by omega
   have dmid:b<4611686018427387904:=by omega
   obtain⟨n,hn⟩:=yh (mid+m);obtain⟨pp,hpp⟩:=yh (mid+m-1);have hno:=hn.out;have hppo:=hpp.out;have wn:IntKind.i64.wrap ((mid:Int) +(m:Int))=(n:Int):=(IntWalk.i64_in _ (by omega)).trans (by omega);have wpp:IntKind.i64.wrap ((n:Int)-1)=(pp:Int):=(IntWalk.i64_in _ (by omega)).trans (by omega);have HN0:=ze (show n=mid+m by omega)
   have HRO:=ze fun(dd:Array α) (ww:World) (hs1:dd.size=d.size) (S:SWK enc k w0 blk off dd ww)=>(fun(s e:Nat) (q1:s<m) (q2:m<e) (q3:e<=dd.size)=>St.rotate L k aE zE enc g cb blk off cap s m e d0 dd w0 ww R (by omega) S q1 q2 q3 (by omega))
   have HIH:=ze fun(x y z:Nat) (dd:Array α) (ww:World) (hs1:dd.size=d.size) (S:SWK enc k w0 blk off dd ww) (q0:z-x<=G) (q1:x<y) (q2:y<z) (q3:z<=d.size)=>ih x y z dd ww (by omega) S q0 q1 q2 (by omega)
   clear hmido hno hppo ih
   go_enter FG,zbC ρ
   go_upto_if 140 with fail
   go_cut [20,21]from 138 to 219 (fun s1 s2 wx=>∃lo hi:Nat,s1= .int .i64 lo/\s2= .int .i64 hi/\Hid (lo=zcE a m b/\hi=zaq a m b)/\Aside (SWK enc k w0 blk off d wx))
   case first=>
    by_cases hm:mid<m
    ·have hmz:(mid:Int)<(m:Int):=by omega
     obtain⟨lo,hlo⟩:=yh (zcE a m b)
     have hloo:lo=mid+m-b:=by rw[hlo.out,zcE,if_pos (by have:=hmid.out;omega),hmid.out]
     have wlo:IntKind.i64.wrap ((n:Int)-(b:Int))=(lo:Int):=(IntWalk.i64_in _ (by have:=HN0.out;have:=hmid.out;omega)).trans (by have:=HN0.out;have:=hmid.out;omega);clear hloo;go_wp2_with fail
     go_meet
     exact⟨lo,mid,rfl,rfl,ze ⟨hlo.out,by rw[zaq,if_pos (by have:=hmid.out;omega)];exact hmid.out⟩,S0⟩
    ·have hmz:¬(mid:Int)<(m:Int):=by omega
     go_wp2_with fail
     go_meet
     exact⟨a,m,rfl,rfl,ze ⟨by rw[zcE,if_neg (by have:=hmid.out;omega)],by rw[zaq,if_neg (by have:=hmid.out;omega)]⟩,S0⟩
   case rest=>
    clear S0;obtain⟨lo,hi,rfl,rfl,HLH,S0⟩:=hcut
    have HM2:=ze (show lo<=hi/\hi<=mid/\hi<=m/\n<=lo+b/\a<=lo by
     have:=ziH h1 h2;have:=HLH.out;have:=HN0.out;have:=hmid.out
     omega)
    obtain⟨f,Hf⟩:∃f:Nat->Bool,Hid (f=fun c=>!ltOf cf d[(a+b) / 2+m-1-c]! d[c]!):=⟨_,rfl⟩;go_wp2_with fail
    go_loopg [20,21] (hi-lo) (fun kx s1 s2 wr=>∃ (i j:Nat),s1= .int .i64 i/\s2= .int .i64 j/\Hid (lo<=i/\i<=j/\j<=hi/\j-i<=kx)/\Aside (SWK enc k w0 blk off d wr)/\Hid (xe f kx i j=xe f (hi-lo) lo hi))
    case atStart=>exact⟨lo,hi,rfl,rfl,ze ⟨Nat.le_refl _,HM2.out.1,Nat.le_refl _,Nat.le_refl _⟩,S0,rfl⟩
    case round=>
     clear S0;obtain⟨i,j,rfl,rfl,HI,S1,HE⟩:=hrel;have hHI:=HI.out
     by_cases hlt:i<j
     ·have hltz:(i:Int)<(j:Int):=by omega
      cases gk with
      |zero=>exact absurd hHI (by omega)
      |succ gk=>
       have hM2:=HM2.out;obtain⟨h,hh⟩:=yh ((i+j) / 2);have hho:=hh.out
       have ih:(((i:Nat):Int) +(j:Int)) / 2=(h:Int):=by omega
       have wh:IntKind.i64.wrap (((i:Nat):Int) +(j:Int))=(i:Int) +(j:Int):=IntWalk.i64_in _ (by omega);have zh:IntKind.i64.wrap (h:Int)=(h:Int):=IntWalk.i64_in _ (by omega)
       have bh:h<4611686018427387904:=by omega
       have ch:i<4611686018427387904:=by omega
       have dh:j<4611686018427387904:=by omega
       have ih1:IntKind.i64.wrap ((h:Int)+1)=(h:Int)+1:=IntWalk.i64_in _ (by omega);have hN0:=HN0.out;have hmo:=hmid.out;have hpo:=hpp.out;obtain⟨q,hq⟩:=yh (mid+m-1-h);have hqo:=hq.out;have wq:IntKind.i64.wrap ((pp:Int)-(h:Int))=(q:Int):=(IntWalk.i64_in _ (by omega)).trans (by omega)
       have hqd:q<d.size:=by omega
       have hhd:h<d.size:=by omega
       have HN:=ze (show(a+b) / 2+m-1-h=q by omega);clear hM2 hN0 hmo hpo hqo
       cases hv:ltOf cf d[q]! d[h]! with
       |false=>
        have hf1:f ((i+j) / 2)=true:=by rw[<-hh.out,Hf.out];show(!_)= _;rw[HN.out,hv];rfl
        have HE2:=ze (show xe f gk (h+1) j=xe f (hi-lo) lo hi by rw[<-HE.out,zjv _ _ _ _ hlt hf1,hh.out]);have HI2:=ze (show lo<=h+1/\h+1<=j/\j<=hi/\j-(h+1)<=gk by omega);clear HE HI hHI hf1 hho;have e3a:((q:Nat):Int).toNat=q:=Int.toNat_natCast _;have p3a:(0:Int)<=(q:Int):=Int.natCast_nonneg _
        have b3a:(q:Int)<(d.size:Int):=by omega
        have r3a:IntKind.i64.wrap ((q:Nat):Int)=(q:Int):=IntWalk.i64_in _ (by omega);have e3c:((h:Nat):Int).toNat=h:=Int.toNat_natCast _;have p3c:(0:Int)<=(h:Int):=Int.natCast_nonneg _
        have b3c:(h:Int)<(d.size:Int):=by omega
        have r3c:IntKind.i64.wrap ((h:Nat):Int)=(h:Int):=IntWalk.i64_in _ (by omega);obtain⟨x3,hx3⟩:∃x,x=d[q]!:=⟨_,rfl⟩;obtain⟨y3,hy3⟩:∃x,x=d[h]!:=⟨_,rfl⟩;have l3a:=S1.out.ld R (by omega) P q (by omega);have l3b:=S1.out.ld R (by omega) P h (by omega);rw[<-hx3]at l3a;rw[<-hy3]at l3b;have hc3:=S1.out.cmp HC.out (by omega) x3 y3
        have hv3:¬cf x3 y3<0:=by rw[hx3,hy3];exact of_decide_eq_false hv
        have hd3:decide (cf x3 y3<0)=false:=decide_eq_false hv3;clear hx3 hy3;go_wp2_with fail
        go_quiet_grown (first |(go_at_fn g;refine Calls.grown_of (hc3 _ _)))
        have S2:Aside (SWK enc k w0 blk off d (grow (wr.drewN nq) osq)):=S1.out.grown nq osq;clear l3a l3b hc3 S1;generalize grow (wr.drewN nq) osq=w2 at S2 ⊢;clear nq osq;go_wp2_with fail
        go_roundg gk
        case measure=>omega
        case rel=>exact⟨h+1,j,by go_num,rfl,HI2,S2,HE2⟩
       |true=>
        have hf1:f ((i+j) / 2)=false:=by rw[<-hh.out,Hf.out];show(!_)= _;rw[HN.out,hv];rfl
        have HE2:=ze (show xe f gk i h=xe f (hi-lo) lo hi by rw[<-HE.out,zjV _ _ _ _ hlt hf1,hh.out]);have HI2:=ze (show lo<=i/\i<=h/\h<=hi/\h-i<=gk by omega);clear HE HI hHI hf1 hho;have e3a:((q:Nat):Int).toNat=q:=Int.toNat_natCast _;have p3a:(0:Int)<=(q:Int):=Int.natCast_nonneg _
        have b3a:(q:Int)<(d.size:Int):=by omega
        have r3a:IntKind.i64.wrap ((q:Nat):Int)=(q:Int):=IntWalk.i64_in _ (by omega);have e3c:((h:Nat):Int).toNat=h:=Int.toNat_natCast _;have p3c:(0:Int)<=(h:Int):=Int.natCast_nonneg _
        have b3c:(h:Int)<(d.size:Int):=by omega
        have r3c:IntKind.i64.wrap ((h:Nat):Int)=(h:Int):=IntWalk.i64_in _ (by omega);obtain⟨x3,hx3⟩:∃x,x=d[q]!:=⟨_,rfl⟩;obtain⟨y3,hy3⟩:∃x,x=d[h]!:=⟨_,rfl⟩;have l3a:=S1.out.ld R (by omega) P q (by omega);have l3b:=S1.out.ld R (by omega) P h (by omega);rw[<-hx3]at l3a;rw[<-hy3]at l3b;have hc3:=S1.out.cmp HC.out (by omega) x3 y3
        have hv3:cf x3 y3<0:=by rw[hx3,hy3];exact of_decide_eq_true hv
        have hd3:decide (cf x3 y3<0)=true:=decide_eq_true hv3;clear hx3 hy3;go_wp2_with fail
        go_quiet_grown (first |(go_at_fn g;refine Calls.grown_of (hc3 _ _)))
        have S2:Aside (SWK enc k w0 blk off d (grow (wr.drewN nq) osq)):=S1.out.grown nq osq;clear l3a l3b hc3 S1;generalize grow (wr.drewN nq) osq=w2 at S2 ⊢;clear nq osq;go_wp2_with fail
        go_roundg gk
        case measure=>omega
        case rel=>exact⟨i,h,rfl,rfl,HI2,S2,HE2⟩
     ·have hltz:¬(i:Int)<(j:Int):=by omega
      have HX:=ze (show xe f (hi-lo) lo hi=i by rw[<-HE.out,zhs _ _ _ _ hlt]);have HI2:=ze (show lo<=i/\i<=hi by omega);clear HE HI hHI hlt;generalize wr=w3 at S1 ⊢;obtain⟨s,hs⟩:∃s,s=i:=⟨_,rfl⟩;rw[<-hs]at HX HI2 hltz ⊢;clear hs;obtain⟨e,he⟩:=yh (mid+m-s);have heo:=he.out;have hHI2:=HI2.out;have hHL:=HLH.out;have hM2:=HM2.out;have we:IntKind.i64.wrap ((n:Int)-(s:Int))=(e:Int):=(IntWalk.i64_in _ (by have:=HN0.out;omega)).trans (by have:=HN0.out;omega)
      have HM3:=ze (show ¬m-a=1/\¬b-m=1/\a<=s/\s<=m/\e<=b/\mid-a<=G/\b-mid<=G/\mid<b/\a<mid by
       rw[HLH.out.1,HLH.out.2]at hHI2;have:=ziH h1 h2;have:=hmid.out
       omega)
      have HMG:=ze (show zea (ltOf cf) d a m b=s by rw[zea,<-Hf.out,<-hHL.1,<-hHL.2];exact HX.out);clear heo hHI2 hHL hM2 HX;generalize w3=wc at S1 ⊢
      go_upto_region 39 with fail
      go_cut [185]from 178 to 219 (fun c wx=>Hid (c= .bool (decide (s<m/\m<e)))/\Aside (SWK enc k w0 blk off d wx))
      case first=>
       by_cases hA:s<m
       ·have hAz:(s:Int)<(m:Int):=by omega
        by_cases hB:m<e
        ·have hBz:(m:Int)<(e:Int):=by omega
         go_wp2_with fail
         go_meet
         exact⟨ze (congrArg Value.bool (decide_eq_true ⟨hA,hB⟩).symm),S1⟩
        ·have hBz:¬(m:Int)<(e:Int):=by omega
         go_wp2_with fail
         go_meet
         exact⟨ze (congrArg Value.bool (decide_eq_false fun h=>hB h.2).symm),S1⟩
       ·have hAz:¬(s:Int)<(m:Int):=by omega
        go_wp2_with fail
        go_meet
        exact⟨ze (congrArg Value.bool (decide_eq_false fun h=>hA h.1).symm),S1⟩
      case rest=>
       clear S1;obtain⟨HC0,S1⟩:=hcut;obtain⟨cb,HCB⟩:∃cb:Bool,Hid (cb=decide (s<m/\m<e)):=⟨_,rfl⟩;rw[<-HCB.out]at HC0;obtain rfl:=HC0.out;clear HC0
       go_upto_if 185 with fail
       go_cut []from 178 to 219 (fun wx=>∃d1:Array α,Hid (d1=if s<m/\m<e then xY d s m e else d)/\d1.size=d.size/\Aside (SWK enc k w0 blk off d1 wx))
       case first=>
        cases cb with
        |true=>
         have hAB:s<m/\m<e:=of_decide_eq_true HCB.out.symm;have hc:=HRO.out d wc rfl S1.out s e hAB.1 hAB.2 (by have:=HM3.out;omega)
         go_wp2_with (go_at_fn (ρ.f 80);refine hc.mono ?_;rintro e w5 ⟨rfl,hS5⟩)
         go_meet
         exact⟨_,ze (by rw[if_pos hAB]),(by rw[zaD]),hS5⟩
        |false=>
         have hAB:¬(s<m/\m<e):=of_decide_eq_false HCB.out.symm;go_wp2_with fail
         go_meet
         exact⟨d,ze (by rw[if_neg hAB]),rfl,S1⟩
       case rest=>
        clear S1 HCB;obtain⟨d1,Hd1,hszd1,S1⟩:=hcut;have HSZd1:=ze hszd1;clear hszd1
        go_upto_region 41 with fail
        go_cut [199]from 192 to 219 (fun c wx=>Hid (c= .bool (decide (a<s/\s<mid)))/\Aside (SWK enc k w0 blk off d1 wx))
        case first=>
         by_cases hA:a<s
         ·have hAz:(a:Int)<(s:Int):=by omega
          by_cases hB:s<mid
          ·have hBz:(s:Int)<(mid:Int):=by omega
           go_wp2_with fail
           go_meet
           exact⟨ze (congrArg Value.bool (decide_eq_true ⟨hA,hB⟩).symm),S1⟩
          ·have hBz:¬(s:Int)<(mid:Int):=by omega
           go_wp2_with fail
           go_meet
           exact⟨ze (congrArg Value.bool (decide_eq_false fun h=>hB h.2).symm),S1⟩
         ·have hAz:¬(a:Int)<(s:Int):=by omega
          go_wp2_with fail
          go_meet
          exact⟨ze (congrArg Value.bool (decide_eq_false fun h=>hA h.1).symm),S1⟩
        case rest=>
         clear S1;obtain⟨HC0,S1⟩:=hcut;obtain⟨cb,HCB⟩:∃cb:Bool,Hid (cb=decide (a<s/\s<mid)):=⟨_,rfl⟩;rw[<-HCB.out]at HC0;obtain rfl:=HC0.out;clear HC0
         go_upto_if 199 with fail
         go_cut []from 192 to 219 (fun wx=>∃d2:Array α,Hid (d2=if a<s/\s<mid then xr (ltOf cf) G a s mid d1 else d1)/\d2.size=d.size/\Aside (SWK enc k w0 blk off d2 wx))
         case first=>
          cases cb with
          |true=>
           have hAB:a<s/\s<mid:=of_decide_eq_true HCB.out.symm;have hc:=HIH.out a s mid d1 wc HSZd1.out S1.out (by have:=HM3.out;omega) hAB.1 hAB.2 (by have:=HM3.out;omega);rw[HSZd1.out]at hc
           go_wp2_with (go_at_fn (ρ.f 72);refine hc.mono ?_;rintro e w5 ⟨rfl,hS5⟩)
           go_meet
           exact⟨_,ze (by rw[if_pos hAB]),(by rw[jR];exact HSZd1.out),hS5⟩
          |false=>
           have hAB:¬(a<s/\s<mid):=of_decide_eq_false HCB.out.symm;go_wp2_with fail
           go_meet
           exact⟨d1,ze (by rw[if_neg hAB]),HSZd1.out,S1⟩
         case rest=>
          clear S1 HCB;obtain⟨d2,Hd2,hszd2,S1⟩:=hcut;have HSZd2:=ze hszd2;clear hszd2
          go_upto_region 43 with fail
          go_cut [213]from 206 to 219 (fun c wx=>Hid (c= .bool (decide (mid<e/\e<b)))/\Aside (SWK enc k w0 blk off d2 wx))
          case first=>
           by_cases hA:mid<e
           ·have hAz:(mid:Int)<(e:Int):=by omega
            by_cases hB:e<b
            ·have hBz:(e:Int)<(b:Int):=by omega
             go_wp2_with fail
             go_meet
             exact⟨ze (congrArg Value.bool (decide_eq_true ⟨hA,hB⟩).symm),S1⟩
            ·have hBz:¬(e:Int)<(b:Int):=by omega
             go_wp2_with fail
             go_meet
             exact⟨ze (congrArg Value.bool (decide_eq_false fun h=>hB h.2).symm),S1⟩
           ·have hAz:¬(mid:Int)<(e:Int):=by omega
            go_wp2_with fail
            go_meet
            exact⟨ze (congrArg Value.bool (decide_eq_false fun h=>hA h.1).symm),S1⟩
          case rest=>
           clear S1;obtain⟨HC0,S1⟩:=hcut;obtain⟨cb,HCB⟩:∃cb:Bool,Hid (cb=decide (mid<e/\e<b)):=⟨_,rfl⟩;rw[<-HCB.out]at HC0;obtain rfl:=HC0.out;clear HC0
           go_upto_if 213 with fail
           cases cb with
           |true=>
            have hAB:mid<e/\e<b:=of_decide_eq_true HCB.out.symm;have hc:=HIH.out mid e b d2 wc HSZd2.out S1.out (by have:=HM3.out;omega) hAB.1 hAB.2 (by have:=HM3.out;omega);rw[HSZd2.out]at hc
            go_wp2_with (go_at_fn (ρ.f 72);refine hc.mono ?_;rintro e w5 ⟨rfl,hS5⟩)
            go_end0
            exact⟨rfl,by rw[ziT _ G d HM3.out.1 HM3.out.2.1 HMG.out hmid.out he.out Hd1.out Hd2.out,if_pos hAB];exact hS5⟩
           |false=>
            have hAB:¬(mid<e/\e<b):=of_decide_eq_false HCB.out.symm;go_wp2_with fail
            go_end0
            exact⟨rfl,by rw[ziT _ G d HM3.out.1 HM3.out.2.1 HMG.out hmid.out he.out Hd1.out Hd2.out,if_neg hAB];exact S1.out⟩
end Go.Proofs.YtbnafihigoekeaaGreatDoor

/-
  TmTl, part 30.
-/
import Derived.Test.YtbnafihigoekeaaGreatDoorZt29
import Derived.Sort.OwnSorted
namespace Go.Proofs.YtbnafihigoekeaaGreatDoor
open Go.Shelf Go.RowKit Go.Lib Go.Sort
variable{P:Program}{ρ ρ2:Ren}{α:Type} [Inhabited α]
theorem St.insertion(L2:SlLaysF0.n20 P ρ2)(k:Nat)(aE:∀w,(isAgg (ρ2.t 24)).run P w= .ok true w)(zE:∀w,(Go.sizeOf (ρ2.t 24)).run P w= .ok k w)(enc:α->List Value)(cf:α->α->Int)(g:Nat)(cb:Array Value)(blk off cap a b:Nat)(d0 d:Array α)(w0 w:World)
  (eg:∀args w,(callFunc g args).run P w= .ok (.enter g args) w) (hcmp:CmpLays P g cb enc k cf blk off d0.size w0) (R:RowK enc k w0 blk off d0) (hs:d0.size=d.size) (S:SWK enc k w0 blk off d w) (hab:a<=b) (hb:b<=d.size) (hsz:d.size<4611686018427387904):
  Calls P (ρ2.f 20) #[.slice (some ⟨blk,off,none⟩) d.size cap,.int .i64 a,.int .i64 b,.func (.func g) #[] cb] w fun e w'=>e= .returned (.tuple #[])/\SWK enc k w0 blk off (Sort.insertionSort (ltOf cf) d a b) w':=by
 have hC:CmpLays P g cb enc k cf blk off d.size w:=fun m os dk hdk x y=>by
  obtain⟨n0,os0,rfl⟩:=S;rw[sortWorldK_on enc k w0 blk off n0 m d dk os0 os R.hblk hdk];exact hcmp _ _ dk (by omega) x y
 refine(AnyQ.insertionSortCmpFunc L2 k aE zE enc R.hk R.h1 cf g cb blk off cap a b d w eg hC (S.holds R.hblk R.hH hs.symm) (S.lt R.hblk) hab hb hsz).mono ?_;rintro e w' ⟨rfl,n,os,rfl⟩;exact⟨rfl,S.on R.hblk n _ os (js _ _ _ _)⟩
set_option maxHeartbeats 2000000 in
theorem St.insertion_none(L:SlLaysF0.n20 P ρ2)(p:Option Addr)(cap:Nat)(fv:Value)(w:World):
  Calls P (ρ2.f 20) #[.slice p 0 cap,.int .i64 0,.int .i64 0,fv] w fun e w'=>e= .returned (.tuple #[])/\w'=w:=by
 have mixed:=L.mixed;have t0:=L.t0;have a0:=L.a0;have z0:=L.z0;have v0:=L.v0;have t3:=L.t3;have a3:=L.a3;have z3:=L.z3;have v3:=L.v3;have t4:=L.t4;have a4:=L.a4;have z4:=L.z4;have v4:=L.v4;have t22:=L.t22;have a22:=L.a22;have z22:=L.z22;have v22:=L.v22;have t25:=L.t25;have a25:=L.a25;have z25:=L.z25;have v25:=L.v25;obtain⟨_,_,FG⟩:=L.f20
 go_enter FG,SlBodyF.n20_ntmps ρ2
 go_wp2
 refine wp_loop_rounds 1 ?_;rw[rounds_succ]
 go_wp2
 go_end0
 exact⟨rfl,rfl⟩
set_option maxHeartbeats 8000000 in
set_option maxRecDepth 1000000 in
theorem St.stable(L:StL P ρ)(k:Nat)(aE:∀w,(isAgg (ρ.t 35)).run P w= .ok true w)(zE:∀w,(Go.sizeOf (ρ.t 35)).run P w= .ok k w)(enc:α->List Value)(L2:SlLaysF0.n20 P ρ2)(h71:ρ2.f 20=ρ.f 71)(h35:ρ2.t 24=ρ.t 35)(cf:α->α->Int)(g:Nat)(cb:Array Value)(blk off cap:Nat)(d0 d:Array α)(w0 w:World)
  (eg:∀args w,(callFunc g args).run P w= .ok (.enter g args) w) (hcmp:CmpLays P g cb enc k cf blk off d0.size w0) (R:RowK enc k w0 blk off d0) (hs:d0.size=d.size) (S:SWK enc k w0 blk off d w) (hsz:d.size<=100000000):
  Calls P (ρ.f 59) #[.slice (some ⟨blk,off,none⟩) d.size cap,.int .i64 d.size,.func (.func g) #[] cb] w fun e w'=>e= .returned (.tuple #[])/\SWK enc k w0 blk off (zP (ltOf cf) d) w':=by
 have mixed:=L.mixed;have t0:=L.t0;have a0:=L.a0;have z0:=L.z0;have v0:=L.v0;have t3:=L.t3;have a3:=L.a3;have z3:=L.z3;have v3:=L.v3;have t4:=L.t4;have a4:=L.a4;have z4:=L.z4;have v4:=L.v4;have t28:=L.t28;have a28:=L.a28;have z28:=L.z28;have v28:=L.v28;have t37:=L.t37;have a37:=L.a37;have z37:=L.z37;have v37:=L.v37;have t79:=L.t79;have a79:=L.a79;have z79:=L.z79;have v79:=L.v79;obtain⟨_,_,FG⟩:=L.f59
 have e71:∀args w,(callFunc (ρ.f 71) args).run P w= .ok (.enter (ρ.f 71) args) w:=by rw[<-h71];exact L2.f20.enters rfl
 have e72:∀args w,(callFunc (ρ.f 72) args).run P w= .ok (.enter (ρ.f 72) args) w:=L.f72.enters rfl
 have HIN:=ze fun(a b:Nat) (dd:Array α) (ww:World) (q1:dd.size=d.size) (S:SWK enc k w0 blk off dd ww) (q2:a<=b) (q3:b<=dd.size)=>
  St.insertion L2 k (by rw[h35];exact aE) (by rw[h35];exact zE) enc cf g cb blk off cap a b d0 dd w0 ww eg hcmp R (by omega) S q2 q3 (by omega)
 rw[h71]at HIN
 have HSM:=ze fun(G a m b:Nat) (dd:Array α) (ww:World) (q1:dd.size=d.size) (S:SWK enc k w0 blk off dd ww)=>St.symMerge L k aE zE enc cf g cb blk off cap d0 w0 eg hcmp R (by omega) G a m b dd ww (by omega) S
 have S0:Aside (SWK enc k w0 blk off d w):=S;have HST:=ze (show zP (ltOf cf) d=jr (ltOf cf) (d.size+1) 20 (qN (ltOf cf) (d.size+1) 0 d)from rfl);obtain⟨D1,hD1⟩:∃D1,qN (ltOf cf) (d.size+1) 0 d=D1:=⟨_,rfl⟩;have HDS:=ze (show D1.size=d.size by rw[<-hD1,zdY]);rw[hD1]at HST;have HD1:=ze hD1;clear S hcmp h71 h35 hD1 hs;rw[HST.out];obtain⟨n,hn⟩:=yh d.size;rw[<-hn.out]at HIN HSM HDS hsz HD1 ⊢;have HNN:=ze (show n<=100000000 from hsz);clear HST hsz
 go_enter FG,zdM ρ
 go_wp2_with fail
 go_loopg [7,8] (n+1) (fun kx s1 s2 wr=>∃ (a b:Nat) (dk:Array α),s1= .int .i64 a/\s2= .int .i64 b/\Hid (b=a+20/\a<=n/\n+1-a<=kx/\dk.size=n)/\Aside (SWK enc k w0 blk off dk wr)/\Hid (qN (ltOf cf) kx a dk=D1))
 case atStart=>exact⟨0,20,d,rfl,rfl,ze ⟨rfl,Nat.zero_le _,Nat.le_refl _,hn.out.symm⟩,S0,HD1⟩
 case round=>
  clear S0 HD1;obtain⟨a,b,dk,rfl,rfl,HA,S1,HE⟩:=hrel;have hA:=HA.out;have hN:=HNN.out
  cases gk with
  |zero=>exact absurd hA (by omega)
  |succ gk=>
   by_cases hlt:b<=n
   ·have hltz:(b:Int)<=(n:Int):=by omega
    have hc:=HIN.out a b dk wr hA.2.2.2 S1.out (by omega) (by omega);rw[hA.2.2.2]at hc;obtain⟨b2,hb2⟩:=yh (b+20);have hb2o:=hb2.out;have wb:IntKind.i64.wrap ((b:Int)+20)=(b2:Int):=(IntWalk.i64_in _ (by omega)).trans (by omega);have HE2:=ze (show qN (ltOf cf) gk b (Sort.insertionSort (ltOf cf) dk a b)=D1 by rw[<-HE.out,qN,if_pos (by omega),hA.1]);have HA2:=ze (show b2=b+20/\b<=n/\n+1-b<=gk/\(Sort.insertionSort (ltOf cf) dk a b).size=n from⟨hb2o,hlt,by omega,by rw[js];exact hA.2.2.2⟩)
    have hgk:gk<gk+1:=by omega
    clear hA hN HA HE hb2o S1
    go_wp2_with (go_at_fn (ρ.f 71);refine hc.mono ?_;rintro e w2 ⟨rfl,hS2⟩)
    go_roundg gk
    case measure=>exact hgk
    case rel=>exact⟨b,b2,_,rfl,rfl,HA2,hS2,HE2⟩
   ·have hltz:¬(b:Int)<=(n:Int):=by omega
    have hc:=HIN.out a n dk wr hA.2.2.2 S1.out hA.2.1 (by omega);rw[hA.2.2.2]at hc;have HE2:=ze (show Sort.insertionSort (ltOf cf) dk a n=D1 by rw[<-HE.out,qN,if_neg (by omega),hA.2.2.2]);clear hA hN HA HE S1
    go_wp2_with (go_at_fn (ρ.f 71);refine hc.mono ?_;rintro e w2 ⟨rfl,hS2⟩)
    rw[HE2.out]at hS2;have S1:Aside _:=hS2;clear hS2 HE2 hc hltz hlt HIN;generalize w2=w3 at S1 ⊢;go_wp2_with fail
    go_loopg [6] (n+1) (fun kx s1 wr=>∃ (s:Nat) (dk:Array α),s1= .int .i64 s/\Hid (1<=s/\s<=2*n+20/\n+1-s<=kx/\dk.size=n)/\Aside (SWK enc k w0 blk off dk wr)/\Hid (jr (ltOf cf) kx s dk=jr (ltOf cf) (n+1) 20 D1))
    case atStart=>exact⟨20,D1,rfl,ze ⟨by omega,by omega,by omega,HDS.out⟩,S1,rfl⟩
    case round=>
     clear S1;obtain⟨s,dk,rfl,HA,S1,HE⟩:=hrel;have hA:=HA.out;have hN:=HNN.out
     by_cases hlt:s<n
     ·have hltz:(s:Int)<(n:Int):=by omega
      cases gk with
      |zero=>exact absurd hA (by omega)
      |succ g2=>
       obtain⟨s2,hs2⟩:=yh (2*s);have hs2o:=hs2.out;have ws:IntKind.i64.wrap (2*(s:Int))=(s2:Int):=(IntWalk.i64_in _ (by omega)).trans (by omega);have ws':IntKind.i64.wrap ((s:Int)*2)=(s2:Int):=(IntWalk.i64_in _ (by omega)).trans (by omega);obtain⟨D2,HD2⟩:∃D2,Hid (qE (ltOf cf) s (n+1) 0 dk=D2):=⟨_,rfl⟩;have HE2:=ze (show jr (ltOf cf) g2 s2 D2=jr (ltOf cf) (n+1) 20 D1 by rw[<-HE.out,jr,if_pos (by omega),hA.2.2.2,HD2.out,hs2o]);have HA2:=ze (show 1<=s2/\s2<=2*n+20/\n+1-s2<=g2 by omega);have HDZ:=ze (show dk.size=n from hA.2.2.2);have HD2S:=ze (show D2.size=n by rw[<-HD2.out,zdU];exact hA.2.2.2);have HSS:=ze (show s2=2*s/\1<=s/\s<=2*n+20 from⟨hs2o,hA.1,hA.2.1⟩)
       have hg2:g2<g2+1:=by omega
       clear hA hN HA HE hs2o;go_wp2_with fail
       go_loopg [7,8] (n+1) (fun kx s1 s3 wr=>∃ (a b:Nat) (dj:Array α),s1= .int .i64 a/\s3= .int .i64 b/\Hid (b=a+s2/\a<=n/\n+1-a<=kx/\dj.size=n)/\Aside (SWK enc k w0 blk off dj wr)/\Hid (qE (ltOf cf) s kx a dj=D2))
       case atStart=>exact⟨0,s2,dk,rfl,rfl,ze ⟨by omega,Nat.zero_le _,Nat.le_refl _,HDZ.out⟩,S1,HD2⟩
       case round=>
        clear S1 HD2 HDZ;obtain⟨a,b,dj,rfl,rfl,HA,S1,HE⟩:=hrel;have hA:=HA.out;have hN:=HNN.out;have hS:=HSS.out
        cases gk with
        |zero=>exact absurd hA (by omega)
        |succ g3=>
         obtain⟨m,hm⟩:=yh (a+s);have hmo:=hm.out;have wm:IntKind.i64.wrap ((a:Int) +(s:Int))=(m:Int):=(IntWalk.i64_in _ (by omega)).trans (by omega)
         by_cases hbn:b<=n
         ·have hbz:(b:Int)<=(n:Int):=by omega
          have hc:=HSM.out s2 a m b dj wr hA.2.2.2 S1.out (by omega) (by omega) (by omega) (by omega);rw[hA.2.2.2]at hc;obtain⟨b2,hb2⟩:=yh (b+s2);have hb2o:=hb2.out;have wb:IntKind.i64.wrap ((b:Int) +(s2:Int))=(b2:Int):=(IntWalk.i64_in _ (by omega)).trans (by omega);have HE3:=ze (show qE (ltOf cf) s g3 b (xr (ltOf cf) s2 a m b dj)=D2 by rw[<-HE.out,qE,if_pos (by omega),hm.out,hA.1,hS.1]);have HA3:=ze (show b2=b+s2/\b<=n/\n+1-b<=g3/\(xr (ltOf cf) s2 a m b dj).size=n from⟨hb2o,hbn,by omega,by rw[jR];exact hA.2.2.2⟩)
          have hg3:g3<g3+1:=by omega
          clear hA hN hS HA HE hb2o hmo S1
          go_wp2_with (go_at_fn (ρ.f 72);refine hc.mono ?_;rintro e w5 ⟨rfl,hS2⟩)
          go_roundg g3
          case measure=>exact hg3
          case rel=>exact⟨b,b2,_,rfl,rfl,HA3,hS2,HE3⟩
         ·have hbz:¬(b:Int)<=(n:Int):=by omega
          by_cases hmn:m<n
          ·have hmz:(m:Int)<(n:Int):=by omega
           have hc:=HSM.out s2 a m n dj wr hA.2.2.2 S1.out (by omega) (by omega) hmn (by omega);rw[hA.2.2.2]at hc;have HE3:=ze (show xr (ltOf cf) s2 a m n dj=D2 by rw[<-HE.out,qE,if_neg (by omega),if_pos (by omega),hm.out,hS.1,hA.2.2.2]);clear hA hN hS HA HE hmo S1
           go_wp2_with (go_at_fn (ρ.f 72);refine hc.mono ?_;rintro e w5 ⟨rfl,hS2⟩)
           rw[HE3.out]at hS2
           go_roundg g2
           case measure=>exact hg2
           case rel=>exact⟨s2,D2,rfl,ze ⟨HA2.out.1,HA2.out.2.1,HA2.out.2.2,HD2S.out⟩,hS2,HE2⟩
          ·have hmz:¬(m:Int)<(n:Int):=by omega
           have HE3:=ze (show dj=D2 by rw[<-HE.out,qE,if_neg (by omega),if_neg (by omega)]);clear hA hN hS HA HE hmo;go_wp2_with fail
           go_roundg g2
           case measure=>exact hg2
           case rel=>exact⟨s2,D2,rfl,ze ⟨HA2.out.1,HA2.out.2.1,HA2.out.2.2,HD2S.out⟩,(show Aside _ from by rw[<-HE3.out];exact S1.out),HE2⟩
     ·have hltz:¬(s:Int)<(n:Int):=by omega
      have HE2:=ze (show jr (ltOf cf) (n+1) 20 D1=dk by
       rw[<-HE.out]
       cases gk <;> first |rfl |(rw[jr,if_neg (by omega)]))
      clear hA hN HA HE;go_wp2_with fail
      go_end0
      exact⟨rfl,by rw[HE2.out];exact S1.out⟩
open Go.Shelf Go.RowKit Go.Lib Go.Sort
variable{P:Program}{ρ ρ2:Ren}{α:Type} [Inhabited α]
set_option maxHeartbeats 2000000 in
theorem St.stable_none(L:StL P ρ)(L2:SlLaysF0.n20 P ρ2)(h71:ρ2.f 20=ρ.f 71)(p:Option Addr)(cap:Nat)(fv:Value)(w:World):
  Calls P (ρ.f 59) #[.slice p 0 cap,.int .i64 0,fv] w fun e w'=>e= .returned (.tuple #[])/\w'=w:=by
 have mixed:=L.mixed;have t0:=L.t0;have a0:=L.a0;have z0:=L.z0;have v0:=L.v0;have t3:=L.t3;have a3:=L.a3;have z3:=L.z3;have v3:=L.v3;have t4:=L.t4;have a4:=L.a4;have z4:=L.z4;have v4:=L.v4;have t28:=L.t28;have a28:=L.a28;have z28:=L.z28;have v28:=L.v28;have t79:=L.t79;have a79:=L.a79;have z79:=L.z79;have v79:=L.v79
 have e71:∀args w,(callFunc (ρ.f 71) args).run P w= .ok (.enter (ρ.f 71) args) w:=by rw[<-h71];exact L2.f20.enters rfl
 have hc:=fun W=>St.insertion_none L2 p cap fv W
 rw[h71]at hc;obtain⟨_,_,FG⟩:=L.f59
 go_enter FG,zdM ρ
 go_wp2
 refine wp_loop_rounds 1 ?_;rw[rounds_succ]
 go_wp2_with (go_at_fn (ρ.f 71);refine(hc _).mono ?_;rintro e w1 ⟨rfl,rfl⟩)
 refine wp_loop_rounds 1 ?_;rw[rounds_succ]
 go_wp2
 go_end0
 exact⟨rfl,rfl⟩
set_option maxHeartbeats 2000000 in
theorem St.top(L:StL P ρ)(fv v:Value)(n:Nat)(ao:Option Addr)(cap:Nat)(w:World)(R:Ending->World->Prop)(hv:v= .slice ao n cap)
  (hc:Calls P (ρ.f 59) #[v,.int .i64 n,fv] w fun e w'=>e= .returned (.tuple #[])/\R e w'):Calls P (ρ.f 43) #[v,fv] w fun e w'=>e= .returned (.tuple #[])/\R e w':=by
 have mixed:=L.mixed;have t0:=L.t0;have a0:=L.a0;have z0:=L.z0;have v0:=L.v0;have t3:=L.t3;have a3:=L.a3;have z3:=L.z3;have v3:=L.v3;have t4:=L.t4;have a4:=L.a4;have z4:=L.z4;have v4:=L.v4;have t28:=L.t28;have a28:=L.a28;have z28:=L.z28;have v28:=L.v28;have t79:=L.t79;have a79:=L.a79;have z79:=L.z79;have v79:=L.v79;have e59:∀args w,(callFunc (ρ.f 59) args).run P w= .ok (.enter (ρ.f 59) args) w:=L.f59.enters rfl;subst hv;obtain⟨_,_,FG⟩:=L.f43
 go_enter FG,zhZ ρ
 go_wp2_with (go_at_fn (ρ.f 59);refine hc.mono ?_;rintro e w1 ⟨rfl,hR⟩)
 go_end0
 exact⟨rfl,hR⟩
theorem kZ(E:Enc α)(xs:List α):flatK E.enc E.k xs.toArray=(zO E xs).toArray:=by
 apply Array.ext
 ·simp[yN]
 ·intro t h1 h2
  have ht:t<xs.length*E.k:=by simpa using h1
  have hk:=E.pos;have hi:t / E.k<xs.length:=Nat.div_lt_of_lt_mul (by rw[Nat.mul_comm];exact ht);have hj:t % E.k<E.k:=Nat.mod_lt _ hk;have h3:=zdq E (i:=t / E.k) (List.getElem?_eq_getElem hi) hj;rw[Nat.div_add_mod']at h3
  have h4:t % E.k <(E.enc xs[t / E.k]).length:=by rw[E.len];exact hj
  rw[List.getElem?_eq_getElem h4,List.getElem?_eq_getElem (by rw[yN];exact ht)]at h3;have h5:=get_flatK E.enc E.k xs.toArray t (by simpa using ht);rw[getElem!_pos (flatK E.enc E.k xs.toArray) t h1]at h5;rw[h5]
  have h6:xs.toArray[t / E.k]! =xs[t / E.k]:=by rw[getElem!_pos xs.toArray (t / E.k) (by simpa using hi)];simp
  rw[h6,getElem!_pos (E.enc xs[t / E.k]) (t % E.k) h4];simpa using(Option.some.inj h3).symm
omit [Inhabited α] in
theorem zaZ{w:World}{g:Nat}{cur:Array Value}{e:TypeId}{F:List Value}(hb:w.heap[g]? =some (.cells cur e (0,0)))(ht:cur.toList.take F.length=F):Holds id w g 0 F.toArray:=by
 intro j hj
 have hj':j<F.length:=by simpa using hj
 refine⟨?_,by simp[World.frozen?,hb]⟩
 have h1:(cur.toList.take F.length)[j]? =F[j]? :=by rw[ht]
 rw[List.getElem?_take_of_lt hj']at h1;simp only[World.cell?,hb,Nat.zero_add];simp only[Option.isSome_none,Bool.false_eq_true,if_false];rw[<-Array.getElem?_toList,h1];simp[hj']
theorem zcO{w:World}{g n:Nat}{os:Array Obj}{cur:Array Value}{e:TypeId}{fr:Nat × Nat}(F:Array Value)(hb:w.heap[g]? =some (.cells cur e fr)):
  (grow (putRow id (Sort.ahead w n) g 0 F) os).heap[g]? =some (.cells (putCells id 0 F cur) e fr):=by
 have hg:g<w.heap.size:=(Array.getElem?_eq_some_iff.1 hb).1;rw[heap_grow_old _ _ (by simpa using hg)];simp[putRow,mapBlock,Sort.ahead,Array.getElem?_modify,hb,onCells]
theorem zaR{w:World}{g n:Nat}{os:Array Obj}(F:Array Value):w.grownBy (grow (putRow id (Sort.ahead w n) g 0 F) os) (some g):=by
 refine⟨rfl,rfl,rfl,by simp,fun k hk hne=>?_⟩;rw[heap_grow_old _ _ (by simpa using hk)]
 have:g≠k:=fun e=>hne (by rw[e])
 simp[putRow,mapBlock,Sort.ahead,Array.getElem?_modify,this]
theorem zcJ(cur:Array Value)(F:List Value)(h:F.length<=cur.size):(putCells id 0 F.toArray cur).toList.take F.length=F:=by
 apply List.ext_getElem?
 intro j
 by_cases hj:j<F.length
 ·rw[List.getElem?_take_of_lt hj,Array.getElem?_toList]
  simp[putCells,hj,show j<cur.size by omega]
 ·rw[List.getElem?_take_eq_none (by omega),List.getElem?_eq_none (by omega)]
theorem St.own(L:StL P ρ)(L2:SlLaysF0.n20 P ρ2)(h71:ρ2.f 20=ρ.f 71)(h35:ρ2.t 24=ρ.t 35)(E:Enc α)(aE:∀w,(isAgg (ρ.t 35)).run P w= .ok true w)(zE:∀w,(Go.sizeOf (ρ.t 35)).run P w= .ok E.k w)(cf:α->α->Int)(g:Nat)(cb:Array Value)
  (eg:∀args w,(callFunc g args).run P w= .ok (.enter g args) w) (ty:TypeId) (v:Value) (xs:List α) (w:World) (base:Nat) (hb:base<=w.heap.size) (hv:w.ownsRow base ty E.k v xs.length (zO E xs)) (hl:xs.length<=100000000)
  (hcmp:∀ (x y:α) (W:World),Calls P g (#[.agg (E.enc x).toArray,.agg (E.enc y).toArray]++cb) W fun e w'=>e= .returned (.int .i64 (cf x y))/\∃q os',w'=grow (W.drewN q) os'):
  Calls P (ρ.f 43) #[v,.func (.func g) #[] cb] w fun e w'=>e= .returned (.tuple #[])/\w'.ownsRow base ty E.k v xs.length (zO E (zP (ltOf cf) xs.toArray).toList)/\Below base w w':=by
 have hv2:=hv
 rcases hv.2 with⟨rfl,h0⟩ |⟨gb,cap,cur,rfl,hbg,hg,h1,h2,h3,h4⟩
 ·obtain rfl:=List.eq_nil_of_length_eq_zero h0
  refine(St.top L _ _ 0 none 0 w (fun _ w'=>w'=w) rfl (St.stable_none L L2 h71 none 0 _ w)).mono ?_;rintro e w' ⟨rfl,rfl⟩;refine⟨rfl,?_,Below.refl _ _⟩
  have e0:(zP (ltOf cf) ([]:List α).toArray).toList=[]:=by
   apply List.eq_nil_of_length_eq_zero
   rw[Array.length_toList,xf]
   rfl
  rw[e0];exact hv2
 ·have hH:HoldsK E.enc E.k w gb 0 xs.toArray:=by
   unfold HoldsK;rw[kZ];exact zaZ hg (by rw[yN];exact h4)
  have hlt:=(Array.getElem?_eq_some_iff.1 hg).1
  have hsz:xs.toArray.size<=100000000:=by simpa using hl
  have hc:=St.stable L E.k aE zE E.enc L2 h71 h35 cf g cb gb 0 cap xs.toArray xs.toArray w w eg (fun m os dk _ x y=>hcmp x y _) ⟨E.len,E.one,hH,hlt⟩ rfl (SWK.start hH) hsz
  have hs0:xs.toArray.size=xs.length:=by simp
  rw[hs0]at hc;refine(St.top L _ _ xs.length (some ⟨gb,0,none⟩) cap w (fun _ w'=>SWK E.enc E.k w gb 0 (zP (ltOf cf) xs.toArray) w') rfl hc).mono ?_;rintro e w' ⟨rfl,n,os,rfl⟩;obtain⟨Y,hY⟩:∃Y,zP (ltOf cf) xs.toArray=Y:=⟨_,rfl⟩
  have hYs:Y.size=xs.length:=by rw[<-hY,xf];exact hs0
  have hYl:Y.toList.length=xs.length:=by rw[Array.length_toList];exact hYs
  rw[hY]
  have hF:flatK E.enc E.k Y=(zO E Y.toList).toArray:=by
   have:=kZ E Y.toList
   rwa [Array.toArray_toList]at this
  have hFl:(zO E Y.toList).length=xs.length*E.k:=by rw[yN,hYl]
  unfold sortWorldK putRowK;rw[hF]
  have hle:(zO E Y.toList).length<=cur.size:=by rw[hFl,h3];exact Nat.mul_le_mul_right _ h1
  refine⟨rfl,⟨hFl,.inr ⟨gb,cap,_,rfl,hbg,zcO _ hg,h1,h2,by simp[putCells,h3],by rw[<-hFl];exact zcJ cur _ hle⟩⟩,
   (Below.refl base w).grown (zaR _) hb (fun j hj=>by cases hj;exact hbg)⟩
open Go.Sort
section
variable{α:Type} [Inhabited α]
theorem zeH(d:Array α){i j:Nat}(hi:i<d.size)(hj:j<d.size):(swp d i j).toList.Perm d.toList:=by
 have h:=(swp_permIn d 0 d.size i j (Nat.zero_le _) hi (Nat.zero_le _) hj (Nat.le_refl _)).2.2
 have e1:(swp d i j).extract 0 d.size=swp d i j:=by
  have:=Array.extract_size (xs:=swp d i j)
  rwa [size_swp]at this
 rw[e1,Array.extract_size]at h;exact h
theorem zbs(a b:Nat):∀ (n i:Nat) (d:Array α),a+i+n<=d.size->b+i+n<=d.size->(kh a b n i d).toList.Perm d.toList
 |0,_,_,_,_ =>List.Perm.refl _
 |n+1,i,d,h1,h2=>by
  rw[kh];exact(zbs a b n (i+1) _ (by rw[size_swp];omega) (by rw[size_swp];omega)).trans (zeH d (by omega) (by omega))
theorem zeg(m:Nat):∀ (g i j:Nat) (d:Array α),i<=m->m+j<=d.size->(kV m g i j d).toList.Perm d.toList
 |0,_,_,_,_,_ =>List.Perm.refl _
 |g+1,i,j,d,h1,h2=>by
  rw[kV]
  split
  ·exact zbs _ _ _ _ _ (by omega) (by omega)
  ·split
   ·exact(zeg m g _ _ _ (by omega) (by rw[xB];omega)).trans (zbs _ _ _ _ _ (by omega) (by omega))
   ·exact(zeg m g _ _ _ (by omega) (by rw[xB];omega)).trans (zbs _ _ _ _ _ (by omega) (by omega))
theorem zjL(d:Array α){a m b:Nat}(h1:a<m)(h2:m<b)(hb:b<=d.size):(xY d a m b).toList.Perm d.toList:=zeg m _ _ _ _ (by omega) (by omega)
theorem zjl:∀ (n k:Nat) (d:Array α),k+n<d.size∨n=0->(zdC n k d).toList.Perm d.toList
 |0,_,_,_ =>List.Perm.refl _
 |n+1,k,d,h=>by
  rw[zdC];exact(zjl n (k+1) _ (by rw[size_swp];omega)).trans (zeH d (by omega) (by omega))
theorem zga:∀ (n k:Nat) (d:Array α),n<=k->k<d.size∨n=0->(kC n k d).toList.Perm d.toList
 |0,_,_,_,_ =>List.Perm.refl _
 |n+1,k,d,h,h2=>by
  rw[kC];exact(zga n (k-1) _ (by omega) (by rw[size_swp];omega)).trans (zeH d (by omega) (by omega))
theorem zcr(lt:α->α->Bool):∀ (g a m b:Nat) (d:Array α),a<m->m<b->b<=d.size->(xr lt g a m b d).toList.Perm d.toList
 |0,_,_,_,_,_,_,_ =>List.Perm.refl _
 |g+1,a,m,b,d,h1,h2,hb=>by
  rw[xr]
  split
  ·have hi:=zaJ (fun h=>lt d[h]! d[a]!) (b-m) m b (by omega)
   exact zjl _ _ _ (by omega)
  ·split
   ·have hi:=zaJ (fun h=>!lt d[m]! d[h]!) (m-a) a m (by omega)
    exact zga _ _ _ (by omega) (by omega)
   ·have hm:=ziH h1 h2
    have hs:=znr lt d h1 h2
    dsimp only
    obtain⟨s,es⟩:∃s,zea lt d a m b=s:=⟨_,rfl⟩;obtain⟨mid,em⟩:∃mid,(a+b) / 2=mid:=⟨_,rfl⟩;rw[es]at hs ⊢;rw[em]at hm ⊢
    have q1:(if s<m/\m<mid+m-s then xY d s m (mid+m-s)else d).toList.Perm d.toList:=by
     split
     ·rename_i h
      exact zjL d h.1 h.2 (by omega)
     ·exact List.Perm.refl _
    have z1:(if s<m/\m<mid+m-s then xY d s m (mid+m-s)else d).size=d.size:=by
     split
     ·exact zaD _ _ _ _
     ·rfl
    obtain⟨d1,e1⟩:∃d1,(if s<m/\m<mid+m-s then xY d s m (mid+m-s)else d)=d1:=⟨_,rfl⟩;rw[e1]at q1 z1 ⊢
    have q2:(if a<s/\s<mid then xr lt g a s mid d1 else d1).toList.Perm d.toList:=by
     split
     ·rename_i h
      exact(zcr lt g a s mid d1 h.1 h.2 (by omega)).trans q1
     ·exact q1
    have z2:(if a<s/\s<mid then xr lt g a s mid d1 else d1).size=d.size:=by
     split
     ·rw[jR,z1]
     ·exact z1
    obtain⟨d2,e2⟩:∃d2,(if a<s/\s<mid then xr lt g a s mid d1 else d1)=d2:=⟨_,rfl⟩;rw[e2]at q2 z2 ⊢
    split
    ·rename_i h
     exact(zcr lt g mid _ b d2 h.1 h.2 (by omega)).trans q2
    ·exact q2
theorem zdO(lt:α->α->Bool)(a:Nat):∀ (j:Nat) (d:Array α),j<d.size->(insInner lt a j d).toList.Perm d.toList
 |0,_,_ =>List.Perm.refl _
 |j+1,d,h=>by
  rw[insInner]
  split
  ·exact(zdO lt a j _ (by rw[size_swp];omega)).trans (zeH d (by omega) (by omega))
  ·exact List.Perm.refl _
theorem zdP(lt:α->α->Bool)(a b:Nat):∀ (n i:Nat) (d:Array α),b-i<=n->b<=d.size->(insOuter lt a b i d).toList.Perm d.toList
 |0,i,d,h,_ =>by
  rw[insOuter,if_neg (by omega)]
 |n+1,i,d,h,hb=>by
  rw[insOuter]
  split
  ·exact(zdP lt a b n _ _ (by omega) (by rw[zac];exact hb)).trans (zdO lt a i d (by omega))
  ·exact List.Perm.refl _
theorem zbg(lt:α->α->Bool)(d:Array α)(a b:Nat)(hb:b<=d.size):(insertionSort lt d a b).toList.Perm d.toList:=zdP lt a b _ _ _ (Nat.le_refl _) hb
theorem zgJ(lt:α->α->Bool):∀ (g a:Nat) (d:Array α),(qN lt g a d).toList.Perm d.toList
 |0,_,_ =>List.Perm.refl _
 |g+1,a,d=>by
  rw[qN]
  split
  ·rename_i h
   exact(zgJ lt g _ _).trans (zbg lt d _ _ h)
  ·exact zbg lt d _ _ (Nat.le_refl _)
theorem zgS(lt:α->α->Bool)(s:Nat)(hs:0<s):∀ (g a:Nat) (d:Array α),(qE lt s g a d).toList.Perm d.toList
 |0,_,_ =>List.Perm.refl _
 |g+1,a,d=>by
  rw[qE]
  split
  ·rename_i h
   exact(zgS lt s hs g _ _).trans (zcr lt _ _ _ _ d (by omega) (by omega) h)
  ·split
   ·rename_i h
    exact zcr lt _ _ _ _ d (by omega) h (Nat.le_refl _)
   ·exact List.Perm.refl _
theorem zgl(lt:α->α->Bool):∀ (g s:Nat) (d:Array α),0<s->(jr lt g s d).toList.Perm d.toList
 |0,_,_,_ =>List.Perm.refl _
 |g+1,s,d,hs=>by
  rw[jr]
  split
  ·exact(zgl lt g _ _ (by omega)).trans (zgS lt s hs _ _ d)
  ·exact List.Perm.refl _
theorem zeS(lt:α->α->Bool)(d:Array α):(zP lt d).toList.Perm d.toList:=(zgl lt _ _ _ (by omega)).trans (zgJ lt _ _ d)
end
open Go.Sort
section
variable{α:Type} [Inhabited α]
def zjM(lt:α->α->Bool)(d:Array α):Prop:=∀i j,i<j->j<d.size->lt d[j]! d[i]! =false
theorem zoH{lt:α->α->Bool}{d:Array α}(h:zjM lt d)(a:Nat):∀j,j<d.size->insInner lt a j d=d
 |0,_ =>rfl
 |j+1,hj=>by
  rw[insInner,h j (j+1) (by omega) hj];simp
theorem zis{lt:α->α->Bool}{d:Array α}(h:zjM lt d)(a b:Nat)(hb:b<=d.size):∀n i,b-i<=n->insOuter lt a b i d=d
 |0,i,hn=>by rw[insOuter,if_neg (by omega)]
 |n+1,i,hn=>by
  rw[insOuter]
  split
  ·rw[zoH h a i (by omega),zis h a b hb n (i+1) (by omega)]
  ·rfl
theorem zni{lt:α->α->Bool}{d:Array α}(h:zjM lt d)(a b:Nat)(hb:b<=d.size):insertionSort lt d a b=d:=zis h a b hb _ _ (Nat.le_refl _)
theorem znw{f:Nat->Bool}:∀ (g i j:Nat),j-i<=g->(∀h,i<=h->h<j->f h=false)->xe f g i j=i
 |0,i,j,_,_ =>rfl
 |g+1,i,j,hg,hf=>by
  rw[xe]
  split
  ·rw[if_neg (by rw[hf _ (by omega) (by omega)];simp)]
   exact znw g i _ (by omega) fun h h1 h2=>hf h h1 (by omega)
  ·rfl
theorem znc{f:Nat->Bool}:∀ (g i j:Nat),j-i<=g->i<=j->(∀h,i<=h->h<j->f h=true)->xe f g i j=j
 |0,i,j,hg,hij,_ =>by
  have:i=j:=by omega
  rw[this]
  rfl
 |g+1,i,j,hg,hij,hf=>by
  rw[xe]
  split
  ·rw[if_pos (hf _ (by omega) (by omega))]
   exact znc g _ j (by omega) (by omega) fun h h1 h2=>hf h (by omega) h2
  ·omega
theorem zgv{lt:α->α->Bool}{d:Array α}(h:zjM lt d):∀ (g a m b:Nat),a<m->m<b->b<=d.size->xr lt g a m b d=d
 |0,_,_,_,_,_,_ =>rfl
 |g+1,a,m,b,h1,h2,hb=>by
  rw[xr]
  split
  ·rw[znw (b-m) m b (Nat.le_refl _) fun x hx hx2=>h a x (by omega) (by omega)]
   rw[show m-1-a=0 by omega]
   rfl
  ·split
   ·rw[znc (m-a) a m (Nat.le_refl _) (by omega) fun x hx hx2=>by rw[h x m hx2 (by omega)];rfl]
    rw[Nat.sub_self]
    rfl
   ·have hm:=ziH h1 h2
    have hs:zea lt d a m b=zaq a m b:=znc _ _ _ (Nat.le_refl _) hm.2.1 fun c hc hc2=>by
     rw[h c ((a+b) / 2+m-1-c) (by omega) (by omega)]
     rfl
    have hh:zaq a m b<=m/\(zaq a m b<m->zaq a m b=(a+b) / 2):=by
     unfold zaq
     split <;> constructor <;> omega
    dsimp only
    rw[hs];have hm':=hm;generalize zaq a m b=s at *;obtain⟨z1,z2,z3,z4,z5,z6,z7⟩:=hm';have d1:(if s<m/\m <(a+b) / 2+m-s then xY d s m ((a+b) / 2+m-s)else d)=d:=if_neg (by omega);rw[d1]
    have d2:(if a<s/\s <(a+b) / 2 then xr lt g a s ((a+b) / 2) d else d)=d:=by
     split
     ·exact zgv h g _ _ _ (by omega) (by omega) (by omega)
     ·rfl
    rw[d2]
    split
    ·exact zgv h g _ _ _ (by omega) (by omega) hb
    ·rfl
theorem zny{lt:α->α->Bool}{d:Array α}(h:zjM lt d):∀ (g a:Nat),qN lt g a d=d
 |0,_ =>rfl
 |g+1,a=>by
  rw[qN]
  split
  ·rename_i e
   rw[zni h _ _ e,zny h g]
  ·exact zni h _ _ (Nat.le_refl _)
theorem znP{lt:α->α->Bool}{d:Array α}(h:zjM lt d)(s:Nat)(hs:0<s):∀ (g a:Nat),qE lt s g a d=d
 |0,_ =>rfl
 |g+1,a=>by
  rw[qE]
  split
  ·rename_i e
   rw[zgv h _ _ _ _ (by omega) (by omega) e,znP h s hs g]
  ·split
   ·rename_i e
    exact zgv h _ _ _ _ (by omega) e (Nat.le_refl _)
   ·rfl
theorem zkP{lt:α->α->Bool}{d:Array α}(h:zjM lt d):∀ (g s:Nat),0<s->jr lt g s d=d
 |0,_,_ =>rfl
 |g+1,s,hs=>by
  rw[jr]
  split
  ·rw[znP h s hs,zkP h g _ (by omega)]
  ·rfl
theorem zlM{lt:α->α->Bool}{d:Array α}(h:zjM lt d):zP lt d=d:=by
 rw[zP,zny h,zkP h _ _ (by omega)]
end
end Go.Proofs.YtbnafihigoekeaaGreatDoor

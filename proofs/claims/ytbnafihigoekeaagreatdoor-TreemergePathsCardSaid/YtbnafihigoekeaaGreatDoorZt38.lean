/-
  TmTl, part 38.
-/
import Derived.Test.YtbnafihigoekeaaGreatDoorZt36
import Derived.Test.YtbnafihigoekeaaGreatDoorZt37
set_option maxRecDepth 100000
set_option maxHeartbeats 4000000
namespace Go.Proofs.YtbnafihigoekeaaGreatDoor
open Go.RowKit
open BigFrame
theorem Tryz.infoIntR:(Tryz.prog.info? 3).map (fun i=>(i.zero,i.size,i.bytes))=some (some (.int .i64 0),1,8):=by kernel_rfl
theorem zoi{l m:List zg}{T:List Int}{k:Nat}{f:zg}(h:yD l)(hk:k<l.length)(he:l[k]? =some f){p:jQ}(hp:p∈ky l m T k):xv p.1 f.1=true:=by
 obtain⟨i,hi,hr⟩:=List.mem_filterMap.1 hp;have hik:=List.mem_range.1 hi;obtain⟨z,_,_,rfl⟩:=zjB hr
 have hg:l[i]? =some (l.getD i zM):=by rw[List.getD_eq_getElem?_getD,List.getElem?_eq_getElem (by omega)];rfl
 exact qM h hik hg he
section
theorem zeU(va vb:Value)(l m:List zg)(w:World)(ha:yM w va l)(hb:yM w vb m)(tl:zT l)(tm:zT m):
  Calls Tryz.prog 19 #[va,vb] w fun e w'=>∃v r,e= .returned v/\zam l m r/\zcd w' w.heap.size v r/\Below w.heap.size w w':=by
 have HL1:=ze (ziA va vb l m w ha hb (by have:=tl.len;omega) (by have:=tm.len;omega))
 have HL2:=ze fun(wx:World) (hk:Below w.heap.size w wx)=>ziA vb va m l wx (hb.old hk) (ha.old hk) (by have:=tm.len;omega) (by have:=tl.len;omega)
 obtain⟨ao,ac,rfl⟩:=ha.form;obtain⟨bo,bc,rfl⟩:=hb.form;have HA:=ze ha;have HB:=ze hb;have HTL:=ze tl;have HTM:=ze tm;have hll:=tl.len;have hml:=tm.len;have HLE:=ze (And.intro hll hml);obtain⟨i0,hi0,hi1,hi2,hi3⟩:=info_parts Tryz.infoIntR
 have mk:∀wx:World,(Instr.makeSlice 75 (.int .i64 (l.length:Int)) (.int .i64 (l.length:Int))).run Tryz.prog wx= .ok (.slice (some ⟨wx.heap.size,0,none⟩) l.length l.length) (wx.alloc (.cells (zcl (List.replicate l.length 0)) 3)):=fun wx=>by
  have h:=qQ (P:=Tryz.prog) wx 75 3 i0 (.int .i64 0) Tryz.underlying75 hi0 hi1 hi2 rfl l.length (by rw[hi3];omega) (by omega);rw[h]
  congr 3
  simp[zcl]
 clear ha hb tl tm hll hml hi0 hi1 hi2 hi3 i0
 go_enter Tryz.func19,Tryz.ntmps19
 go_wp2_with fail;refine HL1.out.mono ?_;rintro e w1 ⟨v1,rfl,ho1,hb1⟩
 obtain⟨o1,c1,rfl⟩:∃o c,v1= .slice o l.length c:=by
  obtain⟨o,c,h⟩:=zl ho1;exact⟨o,c,by rw[h,List.length_map]⟩
 have HO1:=ze ho1;have HB1:=ze hb1;clear ho1 hb1;go_wp2_with fail;refine(HL2.out w1 HB1.out).mono ?_;rintro e w2 ⟨v2,rfl,ho2,hb2⟩
 obtain⟨o2,c2,rfl⟩:∃o c,v2= .slice o m.length c:=by
  obtain⟨o,c,h⟩:=zl ho2;exact⟨o,c,by rw[h,List.length_map]⟩
 have HS:=ze (zap.start l.length HO1.out HB1.out ho2 hb2);have mk2:=mk w2;clear ho2 hb2 HO1 HL1 HL2 mk;obtain⟨gt,hgt⟩:∃g,w2.heap.size=g:=⟨_,rfl⟩;obtain⟨w3,hw3⟩:∃x,w2.alloc (.cells (zcl (List.replicate l.length 0)) 3)=x:=⟨_,rfl⟩;rw[hgt,hw3]at mk2 HS;clear hgt hw3;go_wp2_with fail
 go_loopg [8] l.length (fun g i wr=>∃ (k:Nat) (T:List Int) (B:List Bool),i= .int .i64 (k:Int)/\Hid (k<=l.length/\l.length-k<=g/\T.length=k)/\Hid (RP1 l m T B)/\Hid (zap w (.slice o1 l.length c1) (.slice o2 m.length c2) gt (zbl l.length T) (zbK l m T) B wr))
 case atStart=>exact⟨0,[],m.map (yR l),rfl,ze ⟨Nat.zero_le _,Nat.le_refl _,rfl⟩,ze (RP1.start l m),ze (by rw[zmY];exact HS.out)⟩
 case round=>
  obtain⟨k,T,B,rfl,HQ,HP,HR⟩:=hrel;have hQ:=HQ.out;have k0:(0:Int)<=(k:Int):=Int.natCast_nonneg _
  by_cases hlt:k<l.length
  ·have k1:(k:Int)<(l.length:Int):=by omega
   have kw:IntKind.i64.wrap ((k:Int)+1)=(k:Int)+1:=IntWalk.i64_in _ (by have:=HLE.out;omega);have ct:wr.cell? ⟨gt,k,none⟩=some (.int .i64 0):=zd HR.out.row (zbw (by have:=zmh (n:=l.length) (T:=T) (by omega);rwa [hQ.2.2]at this));have zt:wr.frozen? ⟨gt,k,none⟩=false:=zo HR.out.row;have HI:=ze (HR.out.setT k (-1));have hts:=znT (n:=l.length) (T:=T) (by omega) (-1);rw[hQ.2.2]at hts;rw[hts]at HI;clear hts;obtain⟨ga,hao,hga,hav⟩:=HR.out.placeA (ji l m T) (by omega);subst hao
   have HAV:=ze (show(zbK l m T)[k]? =some (yR m (xP l k)) by
    rw[zab hlt,List.getElem?_eq_none (by omega)]
    simp)
   clear hav HR;go_wp2_with fail;clear ct zt
   go_loopg [9] m.length (fun g i wy=>∃ (j:Nat) (y:Int) (B2:List Bool),i= .int .i64 (j:Int)/\Hid (j<=m.length/\m.length-j<=g)/\Hid (zap w (.slice (some ⟨ga,0,none⟩) l.length c1) (.slice o2 m.length c2) gt (zbl l.length (T++[y])) (zbK l m T) B2 wy)/\Hid ((y= -1/\B2=B/\(yR m (xP l k)=true->∀j0,j0<j->B[j0]? =some true->¬qG l m k j0))∨∃q:Nat,y=(q:Int)/\RP1 l m (T++[y]) B2))
   case atStart=>exact⟨0,-1,B,rfl,ze ⟨Nat.zero_le _,Nat.le_refl _⟩,HI,ze (.inl ⟨rfl,rfl,fun _ j0 h=>by omega⟩)⟩
   case round=>
    obtain⟨j,y,B2,rfl,HJ,HIW,HD⟩:=hrel;have hJ:=HJ.out;have j0:(0:Int)<=(j:Int):=Int.natCast_nonneg _;have ct:wr.cell? ⟨gt,k,none⟩=some (.int .i64 y):=zd HIW.out.row (zbw (by have:=zpB (n:=l.length) T y;rwa [hQ.2.2]at this));obtain⟨g2,he2,_,hat⟩:=HIW.out.placeA (ji l m T) (by omega);cases he2;obtain⟨ca,za⟩:=hat k _ HAV.out;clear hat;obtain⟨la,hla⟩:∃z,yR m (xP l k)=z:=⟨_,rfl⟩;rw[hla]at ca;have HLA:=ze hla;clear hla
    rcases HD.out with⟨hy,hB2,hno⟩ |⟨q,hy,hrp⟩
    case inr=>
     have HRP:=ze hrp;subst hy;have q0:(0:Int)<=(q:Int):=Int.natCast_nonneg _
     have q1:¬(q:Int)< 0:=by omega
     have HIA:=ze (HIW.out.setA (cap:=c1) (by rw[ji]) hga k false);have hpr:=zoz l m T q;rw[hQ.2.2]at hpr;rw[hpr]at HIA;have HF:=ze (show(k+1<=l.length/\l.length-(k+1)<=l.length-(k+1))/\(T++[(q:Int)]).length=k+1 from⟨⟨by omega,Nat.le_refl _⟩,by simp;omega⟩);clear hrp hpr
     by_cases hjl:j<m.length
     ·have j1:(j:Int)<(m.length:Int):=by omega
      cases la
      case false=>
       go_wp2_with fail
       go_roundg (l.length-(k+1))
       case measure=>omega
       case rel=>exact⟨k+1,T++[(q:Int)],B2,by go_num,ze ⟨HF.out.1.1,HF.out.1.2,HF.out.2⟩,HRP,HIA⟩
      case true=>
       go_wp2_with fail
       go_roundg (l.length-(k+1))
       case measure=>omega
       case rel=>exact⟨k+1,T++[(q:Int)],B2,by go_num,ze ⟨HF.out.1.1,HF.out.1.2,HF.out.2⟩,HRP,HIA⟩
     ·obtain rfl:j=m.length:=by omega
      have hneg:¬(m.length:Int)<(m.length:Int):=by omega
      go_wp2_with fail
      go_roundg (l.length-(k+1))
      case measure=>omega
      case rel=>exact⟨k+1,T++[(q:Int)],B2,by go_num,ze ⟨HF.out.1.1,HF.out.1.2,HF.out.2⟩,HRP,HIA⟩
    case inl=>
     subst hy hB2;have HNO:=ze hno;clear hno;have HF:=ze (show(k+1<=l.length/\l.length-(k+1)<=l.length-(k+1))/\(T++[(-1:Int)]).length=k+1 from⟨⟨by omega,Nat.le_refl _⟩,by simp;omega⟩)
     by_cases hjl:j<m.length
     case neg=>
      obtain rfl:j=m.length:=by omega
      have hneg:¬(m.length:Int)<(m.length:Int):=by omega
      have HN:=ze (HP.out.pass HTL.out.rise HTM.out.rise (by have:=HLE.out;omega) (by omega) (by rw[hQ.2.2];exact HNO.out));go_wp2_with fail
      go_roundg (l.length-(k+1))
      case measure=>omega
      case rel=>exact⟨k+1,T++[-1],B2,by go_num,ze ⟨HF.out.1.1,HF.out.1.2,HF.out.2⟩,HN,ze (by rw[ziV];exact HIW.out)⟩
     have j1:(j:Int)<(m.length:Int):=by omega
     cases la
     case false=>
      have HN:=ze (HP.out.pass HTL.out.rise HTM.out.rise (by have:=HLE.out;omega) (by omega) (by rw[hQ.2.2];exact fun e=>by rw[HLA.out]at e;cases e));go_wp2_with fail
      go_roundg (l.length-(k+1))
      case measure=>omega
      case rel=>exact⟨k+1,T++[-1],B2,by go_num,ze ⟨HF.out.1.1,HF.out.1.2,HF.out.2⟩,HN,ze (by rw[ziV];exact HIW.out)⟩
     case true=>
      have jw:IntKind.i64.wrap ((j:Int)+1)=(j:Int)+1:=IntWalk.i64_in _ (by have:=HLE.out;omega);obtain⟨gb,hbo,hgb,hbv⟩:=HIW.out.placeB HP.out.lenb (by omega);subst hbo;obtain⟨bj,hbj⟩:∃z,B2[j]? =some z:=⟨_,List.getElem?_eq_getElem (by rw[HP.out.lenb];exact hjl)⟩;obtain⟨cb,zb⟩:=hbv j bj hbj;clear hbv;obtain⟨b1,p1,n1,x1,t1,e1,he1,_,_,d1⟩:=yM.at (HA.out.old HIW.out.below) hlt;cases e1;obtain⟨b2,p2,n2,x2,t2,e2,he2,_,_,d2⟩:=yM.at (HB.out.old HIW.out.below) hjl;cases e2;have HS1:=ze (show qG l m k j ↔ t1=t2 by unfold qG xP;rw[ym he1,ym he2]);have HBJ:=ze hbj;clear hbj he1 he2;cases bj
      case false=>
       have HNX:=ze (show yR m (xP l k)=true->∀j0,j0<j+1->B2[j0]? =some true->¬qG l m k j0 from fun a j0 h1 h2=>by
        by_cases e:j0=j
        ·subst e
         rw[HBJ.out]at h2;cases h2
        ·exact HNO.out a j0 (by omega) h2)
       go_upto_region 10 with fail
       obtain⟨ι,_,f,hf,hc⟩:=fam wr;have cb:=yE hf cb;have d1:=yE hf d1;have d2:=yE hf d2;refine zV (fun w2=>∃i,w2=f i) (by kernel_rfl) (by kernel_rfl) (hc _ ((Below.refl _ _).drew)) ?_
       repeat(go_big_quiet_step (fail))
       refine wpQuiet_nil ?_;intro _ hw2;obtain⟨nq,hw3⟩:=hw2;subst hw3;go_wp2_with fail
       go_roundg (m.length-(j+1))
       case measure=>omega
       case rel=>exact⟨j+1,-1,B2,by go_num,ze (by omega),ze (HIW.out.old (hf nq)),ze (.inl ⟨rfl,rfl,HNX.out⟩)⟩
      case true=>
       by_cases ht:t1=t2
       case neg=>
        have HNX:=ze (show yR m (xP l k)=true->∀j0,j0<j+1->B2[j0]? =some true->¬qG l m k j0 from fun a j0 h1 h2=>by
         by_cases e:j0=j
         ·subst e
          exact fun e=>ht (HS1.out.1 e)
         ·exact HNO.out a j0 (by omega) h2)
        have tb:(t2==t1)=false:=beq_false_of_ne fun e=>ht e.symm
        have tb2:(t1==t2)=false:=beq_false_of_ne ht
        go_upto_region 10 with fail
        obtain⟨ι,_,f,hf,hc⟩:=fam wr;have cb:=yE hf cb;have d1:=yE hf d1;have d2:=yE hf d2;refine zV (fun w2=>∃i,w2=f i) (by kernel_rfl) (by kernel_rfl) (hc _ ((Below.refl _ _).drew)) ?_
        repeat(go_big_quiet_step (fail))
        refine wpQuiet_nil ?_;intro _ hw2;obtain⟨nq,hw3⟩:=hw2;subst hw3;go_wp2_with fail
        go_roundg (m.length-(j+1))
        case measure=>omega
        case rel=>exact⟨j+1,-1,B2,by go_num,ze (by omega),ze (HIW.out.old (hf nq)),ze (.inl ⟨rfl,rfl,HNX.out⟩)⟩
       have HSM:=ze (HS1.out.2 ht);subst ht
       have tb:(t1==t1)=true:=by simp
       have HPR:=ze (HP.out.pair HTL.out.rise HTM.out.rise (by have:=HLE.out;omega) (by omega) hjl (by rw[hQ.2.2];exact HLA.out) HBJ.out (by rw[hQ.2.2];exact HSM.out) (by rw[hQ.2.2];exact HNO.out HLA.out));have zt:wr.frozen? ⟨gt,k,none⟩=false:=zo HIW.out.row
       go_upto_region 10 with fail
       obtain⟨ι,_,f,hf,hc⟩:=fam wr;have cb:=yE hf cb;have d1:=yE hf d1;have d2:=yE hf d2;refine zV (fun w2=>∃i,w2=f i) (by kernel_rfl) (by kernel_rfl) (hc _ ((Below.refl _ _).drew)) ?_
       repeat(go_big_quiet_step (fail))
       refine wpQuiet_nil ?_;intro _ hw2;obtain⟨nq,hw3⟩:=hw2;subst hw3;have HW4:=ze (HIW.out.old (hf nq));have HW5:=ze ((HW4.out.setT k (j:Int)).setB (cap:=c2) (by rw[HP.out.lenb]) hgb j false);have hag:=zkn (n:=l.length) (T:=T) (-1) (j:Int);rw[hQ.2.2]at hag;rw[hag]at HW5;clear hag;have ct:=zf (hf nq) ct;have zt:(f nq).frozen? ⟨gt,k,none⟩=false:=zo HW4.out.row;obtain⟨g9,h9,_,hbv⟩:=HW4.out.placeB HP.out.lenb (by omega);cases h9;obtain⟨cb2,zb⟩:=hbv j true HBJ.out;clear hbv
       have hgg:gb≠gt:=fun e=>HW4.out.nb (by rw[e];rfl)
       generalize f nq=w9 at *;go_wp2_with fail
       go_roundg (m.length-(j+1))
       case measure=>omega
       case rel=>exact⟨j+1,(j:Int),B2.set j false,by go_num,ze (by omega),HW5,ze (.inr ⟨j,rfl,HPR.out⟩)⟩
  ·obtain rfl:k=l.length:=by omega
   have hneg:¬(l.length:Int)<(l.length:Int):=by omega
   have HP2:=ze (HP.out.next (by have:=HLE.out;omega) (by have:=HLE.out;omega) hQ.2.2);have HR2:=ze (show zap w (.slice o1 l.length c1) (.slice o2 m.length c2) gt T (zbK l m T) B wr by have:=HR.out;rwa [zlX hQ.2.2]at this);have HTT:=ze hQ.2.2;clear HP HR hQ HQ;go_wp2_with fail
   go_loopg [10] (l.length+1) (fun g mo wr=>∃ (b:Bool) (T:List Int) (B:List Bool),mo= .bool b/\Hid (RP2 l m T B)/\Hid (zap w (.slice o1 l.length c1) (.slice o2 m.length c2) gt T (zbK l m T) B wr)/\Hid ((b=true->T.count (-1)+1<=g)/\(b=false->zrU l m T B)))
   case atStart=>exact⟨true,T,B,rfl,HP2,HR2,ze ⟨fun _ =>by have:=List.count_le_length (a:=(-1:Int)) (l:=T);have:=HTT.out;omega,fun e=>by cases e⟩⟩
   case round=>
    clear HP2 HR2 HTT;obtain⟨mo,T,B,rfl,HP,HR,HG⟩:=hrel;cases mo
    case false=>
     have HD:=ze (HG.out.2 rfl);have HBW:=ze HR.out.below;have HRX:=ze HR.out;clear HR HG;go_wp2_with fail;generalize wr=wz at *
     go_loopg [17,18] l.length (fun g v i wy=>∃ (k:Nat) (X:List jQ),i= .int .i64 (k:Int)/\Hid (k<=l.length/\l.length-k<=g)/\Hid (X=ky l m T k/\X.length<=k)/\Hid (zcd wy wz.heap.size v X)/\Hid (Below wz.heap.size wz wy))
     case atStart=>exact⟨0,[],rfl,ze ⟨Nat.zero_le _,Nat.le_refl _⟩,ze ⟨rfl,Nat.le_refl _⟩,ze (World.ownsRow_nil _ _ _ _),ze (Below.refl _ _)⟩
     case round=>
      obtain⟨k,X,rfl,HQ,HX,HO,HBE⟩:=hrel;have hQ:=HQ.out;have k0:(0:Int)<=(k:Int):=Int.natCast_nonneg _;obtain⟨no,nc,rfl⟩:=zl HO.out
      by_cases hlt:k<l.length
      case neg=>
       obtain rfl:k=l.length:=by omega
       have hneg:¬(l.length:Int)<(l.length:Int):=by omega
       go_wp2_with fail;go_ret;have hX:=HX.out.1;exact⟨_,rfl,X,by rw[hX];exact HP.out.done HTL.out.rise HTM.out.rise HD.out,⟨HO.out.1,HO.out.2.imp id fun⟨g,cap,cur,h1,h2,h3⟩=>⟨g,cap,cur,h1,Nat.le_trans HBW.out.size h2,h3⟩⟩,zi HBW.out HBE.out HBW.out.size⟩
      have k1:(k:Int)<(l.length:Int):=by omega
      have kw:IntKind.i64.wrap ((k:Int)+1)=(k:Int)+1:=IntWalk.i64_in _ (by have:=HLE.out;omega);obtain⟨z,hz⟩:∃z,T[k]? =some z:=⟨_,List.getElem?_eq_getElem (by rw[HP.out.all];exact hlt)⟩;have HRY:=ze (HRX.out.old HBE.out);have ct:wr.cell? ⟨gt,k,none⟩=some (.int .i64 z):=zd HRY.out.row (zbw hz);have HONE:=ze (show kR l m T k=if z= -1 then none else some ((l.getD k zM).1,(m.getD z.toNat zM).1) by rw[kR,hz])
      rcases HP.out.val k z hz with rfl |⟨j,rfl,hj⟩
      ·have HE:=ze (show X=ky l m T (k+1) by rw[zck,HONE.out,if_pos rfl,<-HX.out.1];simp)
       go_wp2_with fail
       go_roundg (l.length-(k+1))
       case measure=>omega
       case rel=>exact⟨k+1,X,by go_num,ze (by omega),ze ⟨HE.out,by have:=HX.out.2;omega⟩,HO,HBE⟩
      ·have j0:(0:Int)<=(j:Int):=Int.natCast_nonneg _
       have j1:¬(j:Int)< 0:=by omega
       have j2:(j:Int)<(m.length:Int):=by omega
       obtain⟨b1,p1,n1,x1,t1,e1,he1,d1,_,_⟩:=yM.at (HA.out.old (zi HBW.out HBE.out HBW.out.size)) hlt;cases e1;obtain⟨b2,p2,n2,x2,t2,e2,he2,d2,_,_⟩:=yM.at (HB.out.old (zi HBW.out HBE.out HBW.out.size)) hj;cases e2;have HE:=ze (show X++[(n1,n2)]=ky l m T (k+1) by rw[zck,HONE.out,if_neg (by omega),<-HX.out.1,ym he1,Int.toNat_natCast,ym he2];rfl)
       go_upto_region 36 with fail
       have d1a:=zf ((Below.refl _ wr).alloc (Nat.le_refl _) (.cells #[.string ⟨#[]⟩,.string ⟨#[]⟩] 78)) d1;have d2a:=zf ((Below.refl _ wr).alloc (Nat.le_refl _) (.cells #[.string ⟨#[]⟩,.string ⟨#[]⟩] 78)) d2;have cta:=zf ((Below.refl _ wr).alloc (Nat.le_refl _) (.cells #[.string ⟨#[]⟩,.string ⟨#[]⟩] 78)) ct
       go_cut [19]from 155 to 168 (fun c wx=>c= .pointer (some ⟨wr.heap.size,0,none⟩)/\Hid (wx=(wr.alloc (.cells #[.string ⟨n1.toArray⟩,.string ⟨n2.toArray⟩] 78)).drew))
       case first=>
        go_region_law (first
         |(refine zB rfl 78 _ _ rfl _ #[.string ⟨n1.toArray⟩,.string ⟨n2.toArray⟩] rfl rfl _ _ (heap_alloc_new _ _) 2 Tryz.sizeMv rfl rfl (by simp[Value.oneCell']) ?_;intro w5 hg5 hk5))
        all_goals(go_wp2_with fail;go_meet;exact⟨rfl,ze rfl⟩)
       case rest=>
        obtain⟨rfl,HW36⟩:=hcut;clear ct cta d1 d1a d2 d2a;have hwc:=HW36.out
        have hgc:wc.heap[wr.heap.size]? =some (.cells #[.string ⟨n1.toArray⟩,.string ⟨n2.toArray⟩] 78 (0,0)):=by rw[hwc];exact heap_alloc_new wr _
        have HBC:=ze (show Below wz.heap.size wz wc by rw[hwc];exact(HBE.out.alloc HBE.out.size _).drew);have HOC:=ze (show zcd wc wz.heap.size (.slice no X.length nc) X by rw[hwc];exact HO.out.alloc _);have HXP:=ze (show X++[(n1,n2)]=ky l m T (k+1)from HE.out);have HLT:=ze (show ∀p∈X,xv p.1 n1=true from fun p hp=>zoi HTL.out.rise hlt he1 (by rw[<-HX.out.1];exact hp));clear HW36 hwc HO HRY HE HBE;generalize wr.heap.size=gr at *;generalize wc=wy at *;have HSY:=ze HOC.out.sl;have HGC:=ze hgc;have HGL:=ze (lt_of_block hgc);have HXL:=ze HX.out.2;clear hgc HX;go_wp2_with fail
        go_loopg [20] 1 (fun g i wx=>i= .int .i64 (X.length:Int)/\Hid (Below wy.heap.size wy wx))
        case atStart=>exact⟨rfl,ze (Below.refl _ _)⟩
        case round=>
         obtain⟨rfl,HWX⟩:=hrel;have q0:wr.cell? ⟨gr,0,none⟩=some (.string ⟨n1.toArray⟩):=zf HWX.out (zd (i:=0) HGC.out rfl);have q1:wr.cell? ⟨gr,1,none⟩=some (.string ⟨n2.toArray⟩):=zf HWX.out (zd (i:=1) HGC.out rfl);obtain⟨i0,hi0,hi1,hi2,hi3⟩:=info_parts Tryz.infoMv;have hcut:=zy.cut_to (P:=Tryz.prog) Tryz.underlying39 hi0 HSY.out (j:=X.length) (Nat.le_refl _);obtain⟨ao2,c2',hsl2,hs2⟩:=zy.cut_from (P:=Tryz.prog) Tryz.underlying39 hi0 hi2 HSY.out (i:=X.length) (Nat.le_refl _);rw[Nat.sub_self]at hsl2 hs2;rw[List.drop_length]at hs2;rw[List.take_length]at hcut;have hsl1:=hcut.1;have H1:=ze hcut.2;have H2:=ze hs2;clear hcut hs2 hi0 hi1 hi2 hi3;have HKL:=ze (show X.length<=100000 by have:=HXL.out;have:=HLE.out;omega)
         by_cases hx0:X.length=0
         ·have g1:decide ((0:Int)<(X.length:Int))=false:=decide_eq_false (by omega)
          have g2:decide (0<X.length)=false:=decide_eq_false (by omega);clear hx0;go_wp2_with fail;go_quiet (fail);have HBy:=ze (show Below wy.heap.size wy (wr.drewN nq)from HWX.out.trans ((zm wr nq).mono HWX.out.size));have p0:(wr.drewN nq).cell? ⟨gr,0,none⟩=some (.string ⟨n1.toArray⟩):=q0;have p1:(wr.drewN nq).cell? ⟨gr,1,none⟩=some (.string ⟨n2.toArray⟩):=q1;clear q0 q1 HWX;generalize wr.drewN nq=Y at HBy p0 p1 ⊢;have HYL:=ze (World.block_lt_of_cell? Y _ p0);have HYD:=ze (show Below wy.heap.size wy Y.drew from HBy.out.drew);have HBF:=ze (show Below wy.heap.size wy (Y.alloc (.cells #[.string ⟨n1.toArray⟩,.string ⟨n2.toArray⟩] 78)).drew from(HBy.out.alloc HBy.out.size _).drew);have H1a:=ze (H1.out.old HYD.out);have H1b:=ze (H1.out.old HBF.out);clear H1;go_wp2_with fail
          go_region_law (first
           |(refine qI (by rfl) (.const (.slice none 0 0)) (.tmp 188) rfl _ (.slice none 0 0) [] X rfl (World.ownsRow_nil _ _ _ _) (.slice no X.length nc) (by kernel_rfl) (by first |with_reducible exact H1a.out |with_reducible exact H1b.out) (by have:=HKL.out;simp only[List.length_nil];omega) (Nat.le_refl _) ?_;intro v5 w5 o5 b5
             have HO5:=ze (zY o5 (show wy.heap.size<= _ from by first |exact HYD.out.size |exact HBF.out.size));have HB5:=ze (show Below wy.heap.size wy w5 from by first |exact HYD.out.trans (b5.mono HYD.out.size) |exact HBF.out.trans (b5.mono HBF.out.size));have HC5:=ze b5;have r0:=zf HB5.out (zd (i:=0) HGC.out rfl);have r1:=zf HB5.out (zd (i:=1) HGC.out rfl)
             clear o5 b5)
           |(refine kg (by rfl) (.tmp 189) (.tmp 191) rfl wy.heap.size v5 ([]++X) (n1,n2) (by kernel_rfl) (World.ownsRow.alloc HO5.out _) (.slice (some ⟨w5.heap.size,0,none⟩) 1 1) (by kernel_rfl) (zy.one (heap_alloc_new w5 _) rfl) (by have:=HKL.out;simp only[List.nil_append];omega) (by have:=HB5.out.size;simp;omega) ?_;intro v6 w6 o6 b6
             have HO6:=ze o6;have HB6:=ze ((HB5.out.alloc HB5.out.size _).trans b6)
             clear o6 b6)
           |(refine kg (by rfl) (.tmp 189) (.tmp 191) rfl wy.heap.size v5 ([]++X) (n1,n2) (by kernel_rfl) HO5.out (.slice (some ⟨Y.heap.size,0,none⟩) 1 1) (by kernel_rfl) (zy.old (zy.one (w:=(Y.alloc (.cells #[.string ⟨n1.toArray⟩,.string ⟨n2.toArray⟩] 78)).drew) (heap_alloc_new Y _) rfl) HC5.out) (by have:=HKL.out;simp only[List.nil_append];omega) HB5.out.size ?_;intro v6 w6 o6 b6
             have HO6:=ze o6;have HB6:=ze (HB5.out.trans b6)
             clear o6 b6)
           |(refine qI (by rfl) (.tmp 192) (.tmp 195) rfl wy.heap.size v6 ([]++X++[(n1,n2)]) [] (by kernel_rfl) HO6.out (.slice ao2 0 c2') (by kernel_rfl) (zy.old H2.out HB6.out) (by have:=HKL.out;simp only[List.nil_append,List.length_append,List.length_singleton,List.length_nil];omega) HB6.out.size ?_;intro v7 w7 o7 b7
             have HO7:=ze o7;have HB7:=ze (HB6.out.trans b7)
             clear o7 b7))
          all_goals(
           go_wp2_with fail
           go_roundg (l.length-(k+1))
           case measure=>omega
           case rel=>exact⟨k+1,[]++X++[(n1,n2)]++[],by go_num,ze (by omega),ze ⟨by simpa using HXP.out,by have h2:=HXL.out;simp;omega⟩,ze (by exact zY HO7.out HBC.out.size),ze (HBC.out.trans (HB7.out.mono HBC.out.size))⟩)
         ·obtain⟨j,hj⟩:∃j,X.length=j+1:=⟨X.length-1,by omega⟩
          have g1:decide ((0:Int)<(X.length:Int))=true:=decide_eq_true (by omega);have g2:decide (0<X.length)=true:=decide_eq_true (by omega);have jw:IntKind.i64.wrap ((X.length:Int)-1)=(j:Int):=(IntWalk.i64_in _ (by have:=HKL.out;omega)).trans (by omega);have jz:(0:Int)<=(j:Int):=Int.natCast_nonneg _
          have jl:(j:Int)<(X.length:Int):=by omega
          obtain⟨bx,ox,px,tx,ex,hxe,cx,_⟩:=SlV.at (HSY.out.old HWX.out) (i:=j) (by omega);cases ex;have g3:Op.bytesLess px n1=true:=HLT.out _ (List.mem_of_getElem? hxe);clear hx0 hxe hj;go_wp2_with fail;go_quiet (fail);have HBy:=ze (show Below wy.heap.size wy (wr.drewN nq)from HWX.out.trans ((zm wr nq).mono HWX.out.size));have p0:(wr.drewN nq).cell? ⟨gr,0,none⟩=some (.string ⟨n1.toArray⟩):=q0;have p1:(wr.drewN nq).cell? ⟨gr,1,none⟩=some (.string ⟨n2.toArray⟩):=q1;clear q0 q1 HWX;generalize wr.drewN nq=Y at HBy p0 p1 ⊢;have HYL:=ze (World.block_lt_of_cell? Y _ p0);have HYD:=ze (show Below wy.heap.size wy Y.drew from HBy.out.drew);have HBF:=ze (show Below wy.heap.size wy (Y.alloc (.cells #[.string ⟨n1.toArray⟩,.string ⟨n2.toArray⟩] 78)).drew from(HBy.out.alloc HBy.out.size _).drew);have H1a:=ze (H1.out.old HYD.out);have H1b:=ze (H1.out.old HBF.out);clear H1;go_wp2_with fail
          go_region_law (first
           |(refine qI (by rfl) (.const (.slice none 0 0)) (.tmp 188) rfl _ (.slice none 0 0) [] X rfl (World.ownsRow_nil _ _ _ _) (.slice (some ⟨bx,ox,none⟩) X.length nc) (by kernel_rfl) (by first |with_reducible exact H1a.out |with_reducible exact H1b.out) (by have:=HKL.out;simp only[List.length_nil];omega) (Nat.le_refl _) ?_;intro v5 w5 o5 b5
             have HO5:=ze (zY o5 (show wy.heap.size<= _ from by first |exact HYD.out.size |exact HBF.out.size));have HB5:=ze (show Below wy.heap.size wy w5 from by first |exact HYD.out.trans (b5.mono HYD.out.size) |exact HBF.out.trans (b5.mono HBF.out.size));have HC5:=ze b5;have r0:=zf HB5.out (zd (i:=0) HGC.out rfl);have r1:=zf HB5.out (zd (i:=1) HGC.out rfl)
             clear o5 b5)
           |(refine kg (by rfl) (.tmp 189) (.tmp 191) rfl wy.heap.size v5 ([]++X) (n1,n2) (by kernel_rfl) (World.ownsRow.alloc HO5.out _) (.slice (some ⟨w5.heap.size,0,none⟩) 1 1) (by kernel_rfl) (zy.one (heap_alloc_new w5 _) rfl) (by have:=HKL.out;simp only[List.nil_append];omega) (by have:=HB5.out.size;simp;omega) ?_;intro v6 w6 o6 b6
             have HO6:=ze o6;have HB6:=ze ((HB5.out.alloc HB5.out.size _).trans b6)
             clear o6 b6)
           |(refine kg (by rfl) (.tmp 189) (.tmp 191) rfl wy.heap.size v5 ([]++X) (n1,n2) (by kernel_rfl) HO5.out (.slice (some ⟨Y.heap.size,0,none⟩) 1 1) (by kernel_rfl) (zy.old (zy.one (w:=(Y.alloc (.cells #[.string ⟨n1.toArray⟩,.string ⟨n2.toArray⟩] 78)).drew) (heap_alloc_new Y _) rfl) HC5.out) (by have:=HKL.out;simp only[List.nil_append];omega) HB5.out.size ?_;intro v6 w6 o6 b6
             have HO6:=ze o6;have HB6:=ze (HB5.out.trans b6)
             clear o6 b6)
           |(refine qI (by rfl) (.tmp 192) (.tmp 195) rfl wy.heap.size v6 ([]++X++[(n1,n2)]) [] (by kernel_rfl) HO6.out (.slice ao2 0 c2') (by kernel_rfl) (zy.old H2.out HB6.out) (by have:=HKL.out;simp only[List.nil_append,List.length_append,List.length_singleton,List.length_nil];omega) HB6.out.size ?_;intro v7 w7 o7 b7
             have HO7:=ze o7;have HB7:=ze (HB6.out.trans b7)
             clear o7 b7))
          all_goals(
           go_wp2_with fail
           go_roundg (l.length-(k+1))
           case measure=>omega
           case rel=>exact⟨k+1,[]++X++[(n1,n2)]++[],by go_num,ze (by omega),ze ⟨by simpa using HXP.out,by have h2:=HXL.out;simp;omega⟩,ze (by exact zY HO7.out HBC.out.size),ze (HBC.out.trans (HB7.out.mono HBC.out.size))⟩)
    case true=>
     have HC:=ze (HG.out.1 rfl);have hga0:=HC.out;go_wp2_with fail
     go_loopg [11,12,13,14] l.length (fun g s11 s12 s13 i wy=>∃ (k:Nat) (R x y:Int),s11= .int .i64 R/\s12= .int .i64 x/\s13= .int .i64 y/\i= .int .i64 (k:Int)/\Hid (k<=l.length/\l.length-k<=g)/\Hid (zcH l m T B k 0 R x y)/\Hid (zap w (.slice o1 l.length c1) (.slice o2 m.length c2) gt T (zbK l m T) B wy))
     case atStart=>exact⟨0,49,-1,-1,rfl,rfl,rfl,rfl,ze ⟨Nat.zero_le _,Nat.le_refl _⟩,ze (zcH.start l m T B),HR⟩
     case round=>
      clear HR;obtain⟨k,R,x,y,rfl,rfl,rfl,rfl,HQ,HBE,HR⟩:=hrel;have hQ:=HQ.out;have k0:(0:Int)<=(k:Int):=Int.natCast_nonneg _
      by_cases hlt:k<l.length
      case neg=>
       obtain rfl:k=l.length:=by omega
       rcases HBE.out.ends HTL.out.rise HTM.out.rise (by have:=HLE.out;omega) (by have:=HLE.out;omega) HP.out with⟨rfl,hdn⟩ |⟨X,Y,rfl,rfl,hX,hY,hTX,hBY,hjn⟩
       case inl=>
        have HDN:=ze hdn;clear hdn;go_wp2_with fail
        go_roundg 0
        case measure=>omega
        case rel=>exact⟨false,T,B,rfl,HP,HR,ze ⟨fun e=>(by cases e),fun _ =>HDN.out⟩⟩
       case inr=>
        have HJN:=ze hjn;clear hjn;have HXL:=ze (show X<l.length by rw[<-HP.out.all];exact hX);have X0:(0:Int)<=(X:Int):=Int.natCast_nonneg _;have Y0:(0:Int)<=(Y:Int):=Int.natCast_nonneg _
        have X1:(X:Int)<(l.length:Int):=by have:=HXL.out;omega
        have Y1:(Y:Int)<(m.length:Int):=by omega
        have X2:¬(X:Int)< 0:=by omega
        obtain⟨ga,ea,hga,hav⟩:=HR.out.placeA (ji l m T) (by have:=HXL.out;omega);subst ea;obtain⟨gb,eb,hgb,hbv⟩:=HR.out.placeB HP.out.lenb (by omega);subst eb;obtain⟨cx,za⟩:=hav X _ (zab HXL.out);obtain⟨cy,zb⟩:=hbv Y true hBY;clear hav hbv;have ct:wr.cell? ⟨gt,X,none⟩=some (.int .i64 (-1)):=zd HR.out.row (zbw hTX);have zt:wr.frozen? ⟨gt,X,none⟩=false:=zo HR.out.row
        have n1:ga≠gt:=fun e=>HR.out.na (by rw[e];rfl)
        have n2:gb≠gt:=fun e=>HR.out.nb (by rw[e];rfl)
        have n3:ga≠gb:=fun e=>HR.out.nab ga rfl (by rw[e];rfl)
        have HW:=ze ((((HR.out.setT X (Y:Int)).setA (cap:=c1) (by rw[ji]) hga X false).setB (cap:=c2) (by rw[HP.out.lenb]) hgb Y false));have hst:=zqd l m T X Y hX;rw[hst]at HW;clear hst;have HCN:=ze (zna (Y:=Y) hTX);clear hX hY hTX hBY;go_wp2_with fail
        go_roundg ((T.set X (Y:Int)).count (-1)+1)
        case measure=>have:=HCN.out;omega
        case rel=>exact⟨true,T.set X (Y:Int),B.set Y false,rfl,HJN,HW,ze ⟨fun _ =>Nat.le_refl _,fun e=>(by cases e)⟩⟩
      have k1:(k:Int)<(l.length:Int):=by omega
      have kw:IntKind.i64.wrap ((k:Int)+1)=(k:Int)+1:=IntWalk.i64_in _ (by have:=HLE.out;omega);obtain⟨z,hz⟩:∃z,T[k]? =some z:=⟨_,List.getElem?_eq_getElem (by rw[HP.out.all];exact hlt)⟩;obtain⟨la,hla⟩:∃b,(yR m (xP l k)&&z== -1)=b:=⟨_,rfl⟩;have HAT:=ze (show(zbK l m T)[k]? =some la by rw[zab hlt,hz,<-hla]);have HFA:=ze (show ∀j,zlJ l m T B k j->la=true from fun j hf=>by rw[<-hla,hf.2.2.2];have:=Option.some.inj (hz.symm.trans hf.1);rw[this];rfl);have HFB:=ze (show la=true->T[k]? =some (-1)/\yR m (xP l k)=true from fun e=>by rw[<-hla,Bool.and_eq_true,beq_iff_eq]at e;exact⟨by rw[hz,e.2],e.1⟩);clear hz hla;go_wp2_with fail
      go_loopg [11,12,13,15] m.length (fun g s11 s12 s13 i wy=>∃ (j:Nat) (R x y:Int),s11= .int .i64 R/\s12= .int .i64 x/\s13= .int .i64 y/\i= .int .i64 (j:Int)/\Hid (j<=m.length/\m.length-j<=g)/\Hid (zcH l m T B k j R x y)/\Hid (zap w (.slice o1 l.length c1) (.slice o2 m.length c2) gt T (zbK l m T) B wy))
      case atStart=>exact⟨0,R,x,y,rfl,rfl,rfl,rfl,ze ⟨Nat.zero_le _,Nat.le_refl _⟩,HBE,HR⟩
      case round=>
       clear HR HBE;obtain⟨j,R,x,y,rfl,rfl,rfl,rfl,HJ,HBE,HR⟩:=hrel;have hJ:=HJ.out;have j0:(0:Int)<=(j:Int):=Int.natCast_nonneg _
       by_cases hjl:j<m.length
       case neg=>
        obtain rfl:j=m.length:=by omega
        have hneg:¬(m.length:Int)<(m.length:Int):=by omega
        go_wp2_with fail
        go_roundg (l.length-(k+1))
        case measure=>omega
        case rel=>exact⟨k+1,R,x,y,rfl,rfl,rfl,by go_num,ze (by omega),ze HBE.out.row,HR⟩
       have j1:(j:Int)<(m.length:Int):=by omega
       have jw:IntKind.i64.wrap ((j:Int)+1)=(j:Int)+1:=IntWalk.i64_in _ (by have:=HLE.out;omega);obtain⟨ga,ea,_,hav⟩:=HR.out.placeA (ji l m T) (by omega);subst ea;obtain⟨gb,eb,_,hbv⟩:=HR.out.placeB HP.out.lenb (by omega);subst eb;obtain⟨bj,hbj⟩:∃z,B[j]? =some z:=⟨_,List.getElem?_eq_getElem (by rw[HP.out.lenb];exact hjl)⟩;obtain⟨ca,_⟩:=hav k _ HAT.out;obtain⟨cb,_⟩:=hbv j bj hbj;clear hav hbv;have HBJ:=ze hbj;clear hbj;cases la
       case false=>
        have HNX:=ze (HBE.out.skip fun hf=>by have:=HFA.out j hf;cases this);go_wp2_with fail
        go_roundg (m.length-(j+1))
        case measure=>omega
        case rel=>exact⟨j+1,R,x,y,rfl,rfl,rfl,by go_num,ze (by omega),ze (HNX.out),HR⟩
       case true=>
        cases bj
        case false=>
         have HNX:=ze (HBE.out.skip fun hf=>by have:=HBJ.out.symm.trans hf.2.2.1;cases this);go_wp2_with fail
         go_roundg (m.length-(j+1))
         case measure=>omega
         case rel=>exact⟨j+1,R,x,y,rfl,rfl,rfl,by go_num,ze (by omega),ze (HNX.out),HR⟩
        case true=>
         have HFR:=ze (show zlJ l m T B k j from⟨(HFB.out rfl).1,hjl,HBJ.out,(HFB.out rfl).2⟩);obtain⟨b1,p1,n1,x1,t1,e1,he1,_,_,d1⟩:=yM.at (HA.out.old HR.out.below) hlt;cases e1;obtain⟨b2,p2,n2,x2,t2,e2,he2,_,_,d2⟩:=yM.at (HB.out.old HR.out.below) hjl;cases e2;have HRT:=ze (show rat l m k j=ratioS t1 t2 by unfold rat xP;rw[ym he1,ym he2])
         have hx1:t1.length<=1000000:=by
          have:=HTL.out.ok _ (List.mem_of_getElem? he1);rw[jW,Bool.and_eq_true]at this;have h2:t1.length<=20000:=of_decide_eq_true this.2;omega
         have hx2:t2.length<=1000000:=by
          have:=HTM.out.ok _ (List.mem_of_getElem? he2);rw[jW,Bool.and_eq_true]at this;have h2:t2.length<=20000:=of_decide_eq_true this.2;omega
         have HRA:=ze (fun wy:World=>zlN t1 t2 wy hx1 hx2);obtain⟨q,hq⟩:∃q,ratioS t1 t2=q:=⟨_,rfl⟩;rw[hq]at HRT HRA;clear hx1 hx2 he1 he2 hq;unfold zq at HRA
         go_upto_region 25 with fail
         obtain⟨ι,_,f,hf,hc⟩:=fam wr;have d1:=yE hf d1;have d2:=yE hf d2;refine zV (fun w2=>∃i,w2=f i) (by kernel_rfl) (by kernel_rfl) (hc _ ((Below.refl _ _).drew)) ?_
         repeat(go_big_quiet_step ((go_at_call 41;exact jC hf hc (HRA.out _))))
         refine wpQuiet_nil ?_;intro _ hw2;obtain⟨nq,hw3⟩:=hw2;subst hw3;have HW4:=ze (HR.out.old (hf nq))
         by_cases hgt:R <(q:Int)
         ·have g1:decide (R <(q:Int))=true:=decide_eq_true hgt
          have HNX:=ze (HBE.out.take HFR.out (by rw[HRT.out];exact hgt));rw[HRT.out]at HNX;clear hgt;go_wp2_with fail
          go_roundg (m.length-(j+1))
          case measure=>omega
          case rel=>exact⟨j+1,(q:Int),(k:Int),(j:Int),rfl,rfl,rfl,by go_num,ze (by omega),ze (HNX.out),HW4⟩
         ·have g1:decide (R <(q:Int))=false:=decide_eq_false hgt
          have HNX:=ze (HBE.out.skip fun _ =>by rw[HRT.out];omega);clear hgt;go_wp2_with fail
          go_roundg (m.length-(j+1))
          case measure=>omega
          case rel=>exact⟨j+1,R,x,y,rfl,rfl,rfl,by go_num,ze (by omega),ze (HNX.out),HW4⟩
end
end Go.Proofs.YtbnafihigoekeaaGreatDoor

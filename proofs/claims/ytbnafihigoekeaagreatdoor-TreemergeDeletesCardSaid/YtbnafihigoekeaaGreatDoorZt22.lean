/-
  TmTl, part 22.
-/
import Derived.Test.YtbnafihigoekeaaGreatDoorZt9
import Derived.Shelf.Strings.SplitCore
import Derived.Shelf.Strings.Count
import Derived.Lib.SplitLaws
set_option maxRecDepth 100000
set_option maxHeartbeats 4000000
namespace Go.Proofs.YtbnafihigoekeaaGreatDoor
def qD:List UInt8->List UInt8->List (List UInt8)
 |cur,[]=>[cur]
 |cur,c::r=>if c=47 then cur::qD [] r else qD (cur++[c]) r
def zaw(p:List UInt8):List (List UInt8):=qD [] p
def yB(c:UInt8):Bool:=decide (33<=c.toNat/\c.toNat<=126)
def xk(x:List UInt8):Bool:=x !=[]&&(x !=[46]&&x !=[46,46])
def yZ(p:List UInt8):Bool:=decide (1<=p.length/\p.length<=100)&&(p.all yB&&(zaw p).all xk)
def yq(p d:List UInt8):Bool:=decide (d.length<p.length)&&((p.take d.length==d)&&(p[d.length]? ==some 47))
def yS(a b:List UInt8):Bool:=a==b ||(yq a b ||yq b a)
theorem zmo(cur p:List UInt8):(qD cur p).length<=p.length+1:=by
 induction p generalizing cur with
 |nil=>simp[qD]
 |cons c r ih=>
  rw[qD]
  split
  ·have:=ih [];simp;omega
  ·have:=ih (cur++[c]);simp;omega
theorem zdS(p:List UInt8):(zaw p).length<=p.length+1:=zmo [] p
def zrx:List (List UInt8)->List UInt8
 | []=>[]
 | [x]=>x
 |x::y::r=>x++47::zrx (y::r)
def zrR(x:List UInt8):Bool:=yZ x&&decide ((zaw x).length=1)
theorem zdp(p d:List UInt8):yq p d=true ↔ ∃r,p=d++47::r:=by
 unfold yq
 constructor
 ·intro h
  rw[Bool.and_eq_true,Bool.and_eq_true]at h;obtain⟨_,h2,h3⟩:=h
  have h2:p.take d.length=d:=by simpa using h2
  have h3:p[d.length]? =some 47:=by simpa using h3
  obtain⟨q,e⟩:=List.getElem?_eq_some_iff.1 h3;refine⟨p.drop (d.length+1),?_⟩;have:=List.take_append_drop d.length p;rw[List.drop_eq_getElem_cons q,e,h2]at this;exact this.symm
 ·rintro⟨r,rfl⟩
  simp
theorem zkB{p d:List UInt8}(h:¬∃r,p=d++47::r):yq p d=false:=by
 cases hb:yq p d with
 |false=>rfl
 |true=>exact absurd ((zdp p d).1 hb) h
theorem zpz(a b:List UInt8):(a==b)=(b==a):=by
 by_cases h:a=b
 ·rw[h]
 ·rw[show(a==b)=false by simpa using h,show(b==a)=false by simpa using fun e=>h e.symm]
theorem zhw(a b:List UInt8):yS a b=yS b a:=by
 unfold yS;rw[Bool.or_comm (yq a b),zpz]
theorem zhF(a:List UInt8):yS a a=true:=by simp[yS]
theorem zlb(a:List UInt8):yq a a=false:=zkB (by
 rintro⟨r,h⟩;have:=congrArg List.length h
 simp at this)
open Go.RowKit
theorem zqW{w:World}{q:Nat}{t:TypeId}{fr:Nat × Nat}(x:List UInt8)(h:w.heap[q]? =some (.cells #[.string ⟨x.toArray⟩] t fr)):Sl w (.slice (some ⟨q,0,none⟩) 1 1) (zj [x]):=Sl.ofBlock (cs:= #[.string ⟨x.toArray⟩]) h
section
variable{w:World}
theorem zbY{ops:Array Oper}{rest:List Oper}{o:Oper}{a:Act}{Q:Exit->Act->World->Prop}(hgd:o.guard=none)(s sx:Operand)
  (ho:o.op= .call {callee:= .builtin .append,args:= #[s,sx],argTypes:= #[96,96] })
  (base:Nat) (v:Value) (xs:List (List UInt8)) (x:List UInt8) (he:a.eval s=v) (hown:w.ownsRow base 9 1 v xs.length (zj xs)) (q:Nat) (hx:a.eval sx= .slice (some ⟨q,0,none⟩) 1 1) (hq:w.heap.size=q)
  (hlen:xs.length<=4000000000) (hbase:base<=w.heap.size)
  (h:∀v' w',w'.ownsRow base 9 1 v' (xs++[x]).length (zj (xs++[x]))->Below base w w'->wpList Tryz.prog ops Q rest (a.put o.dst v') w'):wpList Tryz.prog ops Q (o::rest) a (w.alloc (.cells #[.string ⟨x.toArray⟩] 9)):=by
 subst hq;obtain⟨i0,hi0,hi1,hi2,hi3⟩:=info_parts Tryz.infoStr;have hs:=(zqW x (heap_alloc_new w (.cells #[.string ⟨x.toArray⟩] 9))).src (P:=Tryz.prog) Tryz.underlying96 (zgC _)
 refine yd _ hgd s sx _ _ ho base 9 i0 _ 1 16 Tryz.underlying96 hi0 hi1 hi2 hi3 rfl (by omega) v _ _ he (hown.alloc _) _ _ _ hx hs (by simp[zj];unfold maxLen;omega) (by simp[zj];omega) (by simp;omega) fun v' w' h2 h3 h4=>h v' w' ?_ ?_
 ·rw[List.length_append,yW]
  exact h2
 ·exact((Below.refl base w).alloc hbase _).grown h3 (by simp;omega) (fun j hj=>(hown.lt j hj).1)
end
section
theorem zmI(p:List UInt8)(w:World)(hl:p.length<=1000000):
  Calls Tryz.prog 68 #[zq p] w fun e w'=>∃u,e= .returned u/\w'.ownsRow w.heap.size 9 1 u (zaw p).length (zj (zaw p))/\Below w.heap.size w w':=by
 have HL:=ze hl;have hpl:=zdS p;have HPL:=ze hpl;obtain⟨R,hR⟩:∃R,zaw p=R:=⟨_,rfl⟩;rw[hR]at HPL ⊢;have HR:=ze (show qD [] p=R from hR);clear hl hpl hR;unfold zq
 go_enter Tryz.func68,Tryz.ntmps68
 go_wp2_with fail
 go_loopg [3,4,5] p.length (fun g v f i wr=>∃ (k j:Nat) (X:List (List UInt8)),k<=p.length/\j<=k/\p.length-k=g/\i= .int .i64 k/\f= .int .i64 j/\Hid (X++qD ((p.take k).drop j) (p.drop k)=R)/\Hid (wr.ownsRow w.heap.size 9 1 v X.length (zj X))/\Below w.heap.size w wr)
 case atStart=>exact⟨0,0,[],Nat.zero_le _,Nat.le_refl _,rfl,rfl,rfl,ze (by simpa using HR.out),ze (World.ownsRow_nil _ _ _ _),Below.refl _ _⟩
 case round=>
  obtain⟨k,j,X,hk,hj,rfl,rfl,rfl,HX,HN,hbel⟩:=hrel;have hz:=hbel.size;have k0:(0:Int)<=(k:Int):=Int.natCast_nonneg _;have j0:(0:Int)<=(j:Int):=Int.natCast_nonneg _;obtain⟨no,nc,rfl⟩:=zl HN.out
  have hxl:X.length<=2000000:=by
   have h1:=HPL.out;have h2:=HL.out;rw[<-HX.out,List.length_append]at h1;omega
  by_cases hlt:k<p.length
  ·have k1:(k:Int)<(p.length:Int):=by omega
   have kw:IntKind.i64.wrap ((k:Int)+1)=(k:Int)+1:=IntWalk.i64_in _ (by have:=HL.out;omega);obtain⟨c,hc⟩:∃c,p[k]? =some c:=⟨p[k],List.getElem?_eq_getElem hlt⟩;have hix:=zaX (P:=Tryz.prog) 9 Tryz.underlying9 hc
   have hd:p.drop k=c::p.drop (k+1):=by
    obtain⟨q,e⟩:=List.getElem?_eq_some_iff.1 hc;rw[List.drop_eq_getElem_cons q,e]
   have ht:p.take (k+1)=p.take k++[c]:=by rw[List.take_add_one,hc];rfl
   by_cases h47:c=47
   ·have hb:(((c.toNat:Nat):Int)==47)=true:=by rw[h47];rfl
    have hsl:=zfV (P:=Tryz.prog) 9 Tryz.underlying9 p j k hj hk
    have hcur:(p.drop j).take (k-j)=(p.take k).drop j:=by rw[List.drop_take]
    rw[hcur]at hsl;obtain⟨x,hx⟩:∃x,(p.take k).drop j=x:=⟨_,rfl⟩;rw[hx]at hsl
    have HX2:=ze (show X++[x]++qD ((p.take (k+1)).drop (k+1)) (p.drop (k+1))=R by
     rw[<-HX.out,hd,hx,qD,if_pos h47,List.drop_of_length_le (by rw[List.length_take];omega)]
     simp)
    clear hd ht hcur hx h47 hc HX
    go_wp2_with (at_builtin;refine zbY rfl (.tmp 16) (.tmp 21) rfl w.heap.size _ X x rfl HN.out _ rfl rfl (by omega) hz ?_;intro v5 w5 hO5 hb5;have HO5:=ze hO5;have hb6:=hbel.trans hb5;clear hO5 hb5)
    go_roundg (p.length-(k+1))
    case measure=>omega
    case rel=>exact⟨k+1,k+1,X++[x],by omega,Nat.le_refl _,rfl,by go_num,by go_num,HX2,HO5,hb6⟩
   ·have hb:(((c.toNat:Nat):Int)==47)=false:=by
     simp;intro h;exact h47 (UInt8.toNat_inj.1 (by rw[show UInt8.toNat 47=47 from rfl];omega))
    have HX2:=ze (show X++qD ((p.take (k+1)).drop j) (p.drop (k+1))=R by
     rw[<-HX.out,hd,qD,if_neg h47,ht,List.drop_append_of_le_length (by rw[List.length_take];omega)])
    clear hd ht h47 hc HX;go_wp2_with fail
    go_roundg (p.length-(k+1))
    case measure=>omega
    case rel=>exact⟨k+1,j,X,by omega,by omega,rfl,by go_num,rfl,HX2,HN,hbel⟩
  ·obtain rfl:k=p.length:=by omega
   have hneg:¬(p.length:Int)<(p.length:Int):=by omega
   have hsl:=zaE (P:=Tryz.prog) 9 Tryz.underlying9 p j hj;obtain⟨x,hx⟩:∃x,p.drop j=x:=⟨_,rfl⟩;rw[hx]at hsl
   have HX2:=ze (show X++[x]=R by
    rw[<-HX.out,List.take_length,List.drop_length,hx]
    rfl)
   clear hx HX
   go_wp2_with (at_builtin;refine zbY rfl (.tmp 25) (.tmp 29) rfl w.heap.size _ X x rfl HN.out _ rfl rfl (by omega) hz ?_;intro v5 w5 hO5 hb5;have HO5:=ze hO5;have hb6:=hbel.trans hb5;clear hO5 hb5)
   go_ret;rw[<-HX2.out];exact⟨_,rfl,HO5.out,hb6⟩
theorem ziq(p:List UInt8)(w:World):
  Calls Tryz.prog 42 #[zq p] w fun e w'=>e= .returned (.bool (yZ p))/\Below w.heap.size w w':=by
 unfold zq
 by_cases hn:1<=p.length/\p.length<=100
 ·have hr:yZ p=(p.all yB&&(zaw p).all xk):=by unfold yZ;rw[decide_eq_true hn,Bool.true_and]
  have p1:decide ((p.length:Int)< 1)=false:=decide_eq_false (by omega);have p2:decide (100 <(p.length:Int))=false:=decide_eq_false (by omega);have p3:decide (p.length<1)=false:=decide_eq_false (by omega);have p4:decide (100<p.length)=false:=decide_eq_false (by omega)
  have p5:p≠ []:=fun e=>by rw[e]at hn;simp at hn
  have HN:=ze hn;have HP:=ze (zmI p w (by omega));have hpl:=zdS p;obtain⟨L,hL⟩:∃L,zaw p=L:=⟨_,rfl⟩;rw[hL]at HP hr hpl;unfold zq at HP;have HLL:=ze (show L.length<=1000 by omega);have HR:=ze hr;clear hn hr hL hpl
  go_enter Tryz.func42,Tryz.ntmps42
  go_wp2_with fail
  go_loopg [3] p.length (fun g i wr=>∃k:Nat,k<=p.length/\p.length-k=g/\i= .int .i64 k/\Hid (p.all yB=(p.drop k).all yB)/\wr=w)
  case atStart=>exact⟨0,Nat.zero_le _,rfl,rfl,ze rfl,rfl⟩
  case round=>
   obtain⟨k,hk,rfl,rfl,HA,rfl⟩:=hrel;have k0:(0:Int)<=(k:Int):=Int.natCast_nonneg _
   by_cases hlt:k<p.length
   ·have k1:(k:Int)<(p.length:Int):=by omega
    have kw:IntKind.i64.wrap ((k:Int)+1)=(k:Int)+1:=IntWalk.i64_in _ (by have:=HN.out;omega);obtain⟨c,hc⟩:∃c,p[k]? =some c:=⟨p[k],List.getElem?_eq_getElem hlt⟩;have hix:=zaX (P:=Tryz.prog) 9 Tryz.underlying9 hc
    have hd:p.drop k=c::p.drop (k+1):=by
     obtain⟨q,e⟩:=List.getElem?_eq_some_iff.1 hc;rw[List.drop_eq_getElem_cons q,e]
    have HX:=ze (show p.all yB=(yB c&&(p.drop (k+1)).all yB) by rw[HA.out,hd];rfl)
    by_cases h1:c.toNat<33
    ·have b1:decide (((c.toNat:Nat):Int)< 33)=true:=decide_eq_true (by omega)
     have b2:decide (c.toNat<33)=true:=decide_eq_true h1
     have hz:yB c=false:=by unfold yB;exact decide_eq_false (by omega)
     have HF:=ze (show yZ p=false by rw[HR.out,HX.out,hz];rfl);clear hd hc h1 hz HX HA;go_wp2_with fail;go_ret;exact⟨by rw[HF.out];rfl,Below.refl _ _⟩
    ·have b1:decide (((c.toNat:Nat):Int)< 33)=false:=decide_eq_false (by omega)
     have b2:decide (c.toNat<33)=false:=decide_eq_false h1
     by_cases h2:126<c.toNat
     ·have b3:decide (126 <((c.toNat:Nat):Int))=true:=decide_eq_true (by omega)
      have b4:decide (126<c.toNat)=true:=decide_eq_true h2
      have hz:yB c=false:=by unfold yB;exact decide_eq_false (by omega)
      have HF:=ze (show yZ p=false by rw[HR.out,HX.out,hz];rfl);clear hd hc h1 h2 hz HX HA;go_wp2_with fail;go_ret;exact⟨by rw[HF.out];rfl,Below.refl _ _⟩
     ·have b3:decide (126 <((c.toNat:Nat):Int))=false:=decide_eq_false (by omega)
      have b4:decide (126<c.toNat)=false:=decide_eq_false h2
      have hz:yB c=true:=by unfold yB;exact decide_eq_true (by omega)
      have HX2:=ze (show p.all yB=(p.drop (k+1)).all yB by rw[HX.out,hz,Bool.true_and]);clear hd hc h1 h2 hz HX HA;go_wp2_with fail
      go_roundg (p.length-(k+1))
      case measure=>omega
      case rel=>exact⟨k+1,by omega,rfl,by go_num,HX2,rfl⟩
   ·obtain rfl:k=p.length:=by omega
    have hneg:¬(p.length:Int)<(p.length:Int):=by omega
    have HR2:=ze (show yZ p=L.all xk by rw[HR.out,HA.out,List.drop_length];rfl);clear HR HA;go_wp2_with fail;refine HP.out.mono ?_;rintro e w1 ⟨v,rfl,ho,hb1⟩;obtain⟨lo,lc,rfl⟩:=zl ho;have HS:=ze (Sl.ofOwns ho);have HB:=ze hb1;clear ho hb1;go_wp2_with fail
    go_loopg [5] L.length (fun g i wx=>∃k:Nat,k<=L.length/\L.length-k=g/\i= .int .i64 k/\Hid (L.all xk=(L.drop k).all xk)/\wx=w1)
    case atStart=>exact⟨0,Nat.zero_le _,rfl,rfl,ze rfl,rfl⟩
    case round=>
     obtain⟨m,hm,rfl,rfl,HA,rfl⟩:=hrel;have m0:(0:Int)<=(m:Int):=Int.natCast_nonneg _
     by_cases hlm:m<L.length
     ·have m1:(m:Int)<(L.length:Int):=by omega
      have mw:IntKind.i64.wrap ((m:Int)+1)=(m:Int)+1:=IntWalk.i64_in _ (by have:=HLL.out;omega);obtain⟨a,x,rfl,hc,hx⟩:=HS.out.strAt' (i:=m) hlm
      have hd:L.drop m=x::L.drop (m+1):=by
       obtain⟨q,e⟩:=List.getElem?_eq_some_iff.1 hx;rw[List.drop_eq_getElem_cons q,e]
      have HX:=ze (show L.all xk=(xk x&&(L.drop (m+1)).all xk) by rw[HA.out,hd];rfl)
      have bad:xk x=false->Hid (yZ p=false):=fun hz=>ze (by rw[HR2.out,HX.out,hz];rfl)
      have good:xk x=true->Hid (L.all xk=(L.drop (m+1)).all xk):=fun hz=>ze (by rw[HX.out,hz,Bool.true_and])
      clear hd hx HX HA
      by_cases h1:x=[]
      ·subst h1
       have HF:=bad rfl;clear bad good;go_wp2_with fail;go_ret;exact⟨by rw[HF.out];rfl,HB.out⟩
      ·have b1:(x==[])=false:=by simpa using h1
       by_cases h2:x=[46]
       ·subst h2
        have HF:=bad rfl;clear bad good h1;go_wp2_with fail;go_ret;exact⟨by rw[HF.out];rfl,HB.out⟩
       ·have b2:(x==[46])=false:=by simpa using h2
        by_cases h3:x=[46,46]
        ·subst h3
         have HF:=bad rfl;clear bad good h1 h2;go_wp2_with fail;go_ret;exact⟨by rw[HF.out];rfl,HB.out⟩
        ·have b3:(x==[46,46])=false:=by simpa using h3
         have HX2:=good (by unfold xk bne;rw[b1,b2,b3];rfl);clear bad good h2 h3;go_wp2_with fail
         go_roundg (L.length-(m+1))
         case measure=>omega
         case rel=>exact⟨m+1,by omega,rfl,by go_num,HX2,rfl⟩
     ·obtain rfl:m=L.length:=by omega
      have hneg2:¬(L.length:Int)<(L.length:Int):=by omega
      have HF:=ze (show yZ p=true by rw[HR2.out,HA.out,List.drop_length];rfl);go_wp2_with fail;go_ret;exact⟨by rw[HF.out];rfl,HB.out⟩
 ·have hr:yZ p=false:=by unfold yZ;rw[decide_eq_false hn,Bool.false_and]
  have HR:=ze hr
  by_cases h1:p.length<1
  ·have p1:decide ((p.length:Int)< 1)=true:=decide_eq_true (by omega)
   have p3:decide (p.length<1)=true:=decide_eq_true h1;obtain rfl:p=[]:=List.eq_nil_of_length_eq_zero (by omega);clear hn hr h1 p1 p3
   go_enter Tryz.func42,Tryz.ntmps42
   go_wp2_with fail;go_ret;exact⟨rfl,Below.refl _ _⟩
  ·have p1:decide ((p.length:Int)< 1)=false:=decide_eq_false (by omega)
   have p2:decide (100 <(p.length:Int))=true:=decide_eq_true (by omega);have p3:decide (p.length<1)=false:=decide_eq_false h1;have p4:decide (100<p.length)=true:=decide_eq_true (by omega);clear hn hr
   go_enter Tryz.func42,Tryz.ntmps42
   go_wp2_with fail;go_ret;exact⟨by rw[HR.out];rfl,Below.refl _ _⟩
theorem zgo(p d:List UInt8)(w:World):
  Calls Tryz.prog 46 #[zq p,zq d] w fun e w'=>e= .returned (.bool (yq p d))/\w=w':=by
 unfold zq
 by_cases h1:d.length<p.length
 ·have b1:decide ((d.length:Int)<(p.length:Int))=true:=decide_eq_true (by omega)
  have b2:decide (d.length<p.length)=true:=decide_eq_true h1
  have b3:(d.length:Int)<(p.length:Int):=by omega
  obtain⟨c,hc⟩:∃c,p[d.length]? =some c:=⟨p[d.length],List.getElem?_eq_getElem h1⟩;have hix:=zaX (P:=Tryz.prog) 9 Tryz.underlying9 hc;have hsl:=zef (P:=Tryz.prog) 9 Tryz.underlying9 p d.length (by omega)
  have hW:yq p d=((p.take d.length==d)&&(c==47)):=by
   unfold yq;rw[b2,Bool.true_and,hc]
   rfl
  obtain⟨x,hx⟩:∃x,p.take d.length=x:=⟨_,rfl⟩;rw[hx]at hsl hW;obtain⟨W,hWW⟩:∃W,yq p d=W:=⟨_,rfl⟩;rw[hWW]at hW ⊢
  by_cases h2:x=d
  ·have c1:(x==d)=true:=by simpa using h2
   by_cases h3:c=47
   ·have c2:(((c.toNat:Nat):Int)==47)=true:=by rw[h3];rfl
    have HW:=ze (show W=true by rw[hW,c1,h3];rfl);clear hW hWW hx hc h2 h3
    go_enter Tryz.func46,Tryz.ntmps46
    go_wp2_with fail;go_ret;exact⟨by rw[HW.out];rfl,rfl⟩
   ·have c2:(((c.toNat:Nat):Int)==47)=false:=by
     simp;intro h;exact h3 (UInt8.toNat_inj.1 (by rw[show UInt8.toNat 47=47 from rfl];omega))
    have HW:=ze (show W=false by rw[hW,c1,Bool.true_and];simpa using h3);clear hW hWW hx hc h2 h3
    go_enter Tryz.func46,Tryz.ntmps46
    go_wp2_with fail;go_ret;exact⟨by rw[HW.out];rfl,rfl⟩
  ·have c1:(x==d)=false:=by simpa using h2
   have HW:=ze (show W=false by rw[hW,c1];rfl);clear hW hWW hx hc h2
   go_enter Tryz.func46,Tryz.ntmps46
   go_wp2_with fail;go_ret;exact⟨by rw[HW.out];rfl,rfl⟩
 ·have b1:decide ((d.length:Int)<(p.length:Int))=false:=decide_eq_false (by omega)
  have b2:decide (d.length<p.length)=false:=decide_eq_false h1
  have b3:¬(d.length:Int)<(p.length:Int):=by omega
  have HW:=ze (show yq p d=false by unfold yq;rw[b2];rfl)
  go_enter Tryz.func46,Tryz.ntmps46
  go_wp2_with fail;go_ret;exact⟨by rw[HW.out];rfl,rfl⟩
theorem zhx(a b:List UInt8)(w:World):
  Calls Tryz.prog 23 #[zq a,zq b] w fun e w'=>e= .returned (.bool (yS a b))/\w=w':=by
 have H1:=ze (zgo a b w);have H2:=ze (zgo b a w);have hC:yS a b=(a==b ||(yq a b ||yq b a)):=rfl;obtain⟨C,hCC⟩:∃C,yS a b=C:=⟨_,rfl⟩;obtain⟨x,hx⟩:∃x,yq a b=x:=⟨_,rfl⟩;obtain⟨y,hy⟩:∃y,yq b a=y:=⟨_,rfl⟩;rw[hCC,hx,hy]at hC;rw[hx]at H1;rw[hy]at H2;rw[hCC];unfold zq at H1 H2 ⊢;clear hCC hx hy
 by_cases h:a=b
 ·have c1:(a==b)=true:=by simpa using h
  have HC:=ze (show C=true by rw[hC,c1];rfl);clear hC h
  go_enter Tryz.func23,Tryz.ntmps23
  go_wp2_with fail;go_ret;exact⟨by rw[HC.out];rfl,rfl⟩
 ·have c1:(a==b)=false:=by simpa using h
  rw[c1,Bool.false_or]at hC;have HC:=ze hC;clear hC h
  go_enter Tryz.func23,Tryz.ntmps23
  cases x <;>(
   go_wp2_with (first
    |(go_at_call 46;with_reducible refine H1.out.mono ?_;rintro e _ ⟨rfl,rfl⟩)
    |(go_at_call 46;with_reducible refine H2.out.mono ?_;rintro e _ ⟨rfl,rfl⟩))
   go_ret
   exact⟨by rw[HC.out];rfl,rfl⟩)
end
open Go.RowKit Go.Shelf
def Tryz.lays221_ren:Go.Shelf.Ren:=⟨fun |138=>159 |143=>160 |195=>176 |197=>177 |217=>196 |218=>178 |219=>179 |221=>137 |224=>198 |225=>197 |260=>195 |266=>210 |267=>199 |268=>158 |314=>211 |n=>n,fun |0=>0 |3=>3 |4=>4 |5=>5 |9=>9 |21=>21 |31=>96 |46=>126 |51=>110 |105=>234 |119=>265 |138=>267 |139=>268 |146=>237 |n=>n,fun |1=>0 |3=>1 |4=>2 |n=>n⟩
theorem Tryz.lays221:Go.Proofs.Lays.n221 Tryz.prog Tryz.lays221_ren:= {
 mixed:=by kernel_rfl
 f138:=Tryz.func159.trans (congrArg some (by kernel_rfl))
 f143:=Tryz.func160.trans (congrArg some (by kernel_rfl))
 f195:=Tryz.func176.trans (congrArg some (by kernel_rfl))
 f197:=Tryz.func177.trans (congrArg some (by kernel_rfl))
 f217:=Tryz.func196.trans (congrArg some (by kernel_rfl))
 f218:=Tryz.func178.trans (congrArg some (by kernel_rfl))
 f219:=Tryz.func179.trans (congrArg some (by kernel_rfl))
 f221:=Tryz.func137.trans (congrArg some (by kernel_rfl))
 f224:=Tryz.func198.trans (congrArg some (by kernel_rfl))
 f225:=Tryz.func197.trans (congrArg some (by kernel_rfl))
 f260:=Tryz.func195.trans (congrArg some (by kernel_rfl))
 f266:=Tryz.func210.trans (congrArg some (by kernel_rfl))
 f267:=Tryz.func199.trans (congrArg some (by kernel_rfl))
 f268:=Tryz.func158.trans (congrArg some (by kernel_rfl))
 f314:=Tryz.func211.trans (congrArg some (by kernel_rfl))
 t0:=Tryz.underlying0
 a0:=Tryz.isAgg0
 z0:=Tryz.sizeOf0
 v0:=Tryz.zeroValue0
 t3:=Tryz.underlying3
 a3:=Tryz.isAgg3
 z3:=Tryz.sizeOf3
 v3:=Tryz.zeroValue3
 t4:=Tryz.underlying4
 a4:=Tryz.isAgg4
 z4:=Tryz.sizeOf4
 v4:=Tryz.zeroValue4
 t5:=Tryz.underlying5
 a5:=Tryz.isAgg5
 z5:=Tryz.sizeOf5
 v5:=Tryz.zeroValue5
 t9:=Tryz.underlying9
 a9:=Tryz.isAgg9
 z9:=Tryz.sizeOf9
 v9:=Tryz.zeroValue9
 t21:=Tryz.underlying21
 a21:=Tryz.isAgg21
 z21:=Tryz.sizeOf21
 v21:=Tryz.zeroValue21
 t31:=Tryz.underlying96
 a31:=Tryz.isAgg96
 z31:=Tryz.sizeOf96
 v31:=Tryz.zeroValue96
 t46:=Tryz.underlying126
 a46:=Tryz.isAgg126
 z46:=Tryz.sizeOf126
 v46:=Tryz.zeroValue126
 t51:=Tryz.underlying110
 a51:=Tryz.isAgg110
 z51:=Tryz.sizeOf110
 v51:=Tryz.zeroValue110
 t105:=Tryz.underlying234
 a105:=Tryz.isAgg234
 z105:=Tryz.sizeOf234
 v105:=Tryz.zeroValue234
 t119:=Tryz.underlying265
 a119:=Tryz.isAgg265
 z119:=Tryz.sizeOf265
 t138:=Tryz.underlying267
 a138:=Tryz.isAgg267
 z138:=Tryz.sizeOf267
 v138:=Tryz.zeroValue267
 t139:=Tryz.underlying268
 a139:=Tryz.isAgg268
 z139:=Tryz.sizeOf268
 v139:=Tryz.zeroValue268
 t146:=Tryz.underlying237
 a146:=Tryz.isAgg237
 z146:=Tryz.sizeOf237
 v146:=Tryz.zeroValue237
 g1:=by kernel_rfl
 g3:=by kernel_rfl
 g4:=by kernel_rfl }
def zcy(c:UInt8):List UInt8->List UInt8->List (List UInt8)
 |cur,[]=>[cur]
 |cur,x::r=>if x=c then cur::zcy c [] r else zcy c (cur++[x]) r
theorem zgP(c:UInt8):∀cur:List UInt8,(∀x∈cur,x≠c)->Lib.index cur [c]= -1
 | [],_ =>by simp[Lib.index]
 |b::l,h=>by
  have ih:=zgP c l fun x hx=>h x (by simp[hx])
  have hb:([c]:List UInt8).isPrefixOf (b::l)=false:=by simp[List.isPrefixOf,Ne.symm (h b (by simp))]
  rw[Lib.index,hb,ih]
  rfl
theorem zkz(c:UInt8)(r:List UInt8):∀cur:List UInt8,(∀x∈cur,x≠c)->Lib.index (cur++c::r) [c]=(cur.length:Int)
 | [],_ =>by simp[Lib.index,List.isPrefixOf]
 |b::l,h=>by
  have ih:=zkz c r l fun x hx=>h x (by simp[hx])
  have hb:([c]:List UInt8).isPrefixOf (b::(l++c::r))=false:=by simp[List.isPrefixOf,Ne.symm (h b (by simp))]
  rw[List.cons_append,Lib.index,hb,ih];have hne:(((l.length:Nat):Int)== -1)=false:=beq_false_of_ne (by omega);simp[hne]
theorem zdl(c:UInt8):∀ (p cur:List UInt8),(∀x∈cur,x≠c)->Lib.splitK [c] 0 (Lib.count (cur++p) [c]) (cur++p)=zcy c cur p
 | [],cur,h=>by
  rw[List.append_nil,Lib.count_miss (zgP c cur h)]
  rfl
 |x::r,cur,h=>by
  by_cases hx:x=c
  ·subst hx
   have hi:=zkz x r cur h;rw[Lib.count_hit (by simp) hi,Nat.add_comm 1,Lib.splitK,hi];have hne:(((cur.length:Nat):Int)== -1)=false:=beq_false_of_ne (by omega)
   have hd:(cur++x::r).drop (cur.length+[x].length)=r:=by
    rw[show cur++x::r=(cur++[x])++r by simp,List.drop_left' (by simp)]
   have ih:=zdl x r [] (by simp);rw[List.nil_append]at ih;simp only[hne,Int.toNat_natCast,Nat.add_zero,Bool.false_eq_true,if_false];rw[hd,ih,zcy,if_pos rfl,List.take_left' rfl]
  ·have ih:=zdl c r (cur++[x]) (by
    intro y hy
    rcases List.mem_append.1 hy with hy |hy
    ·exact h y hy
    ·rw[List.mem_singleton.1 hy];exact hx)
   rw[List.append_assoc,List.singleton_append]at ih;rw[ih,zcy,if_neg hx]
theorem zlL(cur p:List UInt8):zcy 47 cur p=qD cur p:=by
 induction p generalizing cur with
 |nil=>rfl
 |cons x r ih=>rw[zcy,qD,ih,ih]
theorem zqU(l:List ByteArray):l.map Value.string=zj (l.map fun b=>b.data.toList):=by
 rw[zj,List.map_map]
 rfl
section
theorem zne(p:List UInt8)(c:UInt8)(w:World)(hl:p.length<=1000000):
  Calls Tryz.prog 114 #[zq p,.string ⟨#[c]⟩] w fun e w'=>∃u,e= .returned u/\Sl w' u (zj (zcy c [] p))/\Below w.heap.size w w':=by
 have L:=Tryz.lays221
 have hsz:(⟨p.toArray⟩:ByteArray).size=p.length:=by simp[ByteArray.size]
 have h1:1<=(⟨#[c]⟩:ByteArray).size:=Nat.le_refl 1;have hle:=Lib.countB_le ⟨#[c]⟩ h1 p.length ⟨p.toArray⟩ (by omega);have hlen:=Lib.splitB_all ⟨#[c]⟩ h1 0 _ ⟨p.toArray⟩ rfl
 have hC:=(Any.strings_Count_one {L with } ⟨p.toArray⟩ c w).mono (R':=fun e w'=>e= .returned (.int .i64 (Lib.countB ⟨p.toArray⟩ ⟨#[c]⟩))/\w'=w) fun e w' ⟨he,hw⟩=>⟨by
  rw[he];show _ =Ending.returned (Value.int .i64 ((Lib.count p [c]:Nat):Int));rw[Lib.count_one]
  rfl,hw⟩
 have hI:∀ (x:ByteArray) (cs:Array Value),x.size<=(⟨p.toArray⟩:ByteArray).size->Calls Tryz.prog (Tryz.lays221_ren.f 143) #[.string x,.string ⟨#[c]⟩] (w.alloc (.cells cs (Tryz.lays221_ren.t 9))) fun e w'=>e= .returned (.int .i64 (Lib.indexB x ⟨#[c]⟩))/\w'=w.alloc (.cells cs (Tryz.lays221_ren.t 9)):=fun x cs _ =>
  (Any.strings_Index_one {L with } x c _).mono fun e w' ⟨he,hw⟩=>⟨by
   rw[he];show _ =Ending.returned (Value.int .i64 (Lib.index x.data.toList [c]))
   rw[Lib.index_one],hw⟩
 have g:=Any.strings_genSplit_core L (by kernel_rfl) ⟨p.toArray⟩ ⟨#[c]⟩ 0 (-1) (Lib.countB ⟨p.toArray⟩ ⟨#[c]⟩+1) w (by omega) h1 (Nat.zero_le _) hI hC (by decide) (by decide) (by rw[if_pos (by decide)];omega);rw[Nat.add_sub_cancel,hlen]at g
 have e2:Lib.cellsOf (Lib.splitB ⟨#[c]⟩ 0 (Lib.countB ⟨p.toArray⟩ ⟨#[c]⟩) ⟨p.toArray⟩) (Lib.countB ⟨p.toArray⟩ ⟨#[c]⟩+1)=(zj (zcy c [] p)).toArray:=by
  rw[<-hlen,Lib.cellsOf_full,zqU,Lib.splitB_data];have:=zdl c p [] (by simp);rw[List.nil_append]at this;exact congrArg (fun l=>(zj l).toArray) this
 have e3:Lib.countB ⟨p.toArray⟩ ⟨#[c]⟩+1=(zj (zcy c [] p)).toArray.size:=by
  rw[<-e2,<-hlen,Lib.cellsOf_full];simp
 rw[e2,e3]at g
 have G:Calls Tryz.prog 137 #[zq p,.string ⟨#[c]⟩,.int .i64 0,.int .i64 (-1)] w fun e w'=>∃u,e= .returned u/\Hid (Sl w' u (zj (zcy c [] p)))/\Hid (Below w.heap.size w w'):=by
  refine g.mono ?_;rintro e w' ⟨rfl,rfl⟩;refine⟨_,rfl,ze ?_,ze ((Below.refl _ _).alloc (Nat.le_refl _) _)⟩;have:=Sl.ofBlock (heap_alloc_new w (.cells (zj (zcy c [] p)).toArray (Tryz.lays221_ren.t 9)));simpa using this
 have HG:=ze G;clear g G e2 e3 hC hI L hsz h1 hle hlen hl;unfold zq at HG ⊢
 go_enter Tryz.func114,Tryz.ntmps114
 go_wp2_with fail;refine HG.out.mono ?_;rintro e w1 ⟨u,rfl,HS,HB⟩;go_wp2_with fail;go_ret;exact⟨u,rfl,HS.out,HB.out⟩
end
open Go.RowKit
section
def qC(s p:List UInt8):Bool:=decide (p.length<=s.length)&&s.take p.length==p
theorem zlB(p d:List UInt8):yq p d=(qC p d&&qC (p.drop d.length) [47]):=by
 unfold yq qC
 by_cases h1:d.length<p.length
 ·obtain⟨c,hc⟩:∃c,p[d.length]? =some c:=⟨p[d.length],List.getElem?_eq_getElem h1⟩
  have hd:p.drop d.length=c::p.drop (d.length+1):=by
   obtain⟨q,e⟩:=List.getElem?_eq_some_iff.1 hc;rw[List.drop_eq_getElem_cons q,e]
  rw[hd,hc,decide_eq_true h1,decide_eq_true (Nat.le_of_lt h1)];simp
 ·rw[decide_eq_false h1]
  have:(p.drop d.length).length=0:=by rw[List.length_drop];omega
  rw[List.eq_nil_of_length_eq_zero this];simp
end
section
theorem zji(s p:List UInt8)(w:World):
  Calls Tryz.prog 169 #[zq s,zq p] w fun e w'=>e= .returned (.bool (qC s p))/\w=w':=by
 unfold zq
 by_cases h1:p.length<=s.length
 ·have b1:decide ((p.length:Int)<=(s.length:Int))=true:=decide_eq_true (by omega)
  have b2:decide (p.length<=s.length)=true:=decide_eq_true h1;have hsl:=zef (P:=Tryz.prog) 9 Tryz.underlying9 s p.length h1
  have hW:qC s p=(s.take p.length==p):=by
   unfold qC;rw[b2,Bool.true_and]
  obtain⟨x,hx⟩:∃x,s.take p.length=x:=⟨_,rfl⟩;rw[hx]at hsl hW;have HW:=ze hW;clear hW hx
  go_enter Tryz.func169,Tryz.ntmps169
  go_wp2_with fail;go_ret;exact⟨by rw[HW.out];rfl,rfl⟩
 ·have b1:decide ((p.length:Int)<=(s.length:Int))=false:=decide_eq_false (by omega)
  have b2:decide (p.length<=s.length)=false:=decide_eq_false h1;have HW:=ze (show qC s p=false by unfold qC;rw[b2];rfl)
  go_enter Tryz.func169,Tryz.ntmps169
  go_wp2_with fail;go_ret;exact⟨by rw[HW.out];rfl,rfl⟩
theorem zoP(s p:List UInt8)(w:World):
  Calls Tryz.prog 146 #[zq s,zq p] w fun e w'=>e= .returned (.bool (qC s p))/\w=w':=by
 have H:=ze (zji s p w);unfold zq at H ⊢
 go_enter Tryz.func146,Tryz.ntmps146
 go_wp2_with fail;refine H.out.mono ?_;rintro e w1 ⟨rfl,rfl⟩;go_wp2_with fail;go_ret;exact⟨rfl,rfl⟩
theorem zoN(s p:List UInt8)(w:World):
  Calls Tryz.prog 168 #[zq s,zq p] w fun e w'=>e= .returned (.tuple #[zq (if qC s p then s.drop p.length else s),.bool (qC s p)])/\w=w':=by
 have H:=ze (zji s p w);obtain⟨b,hb⟩:∃b,qC s p=b:=⟨_,rfl⟩
 have hl:b=true->p.length<=s.length:=fun h=>by
  rw[<-hb]at h;unfold qC at h;exact of_decide_eq_true (Bool.and_eq_true _ _ ▸ h).1
 rw[hb]at H ⊢;clear hb;unfold zq at H ⊢
 cases b with
 |true=>
  have hsl:=zaE (P:=Tryz.prog) 9 Tryz.underlying9 s p.length (hl rfl);obtain⟨x,hx⟩:∃x,s.drop p.length=x:=⟨_,rfl⟩;rw[hx]at hsl;have HX:=ze hx;clear hl hx
  go_enter Tryz.func168,Tryz.ntmps168
  go_wp2_with fail;refine H.out.mono ?_;rintro e w1 ⟨rfl,rfl⟩;go_wp2_with fail
  go_ret2
  exact⟨by rw[<-HX.out];rfl,rfl⟩
 |false=>
  clear hl
  go_enter Tryz.func168,Tryz.ntmps168
  go_wp2_with fail;refine H.out.mono ?_;rintro e w1 ⟨rfl,rfl⟩;go_wp2_with fail
  go_ret2
  exact⟨rfl,rfl⟩
theorem zop(s p:List UInt8)(w:World):
  Calls Tryz.prog 145 #[zq s,zq p] w fun e w'=>e= .returned (.tuple #[zq (if qC s p then s.drop p.length else s),.bool (qC s p)])/\w=w':=by
 obtain⟨x,hx⟩:∃x,(if qC s p then s.drop p.length else s)=x:=⟨_,rfl⟩;obtain⟨b,hb⟩:∃b,qC s p=b:=⟨_,rfl⟩;have H:=zoN s p w;rw[hx,hb]at H ⊢;have H:=ze H;clear hx hb;unfold zq at H ⊢
 go_enter Tryz.func145,Tryz.ntmps145
 go_wp2_with fail;refine H.out.mono ?_;rintro e w1 ⟨rfl,rfl⟩;go_wp2_with fail
 go_ret2
 exact⟨rfl,rfl⟩
theorem zlO(p:List UInt8)(w:World)(hl:p.length<=1000000):
  Calls Tryz.prog 87 #[zq p] w fun e w'=>∃u,e= .returned u/\Sl w' u (zj (zaw p))/\Below w.heap.size w w':=by
 have H:=zne p 47 w hl;rw[zlL]at H;have H:=ze H;clear hl;unfold zaw;unfold zq at H ⊢
 go_enter Tryz.func87,Tryz.ntmps87
 go_wp2_with fail;refine H.out.mono ?_;rintro e w1 ⟨u,rfl,ho,hb⟩;have HS:=ze ho;have HB:=ze hb;clear ho hb;go_wp2_with fail;go_ret;exact⟨u,rfl,HS.out,HB.out⟩
theorem zof(x:List UInt8)(w:World):
  Calls Tryz.prog 88 #[zq x] w fun e w'=>e= .returned (.bool (xk x))/\w=w':=by
 have hY:xk x=(!(x==[])&&(!(x==[46]) && !(x==[46,46]))):=rfl;obtain⟨Y,hYY⟩:∃Y,xk x=Y:=⟨_,rfl⟩;rw[hYY]at hY ⊢;unfold zq;clear hYY
 by_cases h1:x=[]
 ·have b1:(x==[])=true:=by simpa using h1
  have HY:=ze (show Y=false by rw[hY,b1];rfl);clear h1 hY
  go_enter Tryz.func88,Tryz.ntmps88
  go_wp2_with fail;go_ret;exact⟨by rw[HY.out];rfl,rfl⟩
 ·have b1:(x==[])=false:=by simpa using h1
  by_cases h2:x=[46]
  ·have b2:(x==[46])=true:=by simpa using h2
   have HY:=ze (show Y=false by rw[hY,b1,b2];rfl);clear h1 h2 hY
   go_enter Tryz.func88,Tryz.ntmps88
   go_wp2_with fail;go_ret;exact⟨by rw[HY.out];rfl,rfl⟩
  ·have b2:(x==[46])=false:=by simpa using h2
   by_cases h3:x=[46,46]
   ·have b3:(x==[46,46])=true:=by simpa using h3
    have HY:=ze (show Y=false by rw[hY,b1,b2,b3];rfl);clear h1 h2 h3 hY
    go_enter Tryz.func88,Tryz.ntmps88
    go_wp2_with fail;go_ret;exact⟨by rw[HY.out];rfl,rfl⟩
   ·have b3:(x==[46,46])=false:=by simpa using h3
    have HY:=ze (show Y=true by rw[hY,b1,b2,b3];rfl);clear h1 h2 h3 hY
    go_enter Tryz.func88,Tryz.ntmps88
    go_wp2_with fail;go_ret;exact⟨by rw[HY.out];rfl,rfl⟩
theorem zlS(p:List UInt8)(w:World)(hl:p.length<=1000000):
  Calls Tryz.prog 86 #[zq p] w fun e w'=>e= .returned (.bool (p.all yB))/\Below w.heap.size w w':=by
 have HL:=ze hl;obtain⟨cap,wc,hcv,hsc,hzc,hbc⟩:=zjD (P:=Tryz.prog) w 9 133 5 p Tryz.underlying9 Tryz.underlying133 Tryz.underlying5;have HS:=ze hsc;have HB:=ze hbc;clear hsc hbc hl;unfold zq
 go_enter Tryz.func86,Tryz.ntmps86
 go_wp2_with fail
 go_loopg [9] p.length (fun g i wr=>∃k:Nat,k<=p.length/\p.length-k=g/\i= .int .i64 k/\Hid (p.all yB=(p.drop k).all yB)/\wr=wc)
 case atStart=>exact⟨0,Nat.zero_le _,rfl,rfl,ze rfl,rfl⟩
 case round=>
  obtain⟨k,hk,rfl,rfl,HA,rfl⟩:=hrel;have k0:(0:Int)<=(k:Int):=Int.natCast_nonneg _
  by_cases hlt:k<p.length
  ·have k1:(k:Int)<(p.length:Int):=by omega
   have kw:IntKind.i64.wrap ((k:Int)+1)=(k:Int)+1:=IntWalk.i64_in _ (by have:=HL.out;omega);obtain⟨a,c,hae,hcell,hc⟩:=HS.out.byteAt' (i:=k) hlt;cases hae;rw[Addr.add_lit,Nat.zero_add]at hcell;have c256:=c.toNat_lt;have cw:wrap64 ((c.toNat:Nat):Int)=((c.toNat:Nat):Int):=IntWalk.wrap64_in _ (by omega);have cw':IntKind.i64.wrap ((c.toNat:Nat):Int)=((c.toNat:Nat):Int):=IntWalk.i64_in _ (by omega);clear c256
   have hd:p.drop k=c::p.drop (k+1):=by
    obtain⟨q,e⟩:=List.getElem?_eq_some_iff.1 hc;rw[List.drop_eq_getElem_cons q,e]
   have HX:=ze (show p.all yB=(yB c&&(p.drop (k+1)).all yB) by rw[HA.out,hd];rfl)
   by_cases h1:c.toNat<33
   ·have b1:decide (((c.toNat:Nat):Int)< 33)=true:=decide_eq_true (by omega)
    have b2:decide (c.toNat<33)=true:=decide_eq_true h1
    have hz:yB c=false:=by unfold yB;exact decide_eq_false (by omega)
    have HF:=ze (show p.all yB=false by rw[HX.out,hz];rfl);clear hd hc h1 hz HX HA;go_wp2_with fail;go_ret;exact⟨by rw[HF.out];rfl,HB.out⟩
   ·have b1:decide (((c.toNat:Nat):Int)< 33)=false:=decide_eq_false (by omega)
    have b2:decide (c.toNat<33)=false:=decide_eq_false h1
    by_cases h2:126<c.toNat
    ·have b3:decide (126 <((c.toNat:Nat):Int))=true:=decide_eq_true (by omega)
     have b4:decide (126<c.toNat)=true:=decide_eq_true h2
     have hz:yB c=false:=by unfold yB;exact decide_eq_false (by omega)
     have HF:=ze (show p.all yB=false by rw[HX.out,hz];rfl);clear hd hc h1 h2 hz HX HA;go_wp2_with fail;go_ret;exact⟨by rw[HF.out];rfl,HB.out⟩
    ·have b3:decide (126 <((c.toNat:Nat):Int))=false:=decide_eq_false (by omega)
     have b4:decide (126<c.toNat)=false:=decide_eq_false h2
     have hz:yB c=true:=by unfold yB;exact decide_eq_true (by omega)
     have HX2:=ze (show p.all yB=(p.drop (k+1)).all yB by rw[HX.out,hz,Bool.true_and]);clear hd hc h1 h2 hz HX HA;go_wp2_with fail
     go_roundg (p.length-(k+1))
     case measure=>omega
     case rel=>exact⟨k+1,by omega,rfl,by go_num,HX2,rfl⟩
  ·obtain rfl:k=p.length:=by omega
   have hneg:¬(p.length:Int)<(p.length:Int):=by omega
   have HF:=ze (show p.all yB=true by rw[HA.out,List.drop_length];rfl);clear HA;go_wp2_with fail;go_ret;exact⟨by rw[HF.out];rfl,HB.out⟩
theorem zgi(p d:List UInt8)(w:World)(_hp:p.length<=1000000)(_hd:d.length<=1000000):
  Calls Tryz.prog 121 #[zq p,zq d] w fun e w'=>e= .returned (.bool (yq p d))/\Below w.heap.size w w':=by
 have hY:=zlB p d;obtain⟨Y,hYY⟩:∃Y,yq p d=Y:=⟨_,rfl⟩;rw[hYY]at hY ⊢;have H1:=zop p d w;obtain⟨b,hb⟩:∃b,qC p d=b:=⟨_,rfl⟩;rw[hb]at hY H1;clear hYY hb _hp _hd
 cases b with
 |true=>
  rw[if_pos rfl]at H1;have H2:=zoP (p.drop d.length) [47] w;obtain⟨x,hx⟩:∃x,p.drop d.length=x:=⟨_,rfl⟩;rw[hx]at hY H1 H2;obtain⟨y,hy⟩:∃y,qC x [47]=y:=⟨_,rfl⟩;rw[hy]at hY H2;have HY:=ze hY;have H1:=ze H1;have H2:=ze H2;clear hx hy hY;unfold zq at H1 H2 ⊢
  go_enter Tryz.func121,Tryz.ntmps121
  go_wp2_with (first
   |(go_at_call 145;with_reducible refine H1.out.mono ?_;rintro e _ ⟨rfl,rfl⟩)
   |(go_at_call 146;with_reducible refine H2.out.mono ?_;rintro e _ ⟨rfl,rfl⟩))
  go_ret;exact⟨by rw[HY.out];rfl,Below.refl _ _⟩
 |false=>
  rw[if_neg (by decide)]at H1;have HY:=ze (show Y=false by rw[hY];rfl);have H1:=ze H1;clear hY;unfold zq at H1 ⊢
  go_enter Tryz.func121,Tryz.ntmps121
  go_wp2_with (first
   |(go_at_call 145;with_reducible refine H1.out.mono ?_;rintro e _ ⟨rfl,rfl⟩))
  go_ret;exact⟨by rw[HY.out];rfl,Below.refl _ _⟩
theorem zmx(p d:List UInt8)(w:World)(hp:p.length<=1000000)(hd:d.length<=1000000):
  Calls Tryz.prog 92 #[zq p,zq d] w fun e w'=>e= .returned (.bool (yS p d))/\Below w.heap.size w w':=by
 have H1:=ze fun wx=>zgi p d wx hp hd
 have H2:=ze fun wx=>zgi d p wx hd hp
 have hC:yS p d=(p==d ||(yq p d ||yq d p)):=rfl;obtain⟨C,hCC⟩:∃C,yS p d=C:=⟨_,rfl⟩;obtain⟨x,hx⟩:∃x,yq p d=x:=⟨_,rfl⟩;obtain⟨y,hy⟩:∃y,yq d p=y:=⟨_,rfl⟩;rw[hCC,hx,hy]at hC;rw[hx]at H1;rw[hy]at H2;rw[hCC];unfold zq at H1 H2 ⊢;clear hCC hx hy hp hd
 by_cases h:p=d
 ·have c1:(p==d)=true:=by simpa using h
  have HC:=ze (show C=true by rw[hC,c1];rfl);clear hC h
  go_enter Tryz.func92,Tryz.ntmps92
  go_wp2_with fail;go_ret;exact⟨by rw[HC.out];rfl,Below.refl _ _⟩
 ·have c1:(p==d)=false:=by simpa using h
  rw[c1,Bool.false_or]at hC;have HC:=ze hC;clear hC h
  go_enter Tryz.func92,Tryz.ntmps92
  cases x <;>(
   go_wp2_with (first
    |(go_at_call 121;with_reducible refine(H1.out _).mono ?_;rintro e w1 ⟨rfl,hb1⟩;have HB1:=ze hb1;clear hb1)
    |(go_at_call 121;with_reducible refine(H2.out _).mono ?_;rintro e w2 ⟨rfl,hb2⟩;have HB1:=ze (zi HB1.out hb2 HB1.out.size);clear hb2))
   go_ret
   exact⟨by rw[HC.out];rfl,HB1.out⟩)
theorem zlx(p:List UInt8)(w:World)(hl:p.length<=1000000):
  Calls Tryz.prog 69 #[zq p] w fun e w'=>e= .returned (.bool (yZ p))/\Below w.heap.size w w':=by
 have hr:yZ p=(decide (p.length<=100)&&(p.all yB&&(zaw p).all xk)):=by
  unfold yZ
  by_cases h0:p.length=0
  ·obtain rfl:=List.eq_nil_of_length_eq_zero h0
   rfl
  ·by_cases h1:p.length<=100
   ·rw[decide_eq_true h1,decide_eq_true ⟨by omega,h1⟩]
   ·rw[decide_eq_false h1,decide_eq_false (fun h=>h1 h.2)]
 obtain⟨Y,hYY⟩:∃Y,yZ p=Y:=⟨_,rfl⟩;rw[hYY]at hr ⊢;clear hYY;have H1:=zlS p w hl;obtain⟨b,hb⟩:∃b,p.all yB=b:=⟨_,rfl⟩;rw[hb]at hr H1;clear hb;have H1:=ze H1
 have H2:=ze fun wx=>zlO p wx hl
 have hpl:=zdS p;obtain⟨L,hL⟩:∃L,zaw p=L:=⟨_,rfl⟩;rw[hL]at H2 hr hpl;have HLL:=ze (show L.length<=1000001 by omega);clear hL hpl hl;unfold zq at H1 H2 ⊢
 by_cases hn:p.length<=100
 ·have p2:decide (100 <(p.length:Int))=false:=decide_eq_false (by omega)
  have p4:decide (100<p.length)=false:=decide_eq_false (by omega);rw[decide_eq_true hn,Bool.true_and]at hr
  cases b with
  |false=>
   have HY:=ze (show Y=false by rw[hr];rfl);clear hr hn
   go_enter Tryz.func69,Tryz.ntmps69
   go_wp2_with (go_at_call 86;with_reducible refine H1.out.mono ?_;rintro e w1 ⟨rfl,hb1⟩;have HB1:=ze hb1;clear hb1)
   go_ret;exact⟨by rw[HY.out];rfl,HB1.out⟩
  |true=>
   have HY:=ze (show Y=L.all xk by rw[hr];rfl);clear hr hn
   go_enter Tryz.func69,Tryz.ntmps69
   go_wp2_with (first
    |(go_at_call 86;with_reducible refine H1.out.mono ?_;rintro e w1 ⟨rfl,hb1⟩;have HB1:=ze hb1;clear hb1)
    |(go_at_call 87;with_reducible refine(H2.out _).mono ?_;rintro e w2 ⟨u,rfl,hs2,hb2⟩;obtain⟨lo,lc,rfl⟩:=hs2.form;have HS:=ze hs2;have HB:=ze (zi HB1.out hb2 HB1.out.size);clear hs2 hb2;rw[zk]))
   go_loopg [16] L.length (fun g i wx=>∃k:Nat,k<=L.length/\L.length-k=g/\i= .int .i64 k/\Hid (L.all xk=(L.drop k).all xk)/\wx=w2)
   case atStart=>exact⟨0,Nat.zero_le _,rfl,rfl,ze rfl,rfl⟩
   case round=>
    obtain⟨m,hm,rfl,rfl,HA,rfl⟩:=hrel;have m0:(0:Int)<=(m:Int):=Int.natCast_nonneg _
    by_cases hlm:m<L.length
    ·have m1:(m:Int)<(L.length:Int):=by omega
     have mw:IntKind.i64.wrap ((m:Int)+1)=(m:Int)+1:=IntWalk.i64_in _ (by have:=HLL.out;omega);obtain⟨a,x,rfl,hc,hx⟩:=HS.out.strAt' (i:=m) hlm
     have hd:L.drop m=x::L.drop (m+1):=by
      obtain⟨q,e⟩:=List.getElem?_eq_some_iff.1 hx;rw[List.drop_eq_getElem_cons q,e]
     have hX:L.all xk=(xk x&&(L.drop (m+1)).all xk):=by rw[HA.out,hd];rfl
     have H3:=zof x wr;obtain⟨y,hy⟩:∃y,xk x=y:=⟨_,rfl⟩;rw[hy]at hX H3;have H3:=ze H3;unfold zq at H3
     cases y with
     |false=>
      have HF:=ze (show Y=false by rw[HY.out,hX];rfl);clear hd hx hX HA hy
      go_wp2_with (go_at_call 88;with_reducible refine H3.out.mono ?_;rintro e _ ⟨rfl,rfl⟩)
      go_ret;exact⟨by rw[HF.out];rfl,HB.out⟩
     |true=>
      have HX2:=ze (show L.all xk=(L.drop (m+1)).all xk by rw[hX,Bool.true_and]);clear hd hx hX HA hy
      go_wp2_with (go_at_call 88;with_reducible refine H3.out.mono ?_;rintro e _ ⟨rfl,rfl⟩)
      go_roundg (L.length-(m+1))
      case measure=>omega
      case rel=>exact⟨m+1,by omega,rfl,by go_num,HX2,rfl⟩
    ·obtain rfl:m=L.length:=by omega
     have hneg2:¬(L.length:Int)<(L.length:Int):=by omega
     have HF:=ze (show Y=true by rw[HY.out,HA.out,List.drop_length];rfl);go_wp2_with fail;go_ret;exact⟨by rw[HF.out];rfl,HB.out⟩
 ·have p2:decide (100 <(p.length:Int))=true:=decide_eq_true (by omega)
  have p4:decide (100<p.length)=true:=decide_eq_true (by omega);have HY:=ze (show Y=false by rw[hr,decide_eq_false hn];rfl);clear hr hn
  go_enter Tryz.func69,Tryz.ntmps69
  go_wp2_with fail;go_ret;exact⟨by rw[HY.out];rfl,Below.refl _ _⟩
end
end Go.Proofs.YtbnafihigoekeaaGreatDoor

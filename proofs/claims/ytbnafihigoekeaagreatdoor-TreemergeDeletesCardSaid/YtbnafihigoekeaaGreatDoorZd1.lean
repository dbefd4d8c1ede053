/-
  TmDe, part 1.
-/
import Derived.Test.YtbnafihigoekeaaGreatDoorZt43
set_option maxRecDepth 100000
namespace Go.Proofs.YtbnafihigoekeaaGreatDoor
open Go.RowKit Go.WideShapes Go.ChangeShapes
section
variable{H:Type}{enc:TypeId × Value->H}{P:Program}{w:World}{base:Nat}{spare:Nat->Bool}{held:Bool}
theorem zt{r:Reach}{b0:Nat}{t:TypeId}{v:Value}{d:DataW H}{ps:List MemPlace}(ht:P.underlying t=some .string)(hval:Value.okWide P w r b0 t v)(hd:DataW.Trod enc P w base spare held t v d ps):
  ∃l:List UInt8,v=zq l/\d= .lit (.string l)/\ps=[]/\l.length<=maxLen:=by
 obtain⟨s,rfl,rfl,rfl,hs⟩:=Go.ChangeMaps.open_string ht hval hd;refine⟨s.data.toList,?_,rfl,rfl,znB hs⟩;simp[zq]
end
open Go.RowKit Go.WideShapes Go.ChangeShapes Go.ChangeAt
section
variable{H:Type}{enc:TypeId × Value->H}{w:World}{base:Nat}{spare:Nat->Bool}{held:Bool}
theorem zs{r:Reach}{b0:Nat}{v:Value}{d:DataW H}{ps:List MemPlace}(hval:Value.okWide Tryz.prog w r b0 28 v)(hd:DataW.Trod enc Tryz.prog w base spare held 28 v d ps):
  ∃f:zg,v=ye f/\(f.1.length<=maxLen/\f.2.2.length<=maxLen):=by
 unfold Value.okWide at hval;rw[Tryz.underlying28]at hval;obtain⟨cs,rfl,hs,_⟩:=hval;obtain⟨fuel,hf⟩:=hd;obtain⟨x,hx,hb⟩:=zqI hf;refine⟨x,?_,hb⟩;have:=congrArg List.toArray hx;unfold ye
 congr 1
end
theorem zE{f:zg}(h:jW f=true):zT [f]:=⟨by simp,fun g hg=>by rw[List.mem_singleton.1 hg];exact h,List.pairwise_singleton _ _,List.pairwise_singleton _ _⟩
theorem yb{p t:zQ}{x:Bool}(hp:yZ p=true)(ht:t.length<=20000):jW (p,x,t)=true:=by
 unfold jW;rw[hp,decide_eq_true ht]
 rfl
theorem zb{a b:List zg}(ta:zT a)(tb:zT b)(h:∀x∈a,(zz b x.1).isSome=true):yj a b=[]:=by
 have hP:=zam.ok ta.rise tb.rise (zmN ta.rise tb.rise (Nat.le_trans ta.len (by omega)) (Nat.le_trans tb.len (by omega)))
 cases e:yj a b with
 |nil=>rfl
 |cons r l=>
  exfalso
  have hr:r∈yj a b:=by rw[e];exact List.mem_cons_self ..
  have h1:=(hP.there r hr).1;have h2:=(hP.gone r hr).1
  cases hf:zz a r.1 with
  |none=>rw[hf]at h1;cases h1
  |some x=>
   obtain⟨hx,hx2⟩:=xq hf;have:=h x hx;rw[hx2,h2]at this;cases this
theorem zh{a:List zg}(ta:zT a):yj a []=[]:=by
 have hP:=zam.ok ta.rise zT.nil.rise (zmN ta.rise zT.nil.rise (Nat.le_trans ta.len (by omega)) (by simp))
 cases e:yj a []with
 |nil=>rfl
 |cons r l=>
  exfalso
  have hr:r∈yj a []:=by rw[e];exact List.mem_cons_self ..
  have h1:=(hP.there r hr).2;cases h1
theorem za(F:zg)(p:zQ):zz [F] p=if F.1=p then some F else none:=by
 cases e:zz [F] p with
 |none=>
  have:=jE.1 e F (List.mem_cons_self ..);rw[if_neg this]
 |some x=>
  obtain⟨h1,h2⟩:=xq e;rw[List.mem_singleton.1 h1]at h2 ⊢;rw[if_pos h2]
theorem zc(p:zQ):zz [] p=none:=rfl
theorem zw{a b c:List zg}{M:List zg}{C:List yK}(ta:zT a)(tb:zT b)(tc:zT c)(h:tmW a b c (yj a b) (yj a c)=(M,C))(hm:zT (xu M)):tmT a b c=(xu M,qY C,0):=by
 unfold tmT tmS;rw[if_pos ⟨(yY a).2 ta,(yY b).2 tb,(yY c).2 tc⟩,h,if_pos ((yY _).2 hm)]
theorem zx{F:zg}(h:zT [F]):tmT [F] [] [F]=([],[],0):=by
 have hr:yj [F] [F]=[]:=zb h h fun x hx=>by rw[List.mem_singleton.1 hx,za,if_pos rfl];rfl
 have hw:tmW [F] [] [F] (yj [F] []) (yj [F] [F])=([],[]):=by
  rw[hr,zh h];simp[tmW,zaB,jV,zec,yU,zN,zcf,za,zc]
 exact zw h zT.nil h hw zT.nil
theorem zp{F G:zg}(h:zT [F])(h2:zT [G])(hp:F.1=G.1)(hne:F≠G):tmT [F] [] [G]=([G],[(G.1,3,G.2.2)],0):=by
 have hr:yj [F] [G]=[]:=zb h h2 fun x hx=>by rw[List.mem_singleton.1 hx,za,if_pos hp.symm];rfl
 have hw:tmW [F] [] [G] (yj [F] []) (yj [F] [G])=([G],[(G.1,3,G.2.2)]):=by
  rw[hr,zh h];simp[tmW,zaB,jV,zec,yU,zN,zcf,za,zc,jq,zfP,hp,hne]
 exact zw h zT.nil h2 hw h2
theorem ya{F G:zg}(h:zT [F])(h2:zT [G])(hp:F.1=G.1)(hne:F≠G):tmT [F] [G] []=([G],[(G.1,3,G.2.2)],0):=by
 have hr:yj [F] [G]=[]:=zb h h2 fun x hx=>by rw[List.mem_singleton.1 hx,za,if_pos hp.symm];rfl
 have hw:tmW [F] [G] [] (yj [F] [G]) (yj [F] [])=([G],[(G.1,3,G.2.2)]):=by
  rw[hr,zh h];simp[tmW,zaB,jV,zec,yU,zN,zcf,za,zc,jq,zfP,hp,hne]
 exact zw h h2 zT.nil hw h2
end Go.Proofs.YtbnafihigoekeaaGreatDoor

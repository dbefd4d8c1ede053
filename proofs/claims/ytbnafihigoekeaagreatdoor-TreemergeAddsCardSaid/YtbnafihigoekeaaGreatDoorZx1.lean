/-
  TmMo TmOn TmAd, part 1.
-/
import Derived.Test.YtbnafihigoekeaaGreatDoorZt43
namespace Go.Proofs.YtbnafihigoekeaaGreatDoor
section
variable{α:Type}
end
section
variable{α:Type} [DecidableEq α]
end
section
variable{α:Type}
theorem GQ.keepO{b o t:List α}{s1 s2:List (Int × α)}{I:List (It α)}(h:GQ b o t s1 s2 I)(hs:∀e∈s1,e.1=1)(hbo:o=b):zhl (fun b o _ =>o=b) I:=by
 induction h with
 |done b o t=>exact zhl.one hbo
 |insO _ ih=>exact absurd (hs _ (List.mem_cons_self ..)) (by simp)
 |insT _ ih=>exact ih hs hbo
 |firm _ ih=>exact zhl.cons hbo (ih (fun e he=>hs e (List.mem_cons_of_mem _ he)) rfl)
 |ko _ ih=>exact ih (fun e he=>hs e (List.mem_cons_of_mem _ he)) (by rw[hbo])
 |kt _ ih=>exact absurd (hs _ (List.mem_cons_self ..)) (by simp)
 |kd _ ih=>exact absurd (hs _ (List.mem_cons_self ..)) (by simp)
theorem GQ.turn{b o t:List α}{s1 s2:List (Int × α)}{I:List (It α)}(h:GQ b o t s1 s2 I):GQ b t o s2 s1 (I.map zst):=by
 induction h with
 |done b o t=>exact .done b t o
 |insO _ ih=>exact .insT ih
 |insT _ ih=>exact .insO ih
 |firm _ ih=>exact .firm ih
 |ko _ ih=>exact .kt ih
 |kt _ ih=>exact .ko ih
 |kd _ ih=>exact .kd ih
theorem zhl.turn{P:List α->List α->List α->Prop}{I:List (It α)}(h:zhl (fun b o t=>P b t o) (I.map zst)):zhl P I:=fun b o t hm=>h b t o (List.mem_map.2 ⟨_,hm,rfl⟩)
theorem GQ.keepT{b o t:List α}{s1 s2:List (Int × α)}{I:List (It α)}(h:GQ b o t s1 s2 I)(hs:∀e∈s2,e.1=1)(hbo:t=b):zhl (fun b _ t=>t=b) I:=
 zhl.turn (h.turn.keepO hs hbo)
end
section
variable{α:Type}
theorem zhl.head{P:List α->List α->List α->Prop}{b o t:List α}{I:List (It α)}(h:zhl P (.gap b o t::I)):P b o t:=h b o t (List.mem_cons_self ..)
theorem xx(p:Ck α->Bool)(hp:∀r:List α,p (1,r,r,r)=true)(run:List α):(zal run).all p=true:=by
 unfold zal
 split
 ·rfl
 ·simp[hp]
end
section
variable{α:Type} [DecidableEq α]
theorem yb{I:List (It α)}(h:zhl (fun b o t=>yg b o t≠5) I):∀run,xI (zR run I)=true:=by
 unfold xI
 induction I with
 |nil=>exact fun run=>xx _ (fun _ =>rfl) run
 |cons x I ih=>
  intro run
  cases x with
  |line z=>exact ih h.tail _
  |gap b o t=>
   rw[zR]
   split
   ·exact ih h.tail _
   ·rw[List.all_append,List.all_cons,xx _ (fun _ =>rfl),ih h.tail]
    simpa using h.head
theorem jk{I:List (It α)}(h:zhl (fun b o _ =>o=b) I):itM I=itT I:=by
 induction I with
 |nil=>rfl
 |cons x I ih=>
  cases x with
  |line z=>rw[itM,itT,ih h.tail]
  |gap b o t=>rw[itM,itT,ih h.tail,if_pos (by rw[yg,if_pos h.head])]
theorem kw{I:List (It α)}(h:zhl (fun b _ t=>t=b) I):itM I=itO I:=by
 induction I with
 |nil=>rfl
 |cons x I ih=>
  cases x with
  |line z=>rw[itM,itO,ih h.tail]
  |gap b o t=>
   rw[itM,itO,ih h.tail]
   split
   ·rename_i hk
    unfold yg at hk
    split at hk
    ·rename_i e;rw[show t=b from h.head,e]
    ·rw[if_pos h.head]at hk;cases hk
   ·rfl
theorem kz{b o t:List α}(h:o=b):yg b o t≠5:=by rw[yg,if_pos h];decide
theorem kx{b o t:List α}(h:t=b):yg b o t≠5:=by
 unfold yg
 split
 ·decide
 ·first |decide |(rw[if_pos h];decide)
theorem ku(a:List α):kJ a a=a.map fun x=>((1:Int),x):=by
 induction a with
 |nil=>rfl
 |cons x a ih=>rw[kG,if_pos rfl,ih];rfl
theorem jx(a:List α):∀e∈kJ a a,e.1=1:=by
 rw[ku];intro e he;obtain⟨x,_,rfl⟩:=List.mem_map.1 he
 rfl
end
open Go.RowKit
section
variable{w:World}
theorem zsh.turn{w:World}{base:Nat}{v u:Value}{xs ys:List (List UInt8)}(h:zsh w base v u xs ys):zsh w base u v ys xs:=⟨h.two,h.one,fun g h1 h2=>h.apart g h2 h1⟩
end
section
variable{α:Type} [DecidableEq α]
theorem zh:∀a:List α,∀e∈zU a a,e.1=1
 | []=>by
  rw[qX];unfold qh
  split
  ·simp
  ·exact jx []
 |x::a=>by
  rw[zaI,if_pos rfl];intro e he
  rcases List.mem_cons.1 he with rfl |he
  ·rfl
  ·exact zh a e he
theorem zp(a b:List α):(xI (yn a a b)=true/\zG (yn a a b)=b)/\(xI (yn a b a)=true/\zG (yn a b a)=b):=by
 refine⟨?_,?_⟩
 ·obtain⟨I,hI,he⟩:=zfo a a b
  have hg:=hI.keepO (zh a) rfl;rw[he,(zlm I []).2.2.2,jk hg,hI.sides.2.2,(yr a b).2.2.1];exact⟨yb (fun b o t hm=>kz (hg b o t hm)) [],rfl⟩
 ·obtain⟨I,hI,he⟩:=zfo a b a
  have hg:=hI.keepT (zh a) rfl;rw[he,(zlm I []).2.2.2,kw hg,hI.sides.2.1,(yr a b).2.2.1];exact⟨yb (fun b o t hm=>kx (hg b o t hm)) [],rfl⟩
end
theorem zt(a b:Tx):jJ a a b=(b,true):=by
 obtain⟨⟨c1,m1⟩,_⟩:=zp (zn a) (zn b);rw[jJ,if_pos c1,m1,zcc]
theorem yx(a b:Tx):jJ a b a=(b,true):=by
 obtain⟨_,c1,m1⟩:=zp (zn a) (zn b);rw[jJ,if_pos c1,m1,zcc]
open Go.RowKit Go.WideShapes Go.ChangeShapes
section
variable{H:Type}{enc:TypeId × Value->H}{P:Program}{w:World}{base:Nat}{spare:Nat->Bool}{held:Bool}
theorem za{r:Reach}{b0:Nat}{t:TypeId}{v:Value}{d:DataW H}{ps:List MemPlace}(ht:P.underlying t=some .string)(hval:Value.okWide P w r b0 t v)(hd:DataW.Trod enc P w base spare held t v d ps):
  ∃l:List UInt8,v=zq l/\d= .lit (.string l)/\ps=[]/\l.length<=maxLen:=by
 obtain⟨s,rfl,rfl,rfl,hs⟩:=Go.ChangeMaps.open_string ht hval hd;refine⟨s.data.toList,?_,rfl,rfl,znB hs⟩;simp[zq]
end
theorem xw{f:zg}(h:jW f=true):zT [f]:=⟨by simp,fun g hg=>by rw[List.mem_singleton.1 hg];exact h,List.pairwise_singleton _ _,List.pairwise_singleton _ _⟩
theorem jp{p t:zQ}{x:Bool}(hp:yZ p=true)(ht:t.length<=20000):jW (p,x,t)=true:=by
 unfold jW;rw[hp,decide_eq_true ht]
 rfl
theorem zdb.two_same{f g:zg}{r:List zgt}(h:zdb [f] [g] r)(hp:f.1≠g.1)(hf:f.2.2≠ [])(he:f.2.2=g.2.2):r=[(f.1,g.1)]:=by
 have lf:qr [g] f:=⟨jE.2 fun x hx=>by rw[List.mem_singleton.1 hx];exact hp.symm,hf⟩;have lg:qr [f] g:=⟨jE.2 fun x hx=>by rw[List.mem_singleton.1 hx];exact hp,by rw[<-he];exact hf⟩;exact h.one (List.mem_singleton.2 rfl) (List.mem_singleton.2 rfl) (fun x hx _ =>List.mem_singleton.1 hx) (fun x hx _ =>List.mem_singleton.1 hx) lf lg (.inl he)
theorem yt{a b:List zg}(ta:zT a)(tb:zT b)(h:∀x∈a,(zz b x.1).isSome=true):yj a b=[]:=by
 have hP:=zam.ok ta.rise tb.rise (zmN ta.rise tb.rise (Nat.le_trans ta.len (by omega)) (Nat.le_trans tb.len (by omega)))
 cases e:yj a b with
 |nil=>rfl
 |cons r l=>
  exfalso
  have hr:r∈yj a b:=by rw[e];exact List.mem_cons_self ..
  have h1:=(hP.there r hr).1;have h2:=(hP.gone r hr).1
  cases hf:zz a r.1 with
  |none=>rw[hf]at h1;cases h1
  |some x=>
   obtain⟨hx,hx2⟩:=xq hf;have:=h x hx;rw[hx2,h2]at this;cases this
theorem zb(F:zg)(p:zQ):zz [F] p=if F.1=p then some F else none:=by
 cases e:zz [F] p with
 |none=>
  have:=jE.1 e F (List.mem_cons_self ..);rw[if_neg this]
 |some x=>
  obtain⟨h1,h2⟩:=xq e;rw[List.mem_singleton.1 h1]at h2 ⊢;rw[if_pos h2]
theorem kq(p:zQ):zz [] p=none:=rfl
theorem ya{a b c:List zg}{M:List zg}{C:List yK}(ta:zT a)(tb:zT b)(tc:zT c)(h:tmW a b c (yj a b) (yj a c)=(M,C))(hm:zT (xu M)):tmT a b c=(xu M,qY C,0):=by
 unfold tmT tmS;rw[if_pos ⟨(yY a).2 ta,(yY b).2 tb,(yY c).2 tc⟩,h,if_pos ((yY _).2 hm)]
theorem zc{F:zg}{X:List zg}(h:zak [] F=(X,0)):X=[F]/\zT [F]:=by
 have hd:=zqJ (l:=[]) (f:=F) (by rw[h]);rw[h]at hd
 have h1:∀y,y∈X ↔ y=F:=fun y=>by have:=hd.2.2 y;simpa using this
 have h2:=hd.1.rise
 have hX:X=[F]:=by
  cases X with
  |nil=>have:=(h1 F).2 rfl;simp at this
  |cons y r=>
   cases r with
   |nil=>rw[(h1 y).1 (List.mem_cons_self ..)]
   |cons z r=>
    have e1:=(h1 y).1 (List.mem_cons_self ..);have e2:=(h1 z).1 (List.mem_cons_of_mem _ (List.mem_cons_self ..));subst e1;subst e2;have:=(List.pairwise_cons.1 h2).1 _ (List.mem_cons_self ..);rw[jG]at this;cases this
 subst hX;exact⟨rfl,hd.1⟩
theorem jw{F G:zg}(h:zT [F])(h2:zT [G])(hp:F.1≠G.1)(ht:F.2.2≠ [])(he:F.2.2=G.2.2):yj [F] [G]=[(F.1,G.1)]:=
 (zrA h.rise h2.rise).two_same hp ht he
theorem qa{p q t u:zQ}{x:Bool}(h:zT [(p,false,t)])(h2:zT [(q,false,t)])(h3:zT [(p,x,u)])(h4:zT [(q,x,u)])(hp:p≠q)(ht:t≠ []):
  tmT [(p,false,t)] [(q,false,t)] [(p,x,u)]=([(q,x,u)],[],0)/\tmT [(p,false,t)] [(p,x,u)] [(q,false,t)]=([(q,x,u)],[],0):=by
 have r1:yj [(p,false,t)] [(q,false,t)]=[(p,q)]:=jw h h2 hp ht rfl
 have r2:yj [(p,false,t)] [(p,x,u)]=[]:=yt h h3 fun y hy=>by rw[List.mem_singleton.1 hy,zb,if_pos rfl];rfl
 have hq:¬q=p:=fun e=>hp e.symm
 constructor
 ·have hw:tmW [(p,false,t)] [(q,false,t)] [(p,x,u)] (yj [(p,false,t)] [(q,false,t)]) (yj [(p,false,t)] [(p,x,u)])=([(q,x,u)],[]):=by
   rw[r1,r2];simp[tmW,zaB,jV,yU,zN,zcf,zb,jq,zfP,zdh,zdI,zt,hp,hq]
  exact ya h h2 h3 hw h4
 ·have hw:tmW [(p,false,t)] [(p,x,u)] [(q,false,t)] (yj [(p,false,t)] [(p,x,u)]) (yj [(p,false,t)] [(q,false,t)])=([(q,x,u)],[]):=by
   rw[r1,r2]
   cases x <;> simp[tmW,zaB,jV,yU,zN,zcf,zb,jq,zfP,zdh,zdI,yx,hp,hq]
  exact ya h h3 h2 hw h4
section
variable{α:Type} [DecidableEq α]
theorem jl(o t:List α):yn [] o t=if o=[]/\t=[]then []else [(yg [] o t,[],o,t)]:=by
 unfold yn
 have e:xn o t [] 0 0 [] (yi [] o) (yi [] t)=[.gap [] o t]:=by simp[xn]
 rw[e];simp[zR,zal]
end
theorem xl(s:Tx):(yA s).length<=s.length+1:=by
 unfold yA
 split <;> simp
theorem jz:zn []=[]:=by
 have h:=zcc [];have h2:=yL [];simpa using h2
theorem kl(x y:Tx):(jJ [] x y).1.length<=x.length+y.length+60:=by
 unfold jJ;rw[jz,jl]
 split
 ·simp[xI,zG]
 ·split
  ·simp only[zG,List.flatMap_cons,List.flatMap_nil,List.append_nil]
   split
   ·rw[zcc];omega
   ·rw[zcc];omega
  ·rename_i h
   have h5:yg [] (zn x) (zn y)=5:=by
    by_cases h5:yg [] (zn x) (zn y)=5
    ·exact h5
    ·exact absurd (by simp[xI,h5]) h
   simp only[yl,h5,if_true,zcc];have h1:=xl x;have h2:=xl y
   have h0:(yA []).length=0:=by simp[yA]
   have k0:mk0.length=13:=rfl;have k1:mk1.length=13:=rfl;have k2:mk2.length=8:=rfl
   have k3:mk3.length<=20:=by decide
   simp only[List.length_append,List.flatten_nil,h0,k0,k1,k2];omega
theorem zw(a:List zg):yj [] a=[]:=by
 have h:=znM [] a;simpa using h
theorem xj(b:List zg):zN [] b []=b:=by
 unfold zN
 refine List.filter_eq_self.2 fun x _ =>?_
 unfold zcf;rw[kq]
 rfl
theorem xo(P Q:zg):tmW [] [P] [Q] (yj [] [P]) (yj [] [Q])=zao [P] (kY [Q] ([],[]) P) Q:=by
 rw[zw,zw];unfold tmW zaB;rw[xj,xj]
 rfl
theorem jt{P:zg}(h:zT [P]):tmT [] [P] [P]=([P],[],0):=by
 have hw:tmW [] [P] [P] (yj [] [P]) (yj [] [P])=([P],[]):=by
  rw[xo];simp[kY,zao,zb,jq,zfP]
 exact ya zT.nil h h hw h
theorem kk{P R:zg}(h:zT [P])(h2:zT [R])(hp:R.1=P.1)(hne:R≠P)(hj:zT [zex P R]):tmT [] [P] [R]=([zex P R],[(P.1,2,(zex P R).2.2)],0):=by
 have hw:tmW [] [P] [R] (yj [] [P]) (yj [] [R])=([zex P R],[(P.1,2,(zex P R).2.2)]):=by
  rw[xo];simp[kY,zao,zb,jq,zfP,hp,hne,zex]
 exact ya zT.nil h h2 hw hj
theorem kp{P Q:zg}(h:zT [P])(h2:zT [Q])(hp:P.1≠Q.1)(hc:yS P.1 Q.1=true):tmT [] [P] [Q]=([P],[(Q.1,5,Q.2.2)],0):=by
 have hq:¬Q.1=P.1:=fun e=>hp e.symm
 have hw:tmW [] [P] [Q] (yj [] [P]) (yj [] [Q])=([P],[(Q.1,5,Q.2.2)]):=by
  rw[xo];simp[kY,zao,zb,jq,zfP,hp,hq,hc]
 exact ya zT.nil h h2 hw h
theorem kf{P Q:zg}(h:zT [P])(h2:zT [Q])(hp:P.1≠Q.1)(hc:yS P.1 Q.1=false):∃M,tmT [] [P] [Q]=(M,[],0)/\M.length=2:=by
 have hq:¬Q.1=P.1:=fun e=>hp e.symm
 have hw:tmW [] [P] [Q] (yj [] [P]) (yj [] [Q])=([P,Q],[]):=by
  rw[xo];simp[kY,zao,zb,jq,zfP,hp,hq,hc]
 have hn:([P,Q].map (·.1)).Nodup:=by simp[hp]
 have hr:=zqc hn
 have hm:∀x,x∈xu [P,Q]->x=P∨x=Q:=fun x hx=>by have:=(znO [P,Q] x).1 hx;simpa using this
 have ht:zT (xu [P,Q]):=by
  refine⟨by rw[zgF];simp,fun f hf=>?_,hr,?_⟩
  ·rcases hm f hf with rfl |rfl
   ·exact h.ok _ (List.mem_cons_self ..)
   ·exact h2.ok _ (List.mem_cons_self ..)
  ·unfold jy
   refine List.Pairwise.imp_of_mem (fun {x y} hx hy hxy=>?_) hr;have hne:=znN hxy
   rcases hm x hx with rfl |rfl
   ·rcases hm y hy with rfl |rfl
    ·exact absurd rfl hne
    ·exact hc
   ·rcases hm y hy with rfl |rfl
    ·rw[zhw];exact hc
    ·exact absurd rfl hne
 exact⟨_,ya zT.nil h h2 hw ht,by rw[zgF];rfl⟩
section
variable{a b:List zg}{R:List jQ}
theorem kc(tb:yD b)(h:zim a b R){f:zg}(hf:f∈b):yU (ke a R f.1) b R=some f∨(zz a f.1=none/\∀r∈R,r.2≠f.1):=by
 rcases zgY h f.1 with⟨r,hr,h1,h2⟩ |⟨h1,h2⟩
 ·left
  unfold yU;have hn:=(h.gone r hr).1;rw[h2,hn];simp only
  have hfr:zz b r.2=some f:=by rw[h1];exact tb.find hf
  cases hs:R.findSome? fun q=>if q.1=r.1 then zz b q.2 else none with
  |none=>
   have:=List.findSome?_eq_none_iff.1 hs r hr;rw[if_pos rfl,hfr]at this;cases this
  |some y=>
   obtain⟨q,hq,hqy⟩:=List.exists_of_findSome?_eq_some hs
   split at hqy
   ·rename_i hqp
    have:=h.one q hq r hr (.inl hqp);subst this;rw[hfr]at hqy;exact hqy.symm
   ·cases hqy
 ·cases hfa:zz a f.1 with
  |none=>exact .inr ⟨rfl,h1⟩
  |some x=>
   left
   unfold yU;rw[h2,tb.find hf]
theorem jm(h:zim a b R){p:zQ}{f:zg}(hp:(zz a p).isSome=true)(hw:yU p b R=some f):ke a R f.1=p:=by
 unfold yU at hw
 cases hb:zz b p with
 |some f'=>
  rw[hb]at hw;cases hw;obtain⟨_,h2⟩:=xq hb;rw[h2]
  refine zdX fun r hr e=>?_
  have:=(h.gone r hr).2;rw[e]at this;rw[this]at hp;cases hp
 |none=>
  rw[hb]at hw;simp only at hw;obtain⟨r,hr,hry⟩:=List.exists_of_findSome?_eq_some hw
  split at hry
  ·rename_i hrp
   obtain⟨_,h2⟩:=xq hry;rw[h2,zlj h hr,hrp]
  ·cases hry
def zx(a b:List zg)(R:List jQ):List zg:=a.filterMap (fun x=>yU x.1 b R)++zN a b R
theorem xa{f:zg}:f∈zN a b R ↔ f∈b/\zz a f.1=none/\∀r∈R,r.2≠f.1:=by
 unfold zN;rw[List.mem_filter];unfold zcf;simp
theorem xt(tb:yD b)(h:zim a b R)(f:zg):f∈b ↔ f∈zx a b R:=by
 unfold zx;rw[List.mem_append,List.mem_filterMap,xa]
 constructor
 ·intro hf
  rcases kc tb h hf with hw |⟨h1,h2⟩
  ·rcases zgY h f.1 with⟨r,hr,h1,h2⟩ |⟨h1,h2⟩
   ·rw[h2]at hw
    have h3:=(h.there r hr).1
    cases hfa:zz a r.1 with
    |none=>rw[hfa]at h3;cases h3
    |some x=>
     obtain⟨h4,h5⟩:=xq hfa;exact .inl ⟨x,h4,by rw[h5];exact hw⟩
   ·rw[h2]at hw
    cases hfa:zz a f.1 with
    |none=>exact .inr ⟨hf,rfl,h1⟩
    |some x=>
     obtain⟨h4,h5⟩:=xq hfa;exact .inl ⟨x,h4,by rw[h5];exact hw⟩
  ·exact .inr ⟨hf,h1,h2⟩
 ·rintro(⟨x,_,hx⟩ |⟨hf,_⟩)
  ·exact ziY hx
  ·exact hf
theorem ka{β γ:Type}{l:List β}(k:β->γ)(h:(l.map k).Nodup):l.Nodup:=by
 rw[List.nodup_iff_pairwise_ne,List.pairwise_map]at h;rw[List.nodup_iff_pairwise_ne]
 exact h.imp fun hxy e=>hxy (congrArg k e)
theorem kb(ta:yD a)(tb:yD b)(h:zim a b R):(zx a b R).Nodup:=by
 refine ka (fun f:zg=>ke a R f.1) ?_;unfold zx;rw[List.map_append,List.nodup_append]
 have k1:∀ (l:List zg),(∀x∈l,x∈a)->(l.filterMap fun x=>yU x.1 b R).map (fun f=>ke a R f.1)=(l.filter fun x=>(yU x.1 b R).isSome).map (·.1):=by
  intro l
  induction l with
  |nil=>intro _;rfl
  |cons x l ih=>
   intro hl;have hx:=hl x (List.mem_cons_self ..)
   have ih:=ih fun y hy=>hl y (List.mem_cons_of_mem _ hy)
   cases e:yU x.1 b R with
   |none=>rw[List.filterMap_cons_none (f:=fun x:zg=>yU x.1 b R) e,List.filter_cons_of_neg (by rw[e];simp),ih]
   |some f=>rw[List.filterMap_cons_some (f:=fun x:zg=>yU x.1 b R) e,List.filter_cons_of_pos (by rw[e];rfl),List.map_cons,List.map_cons,ih,jm h (zkc hx) e]
 have k2:(zN a b R).map (fun f=>ke a R f.1)=(zN a b R).map (·.1):=List.map_congr_left fun f hf=>zdX (xa.1 hf).2.2
 rw[k1 a fun _ hx=>hx,k2]
 have nd:∀ {l:List zg} (q:zg->Bool),yD l->((l.filter q).map (·.1)).Nodup:=fun {l} q hl=>by
  rw[List.nodup_iff_pairwise_ne,List.pairwise_map]
  exact(List.Pairwise.filter _ hl).imp fun e=>znN e
 refine⟨nd _ ta,nd _ tb,fun p hp q hq e=>?_⟩;obtain⟨x,hx,rfl⟩:=List.mem_map.1 hp;obtain⟨y,hy,rfl⟩:=List.mem_map.1 hq;have h1:=(xa.1 hy).2.1;have h2:=zkc (List.mem_filter.1 hx).1;rw[e,h1]at h2;cases h2
end
theorem yw:∀ (L M:List zg) (C:List yK),(M++L).Pairwise (fun x y:zg=>yS x.1 y.1=false)->L.foldl (fun s y=>jq s y 0) (M,C)=(M++L,C)
 | [],M,C,_ =>by simp
 |y::L,M,C,h=>by
  have hb:zfP M y.1=false:=List.any_eq_false.2 fun x hx=>by
   have:=(List.pairwise_append.1 h).2.2 x hx y (List.mem_cons_self ..);simp[this]
  rw[List.foldl_cons]
  have e:jq (M,C) y 0=(M++[y],C):=by
   unfold jq;rw[if_neg (by rw[hb];simp),if_pos rfl]
  rw[e,yw L (M++[y]) C (by simpa using h)];simp
theorem yo{α β:Type}{f g:β->α->β}:∀ (l:List α) (s:β),(∀x∈l,∀s,f s x=g s x)->l.foldl f s=l.foldl g s
 | [],_,_ =>rfl
 |x::l,s,h=>by rw[List.foldl_cons,List.foldl_cons,h x (List.mem_cons_self ..),yo l _ fun y hy=>h y (List.mem_cons_of_mem _ hy)]
theorem yp(a:List zg):zN a a []=[]:=List.filter_eq_nil_iff.2 fun x hx h=>by
 have:=zkc hx;unfold zcf at h;rw[Bool.and_eq_true]at h;rw[Option.isNone_iff_eq_none.1 h.1]at this;cases this
theorem zE(x y:zg):zdh x x y=y/\zdI x x y=0:=by
 unfold zdh zdI;rw[zt];simp
theorem xc(x y:zg):zdh x y x=y/\zdI x y x=0:=by
 unfold zdh zdI;rw[yx];obtain⟨y1,y2,y3⟩:=y
 constructor
 ·simp only
  refine Prod.ext ?_ (Prod.ext ?_ rfl)
  ·simp only
   split
   ·rename_i h;exact h.symm
   ·rfl
  ·simp only
   split
   ·rename_i h;exact h.symm
   ·rfl
 ·simp
theorem xb{a:List zg}(ta:yD a){x:zg}(hx:x∈a):yU x.1 a []=some x:=by
 unfold yU;rw[ta.find hx]
theorem jj(a b:List zg)(Q:List jQ):(zx a b Q).foldl (fun s y=>jq s y 0) ([],[])=(zN a b Q).foldl (fun s y=>jq s y 0) (a.foldl (fun s x=>match yU x.1 b Q with |some y=>jq s y 0 |none=>s) ([],[])):=by
 unfold zx;rw[List.foldl_append,List.foldl_filterMap]
 congr 1
 refine yo a _ fun x _ s=>?_
 cases yU x.1 b Q <;> rfl
theorem zs{a b:List zg}{Q:List jQ}(ta:zT a)(tb:zT b)(hQ:zim a b Q):(zx a b Q).Pairwise fun x y:zg=>yS x.1 y.1=false:=by
 have hn:=kb ta.rise tb.rise hQ;rw[List.nodup_iff_pairwise_ne]at hn
 have hb:∀ (l:List zg),jy l->∀x∈l,∀y∈l,x≠y->yS x.1 y.1=false:=by
  intro l
  induction l with
  |nil=>intro _ x hx;cases hx
  |cons z l ih=>
   intro h x hx y hy hne;unfold jy at h ih;rw[List.pairwise_cons]at h
   rcases List.mem_cons.1 hx with e1 |hx'
   ·rcases List.mem_cons.1 hy with e2 |hy'
    ·exact absurd (e1.trans e2.symm) hne
    ·rw[e1];exact h.1 y hy'
   ·rcases List.mem_cons.1 hy with e2 |hy'
    ·rw[e2,zhw];exact h.1 x hx'
    ·exact ih h.2 x hx' y hy' hne
 exact hn.imp_of_mem fun {x y} hx hy hne=>hb b tb.apart x ((xt tb.rise hQ x).2 hx) y ((xt tb.rise hQ y).2 hy) hne
theorem yc{a b:List zg}{Q:List jQ}(ta:zT a)(tb:zT b)(hQ:zim a b Q):xu (zx a b Q)=b:=by
 refine(zpr ?_ (xt tb.rise hQ) tb.rise).symm;exact zqC (zs ta tb hQ)
theorem jn{a b:List zg}(ta:zT a)(tb:zT b):tmT a a b=(b,[],0):=by
 have hQ:=zam.ok ta.rise tb.rise (zmN ta.rise tb.rise (Nat.le_trans ta.len (by omega)) (Nat.le_trans tb.len (by omega)))
 have r1:yj a a=[]:=yt ta ta fun x hx=>zkc hx
 have hw:tmW a a b (yj a a) (yj a b)=(zx a b (yj a b),[]):=by
  rw[r1];generalize yj a b=Q at hQ;unfold tmW zaB;rw[yp,List.foldl_nil,<-List.nil_append (zx a b Q),<-yw (zx a b Q) [] [] (by simpa using zs ta tb hQ),jj];rw[yo a ([],[]) (g:=fun s x=>match yU x.1 b Q with |some y=>jq s y 0 |none=>s) fun x hx s=>?_]
  ·rfl
  ·rw[xb ta.rise hx]
   cases yU x.1 b Q with
   |none=>simp[jV,zec]
   |some y=>simp only[jV];rw[(zE x y).1,(zE x y).2]
 have h:=ya ta ta tb hw (by rw[yc ta tb hQ];exact tb);rw[yc ta tb hQ]at h;exact h
theorem kn{a b:List zg}(ta:zT a)(tb:zT b):tmT a b a=(b,[],0):=by
 have hQ:=zam.ok ta.rise tb.rise (zmN ta.rise tb.rise (Nat.le_trans ta.len (by omega)) (Nat.le_trans tb.len (by omega)))
 have r1:yj a a=[]:=yt ta ta fun x hx=>zkc hx
 have hw:tmW a b a (yj a b) (yj a a)=(zx a b (yj a b),[]):=by
  rw[r1];generalize yj a b=Q at hQ;unfold tmW zaB;rw[yp,List.foldl_nil,<-List.nil_append (zx a b Q),<-yw (zx a b Q) [] [] (by simpa using zs ta tb hQ),jj];rw[yo a ([],[]) (g:=fun s x=>match yU x.1 b Q with |some y=>jq s y 0 |none=>s) fun x hx s=>?_]
  ·rfl
  ·rw[xb ta.rise hx]
   cases yU x.1 b Q with
   |none=>simp[jV,zec]
   |some y=>simp only[jV];rw[(xc x y).1,(xc x y).2]
 have h:=ya ta tb ta hw (by rw[yc ta tb hQ];exact tb);rw[yc ta tb hQ]at h;exact h
end Go.Proofs.YtbnafihigoekeaaGreatDoor

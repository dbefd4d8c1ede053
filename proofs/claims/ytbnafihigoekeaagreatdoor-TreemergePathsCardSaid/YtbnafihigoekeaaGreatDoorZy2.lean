/-
  TmTu TmPa, part 2.
-/
import Derived.Test.YtbnafihigoekeaaGreatDoorZy1
namespace Go.Proofs.YtbnafihigoekeaaGreatDoor
section
variable{α:Type} [DecidableEq α]
theorem jx(a b:List α):xI (yn a b b)=true/\zG (yn a b b)=b:=by
 obtain⟨k1,s1,t1,_⟩:=yr a b;obtain⟨I,hI⟩:=GQ.there _ [] [] [] (zU a b) (zU a b) (Nat.le_refl _) k1 k1 rfl;have h:=hI.places (ours:=b) (theirs:=b) 0 0 0 0 rfl rfl (by rw[t1];rfl) (by rw[t1];rfl);rw[s1]at h;have hg:zhl (fun _ o t=>o=t) I:=h ▸ zkt [] 0 a _ rfl
 have he:yn a b b=zR [] I:=by
  unfold yn yi;rw[h]
 rw[he,(zlm I []).2.2.2,zrP hg,hI.sides.2.1,t1];refine⟨zw (fun x y z hm=>?_) [],rfl⟩;have:=hg x y z hm;subst this;intro h5;exact(qs h5).2.2 rfl
end
theorem ziS(a b:Tx):jJ a b b=(b,true):=by
 obtain⟨c1,m1⟩:=jx (zn a) (zn b);rw[jJ,if_pos c1,m1,zcc]
theorem qg(x y:zg)(h:y.1=x.1):zdh x y y=y/\zdI x y y=0:=by
 unfold zdh zdI;rw[ziS];obtain⟨y1,y2,y3⟩:=y;simp only at h
 constructor
 ·simp
 ·simp[h]
abbrev zfj:=zg × Int
def zh(b c:List zg)(x:zg):Option zfj:=
 match zz b x.1,zz c x.1 with
 |some o,some t=>some (zdh x o t,zdI x o t)
 |some o,none=>if x=o then none else some (o,3)
 |none,some t=>if x=t then none else some (t,3)
 |none,none=>none
def jk(Y:List zg)(x:zg):zfj:=
 match zz Y x.1 with
 |none=>(x,0)
 |some t=>if t=x then(x,0)else(zex x t,2)
def jp(X:List zg)(y:zg):Option zfj:=if(zz X y.1).isSome=true then none else some (y,0)
def zs(a b c:List zg):List zfj:=a.filterMap (zh b c) ++(zN a b []).map (jk (zN a c [])) ++(zN a c []).filterMap (jp (zN a b []))
def jn(s:jP)(q:zfj):jP:=jq s q.1 q.2
theorem qp(p:zQ)(l:List zg):yU p l []=zz l p:=by
 unfold yU
 cases zz l p <;> rfl
theorem kq{α β γ:Type}(f:α->Option β)(g:γ->β->γ):∀ (l:List α) (s:γ),(l.filterMap f).foldl g s=l.foldl (fun s x=>(f x).elim s (g s)) s
 | [],_ =>rfl
 |x::l,s=>by
  cases e:f x with
  |none=>rw[List.filterMap_cons_none e,List.foldl_cons,e,kq f g l];rfl
  |some y=>rw[List.filterMap_cons_some e,List.foldl_cons,List.foldl_cons,e,kq f g l];rfl
theorem zrT(a b c:List zg):tmW a b c [] []=(zs a b c).foldl jn ([],[]):=by
 unfold zs tmW zaB;rw[List.foldl_append,List.foldl_append,kq,kq,List.foldl_map]
 have e1:a.foldl (fun s x=>jV s x (yU x.1 b []) (yU x.1 c [])) ([],[])=a.foldl (fun s x=>(zh b c x).elim s (jn s)) ([],[]):=by
  refine ku a _ fun x _ s=>?_
  rw[qp,qp];unfold zh jV zec jn
  cases zz b x.1 with
  |none=>
   cases zz c x.1 with
   |none=>rfl
   |some t=>
    simp only
    by_cases h:x=t
    ·rw[if_pos h,if_pos h];rfl
    ·rw[if_neg h,if_neg h];rfl
  |some o=>
   cases zz c x.1 with
   |some t=>rfl
   |none=>
    simp only
    by_cases h:x=o
    ·rw[if_pos h,if_pos h];rfl
    ·rw[if_neg h,if_neg h];rfl
 rw[e1]
 have e2:∀s,(zN a b []).foldl (kY (zN a c [])) s=(zN a b []).foldl (fun s x=>jn s (jk (zN a c []) x)) s:=fun s=>by
  refine ku _ _ fun x _ s=>?_
  unfold kY jk jn
  cases zz (zN a c []) x.1 with
  |none=>rfl
  |some t=>
   simp only
   by_cases h:t=x
   ·rw[if_pos h,if_pos h]
   ·rw[if_neg h,if_neg h]
 rw[e2]
 have e3:∀s,(zN a c []).foldl (zao (zN a b [])) s=(zN a c []).foldl (fun s x=>(jp (zN a b []) x).elim s (jn s)) s:=fun s=>by
  refine ku _ _ fun x _ s=>?_
  unfold zao jp jn
  by_cases h:(zz (zN a b []) x.1).isSome=true
  ·rw[if_pos h,if_pos h];rfl
  ·rw[if_neg h,if_neg h];rfl
 rw[e3]
theorem qq{s:jP}{f:zg}{k:Int}(h:(jq s f k).2=[]):s.2=[]/\k=0/\zfP s.1 f.1=false/\jq s f k=(s.1++[f],[]):=by
 unfold jq at h ⊢
 split at h
 ·simp at h
 ·rename_i hb
  have hb':zfP s.1 f.1=false:=by simpa using hb
  simp only at h
  split at h
  ·rename_i hk
   exact⟨h,hk,hb',by rw[if_neg hb,if_pos hk,h]⟩
  ·simp at h
theorem zip:∀ (L:List zfj) (s:jP),(L.foldl jn s).2=[]->s.2=[]
 | [],_,h=>h
 |q::L,s,h=>(qq (zip L (jn s q) h)).1
theorem qb:∀ (L:List zfj) (M:List zg),jy M->(L.foldl jn (M,[])).2=[]->(∀q∈L,q.2=0)/\jy (M++L.map (·.1))
 | [],M,hM,_ =>⟨by simp,by simpa using hM⟩
 |q::L,M,hM,h=>by
  rw[List.foldl_cons]at h;have h1:=qq (zip L _ h);have e:jn (M,[]) q=(M++[q.1],[]):=h1.2.2.2;rw[e]at h
  have hA:jy (M++[q.1]):=by
   have:=zbQ (s:=(M,[])) hM q.1 q.2;rw[h1.2.2.2]at this;exact this
  obtain⟨h2,h3⟩:=qb L (M++[q.1]) hA h;refine⟨fun p hp=>?_,by simpa using h3⟩
  rcases List.mem_cons.1 hp with rfl |hp
  ·exact h1.2.1
  ·exact h2 p hp
theorem zes:∀ (L:List zfj) (M:List zg),(∀q∈L,q.2=0)->jy (M++L.map (·.1))->L.foldl jn (M,[])=(M++L.map (·.1),[])
 | [],M,_,_ =>by simp
 |q::L,M,hk,h=>by
  have hb:zfP M q.1.1=false:=List.any_eq_false.2 fun x hx=>by
   have:=(List.pairwise_append.1 h).2.2 x hx q.1 (by simp);simp[this]
  have e:jn (M,[]) q=(M++[q.1],[]):=by
   unfold jn jq;rw[if_neg (by rw[hb];simp),if_pos (hk q (List.mem_cons_self ..))]
  rw[List.foldl_cons,e,zes L (M++[q.1]) (fun p hp=>hk p (List.mem_cons_of_mem _ hp)) (by simpa using h)];simp
def zdA(a b c:List zg):Prop:=(∀q∈zs a b c,q.2=0)/\jy ((zs a b c).map (·.1))
theorem kc(a b c:List zg):(tmW a b c [] []).2=[] ↔ zdA a b c:=by
 rw[zrT]
 constructor
 ·intro h
  have:=qb (zs a b c) [] List.Pairwise.nil h;rw[List.nil_append]at this;exact this
 ·intro h
  rw[zes (zs a b c) [] h.1 (by rw[List.nil_append];exact h.2)]
theorem xt{a b c:List zg}(h:zdA a b c):(tmW a b c [] []).1=(zs a b c).map (·.1):=by
 rw[zrT,zes (zs a b c) [] h.1 (by rw[List.nil_append];exact h.2),List.nil_append]
structure zgg(a b c:List zg):Prop where
 keep:∀x∈a,∀f k,zh b c x=some (f,k)->k=0
 add:∀x∈zN a b [],∀t∈zN a c [],x.1=t.1->t=x
theorem xj{Y:List zg}{x:zg}(h:∀t∈Y,x.1=t.1->t=x):jk Y x=(x,0):=by
 unfold jk
 cases e:zz Y x.1 with
 |none=>rfl
 |some t=>
  obtain⟨h1,h2⟩:=xq e;simp only;rw[if_pos (h t h1 h2.symm)]
theorem jt{a b c:List zg}(tc:yD c):(∀q∈zs a b c,q.2=0) ↔ zgg a b c:=by
 unfold zs
 constructor
 ·intro h
  refine⟨fun x hx f k e=>h (f,k) (List.mem_append_left _ (List.mem_append_left _ (List.mem_filterMap.2 ⟨x,hx,e⟩))),fun x hx t ht e=>?_⟩;have:=h (jk (zN a c []) x) (List.mem_append_left _ (List.mem_append_right _ (List.mem_map.2 ⟨x,hx,rfl⟩)))
  have hf:zz (zN a c []) x.1=some t:=by rw[e];exact yD.find (List.Pairwise.filter _ tc) ht
  unfold jk at this;rw[hf]at this;simp only at this
  split at this
  ·assumption
  ·cases this
 ·intro h q hq
  rcases List.mem_append.1 hq with hq |hq
  ·rcases List.mem_append.1 hq with hq |hq
   ·obtain⟨x,hx,e⟩:=List.mem_filterMap.1 hq
    exact h.keep x hx q.1 q.2 e
   ·obtain⟨x,hx,rfl⟩:=List.mem_map.1 hq
    rw[xj (h.add x hx)]
  ·obtain⟨x,hx,e⟩:=List.mem_filterMap.1 hq
   unfold jp at e
   split at e
   ·cases e
   ·cases e
    rfl
theorem qc{a b c:List zg}(h:zgg a b c)(f:zg):f∈ (zs a b c).map (·.1) ↔ (∃x∈a,zh b c x=some (f,0))∨f∈zN a b []∨f∈zN a c []:=by
 unfold zs;simp only[List.map_append,List.mem_append,List.mem_map,List.mem_filterMap]
 constructor
 ·rintro((⟨q,⟨x,hx,e⟩,rfl⟩ |⟨q,⟨x,hx,rfl⟩,rfl⟩) |⟨q,⟨x,hx,e⟩,rfl⟩)
  ·have:=h.keep x hx q.1 q.2 e
   exact .inl ⟨x,hx,by rw[e,<-this]⟩
  ·rw[xj (h.add x hx)]
   exact .inr (.inl hx)
  ·unfold jp at e
   split at e
   ·cases e
   ·cases e
    exact .inr (.inr hx)
 ·rintro(⟨x,hx,e⟩ |hx |hx)
  ·exact .inl (.inl ⟨(f,0),⟨x,hx,e⟩,rfl⟩)
  ·exact .inl (.inr ⟨(f,0),⟨f,hx,xj (h.add f hx)⟩,rfl⟩)
  ·cases e:zz (zN a b []) f.1 with
   |none=>exact .inr ⟨(f,0),⟨f,hx,by unfold jp;rw[e];rfl⟩,rfl⟩
   |some x=>
    obtain⟨h1,h2⟩:=xq e;have:=h.add x h1 f hx h2;subst this;exact .inl (.inr ⟨(f,0),⟨f,h1,xj (h.add f h1)⟩,rfl⟩)
theorem xl{b c:List zg}{x:zg}{q:zfj}(h:zh b c x=some q):q.1.1=x.1:=by
 unfold zh at h
 split at h
 ·rename_i o t ho ht
  cases h;have h1:=(xq ho).2;have h2:=(xq ht).2;show(if o.1=x.1 then t.1 else o.1)=x.1;rw[if_pos h1,h2]
 ·rename_i o ho ht
  split at h
  ·cases h
  ·cases h
   exact(xq ho).2
 ·rename_i t ho ht
  split at h
  ·cases h
  ·cases h
   exact(xq ht).2
 ·cases h
theorem zlY(Y:List zg)(x:zg):(jk Y x).1.1=x.1:=by
 unfold jk
 split
 ·rfl
 ·split <;> rfl
theorem xx{a b:List zg}{f:zg}:f∈zN a b [] ↔ f∈b/\zz a f.1=none:=by
 rw[zrc];simp
theorem yx{a b c:List zg}(ta:yD a)(tb:yD b)(tc:yD c):(((zs a b c).map (·.1)).map (·.1)).Nodup:=by
 have nd:∀ {l:List zg},yD l->(l.map (·.1)).Nodup:=fun {l} hl=>by
  rw[List.nodup_iff_pairwise_ne,List.pairwise_map]
  exact hl.imp fun e=>znN e
 have k1:∀l:List zg,((l.filterMap (zh b c)).map (·.1)).map (·.1)=(l.filter fun x=>(zh b c x).isSome).map (·.1):=by
  intro l
  induction l with
  |nil=>rfl
  |cons x l ih=>
   cases e:zh b c x with
   |none=>rw[List.filterMap_cons_none e,List.filter_cons_of_neg (by rw[e];simp),ih]
   |some q=>rw[List.filterMap_cons_some e,List.filter_cons_of_pos (by rw[e];rfl),List.map_cons,List.map_cons,List.map_cons,ih,xl e]
 have k2:(((zN a b []).map (jk (zN a c []))).map (·.1)).map (·.1)=(zN a b []).map (·.1):=by
  rw[List.map_map,List.map_map]
  exact List.map_congr_left fun x _ =>zlY _ x
 have k3:∀l:List zg,((l.filterMap (jp (zN a b []))).map (·.1)).map (·.1)=(l.filter fun y=>!(zz (zN a b []) y.1).isSome).map (·.1):=by
  intro l
  induction l with
  |nil=>rfl
  |cons x l ih=>
   by_cases h:(zz (zN a b []) x.1).isSome=true
   ·rw[List.filterMap_cons_none (by unfold jp;rw[if_pos h]),List.filter_cons_of_neg (by rw[h];simp),ih]
   ·rw[List.filterMap_cons_some (b:=(x,0)) (by unfold jp;rw[if_neg h]),List.filter_cons_of_pos (by simpa using h),List.map_cons,List.map_cons,List.map_cons,ih]
 unfold zs;simp only[List.map_append];rw[k1,k2,k3,List.nodup_append,List.nodup_append];refine⟨⟨nd (List.Pairwise.filter _ ta),nd (List.Pairwise.filter _ tb),fun p hp q hq e=>?_⟩,nd (List.Pairwise.filter _ (List.Pairwise.filter _ tc)),fun p hp q hq e=>?_⟩
 ·obtain⟨x,hx,rfl⟩:=List.mem_map.1 hp
  obtain⟨y,hy,rfl⟩:=List.mem_map.1 hq;have h1:=(xx.1 hy).2;have h2:=zkc (List.mem_filter.1 hx).1;rw[e,h1]at h2;cases h2
 ·obtain⟨y,hy,rfl⟩:=List.mem_map.1 hq
  obtain⟨hy1,hy2⟩:=List.mem_filter.1 hy
  rcases List.mem_append.1 hp with hp |hp
  ·obtain⟨x,hx,rfl⟩:=List.mem_map.1 hp
   have h1:=(xx.1 hy1).2;have h2:=zkc (List.mem_filter.1 hx).1;rw[e,h1]at h2;cases h2
  ·obtain⟨x,hx,rfl⟩:=List.mem_map.1 hp
   have h2:=zkc hx;rw[e]at h2;rw[h2]at hy2;cases hy2
theorem qa{b c:List zg}{x f:zg}(h:zh b c x=some (f,0)):zh c b x=some (f,0):=by
 unfold zh at h ⊢
 cases ho:zz b x.1 with
 |none=>
  rw[ho]at h
  cases ht:zz c x.1 with
  |none=>rw[ht]at h;cases h
  |some t=>
   rw[ht]at h;simp only at h
   split at h
   ·cases h
   ·cases h
 |some o=>
  rw[ho]at h
  cases ht:zz c x.1 with
  |none=>
   rw[ht]at h;simp only at h
   split at h
   ·cases h
   ·cases h
  |some t=>
   rw[ht]at h;simp only[Option.some.injEq,Prod.mk.injEq]at h ⊢;have p1:=(xq ho).2;have p2:=(xq ht).2;obtain⟨h1,h2⟩:=h;obtain⟨m1,m2⟩:=qk x.2.2 o.2.2 t.2.2;unfold zdI at h2 ⊢;rw[if_neg fun q=>q.1 p1]at h2;rw[if_neg fun q=>q.1 p2]
   have hc:(jJ x.2.2 o.2.2 t.2.2).2=true:=by
    cases hh:(jJ x.2.2 o.2.2 t.2.2).2 with
    |true=>rfl
    |false=>rw[hh]at h2;simp at h2
   refine⟨?_,by rw[m1,hc];rfl⟩;rw[<-h1];unfold zdh;rw[m2 hc,if_pos p1,if_pos p2,p1,p2];refine Prod.ext rfl (Prod.ext ?_ rfl);simp only
   cases o.2.1 <;> cases t.2.1 <;> cases x.2.1 <;> rfl
theorem zmg{b c:List zg}{x f:zg}{k:Int}(h:zh b c x=some (f,k)):∃g j,zh c b x=some (g,j)/\(j=0->k=0):=by
 unfold zh at h ⊢
 cases ho:zz b x.1 with
 |none=>
  rw[ho]at h
  cases ht:zz c x.1 with
  |none=>rw[ht]at h;cases h
  |some t=>
   rw[ht]at h;simp only at h ⊢
   split at h
   ·cases h
   ·rename_i hx
    exact⟨t,3,by rw[if_neg hx],fun q=>by cases q⟩
 |some o=>
  rw[ho]at h
  cases ht:zz c x.1 with
  |none=>
   rw[ht]at h;simp only at h ⊢
   split at h
   ·cases h
   ·rename_i hx
    exact⟨o,3,by rw[if_neg hx],fun q=>by cases q⟩
  |some t=>
   rw[ht]at h;simp only[Option.some.injEq,Prod.mk.injEq]at h ⊢;have p1:=(xq ho).2;have p2:=(xq ht).2;refine⟨_,_,⟨rfl,rfl⟩,fun q=>?_⟩;rw[<-h.2];unfold zdI at q ⊢;rw[if_neg fun q=>q.1 p2,(qk x.2.2 o.2.2 t.2.2).1]at q;rw[if_neg fun q=>q.1 p1];exact q
theorem qt{a b c:List zg}(h:zgg a b c):zgg a c b where
 keep x hx f k e:=by
  obtain⟨g,j,e2,hj⟩:=zmg e;exact hj (h.keep x hx g j e2)
 add x hx t ht e:=(h.add t ht x hx e.symm).symm
theorem zE{a b c:List zg}(h:zgg a b c)(f:zg):f∈ (zs a c b).map (·.1) ↔ f∈ (zs a b c).map (·.1):=by
 rw[qc h,qc (qt h)]
 constructor
 ·rintro(⟨x,hx,e⟩ |hx |hx)
  ·exact .inl ⟨x,hx,qa e⟩
  ·exact .inr (.inr hx)
  ·exact .inr (.inl hx)
 ·rintro(⟨x,hx,e⟩ |hx |hx)
  ·exact .inl ⟨x,hx,qa e⟩
  ·exact .inr (.inr hx)
  ·exact .inr (.inl hx)
theorem zlD{a b c:List zg}(ta:yD a)(tb:yD b)(tc:yD c)(h:zdA a b c):zdA a c b:=by
 have hz:=(jt tc).1 h.1;have hz2:=qt hz;refine⟨(jt tb).2 hz2,zpj (yx ta tc tb) fun x hx y hy hne=>?_⟩;exact zqG h.2 x ((zE hz x).1 hx) y ((zE hz y).1 hy) hne
theorem zru{a b c:List zg}(ta:yD a)(tb:yD b)(tc:yD c)(h:(tmW a b c [] []).2=[]):(tmW a c b [] []).2=[]/\xu (tmW a b c [] []).1=xu (tmW a c b [] []).1:=by
 have h1:=(kc a b c).1 h;have h2:=zlD ta tb tc h1;refine⟨(kc a c b).2 h2,?_⟩;rw[xt h1,xt h2];have n1:=yx ta tb tc;have n2:=yx ta tc tb;refine zpr n2 (fun x=>?_) (zqc n1);rw[znO,zE ((jt tc).1 h1.1)]
theorem kb{l:List zg}(h:yD l)(p:zQ){f:zg}(hf:f∈l)(hp:f.1=p):zz l p=some f:=by rw[<-hp];exact h.find hf
theorem kx{l m:List zg}{p:zQ}(hm:yD m)(h:∀f:zg,f.1=p->(f∈l ↔ f∈m)):zz l p=zz m p:=by
 cases e:zz l p with
 |none=>
  cases e2:zz m p with
  |none=>rfl
  |some f=>
   obtain⟨h1,h2⟩:=xq e2;exact absurd h2 (jE.1 e f ((h f h2).2 h1))
 |some f=>
  obtain⟨h1,h2⟩:=xq e;exact(kb hm p ((h f h2).1 h1) h2).symm
theorem zoO{a b c:List zg}(ta:yD a)(tb:yD b)(tc:yD c)(h:(tmW a b c [] []).2=[])(p:zQ):
  (zz a p=zz b p->zz (xu (tmW a b c [] []).1) p=zz c p)/\(zz a p=zz c p->zz (xu (tmW a b c [] []).1) p=zz b p)/\(zz b p=zz c p->zz (xu (tmW a b c [] []).1) p=zz b p):=by
 have h1:=(kc a b c).1 h;have hz:=(jt tc).1 h1.1;have hr:=zqc (yx ta tb tc);rw[xt h1]
 have hm:∀f,f∈xu ((zs a b c).map (·.1)) ↔ (∃x∈a,zh b c x=some (f,0))∨f∈zN a b []∨f∈zN a c []:=fun f=>(znO _ f).trans (qc hz f)
 generalize xu ((zs a b c).map (·.1))=X at hr hm
 cases ea:zz a p with
 |none=>
  have hm2:∀f:zg,f.1=p->(f∈X ↔ f∈b∨f∈c):=fun f hf=>by
   rw[hm,xx,xx,hf,ea]
   constructor
   ·rintro(⟨x,hx,e⟩ |⟨h,_⟩ |⟨h,_⟩)
    ·have hp:=xl e
     exact absurd (hp.symm.trans hf) (jE.1 ea x hx)
    ·exact .inl h
    ·exact .inr h
   ·rintro(h |h)
    ·exact .inr (.inl ⟨h,rfl⟩)
    ·exact .inr (.inr ⟨h,rfl⟩)
  refine⟨fun e=>kx tc fun f hf=>?_,fun e=>kx tb fun f hf=>?_,fun e=>kx tb fun f hf=>?_⟩
  ·rw[hm2 f hf]
   exact⟨fun q=>q.resolve_left fun q=>jE.1 e.symm f q hf,.inr⟩
  ·rw[hm2 f hf]
   exact⟨fun q=>q.resolve_right fun q=>jE.1 e.symm f q hf,.inl⟩
  ·rw[hm2 f hf]
   refine⟨fun q=>q.elim id fun q=>?_,.inl⟩;have:=kb tc p q hf;rw[<-e]at this;exact(xq this).1
 |some x0=>
  obtain⟨x1,x2⟩:=xq ea
  have hm2:∀f:zg,f.1=p->(f∈X ↔ zh b c x0=some (f,0)):=fun f hf=>by
   rw[hm,xx,xx,hf,ea]
   constructor
   ·rintro(⟨x,hx,e⟩ |⟨_,h⟩ |⟨_,h⟩)
    ·have hp:=xl e
     have:x=x0:=ta.one hx x1 (hp.symm.trans (hf.trans x2.symm));rw[<-this];exact e
    ·cases h
    ·cases h
   ·intro h
    exact .inl ⟨x0,x1,h⟩
  have key:∀o:Option zg,zh b c x0=o.map (fun f=>(f,0))->zz X p=o:=fun o ho=>by
   cases o with
   |none=>
    cases e:zz X p with
    |none=>rfl
    |some f=>
     obtain⟨h1,h2⟩:=xq e;have:=(hm2 f h2).1 h1;rw[ho]at this;cases this
   |some f=>
    have hf:f.1=p:=(xl ho).trans x2;exact kb hr p ((hm2 f hf).2 ho) hf
  refine⟨fun e=>key _ ?_,fun e=>key _ ?_,fun e=>key _ ?_⟩
  ·unfold zh
   rw[x2,<-e]
   cases zz c p with
   |none=>simp
   |some t=>simp[(kl x0 t).1,(kl x0 t).2]
  ·unfold zh
   rw[x2,<-e]
   cases zz b p with
   |none=>simp
   |some o=>simp[(ql x0 o).1,(ql x0 o).2]
  ·unfold zh
   rw[x2,<-e]
   cases eb:zz b p with
   |none=>rfl
   |some o=>
    have:=(xq eb).2;simp[(qg x0 o (this.trans x2.symm)).1,(qg x0 o (this.trans x2.symm)).2]
theorem zsu{a b c:List zg}(ta:zT a)(tb:zT b)(tc:zT c)(la:a.length<=30)(lb:b.length<=30)(lc:c.length<=30)
  (xa:∀f∈a,f.2.2.length<=2000) (xb:∀f∈b,f.2.2.length<=2000) (xc:∀f∈c,f.2.2.length<=2000):
  ∃X C Y D,tmT a b c=(X,C,0)/\tmT a c b=(Y,D,0)/\X.length<=100/\(yj a b=[]->yj a c=[]->(C=[]/\D=[]/\X=Y)∨(C≠ []/\D≠ [])):=by
 have h1:=zeD ta tb tc la lb lc xa xb xc;have h2:=zeD ta tc tb la lc lb xa xc xb;refine⟨_,_,_,_,h1.1,h2.1,h1.2.len,fun e1 e2=>?_⟩;rw[e1,e2]
 have z:∀C:List yK,qY C=[] ↔ C=[]:=fun C=>by
  rw[<-List.length_eq_zero_iff,zpw,List.length_eq_zero_iff]
 by_cases h:(tmW a b c [] []).2=[]
 ·obtain⟨h3,h4⟩:=zru ta.rise tb.rise tc.rise h
  exact .inl ⟨(z _).2 h,(z _).2 h3,h4⟩
 ·refine .inr ⟨fun q=>h ((z _).1 q),fun q=>h ?_⟩
  exact(zru ta.rise tc.rise tb.rise ((z _).1 q)).1
theorem zsb{a b c:List zg}(ta:zT a)(tb:zT b)(tc:zT c)(la:a.length<=30)(lb:b.length<=30)(lc:c.length<=30)
  (xa:∀f∈a,f.2.2.length<=2000) (xb:∀f∈b,f.2.2.length<=2000) (xc:∀f∈c,f.2.2.length<=2000):
  ∃X C,tmT a b c=(X,C,0)/\zT X/\(yj a b=[]->yj a c=[]->C=[]->∀p,(zz a p=zz b p->zz X p=zz c p)/\(zz a p=zz c p->zz X p=zz b p)/\(zz b p=zz c p->zz X p=zz b p)):=by
 have h1:=zeD ta tb tc la lb lc xa xb xc;refine⟨_,_,h1.1,h1.2,fun e1 e2 e3=>?_⟩;rw[e1,e2]at e3 ⊢;refine zoO ta.rise tb.rise tc.rise ?_;rw[<-List.length_eq_zero_iff,zpw,List.length_eq_zero_iff]at e3;exact e3
theorem zrr{a:List zg}(ta:zT a)(p:zQ):zz a p≠some zM:=fun h=>by
 have:=(yb.1 (ta.ok _ (xq h).1)).1;cases this
theorem zdQ{a b:List zg}(ta:zT a)(tb:zT b)(p:zQ):(zz a p).getD zM=(zz b p).getD zM ↔ zz a p=zz b p:=by
 constructor
 ·intro h
  have za:=zrr ta p;have zb:=zrr tb p
  cases ea:zz a p with
  |none=>
   rw[ea]at h
   cases eb:zz b p with
   |none=>rfl
   |some y=>
    rw[eb]at h zb;exact absurd (congrArg some h.symm) zb
  |some x=>
   rw[ea]at h za
   cases eb:zz b p with
   |none=>
    rw[eb]at h;exact absurd (congrArg some h) za
   |some y=>
    rw[eb]at h;exact congrArg some h
 ·intro h
  rw[h]
end Go.Proofs.YtbnafihigoekeaaGreatDoor

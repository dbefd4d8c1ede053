/-
  TmTl, part 39.
-/
import Derived.Test.YtbnafihigoekeaaGreatDoorZt20
import Derived.Test.YtbnafihigoekeaaGreatDoorZt37
import Derived.Test.YtbnafihigoekeaaGreatDoorZt31
set_option maxRecDepth 100000
set_option maxHeartbeats 4000000
namespace Go.Proofs.YtbnafihigoekeaaGreatDoor
def yU(p:zQ)(side:List zg)(R:List jQ):Option zg:=
 match zz side p with
 |some f=>some f
 |none=>R.findSome? fun r=>if r.1=p then zz side r.2 else none
def zcf(base:List zg)(R:List jQ)(f:zg):Bool:=(zz base f.1).isNone && !(R.any fun r=>r.2==f.1)
def zN(base side:List zg)(R:List jQ):List zg:=side.filter (zcf base R)
abbrev jP:=List zg × List yK
def zfP(M:List zg)(p:zQ):Bool:=M.any fun f=>yS f.1 p
def jq(s:jP)(f:zg)(k:Int):jP:=
 if zfP s.1 f.1=true then(s.1,s.2++[(f.1,5,f.2.2)])else(s.1++[f],if k=0 then s.2 else s.2++[(f.1,k,f.2.2)])
def zdh(b o t:zg):zg:=(if o.1=b.1 then t.1 else o.1,if o.2.1=b.2.1 then t.2.1 else o.2.1,(jJ b.2.2 o.2.2 t.2.2).1)
def zdI(b o t:zg):Int:=if o.1≠b.1/\t.1≠b.1/\t.1≠o.1 then 4 else if(jJ b.2.2 o.2.2 t.2.2).2=true then 0 else 1
def zec(s:jP)(b x:zg):jP:=if b=x then s else jq s x 3
def jV(s:jP)(b:zg)(o t:Option zg):jP:=
 match o,t with
 |some o,some t=>jq s (zdh b o t) (zdI b o t)
 |some o,none=>zec s b o
 |none,some t=>zec s b t
 |none,none=>s
def zaB(s:jP)(base ours theirs:List zg)(P Q:List jQ):jP:=base.foldl (fun s b=>jV s b (yU b.1 ours P) (yU b.1 theirs Q)) s
def zex(x t:zg):zg:=(x.1,x.2.1,(jJ [] x.2.2 t.2.2).1)
def kY(Y:List zg)(s:jP)(x:zg):jP:=
 match zz Y x.1 with
 |none=>jq s x 0
 |some t=>if t=x then jq s x 0 else jq s (zex x t) 2
def zao(X:List zg)(s:jP)(y:zg):jP:=if(zz X y.1).isSome=true then s else jq s y 0
def tmW(base ours theirs:List zg)(P Q:List jQ):jP:=
 (zN base theirs Q).foldl (zao (zN base ours P)) ((zN base ours P).foldl (kY (zN base theirs Q)) (zaB ([],[]) base ours theirs P Q))
def xu(M:List zg):List zg:=M.foldl yC []
def zcg:List yK->zQ->Nat
 | [],_ =>0
 |c::r,p=>if(c::r).all (fun d=>xv p d.1)=true then 0 else zcg r p+1
def zed(out:List yK)(c:yK):List yK:=out.take (zcg out c.1)++[c]++out.drop (zcg out c.1)
def qY(C:List yK):List yK:=C.foldl zed []
def tmS(base ours theirs:List zg)(P Q:List jQ):List zg × List yK × Nat:=
 if yf base=true/\yf ours=true/\yf theirs=true then
  (if yf (xu (tmW base ours theirs P Q).1)=true then(xu (tmW base ours theirs P Q).1,qY (tmW base ours theirs P Q).2,0)else([],[],6))
 else([],[],5)
theorem zqt(M:List zg)(f:zg):xu (M++[f])=yC (xu M) f:=by rw[xu,List.foldl_append];rfl
theorem znO(M:List zg)(x:zg):x∈xu M ↔ x∈M:=by
 suffices h:∀ (M A:List zg),x∈M.foldl yC A ↔ x∈A∨x∈M by simpa[xu]using h M []
 intro M
 induction M with
 |nil=>intro A;simp
 |cons f M ih=>
  intro A;rw[List.foldl_cons,ih,xW];simp only[List.mem_cons]
  constructor
  ·rintro((h |h) |h)
   ·exact .inr (.inl h)
   ·exact .inl h
   ·exact .inr (.inr h)
  ·rintro(h |h |h)
   ·exact .inl (.inr h)
   ·exact .inl (.inl h)
   ·exact .inr h
theorem zgF(M:List zg):(xu M).length=M.length:=by
 suffices h:∀ (M A:List zg),(M.foldl yC A).length=A.length+M.length by simpa[xu]using h M []
 intro M
 induction M with
 |nil=>intro A;simp
 |cons f M ih=>intro A;rw[List.foldl_cons,ih,zeb,List.length_cons];omega
theorem zqS{M N:List zg}(h:∀x,x∈M ↔ x∈N)(p:zQ):zfP M p=zfP N p:=by
 rw[Bool.eq_iff_iff];unfold zfP;simp only[List.any_eq_true];exact⟨fun⟨x,hx,hc⟩=>⟨x,(h x).1 hx,hc⟩,fun⟨x,hx,hc⟩=>⟨x,(h x).2 hx,hc⟩⟩
theorem zqH(M:List zg)(p:zQ):zfP (xu M) p=zfP M p:=zqS (znO M) p
theorem zqf(F:List zg)(p:zQ):zfP F p=((zz F p).isSome ||yG F p):=by
 cases hf:zz F p with
 |none=>rw[<-zod hf];rfl
 |some f=>
  obtain⟨h1,h2⟩:=xq hf;rw[Option.isSome_some,Bool.true_or];exact List.any_eq_true.2 ⟨f,h1,by rw[h2,zhF]⟩
theorem zbQ{s:jP}(h:jy s.1)(f:zg)(k:Int):jy (jq s f k).1:=by
 unfold jq
 split
 ·exact h
 ·rename_i hb
  refine List.pairwise_append.2 ⟨h,List.pairwise_singleton _ _,fun a ha b hb2=>?_⟩;rw[List.mem_singleton.1 hb2]
  have hb':zfP s.1 f.1=false:=by simpa using hb
  have:=(List.any_eq_false.1 hb') a ha;simpa using this
theorem zjf{s:jP}(h:jy s.1)(b x:zg):jy (zec s b x).1:=by
 unfold zec
 split
 ·exact h
 ·exact zbQ h _ _
theorem zmv{s:jP}(h:jy s.1)(b:zg)(o t:Option zg):jy (jV s b o t).1:=by
 unfold jV
 split
 ·exact zbQ h _ _
 ·exact zjf h _ _
 ·exact zjf h _ _
 ·exact h
theorem zmE{s:jP}(h:jy s.1)(Y:List zg)(x:zg):jy (kY Y s x).1:=by
 unfold kY
 split
 ·exact zbQ h _ _
 ·split <;> exact zbQ h _ _
theorem zlG{s:jP}(h:jy s.1)(X:List zg)(y:zg):jy (zao X s y).1:=by
 unfold zao
 split
 ·exact h
 ·exact zbQ h _ _
theorem zeZ{α β:Type}{I:β->Prop}{f:β->α->β}(h:∀b a,I b->I (f b a)):∀ (l:List α) (b:β),I b->I (l.foldl f b)
 | [],_,hb=>hb
 |a::l,b,hb=>zeZ h l _ (h b a hb)
theorem zqa(base ours theirs:List zg)(P Q:List jQ):jy (tmW base ours theirs P Q).1:=
 zeZ (I:=fun s:jP=>jy s.1) (fun _ _ h=>zlG h _ _) _ _ (zeZ (I:=fun s:jP=>jy s.1) (fun _ _ h=>zmE h _ _) _ _
  (zeZ (I:=fun s:jP=>jy s.1) (fun _ _ h=>zmv h _ _ _) _ _ List.Pairwise.nil))
theorem zqC{M:List zg}(h:jy M):(M.map (·.1)).Nodup:=by
 unfold jy at h;rw[List.nodup_iff_pairwise_ne,List.pairwise_map]
 exact h.imp fun {a b} hab e=>by rw[e,zhF]at hab;cases hab
theorem zqc{M:List zg}(h:(M.map (·.1)).Nodup):yD (xu M):=by
 suffices hs:∀ (M A:List zg),yD A->(M.map (·.1)).Nodup->(∀a∈A,∀m∈M,a.1≠m.1)->yD (M.foldl yC A)from hs M [] List.Pairwise.nil h (by simp)
 intro M
 induction M with
 |nil=>intro A hA _ _;exact hA
 |cons f M ih=>
  intro A hA hN hd;rw[List.map_cons,List.nodup_cons]at hN;rw[List.foldl_cons]
  refine ih _ (zgd hA fun g hg=>hd g hg f (List.mem_cons_self ..)) hN.2 fun a ha m hm=>?_
  rcases(xW _ _ _).1 ha with rfl |ha
  ·exact fun e=>hN.1 (e ▸ List.mem_map_of_mem hm)
  ·exact hd a ha m (List.mem_cons_of_mem _ hm)
theorem zpr{M L:List zg}(h:(M.map (·.1)).Nodup)(hm:∀x,x∈L ↔ x∈M)(hr:yD L):L=xu M:=
 zct (R:=fun g f:zg=>xv g.1 f.1=true) (fun x y h1 h2=>by rw[zbx h1]at h2;cases h2) _ _ hr (zqc h) fun x=>(hm x).trans (znO M x).symm
def zat(l:List yK):Prop:=l.Pairwise fun x y=>xv y.1 x.1=false
theorem zrl{p q r:zQ}(h1:xv p q=true)(h2:xv r q=false):xv p r=true:=by
 cases h:xv q r with
 |true=>exact qe _ _ _ h1 h
 |false=>rw[zcb r q h2 h];exact h1
theorem zqe:∀ (out:List yK) (p:zQ),zcg out p<=out.length
 | [],_ =>Nat.zero_le _
 |c::r,p=>by
  rw[zcg]
  split
  ·exact Nat.zero_le _
  ·have:=zqe r p;simp;omega
theorem zgV:∀ (out:List yK) (p:zQ),∀d∈out.drop (zcg out p),xv p d.1=true
 | [],_,d,h=>by simp at h
 |c::r,p,d,h=>by
  rw[zcg]at h
  split at h
  ·rename_i ha
   exact(List.all_eq_true.1 ha) d h
  ·exact zgV r p d h
theorem zlh:∀ (out:List yK) (p:zQ),zat out->∀d∈out.take (zcg out p),xv p d.1=false
 | [],_,_,d,h=>by simp at h
 |c::r,p,hs,d,h=>by
  rw[zcg]at h;unfold zat at hs;rw[List.pairwise_cons]at hs
  split at h
  ·simp at h
  ·rename_i ha
   rw[List.take_succ_cons,List.mem_cons]at h
   rcases h with rfl |h
   ·cases hc:xv p d.1 with
    |false=>rfl
    |true=>
     refine absurd (List.all_eq_true.2 fun e he=>?_) ha
     rcases List.mem_cons.1 he with rfl |he
     ·exact hc
     ·exact zrl hc (hs.1 e he)
   ·exact zlh r p hs.2 d h
theorem zjA:∀ (out:List yK) (p:zQ) (k:Nat),k<=out.length->(∀d∈out.drop k,xv p d.1=true)->(k=0∨∃d,out[k-1]? =some d/\xv p d.1=false)->zcg out p=k
 | [],p,k,h,_,_ =>by simp at h;rw[h];rfl
 |c::r,p,0,_,hd,_ =>by rw[zcg,if_pos (List.all_eq_true.2 fun d h=>hd d (by simpa using h))]
 |c::r,p,k+1,h,hd,hk=>by
  obtain⟨d,h1,h2⟩:=hk.resolve_left (by omega);rw[Nat.add_sub_cancel]at h1;rw[zcg,if_neg fun ha=>by have:=(List.all_eq_true.1 ha) d (List.mem_of_getElem? h1);rw[h2]at this;cases this]
  congr 1
  refine zjA r p k (by simpa using h) hd ?_
  cases k with
  |zero=>exact .inl rfl
  |succ k=>exact .inr ⟨d,by simpa using h1,h2⟩
theorem zma{out:List yK}(h:zat out)(c:yK):zat (zed out c):=by
 have h1:=zlh out c.1 h;have h2:=zgV out c.1;have h0:=h;rw[<-List.take_append_drop (zcg out c.1) out]at h0;obtain⟨s1,s2,s3⟩:=List.pairwise_append.1 h0;unfold zed zat;rw[List.append_assoc];refine List.pairwise_append.2 ⟨s1,List.pairwise_append.2 ⟨List.pairwise_singleton _ _,s2,fun a ha b hb=>?_⟩,fun a ha b hb=>?_⟩
 ·rw[List.mem_singleton.1 ha]
  exact zbx (h2 b hb)
 ·rcases List.mem_append.1 hb with hb |hb
  ·rw[List.mem_singleton.1 hb]
   exact h1 a ha
  ·exact s3 a ha b hb
theorem zmW(out:List yK)(c:yK)(p:zQ):(zed out c).filter (fun d=>d.1==p)=out.filter (fun d=>d.1==p)++[c].filter (fun d=>d.1==p):=by
 have h2:=zgV out c.1
 have e:out.filter (fun d=>d.1==p)=(out.take (zcg out c.1)).filter (fun d=>d.1==p) ++(out.drop (zcg out c.1)).filter (fun d=>d.1==p):=by
  rw[<-List.filter_append,List.take_append_drop]
 rw[e,zed,List.filter_append,List.filter_append,List.append_assoc,List.append_assoc]
 congr 1
 by_cases hp:c.1=p
 ·have:(out.drop (zcg out c.1)).filter (fun d=>d.1==p)=[]:=List.filter_eq_nil_iff.2 fun d hd he=>by
   have h3:=h2 d hd;rw[eq_of_beq he,hp,jG]at h3;cases h3
  rw[this];simp
 ·have: [c].filter (fun d=>d.1==p)=[]:=List.filter_eq_nil_iff.2 fun d hd he=>by
   rw[List.mem_singleton.1 hd]at he;exact hp (eq_of_beq he)
  rw[this];simp
theorem zqL(C:List yK):zat (qY C)/\∀p,(qY C).filter (fun d=>d.1==p)=C.filter (fun d=>d.1==p):=by
 suffices h:∀ (C A:List yK),zat A->zat (C.foldl zed A)/\∀p,(C.foldl zed A).filter (fun d=>d.1==p)=(A++C).filter (fun d=>d.1==p) by simpa[qY]using h C [] List.Pairwise.nil
 intro C
 induction C with
 |nil=>intro A h;simpa using h
 |cons c C ih=>
  intro A h;rw[List.foldl_cons];obtain⟨h1,h2⟩:=ih _ (zma h c);refine⟨h1,fun p=>?_⟩;rw[h2 p,List.filter_append,zmW,<-List.filter_append,<-List.filter_append,List.append_assoc]
  rfl
theorem znY(C:List yK)(c:yK):qY (C++[c])=zed (qY C) c:=by rw[qY,List.foldl_append];rfl
theorem znQ:∀ (a b:List yK),zat a->zat b->(∀p,a.filter (fun d=>d.1==p)=b.filter (fun d=>d.1==p))->a=b
 | [],b,_,_,h=>by
  cases b with
  |nil=>rfl
  |cons y b=>have:=h y.1;simp at this
 |x::a,[],_,_,h=>by have:=h x.1;simp at this
 |x::a,y::b,ha,hb,h=>by
  unfold zat at ha hb;rw[List.pairwise_cons]at ha hb
  have m1:x∈y::b:=by
   have:x∈ (y::b).filter (fun d=>d.1==x.1):=by rw[<-h x.1];simp
   exact(List.mem_filter.1 this).1
  have m2:y∈x::a:=by
   have:y∈ (x::a).filter (fun d=>d.1==y.1):=by rw[h y.1];simp
   exact(List.mem_filter.1 this).1
  have e:x.1=y.1:=by
   rcases List.mem_cons.1 m1 with rfl |m1
   ·rfl
   ·rcases List.mem_cons.1 m2 with rfl |m2
    ·rfl
    ·exact zcb _ _ (hb.1 x m1) (ha.1 y m2)
  have hxy:=h x.1;rw[List.filter_cons_of_pos (by simp),List.filter_cons_of_pos (by simp[e])]at hxy;obtain⟨rfl,_⟩:=List.cons.inj hxy;rw[znQ a b ha.2 hb.2 fun p=>?_];have hp:=h p
  by_cases q:x.1=p
  ·rw[List.filter_cons_of_pos (by simp[q]),List.filter_cons_of_pos (by simp[q])]at hp
   exact(List.cons.inj hp).2
  ·rwa [List.filter_cons_of_neg (by simp[q]),List.filter_cons_of_neg (by simp[q])]at hp
section
open Go.Sort
variable{α:Type} [Inhabited α]
theorem zfD(d:Array α):d.toList=(List.range d.size).map fun k=>d[k]!:=by
 refine List.ext_getElem (by simp) fun i h1 h2=>?_
 have hi:i<d.size:=by simpa using h1
 simp[getElem!_pos d i hi]
theorem zii{lt:α->α->Bool}(hS:SWO lt)(d:Array α)(q:α->Bool)(hq:∀x y,q x=true->q y=true->lt x y=false):(zP lt d).toList.filter q=d.toList.filter q:=by
 obtain⟨⟨hs,π,p1,p2,p3,p4,p5⟩,_⟩:=zfl hS d
 have hL:(zP lt d).toList=((List.range d.size).map π).map fun k=>d[k]!:=by
  rw[zfD,hs,List.map_map]
  exact List.map_congr_left fun k _ =>p1 k
 have key:((List.range d.size).filter fun k=>q d[π k]!).map π=(List.range d.size).filter fun k=>q d[k]!:=by
  have hp:(((List.range d.size).filter fun k=>q d[π k]!).map π).Pairwise (· < ·):=by
   rw[List.pairwise_map]
   refine(List.Pairwise.filter _ (List.pairwise_lt_range (n:=d.size))).imp_of_mem fun {i j} hi hj hij=>?_
   rcases Nat.lt_trichotomy (π i) (π j)with e |e |e
   ·exact e
   ·exact absurd e (p4 i j hij)
   ·have h1:=p5 i j hij e
    rw[hq _ _ (List.mem_filter.1 hi).2 (List.mem_filter.1 hj).2]at h1;cases h1
  have hn:((List.range d.size).filter fun k=>q d[k]!).Pairwise (· < ·):=List.Pairwise.filter _ (List.pairwise_lt_range (n:=d.size))
  have hsub:∀x∈ ((List.range d.size).filter fun k=>q d[π k]!).map π,x∈ (List.range d.size).filter fun k=>q d[k]!:=fun x hx=>by
   obtain⟨k,hk,rfl⟩:=List.mem_map.1 hx;obtain⟨h1,h2⟩:=List.mem_filter.1 hk;exact List.mem_filter.2 ⟨List.mem_range.2 (p2 k (Nat.zero_le _) (List.mem_range.1 h1)).2,h2⟩
  have hlen:(((List.range d.size).filter fun k=>q d[π k]!).map π).length=((List.range d.size).filter fun k=>q d[k]!).length:=by
   have h1:=((zeS lt d).filter q).length_eq;rw[hL,zfD d,List.map_map,List.filter_map,List.filter_map,List.length_map,List.length_map]at h1;rw[List.length_map];exact h1
  refine zct (R:=fun i j:Nat=>i<j) (fun x y h1 h2=>by omega) _ _ hp hn fun x=>⟨hsub x,fun hx=>?_⟩
  refine Decidable.byContradiction fun hno=>?_
  have h1:=zjk (x::((List.range d.size).filter fun k=>q d[π k]!).map π) ((List.range d.size).filter fun k=>q d[k]!)
   (List.nodup_cons.2 ⟨hno,hp.imp fun {a b} h=>Nat.ne_of_lt h⟩) (fun y hy=>by
    rcases List.mem_cons.1 hy with rfl |hy
    ·exact hx
    ·exact hsub y hy)
  rw[List.length_cons,hlen]at h1;omega
 rw[hL,List.map_map,List.filter_map,zfD d,List.filter_map,<-List.map_map]
 have e:(List.range d.size).filter (q ∘ ((fun k=>d[k]!) ∘ π))=(List.range d.size).filter fun k=>q d[π k]!:=rfl
 rw[e,key]
 rfl
end
def upd{K V:Type} [DecidableEq K](f:K->Option V)(k:K)(v:V):K->Option V:=fun p=>if p=k then some v else f p
def zmn(a:List zg):zQ->Option jQ:=a.foldl (fun f b=>upd f b.1 (b.1,b.1)) fun _ =>none
def zah(a:List zg)(R:List jQ):zQ->Option jQ:=R.foldl (fun f r=>upd f r.2 r) (zmn a)
def ke(a:List zg)(R:List jQ)(p:zQ):zQ:=match zah a R p with |some o=>o.1 |none=>p
def km(a:List zg)(R:List jQ)(i:Nat)(g:zQ × Nat->Option zg)(l:List zg):zQ × Nat->Option zg:=l.foldl (fun g f=>upd g (ke a R f.1,i) f) g
def qn(a:List zg)(R:List jQ)(l:List zg):List zg:=l.filter fun f=>(zah a R f.1).isNone
theorem zcY{α K V:Type} [DecidableEq K](key:α->K)(val:α->V)(k:K):∀ (l:List α) (f:K->Option V),
  l.foldl (fun f a=>upd f (key a) (val a)) f k=match(l.filter fun a=>decide (key a=k)).getLast? with |some a=>some (val a) |none=>f k:=by
 intro l
 induction l with
 |nil=>intro f;rfl
 |cons x l ih=>
  intro f;rw[List.foldl_cons,ih]
  by_cases e:key x=k
  ·rw[List.filter_cons_of_pos (by simpa using e)]
   cases h:(l.filter fun a=>decide (key a=k))with
   |nil=>simp[upd,e]
   |cons y r=>
    rw[List.getLast?_cons_cons]
    cases h2:(y::r).getLast? with
    |none=>rw[List.getLast?_eq_none_iff]at h2;cases h2
    |some z=>rfl
  ·rw[List.filter_cons_of_neg (by simpa using e)]
   cases h:(l.filter fun a=>decide (key a=k)).getLast? with
   |none=>simp only[upd];rw[if_neg fun h=>e h.symm]
   |some y=>rfl
theorem zdx{α K V:Type} [DecidableEq K]{key:α->K}{val:α->V}{k:K}{l:List α}{f:K->Option V}(h:∀a∈l,key a≠k):l.foldl (fun f a=>upd f (key a) (val a)) f k=f k:=by
 rw[zcY,List.filter_eq_nil_iff.2 fun a ha e=>h a ha (by simpa using e)]
 rfl
theorem zhq{α K V:Type} [DecidableEq K]{key:α->K}{val:α->V}{k:K}{l:List α}{f:K->Option V}{x:α}(hx:x∈l)(hk:key x=k)(h:∀a∈l,key a=k->a=x):l.foldl (fun f a=>upd f (key a) (val a)) f k=some (val x):=by
 rw[zcY]
 have hm:x∈l.filter fun a=>decide (key a=k):=List.mem_filter.2 ⟨hx,by simpa using hk⟩
 cases e:(l.filter fun a=>decide (key a=k)).getLast? with
 |none=>rw[List.getLast?_eq_none_iff]at e;rw[e]at hm;cases hm
 |some y=>
  have hy:=List.mem_of_getLast? e;obtain⟨h1,h2⟩:=List.mem_filter.1 hy;rw[h y h1 (by simpa using h2)]
theorem znG(a:List zg)(p:zQ):zmn a p=if(zz a p).isSome=true then some (p,p)else none:=by
 unfold zmn;rw[zcY (fun b:zg=>b.1) (fun b=>(b.1,b.1))]
 cases e:(a.filter fun b=>decide (b.1=p)).getLast? with
 |none=>
  rw[List.getLast?_eq_none_iff,List.filter_eq_nil_iff]at e
  have:zz a p=none:=jE.2 fun f hf h=>e f hf (by simpa using h)
  rw[this]
  rfl
 |some y=>
  obtain⟨h1,h2⟩:=List.mem_filter.1 (List.mem_of_getLast? e)
  have h2:y.1=p:=by simpa using h2
  have:(zz a p).isSome=true:=by
   cases h:zz a p with
   |some _ =>rfl
   |none=>exact absurd h2 (jE.1 h y h1)
  rw[if_pos this];show some (y.1,y.1)=some (p,p);rw[h2]
structure zim(a b:List zg)(R:List jQ):Prop where
 there:∀r∈R,(zz a r.1).isSome=true/\(zz b r.2).isSome=true
 gone:∀r∈R,zz b r.1=none/\zz a r.2=none
 one:∀r∈R,∀q∈R,r.1=q.1∨r.2=q.2->r=q
theorem zkc{l:List zg}{f:zg}(h:f∈l):(zz l f.1).isSome=true:=by
 cases e:zz l f.1 with
 |some _ =>rfl
 |none=>exact absurd rfl (jE.1 e f h)
theorem zam.ok{a b:List zg}{R:List jQ}(ta:yD a)(tb:yD b)(h:zam a b R):zim a b R where
 there r hr:=by
  obtain⟨x,y,hx,hy,e1,e2⟩:=h.there r hr;exact⟨e1 ▸ zkc hx,e2 ▸ zkc hy⟩
 gone r hr:=by
  obtain⟨x,y,hx,hy,e1,e2⟩:=h.there r hr;have:=h.pair.sub x y ⟨hx,hy,by rw[e1,e2];exact hr⟩;exact⟨e1 ▸ this.2.2.1.1,e2 ▸ this.2.2.2.1.1⟩
 one r hr q hq he:=by
  obtain⟨x,y,hx,hy,e1,e2⟩:=h.there r hr;obtain⟨x',y',hx',hy',e1',e2'⟩:=h.there q hq;have m1:x∈a/\y∈b/\(x.1,y.1)∈R:=⟨hx,hy,by rw[e1,e2];exact hr⟩;have m2:x'∈a/\y'∈b/\(x'.1,y'.1)∈R:=⟨hx',hy',by rw[e1',e2'];exact hq⟩
  rcases he with he |he
  ·have:x=x':=ta.one hx hx' (by rw[e1,e1',he])
   subst this;have:=h.pair.one x y y' m1 m2;subst this;exact Prod.ext (e1.symm.trans e1') (e2.symm.trans e2')
  ·have:y=y':=tb.one hy hy' (by rw[e2,e2',he])
   subst this;have:=h.pair.eno x x' y m1 m2;subst this;exact Prod.ext (e1.symm.trans e1') (e2.symm.trans e2')
section
variable{a b:List zg}{R:List jQ}
theorem znx(h:zim a b R){r:jQ}(hr:r∈R):zah a R r.2=some r:=zhq (key:=fun r:jQ=>r.2) (val:=fun r=>r) hr rfl fun q hq e=>h.one q hq r hr (.inr e)
theorem ziD{p:zQ}(hp:∀r∈R,r.2≠p):zah a R p=if(zz a p).isSome=true then some (p,p)else none:=by
 rw[<-znG];exact zdx (key:=fun r:jQ=>r.2) (val:=fun r=>r) hp
theorem zpI(p:zQ):(zah a R p).isNone=((zz a p).isNone && !(R.any fun r=>r.2==p)):=by
 unfold zah;rw[zcY (fun r:jQ=>r.2) (fun r=>r),znG]
 cases e:(R.filter fun r=>decide (r.2=p)).getLast? with
 |none=>
  rw[List.getLast?_eq_none_iff,List.filter_eq_nil_iff]at e
  have:(R.any fun r=>r.2==p)=false:=List.any_eq_false.2 fun r hr h=>e r hr (by simpa using h)
  rw[this]
  cases zz a p <;> rfl
 |some y=>
  obtain⟨h1,h2⟩:=List.mem_filter.1 (List.mem_of_getLast? e);have:(R.any fun r=>r.2==p)=true:=List.any_eq_true.2 ⟨y,h1,by simpa using h2⟩;rw[this];simp
theorem zix(l:List zg):qn a R l=zN a l R:=List.filter_congr fun f _ =>zpI f.1
theorem zlj(h:zim a b R){r:jQ}(hr:r∈R):ke a R r.2=r.1:=by rw[ke,znx h hr]
theorem zdX{p:zQ}(hp:∀r∈R,r.2≠p):ke a R p=p:=by
 rw[ke,ziD hp]
 split
 ·rename_i o ho
  split at ho
  ·cases ho;rfl
  ·cases ho
 ·rfl
theorem zgY(h:zim a b R)(p:zQ):(∃r∈R,r.2=p/\ke a R p=r.1)∨((∀r∈R,r.2≠p)/\ke a R p=p):=by
 by_cases hp:∃r∈R,r.2=p
 ·obtain⟨r,hr,rfl⟩:=hp
  exact .inl ⟨r,hr,rfl,zlj h hr⟩
 ·have hp:∀r∈R,r.2≠p:=fun r hr e=>hp ⟨r,hr,e⟩
  exact .inr ⟨hp,zdX hp⟩
theorem ziK(i j:Nat)(hij:i≠j)(g:zQ × Nat->Option zg)(l:List zg)(p:zQ):km a R i g l (p,j)=g (p,j):=
 zdx (key:=fun f:zg=>(ke a R f.1,i)) (val:=fun f=>f) fun _ _ e=>hij (Prod.mk.inj e).2
theorem zky(tb:yD b)(h:zim a b R){p:zQ}(hp:(zz a p).isSome=true)(i:Nat)(g:zQ × Nat->Option zg)(hg:g (p,i)=none):km a R i g b (p,i)=yU p b R:=by
 have key:∀f∈b,(ke a R f.1,i)=(p,i)->yU p b R=some f:=fun f hf e=>by
  have e:=(Prod.mk.inj e).1;unfold yU
  rcases zgY h f.1 with⟨r,hr,h1,h2⟩ |⟨h1,h2⟩
  ·have hrp:r.1=p:=h2.symm.trans e
   have hn:=(h.gone r hr).1;rw[hrp]at hn;rw[hn];simp only
   have hfr:zz b r.2=some f:=by rw[h1];exact tb.find hf
   cases hs:R.findSome? fun r=>if r.1=p then zz b r.2 else none with
   |none=>
    have:=List.findSome?_eq_none_iff.1 hs r hr;rw[if_pos hrp,hfr]at this;cases this
   |some y=>
    obtain⟨q,hq,hqy⟩:=List.exists_of_findSome?_eq_some hs
    split at hqy
    ·rename_i hqp
     have:=h.one q hq r hr (.inl (hqp.trans hrp.symm));subst this;rw[hfr]at hqy;exact hqy.symm
    ·cases hqy
  ·have:f.1=p:=h2.symm.trans e
   rw[<-this,tb.find hf]
 cases hw:yU p b R with
 |none=>
  rw[km,zdx (key:=fun f:zg=>(ke a R f.1,i)) (val:=fun f=>f) fun f hf e=>by rw[key f hf e]at hw;cases hw];exact hg
 |some f=>
  have hex:∃f'∈b,ke a R f'.1=p:=by
   unfold yU at hw
   cases hb:zz b p with
   |some f'=>
    obtain⟨h1,h2⟩:=xq hb;refine⟨f',h1,?_⟩;rw[h2]
    refine zdX fun r hr e=>?_
    have:=(h.gone r hr).2;rw[e]at this;rw[this]at hp;cases hp
   |none=>
    rw[hb]at hw;simp only at hw;obtain⟨r,hr,hry⟩:=List.exists_of_findSome?_eq_some hw
    split at hry
    ·rename_i hrp
     obtain⟨h1,h2⟩:=xq hry;exact⟨f,h1,by rw[h2,zlj h hr,hrp]⟩
    ·cases hry
  obtain⟨f',hf',hs⟩:=hex;have e:=key f' hf' (by rw[hs]);have:f'=f:=Option.some.inj (e.symm.trans hw);subst this;rw[km,zhq (key:=fun f:zg=>(ke a R f.1,i)) (val:=fun f=>f) hf' (by rw[hs]) fun x hx e=>Option.some.inj ((key x hx e).symm.trans hw)]
theorem ziO(tb:yD b)(h:zim a b R){p:zQ}(hp:zz a p=none)(i:Nat)(g:zQ × Nat->Option zg)(hg:g (p,i)=none):km a R i g b (p,i)=zz (zN a b R) p:=by
 have hno:∀f∈b,(ke a R f.1,i)=(p,i)->f.1=p/\∀r∈R,r.2≠f.1:=by
  intro f _ e;have e:=(Prod.mk.inj e).1
  rcases zgY h f.1 with⟨r,hr,h1,h2⟩ |⟨h1,h2⟩
  ·have:=(h.there r hr).1
   rw[<-h2,e,hp]at this;cases this
  ·exact⟨h2.symm.trans e,h1⟩
 cases hX:zz (zN a b R) p with
 |some f=>
  obtain⟨h1,h2⟩:=xq hX;obtain⟨h3,h4⟩:=List.mem_filter.1 h1;unfold zcf at h4;rw[Bool.and_eq_true,Bool.not_eq_true',List.any_eq_false]at h4
  have hs:ke a R f.1=p:=by rw[zdX fun r hr e=>h4.2 r hr (by simpa using e),h2]
  rw[km,zhq (key:=fun f:zg=>(ke a R f.1,i)) (val:=fun f=>f) h3 (by rw[hs]) fun x hx e=>tb.one hx h3 ((hno x hx e).1.trans h2.symm)]
 |none=>
  rw[km,zdx (key:=fun f:zg=>(ke a R f.1,i)) (val:=fun f=>f) fun f hf e=>?_]
  ·exact hg
  ·obtain⟨h1,h2⟩:=hno f hf e
   refine jE.1 hX f (List.mem_filter.2 ⟨hf,?_⟩) h1;unfold zcf;rw[Bool.and_eq_true,Bool.not_eq_true',List.any_eq_false];exact⟨by rw[h1,hp];rfl,fun r hr e=>h2 r hr (by simpa using e)⟩
end
def zai(a b c:List zg)(P Q:List jQ):zQ × Nat->Option zg:=km a Q 1 (km a P 0 (fun _ =>none) b) c
theorem zrp{a b c:List zg}{P Q:List jQ}(tb:yD b)(hP:zim a b P)(p:zQ):zai a b c P Q (p,0)=if(zz a p).isSome=true then yU p b P else zz (zN a b P) p:=by
 unfold zai;rw[ziK 1 0 (by decide)]
 split
 ·rename_i h
  exact zky tb hP h 0 _ rfl
 ·rename_i h
  exact ziO tb hP (by simpa using h) 0 _ rfl
theorem zro{a b c:List zg}{P Q:List jQ}(tc:yD c)(hQ:zim a c Q)(p:zQ):zai a b c P Q (p,1)=if(zz a p).isSome=true then yU p c Q else zz (zN a c Q) p:=by
 unfold zai;have h0:km a P 0 (fun _ =>none) b (p,1)=none:=ziK 0 1 (by decide) _ _ _
 split
 ·rename_i h
  exact zky tc hQ h 1 _ h0
 ·rename_i h
  exact ziO tc hQ (by simpa using h) 1 _ h0
open Go.RowKit
def zar(p:zQ)(side:List zg)(R:List jQ)(k:Nat):Option zg:=yU p side (R.take k)
theorem zlg{p:zQ}{side:List zg}{R:List jQ}{k:Nat}{q r:zQ}(h:R[k]? =some (q,r))(hn:zar p side R k=none):zar p side R (k+1)=if q=p then zz side r else none:=by
 unfold zar yU at *
 cases hf:zz side p with
 |some f=>rw[hf]at hn;cases hn
 |none=>
  rw[hf]at hn;simp only at hn ⊢;rw[List.take_add_one,h,List.findSome?_append,hn,Option.none_or];simp
theorem zkG{p:zQ}{side:List zg}{R:List jQ}{k:Nat}{f:zg}(h:zar p side R k=some f):yU p side R=some f:=by
 unfold zar yU at *
 cases hf:zz side p with
 |some g=>rw[hf]at h;exact h
 |none=>
  rw[hf]at h;simp only at h ⊢;rw[<-List.take_append_drop k R,List.findSome?_append,h]
  rfl
theorem zmm(p:zQ)(side:List zg)(R:List jQ):zar p side R R.length=yU p side R:=by rw[zar,List.take_length]
theorem _root_.Go.World.ownsRow.kept'{w w':World}{base:Nat}{e:TypeId}{size:Nat}{v:Value}{n:Nat}{xs:List Value}(h:w.ownsRow base e size v n xs)(hk:Below w.heap.size w w'):w'.ownsRow base e size v n xs:=
 (yH.ofBelow (S:=fun _ =>False) hk).owns h (fun _ _ hf=>hf)
section
theorem zhG(p t:zQ)(x:Bool)(vs vr:Value)(side:List zg)(R:List jQ)(w:World)(hs:yM w vs side)(hr:SlV w vr R)(hl:side.length<=1000000)(hrl:R.length<=1000000):
  Calls Tryz.prog 30 #[.agg #[zq p,.bool x,zq t],vs,vr] w fun e w'=>e= .returned (.tuple #[ye ((yU p side R).getD zM),.bool (yU p side R).isSome])/\Below w.heap.size w w':=by
 obtain⟨so,sc,rfl⟩:=zy.form hs;obtain⟨ro,rc,rfl⟩:=zy.form hr;have HL:=ze (And.intro hl hrl);obtain⟨W,hW⟩:∃y,(w.alloc (.cells #[.string ⟨p.toArray⟩,.bool x,.string ⟨t.toArray⟩] 28)).alloc (.cells #[.string ⟨#[]⟩,.bool false,.string ⟨#[]⟩] 28)=y:=⟨_,rfl⟩
 have hB0:Below w.heap.size w W:=by rw[<-hW];exact((Below.refl _ w).alloc (Nat.le_refl _) _).alloc (by simp) _
 have hg3:W.heap[w.heap.size]? =some (.cells #[.string ⟨p.toArray⟩,.bool x,.string ⟨t.toArray⟩] 28 (0,0)):=by
  rw[<-hW];exact(Below.heap_alloc _ _ _ (by simp)).trans (heap_alloc_new w _)
 have hg6:W.heap[w.heap.size+1]? =some (.cells #[.string ⟨#[]⟩,.bool false,.string ⟨#[]⟩] 28 (0,0)):=by
  rw[<-hW];have h:=heap_alloc_new (w.alloc (.cells #[.string ⟨p.toArray⟩,.bool x,.string ⟨t.toArray⟩] 28)) (.cells #[.string ⟨#[]⟩,.bool false,.string ⟨#[]⟩] 28)
  rwa [show(w.alloc (.cells #[.string ⟨p.toArray⟩,.bool x,.string ⟨t.toArray⟩] 28)).heap.size=w.heap.size+1 by simp]at h
 have HS:=ze (zy.old hs hB0);have HR:=ze (zy.old hr hB0);have c0:=zd (i:=0) hg3 rfl;have HB0:=ze hB0;have HG3:=ze hg3;have HG6:=ze hg6;have HZ:=ze (lt_of_block hg6);clear hs hr hl hrl hB0 hg3 hg6;unfold zq
 go_enter Tryz.func30,Tryz.ntmps30
 go_wp2_with fail
 try rw[hW]
 clear hW;obtain⟨gf,hgf⟩:∃g,w.heap.size=g:=⟨_,rfl⟩;have HGF:=ze hgf;rw[hgf]at HG3 HG6 HB0 c0 HZ ⊢;clear hgf;obtain⟨z,hz⟩:∃z,zz side p=z:=⟨_,rfl⟩;obtain⟨⟨zp,zx,zt⟩,hzv⟩:∃y,z.getD zM=y:=⟨_,rfl⟩;have hF:=kU _ side p W HS.out (by have:=HL.out;omega);rw[hz,hzv]at hF;have HZ0:=ze (show zar p side R 0=z by unfold zar yU;rw[hz];cases z <;> rfl);have HZV:=ze hzv;clear hz hzv;unfold zq ye at hF;refine hF.mono ?_;rintro e w3 ⟨rfl,hb3⟩;have HB3:=ze hb3;have HW3:=ze (zi HB0.out hb3 (by have:=HZ.out;omega));clear hF hb3
 go_wp2_with (refine zB rfl 28 _ _ rfl _ #[.string ⟨zp.toArray⟩,.bool zx,.string ⟨zt.toArray⟩] rfl rfl _ _ (heap_alloc_new _ _) 3 Tryz.sizeFile rfl rfl (by simp[Value.oneCell']) ?_;intro w4 hg8 hk4;have HG8:=ze hg8;have HB4:=ze (show Below w3.heap.size w3 w4 from((Below.refl _ w3).alloc (Nat.le_refl _) _).trans (hk4.below (by simp) (fun j hj e=>by omega)));clear hg8 hk4)
 have HWZ:=ze (show W.heap.size<=w3.heap.size from HB3.out.size);have HW4:=ze (show Below W.heap.size W w4 from HB3.out.trans (HB4.out.mono HWZ.out));have HZ8:=ze (show W.heap.size<=w3.heap.size from HWZ.out);generalize w3.heap.size=g8 at *;clear HB3 HB4 HW3 HWZ c0
 go_loopg [9,10] R.length (fun g s9 i wr=>∃ (k:Nat) (y:Option zg) (yp yt:zQ) (yx:Bool),s9= .bool y.isSome/\i= .int .i64 (k:Int)/\Hid (k<=R.length/\R.length-k=g)/\Hid (zar p side R k=y/\y.getD zM=(yp,yx,yt))/\Hid (wr.heap[g8]? =some (.cells #[.string ⟨yp.toArray⟩,.bool yx,.string ⟨yt.toArray⟩] 28 (0,0)))/\Hid (Below W.heap.size W wr))
 case atStart=>exact⟨0,z,zp,zt,zx,rfl,rfl,ze ⟨Nat.zero_le _,rfl⟩,ze ⟨HZ0.out,HZV.out⟩,HG8,HW4⟩
 case round=>
  obtain⟨k,y,yp,yt,yx,rfl,rfl,HQ,HY,HG,HB⟩:=hrel;clear HW4 HG8;have hQ:=HQ.out;have k0:(0:Int)<=(k:Int):=Int.natCast_nonneg _;have HF:=ze (fun(w':World) (hg:w'.heap[gf+1]? =some (.cells #[.string ⟨yp.toArray⟩,.bool yx,.string ⟨yt.toArray⟩] 28 (0,0)))=>hg);have HG6r:=ze ((HB.out.block _ HZ.out).trans HG6.out);have c3:=zd (i:=0) ((HB.out.block gf (by have:=HZ.out;omega)).trans HG3.out) rfl;have d0:=zd (i:=0) HG.out rfl;have d1:=zd (i:=1) HG.out rfl;have d2:=zd (i:=2) HG.out rfl;have HKB:=ze (fun(w':World) (hk:yH (· =gf+1) wr w')=>(show Below w.heap.size w w' from by rw[HGF.out];exact(HB0.out.trans (HB.out.mono (by have:=HZ.out;omega))).trans (hk.below (by have:=HB.out.size;have:=HZ.out;omega) (fun j hj e=>by omega))))
  by_cases hlt:k<R.length
  case neg=>
   obtain rfl:k=R.length:=by omega
   have hneg:¬(R.length:Int)<(R.length:Int):=by omega
   have hnd:decide ((R.length:Int)<(R.length:Int))=false:=decide_eq_false hneg;have HE:=ze (show yU p side R=y from(zmm p side R).symm.trans HY.out.1);clear HQ hQ
   go_wp2_with (refine zB rfl 28 _ _ rfl (gf+1) #[.string ⟨yp.toArray⟩,.bool yx,.string ⟨yt.toArray⟩] rfl rfl _ _ HG6r.out 3 Tryz.sizeFile rfl rfl (by simp[Value.oneCell']) ?_;intro w9 hg9 hk9)
   refine bodyPost_ret (yT rfl _ _ (gf+1) _ _ _ _ _ rfl rfl hg9 Tryz.underlying28 rfl Tryz.sizeFile) rfl ?_;exact⟨by rw[HE.out,HY.out.2];rfl,HKB.out _ hk9⟩
  have k1:(k:Int)<(R.length:Int):=by omega
  have kd:decide ((k:Int)<(R.length:Int))=true:=decide_eq_true k1;have kw:IntKind.i64.wrap ((k:Int)+1)=(k:Int)+1:=IntWalk.i64_in _ (by have:=HL.out;omega)
  cases y with
  |some f=>
   have HE:=ze (show yU p side R=some f from zkG HY.out.1);clear HQ hQ
   go_wp2_with (refine zB rfl 28 _ _ rfl (gf+1) #[.string ⟨yp.toArray⟩,.bool yx,.string ⟨yt.toArray⟩] rfl rfl _ _ HG6r.out 3 Tryz.sizeFile rfl rfl (by simp[Value.oneCell']) ?_;intro w9 hg9 hk9)
   refine bodyPost_ret (yT rfl _ _ (gf+1) _ _ _ _ _ rfl rfl hg9 Tryz.underlying28 rfl Tryz.sizeFile) rfl ?_;exact⟨by rw[HE.out,HY.out.2];rfl,HKB.out _ hk9⟩
  |none=>
   obtain⟨b,o,q,r,e,he,e0,e1⟩:=SlV.at (HR.out.old HB.out) hlt;cases e;have HM:=ze (zlg he HY.out.1);clear he
   by_cases hq:q=p
   case neg=>
    have hqb:(q==p)=false:=beq_false_of_ne hq;have HM2:=ze (show zar p side R (k+1)=none by rw[HM.out,if_neg hq]);clear hq HM;go_wp2_with fail;go_quiet (fail);go_wp2_with fail
    go_roundg (R.length-(k+1))
    case measure=>omega
    case rel=>exact⟨k+1,none,yp,yt,yx,rfl,by go_num,ze ⟨by omega,rfl⟩,ze ⟨HM2.out,HY.out.2⟩,HG,ze (HB.out.trans ((zm wr nq).mono HB.out.size))⟩
   case pos=>
    subst hq
    have hqb:(q==q)=true:=by simp
    obtain⟨u,hu⟩:∃u,zz side r=u:=⟨_,rfl⟩;obtain⟨⟨up,ux,ut⟩,huv⟩:∃y,u.getD zM=y:=⟨_,rfl⟩;have HM2:=ze (show zar q side R (k+1)=u by rw[HM.out,if_pos rfl,hu]);have HUV:=ze huv;have HFI:=ze (fun wx (h:yM wx (.slice so side.length sc) side)=>kU _ side r wx h (by have:=HL.out;omega));rw[hu,huv]at HFI;unfold zq ye at HFI;clear hu huv HM;go_wp2_with fail;go_quiet (fail);have HBn:=ze (show Below W.heap.size W (wr.drewN nq)from HB.out.trans ((zm wr nq).mono HB.out.size));have HGn:=ze (show(wr.drewN nq).heap[g8]? =some (.cells #[.string ⟨yp.toArray⟩,.bool yx,.string ⟨yt.toArray⟩] 28 (0,0))from HG.out);have e1n:(wr.drewN nq).cell? ⟨b,o+k*2+1,none⟩=some (.string ⟨r.toArray⟩):=e1;clear c3 d0 d1 d2 e0 e1 HB HG;generalize wr.drewN nq=wn at *
    go_wp2_with (first
     |(go_at_call 20;refine(HFI.out _ (zy.old HS.out HBn.out)).mono ?_;rintro e w5 ⟨rfl,hb5⟩;have HB5:=ze (HBn.out.trans (hb5.mono HBn.out.size));have HG5:=ze ((hb5.block g8 (lt_of_block HGn.out)).trans HGn.out);clear hb5)
     |(refine zB rfl 28 _ _ rfl g8 #[.string ⟨up.toArray⟩,.bool ux,.string ⟨ut.toArray⟩] rfl rfl _ _ HG5.out 3 Tryz.sizeFile rfl rfl (by simp[Value.oneCell']) ?_;intro w6 hg6 hk6;have HG6':=ze hg6;have HB6:=ze (HB5.out.trans (hk6.below HB5.out.size (fun j hj e=>by have:=HZ8.out;omega)));clear hg6 hk6))
    go_roundg (R.length-(k+1))
    case measure=>omega
    case rel=>exact⟨k+1,u,up,ut,ux,rfl,by go_num,ze ⟨by omega,rfl⟩,ze ⟨HM2.out,HUV.out⟩,HG6',HB6⟩
theorem zhv(va vs vr:Value)(base side:List zg)(R:List jQ)(w:World)(ha:yM w va base)(hs:yM w vs side)(hr:SlV w vr R)(hal:base.length<=1000000)(hl:side.length<=1000000)(hrl:R.length<=1000000):
  Calls Tryz.prog 33 #[va,vs,vr] w fun e w'=>∃u,e= .returned u/\zI w' w.heap.size u (zN base side R)/\Below w.heap.size w w':=by
 obtain⟨bo,bc,rfl⟩:=zy.form ha;obtain⟨so,sc,rfl⟩:=zy.form hs;obtain⟨ro,rc,rfl⟩:=zy.form hr;have HL:=ze (And.intro hal (And.intro hl hrl));have HA:=ze ha;have HS:=ze hs;have HR:=ze hr;clear ha hs hr hal hl hrl
 go_enter Tryz.func33,Tryz.ntmps33
 go_wp2_with fail
 go_loopg [7,8] side.length (fun g v i wr=>∃ (k:Nat) (X:List zg),i= .int .i64 (k:Int)/\Hid (k<=side.length/\side.length-k=g)/\Hid (X=zN base (side.take k) R/\X.length<=k)/\Hid (zI wr w.heap.size v X)/\Hid (Below w.heap.size w wr))
 case atStart=>exact⟨0,[],rfl,ze ⟨Nat.zero_le _,rfl⟩,ze ⟨rfl,Nat.le_refl _⟩,ze (World.ownsRow_nil _ _ _ _),ze (Below.refl _ _)⟩
 case round=>
  obtain⟨k,X,rfl,HQ,HX,HO,HB⟩:=hrel;have hQ:=HQ.out;obtain⟨no,nc,rfl⟩:=zl HO.out;have k0:(0:Int)<=(k:Int):=Int.natCast_nonneg _
  by_cases hlt:k<side.length
  case neg=>
   obtain rfl:k=side.length:=by omega
   have hneg:¬(side.length:Int)<(side.length:Int):=by omega
   have HE:=ze (show X=zN base side R by rw[HX.out.1,List.take_length]);go_wp2_with fail;go_ret;exact⟨_,rfl,by rw[<-HE.out];exact HO.out,HB.out⟩
  have k1:(k:Int)<(side.length:Int):=by omega
  have kw:IntKind.i64.wrap ((k:Int)+1)=(k:Int)+1:=IntWalk.i64_in _ (by have:=HL.out;omega);obtain⟨b,o,p,x,t,e,he,c0,c1,c2⟩:=yM.at (HS.out.old HB.out) hlt;cases e
  have ht:side.take (k+1)=side.take k++[(p,x,t)]:=by rw[List.take_add_one,he];rfl
  have HN:=ze (show zN base (side.take (k+1)) R=X ++(if zcf base R (p,x,t)=true then [(p,x,t)]else []) by
   rw[ht,zN,List.filter_append,HX.out.1,zN]
   congr 1
   cases h:zcf base R (p,x,t)<;> simp[h])
  clear he ht;obtain⟨z,hz⟩:∃z,zz base p=z:=⟨_,rfl⟩;obtain⟨⟨zp,zx,zt⟩,hzv⟩:∃y,z.getD zM=y:=⟨_,rfl⟩;have hF:=kU _ base p wr (HA.out.old HB.out) (by have:=HL.out;omega)
  have HON:=ze (show zcf base R (p,x,t)=!(z.isSome ||R.any fun r=>r.2==p) by
   rw[zcf];simp only[hz];cases z <;> cases(R.any fun r=>r.2==p)<;> rfl)
  rw[hz,hzv]at hF;clear hz hzv;obtain⟨bz,hbz⟩:∃b,z.isSome=b:=⟨_,rfl⟩;rw[hbz]at hF HON;clear hbz;unfold zq ye at hF;go_wp2_with fail;refine hF.mono ?_;rintro e w3 ⟨rfl,hb3⟩;have HB3:=ze (zi HB.out hb3 HB.out.size);have HO3:=ze (World.ownsRow.kept' HO.out hb3);have a0:=zf hb3 c0;have a1:=zf hb3 c1;have a2:=zf hb3 c2;clear hF hb3 c0 c1 c2
  go_wp2_with (refine zB rfl 28 _ _ rfl _ #[.string ⟨zp.toArray⟩,.bool zx,.string ⟨zt.toArray⟩] rfl rfl _ _ (heap_alloc_new _ _) 3 Tryz.sizeFile rfl rfl (by simp[Value.oneCell']) ?_;intro w4 hg8 hk4;have hb4:Below w3.heap.size w3 w4:=((Below.refl _ w3).alloc (Nat.le_refl _) _).trans (hk4.below (by simp) (fun j hj e=>by omega));have HB4:=ze (zi HB3.out hb4 HB3.out.size);have HO4:=ze (World.ownsRow.kept' HO3.out hb4);have d0:=zf hb4 a0;have d1:=zf hb4 a1;have d2:=zf hb4 a2;clear hg8 hk4 hb4 a0 a1 a2)
  generalize w3.heap.size=g8 at *;clear HB3 HO3 HB HO;generalize wr=wv at *
  go_loopg [10,11] R.length (fun g s10 i wr=>∃j:Nat,s10= .bool (bz ||(R.take j).any fun r=>r.2==p)/\i= .int .i64 (j:Int)/\Hid (j<=R.length/\R.length-j=g)/\Hid (Below w4.heap.size w4 wr))
  case atStart=>exact⟨0,by simp,rfl,ze ⟨Nat.zero_le _,rfl⟩,ze (Below.refl _ _)⟩
  case round=>
   obtain⟨j,rfl,rfl,HJ,HBE⟩:=hrel;have hJ:=HJ.out;have j0:(0:Int)<=(j:Int):=Int.natCast_nonneg _;have c0r:=zf HBE.out d0;have c1r:=zf HBE.out d1;have c2r:=zf HBE.out d2;obtain⟨bb,hbb⟩:∃b,(bz ||(R.take j).any fun r=>r.2==p)=b:=⟨_,rfl⟩;have HBJ:=ze hbb;rw[hbb];clear hbb
   by_cases hlj:j<R.length
   case neg=>
    obtain rfl:j=R.length:=by omega
    have hneg:¬(R.length:Int)<(R.length:Int):=by omega
    have HOR:=ze (HO4.out);have HBR:=ze (zi HB4.out HBE.out HB4.out.size);have HOn:=ze (World.ownsRow.kept' HO4.out HBE.out);have HAO:=ze (show zcf base R (p,x,t)=!bb by rw[HON.out,<-HBJ.out,List.take_length]);clear d0 d1 d2
    cases bb with
    |true=>
     have HE:=ze (show X=zN base (side.take (k+1)) R by rw[HN.out,HAO.out];simp);go_wp2_with fail
     go_roundg (side.length-(k+1))
     case measure=>omega
     case rel=>exact⟨k+1,X,by go_num,ze ⟨by omega,rfl⟩,ze ⟨HE.out,by have:=HX.out.2;omega⟩,HOn,HBR⟩
    |false=>
     have HE:=ze (show X++[(p,x,t)]=zN base (side.take (k+1)) R by rw[HN.out,HAO.out];simp)
     go_wp2_with (at_builtin;refine qU rfl (.tmp 50) (.tmp 55) rfl w.heap.size _ X (p,x,t) rfl HOn.out _ rfl rfl (by have:=HX.out.2;have:=HL.out;omega) HBR.out.size ?_;intro v5 w5 hO5 hb5;have HO5:=ze hO5;have HB5:=ze (HBR.out.trans hb5);clear hO5 hb5)
     go_roundg (side.length-(k+1))
     case measure=>omega
     case rel=>exact⟨k+1,X++[(p,x,t)],by go_num,ze ⟨by omega,rfl⟩,ze ⟨HE.out,by have:=HX.out.2;simp;omega⟩,HO5,HB5⟩
   have j1:(j:Int)<(R.length:Int):=by omega
   have jw:IntKind.i64.wrap ((j:Int)+1)=(j:Int)+1:=IntWalk.i64_in _ (by have:=HL.out;omega);obtain⟨b2,o2,q,r,e,he,e0,e1⟩:=SlV.at (HR.out.old (HB4.out.trans (HBE.out.mono HB4.out.size))) hlj;cases e;obtain⟨bn,hbn⟩:∃b,(r==p)=b:=⟨_,rfl⟩
   have HNX:=ze (show(bz ||(R.take (j+1)).any fun r=>r.2==p)=(bb ||bn) by
    rw[List.take_add_one,he,List.any_append,<-Bool.or_assoc,HBJ.out]
    simp[hbn])
   clear he d0 d1 d2
   cases bb with
   |true=>
    go_wp2_with fail;go_quiet (fail);go_wp2_with fail
    go_roundg (R.length-(j+1))
    case measure=>omega
    case rel=>exact⟨j+1,by rw[HNX.out];rfl,by go_num,ze ⟨by omega,rfl⟩,ze (HBE.out.trans ((zm wr nq).mono HBE.out.size))⟩
   |false=>
    go_wp2_with fail;go_quiet (fail);go_wp2_with fail
    go_roundg (R.length-(j+1))
    case measure=>omega
    case rel=>exact⟨j+1,by rw[HNX.out];simp,by go_num,ze ⟨by omega,rfl⟩,ze (HBE.out.trans ((zm wr nq).mono HBE.out.size))⟩
end
end Go.Proofs.YtbnafihigoekeaaGreatDoor

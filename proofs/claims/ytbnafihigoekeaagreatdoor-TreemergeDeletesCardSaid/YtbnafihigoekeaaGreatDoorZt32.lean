/-
  TmTl, part 32.
-/
import Derived.Test.YtbnafihigoekeaaGreatDoorZt8
import Derived.Shelf.Slices.In.SortNone
import Derived.Sort.OwnSorted
import Derived.Shelf.SlIter.Collect
import Derived.Test.YtbnafihigoekeaaGreatDoorZt25
set_option maxRecDepth 100000
set_option maxHeartbeats 4000000
namespace Go.Proofs.YtbnafihigoekeaaGreatDoor
def ratioL(x y:List zQ):Nat:=if x.length+y.length=0 then 100 else if 400<x.length∨400<y.length then 0 else 200*lcs x y / (x.length+y.length)
def ratioS(a b:zQ):Nat:=ratioL (zn a) (zn b)
theorem zol(x y:List zQ):ratioL x y<=100:=by
 unfold ratioL
 split
 ·exact Nat.le_refl _
 ·split
  ·omega
  ·rename_i h _
   obtain⟨h1,h2⟩:=zav x y;exact Nat.div_le_of_le_mul (by omega)
theorem zaO(a b:zQ):ratioS a b<=100:=zol _ _
abbrev zgt:=zQ × zQ
def qr(other:List zg)(f:zg):Prop:=zz other f.1=none/\f.2.2≠ []
def zbj(x y:zg):Prop:=x.2.2=y.2.2∨50<=ratioS x.2.2 y.2.2
structure zdb(a b:List zg)(r:List zgt):Prop where
 there:∀p∈r,∃x y,x∈a/\y∈b/\x.1=p.1/\y.1=p.2/\qr b x/\qr a y/\zbj x y
 rise:r.Pairwise fun p q=>xv p.1 q.1=true
 once:r.Pairwise fun p q=>p.2≠q.2
 most:∀x∈a,∀y∈b,qr b x->qr a y->zbj x y->(∃p∈r,p.1=x.1)∨∃p∈r,p.2=y.1
theorem zdb.nil_a{a b:List zg}{r:List zgt}(h:zdb a b r)(ha:∀x∈a,¬qr b x):r=[]:=by
 cases r with
 |nil=>rfl
 |cons p r=>
  obtain⟨x,_,hx,_,_,_,hl,_⟩:=h.there p (List.mem_cons_self ..);exact absurd hl (ha x hx)
theorem zdb.same{a:List zg}{r:List zgt}(h:zdb a a r):r=[]:=
 h.nil_a fun x hx hl=>jE.1 hl.1 x hx rfl
theorem zdb.one{a b:List zg}{r:List zgt}(h:zdb a b r){f g:zg}(hf:f∈a)(hg:g∈b)(ha:∀x∈a,qr b x->x=f)(hb:∀y∈b,qr a y->y=g)
  (lf:qr b f) (lg:qr a g) (al:zbj f g):r=[(f.1,g.1)]:=by
 have all:∀p∈r,p=(f.1,g.1):=fun p hp=>by
  obtain⟨x,y,hx,hy,ex,ey,lx,ly,_⟩:=h.there p hp;rw[ha x hx lx]at ex;rw[hb y hy ly]at ey;exact Prod.ext ex.symm ey.symm
 cases r with
 |nil=>rcases h.most f hf g hg lf lg al with⟨p,hp,_⟩ |⟨p,hp,_⟩<;> cases hp
 |cons p r=>
  cases r with
  |nil=>rw[all p (List.mem_cons_self ..)]
  |cons q r=>
   have e:=h.rise;rw[List.pairwise_cons]at e;have:=e.1 q (List.mem_cons_self ..);rw[all p (List.mem_cons_self ..),all q (List.mem_cons_of_mem _ (List.mem_cons_self ..)),jG]at this;cases this
theorem zdb.two{f g:zg}{r:List zgt}(h:zdb [f] [g] r)(hp:f.1≠g.1)(hf:f.2.2≠ [])(hg:g.2.2≠ [])(hne:f.2.2≠g.2.2):
  r=if 50<=ratioS f.2.2 g.2.2 then [(f.1,g.1)]else []:=by
 have lf:qr [g] f:=⟨jE.2 fun x hx=>by rw[List.mem_singleton.1 hx];exact hp.symm,hf⟩;have lg:qr [f] g:=⟨jE.2 fun x hx=>by rw[List.mem_singleton.1 hx];exact hp,hg⟩
 split
 ·rename_i h5
  exact h.one (List.mem_singleton.2 rfl) (List.mem_singleton.2 rfl) (fun x hx _ =>List.mem_singleton.1 hx) (fun x hx _ =>List.mem_singleton.1 hx) lf lg (.inr h5)
 ·rename_i h5
  cases r with
  |nil=>rfl
  |cons p r=>
   obtain⟨x,y,hx,hy,_,_,_,_,ha⟩:=h.there p (List.mem_cons_self ..);rw[List.mem_singleton.1 hx,List.mem_singleton.1 hy]at ha;exact absurd ha (not_or.2 ⟨hne,h5⟩)
theorem zdb.find{a b:List zg}{r:List zgt}(h:zdb a b r)(ha:yD a)(hb:yD b){p:zgt}(hp:p∈r):
  ∃x y,zz a p.1=some x/\zz b p.2=some y/\zz b p.1=none/\zz a p.2=none/\x.2.2≠ []/\(x.2.2=y.2.2∨50<=ratioS x.2.2 y.2.2):=by
 obtain⟨x,y,hx,hy,ex,ey,lx,ly,al⟩:=h.there p hp;rw[<-ex,<-ey];exact⟨x,y,ha.find hx,hb.find hy,lx.1,ly.1,lx.2,al⟩
open Go.RowKit
abbrev jQ:=List UInt8 × List UInt8
def zoT:Enc jQ:=⟨2,by omega,fun f=>[zq f.1,zq f.2],fun _ =>rfl,fun f u hu=>by
 simp only[List.mem_cons,List.not_mem_nil,or_false]at hu
 rcases hu with rfl |rfl <;> rfl⟩
def mvV(f:jQ):Value:= .agg #[zq f.1,zq f.2]
theorem Tryz.infoMv:(Tryz.prog.info? 78).map (fun i=>(i.zero,i.size,i.bytes))=some (some (.agg #[zq [],zq []]),2,32):=by kernel_rfl
theorem Tryz.sizeMv:(Tryz.prog.info? 78).map (·.size)=some 2:=by kernel_rfl
abbrev SlV(w:World)(v:Value)(fs:List jQ):Prop:=zy zoT w v fs
abbrev zcd(w:World)(base:Nat)(v:Value)(fs:List jQ):Prop:=w.ownsRow base 78 2 v fs.length (zO zoT fs)
theorem zcd.sl{w:World}{base:Nat}{v:Value}{fs:List jQ}(h:zcd w base v fs):SlV w v fs:=zy.ofOwns (E:=zoT) h
theorem SlV.at{w:World}{ao:Option Addr}{n cap:Nat}{fs:List jQ}(h:SlV w (.slice ao n cap) fs){i:Nat}(hi:i<fs.length):
  ∃b o p t,ao=some ⟨b,o,none⟩/\fs[i]? =some (p,t)/\w.cell? ⟨b,o+i*2,none⟩=some (.string ⟨List.toArray p⟩)/\w.cell? ⟨b,o+i*2+1,none⟩=some (.string ⟨List.toArray t⟩):=by
 obtain⟨b,o,⟨p,t⟩,ha,hx,hc⟩:=zy.at' h hi;exact⟨b,o,p,t,ha,hx,hc 0 _ rfl,hc 1 _ rfl⟩
section
variable{w:World}
theorem kg{ops:Array Oper}{o:Oper}{a:Act}{K:Act->World->Prop}{Q:Exit->Act->World->Prop}{X:Prop}(hgd:o.guard=none)(s sx:Operand)
  (ho:o.op= .call {callee:= .builtin .append,args:= #[s,sx],argTypes:= #[39,39] })
  (base:Nat) (v:Value) (xs:List jQ) (x:jQ) (he:a.eval s=v) (hown:zcd w base v xs) (u:Value) (hx:a.eval sx=u) (hu:SlV w u [x])
  (hlen:xs.length<=100000000) (hbase:base<=w.heap.size)
  (h:∀v' w',zcd w' base v' (xs++[x])->Below base w w'->K (a.put o.dst v') w'):if Region.wanted o (yielded ops a.tmps)=true then Oper.wp Tryz.prog o a w K Q else X:=by
 obtain⟨i0,hi0,hi1,hi2,hi3⟩:=info_parts Tryz.infoMv;exact zaS (E:=zoT) hgd s sx 39 78 ho Tryz.underlying39 hi0 hi1 hi2 (by rw[hi3];omega) rfl base v xs x he hown u hx hu hlen hbase h
end
def yR(other:List zg)(f:zg):Bool:=(zz other f.1).isNone && !(f.2.2==[])
def kR(B S:List zg)(ts:List Int)(i:Nat):Option jQ:=
 match ts[i]? with
 |some z=>if z= -1 then none else some ((B.getD i zM).1,(S.getD z.toNat zM).1)
 |none=>none
def ky(B S:List zg)(ts:List Int)(k:Nat):List jQ:=(List.range k).filterMap (kR B S ts)
theorem zck(B S:List zg)(ts:List Int)(k:Nat):ky B S ts (k+1)=ky B S ts k ++(kR B S ts k).toList:=by
 rw[ky,List.range_succ,List.filterMap_append]
 cases h:kR B S ts k <;> simp[h,ky]
theorem zin(B S:List zg)(ts:List Int)(k:Nat):(ky B S ts k).length<=k:=by
 have:=List.length_filterMap_le (kR B S ts) (List.range k);simpa[ky]using this
theorem ym{l:List zg}{i:Nat}{f:zg}(h:l[i]? =some f):l.getD i zM=f:=by rw[List.getD_eq_getElem?_getD,h];rfl
theorem zjB{B S:List zg}{ts:List Int}{i:Nat}{p:jQ}(h:kR B S ts i=some p):∃z,ts[i]? =some z/\z≠ -1/\p=((B.getD i zM).1,(S.getD z.toNat zM).1):=by
 unfold kR at h
 split at h
 ·rename_i z hz
  split at h
  ·cases h
  ·rename_i hn
   exact⟨z,hz,hn,(Option.some.inj h).symm⟩
 ·cases h
theorem qM{l:List zg}(h:yD l){i j:Nat}{x y:zg}(hij:i<j)(hi:l[i]? =some x)(hj:l[j]? =some y):xv x.1 y.1=true:=by
 obtain⟨h1,rfl⟩:=List.getElem?_eq_some_iff.1 hi;obtain⟨h2,rfl⟩:=List.getElem?_eq_some_iff.1 hj;exact List.pairwise_iff_getElem.1 h i j h1 h2 hij
theorem zfg(n:Nat):(List.range n).Pairwise (· < ·):=List.pairwise_lt_range
def zcG(l:List zg)(x:zg):Nat:=l.findIdx fun f=>f.1==x.1
def zcp(x y:zg):Nat:=if x.2.2=y.2.2 then 0 else 101-ratioS x.2.2 y.2.2
def zan(l m:List zg)(x y:zg):Nat:=(zcp x y*1000+zcG l x)*1000+zcG m y
structure zhc(l m:List zg)(M:zg->zg->Prop):Prop where
 sub:∀x y,M x y->x∈l/\y∈m/\qr m x/\qr l y/\zbj x y
 one:∀x y y',M x y->M x y'->y=y'
 eno:∀x x' y,M x y->M x' y->x=x'
 most:∀x∈l,∀y∈m,qr m x->qr l y->zbj x y->∃x' y',M x' y'/\(x'=x∨y'=y)/\zan l m x' y'<=zan l m x y
theorem zcK{l:List zg}{x:zg}(hx:x∈l):zcG l x<l.length:=List.findIdx_lt_length_of_exists ⟨x,hx,by simp⟩
theorem qm{l:List zg}(h:yD l){i:Nat}{x:zg}(hi:l[i]? =some x):zcG l x=i:=by
 obtain⟨h1,e⟩:=List.getElem?_eq_some_iff.1 hi;have hp:=zcK (List.mem_of_getElem? hi)
 have h2:(l[zcG l x]).1=x.1:=by
  have:=List.findIdx_getElem (p:=fun f:zg=>f.1==x.1) (w:=hp);exact eq_of_beq this
 rcases Nat.lt_trichotomy (zcG l x) i with q |q |q
 ·have:=List.pairwise_iff_getElem.1 h _ _ hp h1 q
  rw[e,h2,jG]at this;cases this
 ·exact q
 ·have:=List.pairwise_iff_getElem.1 h _ _ h1 hp q
  rw[e,h2,jG]at this;cases this
theorem znt{l:List zg}(h:yD l){x y:zg}(hx:x∈l)(hy:y∈l)(e:zcG l x=zcG l y):x=y:=by
 obtain⟨i,hi⟩:=List.mem_iff_getElem?.1 hx;obtain⟨j,hj⟩:=List.mem_iff_getElem?.1 hy;rw[qm h hi,qm h hj]at e;subst e;exact Option.some.inj (hi.symm.trans hj)
theorem zqY{l m:List zg}(tl:yD l)(tm:yD m)(hl:l.length<=1000)(hm:m.length<=1000){x y x' y':zg}(hx:x∈l)(hy:y∈m)(hx':x'∈l)(hy':y'∈m)
  (e:zan l m x' y'=zan l m x y):x'=x/\y'=y:=by
 have h1:=zcK hx;have h2:=zcK hy;have h3:=zcK hx';have h4:=zcK hy';unfold zan at e;exact⟨znt tl hx' hx (by omega),znt tm hy' hy (by omega)⟩
theorem znf{l m:List zg}(tl:yD l)(tm:yD m)(hl:l.length<=1000)(hm:m.length<=1000){M N:zg->zg->Prop}(hM:zhc l m M)(hN:zhc l m N):
  ∀ (k:Nat) (x y:zg),zan l m x y=k->(M x y ↔ N x y):=by
 have half:∀ {M N:zg->zg->Prop},zhc l m M->zhc l m N->∀k,(∀j,j<k->∀x y,zan l m x y=j->(M x y ↔ N x y))->∀x y,zan l m x y=k->M x y->N x y:=by
  intro M N hM hN k ih x y hk h;obtain⟨s1,s2,s3,s4,s5⟩:=hM.sub x y h;obtain⟨x',y',hN',hs,hle⟩:=hN.most x s1 y s2 s3 s4 s5;obtain⟨t1,t2,_⟩:=hN.sub x' y' hN'
  by_cases e:zan l m x' y'=zan l m x y
  ·obtain⟨rfl,rfl⟩:=zqY tl tm hl hm s1 s2 t1 t2 e
   exact hN'
  ·have hM':=(ih _ (by omega) x' y' rfl).2 hN'
   rcases hs with rfl |rfl
   ·rw[hM.one _ _ _ h hM']
    exact hN'
   ·rw[hM.eno _ _ _ h hM']
    exact hN'
 intro k
 induction k using Nat.strongRecOn with
 |ind k ih=>exact fun x y hk=>⟨half hM hN k ih x y hk,half hN hM k (fun j hj x y h=>(ih j hj x y h).symm) x y hk⟩
structure zam(l m:List zg)(r:List zgt):Prop where
 there:∀p∈r,∃x y,x∈l/\y∈m/\x.1=p.1/\y.1=p.2
 rise:r.Pairwise fun p q=>xv p.1 q.1=true
 pair:zhc l m fun x y=>x∈l/\y∈m/\(x.1,y.1)∈r
theorem zam.mem{l m:List zg}(tl:yD l)(tm:yD m)(hl:l.length<=1000)(hm:m.length<=1000){r q:List zgt}(hr:zam l m r)(hq:zam l m q){p:zgt}(hp:p∈r):p∈q:=by
 obtain⟨x,y,hx,hy,ex,ey⟩:=hr.there p hp;have e:(x.1,y.1)=p:=Prod.ext ex ey;have h:=(znf tl tm hl hm hr.pair hq.pair _ x y rfl).1 ⟨hx,hy,by rw[e];exact hp⟩;have h3:=h.2.2
 rwa [e]at h3
theorem zam.only{l m:List zg}(tl:yD l)(tm:yD m)(hl:l.length<=1000)(hm:m.length<=1000){r q:List zgt}(hr:zam l m r)(hq:zam l m q):r=q:=
 zct (R:=fun p q:zgt=>xv p.1 q.1=true) (fun x y h1 h2=>by rw[zbx h1]at h2;cases h2) r q hr.rise hq.rise fun _ =>⟨hr.mem tl tm hl hm hq,hq.mem tl tm hl hm hr⟩
theorem zff{l m:List zg}{x y x' y':zg}(hx:x'∈l)(hy:y'∈m)(hl:l.length<=1000)(hm:m.length<=1000)(h:zcp x' y'<zcp x y):zan l m x' y'<=zan l m x y:=by
 have h1:=zcK hx;have h2:=zcK hy;unfold zan;omega
theorem zgw{l m:List zg}{x y x' y':zg}(hy:y'∈m)(hm:m.length<=1000)(h:zcp x' y'=zcp x y)(hp:zcG l x'<zcG l x∨(zcG l x'=zcG l x/\zcG m y'<=zcG m y)):zan l m x' y'<=zan l m x y:=by
 have h2:=zcK hy;unfold zan;rw[h];omega
theorem zph{l:List zg}(h:yD l){x y:zg}(hx:x∈l)(hy:y∈l)(hlt:xv x.1 y.1=true):zcG l x<zcG l y:=by
 obtain⟨i,hi⟩:=List.mem_iff_getElem?.1 hx;obtain⟨j,hj⟩:=List.mem_iff_getElem?.1 hy;rw[qm h hi,qm h hj]
 rcases Nat.lt_trichotomy i j with q |q |q
 ·exact q
 ·subst q
  rw[Option.some.inj (hi.symm.trans hj),jG]at hlt;cases hlt
 ·have:=qM h q hj hi
  rw[zbx hlt]at this;cases this
def xP(l:List zg)(i:Nat):zg:=l.getD i zM
theorem jZ{l:List zg}{i:Nat}(h:i<l.length):l[i]? =some (xP l i):=by
 rw[xP,List.getD_eq_getElem?_getD,List.getElem?_eq_getElem h]
 rfl
theorem jN{l:List zg}{i:Nat}(h:i<l.length):xP l i∈l:=List.mem_of_getElem? (jZ h)
theorem zbP{m:List zg}{x:zg}:yR m x=true ↔ qr m x:=by
 unfold yR qr;rw[Bool.and_eq_true,Option.isNone_iff_eq_none];simp
open Go.RowKit
def shareS(c n m:Nat):Nat:=if n+m=0 then 100 else 200*c / (n+m)
section
theorem ziJ(ao:Option Addr)(n cap:Nat)(w:World):Calls Tryz.prog 202 #[.slice ao n cap] w fun e w'=>e= .returned (.bool (decide (400<n)))/\w=w':=by
 go_enter Tryz.func202,Tryz.ntmps202
 go_wp2
 go_ret;refine⟨?_,rfl⟩
 by_cases h:400<n
 ·have h2:(400:Int)<(n:Int):=by omega
  simp[h,h2]
 ·have h2:¬(400:Int)<(n:Int):=by omega
  simp[h,h2]
theorem zgK(c n m:Nat)(ao bo:Option Addr)(ac bc:Nat)(w:World)(hc:c<=1000000)(hn:n<=1000000)(hm:m<=1000000):
  Calls Tryz.prog 203 #[.int .i64 (c:Nat),.slice ao n ac,.slice bo m bc] w fun e w'=>e= .returned (.int .i64 (shareS c n m:Nat))/\w=w':=by
 have kw:IntKind.i64.wrap ((n:Int) +(m:Int))=(n:Int) +(m:Int):=IntWalk.i64_in _ (by omega)
 by_cases h0:n+m=0
 ·have e0:(n:Int) +(m:Int)=0:=by omega
  rw[shareS,if_pos h0];clear h0
  go_enter Tryz.func203,Tryz.ntmps203
  go_wp2
  go_ret;exact⟨rfl,rfl⟩
 ·have e0:¬(n:Int) +(m:Int)=0:=by omega
  have e1:((n:Int) +(m:Int)==0)=false:=by simpa using e0
  have kc:IntKind.i64.wrap (200*(c:Int))=200*(c:Int):=IntWalk.i64_in _ (by omega)
  have hs:((shareS c n m:Nat):Int)=200*(c:Int) / ((n:Int) +(m:Int)):=by
   rw[shareS,if_neg h0];simp
  have hb:shareS c n m<=200*c:=by
   rw[shareS,if_neg h0];exact Nat.div_le_self _ _
  have kq:IntKind.i64.wrap (200*(c:Int) / ((n:Int) +(m:Int)))=200*(c:Int) / ((n:Int) +(m:Int)):=by
   rw[<-hs];exact IntWalk.i64_in _ (by omega)
  have kt:Int.tdiv (200*(c:Int)) ((n:Int) +(m:Int))=200*(c:Int) / ((n:Int) +(m:Int)):=Int.tdiv_eq_ediv_of_nonneg (by omega);rw[hs];clear hs hb h0 hc hn hm
  go_enter Tryz.func203,Tryz.ntmps203
  go_wp2
  go_ret;exact⟨rfl,rfl⟩
theorem zev(x y:List zQ)(hx:x.length<=400)(hy:y.length<=400):ratioL x y=shareS (lcs x y) x.length y.length:=by
 unfold ratioL shareS
 split
 ·rfl
 ·rw[if_neg (by omega)]
theorem zkH(va vb:Value)(x y:List zQ)(w:World)(ha:Sl w va (zj x))(hb:Sl w vb (zj y))(hx:x.length<=1000000)(hy:y.length<=1000000):
  Calls Tryz.prog 184 #[va,vb] w fun e w'=>e= .returned (.int .i64 (ratioL x y:Nat))/\Below w.heap.size w w':=by
 have HC:=ze (zkE va vb x y w ha hb hx hy);obtain⟨ao,ac,rfl⟩:=ha.form;obtain⟨bo,bc,rfl⟩:=hb.form;rw[zk]at ha hb HC ⊢;rw[zk]at HC ⊢;clear ha hb;have hle:=(zav x y).1
 have hz:ratioL x y=if 400<x.length∨400<y.length then 0 else shareS (lcs x y) x.length y.length:=by
  split
  ·rename_i h
   unfold ratioL;rw[if_neg (by omega),if_pos h]
  ·exact zev x y (by omega) (by omega)
 obtain⟨c,hc⟩:∃c,lcs x y=c:=⟨_,rfl⟩;obtain⟨z,hzz⟩:∃z,ratioL x y=z:=⟨_,rfl⟩;rw[hzz]at hz;rw[hzz];rw[hc]at hz hle HC;clear hzz hc;obtain⟨n,hn⟩:∃n,x.length=n:=⟨_,rfl⟩;obtain⟨m,hm⟩:∃m,y.length=m:=⟨_,rfl⟩;rw[hn]at hz hle hx HC ⊢;rw[hm]at hz hy HC ⊢;clear hn hm
 have HL:=ze fun(o:Option Addr) (k cp:Nat) (wx:World)=>ziJ o k cp wx
 by_cases h1:400<n
 ·rw[if_pos (.inl h1)]at hz
  have d1:decide (400<n)=true:=decide_eq_true h1;subst hz;clear HC hle hx hy h1
  go_enter Tryz.func184,Tryz.ntmps184
  go_wp2_with (go_at_call 202;refine(HL.out _ _ _ _).mono ?_;rintro e w1 ⟨rfl,rfl⟩;rw[d1])
  go_ret;exact⟨rfl,Below.refl _ _⟩
 ·have d1:decide (400<n)=false:=decide_eq_false h1
  by_cases h2:400<m
  ·rw[if_pos (.inr h2)]at hz
   have d2:decide (400<m)=true:=decide_eq_true h2;subst hz;clear HC hle hx hy h1 h2
   go_enter Tryz.func184,Tryz.ntmps184
   go_wp2_with (go_at_call 202;refine(HL.out _ _ _ _).mono ?_;rintro e w1 ⟨rfl,rfl⟩;first |rw[d1] |rw[d2])
   go_ret;exact⟨rfl,Below.refl _ _⟩
  ·rw[if_neg (by omega)]at hz
   have d2:decide (400<m)=false:=decide_eq_false h2
   have HS:=ze fun(wx:World)=>zgK c n m ao bo ac bc wx (by omega) hx hy
   rw[<-hz]at HS;clear hle hx hy h1 h2 hz
   go_enter Tryz.func184,Tryz.ntmps184
   go_wp2_with (first |(go_at_call 202;refine(HL.out _ _ _ _).mono ?_;rintro e w1 ⟨rfl,rfl⟩;first |rw[d1] |rw[d2]) |(go_at_call 205;refine HC.out.mono ?_;rintro e w1 ⟨rfl,hb1⟩) |(go_at_call 203;refine(HS.out _).mono ?_;rintro e w1 ⟨rfl,rfl⟩))
   go_ret;exact⟨rfl,hb1⟩
end
open Go.RowKit Go.Shelf Go.Sort
def Tryz.lays190_ren:Go.Shelf.Ren:=⟨fun |125=>80 |128=>107 |129=>108 |190=>213 |258=>222 |302=>226 |303=>227 |304=>228 |305=>229 |306=>230 |307=>231 |308=>232 |309=>233 |310=>234 |329=>130 |330=>131 |333=>235 |334=>236 |335=>237 |336=>238 |344=>239 |n=>n,fun |0=>0 |3=>3 |4=>4 |5=>5 |9=>9 |31=>96 |46=>126 |51=>110 |53=>147 |131=>143 |182=>138 |183=>139 |218=>175 |222=>179 |228=>215 |229=>216 |n=>n,fun |n=>n⟩
theorem Tryz.lays190:Go.Proofs.Lays.n190 Tryz.prog Tryz.lays190_ren:= {
 mixed:=by kernel_rfl
 f125:=Tryz.func80.trans (congrArg some (by kernel_rfl))
 f128:=Tryz.func107.trans (congrArg some (by kernel_rfl))
 f129:=Tryz.func108.trans (congrArg some (by kernel_rfl))
 f190:=Tryz.func213.trans (congrArg some (by kernel_rfl))
 f258:=Tryz.func222.trans (congrArg some (by kernel_rfl))
 f302:=Tryz.func226.trans (congrArg some (by kernel_rfl))
 f303:=Tryz.func227.trans (congrArg some (by kernel_rfl))
 f304:=Tryz.func228.trans (congrArg some (by kernel_rfl))
 f305:=Tryz.func229.trans (congrArg some (by kernel_rfl))
 f306:=Tryz.func230.trans (congrArg some (by kernel_rfl))
 f307:=Tryz.func231.trans (congrArg some (by kernel_rfl))
 f308:=Tryz.func232.trans (congrArg some (by kernel_rfl))
 f309:=Tryz.func233.trans (congrArg some (by kernel_rfl))
 f310:=Tryz.func234.trans (congrArg some (by kernel_rfl))
 f329:=Tryz.func130.trans (congrArg some (by kernel_rfl))
 f330:=Tryz.func131.trans (congrArg some (by kernel_rfl))
 f333:=Tryz.func235.trans (congrArg some (by kernel_rfl))
 f334:=Tryz.func236.trans (congrArg some (by kernel_rfl))
 f335:=Tryz.func237.trans (congrArg some (by kernel_rfl))
 f336:=Tryz.func238.trans (congrArg some (by kernel_rfl))
 f344:=Tryz.func239.trans (congrArg some (by kernel_rfl))
 t0:=Tryz.underlying0
 a0:=Tryz.isAgg0
 z0:=Tryz.sizeOf0
 v0:=Tryz.zeroValue0
 t3:=Tryz.underlying3
 a3:=Tryz.isAgg3
 z3:=Tryz.sizeOf3
 v3:=Tryz.zeroValue3
 t4:=Tryz.underlying4
 a4:=Tryz.isAgg4
 z4:=Tryz.sizeOf4
 v4:=Tryz.zeroValue4
 t5:=Tryz.underlying5
 a5:=Tryz.isAgg5
 z5:=Tryz.sizeOf5
 v5:=Tryz.zeroValue5
 t9:=Tryz.underlying9
 a9:=Tryz.isAgg9
 z9:=Tryz.sizeOf9
 v9:=Tryz.zeroValue9
 t31:=Tryz.underlying96
 a31:=Tryz.isAgg96
 z31:=Tryz.sizeOf96
 v31:=Tryz.zeroValue96
 t46:=Tryz.underlying126
 a46:=Tryz.isAgg126
 z46:=Tryz.sizeOf126
 v46:=Tryz.zeroValue126
 t51:=Tryz.underlying110
 a51:=Tryz.isAgg110
 z51:=Tryz.sizeOf110
 v51:=Tryz.zeroValue110
 t53:=Tryz.underlying147
 a53:=Tryz.isAgg147
 z53:=Tryz.sizeOf147
 v53:=Tryz.zeroValue147
 t131:=Tryz.underlying143
 a131:=Tryz.isAgg143
 z131:=Tryz.sizeOf143
 v131:=Tryz.zeroValue143
 t182:=Tryz.underlying138
 a182:=Tryz.isAgg138
 z182:=Tryz.sizeOf138
 v182:=Tryz.zeroValue138
 t183:=Tryz.underlying139
 a183:=Tryz.isAgg139
 z183:=Tryz.sizeOf139
 v183:=Tryz.zeroValue139
 t218:=Tryz.underlying175
 a218:=Tryz.isAgg175
 z218:=Tryz.sizeOf175
 v218:=Tryz.zeroValue175
 t222:=Tryz.underlying179
 a222:=Tryz.isAgg179
 z222:=Tryz.sizeOf179
 v222:=Tryz.zeroValue179
 t228:=Tryz.underlying215
 a228:=Tryz.isAgg215
 z228:=Tryz.sizeOf215
 v228:=Tryz.zeroValue215
 t229:=Tryz.underlying216
 a229:=Tryz.isAgg216
 z229:=Tryz.sizeOf216
 v229:=Tryz.zeroValue216 }
theorem zjj(l:List zQ):zO zjS l=l.map encStr:=by rw[zrm];rfl
theorem zoC(v:Value)(l:List zQ)(w:World)(base:Nat)(hb:base<=w.heap.size)(hv:zcu w base v l)(hl:l.length<=1000000):
  Calls Tryz.prog 213 #[v] w fun e w'=>e= .returned (.tuple #[])/\zcu w' base v (l.mergeSort fun x y=>decide (x<=y))/\Below base w w':=by
 have hv2:=hv
 rcases hv.2 with⟨rfl,h0⟩ |⟨g,cap,cur,rfl,hbg,hg,h1,h2,h3,h4⟩
 ·obtain rfl:=List.eq_nil_of_length_eq_zero h0
  refine(show Calls Tryz.prog 213 #[.slice none 0 0] w _ from Any.slices_Sort_string_none Tryz.lays190 none 0 w).mono ?_;rintro e w' ⟨rfl,rfl⟩;exact⟨rfl,by simpa using hv2,Below.refl _ _⟩
 ·have hH:Holds encStr w g 0 l.toArray:=holds_of_block hg (by rw[Nat.mul_one]at h4;rw[h4,zjj])
  refine(show Calls Tryz.prog 213 #[.slice (some ⟨g,0,none⟩) l.length cap] w _ from calls_of_every_depth fun D=>AnyS.slices_Sort_string_in Tryz.lays190 D g 0 cap l w hH (Array.getElem?_eq_some_iff.1 hg).1 (by omega)).mono ?_;rintro e w' ⟨rfl,n,os,rfl⟩;refine⟨rfl,?_,(Below.refl base w).grown (grownBy_sorted _) hb (fun j hj=>by cases hj;exact hbg)⟩;have:=ownsRow_sorted (w:=w) (n:=n) (os:=os) (ss:=l) (ts:=l.mergeSort fun x y=>decide (x<=y)) (List.length_mergeSort l) hbg hg h1 h2 h3;unfold zcu;rw[zjj,List.length_mergeSort];exact this
open Go.RowKit
def xi(a:List zQ):List zQ:=a.mergeSort fun x y=>decide (x<=y)
abbrev TxS:=Nat × List zQ
def SlX(w:World)(v:Value)(cs:List TxS):Prop:=
 ∃ao cap,v= .slice ao cs.length cap/\(ao=none->cs=[])/\cs.length<=cap/\∀a,ao=some a->∀i c,cs[i]? =some c->∃vl vs,w.cell? (a.add (i*3))=some (.int .i64 (c.1:Nat))/\w.cell? (a.add (i*3+1))=some vl/\w.cell? (a.add (i*3+2))=some vs/\
  Sl w vl (zj c.2)/\Sl w vs (zj (xi c.2))
theorem SlX.nil(w:World):SlX w (.slice none 0 0) []:=⟨none,0,rfl,fun _ =>rfl,Nat.le_refl _,fun a h=>by cases h⟩
theorem SlX.form{w:World}{v:Value}{cs:List TxS}(h:SlX w v cs):∃ao cap,v= .slice ao cs.length cap:=by
 obtain⟨ao,cap,rfl,_⟩:=h;exact⟨ao,cap,rfl⟩
theorem SlX.old{w w':World}{v:Value}{cs:List TxS}(h:SlX w v cs)(hk:Below w.heap.size w w'):SlX w' v cs:=by
 obtain⟨ao,cap,rfl,hn,hcap,hc⟩:=h;refine⟨ao,cap,rfl,hn,hcap,fun a ha i c hi=>?_⟩;obtain⟨vl,vs,h1,h2,h3,h5,h6⟩:=hc a ha i c hi
 have k:∀ {p:Addr} {u:Value},w.cell? p=some u->w'.cell? p=some u:=fun {p u} hp=>(World.cell?_of_block (w:=w) (hk.block _ (World.block_lt_of_cell? w _ hp))).trans hp
 exact⟨vl,vs,k h1,k h2,k h3,h5.old hk,h6.old hk⟩
theorem SlX.at'{w:World}{ao:Option Addr}{n cap:Nat}{cs:List TxS}(h:SlX w (.slice ao n cap) cs){i:Nat}(hi:i<cs.length):
  ∃b o k xl vl vs,ao=some ⟨b,o,none⟩/\w.cell? ⟨b,o+i*3,none⟩=some (.int .i64 (k:Nat))/\w.cell? ⟨b,o+i*3+1,none⟩=some vl/\w.cell? ⟨b,o+i*3+2,none⟩=some vs/\
   Sl w vl (zj xl)/\Sl w vs (zj (xi xl))/\cs[i]? =some (k,xl):=by
 obtain⟨ao',cap',hv,hn,_,hc⟩:=h;obtain⟨rfl,_,_⟩:=Value.slice.inj hv
 cases ao with
 |none=>rw[hn rfl]at hi;cases hi
 |some a=>
  obtain⟨b,o,sp⟩:=a;obtain⟨vl,vs,h1,h2,h3,h5,h6⟩:=hc _ rfl i _ (List.getElem?_eq_getElem hi);obtain⟨_,_,h0,_⟩:=hc _ rfl 0 _ (List.getElem?_eq_getElem (by omega));rw[Nat.zero_mul,show(⟨b,o,sp⟩:Addr).add 0=⟨b,o,sp⟩from rfl]at h0;have hsp:sp=none:=World.cell?_spot h0;subst hsp
  have hadd:∀j,(⟨b,o,none⟩:Addr).add j=⟨b,o+j,none⟩:=fun j=>Addr.add_lit ..
  rw[hadd]at h1 h2 h3;rw[<-Nat.add_assoc]at h2 h3;exact⟨b,o,_,_,vl,vs,rfl,h1,h2,h3,h5,h6,List.getElem?_eq_getElem hi⟩
def zqz(w:World)(v:Value)(cs:List TxS)(flat:List Value):Prop:=
 ∀i c,cs[i]? =some c->∃vl vs,flat[i*3]? =some (.int .i64 (c.1:Nat))/\flat[i*3+1]? =some vl/\flat[i*3+2]? =some vs/\yy w v vl c.2/\yy w v vs (xi c.2)
def zbk(w:World)(base:Nat)(v:Value)(cs:List TxS):Prop:=∃flat,w.ownsRow base 225 3 v cs.length flat/\zqz w v cs flat
theorem zbk.nil(w:World)(base:Nat):zbk w base (.slice none 0 0) []:=⟨[],World.ownsRow_nil _ _ _ _,fun i h hi=>by simp at hi⟩
theorem zbk.form{w:World}{base:Nat}{v:Value}{cs:List TxS}(h:zbk w base v cs):∃ao cap,v= .slice ao cs.length cap:=by
 obtain⟨flat,h,_⟩:=h;exact zl h
theorem zbk.lt{w:World}{base:Nat}{v:Value}{cs:List TxS}(h:zbk w base v cs):∀j,v.ownBlock=some j->base<=j/\j<w.heap.size:=by
 obtain⟨flat,h,_⟩:=h;exact h.lt
theorem zbk.slX{w:World}{base:Nat}{v:Value}{cs:List TxS}(h:zbk w base v cs):SlX w v cs:=by
 obtain⟨flat,h1,h2⟩:=h
 rcases h1.2 with⟨rfl,hn⟩ |⟨g,cap,cur,rfl,r⟩
 ·have:cs=[]:=List.eq_nil_of_length_eq_zero hn
  subst this;exact SlX.nil w
 ·refine⟨some ⟨g,0,none⟩,cap,rfl,(fun h=>by cases h),r.2.2.1,fun a ha i x hx=>?_⟩
  cases ha;obtain⟨vl,vs,e1,e2,e3,n1,n2⟩:=h2 i x hx;exact⟨vl,vs,h1.cells rfl _ _ e1,h1.cells rfl _ _ e2,h1.cells rfl _ _ e3,n1.1,n2.1⟩
theorem zbk.old{w w':World}{base:Nat}{v:Value}{cs:List TxS}(h:zbk w base v cs)(hk:Below w.heap.size w w'):zbk w' base v cs:=by
 obtain⟨flat,h1,h2⟩:=h;refine⟨flat,?_,fun i x hx=>?_⟩
 ·rcases h1.2 with⟨rfl,h0⟩ |⟨g,cap,cur,rfl,r1,r2,r3⟩
  ·exact⟨h1.1,.inl ⟨rfl,h0⟩⟩
  ·exact⟨h1.1,.inr ⟨g,cap,cur,rfl,r1,(hk.block g (h1.lt g rfl).2).trans r2,r3⟩⟩
 ·obtain⟨vl,vs,e1,e2,e3,n1,n2⟩:=h2 i x hx
  have k:∀ {u xs},yy w v u xs->yy w' v u xs:=fun n=>n.kept (fun b hb _ =>hk.block b hb) hk.size (.inl rfl)
  exact⟨vl,vs,e1,e2,e3,k n1,k n2⟩
theorem Tryz.infoTx:(Tryz.prog.info? 225).map (fun i=>(i.zero,i.size,i.bytes))=some (some (.agg #[.int .i64 0,.slice none 0 0,.slice none 0 0]),3,56):=by kernel_rfl
theorem Tryz.sizeTx:(Tryz.prog.info? 225).map (·.size)=some 3:=by kernel_rfl
section
variable{w:World}
theorem zkq{base:Nat}{v:Value}{cs:List TxS}{k:Nat}{xl:List zQ}{vl vs:Value}{flat:List Value}(h1:w.ownsRow base 225 3 v cs.length flat)
  (h2:zqz w v cs flat) (hn1:yy w v vl xl) (hn2:yy w v vs (xi xl))
  {o:Obj} {v':Value} {w':World} (q1:w'.ownsRow base 225 3 v' (cs.length+1) (flat++[.int .i64 (k:Nat),vl,vs])) (q2:(w.alloc o).grownBy w' v.ownBlock) (q3:v'.ownBlock=v.ownBlock∨v'.ownBlock=some (w.alloc o).heap.size):
  zbk w' base v' (cs++[(k,xl)]):=by
 have hl:=h1.1
 have hz:(w.alloc o).heap.size=w.heap.size+1:=by simp
 have keep:∀b,b<w.heap.size->v.ownBlock≠some b->w'.heap[b]? =w.heap[b]? :=fun b hb hne=>(q2.block b (by omega) (fun e=>hne e.symm)).trans (Below.heap_alloc w _ b hb)
 have hv:v'.ownBlock=v.ownBlock∨∃f,v'.ownBlock=some f/\w.heap.size<=f:=by
  rcases q3 with e |e
  ·exact .inl e
  ·exact .inr ⟨_,e,by omega⟩
 have hsz:w.heap.size<=w'.heap.size:=by have:=q2.size;omega
 have kk:∀ {u xs},yy w v u xs->yy w' v' u xs:=fun n=>n.kept keep hsz hv
 refine⟨flat++[.int .i64 (k:Nat),vl,vs],by rw[List.length_append];exact q1,fun i x hx=>?_⟩
 by_cases hi:i<cs.length
 ·rw[List.getElem?_append_left hi]at hx
  obtain⟨a,b,e1,e2,e3,n1,n2⟩:=h2 i x hx;refine⟨a,b,?_,?_,?_,kk n1,kk n2⟩
  ·rw[List.getElem?_append_left (by omega)];exact e1
  ·rw[List.getElem?_append_left (by omega)];exact e2
  ·rw[List.getElem?_append_left (by omega)];exact e3
 ·have hlt:=(List.getElem?_eq_some_iff.1 hx).1
  rw[List.length_append,List.length_singleton]at hlt
  obtain rfl:i=cs.length:=by omega
  rw[List.getElem?_append_right (Nat.le_refl _),Nat.sub_self]at hx;cases hx;refine⟨vl,vs,?_,?_,?_,kk hn1,kk hn2⟩
  ·rw[List.getElem?_append_right (by omega),show cs.length*3-flat.length=0 by omega];rfl
  ·rw[List.getElem?_append_right (by omega),show cs.length*3+1-flat.length=1 by omega];rfl
  ·rw[List.getElem?_append_right (by omega),show cs.length*3+2-flat.length=2 by omega];rfl
theorem zhM{o:Oper}{a:Act}{K:Act->World->Prop}{Q:Exit->Act->World->Prop}(s sx:Operand)
  (ho:o.op= .call {callee:= .builtin .append,args:= #[s,sx],argTypes:= #[222,222] })
  (base:Nat) (v:Value) (cs:List TxS) (k:Nat) (xl:List zQ) (vl vs:Value) (he:a.eval s=v) (hown:zbk w base v cs) (hn1:yy w v vl xl) (hn2:yy w v vs (xi xl))
  (hx:a.eval sx= .slice (some ⟨w.heap.size,0,none⟩) 1 1) (c1:vl.oneCell'=true) (c2:vs.oneCell'=true) (hlen:cs.length<=4000000) (hbase:base<=w.heap.size)
  (h:∀v' w',zbk w' base v' (cs++[(k,xl)])->Below base w w'->(∀b,b<w.heap.size->v.ownBlock≠some b->w'.heap[b]? =w.heap[b]?)->K (a.put o.dst v') w'):o.wp Tryz.prog a (w.alloc (.cells #[.int .i64 (k:Nat),vl,vs] 225)) K Q:=by
 obtain⟨flat,h1,h2⟩:=hown;obtain⟨i0,hi0,hi1,hi2,hi3⟩:=info_parts Tryz.infoTx
 have hz:(w.alloc (.cells #[.int .i64 (k:Nat),vl,vs] 225)).heap.size=w.heap.size+1:=by simp
 refine jF _ s sx _ _ ho base 225 i0 _ 3 56 Tryz.underlying222 hi0 hi1 hi2 hi3 rfl (by omega) v _ _ he (h1.alloc _) _ 1 [.int .i64 (k:Nat),vl,vs] hx
  (Src.ofSlice _ Tryz.underlying222 ⟨w.heap.size,0,none⟩ 1 1 [.int .i64 (k:Nat),vl,vs] (by rfl) (World.news_of_block (cs:= #[.int .i64 (k:Nat),vl,vs]) (t:=225) (fr:=(0,0)) (heap_alloc_new w _)) (fun u hu=>?_)) (by unfold maxLen;omega) (by omega) (by omega) fun v' w' q1 q2 q3=>h v' w' (zkq h1 h2 hn1 hn2 q1 q2 q3) ?_ fun b hb hne=>(q2.block b (by omega) (fun e=>hne e.symm)).trans (Below.heap_alloc w _ b hb)
 ·rcases List.mem_cons.1 hu with rfl |hu
  ·rfl
  rcases List.mem_cons.1 hu with rfl |hu
  ·exact c1
  rcases List.mem_cons.1 hu with rfl |hu
  ·exact c2
  cases hu
 ·exact((Below.refl base w).alloc hbase _).grown q2 (by omega) (fun j hj=>(h1.lt j hj).1)
theorem zel{ops:Array Oper}{rest:List Oper}{o:Oper}{a:Act}{Q:Exit->Act->World->Prop}(hgd:o.guard=none)(s sx:Operand)
  (ho:o.op= .call {callee:= .builtin .append,args:= #[s,sx],argTypes:= #[222,222] })
  (base:Nat) (v:Value) (cs:List TxS) (k:Nat) (xl:List zQ) (vl vs:Value) (he:a.eval s=v) (hown:zbk w base v cs) (hn1:yy w v vl xl) (hn2:yy w v vs (xi xl))
  (g:Nat) (hg:w.heap.size=g) (hx:a.eval sx= .slice (some ⟨g,0,none⟩) 1 1) (c1:vl.oneCell'=true) (c2:vs.oneCell'=true) (hlen:cs.length<=4000000) (hbase:base<=w.heap.size)
  (h:∀v' w',zbk w' base v' (cs++[(k,xl)])->Below base w w'->wpList Tryz.prog ops Q rest (a.put o.dst v') w'):wpList Tryz.prog ops Q (o::rest) a (w.alloc (.cells #[.int .i64 (k:Nat),vl,vs] 225)):=by
 subst hg
 exact wpList_plain hgd fun _ hK=>zhM s sx ho base v cs k xl vl vs he hown hn1 hn2 hx c1 c2 hlen hbase fun v' w' h2 h3 _ =>hK _ _ (h v' w' h2 h3)
end
open Go.RowKit
attribute [local go_sem] Oper.semAt_some
section
theorem zpY(ao:Option Addr)(n cap:Nat)(w:World):
  Calls Tryz.prog 201 #[.slice ao n cap] w fun e w'=>e= .returned (.func (.func 214) #[] #[.pointer (some ⟨w.heap.size,0,none⟩)])/\w'=w.alloc (.cells #[.slice ao n cap] 96):=by
 go_enter Tryz.func201,Tryz.ntmps201
 go_wp2
 go_ret;exact⟨rfl,rfl⟩
def zjN(a:List zQ)(k:Nat):Array Value:= #[.string ⟨(a[k]?.getD []).toArray⟩]
theorem zla(w1 w:World)(Bs:Nat)(va:Value)(a:List zQ)(ha:Sl w1 va (zj a))(hb:Below w1.heap.size w1 w)(hBs:w.cell? ⟨Bs,0,none⟩=some va)(hn:a.length<=1000000):
  zlK Tryz.prog 214 #[.pointer (some ⟨Bs,0,none⟩)] a.length (zjN a) (KpB w1.heap.size Bs) w:=fun l J W hW hY h0=>by
 obtain⟨ao,cap,rfl⟩:=ha.form;rw[zk]at ha hBs;obtain⟨n,hn'⟩:∃n,a.length=n:=⟨_,rfl⟩;rw[hn']at ha hBs hn hY ⊢;have HA:=ze hn';have hBlt:Bs<w.heap.size:=World.block_lt_of_cell? w _ hBs;have hB1:W.cell? ⟨Bs,0,none⟩= _:=(hW.cell (p:=⟨Bs,0,none⟩) hBlt).trans hBs;have HW1:=ze (hb.trans (hW.mono hb.size):Below w1.heap.size w1 W);have HY:=ze hY;have n0:(0:Int)<=(n:Int):=Int.natCast_nonneg _;clear hY hn' hBs hW hb;refine callsIn_of_wp Tryz.func214 rfl trivial ?_ rfl;simp only[Tryz.ntmps214,List.size_toArray,List.length_cons,List.length_nil,Nat.reduceAdd,Nat.reduceSub,Array.replicate_succ,Array.replicate_zero,List.push_toArray,List.append_toArray,List.nil_append,List.cons_append]
 gi_wp2
 gi_loopw [7] (fun i wr=>∃k:Nat,k<=n/\i= .int .i64 (k:Int)/\Hid (J k wr)/\Hid (KpB w1.heap.size Bs W wr)) (fun i _ =>n-(intOf i).toNat)
 case atStart=>exact⟨0,Nat.zero_le _,by simp,ze h0,ze (KpB.refl _ _ _)⟩
 case round=>
  obtain⟨k,hk,rfl,HJ,HK⟩:=hrel
  by_cases hlt:k<n
  ·obtain⟨fn,tmps,assign,body,hy,hR⟩:=HY.out k wr hlt HJ.out
   obtain⟨a1,x,rfl,hcx,hx⟩:=(Sl.old ha (HW1.out.trans HK.out.1)).strAt' (i:=k) (by rw[HA.out];omega);rw[zjN,hx,Option.getD_some]at hy;have hB2:wr.cell? ⟨Bs,0,none⟩= _:=(World.cell?_of_block (w:=W) HK.out.2).trans hB1;have k0:(0:Int)<=(k:Int):=Int.natCast_nonneg _
   have k1:(k:Int)<(n:Int):=by omega
   have kw:IntKind.i64.wrap ((k:Int)+1)=(k:Int)+1:=IntWalk.i64_in _ (by omega);have HR:=ze hR;clear hx hR
   gi_wp2
   refine HR.out.mono ?_;rintro e W3 ⟨rfl,hJ3,hk3⟩;have HJ3:=ze hJ3;have HK3:=ze (HK.out.trans hk3);clear hJ3 hk3
   gi_wp2
   go_roundw
   case rel=>exact⟨k+1,by omega,by go_num,HJ3,HK3⟩
   case measure=>simp[intOf];omega
  ·obtain rfl:k=n:=by omega
   have hneg:¬(k:Int)<(k:Int):=by omega
   gi_wp2
   go_end0
   exact⟨⟨_,rfl⟩,HJ.out⟩
def ApI(w:World)(a:List zQ)(k:Nat)(W:World):Prop:=
 ∃v,W.heap[w.heap.size]? =some (.cells #[v] 96 (0,0))/\zcu W w.heap.size v (a.take k)/\Below w.heap.size w W
theorem ApI.own{B:Nat}{w:World}{a:List zQ}(hB:w.heap.size<=B):OwnFrom B (ApI w a):=fun k X Y row hs hg hr=>by
 obtain⟨v,hv,ho,hb⟩:=hs
 have keep:∀ {b:Nat} {cs:Array Value} {t:TypeId},X.heap[b]? =some (.cells cs t (0,0))->Y.heap[b]? =some (.cells cs t (0,0)):=fun {b cs t} hb=>by
  refine(hg.block b (lt_of_block hb) fun e=>?_).trans hb;obtain⟨_,o,ho,hc⟩:=hr b e.symm;rw[hb]at ho;cases ho;cases hc
 refine⟨v,keep hv,?_,hb.grown hg hb.size (fun j e=>by have:=(hr j e).1;omega)⟩
 rcases ho.2 with⟨rfl,h0⟩ |⟨g,cap,cur,rfl,h1,h2,h3⟩
 ·exact⟨ho.1,.inl ⟨rfl,h0⟩⟩
 ·exact⟨ho.1,.inr ⟨g,cap,cur,rfl,h1,keep h2,h3⟩⟩
theorem zpa(w1 w:World)(Bs:Nat)(va:Value)(a:List zQ)(ha:Sl w1 va (zj a))(hb:Below w1.heap.size w1 w)(hBs:w.cell? ⟨Bs,0,none⟩=some va)(hn:a.length<=1000000):
  Calls Tryz.prog 221 #[.slice none 0 0,.func (.func 214) #[] #[.pointer (some ⟨Bs,0,none⟩)]] w fun e w'=>∃v,e= .returned v/\zcu w' w.heap.size v a/\Below w.heap.size w w':=by
 obtain⟨i0,hi0,hi1,hi2,hi3⟩:=info_parts Tryz.infoStr;have hBlt:Bs<w.heap.size:=World.block_lt_of_cell? w _ hBs;have HN:=ze hn;have HA:=ze ha;have HB:=ze hb;have HBS:=ze hBs;have hw1:=hb.size;clear ha hb hBs hn;refine(callsIn_wide (n:=3)).1 ?_;refine callsIn_of_wp_marks Tryz.func221 rfl trivial ?_ rfl;refine(wpIn_wide (n:=3)).2 ?_;simp only[Tryz.ntmps221,List.size_toArray,List.length_cons,List.length_nil,Nat.reduceAdd,Nat.reduceSub,Array.replicate_succ,Array.replicate_zero,List.push_toArray,List.append_toArray,List.nil_append,List.cons_append];go_wp2_with fail;obtain⟨w9,hw9⟩:∃w9,w.alloc (.cells #[.slice none 0 0] 96)=w9:=⟨_,rfl⟩
 have hz9:w9.heap.size=w.heap.size+1:=by rw[<-hw9];simp
 have hb9:Below w.heap.size w w9:=by rw[<-hw9];exact(Below.refl _ w).alloc (Nat.le_refl _) _
 have hv9:w9.heap[w.heap.size]? =some (.cells #[.slice none 0 0] 96 (0,0)):=by rw[<-hw9];exact World.alloc_heap_new w _
 have hB9:w9.cell? ⟨Bs,0,none⟩=some va:=(hb9.cell (p:=⟨Bs,0,none⟩) hBlt).trans HBS.out;rw[hw9];clear hw9;refine(wpIn_wide (n:=3)).1 ?_;refine' zbp (gf:=214) (lb:= #[.pointer (some ⟨Bs,0,none⟩)]) (N:=a.length) (enc:=zjN a) (Kp:=KpB w1.heap.size Bs) (w0:=w9) rfl (enters_of Tryz.func214 (by kernel_rfl) rfl) ?seq (Below.refl _ _) (fun _ =>rfl) KpB.trans ?kb (ApI w a) (ApI.own hb9.size) ?start _ ?assign ?body ?done
 case seq=>exact zla w1 w9 Bs va a HA.out (HB.out.trans (hb9.mono hw1)) hB9 HN.out
 case kb=>exact fun W l o h1 h2=>KpB.put W o (by omega) (by omega) h2
 case start=>exact⟨_,hv9,⟨rfl,.inl ⟨rfl,rfl⟩⟩,hb9⟩
 case assign=>
  intro l k W K hK
  dsimp only[zjN]
  gi_wp2
  exact hK
 case body=>
  rintro l k W hk ⟨v,hv,ho,hbW⟩;obtain⟨x,hx⟩:∃x,a[k]? =some x:=⟨_,List.getElem?_eq_getElem (by omega)⟩;rw[hx,Option.getD_some]
  have hTK:a.take (k+1)=a.take k++[x]:=by rw[List.take_add_one,hx];rfl
  have hkl:(a.take k).length<=1000000:=by rw[List.length_take];have:=HN.out;omega
  have cv:W.cell? ⟨w.heap.size,0,none⟩=some v:=zd (i:=0) hv rfl
  have fv:W.frozen? ⟨w.heap.size,0,none⟩=false:=by simp[World.frozen?,hv]
  have HV:=ze hv;have HO:=ze ho;have hlt:=lt_of_block hv;clear hv ho hx
  have hne:∀ (X:World) (u:Value) (n:Nat) (xs:List Value) (c:Array Value),X.ownsRow w.heap.size 9 1 u n xs->X.heap[w.heap.size]? =some (.cells c 96 (0,0))->some w.heap.size≠u.ownBlock:=fun X u n xs c h hj e=>by
   rcases ownsRow_ne_a h hj (fun cur e=>absurd (Obj.cells.inj e).2.1 (by decide))with h1 |h1
   ·rw[h1]at e
    cases e
   ·exact h1 e.symm
  have HNE:=ze hne;clear hne
  gi_wp2_with (first
   |(gi_at_builtin;refine wpListIn_append_own _ rfl _ _ 96 rfl w.heap.size 9 i0 (.string ⟨#[]⟩) 1 16 Tryz.underlying96 hi0 hi1 hi2 hi3 rfl (by decide) _ _ _ rfl (HO.out.alloc _) ⟨W.heap.size,0,none⟩ 1 1 [zq x] rfl rfl (cell_one_new _ _ _) (by simp[Value.oneCell',zq]) (by unfold maxLen;omega) (by omega) (by have:=hbW.size;simp;omega) ?_;intro v3 w3 hown3 hg3 hnil3
     obtain⟨a3,c3,rfl⟩:=zl hown3;have hv3:=ze ((hg3.block w.heap.size (by simp;omega) (HNE.out _ _ _ _ _ HO.out HV.out)).trans ((Below.heap_alloc W _ _ hlt).trans HV.out));have cv3:w3.cell? ⟨w.heap.size,0,none⟩=some v:=zd (i:=0) hv3.out rfl
     have fv3:w3.frozen? ⟨w.heap.size,0,none⟩=false:=by simp[World.frozen?,hv3.out]
     have HG3:=ze hg3;have HO3:=ze hown3
     clear hg3 hown3 hnil3)
   |gi_round_op_a)
  have hml:(a.take k).length=min k a.length:=List.length_take ..;have ho3:=HO3.out
  have hcells:∀ (j:Nat) (o:Obj),v.ownBlock=some j->(W.alloc (.cells #[zq x] 9)).heap[j]? =some o->o.isCells=true:=fun j o hj ho=>by
   rcases(show zcu (W.alloc (.cells #[zq x] 9)) w.heap.size v (a.take k)from HO.out.alloc _).2 with⟨rfl,_⟩ |⟨g,cap,cur,rfl,_,h2,_⟩
   ·cases hj
   ·cases hj
    rw[h2]at ho;cases ho
    rfl
  have hb4:Below w.heap.size W (w3.setCell ⟨w.heap.size,0,none⟩ (Value.slice a3 (min k a.length+1) c3)):=
   ((((Below.refl w.heap.size W).alloc hbW.size _).grown HG3.out (by have:=hbW.size;simp;omega) (fun j e=>(HO.out.lt j e).1)).setCell (Nat.le_refl _) _)
  refine⟨(((KeepsOthers.alloc W _).trans (KeepsOthers.of_grownBy HG3.out hcells)).trans (KeepsOthers.setCell _ _ _)).from _,⟨hb4.mono hw1,hb4.block Bs hBlt⟩,.slice a3 (min k a.length+1) c3,?_,?_,hbW.trans hb4⟩
  ·have:=zv (i:=0) (u:= .slice a3 (min k a.length+1) c3) hv3.out
   simpa using this
  ·have hn3:=HNE.out _ _ _ _ _ ho3 hv3.out
   rw[hml]at ho3 hn3
   have hlen:(a.take (k+1)).length=min k a.length+1:=by rw[hTK,List.length_append,hml];rfl
   have hfl:zO zjS (a.take (k+1))=zO zjS (a.take k)++[zq x]:=by rw[hTK,xA,zbR];rfl
   unfold zcu;rw[hlen,hfl];refine⟨ho3.1,?_⟩
   rcases ho3.2 with⟨hn0,h0⟩ |⟨g,cap,cur,hve,h1,h2,h3⟩
   ·exact .inl ⟨hn0,h0⟩
   ·refine .inr ⟨g,cap,cur,hve,h1,?_,h3⟩
    rw[hve]at hn3;exact(Below.heap_setCell _ _ _ _ (fun e=>hn3 (by rw[show g=w.heap.size from e];rfl))).trans h2
 case done=>
  rintro D W hD ⟨v,hv,ho,hbW⟩ hK;have cv:W.cell? ⟨w.heap.size,0,none⟩=some v:=zd (i:=0) hv rfl;rw[List.take_length]at ho;have HO:=ze ho;clear ho hv
  dsimp only
  go_wp2_with fail;refine⟨by simp,.inl ⟨_,_,rfl,run_takeDeferred hK,?_⟩⟩;refine⟨_,results_tmp rfl _ _ _,v,rfl,?_,hbW.trans (belowK_b (w:=w) (Nat.le_refl _) W D _ _ (by omega) hK rfl rfl)⟩
  rcases HO.out.2 with⟨rfl,h0⟩ |⟨g,cap,cur,rfl,h1,h2,h3⟩
  ·exact⟨HO.out.1,.inl ⟨rfl,h0⟩⟩
  ·refine⟨HO.out.1,.inr ⟨g,cap,cur,rfl,h1,?_,h3⟩⟩
   rw[World.putObj_heap_other (fun e=>by rw[<-e,h2]at hK;cases hK)];exact h2
theorem zpA(w1 w:World)(Bs:Nat)(va:Value)(a:List zQ)(ha:Sl w1 va (zj a))(hb:Below w1.heap.size w1 w)(hBs:w.cell? ⟨Bs,0,none⟩=some va)(hn:a.length<=1000000):
  Calls Tryz.prog 212 #[.func (.func 214) #[] #[.pointer (some ⟨Bs,0,none⟩)]] w fun e w'=>∃v,e= .returned v/\zcu w' w.heap.size v a/\Below w.heap.size w w':=by
 have HC:=ze (zpa w1 w Bs va a ha hb hBs hn);clear ha hb hBs hn
 go_enter Tryz.func212,Tryz.ntmps212
 go_wp2_with (go_at_call 221;refine HC.out.mono ?_;rintro e w2 ⟨v,rfl,ho,hb2⟩)
 go_ret;exact⟨v,rfl,ho,hb2⟩
theorem zmb(w1 w:World)(Bs:Nat)(va:Value)(a:List zQ)(ha:Sl w1 va (zj a))(hb:Below w1.heap.size w1 w)(hBs:w.cell? ⟨Bs,0,none⟩=some va)(hn:a.length<=1000000):
  Calls Tryz.prog 200 #[.func (.func 214) #[] #[.pointer (some ⟨Bs,0,none⟩)]] w fun e w'=>∃v,e= .returned v/\zcu w' w.heap.size v (xi a)/\Below w.heap.size w w':=by
 have HC:=ze (zpA w1 w Bs va a ha hb hBs hn);have HN:=ze hn;clear ha hb hBs hn
 go_enter Tryz.func200,Tryz.ntmps200
 go_wp2_with fail;refine HC.out.mono ?_;rintro e w2 ⟨v,rfl,ho,hb2⟩;have HS:=ze (zoC v a w2 w.heap.size hb2.size ho HN.out);have HB:=ze hb2;clear ho hb2
 go_wp2_with (go_at_call 213;refine HS.out.mono ?_;rintro e w3 ⟨rfl,ho3,hb3⟩)
 go_ret;exact⟨v,rfl,ho3,HB.out.trans hb3⟩
end
theorem zng(x y:zQ):decide (x<=y)=!xv y x:=by
 have h:∀a b:zQ,xv a b=true ↔ a<b:=by
  intro a
  induction a with
  |nil=>
   intro b
   cases b with
   |nil=>simp[xv,Op.bytesLess]
   |cons c b=>simp[xv,Op.bytesLess]
  |cons c a ih=>
   intro b
   cases b with
   |nil=>simp[xv,Op.bytesLess]
   |cons d b=>rw[zeP,ih,List.cons_lt_cons_iff]
 have e:(x<=y)=¬(y<x):=rfl
 cases hl:xv y x with
 |true=>rw[decide_eq_false];rfl;rw[e];exact fun hn=>hn ((h _ _).1 hl)
 |false=>rw[decide_eq_true];rfl;rw[e];exact fun hn=>by rw[(h _ _).2 hn]at hl;cases hl
theorem zew(l:List zQ):(l.mergeSort fun x y=>decide (x<=y)).Pairwise fun x y=>xv y x=false:=by
 have h:=List.pairwise_mergeSort (le:=fun x y:zQ=>decide (x<=y)) (fun a b c hab hbc=>by
  rw[zng,Bool.not_eq_true']at hab hbc ⊢
  cases e:xv c a with
  |false=>rfl
  |true=>
   exfalso
   cases e2:xv a b with
   |true=>rw[qe _ _ _ e e2]at hbc;cases hbc
   |false=>
    have:=zcb _ _ e2 hab;rw[this,hbc]at e
    cases e) (fun a b=>by
  rw[zng,zng]
  cases e:xv b a with
  |false=>rfl
  |true=>rw[zbx e];rfl) l
 refine h.imp fun {x y} hxy=>?_
 rw[zng]at hxy;simpa using hxy
def xS:Nat->List zQ->List zQ->Nat
 |0,_,_ =>0
 | _+1,[],_ =>0
 | _+1,_:: _,[]=>0
 |g+1,x::a,y::b=>if x=y then xS g a b+1 else if xv x y=true then xS g a (y::b)else xS g (x::a) b
def sharedN(a b:List zQ):Nat:=xS (a.length+b.length) a b
theorem zbJ:∀ (g:Nat) (a b:List zQ),xS g a b<=a.length
 |0,_,_ =>Nat.zero_le _
 | _+1,[],_ =>Nat.le_refl _
 | _+1,_:: _,[]=>Nat.zero_le _
 |g+1,x::a,y::b=>by
  rw[xS]
  split
  ·have:=zbJ g a b
   simp only[List.length_cons];omega
  ·split
   ·have:=zbJ g a (y::b)
    simp only[List.length_cons];omega
   ·exact zbJ g (x::a) b
theorem zch:∀ (g:Nat) (a b s:List zQ),a.length+b.length<=g->(a.Pairwise fun x y=>xv y x=false)->(b.Pairwise fun x y=>xv y x=false)->
  (∀t,s.count t<=a.count t)->(∀t,s.count t<=b.count t)->s.length<=xS g a b
 | _,[],b,s,_,_,_,h1,_ =>by
  have:s=[]:=by
   rw[List.eq_nil_iff_forall_not_mem];intro t ht;have:=h1 t;rw[List.count_nil]at this;have:=List.count_pos_iff.2 ht;omega
  subst this;exact Nat.zero_le _
 | _,_:: _,[],s,_,_,_,_,h2=>by
  have:s=[]:=by
   rw[List.eq_nil_iff_forall_not_mem];intro t ht;have:=h2 t;rw[List.count_nil]at this;have:=List.count_pos_iff.2 ht;omega
  subst this;exact Nat.zero_le _
 |0,_:: _,_:: _,_,hg,_,_,_,_ =>by simp at hg
 |g+1,x::a,y::b,s,hg,ha,hb,h1,h2=>by
  rw[List.pairwise_cons]at ha hb;simp only[List.length_cons]at hg;rw[xS]
  by_cases hxy:x=y
  ·subst hxy
   rw[if_pos rfl]
   have hlen:s.length<=(s.erase x).length+1:=by
    rw[List.length_erase]
    split <;> omega
   have hc:∀ (l:List zQ),(∀t,s.count t<=(x::l).count t)->∀t,(s.erase x).count t<=l.count t:=fun l h t=>by
    have:=h t;rw[List.count_cons]at this;rw[List.count_erase]
    by_cases e:x=t
    ·subst e
     simp at this ⊢;omega
    ·have e2:(x==t)=false:=by simpa using e
     rw[e2]at this ⊢;simpa using this
   have:=zch g a b (s.erase x) (by omega) ha.2 hb.2 (hc a h1) (hc b h2);omega
  ·rw[if_neg hxy]
   by_cases hl:xv x y=true
   ·rw[if_pos hl]
    have hx:x ∉ y::b:=fun hm=>by
     rcases List.mem_cons.1 hm with e |hm
     ·exact hxy e
     ·have:=hb.1 x hm
      rw[hl]at this;cases this
    have h0:s.count x=0:=by
     have:=h2 x;rw[List.count_eq_zero_of_not_mem hx]at this;omega
    refine zch g a (y::b) s (by simp only[List.length_cons];omega) ha.2 (List.pairwise_cons.2 hb) (fun t=>?_) h2;have:=h1 t;rw[List.count_cons]at this
    by_cases e:x=t
    ·subst e
     omega
    ·have e2:(x==t)=false:=by simpa using e
     rw[e2]at this;simpa using this
   ·rw[if_neg hl]
    have hl2:xv y x=true:=by
     cases e:xv y x with
     |true=>rfl
     |false=>exact absurd (zcb _ _ (by simpa using hl) e) hxy
    have hy:y ∉ x::a:=fun hm=>by
     rcases List.mem_cons.1 hm with e |hm
     ·exact hxy e.symm
     ·have:=ha.1 y hm
      rw[hl2]at this;cases this
    have h0:s.count y=0:=by
     have:=h1 y;rw[List.count_eq_zero_of_not_mem hy]at this;omega
    refine zch g (x::a) b s (by simp only[List.length_cons];omega) (List.pairwise_cons.2 ha) hb.2 h1 (fun t=>?_);have:=h2 t;rw[List.count_cons]at this
    by_cases e:y=t
    ·subst e
     omega
    ·have e2:(y==t)=false:=by simpa using e
     rw[e2]at this;simpa using this
theorem zmF(a b:List zQ):lcs a b<=sharedN (a.mergeSort fun x y=>decide (x<=y)) (b.mergeSort fun x y=>decide (x<=y)):=by
 obtain⟨s,h1,h2,h3⟩:=zbW a b;rw[<-h3];refine zch _ _ _ s (Nat.le_refl _) (zew a) (zew b) (fun t=>?_) (fun t=>?_)
 ·rw[(List.mergeSort_perm a fun x y=>decide (x<=y)).count_eq]
  exact h1.count_le t
 ·rw[(List.mergeSort_perm b fun x y=>decide (x<=y)).count_eq]
  exact h2.count_le t
end Go.Proofs.YtbnafihigoekeaaGreatDoor

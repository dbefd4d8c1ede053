/-
  TmTl, part 3.
-/
import Derived.Test.YtbnafihigoekeaaGreatDoorZt2
import Derived.StillTailTactics
import Derived.Deep.LoopGhost
set_option maxHeartbeats 4000000
set_option maxRecDepth 100000
namespace Go.Proofs.YtbnafihigoekeaaGreatDoor
open Go.RowKit
section
variable{P:Program}
theorem zV{id:Nat}{Q:Exit->Act->World->Prop}{a:Act}{w:World}{l:List Oper}(C:World->Prop)(hm:P.follows .mixedOrders=true)(hB:Region.lexB .any l.toArray=true)(hC:C w.drew)
  (h:wpQuiet P l.toArray C (fun a'=>∀w',C w'->Q .normal a' w') l a):(Code.region id l.toArray true).wp P Q a w:=
 wp_region_quiet hm hB hC (by simpa using h)
theorem zcs{C:World->Prop}{a:Act}{o:Oper}{K:Act->Prop}(ty:TypeId)(x:Operand)(ho:o.op= .load ty x)
  (b off:Nat) (hx:a.eval x= .pointer (some ⟨b,off,none⟩)) (cs:List Value) (d:TypeDesc) (hc:∀w,C w->w.rangeAt b off cs)
  (hu:P.underlying ty=some d) (hd:d.isRow=true) (hi:(P.info? ty).map (·.size)=some cs.length) (h:K (a.put o.dst (.agg cs.toArray))):o.quiet P a C K:=
 ⟨_,fun w hw=>by
  unfold Oper.quietAt execOp;simp only[ho,hx,Instr.loadAt,Instr.sureAddr,Sem.run_bind,Sem.run_pure,Result.andThen_ok,run_loadVar_mid w b off ty cs d (hc w hw) hu hd hi]
  exact⟨rfl,rfl⟩,h⟩
end
section
variable{α:Type}
def zW(k:Int)(l:List (Int × α)):List α:=(l.filter fun e=>e.1==1 ||e.1==k).map (·.2)
theorem yJ(k:Int):zW k ([]:List (Int × α))=[]:=rfl
theorem zr(k:Int)(e:Int × α)(l:List (Int × α)):zW k (e::l)=if e.1=1∨e.1=k then e.2::zW k l else zW k l:=by
 unfold zW
 by_cases h:e.1=1∨e.1=k
 ·rw[if_pos h,List.filter_cons_of_pos (by simpa using h),List.map_cons]
 ·rw[if_neg h,List.filter_cons_of_neg (by simpa using h)]
theorem zK(k:Int)(l m:List (Int × α)):zW k (l++m)=zW k l++zW k m:=by simp[zW]
theorem zdv(k j:Int)(a:List α)(h:j=1∨j=k):zW k (a.map fun x=>(j,x))=a:=by
 induction a with
 |nil=>rfl
 |cons x a ih=>rw[List.map_cons,zr,if_pos h,ih]
theorem zcj(k j:Int)(a:List α)(h:¬(j=1∨j=k)):zW k (a.map fun x=>(j,x))=[]:=by
 induction a with
 |nil=>rfl
 |cons x a ih=>rw[List.map_cons,zr,if_neg h,ih]
def zay(l:List (Int × α)):Nat:=(l.filter fun e=>e.1 !=1).length
theorem zmV(e:Int × α)(l:List (Int × α)):zay (e::l)=if e.1=1 then zay l else zay l+1:=by
 unfold zay
 by_cases h:e.1=1
 ·rw[if_pos h,List.filter_cons_of_neg (by simpa using h)]
 ·rw[if_neg h,List.filter_cons_of_pos (by simpa using h),List.length_cons]
theorem ziw(j:Int)(a:List α)(h:j≠1):zay (a.map fun x=>(j,x))=a.length:=by
 induction a with
 |nil=>rfl
 |cons x a ih=>rw[List.map_cons,zmV,if_neg h,ih,List.length_cons]
end
section
variable{α:Type} [DecidableEq α]
def zpQ(x:α)(f:List α->Nat):List α->Nat
 | []=>0
 |y::b=>if x=y then f b+1 else max (f (y::b)) (zpQ x f b)
def lcs:List α->List α->Nat
 | [],_ =>0
 |x::a,b=>zpQ x (lcs a) b
theorem xR(b:List α):lcs [] b=0:=rfl
theorem xg(a:List α):lcs a []=0:=by cases a <;> rfl
theorem zkQ(x y:α)(a b:List α):lcs (x::a) (y::b)=if x=y then lcs a b+1 else max (lcs a (y::b)) (lcs (x::a) b):=rfl
theorem xD(x:α)(a b:List α):lcs (x::a) (x::b)=lcs a b+1:=by rw[zkQ,if_pos rfl]
theorem jo{x y:α}(h:x≠y)(a b:List α):lcs (x::a) (y::b)=max (lcs a (y::b)) (lcs (x::a) b):=by rw[zkQ,if_neg h]
theorem zbX{p:List α->List α->Prop}(h1:∀b,p [] b)(h2:∀a,p a [])(h3:∀x a b,p a b->p (x::a) (x::b))(h4:∀x y a b,x≠y->p a (y::b)->p (x::a) b->p (x::a) (y::b))(a b:List α):p a b:=by
 induction a generalizing b with
 |nil=>exact h1 b
 |cons x a iha=>
  induction b with
  |nil=>exact h2 _
  |cons y b ihb=>
   by_cases h:x=y
   ·subst h;exact h3 x a b (iha b)
   ·exact h4 x y a b h (iha _) ihb
theorem zqv(a b:List α):lcs a b=lcs b a:=by
 refine zbX (p:=fun a b=>lcs a b=lcs b a) (fun b=>?_) (fun a=>?_) (fun x a b ih=>?_) (fun x y a b h ih1 ih2=>?_) a b
 ·rw[xR,xg]
 ·rw[xR,xg]
 ·rw[xD,xD,ih]
 ·rw[jo h,jo (Ne.symm h),ih1,ih2,Nat.max_comm]
theorem zav(a b:List α):lcs a b<=a.length/\lcs a b<=b.length:=by
 refine zbX (p:=fun a b=>lcs a b<=a.length/\lcs a b<=b.length) (fun b=>?_) (fun a=>?_) (fun x a b ih=>?_) (fun x y a b h ih1 ih2=>?_) a b
 ·simp[xR]
 ·simp[xg]
 ·rw[xD];simp only[List.length_cons];omega
 ·rw[jo h];simp only[List.length_cons]at *;omega
theorem zbW(a b:List α):∃s:List α,s.Sublist a/\s.Sublist b/\s.length=lcs a b:=by
 refine zbX (p:=fun a b=>∃s:List α,s.Sublist a/\s.Sublist b/\s.length=lcs a b) (fun b=>?_) (fun a=>?_) (fun x a b ih=>?_) (fun x y a b h ih1 ih2=>?_) a b
 ·exact⟨[],List.Sublist.slnil,List.nil_sublist _,rfl⟩
 ·exact⟨[],List.nil_sublist _,List.Sublist.slnil,by rw[xg];rfl⟩
 ·obtain⟨s,h1,h2,h3⟩:=ih
  exact⟨x::s,h1.cons_cons x,h2.cons_cons x,by rw[xD,List.length_cons,h3]⟩
 ·rw[jo h]
  by_cases hle:lcs (x::a) b<=lcs a (y::b)
  ·obtain⟨s,h1,h2,h3⟩:=ih1
   exact⟨s,h1.cons x,h2,by omega⟩
  ·obtain⟨s,h1,h2,h3⟩:=ih2
   exact⟨s,h1,h2.cons y,by omega⟩
theorem zeC(a b:List α):∀s:List α,s.Sublist a->s.Sublist b->s.length<=lcs a b:=by
 refine zbX (p:=fun a b=>∀s:List α,s.Sublist a->s.Sublist b->s.length<=lcs a b) (fun b s h1 _ =>?_) (fun a s _ h2=>?_) (fun x a b ih s h1 h2=>?_) (fun x y a b h ih1 ih2 s h1 h2=>?_) a b
 ·rw[List.sublist_nil.1 h1];simp
 ·rw[List.sublist_nil.1 h2];simp
 ·rw[xD]
  cases h1 with
  |cons _ h1'=>
   cases h2 with
   |cons _ h2'=>exact Nat.le_succ_of_le (ih s h1' h2')
   |cons_cons _ h2'=>
    rename_i s';have:=ih s' ((List.sublist_cons_self x s').trans h1') h2';simp only[List.length_cons];omega
  |cons_cons _ h1'=>
   rename_i s'
   have h2':s'.Sublist b:=by
    cases h2 with
    |cons _ h2'=>exact(List.sublist_cons_self x s').trans h2'
    |cons_cons _ h2'=>exact h2'
   have:=ih s' h1' h2';simp only[List.length_cons];omega
 ·rw[jo h]
  cases h1 with
  |cons _ h1'=>have:=ih1 s h1' h2;omega
  |cons_cons _ h1'=>
   rename_i s'
   cases h2 with
   |cons _ h2'=>have:=ih2 (x::s') (h1'.cons_cons x) h2';omega
   |cons_cons _ h2'=>exact absurd rfl h
theorem zpi(a:List α):lcs a a=a.length:=by
 induction a with
 |nil=>rfl
 |cons x a ih=>rw[xD,ih,List.length_cons]
theorem zmw(l a b:List α):lcs (l++a) (l++b)=l.length+lcs a b:=by
 induction l with
 |nil=>simp
 |cons x l ih=>rw[List.cons_append,List.cons_append,xD,ih,List.length_cons];omega
def zrq(x:α)(a:List α)(f:List α->List (Int × α)):List α->List (Int × α)
 | []=>(2,x)::f []
 |y::b=>if x=y then(1,x)::f b else if lcs (x::a) b<=lcs a (y::b)then(2,x)::f (y::b)else(3,y)::zrq x a f b
def kJ:List α->List α->List (Int × α)
 | [],b=>b.map fun y=>(3,y)
 |x::a,b=>zrq x a (kJ a) b
theorem kj(b:List α):kJ [] b=b.map fun y=>((3:Int),y):=rfl
theorem zdG(x:α)(a:List α):kJ (x::a) []=((2:Int),x)::kJ a []:=rfl
theorem kG(x y:α)(a b:List α):kJ (x::a) (y::b)=if x=y then(1,x)::kJ a b else if lcs (x::a) b<=lcs a (y::b)then(2,x)::kJ a (y::b)else(3,y)::kJ (x::a) b:=rfl
theorem zjo(a:List α):kJ a []=a.map fun x=>((2:Int),x):=by
 induction a with
 |nil=>rfl
 |cons x a ih=>rw[zdG,ih,List.map_cons]
def zaf(a b:List α):Prop:=400<a.length∨400<b.length
instance(a b:List α):Decidable (zaf a b):=inferInstanceAs (Decidable (_ ∨ _))
def qh(a b:List α):List (Int × α):=if zaf a b then(a.map fun x=>(2,x))++b.map fun y=>(3,y)else kJ a b
def zom(x:α)(a:List α)(f:List α->List (Int × α)):List α->List (Int × α)
 | []=>qh (x::a) []
 |y::b=>if x=y then(1,x)::f b else qh (x::a) (y::b)
def zU:List α->List α->List (Int × α)
 | [],b=>qh [] b
 |x::a,b=>zom x a (zU a) b
theorem zaI(x y:α)(a b:List α):zU (x::a) (y::b)=if x=y then(1,x)::zU a b else qh (x::a) (y::b):=rfl
theorem qX(b:List α):zU [] b=qh [] b:=rfl
theorem qF(a:List α):zU a []=qh a []:=by cases a <;> rfl
theorem zcT(l a b:List α):zU (l++a) (l++b)=(l.map fun x=>(1,x))++zU a b:=by
 induction l with
 |nil=>rfl
 |cons x l ih=>rw[List.cons_append,List.cons_append,zaI,if_pos rfl,ih,List.map_cons,List.cons_append]
theorem zoh(a b:List α):zW 2 (kJ a b)=a/\zW 3 (kJ a b)=b/\(kJ a b).length+lcs a b=a.length+b.length/\zay (kJ a b)+2*lcs a b=a.length+b.length:=by
 refine zbX (p:=fun a b=>zW 2 (kJ a b)=a/\zW 3 (kJ a b)=b/\(kJ a b).length+lcs a b=a.length+b.length/\zay (kJ a b)+2*lcs a b=a.length+b.length) (fun b=>?_) (fun a=>?_) (fun x a b ih=>?_) (fun x y a b h ih1 ih2=>?_) a b
 ·rw[kj,xR]
  exact⟨zcj 2 3 b (by decide),zdv 3 3 b (by decide),by simp,by rw[ziw 3 b (by decide)];simp⟩
 ·rw[zjo,xg]
  exact⟨zdv 2 2 a (by decide),zcj 3 2 a (by decide),by simp,by rw[ziw 2 a (by decide)];simp⟩
 ·obtain⟨h1,h2,h3,h4⟩:=ih
  rw[kG,if_pos rfl,xD];refine⟨by rw[zr,if_pos (by simp),h1],by rw[zr,if_pos (by simp),h2],by simp only[List.length_cons];omega,?_⟩
  have:zay (((1:Int),x)::kJ a b)=zay (kJ a b):=by simp[zay]
  rw[this];simp only[List.length_cons];omega
 ·rw[kG,if_neg h,jo h]
  split
  ·rename_i hle
   obtain⟨h1,h2,h3,h4⟩:=ih1;refine⟨by rw[zr,if_pos (by simp),h1],by rw[zr,if_neg (by simp),h2],by simp only[List.length_cons]at *;omega,?_⟩
   have:zay (((2:Int),x)::kJ a (y::b))=zay (kJ a (y::b))+1:=by simp[zay]
   rw[this];simp only[List.length_cons]at *;omega
  ·rename_i hle
   obtain⟨h1,h2,h3,h4⟩:=ih2;refine⟨by rw[zr,if_neg (by simp),h1],by rw[zr,if_pos (by simp),h2],by simp only[List.length_cons]at *;omega,?_⟩
   have:zay (((3:Int),y)::kJ (x::a) b)=zay (kJ (x::a) b)+1:=by simp[zay]
   rw[this];simp only[List.length_cons]at *;omega
end
open Go.RowKit
def zjH(e:Int × List UInt8):List Value:=[.int .i64 e.1,zq e.2]
def zaU(es:List (Int × List UInt8)):List Value:=es.flatMap zjH
theorem zdL(a b:List (Int × List UInt8)):zaU (a++b)=zaU a++zaU b:=by simp[zaU]
theorem zoq(es:List (Int × List UInt8))(i:Nat)(e:Int × List UInt8)(h:es[i]? =some e):(zaU es)[i*2]? =some (.int .i64 e.1)/\(zaU es)[i*2+1]? =some (zq e.2):=by
 induction es generalizing i with
 |nil=>simp at h
 |cons x es ih=>
  cases i with
  |zero=>
   simp at h;subst h;simp[zaU,zjH]
  |succ i=>
   have:=ih i (by simpa using h);rw[zaU,List.flatMap_cons,<-zaU,show(i+1)*2=i*2+2 by omega,show i*2+2+1=(i*2+1)+2 by omega];simpa[zjH]using this
def SlE(w:World)(v:Value)(es:List (Int × List UInt8)):Prop:=
 ∃ao cap,v= .slice ao es.length cap/\(ao=none->es=[])/\es.length<=cap/\∀a,ao=some a->∀i e,es[i]? =some e->w.cell? (a.add (i*2))=some (.int .i64 e.1)/\w.cell? (a.add (i*2+1))=some (zq e.2)
theorem SlE.nil(w:World):SlE w (.slice none 0 0) []:=⟨none,0,rfl,fun _ =>rfl,Nat.le_refl _,fun a h=>by cases h⟩
theorem SlE.form{w:World}{v:Value}{es:List (Int × List UInt8)}(h:SlE w v es):∃ao cap,v= .slice ao es.length cap:=by
 obtain⟨ao,cap,rfl,_⟩:=h;exact⟨ao,cap,rfl⟩
theorem SlE.old{w w':World}{v:Value}{es:List (Int × List UInt8)}(h:SlE w v es)(hk:Below w.heap.size w w'):SlE w' v es:=by
 obtain⟨ao,cap,rfl,hn,hcap,hc⟩:=h;refine⟨ao,cap,rfl,hn,hcap,fun a ha i e he=>?_⟩;obtain⟨h1,h2⟩:=hc a ha i e he;exact⟨(World.cell?_of_block (w:=w) (hk.block _ (World.block_lt_of_cell? w _ h1))).trans h1,(World.cell?_of_block (w:=w) (hk.block _ (World.block_lt_of_cell? w _ h2))).trans h2⟩
theorem SlE.ofOwns{w:World}{base:Nat}{e:TypeId}{v:Value}{es:List (Int × List UInt8)}(h:w.ownsRow base e 2 v es.length (zaU es)):SlE w v es:=by
 rcases h.2 with⟨rfl,h0⟩ |⟨g,cap,cur,rfl,r⟩
 ·have:es=[]:=List.eq_nil_of_length_eq_zero h0
  subst this;exact SlE.nil w
 ·refine⟨some ⟨g,0,none⟩,cap,rfl,(fun h=>by cases h),r.2.2.1,fun a ha i x hx=>?_⟩
  cases ha;obtain⟨h1,h2⟩:=zoq es i x hx;exact⟨h.cells rfl _ _ h1,h.cells rfl _ _ h2⟩
theorem SlE.at{w:World}{ao:Option Addr}{n cap:Nat}{es:List (Int × List UInt8)}(h:SlE w (.slice ao n cap) es){i:Nat}(hi:i<es.length):
  ∃a k x,ao=some a/\w.cell? (a.add (i*2))=some (.int .i64 k)/\w.cell? (a.add (i*2+1))=some (.string ⟨List.toArray x⟩)/\es[i]? =some (k,x):=by
 obtain⟨ao',cap',hv,hn,_,hc⟩:=h;obtain⟨rfl,_,_⟩:=Value.slice.inj hv
 cases ao with
 |none=>rw[hn rfl]at hi;simp at hi
 |some a=>
  obtain⟨h1,h2⟩:=hc a rfl i _ (List.getElem?_eq_getElem hi);exact⟨a,es[i].1,es[i].2,rfl,h1,h2,List.getElem?_eq_getElem hi⟩
theorem SlE.at'{w:World}{ao:Option Addr}{n cap:Nat}{es:List (Int × List UInt8)}(h:SlE w (.slice ao n cap) es){i:Nat}(hi:i<es.length):
  ∃b o k x,ao=some ⟨b,o,none⟩/\w.cell? ⟨b,o+i*2,none⟩=some (.int .i64 k)/\w.cell? ⟨b,o+i*2+1,none⟩=some (.string ⟨List.toArray x⟩)/\es[i]? =some (k,x):=by
 obtain⟨a,k,x,rfl,h1,h2,h3⟩:=h.at hi;obtain⟨b,o,sp⟩:=a;obtain⟨a',k',x',e',h1',_,_⟩:=h.at (i:=0) (by omega);cases e';rw[Nat.zero_mul,show(⟨b,o,sp⟩:Addr).add 0=⟨b,o,sp⟩from rfl]at h1';have hsp:sp=none:=World.cell?_spot h1';subst hsp;rw[Addr.add_lit]at h1 h2;exact⟨b,o,k,x,rfl,h1,by rw[Nat.add_assoc];exact h2,h3⟩
theorem Tryz.infoEd:(Tryz.prog.info? 153).map (fun i=>(i.zero,i.size,i.bytes))=some (some (.agg #[.int .i64 0,zq []]),2,24):=by kernel_rfl
section
end
open Go.RowKit
def jg(f:Nat->Value)(z:Value)(N K:Nat):List Value:=(List.range N).map fun k=>if K<=k then f k else z
theorem zhD(f:Nat->Value)(z:Value)(N:Nat):jg f z N N=List.replicate N z:=by
 apply List.ext_getElem
 ·simp[jg]
 ·intro i h1 h2
  have:i<N:=by simpa[jg]using h1
  simp[jg];omega
theorem zbh{f:Nat->Value}{z:Value}{N K k:Nat}(h:k<N)(hK:K<=k):(jg f z N K)[k]? =some (f k):=by simp[jg,h,hK]
theorem zlu{f:Nat->Value}{z:Value}{N K k:Nat}(h:k<N)(hK:k<K):(jg f z N K)[k]? =some z:=by
 simp[jg,h];omega
theorem zfy(f:Nat->Value)(z:Value)(N K:Nat)(h:K<N):(jg f z N (K+1)).set K (f K)=jg f z N K:=by
 apply List.ext_getElem
 ·simp[jg]
 ·intro i h1 h2
  have hi:i<N:=by simpa[jg]using h2
  by_cases e:i=K
  ·subst e
   simp[jg]
  ·rw[List.getElem_set_ne (fun h=>e h.symm)]
   simp only[jg,List.getElem_map,List.getElem_range]
   by_cases h3:K<=i
   ·rw[if_pos h3,if_pos (by omega)]
   ·rw[if_neg h3,if_neg (by omega)]
theorem zmK(f:Nat->Value)(z:Value)(N:Nat)(h:f N=z):jg f z (N+1) (N+1)=jg f z (N+1) N:=by
 apply List.ext_getElem
 ·simp[jg]
 ·intro i h1 h2
  have hi:i<N+1:=by simpa[jg]using h2
  simp only[jg,List.getElem_map,List.getElem_range];rw[if_neg (by omega)]
  by_cases h3:N<=i
  ·rw[if_pos h3,show i=N by omega,h]
  ·rw[if_neg h3]
theorem qQ{P:Program}(w:World)(t e:TypeId)(i:TypeInfo)(z:Value)(ht:P.underlying t=some (.slice e))(hi:P.info? e=some i)(hz:i.zero=some z)(hs:i.size=1)(hz1:z.cells= #[z])(n:Nat)(hb:i.bytes*n<=281474976710656)(hn:n<=9223372036854775807):
  (Instr.makeSlice t (.int .i64 (n:Int)) (.int .i64 (n:Int))).run P w= .ok (.slice (some ⟨w.heap.size,0,none⟩) n n) (w.alloc (.cells (List.replicate n z).toArray e)):=by
 have h:=run_make (P:=P) w t e i z ht hi hz .i64 .i64 (n:Int) (n:Int) (by omega) (by omega) (by rw[<-Int.natCast_mul];omega) (by omega);rw[hs,Int.toNat_natCast,Nat.mul_one,hz1]at h;rw[h,<-toList_madeCells_one z n]
def zio(w:World)(base:Nat)(t:Value)(n m:Nat)(f:Nat->Nat->Nat):Prop:=
 ∃g,base<=g/\t= .slice (some ⟨g,0,none⟩) (n+1) (n+1)/\∀i,i<=n->∃r,base<=r/\w.cell? ⟨g,i,none⟩=some (.slice (some ⟨r,0,none⟩) (m+1) (m+1))/\∀k,k<=m->w.cell? ⟨r,k,none⟩=some (.int .i64 (f i k:Nat))
theorem zio.old{w w':World}{base:Nat}{t:Value}{n m:Nat}{f:Nat->Nat->Nat}(h:zio w base t n m f)(hk:∀b,base<=b->b<w.heap.size->w'.heap[b]? =w.heap[b]?):zio w' base t n m f:=by
 obtain⟨g,hg,rfl,h1⟩:=h;refine⟨g,hg,rfl,fun i hi=>?_⟩;obtain⟨r,hr,h2,h3⟩:=h1 i hi;refine⟨r,hr,(World.cell?_of_block (w:=w) (hk _ hg (World.block_lt_of_cell? w _ h2))).trans h2,fun k hkm=>?_⟩;exact(World.cell?_of_block (w:=w) (hk _ hr (World.block_lt_of_cell? w _ (h3 k hkm)))).trans (h3 k hkm)
structure zhk(w wr:World)(n m:Nat)(f:Nat->Nat->Nat)(I:Nat):Prop where
 size:wr.heap.size=w.heap.size +(n-I)+2
 top:wr.heap[w.heap.size]? =some (.cells (jg (fun j=> .slice (some ⟨w.heap.size+1 +(n-j),0,none⟩) (m+1) (m+1)) (.slice none 0 0) (n+1) I).toArray 75 (0,0))
 rows:∀j,I<=j->j<=n->wr.heap[w.heap.size+1 +(n-j)]? =some (.cells (jg (fun k=> .int .i64 (f j k:Nat)) (.int .i64 0) (m+1) 0).toArray 3 (0,0))
 below:Below w.heap.size w wr
theorem zhk.tab{w wr:World}{n m:Nat}{f:Nat->Nat->Nat}(h:zhk w wr n m f 0):zio wr w.heap.size (.slice (some ⟨w.heap.size,0,none⟩) (n+1) (n+1)) n m f:=by
 refine⟨_,Nat.le_refl _,rfl,fun i hi=>⟨w.heap.size+1 +(n-i),by omega,zd h.top ?_,fun k hk=>zd (h.rows i (Nat.zero_le _) hi) ?_⟩⟩
 ·rw[List.getElem?_toArray,zbh (by omega) (Nat.zero_le _)]
 ·rw[List.getElem?_toArray,zbh (by omega) (Nat.zero_le _)]
structure zhg(w wr:World)(n m:Nat)(f:Nat->Nat->Nat)(i K:Nat):Prop where
 size:wr.heap.size=w.heap.size +(n-i)+2
 top:wr.heap[w.heap.size]? =some (.cells (jg (fun j=> .slice (some ⟨w.heap.size+1 +(n-j),0,none⟩) (m+1) (m+1)) (.slice none 0 0) (n+1) i).toArray 75 (0,0))
 rows:∀j,i+1<=j->j<=n->wr.heap[w.heap.size+1 +(n-j)]? =some (.cells (jg (fun k=> .int .i64 (f j k:Nat)) (.int .i64 0) (m+1) 0).toArray 3 (0,0))
 cur:wr.heap[w.heap.size+1 +(n-i)]? =some (.cells (jg (fun k=> .int .i64 (f i k:Nat)) (.int .i64 0) (m+1) K).toArray 3 (0,0))
 below:Below w.heap.size w wr
theorem zhk.row{w wr w1:World}{n m:Nat}{f:Nat->Nat->Nat}{i:Nat}(h:zhk w wr n m f (i+1))(hi:i<n)(f1:f i m=0)(hw:w1=(wr.alloc (.cells (List.replicate (m+1) (Value.int .i64 0)).toArray 3)).setCell ⟨w.heap.size,i,none⟩ (.slice (some ⟨wr.heap.size,0,none⟩) (m+1) (m+1))):zhg w w1 n m f i m:=by
 have hs:=h.size
 have hse:wr.heap.size=w.heap.size+1 +(n-i):=by omega
 have hne:∀b,b≠w.heap.size->w1.heap[b]? =(wr.alloc (.cells (List.replicate (m+1) (Value.int .i64 0)).toArray 3)).heap[b]? :=fun b hb=>by rw[hw];exact Below.heap_setCell _ _ _ _ hb
 have hb:Below w.heap.size w w1:=by
  rw[hw];exact(h.below.alloc (by omega) _).setCell (Nat.le_refl _) _
 refine⟨?_,?_,fun j h1 h2=>?_,?_,hb⟩
 ·have:w1.heap.size=wr.heap.size+1:=by rw[hw];simp[World.setCell]
  omega
 ·have h0:(wr.alloc (.cells (List.replicate (m+1) (Value.int .i64 0)).toArray 3)).heap[w.heap.size]? = _:=(Below.heap_alloc wr _ _ (by omega)).trans h.top
  have:=zv (i:=i) (u:= .slice (some ⟨wr.heap.size,0,none⟩) (m+1) (m+1)) h0;rw[<-hw,List.setIfInBounds_toArray,hse,zfy (fun j=>Value.slice (some ⟨w.heap.size+1 +(n-j),0,none⟩) (m+1) (m+1)) _ _ _ (by omega)]at this;exact this
 ·rw[hne _ (by omega),Below.heap_alloc wr _ _ (by omega)]
  exact h.rows j h1 h2
 ·rw[hne _ (by omega),<-hse,heap_alloc_new,<-zhD (fun k=>Value.int .i64 (f i k:Nat)),zmK _ _ _ (by show Value.int .i64 (f i m:Nat)= _;rw[f1];rfl)]
theorem zhg.done{w wr:World}{n m:Nat}{f:Nat->Nat->Nat}{i:Nat}(h:zhg w wr n m f i 0):zhk w wr n m f i:=by
 refine⟨h.size,h.top,fun j h1 h2=>?_,h.below⟩
 by_cases e:j=i
 ·subst e;exact h.cur
 ·exact h.rows j (by omega) h2
theorem zhg.put{w wr w1:World}{n m:Nat}{f:Nat->Nat->Nat}{i K:Nat}(h:zhg w wr n m f i (K+1))(hi:i<=n)(hK:K<m+1)(hd:∃q,w1=wr.drewN q)(u:Value)(hu:u= .int .i64 (f i K:Nat)):zhg w (w1.setCell ⟨w.heap.size+1 +(n-i),K,none⟩ u) n m f i K:=by
 subst hu;obtain⟨q,rfl⟩:=hd
 have hne:∀b,b≠w.heap.size+1 +(n-i)->((wr.drewN q).setCell ⟨w.heap.size+1 +(n-i),K,none⟩ (.int .i64 (f i K:Nat))).heap[b]? =wr.heap[b]? :=fun b hb=>Below.heap_setCell _ _ _ _ hb
 refine⟨?_,?_,fun j h1 h2=>?_,?_,?_⟩
 ·have:((wr.drewN q).setCell ⟨w.heap.size+1 +(n-i),K,none⟩ (.int .i64 (f i K:Nat))).heap.size=wr.heap.size:=by simp[World.setCell]
  rw[this];exact h.size
 ·rw[hne _ (by omega)];exact h.top
 ·rw[hne _ (by omega)];exact h.rows j h1 h2
 ·have:=zv (i:=K) (u:= .int .i64 (f i K:Nat)) (show(wr.drewN q).heap[_]? = _ from h.cur)
  rw[List.setIfInBounds_toArray,zfy (fun k=> .int .i64 (f i k:Nat)) _ _ _ hK]at this;exact this
 ·exact(h.below.trans ⟨rfl,rfl,rfl,Nat.le_refl _,fun _ _ =>rfl⟩:Below w.heap.size w (wr.drewN q)).setCell (by show w.heap.size<=w.heap.size+1 +(n-i);omega) _
theorem Tryz.infoI:(Tryz.prog.info? 3).map (fun i=>(i.zero,i.size,i.bytes))=some (some (.int .i64 0),1,8):=by kernel_rfl
theorem Tryz.infoSlI:(Tryz.prog.info? 75).map (fun i=>(i.zero,i.size,i.bytes))=some (some (.slice none 0 0),1,24):=by kernel_rfl
open Go.RowKit
structure zaj(br:Nat)(w w':World):Prop where
 os:w'.os=w.os
 tape:w'.tape=w.tape
 output:w'.output=w.output
 size:w'.heap.size=w.heap.size
 block:∀k,k≠br->w'.heap[k]? =w.heap[k]?
theorem zaj.refl(br:Nat)(w:World):zaj br w w:=⟨rfl,rfl,rfl,rfl,fun _ _ =>rfl⟩
theorem zaj.drewN{br:Nat}{w wr:World}(h:zaj br w wr)(q:Nat):zaj br w (wr.drewN q):=⟨h.os,h.tape,h.output,h.size,h.block⟩
theorem zaj.setCell{br:Nat}{w wr:World}(h:zaj br w wr)(i:Nat)(u:Value):zaj br w (wr.setCell ⟨br,i,none⟩ u):=
 ⟨h.os,h.tape,h.output,by simpa[World.setCell]using h.size,fun k hk=>(Below.heap_setCell _ _ _ _ hk).trans (h.block k hk)⟩
theorem zaj.below{br n₀:Nat}{w w':World}(h:zaj br w w')(hn:n₀<=br):Below n₀ w w':=⟨h.os,h.tape,h.output,Nat.le_of_eq h.size.symm,fun k hk=>h.block k (by omega)⟩
def zbi(f z:Nat->Value)(N K:Nat):List Value:=(List.range N).map fun k=>if K<=k then f k else z k
theorem zfb{f z:Nat->Value}{N K k:Nat}(h:k<N)(hK:K<=k):(zbi f z N K)[k]? =some (f k):=by simp[zbi,h,hK]
theorem zgz{f z:Nat->Value}{N K k:Nat}(h:k<N)(hK:k<K):(zbi f z N K)[k]? =some (z k):=by
 simp[zbi,h];omega
theorem zhO(f z:Nat->Value)(N K:Nat)(h:K<N):(zbi f z N (K+1)).set K (f K)=zbi f z N K:=by
 apply List.ext_getElem
 ·simp[zbi]
 ·intro i h1 h2
  have hi:i<N:=by simpa[zbi]using h2
  by_cases e:i=K
  ·subst e
   simp[zbi]
  ·rw[List.getElem_set_ne (fun h=>e h.symm)]
   simp only[zbi,List.getElem_map,List.getElem_range]
   by_cases h3:K<=i
   ·rw[if_pos h3,if_pos (by omega)]
   ·rw[if_neg h3,if_neg (by omega)]
theorem ziP(f z:Nat->Value)(N:Nat)(h:f N=z N):(List.range (N+1)).map z=zbi f z (N+1) N:=by
 apply List.ext_getElem
 ·simp[zbi]
 ·intro i h1 h2
  have hi:i<N+1:=by simpa[zbi]using h2
  simp only[zbi,List.getElem_map,List.getElem_range]
  by_cases h3:N<=i
  ·rw[if_pos h3,show i=N by omega,h]
  ·rw[if_neg h3]
theorem zkp(f z:Nat->Value)(N:Nat):zbi f z N 0=(List.range N).map f:=by simp[zbi]
def zcF(q:IntKind)(g:Nat->Nat)(N:Nat):List Value:=(List.range N).map fun k=> .int q (g k:Nat)
theorem zca{q:IntKind}{g:Nat->Nat}{N k:Nat}(h:k<N):(zcF q g N)[k]? =some (.int q (g k:Nat)):=by simp[zcF,h]
theorem ziu(q:IntKind)(N:Nat):List.replicate N (Value.int q 0)=zcF q (fun _ =>0) N:=by
 apply List.ext_getElem
 ·simp[zcF]
 ·intro i h1 h2
  simp[zcF]
structure znF(x:List UInt8)(b:List (List UInt8))(g h:Nat->Nat):Prop where
 last:g b.length=0
 same:∀k,b[k]? =some x->g k=h (k+1)+1
 other:∀k y,b[k]? =some y->x≠y->g k=max (h k) (g (k+1))
theorem zfF(x:List UInt8)(a b:List (List UInt8)):znF x b (fun k=>lcs (x::a) (b.drop k)) (fun k=>lcs a (b.drop k)):=by
 refine⟨by simp[xg],fun k hk=>?_,fun k y hk hne=>?_⟩
 ·obtain⟨q2,e2⟩:=List.getElem?_eq_some_iff.1 hk
  show lcs (x::a) (b.drop k)=lcs a (b.drop (k+1))+1;rw[List.drop_eq_getElem_cons q2,e2,xD]
 ·obtain⟨q2,e2⟩:=List.getElem?_eq_some_iff.1 hk
  show lcs (x::a) (b.drop k)=max (lcs a (b.drop k)) (lcs (x::a) (b.drop (k+1)));rw[List.drop_eq_getElem_cons q2,e2,jo hne]
section
structure zdi(br m:Nat)(g z:Nat->Nat)(K:Nat)(w wr:World):Prop where
 only:zaj br w wr
 cur:wr.heap[br]? =some (.cells (zbi (fun k=> .int .u16 (g k:Nat)) (fun k=> .int .u16 (z k:Nat)) (m+1) K).toArray 263 (0,0))
theorem zdi.put{br m:Nat}{g z:Nat->Nat}{K:Nat}{w wr w1:World}(h:zdi br m g z (K+1) w wr)(hK:K<m+1)(hd:∃q,w1=wr.drewN q)(u:Value)(hu:u= .int .u16 (g K:Nat)):zdi br m g z K w (w1.setCell ⟨br,K,none⟩ u):=by
 subst hu;obtain⟨q,rfl⟩:=hd;refine⟨(h.only.drewN q).setCell _ _,?_⟩;have:=zv (i:=K) (u:= .int .u16 (g K:Nat)) (show(wr.drewN q).heap[_]? = _ from h.cur);rw[List.setIfInBounds_toArray,zhO (fun k=> .int .u16 (g k:Nat)) _ _ _ hK]at this;exact this
theorem zmi(w0:World)(br bb m:Nat)(x:List UInt8)(vb:Value)(b:List (List UInt8))(g h z:Nat->Nat)(w:World)(hm:b.length=m)(hbl:m<=1000000)(hb:Sl w0 vb (zj b))(hbel:Below w0.heap.size w0 w)(hlo:w0.heap.size<=br)(hne:bb≠br)
  (hrow:w.heap[br]? =some (.cells (zcF .u16 z (m+1)).toArray 263 (0,0))) (hz:z m=0) (hbeh:w.heap[bb]? =some (.cells (zcF .u16 h (m+1)).toArray 263 (0,0)))
  (hst:znF x b g h) (hh:∀k,h k<=65000) (hg:∀k,g k<=65000):
  Calls Tryz.prog 220 #[.slice (some ⟨br,0,none⟩) (m+1) (m+1),.slice (some ⟨bb,0,none⟩) (m+1) (m+1),.string ⟨x.toArray⟩,vb] w fun e w'=>(∃v,e= .returned v)/\zaj br w w'/\w'.heap[br]? =some (.cells (zcF .u16 g (m+1)).toArray 263 (0,0)):=by
 obtain⟨ab,cb,rfl⟩:=hb.form;rw[zk,hm]at hb ⊢;obtain⟨m1,hm1⟩:∃m1,m+1=m1:=⟨_,rfl⟩
 have h0:zdi br m g z m w w:=by
  refine⟨zaj.refl _ _,?_⟩;rw[<-ziP _ _ _ (show Value.int .u16 (g m:Nat)= .int .u16 (z m:Nat) by rw[hz,<-hm,hst.last])];exact hrow
 have HF0:=ze h0;have HST:=ze hst;have HH:=ze hh;have HG:=ze hg;have HML:=ze hm;have HM1:=ze hm1;have HB:=ze hbeh;have m0:(0:Int)<=(m:Int):=Int.natCast_nonneg _;have mw:IntKind.i64.wrap ((m:Int)-1)=(m:Int)-1:=IntWalk.i64_in _ (by omega);rw[hm1];clear h0 hst hh hg hm hm1 hrow hbeh hz
 go_enter Tryz.func220,Tryz.ntmps220
 go_wp2_with fail
 go_loopg [8] m (fun g' k wr=>∃K:Nat,K<=m/\K=g'/\k= .int .i64 ((K:Int)-1)/\Hid (zdi br m g z K w wr))
 case atStart=>exact⟨m,Nat.le_refl _,rfl,rfl,HF0⟩
 case round=>
  obtain⟨K,hK,rfl,rfl,HU⟩:=hrel
  by_cases hK0:K=0
  ·subst hK0
   have hneg:¬(0:Int)<=((0:Nat):Int)-1:=by omega
   go_wp2
   go_end0
   refine⟨⟨_,rfl⟩,HU.out.only,?_⟩;have:=HU.out.cur;rw[zkp,HM1.out]at this;exact this
  ·obtain⟨k,rfl⟩:∃k,K=k+1:=⟨K-1,by omega⟩
   rw[show((k+1:Nat):Int)-1=(k:Int) by omega];have k0:(0:Int)<=(k:Int):=Int.natCast_nonneg _;have kw:IntKind.i64.wrap ((k:Int)-1)=(k:Int)-1:=IntWalk.i64_in _ (by omega)
   have hkm:k<m:=by omega
   obtain⟨a2,y,rfl,hcy,hy⟩:=(Sl.old hb (hbel.trans (HU.out.only.below hlo))).strAt' (i:=k) (by rw[HML.out];exact hkm)
   have km1:(k:Int)<(m:Int):=by omega
   obtain⟨k2,hk2'⟩:∃k2,k+1=k2:=⟨_,rfl⟩;have kw2:IntKind.i64.wrap ((k:Int)+1)=(k2:Int):=(IntWalk.i64_in _ (by omega)).trans (by omega);have hrow:=(HU.out.only.block bb hne).trans HB.out;have hcur:=HU.out.cur;have cr0:=zd (i:=k) hrow (by rw[List.getElem?_toArray];exact zca (by omega));have cr1:=zd (i:=k2) hrow (by rw[List.getElem?_toArray];exact zca (by omega));have cc1:=zd (i:=k2) hcur (by rw[List.getElem?_toArray];exact zfb (by omega) (by omega));have cc0:=zd (i:=k) hcur (by rw[List.getElem?_toArray];exact zgz (by omega) (by omega));have zc0:=zo (i:=k) hcur
   have hm1:(k2:Int)<(m1:Int):=by have:=HM1.out;omega
   have hm2:(k:Int)<(m1:Int):=by have:=HM1.out;omega
   have k20:(0:Int)<=(k2:Int):=Int.natCast_nonneg _
   by_cases hxy:x=y
   ·subst hxy
    have hbe:(x==x)=true:=by simp
    have hfe:=HST.out.same k hy;have hfm:=HH.out (k+1);rw[hk2']at hfe hfm;obtain⟨V,hV⟩:∃V,h k2=V:=⟨_,rfl⟩;rw[hV]at hfe hfm cr1;have HFE2:=ze hfe;have HK2:=ze hk2';have vw:IntKind.u16.wrap ((V:Int)+1)=(V:Int)+1:=IntWalk.u16_in _ (by omega);clear hfe hV hrow hcur hk2' hy cr0 cc1;go_wp2_with fail;have R:=HU.out.put (by omega) ⟨0,rfl⟩ (.int .u16 ((V:Int)+1)) (by rw[HFE2.out];rfl)
    go_roundg k
    case measure=>omega
    case rel=>exact⟨k,by omega,rfl,rfl,ze R⟩
   ·have hbe:(x==y)=false:=by simpa using hxy
    have hfe:=HST.out.other k y hy hxy;have hfm0:=HH.out k;have hfm1:=HG.out (k+1);rw[hk2']at hfe hfm1;obtain⟨V0,hV0⟩:∃V,h k=V:=⟨_,rfl⟩;obtain⟨V1,hV1⟩:∃V,g k2=V:=⟨_,rfl⟩;rw[hV0,hV1]at hfe;rw[hV0]at hfm0 cr0;rw[hV1]at hfm1 cc1;have HFE2:=ze hfe;clear hfe hV0 hV1 hrow hcur hk2' hy cr1 hxy;go_wp2_with fail;refine wp_region_still_tail 13 (by kernel_rfl) (by kernel_rfl) ?_;simp only[List.take_succ_cons,List.take_zero,List.drop_succ_cons,List.drop_zero];have e2:(wr).drew.cell? ⟨bb,k,none⟩= _:=cr0;have e5:(wr).drew.cell? ⟨br,k2,none⟩= _:=cc1;have e3:(wr).drew.cell? ⟨br,k,none⟩= _:=cc0;have e4:(wr).drew.frozen? ⟨br,k,none⟩=false:=zc0;have HQ:=ze (show ∃q,(wr).drew=wr.drewN q from⟨1,rfl⟩)
    change wpStill _ _ (World.drew wr) (fun a'=>wpList _ _ _ _ a' (World.drew wr)) _ _
    clear cr0 cc0 cc1 zc0 hcy;generalize(wr).drew=w5 at e2 e3 e4 e5 HQ ⊢
    repeat still_step
    try refine wpStill_nil ?_
    go_wp2_with fail
    ·rename_i hmx
     have R:=HU.out.put (by omega) HQ.out (.int .u16 (V1:Int)) (by rw[HFE2.out,Nat.max_eq_right (by omega)])
     go_roundg k
     case measure=>omega
     case rel=>exact⟨k,by omega,rfl,rfl,ze R⟩
    ·rename_i hmx
     have R:=HU.out.put (by omega) HQ.out (.int .u16 (V0:Int)) (by rw[HFE2.out,Nat.max_eq_left (by omega)])
     go_roundg k
     case measure=>omega
     case rel=>exact⟨k,by omega,rfl,rfl,ze R⟩
end
section
structure zdn(br m:Nat)(g z:Nat->Nat)(K:Nat)(w wr:World):Prop where
 only:zaj br w wr
 cur:wr.heap[br]? =some (.cells (zbi (fun k=> .int .u32 (g k:Nat)) (fun k=> .int .u32 (z k:Nat)) (m+1) K).toArray 110 (0,0))
theorem zdn.put{br m:Nat}{g z:Nat->Nat}{K:Nat}{w wr w1:World}(h:zdn br m g z (K+1) w wr)(hK:K<m+1)(hd:∃q,w1=wr.drewN q)(u:Value)(hu:u= .int .u32 (g K:Nat)):zdn br m g z K w (w1.setCell ⟨br,K,none⟩ u):=by
 subst hu;obtain⟨q,rfl⟩:=hd;refine⟨(h.only.drewN q).setCell _ _,?_⟩;have:=zv (i:=K) (u:= .int .u32 (g K:Nat)) (show(wr.drewN q).heap[_]? = _ from h.cur);rw[List.setIfInBounds_toArray,zhO (fun k=> .int .u32 (g k:Nat)) _ _ _ hK]at this;exact this
theorem zhH(w0:World)(br bb m:Nat)(x:List UInt8)(vb:Value)(b:List (List UInt8))(g h z:Nat->Nat)(w:World)(hm:b.length=m)(hbl:m<=1000000)(hb:Sl w0 vb (zj b))(hbel:Below w0.heap.size w0 w)(hlo:w0.heap.size<=br)(hne:bb≠br)
  (hrow:w.heap[br]? =some (.cells (zcF .u32 z (m+1)).toArray 110 (0,0))) (hz:z m=0) (hbeh:w.heap[bb]? =some (.cells (zcF .u32 h (m+1)).toArray 110 (0,0)))
  (hst:znF x b g h) (hh:∀k,h k<=1000000) (hg:∀k,g k<=1000000):
  Calls Tryz.prog 223 #[.slice (some ⟨br,0,none⟩) (m+1) (m+1),.slice (some ⟨bb,0,none⟩) (m+1) (m+1),.string ⟨x.toArray⟩,vb] w fun e w'=>(∃v,e= .returned v)/\zaj br w w'/\w'.heap[br]? =some (.cells (zcF .u32 g (m+1)).toArray 110 (0,0)):=by
 obtain⟨ab,cb,rfl⟩:=hb.form;rw[zk,hm]at hb ⊢;obtain⟨m1,hm1⟩:∃m1,m+1=m1:=⟨_,rfl⟩
 have h0:zdn br m g z m w w:=by
  refine⟨zaj.refl _ _,?_⟩;rw[<-ziP _ _ _ (show Value.int .u32 (g m:Nat)= .int .u32 (z m:Nat) by rw[hz,<-hm,hst.last])];exact hrow
 have HF0:=ze h0;have HST:=ze hst;have HH:=ze hh;have HG:=ze hg;have HML:=ze hm;have HM1:=ze hm1;have HB:=ze hbeh;have m0:(0:Int)<=(m:Int):=Int.natCast_nonneg _;have mw:IntKind.i64.wrap ((m:Int)-1)=(m:Int)-1:=IntWalk.i64_in _ (by omega);rw[hm1];clear h0 hst hh hg hm hm1 hrow hbeh hz
 go_enter Tryz.func223,Tryz.ntmps223
 go_wp2_with fail
 go_loopg [8] m (fun g' k wr=>∃K:Nat,K<=m/\K=g'/\k= .int .i64 ((K:Int)-1)/\Hid (zdn br m g z K w wr))
 case atStart=>exact⟨m,Nat.le_refl _,rfl,rfl,HF0⟩
 case round=>
  obtain⟨K,hK,rfl,rfl,HU⟩:=hrel
  by_cases hK0:K=0
  ·subst hK0
   have hneg:¬(0:Int)<=((0:Nat):Int)-1:=by omega
   go_wp2
   go_end0
   refine⟨⟨_,rfl⟩,HU.out.only,?_⟩;have:=HU.out.cur;rw[zkp,HM1.out]at this;exact this
  ·obtain⟨k,rfl⟩:∃k,K=k+1:=⟨K-1,by omega⟩
   rw[show((k+1:Nat):Int)-1=(k:Int) by omega];have k0:(0:Int)<=(k:Int):=Int.natCast_nonneg _;have kw:IntKind.i64.wrap ((k:Int)-1)=(k:Int)-1:=IntWalk.i64_in _ (by omega)
   have hkm:k<m:=by omega
   obtain⟨a2,y,rfl,hcy,hy⟩:=(Sl.old hb (hbel.trans (HU.out.only.below hlo))).strAt' (i:=k) (by rw[HML.out];exact hkm)
   have km1:(k:Int)<(m:Int):=by omega
   obtain⟨k2,hk2'⟩:∃k2,k+1=k2:=⟨_,rfl⟩;have kw2:IntKind.i64.wrap ((k:Int)+1)=(k2:Int):=(IntWalk.i64_in _ (by omega)).trans (by omega);have hrow:=(HU.out.only.block bb hne).trans HB.out;have hcur:=HU.out.cur;have cr0:=zd (i:=k) hrow (by rw[List.getElem?_toArray];exact zca (by omega));have cr1:=zd (i:=k2) hrow (by rw[List.getElem?_toArray];exact zca (by omega));have cc1:=zd (i:=k2) hcur (by rw[List.getElem?_toArray];exact zfb (by omega) (by omega));have cc0:=zd (i:=k) hcur (by rw[List.getElem?_toArray];exact zgz (by omega) (by omega));have zc0:=zo (i:=k) hcur
   have hm1:(k2:Int)<(m1:Int):=by have:=HM1.out;omega
   have hm2:(k:Int)<(m1:Int):=by have:=HM1.out;omega
   have k20:(0:Int)<=(k2:Int):=Int.natCast_nonneg _
   by_cases hxy:x=y
   ·subst hxy
    have hbe:(x==x)=true:=by simp
    have hfe:=HST.out.same k hy;have hfm:=HH.out (k+1);rw[hk2']at hfe hfm;obtain⟨V,hV⟩:∃V,h k2=V:=⟨_,rfl⟩;rw[hV]at hfe hfm cr1;have HFE2:=ze hfe;have HK2:=ze hk2';have vw:IntKind.u32.wrap ((V:Int)+1)=(V:Int)+1:=IntWalk.u32_in _ (by omega);clear hfe hV hrow hcur hk2' hy cr0 cc1;go_wp2_with fail;have R:=HU.out.put (by omega) ⟨0,rfl⟩ (.int .u32 ((V:Int)+1)) (by rw[HFE2.out];rfl)
    go_roundg k
    case measure=>omega
    case rel=>exact⟨k,by omega,rfl,rfl,ze R⟩
   ·have hbe:(x==y)=false:=by simpa using hxy
    have hfe:=HST.out.other k y hy hxy;have hfm0:=HH.out k;have hfm1:=HG.out (k+1);rw[hk2']at hfe hfm1;obtain⟨V0,hV0⟩:∃V,h k=V:=⟨_,rfl⟩;obtain⟨V1,hV1⟩:∃V,g k2=V:=⟨_,rfl⟩;rw[hV0,hV1]at hfe;rw[hV0]at hfm0 cr0;rw[hV1]at hfm1 cc1;have HFE2:=ze hfe;clear hfe hV0 hV1 hrow hcur hk2' hy cr1 hxy;go_wp2_with fail;refine wp_region_still_tail 13 (by kernel_rfl) (by kernel_rfl) ?_;simp only[List.take_succ_cons,List.take_zero,List.drop_succ_cons,List.drop_zero];have e2:(wr).drew.cell? ⟨bb,k,none⟩= _:=cr0;have e5:(wr).drew.cell? ⟨br,k2,none⟩= _:=cc1;have e3:(wr).drew.cell? ⟨br,k,none⟩= _:=cc0;have e4:(wr).drew.frozen? ⟨br,k,none⟩=false:=zc0;have HQ:=ze (show ∃q,(wr).drew=wr.drewN q from⟨1,rfl⟩)
    change wpStill _ _ (World.drew wr) (fun a'=>wpList _ _ _ _ a' (World.drew wr)) _ _
    clear cr0 cc0 cc1 zc0 hcy;generalize(wr).drew=w5 at e2 e3 e4 e5 HQ ⊢
    repeat still_step
    try refine wpStill_nil ?_
    go_wp2_with fail
    ·rename_i hmx
     have R:=HU.out.put (by omega) HQ.out (.int .u32 (V1:Int)) (by rw[HFE2.out,Nat.max_eq_right (by omega)])
     go_roundg k
     case measure=>omega
     case rel=>exact⟨k,by omega,rfl,rfl,ze R⟩
    ·rename_i hmx
     have R:=HU.out.put (by omega) HQ.out (.int .u32 (V0:Int)) (by rw[HFE2.out,Nat.max_eq_left (by omega)])
     go_roundg k
     case measure=>omega
     case rel=>exact⟨k,by omega,rfl,rfl,ze R⟩
end
end Go.Proofs.YtbnafihigoekeaaGreatDoor

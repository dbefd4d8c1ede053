/-
  TmTl, part 24.
-/
import Derived.Test.YtbnafihigoekeaaGreatDoorZt23
set_option maxRecDepth 100000
set_option maxHeartbeats 8000000
namespace Go.Proofs.YtbnafihigoekeaaGreatDoor
open Go.RowKit
open BigFrame
def inS(ps:List (List UInt8))(p:List UInt8):Bool:=ps.any fun q=>q==p
def zsR(c:List xz)(ps:List (List UInt8)):List xz:=c.filter fun x=>inS ps x.1
def zkW(n:Nat)(c:List xz):List xz:=c.filter fun x=>x.2.1==(n==0)
def zsN(n:Nat)(c:List xz):List xz:=if n=0 then zkW 0 c++zkW 1 c else if n=1 then zkW 1 c else []
def zsv(c:List xz):List xz:=zkW 0 c++zkW 1 c
def xK(X:List zg)(f:zg):List zg:=if 2000<f.2.2.length then X else if(zak X f).2=0 then(zak X f).1 else X
def zcA(l:List zg):List zg:=(l.take 30).foldl xK []
theorem znd{w w':World}{b:Nat}{e:TypeId}{size:Nat}{v:Value}{n:Nat}{xs:List Value}(h:w.ownsRow b e size v n xs)(hb:Below w.heap.size w w'):w'.ownsRow b e size v n xs:=by
 refine⟨h.1,?_⟩
 rcases h.2 with hn |⟨g,cap,cur,rfl,hbg,hg,rest⟩
 ·exact .inl hn
 ·exact .inr ⟨g,cap,cur,rfl,hbg,by rw[hb.block g (Array.getElem?_eq_some_iff.1 hg).1];exact hg,rest⟩
section
theorem zfK(v:Value)(l:List zg)(w:World)(hv:yM w v l):
  Calls Tryz.prog 12 #[v] w fun e w'=>∃u,e= .returned u/\zI w' w.heap.size u (zcA l)/\Below w.heap.size w w':=by
 obtain⟨ao,cap,rfl⟩:=hv.form;have HV:=ze hv;clear hv
 go_enter Tryz.func12,Tryz.ntmps12
 go_wp2_with fail
 go_loopg [3,4,5,6] l.length (fun g r i n e wr=>∃ (k:Nat) (X:List zg),k<=l.length/\k<=30/\l.length-k=g/\i= .int .i64 k/\Hid (X=(l.take k).foldl xK [])/\Hid (zI wr w.heap.size r X)/\Below w.heap.size w wr)
 case atStart=>exact⟨0,[],Nat.zero_le _,Nat.zero_le _,rfl,rfl,ze rfl,ze (World.ownsRow_nil _ _ _ _),Below.refl _ _⟩
 case round=>
  obtain⟨k,X,hk,hk30,rfl,rfl,HX,HN,hbel⟩:=hrel;have hz:=hbel.size;have k0:(0:Int)<=(k:Int):=Int.natCast_nonneg _
  by_cases hlt:k<l.length
  ·have k1:(k:Int)<(l.length:Int):=by omega
   have kd:decide ((k:Int)<(l.length:Int))=true:=decide_eq_true k1
   by_cases h30:k<30
   ·have k2:(k:Int)< 30:=by omega
    have kd2:decide ((k:Int)< 30)=true:=decide_eq_true k2;have kw:IntKind.i64.wrap ((k:Int)+1)=(k:Int)+1:=IntWalk.i64_in _ (by omega);obtain⟨b,o,p,x,t,rfl,he,c1,c2,c3⟩:=yM.at (HV.out.old hbel) hlt
    have ht:(l.take (k+1)).foldl xK []=xK X (p,x,t):=by rw[List.take_add_one,he,HX.out];simp
    clear he HX
    by_cases htl:t.length<=2000
    ·have t1:decide (2000 <(t.length:Int))=false:=decide_eq_false (by omega)
     have t2:decide (2000<t.length)=false:=decide_eq_false (by omega);obtain⟨⟨Y,en⟩,hY⟩:∃y,zak X (p,x,t)=y:=⟨_,rfl⟩;have HT:=ze (show(l.take (k+1)).foldl xK []=if en=0 then Y else X by rw[ht,xK,if_neg (by simp;omega),hY]);have HP:=ze (zpx _ X p t x wr HN.out.sl);rw[hY]at HP;unfold zq at HP;clear ht htl hY
     by_cases hen:en=0
     ·subst hen
      have HT2:=ze (show Y=(l.take (k+1)).foldl xK [] by rw[HT.out,if_pos rfl]);clear HT
      go_wp2_with (go_at_call 22;refine HP.out.mono ?_;rintro e w2 ⟨u2,rfl,ho2,hb2⟩;have HO2:=ze (zY ho2 hz);have HB2:=ze (zi hbel hb2 hz);clear ho2 hb2)
      go_roundg (l.length-(k+1))
      case measure=>omega
      case rel=>exact⟨k+1,Y,by omega,by omega,rfl,by go_num,HT2,HO2,HB2.out⟩
     ·have HT2:=ze (show X=(l.take (k+1)).foldl xK [] by rw[HT.out,if_neg hen])
      have e1:((en:Int)==0)=false:=beq_false_of_ne (by omega);have e2:(en==0)=false:=beq_false_of_ne hen;have e3:decide ((en:Int)=0)=false:=decide_eq_false (by omega);clear HT
      go_wp2_with (go_at_call 22;refine HP.out.mono ?_;rintro e w2 ⟨u2,rfl,ho2,hb2⟩;have HO2:=ze (znd HN.out hb2);have HB2:=ze (zi hbel hb2 hz);clear ho2 hb2)
      go_roundg (l.length-(k+1))
      case measure=>omega
      case rel=>exact⟨k+1,X,by omega,by omega,rfl,by go_num,HT2,HO2,HB2.out⟩
    ·have t1:decide (2000 <(t.length:Int))=true:=decide_eq_true (by omega)
     have t2:decide (2000<t.length)=true:=decide_eq_true (by omega);have HT2:=ze (show X=(l.take (k+1)).foldl xK [] by rw[ht,xK,if_pos (by simp;omega)]);clear ht htl;go_wp2_with fail
     go_roundg (l.length-(k+1))
     case measure=>omega
     case rel=>exact⟨k+1,X,by omega,by omega,rfl,by go_num,HT2,HN,hbel⟩
   ·have k2:¬(k:Int)< 30:=by omega
    have kd2:decide ((k:Int)< 30)=false:=decide_eq_false k2;have kd3:decide (k<30)=false:=decide_eq_false h30;have HT2:=ze (show X=zcA l by rw[HX.out,zcA,show k=30 by omega]);go_wp2_with fail;go_ret;rw[<-HT2.out];exact⟨_,rfl,HN.out,hbel⟩
  ·obtain rfl:k=l.length:=by omega
   have hneg:¬(l.length:Int)<(l.length:Int):=by omega
   have kd:decide ((l.length:Int)<(l.length:Int))=false:=decide_eq_false (by omega);have HT2:=ze (show X=zcA l by rw[HX.out,zcA,List.take_length,List.take_of_length_le hk30]);go_wp2_with fail;go_ret;rw[<-HT2.out];exact⟨_,rfl,HN.out,hbel⟩
end
open Go.RowKit
abbrev zQ:=List UInt8
def zjS:Enc zQ:=⟨1,by omega,fun f=>[zq f],fun _ =>rfl,fun f u hu=>by
 simp only[List.mem_cons,List.not_mem_nil,or_false]at hu;subst hu
 rfl⟩
abbrev SlT(w:World)(v:Value)(fs:List zQ):Prop:=zy zjS w v fs
abbrev zcu(w:World)(base:Nat)(v:Value)(fs:List zQ):Prop:=w.ownsRow base 9 1 v fs.length (zO zjS fs)
theorem zcu.sl{w:World}{base:Nat}{v:Value}{fs:List zQ}(h:zcu w base v fs):SlT w v fs:=zy.ofOwns (E:=zjS) h
theorem zrm(l:List zQ):zO zjS l=zj l:=by
 unfold zO zj
 induction l with
 |nil=>rfl
 |cons x l ih=>rw[List.flatMap_cons,List.map_cons,ih];rfl
theorem SlT.at{w:World}{ao:Option Addr}{n cap:Nat}{fs:List zQ}(h:SlT w (.slice ao n cap) fs){i:Nat}(hi:i<fs.length):
  ∃b o p,ao=some ⟨b,o,none⟩/\fs[i]? =some p/\w.cell? ⟨b,o+i,none⟩=some (.string ⟨List.toArray p⟩):=by
 obtain⟨b,o,p,ha,hx,hc⟩:=zy.at' h hi;have h0:=hc 0 _ rfl;exact⟨b,o,p,ha,hx,by simpa[zjS,zq]using h0⟩
section
variable{w:World}
theorem zbI{ops:Array Oper}{rest:List Oper}{o:Oper}{a:Act}{Q:Exit->Act->World->Prop}(hgd:o.guard=none)(s sx:Operand)
  (ho:o.op= .call {callee:= .builtin .append,args:= #[s,sx],argTypes:= #[96,96] })
  (base:Nat) (v:Value) (xs:List zQ) (x:zQ) (he:a.eval s=v) (hown:zcu w base v xs) (q:Nat) (hx:a.eval sx= .slice (some ⟨q,0,none⟩) 1 1) (hq:w.heap.size=q)
  (hlen:xs.length<=100000000) (hbase:base<=w.heap.size)
  (h:∀v' w',zcu w' base v' (xs++[x])->Below base w w'->wpList Tryz.prog ops Q rest (a.put o.dst v') w'):wpList Tryz.prog ops Q (o::rest) a (w.alloc (.cells #[.string ⟨x.toArray⟩] 9)):=by
 obtain⟨i0,hi0,hi1,hi2,hi3⟩:=info_parts Tryz.infoStr;exact qS (E:=zjS) hgd s sx 96 9 ho Tryz.underlying96 hi0 hi1 hi2 (by rw[hi3];omega) rfl base v xs x he hown q hx hq hlen hbase _ rfl h
end
open Go.RowKit
open BigFrame
def zlV:List zQ->zQ->Nat
 | [],_ =>0
 |q::r,p=>if xv q p then zlV r p+1 else 0
def zqV(l:List zQ)(p:zQ):List zQ:=l.take (zlV l p)++[p]++l.drop (zlV l p)
def zqu(l:List zQ)(f:zg):List zQ:=if inS l f.1=true then l else zqV l f.1
def zqK(l:List zg):List zQ:=l.foldl zqu []
def zor(a b:List zg)(p:zQ):List xz:=
 match zz b p with
 |none=>[(p,true,false,[])]
 |some y=>if zz a p=some y then []else [(p,false,y.2.1,y.2.2)]
def zrY(a b:List zg):List xz:=(zqK (a++b)).flatMap (zor a b)
section
def zsV(W:World)(L:List zQ)(v:Value)(wx:World):Prop:=zcu wx W.heap.size v L/\Below W.heap.size W wx
end
theorem jG:∀x:List UInt8,xv x x=false
 | []=>rfl
 |a::x=>by
  have:¬a<a:=by rw[UInt8.lt_iff_toNat_lt];omega
  simp only[xv,Op.bytesLess]at *;rw[show Op.bytesLess x x=false from jG x];simp[this]
theorem zeP(a b:UInt8)(x y:List UInt8):xv (a::x) (b::y)=true ↔ a<b∨(a=b/\xv x y=true):=by simp[xv,Op.bytesLess]
theorem qe:∀x y z:List UInt8,xv x y=true->xv y z=true->xv x z=true
 | [],[],z,h,_ =>by simp[xv,Op.bytesLess]at h
 | [],_:: _,[],_,h=>by simp[xv,Op.bytesLess]at h
 | [],_:: _,_:: _,_,_ =>rfl
 | _:: _,[],_,h,_ =>by simp[xv,Op.bytesLess]at h
 | _:: _,_:: _,[],_,h=>by simp[xv,Op.bytesLess]at h
 |a::x,b::y,c::z,h,h'=>by
  rw[zeP]at h h' ⊢;simp only[UInt8.lt_iff_toNat_lt]at *
  rcases h with h |⟨rfl,h⟩
  ·rcases h' with h' |⟨rfl,h'⟩
   ·exact .inl (by omega)
   ·exact .inl h
  ·rcases h' with h' |⟨rfl,h'⟩
   ·exact .inl h'
   ·exact .inr ⟨rfl,qe x y z h h'⟩
theorem zcb:∀x y:List UInt8,xv x y=false->xv y x=false->x=y
 | [],[],_,_ =>rfl
 | [],_:: _,h,_ =>by simp[xv,Op.bytesLess]at h
 | _:: _,[],_,h=>by simp[xv,Op.bytesLess]at h
 |a::x,b::y,h,h'=>by
  have h1:¬xv (a::x) (b::y)=true:=by simp[h]
  have h2:¬xv (b::y) (a::x)=true:=by simp[h']
  rw[zeP]at h1 h2;simp only[UInt8.lt_iff_toNat_lt,not_or,not_and]at h1 h2;have e:a=b:=UInt8.toNat_inj.1 (by omega);subst e;have h3:=h1.2 rfl;have h4:=h2.2 rfl;rw[zcb x y (by simpa using h3) (by simpa using h4)]
theorem zbx{x y:List UInt8}(h:xv x y=true):xv y x=false:=by
 cases e:xv y x with
 |false=>rfl
 |true=>exact absurd (qe x y x h e) (by rw[jG];simp)
theorem znN{x y:List UInt8}(h:xv x y=true):x≠y:=fun e=>by rw[e,jG]at h;cases h
section
variable{α:Type}{R:α->α->Prop}
theorem zct(asym:∀x y,R x y->¬R y x):∀a b:List α,a.Pairwise R->b.Pairwise R->(∀x,x∈a ↔ x∈b)->a=b
 | [],[],_,_,_ =>rfl
 | [],y::b,_,_,h=>absurd ((h y).2 (List.mem_cons_self ..)) (by simp)
 |x::a,[],_,_,h=>absurd ((h x).1 (List.mem_cons_self ..)) (by simp)
 |x::a,y::b,ha,hb,h=>by
  rw[List.pairwise_cons]at ha hb
  have irr:∀z,¬R z z:=fun z hz=>asym z z hz hz
  have e:x=y:=by
   have h1:=(h x).1 (List.mem_cons_self ..);have h2:=(h y).2 (List.mem_cons_self ..);rw[List.mem_cons]at h1 h2
   rcases h1 with h1 |h1
   ·exact h1
   ·rcases h2 with h2 |h2
    ·exact h2.symm
    ·exact absurd (hb.1 x h1) (asym _ _ (ha.1 y h2))
  subst e;refine congrArg _ (zct asym a b ha.2 hb.2 fun z=>?_);have hz:=h z;rw[List.mem_cons,List.mem_cons]at hz
  constructor
  ·intro hm
   rcases hz.1 (.inr hm)with rfl |h'
   ·exact absurd (ha.1 _ hm) (irr _)
   ·exact h'
  ·intro hm
   rcases hz.2 (.inr hm)with rfl |h'
   ·exact absurd (hb.1 _ hm) (irr _)
   ·exact h'
end
theorem zjk{α:Type}:∀a b:List α,a.Nodup->(∀x∈a,x∈b)->a.length<=b.length
 | [],_,_,_ =>Nat.zero_le _
 |x::a,b,ha,h=>by
  rw[List.nodup_cons]at ha;obtain⟨b1,b2,rfl⟩:=List.append_of_mem (h x (List.mem_cons_self ..))
  have:=zjk a (b1++b2) ha.2 fun y hy=>by
   have h1:=h y (List.mem_cons_of_mem _ hy);rw[List.mem_append,List.mem_cons]at h1;rw[List.mem_append]
   rcases h1 with h1 |rfl |h1
   ·exact .inl h1
   ·exact absurd hy ha.1
   ·exact .inr h1
  simp only[List.length_cons,List.length_append]at this ⊢;omega
def yD(l:List zg):Prop:=l.Pairwise fun g f=>xv g.1 f.1=true
def jy(l:List zg):Prop:=l.Pairwise fun g f=>yS g.1 f.1=false
def jW(f:zg):Bool:=yZ f.1&&decide (f.2.2.length<=20000)
structure zT(l:List zg):Prop where
 len:l.length<=100
 ok:∀f∈l,jW f=true
 rise:yD l
 apart:jy l
theorem zgy{pre:List zg}(hp:yD pre)(f:zg):(match pre.getLast? with |some g=>!(xv f.1 g.1 ||f.1==g.1) |none=>true)=true ↔ ∀g∈pre,xv g.1 f.1=true:=by
 rcases List.eq_nil_or_concat pre with rfl |⟨q,g,rfl⟩
 ·simp
 ·rw[List.concat_eq_append]at hp ⊢
  rw[List.getLast?_concat];have hq:=List.pairwise_append.1 hp
  constructor
  ·intro h x hx
   have hg:xv g.1 f.1=true:=by
    simp only[Bool.not_or,Bool.and_eq_true,Bool.not_eq_true']at h
    cases e:xv g.1 f.1 with
    |true=>rfl
    |false=>
     have:=zcb _ _ e h.1;rw[this]at h;simp at h
   rw[List.mem_append]at hx
   rcases hx with hx |hx
   ·exact qe _ _ _ (hq.2.2 x hx g (List.mem_singleton.2 rfl)) hg
   ·rw[List.mem_singleton.1 hx];exact hg
  ·intro h
   have hg:=h g (by simp)
   have h2:(f.1==g.1)=false:=by
    have:=znN hg
    exact beq_false_of_ne fun e=>this e.symm
   simp[zbx hg,h2]
theorem zdt{pre:List zg}(hp:yD pre){f:zg}(h:∀g∈pre,xv g.1 f.1=true):yD (pre++[f]):=
 List.pairwise_append.2 ⟨hp,List.pairwise_singleton _ _,fun x hx y hy=>by rw[List.mem_singleton.1 hy];exact h x hx⟩
theorem zfC:∀ (l pre:List zg),yD pre->(zby pre l=true ↔ (∀f∈l,jW f=true)/\yD (pre++l)/\(∀g∈pre,∀f∈l,yS g.1 f.1=false)/\jy l)
 | [],pre,hp=>by simp[zby,jy,hp]
 |f::r,pre,hp=>by
  rw[zby,Bool.and_eq_true]
  have hf:zfz pre f=true ↔ jW f=true/\(∀g∈pre,xv g.1 f.1=true)/\∀g∈pre,yS g.1 f.1=false:=by
   unfold zfz jW;rw[Bool.and_eq_true,Bool.and_eq_true,Bool.and_eq_true,Bool.and_eq_true];simp only[List.all_eq_true,Bool.not_eq_true']
   constructor
   ·exact fun⟨a,b,c,d⟩=>⟨⟨a,b⟩,(zgy hp f).1 c,d⟩
   ·exact fun⟨⟨a,b⟩,c,d⟩=>⟨a,b,(zgy hp f).2 c,d⟩
  rw[hf]
  constructor
  ·rintro⟨⟨h1,h2,h3⟩,h4⟩
   obtain⟨k1,k2,k3,k4⟩:=(zfC r (pre++[f]) (zdt hp h2)).1 h4;refine⟨fun x hx=>?_,by simpa using k2,fun g hg x hx=>?_,?_⟩
   ·rcases List.mem_cons.1 hx with rfl |hx
    ·exact h1
    ·exact k1 x hx
   ·rcases List.mem_cons.1 hx with rfl |hx
    ·exact h3 g hg
    ·exact k3 g (by simp[hg]) x hx
   ·exact List.pairwise_cons.2 ⟨fun x hx=>k3 f (by simp) x hx,k4⟩
  ·rintro⟨h1,h2,h3,h4⟩
   have hr:=List.pairwise_append.1 h2
   have hl:∀g∈pre,xv g.1 f.1=true:=fun g hg=>hr.2.2 g hg f (List.mem_cons_self ..)
   rw[jy,List.pairwise_cons]at h4;refine⟨⟨h1 f (List.mem_cons_self ..),hl,fun g hg=>h3 g hg f (List.mem_cons_self ..)⟩,(zfC r (pre++[f]) (zdt hp hl)).2 ⟨fun x hx=>h1 x (List.mem_cons_of_mem _ hx),by simpa using h2,fun g hg x hx=>?_,h4.2⟩⟩;rw[List.mem_append,List.mem_singleton]at hg
   rcases hg with hg |rfl
   ·exact h3 g hg x (List.mem_cons_of_mem _ hx)
   ·exact h4.1 x hx
theorem yY(l:List zg):yf l=true ↔ zT l:=by
 unfold yf;rw[Bool.and_eq_true,decide_eq_true_eq,zfC l [] List.Pairwise.nil]
 constructor
 ·exact fun⟨h,k⟩=>⟨h,k.1,by simpa using k.2.1,k.2.2.2⟩
 ·exact fun h=>⟨h.len,h.ok,by simpa using h.rise,by simp,h.apart⟩
theorem zT.nil:zT []:=⟨by simp,by simp,List.Pairwise.nil,List.Pairwise.nil⟩
theorem yD.one{l:List zg}(h:yD l){f g:zg}(hf:f∈l)(hg:g∈l)(e:f.1=g.1):f=g:=by
 induction l with
 |nil=>cases hf
 |cons x l ih=>
  rw[yD,List.pairwise_cons]at h
  rcases List.mem_cons.1 hf with e1 |hf'
  ·rcases List.mem_cons.1 hg with e2 |hg'
   ·rw[e1,e2]
   ·exact absurd e (by rw[e1];exact znN (h.1 _ hg'))
  ·rcases List.mem_cons.1 hg with e2 |hg'
   ·exact absurd e.symm (by rw[e2];exact znN (h.1 _ hf'))
   ·exact ih h.2 hf' hg'
theorem jy.two{l:List zg}(h:jy l){f g:zg}(hf:f∈l)(hg:g∈l)(e:f≠g):yS f.1 g.1=false:=by
 induction l with
 |nil=>cases hf
 |cons x l ih=>
  rw[jy,List.pairwise_cons]at h
  rcases List.mem_cons.1 hf with e1 |hf'
  ·rcases List.mem_cons.1 hg with e2 |hg'
   ·exact absurd (e1.trans e2.symm) e
   ·rw[e1];exact h.1 _ hg'
  ·rcases List.mem_cons.1 hg with e2 |hg'
   ·rw[zhw,e2];exact h.1 _ hf'
   ·exact ih h.2 hf' hg'
theorem xq{l:List zg}{p:zQ}{f:zg}(h:zz l p=some f):f∈l/\f.1=p:=by
 refine⟨List.mem_of_find?_eq_some h,?_⟩;have:=List.find?_some h;simpa using this
theorem jE{l:List zg}{p:zQ}:zz l p=none ↔ ∀f∈l,f.1≠p:=by
 unfold zz;rw[List.find?_eq_none];simp
theorem yD.find{l:List zg}(h:yD l){f:zg}(hf:f∈l):zz l f.1=some f:=by
 cases e:zz l f.1 with
 |none=>exact absurd rfl (jE.1 e f hf)
 |some g=>
  obtain⟨h1,h2⟩:=xq e;rw[h.one h1 hf h2]
theorem yD.find_iff{l:List zg}(h:yD l){p:zQ}{f:zg}:zz l p=some f ↔ f∈l/\f.1=p:=
 ⟨xq,fun⟨h1,h2⟩=>by rw[<-h2];exact h.find h1⟩
theorem zhI:∀ (l:List zg) (p:zQ),∀g∈l.take (xy l p),xv g.1 p=true
 | [],_,g,hg=>by simp[xy]at hg
 |f::r,p,g,hg=>by
  rw[xy]at hg
  split at hg
  ·rename_i h
   rw[List.take_succ_cons,List.mem_cons]at hg
   rcases hg with rfl |hg
   ·exact h
   ·exact zhI r p g hg
  ·simp at hg
theorem zhN:∀ (l:List zg) (p:zQ),yD l->∀g∈l.drop (xy l p),xv g.1 p=false
 | [],_,_,g,hg=>by simp at hg
 |f::r,p,hr,g,hg=>by
  rw[yD,List.pairwise_cons]at hr;rw[xy]at hg
  split at hg
  ·exact zhN r p hr.2 g (by simpa using hg)
  ·rename_i h
   rw[List.drop_zero,List.mem_cons]at hg
   rcases hg with rfl |hg
   ·simpa using h
   ·cases e:xv g.1 p with
    |false=>rfl
    |true=>exact absurd (qe _ _ _ (hr.1 g hg) e) h
theorem xW(l:List zg)(f x:zg):x∈yC l f ↔ x=f∨x∈l:=by
 unfold yC;rw[List.append_assoc,List.mem_append,List.mem_append,List.mem_singleton]
 conv=>rhs;rw[<-List.take_append_drop (xy l f.1) l,List.mem_append]
 constructor
 ·rintro(h |h |h)
  ·exact .inr (.inl h)
  ·exact .inl h
  ·exact .inr (.inr h)
 ·rintro(h |h |h)
  ·exact .inr (.inl h)
  ·exact .inl h
  ·exact .inr (.inr h)
theorem zeb(l:List zg)(f:zg):(yC l f).length=l.length+1:=by
 unfold yC;have:=zoc l f.1;simp only[List.length_append,List.length_take,List.length_drop,List.length_singleton];omega
theorem zgd{l:List zg}(h:yD l){f:zg}(hf:∀g∈l,g.1≠f.1):yD (yC l f):=by
 unfold yC
 have h0:yD (l.take (xy l f.1)++l.drop (xy l f.1)):=by rw[List.take_append_drop];exact h
 have h1:=List.pairwise_append.1 h0;have h2:=zhI l f.1
 have h3:∀g∈l.drop (xy l f.1),xv f.1 g.1=true:=fun g hg=>by
  have e:=zhN l f.1 h g hg
  cases e':xv f.1 g.1 with
  |true=>rfl
  |false=>exact absurd (zcb _ _ e e') (hf g (List.mem_of_mem_drop hg))
 rw[List.append_assoc];refine List.pairwise_append.2 ⟨h1.1,List.pairwise_append.2 ⟨List.pairwise_singleton _ _,h1.2.1,fun x hx y hy=>?_⟩,fun x hx y hy=>?_⟩
 ·rw[List.mem_singleton.1 hx];exact h3 y hy
 ·rw[List.mem_append,List.mem_singleton]at hy
  rcases hy with rfl |hy
  ·exact h2 x hx
  ·exact h1.2.2 x hx y hy
theorem xV{l:List zg}{p:zQ}{x:zg}:x∈yv l p ↔ x∈l/\x.1≠p:=by simp[yv]
theorem zdj(l:List zg)(p:zQ):(yv l p).length<=l.length:=List.length_filter_le _ _
theorem zmU{l:List zg}{p:zQ}{f:zg}(hf:f∈l)(e:f.1=p):(yv l p).length+1<=l.length:=by
 obtain⟨a,b,rfl⟩:=List.append_of_mem hf;have h1:=List.length_filter_le (fun g:zg=>g.1 !=p) a;have h2:=List.length_filter_le (fun g:zg=>g.1 !=p) b;unfold yv;rw[List.filter_append,List.filter_cons_of_neg (by simp[e])];simp only[List.length_append,List.length_cons];omega
theorem zT.sub{l:List zg}(h:zT l)(p:zQ):zT (yv l p):=
 ⟨Nat.le_trans (zdj l p) h.len,fun f hf=>h.ok f (xV.1 hf).1,List.Pairwise.filter _ h.rise,List.Pairwise.filter _ h.apart⟩
theorem zki{l:List zg}(hr:yD l)(h:∀f∈l,∀g∈l,f≠g->yS f.1 g.1=false):jy l:=by
 induction l with
 |nil=>exact List.Pairwise.nil
 |cons x l ih=>
  rw[yD,List.pairwise_cons]at hr;refine List.pairwise_cons.2 ⟨fun y hy=>h x (by simp) y (by simp[hy]) fun e=>?_,ih hr.2 fun f hf g hg e=>h f (by simp[hf]) g (by simp[hg]) e⟩;have:=hr.1 y hy;rw[e,jG]at this;cases this
theorem zpT{l:List zg}{f:zg}(h:zT l)(hf:jW f=true)(hc:∀g∈l,g.1≠f.1->yS g.1 f.1=false)(hn:(zz l f.1).isSome=true∨l.length<100):
  zak l f=(yC (yv l f.1) f,0)/\zT (yC (yv l f.1) f)/\∀p,zz (yC (yv l f.1) f) p=if p=f.1 then some f else zz l p:=by
 have hk:=hf;unfold jW at hf;rw[Bool.and_eq_true,decide_eq_true_eq]at hf
 have hcl:yG l f.1=false:=by
  unfold yG;rw[List.any_eq_false];intro g hg
  by_cases e:g.1=f.1
  ·simp[e]
  ·simp[hc g hg e]
 have hw:=h.sub f.1
 have hne:∀g∈yv l f.1,g.1≠f.1:=fun g hg=>(xV.1 hg).2
 have hrise:=zgd hw.rise hne;refine⟨?_,⟨?_,?_,hrise,?_⟩,fun p=>?_⟩
 ·unfold zak
  rw[if_pos ((yY l).2 h),if_pos hf.1,if_pos hf.2,hcl,Bool.and_false,if_neg (by simp)];rw[if_neg];intro hx;rw[Bool.and_eq_true,decide_eq_true_eq,Bool.not_eq_true']at hx
  rcases hn with hn |hn
  ·rw[hn]at hx;cases hx.1
  ·omega
 ·rw[zeb]
  rcases hn with hn |hn
  ·obtain⟨g,hg⟩:=Option.isSome_iff_exists.1 hn
   obtain⟨h1,h2⟩:=xq hg;have:=zmU h1 h2;have:=h.len;omega
  ·have:=zdj l f.1
   omega
 ·intro x hx
  rcases(xW _ _ _).1 hx with rfl |hx
  ·exact hk
  ·exact hw.ok x hx
 ·refine zki hrise fun x hx y hy e=>?_
  rcases(xW _ _ _).1 hx with rfl |hx
  ·rcases(xW _ _ _).1 hy with rfl |hy
   ·exact absurd rfl e
   ·rw[zhw];exact hc y (xV.1 hy).1 (xV.1 hy).2
  ·rcases(xW _ _ _).1 hy with rfl |hy
   ·exact hc x (xV.1 hx).1 (xV.1 hx).2
   ·exact hw.apart.two hx hy e
 ·split
  ·rename_i e
   rw[e];exact hrise.find ((xW _ _ _).2 (.inl rfl))
  ·rename_i e
   cases hq:zz l p with
   |none=>
    rw[jE]at hq ⊢;intro x hx
    rcases(xW _ _ _).1 hx with rfl |hx
    ·exact fun h=>e h.symm
    ·exact hq x (xV.1 hx).1
   |some g=>
    obtain⟨h1,h2⟩:=xq hq;exact hrise.find_iff.2 ⟨(xW _ _ _).2 (.inr (xV.2 ⟨h1,by rw[h2];exact e⟩)),h2⟩
theorem zlq{l:List zg}{f:zg}(h0:(zak l f).2=0):zT l/\jW f=true/\(∀g∈l,g.1≠f.1->yS g.1 f.1=false)/\((zz l f.1).isSome=true∨l.length<100):=by
 unfold zak at h0
 split at h0
 ·rename_i ht
  have h:=(yY l).1 ht
  split at h0
  ·rename_i hr
   split at h0
   ·rename_i hx
    split at h0
    ·simp at h0
    ·rename_i hc
     split at h0
     ·simp at h0
     ·rename_i hl
      refine⟨h,by unfold jW;rw[hr,decide_eq_true hx];rfl,fun g hg e=>?_,?_⟩
      ·cases hs:(zz l f.1).isSome with
       |true=>
        obtain⟨y,hy⟩:=Option.isSome_iff_exists.1 hs;obtain⟨h1,h2⟩:=xq hy;rw[<-h2]
        exact h.apart.two hg h1 fun e'=>e (by rw[e',h2])
       |false=>
        rw[hs]at hc
        have hc':yG l f.1=false:=by simpa using hc
        unfold yG at hc';rw[List.any_eq_false]at hc';have:=hc' g hg
        have hn:(g.1 !=f.1)=true:=by simpa using e
        rw[hn]at this;simpa using this
      ·cases hs:(zz l f.1).isSome with
       |true=>exact .inl rfl
       |false=>
        rw[hs]at hl;refine .inr ?_
        have:¬100<=l.length:=by simpa using hl
        omega
   ·simp at h0
  ·simp at h0
 ·simp at h0
theorem zqJ{l:List zg}{f:zg}(h0:(zak l f).2=0):zT (zak l f).1/\(∀p,zz (zak l f).1 p=if p=f.1 then some f else zz l p)/\∀x,x∈ (zak l f).1 ↔ x=f∨(x∈l/\x.1≠f.1):=by
 obtain⟨h1,h2,h3,h4⟩:=zlq h0;obtain⟨k1,k2,k3⟩:=zpT h1 h2 h3 h4;rw[k1];exact⟨k2,k3,fun x=>by rw[xW,xV]⟩
theorem zkk{X:List zg}{f:zg}{k:Nat}(h:zT X/\X.length<=k/\∀g∈X,g.2.2.length<=2000):zT (xK X f)/\(xK X f).length<=k+1/\∀g∈xK X f,g.2.2.length<=2000:=by
 obtain⟨h1,h2,h3⟩:=h;unfold xK
 split
 ·exact⟨h1,by omega,h3⟩
 ·rename_i ht
  split
  ·rename_i h0
   obtain⟨k1,k2,k3⟩:=zqJ h0;refine⟨k1,?_,fun g hg=>?_⟩
   ·obtain⟨a,b,c,d⟩:=zlq h0
    rw[(zpT a b c d).1];show(yC _ _).length<= _;rw[zeb];have:=zdj X f.1;omega
   ·rcases(k3 g).1 hg with rfl |hg
    ·omega
    ·exact h3 g hg.1
  ·exact⟨h1,by omega,h3⟩
theorem zjm:∀ (l X:List zg) (k:Nat),(zT X/\X.length<=k/\∀g∈X,g.2.2.length<=2000)->(zT (l.foldl xK X)/\(l.foldl xK X).length<=k+l.length/\∀g∈l.foldl xK X,g.2.2.length<=2000)
 | [],_,_,h=>h
 |f::l,X,k,h=>by
  have:=zjm l (xK X f) (k+1) (zkk h);rw[List.foldl_cons,List.length_cons];refine⟨this.1,by have:=this.2.1;omega,this.2.2⟩
theorem qJ(l:List zg):zT (zcA l)/\(zcA l).length<=30/\∀g∈zcA l,g.2.2.length<=2000:=by
 have:=zjm (l.take 30) [] 0 ⟨zT.nil,by simp,by simp⟩;refine⟨this.1,?_,this.2.2⟩;have h2:=this.2.1;rw[List.length_take]at h2;unfold zcA;omega
def zsw(n:Nat):zQ:=
 if n<10 then [UInt8.ofNat (48+n)]
 else if n<100 then [UInt8.ofNat (48+n / 10),UInt8.ofNat (48+n % 10)]
 else [UInt8.ofNat (48+n / 100),UInt8.ofNat (48+n / 10 % 10),UInt8.ofNat (48+n % 10)]
def nmS(n:Nat):zQ:=102::zsw n
def zsI(n:Nat):List xz:=(List.range n).map fun i=>(nmS i,false,false,[])
open Go.RowKit
open BigFrame
section
theorem zoV(v:Value)(l:List zg)(p:zQ)(w:World)(hv:yM w v l)(hl:l.length<=4611686018427387904):
  Calls Tryz.prog 139 #[v,zq p] w fun e w'=>e= .returned (.tuple #[ye ((zz l p).getD zM),.bool (zz l p).isSome])/\Below w.heap.size w w':=by
 obtain⟨ao,cap,rfl⟩:=hv.form;have HV:=ze (hv.alloc (.cells #[.string ⟨#[]⟩,.bool false,.string ⟨#[]⟩] 28));have HL:=ze hl;have HG:=ze (heap_alloc_new w (.cells #[.string ⟨#[]⟩,.bool false,.string ⟨#[]⟩] 28));have HB:=ze ((Below.refl _ w).alloc (Nat.le_refl w.heap.size) (.cells #[.string ⟨#[]⟩,.bool false,.string ⟨#[]⟩] 28));clear hv hl;unfold zq ye
 go_enter Tryz.func139,Tryz.ntmps139
 go_wp2_with fail;generalize w.alloc (.cells #[.string ⟨#[]⟩,.bool false,.string ⟨#[]⟩] 28)=W at HV HG HB ⊢;obtain⟨gm,hgm⟩:∃g,w.heap.size=g:=⟨_,rfl⟩;rw[hgm]at HG HB ⊢;have HGM:=ze hgm;clear hgm
 go_loopg [10] l.length (fun g i wr=>∃k:Nat,k<=l.length/\l.length-k=g/\i= .int .i64 k/\Hid (zz l p=zz (l.drop k) p)/\Hid (Below W.heap.size W wr))
 case atStart=>exact⟨0,Nat.zero_le _,rfl,rfl,ze rfl,ze (Below.refl _ _)⟩
 case round=>
  obtain⟨k,hk,rfl,rfl,HF,HW⟩:=hrel;have k0:(0:Int)<=(k:Int):=Int.natCast_nonneg _
  by_cases hlt:k<l.length
  ·have k1:(k:Int)<(l.length:Int):=by omega
   have kw:IntKind.i64.wrap ((k:Int)+1)=(k:Int)+1:=IntWalk.i64_in _ (by have:=HL.out;omega);obtain⟨b,o,p2,x2,t2,rfl,he,c1,c2,c3⟩:=yM.at (HV.out.old HW.out) hlt;have hd:=yP he;have HWA:=ze (HW.out.alloc HW.out.size (.cells #[.string ⟨p2.toArray⟩,.bool x2,.string ⟨t2.toArray⟩] 28));have HGA:=ze ((HWA.out.block gm (Array.getElem?_eq_some_iff.1 HG.out).1).trans HG.out);clear he
   by_cases hp:p2=p
   ·subst hp
    have HR:=ze (show zz l p2=some (p2,x2,t2) by rw[HF.out,hd];simp[zz]);clear hd
    go_wp2_with (refine zB rfl 28 _ _ rfl gm #[.string ⟨p2.toArray⟩,.bool x2,.string ⟨t2.toArray⟩] rfl rfl _ _ HGA.out 3 Tryz.sizeFile rfl rfl (by simp[Value.oneCell']) ?_;intro w9 hg9 hk9)
    refine bodyPost_ret (yT rfl _ _ gm _ _ _ _ _ rfl rfl hg9 Tryz.underlying28 rfl Tryz.sizeFile) rfl ?_;refine⟨by rw[HR.out];rfl,?_⟩;rw[HGM.out]
    have hgs:gm<=W.heap.size:=by rw[<-HGM.out];exact HB.out.size
    have hb1:=zi HB.out HWA.out hgs;exact hb1.trans (hk9.below (Nat.le_trans hgs HWA.out.size) (fun j hj e=>by omega))
   ·have hpb:(p2==p)=false:=by simpa using hp
    have HF2:=ze (show zz l p=zz (l.drop (k+1)) p by rw[HF.out,hd];simp[zz,hpb]);clear hd hp;go_wp2_with fail
    go_roundg (l.length-(k+1))
    case measure=>omega
    case rel=>exact⟨k+1,by omega,rfl,by go_num,HF2,HWA⟩
  ·obtain rfl:k=l.length:=by omega
   have hneg:¬(l.length:Int)<(l.length:Int):=by omega
   have HR:=ze (show zz l p=none by rw[HF.out,List.drop_length];rfl);have HGA:=ze ((HW.out.block gm (Array.getElem?_eq_some_iff.1 HG.out).1).trans HG.out)
   go_wp2_with (refine zB rfl 28 _ _ rfl gm #[.string ⟨#[]⟩,.bool false,.string ⟨#[]⟩] rfl rfl _ _ HGA.out 3 Tryz.sizeFile rfl rfl (by simp[Value.oneCell']) ?_;intro w9 hg9 hk9)
   refine bodyPost_ret (yT rfl _ _ gm _ _ _ _ _ rfl rfl hg9 Tryz.underlying28 rfl Tryz.sizeFile) rfl ?_;refine⟨by rw[HR.out];rfl,?_⟩;rw[HGM.out]
   have hgs:gm<=W.heap.size:=by rw[<-HGM.out];exact HB.out.size
   have hb1:=zi HB.out HW.out hgs;exact hb1.trans (hk9.below (Nat.le_trans hgs HW.out.size) (fun j hj e=>by omega))
end
theorem zod{l:List zg}{p:zQ}(hn:zz l p=none):(l.any fun f=>yS f.1 p)=yG l p:=by
 rw[jE]at hn;unfold yG
 induction l with
 |nil=>rfl
 |cons x r ih=>
  rw[List.any_cons,List.any_cons,ih fun f hf=>hn f (List.mem_cons_of_mem _ hf)]
  have:(x.1 !=p)=true:=by simpa using hn x (List.mem_cons_self ..)
  rw[this,Bool.true_and]
def zaW(p:zQ):Nat->List zQ
 |0=>[]
 |k+1=>if p[k]? =some 47 then zaW p k++[p.take k]else zaW p k
theorem zja(p:zQ)(k:Nat):(zaW p k).length<=k:=by
 induction k with
 |zero=>simp[zaW]
 |succ k ih=>
  rw[zaW]
  split
  ·simp;exact ih
  ·omega
theorem zoW(p:zQ)(k:Nat)(d:zQ):d∈zaW p k ↔ ∃i,i<k/\p[i]? =some 47/\d=p.take i:=by
 induction k with
 |zero=>simp[zaW]
 |succ k ih=>
  rw[zaW]
  constructor
  ·intro h
   split at h
   ·rename_i hk
    rw[List.mem_append,ih,List.mem_singleton]at h
    rcases h with⟨i,h1,h2,h3⟩ |h
    ·exact⟨i,by omega,h2,h3⟩
    ·exact⟨k,by omega,hk,h⟩
   ·obtain⟨i,h1,h2,h3⟩:=ih.1 h
    exact⟨i,by omega,h2,h3⟩
  ·rintro⟨i,h1,h2,h3⟩
   by_cases e:i=k
   ·subst e
    rw[if_pos h2,List.mem_append,List.mem_singleton];exact .inr h3
   ·have:=ih.2 ⟨i,by omega,h2,h3⟩
    split
    ·rw[List.mem_append];exact .inl this
    ·exact this
def xH(p:zQ):List zQ:=zaW p p.length
theorem zcZ(p d:zQ):d∈xH p ↔ yq p d=true:=by
 unfold xH;rw[zoW,zdp]
 constructor
 ·rintro⟨i,h1,h2,rfl⟩
  refine⟨p.drop (i+1),?_⟩;obtain⟨q,e⟩:=List.getElem?_eq_some_iff.1 h2;rw[show(47:UInt8)::p.drop (i+1)=p.drop i by rw[List.drop_eq_getElem_cons q,e],List.take_append_drop]
 ·rintro⟨r,rfl⟩
  exact⟨d.length,by simp,by simp,by simp⟩
def ki(l:List zg):Bool:=l.any fun f=>(xH f.1).any fun d=>inS (l.map (·.1)) d
theorem zhn(l:List zg):ki l=true ↔ ∃f∈l,∃g∈l,yq f.1 g.1=true:=by
 unfold ki inS;simp only[List.any_eq_true,List.mem_map,beq_iff_eq]
 constructor
 ·rintro⟨f,hf,d,hd,q,⟨g,hg,rfl⟩,rfl⟩
  exact⟨f,hf,g,hg,(zcZ _ _).1 hd⟩
 ·rintro⟨f,hf,g,hg,h⟩
  exact⟨f,hf,g.1,(zcZ _ _).2 h,g.1,⟨g,hg,rfl⟩,rfl⟩
def okD(pre:List zg)(f:zg):Bool:=jW f&&(match pre.getLast? with |some g=>!(xv f.1 g.1 ||f.1==g.1) |none=>true)
def kB:List zg->List zg->Bool
 | _,[]=>true
 |pre,f::r=>okD pre f&&kB (pre++[f]) r
def zbD(l:List zg):Bool:=decide (l.length<=100)&&(kB [] l && !ki l)
theorem zdV:∀ (l pre:List zg),yD pre->(kB pre l=true ↔ (∀f∈l,jW f=true)/\yD (pre++l))
 | [],pre,hp=>by simp[kB,hp]
 |f::r,pre,hp=>by
  rw[kB,Bool.and_eq_true]
  have hf:okD pre f=true ↔ jW f=true/\∀g∈pre,xv g.1 f.1=true:=by
   unfold okD;rw[Bool.and_eq_true];exact⟨fun⟨a,b⟩=>⟨a,(zgy hp f).1 b⟩,fun⟨a,b⟩=>⟨a,(zgy hp f).2 b⟩⟩
  rw[hf]
  constructor
  ·rintro⟨⟨h1,h2⟩,h4⟩
   obtain⟨k1,k2⟩:=(zdV r (pre++[f]) (zdt hp h2)).1 h4;refine⟨fun x hx=>?_,by simpa using k2⟩
   rcases List.mem_cons.1 hx with rfl |hx
   ·exact h1
   ·exact k1 x hx
  ·rintro⟨h1,h2⟩
   have hr:=List.pairwise_append.1 h2
   have hl:∀g∈pre,xv g.1 f.1=true:=fun g hg=>hr.2.2 g hg f (List.mem_cons_self ..)
   exact⟨⟨h1 f (List.mem_cons_self ..),hl⟩,(zdV r (pre++[f]) (zdt hp hl)).2 ⟨fun x hx=>h1 x (List.mem_cons_of_mem _ hx),by simpa using h2⟩⟩
theorem zeN{l:List zg}(hr:yD l):jy l ↔ ki l=false:=by
 constructor
 ·intro h
  cases e:ki l with
  |false=>rfl
  |true=>
   obtain⟨f,hf,g,hg,hw⟩:=(zhn l).1 e
   have hne:f≠g:=fun e'=>by rw[e',zlb]at hw;cases hw
   have:=h.two hf hg hne;unfold yS at this;rw[hw]at this;simp at this
 ·intro h
  refine zki hr fun f hf g hg e=>?_
  have hn:∀x∈l,∀y∈l,yq x.1 y.1=false:=fun x hx y hy=>by
   cases e:yq x.1 y.1 with
   |false=>rfl
   |true=>rw[(zhn l).2 ⟨x,hx,y,hy,e⟩]at h;cases h
  have hp:(f.1==g.1)=false:=beq_false_of_ne fun e'=>e (hr.one hf hg e')
  unfold yS;rw[hp,hn f hf g hg,hn g hg f hf]
  rfl
theorem zoF(l:List zg):zbD l=yf l:=by
 have h:zbD l=true ↔ yf l=true:=by
  rw[yY];unfold zbD;rw[Bool.and_eq_true,Bool.and_eq_true,decide_eq_true_eq,zdV l [] List.Pairwise.nil,Bool.not_eq_true']
  constructor
  ·rintro⟨h1,⟨h2,h3⟩,h4⟩
   have h3:yD l:=by simpa using h3
   exact⟨h1,h2,h3,(zeN h3).2 h4⟩
  ·intro h
   exact⟨h.len,⟨h.ok,by simpa using h.rise⟩,(zeN h.rise).1 h.apart⟩
 cases e:zbD l with
 |true=>exact(h.1 e).symm
 |false=>
  cases e':yf l with
  |false=>rfl
  |true=>rw[h.2 e']at e;cases e
end Go.Proofs.YtbnafihigoekeaaGreatDoor

/-
  TmTl, part 1.
-/
import Derived.WalkSpells
import Derived.WalkLawsBesides
import Derived.Deep.AppendSrc
import Derived.Deep.RegionLaw
import Derived.Test.YtbnafihigoekeaaGreatDoorRows
import Derived.Deep.AppendLies
import Derived.BigQuiet
import Derived.Deep.RegionHeld3
import Derived.Deep.DrawnRows
set_option maxHeartbeats 1000000
set_option maxRecDepth 100000
namespace Go.Proofs.YtbnafihigoekeaaGreatDoor
open Go.RowKit
theorem ze{p:Prop}(h:p):Hid p:=h
theorem zd{w:World}{b i:Nat}{cs:Array Value}{t:TypeId}{v:Value}(h:w.heap[b]? =some (.cells cs t (0,0)))(hv:cs[i]? =some v):w.cell? ⟨b,i,none⟩=some v:=by
 simp[World.cell?,h,hv]
theorem zo{w:World}{b i:Nat}{cs:Array Value}{t:TypeId}(h:w.heap[b]? =some (.cells cs t (0,0))):w.frozen? ⟨b,i,none⟩=false:=by
 simp[World.frozen?,h]
theorem zv{w:World}{b i:Nat}{cs:Array Value}{t:TypeId}{u:Value}(h:w.heap[b]? =some (.cells cs t (0,0))):(w.setCell ⟨b,i,none⟩ u).heap[b]? =some (.cells (cs.setIfInBounds i u) t (0,0)):=by
 have hlt:=lt_of_block h
 have h':w.heap[b]= .cells cs t (0,0):=by simpa[Array.getElem?_eq_getElem hlt]using h
 show(w.heap.modify b _)[b]? = _;rw[Array.getElem?_eq_getElem (by simpa using hlt),Array.getElem_modify_self,h']
 rfl
structure yH(S:Nat->Prop)(w w':World):Prop where
 os:w'.os=w.os
 tape:w'.tape=w.tape
 output:w'.output=w.output
 size:w.heap.size<=w'.heap.size
 block:∀k,k<w.heap.size->¬S k->w'.heap[k]? =w.heap[k]?
theorem yH.refl(S:Nat->Prop)(w:World):yH S w w:=⟨rfl,rfl,rfl,Nat.le_refl _,fun _ _ _ =>rfl⟩
theorem yH.trans{S:Nat->Prop}{a b c:World}(h:yH S a b)(k:yH S b c):yH S a c:=
 ⟨k.os.trans h.os,k.tape.trans h.tape,k.output.trans h.output,Nat.le_trans h.size k.size,fun i hi hs=>(k.block i (Nat.lt_of_lt_of_le hi h.size) hs).trans (h.block i hi hs)⟩
theorem yH.mono{S T:Nat->Prop}{a b:World}(h:yH S a b)(hst:∀k,k<a.heap.size->S k->T k):yH T a b:=
 ⟨h.os,h.tape,h.output,h.size,fun k hk ht=>h.block k hk fun hs=>ht (hst k hk hs)⟩
theorem yH.drew{S:Nat->Prop}{a w:World}(h:yH S a w):yH S a w.drew:=⟨h.os,h.tape,h.output,h.size,h.block⟩
theorem yH.drewN{S:Nat->Prop}{a w:World}(h:yH S a w)(n:Nat):yH S a (w.drewN n):=⟨h.os,h.tape,h.output,h.size,h.block⟩
theorem yH.alloc{S:Nat->Prop}{a w:World}(h:yH S a w)(o:Obj):yH S a (w.alloc o):=
 h.trans ⟨rfl,rfl,rfl,by simp,fun k hk _ =>Below.heap_alloc _ _ _ hk⟩
theorem yH.setCell{S:Nat->Prop}{a w:World}(h:yH S a w){p:Addr}(hp:S p.block)(u:Value):yH S a (w.setCell p u):=
 h.trans ⟨rfl,rfl,rfl,by simp[World.setCell],fun k _ hk=>Below.heap_setCell _ _ _ _ (fun e=>hk (e ▸ hp))⟩
theorem yH.grown{S:Nat->Prop}{a w w':World}{row:Option Nat}(h:yH S a w)(hg:w.grownBy w' row)(hr:∀k,k<a.heap.size->row=some k->S k):yH S a w':=
 ⟨hg.os.trans h.os,hg.tape.trans h.tape,hg.output.trans h.output,Nat.le_trans h.size hg.size,
  fun k hk hs=>(hg.block k (Nat.lt_of_lt_of_le hk h.size) (fun e=>hs (hr k hk e.symm))).trans (h.block k hk hs)⟩
theorem yH.below{S:Nat->Prop}{B:Nat}{w w':World}(h:yH S w w')(hB:B<=w.heap.size)(hs:∀k,k<B->¬S k):Below B w w':=
 ⟨h.os,h.tape,h.output,h.size,fun k hk=>h.block k (Nat.lt_of_lt_of_le hk hB) (hs k hk)⟩
theorem yH.ofBelow{w w':World}{S:Nat->Prop}(h:Below w.heap.size w w'):yH S w w':=⟨h.os,h.tape,h.output,h.size,fun k hk _ =>h.block k hk⟩
theorem yH.owns{S:Nat->Prop}{w w':World}{base:Nat}{e:TypeId}{size:Nat}{v:Value}{n:Nat}{xs:List Value}(h:yH S w w')(ho:w.ownsRow base e size v n xs)(hs:∀k,v.ownBlock=some k->¬S k):w'.ownsRow base e size v n xs:=by
 refine⟨ho.1,?_⟩
 rcases ho.2 with hn |⟨g,cap,cur,rfl,hb,hgg,rest⟩
 ·exact .inl hn
 ·exact .inr ⟨g,cap,cur,rfl,hb,by rw[h.block g (lt_of_block hgg) (hs g rfl)];exact hgg,rest⟩
def Sl(w:World)(v:Value)(cs:List Value):Prop:=
 ∃ao cap,v= .slice ao cs.length cap/\(ao=none->cs=[])/\cs.length<=cap/\∀a,ao=some a->∀j u,cs[j]? =some u->w.cell? (a.add j)=some u
theorem Sl.nil(w:World):Sl w (.slice none 0 0) []:=⟨none,0,rfl,fun _ =>rfl,Nat.le_refl _,fun _ h=>by cases h⟩
theorem Sl.ofOwns{w:World}{base:Nat}{e:TypeId}{v:Value}{n:Nat}{xs:List Value}(h:w.ownsRow base e 1 v n xs):Sl w v xs:=by
 have hl:=h.1
 rcases h.2 with⟨rfl,rfl⟩ |⟨g,cap,cur,rfl,r⟩
 ·have:xs=[]:=List.eq_nil_of_length_eq_zero (by simpa using hl)
  subst this;exact Sl.nil w
 ·refine⟨some ⟨g,0,none⟩,cap,by rw[hl,Nat.mul_one],(fun h=>by cases h),by have:=r.2.2.1;omega,fun a ha=>?_⟩
  cases ha;exact h.cells rfl
theorem Sl.src{P:Program}{w:World}{tx e':TypeId}{v:Value}{cs:List Value}(h:Sl w v cs)(hk:P.underlying tx=some (.slice e'))(h1:∀u∈cs,u.oneCell'=true):Src P 1 tx v cs.length cs w:=by
 obtain⟨ao,cap,rfl,hn,hcap,hc⟩:=h
 cases ao with
 |none=>obtain rfl:=hn rfl;exact Src.ofNil w hk cap
 |some a=>exact Src.ofSlice w hk a cs.length cap cs (by simp) (hc a rfl) h1
theorem Sl.kept{w w':World}{v:Value}{cs:List Value}(h:Sl w v cs)(hk:∀a n c,v= .slice (some a) n c->a.block<w.heap.size->w'.heap[a.block]? =w.heap[a.block]?):Sl w' v cs:=by
 obtain⟨ao,cap,rfl,hn,hcap,hc⟩:=h;refine⟨ao,cap,rfl,hn,hcap,fun a ha j u hu=>?_⟩;rw[World.cell?_of_block (w:=w) (w':=w') (by rw[show(a.add j).block=a.block from by unfold Addr.add;split <;> rfl];exact hk a _ _ (by rw[ha]) (by have:=World.block_lt_of_cell? w _ (hc a ha j u hu);rwa [show(a.add j).block=a.block from by unfold Addr.add;split <;> rfl]at this))];exact hc a ha j u hu
section
variable{P:Program}(w:World)
theorem zgM(base:Nat)(t tx ty e:TypeId)(i:TypeInfo)(z:Value)(size bytes:Nat)(ht:P.underlying t=some (.slice e))(hi:P.info? e=some i)(hz:i.zero=some z)
  (hsize:i.size=size) (hby:i.bytes=bytes) (hzs:z.cells.size=size) (hsz:0<size)
  (v:Value) (n:Nat) (xs:List Value) (hown:w.ownsRow base e size v n xs)
  (x:Value) (m:Nat) (news:List Value) (hs:Src P size tx x m news w)
  (h63:n+m<=maxLen) (hbytes:(n+m)*bytes<=140737488355328) (hbase:base<=w.heap.size):
  ∃v' w',(Builtin.append_ #[t,tx] ty #[v,x]).run P w= .ok v' w'/\w'.ownsRow base e size v' (n+m) (xs++news)/\w.grownBy w' v.ownBlock/\
   (v'.ownBlock=v.ownBlock∨v'.ownBlock=some w.heap.size):=by
 subst hsize;subst hby;have hl:=hs.newsLen
 have hsmall:n+m<=9223372036854775807:=by simp only[maxLen]at h63;omega
 have hlen:(xs++news).length=(n+m)*i.size:=by rw[List.length_append,hown.1,hl,Nat.add_mul]
 have grown:∀ (old:Nat),old<n+m->∀ (row:Option Nat),
   (w.drew.alloc (.cells ((xs++news).toArray++Builtin.zeroCells z.cells (grownCap w (n+m) old e-(n+m))) e)).ownsRow base e i.size
    (.slice (some ⟨w.heap.size,0,none⟩) (n+m) (grownCap w (n+m) old e)) (n+m) (xs++news)/\
   w.grownBy (w.drew.alloc (.cells ((xs++news).toArray++Builtin.zeroCells z.cells (grownCap w (n+m) old e-(n+m))) e)) row:=by
  intro old ho row;have hge:=grownCap_ge w (n+m) old e;have hcm:grownCap w (n+m) old e<=maxLen:=grownCap_le_maxLen w (n+m) old e h63;refine⟨⟨hlen,.inr ⟨w.heap.size,_,_,rfl,hbase,heap_alloc_new w.drew _,hge,hcm,?_,?_⟩⟩,⟨rfl,rfl,rfl,by simp,fun k hk _ =>Below.heap_alloc w.drew _ k hk⟩⟩
  ·simp only[Array.size_append,List.size_toArray,size_zeroCells,hzs,hlen,<-Nat.add_mul]
   congr 1
   omega
  ·simp only[Array.toList_append]
   rw[<-hlen];exact List.take_left
 rcases hown.2 with⟨rfl,rfl⟩ |⟨g,cap,cur,rfl,hbg,hg,hnc,hcm,hcs,htake⟩
 ·have hx:xs=[]:=List.eq_nil_of_length_eq_zero (by simpa using hown.1)
  subst hx
  by_cases hm:m=0
  ·subst hm
   have hn:news=[]:=List.eq_nil_of_length_eq_zero (by simpa using hl);subst hn;refine⟨.slice none 0 0,w,?_,World.ownsRow_nil w base e i.size,⟨rfl,rfl,rfl,Nat.le_refl _,fun _ _ _ =>rfl⟩,Or.inl rfl⟩;have hc:=hs.cells;have hln:=hs.len
   rcases hs.kind with⟨e',hk⟩ |hk <;>
    simp[Builtin.append_,run_underlying ht,run_underlying hk,sizeOf,typeInfo,hi,hln,hc]
  ·have hr:=run_append_grow_src (P:=P) w t tx ty e i z ht hi hz none 0 0 [] (run_firstCells_none w.drew i.size 0 0 0) x m news hs (by omega) (by omega)
    (by have hb:=hbytes;simp only[Nat.zero_add]at hb;exact growslice_fits (by omega) (by simpa using hb))
   have hgr:=grown 0 (by omega) (Value.ownBlock (.slice none 0 0));simp only[Nat.zero_add,List.nil_append]at hgr hr ⊢;exact⟨_,_,hr,hgr.1,hgr.2,Or.inr rfl⟩
 ·by_cases hroom:n+m<=cap
  ·have hfit:n*i.size+news.length<=cur.size:=by rw[hl,hcs,<-Nat.add_mul];exact Nat.mul_le_mul_right _ hroom
   have hst:=run_storeCells_at P g (n*i.size) e news 0 cur w hg (by simpa using hfit) hs.one;simp only[Nat.add_zero]at hst;have hc:=hs.cells;have hln:=hs.len
   have hr:(Builtin.append_ #[t,tx] ty #[.slice (some ⟨g,0,none⟩) n cap,x]).run P w= .ok (.slice (some ⟨g,0,none⟩) (n+m) cap) (w.setRow g (cur.toList.take (n*i.size)++news++cur.toList.drop (n*i.size+news.length)).toArray):=by
    rcases hs.kind with⟨e',hk⟩ |hk <;>
     simp[Builtin.append_,run_underlying ht,run_underlying hk,sizeOf,typeInfo,hi,hln,hroom,hc,Addr.add_lit,hst]
   refine⟨_,_,hr,⟨hlen,.inr ⟨g,cap,_,rfl,hbg,setRow_heap w g cur _ e _ hg,hroom,hcm,?_,?_⟩⟩,⟨rfl,rfl,rfl,by simp,fun k _ hk=>setRow_other w g k _ (fun e=>hk (by simp[Value.ownBlock,e]))⟩,Or.inl rfl⟩
   ·simp only[List.size_toArray,List.length_append,List.length_take,List.length_drop,Array.length_toList]
    omega
   ·rw[htake,<-hlen]
    exact List.take_left
  ·have holds:∀j u,xs[j]? =some u->w.cell? ((⟨g,0,none⟩:Addr).add j)=some u:=hown.cells (g:=g) rfl
   have hr:=run_append_grow_src (P:=P) w t tx ty e i z ht hi hz (some ⟨g,0,none⟩) n cap xs (run_firstCells_some w.drew i.size n _ n cap xs hown.1 (by simpa using holds)) x m news hs (by omega) (by omega) (growslice_fits (by omega) hbytes);have hgr:=grown cap (by omega) (Value.ownBlock (.slice (some ⟨g,0,none⟩) n cap));exact⟨_,_,hr,hgr.1,hgr.2,Or.inr rfl⟩
theorem jF{o:Oper}{a:Act}{K:Act->World->Prop}{Q:Exit->Act->World->Prop}(s sx:Operand)(t tx:TypeId)
  (ho:o.op= .call {callee:= .builtin .append,args:= #[s,sx],argTypes:= #[t,tx] })
  (base:Nat) (e:TypeId) (i:TypeInfo) (z:Value) (size bytes:Nat) (ht:P.underlying t=some (.slice e)) (hi:P.info? e=some i) (hz:i.zero=some z)
  (hsize:i.size=size) (hby:i.bytes=bytes) (hzs:z.cells.size=size) (hsz:0<size)
  (v:Value) (n:Nat) (xs:List Value) (he:a.eval s=v) (hown:w.ownsRow base e size v n xs)
  (x:Value) (m:Nat) (news:List Value) (hx:a.eval sx=x) (hs:Src P size tx x m news w)
  (h63:n+m<=maxLen) (hbytes:(n+m)*bytes<=140737488355328) (hbase:base<=w.heap.size)
  (h:∀v' w',w'.ownsRow base e size v' (n+m) (xs++news)->w.grownBy w' v.ownBlock->(v'.ownBlock=v.ownBlock∨v'.ownBlock=some w.heap.size)->K (a.put o.dst v') w'):o.wp P a w K Q:=by
 obtain⟨v',w',hr,h2,h3,h4⟩:=zgM (P:=P) w base t tx o.type e i z size bytes ht hi hz hsize hby hzs hsz v n xs hown x m news hs h63 hbytes hbase;unfold Oper.wp execOp;simp only[ho,resolve,invoke,builtin,Sem.run_bind,Sem.run_pure,Result.andThen_ok,List.map_toArray,List.map_cons,List.map_nil,he,hx,hr];exact h v' w' h2 h3 h4
theorem yd{ops:Array Oper}{rest:List Oper}{o:Oper}{a:Act}{Q:Exit->Act->World->Prop}(hgd:o.guard=none)(s sx:Operand)(t tx:TypeId)
  (ho:o.op= .call {callee:= .builtin .append,args:= #[s,sx],argTypes:= #[t,tx] })
  (base:Nat) (e:TypeId) (i:TypeInfo) (z:Value) (size bytes:Nat) (ht:P.underlying t=some (.slice e)) (hi:P.info? e=some i) (hz:i.zero=some z)
  (hsize:i.size=size) (hby:i.bytes=bytes) (hzs:z.cells.size=size) (hsz:0<size)
  (v:Value) (n:Nat) (xs:List Value) (he:a.eval s=v) (hown:w.ownsRow base e size v n xs)
  (x:Value) (m:Nat) (news:List Value) (hx:a.eval sx=x) (hs:Src P size tx x m news w)
  (h63:n+m<=maxLen) (hbytes:(n+m)*bytes<=140737488355328) (hbase:base<=w.heap.size)
  (h:∀v' w',w'.ownsRow base e size v' (n+m) (xs++news)->w.grownBy w' v.ownBlock->(v'.ownBlock=v.ownBlock∨v'.ownBlock=some w.heap.size)->wpList P ops Q rest (a.put o.dst v') w'):wpList P ops Q (o::rest) a w:=
 wpList_plain hgd fun _ hK=>jF w s sx t tx ho base e i z size bytes ht hi hz hsize hby hzs hsz v n xs he hown x m news hx hs h63 hbytes hbase fun v' w' h2 h3 h4=>hK _ _ (h v' w' h2 h3 h4)
theorem jA{ops:Array Oper}{o:Oper}{a:Act}{K:Act->World->Prop}{Q:Exit->Act->World->Prop}{E:Prop}(hgd:o.guard=none)(s sx:Operand)(t tx:TypeId)
  (ho:o.op= .call {callee:= .builtin .append,args:= #[s,sx],argTypes:= #[t,tx] })
  (base:Nat) (e:TypeId) (i:TypeInfo) (z:Value) (size bytes:Nat) (ht:P.underlying t=some (.slice e)) (hi:P.info? e=some i) (hz:i.zero=some z)
  (hsize:i.size=size) (hby:i.bytes=bytes) (hzs:z.cells.size=size) (hsz:0<size)
  (v:Value) (n:Nat) (xs:List Value) (he:a.eval s=v) (hown:w.ownsRow base e size v n xs)
  (x:Value) (m:Nat) (news:List Value) (hx:a.eval sx=x) (hs:Src P size tx x m news w)
  (h63:n+m<=maxLen) (hbytes:(n+m)*bytes<=140737488355328) (hbase:base<=w.heap.size)
  (h:∀v' w',w'.ownsRow base e size v' (n+m) (xs++news)->w.grownBy w' v.ownBlock->(v'.ownBlock=v.ownBlock∨v'.ownBlock=some w.heap.size)->K (a.put o.dst v') w'):
  if Region.wanted o (yielded ops a.tmps)=true then Oper.wp P o a w K Q else E:=by
 have hw:Region.wanted o (yielded ops a.tmps)=true:=by simp[Region.wanted,hgd]
 rw[if_pos hw];exact jF w s sx t tx ho base e i z size bytes ht hi hz hsize hby hzs hsz v n xs he hown x m news hx hs h63 hbytes hbase h
end
theorem zl{w:World}{base:Nat}{e:TypeId}{size:Nat}{v:Value}{n:Nat}{xs:List Value}(h:w.ownsRow base e size v n xs):∃ao cap,v= .slice ao n cap:=by
 rcases h.2 with⟨rfl,rfl⟩ |⟨g,cap,cur,rfl,_⟩
 ·exact⟨none,0,rfl⟩
 ·exact⟨_,cap,rfl⟩
theorem zrt{P:Program}{fn:Func}{R:Ending->World->Prop}{a:Act}{w:World}(h:fn.results= #[])(hd:a.defers=[])(hR:R (.returned (.tuple #[])) w):bodyPost P fn R .ret a w:=
 bodyPost_ret (results_none h _ _ _) hd hR
theorem Sl.alloc{w:World}{v:Value}{cs:List Value}(h:Sl w v cs)(o:Obj):Sl (w.alloc o) v cs:=by
 obtain⟨ao,cap,rfl,hn,hcap,hc⟩:=h;refine⟨ao,cap,rfl,hn,hcap,fun a ha j u hu=>?_⟩;have:=hc a ha j u hu;exact(World.cell?_of_block (w:=w) (Below.heap_alloc _ _ _ (World.block_lt_of_cell? w _ this))).trans this
theorem znR{k:IntKind}{a b:Int}(h:a=b):Ending.returned (.int k a)= .returned (.int k b):=by rw[h]
open Go.RowKit
theorem Tryz.info5:(Tryz.prog.info? 5).map (fun i=>(i.zero,i.size,i.bytes))=some (some (.int .u8 0),1,1):=by kernel_rfl
theorem Sl.old{w w':World}{v:Value}{cs:List Value}(h:Sl w v cs)(hk:Below w.heap.size w w'):Sl w' v cs:=
 h.kept fun _ _ _ _ hlt=>hk.block _ hlt
theorem zi{B:Nat}{a b c:World}(h:Below B a b)(k:Below b.heap.size b c)(hB:B<=b.heap.size):Below B a c:=h.trans (k.mono hB)
theorem zm(w:World)(n:Nat):Below w.heap.size w (w.drewN n):=⟨rfl,rfl,rfl,Nat.le_refl _,fun _ _ =>rfl⟩
theorem zha(l:List UInt8)(n:Nat):Lib.byteCells (l.take n)=(Lib.byteCells l).take n:=by simp[Lib.byteCells]
theorem zhP(l:List UInt8)(n:Nat):Lib.byteCells (l.drop n)=(Lib.byteCells l).drop n:=by simp[Lib.byteCells]
def zsM(n:Int):Nat:=(min (max n 1) 8).toNat
def zpJ(v:Nat):Nat->List UInt8
 |0=>[]
 |n+1=>UInt8.ofNat v::zpJ (v / 256) n
open Go.RowKit
theorem qz(a:Addr)(j:Nat):(a.add j).block=a.block:=by unfold Addr.add;split <;> rfl
theorem xU(a:Addr)(i j:Nat):(a.add i).add j=a.add (i+j):=by
 unfold Addr.add
 by_cases hi:i=0
 ·simp[hi]
 ·by_cases hj:j=0
  ·simp[hj]
  ·simp[hi,hj,Nat.add_assoc]
theorem zfx{P:Program}{w:World}{a:Addr}(cs:List Value)(hc:∀j u,cs[j]? =some u->w.cell? (a.add j)=some u):(loadCells a cs.length).run P w= .ok cs.toArray w:=
 run_loadCells_list (P:=P) w a cs (fun j v hj=>hc j v hj)
theorem zhT{P:Program}{w:World}{v:Value}{bs:List UInt8}(src dst e:TypeId)(hs:P.underlying src=some (.slice e))(he:P.underlying e=some (.int .u8))(hd:P.underlying dst=some .string)
  (h:Sl w v (Lib.byteCells bs)):(convert src dst v).run P w= .ok (.string ⟨bs.toArray⟩) w:=by
 obtain⟨ao,cap,rfl,hn,_,hc⟩:=h
 cases ao with
 |none=>
  have:bs=[]:=by simpa[Lib.byteCells]using hn rfl
  subst this;exact run_convert_bytes_nil w src e hs he _ _ dst hd
 |some a=>
  have hl:=zfx (P:=P) (w:=w) (a:=a) (Lib.byteCells bs) (hc a rfl)
  have hm:Lib.byteCells bs=(bs.map fun b=>(b.toNat:Int)).map (Value.int .u8):=by simp[Lib.byteCells]
  rw[run_convert_bytes_string w src dst e _ _ cap hs he hd,run_bytesToString w a _ cap (bs.map fun b=>(b.toNat:Int)) (by rw[<-hm];exact hl),foldl_push_bytes]
  have hb:(bs.map fun b=>(b.toNat:Int)).map (fun n=>UInt8.ofNat n.toNat)=bs:=by
   rw[List.map_map];exact List.map_id'' (fun b=>by simp) bs
  rw[hb];simp[ByteArray.empty,ByteArray.emptyWithCapacity]
  rfl
theorem zeT{P:Program}{w:World}{v:Value}{cs:List Value}(t e:TypeId){i:TypeInfo}(ht:P.underlying t=some (.slice e))(hi:P.info? e=some i)(h:Sl w v cs)(n:Nat)(hn:n<=cs.length):
  ∃v',(∀wx,(Instr.slice t v none (some (.int .i64 n)) none).run P wx= .ok v' wx)/\Sl w v' (cs.take n)/\(∀a k c,v'= .slice (some a) k c->∃a' k' c',v= .slice (some a') k' c'/\a.block=a'.block)/\(∃ao c,v'= .slice ao n c):=by
 obtain⟨ao,cap,rfl,hnone,hcap,hc⟩:=h;refine⟨.slice ao n cap,fun wx=>?_,⟨ao,cap,by rw[List.length_take,Nat.min_eq_left hn],fun h=>by simp[hnone h],by rw[List.length_take];omega,fun a ha j u hu=>?_⟩,fun a k c e=>?_,ao,cap,rfl⟩
 ·have h2:(n:Int)<=cap:=by omega
  simp[Instr.slice,run_underlying ht,Instr.sliceBounds,run_sliceBound,sizeOf,typeInfo,hi,h2];intro _
  cases ao <;> simp[Addr.add]
 ·rw[List.getElem?_take]at hu
  split at hu
  ·exact hc a ha j u hu
  ·cases hu
 ·cases e
  exact⟨a,_,_,rfl,rfl⟩
theorem qH{P:Program}{w:World}{v:Value}{cs:List Value}(t e:TypeId){i:TypeInfo}(ht:P.underlying t=some (.slice e))(hi:P.info? e=some i)(hsz:i.size=1)(h:Sl w v cs)(n:Nat)(hn:n<=cs.length):
  ∃v',(∀wx,(Instr.slice t v (some (.int .i64 n)) none none).run P wx= .ok v' wx)/\Sl w v' (cs.drop n)/\(∀a k c,v'= .slice (some a) k c->∃a' k' c',v= .slice (some a') k' c'/\a.block=a'.block)/\(∃ao c,v'= .slice ao (cs.length-n) c):=by
 obtain⟨ao,cap,rfl,hnone,hcap,hc⟩:=h;refine⟨.slice (if cap=n then ao else ao.map (·.add n)) (cs.length-n) (cap-n),fun wx=>?_,⟨_,cap-n,by rw[List.length_drop],fun h=>?_,by rw[List.length_drop];omega,fun a ha j u hu=>?_⟩,fun a k c e=>?_,_,_,rfl⟩
 ·have h2:(n:Int)<=cs.length:=by omega
  simp[Instr.slice,run_underlying ht,Instr.sliceBounds,run_sliceBound,sizeOf,typeInfo,hi,hsz,h2]
 ·have:ao=none:=by
   split at h
   ·exact h
   ·simpa using h
  simp[hnone this]
 ·rw[List.getElem?_drop]at hu
  have hlt:=(List.getElem?_eq_some_iff.1 hu).1;rw[if_neg (by omega)]at ha
  cases ao with
  |none=>cases ha
  |some b=>
   cases ha;rw[xU];exact hc b rfl _ u hu
 ·simp only[Value.slice.injEq]at e
  split at e
  ·exact⟨a,_,_,by rw[e.1],rfl⟩
  ·cases ao with
   |none=>simp at e
   |some b=>
    simp at e;exact⟨b,_,_,rfl,by rw[<-e.1,qz]⟩
theorem Sl.at{w:World}{v:Value}{cs:List Value}(h:Sl w v cs){i:Nat}(hi:i<cs.length):∃a c,v= .slice (some a) cs.length c/\w.cell? (a.add i)=some cs[i]:=by
 obtain⟨ao,cap,rfl,hn,hcap,hc⟩:=h
 cases ao with
 |none=>rw[hn rfl]at hi;simp at hi
 |some a=>exact⟨a,cap,rfl,hc a rfl i _ (List.getElem?_eq_getElem hi)⟩
theorem Sl.byteAt{w:World}{v:Value}{l:List UInt8}(h:Sl w v (Lib.byteCells l)){i:Nat}(hi:i<l.length):
  ∃a c b,v= .slice (some a) l.length c/\w.cell? (a.add i)=some (.int .u8 (UInt8.toNat b))/\l[i]? =some b:=by
 obtain⟨a,c,hv,hc⟩:=h.at (i:=i) (by rw[Lib.byteCells_length];exact hi);rw[Lib.byteCells_length]at hv;exact⟨a,c,l[i],hv,by simpa[Lib.byteCells]using hc,List.getElem?_eq_getElem hi⟩
theorem Sl.form{w:World}{v:Value}{cs:List Value}(h:Sl w v cs):∃ao cap,v= .slice ao cs.length cap:=by
 obtain⟨ao,cap,rfl,_⟩:=h;exact⟨ao,cap,rfl⟩
theorem Sl.byteAt'{w:World}{ao:Option Addr}{n cap:Nat}{l:List UInt8}(h:Sl w (.slice ao n cap) (Lib.byteCells l)){i:Nat}(hi:i<l.length):
  ∃a b,ao=some a/\w.cell? (a.add i)=some (.int .u8 (UInt8.toNat b))/\l[i]? =some b:=by
 obtain⟨a,c,b,hv,h1,h2⟩:=h.byteAt hi;exact⟨a,b,by simpa using(Value.slice.inj hv).1,h1,h2⟩
theorem Sl.elemAt'{α:Type}{f:α->Value}{w:World}{ao:Option Addr}{n cap:Nat}{l:List α}(h:Sl w (.slice ao n cap) (l.map f)){i:Nat}(hi:i<l.length):
  ∃a x,ao=some a/\w.cell? (a.add i)=some (f x)/\l[i]? =some x:=by
 obtain⟨a,c,hv,h1⟩:=h.at (i:=i) (by rw[List.length_map];exact hi);exact⟨a,l[i],by simpa using(Value.slice.inj hv).1,by simpa using h1,List.getElem?_eq_getElem hi⟩
theorem Sl.far{w0 w w':World}{v:Value}{cs:List Value}{br:Nat}(h:Sl w v cs)(h0:Sl w0 v cs)(hb:w0.heap.size<=br)(hk:yH (· =br) w w'):Sl w' v cs:=by
 obtain⟨ao,cap,rfl,hn,hcap,hc⟩:=h;obtain⟨ao',cap',hv,_,_,hc'⟩:=h0;obtain⟨rfl,_,rfl⟩:=Value.slice.inj hv;refine⟨ao,cap,rfl,hn,hcap,fun a ha j u hu=>?_⟩;have e1:=World.block_lt_of_cell? w0 _ (hc' a ha j u hu);have e2:=World.block_lt_of_cell? w _ (hc a ha j u hu);exact(World.cell?_of_block (w:=w) (hk.block _ e2 (by show ¬ _ =br;omega))).trans (hc a ha j u hu)
theorem Sl.lt{w:World}{a:Addr}{n c:Nat}{cs:List Value}(h:Sl w (.slice (some a) n c) cs){i:Nat}(hi:i<cs.length):a.block<w.heap.size:=by
 obtain⟨a',c',hv,h1⟩:=h.at hi;obtain⟨e,_,_⟩:=Value.slice.inj hv
 obtain rfl:a=a':=by simpa using e
 have:=World.block_lt_of_cell? w _ h1
 rwa [qz]at this
theorem yH.cell{w w':World}{br:Nat}(hk:yH (· =br) w w'){a:Addr}{j:Nat}{v:Value}(h:w.cell? (a.add j)=some v)(hne:a.block≠br):w'.cell? (a.add j)=some v:=by
 have hlt:=World.block_lt_of_cell? w _ h;exact(World.cell?_of_block (w:=w) (hk.block _ hlt (by rw[qz];exact hne))).trans h
def zsk:List UInt8->Nat
 | []=>0
 |b::l=>b.toNat+256*zsk l
theorem yz{α:Type}{l:List α}{k:Nat}{b:α}(h:l[k]? =some b):l.take (k+1)=l.take k++[b]:=by
 rw[List.take_add_one,h]
 rfl
theorem Sl.ofBlock{w:World}{b:Nat}{cs:Array Value}{t:TypeId}{fr:Nat × Nat}(h:w.heap[b]? =some (.cells cs t fr)):Sl w (.slice (some ⟨b,0,none⟩) cs.size cs.size) cs.toList:=
 ⟨some ⟨b,0,none⟩,cs.size,by rw[Array.length_toList],(fun h=>by cases h),by rw[Array.length_toList];exact Nat.le_refl _,fun a ha=>by cases ha;exact World.news_of_block h⟩
open Go.RowKit
theorem zhU{P:Program}{w:World}{v:Value}{cs:List Value}(t e:TypeId){i:TypeInfo}(ht:P.underlying t=some (.slice e))(hi:P.info? e=some i)(hsz:i.size=1)(h:Sl w v cs)(n m:Nat)(hnm:n<=m)(hm:m<=cs.length):
  ∃ao c,(∀wx,(Instr.slice t v (some (.int .i64 n)) (some (.int .i64 m)) none).run P wx= .ok (.slice ao (m-n) c) wx)/\Sl w (.slice ao (m-n) c) ((cs.drop n).take (m-n))/\(∀a,ao=some a->∃a' k' c',v= .slice (some a') k' c'/\a.block=a'.block):=by
 obtain⟨ao,cap,rfl,hnone,hcap,hc⟩:=h
 have hl:((cs.drop n).take (m-n)).length=m-n:=by rw[List.length_take,List.length_drop];omega
 refine⟨if cap=n then ao else ao.map (·.add n),cap-n,fun wx=>?_,⟨_,cap-n,by rw[hl],fun h=>?_,by rw[hl];omega,fun a ha j u hu=>?_⟩,fun a e=>?_⟩
 ·have h1:(n:Int)<=m:=by omega
  have h2:(m:Int)<=cap:=by omega
  simp[Instr.slice,run_underlying ht,Instr.sliceBounds,run_sliceBound,sizeOf,typeInfo,hi,hsz,h1,h2]
 ·have:ao=none:=by
   split at h
   ·exact h
   ·simpa using h
  simp[hnone this]
 ·rw[List.getElem?_take]at hu
  split at hu
  ·rw[List.getElem?_drop]at hu
   have hlt:=(List.getElem?_eq_some_iff.1 hu).1;rw[if_neg (by omega)]at ha
   cases ao with
   |none=>cases ha
   |some b=>
    cases ha;rw[xU];exact hc b rfl _ u hu
  ·cases hu
 ·split at e
  ·exact⟨a,_,_,by rw[e],rfl⟩
  ·cases ao with
   |none=>simp at e
   |some b=>
    simp at e;exact⟨b,_,_,rfl,by rw[<-e,qz]⟩
theorem zfp{P:Program}{w:World}(t tx ty e:TypeId){i:TypeInfo}(size:Nat)(ht:P.underlying t=some (.slice e))(hi:P.info? e=some i)(hsize:i.size=size)
  (g n cap:Nat) (cur:Array Value) (hg:w.heap[g]? =some (.cells cur e (0,0))) (x:Value) (m:Nat) (news:List Value) (hs:Src P size tx x m news w) (hroom:n+m<=cap) (hfit:n*size+news.length<=cur.size):
  (Builtin.append_ #[t,tx] ty #[.slice (some ⟨g,0,none⟩) n cap,x]).run P w= .ok (.slice (some ⟨g,0,none⟩) (n+m) cap) (w.setRow g (cur.toList.take (n*size)++news++cur.toList.drop (n*size+news.length)).toArray):=by
 subst hsize;have hst:=run_storeCells_at P g (n*i.size) e news 0 cur w hg (by simpa using hfit) hs.one;simp only[Nat.add_zero]at hst;have hc:=hs.cells;have hln:=hs.len
 rcases hs.kind with⟨e',hk⟩ |hk <;>
  simp[Builtin.append_,run_underlying ht,run_underlying hk,sizeOf,typeInfo,hi,hln,hroom,hc,Addr.add_lit,hst]
theorem zdE{P:Program}{w:World}{ops:Array Oper}{rest:List Oper}{o:Oper}{a:Act}{Q:Exit->Act->World->Prop}(hgd:o.guard=none)(s sx:Operand)(t tx:TypeId)
  (ho:o.op= .call {callee:= .builtin .append,args:= #[s,sx],argTypes:= #[t,tx] })
  (e:TypeId) {i:TypeInfo} (size:Nat) (ht:P.underlying t=some (.slice e)) (hi:P.info? e=some i) (hsize:i.size=size)
  (g n cap:Nat) (cur:Array Value) (he:a.eval s= .slice (some ⟨g,0,none⟩) n cap) (hg:w.heap[g]? =some (.cells cur e (0,0))) (x:Value) (m:Nat) (news:List Value) (hx:a.eval sx=x) (hs:Src P size tx x m news w)
  (hroom:n+m<=cap) (hfit:n*size+news.length<=cur.size)
  (h:∀w',w'.heap[g]? =some (.cells (cur.toList.take (n*size)++news++cur.toList.drop (n*size+news.length)).toArray e (0,0))->yH (· =g) w w'->wpList P ops Q rest (a.put o.dst (.slice (some ⟨g,0,none⟩) (n+m) cap)) w'):wpList P ops Q (o::rest) a w:=by
 refine wpList_plain hgd fun K hK=>?_
 have hr:=zfp (P:=P) t tx o.type e size ht hi hsize g n cap cur hg x m news hs hroom hfit;unfold Oper.wp execOp;simp only[ho,resolve,invoke,builtin,Sem.run_bind,Sem.run_pure,Result.andThen_ok,List.map_toArray,List.map_cons,List.map_nil,he,hx,hr];exact hK _ _ (h _ (setRow_heap w g cur _ e _ hg) ⟨rfl,rfl,rfl,by simp[World.setRow],fun k _ hk=>setRow_other w g k _ hk⟩)
open Go.RowKit
section
def zq(l:List UInt8):Value:= .string ⟨l.toArray⟩
def zj(l:List (List UInt8)):List Value:=l.map zq
theorem zk(l:List (List UInt8)):(zj l).length=l.length:=by simp[zj]
theorem yW(l m:List (List UInt8)):zj (l++m)=zj l++zj m:=by simp[zj]
theorem zgC(l:List (List UInt8)):∀v∈zj l,v.oneCell'=true:=by
 intro v hv;obtain⟨b,_,rfl⟩:=List.mem_map.1 hv
 rfl
theorem Sl.strAt'{w:World}{ao:Option Addr}{n cap:Nat}{l:List (List UInt8)}(h:Sl w (.slice ao n cap) (zj l)){i:Nat}(hi:i<l.length):
  ∃a b,ao=some a/\w.cell? (a.add i)=some (.string ⟨List.toArray b⟩)/\l[i]? =some b:=Sl.elemAt' (f:=zq) h hi
theorem Tryz.infoStr:(Tryz.prog.info? 9).map (fun i=>(i.zero,i.size,i.bytes))=some (some (zq []),1,16):=by kernel_rfl
theorem zkg(x y:List UInt8)(w:World):Calls Tryz.prog 136 #[zq x,zq y] w fun e w'=>e= .returned (.bool (x==y))/\w=w':=by
 unfold zq
 go_enter Tryz.func136,Tryz.ntmps136
 go_wp2
 go_ret;exact⟨rfl,rfl⟩
theorem zpp(a b:Value)(x y:List (List UInt8))(w:World)(ha:Sl w a (zj x))(hb:Sl w b (zj y))(hx:x.length<=maxLen):
  Calls Tryz.prog 135 #[a,b,.func (Fn.func 136) #[] #[]] w fun e w'=>e= .returned (.bool (x==y))/\∃k,w'=w.drewN k:=by
 obtain⟨aa,ca,rfl⟩:=ha.form;obtain⟨ab,cb,rfl⟩:=hb.form;rw[zk]at ha hb ⊢;rw[zk];unfold maxLen at hx
 by_cases hl:x.length=y.length
 ·have hne:(x.length !=y.length)=false:=by simp[hl]
  have hne':((x.length:Int) !=(y.length:Int))=false:=by simp[hl]
  have HL:=ze hl;clear hl
  go_enter Tryz.func135,Tryz.ntmps135
  go_wp2
  go_loopw [7] (fun i wr=>∃k:Nat,k<=x.length/\i= .int .i64 k/\x.take k=y.take k/\∃q,wr=w.drewN q) (fun i _ =>x.length-(intOf i).toNat)
  case atStart=>exact⟨0,Nat.zero_le _,rfl,rfl,0,rfl⟩
  case round=>
   obtain⟨k,hk,rfl,heq,q,rfl⟩:=hrel
   by_cases hlt:k<x.length
   ·obtain⟨a1,b1,rfl,hc1,hb1⟩:=ha.strAt' (i:=k) hlt
    obtain⟨a2,b2,rfl,hc2,hb2⟩:=hb.strAt' (i:=k) (by rw[<-HL.out];exact hlt)
    have hlt2:k<y.length:=by rw[<-HL.out];exact hlt
    have i0:(0:Int)<=(k:Int):=Int.natCast_nonneg _
    have i1:(k:Int)<(x.length:Int):=by omega
    have i2:(k:Int)<(y.length:Int):=by omega
    by_cases he:b1=b2
    ·subst he
     have hbe:(b1==b1)=true:=by simp
     have HEQ:=ze (show x.take (k+1)=y.take (k+1) by rw[yz hb1,yz hb2,heq]);clear hb1 hb2 heq;go_wp2_with fail
     go_region_held3 (fun wy=>wy.cell? (a1.add k)=some (.string ⟨b1.toArray⟩)/\wy.cell? (a2.add k)=some (.string ⟨b1.toArray⟩)) (go_keep) ((go_at_call 136;refine(zkg _ _ _).mono ?_;rintro e w7 ⟨rfl,rfl⟩))
     go_wp2
     go_roundw
     case rel=>exact⟨k+1,by omega,by go_num,HEQ.out,q+1,rfl⟩
     case measure=>simp[intOf];omega
    ·have hbe:(b1==b2)=false:=by simpa using he
     have hxy:=ze (show(x==y)=false by
      simp;rintro rfl;rw[hb1]at hb2
      exact he (by simpa using hb2))
     clear hb1 hb2 heq he;go_wp2_with fail
     go_region_held3 (fun wy=>wy.cell? (a1.add k)=some (.string ⟨b1.toArray⟩)/\wy.cell? (a2.add k)=some (.string ⟨b2.toArray⟩)) (go_keep) ((go_at_call 136;refine(zkg _ _ _).mono ?_;rintro e w7 ⟨rfl,rfl⟩))
     go_wp2
     go_ret;rw[hxy.out];exact⟨rfl,q+1,rfl⟩
   ·obtain rfl:k=x.length:=by omega
    have hxy:=ze (show(x==y)=true by
     rw[List.take_length,HL.out,List.take_length]at heq
     simpa using heq)
    clear heq
    go_wp2
    go_ret;rw[hxy.out];exact⟨rfl,q,rfl⟩
 ·have hne:(x.length !=y.length)=true:=by simpa using hl
  have hne':((x.length:Int) !=(y.length:Int))=true:=by simp;omega
  have hxy:=ze (show(x==y)=false by
   simp;rintro rfl
   exact hl rfl)
  clear hl
  go_enter Tryz.func135,Tryz.ntmps135
  go_wp2
  go_ret;rw[hxy.out];exact⟨rfl,0,rfl⟩
theorem zej(a b:Value)(x y:List (List UInt8))(w:World)(ha:Sl w a (zj x))(hb:Sl w b (zj y))(hx:x.length<=maxLen):
  Calls Tryz.prog 113 #[a,b] w fun e w'=>e= .returned (.bool (x==y))/\∃k,w'=w.drewN k:=by
 go_enter Tryz.func113,Tryz.ntmps113
 go_wp2_with fail;refine(zpp a b x y w ha hb hx).mono ?_;rintro e w' ⟨rfl,k,rfl⟩
 go_wp2
 go_ret;exact⟨rfl,k,rfl⟩
structure zsa(w:World)(g:Nat)(bs:List (List UInt8))(f:List UInt8):Prop where
 block:w.heap[g]? =some (.cells (zj (bs++[f,f,f])).toArray 9 (0,0))
end
open Go.RowKit
structure Enc(α:Type) where
 k:Nat
 pos:0<k
 enc:α->List Value
 len:∀x,(enc x).length=k
 one:∀x,∀u∈enc x,u.oneCell'=true
section
variable{α:Type}(E:Enc α)
def zO(xs:List α):List Value:=xs.flatMap E.enc
theorem yN(xs:List α):(zO E xs).length=xs.length*E.k:=by
 induction xs with
 |nil=>simp[zO]
 |cons x xs ih=>rw[zO,List.flatMap_cons,List.length_append,<-zO,ih,E.len,List.length_cons,Nat.succ_mul];omega
theorem xA(xs ys:List α):zO E (xs++ys)=zO E xs++zO E ys:=by simp[zO]
theorem zbR(x:α):zO E [x]=E.enc x:=by simp[zO]
theorem zkv(xs:List α):∀u∈zO E xs,u.oneCell'=true:=fun u hu=>by
 obtain⟨x,_,hx⟩:=List.mem_flatMap.1 hu;exact E.one x u hx
theorem zdq{xs:List α}{i:Nat}{x:α}(h:xs[i]? =some x){j:Nat}(hj:j<E.k):(zO E xs)[i*E.k+j]? =(E.enc x)[j]? :=by
 induction xs generalizing i with
 |nil=>simp at h
 |cons y xs ih=>
  cases i with
  |zero=>
   simp at h;subst h;rw[zO,List.flatMap_cons,Nat.zero_mul,Nat.zero_add,List.getElem?_append_left (by rw[E.len];exact hj)]
  |succ i=>
   have:=ih (i:=i) (by simpa using h);rw[zO,List.flatMap_cons,<-zO,List.getElem?_append_right (by rw[E.len,Nat.succ_mul];omega),E.len,<-this]
   congr 1
   rw[Nat.succ_mul];omega
def zy(w:World)(v:Value)(xs:List α):Prop:=
 ∃ao cap,v= .slice ao xs.length cap/\(ao=none->xs=[])/\xs.length<=cap/\∀a,ao=some a->∀i x,xs[i]? =some x->∀j u,(E.enc x)[j]? =some u->w.cell? (a.add (i*E.k+j))=some u
variable{E}
theorem zy.nil(w:World):zy E w (.slice none 0 0) []:=⟨none,0,rfl,fun _ =>rfl,Nat.le_refl _,fun a h=>by cases h⟩
theorem zy.form{w:World}{v:Value}{xs:List α}(h:zy E w v xs):∃ao cap,v= .slice ao xs.length cap:=by
 obtain⟨ao,cap,rfl,_⟩:=h;exact⟨ao,cap,rfl⟩
theorem zy.kept{w w':World}{v:Value}{xs:List α}(h:zy E w v xs)(hk:∀a n c,v= .slice (some a) n c->a.block<w.heap.size->w'.heap[a.block]? =w.heap[a.block]?):zy E w' v xs:=by
 obtain⟨ao,cap,rfl,hn,hcap,hc⟩:=h;refine⟨ao,cap,rfl,hn,hcap,fun a ha i x hx j u hu=>?_⟩;have h1:=hc a ha i x hx j u hu
 have hb:(a.add (i*E.k+j)).block=a.block:=by unfold Addr.add;split <;> rfl
 have hlt:=World.block_lt_of_cell? w _ h1;rw[hb]at hlt;refine(World.cell?_of_block (w:=w) ?_).trans h1;rw[hb];exact hk a _ _ (by rw[ha]) hlt
theorem zy.old{w w':World}{v:Value}{xs:List α}(h:zy E w v xs)(hk:Below w.heap.size w w'):zy E w' v xs:=h.kept fun _ _ _ _ hlt=>hk.block _ hlt
theorem zy.alloc{w:World}{v:Value}{xs:List α}(h:zy E w v xs)(o:Obj):zy E (w.alloc o) v xs:=h.old ((Below.refl _ w).alloc (Nat.le_refl _) o)
theorem zy.ofOwns{w:World}{base:Nat}{e:TypeId}{v:Value}{xs:List α}(h:w.ownsRow base e E.k v xs.length (zO E xs)):zy E w v xs:=by
 rcases h.2 with⟨rfl,h0⟩ |⟨g,cap,cur,rfl,r⟩
 ·have:xs=[]:=List.eq_nil_of_length_eq_zero h0
  subst this;exact zy.nil w
 ·refine⟨some ⟨g,0,none⟩,cap,rfl,(fun h=>by cases h),r.2.2.1,fun a ha i x hx j u hu=>?_⟩
  cases ha
  have hj:j<E.k:=by have:=(List.getElem?_eq_some_iff.1 hu).1;rw[E.len]at this;exact this
  exact h.cells rfl _ _ ((zdq E hx hj).trans hu)
theorem zy.src{P:Program}{w:World}{tx e':TypeId}{v:Value}{xs:List α}(h:zy E w v xs)(hk:P.underlying tx=some (.slice e')):Src P E.k tx v xs.length (zO E xs) w:=by
 obtain⟨ao,cap,rfl,hn,hcap,hc⟩:=h
 cases ao with
 |none=>
  obtain rfl:=hn rfl;exact Src.ofNil w hk cap
 |some a=>
  refine Src.ofSlice w hk a xs.length cap (zO E xs) (yN E xs) (fun j u hu=>?_) (zkv E xs);have hlt:=(List.getElem?_eq_some_iff.1 hu).1;rw[yN]at hlt;have hi:j / E.k<xs.length:=Nat.div_lt_of_lt_mul (by rw[Nat.mul_comm];exact hlt);have hx:=List.getElem?_eq_getElem hi;have hm:j % E.k<E.k:=Nat.mod_lt _ E.pos
  have hj:j=j / E.k*E.k+j % E.k:=by rw[Nat.mul_comm];exact(Nat.div_add_mod j E.k).symm
  rw[hj,zdq E hx hm]at hu;rw[hj];exact hc a rfl _ _ hx _ _ hu
theorem zy.at'{w:World}{ao:Option Addr}{n cap:Nat}{xs:List α}(h:zy E w (.slice ao n cap) xs){i:Nat}(hi:i<xs.length):
  ∃b o x,ao=some ⟨b,o,none⟩/\xs[i]? =some x/\∀j u,(E.enc x)[j]? =some u->w.cell? ⟨b,o+i*E.k+j,none⟩=some u:=by
 obtain⟨ao',cap',hv,hn,_,hc⟩:=h;obtain⟨rfl,_,_⟩:=Value.slice.inj hv
 cases ao with
 |none=>rw[hn rfl]at hi;cases hi
 |some a=>
  obtain⟨b,o,sp⟩:=a;have h0:=hc _ rfl i _ (List.getElem?_eq_getElem hi);have hz:=hc _ rfl 0 _ (List.getElem?_eq_getElem (show 0<xs.length by omega)) 0 _ (List.getElem?_eq_getElem (show 0 <(E.enc (xs[0]'(by omega))).length by rw[E.len];exact E.pos));rw[Nat.zero_mul,Nat.zero_add,show(⟨b,o,sp⟩:Addr).add 0=⟨b,o,sp⟩from rfl]at hz;have hsp:sp=none:=World.cell?_spot hz;subst hsp;refine⟨b,o,_,rfl,List.getElem?_eq_getElem hi,fun j u hu=>?_⟩;have:=h0 j u hu;rw[Addr.add_lit,<-Nat.add_assoc]at this;exact this
theorem zy.cut_to{P:Program}{w:World}{t e:TypeId}{ti:TypeInfo}(ht:P.underlying t=some (.slice e))(hi:P.info? e=some ti){ao:Option Addr}{n cap:Nat}{xs:List α}(h:zy E w (.slice ao n cap) xs){j:Nat}(hj:j<=xs.length):
  (∀wx,(Instr.slice t (.slice ao n cap) none (some (.int .i64 (j:Nat))) none).run P wx= .ok (.slice ao j cap) wx)/\zy E w (.slice ao j cap) (xs.take j):=by
 obtain⟨ao',cap',hv,hnone,hcap,hc⟩:=h;obtain⟨rfl,rfl,rfl⟩:=Value.slice.inj hv
 have hl:(xs.take j).length=j:=by rw[List.length_take];omega
 refine⟨fun wx=>?_,⟨ao,cap,by rw[hl],fun h=>by rw[hnone h];simp,by rw[hl];omega,fun a ha m x hx m' u hu=>?_⟩⟩
 ·have h1:(0:Int)<=(j:Int):=by omega
  have h2:(j:Int)<=cap:=by omega
  cases ao <;> simp[Instr.slice,run_underlying ht,Instr.sliceBounds,run_sliceBound,sizeOf,typeInfo,hi,h1,h2,Addr.add]<;>(try split)<;> simp_all
 ·rw[List.getElem?_take]at hx
  split at hx
  ·exact hc a ha m x hx m' u hu
  ·cases hx
theorem zy.cut_from{P:Program}{w:World}{t e:TypeId}{ti:TypeInfo}(ht:P.underlying t=some (.slice e))(hi:P.info? e=some ti)(hs:ti.size=E.k){ao:Option Addr}{n cap:Nat}{xs:List α}(h:zy E w (.slice ao n cap) xs){i:Nat}(hij:i<=xs.length):
  ∃ao' c',(∀wx,(Instr.slice t (.slice ao n cap) (some (.int .i64 (i:Nat))) none none).run P wx= .ok (.slice ao' (xs.length-i) c') wx)/\zy E w (.slice ao' (xs.length-i) c') (xs.drop i):=by
 obtain⟨ao',cap',hv,hnone,hcap,hc⟩:=h;obtain⟨rfl,rfl,rfl⟩:=Value.slice.inj hv
 have hl:(xs.drop i).length=xs.length-i:=by rw[List.length_drop]
 refine⟨if cap=i then ao else ao.map (·.add (i*E.k)),cap-i,fun wx=>?_,⟨_,cap-i,by rw[hl],fun h=>?_,by rw[hl];omega,fun a ha m x hx m' u hu=>?_⟩⟩
 ·have h1:(i:Int)<=(xs.length:Int):=by omega
  simp[Instr.slice,run_underlying ht,Instr.sliceBounds,run_sliceBound,sizeOf,typeInfo,hi,hs,h1]
 ·have:ao=none:=by
   split at h
   ·exact h
   ·simpa using h
  rw[hnone this];simp
 ·have hm:=(List.getElem?_eq_some_iff.1 hx).1
  rw[hl]at hm;rw[if_neg (by omega)]at ha
  cases ao with
  |none=>cases ha
  |some b=>
   cases ha;rw[List.getElem?_drop]at hx;have:=hc b rfl (i+m) x hx m' u hu;rw[xU,show i*E.k +(m*E.k+m')=(i+m)*E.k+m' by rw[Nat.add_mul];omega];exact this
theorem zy.one{w:World}{q:Nat}{e:TypeId}{fr:Nat × Nat}{cs:Array Value}{x:α}(h:w.heap[q]? =some (.cells cs e fr))(hcs:cs.toList=E.enc x):zy E w (.slice (some ⟨q,0,none⟩) 1 1) [x]:=by
 refine⟨some ⟨q,0,none⟩,1,rfl,(fun h=>by cases h),Nat.le_refl _,fun a ha i y hy j u hu=>?_⟩;cases ha
 cases i with
 |zero=>
  have:y=x:=by simpa using hy.symm
  subst this;rw[Nat.zero_mul,Nat.zero_add,Addr.add_lit,Nat.zero_add];rw[<-hcs]at hu
  have hu':cs[j]? =some u:=by simpa using hu
  simp only[World.cell?,h];exact hu'
 |succ i=>simp at hy
theorem zY{w:World}{b b':Nat}{e:TypeId}{size:Nat}{v:Value}{n:Nat}{xs:List Value}(h:w.ownsRow b e size v n xs)(hb:b'<=b):w.ownsRow b' e size v n xs:=by
 refine⟨h.1,?_⟩
 rcases h.2 with hn |⟨g,cap,cur,rfl,hbg,rest⟩
 ·exact .inl hn
 ·exact .inr ⟨g,cap,cur,rfl,Nat.le_trans hb hbg,rest⟩
end
section
variable{α:Type}{E:Enc α}{P:Program}{w:World}
theorem qS{ops:Array Oper}{rest:List Oper}{o:Oper}{a:Act}{Q:Exit->Act->World->Prop}(hgd:o.guard=none)(s sx:Operand)(t e:TypeId)
  (ho:o.op= .call {callee:= .builtin .append,args:= #[s,sx],argTypes:= #[t,t] })
  (ht:P.underlying t=some (.slice e)) {ti:TypeInfo} (hi:P.info? e=some ti) {z:Value} (hz:ti.zero=some z) (hs:ti.size=E.k) (hby:ti.bytes<=1000) (hzs:z.cells.size=E.k)
  (base:Nat) (v:Value) (xs:List α) (x:α) (he:a.eval s=v) (hown:w.ownsRow base e E.k v xs.length (zO E xs)) (q:Nat) (hx:a.eval sx= .slice (some ⟨q,0,none⟩) 1 1) (hq:w.heap.size=q)
  (hlen:xs.length<=100000000) (hbase:base<=w.heap.size) (cs:Array Value) (hcs:cs.toList=E.enc x)
  (h:∀v' w',w'.ownsRow base e E.k v' (xs++[x]).length (zO E (xs++[x]))->Below base w w'->wpList P ops Q rest (a.put o.dst v') w'):wpList P ops Q (o::rest) a (w.alloc (.cells cs e)):=by
 subst hq
 have hcz:cs.size=E.k:=by rw[<-Array.length_toList,hcs,E.len]
 have hsrc:Src P E.k t (.slice (some ⟨w.heap.size,0,none⟩) 1 1) 1 (E.enc x) (w.alloc (.cells cs e)):=by
  refine Src.ofSlice _ ht ⟨w.heap.size,0,none⟩ 1 1 (E.enc x) (by rw[E.len];omega) (fun j u hu=>?_) (E.one x);rw[Addr.add_lit,Nat.zero_add];refine zd (heap_alloc_new w _) ?_;rw[<-hcs]at hu;simpa using hu
 have hb:(xs.length+1)*ti.bytes<=140737488355328:=Nat.le_trans (Nat.mul_le_mul_left _ hby) (by omega)
 refine yd _ hgd s sx _ _ ho base e ti z E.k ti.bytes ht hi hz hs rfl hzs E.pos v _ _ he (hown.alloc _) _ 1 _ hx hsrc (by unfold maxLen;omega) hb (by simp;omega) fun v' w' h2 h3 h4=>h v' w' ?_ ?_
 ·rw[List.length_append,xA,zbR]
  exact h2
 ·exact((Below.refl base w).alloc hbase _).grown h3 (by simp;omega) (fun j hj=>(hown.lt j hj).1)
theorem zaS{ops:Array Oper}{o:Oper}{a:Act}{K:Act->World->Prop}{Q:Exit->Act->World->Prop}{X:Prop}(hgd:o.guard=none)(s sx:Operand)(t e:TypeId)
  (ho:o.op= .call {callee:= .builtin .append,args:= #[s,sx],argTypes:= #[t,t] })
  (ht:P.underlying t=some (.slice e)) {ti:TypeInfo} (hi:P.info? e=some ti) {z:Value} (hz:ti.zero=some z) (hs:ti.size=E.k) (hby:ti.bytes<=1000) (hzs:z.cells.size=E.k)
  (base:Nat) (v:Value) (xs:List α) (x:α) (he:a.eval s=v) (hown:w.ownsRow base e E.k v xs.length (zO E xs)) (u:Value) (hx:a.eval sx=u) (hu:zy E w u [x])
  (hlen:xs.length<=100000000) (hbase:base<=w.heap.size)
  (h:∀v' w',w'.ownsRow base e E.k v' (xs++[x]).length (zO E (xs++[x]))->Below base w w'->K (a.put o.dst v') w'):if Region.wanted o (yielded ops a.tmps)=true then Oper.wp P o a w K Q else X:=by
 have hb:(xs.length+1)*ti.bytes<=140737488355328:=Nat.le_trans (Nat.mul_le_mul_left _ hby) (by omega)
 refine jA w hgd s sx _ _ ho base e ti z E.k ti.bytes ht hi hz hs rfl hzs E.pos v _ _ he hown u 1 _ hx (hu.src ht) (by unfold maxLen;omega) hb hbase fun v' w' h2 h3 h4=>h v' w' ?_ ?_
 ·rw[List.length_append,xA]
  exact h2
 ·exact(Below.refl base w).grown h3 hbase (fun j hj=>(hown.lt j hj).1)
theorem zaV{ops:Array Oper}{o:Oper}{a:Act}{K:Act->World->Prop}{Q:Exit->Act->World->Prop}{X:Prop}(hgd:o.guard=none)(s sx:Operand)(t e:TypeId)
  (ho:o.op= .call {callee:= .builtin .append,args:= #[s,sx],argTypes:= #[t,t] })
  (ht:P.underlying t=some (.slice e)) {ti:TypeInfo} (hi:P.info? e=some ti) {z:Value} (hz:ti.zero=some z) (hs:ti.size=E.k) (hby:ti.bytes<=1000) (hzs:z.cells.size=E.k)
  (base:Nat) (v:Value) (xs ys:List α) (he:a.eval s=v) (hown:w.ownsRow base e E.k v xs.length (zO E xs)) (u:Value) (hx:a.eval sx=u) (hu:zy E w u ys)
  (hlen:xs.length+ys.length<=100000000) (hbase:base<=w.heap.size)
  (h:∀v' w',w'.ownsRow base e E.k v' (xs++ys).length (zO E (xs++ys))->Below base w w'->K (a.put o.dst v') w'):if Region.wanted o (yielded ops a.tmps)=true then Oper.wp P o a w K Q else X:=by
 have hb:(xs.length+ys.length)*ti.bytes<=140737488355328:=Nat.le_trans (Nat.mul_le_mul_left _ hby) (by omega)
 refine jA w hgd s sx _ _ ho base e ti z E.k ti.bytes ht hi hz hs rfl hzs E.pos v _ _ he hown u ys.length _ hx (hu.src ht) (by unfold maxLen;omega) hb hbase fun v' w' h2 h3 h4=>h v' w' ?_ ?_
 ·rw[List.length_append,xA]
  exact h2
 ·exact(Below.refl base w).grown h3 hbase (fun j hj=>(hown.lt j hj).1)
end
open Go.RowKit
theorem zD{w w':World}{base:Nat}{e:TypeId}{size:Nat}{v:Value}{n:Nat}{xs:List Value}(h:w.ownsRow base e size v n xs)(hk:∀g,v.ownBlock=some g->g<w.heap.size->w'.heap[g]? =w.heap[g]?):w'.ownsRow base e size v n xs:=by
 refine⟨h.1,?_⟩
 rcases h.2 with hn |⟨g,cap,cur,rfl,hb,hg,rest⟩
 ·exact .inl hn
 ·exact .inr ⟨g,cap,cur,rfl,hb,(hk g rfl (lt_of_block hg)).trans hg,rest⟩
def zkL(w:World)(v u:Value)(xs:List (List UInt8)):Prop:=Sl w u (zj xs)/\∀a n c,u= .slice (some a) n c->a.block<w.heap.size/\v.ownBlock≠some a.block
theorem zkL.kept{w w':World}{v v' u:Value}{xs:List (List UInt8)}(h:zkL w v u xs)(hk:∀b,b<w.heap.size->v.ownBlock≠some b->w'.heap[b]? =w.heap[b]?)(hz:w.heap.size<=w'.heap.size)(hv:v'.ownBlock=v.ownBlock∨∃f,v'.ownBlock=some f/\w.heap.size<=f):zkL w' v' u xs:=by
 refine⟨h.1.kept fun a n c e hlt=>hk _ hlt (h.2 a n c e).2,fun a n c e=>⟨Nat.lt_of_lt_of_le (h.2 a n c e).1 hz,?_⟩⟩
 rcases hv with hv |⟨f,hv,hf⟩
 ·rw[hv]
  exact(h.2 a n c e).2
 ·rw[hv]
  intro e';have:=(h.2 a n c e).1;cases e';omega
def yy(w:World)(v u:Value)(xs:List (List UInt8)):Prop:=Sl w u (zj xs)/\(xs≠ []->zkL w v u xs)
theorem zkL.toL{w:World}{v u:Value}{xs:List (List UInt8)}(h:zkL w v u xs):yy w v u xs:=⟨h.1,fun _ =>h⟩
theorem yy.kept{w w':World}{v v' u:Value}{xs:List (List UInt8)}(h:yy w v u xs)(hk:∀b,b<w.heap.size->v.ownBlock≠some b->w'.heap[b]? =w.heap[b]?)(hz:w.heap.size<=w'.heap.size)(hv:v'.ownBlock=v.ownBlock∨∃f,v'.ownBlock=some f/\w.heap.size<=f):yy w' v' u xs:=by
 by_cases hx:xs=[]
 ·subst hx
  obtain⟨ao,cap,rfl,h1,h2,_⟩:=h.1;exact⟨⟨ao,cap,rfl,fun _ =>rfl,h2,fun a _ j x hx=>by simp[zj]at hx⟩,fun h=>absurd rfl h⟩
 ·have:=(h.2 hx).kept hk hz hv
  exact this.toL
theorem yy.old'{w w':World}{v u:Value}{xs:List (List UInt8)}(h:yy w v u xs)(hk:Below w.heap.size w w'):yy w' v u xs:=h.kept (fun b hb _ =>hk.block b hb) hk.size (.inl rfl)
theorem yy.new{w w':World}{v u:Value}{xs:List (List UInt8)}(h:Sl w u (zj xs))(hk:∀b,b<w.heap.size->w'.heap[b]? =w.heap[b]?)(hz:w.heap.size<=w'.heap.size)(hv:∀j,v.ownBlock=some j->w.heap.size<=j):yy w' v u xs:=by
 refine⟨?_,fun hx=>⟨h.kept fun a n c e hlt=>hk _ hlt,fun a n c e=>?_⟩⟩
 ·exact h.kept fun a n c e hlt=>hk _ hlt
 ·subst e
  have hb:=h.lt (i:=0) (by cases xs with |nil=>exact absurd rfl hx |cons y l=>simp[zj]);exact⟨Nat.lt_of_lt_of_le hb hz,fun e=>Nat.lt_irrefl _ (Nat.lt_of_lt_of_le hb (hv _ e))⟩
theorem zA{w0 w:World}{v u:Value}{xs:List (List UInt8)}(h:w.ownsRow w0.heap.size 9 1 u xs.length (zj xs))(hv:∀j,v.ownBlock=some j->j<w0.heap.size):yy w v u xs:=by
 refine zkL.toL ⟨Sl.ofOwns h,fun a n c e=>?_⟩
 rcases h.2 with⟨rfl,_⟩ |⟨g,cap,cur,rfl,r1,r2,r3⟩
 ·cases e
 ·cases e
  refine⟨lt_of_block r2,fun e=>?_⟩;have:=hv _ e;simp only at this;omega
end Go.Proofs.YtbnafihigoekeaaGreatDoor

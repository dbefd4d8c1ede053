/-
  TmTl, part 2.
-/
import Derived.Test.YtbnafihigoekeaaGreatDoorZt1
import Derived.OneCell
import Derived.Deep.Strs
import Derived.ProofKit
import Derived.OpenShut
import Derived.ShutString
namespace Go.Proofs.YtbnafihigoekeaaGreatDoor
open Go.RowKit
def zcl(l:List Int):Array Value:=(l.map (Value.int .i64)).toArray
theorem zbw{l:List Int}{i:Nat}{z:Int}(h:l[i]? =some z):(zcl l)[i]? =some (.int .i64 z):=by simp[zcl,h]
theorem zhi(l:List Int)(i:Nat)(z:Int):(zcl l).setIfInBounds i (.int .i64 z)=zcl (l.set i z):=by simp[zcl,List.map_set]
def ziI:Enc Bool:=⟨1,by omega,fun f=>[.bool f],fun _ =>rfl,fun f u hu=>by
 simp only[List.mem_cons,List.not_mem_nil,or_false]at hu;subst hu
 rfl⟩
theorem Tryz.infoBo:(Tryz.prog.info? 4).map (fun i=>(i.zero,i.size,i.bytes))=some (some (.bool false),1,1):=by kernel_rfl
abbrev zrJ(w:World)(v:Value)(fs:List Bool):Prop:=zy ziI w v fs
abbrev qO(w:World)(base:Nat)(v:Value)(fs:List Bool):Prop:=w.ownsRow base 4 1 v fs.length (zO ziI fs)
theorem qO.sl{w:World}{base:Nat}{v:Value}{fs:List Bool}(h:qO w base v fs):zrJ w v fs:=zy.ofOwns (E:=ziI) h
theorem zrJ.at{w:World}{ao:Option Addr}{n cap:Nat}{fs:List Bool}(h:zrJ w (.slice ao n cap) fs){i:Nat}(hi:i<fs.length):
  ∃b o p,ao=some ⟨b,o,none⟩/\fs[i]? =some p/\w.cell? ⟨b,o+i*1,none⟩=some (.bool p):=by
 obtain⟨b,o,p,ha,hx,hc⟩:=zy.at' h hi;exact⟨b,o,p,ha,hx,hc 0 _ rfl⟩
theorem zbo{w:World}{ops:Array Oper}{rest:List Oper}{o:Oper}{a:Act}{Q:Exit->Act->World->Prop}(hgd:o.guard=none)(s sx:Operand)
  (ho:o.op= .call {callee:= .builtin .append,args:= #[s,sx],argTypes:= #[73,73] })
  (base:Nat) (v:Value) (xs:List Bool) (x:Bool) (he:a.eval s=v) (hown:qO w base v xs) (q:Nat) (hx:a.eval sx= .slice (some ⟨q,0,none⟩) 1 1) (hq:w.heap.size=q)
  (hlen:xs.length<=100000000) (hbase:base<=w.heap.size)
  (h:∀v' w',qO w' base v' (xs++[x])->Below base w w'->wpList Tryz.prog ops Q rest (a.put o.dst v') w'):wpList Tryz.prog ops Q (o::rest) a (w.alloc (.cells #[.bool x] 4)):=by
 obtain⟨i0,hi0,hi1,hi2,hi3⟩:=info_parts Tryz.infoBo;exact qS (E:=ziI) hgd s sx 73 4 ho Tryz.underlying73 hi0 hi1 hi2 (by rw[hi3];omega) rfl base v xs x he hown q hx hq hlen hbase _ rfl h
theorem zgE(X:List Bool):zO ziI X=X.map Value.bool:=by
 induction X with
 |nil=>rfl
 |cons x X ih=>
  show [Value.bool x]++zO ziI X= _;rw[ih]
  rfl
theorem qO.put{w:World}{base g cap:Nat}{X:List Bool}(h:qO w base (.slice (some ⟨g,0,none⟩) X.length cap) X)(i:Nat)(z:Bool):
  qO (w.setCell ⟨g,i,none⟩ (.bool z)) base (.slice (some ⟨g,0,none⟩) (X.set i z).length cap) (X.set i z):=by
 refine⟨by rw[zgE];simp,.inr ?_⟩
 rcases h.2 with⟨e,_⟩ |⟨g',cap',cur,e,hg,hh,h1,h2,h3,h4⟩
 ·cases e
 ·cases e
  refine⟨g,cap,cur.setIfInBounds i (.bool z),by rw[List.length_set],hg,zv hh,by rw[List.length_set];exact h1,h2,by simpa using h3,?_⟩;rw[List.length_set,Array.toList_setIfInBounds,List.take_set,h4,zgE,zgE,List.map_set]
theorem qO.place{w:World}{base:Nat}{v:Value}{X:List Bool}(h:qO w base v X)(hx:X≠ []):∃g cap,v= .slice (some ⟨g,0,none⟩) X.length cap/\base<=g/\g<w.heap.size/\
  ∀ (i:Nat) (z:Bool),X[i]? =some z->w.cell? ⟨g,i,none⟩=some (.bool z)/\w.frozen? ⟨g,i,none⟩=false:=by
 rcases h.2 with⟨_,e⟩ |⟨g,cap,cur,e,hg,hh,h1,h2,h3,h4⟩
 ·exact absurd (List.eq_nil_of_length_eq_zero e) hx
 ·refine⟨g,cap,e,hg,lt_of_block hh,fun i z hz=>⟨zd hh ?_,zo hh⟩⟩
  have hlt:=(List.getElem?_eq_some_iff.1 hz).1
  have:(cur.toList.take (X.length*1))[i]? =some (.bool z):=by
   rw[h4,zgE,List.getElem?_map,hz]
   rfl
  rw[List.getElem?_take_of_lt (by omega)]at this;simpa using this
structure zap(w0:World)(va vb:Value)(gt:Nat)(X:List Int)(A B:List Bool)(w:World):Prop where
 row:w.heap[gt]? =some (.cells (zcl X) 3 (0,0))
 a:qO w w0.heap.size va A
 b:qO w w0.heap.size vb B
 pt:w0.heap.size<=gt
 na:va.ownBlock≠some gt
 nb:vb.ownBlock≠some gt
 nab:∀g,va.ownBlock=some g->vb.ownBlock≠some g
 below:Below w0.heap.size w0 w
theorem zap.old{w0 w w':World}{va vb:Value}{gt:Nat}{X:List Int}{A B:List Bool}(h:zap w0 va vb gt X A B w)(hk:Below w.heap.size w w'):zap w0 va vb gt X A B w':=
 ⟨(hk.block _ (lt_of_block h.row)).trans h.row,zD h.a fun q _ hq=>hk.block q hq,zD h.b fun q _ hq=>hk.block q hq,h.pt,h.na,h.nb,h.nab,zi h.below hk h.below.size⟩
theorem zap.setT{w0 w:World}{va vb:Value}{gt:Nat}{X:List Int}{A B:List Bool}(h:zap w0 va vb gt X A B w)(i:Nat)(z:Int):zap w0 va vb gt (X.set i z) A B (w.setCell ⟨gt,i,none⟩ (.int .i64 z)):=
 ⟨by rw[<-zhi];exact zv h.row,ownsRow_setCell_other h.a (a:=⟨gt,i,none⟩) h.na _,ownsRow_setCell_other h.b (a:=⟨gt,i,none⟩) h.nb _,h.pt,h.na,h.nb,h.nab,h.below.setCell h.pt _⟩
theorem zap.setA{w0 w:World}{va vb:Value}{gt:Nat}{X:List Int}{A B:List Bool}(h:zap w0 va vb gt X A B w){g cap:Nat}(hv:va= .slice (some ⟨g,0,none⟩) A.length cap)(hg:w0.heap.size<=g)(i:Nat)(z:Bool):
  zap w0 va vb gt X (A.set i z) B (w.setCell ⟨g,i,none⟩ (.bool z)):=by
 have hgt:g≠gt:=fun e=>h.na (by rw[hv,e];rfl)
 refine⟨?_,?_,ownsRow_setCell_other h.b (a:=⟨g,i,none⟩) (h.nab g (by rw[hv];rfl)) _,h.pt,h.na,h.nb,h.nab,h.below.setCell hg _⟩
 ·rw[Below.heap_setCell _ _ _ _ (fun e=>hgt e.symm)]
  exact h.row
 ·have ha:=h.a
  subst hv;have:=ha.put i z
  rwa [List.length_set]at this
theorem zap.setB{w0 w:World}{va vb:Value}{gt:Nat}{X:List Int}{A B:List Bool}(h:zap w0 va vb gt X A B w){g cap:Nat}(hv:vb= .slice (some ⟨g,0,none⟩) B.length cap)(hg:w0.heap.size<=g)(i:Nat)(z:Bool):
  zap w0 va vb gt X A (B.set i z) (w.setCell ⟨g,i,none⟩ (.bool z)):=by
 have hgt:g≠gt:=fun e=>h.nb (by rw[hv,e];rfl)
 refine⟨?_,ownsRow_setCell_other h.a (a:=⟨g,i,none⟩) (fun e=>h.nab g e (by rw[hv];rfl)) _,?_,h.pt,h.na,h.nb,h.nab,h.below.setCell hg _⟩
 ·rw[Below.heap_setCell _ _ _ _ (fun e=>hgt e.symm)]
  exact h.row
 ·have hb:=h.b
  subst hv;have:=hb.put i z
  rwa [List.length_set]at this
theorem zap.start{w0 w1 w2:World}{va vb:Value}{A B:List Bool}(n:Nat)(ha:qO w1 w0.heap.size va A)(h1:Below w0.heap.size w0 w1)(hb:qO w2 w1.heap.size vb B)(h2:Below w1.heap.size w1 w2):
  zap w0 va vb w2.heap.size (List.replicate n 0) A B (w2.alloc (.cells (zcl (List.replicate n 0)) 3)):=by
 have q1:=h1.size;have q2:=h2.size
 have la:=fun q hq=>(World.ownsRow.lt ha q hq)
 have lb:=fun q hq=>(World.ownsRow.lt hb q hq)
 refine⟨heap_alloc_new w2 _,?_,?_,by omega,fun e=>?_,fun e=>?_,fun g e1 e2=>?_,(zi h1 h2 q1).alloc (by omega) _⟩
 ·exact zD (zD ha fun q _ hq=>h2.block q hq) fun q _ hq=>Below.heap_alloc _ _ _ hq
 ·have:qO w2 w0.heap.size vb B:=⟨hb.1,hb.2.imp id fun⟨g,cap,cur,e1,e2,e3⟩=>⟨g,cap,cur,e1,Nat.le_trans q1 e2,e3⟩⟩
  exact zD this fun q _ hq=>Below.heap_alloc _ _ _ hq
 ·have:=la _ e
  omega
 ·have:=lb _ e
  omega
 ·have:=la _ e1
  have:=lb _ e2;omega
theorem zap.placeA{w0 w:World}{o:Option Addr}{n c:Nat}{vb:Value}{gt:Nat}{X:List Int}{A B:List Bool}(h:zap w0 (.slice o n c) vb gt X A B w)(hn:A.length=n)(h0:0<n):
  ∃g,o=some ⟨g,0,none⟩/\w0.heap.size<=g/\∀ (i:Nat) (z:Bool),A[i]? =some z->w.cell? ⟨g,i,none⟩=some (.bool z)/\w.frozen? ⟨g,i,none⟩=false:=by
 obtain⟨g,cap,e,h1,_,h3⟩:=h.a.place (fun e=>by rw[e]at hn;simp at hn;omega);cases e;exact⟨g,rfl,h1,h3⟩
theorem zap.placeB{w0 w:World}{o:Option Addr}{n c:Nat}{va:Value}{gt:Nat}{X:List Int}{A B:List Bool}(h:zap w0 va (.slice o n c) gt X A B w)(hn:B.length=n)(h0:0<n):
  ∃g,o=some ⟨g,0,none⟩/\w0.heap.size<=g/\∀ (i:Nat) (z:Bool),B[i]? =some z->w.cell? ⟨g,i,none⟩=some (.bool z)/\w.frozen? ⟨g,i,none⟩=false:=by
 obtain⟨g,cap,e,h1,_,h3⟩:=h.b.place (fun e=>by rw[e]at hn;simp at hn;omega);cases e;exact⟨g,rfl,h1,h3⟩
theorem yP{α:Type}{l:List α}{k:Nat}{x:α}(h:l[k]? =some x):l.drop k=x::l.drop (k+1):=by
 obtain⟨q,e⟩:=List.getElem?_eq_some_iff.1 h;rw[List.drop_eq_getElem_cons q,e]
open Go.RowKit
section
variable{P:Program}
theorem zcR(s:List UInt8)(a b:Nat):(⟨s.toArray⟩:ByteArray).extract a b=⟨((s.drop a).take (b-a)).toArray⟩:=by
 apply ByteArray.ext
 simp[ByteArray.data_extract]
theorem zaX(t:TypeId)(ht:P.underlying t=some .string){s:List UInt8}{i:Nat}{b:UInt8}(hb:s[i]? =some b)(wx:World):
  (Instr.index t (.string ⟨s.toArray⟩) (.int .i64 (i:Nat))).run P wx= .ok (.int .u8 (b.toNat:Nat)) wx:=by
 obtain⟨hi,rfl⟩:=List.getElem?_eq_some_iff.1 hb;rw[run_index_string (P:=P) wx t _ _ _ ht]
 have hs:(⟨s.toArray⟩:ByteArray).size=s.length:=by simp[ByteArray.size]
 rw[dif_pos ⟨by omega,by rw[hs];omega⟩]
 rfl
theorem zfV(t:TypeId)(ht:P.underlying t=some .string)(s:List UInt8)(a b:Nat)(hab:a<=b)(hb:b<=s.length)(wx:World):
  (Instr.slice t (.string ⟨s.toArray⟩) (some (.int .i64 (a:Nat))) (some (.int .i64 (b:Nat))) none).run P wx= .ok (.string ⟨((s.drop a).take (b-a)).toArray⟩) wx:=by
 have hs:(⟨s.toArray⟩:ByteArray).size=s.length:=by simp[ByteArray.size]
 rw[run_slice_string (P:=P) wx t _ _ _ _ _ ht (by omega) (by omega) (by rw[hs];omega),zcR];simp
theorem zaE(t:TypeId)(ht:P.underlying t=some .string)(s:List UInt8)(a:Nat)(ha:a<=s.length)(wx:World):
  (Instr.slice t (.string ⟨s.toArray⟩) (some (.int .i64 (a:Nat))) none none).run P wx= .ok (.string ⟨(s.drop a).toArray⟩) wx:=by
 have hs:(⟨s.toArray⟩:ByteArray).size=s.length:=by simp[ByteArray.size]
 rw[run_slice_string_l (P:=P) wx t _ ht _ _ (by omega) (by rw[hs];omega),zcR,hs,Int.toNat_natCast,List.take_of_length_le (by rw[List.length_drop];omega)]
theorem zef(t:TypeId)(ht:P.underlying t=some .string)(s:List UInt8)(b:Nat)(hb:b<=s.length)(wx:World):
  (Instr.slice t (.string ⟨s.toArray⟩) none (some (.int .i64 (b:Nat))) none).run P wx= .ok (.string ⟨(s.take b).toArray⟩) wx:=by
 have hs:(⟨s.toArray⟩:ByteArray).size=s.length:=by simp[ByteArray.size]
 rw[run_slice_string_h (P:=P) wx t _ ht _ _ (by omega) (by rw[hs];omega),zcR,Int.toNat_natCast];simp
theorem xm(x y:List UInt8)(h:x.length+y.length<=9223372036854775807)(wx:World):
  (Op.stringOp .add ⟨x.toArray⟩ ⟨y.toArray⟩).run P wx= .ok (.string ⟨(x++y).toArray⟩) wx:=by
 have hx:(⟨x.toArray⟩:ByteArray).size=x.length:=by simp[ByteArray.size]
 have hy:(⟨y.toArray⟩:ByteArray).size=y.length:=by simp[ByteArray.size]
 have hm:¬(((x.length+y.length:Nat):Int) > IntKind.i64.max):=by
  simp[IntKind.max,IntKind.signed,IntKind.bits];omega
 simp only[Op.stringOp,hx,hy,if_neg hm];rw[Sem.run_pure]
 congr 2
end
open Go.RowKit
section
variable{P:Program}
theorem zjD(w:World)(src dst e:TypeId)(l:List UInt8)(hs:P.underlying src=some .string)(hd:P.underlying dst=some (.slice e))(he:P.underlying e=some (.int .u8)):
  ∃cap w',(convert src dst (.string ⟨l.toArray⟩)).run P w= .ok (.slice (some ⟨w.heap.size,0,none⟩) l.length cap) w'/\Sl w' (.slice (some ⟨w.heap.size,0,none⟩) l.length cap) (Lib.byteCells l)/\w'.heap.size=w.heap.size+1/\Below w.heap.size w w':=by
 have hr:=run_bytes_of_string (P:=P) w src dst e ⟨l.toArray⟩ hs hd he
 have hsz:(ByteArray.mk l.toArray).size=l.length:=by
  show l.toArray.size=l.length;simp
 rw[hsz]at hr;have hge:=grownCap_ge w l.length 0 e;have hg:=heap_alloc_new w.drew (.cells (bytesRow ⟨l.toArray⟩ (grownCap w l.length 0 e)) e ((bytesRow ⟨l.toArray⟩ (grownCap w l.length 0 e)).size,(bytesRow ⟨l.toArray⟩ (grownCap w l.length 0 e)).size+1));rw[show w.drew.heap.size=w.heap.size from rfl]at hg;refine⟨_,_,hr,⟨_,_,by rw[Lib.byteCells_length],(fun h=>by cases h),by rw[Lib.byteCells_length];exact hge,fun a ha j u hu=>?_⟩,by simp,((Below.refl _ _).drew).alloc (Nat.le_refl _) _⟩;cases ha;rw[Addr.add_lit,Nat.zero_add]
 have hj:j<l.length:=by
  have:=(List.getElem?_eq_some_iff.1 hu).1
  rwa [Lib.byteCells_length]at this
 simp only[World.cell?,hg];show(bytesRow ⟨l.toArray⟩ (grownCap w l.length 0 e))[j]? = _;rw[bytesRow,Array.getElem?_append_left (by simpa using hj),<-hu];simp[Lib.byteCells]
end
open Go.RowKit Go.Deep
section
variable{H:Type}{enc:TypeId × Value->H}{P:Program}{w:World}{base:Nat}{spare:Nat->Bool}{held:Bool}
end
def zrQ(w:World)(v:Value)(bs:List UInt8):Prop:=Sl w v (Lib.byteCells bs)/\bs.length<=maxLen
def zsj(k:IntKind)(w:World)(v:Value)(zs:List Int):Prop:=Sl w v (zs.map (Value.int k))/\zs.length<=maxLen/\∀z∈zs,(Lit.int k z).wf=true
def zrM(w:World)(v:Value)(bs:List Bool):Prop:=Sl w v (bs.map Value.bool)/\bs.length<=maxLen
open Go.RowKit Go.Deep
def SlN(size:Nat)(w:World)(v:Value)(css:List (List Value)):Prop:=
 ∃ao cap,v= .slice ao css.length cap/\(ao=none->css=[])/\css.length<=cap/\∀a,ao=some a->∀i cs,css[i]? =some cs->cs.length=size/\∀j u,cs[j]? =some u->w.cell? (a.add (i*size+j))=some u
theorem SlN.form{size:Nat}{w:World}{v:Value}{css:List (List Value)}(h:SlN size w v css):∃ao cap,v= .slice ao css.length cap:=by
 obtain⟨ao,cap,rfl,_⟩:=h;exact⟨ao,cap,rfl⟩
theorem SlN.old{size:Nat}{w w':World}{v:Value}{css:List (List Value)}(h:SlN size w v css)(hk:Below w.heap.size w w'):SlN size w' v css:=by
 obtain⟨ao,cap,rfl,hn,hcap,hc⟩:=h;refine⟨ao,cap,rfl,hn,hcap,fun a ha i cs hi=>⟨(hc a ha i cs hi).1,fun j u hu=>?_⟩⟩;have:=(hc a ha i cs hi).2 j u hu;exact(World.cell?_of_block (w:=w) (hk.block _ (World.block_lt_of_cell? w _ this))).trans this
theorem SlN.at{size:Nat}{w:World}{ao:Option Addr}{n cap:Nat}{css:List (List Value)}(h:SlN size w (.slice ao n cap) css){i:Nat}{cs:List Value}(hi:css[i]? =some cs):
  ∃a,ao=some a/\∀j u,cs[j]? =some u->w.cell? (a.add (i*size+j))=some u:=by
 obtain⟨ao',cap',hv,hn,_,hc⟩:=h;obtain⟨rfl,_,_⟩:=Value.slice.inj hv
 cases ao with
 |none=>rw[hn rfl]at hi;simp at hi
 |some a=>exact⟨a,rfl,(hc a rfl i cs hi).2⟩
theorem SlN.at'{size:Nat}{w:World}{ao:Option Addr}{n cap:Nat}{css:List (List Value)}(h:SlN size w (.slice ao n cap) css){i:Nat}{cs:List Value}(hi:css[i]? =some cs)(hp:0<cs.length):
  ∃b o,ao=some ⟨b,o,none⟩/\b<w.heap.size/\∀j u,cs[j]? =some u->w.cell? ⟨b,o+i*size+j,none⟩=some u:=by
 obtain⟨ao',cap',hv,hn,_,hall⟩:=h;obtain⟨rfl,_,_⟩:=Value.slice.inj hv
 cases ao with
 |none=>rw[hn rfl]at hi;simp at hi
 |some a=>
  obtain⟨b,o,sp⟩:=a;obtain⟨hlen,hc⟩:=hall _ rfl i cs hi;have hil:=(List.getElem?_eq_some_iff.1 hi).1;obtain⟨hlen0,hc0⟩:=hall _ rfl 0 _ (List.getElem?_eq_getElem (by omega));have h0:=hc0 0 _ (List.getElem?_eq_getElem (by omega));rw[Nat.zero_mul,Nat.add_zero,show(⟨b,o,sp⟩:Addr).add 0=⟨b,o,sp⟩from rfl]at h0;have hsp:sp=none:=World.cell?_spot h0;subst hsp
  have hadd:∀j,(⟨b,o,none⟩:Addr).add j=⟨b,o+j,none⟩:=fun j=>Addr.add_lit ..
  refine⟨b,o,rfl,World.block_lt_of_cell? w _ h0,fun j u hu=>?_⟩;have:=hc j u hu
  rwa [hadd,<-Nat.add_assoc]at this
section
variable{H:Type}{enc:TypeId × Value->H}{P:Program}{w:World}{base:Nat}{spare:Nat->Bool}{held:Bool}
theorem zqE{t e:TypeId}{size fuel:Nat}{cs:List Value}{x:DataW H × List MemPlace}(ht:P.underlying t=some (.slice e))(hc:P.cellsOf e=size)(h:DataW.trod enc P w base spare held fuel t cs=some x):
  ∃v css n,cs=[v]/\SlN size w v css/\css.length<=maxLen/\∀u∈css,∃y,DataW.trod enc P w base spare held n e u=some y:=by
 rcases open_slice ht h with⟨rfl,_⟩ |⟨a,len,cap,m,n,D,Pl,rfl,hb,hl,hm,hmm,_,hx⟩
 ·exact⟨_,[],0,rfl,⟨none,0,rfl,fun _ =>rfl,Nat.le_refl _,fun a ha=>by cases ha⟩,by simp,fun u hu=>by cases hu⟩
 ·have hlm:len<=m:=by rw[hmm];split <;> omega
  subst hc;obtain⟨F,hF⟩:=choose_lt (α:=List Value) (p:=fun i cs'=>w.cells? base (a.add (i*P.cellsOf e)) (P.cellsOf e)=some cs'/\DataW.trod enc P w base spare held n e cs'=some (D i,Pl i)) (fun i hi=>hx i hi);refine⟨_,(List.range len).map F,n,rfl,⟨some a,cap,by simp,(fun h=>by cases h),by simpa using hl,fun a' ha' i cs hi=>?_⟩,by simp;omega,fun u hu=>?_⟩
  ·cases ha'
   have hi':i<len:=by have:=(List.getElem?_eq_some_iff.1 hi).1;simpa using this
   have hcs:cs=F i:=by simpa[hi']using hi.symm
   obtain⟨h1,h2⟩:=hF i (by omega);obtain⟨_,hlen,hat⟩:=World.cells?_some h1;rw[hcs];refine⟨hlen,fun j u hu=>?_⟩;have hj:j <(F i).length:=(List.getElem?_eq_some_iff.1 hu).1;have:=hat j (by omega);rw[<-xU,this,hu]
  ·obtain⟨i,hi,rfl⟩:=List.mem_map.1 hu
   exact⟨_,(hF i (by have:=List.mem_range.1 hi;omega)).2⟩
end
end Go.Proofs.YtbnafihigoekeaaGreatDoor

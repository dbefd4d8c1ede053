/-
  TmTl, part 7.
-/
import Derived.Test.YtbnafihigoekeaaGreatDoorZt3
namespace Go.Proofs.YtbnafihigoekeaaGreatDoor
open Go.RowKit
def xE(w:World)(base:Nat)(v:Value)(es:List (Int × List UInt8)):Prop:=w.ownsRow base 153 2 v es.length (zaU es)
theorem xE.nil(w:World)(base:Nat):xE w base (.slice none 0 0) []:=World.ownsRow_nil _ _ _ _
theorem xE.slE{w:World}{base:Nat}{v:Value}{es:List (Int × List UInt8)}(h:xE w base v es):SlE w v es:=SlE.ofOwns h
theorem xE.drew{w:World}{base:Nat}{v:Value}{es:List (Int × List UInt8)}(h:xE w base v es)(n:Nat):xE (w.drewN n) base v es:=h
theorem xE.form{w:World}{base:Nat}{v:Value}{es:List (Int × List UInt8)}(h:xE w base v es):∃ao cap,v= .slice ao es.length cap:=zl h
theorem xE.old{w w':World}{base:Nat}{v:Value}{es:List (Int × List UInt8)}(h:xE w base v es)(hk:Below w.heap.size w w'):xE w' base v es:=by
 rcases h.2 with⟨rfl,h0⟩ |⟨g,cap,cur,rfl,r1,r2,r3⟩
 ·exact⟨h.1,.inl ⟨rfl,h0⟩⟩
 ·exact⟨h.1,.inr ⟨g,cap,cur,rfl,r1,(hk.block g (h.lt g rfl).2).trans r2,r3⟩⟩
theorem qZ{ops:Array Oper}{rest:List Oper}{o:Oper}{a:Act}{w:World}{Q:Exit->Act->World->Prop}(hgd:o.guard=none)(s sx:Nat)
  (ho:o.op= .call {callee:= .builtin .append,args:= #[.tmp s,.tmp sx],argTypes:= #[150,150] })
  (base:Nat) (v:Value) (es:List (Int × List UInt8)) (k:Int) (x:List UInt8) (he:a.eval (.tmp s)=v) (hown:xE w base v es)
  (hx:a.eval (.tmp sx)= .slice (some ⟨w.heap.size,0,none⟩) 1 1) (hlen:es.length<=4000000) (hbase:base<=w.heap.size)
  (h:∀v' w',xE w' base v' (es++[(k,x)])->Below base w w'->wpList Tryz.prog ops Q rest (a.put o.dst v') w'):
  wpList Tryz.prog ops Q (o::rest) a (w.alloc (.cells #[.int .i64 k,.string ⟨x.toArray⟩] 153)):=by
 obtain⟨i0,hi0,hi1,hi2,hi3⟩:=info_parts Tryz.infoEd;obtain⟨al,cl,rfl⟩:=zl hown
 have g3:es.length+1<=maxLen:=by unfold maxLen;omega
 refine yd _ hgd (.tmp s) (.tmp sx) _ _ ho base 153 i0 _ 2 24 Tryz.underlying150 hi0 hi1 hi2 hi3 rfl (by omega) _ _ _ he (hown.alloc _) _ 1 [.int .i64 k,.string ⟨x.toArray⟩] hx
  (Src.ofSlice _ Tryz.underlying150 ⟨w.heap.size,0,none⟩ 1 1 [.int .i64 k,.string ⟨x.toArray⟩] (by rfl) (World.news_of_block (cs:= #[.int .i64 k,.string ⟨x.toArray⟩]) (t:=153) (fr:=(0,0)) (heap_alloc_new w _)) (by simp[Value.oneCell'])) g3 (by omega) (by simp;omega) fun v' w' h2 h3 h4=>h v' w' ?_ ?_
 ·unfold xE
  rw[zdL,List.length_append];exact h2
 ·exact((Below.refl base w).alloc hbase _).grown h3 (by simp;omega) (fun j hj=>(hown.lt j hj).1)
structure Aside(B Z:Nat)(w0 w:World)(v:Value):Prop where
 far:∀j,v.ownBlock=some j->j<B∨Z<=j
 kept:∀b,B<=b->b<Z->w.heap[b]? =w0.heap[b]?
theorem Aside.drew{B Z:Nat}{w0 w:World}{v:Value}(h:Aside B Z w0 w v)(n:Nat):Aside B Z w0 (w.drewN n) v:=⟨h.far,h.kept⟩
theorem xp{ops:Array Oper}{rest:List Oper}{o:Oper}{a:Act}{w:World}{Q:Exit->Act->World->Prop}(hgd:o.guard=none)(s sx:Nat)
  (ho:o.op= .call {callee:= .builtin .append,args:= #[.tmp s,.tmp sx],argTypes:= #[150,150] })
  (base:Nat) (v:Value) (es:List (Int × List UInt8)) (k:Int) (x:List UInt8) (he:a.eval (.tmp s)=v) (hown:xE w base v es)
  (hx:a.eval (.tmp sx)= .slice (some ⟨w.heap.size,0,none⟩) 1 1) (hlen:es.length<=4000000) (hbase:base<=w.heap.size) (B Z:Nat) (w0:World) (hZ:Z<=w.heap.size) (hA:Aside B Z w0 w v)
  (h:∀v' w',xE w' base v' (es++[(k,x)])->Below base w w'->Aside B Z w0 w' v'->wpList Tryz.prog ops Q rest (a.put o.dst v') w'):
  wpList Tryz.prog ops Q (o::rest) a (w.alloc (.cells #[.int .i64 k,.string ⟨x.toArray⟩] 153)):=by
 obtain⟨i0,hi0,hi1,hi2,hi3⟩:=info_parts Tryz.infoEd;obtain⟨al,cl,rfl⟩:=zl hown
 have g3:es.length+1<=maxLen:=by unfold maxLen;omega
 have hs:(w.alloc (.cells #[.int .i64 k,.string ⟨x.toArray⟩] 153)).heap.size=w.heap.size+1:=by simp
 refine yd _ hgd (.tmp s) (.tmp sx) _ _ ho base 153 i0 _ 2 24 Tryz.underlying150 hi0 hi1 hi2 hi3 rfl (by omega) _ _ _ he (hown.alloc _) _ 1 [.int .i64 k,.string ⟨x.toArray⟩] hx
  (Src.ofSlice _ Tryz.underlying150 ⟨w.heap.size,0,none⟩ 1 1 [.int .i64 k,.string ⟨x.toArray⟩] (by rfl) (World.news_of_block (cs:= #[.int .i64 k,.string ⟨x.toArray⟩]) (t:=153) (fr:=(0,0)) (heap_alloc_new w _)) (by simp[Value.oneCell'])) g3 (by omega) (by omega) fun v' w' h2 h3 h4=>h v' w' ?_ ?_ ⟨fun j hj=>?_,fun b hb1 hb2=>?_⟩
 ·unfold xE
  rw[zdL,List.length_append];exact h2
 ·exact((Below.refl base w).alloc hbase _).grown h3 (by omega) (fun j hj=>(hown.lt j hj).1)
 ·rcases h4 with h4 |h4
  ·rw[h4]at hj
   exact hA.far j hj
  ·rw[h4]at hj
   cases hj;exact .inr (by omega)
 ·refine(h3.block b (by omega) fun e=>?_).trans ((Below.heap_alloc w _ b (by omega)).trans (hA.kept b hb1 hb2))
  rcases hA.far b e.symm with q |q <;> omega
end Go.Proofs.YtbnafihigoekeaaGreatDoor

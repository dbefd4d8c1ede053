/-
  TmTl, part 15.
-/
import Derived.Test.YtbnafihigoekeaaGreatDoorZt1
set_option maxHeartbeats 1000000
set_option maxRecDepth 100000
namespace Go.Proofs.YtbnafihigoekeaaGreatDoor
open Go.RowKit
section
def je(l:List Int):List Value:=l.map (Value.int .i64)
theorem zcC(l:List Int):(je l).length=l.length:=by simp[je]
theorem zgp(l m:List Int):je (l++m)=je l++je m:=by simp[je]
theorem Sl.intAt'{w:World}{ao:Option Addr}{n cap:Nat}{l:List Int}(h:Sl w (.slice ao n cap) (je l)){i:Nat}(hi:i<l.length):
  ∃a b,ao=some a/\w.cell? (a.add i)=some (.int .i64 b)/\l[i]? =some b:=Sl.elemAt' (f:=Value.int .i64) h hi
theorem Tryz.infoInt:(Tryz.prog.info? 3).map (fun i=>(i.zero,i.size,i.bytes))=some (some (.int .i64 0),1,8):=by kernel_rfl
end
section
variable{w:World}
theorem zie{o:Oper}{a:Act}{K:Act->World->Prop}{Q:Exit->Act->World->Prop}(s sx:Operand)
  (ho:o.op= .call {callee:= .builtin .append,args:= #[s,sx],argTypes:= #[75,75] })
  (base:Nat) (v:Value) (xs:List Int) (x:Int) (he:a.eval s=v) (hown:w.ownsRow base 3 1 v xs.length (je xs))
  (hx:a.eval sx= .slice (some ⟨w.heap.size,0,none⟩) 1 1) (hlen:xs.length<=4000000000) (hbase:base<=w.heap.size)
  (h:∀v' w',w'.ownsRow base 3 1 v' (xs++[x]).length (je (xs++[x]))->Below base w w'->(∀b,b<w.heap.size->v.ownBlock≠some b->w'.heap[b]? =w.heap[b]?)->K (a.put o.dst v') w'):o.wp Tryz.prog a (w.alloc (.cells #[.int .i64 x] 3)) K Q:=by
 obtain⟨i0,hi0,hi1,hi2,hi3⟩:=info_parts Tryz.infoInt
 have hz:(w.alloc (.cells #[.int .i64 x] 3)).heap.size=w.heap.size+1:=by simp
 refine jF _ s sx _ _ ho base 3 i0 _ 1 8 Tryz.underlying75 hi0 hi1 hi2 hi3 rfl (by omega) v _ _ he (hown.alloc _) _ 1 [.int .i64 x] hx
  (Src.ofSlice _ Tryz.underlying75 ⟨w.heap.size,0,none⟩ 1 1 [.int .i64 x] (by rfl) (World.news_of_block (cs:= #[.int .i64 x]) (t:=3) (fr:=(0,0)) (heap_alloc_new w _)) (by simp[Value.oneCell'])) (by unfold maxLen;omega) (by omega) (by omega) fun v' w' q1 q2 q3=>h v' w' ?_ ?_ fun b hb hne=>(q2.block b (by omega) (fun e=>hne e.symm)).trans (Below.heap_alloc w _ b hb)
 ·rw[List.length_append,zgp]
  exact q1
 ·exact((Below.refl base w).alloc hbase _).grown q2 (by omega) (fun j hj=>(hown.lt j hj).1)
theorem zbv{ops:Array Oper}{rest:List Oper}{o:Oper}{a:Act}{Q:Exit->Act->World->Prop}(hgd:o.guard=none)(s sx:Operand)
  (ho:o.op= .call {callee:= .builtin .append,args:= #[s,sx],argTypes:= #[75,75] })
  (base:Nat) (v:Value) (xs:List Int) (x:Int) (he:a.eval s=v) (hown:w.ownsRow base 3 1 v xs.length (je xs))
  (hx:a.eval sx= .slice (some ⟨w.heap.size,0,none⟩) 1 1) (hlen:xs.length<=4000000000) (hbase:base<=w.heap.size)
  (h:∀v' w',w'.ownsRow base 3 1 v' (xs++[x]).length (je (xs++[x]))->Below base w w'->(∀b,b<w.heap.size->v.ownBlock≠some b->w'.heap[b]? =w.heap[b]?)->wpList Tryz.prog ops Q rest (a.put o.dst v') w'):wpList Tryz.prog ops Q (o::rest) a (w.alloc (.cells #[.int .i64 x] 3)):=
 wpList_plain hgd fun _ hK=>zie s sx ho base v xs x he hown hx hlen hbase fun v' w' h2 h3 h4=>hK _ _ (h v' w' h2 h3 h4)
end
end Go.Proofs.YtbnafihigoekeaaGreatDoor

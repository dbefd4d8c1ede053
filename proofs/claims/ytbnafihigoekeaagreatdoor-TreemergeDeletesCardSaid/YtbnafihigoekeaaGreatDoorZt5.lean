/-
  TmTl, part 5.
-/
import Derived.Test.YtbnafihigoekeaaGreatDoorZt4
import Derived.Test.YtbnafihigoekeaaGreatDoorZt3
set_option maxRecDepth 100000
set_option maxHeartbeats 2000000
namespace Go.Proofs.YtbnafihigoekeaaGreatDoor
open Go.RowKit
attribute [local go_sem] Oper.semAt_some
def KpB(n₀ Bs:Nat)(A B:World):Prop:=Below n₀ A B/\B.heap[Bs]? =A.heap[Bs]?
theorem KpB.refl(n₀ Bs:Nat)(A:World):KpB n₀ Bs A A:=⟨Below.refl _ _,rfl⟩
theorem KpB.trans{n₀ Bs:Nat}{A B C:World}(h:KpB n₀ Bs A B)(k:KpB n₀ Bs B C):KpB n₀ Bs A C:=⟨h.1.trans k.1,k.2.trans h.2⟩
theorem KpB.put{n₀ Bs l:Nat}(W:World)(o:Obj)(h1:n₀<=l)(h2:Bs≠l)(hl:l<W.heap.size):KpB n₀ Bs W (W.putObj l o):=
 ⟨(Below.refl n₀ W).grown (grownBy_putObj' W l o) (by omega) (fun k e=>by cases e;omega),World.putObj_heap_other h2⟩
section
theorem zhy(ao:Option Addr)(n cap:Nat)(w:World):
  Calls Tryz.prog 219 #[.slice ao n cap] w fun e w'=>e= .returned (.func (.func 225) #[] #[.pointer (some ⟨w.heap.size,0,none⟩)])/\w'=w.alloc (.cells #[.slice ao n cap] 96):=by
 go_enter Tryz.func219,Tryz.ntmps219
 go_wp2
 go_ret;exact⟨rfl,rfl⟩
def zbm(a:List (List UInt8))(k:Nat):Array Value:= #[.int .i64 ((a.length-1-k:Nat):Int),.string ⟨(a[a.length-1-k]?.getD []).toArray⟩]
theorem zcQ(w1 w:World)(Bs:Nat)(va:Value)(a:List (List UInt8))(ha:Sl w1 va (zj a))(hb:Below w1.heap.size w1 w)(hBs:w.cell? ⟨Bs,0,none⟩=some va)(hn:a.length<=1000000):
  zlK Tryz.prog 225 #[.pointer (some ⟨Bs,0,none⟩)] a.length (zbm a) (KpB w1.heap.size Bs) w:=fun l J W hW hY h0=>by
 obtain⟨ao,cap,rfl⟩:=ha.form;rw[zk]at ha hBs;obtain⟨n,hn'⟩:∃n,a.length=n:=⟨_,rfl⟩;rw[hn']at ha hBs hn hY ⊢;have HA:=ze hn';have hBlt:Bs<w.heap.size:=World.block_lt_of_cell? w _ hBs;have hB1:W.cell? ⟨Bs,0,none⟩= _:=(hW.cell (p:=⟨Bs,0,none⟩) hBlt).trans hBs;have HW1:=ze (hb.trans (hW.mono hb.size):Below w1.heap.size w1 W);have HY:=ze hY;have n0:(0:Int)<=(n:Int):=Int.natCast_nonneg _;have nw:IntKind.i64.wrap ((n:Int)-1)=(n:Int)-1:=IntWalk.i64_in _ (by omega);clear hY hn' hBs hW hb;refine callsIn_of_wp Tryz.func225 rfl trivial ?_ rfl;simp only[Tryz.ntmps225,List.size_toArray,List.length_cons,List.length_nil,Nat.reduceAdd,Nat.reduceSub,Array.replicate_succ,Array.replicate_zero,List.push_toArray,List.append_toArray,List.nil_append,List.cons_append]
 gi_wp2
 gi_loopw [3] (fun i wr=>∃k:Nat,k<=n/\i= .int .i64 ((n:Int)-1-(k:Int))/\Hid (J k wr)/\Hid (KpB w1.heap.size Bs W wr)) (fun i _ =>(intOf i+1).toNat)
 case atStart=>exact⟨0,Nat.zero_le _,by simp,ze h0,ze (KpB.refl _ _ _)⟩
 case round=>
  obtain⟨k,hk,rfl,HJ,HK⟩:=hrel
  by_cases hlt:k<n
  ·obtain⟨j,hj⟩:∃j,n-1-k=j:=⟨_,rfl⟩
   rw[show(n:Int)-1-(k:Int)=(j:Int) by omega];obtain⟨fn,tmps,assign,body,hy,hR⟩:=HY.out k wr hlt HJ.out;obtain⟨a1,x,rfl,hcx,hx⟩:=(Sl.old ha (HW1.out.trans HK.out.1)).strAt' (i:=j) (by rw[HA.out];omega);rw[zbm,HA.out,hj,hx,Option.getD_some]at hy;have hB2:wr.cell? ⟨Bs,0,none⟩= _:=(World.cell?_of_block (w:=W) HK.out.2).trans hB1;have j0:(0:Int)<=(j:Int):=Int.natCast_nonneg _
   have j1:(j:Int)<(n:Int):=by omega
   have jw:IntKind.i64.wrap ((j:Int)-1)=(j:Int)-1:=IntWalk.i64_in _ (by omega);have HJ1:=ze hj;have HR:=ze hR;clear hj hx hR
   gi_wp2
   refine HR.out.mono ?_;rintro e W3 ⟨rfl,hJ3,hk3⟩;have HJ3:=ze hJ3;have HK3:=ze (HK.out.trans hk3);clear hJ3 hk3
   gi_wp2
   go_roundw
   case rel=>exact⟨k+1,by omega,by have:=HJ1.out;congr 1;omega,HJ3,HK3⟩
   case measure=>simp[intOf]
  ·obtain rfl:k=n:=by omega
   have hneg:¬(0:Int)<=(k:Int)-1-(k:Int):=by omega
   gi_wp2
   go_end0
   exact⟨⟨_,rfl⟩,HJ.out⟩
end
end Go.Proofs.YtbnafihigoekeaaGreatDoor

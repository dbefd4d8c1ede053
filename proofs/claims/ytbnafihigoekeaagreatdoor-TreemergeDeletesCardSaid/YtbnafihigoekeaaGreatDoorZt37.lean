/-
  TmTl, part 37.
-/
import Derived.Test.YtbnafihigoekeaaGreatDoorZt32
namespace Go.Proofs.YtbnafihigoekeaaGreatDoor
open Go.RowKit
abbrev yK:=List UInt8 × Int × List UInt8
def zig:Enc yK:=⟨3,by omega,fun f=>[zq f.1,.int .i64 f.2.1,zq f.2.2],fun _ =>rfl,fun f u hu=>by
 simp only[List.mem_cons,List.not_mem_nil,or_false]at hu
 rcases hu with rfl |rfl |rfl <;> rfl⟩
def zsS(f:yK):Value:= .agg #[zq f.1,.int .i64 f.2.1,zq f.2.2]
theorem Tryz.infoCla:(Tryz.prog.info? 36).map (fun i=>(i.zero,i.size,i.bytes))=some (some (.agg #[zq [],.int .i64 0,zq []]),3,40):=by kernel_rfl
abbrev zbE(w:World)(v:Value)(fs:List yK):Prop:=zy zig w v fs
abbrev jv(w:World)(base:Nat)(v:Value)(fs:List yK):Prop:=w.ownsRow base 36 3 v fs.length (zO zig fs)
theorem jv.sl{w:World}{base:Nat}{v:Value}{fs:List yK}(h:jv w base v fs):zbE w v fs:=zy.ofOwns (E:=zig) h
theorem zbE.at{w:World}{ao:Option Addr}{n cap:Nat}{fs:List yK}(h:zbE w (.slice ao n cap) fs){i:Nat}(hi:i<fs.length):
  ∃b o p x t,ao=some ⟨b,o,none⟩/\fs[i]? =some (p,x,t)/\w.cell? ⟨b,o+i*3,none⟩=some (.string ⟨List.toArray p⟩)/\w.cell? ⟨b,o+i*3+1,none⟩=some (.int .i64 x)/\w.cell? ⟨b,o+i*3+2,none⟩=some (.string ⟨List.toArray t⟩):=by
 obtain⟨b,o,⟨p,x,t⟩,ha,hx,hc⟩:=zy.at' h hi;exact⟨b,o,p,x,t,ha,hx,hc 0 _ rfl,hc 1 _ rfl,hc 2 _ rfl⟩
section
variable{w:World}
theorem ja{ops:Array Oper}{o:Oper}{a:Act}{K:Act->World->Prop}{Q:Exit->Act->World->Prop}{X:Prop}(hgd:o.guard=none)(s sx:Operand)
  (ho:o.op= .call {callee:= .builtin .append,args:= #[s,sx],argTypes:= #[29,29] })
  (base:Nat) (v:Value) (xs:List yK) (x:yK) (he:a.eval s=v) (hown:jv w base v xs) (u:Value) (hx:a.eval sx=u) (hu:zbE w u [x])
  (hlen:xs.length<=100000000) (hbase:base<=w.heap.size)
  (h:∀v' w',jv w' base v' (xs++[x])->Below base w w'->K (a.put o.dst v') w'):if Region.wanted o (yielded ops a.tmps)=true then Oper.wp Tryz.prog o a w K Q else X:=by
 obtain⟨i0,hi0,hi1,hi2,hi3⟩:=info_parts Tryz.infoCla;exact zaS (E:=zig) hgd s sx 29 36 ho Tryz.underlying29 hi0 hi1 hi2 (by rw[hi3];omega) rfl base v xs x he hown u hx hu hlen hbase h
end
theorem zre(p1 t1 p2 t2:zQ)(x1 x2:Int)(wx:World):(binOp .eql 36 (.agg #[.string ⟨p1.toArray⟩,.int .i64 x1,.string ⟨t1.toArray⟩]) (.agg #[.string ⟨p2.toArray⟩,.int .i64 x2,.string ⟨t2.toArray⟩])).run Tryz.prog wx= .ok (.bool (((p1,x1,t1):yK)==(p2,x2,t2))) wx:=by
 by_cases h1:p1=p2
 ·subst h1
  have n1:(p1==p1)=true:=by simp
  by_cases h2:x1=x2
  ·subst h2
   have n2:(x1==x1)=true:=by simp
   by_cases h3:t1=t2
   ·subst h3
    have n3:(t1==t1)=true:=by simp
    have n4:(((p1,x1,t1):yK)==(p1,x1,t1))=true:=by simp
    rw[n4]
    go_simp
   ·have n3:(t1==t2)=false:=by simpa using h3
    have n4:(((p1,x1,t1):yK)==(p1,x1,t2))=false:=by simpa using h3
    rw[n4];clear h3
    go_simp
  ·have n2:(x1==x2)=false:=by simpa using h2
   have n4:(((p1,x1,t1):yK)==(p1,x2,t2))=false:=by
    rw[beq_eq_false_iff_ne]
    exact fun e=>h2 (congrArg (fun f:yK=>f.2.1) e)
   rw[n4];clear h2
   go_simp
 ·have n1:(p1==p2)=false:=by simpa using h1
  have n4:(((p1,x1,t1):yK)==(p2,x2,t2))=false:=by
   rw[beq_eq_false_iff_ne]
   exact fun e=>h1 (congrArg Prod.fst e)
  rw[n4];clear h1
  go_simp
open Go.RowKit
section
variable{w:World}
theorem qI{ops:Array Oper}{o:Oper}{a:Act}{K:Act->World->Prop}{Q:Exit->Act->World->Prop}{X:Prop}(hgd:o.guard=none)(s sx:Operand)
  (ho:o.op= .call {callee:= .builtin .append,args:= #[s,sx],argTypes:= #[39,39] })
  (base:Nat) (v:Value) (xs ys:List jQ) (he:a.eval s=v) (hown:zcd w base v xs) (u:Value) (hx:a.eval sx=u) (hu:SlV w u ys)
  (hlen:xs.length+ys.length<=100000000) (hbase:base<=w.heap.size)
  (h:∀v' w',zcd w' base v' (xs++ys)->Below base w w'->K (a.put o.dst v') w'):if Region.wanted o (yielded ops a.tmps)=true then Oper.wp Tryz.prog o a w K Q else X:=by
 obtain⟨i0,hi0,hi1,hi2,hi3⟩:=info_parts Tryz.infoMv;exact zaV (E:=zoT) hgd s sx 39 78 ho Tryz.underlying39 hi0 hi1 hi2 (by rw[hi3];omega) rfl base v xs ys he hown u hx hu hlen hbase h
theorem jf{ops:Array Oper}{o:Oper}{a:Act}{K:Act->World->Prop}{Q:Exit->Act->World->Prop}{X:Prop}(hgd:o.guard=none)(s sx:Operand)
  (ho:o.op= .call {callee:= .builtin .append,args:= #[s,sx],argTypes:= #[29,29] })
  (base:Nat) (v:Value) (xs ys:List yK) (he:a.eval s=v) (hown:jv w base v xs) (u:Value) (hx:a.eval sx=u) (hu:zbE w u ys)
  (hlen:xs.length+ys.length<=100000000) (hbase:base<=w.heap.size)
  (h:∀v' w',jv w' base v' (xs++ys)->Below base w w'->K (a.put o.dst v') w'):if Region.wanted o (yielded ops a.tmps)=true then Oper.wp Tryz.prog o a w K Q else X:=by
 obtain⟨i0,hi0,hi1,hi2,hi3⟩:=info_parts Tryz.infoCla;exact zaV (E:=zig) hgd s sx 29 36 ho Tryz.underlying29 hi0 hi1 hi2 (by rw[hi3];omega) rfl base v xs ys he hown u hx hu hlen hbase h
theorem kL{ops:Array Oper}{o:Oper}{a:Act}{K:Act->World->Prop}{Q:Exit->Act->World->Prop}{X:Prop}(hgd:o.guard=none)(s sx:Operand)
  (ho:o.op= .call {callee:= .builtin .append,args:= #[s,sx],argTypes:= #[29,29] })
  (base:Nat) (v:Value) (xs:List yK) (x:yK) (he:a.eval s=v) (hown:jv w base v xs) (u:Value) (hx:a.eval sx=u) (hu:zbE w u [x])
  (hlen:xs.length<=100000000) (hbase:base<=w.heap.size)
  (h:∀v' w',jv w' base v' (xs++[x])->w.grownBy w' v.ownBlock->K (a.put o.dst v') w'):if Region.wanted o (yielded ops a.tmps)=true then Oper.wp Tryz.prog o a w K Q else X:=by
 obtain⟨i0,hi0,hi1,hi2,hi3⟩:=info_parts Tryz.infoCla
 refine jA w hgd s sx _ _ ho base 36 i0 _ 3 40 Tryz.underlying29 hi0 hi1 hi2 hi3 rfl (by omega) v _ _ he hown u 1 _ hx (hu.src Tryz.underlying29) (by unfold maxLen;omega) (by omega) hbase fun v' w' h2 h3 h4=>h v' w' ?_ h3
 unfold jv;rw[List.length_append,xA];exact h2
end
end Go.Proofs.YtbnafihigoekeaaGreatDoor

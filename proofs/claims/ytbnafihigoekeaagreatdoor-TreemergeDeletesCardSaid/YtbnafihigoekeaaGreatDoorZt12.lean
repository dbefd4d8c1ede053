/-
  TmTl, part 12.
-/
import Derived.Test.YtbnafihigoekeaaGreatDoorZt3
namespace Go.Proofs.YtbnafihigoekeaaGreatDoor
abbrev Hk(α:Type):=Int × List α × List α
section
variable{α:Type}
def zcv:Option (Nat × List α × List α)->Nat->List (Int × α)->List (Hk α)
 |none,_,[]=>[]
 |some (s,o,n),_,[]=>[((s:Int),o,n)]
 |none,at',(k,x)::l=>if k=1 then zcv none (at'+1) l else if k=2 then zcv (some (at',[x],[])) (at'+1) l else if k=3 then zcv (some (at',[],[x])) at' l else zcv (some (at',[],[])) at' l
 |some (s,o,n),at',(k,x)::l=>if k=1 then((s:Int),o,n)::zcv none (at'+1) l else if k=2 then zcv (some (s,o++[x],n)) (at'+1) l else if k=3 then zcv (some (s,o,n++[x])) at' l else zcv (some (s,o,n)) at' l
def zsC(l:List (Int × α)):List (Hk α):=zcv none 0 l
def zrB(h:Hk α):Bool:=decide (0<=h.1)&&decide (h.1<=2147483647)&&decide (0<h.2.1.length+h.2.2.length)
def ziZ(lo:Int):List (Hk α)->Bool
 | []=>true
 |h::t=>zrB h&&decide (lo<=h.1)&&ziZ (h.1+h.2.1.length) t
def zqx(hs:List (Hk α)):Bool:=ziZ 0 hs
def zsU(hs:List (Hk α))(i:Nat):Int:=if i=0 then 0 else match hs[i-1]? with
 |some p=>p.1+p.2.1.length
 |none=>0
def zhr(more:Int):List (Hk α)->List (Hk α)
 | []=>[]
 |h::t=>(h.1+more,h.2.2,h.2.1)::zhr (more+h.2.2.length-h.2.1.length) t
def zsr(hs:List (Hk α)):List (Hk α):=if zqx hs then zhr 0 hs else []
end
section
variable{α:Type} [DecidableEq α]
def zrz(a:List α)(h:Hk α):Bool:=decide (h.1.toNat+h.2.1.length<=a.length)&&decide ((a.drop h.1.toNat).take h.2.1.length=h.2.1)
def zir(a:List α)(at':Nat):List (Hk α)->Option (List α)
 | []=>some (a.drop at')
 |h::t=>if zrz a h then(zir a (h.1.toNat+h.2.1.length) t).map fun r=>(a.take h.1.toNat).drop at' ++(h.2.2++r)else none
def zsE(a:List α)(hs:List (Hk α)):List α × Int:=if zqx hs then(match zir a 0 hs with
 |some r=>(r,0)
 |none=>([],13))else([],1)
end
section
variable{α:Type}
def xC(l:List (Int × α)):Prop:=∀e∈l,e.1=1∨e.1=2∨e.1=3
theorem xC.tail{e:Int × α}{l:List (Int × α)}(h:xC (e::l)):xC l:=fun x hx=>h x (List.mem_cons_of_mem _ hx)
theorem xC.append{l m:List (Int × α)}(h:xC l)(k:xC m):xC (l++m):=fun e he=>(List.mem_append.1 he).elim (h e) (k e)
theorem xC.map{a:List α}{k:Int}(h:k=1∨k=2∨k=3):xC (a.map fun x=>(k,x)):=fun e he=>by
 obtain⟨x,_,rfl⟩:=List.mem_map.1 he;exact h
theorem xC.cons{e:Int × α}{l:List (Int × α)}(h:e.1=1∨e.1=2∨e.1=3)(k:xC l):xC (e::l):=fun x hx=>by
 rcases List.mem_cons.1 hx with rfl |hx
 ·exact h
 ·exact k x hx
def zsK(l:List (Int × α)):List (Int × α):=l.map fun e=>(if e.1=2 then 3 else if e.1=3 then 2 else e.1,e.2)
end
section
variable{α:Type} [DecidableEq α]
theorem zoe(a b:List α):xC (kJ a b):=by
 refine zbX (p:=fun a b=>xC (kJ a b)) (fun b=>?_) (fun a=>?_) (fun x a b ih=>?_) (fun x y a b h ih1 ih2=>?_) a b
 ·rw[kj]
  exact xC.map (.inr (.inr rfl))
 ·rw[zjo]
  exact xC.map (.inr (.inl rfl))
 ·rw[kG,if_pos rfl]
  exact ih.cons (.inl rfl)
 ·rw[kG,if_neg h]
  split
  ·exact ih1.cons (.inr (.inl rfl))
  ·exact ih2.cons (.inr (.inr rfl))
end
end Go.Proofs.YtbnafihigoekeaaGreatDoor

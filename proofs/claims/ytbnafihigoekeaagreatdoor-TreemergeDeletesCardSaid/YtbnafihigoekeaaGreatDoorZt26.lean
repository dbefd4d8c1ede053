/-
  TmTl, part 26.
-/
import Derived.Test.YtbnafihigoekeaaGreatDoorZt25
import Derived.Lib.AppendZerosOnto
set_option maxRecDepth 100000
set_option maxHeartbeats 4000000
namespace Go.Proofs.YtbnafihigoekeaaGreatDoor
open Go.RowKit
section
def jD(l:List zg)(p:zQ):Bool:=l.any fun f=>yS f.1 p
def zas(f:zg):Nat:=if yZ f.1=true then(if f.2.2.length<=20000 then 0 else 6)else 11
theorem zli(p:zQ)(w:World):
  Calls Tryz.prog 69 #[zq p] w fun e w'=>e= .returned (.bool (yZ p))/\Below w.heap.size w w':=by
 by_cases hn:p.length<=100
 ·exact zlx p w (by omega)
 ·have p2:decide (100 <(p.length:Int))=true:=decide_eq_true (by omega)
  have p4:decide (100<p.length)=true:=decide_eq_true (by omega);have HY:=ze (show yZ p=false by unfold yZ;rw[decide_eq_false (fun h=>hn h.2)];rfl);clear hn;unfold zq
  go_enter Tryz.func69,Tryz.ntmps69
  go_wp2_with fail;go_ret;exact⟨by rw[HY.out];rfl,Below.refl _ _⟩
theorem zmP(f:zg)(w:World):
  Calls Tryz.prog 47 #[ye f] w fun e w'=>e= .returned (.int .i64 (zas f))/\Below w.heap.size w w':=by
 obtain⟨q,x,t⟩:=f;have HB:=ze ((Below.refl _ w).alloc (Nat.le_refl w.heap.size) (.cells #[.string ⟨q.toArray⟩,.bool x,.string ⟨t.toArray⟩] 28));have HC:=ze (fun wy=>zli q wy);have HG:=ze (fun(wy:World) (h:Below (w.alloc (.cells #[.string ⟨q.toArray⟩,.bool x,.string ⟨t.toArray⟩] 28)).heap.size (w.alloc (.cells #[.string ⟨q.toArray⟩,.bool x,.string ⟨t.toArray⟩] 28)) wy)=>zf h (zd (i:=2) (heap_alloc_new w _) rfl));obtain⟨r,hr⟩:∃r,yZ q=r:=⟨_,rfl⟩;rw[hr]at HC;unfold zq at HC;unfold ye zq
 cases r with
 |false=>
  have HD:=ze (show zas (q,x,t)=11 by unfold zas;rw[hr];rfl);clear hr
  go_enter Tryz.func47,Tryz.ntmps47
  go_wp2_with (go_at_call 69;refine(HC.out _).mono ?_;rintro e w1 ⟨rfl,hb1⟩;have HB1:=ze (zi HB.out hb1 HB.out.size);clear hb1)
  go_ret;exact⟨by rw[HD.out];rfl,HB1.out⟩
 |true=>
  by_cases ht:t.length<=20000
  ·have t1:decide (20000 <(t.length:Int))=false:=decide_eq_false (by omega)
   have t2:decide (20000<t.length)=false:=decide_eq_false (by omega);have HD:=ze (show zas (q,x,t)=0 by unfold zas;rw[hr,if_pos rfl,if_pos ht]);clear hr ht
   go_enter Tryz.func47,Tryz.ntmps47
   go_wp2_with (go_at_call 69;refine(HC.out _).mono ?_;rintro e w1 ⟨rfl,hb1⟩;have c2:=HG.out _ hb1;have HB1:=ze (zi HB.out hb1 HB.out.size);clear hb1)
   go_ret;exact⟨by rw[HD.out];rfl,HB1.out⟩
  ·have t1:decide (20000 <(t.length:Int))=true:=decide_eq_true (by omega)
   have t2:decide (20000<t.length)=true:=decide_eq_true (by omega);have HD:=ze (show zas (q,x,t)=6 by unfold zas;rw[hr,if_pos rfl,if_neg ht]);clear hr ht
   go_enter Tryz.func47,Tryz.ntmps47
   go_wp2_with (go_at_call 69;refine(HC.out _).mono ?_;rintro e w1 ⟨rfl,hb1⟩;have c2:=HG.out _ hb1;have HB1:=ze (zi HB.out hb1 HB.out.size);clear hb1)
   go_ret;exact⟨by rw[HD.out];rfl,HB1.out⟩
end
open Go.RowKit
section
def zrG:List (Value × List zg)->Nat
 | []=>0
 |x::r=>x.2.length+zrG r
def zsT(ps:List (Value × List zg)):List zg:=ps.flatMap (·.2)
end
open Go.RowKit
open BigFrame
section
theorem qV{f:zg}(h:jW f=true):f.1.length<=1000000:=by
 unfold jW yZ at h;simp only[Bool.and_eq_true,decide_eq_true_eq]at h;omega
end
open Go.RowKit
theorem zhd(p1 t1 p2 t2:zQ)(x1 x2:Bool)(wx:World):(binOp .eql 28 (.agg #[.string ⟨p1.toArray⟩,.bool x1,.string ⟨t1.toArray⟩]) (.agg #[.string ⟨p2.toArray⟩,.bool x2,.string ⟨t2.toArray⟩])).run Tryz.prog wx= .ok (.bool (((p1,x1,t1):zg)==(p2,x2,t2))) wx:=by
 by_cases h1:p1=p2
 ·subst h1
  have n1:(p1==p1)=true:=by simp
  by_cases h2:x1=x2
  ·subst h2
   have n2:(x1==x1)=true:=by simp
   by_cases h3:t1=t2
   ·subst h3
    have n3:(t1==t1)=true:=by simp
    have n4:(((p1,x1,t1):zg)==(p1,x1,t1))=true:=by simp
    rw[n4]
    go_simp
   ·have n3:(t1==t2)=false:=by simpa using h3
    have n4:(((p1,x1,t1):zg)==(p1,x1,t2))=false:=by simpa using h3
    rw[n4];clear h3
    go_simp
  ·have n2:(x1==x2)=false:=by simpa using h2
   have n4:(((p1,x1,t1):zg)==(p1,x2,t2))=false:=by
    rw[beq_eq_false_iff_ne]
    exact fun e=>h2 (congrArg (fun f:zg=>f.2.1) e)
   rw[n4];clear h2
   go_simp
 ·have n1:(p1==p2)=false:=by simpa using h1
  have n4:(((p1,x1,t1):zg)==(p2,x2,t2))=false:=by
   rw[beq_eq_false_iff_ne]
   exact fun e=>h1 (congrArg Prod.fst e)
  rw[n4];clear h1
  go_simp
theorem zho(p1 t1 p2 t2:zQ)(x1 x2:Bool)(wx:World):(binOp .neq 28 (.agg #[.string ⟨p1.toArray⟩,.bool x1,.string ⟨t1.toArray⟩]) (.agg #[.string ⟨p2.toArray⟩,.bool x2,.string ⟨t2.toArray⟩])).run Tryz.prog wx= .ok (.bool (((p1,x1,t1):zg) !=(p2,x2,t2))) wx:=by
 by_cases h1:p1=p2
 ·subst h1
  have n1:(p1==p1)=true:=by simp
  by_cases h2:x1=x2
  ·subst h2
   have n2:(x1==x1)=true:=by simp
   by_cases h3:t1=t2
   ·subst h3
    have n3:(t1==t1)=true:=by simp
    have n4:(((p1,x1,t1):zg) !=(p1,x1,t1))=false:=by simp
    rw[n4]
    go_simp
   ·have n3:(t1==t2)=false:=by simpa using h3
    have n4:(((p1,x1,t1):zg) !=(p1,x1,t2))=true:=by simpa using h3
    rw[n4];clear h3
    go_simp
  ·have n2:(x1==x2)=false:=by simpa using h2
   have n4:(((p1,x1,t1):zg) !=(p1,x2,t2))=true:=by
    rw[bne_iff_ne]
    exact fun e=>h2 (congrArg (fun f:zg=>f.2.1) e)
   rw[n4];clear h2
   go_simp
 ·have n1:(p1==p2)=false:=by simpa using h1
  have n4:(((p1,x1,t1):zg) !=(p2,x2,t2))=true:=by
   rw[bne_iff_ne]
   exact fun e=>h1 (congrArg Prod.fst e)
  rw[n4];clear h1
  go_simp
open Go.RowKit
theorem Tryz.laidOutT:laidOutB Tryz.prog=true:=by kernel_rfl
theorem Tryz.rowKey:(114:TypeId)< Tryz.prog.types.size:=of_decide_eq_true (by kernel_rfl)
theorem Tryz.wideKey:(match Tryz.prog.underlying 114 with |some (.array _ _) |some (.struct _)=>true | _ =>false)=true:=by rw[Tryz.underlying114]
theorem Tryz.keyLaw:Maps.Keyed Tryz.prog 114:=Maps.Keyed.of_law (deep_law_laid Tryz.laidOutT (m:=3) (by omega) Tryz.rowKey (by kernel_rfl) Tryz.wideKey)
theorem Tryz.zeroPlace(w:World):(zeroValue 111).run Tryz.prog w= .ok (.int .u32 0) w:=by kernel_rfl
def zfr(p:zQ):Lit:= .string (keyBytes [.string p])
theorem zjx{p:zQ}(hp:p.length<=maxLen):keyOf Tryz.prog 114 (.agg #[zq p])=some (zfr p):=by
 have hk:Tryz.prog.keyType 114=true:=by kernel_rfl
 have hc:Tryz.prog.cellsOf 114=1:=by kernel_rfl
 have hc1:Tryz.prog.cellsOf 9=1:=by kernel_rfl
 obtain⟨n,hn⟩:∃n,Tryz.prog.types.size+1=n+2:=⟨Tryz.prog.types.size-1,by have h:114<Tryz.prog.types.size:=Tryz.rowKey;omega⟩
 have hsz:(ByteArray.mk p.toArray).size<=maxLen:=by
  show p.toArray.size<=maxLen;simpa using hp
 unfold keyOf;rw[Tryz.underlying114,hk,hn];simp[Value.formed,Tryz.underlying114,hc,Value.cells,Program.keyLits,hc1,Tryz.underlying9,zfr,zq,hsz]
theorem zpZ{p q:zQ}(hp:p.length<=maxLen)(hq:q.length<=maxLen)(h:zfr p=zfr q):p=q:=by
 have:=Tryz.keyLaw.inj (zjx hp) (h ▸ zjx hq);simpa[zq]using this
theorem zpV(p:zQ):WideAt.IsKeyLit (zfr p):=trivial
abbrev MTk:=DataW Unit
def zmc(i:Nat):MTk:= .lit (.int .u32 i)
def zcI(l:List zQ)(p:zQ):Option Nat:=l.findIdx? (· ==p)
theorem zks(l:List zQ)(q p:zQ):zcI (l++[q]) p=match zcI l p with |some i=>some i |none=>if q=p then some l.length else none:=by
 unfold zcI;rw[List.findIdx?_append]
 cases h:List.findIdx? (· ==p) l with
 |some i=>simp
 |none=>
  by_cases e:q=p
  ·simp[e,List.findIdx?_cons]
  ·simp[e,List.findIdx?_cons]
theorem zry(l:List zQ)(p:zQ):(zcI l p).isSome=inS l p:=by
 unfold zcI inS;rw[List.findIdx?_isSome]
def zbB(D:MTk)(l:List zQ):Prop:=∀p:zQ,p.length<=maxLen->Maps.has D (zfr p)=(zcI l p).isSome/\∀i,zcI l p=some i->∀z,D.atKey (zfr p) z= .lit (.int .u32 (i:Int))
theorem zoy:zbB (.map []) []:=fun p _ =>⟨rfl,fun i h=>by simp[zcI]at h⟩
theorem zmu{D:MTk}{l:List zQ}{q:zQ}(h:zbB D l)(hs:(zcI l q).isSome=true):zbB D (l++[q]):=by
 intro p hp;obtain⟨h1,h2⟩:=h p hp;rw[zks]
 cases hi:zcI l p with
 |some i=>
  rw[hi]at h1 h2;exact⟨h1,fun j hj=>h2 j hj⟩
 |none=>
  have:q≠p:=fun e=>by rw[e,hi]at hs;cases hs
  simp only[this,if_false];rw[hi]at h1;exact⟨h1,fun j hj=>by cases hj⟩
theorem zoI{D:MTk}{l:List zQ}{q:zQ}(hD:Maps.IsMap D)(hq:q.length<=maxLen)(h:zbB D l)(hs:(zcI l q).isSome=false):zbB (D.put (zfr q) (zmc l.length)) (l++[q]):=by
 intro p hp;obtain⟨h1,h2⟩:=h p hp;rw[zks]
 have hqn:zcI l q=none:=by
  cases e:zcI l q with
  |none=>rfl
  |some i=>rw[e]at hs;cases hs
 by_cases e:q=p
 ·subst e
  rw[hqn];simp only[if_true];refine⟨(Maps.has_put_same hD (zpV q) _).trans rfl,fun i hi z=>?_⟩;cases hi;exact Maps.atKey_put_same hD (zpV q) _ z
 ·have hne:zfr p≠zfr q:=fun e'=>e (zpZ hp hq e').symm
  rw[Maps.has_put_other hne]
  cases hi:zcI l p with
  |some i=>
   rw[hi]at h1 h2;refine⟨h1,fun j hj z=>?_⟩;rw[Maps.atKey_put_other hne];exact h2 j hj z
  |none=>
   simp only[e,if_false];rw[hi]at h1;exact⟨h1,fun j hj=>by cases hj⟩
abbrev zlt(w:World)(b n:Nat)(D:MTk):Prop:=w.ownsMap Tryz.prog 114 (plainElem Tryz.prog 111) b n D
theorem zlt.old{w w':World}{b n:Nat}{D:MTk}(h:zlt w b n D)(hk:Below w.heap.size w w'):zlt w' b n D:=World.ownsMap.kept h (⟨hk.os,hk.tape,hk.output,hk.size,fun k hk' _ =>hk.block k hk'⟩:w.grownBy w' none) (by simp)
def zqX(w:World)(g:Nat)(l:List zQ):Prop:=∃n D,zlt w g n D/\zbB D l
theorem zqX.old{w w':World}{g:Nat}{l:List zQ}(h:zqX w g l)(hk:Below w.heap.size w w'):zqX w' g l:=by
 obtain⟨n,D,h1,h2⟩:=h;exact⟨n,D,h1.old hk,h2⟩
theorem znX(w:World)(g:Nat)(hg:w.heap.size=g):zlt (w.alloc (.map #[] 0)) g 0 (.map []):=hg ▸ World.ownsMap_made w _ _ _
theorem kQ{ops:Array Oper}{rest:List Oper}{o:Oper}{a:Act}{w:World}{Q:Exit->Act->World->Prop}(hg:o.guard=none)(m x:Operand)(hop:o.op=Op.lookup 107 m x true)
  (b n:Nat) (D:MTk) (l:List zQ) (p:zQ) (hm:a.eval m= .map (some b)) (hown:zlt w b n D) (hs:zbB D l) (hp:p.length<=maxLen) (hx:a.eval x= .agg #[zq p]) (r:Bool) (hr:(zcI l p).isSome=r)
  (hK:∀c:Int,(∀i,zcI l p=some i->c=(i:Int))->wpList Tryz.prog ops Q rest (a.put o.dst (.tuple #[.int .u32 c,.bool r])) w):wpList Tryz.prog ops Q (o::rest) a w:=by
 refine wpList_lookup_own_ok_int w hg m x 107 hop 114 111 .u32 Tryz.keyLaw Tryz.underlying107 Tryz.underlying111 (Tryz.zeroPlace _) b n D hm hown _ (zfr p) hx (zjx hp) fun c hat _ =>?_
 obtain⟨h1,h2⟩:=hs p hp;rw[h1,hr]
 refine hK c fun i hi=>?_
 have:=(h2 i hi (.lit (.int .u32 0))).symm.trans hat;simpa using this.symm
section
theorem zjQ(v:Value)(l:List zg)(w:World)(hv:yM w v l)(hl:l.length<=100000):
  Calls Tryz.prog 71 #[v] w fun e w'=>∃u,e= .returned u/\zcu w' w.heap.size u (l.map (·.1))/\Below w.heap.size w w':=by
 obtain⟨ao,cap,rfl⟩:=hv.form;have HV:=ze hv;have HL:=ze hl;clear hv hl
 go_enter Tryz.func71,Tryz.ntmps71
 go_wp2_with fail
 go_loopg [3,5,8] l.length (fun g r _ i wr=>∃k:Nat,k<=l.length/\l.length-k=g/\i= .int .i64 k/\Hid (zcu wr w.heap.size r ((l.take k).map (·.1)))/\Hid (Below w.heap.size w wr))
 case atStart=>exact⟨0,Nat.zero_le _,rfl,rfl,ze (World.ownsRow_nil _ _ _ _),ze (Below.refl _ _)⟩
 case round=>
  obtain⟨k,hk,rfl,rfl,HO,HB⟩:=hrel;have k0:(0:Int)<=(k:Int):=Int.natCast_nonneg _;obtain⟨no,nc,rfl⟩:=zl HO.out
  by_cases hlt:k<l.length
  ·have k1:(k:Int)<(l.length:Int):=by omega
   have kw:IntKind.i64.wrap ((k:Int)+1)=(k:Int)+1:=IntWalk.i64_in _ (by have:=HL.out;omega);obtain⟨b,o,p2,x2,t2,rfl,he,c1,c2,c3⟩:=yM.at (HV.out.old HB.out) hlt;have HT:=ze (show(l.take (k+1)).map (·.1)=(l.take k).map (·.1)++[p2] by rw[List.take_add_one,he];simp);have HLN:=ze (show((l.take k).map (·.1)).length<=100000000 by have:=HL.out;simp;omega);obtain⟨X,hX⟩:∃X,(l.take k).map (·.1)=X:=⟨_,rfl⟩;rw[hX]at HO HT HLN;rw[hX];clear he hX;have hz:=HB.out.size;have HB1:=ze (HB.out.alloc hz (.cells #[.string ⟨p2.toArray⟩,.bool x2,.string ⟨t2.toArray⟩] 28))
   go_wp2_with (at_builtin;refine zbI rfl (.tmp 12) (.tmp 15) rfl w.heap.size _ X p2 rfl (HO.out.alloc _) (wr.heap.size+1) rfl (by simp) HLN.out (Nat.le_trans hz (by simp)) ?_;intro v5 w5 hO5 hb5;have HO5:=ze hO5;have HB5:=ze (HB1.out.trans hb5);clear hO5 hb5)
   go_roundg (l.length-(k+1))
   case measure=>omega
   case rel=>exact⟨k+1,by omega,rfl,by go_num,by rw[HT.out];exact HO5,HB5⟩
  ·obtain rfl:k=l.length:=by omega
   have hneg:¬(l.length:Int)<(l.length:Int):=by omega
   rw[List.take_length]at HO ⊢;obtain⟨X,hX⟩:∃X,l.map (·.1)=X:=⟨_,rfl⟩;have HX:=ze hX;rw[hX]at HO ⊢;clear hX;go_wp2_with fail;go_ret;rw[HX.out];exact⟨_,rfl,HO.out,HB.out⟩
theorem zly(v:Value)(l:List zQ)(w:World)(hv:SlT w v l)(hl:l.length<=1000000)(hp:∀p∈l,p.length<=maxLen):
  Calls Tryz.prog 70 #[v] w fun e w'=>∃g,e= .returned (.map (some g))/\w.heap.size<=g/\zqX w' g l/\Below w.heap.size w w':=by
 obtain⟨ao,cap,rfl⟩:=hv.form;have HV:=ze hv;have HL:=ze hl;have HP:=ze hp;clear hv hl hp
 go_enter Tryz.func70,Tryz.ntmps70
 have hmm:∀ (wx:World) (n:Int),(Instr.makeMap 107 (some (.int .i64 n))).run Tryz.prog wx= .ok (.map (some wx.heap.size)) (wx.alloc (.map #[] 0)):=fun wx n=>by
  simp[Instr.makeMap,run_underlying Tryz.underlying107,asInt,asIntOf,Result.andThen]
 go_wp2_with fail;have HM:=ze (znX w w.heap.size rfl);have HB0:=ze ((Below.refl _ w).alloc (Nat.le_refl w.heap.size) (.map #[] 0));obtain⟨g,hg⟩:∃g,w.heap.size=g:=⟨_,rfl⟩;have HG:=ze hg;rw[hg]at HM ⊢;generalize w.alloc (.map #[] 0)=W at HM HB0 ⊢;clear hg hmm
 go_loopg [4,5,6,7,8,14] l.length (fun gk _ _ _ _ _ i wr=>∃ (k n:Nat) (D:MTk),k<=l.length/\l.length-k=gk/\i= .int .i64 k/\n<=k/\Hid (zlt wr g n D)/\Hid (zbB D (l.take k))/\Hid (Below w.heap.size w wr))
 case atStart=>exact⟨0,0,_,Nat.zero_le _,rfl,rfl,Nat.le_refl _,HM,ze zoy,HB0⟩
 case round=>
  obtain⟨k,n,D,hk,rfl,rfl,hnk,HO,HS,HB⟩:=hrel;have k0:(0:Int)<=(k:Int):=Int.natCast_nonneg _
  by_cases hlt:k<l.length
  ·have k1:(k:Int)<(l.length:Int):=by omega
   have kw:IntKind.i64.wrap ((k:Int)+1)=(k:Int)+1:=IntWalk.i64_in _ (by have:=HL.out;omega)
   have ku:IntKind.u32.wrap (k:Int)=(k:Int):=by have:=HL.out;simp[IntKind.wrap,IntKind.bits,IntKind.signed];omega
   obtain⟨b,o,p,rfl,he,c1⟩:=SlT.at (HV.out.old HB.out) hlt
   have ht:l.take (k+1)=l.take k++[p]:=by rw[List.take_add_one,he];rfl
   have hpl:=HP.out p (List.mem_iff_getElem?.2 ⟨k,he⟩);have HPL:=ze hpl;have HKEY:=ze (zjx hpl);have HT:=ze ht;have HSH:=ze (HS.out p hpl);have HLK:=ze (show(l.take k).length=k by rw[List.length_take];omega);clear he ht hpl;have hz:=HB.out.size;have HA:=ze (HB.out.alloc hz (.cells #[.string ⟨p.toArray⟩] 114));obtain⟨is,his⟩:∃z,(zcI (l.take k) p).isSome=z:=⟨_,rfl⟩;have HIS:=ze his;clear his
   cases is with
   |true=>
    have HS2:=ze (show zbB D (l.take (k+1)) by rw[HT.out];exact zmu HS.out HIS.out)
    go_wp2_with (at_lookup;refine kQ rfl (.tmp 22) (.tmp 23) rfl g n D (l.take k) p rfl (HO.out.alloc _) HS.out HPL.out rfl true HIS.out ?_;intro c hc;clear hc)
    go_roundg (l.length-(k+1))
    case measure=>omega
    case rel=>exact⟨k+1,n,D,by omega,rfl,by go_num,by omega,ze (HO.out.alloc _),HS2,HA⟩
   |false=>
    have HWF:=ze (show(Lit.int .u32 (k:Int)).wf=true by have:=HL.out;simp[Lit.wf,IntKind.min,IntKind.max,IntKind.signed,IntKind.bits];omega);have HN:=ze (show n<maxLen by have:=HL.out;unfold maxLen;omega)
    go_wp2_with (first
     |(at_lookup;refine kQ rfl (.tmp 22) (.tmp 23) rfl g n D (l.take k) p rfl (HO.out.alloc _) HS.out HPL.out rfl false HIS.out ?_;intro c hc;clear hc)
     |(at_mapUpdate;refine wpList_mapUpdate_own _ rfl (.tmp 29) (.tmp 30) (.tmp 32) 107 rfl 114 111 Tryz.keyLaw Tryz.underlying107 _ g n D rfl (HO.out.alloc _) HN.out _ _ (zfr p) rfl rfl HKEY.out (zmc k) [] (plainElem_int Tryz.underlying111 HWF.out) ?_;intro w1 hown1 hgrow1;have HO1:=ze hown1;have HG1:=ze hgrow1;clear hown1 hgrow1))
    have HS2:=ze (show zbB (D.put (zfr p) (zmc k)) (l.take (k+1)) by
     have:=zoI (World.ownsMap.isMap HO.out) HPL.out HS.out HIS.out;rw[HLK.out]at this
     rw[HT.out];exact this)
    have HB1:=ze (HA.out.grown HG1.out HA.out.size (fun j hj=>by cases hj;exact Nat.le_of_eq HG.out))
    go_roundg (l.length-(k+1))
    case measure=>omega
    case rel=>exact⟨k+1,n+1,_,by omega,rfl,by go_num,by omega,HO1,HS2,HB1⟩
  ·obtain rfl:k=l.length:=by omega
   have hneg:¬(l.length:Int)<(l.length:Int):=by omega
   rw[List.take_length]at HS;go_wp2_with fail;go_ret;exact⟨g,rfl,by rw[HG.out];exact Nat.le_refl _,⟨n,D,HO.out,HS.out⟩,HB.out⟩
end
open Go.RowKit
open BigFrame
section
theorem zjR(p:zQ)(w:World)(hl:p.length<=1000000):
  Calls Tryz.prog 72 #[zq p] w fun e w'=>∃u,e= .returned u/\zcu w' w.heap.size u (xH p)/\Below w.heap.size w w':=by
 have HL:=ze hl;obtain⟨cap,wc,hcv,hsc,hzc,hbc⟩:=zjD (P:=Tryz.prog) w 9 133 5 p Tryz.underlying9 Tryz.underlying133 Tryz.underlying5;have HS:=ze hsc;have HBC:=ze hbc;have HST:=ze (fun(k:Nat) (h:k<=p.length) (wx:World)=>zef (P:=Tryz.prog) 9 Tryz.underlying9 p k h wx);clear hsc hbc hl;unfold zq
 go_enter Tryz.func72,Tryz.ntmps72
 go_wp2_with fail
 go_loopg [3,4,5,9] p.length (fun g r _ _ i wr=>∃k:Nat,k<=p.length/\p.length-k=g/\i= .int .i64 k/\Hid (zcu wr wc.heap.size r (zaW p k))/\Hid (Below wc.heap.size wc wr))
 case atStart=>exact⟨0,Nat.zero_le _,rfl,rfl,ze (World.ownsRow_nil _ _ _ _),ze (Below.refl _ _)⟩
 case round=>
  obtain⟨k,hk,rfl,rfl,HO,HB⟩:=hrel;have k0:(0:Int)<=(k:Int):=Int.natCast_nonneg _;have HFL:=ze (zja p k);obtain⟨X,hX⟩:∃X,zaW p k=X:=⟨_,rfl⟩;have HX:=ze hX;rw[hX]at HO HFL;clear hX;obtain⟨no,nc,rfl⟩:=zl HO.out
  by_cases hlt:k<p.length
  ·have k1:(k:Int)<(p.length:Int):=by omega
   have kw:IntKind.i64.wrap ((k:Int)+1)=(k:Int)+1:=IntWalk.i64_in _ (by have:=HL.out;omega);obtain⟨a,c,hae,hcell,hc⟩:=(HS.out.old HB.out).byteAt' (i:=k) hlt;cases hae;rw[Addr.add_lit,Nat.zero_add]at hcell
   by_cases h47:c=47
   ·subst h47
    have HF:=ze (show zaW p (k+1)=X++[p.take k] by rw[zaW,if_pos hc,HX.out]);have hst:=HST.out k hk;have hz:wc.heap.size<=wr.heap.size:=HB.out.size;have HLN:=ze (show X.length<=100000000 by have:=HL.out;have:=HFL.out;omega);clear hc
    go_wp2_with (at_builtin;refine zbI rfl (.tmp 16) (.tmp 20) rfl wc.heap.size _ X (p.take k) rfl HO.out wr.heap.size rfl rfl HLN.out hz ?_;intro v5 w5 hO5 hb5;have HO5:=ze hO5;have HB5:=ze (HB.out.trans hb5);clear hO5 hb5)
    go_roundg (p.length-(k+1))
    case measure=>omega
    case rel=>exact⟨k+1,by omega,rfl,by go_num,by rw[HF.out];exact HO5,HB5⟩
   ·have HF:=ze (show zaW p (k+1)=X by
     rw[zaW,if_neg,HX.out];rw[hc];intro e;cases e
     exact h47 rfl)
    have b1:(((c.toNat:Nat):Int)==47)=false:=beq_false_of_ne fun e=>h47 (UInt8.toNat_inj.1 (by rw[show(47:UInt8).toNat=47 from rfl];omega))
    have b2:(c.toNat==47)=false:=beq_false_of_ne fun e=>h47 (UInt8.toNat_inj.1 (by rw[show(47:UInt8).toNat=47 from rfl];omega))
    clear hc h47;go_wp2_with fail
    go_roundg (p.length-(k+1))
    case measure=>omega
    case rel=>exact⟨k+1,by omega,rfl,by go_num,by rw[HF.out];exact HO,HB⟩
  ·obtain rfl:k=p.length:=by omega
   have hneg:¬(p.length:Int)<(p.length:Int):=by omega
   go_wp2_with fail;go_ret;refine⟨_,rfl,?_,HBC.out.trans (HB.out.mono HBC.out.size)⟩;unfold xH;rw[HX.out];exact zY HO.out HBC.out.size
theorem zkF(v:Value)(l:List zg)(w:World)(hv:yM w v l)(hl:l.length<=100000)(hp:∀f∈l,f.1.length<=1000000):
  Calls Tryz.prog 48 #[v] w fun e w'=>e= .returned (.bool (ki l))/\Below w.heap.size w w':=by
 obtain⟨ao,cap,rfl⟩:=hv.form;have HV:=ze hv;have HL:=ze hl;have HP:=ze hp;have HPO:=ze (zjQ _ l w hv hl)
 have HPL:=ze (fun(u:Value) (wy:World) (h:SlT wy u (l.map (·.1)))=>zly u (l.map (·.1)) wy h (by rw[List.length_map];omega) (fun p hp'=>by
  obtain⟨f,hf,rfl⟩:=List.mem_map.1 hp';have:=hp f hf;unfold maxLen
  omega))
 clear hv hl hp
 go_enter Tryz.func48,Tryz.ntmps48
 go_wp2_with (first
  |(go_at_call 71;refine HPO.out.mono ?_;rintro e w1 ⟨u1,rfl,ho1,hb1⟩;have HO1:=ze ho1.sl;have HB1:=ze hb1;clear ho1 hb1)
  |(go_at_call 70;refine(HPL.out _ _ HO1.out).mono ?_;rintro e w2 ⟨g,rfl,hg,hm,hb2⟩;obtain⟨mn,mD,hm1,hm2⟩:=hm;have HM:=ze hm1;have HSH:=ze hm2;have HB2:=ze (zi HB1.out hb2 HB1.out.size);clear hg hm1 hm2 hb2))
 go_loopg [15] l.length (fun gk i wr=>∃k:Nat,k<=l.length/\l.length-k=gk/\i= .int .i64 k/\Hid (ki l=(l.drop k).any fun f=>(xH f.1).any fun d=>inS (l.map (·.1)) d)/\Hid (Below w2.heap.size w2 wr))
 case atStart=>exact⟨0,Nat.zero_le _,rfl,rfl,ze (by rw[List.drop_zero];rfl),ze (Below.refl _ _)⟩
 case round=>
  obtain⟨k,hk,rfl,rfl,HA,HB⟩:=hrel;have k0:(0:Int)<=(k:Int):=Int.natCast_nonneg _
  by_cases hlt:k<l.length
  ·have k1:(k:Int)<(l.length:Int):=by omega
   have kw:IntKind.i64.wrap ((k:Int)+1)=(k:Int)+1:=IntWalk.i64_in _ (by have:=HL.out;omega);obtain⟨b,o,p,x,t,rfl,he,c1,c2,c3⟩:=yM.at (HV.out.old (zi HB2.out HB.out HB2.out.size)) hlt;have hd:=yP he;have hpl:=HP.out _ (List.mem_iff_getElem?.2 ⟨k,he⟩);have HFD:=ze (fun(wy:World)=>zjR p wy hpl);have HX:=ze (show ki l=(((xH p).any fun d=>inS (l.map (·.1)) d) ||(l.drop (k+1)).any fun f=>(xH f.1).any fun d=>inS (l.map (·.1)) d) by rw[HA.out,hd];rfl)
   have HDL:=ze (show ∀d∈xH p,d.length<=maxLen from fun d hd'=>by
    have h:=(zdp p d).1 ((zcZ p d).1 hd');obtain⟨r,hr⟩:=h;rw[hr]at hpl;simp at hpl;unfold maxLen
    omega)
   have HFL:=ze (show(xH p).length<=1000000 from Nat.le_trans (zja p p.length) hpl);have HBA:=ze (HB.out.alloc HB.out.size (.cells #[.string ⟨p.toArray⟩,.bool x,.string ⟨t.toArray⟩] 28));obtain⟨F,hF⟩:∃F,xH p=F:=⟨_,rfl⟩;rw[hF]at HFD HX HDL HFL;unfold zq at HFD;clear he hd hpl hF HA
   go_wp2_with (go_at_call 72;refine(HFD.out _).mono ?_;rintro e w3 ⟨u3,rfl,ho3,hb3⟩;obtain⟨fo,fc,rfl⟩:=ho3.sl.form;have HO3:=ze ho3.sl;have HB3:=ze (zi HBA.out hb3 HBA.out.size);clear ho3 hb3)
   go_loopg [23] F.length (fun gj i wy=>∃j:Nat,j<=F.length/\F.length-j=gj/\i= .int .i64 j/\Hid (ki l=(((F.drop j).any fun d=>inS (l.map (·.1)) d) ||(l.drop (k+1)).any fun f=>(xH f.1).any fun d=>inS (l.map (·.1)) d))/\w3=wy)
   case atStart=>exact⟨0,Nat.zero_le _,rfl,rfl,HX,rfl⟩
   case round=>
    obtain⟨j,hj,rfl,rfl,HY,rfl⟩:=hrel;have j0:(0:Int)<=(j:Int):=Int.natCast_nonneg _
    by_cases hlj:j<F.length
    ·have j1:(j:Int)<(F.length:Int):=by omega
     have jw:IntKind.i64.wrap ((j:Int)+1)=(j:Int)+1:=IntWalk.i64_in _ (by have:=HFL.out;omega);obtain⟨b2,o2,d,rfl,hde,cd⟩:=SlT.at HO3.out hlj;have hdd:=yP hde;have HDE:=ze (HDL.out d (List.mem_iff_getElem?.2 ⟨j,hde⟩));obtain⟨is,his⟩:∃z,(zcI (l.map (·.1)) d).isSome=z:=⟨_,rfl⟩;have HIS:=ze his;have HZ:=ze (show ki l=((is ||(F.drop (j+1)).any fun d=>inS (l.map (·.1)) d) ||(l.drop (k+1)).any fun f=>(xH f.1).any fun d=>inS (l.map (·.1)) d) by rw[HY.out,hdd,List.any_cons,<-zry,his]);have HMO:=ze (zlt.old HM.out HB3.out);clear hde hdd his HY
     cases is with
     |true=>
      have HQ:=ze (show ki l=true by rw[HZ.out];rfl);clear HZ
      go_wp2_with (at_lookup;refine kQ rfl (.tmp 28) (.tmp 30) rfl g mn mD (l.map (·.1)) d rfl HMO.out HSH.out HDE.out rfl true HIS.out ?_;intro c hc;clear hc)
      go_ret;exact⟨by rw[HQ.out];rfl,zi HB2.out HB3.out HB2.out.size⟩
     |false=>
      have HQ:=ze (show ki l=(((F.drop (j+1)).any fun d=>inS (l.map (·.1)) d) ||(l.drop (k+1)).any fun f=>(xH f.1).any fun d=>inS (l.map (·.1)) d) by rw[HZ.out,Bool.false_or]);clear HZ
      go_wp2_with (at_lookup;refine kQ rfl (.tmp 28) (.tmp 30) rfl g mn mD (l.map (·.1)) d rfl HMO.out HSH.out HDE.out rfl false HIS.out ?_;intro c hc;clear hc)
      go_roundg (F.length-(j+1))
      case measure=>omega
      case rel=>exact⟨j+1,by omega,rfl,by go_num,HQ,rfl⟩
    ·obtain rfl:j=F.length:=by omega
     have hneg:¬(F.length:Int)<(F.length:Int):=by omega
     have HQ:=ze (show ki l=(l.drop (k+1)).any fun f=>(xH f.1).any fun d=>inS (l.map (·.1)) d by rw[HY.out,List.drop_length];rfl);clear HY;go_wp2_with fail
     go_roundg (l.length-(k+1))
     case measure=>omega
     case rel=>exact⟨k+1,by omega,rfl,by go_num,HQ,HB3⟩
  ·obtain rfl:k=l.length:=by omega
   have hneg:¬(l.length:Int)<(l.length:Int):=by omega
   have HQ:=ze (show ki l=false by rw[HA.out,List.drop_length];rfl);go_wp2_with fail;go_ret;exact⟨by rw[HQ.out];rfl,zi HB2.out HB.out HB2.out.size⟩
end
open Go.RowKit
open BigFrame
section
theorem zkM(f:zg):(zas f=0/\jW f=true)∨(zas f=6/\jW f=false)∨(zas f=11/\jW f=false):=by
 unfold zas jW
 cases yZ f.1 with
 |false=>exact .inr (.inr ⟨rfl,rfl⟩)
 |true=>
  by_cases h:f.2.2.length<=20000
  ·rw[if_pos rfl,if_pos h,decide_eq_true h];exact .inl ⟨rfl,rfl⟩
  ·rw[if_pos rfl,if_neg h,decide_eq_false h];exact .inr (.inl ⟨rfl,rfl⟩)
theorem ziB:∀ (l pre:List zg),kB pre l=true->∀f∈l,jW f=true
 | [],_,_,_,hf=>by cases hf
 |x::r,pre,h,f,hf=>by
  rw[kB,Bool.and_eq_true]at h
  rcases List.mem_cons.1 hf with rfl |hf
  ·have:=h.1
   unfold okD at this;rw[Bool.and_eq_true]at this;exact this.1
  ·exact ziB r _ h.2 f hf
theorem zbu(v:Value)(l:List zg)(w:World)(hv:yM w v l):
  Calls Tryz.prog 24 #[v] w fun e w'=>e= .returned (.bool (yf l))/\Below w.heap.size w w':=by
 rw[<-zoF];obtain⟨ao,cap,rfl⟩:=hv.form;have HV:=ze hv;clear hv
 by_cases h100:l.length<=100
 ·have hl1:decide (100 <(l.length:Int))=false:=decide_eq_false (by omega)
  have hl2:decide (100<l.length)=false:=decide_eq_false (by omega);have HR:=ze (show zbD l=(kB [] l && !ki l) by unfold zbD;rw[decide_eq_true h100,Bool.true_and]);have HL:=ze h100;clear h100
  go_enter Tryz.func24,Tryz.ntmps24
  go_wp2_with fail
  go_loopg [10] l.length (fun g i wr=>∃k:Nat,k<=l.length/\l.length-k=g/\i= .int .i64 k/\Hid (kB [] l=kB (l.take k) (l.drop k))/\Hid (Below w.heap.size w wr))
  case atStart=>exact⟨0,Nat.zero_le _,rfl,rfl,ze rfl,ze (Below.refl _ _)⟩
  case round=>
   obtain⟨k,hk,rfl,rfl,HA,HB⟩:=hrel;have hbx:=HB.out;have hzx:=hbx.size;have k0:(0:Int)<=(k:Int):=Int.natCast_nonneg _
   by_cases hlt:k<l.length
   ·have k1:(k:Int)<(l.length:Int):=by omega
    have kw:IntKind.i64.wrap ((k:Int)+1)=(k:Int)+1:=IntWalk.i64_in _ (by have:=HL.out;omega);obtain⟨b,o,p,x,t,rfl,he,c1,c2,c3⟩:=yM.at (HV.out.old hbx) hlt;have hd:=yP he
    have ht:l.take (k+1)=l.take k++[(p,x,t)]:=by rw[List.take_add_one,he];rfl
    have HX:=ze (show kB [] l=(okD (l.take k) (p,x,t)&&kB (l.take (k+1)) (l.drop (k+1))) by rw[HA.out,hd,kB,ht]);have HW:=ze (fun wy=>zmP (p,x,t) wy);obtain⟨wn,hwn⟩:∃z,zas (p,x,t)=z:=⟨_,rfl⟩;have hwc:=zkM (p,x,t);rw[hwn]at HW hwc;obtain⟨ok1,hok1⟩:∃z,jW (p,x,t)=z:=⟨_,rfl⟩;have HOK:=ze (show okD (l.take k) (p,x,t)=(ok1&&(match(l.take k).getLast? with |some g=>!(xv p g.1 ||p==g.1) |none=>true)) by rw[<-hok1];rfl);rw[hok1]at hwc;obtain⟨ok3,hok3⟩:∃z,okD (l.take k) (p,x,t)=z:=⟨_,rfl⟩;rw[hok3]at HOK HX;unfold ye zq at HW;have HE:=ze he;clear he hd ht hwn hok1 hok3 HA
    go_upto_region 6 with fail
    have HBA:=ze (hbx.alloc hzx (.cells #[.string ⟨p.toArray⟩,.bool x,.string ⟨t.toArray⟩] 28));have hg:=heap_alloc_new wr (.cells #[.string ⟨p.toArray⟩,.bool x,.string ⟨t.toArray⟩] 28);have f0:=zd (i:=0) hg rfl;have f1:=zd (i:=1) hg rfl;have f2:=zd (i:=2) hg rfl;clear hg c1 c2 c3;generalize wr.heap.size=g at f0 f1 f2 ⊢;generalize wr.alloc (.cells #[.string ⟨p.toArray⟩,.bool x,.string ⟨t.toArray⟩] 28)=W1 at HBA f0 f1 f2 ⊢
    go_cut [32]from 15 to 32 (fun q wx=>q= .bool (!ok3)/\Hid (Below w.heap.size w wx))
    case first=>
     obtain⟨ι,_,f,hf,hc⟩:=fam W1;have f0:=yE hf f0;have f1:=yE hf f1;have f2:=yE hf f2
     rcases hwc with⟨rfl,rfl⟩ |⟨rfl,rfl⟩ |⟨rfl,rfl⟩
     ·by_cases hk0:k=0
      ·have z1:decide (0 <(k:Int))=false:=decide_eq_false (by omega)
       have z2:decide (0<k)=false:=decide_eq_false (by omega);have HQ:=ze (show ok3=true by rw[HOK.out,hk0];rfl);clear hk0;refine zV (fun w'=>∃i,w'=f i) (by kernel_rfl) (by kernel_rfl) (hc _ ((Below.refl _ _).drew)) ?_
       repeat(go_big_quiet_step ((go_at_call 47;exact jC hf hc (HW.out _))))
       refine wpQuiet_nil ?_;intro _ hw';obtain⟨nq,hw''⟩:=hw';subst hw'';go_wp2_with fail
       go_meet
       exact⟨by rw[HQ.out];rfl,ze (zi HBA.out (hf nq) HBA.out.size)⟩
      ·have z1:decide (0 <(k:Int))=true:=decide_eq_true (by omega)
       have z2:decide (0<k)=true:=decide_eq_true (by omega);obtain⟨j,hj⟩:∃j,k=j+1:=⟨k-1,by omega⟩;have j0:(0:Int)<=(j:Int):=Int.natCast_nonneg _
       have jl:(j:Int)<(l.length:Int):=by omega
       have jw:IntKind.i64.wrap ((k:Int)-1)=(j:Int):=(IntWalk.i64_in _ (by have:=HL.out;omega)).trans (by omega);obtain⟨b',o',pj,xj,tj,hao,hej,cj,_,_⟩:=yM.at (HV.out.old HBA.out) (i:=j) (by omega);cases hao;have cj:=yE hf cj
       have hgl:(l.take k).getLast? =some (pj,xj,tj):=by
        rw[hj,List.take_add_one,hej];simp
       have HQ:=ze (show ok3=!(xv p pj ||p==pj) by rw[HOK.out,hgl];rfl);clear hk0 hgl hej hj;obtain⟨e1,he1⟩:∃z,Op.bytesLess p pj=z:=⟨_,rfl⟩;obtain⟨e2,he2⟩:∃z,(p==pj)=z:=⟨_,rfl⟩;have HQ:=ze (show ok3=!(e1 ||e2) by rw[HQ.out,<-he1,<-he2]);refine zV (fun w'=>∃i,w'=f i) (by kernel_rfl) (by kernel_rfl) (hc _ ((Below.refl _ _).drew)) ?_
       repeat(go_big_quiet_step ((go_at_call 47;exact jC hf hc (HW.out _))))
       refine wpQuiet_nil ?_;intro _ hw';obtain⟨nq,hw''⟩:=hw';subst hw'';go_wp2_with fail
       go_meet
       exact⟨by rw[HQ.out];simp,ze (zi HBA.out (hf nq) HBA.out.size)⟩
     ·have HQ:=ze (show ok3=false by rw[HOK.out];rfl)
      refine zV (fun w'=>∃i,w'=f i) (by kernel_rfl) (by kernel_rfl) (hc _ ((Below.refl _ _).drew)) ?_
      repeat(go_big_quiet_step ((go_at_call 47;exact jC hf hc (HW.out _))))
      refine wpQuiet_nil ?_;intro _ hw';obtain⟨nq,hw''⟩:=hw';subst hw'';go_wp2_with fail
      go_meet
      exact⟨by rw[HQ.out];rfl,ze (zi HBA.out (hf nq) HBA.out.size)⟩
     ·have HQ:=ze (show ok3=false by rw[HOK.out];rfl)
      refine zV (fun w'=>∃i,w'=f i) (by kernel_rfl) (by kernel_rfl) (hc _ ((Below.refl _ _).drew)) ?_
      repeat(go_big_quiet_step ((go_at_call 47;exact jC hf hc (HW.out _))))
      refine wpQuiet_nil ?_;intro _ hw';obtain⟨nq,hw''⟩:=hw';subst hw'';go_wp2_with fail
      go_meet
      exact⟨by rw[HQ.out];rfl,ze (zi HBA.out (hf nq) HBA.out.size)⟩
    case rest=>
     obtain⟨rfl,HC⟩:=hcut
     cases ok3 with
     |false=>
      have HF:=ze (show zbD l=false by rw[HR.out,HX.out];rfl);clear HX HOK;go_wp2_with fail;go_ret;exact⟨by rw[HF.out];rfl,HC.out⟩
     |true=>
      have HY:=ze (show kB [] l=kB (l.take (k+1)) (l.drop (k+1)) by rw[HX.out,Bool.true_and]);clear HX HOK;go_wp2_with fail
      go_roundg (l.length-(k+1))
      case measure=>omega
      case rel=>exact⟨k+1,by omega,rfl,by go_num,HY,HC⟩
   ·obtain rfl:k=l.length:=by omega
    have hneg:¬(l.length:Int)<(l.length:Int):=by omega
    have hok:kB [] l=true:=by rw[HA.out,List.drop_length];rfl
    have HF:=ze (show zbD l=!ki l by rw[HR.out,hok,Bool.true_and]);have HN:=ze (zkF _ l wr (HV.out.old hbx) (by have:=HL.out;omega) (fun f hf=>qV (ziB l [] hok f hf)));clear hok HA
    go_wp2_with (go_at_call 48;refine HN.out.mono ?_;rintro e w3 ⟨rfl,hb3⟩;have HB3:=ze (zi hbx hb3 hzx);clear hb3)
    go_ret;exact⟨by rw[HF.out];rfl,HB3.out⟩
 ·have hl1:decide (100 <(l.length:Int))=true:=decide_eq_true (by omega)
  have hl2:decide (100<l.length)=true:=decide_eq_true (by omega);have HR:=ze (show zbD l=false by unfold zbD;rw[decide_eq_false h100,Bool.false_and]);clear h100
  go_enter Tryz.func24,Tryz.ntmps24
  go_wp2_with fail;go_ret;exact⟨by rw[HR.out];rfl,Below.refl _ _⟩
end
open Go.RowKit Go.WideShapes Go.ChangeShapes
def zsd(w:World)(v:Value)(ss:List (List UInt8)):Prop:=Sl w v (zj ss)/\ss.length<=maxLen/\∀x∈ss,x.length<=maxLen
def zrS{H:Type}(ss:List (List UInt8)):List (DataW H):=ss.map fun s=> .lit (.string s)
theorem znB{s:ByteArray}{n:Nat}(h:s.size<=n):s.data.toList.length<=n:=by
 rw[Array.length_toList];exact h
section
variable{H:Type}{enc:TypeId × Value->H}{P:Program}{w:World}{base:Nat}{spare:Nat->Bool}{held:Bool}
end
open Go.RowKit Go.WideShapes Go.ChangeShapes Go.ChangeAt
def zaa(w:World)(v:Value)(l:List zg):Prop:=yM w v l/\l.length<=maxLen/\∀f∈l,f.1.length<=maxLen/\f.2.2.length<=maxLen
def zrk(w:World)(v:Value)(l:List xz):Prop:=SlH w v l/\l.length<=maxLen/\∀f∈l,f.1.length<=maxLen/\f.2.2.2.length<=maxLen
theorem ziC:Tryz.prog.cellsOf 28=3:=by kernel_rfl
theorem ziW:Tryz.prog.cellsOf 9=1:=by kernel_rfl
theorem zlW:Tryz.prog.cellsOf 4=1:=by kernel_rfl
theorem zy.ofN{α:Type}{E:Enc α}{w:World}{v:Value}{es:List α}(h:SlN E.k w v (es.map E.enc)):zy E w v es:=by
 obtain⟨ao,cap,rfl,hn,hcap,hc⟩:=h;rw[List.length_map]at hcap ⊢;refine⟨ao,cap,rfl,fun h=>by simpa using hn h,hcap,fun a ha i e he j u hu=>?_⟩;exact(hc a ha i (E.enc e) (by rw[List.getElem?_map,he];rfl)).2 j u hu
section
variable{H:Type}{enc:TypeId × Value->H}{w:World}{base:Nat}{spare:Nat->Bool}{held:Bool}
theorem zqI{fuel:Nat}{cs:List Value}{y:DataW H × List MemPlace}(h:DataW.trod enc Tryz.prog w base spare held fuel 28 cs=some y):∃x:zg,cs=jh.enc x/\x.1.length<=maxLen/\x.2.2.length<=maxLen:=by
 obtain⟨ys,n,_,_,hl,hlen,hf⟩:=DataW.trod_struct Tryz.underlying28 h;rw[ziC]at hl
 match cs,hl,ys,hlen with
 | [c0,c1,c2],_,[y0,y1,y2],_ =>
  have f0:DataW.trod enc Tryz.prog w base spare held n 9 [c0]=some y0:=by simpa[ziW]using hf 0 _ rfl
  have f1:DataW.trod enc Tryz.prog w base spare held n 4 [c1]=some y1:=by simpa[zlW]using hf 1 _ rfl
  have f2:DataW.trod enc Tryz.prog w base spare held n 9 [c2]=some y2:=by simpa[ziW]using hf 2 _ rfl
  obtain⟨s0,e0,_,z0⟩:=DataW.trod_string Tryz.underlying9 f0;obtain⟨b1,e1,_⟩:=DataW.trod_bool Tryz.underlying4 f1;obtain⟨s2,e2,_,z2⟩:=DataW.trod_string Tryz.underlying9 f2;simp at e0 e1 e2;exact⟨(s0.data.toList,b1,s2.data.toList),by simp[jh,zq,e0,e1,e2],znB z0,znB z2⟩
theorem zdR{fuel:Nat}{cs:List Value}{x:DataW H × List MemPlace}(h:DataW.trod enc Tryz.prog w base spare held fuel 22 cs=some x):
  ∃v l,cs=[v]/\zaa w v l:=by
 obtain⟨v,css,n,rfl,hs,hl,hu⟩:=zqE Tryz.underlying22 ziC h
 obtain⟨l,rfl,hb⟩:∃l:List zg,css=l.map jh.enc/\∀f∈l,f.1.length<=maxLen/\f.2.2.length<=maxLen:=by
  clear hs hl
  induction css with
  |nil=>exact⟨[],rfl,by simp⟩
  |cons c css ih=>
   obtain⟨y,hy⟩:=hu c (List.mem_cons_self ..);obtain⟨x,rfl,hx⟩:=zqI hy
   obtain⟨l,rfl,hb⟩:=ih fun u hu'=>hu u (List.mem_cons_of_mem _ hu')
   refine⟨x::l,rfl,fun f hf=>?_⟩
   rcases List.mem_cons.1 hf with rfl |hf
   ·exact hx
   ·exact hb f hf
 exact⟨v,l,rfl,zy.ofN (E:=jh) hs,by simpa using hl,hb⟩
end
end Go.Proofs.YtbnafihigoekeaaGreatDoor

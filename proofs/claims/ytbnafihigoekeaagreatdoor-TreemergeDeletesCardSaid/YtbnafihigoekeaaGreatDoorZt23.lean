/-
  TmTl, part 23.
-/
import Derived.Test.YtbnafihigoekeaaGreatDoorZt22
import Derived.Test.YtbnafihigoekeaaGreatDoorZt3
import Derived.Deep.DeepCutAuto
import Derived.Deep.CutBlock
import Derived.Deep.RegionHeldLaw
set_option maxRecDepth 100000
set_option maxHeartbeats 4000000
namespace Go.Proofs.YtbnafihigoekeaaGreatDoor
open Go.RowKit
abbrev zg:=List UInt8 × Bool × List UInt8
def jh:Enc zg:=⟨3,by omega,fun f=>[zq f.1,.bool f.2.1,zq f.2.2],fun _ =>rfl,fun f u hu=>by
 simp only[List.mem_cons,List.not_mem_nil,or_false]at hu
 rcases hu with rfl |rfl |rfl <;> rfl⟩
def ye(f:zg):Value:= .agg #[zq f.1,.bool f.2.1,zq f.2.2]
def zM:zg:=([],false,[])
theorem Tryz.infoFile:(Tryz.prog.info? 28).map (fun i=>(i.zero,i.size,i.bytes))=some (some (.agg #[zq [],.bool false,zq []]),3,40):=by kernel_rfl
theorem Tryz.sizeFile:(Tryz.prog.info? 28).map (·.size)=some 3:=by kernel_rfl
abbrev yM(w:World)(v:Value)(fs:List zg):Prop:=zy jh w v fs
abbrev zI(w:World)(base:Nat)(v:Value)(fs:List zg):Prop:=w.ownsRow base 28 3 v fs.length (zO jh fs)
theorem zI.sl{w:World}{base:Nat}{v:Value}{fs:List zg}(h:zI w base v fs):yM w v fs:=zy.ofOwns (E:=jh) h
theorem yM.at{w:World}{ao:Option Addr}{n cap:Nat}{fs:List zg}(h:yM w (.slice ao n cap) fs){i:Nat}(hi:i<fs.length):
  ∃b o p x t,ao=some ⟨b,o,none⟩/\fs[i]? =some (p,x,t)/\w.cell? ⟨b,o+i*3,none⟩=some (.string ⟨List.toArray p⟩)/\w.cell? ⟨b,o+i*3+1,none⟩=some (.bool x)/\w.cell? ⟨b,o+i*3+2,none⟩=some (.string ⟨List.toArray t⟩):=by
 obtain⟨b,o,⟨p,x,t⟩,ha,hx,hc⟩:=zy.at' h hi;exact⟨b,o,p,x,t,ha,hx,hc 0 _ rfl,hc 1 _ rfl,hc 2 _ rfl⟩
theorem zB{P:Program}{ops:Array Oper}{rest:List Oper}{o:Oper}{a:Act}{w:World}{Q:Exit->Act->World->Prop}(hgd:o.guard=none)(ty:TypeId)(x y:Operand)(ho:o.op= .store ty x y)
  (g:Nat) (cells:Array Value) (hx:a.eval x= .pointer (some ⟨g,0,none⟩)) (hy:a.eval y= .agg cells)
  (t:TypeId) (old:Array Value) (hg:w.heap[g]? =some (.cells old t (0,0))) (n:Nat) (hi:(P.info? ty).map (·.size)=some n) (hn:cells.size=n)
  (hold:old.size=n) (h1:cells.all (·.oneCell')=true)
  (h:∀w',w'.heap[g]? =some (.cells cells t (0,0))->yH (· =g) w w'->wpList P ops Q rest (a.put o.dst undef) w'):wpList P ops Q (o::rest) a w:=
 wpList_store_row hgd ty x y ho g cells hx hy t old hg (by rw[hi,hn]) (by rw[hold,hn]) h1 (h _ (setRow_heap w g old cells t _ hg) ⟨rfl,rfl,rfl,by simp[World.setRow],fun k _ hk=>setRow_other w g k _ hk⟩)
theorem yT{P:Program}{fn:Func}{p q:Tmp}{ty:TypeId}(h:fn.results= #[.cell p ty,.tmp q])(tmps:Array Value)(w:World)(g:Nat)(t:TypeId)(cs:Array Value)(fr:Nat × Nat)(d:TypeDesc)(v:Value)
  (hp:tmps.getD p undef= .pointer (some ⟨g,0,none⟩)) (hv:tmps.getD q undef=v) (hg:w.heap[g]? =some (.cells cs t fr))
  (hu:P.underlying ty=some d) (hd:(match d with | .struct _ | .array _ _ =>true | _ =>false)=true) (hi:(P.info? ty).map (·.size)=some cs.size):
  (results fn tmps).run P w= .ok (.tuple #[.agg cs,v]) w:=by
 have hp':tmps[p]?.getD undef= .pointer (some ⟨g,0,none⟩):=by simpa using hp
 have hv':tmps[q]?.getD undef=v:=by simpa using hv
 simp[results,h,hp',hv',asAddr,run_loadVar_row w g t ty cs fr d hg hu hd hi]
section
variable{w:World}
theorem qU{ops:Array Oper}{rest:List Oper}{o:Oper}{a:Act}{Q:Exit->Act->World->Prop}(hgd:o.guard=none)(s sx:Operand)
  (ho:o.op= .call {callee:= .builtin .append,args:= #[s,sx],argTypes:= #[22,22] })
  (base:Nat) (v:Value) (xs:List zg) (x:zg) (he:a.eval s=v) (hown:zI w base v xs) (q:Nat) (hx:a.eval sx= .slice (some ⟨q,0,none⟩) 1 1) (hq:w.heap.size=q)
  (hlen:xs.length<=100000000) (hbase:base<=w.heap.size)
  (h:∀v' w',zI w' base v' (xs++[x])->Below base w w'->wpList Tryz.prog ops Q rest (a.put o.dst v') w'):wpList Tryz.prog ops Q (o::rest) a (w.alloc (.cells #[.string ⟨x.1.toArray⟩,.bool x.2.1,.string ⟨x.2.2.toArray⟩] 28)):=by
 obtain⟨i0,hi0,hi1,hi2,hi3⟩:=info_parts Tryz.infoFile;exact qS (E:=jh) hgd s sx 22 28 ho Tryz.underlying22 hi0 hi1 hi2 (by rw[hi3];omega) rfl base v xs x he hown q hx hq hlen hbase _ rfl h
theorem qu{ops:Array Oper}{o:Oper}{a:Act}{K:Act->World->Prop}{Q:Exit->Act->World->Prop}{X:Prop}(hgd:o.guard=none)(s sx:Operand)
  (ho:o.op= .call {callee:= .builtin .append,args:= #[s,sx],argTypes:= #[22,22] })
  (base:Nat) (v:Value) (xs:List zg) (x:zg) (he:a.eval s=v) (hown:zI w base v xs) (u:Value) (hx:a.eval sx=u) (hu:yM w u [x])
  (hlen:xs.length<=100000000) (hbase:base<=w.heap.size)
  (h:∀v' w',zI w' base v' (xs++[x])->Below base w w'->K (a.put o.dst v') w'):if Region.wanted o (yielded ops a.tmps)=true then Oper.wp Tryz.prog o a w K Q else X:=by
 obtain⟨i0,hi0,hi1,hi2,hi3⟩:=info_parts Tryz.infoFile;exact zaS (E:=jh) hgd s sx 22 28 ho Tryz.underlying22 hi0 hi1 hi2 (by rw[hi3];omega) rfl base v xs x he hown u hx hu hlen hbase h
theorem qB{ops:Array Oper}{o:Oper}{a:Act}{K:Act->World->Prop}{Q:Exit->Act->World->Prop}{X:Prop}(hgd:o.guard=none)(s sx:Operand)
  (ho:o.op= .call {callee:= .builtin .append,args:= #[s,sx],argTypes:= #[22,22] })
  (base:Nat) (v:Value) (xs ys:List zg) (he:a.eval s=v) (hown:zI w base v xs) (u:Value) (hx:a.eval sx=u) (hu:yM w u ys)
  (hlen:xs.length+ys.length<=100000000) (hbase:base<=w.heap.size)
  (h:∀v' w',zI w' base v' (xs++ys)->Below base w w'->K (a.put o.dst v') w'):if Region.wanted o (yielded ops a.tmps)=true then Oper.wp Tryz.prog o a w K Q else X:=by
 obtain⟨i0,hi0,hi1,hi2,hi3⟩:=info_parts Tryz.infoFile;exact zaV (E:=jh) hgd s sx 22 28 ho Tryz.underlying22 hi0 hi1 hi2 (by rw[hi3];omega) rfl base v xs ys he hown u hx hu hlen hbase h
end
open Go.RowKit
abbrev xv(p q:List UInt8):Bool:=Op.bytesLess p q
def zz(l:List zg)(p:List UInt8):Option zg:=l.find? fun f=>f.1==p
def yv(l:List zg)(p:List UInt8):List zg:=l.filter fun f=>f.1 !=p
def yG(l:List zg)(p:List UInt8):Bool:=l.any fun f=>f.1 !=p&&yS f.1 p
def xy:List zg->List UInt8->Nat
 | [],_ =>0
 |f::r,p=>if xv f.1 p then xy r p+1 else 0
theorem zoc(l:List zg)(p:List UInt8):xy l p<=l.length:=by
 induction l with
 |nil=>simp[xy]
 |cons f r ih=>
  rw[xy]
  split
  ·simp;exact ih
  ·simp
def yC(l:List zg)(f:zg):List zg:=l.take (xy l f.1)++[f]++l.drop (xy l f.1)
section
theorem kU(v:Value)(l:List zg)(p:List UInt8)(w:World)(hv:yM w v l)(hl:l.length<=4611686018427387904):
  Calls Tryz.prog 20 #[v,zq p] w fun e w'=>e= .returned (.tuple #[ye ((zz l p).getD zM),.bool (zz l p).isSome])/\Below w.heap.size w w':=by
 obtain⟨ao,cap,rfl⟩:=hv.form;have HV:=ze (hv.alloc (.cells #[.string ⟨#[]⟩,.bool false,.string ⟨#[]⟩] 28));have HL:=ze hl;have HG:=ze (heap_alloc_new w (.cells #[.string ⟨#[]⟩,.bool false,.string ⟨#[]⟩] 28));have HB:=ze ((Below.refl _ w).alloc (Nat.le_refl w.heap.size) (.cells #[.string ⟨#[]⟩,.bool false,.string ⟨#[]⟩] 28));clear hv hl;unfold zq ye
 go_enter Tryz.func20,Tryz.ntmps20
 go_wp2_with fail;generalize w.alloc (.cells #[.string ⟨#[]⟩,.bool false,.string ⟨#[]⟩] 28)=W at HV HG HB ⊢;obtain⟨gm,hgm⟩:∃g,w.heap.size=g:=⟨_,rfl⟩;rw[hgm]at HG HB ⊢;have HGM:=ze hgm;clear hgm
 go_loopg [6] l.length (fun g i wr=>∃k:Nat,k<=l.length/\l.length-k=g/\i= .int .i64 k/\Hid (zz l p=zz (l.drop k) p)/\wr=W)
 case atStart=>exact⟨0,Nat.zero_le _,rfl,rfl,ze rfl,rfl⟩
 case round=>
  obtain⟨k,hk,rfl,rfl,HF,rfl⟩:=hrel;have k0:(0:Int)<=(k:Int):=Int.natCast_nonneg _
  have hb:∀w',yH (· =gm) wr w'->Below w.heap.size w w':=fun w' hw=>by
   rw[HGM.out];exact HB.out.trans (hw.below (by rw[<-HGM.out];exact HB.out.size) (fun j hj e=>by omega))
  have HBK:=ze hb;clear hb
  by_cases hlt:k<l.length
  ·have k1:(k:Int)<(l.length:Int):=by omega
   have kw:IntKind.i64.wrap ((k:Int)+1)=(k:Int)+1:=IntWalk.i64_in _ (by have:=HL.out;omega);obtain⟨b,o,p2,x2,t2,rfl,he,c1,c2,c3⟩:=yM.at HV.out hlt;have hd:=yP he;clear he
   by_cases hp:p2=p
   ·subst hp
    have HR:=ze (show zz l p2=some (p2,x2,t2) by rw[HF.out,hd];simp[zz]);clear hd
    go_wp2_with (refine zB rfl 28 _ _ rfl gm #[.string ⟨p2.toArray⟩,.bool x2,.string ⟨t2.toArray⟩] rfl rfl _ _ HG.out 3 Tryz.sizeFile rfl rfl (by simp[Value.oneCell']) ?_;intro w9 hg9 hk9)
    refine bodyPost_ret (yT rfl _ _ gm _ _ _ _ _ rfl rfl hg9 Tryz.underlying28 rfl Tryz.sizeFile) rfl ?_;exact⟨by rw[HR.out];rfl,HBK.out _ hk9⟩
   ·have hpb:(p2==p)=false:=by simpa using hp
    have HF2:=ze (show zz l p=zz (l.drop (k+1)) p by rw[HF.out,hd];simp[zz,hpb]);clear hd hp;go_wp2_with fail
    go_roundg (l.length-(k+1))
    case measure=>omega
    case rel=>exact⟨k+1,by omega,rfl,by go_num,HF2,rfl⟩
  ·obtain rfl:k=l.length:=by omega
   have hneg:¬(l.length:Int)<(l.length:Int):=by omega
   have HR:=ze (show zz l p=none by rw[HF.out,List.drop_length];rfl)
   go_wp2_with (refine zB rfl 28 _ _ rfl gm #[.string ⟨#[]⟩,.bool false,.string ⟨#[]⟩] rfl rfl _ _ HG.out 3 Tryz.sizeFile rfl rfl (by simp[Value.oneCell']) ?_;intro w9 hg9 hk9)
   refine bodyPost_ret (yT rfl _ _ gm _ _ _ _ _ rfl rfl hg9 Tryz.underlying28 rfl Tryz.sizeFile) rfl ?_;exact⟨by rw[HR.out];rfl,HBK.out _ hk9⟩
theorem zju(v:Value)(l:List zg)(p:List UInt8)(w:World)(hv:yM w v l)(hl:l.length<=100000):
  Calls Tryz.prog 43 #[v,zq p] w fun e w'=>∃u,e= .returned u/\zI w' w.heap.size u (yv l p)/\Below w.heap.size w w':=by
 obtain⟨ao,cap,rfl⟩:=hv.form;have HV:=ze hv;have HL:=ze hl;clear hv hl;unfold zq
 go_enter Tryz.func43,Tryz.ntmps43
 go_wp2_with fail
 go_loopg [5,6] l.length (fun g r i wr=>∃ (k:Nat) (X:List zg),k<=l.length/\l.length-k=g/\i= .int .i64 k/\Hid (X=yv (l.take k) p)/\Hid (zI wr w.heap.size r X)/\X.length<=k/\Below w.heap.size w wr)
 case atStart=>exact⟨0,[],Nat.zero_le _,rfl,rfl,ze rfl,ze (World.ownsRow_nil _ _ _ _),Nat.zero_le _,Below.refl _ _⟩
 case round=>
  obtain⟨k,X,hk,rfl,rfl,HX,HN,hXl,hbel⟩:=hrel;have hz:=hbel.size;have k0:(0:Int)<=(k:Int):=Int.natCast_nonneg _;have hll:=HL.out;obtain⟨no,nc,rfl⟩:=zl HN.out
  by_cases hlt:k<l.length
  ·have k1:(k:Int)<(l.length:Int):=by omega
   have kw:IntKind.i64.wrap ((k:Int)+1)=(k:Int)+1:=IntWalk.i64_in _ (by omega);obtain⟨b,o,p2,x2,t2,rfl,he,c1,c2,c3⟩:=yM.at (HV.out.old hbel) hlt
   have ht:l.take (k+1)=l.take k++[(p2,x2,t2)]:=by rw[List.take_add_one,he];rfl
   clear he
   by_cases hp:p2=p
   ·subst hp
    have hpb:(p2==p2)=true:=by simp
    have HX2:=ze (show X=yv (l.take (k+1)) p2 by rw[HX.out,ht];simp[yv]);clear ht HX;go_wp2_with fail
    go_roundg (l.length-(k+1))
    case measure=>omega
    case rel=>exact⟨k+1,X,by omega,rfl,by go_num,HX2,HN,by omega,hbel⟩
   ·have hpb:(p2==p)=false:=by simpa using hp
    have HX2:=ze (show X++[(p2,x2,t2)]=yv (l.take (k+1)) p by rw[HX.out,ht];simp[yv,hp]);clear ht HX hp
    go_wp2_with (at_builtin;refine qU rfl (.tmp 20) (.tmp 25) rfl w.heap.size _ X (p2,x2,t2) rfl HN.out _ rfl rfl (by omega) hz ?_;intro v5 w5 hO5 hb5;have HO5:=ze hO5;have hb6:=hbel.trans hb5;clear hO5 hb5)
    go_roundg (l.length-(k+1))
    case measure=>omega
    case rel=>exact⟨k+1,X++[(p2,x2,t2)],by omega,rfl,by go_num,HX2,HO5,by simp;omega,hb6⟩
  ·obtain rfl:k=l.length:=by omega
   have hneg:¬(l.length:Int)<(l.length:Int):=by omega
   have HX2:=ze (show X=yv l p by rw[HX.out,List.take_length]);go_wp2_with fail;go_ret;rw[<-HX2.out];exact⟨_,rfl,HN.out,hbel⟩
theorem zeK(v:Value)(l:List zg)(p:List UInt8)(w:World)(hv:yM w v l)(hl:l.length<=4611686018427387904):
  Calls Tryz.prog 44 #[v,zq p] w fun e w'=>e= .returned (.bool (yG l p))/\w=w':=by
 obtain⟨ao,cap,rfl⟩:=hv.form;have HV:=ze hv;have HL:=ze hl;clear hv hl;unfold zq
 go_enter Tryz.func44,Tryz.ntmps44
 go_wp2_with fail
 go_loopg [5] l.length (fun g i wr=>∃k:Nat,k<=l.length/\l.length-k=g/\i= .int .i64 k/\Hid (yG l p=yG (l.drop k) p)/\wr=w)
 case atStart=>exact⟨0,Nat.zero_le _,rfl,rfl,ze rfl,rfl⟩
 case round=>
  obtain⟨k,hk,rfl,rfl,HF,rfl⟩:=hrel;have k0:(0:Int)<=(k:Int):=Int.natCast_nonneg _
  by_cases hlt:k<l.length
  ·have k1:(k:Int)<(l.length:Int):=by omega
   have kw:IntKind.i64.wrap ((k:Int)+1)=(k:Int)+1:=IntWalk.i64_in _ (by have:=HL.out;omega);obtain⟨b,o,p2,x2,t2,rfl,he,c1,c2,c3⟩:=yM.at HV.out hlt;have hd:=yP he;have HX:=ze (show yG l p=((p2 !=p&&yS p2 p) ||yG (l.drop (k+1)) p) by rw[HF.out,hd];rfl);have HC:=ze (zhx p2 p wr);obtain⟨y,hy⟩:∃y,yS p2 p=y:=⟨_,rfl⟩;rw[hy]at HX HC;unfold zq at HC;clear he hd hy HF c2 c3
   by_cases hp:p2=p
   ·subst hp
    have hpb:(p2==p2)=true:=by simp
    have HX2:=ze (show yG l p2=yG (l.drop (k+1)) p2 by rw[HX.out,bne,hpb];rfl);clear HX HC;go_wp2_with fail
    go_roundg (l.length-(k+1))
    case measure=>omega
    case rel=>exact⟨k+1,by omega,rfl,by go_num,HX2,rfl⟩
   ·have hpb:(p2==p)=false:=by simpa using hp
    rw[bne,hpb,Bool.not_false,Bool.true_and]at HX
    cases y with
    |true=>
     have HX2:=ze (show yG l p=true by rw[HX.out];rfl);clear HX hp
     go_wp2_with (go_at_call 23;with_reducible refine HC.out.mono ?_;rintro e _ ⟨rfl,rfl⟩)
     go_ret;exact⟨by rw[HX2.out];rfl,rfl⟩
    |false=>
     have HX2:=ze (show yG l p=yG (l.drop (k+1)) p by rw[HX.out];rfl);clear HX hp
     go_wp2_with (go_at_call 23;with_reducible refine HC.out.mono ?_;rintro e _ ⟨rfl,rfl⟩)
     go_roundg (l.length-(k+1))
     case measure=>omega
     case rel=>exact⟨k+1,by omega,rfl,by go_num,HX2,rfl⟩
  ·obtain rfl:k=l.length:=by omega
   have hneg:¬(l.length:Int)<(l.length:Int):=by omega
   have HR:=ze (show yG l p=false by rw[HF.out,List.drop_length];rfl);go_wp2_with fail;go_ret;exact⟨by rw[HR.out];rfl,rfl⟩
def zsX(W:World)(l:List zg)(p:List UInt8)(v:Value)(wx:World):Prop:=v= .int .i64 (xy l p)/\wx.heap=W.heap/\Below W.heap.size W wx
theorem zdd(v:Value)(l:List zg)(p t:List UInt8)(x:Bool)(w:World)(hv:yM w v l)(hl:l.length<=100000):
  Calls Tryz.prog 45 #[v,.agg #[zq p,.bool x,zq t]] w fun e w'=>∃u,e= .returned u/\zI w' w.heap.size u (yC l (p,x,t))/\Below w.heap.size w w':=by
 obtain⟨ao,cap,rfl⟩:=hv.form;have HV0:=ze hv;have HV:=ze (hv.alloc (.cells #[.string ⟨p.toArray⟩,.bool x,.string ⟨t.toArray⟩] 28));have HL:=ze hl;have hg:=heap_alloc_new w (.cells #[.string ⟨p.toArray⟩,.bool x,.string ⟨t.toArray⟩] 28);have HB:=ze ((Below.refl _ w).alloc (Nat.le_refl w.heap.size) (.cells #[.string ⟨p.toArray⟩,.bool x,.string ⟨t.toArray⟩] 28));have HG:=ze hg;clear hv hl hg;obtain⟨i0,hi0,hi1,hi2,hi3⟩:=info_parts Tryz.infoFile;unfold zq
 go_enter Tryz.func45,Tryz.ntmps45
 go_wp2_with fail;generalize w.alloc (.cells #[.string ⟨p.toArray⟩,.bool x,.string ⟨t.toArray⟩] 28)=W at HV HB HG ⊢
 go_loopg [5] l.length (fun g i wr=>∃k:Nat,k<=l.length/\l.length-k=g/\i= .int .i64 k/\Hid (xy l p=k+xy (l.drop k) p)/\Hid (wr.heap=W.heap/\Below w.heap.size w wr))
 case atStart=>exact⟨0,Nat.zero_le _,rfl,rfl,ze (by simp),ze ⟨rfl,HB.out⟩⟩
 case round=>
  obtain⟨k,hk,rfl,rfl,HA,HW⟩:=hrel;have k0:(0:Int)<=(k:Int):=Int.natCast_nonneg _;have HVr:=ze (HV.out.kept (w':=wr) fun a n c e hlt=>by rw[HW.out.1]);have g0:wr.cell? ⟨w.heap.size,0,none⟩=some (.string ⟨p.toArray⟩):=zd (by rw[HW.out.1];exact HG.out) rfl;have g1:wr.cell? ⟨w.heap.size,1,none⟩=some (.bool x):=zd (by rw[HW.out.1];exact HG.out) rfl;have g2:wr.cell? ⟨w.heap.size,2,none⟩=some (.string ⟨t.toArray⟩):=zd (by rw[HW.out.1];exact HG.out) rfl
  by_cases hlt:k<l.length
  ·have k1:(k:Int)<(l.length:Int):=by omega
   have kd:decide ((k:Int)<(l.length:Int))=true:=decide_eq_true k1;have kw:IntKind.i64.wrap ((k:Int)+1)=(k:Int)+1:=IntWalk.i64_in _ (by have:=HL.out;omega);obtain⟨b,o,p2,x2,t2,rfl,he,c1,c2,c3⟩:=yM.at HVr.out hlt;have hd:=yP he
   have ha:xy (l.drop k) p=if xv p2 p then xy (l.drop (k+1)) p+1 else 0:=by rw[hd];rfl
   clear he hd
   by_cases hp:Op.bytesLess p2 p=true
   ·have HA2:=ze (show xy l p=k+1+xy (l.drop (k+1)) p by rw[HA.out,ha,if_pos hp];omega)
    clear ha HA;go_wp2_with fail;go_quiet (fail);go_wp2_with fail
    go_roundg (l.length-(k+1))
    case measure=>omega
    case rel=>exact⟨k+1,by omega,rfl,by go_num,HA2,ze ⟨HW.out.1,HW.out.2.trans ⟨rfl,rfl,rfl,Nat.le_refl _,fun _ _ =>rfl⟩⟩⟩
   ·have hpf:Op.bytesLess p2 p=false:=by simpa using hp
    have HA2:=ze (show xy l p=k by rw[HA.out,ha,if_neg hp];rfl);clear ha HA hp;have hcut:=zy.cut_to (P:=Tryz.prog) Tryz.underlying22 hi0 HV0.out (j:=k) (by omega);obtain⟨ao2,c2',hsl2,hs2⟩:=zy.cut_from (P:=Tryz.prog) Tryz.underlying22 hi0 hi2 HV0.out (i:=k) (by omega);have hsl1:=hcut.1;have H1:=ze hcut.2;have H2:=ze hs2;have HKL:=ze (show(l.take k).length<=100000/\(l.drop k).length<=100000 by have:=HL.out;simp;omega);have HSO:=ze (show []++l.take k++[(p,x,t)]++l.drop k=yC l (p,x,t) by unfold yC;rw[HA2.out,List.nil_append]);clear hcut hs2 HA2;go_wp2_with fail;go_quiet (fail);have HBy:=ze (show Below w.heap.size w (wr.drewN nq)from HW.out.2.trans ⟨rfl,rfl,rfl,Nat.le_refl _,fun _ _ =>rfl⟩);have q0:(wr.drewN nq).cell? ⟨w.heap.size,0,none⟩=some (.string ⟨p.toArray⟩):=g0;have q1:(wr.drewN nq).cell? ⟨w.heap.size,1,none⟩=some (.bool x):=g1;have q2:(wr.drewN nq).cell? ⟨w.heap.size,2,none⟩=some (.string ⟨t.toArray⟩):=g2;clear g0 g1 g2 HVr c1 c2 c3;generalize wr.drewN nq=Y at HBy q0 q1 q2 ⊢;have HYL:=ze (World.block_lt_of_cell? Y _ q0);have HBF:=ze (show Below w.heap.size w (Y.drew.alloc (.cells #[.string ⟨p.toArray⟩,.bool x,.string ⟨t.toArray⟩] 28))from HBy.out.drew.alloc HBy.out.size _);go_wp2_with fail
    go_region_law (first
     |(refine qB (by rfl) (.const (.slice none 0 0)) (.tmp 24) rfl _ (.slice none 0 0) [] (l.take k) rfl (World.ownsRow_nil _ _ _ _) _ rfl (by first |exact H1.out.old HBy.out.drew |exact H1.out.old HBF.out) (by have:=HKL.out;simp only[List.length_nil];omega) (Nat.le_refl _) ?_;intro v5 w5 o5 b5
       have HO5:=ze (zY o5 (show w.heap.size<= _ from by first |exact HBy.out.size |exact HBF.out.size));have HB5:=ze (show Below w.heap.size w w5 from by first |exact HBy.out.drew.trans (b5.mono HBy.out.size) |exact HBF.out.trans (b5.mono HBF.out.size));have HC5:=ze b5
       have hb5:w5.heap[w.heap.size]? =Y.heap[w.heap.size]? :=by first |exact b5.block _ HYL.out |exact(b5.block _ (by simp;exact Nat.lt_succ_of_lt HYL.out)).trans (Below.heap_alloc Y.drew _ _ HYL.out)
       have p0:=(World.cell?_of_block (w:=Y) (a:=⟨w.heap.size,0,none⟩) hb5).trans q0;have p1:=(World.cell?_of_block (w:=Y) (a:=⟨w.heap.size,1,none⟩) hb5).trans q1;have p2':=(World.cell?_of_block (w:=Y) (a:=⟨w.heap.size,2,none⟩) hb5).trans q2
       clear o5 b5 hb5)
     |(refine qu (by rfl) (.tmp 25) (.tmp 27) rfl w.heap.size _ ([]++l.take k) (p,x,t) rfl (World.ownsRow.alloc HO5.out _) _ rfl (zy.one (heap_alloc_new w5 _) rfl) (by have:=HKL.out;simp only[List.nil_append];omega) (by have:=HB5.out.size;simp;omega) ?_;intro v6 w6 o6 b6
       have HO6:=ze o6;have HB6:=ze ((HB5.out.alloc HB5.out.size _).trans b6)
       clear o6 b6)
     |(refine qu (by rfl) (.tmp 25) (.tmp 27) rfl w.heap.size _ ([]++l.take k) (p,x,t) rfl HO5.out _ rfl (zy.old (zy.one (heap_alloc_new Y.drew _) rfl) HC5.out) (by have:=HKL.out;simp only[List.nil_append];omega) HB5.out.size ?_;intro v6 w6 o6 b6
       have HO6:=ze o6;have HB6:=ze (HB5.out.trans b6)
       clear o6 b6)
     |(refine qB (by rfl) (.tmp 28) (.tmp 31) rfl w.heap.size _ ([]++l.take k++[(p,x,t)]) (l.drop k) rfl HO6.out _ rfl (H2.out.old HB6.out) (by have:=HKL.out;simp only[List.nil_append,List.length_append,List.length_singleton];omega) HB6.out.size ?_;intro v7 w7 o7 b7
       have HO7:=ze o7;have HB7:=ze (HB6.out.trans b7)
       clear o7 b7))
    all_goals(
     go_wp2_with fail;go_ret;rw[<-HSO.out]
     exact⟨_,rfl,HO7.out,HB7.out⟩)
  ·obtain rfl:k=l.length:=by omega
   have hneg:¬(l.length:Int)<(l.length:Int):=by omega
   have kd:decide ((l.length:Int)<(l.length:Int))=false:=decide_eq_false (by omega);have HA2:=ze (show xy l p=l.length by rw[HA.out,List.drop_length];rfl);clear HA;have hcut:=zy.cut_to (P:=Tryz.prog) Tryz.underlying22 hi0 HV0.out (j:=l.length) (by omega);obtain⟨ao2,c2',hsl2,hs2⟩:=zy.cut_from (P:=Tryz.prog) Tryz.underlying22 hi0 hi2 HV0.out (i:=l.length) (by omega);rw[Nat.sub_self]at hsl2 hs2;have hsl1:=hcut.1;have H1:=ze hcut.2;have H2:=ze hs2;have HKL:=ze (show(l.take l.length).length<=100000/\(l.drop l.length).length<=100000 by have:=HL.out;simp;omega);have HSO:=ze (show []++l.take l.length++[(p,x,t)]++l.drop l.length=yC l (p,x,t) by unfold yC;rw[HA2.out,List.nil_append]);clear hcut hs2 HA2;go_wp2_with fail;go_quiet (fail);have HBy:=ze (show Below w.heap.size w (wr.drewN nq)from HW.out.2.trans ⟨rfl,rfl,rfl,Nat.le_refl _,fun _ _ =>rfl⟩);have q0:(wr.drewN nq).cell? ⟨w.heap.size,0,none⟩=some (.string ⟨p.toArray⟩):=g0;have q1:(wr.drewN nq).cell? ⟨w.heap.size,1,none⟩=some (.bool x):=g1;have q2:(wr.drewN nq).cell? ⟨w.heap.size,2,none⟩=some (.string ⟨t.toArray⟩):=g2;clear g0 g1 g2 HVr;generalize wr.drewN nq=Y at HBy q0 q1 q2 ⊢;have HYL:=ze (World.block_lt_of_cell? Y _ q0);have HBF:=ze (show Below w.heap.size w (Y.drew.alloc (.cells #[.string ⟨p.toArray⟩,.bool x,.string ⟨t.toArray⟩] 28))from HBy.out.drew.alloc HBy.out.size _);go_wp2_with fail
   go_region_law (first
    |(refine qB (by rfl) (.const (.slice none 0 0)) (.tmp 24) rfl _ (.slice none 0 0) [] (l.take l.length) rfl (World.ownsRow_nil _ _ _ _) _ rfl (by first |exact H1.out.old HBy.out.drew |exact H1.out.old HBF.out) (by have:=HKL.out;simp only[List.length_nil];omega) (Nat.le_refl _) ?_;intro v5 w5 o5 b5
      have HO5:=ze (zY o5 (show w.heap.size<= _ from by first |exact HBy.out.size |exact HBF.out.size));have HB5:=ze (show Below w.heap.size w w5 from by first |exact HBy.out.drew.trans (b5.mono HBy.out.size) |exact HBF.out.trans (b5.mono HBF.out.size));have HC5:=ze b5
      have hb5:w5.heap[w.heap.size]? =Y.heap[w.heap.size]? :=by first |exact b5.block _ HYL.out |exact(b5.block _ (by simp;exact Nat.lt_succ_of_lt HYL.out)).trans (Below.heap_alloc Y.drew _ _ HYL.out)
      have p0:=(World.cell?_of_block (w:=Y) (a:=⟨w.heap.size,0,none⟩) hb5).trans q0;have p1:=(World.cell?_of_block (w:=Y) (a:=⟨w.heap.size,1,none⟩) hb5).trans q1;have p2':=(World.cell?_of_block (w:=Y) (a:=⟨w.heap.size,2,none⟩) hb5).trans q2
      clear o5 b5 hb5)
    |(refine qu (by rfl) (.tmp 25) (.tmp 27) rfl w.heap.size _ ([]++l.take l.length) (p,x,t) rfl (World.ownsRow.alloc HO5.out _) _ rfl (zy.one (heap_alloc_new w5 _) rfl) (by have:=HKL.out;simp only[List.nil_append];omega) (by have:=HB5.out.size;simp;omega) ?_;intro v6 w6 o6 b6
      have HO6:=ze o6;have HB6:=ze ((HB5.out.alloc HB5.out.size _).trans b6)
      clear o6 b6)
    |(refine qu (by rfl) (.tmp 25) (.tmp 27) rfl w.heap.size _ ([]++l.take l.length) (p,x,t) rfl HO5.out _ rfl (zy.old (zy.one (heap_alloc_new Y.drew _) rfl) HC5.out) (by have:=HKL.out;simp only[List.nil_append];omega) HB5.out.size ?_;intro v6 w6 o6 b6
      have HO6:=ze o6;have HB6:=ze (HB5.out.trans b6)
      clear o6 b6)
    |(refine qB (by rfl) (.tmp 28) (.tmp 31) rfl w.heap.size _ ([]++l.take l.length++[(p,x,t)]) (l.drop l.length) rfl HO6.out _ rfl (H2.out.old HB6.out) (by have:=HKL.out;simp only[List.nil_append,List.length_append,List.length_singleton];omega) HB6.out.size ?_;intro v7 w7 o7 b7
      have HO7:=ze o7;have HB7:=ze (HB6.out.trans b7)
      clear o7 b7))
   all_goals(
    go_wp2_with fail;go_ret;rw[<-HSO.out]
    exact⟨_,rfl,HO7.out,HB7.out⟩)
end
open Go.RowKit
open BigFrame
theorem fam(w:World):∃ (ι:Type) (_:Nonempty ι) (f:ι->World),(∀i,Below w.heap.size w (f i))/\∀w',Below w.heap.size w w'->∃i,w'=f i:=
 ⟨{w':World // Below w.heap.size w w'},⟨⟨w,Below.refl _ _⟩⟩,Subtype.val,fun i=>i.2,fun w' h=>⟨⟨w',h⟩,rfl⟩⟩
section
variable{ι:Type}{f:ι->World}{w:World}
theorem yE(hf:∀i,Below w.heap.size w (f i)){a:Addr}{v:Value}(h:w.cell? a=some v):∀i,(f i).cell? a=some v:=fun i=>
 (World.cell?_of_block ((hf i).block _ (World.block_lt_of_cell? w _ h))).trans h
theorem jC{P:Program}{F:FuncId}{args:Array Value}{v:Value}{n:ι}(hf:∀i,Below w.heap.size w (f i))(hc:∀w',Below w.heap.size w w'->∃i,w'=f i)
  (h:Calls P F args (f n) fun e w'=>e= .returned v/\Below (f n).heap.size (f n) w'):Calls P F args (f n) fun e w''=>e= .returned v/\∃m,w''=f m:=
 h.mono fun _ w' ⟨he,hb⟩=>⟨he,hc w' (zi (hf n) hb (hf n).size)⟩
end
open Go.RowKit
def zfz(pre:List zg)(f:zg):Bool:=
 yZ f.1&&(decide (f.2.2.length<=20000)&&((match pre.getLast? with |some g=>!(xv f.1 g.1 ||f.1==g.1) |none=>true)&&pre.all fun g=>!yS g.1 f.1))
def zby:List zg->List zg->Bool
 | _,[]=>true
 |pre,f::r=>zfz pre f&&zby (pre++[f]) r
def yf(l:List zg):Bool:=decide (l.length<=100)&&zby [] l
section
theorem zbd(v:Value)(l:List zg)(w:World)(hv:yM w v l):
  Calls Tryz.prog 21 #[v] w fun e w'=>e= .returned (.bool (yf l))/\Below w.heap.size w w':=by
 obtain⟨ao,cap,rfl⟩:=hv.form;have HV:=ze hv;clear hv
 by_cases h100:l.length<=100
 ·have hl1:decide (100 <(l.length:Int))=false:=decide_eq_false (by omega)
  have hl2:decide (100<l.length)=false:=decide_eq_false (by omega);have HR:=ze (show yf l=zby [] l by unfold yf;rw[decide_eq_true h100,Bool.true_and]);have HL:=ze h100;clear h100
  go_enter Tryz.func21,Tryz.ntmps21
  go_wp2_with fail
  go_loopg [3] l.length (fun g i wr=>∃k:Nat,k<=l.length/\l.length-k=g/\i= .int .i64 k/\Hid (yf l=zby (l.take k) (l.drop k))/\Below w.heap.size w wr)
  case atStart=>exact⟨0,Nat.zero_le _,rfl,rfl,ze (by rw[HR.out];rfl),Below.refl _ _⟩
  case round=>
   obtain⟨k,hk,rfl,rfl,HA,hbx⟩:=hrel;have hzx:=hbx.size;have k0:(0:Int)<=(k:Int):=Int.natCast_nonneg _
   by_cases hlt:k<l.length
   ·have k1:(k:Int)<(l.length:Int):=by omega
    have kw:IntKind.i64.wrap ((k:Int)+1)=(k:Int)+1:=IntWalk.i64_in _ (by have:=HL.out;omega);obtain⟨b,o,p,x,t,rfl,he,c1,c2,c3⟩:=yM.at (HV.out.old hbx) hlt;have hd:=yP he
    have ht:l.take (k+1)=l.take k++[(p,x,t)]:=by rw[List.take_add_one,he];rfl
    have HX:=ze (show yf l=(zfz (l.take k) (p,x,t)&&zby (l.take (k+1)) (l.drop (k+1))) by rw[HA.out,hd,zby,ht]);have HP:=ze (fun wy=>ziq p wy);obtain⟨rp,hrp⟩:∃z,yZ p=z:=⟨_,rfl⟩;have HOK:=ze (show zfz (l.take k) (p,x,t)=(rp&&(decide (t.length<=20000)&&((match(l.take k).getLast? with |some g=>!(xv p g.1 ||p==g.1) |none=>true)&&(l.take k).all fun g=>!yS g.1 p))) by rw[<-hrp];rfl);rw[hrp]at HP;unfold zq at HP;have HE:=ze he;clear he hd ht hrp HA;obtain⟨ok3,hok3⟩:∃z,(rp&&(decide (t.length<=20000)&&(match(l.take k).getLast? with |some g=>!(xv p g.1 ||p==g.1) |none=>true)))=z:=⟨_,rfl⟩;have HOK2:=ze (show zfz (l.take k) (p,x,t)=(ok3&&(l.take k).all fun g=>!yS g.1 p) by rw[HOK.out,<-hok3];simp only[Bool.and_assoc]);have HO3:=ze hok3;clear hok3 HOK
    go_upto_region 6 with fail
    go_cut [47]from 14 to 47 (fun q wx=>q= .bool (!ok3)/\Below w.heap.size w wx)
    case first=>
     obtain⟨ι,_,f,hf,hc⟩:=fam wr;have c1:=yE hf c1;have c3:=yE hf c3
     cases rp with
     |false=>
      have HQ:=ze (show ok3=false by rw[<-HO3.out];rfl);refine zV (fun w'=>∃i,w'=f i) (by kernel_rfl) (by kernel_rfl) (hc _ ((Below.refl _ _).drew)) ?_
      repeat(go_big_quiet_step ((go_at_call 42;exact jC hf hc (HP.out _))))
      refine wpQuiet_nil ?_;intro _ hw';obtain⟨nq,hw''⟩:=hw';subst hw'';go_wp2_with fail
      go_meet
      exact⟨by rw[HQ.out];rfl,zi hbx (hf nq) hzx⟩
     |true=>
      by_cases ht:t.length<=20000
      ·have t1:decide (20000 <(t.length:Int))=false:=decide_eq_false (by omega)
       have t2:decide (20000<t.length)=false:=decide_eq_false (by omega)
       by_cases hk0:k=0
       ·have z1:decide (0 <(k:Int))=false:=decide_eq_false (by omega)
        have z2:decide (0<k)=false:=decide_eq_false (by omega);have HQ:=ze (show ok3=true by rw[<-HO3.out,decide_eq_true ht,hk0];rfl);clear hk0 ht;refine zV (fun w'=>∃i,w'=f i) (by kernel_rfl) (by kernel_rfl) (hc _ ((Below.refl _ _).drew)) ?_
        repeat(go_big_quiet_step ((go_at_call 42;exact jC hf hc (HP.out _))))
        refine wpQuiet_nil ?_;intro _ hw';obtain⟨nq,hw''⟩:=hw';subst hw'';go_wp2_with fail
        go_meet
        exact⟨by rw[HQ.out];rfl,zi hbx (hf nq) hzx⟩
       ·have z1:decide (0 <(k:Int))=true:=decide_eq_true (by omega)
        have z2:decide (0<k)=true:=decide_eq_true (by omega);obtain⟨j,hj⟩:∃j,k=j+1:=⟨k-1,by omega⟩;have j0:(0:Int)<=(j:Int):=Int.natCast_nonneg _
        have jl:(j:Int)<(l.length:Int):=by omega
        have jw:IntKind.i64.wrap ((k:Int)-1)=(j:Int):=(IntWalk.i64_in _ (by have:=HL.out;omega)).trans (by omega);obtain⟨b',o',pj,xj,tj,hao,hej,cj,_,_⟩:=yM.at (HV.out.old hbx) (i:=j) (by omega);cases hao;have cj:=yE hf cj
        have hgl:(l.take k).getLast? =some (pj,xj,tj):=by
         rw[hj,List.take_add_one,hej];simp
        have HQ:=ze (show ok3=!(xv p pj ||p==pj) by rw[<-HO3.out,decide_eq_true ht,hgl];rfl);clear hk0 ht hgl hej hj;obtain⟨e1,he1⟩:∃z,Op.bytesLess p pj=z:=⟨_,rfl⟩;obtain⟨e2,he2⟩:∃z,(p==pj)=z:=⟨_,rfl⟩;have HQ:=ze (show ok3=!(e1 ||e2) by rw[HQ.out,<-he1,<-he2]);refine zV (fun w'=>∃i,w'=f i) (by kernel_rfl) (by kernel_rfl) (hc _ ((Below.refl _ _).drew)) ?_
        repeat(go_big_quiet_step ((go_at_call 42;exact jC hf hc (HP.out _))))
        refine wpQuiet_nil ?_;intro _ hw';obtain⟨nq,hw''⟩:=hw';subst hw'';go_wp2_with fail
        go_meet
        exact⟨by rw[HQ.out];simp,zi hbx (hf nq) hzx⟩
      ·have t1:decide (20000 <(t.length:Int))=true:=decide_eq_true (by omega)
       have t2:decide (20000<t.length)=true:=decide_eq_true (by omega);have HQ:=ze (show ok3=false by rw[<-HO3.out,decide_eq_false ht];rfl);clear ht;refine zV (fun w'=>∃i,w'=f i) (by kernel_rfl) (by kernel_rfl) (hc _ ((Below.refl _ _).drew)) ?_
       repeat(go_big_quiet_step ((go_at_call 42;exact jC hf hc (HP.out _))))
       refine wpQuiet_nil ?_;intro _ hw';obtain⟨nq,hw''⟩:=hw';subst hw'';go_wp2_with fail
       go_meet
       exact⟨by rw[HQ.out];rfl,zi hbx (hf nq) hzx⟩
    case rest=>
     obtain⟨rfl,hbc⟩:=hcut
     cases ok3 with
     |false=>
      have HF:=ze (show yf l=false by rw[HX.out,HOK2.out];rfl);clear HX HOK2 HO3;go_wp2_with fail;go_ret;exact⟨by rw[HF.out];rfl,hbc⟩
     |true=>
      have HY:=ze (show yf l=(((l.take k).all fun g=>!yS g.1 p)&&zby (l.take (k+1)) (l.drop (k+1))) by rw[HX.out,HOK2.out,Bool.true_and]);clear HX HOK2 HO3;go_wp2_with fail
      go_loopg [4] k (fun g i wy=>∃j:Nat,j<=k/\k-j=g/\i= .int .i64 j/\Hid (yf l=((((l.take k).drop j).all fun g=>!yS g.1 p)&&zby (l.take (k+1)) (l.drop (k+1))))/\Below w.heap.size w wy)
      case atStart=>exact⟨0,Nat.zero_le _,rfl,rfl,HY,hbc⟩
      case round=>
       obtain⟨j,hj,rfl,rfl,HB,hby⟩:=hrel;clear HY;have j0:(0:Int)<=(j:Int):=Int.natCast_nonneg _
       by_cases hjk:j<k
       ·have j1:(j:Int)<(k:Int):=by omega
        have j2:(j:Int)<(l.length:Int):=by omega
        have jw:IntKind.i64.wrap ((j:Int)+1)=(j:Int)+1:=IntWalk.i64_in _ (by have:=HL.out;omega);obtain⟨b1,o1,pj,xj,tj,hao,hej,cj,_,_⟩:=yM.at (HV.out.old hby) (i:=j) (by omega);cases hao;obtain⟨b2,o2,p2,x2,t2,hao,he2,ck,_,_⟩:=yM.at (HV.out.old hby) hlt;cases hao;cases HE.out.symm.trans he2;clear he2;have hd:=yP (l:=l.take k) (show(l.take k)[j]? =some (pj,xj,tj) by rw[List.getElem?_take_of_lt hjk];exact hej);obtain⟨y,hy⟩:∃y,yS pj p=y:=⟨_,rfl⟩;have HB2:=ze (show yf l=((!y&&((l.take k).drop (j+1)).all fun g=>!yS g.1 p)&&zby (l.take (k+1)) (l.drop (k+1))) by rw[HB.out,hd,List.all_cons,hy]);have HC:=ze (fun wz=>zhx pj p wz);rw[hy]at HC;unfold zq at HC;clear hej hd hy HB;obtain⟨ι,_,f,hf,hc⟩:=fam wr;have cj:=yE hf cj;have ck:=yE hf ck
        go_upto_region 11 with fail
        cases y with
        |true=>
         have HF:=ze (show yf l=false by rw[HB2.out];rfl);clear HB2;refine zV (fun w'=>∃i,w'=f i) (by kernel_rfl) (by kernel_rfl) (hc _ ((Below.refl _ _).drew)) ?_
         repeat(go_big_quiet_step ((go_at_call 23;exact jC hf hc ((HC.out _).mono (fun _ _ ⟨h1,h2⟩=>⟨h1,h2 ▸ Below.refl _ _⟩)))))
         refine wpQuiet_nil ?_;intro _ hw';obtain⟨nq,hw''⟩:=hw';subst hw'';go_wp2_with fail;go_ret;exact⟨by rw[HF.out];rfl,zi hby (hf nq) hby.size⟩
        |false=>
         have HF:=ze (show yf l=((((l.take k).drop (j+1)).all fun g=>!yS g.1 p)&&zby (l.take (k+1)) (l.drop (k+1))) by rw[HB2.out];rfl);clear HB2;refine zV (fun w'=>∃i,w'=f i) (by kernel_rfl) (by kernel_rfl) (hc _ ((Below.refl _ _).drew)) ?_
         repeat(go_big_quiet_step ((go_at_call 23;exact jC hf hc ((HC.out _).mono (fun _ _ ⟨h1,h2⟩=>⟨h1,h2 ▸ Below.refl _ _⟩)))))
         refine wpQuiet_nil ?_;intro _ hw';obtain⟨nq,hw''⟩:=hw';subst hw'';go_wp2_with fail
         go_roundg (k-(j+1))
         case measure=>omega
         case rel=>exact⟨j+1,by omega,rfl,by go_num,HF,zi hby (hf nq) hby.size⟩
       ·obtain rfl:j=k:=by omega
        have hneg:¬(j:Int)<(j:Int):=by omega
        have hz:(l.take j).drop j=[]:=by rw[List.drop_eq_nil_iff,List.length_take];omega
        have HZ:=ze (show yf l=zby (l.take (j+1)) (l.drop (j+1)) by rw[HB.out,hz];rfl);clear hz HB;go_wp2_with fail
        go_roundg (l.length-(j+1))
        case measure=>omega
        case rel=>exact⟨j+1,by omega,rfl,by go_num,HZ,hby⟩
   ·obtain rfl:k=l.length:=by omega
    have hneg:¬(l.length:Int)<(l.length:Int):=by omega
    have HF:=ze (show yf l=true by rw[HA.out,List.drop_length];rfl);go_wp2_with fail;go_ret;exact⟨by rw[HF.out];rfl,hbx⟩
 ·have hl1:decide (100 <(l.length:Int))=true:=decide_eq_true (by omega)
  have hl2:decide (100<l.length)=true:=decide_eq_true (by omega);have HR:=ze (show yf l=false by unfold yf;rw[decide_eq_false h100,Bool.false_and]);clear h100
  go_enter Tryz.func21,Tryz.ntmps21
  go_wp2_with fail;go_ret;exact⟨by rw[HR.out];rfl,Below.refl _ _⟩
end
open Go.RowKit
open BigFrame
def zrW(l:List zg)(p:List UInt8):List zg × Nat:=
 if yf l=true then(if(zz l p).isSome=true then(yv l p,0)else([],8))else([],5)
def zak(l:List zg)(f:zg):List zg × Nat:=
 if yf l=true then
  (if yZ f.1=true then
   (if f.2.2.length<=20000 then
    (if(!(zz l f.1).isSome&&yG l f.1)=true then([],11)
     else if(!(zz l f.1).isSome&&decide (100<=l.length))=true then([],6)
     else(yC (yv l f.1) f,0))
    else([],6))
   else([],11))
 else([],5)
theorem znb{l:List zg}(h:yf l=true):l.length<=100:=by
 unfold yf at h;simp only[Bool.and_eq_true,decide_eq_true_eq]at h;exact h.1
section
theorem zf{W w:World}{a:Addr}{v:Value}(hb:Below W.heap.size W w)(h:W.cell? a=some v):w.cell? a=some v:=
 (World.cell?_of_block (hb.block _ (World.block_lt_of_cell? W _ h))).trans h
theorem zpx(v:Value)(l:List zg)(p t:List UInt8)(x:Bool)(w:World)(hv:yM w v l):
  Calls Tryz.prog 22 #[v,.agg #[zq p,.bool x,zq t]] w fun e w'=>∃u,e= .returned (.tuple #[u,.int .i64 (zak l (p,x,t)).2])/\zI w' w.heap.size u (zak l (p,x,t)).1/\Below w.heap.size w w':=by
 obtain⟨ao,cap,rfl⟩:=hv.form;have HB0:=ze ((Below.refl _ w).alloc (Nat.le_refl w.heap.size) (.cells #[.string ⟨p.toArray⟩,.bool x,.string ⟨t.toArray⟩] 28));have HV:=ze (hv.old HB0.out);have hg:=heap_alloc_new w (.cells #[.string ⟨p.toArray⟩,.bool x,.string ⟨t.toArray⟩] 28);have HC0:=ze (zd (i:=0) hg rfl);have HC1:=ze (zd (i:=1) hg rfl);have HC2:=ze (zd (i:=2) hg rfl);clear hv hg;unfold zq
 go_enter Tryz.func22,Tryz.ntmps22
 go_wp2_with fail;generalize w.alloc (.cells #[.string ⟨p.toArray⟩,.bool x,.string ⟨t.toArray⟩] 28)=W at HV HB0 HC0 HC1 HC2 ⊢;generalize w.heap.size=g at HC0 HC1 HC2 ⊢;have HK:=ze (Below.refl W.heap.size W);have HR:=ze (fun(wy:World) (h:Below W.heap.size W wy)=>zbd _ l wy (HV.out.old h));have HP:=ze (fun(wy:World)=>ziq p wy);obtain⟨r,hr⟩:∃r,yf l=r:=⟨_,rfl⟩;obtain⟨rp,hrp⟩:∃r,yZ p=r:=⟨_,rfl⟩;rw[hr]at HR;rw[hrp]at HP;unfold zq at HP
 cases r with
 |false=>
  have HD:=ze (show zak l (p,x,t)=([],5) by unfold zak;rw[hr];rfl);clear hr hrp
  go_wp2_with (first
   |(go_at_call 21;refine(HR.out _ HK.out).mono ?_;rintro e w1 ⟨rfl,hb1⟩;have HK:=ze (zi HK.out hb1 HK.out.size);have c0:=zf HK.out HC0.out;have c1:=zf HK.out HC1.out;have c2:=zf HK.out HC2.out;clear hb1))
  refine bodyPost_ret (results_tmp2 rfl _ _ _) rfl ?_;rw[HD.out];exact⟨_,rfl,World.ownsRow_nil _ _ _ _,zi HB0.out HK.out HB0.out.size⟩
 |true=>
 have HL:=ze (znb hr)
 cases rp with
 |false=>
  have HD:=ze (show zak l (p,x,t)=([],11) by unfold zak;rw[hr,hrp];rfl);clear hr hrp
  go_wp2_with (first
   |(go_at_call 21;refine(HR.out _ HK.out).mono ?_;rintro e w1 ⟨rfl,hb1⟩;have HK:=ze (zi HK.out hb1 HK.out.size);have c0:=zf HK.out HC0.out;have c1:=zf HK.out HC1.out;have c2:=zf HK.out HC2.out;clear hb1)
   |(go_at_call 42;refine(HP.out _).mono ?_;rintro e w1 ⟨rfl,hb1⟩;have HK:=ze (zi HK.out hb1 HK.out.size);have c0:=zf HK.out HC0.out;have c1:=zf HK.out HC1.out;have c2:=zf HK.out HC2.out;clear hb1))
  refine bodyPost_ret (results_tmp2 rfl _ _ _) rfl ?_;rw[HD.out];exact⟨_,rfl,World.ownsRow_nil _ _ _ _,zi HB0.out HK.out HB0.out.size⟩
 |true=>
 by_cases ht:t.length<=20000
 case neg=>
  have t1:decide (20000 <(t.length:Int))=true:=decide_eq_true (by omega);have t2:decide (20000<t.length)=true:=decide_eq_true (by omega);have HD:=ze (show zak l (p,x,t)=([],6) by unfold zak;rw[hr,hrp,if_pos rfl,if_pos rfl,if_neg ht]);clear hr hrp ht
  go_wp2_with (first
   |(go_at_call 21;refine(HR.out _ HK.out).mono ?_;rintro e w1 ⟨rfl,hb1⟩;have HK:=ze (zi HK.out hb1 HK.out.size);have c0:=zf HK.out HC0.out;have c1:=zf HK.out HC1.out;have c2:=zf HK.out HC2.out;clear hb1)
   |(go_at_call 42;refine(HP.out _).mono ?_;rintro e w1 ⟨rfl,hb1⟩;have HK:=ze (zi HK.out hb1 HK.out.size);have c0:=zf HK.out HC0.out;have c1:=zf HK.out HC1.out;have c2:=zf HK.out HC2.out;clear hb1))
  refine bodyPost_ret (results_tmp2 rfl _ _ _) rfl ?_;rw[HD.out];exact⟨_,rfl,World.ownsRow_nil _ _ _ _,zi HB0.out HK.out HB0.out.size⟩
 have t1:decide (20000 <(t.length:Int))=false:=decide_eq_false (by omega);have t2:decide (20000<t.length)=false:=decide_eq_false (by omega);have HF:=ze (fun(wy:World) (h:Below W.heap.size W wy)=>kU _ l p wy (HV.out.old h) (by have:=HL.out;omega));have HW:=ze (fun(wy:World) (h:Below W.heap.size W wy)=>zju _ l p wy (HV.out.old h) (by have:=HL.out;omega));have HCl:=ze (fun(wy:World) (h:Below W.heap.size W wy)=>zeK _ l p wy (HV.out.old h) (by have:=HL.out;omega));have HSo:=ze (fun(u:Value) (wy:World) (h:yM wy u (yv l p))=>zdd u _ p t x wy h (by have:=HL.out;have:(yv l p).length<=l.length:=List.length_filter_le _ _;omega));have HD0:=ze (show zak l (p,x,t)=(if(!(zz l p).isSome&&yG l p)=true then([],11)else if(!(zz l p).isSome&&decide (100<=l.length))=true then([],6)else(yC (yv l p) (p,x,t),0)) by unfold zak;rw[hr,hrp,if_pos rfl,if_pos rfl,if_pos ht]);obtain⟨⟨fp,fx,ft⟩,hff⟩:∃f,(zz l p).getD zM=f:=⟨_,rfl⟩;obtain⟨is,his⟩:∃z,(zz l p).isSome=z:=⟨_,rfl⟩;obtain⟨y,hy⟩:∃z,yG l p=z:=⟨_,rfl⟩;rw[hff,his]at HF;rw[hy]at HCl;rw[his,hy]at HD0;unfold ye zq at HF;unfold zq at HW HCl HSo;clear hff his hy hr hrp ht
 cases is with
 |true=>
  have HD:=ze (show zak l (p,x,t)=(yC (yv l p) (p,x,t),0) by rw[HD0.out];rfl)
  go_wp2_with (first
   |(go_at_call 21;refine(HR.out _ HK.out).mono ?_;rintro e w1 ⟨rfl,hb1⟩;have HK:=ze (zi HK.out hb1 HK.out.size);have c0:=zf HK.out HC0.out;have c1:=zf HK.out HC1.out;have c2:=zf HK.out HC2.out;clear hb1)
   |(go_at_call 42;refine(HP.out _).mono ?_;rintro e w1 ⟨rfl,hb1⟩;have HK:=ze (zi HK.out hb1 HK.out.size);have c0:=zf HK.out HC0.out;have c1:=zf HK.out HC1.out;have c2:=zf HK.out HC2.out;clear hb1)
   |(go_at_call 20;refine(HF.out _ HK.out).mono ?_;rintro e w1 ⟨rfl,hb1⟩;have HK:=ze (zi HK.out hb1 HK.out.size);have c0:=zf HK.out HC0.out;have c1:=zf HK.out HC1.out;have c2:=zf HK.out HC2.out;clear hb1)
   |(go_at_call 43;refine(HW.out _ HK.out).mono ?_;rintro e w1 ⟨u3,rfl,ho3,hb1⟩;have HO3:=ze ho3.sl;have HK:=ze (zi HK.out hb1 HK.out.size);have c0:=zf HK.out HC0.out;have c1:=zf HK.out HC1.out;have c2:=zf HK.out HC2.out;clear hb1 ho3)
   |(go_at_call 45;refine(HSo.out _ _ HO3.out).mono ?_;rintro e w1 ⟨u4,rfl,ho4,hb1⟩;have HO4:=ze (zY ho4 (Nat.le_trans HB0.out.size HK.out.size));have HK:=ze (zi HK.out hb1 HK.out.size);clear hb1 ho4)
   |(refine zB rfl 28 _ _ rfl _ #[.string ⟨fp.toArray⟩,.bool fx,.string ⟨ft.toArray⟩] rfl rfl _ _ (heap_alloc_new _ _) 3 Tryz.sizeFile rfl rfl (by simp[Value.oneCell']) ?_;intro w9 hg9 hk9;have HK:=ze ((HK.out.alloc HK.out.size _).trans (hk9.below (Nat.le_trans HK.out.size (by simp)) (fun j hj e=>by have:=HK.out.size;omega)));have c0:=zf HK.out HC0.out;have c1:=zf HK.out HC1.out;have c2:=zf HK.out HC2.out;clear hg9 hk9))
  refine bodyPost_ret (results_tmp2 rfl _ _ _) rfl ?_;rw[HD.out];exact⟨_,rfl,HO4.out,zi HB0.out HK.out HB0.out.size⟩
 |false=>
 cases y with
 |true=>
  have HD:=ze (show zak l (p,x,t)=([],11) by rw[HD0.out];rfl)
  go_wp2_with (first
   |(go_at_call 21;refine(HR.out _ HK.out).mono ?_;rintro e w1 ⟨rfl,hb1⟩;have HK:=ze (zi HK.out hb1 HK.out.size);have c0:=zf HK.out HC0.out;have c1:=zf HK.out HC1.out;have c2:=zf HK.out HC2.out;clear hb1)
   |(go_at_call 42;refine(HP.out _).mono ?_;rintro e w1 ⟨rfl,hb1⟩;have HK:=ze (zi HK.out hb1 HK.out.size);have c0:=zf HK.out HC0.out;have c1:=zf HK.out HC1.out;have c2:=zf HK.out HC2.out;clear hb1)
   |(go_at_call 20;refine(HF.out _ HK.out).mono ?_;rintro e w1 ⟨rfl,hb1⟩;have HK:=ze (zi HK.out hb1 HK.out.size);have c0:=zf HK.out HC0.out;have c1:=zf HK.out HC1.out;have c2:=zf HK.out HC2.out;clear hb1)
   |(go_at_call 43;refine(HW.out _ HK.out).mono ?_;rintro e w1 ⟨u3,rfl,ho3,hb1⟩;have HO3:=ze ho3.sl;have HK:=ze (zi HK.out hb1 HK.out.size);have c0:=zf HK.out HC0.out;have c1:=zf HK.out HC1.out;have c2:=zf HK.out HC2.out;clear hb1 ho3)
   |(go_at_call 44;refine(HCl.out _ HK.out).mono ?_;rintro e _ ⟨rfl,rfl⟩)
   |(refine zB rfl 28 _ _ rfl _ #[.string ⟨fp.toArray⟩,.bool fx,.string ⟨ft.toArray⟩] rfl rfl _ _ (heap_alloc_new _ _) 3 Tryz.sizeFile rfl rfl (by simp[Value.oneCell']) ?_;intro w9 hg9 hk9;have HK:=ze ((HK.out.alloc HK.out.size _).trans (hk9.below (Nat.le_trans HK.out.size (by simp)) (fun j hj e=>by have:=HK.out.size;omega)));have c0:=zf HK.out HC0.out;have c1:=zf HK.out HC1.out;have c2:=zf HK.out HC2.out;clear hg9 hk9))
  refine bodyPost_ret (results_tmp2 rfl _ _ _) rfl ?_;rw[HD.out];exact⟨_,rfl,World.ownsRow_nil _ _ _ _,zi HB0.out HK.out HB0.out.size⟩
 |false=>
 by_cases h100:100<=l.length
 ·have z1:decide (100<=(l.length:Int))=true:=decide_eq_true (by omega)
  have z2:decide (100<=l.length)=true:=decide_eq_true h100;have HD:=ze (show zak l (p,x,t)=([],6) by rw[HD0.out,z2];rfl)
  go_wp2_with (first
   |(go_at_call 21;refine(HR.out _ HK.out).mono ?_;rintro e w1 ⟨rfl,hb1⟩;have HK:=ze (zi HK.out hb1 HK.out.size);have c0:=zf HK.out HC0.out;have c1:=zf HK.out HC1.out;have c2:=zf HK.out HC2.out;clear hb1)
   |(go_at_call 42;refine(HP.out _).mono ?_;rintro e w1 ⟨rfl,hb1⟩;have HK:=ze (zi HK.out hb1 HK.out.size);have c0:=zf HK.out HC0.out;have c1:=zf HK.out HC1.out;have c2:=zf HK.out HC2.out;clear hb1)
   |(go_at_call 20;refine(HF.out _ HK.out).mono ?_;rintro e w1 ⟨rfl,hb1⟩;have HK:=ze (zi HK.out hb1 HK.out.size);have c0:=zf HK.out HC0.out;have c1:=zf HK.out HC1.out;have c2:=zf HK.out HC2.out;clear hb1)
   |(go_at_call 43;refine(HW.out _ HK.out).mono ?_;rintro e w1 ⟨u3,rfl,ho3,hb1⟩;have HO3:=ze ho3.sl;have HK:=ze (zi HK.out hb1 HK.out.size);have c0:=zf HK.out HC0.out;have c1:=zf HK.out HC1.out;have c2:=zf HK.out HC2.out;clear hb1 ho3)
   |(go_at_call 44;refine(HCl.out _ HK.out).mono ?_;rintro e _ ⟨rfl,rfl⟩)
   |(refine zB rfl 28 _ _ rfl _ #[.string ⟨fp.toArray⟩,.bool fx,.string ⟨ft.toArray⟩] rfl rfl _ _ (heap_alloc_new _ _) 3 Tryz.sizeFile rfl rfl (by simp[Value.oneCell']) ?_;intro w9 hg9 hk9;have HK:=ze ((HK.out.alloc HK.out.size _).trans (hk9.below (Nat.le_trans HK.out.size (by simp)) (fun j hj e=>by have:=HK.out.size;omega)));have c0:=zf HK.out HC0.out;have c1:=zf HK.out HC1.out;have c2:=zf HK.out HC2.out;clear hg9 hk9))
  refine bodyPost_ret (results_tmp2 rfl _ _ _) rfl ?_;rw[HD.out];exact⟨_,rfl,World.ownsRow_nil _ _ _ _,zi HB0.out HK.out HB0.out.size⟩
 ·have z1:decide (100<=(l.length:Int))=false:=decide_eq_false (by omega)
  have z2:decide (100<=l.length)=false:=decide_eq_false h100;have HD:=ze (show zak l (p,x,t)=(yC (yv l p) (p,x,t),0) by rw[HD0.out,z2];rfl)
  go_wp2_with (first
   |(go_at_call 21;refine(HR.out _ HK.out).mono ?_;rintro e w1 ⟨rfl,hb1⟩;have HK:=ze (zi HK.out hb1 HK.out.size);have c0:=zf HK.out HC0.out;have c1:=zf HK.out HC1.out;have c2:=zf HK.out HC2.out;clear hb1)
   |(go_at_call 42;refine(HP.out _).mono ?_;rintro e w1 ⟨rfl,hb1⟩;have HK:=ze (zi HK.out hb1 HK.out.size);have c0:=zf HK.out HC0.out;have c1:=zf HK.out HC1.out;have c2:=zf HK.out HC2.out;clear hb1)
   |(go_at_call 20;refine(HF.out _ HK.out).mono ?_;rintro e w1 ⟨rfl,hb1⟩;have HK:=ze (zi HK.out hb1 HK.out.size);have c0:=zf HK.out HC0.out;have c1:=zf HK.out HC1.out;have c2:=zf HK.out HC2.out;clear hb1)
   |(go_at_call 43;refine(HW.out _ HK.out).mono ?_;rintro e w1 ⟨u3,rfl,ho3,hb1⟩;have HO3:=ze ho3.sl;have HK:=ze (zi HK.out hb1 HK.out.size);have c0:=zf HK.out HC0.out;have c1:=zf HK.out HC1.out;have c2:=zf HK.out HC2.out;clear hb1 ho3)
   |(go_at_call 44;refine(HCl.out _ HK.out).mono ?_;rintro e _ ⟨rfl,rfl⟩)
   |(go_at_call 45;refine(HSo.out _ _ HO3.out).mono ?_;rintro e w1 ⟨u4,rfl,ho4,hb1⟩;have HO4:=ze (zY ho4 (Nat.le_trans HB0.out.size HK.out.size));have HK:=ze (zi HK.out hb1 HK.out.size);clear hb1 ho4)
   |(refine zB rfl 28 _ _ rfl _ #[.string ⟨fp.toArray⟩,.bool fx,.string ⟨ft.toArray⟩] rfl rfl _ _ (heap_alloc_new _ _) 3 Tryz.sizeFile rfl rfl (by simp[Value.oneCell']) ?_;intro w9 hg9 hk9;have HK:=ze ((HK.out.alloc HK.out.size _).trans (hk9.below (Nat.le_trans HK.out.size (by simp)) (fun j hj e=>by have:=HK.out.size;omega)));have c0:=zf HK.out HC0.out;have c1:=zf HK.out HC1.out;have c2:=zf HK.out HC2.out;clear hg9 hk9))
  refine bodyPost_ret (results_tmp2 rfl _ _ _) rfl ?_;rw[HD.out];exact⟨_,rfl,HO4.out,zi HB0.out HK.out HB0.out.size⟩
end
open Go.RowKit
abbrev xz:=List UInt8 × Bool × Bool × List UInt8
def zsy:Enc xz:=⟨4,by omega,fun f=>[zq f.1,.bool f.2.1,.bool f.2.2.1,zq f.2.2.2],fun _ =>rfl,fun f u hu=>by
 simp only[List.mem_cons,List.not_mem_nil,or_false]at hu
 rcases hu with rfl |rfl |rfl |rfl <;> rfl⟩
def zso(f:xz):Value:= .agg #[zq f.1,.bool f.2.1,.bool f.2.2.1,zq f.2.2.2]
abbrev SlH(w:World)(v:Value)(fs:List xz):Prop:=zy zsy w v fs
theorem SlH.at{w:World}{ao:Option Addr}{n cap:Nat}{fs:List xz}(h:SlH w (.slice ao n cap) fs){i:Nat}(hi:i<fs.length):
  ∃b o p d x t,ao=some ⟨b,o,none⟩/\fs[i]? =some (p,d,x,t)/\w.cell? ⟨b,o+i*4,none⟩=some (.string ⟨List.toArray p⟩)/\w.cell? ⟨b,o+i*4+1,none⟩=some (.bool d)/\w.cell? ⟨b,o+i*4+2,none⟩=some (.bool x)/\w.cell? ⟨b,o+i*4+3,none⟩=some (.string ⟨List.toArray t⟩):=by
 obtain⟨b,o,⟨p,d,x,t⟩,ha,hx,hc⟩:=zy.at' h hi;exact⟨b,o,p,d,x,t,ha,hx,hc 0 _ rfl,hc 1 _ rfl,hc 2 _ rfl,hc 3 _ rfl⟩
section
variable{w:World}
end
open Go.RowKit
open BigFrame
def zps(l:List zg)(c:xz):List zg × Nat:=if c.2.1=true then zrW l c.1 else zak l (c.1,c.2.2.1,c.2.2.2)
def zpN:List zg->List xz->List zg × Nat
 |l,[]=>(l,0)
 |l,c::r=>if(zps l c).2=0 then zpN (zps l c).1 r else([],(zps l c).2)
def zsB(l:List zg)(c:List xz):List zg × Nat:=
 if yf l=true then(if c.length<=100 then zpN l c else([],6))else([],5)
section
end
end Go.Proofs.YtbnafihigoekeaaGreatDoor

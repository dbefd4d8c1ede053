/-
  TmTl, part 33.
-/
import Derived.Test.YtbnafihigoekeaaGreatDoorZt32
import Derived.Shelf.Bits.Mul64
set_option maxRecDepth 100000
set_option maxHeartbeats 4000000
namespace Go.Proofs.YtbnafihigoekeaaGreatDoor
open Go.RowKit
section
theorem zdT{w wr:World}(h:∃q,wr=w.drewN q)(n:Nat):∃q,wr.drewN n=w.drewN q:=by
 obtain⟨q,rfl⟩:=h;exact⟨q+n,World.drewN_drewN ..⟩
theorem zkS(va vb:Value)(a b:List zQ)(w:World)(ha:Sl w va (zj a))(hb:Sl w vb (zj b))(hal:a.length<=1000000)(hbl:b.length<=1000000):
  Calls Tryz.prog 204 #[va,vb] w fun e w'=>e= .returned (.int .i64 (sharedN a b:Nat))/\∃q,w'=w.drewN q:=by
 have HA:=ze ha;have HB:=ze hb;have HL:=ze (And.intro hal hbl);have hsl:=zbJ (a.length+b.length) a b;have HS:=ze (show sharedN a b=xS (a.length+b.length) a b from rfl);obtain⟨N,hN⟩:∃N,sharedN a b=N:=⟨_,rfl⟩;have HN:=ze (show N<=1000000 by rw[<-hN];exact Nat.le_trans hsl hal);rw[hN]at HS ⊢
 have HC:=ze fun(x y:zQ) (wx:World)=>zeG x y wx
 unfold zq at HC;clear ha hb hal hbl hsl hN
 go_enter Tryz.func204,Tryz.ntmps204
 go_wp2_with fail
 go_loopg [0,1,5] (a.length+b.length) (fun kx s0 s1 s5 wr=>∃ (x y:List zQ) (n:Nat),Hid (Sl wr s0 (zj x))/\Hid (Sl wr s1 (zj y))/\s5= .int .i64 n/\Hid (n+xS kx x y=N/\x.length+y.length<=kx/\x.length<=1000000/\y.length<=1000000)/\Hid (∃q,wr=w.drewN q))
 case atStart=>exact⟨a,b,0,HA,HB,rfl,ze ⟨by rw[Nat.zero_add];exact HS.out.symm,Nat.le_refl _,HL.out.1,HL.out.2⟩,ze ⟨0,rfl⟩⟩
 case round=>
  clear HA HB HS;obtain⟨x,y,n,HX,HY,rfl,HQ,HW⟩:=hrel;obtain⟨ao,ac,rfl⟩:=HX.out.form;obtain⟨bo,bc,rfl⟩:=HY.out.form;rw[zk]at HX;rw[zk]at HY;rw[zk,zk]
  have fin:∀m:Nat,m=N->Value.int .i64 (m:Int)= .int .i64 (N:Int):=fun m e=>by rw[e]
  have HFIN:=ze fin;clear fin
  cases x with
  |nil=>
   have hQ:=HQ.out
   have hnn:n=N:=by
    have h1:=hQ.1;have h2:=zbJ gk [] y;simp only[List.length_nil]at h2;omega
   subst hnn;rw[List.length_nil];clear hQ HQ HX HY;go_wp2_with fail;go_ret;exact⟨rfl,HW.out⟩
  |cons x0 x'=>
  cases y with
  |nil=>
   have hQ:=HQ.out
   have hnn:n=N:=by
    have h1:=hQ.1
    cases gk with
    |zero=>exact h1
    |succ g=>exact h1
   have hp:(0:Int)<((x0::x').length:Int):=by simp only[List.length_cons];omega
   subst hnn;rw[List.length_nil];obtain⟨p,hpp⟩:∃p,(x0::x').length=p:=⟨_,rfl⟩;rw[hpp]at hp ⊢;clear hQ HQ HX HY hpp;go_wp2_with fail;go_ret;exact⟨rfl,HW.out⟩
  |cons y0 y'=>
  have hQ:=HQ.out
  cases gk with
  |zero=>exact absurd hQ.2.1 (by simp)
  |succ g=>
  obtain⟨a1,x1,ea,hca,hxa⟩:=HX.out.strAt' (i:=0) (by simp);obtain⟨b1,y1,eb,hcb,hyb⟩:=HY.out.strAt' (i:=0) (by simp);simp only[List.getElem?_cons_zero,Option.some.injEq]at hxa hyb;subst hxa hyb ea eb
  have z0:∀u:Addr,u.add 0=u:=fun u=>by obtain⟨bb,oo,sp⟩:=u;cases sp <;> rfl
  rw[z0]at hca hcb;clear z0;obtain⟨fo,fc,rf,hf⟩:=xG HX.out 1 (by simp);obtain⟨so,sc,rs,hs⟩:=xG HY.out 1 (by simp)
  have hp:(0:Int)<((x0::x').length:Int):=by simp only[List.length_cons];omega
  have hq:(0:Int)<((y0::y').length:Int):=by simp only[List.length_cons];omega
  have lx:(x0::x').length<=1000000:=hQ.2.2.1;have ly:(y0::y').length<=1000000:=hQ.2.2.2
  have hn1:n<=1000000:=by have:=HN.out;have:=hQ.1;omega
  have nw:IntKind.i64.wrap ((n:Int)+1)=(n:Int)+1:=IntWalk.i64_in _ (by omega);rw[show(x0::x').drop 1=x' from rfl]at hf;rw[show(y0::y').drop 1=y' from rfl]at hs;have rf1:∀wx,(Instr.slice 96 (.slice (some a1) (x0::x').length ac) (some (.int .i64 1)) none none).run Tryz.prog wx= .ok (.slice fo ((x0::x').length-1) fc) wx:=rf;have rs1:∀wx,(Instr.slice 96 (.slice (some b1) (y0::y').length bc) (some (.int .i64 1)) none none).run Tryz.prog wx= .ok (.slice so ((y0::y').length-1) sc) wx:=rs;have hsg:n+xS (g+1) (x0::x') (y0::y')=N:=hQ.1
  have hlen:x'.length+y'.length+2<=g+1:=by have:=hQ.2.1;simp only[List.length_cons]at this;omega
  have hlx:x'.length<=1000000/\y'.length<=1000000:=by simp only[List.length_cons]at lx ly;omega
  have HSG:=ze hsg;have HLN:=ze hlen;have HLX:=ze (And.intro hlx (And.intro lx ly));have HF:=ze hf;have HS2:=ze hs;obtain⟨p,hpp⟩:∃p,(x0::x').length=p:=⟨_,rfl⟩;obtain⟨q,hqq⟩:∃q,(y0::y').length=q:=⟨_,rfl⟩;obtain⟨p1,hp1⟩:∃p1,(x0::x').length-1=p1:=⟨_,rfl⟩;obtain⟨q1,hq1⟩:∃q1,(y0::y').length-1=q1:=⟨_,rfl⟩;rw[hp1]at rf1 HF;rw[hq1]at rs1 HS2;rw[hpp]at hp rf1 HX ⊢;rw[hqq]at hq rs1 HY ⊢
  have p0:(0:Int)<=(p:Int):=by omega
  have q0:(0:Int)<=(q:Int):=by omega
  clear hQ HQ hpp hqq hp1 hq1 hf hs rf rs hsg hlen hlx lx ly hn1;have hcq:=HC.out x0 y0;have hz:=zls x0 y0;have hng:=zfi x0 y0;obtain⟨c,hc⟩:∃c,Lib.compareBytes x0 y0=c:=⟨_,rfl⟩;rw[hc]at hcq hz hng;clear hc;have HCQ:=ze hcq;clear hcq
  by_cases he:x0=y0
  ·subst he
   have hc0:c=0:=by simpa using hz
   subst hc0;have HG:=ze (show(n+1)+xS g x' y'=N by have:=HSG.out;rw[xS,if_pos rfl]at this;omega);clear hz hng;go_wp2_with fail;go_quiet ((go_at_call 57;exact Calls.quiet_of_same ((HCQ.out _).mono fun _ _ ⟨h,e⟩=>⟨h,e.symm⟩)));go_wp2_with fail
   go_roundg g
   case measure=>omega
   case rel=>exact⟨x',y',n+1,HF,HS2,by go_num,ze ⟨HG.out,by have:=HLN.out;omega,HLX.out.1.1,HLX.out.1.2⟩,ze (zdT HW.out nq)⟩
  ·have hc0:(c==0)=false:=by rw[hz];simpa using he
   have hc1:¬c=0:=by simpa using hc0
   by_cases hl:xv x0 y0=true
   ·rw[hl]at hng
    have hcn:c<0:=of_decide_eq_true hng
    have hcl:c<=0:=by omega
    have hcg:¬0<=c:=by omega
    have HG:=ze (show n+xS g x' (y0::y')=N by have:=HSG.out;rwa [xS,if_neg he,if_pos hl]at this);clear hz hng hcn;go_wp2_with fail;go_quiet ((go_at_call 57;exact Calls.quiet_of_same ((HCQ.out _).mono fun _ _ ⟨h,e⟩=>⟨h,e.symm⟩)));go_wp2_with fail
    go_roundg g
    case measure=>omega
    case rel=>exact⟨x',y0::y',n,HF,HY,rfl,ze ⟨HG.out,by have:=HLN.out;simp only[List.length_cons];omega,HLX.out.1.1,HLX.out.2.2⟩,ze (zdT HW.out nq)⟩
   ·have hl0:xv x0 y0=false:=by simpa using hl
    rw[hl0]at hng;have hcn:¬c<0:=of_decide_eq_false hng
    have hcl:¬c<=0:=by omega
    have hcg:0<=c:=by omega
    have HG:=ze (show n+xS g (x0::x') y'=N by have:=HSG.out;rwa [xS,if_neg he,if_neg hl]at this);clear hz hng hcn;go_wp2_with fail;go_quiet ((go_at_call 57;exact Calls.quiet_of_same ((HCQ.out _).mono fun _ _ ⟨h,e⟩=>⟨h,e.symm⟩)));go_wp2_with fail
    go_roundg g
    case measure=>omega
    case rel=>exact⟨x0::x',y',n,HX,HS2,rfl,ze ⟨HG.out,by have:=HLN.out;simp only[List.length_cons];omega,HLX.out.2.1,HLX.out.1.2⟩,ze (zdT HW.out nq)⟩
structure zjs(w:World)(vl vs:Value)(xl:List zQ):Prop where
 lines:Sl w vl (zj xl)
 sorted:Sl w vs (zj (xi xl))
theorem zjs.old{w w':World}{vl vs:Value}{xl:List zQ}(h:zjs w vl vs xl)(hk:Below w.heap.size w w'):zjs w' vl vs xl:=⟨h.lines.old hk,h.sorted.old hk⟩
theorem qv(x:List zQ):(xi x).length=x.length:=List.length_mergeSort x
def zot(x y:List zQ):Bool:=!decide (400<x.length) && !decide (400<y.length)&&decide (50<=shareS (sharedN (xi x) (xi y)) x.length y.length)
theorem zqp(k1 k2:Nat)(l1 s1 l2 s2:Value)(x y:List zQ)(w:World)(h1:zjs w l1 s1 x)(h2:zjs w l2 s2 y)(hx:x.length<=1000000)(hy:y.length<=1000000):
  Calls Tryz.prog 183 #[.agg #[.int .i64 (k1:Nat),l1,s1],.agg #[.int .i64 (k2:Nat),l2,s2]] w fun e w'=>e= .returned (.bool (zot x y))/\Below w.heap.size w w':=by
 obtain⟨ao,ac,rfl⟩:=h1.lines.form;obtain⟨ao2,ac2,rfl⟩:=h1.sorted.form;obtain⟨bo,bc,rfl⟩:=h2.lines.form;obtain⟨bo2,bc2,rfl⟩:=h2.sorted.form
 have HS:=ze fun(wx:World) (hk:Below w.heap.size w wx)=>zkS _ _ (xi x) (xi y) wx (h1.old hk).sorted (h2.old hk).sorted (by rw[qv];exact hx) (by rw[qv];exact hy)
 rw[zk,zk]at HS ⊢;rw[zk,zk]
 have hc:sharedN (xi x) (xi y)<=1000000:=by
  have:=zbJ ((xi x).length +(xi y).length) (xi x) (xi y);exact Nat.le_trans this (by rw[qv];exact hx)
 have hM:zot x y=(!decide (400<x.length) && !decide (400<y.length)&&decide (50<=shareS (sharedN (xi x) (xi y)) x.length y.length)):=rfl;obtain⟨M,hMM⟩:∃M,zot x y=M:=⟨_,rfl⟩;rw[hMM]at hM ⊢;obtain⟨c,hcc⟩:∃c,sharedN (xi x) (xi y)=c:=⟨_,rfl⟩;rw[hcc]at hc hM HS;obtain⟨n,hn⟩:∃n,x.length=n:=⟨_,rfl⟩;obtain⟨m,hm⟩:∃m,y.length=m:=⟨_,rfl⟩;rw[qv,qv]at HS ⊢;rw[hn]at hM hx HS ⊢;rw[hm]at hM hy HS ⊢
 have HL:=ze fun(o:Option Addr) (k cp:Nat) (wx:World)=>ziJ o k cp wx
 have HH:=ze fun(wx:World)=>zgK c n m ao bo ac bc wx hc hx hy
 clear hn hm hcc hMM h1 h2 hc hx hy
 by_cases q1:400<n
 ·have d1:decide (400<n)=true:=decide_eq_true q1
  have hM2:M=false:=by rw[hM,d1];rfl
  subst hM2;clear HS HH hM q1
  go_enter Tryz.func183,Tryz.ntmps183
  go_wp2_with (go_at_call 202;refine(HL.out _ _ _ _).mono ?_;rintro e w1 ⟨rfl,rfl⟩;rw[d1])
  go_ret;exact⟨rfl,((Below.refl _ w).alloc (Nat.le_refl _) _).alloc (by simp) _⟩
 ·have d1:decide (400<n)=false:=decide_eq_false q1
  by_cases q2:400<m
  ·have d2:decide (400<m)=true:=decide_eq_true q2
   have hM2:M=false:=by rw[hM,d1,d2];rfl
   subst hM2;clear HS HH hM q1 q2
   go_enter Tryz.func183,Tryz.ntmps183
   go_wp2_with (go_at_call 202;refine(HL.out _ _ _ _).mono ?_;rintro e w1 ⟨rfl,rfl⟩;first |rw[d1] |rw[d2])
   go_ret;exact⟨rfl,((Below.refl _ w).alloc (Nat.le_refl _) _).alloc (by simp) _⟩
  ·have d2:decide (400<m)=false:=decide_eq_false q2
   obtain⟨z,hz⟩:∃z,shareS c n m=z:=⟨_,rfl⟩;rw[hz]at hM HH
   have hM2:M=decide (50<=z):=by rw[hM,d1,d2];rfl
   have hge:decide ((z:Int) ≥ 50)=decide (50<=z):=by
    by_cases e:50<=z
    ·rw[decide_eq_true e,decide_eq_true (by omega)]
    ·rw[decide_eq_false e,decide_eq_false (by omega)]
   have hge2:decide ((50:Int)<=(z:Int))=M:=by rw[hM2];exact hge
   rw[<-hM2]at hge;have HGE:=ze (And.intro hge hge2);clear hz hM hM2 q1 q2 hge hge2
   go_enter Tryz.func183,Tryz.ntmps183
   go_wp2_with (go_at_call 202;refine(HL.out _ _ _ _).mono ?_;rintro e w1 ⟨rfl,rfl⟩;first |rw[d1] |rw[d2])
   obtain⟨W,hW⟩:∃W,(w.alloc (.cells #[.int .i64 (k1:Nat),.slice ao n ac,.slice ao2 n ac2] 225)).alloc (.cells #[.int .i64 (k2:Nat),.slice bo m bc,.slice bo2 m bc2] 225)=W:=⟨_,rfl⟩
   have hbW:Below w.heap.size w W:=by rw[<-hW];exact((Below.refl _ w).alloc (Nat.le_refl _) _).alloc (by simp) _
   have hg2:W.heap[w.heap.size+1]? =some (.cells #[.int .i64 (k2:Nat),.slice bo m bc,.slice bo2 m bc2] 225 (0,0)):=by
    rw[<-hW];have:=World.alloc_heap_new (w.alloc (.cells #[.int .i64 (k1:Nat),.slice ao n ac,.slice ao2 n ac2] 225)) (.cells #[.int .i64 (k2:Nat),.slice bo m bc,.slice bo2 m bc2] 225)
    rwa [World.size_alloc]at this
   have hg1:W.heap[w.heap.size]? =some (.cells #[.int .i64 (k1:Nat),.slice ao n ac,.slice ao2 n ac2] 225 (0,0)):=by
    rw[<-hW];exact(Below.heap_alloc _ _ _ (by simp)).trans (World.alloc_heap_new w _)
   rw[hW];have c11:W.cell? ⟨w.heap.size,1,none⟩=some (.slice ao n ac):=zd (i:=1) hg1 rfl;have c12:W.cell? ⟨w.heap.size,2,none⟩=some (.slice ao2 n ac2):=zd (i:=2) hg1 rfl;have c21:W.cell? ⟨w.heap.size+1,1,none⟩=some (.slice bo m bc):=zd (i:=1) hg2 rfl;have c22:W.cell? ⟨w.heap.size+1,2,none⟩=some (.slice bo2 m bc2):=zd (i:=2) hg2 rfl
   have HSW:=ze fun(k:Nat)=>HS.out (W.drewN k) (zi hbW (zm _ _) hbW.size)
   have HBW:=ze hbW;clear hW hg1 hg2 hbW HS
   go_quiet (first
    |(go_at_call 204;exact Calls.quiet_of (HSW.out _))
    |(go_at_call 203;exact Calls.quiet_of_same ((HH.out _).mono fun _ _ ⟨h,e⟩=>⟨h,e.symm⟩)))
   go_wp2_with fail;go_ret;refine⟨?_,zi HBW.out (zm _ _) HBW.out.size⟩
   first |rfl |(rw[HGE.out.1];rfl) |(rw[HGE.out.2];rfl)
def zbA(x y:List zQ):Bool:=decide (50<=ratioL x y)
theorem zjF{x y:List zQ}(h:50<=ratioL x y):zot x y=true:=by
 have hl:=zmF x y;unfold zot
 by_cases h0:x.length+y.length=0
 ·have e1:¬400<x.length:=by omega
  have e2:¬400<y.length:=by omega
  rw[decide_eq_false e1,decide_eq_false e2,shareS,if_pos h0]
  rfl
 ·have e:¬(400<x.length∨400<y.length):=fun e=>by
   unfold ratioL at h;rw[if_neg h0,if_pos e]at h;omega
  rw[zev x y (by omega) (by omega)]at h;rw[decide_eq_false (fun q=>e (.inl q)),decide_eq_false (fun q=>e (.inr q))]
  have hle:shareS (lcs x y) x.length y.length<=shareS (sharedN (xi x) (xi y)) x.length y.length:=by
   unfold shareS;rw[if_neg h0,if_neg h0];exact Nat.div_le_div_right (Nat.mul_le_mul_left _ hl)
  rw[decide_eq_true (Nat.le_trans h hle)]
  rfl
theorem zld(k1 k2:Nat)(l1 s1 l2 s2:Value)(x y:List zQ)(w:World)(h1:zjs w l1 s1 x)(h2:zjs w l2 s2 y)(hx:x.length<=1000000)(hy:y.length<=1000000):
  Calls Tryz.prog 163 #[.agg #[.int .i64 (k1:Nat),l1,s1],.agg #[.int .i64 (k2:Nat),l2,s2]] w fun e w'=>∃r:Nat,e= .returned (.tuple #[.int .i64 (r:Nat),.bool (zbA x y)])/\(zbA x y=true->r=ratioL x y)/\Below w.heap.size w w':=by
 have o1:=h1.lines.form;obtain⟨ao,ac,rfl⟩:=o1;obtain⟨ao2,ac2,rfl⟩:=h1.sorted.form;obtain⟨bo,bc,rfl⟩:=h2.lines.form;obtain⟨bo2,bc2,rfl⟩:=h2.sorted.form
 have HM:=ze fun(wx:World) (hk:Below w.heap.size w wx)=>zqp k1 k2 _ _ _ _ x y wx (h1.old hk) (h2.old hk) hx hy
 have HR:=ze fun(wx:World) (hk:Below w.heap.size w wx)=>zkH _ _ x y wx (h1.old hk).lines (h2.old hk).lines hx hy
 have hmay:=fun h=>zjF (x:=x) (y:=y) h
 have hA:zbA x y=decide (50<=ratioL x y):=rfl;obtain⟨A,hAA⟩:∃A,zbA x y=A:=⟨_,rfl⟩;obtain⟨z,hz⟩:∃z,ratioL x y=z:=⟨_,rfl⟩;obtain⟨M,hM⟩:∃M,zot x y=M:=⟨_,rfl⟩;rw[hAA,hz]at hA;rw[hz]at HR hmay;rw[hM]at HM hmay;rw[hAA,hz];have HA:=ze hA;have HMAY:=ze hmay;obtain⟨n1,hn1⟩:∃n,(zj x).length=n:=⟨_,rfl⟩;obtain⟨n2,hn2⟩:∃n,(zj (xi x)).length=n:=⟨_,rfl⟩;obtain⟨m1,hm1⟩:∃n,(zj y).length=n:=⟨_,rfl⟩;obtain⟨m2,hm2⟩:∃n,(zj (xi y)).length=n:=⟨_,rfl⟩;rw[hn1]at HM HR;rw[hn2]at HM;rw[hm1]at HM HR;rw[hm2]at HM;rw[hn1,hn2,hm1,hm2];clear hA hAA hz hM hmay h1 h2 hx hy hn1 hn2 hm1 hm2
 go_enter Tryz.func163,Tryz.ntmps163
 go_wp2_with fail;obtain⟨W,hW⟩:∃W,(w.alloc (.cells #[.int .i64 (k1:Nat),.slice ao n1 ac,.slice ao2 n2 ac2] 225)).alloc (.cells #[.int .i64 (k2:Nat),.slice bo m1 bc,.slice bo2 m2 bc2] 225)=W:=⟨_,rfl⟩
 have hbW:Below w.heap.size w W:=by rw[<-hW];exact((Below.refl _ w).alloc (Nat.le_refl _) _).alloc (by simp) _
 have hg2:W.heap[w.heap.size+1]? =some (.cells #[.int .i64 (k2:Nat),.slice bo m1 bc,.slice bo2 m2 bc2] 225 (0,0)):=by
  rw[<-hW];have:=World.alloc_heap_new (w.alloc (.cells #[.int .i64 (k1:Nat),.slice ao n1 ac,.slice ao2 n2 ac2] 225)) (.cells #[.int .i64 (k2:Nat),.slice bo m1 bc,.slice bo2 m2 bc2] 225)
  rwa [World.size_alloc]at this
 have hg1:W.heap[w.heap.size]? =some (.cells #[.int .i64 (k1:Nat),.slice ao n1 ac,.slice ao2 n2 ac2] 225 (0,0)):=by
  rw[<-hW];exact(Below.heap_alloc _ _ _ (by simp)).trans (World.alloc_heap_new w _)
 have hWs:W.heap.size=w.heap.size+2:=by rw[<-hW];simp
 rw[hW];clear hW;refine(HM.out W hbW).mono ?_;rintro e w2 ⟨rfl,hb2⟩;have hg12:=(hb2.block _ (by omega)).trans hg1;have hg22:=(hb2.block _ (by omega)).trans hg2;have c11:w2.cell? ⟨w.heap.size,1,none⟩=some (.slice ao n1 ac):=zd (i:=1) hg12 rfl;have c21:w2.cell? ⟨w.heap.size+1,1,none⟩=some (.slice bo m1 bc):=zd (i:=1) hg22 rfl;have HB2:=ze (zi hbW hb2 hbW.size);clear hg1 hg2 hg12 hg22 hb2 hbW hWs HM
 cases M with
 |false=>
  have hAf:A=false:=by
   rw[HA.out]
   exact decide_eq_false fun h=>by have:=HMAY.out h;cases this
  subst hAf;go_wp2_with fail;refine bodyPost_ret (results_tmp2 rfl _ _ _) rfl ?_;exact⟨0,rfl,(fun h=>by cases h),HB2.out⟩
 |true=>
  have hge:decide ((z:Int) ≥ 50)=A:=by
   rw[HA.out]
   by_cases e:50<=z
   ·rw[decide_eq_true e,decide_eq_true (by omega)]
   ·rw[decide_eq_false e,decide_eq_false (by omega)]
  have HGE:=ze (And.intro hge (show decide ((50:Int)<=(z:Int))=A from hge));have HRW:=ze (HR.out w2 HB2.out);clear hge HR
  go_wp2_with (go_at_call 184;refine HRW.out.mono ?_;rintro e w3 ⟨rfl,hb3⟩)
  refine bodyPost_ret (results_tmp2 rfl _ _ _) rfl ?_;refine⟨z,?_,fun _ =>rfl,zi HB2.out hb3 HB2.out.size⟩
  first |rfl |(rw[HGE.out.1];rfl) |(rw[HGE.out.2];rfl)
end
open Go.RowKit
section
theorem zln(f:zg)(k:Nat)(w:World)(hl:f.2.2.length<=1000000):
  Calls Tryz.prog 182 #[ye f,.int .i64 (k:Nat)] w fun e w'=>∃vl vs,e= .returned (.agg #[.int .i64 (k:Nat),vl,vs])/\w'.ownsRow w.heap.size 9 1 vl (zn f.2.2).length (zj (zn f.2.2))/\
   w'.ownsRow w.heap.size 9 1 vs (xi (zn f.2.2)).length (zj (xi (zn f.2.2)))/\Below w.heap.size w w':=by
 obtain⟨p,x,t⟩:=f;simp only at hl ⊢;have hlc:=yL t
 have HS:=ze fun(wx:World)=>zcq t wx (by omega)
 obtain⟨L,hL⟩:∃L,zn t=L:=⟨_,rfl⟩;rw[hL]at hlc HS ⊢;have HLN:=ze (show L.length<=1000000 by omega);clear hL hlc hl;unfold ye zq at *;simp only
 go_enter Tryz.func182,Tryz.ntmps182
 go_wp2_with fail;obtain⟨W,hW⟩:∃W,(w.alloc (.cells #[.string ⟨p.toArray⟩,.bool x,.string ⟨t.toArray⟩] 28)).alloc (.cells #[.int .i64 0,.slice none 0 0,.slice none 0 0] 225)=W:=⟨_,rfl⟩
 have hbW:Below w.heap.size w W:=by rw[<-hW];exact((Below.refl _ w).alloc (Nat.le_refl _) _).alloc (by simp) _
 have hg2:W.heap[w.heap.size+1]? =some (.cells #[.int .i64 0,.slice none 0 0,.slice none 0 0] 225 (0,0)):=by
  rw[<-hW];have:=World.alloc_heap_new (w.alloc (.cells #[.string ⟨p.toArray⟩,.bool x,.string ⟨t.toArray⟩] 28)) (.cells #[.int .i64 0,.slice none 0 0,.slice none 0 0] 225)
  rwa [World.size_alloc]at this
 have hWs:W.heap.size=w.heap.size+2:=by rw[<-hW];simp
 rw[hW];clear hW;obtain⟨g,hg⟩:∃g,w.heap.size+1=g:=⟨_,rfl⟩;rw[hg]at hg2 ⊢;refine(HS.out W).mono ?_;rintro e w1 ⟨vl,rfl,hr1,hb1⟩;obtain⟨lo,lc,rfl⟩:=zl hr1;have HR1:=ze hr1;have hz1:=hb1.size;have hg21:=(hb1.block _ (by omega)).trans hg2
 have HV:=ze fun(wx:World)=>zpY lo L.length lc wx
 clear hg2 HS
 have hlt1:((w1.alloc (.cells #[.slice lo L.length lc] 96)).heap.size)=w1.heap.size+1:=by simp
 have HSo:=ze (zmb w1 (w1.alloc (.cells #[.slice lo L.length lc] 96)) w1.heap.size (.slice lo L.length lc) L (Sl.ofOwns HR1.out) ((Below.refl _ w1).alloc (Nat.le_refl _) _) (zd (i:=0) (heap_alloc_new w1 _) rfl) HLN.out)
 go_wp2_with (go_at_call 201;refine(HV.out _).mono ?_;rintro e w2 ⟨rfl,rfl⟩)
 refine HSo.out.mono ?_;rintro e w3 ⟨vs,rfl,ho3,hb3⟩;obtain⟨so,sc,rfl⟩:=zl ho3;have hb13:Below w1.heap.size w1 w3:=zi ((Below.refl _ w1).alloc (Nat.le_refl _) _) hb3 (by rw[hlt1];omega);have hg23:=(hb13.block _ (lt_of_block hg21)).trans hg21
 have HO3:=ze (show w3.ownsRow w.heap.size 9 1 (.slice so (xi L).length sc) (xi L).length (zj (xi L))from by
  have h:=ho3;unfold zcu at h;rw[zrm]at h
  exact zbV h (by rw[hlt1];omega))
 have HR3:=ze (show w3.ownsRow w.heap.size 9 1 (.slice lo L.length lc) L.length (zj L)from zbV (zD HR1.out fun q _ hq=>hb13.block q hq) (by omega));have HB3:=ze (zi hbW (zi hb1 hb13 (by omega)) (by omega))
 have hne1:∀ {u:Value} {n:Nat} {xs:List Value},w3.ownsRow w.heap.size 9 1 u n xs->some g≠u.ownBlock:=fun {u n xs} h e=>by
  rcases ownsRow_ne_a h hg23 (fun cur e=>absurd (Obj.cells.inj e).2.1 (by decide))with h1 |h1
  ·rw[h1]at e
   cases e
  ·exact h1 e.symm
 have HN1:=ze (hne1 HR3.out);have HN2:=ze (hne1 HO3.out);have HGG:=ze hg;clear hne1 ho3 hb3 hb13 hg21 hr1 hb1 hbW HSo HV HR1
 go_wp2_with (refine zB rfl 225 _ _ rfl g #[.int .i64 (k:Nat),.slice lo L.length lc,.slice so (xi L).length sc] rfl rfl _ _ hg23 3 Tryz.sizeTx rfl rfl (by simp[Value.oneCell']) ?_;intro w9 hg9 hk9)
 refine bodyPost_ret (results_cell_row rfl _ _ g _ _ _ _ rfl hg9 Tryz.underlying225 rfl Tryz.sizeTx) rfl ?_;refine⟨_,_,rfl,zD HR3.out fun q hq hl=>hk9.block q hl (fun e=>HN1.out (by rw[<-e];exact hq.symm)),zD HO3.out fun q hq hl=>hk9.block q hl (fun e=>HN2.out (by rw[<-e];exact hq.symm)),HB3.out.trans (hk9.below HB3.out.size (fun j hj e=>by have:=HGG.out;omega))⟩
def zu(l other:List zg):List zg:=l.filter (yR other)
theorem ziM(va vb:Value)(l m:List zg)(w:World)(ha:yM w va l)(hb:yM w vb m)(hl:l.length<=1000000)(hm:m.length<=1000000):
  Calls Tryz.prog 116 #[va,vb] w fun e w'=>∃v,e= .returned v/\zI w' w.heap.size v (zu l m)/\Below w.heap.size w w':=by
 obtain⟨ao,ac,rfl⟩:=ha.form;have HA:=ze ha;have HL:=ze hl
 have HF:=ze fun(wx:World) (p:zQ) (hk:Below w.heap.size w wx)=>zoV vb m p wx (hb.old hk) (by omega)
 clear ha hb hl hm
 go_enter Tryz.func116,Tryz.ntmps116
 go_wp2_with fail
 go_loopg [5,12] l.length (fun g v i wr=>∃ (k:Nat) (X:List zg),k<=l.length/\l.length-k=g/\i= .int .i64 k/\Hid (X=zu (l.take k) m/\X.length<=k)/\Hid (zI wr w.heap.size v X)/\Hid (Below w.heap.size w wr))
 case atStart=>exact⟨0,[],Nat.zero_le _,rfl,rfl,ze ⟨rfl,Nat.le_refl _⟩,ze (World.ownsRow_nil _ _ _ _),ze (Below.refl _ _)⟩
 case round=>
  obtain⟨k,X,hk,rfl,rfl,HX,HO,HW⟩:=hrel;obtain⟨no,nc,rfl⟩:=zl HO.out;have k0:(0:Int)<=(k:Int):=Int.natCast_nonneg _
  by_cases hlt:k<l.length
  ·have k1:(k:Int)<(l.length:Int):=by omega
   have kw:IntKind.i64.wrap ((k:Int)+1)=(k:Int)+1:=IntWalk.i64_in _ (by have:=HL.out;omega);obtain⟨b,o,p,x,t,rfl,he,c1,c2,c3⟩:=yM.at (HA.out.old HW.out) hlt
   have HS:=ze (show zu (l.take (k+1)) m=X++zu [(p,x,t)] m by
    rw[HX.out.1,List.take_add_one,he,zu,zu,zu,<-List.filter_append]
    rfl)
   clear he;go_wp2_with fail;obtain⟨wb,hwb⟩:∃wb,wr.alloc (.cells #[.string ⟨p.toArray⟩,.bool x,.string ⟨t.toArray⟩] 28)=wb:=⟨_,rfl⟩
   have hbb:Below w.heap.size w wb:=by rw[<-hwb];exact HW.out.alloc HW.out.size _
   have hgb:wb.heap[wr.heap.size]? =some (.cells #[.string ⟨p.toArray⟩,.bool x,.string ⟨t.toArray⟩] 28 (0,0)):=by rw[<-hwb];exact heap_alloc_new wr _
   have HOB:=ze (show zI wb w.heap.size (.slice no X.length nc) X by rw[<-hwb];exact HO.out.alloc _)
   have hzb:wb.heap.size=wr.heap.size+1:=by rw[<-hwb];simp
   rw[hwb];clear hwb;obtain⟨g,hg⟩:∃g,wr.heap.size=g:=⟨_,rfl⟩;rw[hg]at hgb hzb ⊢;have hfc:=HF.out wb p hbb;obtain⟨r,hr⟩:∃r,zz m p=r:=⟨_,rfl⟩;rw[hr]at hfc;unfold ye zq at hfc;refine hfc.mono ?_;rintro e w2 ⟨rfl,hb2⟩;have hg2:=(hb2.block _ (lt_of_block hgb)).trans hgb;have q1:w2.cell? ⟨g,0,none⟩=some (.string ⟨p.toArray⟩):=zd (i:=0) hg2 rfl;have q2:w2.cell? ⟨g,1,none⟩=some (.bool x):=zd (i:=1) hg2 rfl;have q3:w2.cell? ⟨g,2,none⟩=some (.string ⟨t.toArray⟩):=zd (i:=2) hg2 rfl;have HO2:=ze (show zI w2 w.heap.size (.slice no X.length nc) X from zD HOB.out fun q _ hq=>hb2.block q hq);have HW2:=ze (zi hbb hb2 hbb.size);have hglt:g<w2.heap.size:=lt_of_block hg2;clear hgb hzb hb2 hfc hbb HOB
   cases r with
   |some f2=>
    obtain⟨p2,x2,t2⟩:=f2
    have HE:=ze (show X=zu (l.take (k+1)) m by
     rw[HS.out]
     simp[zu,yR,hr])
    clear hr;go_wp2_with fail
    go_roundg (l.length-(k+1))
    case measure=>omega
    case rel=>exact⟨k+1,X,by omega,rfl,by go_num,ze ⟨HE.out,by have:=HX.out;omega⟩,ze (zD HO2.out fun q _ hq=>Below.heap_alloc _ _ q hq),ze (HW2.out.alloc HW2.out.size _)⟩
   |none=>
    by_cases ht:t=[]
    ·subst ht
     have HE:=ze (show X=zu (l.take (k+1)) m by
      rw[HS.out]
      simp[zu,yR])
     clear hr;go_wp2_with fail
     go_roundg (l.length-(k+1))
     case measure=>omega
     case rel=>exact⟨k+1,X,by omega,rfl,by go_num,ze ⟨HE.out,by have:=HX.out;omega⟩,ze (zD HO2.out fun q _ hq=>Below.heap_alloc _ _ q hq),ze (HW2.out.alloc HW2.out.size _)⟩
    ·have HE:=ze (show X++[(p,x,t)]=zu (l.take (k+1)) m by
      rw[HS.out]
      simp[zu,yR,hr,ht])
     have t1:(t==[])=false:=by simpa using ht
     clear hr
     have hxl:X.length<=1000000:=by have:=HX.out;have:=HL.out;omega
     have hbase:w.heap.size<=w2.heap.size:=HW2.out.size;have HO3:=ze (show zI (w2.alloc (.cells #[.string ⟨#[]⟩,.bool false,.string ⟨#[]⟩] 28)) w.heap.size (.slice no X.length nc) X from HO2.out.alloc _);have HW3:=ze (HW2.out.alloc HW2.out.size (.cells #[.string ⟨#[]⟩,.bool false,.string ⟨#[]⟩] 28))
     go_wp2_with (at_builtin;refine qU (by rfl) (.tmp 30) (.tmp 32) rfl w.heap.size _ X (p,x,t) rfl HO3.out _ rfl (by simp) (by omega) (by simp;omega) ?_;intro v5 w5 hO5 hb5)
     go_roundg (l.length-(k+1))
     case measure=>omega
     case rel=>exact⟨k+1,X++[(p,x,t)],by omega,rfl,by go_num,ze ⟨HE.out,by have:=HX.out;simp;omega⟩,ze hO5,ze (HW3.out.trans hb5)⟩
  ·obtain rfl:k=l.length:=by omega
   have hneg:¬(l.length:Int)<(l.length:Int):=by omega
   go_wp2_with fail;go_ret;have hX:=HX.out.1;rw[List.take_length]at hX;rw[<-hX];exact⟨_,rfl,HO.out,HW.out⟩
end
open Go.RowKit
def Tryz.lays212_ren:Go.Shelf.Ren:=⟨fun |212=>161 |263=>180 |264=>181 |n=>n,fun |46=>126 |51=>110 |53=>147 |146=>237 |148=>239 |n=>n,fun |n=>n⟩
theorem Tryz.lays212:Go.Proofs.Lays.n212 Tryz.prog Tryz.lays212_ren:= {
 mixed:=by kernel_rfl
 f212:=Tryz.func161.trans (congrArg some (by kernel_rfl))
 f263:=Tryz.func180.trans (congrArg some (by kernel_rfl))
 f264:=Tryz.func181.trans (congrArg some (by kernel_rfl))
 t46:=Tryz.underlying126
 a46:=Tryz.isAgg126
 z46:=Tryz.sizeOf126
 v46:=Tryz.zeroValue126
 t51:=Tryz.underlying110
 a51:=Tryz.isAgg110
 z51:=Tryz.sizeOf110
 v51:=Tryz.zeroValue110
 t53:=Tryz.underlying147
 a53:=Tryz.isAgg147
 z53:=Tryz.sizeOf147
 v53:=Tryz.zeroValue147
 t146:=Tryz.underlying237
 a146:=Tryz.isAgg237
 z146:=Tryz.sizeOf237
 v146:=Tryz.zeroValue237
 t148:=Tryz.underlying239
 a148:=Tryz.isAgg239
 z148:=Tryz.sizeOf239
 v148:=Tryz.zeroValue239 }
theorem Tryz.infoIntP:(Tryz.prog.info? 3).map (fun i=>(i.zero,i.size,i.bytes))=some (some (.int .i64 0),1,8):=by kernel_rfl
def jH(k n:Nat):List Value:=List.replicate k (.int .i64 (-1))++List.replicate (n-k) (.int .i64 0)
theorem zlv(n:Nat):(jH n n).toArray=zcl (List.replicate n (-1)):=by simp[jH,zcl]
theorem zlo{k n:Nat}(h:k<=n):(jH k n).length=n:=by simp[jH];omega
theorem zqP{k n j:Nat}(h:j<k):(jH k n)[j]? =some (.int .i64 (-1)):=by
 rw[jH,List.getElem?_append_left (by simpa using h)];simp[h]
theorem zjh{k n m:Nat}(h:k+m<=n):(jH k n).take k++List.replicate m (.int .i64 (-1)) ++(jH k n).drop (k+m)=jH (k+m) n:=by
 have e1:(jH k n).take k=List.replicate k (.int .i64 (-1)):=by rw[jH,List.take_left' (by simp)]
 have e2:(jH k n).drop (k+m)=List.replicate (n-(k+m)) (.int .i64 0):=by
  rw[jH,List.drop_append,List.drop_of_length_le (by simp),List.nil_append,List.length_replicate,List.drop_replicate]
  congr 1
  omega
 rw[e1,e2,jH,List.replicate_append_replicate]
section
theorem zil(g k n:Nat)(hk:k<n)(wx:World):(Instr.slice 75 (.slice (some ⟨g,0,none⟩) n n) (some (.int .i64 (k:Int))) none none).run Tryz.prog wx= .ok (.slice (some ⟨g,k,none⟩) (n-k) (n-k)) wx:=by
 obtain⟨i0,hi0,hz0,hz1,hz2⟩:=info_parts Tryz.infoIntP
 have h2:(k:Int)<=n:=by omega
 have h3:¬n=k:=by omega
 have ht:=Tryz.underlying75;simp[Instr.slice,run_underlying ht,Instr.sliceBounds,run_sliceBound,sizeOf,typeInfo,hi0,hz1,h2,h3,Addr.add]
 exact fun h=>h.symm
theorem zkO(g k n:Nat)(hk:k<=n)(wx:World):(Instr.slice 75 (.slice (some ⟨g,0,none⟩) n n) none (some (.int .i64 (k:Int))) none).run Tryz.prog wx= .ok (.slice (some ⟨g,0,none⟩) k n) wx:=by
 obtain⟨i0,hi0,hz0,hz1,hz2⟩:=info_parts Tryz.infoIntP
 have h2:(k:Int)<=n:=by omega
 have ht:=Tryz.underlying75;simp[Instr.slice,run_underlying ht,Instr.sliceBounds,run_sliceBound,sizeOf,typeInfo,hi0,h2];intro _;simp[Addr.add]
theorem zqn(n:Nat)(w:World)(hn:n<=1000000):Calls Tryz.prog 161 #[.int .u64 1,.int .u64 (n:Nat)] w fun e w'=>e= .returned (.tuple #[.int .u64 0,.int .u64 (n:Nat)])/\w=w':=by
 refine(show Calls Tryz.prog 161 #[.int .u64 ((1:Nat):Int),.int .u64 (n:Nat)] w _ from Any.bits_Mul Tryz.lays212 1 n (by omega) (by omega) w).mono ?_;rintro e w' ⟨rfl,rfl⟩;refine⟨?_,rfl⟩;rw[show 1*n / 18446744073709551616=0 by omega,show 1*n % 18446744073709551616=n by omega]
 rfl
theorem zfT(gx n:Nat)(w:World)(hx:w.cell? ⟨gx,0,none⟩=some (.int .i64 (-1)))(hn:n<=1000000):
  Calls Tryz.prog 138 #[.slice (some ⟨gx,0,none⟩) 1 1,.int .i64 (n:Nat)] w fun e w'=>∃g,e= .returned (.slice (some ⟨g,0,none⟩) n n)/\w.heap.size<=g/\
   w'.heap[g]? =some (.cells (zcl (List.replicate n (-1))) 3 (0,0))/\Below w.heap.size w w':=by
 obtain⟨i0,hi0,hi1,hi2,hi3⟩:=info_parts Tryz.infoIntP;have hgx:=World.block_lt_of_cell? w _ hx;simp only at hgx
 have mk:∀wx:World,(Instr.makeSlice 75 (.int .i64 (n:Int)) (.int .i64 (n:Int))).run Tryz.prog wx= .ok (.slice (some ⟨wx.heap.size,0,none⟩) n n) (wx.alloc (.cells (jH 0 n).toArray 3)):=fun wx=>by
  rw[jH,List.replicate_zero,List.nil_append,Nat.sub_zero];exact qQ (P:=Tryz.prog) wx 75 3 i0 (.int .i64 0) Tryz.underlying75 hi0 hi1 hi2 rfl n (by rw[hi3];omega) (by omega)
 have hsz:(Tryz.prog.info? 3).map (·.size)=some 1:=by rw[hi0,Option.map_some,hi2]
 have HM:=ze fun(wx:World)=>zqn n wx hn
 obtain⟨W,hW⟩:∃W,w.alloc (.cells (jH 0 n).toArray 3)=W:=⟨_,rfl⟩
 have hbW:Below w.heap.size w W:=by rw[<-hW];exact(Below.refl _ w).alloc (Nat.le_refl _) _
 have hgW:W.heap[w.heap.size]? =some (.cells (jH 0 n).toArray 3 (0,0)):=by rw[<-hW];exact World.alloc_heap_new w _
 have hxW:W.cell? ⟨gx,0,none⟩=some (.int .i64 (-1)):=(hbW.cell (p:=⟨gx,0,none⟩) hgx).trans hx;have mkw:=mk w;rw[hW]at mkw;obtain⟨g,hg⟩:∃g,w.heap.size=g:=⟨_,rfl⟩;have HG:=ze hg;rw[hg]at hgW mkw;have n0:(0:Int)<=(n:Int):=Int.natCast_nonneg _
 have nu:IntKind.u64.wrap (n:Int)=(n:Int):=by rw[IntKind.wrap_u64];omega
 have ni:IntKind.i64.wrap (n:Int)=(n:Int):=IntWalk.i64_in _ (by omega)
 have nm:¬(9223372036854775807:Int)<(n:Int):=by omega
 have HBW:=ze hbW;have HNN:=ze hn
 by_cases h0:n=0
 ·subst h0
  have cp:=run_copy_none (P:=Tryz.prog) W 75 75 3 3 (some ⟨g,0,none⟩) (some ⟨gx,0,none⟩) 0 0 1 1 Tryz.underlying75 hsz rfl;have mk0:(Instr.makeSlice 75 (.int .i64 0) (.int .i64 0)).run Tryz.prog w= .ok (.slice (some ⟨g,0,none⟩) 0 0) W:=mkw
  have hm0:∀wx,Calls Tryz.prog 161 #[.int .u64 1,.int .u64 0] wx fun e w'=>e= .returned (.tuple #[.int .u64 0,.int .u64 0])/\wx=w':=fun wx=>HM.out wx
  have HM0:=ze hm0;clear mk mkw hW hg hm0 hx hxW hbW nu ni nm n0;show Calls _ _ #[.slice (some ⟨gx,0,none⟩) 1 1,.int .i64 0] _ _
  go_enter Tryz.func138,Tryz.ntmps138
  go_wp2_with (go_at_call 161;refine(HM0.out _).mono ?_;rintro e w1 ⟨rfl,rfl⟩)
  refine wp_loop_rounds 1 ?_;rw[rounds_succ];go_wp2_with fail;go_ret;exact⟨g,rfl,by rw[HG.out];exact Nat.le_refl _,by rw[<-zlv];exact hgW,HBW.out⟩
 ·have cp:=run_copy_row (P:=Tryz.prog) W 75 75 3 3 g 0 n n ⟨gx,0,none⟩ 1 1 (jH 0 n).toArray 3 [.int .i64 (-1)] Tryz.underlying75 hsz hgW (Nat.min_eq_left (show 1<=n by omega)).symm (fun j v h=>by
   cases j with
   |zero=>cases h;exact hxW
   |succ j=>simp at h) (by simp[jH];omega) (fun v h=>by rw[List.mem_singleton.1 h];rfl)
  have hN1:((jH 0 n).toArray.toList.take 0++[Value.int .i64 (-1)] ++(jH 0 n).toArray.toList.drop (0+[Value.int .i64 (-1)].length)).toArray=(jH 1 n).toArray:=by
   congr 1
   exact zjh (k:=0) (m:=1) (by omega)
  rw[hN1]at cp;have hgW1:(W.setRow g (jH 1 n).toArray).heap[g]? =some (.cells (jH 1 n).toArray 3 (0,0)):=setRow_heap W g _ _ _ _ hgW;have HK1:=ze (show yH (· =g) W (W.setRow g (jH 1 n).toArray)from⟨rfl,rfl,rfl,by simp[World.setRow],fun k _ hk=>setRow_other W g k _ hk⟩);obtain⟨W1,hW1⟩:∃W1,W.setRow g (jH 1 n).toArray=W1:=⟨_,rfl⟩;rw[hW1]at cp hgW1 HK1;have HB1:=ze (show Below w.heap.size w W1 from HBW.out.trans (HK1.out.below HBW.out.size (fun j hj e=>by have:=HG.out;omega)));have HG1:=ze hgW1;have HSZ:=ze hsz;clear mk hW hg hx hxW hbW hN1 hgW hgW1 hW1 HK1 hsz
  go_enter Tryz.func138,Tryz.ntmps138
  go_wp2_with (go_at_call 161;refine(HM.out _).mono ?_;rintro e w1 ⟨rfl,rfl⟩)
  go_loopg [8] n (fun q s8 wr=>∃k:Nat,s8= .int .i64 (k:Int)/\Hid (1<=k/\k<=n/\n-k<=q)/\Hid (wr.heap[g]? =some (.cells (jH k n).toArray 3 (0,0)))/\Hid (Below w.heap.size w wr))
  case atStart=>exact⟨1,rfl,ze ⟨Nat.le_refl _,by omega,by omega⟩,HG1,HB1⟩
  case round=>
   clear HG1 HB1;obtain⟨k,rfl,HQ,HC,HB⟩:=hrel;have hQ:=HQ.out
   by_cases hlt:k<n
   ·have hltz:(k:Int)<(n:Int):=by omega
    obtain⟨m,hm⟩:∃m,m=min k (n-k):=⟨_,rfl⟩
    have hm1:1<=m/\k+m<=n:=by omega
    have r1:=zil g k n hlt;have r2:=zkO g k n (by omega)
    have cpy:∀wx:World,wx.heap=wr.heap->(Builtin.copy_ #[75,75] 3 #[.slice (some ⟨g,k,none⟩) (n-k) (n-k),.slice (some ⟨g,0,none⟩) k n]).run Tryz.prog wx= .ok (.int .i64 (m:Int)) (wx.setRow g (jH (k+m) n).toArray):=fun wx hwx=>by
     have hgx:wx.heap[g]? =some (.cells (jH k n).toArray 3 (0,0)):=by rw[hwx];exact HC.out
     have h:=run_copy_row (P:=Tryz.prog) wx 75 75 3 3 g k (n-k) (n-k) ⟨g,0,none⟩ k n (jH k n).toArray 3 (List.replicate m (.int .i64 (-1))) Tryz.underlying75 HSZ.out hgx (by rw[List.length_replicate];exact hm) (fun j v hj=>by
      have hjm:j<m:=by have:=(List.getElem?_eq_some_iff.1 hj).1;simpa using this
      rw[Addr.add_lit];refine zd hgx ?_;rw[List.getElem?_toArray,Nat.zero_add,zqP (by omega)];rw[List.getElem?_replicate,if_pos hjm]at hj
      exact hj) (by rw[List.length_replicate,List.size_toArray,zlo hQ.2.1];exact hm1.2) (fun v hv=>by rw[(List.mem_replicate.1 hv).2];rfl)
     rw[List.length_replicate]at h
     have e:((jH k n).toArray.toList.take k++List.replicate m (Value.int .i64 (-1)) ++(jH k n).toArray.toList.drop (k+m)).toArray=(jH (k+m) n).toArray:=by
      congr 1
      exact zjh hm1.2
     rw[e]at h;exact h
    have cpw:=cpy wr.drew rfl;obtain⟨s,hs⟩:∃s,k+m=s:=⟨_,rfl⟩;rw[hs]at cpw hm1;have sw:IntKind.i64.wrap ((k:Int) +(m:Int))=(s:Int):=(IntWalk.i64_in _ (by have:=HNN.out;omega)).trans (by omega);have k0:(0:Int)<=(k:Int):=Int.natCast_nonneg _;have HGS:=ze (setRow_heap wr.drew g _ (jH s n).toArray _ _ HC.out);have HKS:=ze (show yH (· =g) wr.drew (wr.drew.setRow g (jH s n).toArray)from⟨rfl,rfl,rfl,by simp[World.setRow],fun k _ hk=>setRow_other _ g k _ hk⟩);have HQ2:=ze (show 1<=s/\s<=n/\n-s<gk+1/\n-s<n-k by omega);obtain⟨WS,hWS⟩:∃WS,wr.drew.setRow g (jH s n).toArray=WS:=⟨_,rfl⟩;rw[hWS]at cpw HGS HKS;clear cpy hWS hm hs hm1;go_wp2_with fail;go_region
    all_goals go_wp2
    all_goals(
     go_roundg (n-s)
     case measure=>have:=HQ2.out;omega
     case rel=>exact⟨s,rfl,ze ⟨HQ2.out.1,HQ2.out.2.1,Nat.le_refl _⟩,HGS,ze ((HB.out.trans ((zm wr 1).mono HB.out.size)).trans (HKS.out.below HB.out.size (fun j hj e=>by have:=HG.out;omega)))⟩)
   ·obtain rfl:k=n:=by omega
    have hneg:¬(k:Int)<(k:Int):=by omega
    go_wp2_with fail;go_ret;refine⟨g,rfl,by rw[HG.out];exact Nat.le_refl _,?_,HB.out⟩;rw[HC.out,zlv]
structure xX(w0:World)(vb vs:Value)(gp gt gf:Nat)(ts fs:List Int)(w:World):Prop where
 cell:w.heap[gp]? =some (.cells #[vb,vs,.slice (some ⟨gt,0,none⟩) ts.length ts.length,.slice (some ⟨gf,0,none⟩) fs.length fs.length] 185 (0,0))
 rowT:w.heap[gt]? =some (.cells (zcl ts) 3 (0,0))
 rowF:w.heap[gf]? =some (.cells (zcl fs) 3 (0,0))
 hp:w0.heap.size<=gp
 ht:w0.heap.size<=gt
 hf:w0.heap.size<=gf
 ptf:gt≠gf
 ppt:gp≠gt
 ppf:gp≠gf
 below:Below w0.heap.size w0 w
theorem zgs(vb vs:Value)(l m:List zg)(w:World)(hb:yM w vb l)(hs:yM w vs m)(hl:l.length<=1000000)(hm:m.length<=1000000):
  Calls Tryz.prog 115 #[vb,vs] w fun e w'=>∃gp gt gf,e= .returned (.pointer (some ⟨gp,0,none⟩))/\xX w vb vs gp gt gf (List.replicate l.length (-1)) (List.replicate m.length (-1)) w':=by
 obtain⟨ao,ac,rfl⟩:=hb.form;obtain⟨bo,bc,rfl⟩:=hs.form
 have HR1:=ze fun(gx:Nat) (wx:World) (h:wx.cell? ⟨gx,0,none⟩=some (.int .i64 (-1)))=>zfT gx l.length wx h hl
 have HR2:=ze fun(gx:Nat) (wx:World) (h:wx.cell? ⟨gx,0,none⟩=some (.int .i64 (-1)))=>zfT gx m.length wx h hm
 obtain⟨n,hn⟩:∃n,l.length=n:=⟨_,rfl⟩;obtain⟨k,hk⟩:∃k,m.length=k:=⟨_,rfl⟩;rw[hn]at HR1 ⊢;rw[hk]at HR2 ⊢;clear hb hs hl hm hn hk
 go_enter Tryz.func115,Tryz.ntmps115
 go_wp2_with fail;refine(HR1.out w.heap.size _ (zd (i:=0) (heap_alloc_new w _) rfl)).mono ?_;rintro e w1 ⟨gt,rfl,hgt,hrt,hb1⟩
 have hz0:(w.alloc (.cells #[.int .i64 (-1)] 3)).heap.size=w.heap.size+1:=by simp
 have hw1:Below w.heap.size w w1:=zi ((Below.refl _ w).alloc (Nat.le_refl _) _) hb1 (by omega);rw[hz0]at hgt;have hz1:=hw1.size;have hlt1:=lt_of_block hrt;clear hb1;go_wp2_with fail;refine(HR2.out w1.heap.size _ (zd (i:=0) (heap_alloc_new w1 _) rfl)).mono ?_;rintro e w2 ⟨gf,rfl,hgf,hrf,hb2⟩
 have hz2:(w1.alloc (.cells #[.int .i64 (-1)] 3)).heap.size=w1.heap.size+1:=by simp
 have hw12:Below w1.heap.size w1 w2:=zi ((Below.refl _ w1).alloc (Nat.le_refl _) _) hb2 (by omega);rw[hz2]at hgf;have hrt2:=(hw12.block _ hlt1).trans hrt;have HRT:=ze hrt2;have HRF:=ze hrf;have HW2:=ze (zi hw1 hw12 hw1.size);have hlt2:=lt_of_block hrt2;have hlt3:=lt_of_block hrf;clear hb2 hrt hrf hw12 hw1 hz0 hz2;go_wp2_with fail;go_ret;refine⟨w2.heap.size,gt,gf,rfl,?_,(Below.heap_alloc _ _ _ hlt2).trans HRT.out,(Below.heap_alloc _ _ _ hlt3).trans HRF.out,HW2.out.size,by omega,by omega,by omega,by omega,by omega,HW2.out.alloc HW2.out.size _⟩;rw[List.length_replicate,List.length_replicate];exact World.alloc_heap_new w2 _
end
open Go.RowKit
def xN(st:List Int × List Int)(i j:Nat):List Int × List Int:=
 if st.1[i]? =some (-1)/\st.2[j]? =some (-1)then(st.1.set i (j:Nat),st.2.set j (i:Nat))else st
theorem ziL(st:List Int × List Int)(i j:Nat):(xN st i j).1.length=st.1.length/\(xN st i j).2.length=st.2.length:=by
 unfold xN
 split <;> simp
section
theorem ziz(w0:World)(vb vs:Value)(gp gt gf:Nat)(ts fs:List Int)(i j:Nat)(w:World)(h:xX w0 vb vs gp gt gf ts fs w)(hi:i<ts.length)(hj:j<fs.length)(_hil:ts.length<=1000000)(_hjl:fs.length<=1000000):
  Calls Tryz.prog 141 #[.pointer (some ⟨gp,0,none⟩),.int .i64 (i:Nat),.int .i64 (j:Nat)] w fun e w'=>e= .returned (.tuple #[])/\
   xX w0 vb vs gp gt gf (xN (ts,fs) i j).1 (xN (ts,fs) i j).2 w'/\yH (fun k=>k=gt∨k=gf) w w':=by
 obtain⟨z,hz⟩:∃z,ts[i]? =some z:=⟨_,List.getElem?_eq_getElem hi⟩;obtain⟨y,hy⟩:∃y,fs[j]? =some y:=⟨_,List.getElem?_eq_getElem hj⟩;have c2:w.cell? ⟨gp,2,none⟩=some (.slice (some ⟨gt,0,none⟩) ts.length ts.length):=zd (i:=2) h.cell rfl;have c3:w.cell? ⟨gp,3,none⟩=some (.slice (some ⟨gf,0,none⟩) fs.length fs.length):=zd (i:=3) h.cell rfl;have ct:w.cell? ⟨gt,i,none⟩=some (.int .i64 z):=zd h.rowT (zbw hz);have cf:w.cell? ⟨gf,j,none⟩=some (.int .i64 y):=zd h.rowF (zbw hy);have ft:w.frozen? ⟨gt,i,none⟩=false:=zo h.rowT;have ff:w.frozen? ⟨gf,j,none⟩=false:=zo h.rowF
 have HJ:=ze (show xN (ts,fs) i j=if z= -1/\y= -1 then(ts.set i (j:Nat),fs.set j (i:Nat))else(ts,fs) by
  unfold xN
  simp only[hz,hy,Option.some.injEq])
 have i0:(0:Int)<=(i:Int):=Int.natCast_nonneg _;have j0:(0:Int)<=(j:Int):=Int.natCast_nonneg _;have HH:=ze h;obtain⟨n,hn⟩:∃n,ts.length=n:=⟨_,rfl⟩;obtain⟨m,hm⟩:∃m,fs.length=m:=⟨_,rfl⟩;rw[hn]at c2 hi;rw[hm]at c3 hj;have HN:=ze (And.intro hn hm)
 have i1:(i:Int)<(n:Int):=by omega
 have j1:(j:Int)<(m:Int):=by omega
 clear hz hy hn hm h
 by_cases hz1:z= -1
 ·subst hz1
  by_cases hy1:y= -1
  ·subst hy1
   have HJ2:=ze (show xN (ts,fs) i j=(ts.set i (j:Nat),fs.set j (i:Nat)) by rw[HJ.out,if_pos ⟨rfl,rfl⟩]);rw[HJ2.out];have hne:¬gt=gf:=HH.out.ptf
   have hne2:¬gf=gt:=fun e=>hne e.symm
   have hd:=HH.out
   have hgt1:((w.drew.setCell ⟨gt,i,none⟩ (.int .i64 (j:Nat))).setCell ⟨gf,j,none⟩ (.int .i64 (i:Nat))).heap[gt]? =some (.cells (zcl (ts.set i (j:Nat))) 3 (0,0)):=by
    rw[Below.heap_setCell _ _ _ _ (show gt≠gf from hne),<-zhi];exact zv hd.rowT
   have hgf1:((w.drew.setCell ⟨gt,i,none⟩ (.int .i64 (j:Nat))).setCell ⟨gf,j,none⟩ (.int .i64 (i:Nat))).heap[gf]? =some (.cells (zcl (fs.set j (i:Nat))) 3 (0,0)):=by
    rw[<-zhi];refine zv ?_;rw[Below.heap_setCell _ _ _ _ (show gf≠gt from hne2)];exact hd.rowF
   have hgp1:((w.drew.setCell ⟨gt,i,none⟩ (.int .i64 (j:Nat))).setCell ⟨gf,j,none⟩ (.int .i64 (i:Nat))).heap[gp]? =w.heap[gp]? :=by
    rw[Below.heap_setCell _ _ _ _ (show gp≠gf from hd.ppf),Below.heap_setCell _ _ _ _ (show gp≠gt from hd.ppt)]
    rfl
   have hb1:Below w0.heap.size w0 ((w.drew.setCell ⟨gt,i,none⟩ (.int .i64 (j:Nat))).setCell ⟨gf,j,none⟩ (.int .i64 (i:Nat))):=
    ((hd.below.trans ((zm w 1).mono hd.below.size)).setCell (by show w0.heap.size<=gt;exact hd.ht) _).setCell (by show w0.heap.size<=gf;exact hd.hf) _
   have HR:=ze (show xX w0 vb vs gp gt gf (ts.set i (j:Nat)) (fs.set j (i:Nat)) ((w.drew.setCell ⟨gt,i,none⟩ (.int .i64 (j:Nat))).setCell ⟨gf,j,none⟩ (.int .i64 (i:Nat)))from
    ⟨by rw[hgp1,List.length_set,List.length_set];exact hd.cell,hgt1,hgf1,hd.hp,hd.ht,hd.hf,hd.ptf,hd.ppt,hd.ppf,hb1⟩)
   have HK:=ze (show yH (fun k=>k=gt∨k=gf) w ((w.drew.setCell ⟨gt,i,none⟩ (.int .i64 (j:Nat))).setCell ⟨gf,j,none⟩ (.int .i64 (i:Nat)))from
    ((yH.refl _ w).drew.setCell (.inl rfl) _).setCell (.inr rfl) _)
   clear hgt1 hgf1 hgp1 hb1 hd HJ HJ2 HN
   go_enter Tryz.func141,Tryz.ntmps141
   go_wp2_with fail;go_region
   all_goals go_wp2
   all_goals(
    go_end0
    exact⟨rfl,HR.out,HK.out⟩)
  ·have hyb:(y== -1)=false:=by simpa using hy1
   have HJ2:=ze (show xN (ts,fs) i j=(ts,fs) by rw[HJ.out,if_neg (fun h=>hy1 h.2)]);rw[HJ2.out];clear HJ
   go_enter Tryz.func141,Tryz.ntmps141
   go_wp2_with fail
   go_end0
   exact⟨rfl,HH.out,yH.refl _ _⟩
 ·have hzb:(z== -1)=false:=by simpa using hz1
  have HJ2:=ze (show xN (ts,fs) i j=(ts,fs) by rw[HJ.out,if_neg (fun h=>hz1 h.1)]);rw[HJ2.out];clear HJ
  go_enter Tryz.func141,Tryz.ntmps141
  go_wp2_with fail
  go_end0
  exact⟨rfl,HH.out,yH.refl _ _⟩
def zae(l:List zg)(ws:List Int)(i:Nat):Option TxS:=
 match l[i]?,ws[i]? with
 |some f,some z=>if z= -1 then some (i,zn f.2.2)else none
 | _,_ =>none
def yu(l:List zg)(ws:List Int)(k:Nat):List TxS:=(List.range k).filterMap (zae l ws)
theorem zfX(l:List zg)(ws:List Int)(k:Nat):yu l ws (k+1)=yu l ws k ++(zae l ws k).toList:=by
 rw[yu,List.range_succ,List.filterMap_append]
 cases h:zae l ws k <;> simp[h,yu]
theorem zcn(l:List zg)(ws:List Int)(k:Nat):(yu l ws k).length<=k:=by
 have:=List.length_filterMap_le (zae l ws) (List.range k);simpa[yu]using this
theorem ziQ(va:Value)(gw c:Nat)(l:List zg)(ws:List Int)(w:World)(ha:yM w va l)(hw:w.heap[gw]? =some (.cells (zcl ws) 3 (0,0)))(hl:l.length<=ws.length)(hwl:ws.length<=1000000)(hfl:∀f∈l,f.2.2.length<=1000000):
  Calls Tryz.prog 162 #[va,.slice (some ⟨gw,0,none⟩) ws.length c] w fun e w'=>∃v,e= .returned v/\zbk w' w.heap.size v (yu l ws l.length)/\Below w.heap.size w w':=by
 obtain⟨ao,ac,rfl⟩:=ha.form;have HA:=ze ha;have HW:=ze hw;have HL:=ze (And.intro hl hwl);have HF:=ze hfl;obtain⟨n,hn⟩:∃n,ws.length=n:=⟨_,rfl⟩;have HN:=ze hn;rw[hn];clear ha hw hl hwl hfl hn
 go_enter Tryz.func162,Tryz.ntmps162
 go_wp2_with fail
 go_loopg [5,10] l.length (fun g v i wr=>∃ (k:Nat) (X:List TxS),k<=l.length/\l.length-k=g/\i= .int .i64 k/\Hid (X=yu l ws k/\X.length<=k)/\Hid (zbk wr w.heap.size v X)/\Hid (Below w.heap.size w wr))
 case atStart=>exact⟨0,[],Nat.zero_le _,rfl,rfl,ze ⟨rfl,Nat.le_refl _⟩,ze (zbk.nil _ _),ze (Below.refl _ _)⟩
 case round=>
  obtain⟨k,X,hk,rfl,rfl,HX,HO,HB⟩:=hrel;obtain⟨no,nc,rfl⟩:=HO.out.form;have k0:(0:Int)<=(k:Int):=Int.natCast_nonneg _
  by_cases hlt:k<l.length
  ·have k1:(k:Int)<(l.length:Int):=by omega
   have kn:(k:Int)<(n:Int):=by have:=HL.out.1;have:=HN.out;omega
   have kw:IntKind.i64.wrap ((k:Int)+1)=(k:Int)+1:=IntWalk.i64_in _ (by have:=HL.out;omega);obtain⟨b,o,p,x,t,rfl,he,c1,c2,c3⟩:=yM.at (HA.out.old HB.out) hlt;have htl:t.length<=1000000:=HF.out (p,x,t) (List.mem_of_getElem? he);have hwr:=(HB.out.block _ (lt_of_block HW.out)).trans HW.out;obtain⟨z,hz⟩:∃z,ws[k]? =some z:=⟨_,List.getElem?_eq_getElem (by have:=HL.out.1;omega)⟩;have HOne:=ze (show zae l ws k=if z= -1 then some (k,zn t)else none by rw[zae,he,hz]);obtain⟨wb,hwb⟩:∃wb,wr.alloc (.cells #[.string ⟨p.toArray⟩,.bool x,.string ⟨t.toArray⟩] 28)=wb:=⟨_,rfl⟩
   have hbb:Below w.heap.size w wb:=by rw[<-hwb];exact HB.out.alloc HB.out.size _
   have hgb:wb.heap[wr.heap.size]? =some (.cells #[.string ⟨p.toArray⟩,.bool x,.string ⟨t.toArray⟩] 28 (0,0)):=by rw[<-hwb];exact heap_alloc_new wr _
   have HOB:=ze (show zbk wb w.heap.size (.slice no X.length nc) X by rw[<-hwb];exact HO.out.old ((Below.refl _ _).alloc (Nat.le_refl _) _))
   have hgw:wb.heap[gw]? =some (.cells (zcl ws) 3 (0,0)):=by rw[<-hwb];exact(Below.heap_alloc _ _ _ (lt_of_block hwr)).trans hwr
   have cz:wb.cell? ⟨gw,k,none⟩=some (.int .i64 z):=zd hgw (zbw hz);have q0:wb.cell? ⟨wr.heap.size,0,none⟩=some (.string ⟨p.toArray⟩):=zd (i:=0) hgb rfl;have q1:wb.cell? ⟨wr.heap.size,1,none⟩=some (.bool x):=zd (i:=1) hgb rfl;have q2:wb.cell? ⟨wr.heap.size,2,none⟩=some (.string ⟨t.toArray⟩):=zd (i:=2) hgb rfl;have HBB:=ze hbb;have HXL:=ze (show X.length<=1000000 by have:=HX.out;have:=HL.out;omega);have HT:=ze (zln (p,x,t) k wb htl);unfold ye zq at HT;obtain⟨gb,hgbn⟩:∃gb,wr.heap.size=gb:=⟨_,rfl⟩;rw[hgbn]at q0 q1 q2;have hwbn:wr.alloc (.cells #[.string ⟨p.toArray⟩,.bool x,.string ⟨t.toArray⟩] 28)=wb:=hwb;clear he hz hwr hbb hgb hgw htl
   by_cases hzn:z= -1
   ·subst hzn
    have HE:=ze (show X++[(k,zn t)]=yu l ws (k+1) by rw[zfX,HOne.out,<-HX.out.1];rfl)
    go_upto_region 5 with fail
    clear hwb hwbn hgbn HOne c1 c2 c3;go_wp2_with fail;refine HT.out.mono ?_;rintro e w2 ⟨vl,vs,rfl,hr1,hr2,hb2⟩;obtain⟨lo,lc,rfl⟩:=zl hr1;obtain⟨so,sc,rfl⟩:=zl hr2
    have hlt2:∀q,(Value.slice no X.length nc).ownBlock=some q->q<wb.heap.size:=fun q hq=>(HOB.out.lt q hq).2
    have HN1:=ze (zA hr1 hlt2);have HN2:=ze (zA hr2 hlt2);have HO2:=ze (HOB.out.old hb2);have HB2:=ze (zi HBB.out hb2 HBB.out.size);clear hr1 hr2 hb2 hlt2 HOB HT
    go_wp2_with (at_builtin;refine zel (by rfl) (.tmp 20) (.tmp 24) rfl w.heap.size _ X k (zn t) _ _ rfl HO2.out HN1.out HN2.out _ rfl rfl rfl rfl (by have:=HXL.out;omega) HB2.out.size ?_;intro v5 w5 hO5 hb5)
    go_roundg (l.length-(k+1))
    case measure=>omega
    case rel=>exact⟨k+1,_,by omega,rfl,by go_num,ze ⟨HE.out,by have:=HX.out;simp;omega⟩,ze hO5,ze (HB2.out.trans hb5)⟩
   ·have HE:=ze (show X=yu l ws (k+1) by rw[zfX,HOne.out,if_neg hzn,<-HX.out.1];simp)
    have hzb:(z== -1)=false:=by simpa using hzn
    go_upto_region 5 with fail
    clear hwb hwbn hgbn HOne c1 c2 c3 HT;go_wp2_with fail
    go_roundg (l.length-(k+1))
    case measure=>omega
    case rel=>exact⟨k+1,X,by omega,rfl,by go_num,ze ⟨HE.out,by have:=HX.out;omega⟩,ze HOB.out,ze HBB.out⟩
  ·obtain rfl:k=l.length:=by omega
   have hneg:¬(l.length:Int)<(l.length:Int):=by omega
   go_wp2_with fail;go_ret;rw[<-HX.out.1];exact⟨_,rfl,HO.out,HB.out⟩
end
open Go.RowKit
abbrev MtS:=Nat × Nat × Nat
def zhL:Enc MtS:=⟨3,by omega,fun f=>[.int .i64 (f.1:Nat),.int .i64 (f.2.1:Nat),.int .i64 (f.2.2:Nat)],fun _ =>rfl,fun f u hu=>by
 simp only[List.mem_cons,List.not_mem_nil,or_false]at hu
 rcases hu with rfl |rfl |rfl <;> rfl⟩
theorem Tryz.infoMt:(Tryz.prog.info? 195).map (fun i=>(i.zero,i.size,i.bytes))=some (some (.agg #[.int .i64 0,.int .i64 0,.int .i64 0]),3,24):=by kernel_rfl
abbrev zqO(w:World)(v:Value)(fs:List MtS):Prop:=zy zhL w v fs
abbrev zbf(w:World)(base:Nat)(v:Value)(fs:List MtS):Prop:=w.ownsRow base 195 3 v fs.length (zO zhL fs)
theorem zbf.sl{w:World}{base:Nat}{v:Value}{fs:List MtS}(h:zbf w base v fs):zqO w v fs:=zy.ofOwns (E:=zhL) h
theorem zqO.at{w:World}{ao:Option Addr}{n cap:Nat}{fs:List MtS}(h:zqO w (.slice ao n cap) fs){i:Nat}(hi:i<fs.length):
  ∃b o p q r,ao=some ⟨b,o,none⟩/\fs[i]? =some (p,q,r)/\w.cell? ⟨b,o+i*3,none⟩=some (.int .i64 (p:Nat))/\w.cell? ⟨b,o+i*3+1,none⟩=some (.int .i64 (q:Nat))/\w.cell? ⟨b,o+i*3+2,none⟩=some (.int .i64 (r:Nat)):=by
 obtain⟨b,o,⟨p,q,r⟩,ha,hx,hc⟩:=zy.at' h hi;exact⟨b,o,p,q,r,ha,hx,hc 0 _ rfl,hc 1 _ rfl,hc 2 _ rfl⟩
section
variable{w:World}
theorem zfh{ops:Array Oper}{rest:List Oper}{o:Oper}{a:Act}{Q:Exit->Act->World->Prop}(hgd:o.guard=none)(s sx:Operand)
  (ho:o.op= .call {callee:= .builtin .append,args:= #[s,sx],argTypes:= #[192,192] })
  (base:Nat) (v:Value) (xs:List MtS) (x:MtS) (he:a.eval s=v) (hown:zbf w base v xs) (q:Nat) (hx:a.eval sx= .slice (some ⟨q,0,none⟩) 1 1) (hq:w.heap.size=q)
  (hlen:xs.length<=100000000) (hbase:base<=w.heap.size)
  (h:∀v' w',zbf w' base v' (xs++[x])->Below base w w'->(∀b,b<w.heap.size->v.ownBlock≠some b->w'.heap[b]? =w.heap[b]?)->wpList Tryz.prog ops Q rest (a.put o.dst v') w'):wpList Tryz.prog ops Q (o::rest) a (w.alloc (.cells #[.int .i64 (x.1:Nat),.int .i64 (x.2.1:Nat),.int .i64 (x.2.2:Nat)] 195)):=by
 obtain⟨i0,hi0,hi1,hi2,hi3⟩:=info_parts Tryz.infoMt;subst hq
 have hsrc:Src Tryz.prog 3 192 (.slice (some ⟨w.heap.size,0,none⟩) 1 1) 1 (zhL.enc x) (w.alloc (.cells #[.int .i64 (x.1:Nat),.int .i64 (x.2.1:Nat),.int .i64 (x.2.2:Nat)] 195)):=by
  refine Src.ofSlice _ Tryz.underlying192 ⟨w.heap.size,0,none⟩ 1 1 (zhL.enc x) rfl (fun j u hu=>?_) (zhL.one x);rw[Addr.add_lit,Nat.zero_add];refine zd (heap_alloc_new w _) ?_;rw[List.getElem?_toArray];exact hu
 refine yd _ hgd s sx _ _ ho base 195 i0 _ 3 24 Tryz.underlying192 hi0 hi1 hi2 hi3 rfl (by omega) v _ _ he (hown.alloc _) _ 1 _ hx hsrc (by unfold maxLen;omega) (by omega) (by simp;omega) fun v' w' h2 h3 h4=>h v' w' ?_ ?_ fun b hb hne=>(h3.block b (by simp;omega) (fun e=>hne e.symm)).trans (Below.heap_alloc w _ b hb)
 ·unfold zbf
  rw[List.length_append,xA,zbR];exact h2
 ·exact((Below.refl base w).alloc hbase _).grown h3 (by simp;omega) (fun j hj=>(hown.lt j hj).1)
end
end Go.Proofs.YtbnafihigoekeaaGreatDoor

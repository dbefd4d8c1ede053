/-
  TmTl, part 14.
-/
import Derived.Test.YtbnafihigoekeaaGreatDoorZt13
import Derived.Test.YtbnafihigoekeaaGreatDoorZt10
set_option maxRecDepth 100000
set_option maxHeartbeats 4000000
namespace Go.Proofs.YtbnafihigoekeaaGreatDoor
open Go.RowKit
theorem jB{w:World}{b b':Nat}{e:TypeId}{size:Nat}{v:Value}{n:Nat}{xs:List Value}(h:w.ownsRow b e size v n xs)(hb:b'<=b):w.ownsRow b' e size v n xs:=by
 refine⟨h.1,?_⟩
 rcases h.2 with hn |⟨g,cap,cur,rfl,hbg,rest⟩
 ·exact .inl hn
 ·exact .inr ⟨g,cap,cur,rfl,Nat.le_trans hb hbg,rest⟩
def zbM(w:World)(base:Nat)(ub uo ut:Value)(b o t:List (List UInt8)):Prop:=
 w.ownsRow base 9 1 ub b.length (zj b)/\w.ownsRow base 9 1 uo o.length (zj o)/\w.ownsRow base 9 1 ut t.length (zj t)
theorem zbM.kept{w w':World}{base:Nat}{ub uo ut:Value}{b o t:List (List UInt8)}(h:zbM w base ub uo ut b o t)(hk:∀g,(ub.ownBlock=some g∨uo.ownBlock=some g∨ut.ownBlock=some g)->g<w.heap.size->w'.heap[g]? =w.heap[g]?):zbM w' base ub uo ut b o t:=
 ⟨zD h.1 fun g hg=>hk g (.inl hg),zD h.2.1 fun g hg=>hk g (.inr (.inl hg)),zD h.2.2 fun g hg=>hk g (.inr (.inr hg))⟩
theorem Tryz.sizeCk:(Tryz.prog.info? 104).map (·.size)=some 4:=by kernel_rfl
theorem zS{P:Program}{ops:Array Oper}{rest:List Oper}{o:Oper}{a:Act}{w:World}{Q:Exit->Act->World->Prop}(hgd:o.guard=none)(ty:TypeId)(x y:Operand)(ho:o.op= .store ty x y)
  (g:Nat) (cells:Array Value) (hx:a.eval x= .pointer (some ⟨g,0,none⟩)) (hy:a.eval y= .agg cells)
  (t:TypeId) (old:Array Value) (hg:w.heap[g]? =some (.cells old t (0,0))) (n:Nat) (hi:(P.info? ty).map (·.size)=some n) (hn:cells.size=n)
  (hold:old.size=n) (h1:cells.all (·.oneCell')=true)
  (h:∀w',w'.heap[g]? =some (.cells cells t (0,0))->yH (· =g) w w'->wpList P ops Q rest (a.put o.dst undef) w'):wpList P ops Q (o::rest) a w:=
 wpList_store_row hgd ty x y ho g cells hx hy t old hg (by rw[hi,hn]) (by rw[hold,hn]) h1 (h _ (setRow_heap w g old cells t _ hg) ⟨rfl,rfl,rfl,by simp[World.setRow],fun k _ hk=>setRow_other w g k _ hk⟩)
theorem qL{P:Program}{fn:Func}{p q:Tmp}{ty:TypeId}(h:fn.results= #[.cell p ty,.tmp q])(tmps:Array Value)(w:World)(g:Nat)(t:TypeId)(cs:Array Value)(fr:Nat × Nat)(d:TypeDesc)(v:Value)
  (hp:tmps.getD p undef= .pointer (some ⟨g,0,none⟩)) (hv:tmps.getD q undef=v) (hg:w.heap[g]? =some (.cells cs t fr))
  (hu:P.underlying ty=some d) (hd:(match d with | .struct _ | .array _ _ =>true | _ =>false)=true) (hi:(P.info? ty).map (·.size)=some cs.size):
  (results fn tmps).run P w= .ok (.tuple #[.agg cs,v]) w:=by
 have hp':tmps[p]?.getD undef= .pointer (some ⟨g,0,none⟩):=by simpa using hp
 have hv':tmps[q]?.getD undef=v:=by simpa using hv
 simp[results,h,hp',hv',asAddr,run_loadVar_row w g t ty cs fr d hg hu hd hi]
theorem zci{w w':World}{g:Nat}(h:w'.heap[g]? =w.heap[g]?)(hg:g<w.heap.size):g<w'.heap.size:=by
 rw[Array.getElem?_eq_getElem hg]at h;exact(Array.getElem?_eq_some_iff.1 h).1
theorem qf(w:World)(a b:Nat):(w.drewN a).drewN b=w.drewN (a+b):=by simp
section
theorem zjO(vb vo vt:Value)(b o t:List (List UInt8))(w:World)(hb:Sl w vb (zj b))(ho:Sl w vo (zj o))(ht:Sl w vt (zj t))(lb:b.length<=1000000)(lo:o.length<=1000000)(lt:t.length<=1000000):
  Calls Tryz.prog 84 #[vb,vo,vt] w fun e w'=>∃k ub uo ut,e= .returned (.tuple #[.agg #[.int .i64 k,ub,uo,ut],.bool (!decide (b=[]/\o=[]/\t=[]))])/\(¬(b=[]/\o=[]/\t=[])->k=yg b o t)/\zbM w' w.heap.size ub uo ut b o t/\Below w.heap.size w w':=by
 obtain⟨ab,cb,rfl⟩:=hb.form;obtain⟨ao,co,rfl⟩:=ho.form;obtain⟨at',ct,rfl⟩:=ht.form;rw[zk]at hb ho ht ⊢;rw[zk,zk];have HB:=ze hb;have HO:=ze ho;have HT:=ze ht;have HL:=ze (And.intro lb (And.intro lo lt));clear hb ho ht;have b0:(0:Int)<=(b.length:Int):=Int.natCast_nonneg _;have o0:(0:Int)<=(o.length:Int):=Int.natCast_nonneg _;have t0:(0:Int)<=(t.length:Int):=Int.natCast_nonneg _;have sw1:IntKind.i64.wrap ((b.length:Int) +(o.length:Int))=(b.length:Int) +(o.length:Int):=IntWalk.i64_in _ (by omega);have sw2:IntKind.i64.wrap ((b.length:Int) +(o.length:Int) +(t.length:Int))=(b.length:Int) +(o.length:Int) +(t.length:Int):=IntWalk.i64_in _ (by omega)
 by_cases h0:b=[]/\o=[]/\t=[]
 ·have d0:((b.length:Int) +(o.length:Int) +(t.length:Int)==0)=true:=by obtain⟨rfl,rfl,rfl⟩:=h0;rfl
  have H0:=ze h0;clear h0
  go_enter Tryz.func84,Tryz.ntmps84
  go_wp2_with (first
   |(refine zC rfl (.const (.slice none 0 0)) (.tmp 9) rfl (w.heap.size+1) _ [] b rfl (World.ownsRow_nil _ _ _ _) _ rfl (HB.out.alloc _) (by have:=HL.out;simp;omega) (by simp) ?_;intro u1 w1 p1 q1;rw[List.nil_append]at p1;obtain⟨x1,y1,rfl⟩:=zl p1;have HP1:=ze p1;have HQ1:=ze (show Below (w.alloc (.cells #[.int .i64 0,.slice none 0 0,.slice none 0 0,.slice none 0 0] 104)).heap.size (w.alloc (.cells #[.int .i64 0,.slice none 0 0,.slice none 0 0,.slice none 0 0] 104)) w1 from q1.mono (by simp));clear p1 q1)
   |(refine zC rfl (.const (.slice none 0 0)) (.tmp 11) rfl w1.heap.size _ [] o rfl (World.ownsRow_nil _ _ _ _) _ rfl (Sl.old (HO.out.alloc _) HQ1.out) (by have:=HL.out;simp;omega) (Nat.le_refl _) ?_;intro u2 w2 p2 q2;rw[List.nil_append]at p2;obtain⟨x2,y2,rfl⟩:=zl p2;have HP2:=ze p2;have HQ2:=ze q2;clear p2 q2)
   |(refine zC rfl (.const (.slice none 0 0)) (.tmp 13) rfl w2.heap.size _ [] t rfl (World.ownsRow_nil _ _ _ _) _ rfl (Sl.old (Sl.old (HT.out.alloc _) HQ1.out) HQ2.out) (by have:=HL.out;simp;omega) (Nat.le_refl _) ?_;intro u3 w3 p3 q3;rw[List.nil_append]at p3;obtain⟨x3,y3,rfl⟩:=zl p3;have HP3:=ze p3;have HQ3:=ze q3;clear p3 q3;have hz3:w.heap.size<w3.heap.size:=(by have h1:=HQ1.out.size;have h2:=HQ2.out.size;have h3:=HQ3.out.size;simp at h1;omega);have hblk:w3.heap[w.heap.size]? =some (.cells #[.int .i64 0,.slice none 0 0,.slice none 0 0,.slice none 0 0] 104 (0,0)):=(HQ3.out.block _ (by have h1:=HQ1.out.size;have h2:=HQ2.out.size;simp at h1;omega)).trans ((HQ2.out.block _ (by have h1:=HQ1.out.size;simp at h1;omega)).trans ((HQ1.out.block _ (by simp)).trans (heap_alloc_new w _)));have hb4:∀obj,(w3.alloc obj).heap[w.heap.size]? = _:=fun obj=>(Below.heap_alloc w3 obj _ hz3).trans hblk)
   |(refine zS rfl 104 _ _ rfl w.heap.size #[.int .i64 0,.slice x1 b.length y1,.slice x2 o.length y2,.slice x3 t.length y3] rfl rfl _ _ (hb4 _) 4 Tryz.sizeCk rfl rfl (by simp[Value.oneCell']) ?_;intro w9 hg9 hk9;have R0:=zd (i:=0) hg9 rfl;have R1:=zd (i:=1) hg9 rfl;have R2:=zd (i:=2) hg9 rfl;have R3:=zd (i:=3) hg9 rfl))
  go_wp2_with fail;rw[decide_eq_true H0.out];refine bodyPost_ret (qL rfl _ _ w.heap.size _ _ _ _ _ rfl rfl hg9 Tryz.underlying104 rfl Tryz.sizeCk) rfl ?_;refine⟨0,_,_,_,rfl,fun h=>absurd H0.out h,?_,?_⟩
  ·refine zbM.kept (w:=w3) ⟨jB (zD (zD HP1.out fun g _ hg=>HQ2.out.block g hg) fun g _ hg=>HQ3.out.block g hg) (Nat.le_succ _),jB (zD HP2.out fun g _ hg=>HQ3.out.block g hg) (by have h1:=HQ1.out.size;simp at h1;omega),jB HP3.out (by have h1:=HQ1.out.size;have h2:=HQ2.out.size;simp at h1;omega)⟩ (fun g hg hlt=>?_)
   have hgl:w.heap.size<g:=by
    rcases hg with hg |hg |hg
    ·exact(HP1.out.lt _ hg).1
    ·have h1:=(HP2.out.lt _ hg).1;have h2:=HQ1.out.size;simp at h2;omega
    ·have h1:=(HP3.out.lt _ hg).1;have h2:=HQ1.out.size;have h3:=HQ2.out.size;simp at h2;omega
   exact(hk9.block g (by simp;omega) (by omega)).trans (Below.heap_alloc _ _ _ hlt)
  ·exact(((((Below.refl _ w).alloc (Nat.le_refl _) _).trans (HQ1.out.mono (by simp))).trans (HQ2.out.mono (by have h1:=HQ1.out.size;simp at h1;omega))).trans (HQ3.out.mono (by have h1:=HQ1.out.size;have h2:=HQ2.out.size;simp at h1;omega))).alloc (by omega) _ |>.trans (hk9.below (by simp;omega) (fun k hk e=>by omega))
 have d0:((b.length:Int) +(o.length:Int) +(t.length:Int)==0)=false:=by
  rw[beq_eq_false_iff_ne];intro e;exact h0 ⟨List.eq_nil_of_length_eq_zero (by omega),List.eq_nil_of_length_eq_zero (by omega),List.eq_nil_of_length_eq_zero (by omega)⟩
 have H0:=ze h0;clear h0
 go_enter Tryz.func84,Tryz.ntmps84
 go_wp2_with (first
   |(refine zC rfl (.const (.slice none 0 0)) (.tmp 9) rfl (w.heap.size+1) _ [] b rfl (World.ownsRow_nil _ _ _ _) _ rfl (HB.out.alloc _) (by have:=HL.out;simp;omega) (by simp) ?_;intro u1 w1 p1 q1;rw[List.nil_append]at p1;obtain⟨x1,y1,rfl⟩:=zl p1;have HP1:=ze p1;have HQ1:=ze (show Below (w.alloc (.cells #[.int .i64 0,.slice none 0 0,.slice none 0 0,.slice none 0 0] 104)).heap.size (w.alloc (.cells #[.int .i64 0,.slice none 0 0,.slice none 0 0,.slice none 0 0] 104)) w1 from q1.mono (by simp));clear p1 q1)
   |(refine zC rfl (.const (.slice none 0 0)) (.tmp 11) rfl w1.heap.size _ [] o rfl (World.ownsRow_nil _ _ _ _) _ rfl (Sl.old (HO.out.alloc _) HQ1.out) (by have:=HL.out;simp;omega) (Nat.le_refl _) ?_;intro u2 w2 p2 q2;rw[List.nil_append]at p2;obtain⟨x2,y2,rfl⟩:=zl p2;have HP2:=ze p2;have HQ2:=ze q2;clear p2 q2)
   |(refine zC rfl (.const (.slice none 0 0)) (.tmp 13) rfl w2.heap.size _ [] t rfl (World.ownsRow_nil _ _ _ _) _ rfl (Sl.old (Sl.old (HT.out.alloc _) HQ1.out) HQ2.out) (by have:=HL.out;simp;omega) (Nat.le_refl _) ?_;intro u3 w3 p3 q3;rw[List.nil_append]at p3;obtain⟨x3,y3,rfl⟩:=zl p3;have HP3:=ze p3;have HQ3:=ze q3;clear p3 q3;have hz3:w.heap.size<w3.heap.size:=(by have h1:=HQ1.out.size;have h2:=HQ2.out.size;have h3:=HQ3.out.size;simp at h1;omega);have hblk:w3.heap[w.heap.size]? =some (.cells #[.int .i64 0,.slice none 0 0,.slice none 0 0,.slice none 0 0] 104 (0,0)):=(HQ3.out.block _ (by have h1:=HQ1.out.size;have h2:=HQ2.out.size;simp at h1;omega)).trans ((HQ2.out.block _ (by have h1:=HQ1.out.size;simp at h1;omega)).trans ((HQ1.out.block _ (by simp)).trans (heap_alloc_new w _)));have hb4:∀obj,(w3.alloc obj).heap[w.heap.size]? = _:=fun obj=>(Below.heap_alloc w3 obj _ hz3).trans hblk))
 go_wp2_with fail;have HTH:=ze (show zbM w3 w.heap.size (.slice x1 b.length y1) (.slice x2 o.length y2) (.slice x3 t.length y3) b o t from⟨jB (zD (zD HP1.out fun g _ hg=>HQ2.out.block g hg) fun g _ hg=>HQ3.out.block g hg) (Nat.le_succ _),jB (zD HP2.out fun g _ hg=>HQ3.out.block g hg) (by have h1:=HQ1.out.size;simp at h1;omega),jB HP3.out (by have h1:=HQ1.out.size;have h2:=HQ2.out.size;simp at h1;omega)⟩)
 have HGL:=ze (show ∀g,((Value.slice x1 b.length y1).ownBlock=some g∨(Value.slice x2 o.length y2).ownBlock=some g∨(Value.slice x3 t.length y3).ownBlock=some g)->w.heap.size<g from fun g hg=>by
  rcases hg with hg |hg |hg
  ·exact(HP1.out.lt _ hg).1
  ·have h1:=(HP2.out.lt _ hg).1;have h2:=HQ1.out.size;simp at h2;omega
  ·have h1:=(HP3.out.lt _ hg).1;have h2:=HQ1.out.size;have h3:=HQ2.out.size;simp at h2;omega)
 have HZ:=ze hz3;have B3:Below w.heap.size w w3:=((((Below.refl _ w).alloc (Nat.le_refl _) _).trans (HQ1.out.mono (by simp))).trans (HQ2.out.mono (by have h1:=HQ1.out.size;simp at h1;omega))).trans (HQ3.out.mono (by have h1:=HQ1.out.size;have h2:=HQ2.out.size;simp at h1;omega));have B4:=ze (B3.alloc (Nat.le_of_lt hz3) (.cells #[.int .i64 0,.slice x1 b.length y1,.slice x2 o.length y2,.slice x3 t.length y3] 104));have G4:=ze (heap_alloc_new w3 (.cells #[.int .i64 0,.slice x1 b.length y1,.slice x2 o.length y2,.slice x3 t.length y3] 104));have R4:=ze (hb4 (.cells #[.int .i64 0,.slice x1 b.length y1,.slice x2 o.length y2,.slice x3 t.length y3] 104));have K4:=ze (fun g (hg:g<w3.heap.size)=>Below.heap_alloc w3 (.cells #[.int .i64 0,.slice x1 b.length y1,.slice x2 o.length y2,.slice x3 t.length y3] 104) g hg);have Z4:=ze (show(w3.alloc (.cells #[.int .i64 0,.slice x1 b.length y1,.slice x2 o.length y2,.slice x3 t.length y3] 104)).heap.size=w3.heap.size+1 by simp);generalize(w3.alloc (.cells #[.int .i64 0,.slice x1 b.length y1,.slice x2 o.length y2,.slice x3 t.length y3] 104))=W4 at B4 G4 R4 K4 Z4 ⊢
 have D4:∀q,Below w.heap.size w (W4.drewN q):=fun q=>B4.out.trans ⟨rfl,rfl,rfl,Nat.le_refl _,fun _ _ =>rfl⟩
 clear hb4 hblk hz3 HP1 HP2 HP3 HQ1 HQ2 HQ3 B3;have hL:=HL.out;refine(zej _ _ o b _ (Sl.old HO.out B4.out) (Sl.old HB.out B4.out) (by unfold maxLen;omega)).mono ?_;rintro e w5 ⟨rfl,q,rfl⟩
 by_cases e1:o=b
 ·have HKD:=ze (show yg b o t=3 by rw[yg,if_pos e1])
  have d1:(o==b)=true:=by simpa using e1
  rw[d1];clear e1;have g5:(W4.drewN q).heap[w3.heap.size]? = _:=G4.out;have r5:(W4.drewN q).heap[w.heap.size]? = _:=R4.out;have B5:Below w.heap.size w (W4.drewN q):=B4.out.trans ⟨rfl,rfl,rfl,Nat.le_refl _,fun _ _ =>rfl⟩;have K5:∀g,g<w3.heap.size->(W4.drewN q).heap[g]? =w3.heap[g]? :=K4.out;have z5:(W4.drewN q).heap.size=w3.heap.size+1:=Z4.out;generalize W4.drewN q=W5 at g5 r5 B5 K5 z5 ⊢;have c5:=zd (i:=0) g5 rfl;have f5:=zo (i:=0) g5;have g6:=zv (i:=0) (u:= .int .i64 3) g5;have r6:(W5.setCell ⟨w3.heap.size,0,none⟩ (.int .i64 3)).heap[w.heap.size]? = _:=(Below.heap_setCell _ _ _ _ (Nat.ne_of_lt HZ.out)).trans r5;have l0:=zd (i:=0) g6 (v:= .int .i64 3) rfl;have l1:=zd (i:=1) g6 (v:= .slice x1 b.length y1) rfl;have l2:=zd (i:=2) g6 (v:= .slice x2 o.length y2) rfl;have l3:=zd (i:=3) g6 (v:= .slice x3 t.length y3) rfl;have B6:Below w.heap.size w (W5.setCell ⟨w3.heap.size,0,none⟩ (.int .i64 3)):=B5.setCell (Nat.le_of_lt HZ.out) _;have HB6:=ze B6;have HR6:=ze r6;have HK6:=ze (show ∀g,g<w3.heap.size->(W5.setCell ⟨w3.heap.size,0,none⟩ (.int .i64 3)).heap[g]? =w3.heap[g]? from fun g hg=>(Below.heap_setCell _ _ _ _ (Nat.ne_of_lt hg)).trans (K5 g hg));have HZ6:=ze (show w.heap.size <(W5.setCell ⟨w3.heap.size,0,none⟩ (.int .i64 3)).heap.size by have:=HZ.out;simp[World.setCell];omega);clear g5 r5 B5 K5 z5 g6 r6 B6
  go_wp2_with (refine zS rfl 104 _ _ rfl w.heap.size #[.int .i64 3,.slice x1 b.length y1,.slice x2 o.length y2,.slice x3 t.length y3] rfl rfl _ _ HR6.out 4 Tryz.sizeCk rfl rfl (by simp[Value.oneCell']) ?_;intro w9 hg9 hk9)
  refine bodyPost_ret (qL rfl _ _ w.heap.size _ _ _ _ _ rfl rfl hg9 Tryz.underlying104 rfl Tryz.sizeCk) rfl ?_;refine⟨3,_,_,_,by rw[decide_eq_false H0.out];rfl,fun _ =>HKD.out.symm,?_,?_⟩
  ·refine HTH.out.kept fun g hg hlt=>?_
   have hgl:=HGL.out g hg;exact(hk9.block g (by have:=HZ6.out;have:=HK6.out;have:=zci (HK6.out g hlt) hlt;omega) (by omega)).trans (HK6.out g hlt)
  ·exact HB6.out.trans (hk9.below (by have:=HZ6.out;omega) (fun k hk e=>by omega))
 have d1:(o==b)=false:=by simpa using e1
 rw[d1];go_wp2_with fail;refine(zej _ _ t b _ (Sl.old HT.out (D4 _)) (Sl.old HB.out (D4 _)) (by unfold maxLen;omega)).mono ?_;rintro e w5 ⟨rfl,q1,rfl⟩
 by_cases e2:t=b
 ·have HKD:=ze (show yg b o t=2 by rw[yg,if_neg e1,if_pos e2])
  have d2:(t==b)=true:=by simpa using e2
  rw[d2];clear e1 e2;obtain⟨q,hq⟩:∃z,(W4.drewN q).drewN q1=W4.drewN z:=⟨_,qf W4 q q1⟩;rw[hq];have g5:(W4.drewN q).heap[w3.heap.size]? = _:=G4.out;have r5:(W4.drewN q).heap[w.heap.size]? = _:=R4.out;have B5:Below w.heap.size w (W4.drewN q):=B4.out.trans ⟨rfl,rfl,rfl,Nat.le_refl _,fun _ _ =>rfl⟩;have K5:∀g,g<w3.heap.size->(W4.drewN q).heap[g]? =w3.heap[g]? :=K4.out;have z5:(W4.drewN q).heap.size=w3.heap.size+1:=Z4.out;generalize W4.drewN q=W5 at g5 r5 B5 K5 z5 ⊢;have c5:=zd (i:=0) g5 rfl;have f5:=zo (i:=0) g5;have g6:=zv (i:=0) (u:= .int .i64 2) g5;have r6:(W5.setCell ⟨w3.heap.size,0,none⟩ (.int .i64 2)).heap[w.heap.size]? = _:=(Below.heap_setCell _ _ _ _ (Nat.ne_of_lt HZ.out)).trans r5;have l0:=zd (i:=0) g6 (v:= .int .i64 2) rfl;have l1:=zd (i:=1) g6 (v:= .slice x1 b.length y1) rfl;have l2:=zd (i:=2) g6 (v:= .slice x2 o.length y2) rfl;have l3:=zd (i:=3) g6 (v:= .slice x3 t.length y3) rfl;have B6:Below w.heap.size w (W5.setCell ⟨w3.heap.size,0,none⟩ (.int .i64 2)):=B5.setCell (Nat.le_of_lt HZ.out) _;have HB6:=ze B6;have HR6:=ze r6;have HK6:=ze (show ∀g,g<w3.heap.size->(W5.setCell ⟨w3.heap.size,0,none⟩ (.int .i64 2)).heap[g]? =w3.heap[g]? from fun g hg=>(Below.heap_setCell _ _ _ _ (Nat.ne_of_lt hg)).trans (K5 g hg));have HZ6:=ze (show w.heap.size <(W5.setCell ⟨w3.heap.size,0,none⟩ (.int .i64 2)).heap.size by have:=HZ.out;simp[World.setCell];omega);clear g5 r5 B5 K5 z5 g6 r6 B6
  go_wp2_with (refine zS rfl 104 _ _ rfl w.heap.size #[.int .i64 2,.slice x1 b.length y1,.slice x2 o.length y2,.slice x3 t.length y3] rfl rfl _ _ HR6.out 4 Tryz.sizeCk rfl rfl (by simp[Value.oneCell']) ?_;intro w9 hg9 hk9)
  refine bodyPost_ret (qL rfl _ _ w.heap.size _ _ _ _ _ rfl rfl hg9 Tryz.underlying104 rfl Tryz.sizeCk) rfl ?_;refine⟨2,_,_,_,by rw[decide_eq_false H0.out];rfl,fun _ =>HKD.out.symm,?_,?_⟩
  ·refine HTH.out.kept fun g hg hlt=>?_
   have hgl:=HGL.out g hg;exact(hk9.block g (by have:=HZ6.out;have:=HK6.out;have:=zci (HK6.out g hlt) hlt;omega) (by omega)).trans (HK6.out g hlt)
  ·exact HB6.out.trans (hk9.below (by have:=HZ6.out;omega) (fun k hk e=>by omega))
 have d2:(t==b)=false:=by simpa using e2
 rw[d2];go_wp2_with fail;refine(zej _ _ o t _ (Sl.old HO.out (D4 _)) (Sl.old HT.out (D4 _)) (by unfold maxLen;omega)).mono ?_;rintro e w5 ⟨rfl,q2,rfl⟩
 by_cases e3:o=t
 ·have HKD:=ze (show yg b o t=4 by rw[yg,if_neg e1,if_neg e2,if_pos e3])
  have d3:(o==t)=true:=by simpa using e3
  rw[d3];clear e1 e2 e3;obtain⟨q,hq⟩:∃z,(W4.drewN (q+q1)).drewN q2=W4.drewN z:=⟨_,qf W4 _ q2⟩;rw[hq];have g5:(W4.drewN q).heap[w3.heap.size]? = _:=G4.out;have r5:(W4.drewN q).heap[w.heap.size]? = _:=R4.out;have B5:Below w.heap.size w (W4.drewN q):=B4.out.trans ⟨rfl,rfl,rfl,Nat.le_refl _,fun _ _ =>rfl⟩;have K5:∀g,g<w3.heap.size->(W4.drewN q).heap[g]? =w3.heap[g]? :=K4.out;have z5:(W4.drewN q).heap.size=w3.heap.size+1:=Z4.out;generalize W4.drewN q=W5 at g5 r5 B5 K5 z5 ⊢;have c5:=zd (i:=0) g5 rfl;have f5:=zo (i:=0) g5;have g6:=zv (i:=0) (u:= .int .i64 4) g5;have r6:(W5.setCell ⟨w3.heap.size,0,none⟩ (.int .i64 4)).heap[w.heap.size]? = _:=(Below.heap_setCell _ _ _ _ (Nat.ne_of_lt HZ.out)).trans r5;have l0:=zd (i:=0) g6 (v:= .int .i64 4) rfl;have l1:=zd (i:=1) g6 (v:= .slice x1 b.length y1) rfl;have l2:=zd (i:=2) g6 (v:= .slice x2 o.length y2) rfl;have l3:=zd (i:=3) g6 (v:= .slice x3 t.length y3) rfl;have B6:Below w.heap.size w (W5.setCell ⟨w3.heap.size,0,none⟩ (.int .i64 4)):=B5.setCell (Nat.le_of_lt HZ.out) _;have HB6:=ze B6;have HR6:=ze r6;have HK6:=ze (show ∀g,g<w3.heap.size->(W5.setCell ⟨w3.heap.size,0,none⟩ (.int .i64 4)).heap[g]? =w3.heap[g]? from fun g hg=>(Below.heap_setCell _ _ _ _ (Nat.ne_of_lt hg)).trans (K5 g hg));have HZ6:=ze (show w.heap.size <(W5.setCell ⟨w3.heap.size,0,none⟩ (.int .i64 4)).heap.size by have:=HZ.out;simp[World.setCell];omega);clear g5 r5 B5 K5 z5 g6 r6 B6
  go_wp2_with (refine zS rfl 104 _ _ rfl w.heap.size #[.int .i64 4,.slice x1 b.length y1,.slice x2 o.length y2,.slice x3 t.length y3] rfl rfl _ _ HR6.out 4 Tryz.sizeCk rfl rfl (by simp[Value.oneCell']) ?_;intro w9 hg9 hk9)
  refine bodyPost_ret (qL rfl _ _ w.heap.size _ _ _ _ _ rfl rfl hg9 Tryz.underlying104 rfl Tryz.sizeCk) rfl ?_;refine⟨4,_,_,_,by rw[decide_eq_false H0.out];rfl,fun _ =>HKD.out.symm,?_,?_⟩
  ·refine HTH.out.kept fun g hg hlt=>?_
   have hgl:=HGL.out g hg;exact(hk9.block g (by have:=HZ6.out;have:=HK6.out;have:=zci (HK6.out g hlt) hlt;omega) (by omega)).trans (HK6.out g hlt)
  ·exact HB6.out.trans (hk9.below (by have:=HZ6.out;omega) (fun k hk e=>by omega))
 have HKD:=ze (show yg b o t=5 by rw[yg,if_neg e1,if_neg e2,if_neg e3])
 have d3:(o==t)=false:=by simpa using e3
 rw[d3];clear e1 e2 e3;obtain⟨q,hq⟩:∃z,(W4.drewN (q+q1)).drewN q2=W4.drewN z:=⟨_,qf W4 _ q2⟩;rw[hq];have g5:(W4.drewN q).heap[w3.heap.size]? = _:=G4.out;have r5:(W4.drewN q).heap[w.heap.size]? = _:=R4.out;have B5:Below w.heap.size w (W4.drewN q):=B4.out.trans ⟨rfl,rfl,rfl,Nat.le_refl _,fun _ _ =>rfl⟩;have K5:∀g,g<w3.heap.size->(W4.drewN q).heap[g]? =w3.heap[g]? :=K4.out;have z5:(W4.drewN q).heap.size=w3.heap.size+1:=Z4.out;generalize W4.drewN q=W5 at g5 r5 B5 K5 z5 ⊢;have c5:=zd (i:=0) g5 rfl;have f5:=zo (i:=0) g5;have g6:=zv (i:=0) (u:= .int .i64 5) g5;have r6:(W5.setCell ⟨w3.heap.size,0,none⟩ (.int .i64 5)).heap[w.heap.size]? = _:=(Below.heap_setCell _ _ _ _ (Nat.ne_of_lt HZ.out)).trans r5;have l0:=zd (i:=0) g6 (v:= .int .i64 5) rfl;have l1:=zd (i:=1) g6 (v:= .slice x1 b.length y1) rfl;have l2:=zd (i:=2) g6 (v:= .slice x2 o.length y2) rfl;have l3:=zd (i:=3) g6 (v:= .slice x3 t.length y3) rfl;have B6:Below w.heap.size w (W5.setCell ⟨w3.heap.size,0,none⟩ (.int .i64 5)):=B5.setCell (Nat.le_of_lt HZ.out) _;have HB6:=ze B6;have HR6:=ze r6;have HK6:=ze (show ∀g,g<w3.heap.size->(W5.setCell ⟨w3.heap.size,0,none⟩ (.int .i64 5)).heap[g]? =w3.heap[g]? from fun g hg=>(Below.heap_setCell _ _ _ _ (Nat.ne_of_lt hg)).trans (K5 g hg));have HZ6:=ze (show w.heap.size <(W5.setCell ⟨w3.heap.size,0,none⟩ (.int .i64 5)).heap.size by have:=HZ.out;simp[World.setCell];omega);clear g5 r5 B5 K5 z5 g6 r6 B6
 go_wp2_with (refine zS rfl 104 _ _ rfl w.heap.size #[.int .i64 5,.slice x1 b.length y1,.slice x2 o.length y2,.slice x3 t.length y3] rfl rfl _ _ HR6.out 4 Tryz.sizeCk rfl rfl (by simp[Value.oneCell']) ?_;intro w9 hg9 hk9)
 refine bodyPost_ret (qL rfl _ _ w.heap.size _ _ _ _ _ rfl rfl hg9 Tryz.underlying104 rfl Tryz.sizeCk) rfl ?_;refine⟨5,_,_,_,by rw[decide_eq_false H0.out];rfl,fun _ =>HKD.out.symm,?_,?_⟩
 ·refine HTH.out.kept fun g hg hlt=>?_
  have hgl:=HGL.out g hg;exact(hk9.block g (by have:=HZ6.out;have:=HK6.out;have:=zci (HK6.out g hlt) hlt;omega) (by omega)).trans (HK6.out g hlt)
 ·exact HB6.out.trans (hk9.below (by have:=HZ6.out;omega) (fun k hk e=>by omega))
theorem zfS(vb vo vt:Value)(b o t:List (List UInt8))(w:World)(hb:Sl w vb (zj b))(ho:Sl w vo (zj o))(ht:Sl w vt (zj t))(lb:b.length<=1000000)(lo:o.length<=1000000)(lt:t.length<=1000000):
  Calls Tryz.prog 84 #[vb,vo,vt] w fun e w'=>∃ (k:Int) (y1:Option Addr) (z1:Nat) (y2:Option Addr) (z2:Nat) (y3:Option Addr) (z3:Nat),e= .returned (.tuple #[.agg #[.int .i64 k,.slice y1 b.length z1,.slice y2 o.length z2,.slice y3 t.length z3],.bool (!decide (b=[]/\o=[]/\t=[]))])/\(¬(b=[]/\o=[]/\t=[])->k=yg b o t)/\w'.ownsRow w.heap.size 9 1 (.slice y1 b.length z1) b.length (zj b)/\w'.ownsRow w.heap.size 9 1 (.slice y2 o.length z2) o.length (zj o)/\w'.ownsRow w.heap.size 9 1 (.slice y3 t.length z3) t.length (zj t)/\Below w.heap.size w w':=by
 refine(zjO vb vo vt b o t w hb ho ht lb lo lt).mono ?_;rintro e w' ⟨k,u1,u2,u3,rfl,hk,⟨t1,t2,t3⟩,hbl⟩;obtain⟨y1,z1,rfl⟩:=zl t1;obtain⟨y2,z2,rfl⟩:=zl t2;obtain⟨y3,z3,rfl⟩:=zl t3;exact⟨k,y1,z1,y2,z2,y3,z3,rfl,hk,t1,t2,t3,hbl⟩
end
end Go.Proofs.YtbnafihigoekeaaGreatDoor

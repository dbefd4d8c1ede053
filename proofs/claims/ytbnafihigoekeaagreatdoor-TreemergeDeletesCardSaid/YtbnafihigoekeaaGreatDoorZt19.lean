/-
  TmTl, part 19.
-/
import Derived.Test.YtbnafihigoekeaaGreatDoorZt18
import Derived.Test.YtbnafihigoekeaaGreatDoorZt16
set_option maxRecDepth 100000
set_option maxHeartbeats 4000000
namespace Go.Proofs.YtbnafihigoekeaaGreatDoor
open Go.RowKit
def Chg(w:World)(g z:Nat)(k:Value)(ua ub uc:Value)(A B C:List (List UInt8))(wx:World):Prop:=
 wx.heap[g]? =some (.cells #[k,ua,ub,uc] 104 (0,0))/\wx.heap[z]? =some (.cells #[.int .i64 0,.slice none 0 0,.slice none 0 0,.slice none 0 0] 104 (0,0))/\
  (zbM wx w.heap.size ua ub uc A B C/\Below w.heap.size w wx/\w.heap.size<=z/\w.heap.size<=g/\g≠z)
theorem Chg.drew{w wx:World}{g z:Nat}{k ua ub uc:Value}{A B C:List (List UInt8)}(h:Chg w g z k ua ub uc A B C wx)(n:Nat):Chg w g z k ua ub uc A B C (wx.drewN n):=
 ⟨h.1,h.2.1,⟨h.2.2.1.1,h.2.2.1.2.1,h.2.2.1.2.2⟩,h.2.2.2.1.trans ⟨rfl,rfl,rfl,Nat.le_refl _,fun _ _ =>rfl⟩,h.2.2.2.2⟩
theorem zgI{w:World}{base g:Nat}{v:Value}{n:Nat}{xs:List Value}{cs:Array Value}(h:w.ownsRow base 9 1 v n xs)(hg:v.ownBlock=some g)(hz:w.heap[g]? =some (.cells cs 104 (0,0))):False:=by
 rcases h.2 with⟨rfl,_⟩ |⟨g',cap,cur,rfl,r1,r2,r3⟩
 ·cases hg
 ·cases hg
  simp only[r2]at hz;simp at hz
theorem zns{w w':World}{base z:Nat}{ua ub uc:Value}{A B C:List (List UInt8)}{cs:Array Value}(h:zbM w base ua ub uc A B C)(hz:w.heap[z]? =some (.cells cs 104 (0,0)))(hk:∀k,k<w.heap.size->k≠z->w'.heap[k]? =w.heap[k]?):zbM w' base ua ub uc A B C:=
 ⟨zD h.1 fun g hg hl=>hk g hl fun e=>by subst e;exact zgI h.1 hg hz,zD h.2.1 fun g hg hl=>hk g hl fun e=>by subst e;exact zgI h.2.1 hg hz,zD h.2.2 fun g hg hl=>hk g hl fun e=>by subst e;exact zgI h.2.2 hg hz⟩
theorem Chg.set{w wx:World}{g z:Nat}{k ua ub uc:Value}{A B C:List (List UInt8)}(h:Chg w g z k ua ub uc A B C wx)(u:Value):Chg w g z u ua ub uc A B C (wx.setCell ⟨g,0,none⟩ u):=
 ⟨zv (i:=0) (u:=u) h.1,(Below.heap_setCell _ _ _ _ (Ne.symm h.2.2.2.2.2.2)).trans h.2.1,zns h.2.2.1 h.1 fun _ _ hk=>Below.heap_setCell _ _ _ _ hk,h.2.2.2.1.setCell h.2.2.2.2.2.1 _,h.2.2.2.2⟩
theorem Chg.fin{w wx w':World}{g z:Nat}{k ua ub uc:Value}{A B C:List (List UInt8)}(h:Chg w g z k ua ub uc A B C wx)(hk:yH (· =z) wx w'):zbM w' w.heap.size ua ub uc A B C/\Below w.heap.size w w':=
 ⟨zns h.2.2.1 h.2.1 fun k hl hne=>hk.block k hl hne,h.2.2.2.1.trans (hk.below (Nat.le_trans (Nat.le_refl _) h.2.2.2.1.size) (fun j hj e=>by have:=h.2.2.2.2.1;omega))⟩
section
theorem zeu(va vb vc:Value)(a b c:List (List UInt8))(f1 f2 f3 t1 t2 t3:Nat)(w:World)(ha:Sl w va (zj a))(hb:Sl w vb (zj b))(hc:Sl w vc (zj c))(la:a.length<=1000000)(lb:b.length<=1000000)(lc:c.length<=1000000)
  (h1:f1<=t1) (h1':t1<=a.length) (h2:f2<=t2) (h2':t2<=b.length) (h3:f3<=t3) (h3':t3<=c.length):
  Calls Tryz.prog 123 #[.agg #[va,vb,vc],.agg #[.int .i64 f1,.int .i64 f2,.int .i64 f3],.agg #[.int .i64 t1,.int .i64 t2,.int .i64 t3]] w fun e w'=>∃ua ub uc,e= .returned (.agg #[.int .i64 (yg (zL a f1 t1) (zL b f2 t2) (zL c f3 t3)),ua,ub,uc])/\zbM w' w.heap.size ua ub uc (zL a f1 t1) (zL b f2 t2) (zL c f3 t3)/\Below w.heap.size w w':=by
 have hla:(zL a f1 t1).length<=1000000:=by rw[zbN h1 h1'];omega
 have hlb:(zL b f2 t2).length<=1000000:=by rw[zbN h2 h2'];omega
 have hlc:(zL c f3 t3).length<=1000000:=by rw[zbN h3 h3'];omega
 have HV0:=zaz.start w #[va,vb,vc] #[.int .i64 f1,.int .i64 f2,.int .i64 f3] #[.int .i64 t1,.int .i64 t2,.int .i64 t3];have HP:=ze (zdW 5 va vb vc a b c f1 f2 f3 t1 t2 t3 _ (Sl.old ha HV0.live.below) (Sl.old hb HV0.live.below) (Sl.old hc HV0.live.below) la lb lc h1 h1' h2 h2' h3 h3');generalize zL a f1 t1=A at hla HP ⊢;generalize zL b f2 t2=B at hlb HP ⊢;generalize zL c f3 t3=C at hlc HP ⊢;have HLE:=ze (And.intro hla (And.intro hlb hlc));have HVZ:=ze HV0;have kt0:=zd (i:=0) HV0.live.t rfl;have kt1:=zd (i:=1) HV0.live.t rfl;have kt2:=zd (i:=2) HV0.live.t rfl;have kf0:=zd (i:=0) HV0.live.f rfl;have kf1:=zd (i:=1) HV0.live.f rfl;have kf2:=zd (i:=2) HV0.live.f rfl;have ke0:=zd (i:=0) HV0.live.e rfl;have ke1:=zd (i:=1) HV0.live.e rfl;have ke2:=zd (i:=2) HV0.live.e rfl;clear hla hlb hlc ha hb hc la lb lc h1 h1' h2 h2' h3 h3' HV0
 go_enter Tryz.func123,Tryz.ntmps123
 go_wp2_with (first
  |(go_at_call 124;refine HP.out.mono ?_;rintro e w3 ⟨ua,ub,uc,rfl,hT3,hb3⟩
    obtain⟨xa,ya,rfl⟩:=zl hT3.1;obtain⟨xb,yb,rfl⟩:=zl hT3.2.1;obtain⟨xc,yc,rfl⟩:=zl hT3.2.2;have HT3:=ze hT3;have HV3:=ze (HVZ.out.step hb3);have g4:=heap_alloc_new w3 (.cells #[.int .i64 5,.slice xa A.length ya,.slice xb B.length yb,.slice xc C.length yc] 104);have l0:=zd (i:=0) g4 rfl;have l1:=zd (i:=1) g4 rfl;have l2:=zd (i:=2) g4 rfl;have l3:=zd (i:=3) g4 rfl;have hz3:=HV3.out.live.big
    have HC4:=ze (show Chg w w3.heap.size (w.heap.size+1+1+1) (.int .i64 5) (.slice xa A.length ya) (.slice xb B.length yb) (.slice xc C.length yc) A B C (w3.alloc (.cells #[.int .i64 5,.slice xa A.length ya,.slice xb B.length yb,.slice xc C.length yc] 104))from
     ⟨g4,(Below.heap_alloc w3 _ _ hz3).trans HV3.out.z,⟨World.ownsRow.alloc (jB hT3.1 HVZ.out.live.below.size) _,World.ownsRow.alloc (jB hT3.2.1 HVZ.out.live.below.size) _,World.ownsRow.alloc (jB hT3.2.2 HVZ.out.live.below.size) _⟩,HV3.out.live.below.alloc HV3.out.live.below.size _,by omega,by omega,by omega⟩)
    clear hT3 hb3 hz3 g4))
 have HLB:=ze (Sl.ofOwns HC4.out.2.2.1.2.1);have HLA:=ze (Sl.ofOwns HC4.out.2.2.1.1);have HLC:=ze (Sl.ofOwns HC4.out.2.2.1.2.2);generalize w3.alloc (.cells #[.int .i64 5,.slice xa A.length ya,.slice xb B.length yb,.slice xc C.length yc] 104)=W4 at l0 l1 l2 l3 HC4 HLB HLA HLC ⊢;refine(zdc _ _ B A _ HLB.out HLA.out (by have:=HLE.out;unfold maxLen;omega)).mono ?_;rintro e w5 ⟨rfl,m,rfl⟩
 by_cases e1:B=A
 ·have HKD:=ze (show yg A B C=3 by rw[yg,if_pos e1])
  have d1:(B==A)=true:=by simpa using e1
  rw[d1];have H5:=ze (Chg.drew HC4.out m);clear e1 l0 l1 l2 l3;generalize W4.drewN m=W5 at H5 ⊢;have c5:=zd (i:=0) H5.out.1 rfl;have f5:=zo (i:=0) H5.out.1;have g6:=zv (i:=0) (u:= .int .i64 3) H5.out.1;have HC6:=ze (Chg.set H5.out (.int .i64 3));have l0:=zd (i:=0) g6 (v:= .int .i64 3) rfl;have l1:=zd (i:=1) g6 (v:= .slice xa A.length ya) rfl;have l2:=zd (i:=2) g6 (v:= .slice xb B.length yb) rfl;have l3:=zd (i:=3) g6 (v:= .slice xc C.length yc) rfl;clear g6
  go_wp2_with (refine zS rfl 104 _ _ rfl (w.heap.size+1+1+1) #[.int .i64 3,.slice xa A.length ya,.slice xb B.length yb,.slice xc C.length yc] rfl rfl _ _ HC6.out.2.1 4 Tryz.sizeCk rfl rfl (by simp[Value.oneCell']) ?_;intro w9 hg9 hk9)
  obtain⟨HT9,HB9⟩:=HC6.out.fin hk9;exact bodyPost_ret (results_cell_row rfl _ _ (w.heap.size+1+1+1) 104 _ (0,0) _ rfl hg9 Tryz.underlying104 rfl Tryz.sizeCk) rfl ⟨_,_,_,by rw[HKD.out],HT9,HB9⟩
 have d1:(B==A)=false:=by simpa using e1
 rw[d1];go_wp2_with fail;refine(zdc _ _ C A _ (Sl.old HLC.out (zm _ _)) (Sl.old HLA.out (zm _ _)) (by have:=HLE.out;unfold maxLen;omega)).mono ?_;rintro e w5 ⟨rfl,m1,rfl⟩;rw[World.drewN_drewN]
 by_cases e2:C=A
 ·have HKD:=ze (show yg A B C=2 by rw[yg,if_neg e1,if_pos e2])
  have d2:(C==A)=true:=by simpa using e2
  rw[d2];have H5:=ze (Chg.drew HC4.out (m+m1));clear e1 e2 l0 l1 l2 l3;generalize W4.drewN (m+m1)=W5 at H5 ⊢;have c5:=zd (i:=0) H5.out.1 rfl;have f5:=zo (i:=0) H5.out.1;have g6:=zv (i:=0) (u:= .int .i64 2) H5.out.1;have HC6:=ze (Chg.set H5.out (.int .i64 2));have l0:=zd (i:=0) g6 (v:= .int .i64 2) rfl;have l1:=zd (i:=1) g6 (v:= .slice xa A.length ya) rfl;have l2:=zd (i:=2) g6 (v:= .slice xb B.length yb) rfl;have l3:=zd (i:=3) g6 (v:= .slice xc C.length yc) rfl;clear g6
  go_wp2_with (refine zS rfl 104 _ _ rfl (w.heap.size+1+1+1) #[.int .i64 2,.slice xa A.length ya,.slice xb B.length yb,.slice xc C.length yc] rfl rfl _ _ HC6.out.2.1 4 Tryz.sizeCk rfl rfl (by simp[Value.oneCell']) ?_;intro w9 hg9 hk9)
  obtain⟨HT9,HB9⟩:=HC6.out.fin hk9;exact bodyPost_ret (results_cell_row rfl _ _ (w.heap.size+1+1+1) 104 _ (0,0) _ rfl hg9 Tryz.underlying104 rfl Tryz.sizeCk) rfl ⟨_,_,_,by rw[HKD.out],HT9,HB9⟩
 have d2:(C==A)=false:=by simpa using e2
 rw[d2];go_wp2_with fail;refine(zdc _ _ B C _ (Sl.old HLB.out (zm _ _)) (Sl.old HLC.out (zm _ _)) (by have:=HLE.out;unfold maxLen;omega)).mono ?_;rintro e w5 ⟨rfl,m2,rfl⟩;rw[World.drewN_drewN];have H5:=ze (Chg.drew HC4.out (m+m1+m2))
 by_cases e3:B=C
 ·have HKD:=ze (show yg A B C=4 by rw[yg,if_neg e1,if_neg e2,if_pos e3])
  have d3:(B==C)=true:=by simpa using e3
  rw[d3];clear e1 e2 e3 l0 l1 l2 l3;generalize W4.drewN (m+m1+m2)=W5 at H5 ⊢;have c5:=zd (i:=0) H5.out.1 rfl;have f5:=zo (i:=0) H5.out.1;have g6:=zv (i:=0) (u:= .int .i64 4) H5.out.1;have HC6:=ze (Chg.set H5.out (.int .i64 4));have l0:=zd (i:=0) g6 (v:= .int .i64 4) rfl;have l1:=zd (i:=1) g6 (v:= .slice xa A.length ya) rfl;have l2:=zd (i:=2) g6 (v:= .slice xb B.length yb) rfl;have l3:=zd (i:=3) g6 (v:= .slice xc C.length yc) rfl;clear g6
  go_wp2_with (refine zS rfl 104 _ _ rfl (w.heap.size+1+1+1) #[.int .i64 4,.slice xa A.length ya,.slice xb B.length yb,.slice xc C.length yc] rfl rfl _ _ HC6.out.2.1 4 Tryz.sizeCk rfl rfl (by simp[Value.oneCell']) ?_;intro w9 hg9 hk9)
  obtain⟨HT9,HB9⟩:=HC6.out.fin hk9;exact bodyPost_ret (results_cell_row rfl _ _ (w.heap.size+1+1+1) 104 _ (0,0) _ rfl hg9 Tryz.underlying104 rfl Tryz.sizeCk) rfl ⟨_,_,_,by rw[HKD.out],HT9,HB9⟩
 have HKD:=ze (show yg A B C=5 by rw[yg,if_neg e1,if_neg e2,if_neg e3])
 have d3:(B==C)=false:=by simpa using e3
 rw[d3];clear e1 e2 e3 l0 l1 l2 l3;generalize W4.drewN (m+m1+m2)=W5 at H5 ⊢;have HC6:=H5;have l0:=zd (i:=0) H5.out.1 (v:= .int .i64 5) rfl;have l1:=zd (i:=1) H5.out.1 (v:= .slice xa A.length ya) rfl;have l2:=zd (i:=2) H5.out.1 (v:= .slice xb B.length yb) rfl;have l3:=zd (i:=3) H5.out.1 (v:= .slice xc C.length yc) rfl
 go_wp2_with (refine zS rfl 104 _ _ rfl (w.heap.size+1+1+1) #[.int .i64 5,.slice xa A.length ya,.slice xb B.length yb,.slice xc C.length yc] rfl rfl _ _ HC6.out.2.1 4 Tryz.sizeCk rfl rfl (by simp[Value.oneCell']) ?_;intro w9 hg9 hk9)
 obtain⟨HT9,HB9⟩:=HC6.out.fin hk9;exact bodyPost_ret (results_cell_row rfl _ _ (w.heap.size+1+1+1) 104 _ (0,0) _ rfl hg9 Tryz.underlying104 rfl Tryz.sizeCk) rfl ⟨_,_,_,by rw[HKD.out],HT9,HB9⟩
end
open Go.RowKit
section
theorem zmZ(v:Value)(cs:List CkS)(w:World)(hv:SlC w v cs)(hl:cs.length<=4000000):
  Calls Tryz.prog 95 #[v] w fun e w'=>e= .returned (.bool (xI cs))/\Below w.heap.size w w':=by
 obtain⟨ao,cap,rfl⟩:=hv.form;have HV:=ze hv;clear hv
 go_enter Tryz.func95,Tryz.ntmps95
 go_wp2_with fail
 go_loopg [7] cs.length (fun g i wr=>∃k:Nat,k<=cs.length/\cs.length-k=g/\i= .int .i64 k/\Hid (xI cs=xI (cs.drop k))/\Below w.heap.size w wr)
 case atStart=>exact⟨0,Nat.zero_le _,rfl,rfl,ze rfl,Below.refl _ _⟩
 case round=>
  obtain⟨k,hk,rfl,rfl,HC,hbel⟩:=hrel;have hz:=hbel.size;have k0:(0:Int)<=(k:Int):=Int.natCast_nonneg _
  by_cases hlt:k<cs.length
  ·have k1:(k:Int)<(cs.length:Int):=by omega
   have kw:IntKind.i64.wrap ((k:Int)+1)=(k:Int)+1:=IntWalk.i64_in _ (by omega);obtain⟨b,o,z,xb,xo,xt,vb,vo,vt,rfl,c1,c2,c3,c4,s1,s2,s3,he⟩:=(HV.out.old hbel).at' (i:=k) hlt
   have hd:cs.drop k=(z,xb,xo,xt)::cs.drop (k+1):=by
    obtain⟨q,e⟩:=List.getElem?_eq_some_iff.1 he;rw[List.drop_eq_getElem_cons q,e]
   have HN:=ze (show xI cs=(z !=5&&xI (cs.drop (k+1))) by rw[HC.out,hd];rfl);have HBA:=ze (fun o:Obj=>hbel.alloc hz o);obtain⟨_,_,rfl⟩:=s1.form;obtain⟨_,_,rfl⟩:=s2.form;obtain⟨_,_,rfl⟩:=s3.form;clear s1 s2 s3 he hd HC
   by_cases h5:z=5
   ·subst h5
    go_wp2_with fail;go_ret;exact⟨by rw[HN.out];rfl,HBA.out _⟩
   ·have hb:(z==5)=false:=by simpa using h5
    have HN2:=ze (show xI cs=xI (cs.drop (k+1)) by rw[HN.out,bne,hb];rfl);clear h5 HN;go_wp2_with fail
    go_roundg (cs.length-(k+1))
    case measure=>omega
    case rel=>exact⟨k+1,by omega,rfl,rfl,HN2,HBA.out _⟩
  ·obtain rfl:k=cs.length:=by omega
   have hneg:¬(cs.length:Int)<(cs.length:Int):=by omega
   have HN:=ze (show xI cs=true by rw[HC.out,List.drop_length];rfl);go_wp2_with fail;go_ret;exact⟨by rw[HN.out];rfl,hbel⟩
end
open Go.RowKit
structure Of9(w w1:World)(T:Array Value)(d1 d2 d3:Nat)(wx:World):Prop where
 below:Below w.heap.size w wx
 size:w1.heap.size<=wx.heap.size
 old:∀k,k<w1.heap.size->k≠w.heap.size+1->wx.heap[k]? =w1.heap[k]?
 tx:wx.heap[w.heap.size]? =some (.cells T 162 (0,0))
 dn:wx.heap[w.heap.size+1]? =some (.cells #[.int .i64 d1,.int .i64 d2,.int .i64 d3] 164 (0,0))
 big:w.heap.size+1<w1.heap.size
theorem Of9.step{w w1 wx w':World}{T:Array Value}{d1 d2 d3:Nat}(h:Of9 w w1 T d1 d2 d3 wx)(k:Below w1.heap.size wx w'):Of9 w w1 T d1 d2 d3 w':=
 ⟨h.below.trans (k.mono (by have:=h.big;omega)),Nat.le_trans h.size k.size,fun j hj hne=>(k.block j hj).trans (h.old j hj hne),(k.block _ (by have:=h.big;omega)).trans h.tx,(k.block _ h.big).trans h.dn,h.big⟩
theorem Of9.put{w w1 wx w':World}{T:Array Value}{d1 d2 d3 f1 f2 f3:Nat}(h:Of9 w w1 T d1 d2 d3 wx)(k:yH (· =w.heap.size+1) wx w')(hd:w'.heap[w.heap.size+1]? =some (.cells #[.int .i64 f1,.int .i64 f2,.int .i64 f3] 164 (0,0))):Of9 w w1 T f1 f2 f3 w':=
 ⟨h.below.trans (k.below h.below.size (fun j hj e=>by omega)),Nat.le_trans h.size k.size,fun j hj hne=>(k.block j (Nat.lt_of_lt_of_le hj h.size) hne).trans (h.old j hj hne),(k.block _ (by have:=h.big;have:=h.size;omega) (by omega)).trans h.tx,hd,h.big⟩
theorem Of9.runs{w w1 wx:World}{T:Array Value}{d1 d2 d3:Nat}{u:Value}{rs:List Rn}(h:Of9 w w1 T d1 d2 d3 wx)(ho:xd w1 (w.heap.size+1+1) u rs):xd wx (w.heap.size+1+1) u rs:=
 zD ho fun g hg hl=>h.old g hl (by have:=(World.ownsRow.lt ho g hg).1;omega)
section
variable{α:Type} [DecidableEq α]
theorem zqq{a b c:List α}{d1 d2 d3 f1 f2 f3:Nat}(h1:d1<=f1)(h2:d2<=f2)(h3:d3<=f3)(e1:f1<=a.length)(e2:f2<=b.length)(e3:f3<=c.length)(hne:(f1,f2,f3)≠ (d1,d2,d3)):
  jY (zL a d1 f1) (zL b d2 f2) (zL c d3 f3)=[(yg (zL a d1 f1) (zL b d2 f2) (zL c d3 f3),zL a d1 f1,zL b d2 f2,zL c d3 f3)]:=by
 rw[jY,if_neg];rintro⟨q1,q2,q3⟩
 apply hne
 have g1:f1=d1:=by
  apply Classical.byContradiction
  intro h;exact zbt (l:=a) (by omega) e1 q1
 have g2:f2=d2:=by
  apply Classical.byContradiction
  intro h;exact zbt (l:=b) (by omega) e2 q2
 have g3:f3=d3:=by
  apply Classical.byContradiction
  intro h;exact zbt (l:=c) (by omega) e3 q3
 rw[g1,g2,g3]
end
theorem zfk{w w':World}{p d1 d2 d3:Nat}{t:TypeId}{v u:Value}{xs:List (List UInt8)}(h:yy w v u xs)(hk:yH (· =p) w w')(hd:w.heap[p]? =some (.cells #[.int .i64 d1,.int .i64 d2,.int .i64 d3] t (0,0))):yy w' v u xs:=by
 by_cases hx:xs=[]
 ·subst hx
  obtain⟨ao,cap,rfl,h1,h2,_⟩:=h.1;exact⟨⟨ao,cap,rfl,fun _ =>rfl,h2,fun a _ j x hx=>by simp[zj]at hx⟩,fun h=>absurd rfl h⟩
 ·have hn:=h.2 hx
  have hne:∀a n c,u= .slice (some a) n c->a.block≠p:=fun a n c e hp=>by
   subst e;obtain⟨ao,cap,hv,h1,h2,hc⟩:=h.1;cases hv
   cases xs with
   |nil=>exact hx rfl
   |cons x l=>
    have:=hc a rfl 0 (zq x) (by simp[zj]);obtain⟨bl,off,sp⟩:=a;simp only at hp;subst hp;rw[show(⟨bl,off,sp⟩:Addr).add 0=⟨bl,off,sp⟩from rfl]at this;have hsp:sp=none:=World.cell?_spot this;subst hsp;simp only[World.cell?,hd]at this
    match off,this with
    |0,h=>simp[zq]at h
    |1,h=>simp[zq]at h
    |2,h=>simp[zq]at h
    |n+3,h=>simp at h
  have hs:Sl w' u (zj xs):=h.1.kept fun a n c e hlt=>hk.block _ hlt (hne a n c e)
  exact zkL.toL ⟨hs,fun a n c e=>⟨Nat.lt_of_lt_of_le (hn.2 a n c e).1 hk.size,(hn.2 a n c e).2⟩⟩
theorem ziX{w w':World}{base p d1 d2 d3:Nat}{v:Value}{cs:List CkS}(h:xZ w base v cs)(hk:yH (· =p) w w')(hp:p<base)(hd:w.heap[p]? =some (.cells #[.int .i64 d1,.int .i64 d2,.int .i64 d3] 164 (0,0))):xZ w' base v cs:=by
 obtain⟨flat,h1,h2⟩:=h;refine⟨flat,zD h1 fun g hg hl=>hk.block g hl (by have:=(h1.lt g hg).1;omega),fun i x hx=>?_⟩;obtain⟨vb,vo,vt,e1,e2,e3,e4,n1,n2,n3⟩:=h2 i x hx;exact⟨vb,vo,vt,e1,e2,e3,e4,zfk n1 hk hd,zfk n2 hk hd,zfk n3 hk hd⟩
theorem zrF{w:World}{base g:Nat}{v:Value}{cs:List CkS}{x:Array Value}(h:xZ w base v cs)(hg:w.heap[g]? =some (.cells x 168 (0,0))):v.ownBlock≠some g:=by
 intro e;obtain⟨flat,h1,_⟩:=h
 rcases h1.2 with⟨rfl,_⟩ |⟨g',cap,cur,rfl,r1,r2,r3⟩
 ·cases e
 ·cases e
  simp only[r2]at hg;simp at hg
section
theorem zrf(va vb vc:Value)(a b c:List (List UInt8))(w:World)(ha:Sl w va (zj a))(hb:Sl w vb (zj b))(hc:Sl w vc (zj c))(la:a.length<=3000)(lb:b.length<=3000)(lc:c.length<=3000):
  Calls Tryz.prog 93 #[va,vb,vc] w fun e w'=>∃u,e= .returned u/\SlC w' u (yn a b c)/\Below w.heap.size w w':=by
 obtain⟨HCR,HROK⟩:=zkx a b c;obtain⟨aa,ca,rfl⟩:=ha.form;obtain⟨ab,cb,rfl⟩:=hb.form;obtain⟨ac,cc,rfl⟩:=hc.form;rw[zk]at ha hb hc ⊢;rw[zk,zk];have B0:Below w.heap.size w ((w.alloc (.cells #[.slice aa a.length ca,.slice ab b.length cb,.slice ac c.length cc] 162)).alloc (.cells #[.int .i64 0,.int .i64 0,.int .i64 0] 164)):=((Below.refl _ w).alloc (Nat.le_refl _) _).alloc (by simp) _;have HRS:=ze (zoQ _ _ _ a b c _ (Sl.old ha B0) (Sl.old hb B0) (Sl.old hc B0) la lb lc);obtain⟨rs,hrs⟩:∃rs,yI 0 [] (yi a b) (yi a c)=rs:=⟨_,rfl⟩;rw[hrs]at HRS HCR HROK;obtain⟨Z,hZ⟩:∃Z,yn a b c=Z:=⟨_,rfl⟩;rw[hZ]at HCR ⊢;have HZ:=ze HCR;have HRO:=ze HROK;have HA:=ze ha;have HB:=ze hb;have HC:=ze hc;have HL:=ze (And.intro la (And.intro lb lc));have HB0:=ze B0;have htx:((w.alloc (.cells #[.slice aa a.length ca,.slice ab b.length cb,.slice ac c.length cc] 162)).alloc (.cells #[.int .i64 0,.int .i64 0,.int .i64 0] 164)).heap[w.heap.size]? =some (.cells #[.slice aa a.length ca,.slice ab b.length cb,.slice ac c.length cc] 162 (0,0)):=(Below.heap_alloc _ _ _ (by simp)).trans (heap_alloc_new w _)
 have hdn:((w.alloc (.cells #[.slice aa a.length ca,.slice ab b.length cb,.slice ac c.length cc] 162)).alloc (.cells #[.int .i64 0,.int .i64 0,.int .i64 0] 164)).heap[w.heap.size+1]? =some (.cells #[.int .i64 0,.int .i64 0,.int .i64 0] 164 (0,0)):=by simpa using heap_alloc_new (w.alloc (.cells #[.slice aa a.length ca,.slice ab b.length cb,.slice ac c.length cc] 162)) (.cells #[.int .i64 0,.int .i64 0,.int .i64 0] 164)
 have hsz:((w.alloc (.cells #[.slice aa a.length ca,.slice ab b.length cb,.slice ac c.length cc] 162)).alloc (.cells #[.int .i64 0,.int .i64 0,.int .i64 0] 164)).heap.size=w.heap.size+1+1:=by simp
 have HTX:=ze htx;have HDN:=ze hdn;have HSZ:=ze hsz;have t0:=zd (i:=0) htx rfl;have t1:=zd (i:=1) htx rfl;have t2:=zd (i:=2) htx rfl;clear ha hb hc la lb lc hrs hZ HCR HROK B0 htx hdn hsz
 go_enter Tryz.func93,Tryz.ntmps93
 go_wp2_with (first
  |(go_at_call 122;refine HRS.out.mono ?_;rintro e w1 ⟨u,rfl,hO1,hrl,hb1⟩
    obtain⟨uo,uc,rfl⟩:=hO1.form;have HU:=ze (show xd w1 (w.heap.size+1+1) _ rs from HSZ.out ▸ hO1);have HRL:=ze hrl;have H9:=ze (show Of9 w w1 #[.slice aa a.length ca,.slice ab b.length cb,.slice ac c.length cc] 0 0 0 w1 from⟨zi HB0.out hb1 HB0.out.size,Nat.le_refl _,fun _ _ _ =>rfl,(hb1.block _ (by rw[HSZ.out];omega)).trans HTX.out,(hb1.block _ (by rw[HSZ.out];omega)).trans HDN.out,by have h1:=hb1.size;have h2:=HSZ.out;omega⟩)
    clear hO1 hrl hb1))
 clear HRS HTX HDN HB0 HSZ t0 t1 t2
 go_loopg [8,21] rs.length (fun gh l i wx=>∃ (k:Nat) (cs:List CkS) (d1 d2 d3:Nat),k<=rs.length/\gh=rs.length-k/\i= .int .i64 k/\Hid (Z=cs++xO a b c (d1,d2,d3) (rs.drop k))/\Hid (zbH (a.length,b.length,c.length) (d1,d2,d3) (rs.drop k))/\Hid (xZ wx w1.heap.size l cs)/\Hid (cs.length<=2*k)/\Hid (Of9 w w1 #[.slice aa a.length ca,.slice ab b.length cb,.slice ac c.length cc] d1 d2 d3 wx))
 case atStart=>exact⟨0,[],0,0,0,Nat.zero_le _,rfl,rfl,ze (by rw[List.drop_zero,HZ.out];rfl),ze (by rw[List.drop_zero];exact HRO.out),ze (xZ.nil _ _),ze (Nat.zero_le _),H9⟩
 case round=>
  obtain⟨k,cs,d1,d2,d3,hk,rfl,rfl,HE,HR,HO,HCL,HW⟩:=hrel;clear H9;have k0:(0:Int)<=(k:Int):=Int.natCast_nonneg _;obtain⟨lo,lcap,rfl⟩:=HO.out.form
  by_cases hlt:k<rs.length
  ·have k1:(k:Int)<(rs.length:Int):=by omega
   have kw:IntKind.i64.wrap ((k:Int)+1)=(k:Int)+1:=IntWalk.i64_in _ (by have h1:=HRL.out;have h2:=HL.out;omega);obtain⟨g,f1,f2,f3,t1,t2,t3,rfl,he,e0,e1,e2,e3,e4,e5⟩:=(HW.out.runs HU.out).sl.at' (i:=k) hlt
   have hdr:rs.drop k=((f1,f2,f3),(t1,t2,t3))::rs.drop (k+1):=by
    obtain⟨q,e⟩:=List.getElem?_eq_some_iff.1 he;rw[List.drop_eq_getElem_cons q,e]
   have hr:=HR.out;rw[hdr]at hr;obtain⟨⟨r1,r2,r3⟩,⟨s1,s2,s3⟩,⟨u1,u2,u3⟩,hr'⟩:=hr;simp only at r1 r2 r3 s1 s2 s3 u1 u2 u3;have HR2:=ze hr';have he2:=HE.out;rw[hdr,xO]at he2;simp only at he2;have HE2:=ze he2;have HORD:=ze (And.intro (And.intro r1 (And.intro r2 r3)) (And.intro (And.intro s1 (And.intro s2 s3)) (And.intro u1 (And.intro u2 u3))));clear he hdr hr' he2 r1 r2 r3 s1 s2 s3 u1 u2 u3 HE HR;have HWA:=ze (HW.out.step ((Below.refl w1.heap.size wr).alloc HW.out.size (.cells #[.int .i64 f1,.int .i64 f2,.int .i64 f3,.int .i64 t1,.int .i64 t2,.int .i64 t3] 168)));have HOA:=ze (HO.out.old ((Below.refl wr.heap.size wr).alloc (Nat.le_refl _) (.cells #[.int .i64 f1,.int .i64 f2,.int .i64 f3,.int .i64 t1,.int .i64 t2,.int .i64 t3] 168)));have HRA:=ze (heap_alloc_new wr (.cells #[.int .i64 f1,.int .i64 f2,.int .i64 f3,.int .i64 t1,.int .i64 t2,.int .i64 t3] 168));have HSA:=ze (show wr.heap.size <(wr.alloc (.cells #[.int .i64 f1,.int .i64 f2,.int .i64 f3,.int .i64 t1,.int .i64 t2,.int .i64 t3] 168)).heap.size by simp);have HLO:=ze (show ∀j,(Value.slice lo cs.length lcap).ownBlock=some j->j<wr.heap.size from fun j hj=>(HO.out.lt j hj).2);have HWS:=ze HW.out.size
   by_cases hd:(f1,f2,f3)=(d1,d2,d3)
   ·obtain⟨rfl,rfl,rfl⟩:f1=d1/\f2=d2/\f3=d3:=⟨congrArg Prod.fst hd,congrArg (fun x=>x.2.1) hd,congrArg (fun x=>x.2.2) hd⟩
    clear hd
    have HE3:=ze (show Z=(cs++[(1,zL a f1 t1,zL b f2 t2,zL c f3 t3)])++xO a b c (t1,t2,t3) (rs.drop (k+1)) by
     rw[HE2.out,yQ,yQ,yQ,zbS,List.nil_append,List.append_assoc]
     rfl)
    have HPC:=ze (zdW 1 _ _ _ a b c f1 f2 f3 t1 t2 t3 _ (Sl.old HA.out HWA.out.below) (Sl.old HB.out HWA.out.below) (Sl.old HC.out HWA.out.below) (by have:=HL.out;omega) (by have:=HL.out;omega) (by have:=HL.out;omega) HORD.out.2.1.1 HORD.out.2.2.1 HORD.out.2.1.2.1 HORD.out.2.2.2.1 HORD.out.2.1.2.2 HORD.out.2.2.2.2);have kt0:=zd (i:=0) HWA.out.tx rfl;have kt1:=zd (i:=1) HWA.out.tx rfl;have kt2:=zd (i:=2) HWA.out.tx rfl;have kd0:=zd (i:=0) HWA.out.dn rfl;have kd1:=zd (i:=1) HWA.out.dn rfl;have kd2:=zd (i:=2) HWA.out.dn rfl;have kr0:=zd (i:=0) HRA.out rfl;have kr1:=zd (i:=1) HRA.out rfl;have kr2:=zd (i:=2) HRA.out rfl;have kr3:=zd (i:=3) HRA.out rfl;have kr4:=zd (i:=4) HRA.out rfl;have kr5:=zd (i:=5) HRA.out rfl
    go_wp2_with (first
     |(go_at_call 124;refine HPC.out.mono ?_;rintro e w3 ⟨ua,ub,uc,rfl,hT3,hb3⟩
       obtain⟨xa,ya,rfl⟩:=zl hT3.1;obtain⟨xb,yb,rfl⟩:=zl hT3.2.1;obtain⟨xc,yc,rfl⟩:=zl hT3.2.2;have HT3:=ze hT3;have HW3:=ze (HWA.out.step (hb3.mono HWA.out.size));have HO3:=ze (HOA.out.old hb3);have HR3:=ze ((hb3.block _ HSA.out).trans HRA.out);have HZ3:=ze (Nat.lt_of_lt_of_le HSA.out hb3.size)
       clear hT3 hb3)
     |(refine jc rfl (.tmp 37) (.tmp 44) rfl w1.heap.size _ cs 1 (zL a f1 t1) (zL b f2 t2) (zL c f3 t3) _ _ _ rfl HO3.out (zA HT3.out.1 (fun j hj=>Nat.lt_trans (HLO.out j hj) HSA.out)) (zA HT3.out.2.1 (fun j hj=>Nat.lt_trans (HLO.out j hj) HSA.out)) (zA HT3.out.2.2 (fun j hj=>Nat.lt_trans (HLO.out j hj) HSA.out)) rfl rfl rfl rfl (by have h1:=HCL.out;have h2:=HRL.out;have h3:=HL.out;omega) HW3.out.size ?_;intro v4 w4 hO4 hb4 hk4
       have HO4:=ze hO4;have HW4:=ze (HW3.out.step hb4);have hr4:=(hk4 _ HZ3.out (fun e=>Nat.lt_irrefl _ (HLO.out _ e))).trans HR3.out;have HR4:=ze hr4;have m3:=zd (i:=3) hr4 rfl;have m4:=zd (i:=4) hr4 rfl;have m5:=zd (i:=5) hr4 rfl
       clear hO4 hb4 hk4 hr4)
     |(refine zS rfl 164 _ _ rfl (w.heap.size+1) #[.int .i64 t1,.int .i64 t2,.int .i64 t3] rfl rfl _ _ HW4.out.dn 3 Tryz.sizeCor rfl rfl (by simp[Value.oneCell']) ?_;intro w9 hg9 hk9
       have HW9:=ze (HW4.out.put hk9 hg9);have HO9:=ze (ziX HO4.out hk9 HW4.out.big HW4.out.dn)
       clear hg9 hk9))
    go_roundg (rs.length-(k+1))
    case measure=>omega
    case rel=>exact⟨k+1,_,t1,t2,t3,by omega,rfl,by go_num,HE3,HR2,HO9,ze (by have:=HCL.out;rw[List.length_append,List.length_singleton];omega),HW9⟩
   ·have hd0:Hid ((f1,f2,f3)≠ (d1,d2,d3)):=ze hd
    have hneq:=zgc hd
    have HE3:=ze (show Z=((cs++[(yg (zL a d1 f1) (zL b d2 f2) (zL c d3 f3),zL a d1 f1,zL b d2 f2,zL c d3 f3)])++[(1,zL a f1 t1,zL b f2 t2,zL c f3 t3)])++xO a b c (t1,t2,t3) (rs.drop (k+1)) by
     rw[HE2.out,zqq HORD.out.1.1 HORD.out.1.2.1 HORD.out.1.2.2 (Nat.le_trans HORD.out.2.1.1 HORD.out.2.2.1) (Nat.le_trans HORD.out.2.1.2.1 HORD.out.2.2.2.1) (Nat.le_trans HORD.out.2.1.2.2 HORD.out.2.2.2.2) hd,List.append_assoc,List.append_assoc]
     rfl)
    clear hd;have HCH:=ze (zeu _ _ _ a b c d1 d2 d3 f1 f2 f3 _ (Sl.old HA.out HWA.out.below) (Sl.old HB.out HWA.out.below) (Sl.old HC.out HWA.out.below) (by have:=HL.out;omega) (by have:=HL.out;omega) (by have:=HL.out;omega) HORD.out.1.1 (Nat.le_trans HORD.out.2.1.1 HORD.out.2.2.1) HORD.out.1.2.1 (Nat.le_trans HORD.out.2.1.2.1 HORD.out.2.2.2.1) HORD.out.1.2.2 (Nat.le_trans HORD.out.2.1.2.2 HORD.out.2.2.2.2));obtain⟨kd,hkd⟩:∃z,yg (zL a d1 f1) (zL b d2 f2) (zL c d3 f3)=z:=⟨_,rfl⟩;rw[hkd]at HE3 HCH;clear hkd;obtain⟨A,hA⟩:∃z,zL a d1 f1=z:=⟨_,rfl⟩;obtain⟨B,hB⟩:∃z,zL b d2 f2=z:=⟨_,rfl⟩;obtain⟨C,hC⟩:∃z,zL c d3 f3=z:=⟨_,rfl⟩;rw[hA,hB,hC]at HE3 HCH;clear hA hB hC HE2;have kt0:=zd (i:=0) HWA.out.tx rfl;have kt1:=zd (i:=1) HWA.out.tx rfl;have kt2:=zd (i:=2) HWA.out.tx rfl;have kd0:=zd (i:=0) HWA.out.dn rfl;have kd1:=zd (i:=1) HWA.out.dn rfl;have kd2:=zd (i:=2) HWA.out.dn rfl;have kr0:=zd (i:=0) HRA.out rfl;have kr1:=zd (i:=1) HRA.out rfl;have kr2:=zd (i:=2) HRA.out rfl;have kr3:=zd (i:=3) HRA.out rfl;have kr4:=zd (i:=4) HRA.out rfl;have kr5:=zd (i:=5) HRA.out rfl
    go_wp2_with (first
     |(go_at_call 123;with_reducible refine HCH.out.mono ?_;rintro e w3 ⟨ua,ub,uc,rfl,hT3,hb3⟩
       obtain⟨xa,ya,rfl⟩:=zl hT3.1;obtain⟨xb,yb,rfl⟩:=zl hT3.2.1;obtain⟨xc,yc,rfl⟩:=zl hT3.2.2;have HT3:=ze hT3;have HW3:=ze (HWA.out.step (hb3.mono HWA.out.size));have HO3:=ze (HOA.out.old hb3);have HR3:=ze ((hb3.block _ HSA.out).trans HRA.out);have HZ3:=ze (Nat.lt_of_lt_of_le HSA.out hb3.size)
       clear hT3 hb3)
     |(refine jc rfl (.tmp 29) (.tmp 35) rfl w1.heap.size _ cs kd A B C _ _ _ rfl HO3.out (zA HT3.out.1 (fun j hj=>Nat.lt_trans (HLO.out j hj) HSA.out)) (zA HT3.out.2.1 (fun j hj=>Nat.lt_trans (HLO.out j hj) HSA.out)) (zA HT3.out.2.2 (fun j hj=>Nat.lt_trans (HLO.out j hj) HSA.out)) rfl rfl rfl rfl (by have h1:=HCL.out;have h2:=HRL.out;have h3:=HL.out;omega) HW3.out.size ?_;intro v4 w4 hO4 hb4 hk4
       obtain⟨lo4,lcap4,hv4⟩:=hO4.form;rw[List.length_append,List.length_singleton]at hv4;subst hv4;have HO4:=ze hO4;have HW4:=ze (HW3.out.step hb4);have hr4:=(hk4 _ HZ3.out (fun e=>Nat.lt_irrefl _ (HLO.out _ e))).trans HR3.out;have HR4:=ze hr4;have HZ4:=ze (show wr.heap.size<w4.heap.size from lt_of_block hr4);have HPC:=ze (zdW 1 _ _ _ a b c f1 f2 f3 t1 t2 t3 _ (Sl.old HA.out HW4.out.below) (Sl.old HB.out HW4.out.below) (Sl.old HC.out HW4.out.below) (by have:=HL.out;omega) (by have:=HL.out;omega) (by have:=HL.out;omega) HORD.out.2.1.1 HORD.out.2.2.1 HORD.out.2.1.2.1 HORD.out.2.2.2.1 HORD.out.2.1.2.2 HORD.out.2.2.2.2);have mt0:=zd (i:=0) HW4.out.tx rfl;have mt1:=zd (i:=1) HW4.out.tx rfl;have mt2:=zd (i:=2) HW4.out.tx rfl;have mr0:=zd (i:=0) hr4 rfl;have mr1:=zd (i:=1) hr4 rfl;have mr2:=zd (i:=2) hr4 rfl;have mr3:=zd (i:=3) hr4 rfl;have mr4:=zd (i:=4) hr4 rfl;have mr5:=zd (i:=5) hr4 rfl
       clear hO4 hb4 hk4 hr4)
     |(go_at_call 124;with_reducible refine HPC.out.mono ?_;rintro e w5 ⟨ua,ub,uc,rfl,hT5,hb5⟩
       obtain⟨xa5,ya5,rfl⟩:=zl hT5.1;obtain⟨xb5,yb5,rfl⟩:=zl hT5.2.1;obtain⟨xc5,yc5,rfl⟩:=zl hT5.2.2;have HT5:=ze hT5;have HW5:=ze (HW4.out.step (hb5.mono HW4.out.size));have HO5:=ze (HO4.out.old hb5);have HR5:=ze ((hb5.block _ HZ4.out).trans HR4.out);have HZ5:=ze (Nat.lt_of_lt_of_le HZ4.out hb5.size)
       clear hT5 hb5)
     |(refine jc rfl (.tmp 37) (.tmp 44) rfl w1.heap.size _ _ 1 (zL a f1 t1) (zL b f2 t2) (zL c f3 t3) _ _ _ rfl HO5.out (zA HT5.out.1 (fun j hj=>(HO4.out.lt j hj).2)) (zA HT5.out.2.1 (fun j hj=>(HO4.out.lt j hj).2)) (zA HT5.out.2.2 (fun j hj=>(HO4.out.lt j hj).2)) rfl rfl rfl rfl (by have h1:=HCL.out;have h2:=HRL.out;have h3:=HL.out;rw[List.length_append,List.length_singleton];omega) HW5.out.size ?_;intro v6 w6 hO6 hb6 hk6
       have HO6:=ze hO6;have HW6:=ze (HW5.out.step hb6);have hr6:=(hk6 _ HZ5.out (zrF HO5.out HR5.out)).trans HR5.out;have n3:=zd (i:=3) hr6 rfl;have n4:=zd (i:=4) hr6 rfl;have n5:=zd (i:=5) hr6 rfl
       clear hO6 hb6 hk6 hr6)
     |(refine zS rfl 164 _ _ rfl (w.heap.size+1) #[.int .i64 t1,.int .i64 t2,.int .i64 t3] rfl rfl _ _ HW6.out.dn 3 Tryz.sizeCor rfl rfl (by simp[Value.oneCell']) ?_;intro w9 hg9 hk9
       have HW9:=ze (HW6.out.put hk9 hg9);have HO9:=ze (ziX HO6.out hk9 HW6.out.big HW6.out.dn)
       clear hg9 hk9))
    go_roundg (rs.length-(k+1))
    case measure=>omega
    case rel=>exact⟨k+1,_,t1,t2,t3,by omega,rfl,by go_num,HE3,HR2,HO9,ze (by have:=HCL.out;rw[List.length_append,List.length_append,List.length_singleton,List.length_singleton];omega),HW9⟩
  ·obtain rfl:k=rs.length:=by omega
   have hneg:¬(rs.length:Int)<(rs.length:Int):=by omega
   have hr:=HR.out;rw[List.drop_length]at hr;have HORD:=ze hr;have he:=HE.out;rw[List.drop_length,xO,<-zcM,<-zcM,<-zcM]at he;simp only at he;have HE2:=ze he;clear hr he HE HR;have HLO:=ze (show ∀j,(Value.slice lo cs.length lcap).ownBlock=some j->j<wr.heap.size from fun j hj=>(HO.out.lt j hj).2);have HEN:=ze (zqD _ _ _ a b c wr (Sl.old HA.out HW.out.below) (Sl.old HB.out HW.out.below) (Sl.old HC.out HW.out.below));have kt0:=zd (i:=0) HW.out.tx rfl;have kt1:=zd (i:=1) HW.out.tx rfl;have kt2:=zd (i:=2) HW.out.tx rfl
   by_cases hd:(a.length,b.length,c.length)=(d1,d2,d3)
   ·obtain⟨e1,e2,e3⟩:a.length=d1/\b.length=d2/\c.length=d3:=⟨congrArg Prod.fst hd,congrArg (fun x=>x.2.1) hd,congrArg (fun x=>x.2.2) hd⟩
    have HZE:=ze (show Z=cs by rw[HE2.out,e1,e2,e3,yQ,yQ,yQ,zbS,List.append_nil]);have HEQ:=ze (And.intro e1 (And.intro e2 e3));clear hd e1 e2 e3 HE2
    go_wp2_with (first
     |(go_at_call 125;with_reducible refine HEN.out.mono ?_;rintro e w2 ⟨rfl,hb2⟩
       rw[HEQ.out.1,HEQ.out.2.1,HEQ.out.2.2];have hb3:=hb2.alloc hb2.size (.cells #[.int .i64 d1,.int .i64 d2,.int .i64 d3] 164);have HW3:=ze (HW.out.step (hb3.mono HW.out.size));have HO3:=ze (HO.out.old hb3);have kd0:=zd (i:=0) HW3.out.dn rfl;have kd1:=zd (i:=1) HW3.out.dn rfl;have kd2:=zd (i:=2) HW3.out.dn rfl
       clear hb2 hb3))
    go_ret;rw[HZE.out];exact⟨_,rfl,HO3.out.slC,HW3.out.below⟩
   ·have hneq:=zgc hd
    have HZE:=ze (show Z=cs++[(yg (zL a d1 a.length) (zL b d2 b.length) (zL c d3 c.length),zL a d1 a.length,zL b d2 b.length,zL c d3 c.length)] by
     rw[HE2.out,zqq HORD.out.1 HORD.out.2.1 HORD.out.2.2 (Nat.le_refl _) (Nat.le_refl _) (Nat.le_refl _) hd])
    clear hd HE2
    go_wp2_with (first
     |(go_at_call 125;with_reducible refine HEN.out.mono ?_;rintro e w2 ⟨rfl,hb2⟩
       have hb3:=hb2.alloc hb2.size (.cells #[.int .i64 a.length,.int .i64 b.length,.int .i64 c.length] 164);have HW3:=ze (HW.out.step (hb3.mono HW.out.size));have HO3:=ze (HO.out.old hb3);have HZ3:=ze hb3.size;have hen:=heap_alloc_new w2 (.cells #[.int .i64 a.length,.int .i64 b.length,.int .i64 c.length] 164);have ke0:=zd (i:=0) hen rfl;have ke1:=zd (i:=1) hen rfl;have ke2:=zd (i:=2) hen rfl;have kd0:=zd (i:=0) HW3.out.dn rfl;have kd1:=zd (i:=1) HW3.out.dn rfl;have kd2:=zd (i:=2) HW3.out.dn rfl;have mt0:=zd (i:=0) HW3.out.tx rfl;have mt1:=zd (i:=1) HW3.out.tx rfl;have mt2:=zd (i:=2) HW3.out.tx rfl;have HCH:=ze (zeu _ _ _ a b c d1 d2 d3 a.length b.length c.length _ (Sl.old HA.out HW3.out.below) (Sl.old HB.out HW3.out.below) (Sl.old HC.out HW3.out.below) (by have:=HL.out;omega) (by have:=HL.out;omega) (by have:=HL.out;omega) HORD.out.1 (Nat.le_refl _) HORD.out.2.1 (Nat.le_refl _) HORD.out.2.2 (Nat.le_refl _))
       clear hb2 hb3 hen)
     |(go_at_call 123;with_reducible refine HCH.out.mono ?_;rintro e w4 ⟨ua,ub,uc,rfl,hT4,hb4⟩
       obtain⟨xa,ya,rfl⟩:=zl hT4.1;obtain⟨xb,yb,rfl⟩:=zl hT4.2.1;obtain⟨xc,yc,rfl⟩:=zl hT4.2.2;have HT4:=ze hT4;have HW4:=ze (HW3.out.step (hb4.mono HW3.out.size));have HO4:=ze (HO3.out.old hb4)
       clear hT4 hb4)
     |(refine jc rfl (.tmp 54) (.tmp 59) rfl w1.heap.size _ cs _ _ _ _ _ _ _ rfl HO4.out (zA HT4.out.1 (fun j hj=>(HO3.out.lt j hj).2)) (zA HT4.out.2.1 (fun j hj=>(HO3.out.lt j hj).2)) (zA HT4.out.2.2 (fun j hj=>(HO3.out.lt j hj).2)) rfl rfl rfl rfl (by have h1:=HCL.out;have h2:=HRL.out;have h3:=HL.out;omega) HW4.out.size ?_;intro v6 w6 hO6 hb6 hk6
       have HO6:=ze hO6;have HW6:=ze (HW4.out.step hb6)
       clear hO6 hb6 hk6))
    go_ret;rw[HZE.out];exact⟨_,rfl,HO6.out.slC,HW6.out.below⟩
end
end Go.Proofs.YtbnafihigoekeaaGreatDoor

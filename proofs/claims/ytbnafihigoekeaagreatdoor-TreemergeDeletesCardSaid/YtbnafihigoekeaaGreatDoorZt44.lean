/-
  TmTl, part 44.
-/
import Derived.Test.YtbnafihigoekeaaGreatDoorZt43
set_option maxRecDepth 100000
set_option maxHeartbeats 8000000
namespace Go.Proofs.YtbnafihigoekeaaGreatDoor
open Go.RowKit
def zjp(l:List zg):Nat:=(l.map fun f=>f.2.2.length).sum
theorem zqw{l:List zg}{f:zg}(h:f∈l):f.2.2.length<=zjp l:=by
 induction l with
 |nil=>cases h
 |cons x l ih=>
  unfold zjp at ih ⊢;rw[List.map_cons,List.sum_cons]
  rcases List.mem_cons.1 h with rfl |h
  ·omega
  ·have:=ih h
   omega
theorem zjc{l:List zg}{k:Nat}{f:zg}(h:l[k]? =some f):zjp (l.take (k+1))=zjp (l.take k)+f.2.2.length:=by
 unfold zjp;rw[List.take_add_one,h,List.map_append,List.sum_append];simp
theorem zqN{l:List zg}(h:∀f∈l,f.2.2.length<=20000)(k:Nat):zjp (l.take k)<=k*20000:=by
 induction k with
 |zero=>simp[zjp]
 |succ k ih=>
  cases e:l[k]? with
  |none=>
   have:l.take (k+1)=l.take k:=by rw[List.take_add_one,e];simp
   rw[this];exact Nat.le_trans ih (Nat.mul_le_mul_right _ (Nat.le_succ k))
  |some f=>
   rw[zjc e,Nat.succ_mul];exact Nat.add_le_add ih (h f (List.mem_of_getElem? e))
theorem zeB{α:Type}{g:jP->α->jP}(hg:∀s x,(g s x).2.length<=s.2.length+1):∀ (l:List α) (s:jP),(l.foldl g s).2.length<=s.2.length+l.length
 | [],_ =>Nat.le_refl _
 |x::l,s=>by
  rw[List.foldl_cons,List.length_cons];have h1:=zeB hg l (g s x);have h2:=hg s x;omega
theorem znD{a b c:List zg}:(tmT a b c).1.length<=100/\(tmT a b c).2.1.length<=300:=by
 unfold tmT tmS
 split
 ·rename_i hr
  split
  ·rename_i h
   refine⟨((yY _).1 h).len,?_⟩;have h1:=((yY _).1 hr.1).len;have h2:=((yY _).1 hr.2.1).len;have h3:=((yY _).1 hr.2.2).len;have h4:=zaP a b (yj a b);have h5:=zaP a c (yj a c);simp only[ziR];unfold tmW zaB;refine Nat.le_trans (zeB (fun s x=>(zov _ s x).2) _ _) ?_;have e2:=zeB (fun s x=>(znW (zN a c (yj a c)) s x).2) (zN a b (yj a b)) (a.foldl (fun s b'=>jV s b' (yU b'.1 b (yj a b)) (yU b'.1 c (yj a c))) ([],[]));have e3:=zeB (fun s b'=>(qR s b' (yU b'.1 b (yj a b)) (yU b'.1 c (yj a c))).2) a ([],[]);simp only[List.length_nil]at e3;omega
  ·simp
 ·simp
def zsz(l:List zg)(e:Ending):Prop:=∃b:Bool,e= .returned (.bool b)/\(b=true->l.length<=20/\((∀f∈l,f.2.2.length<=20000)->∀f∈l,f.2.2.length<=2000))
theorem zT.texts{l:List zg}(h:zT l):∀f∈l,f.2.2.length<=20000:=fun f hf=>by
 have:=h.ok f hf;unfold jW at this;simp only[Bool.and_eq_true,decide_eq_true_eq]at this;omega
section
theorem zjy(v:Value)(l:List zg)(w:World)(hv:yM w v l)(hl:l.length<=maxLen):
  Calls Tryz.prog 10 #[v] w fun e w'=>zsz l e/\w=w':=by
 obtain⟨ao,cap,rfl⟩:=zy.form hv;have HV:=ze hv;have HL:=ze hl;clear hv hl
 go_enter Tryz.func10,Tryz.ntmps10
 go_wp2_with fail
 go_loopg [3,4] l.length (fun g n i wr=>∃ (k:Nat) (z:Int),k<=l.length/\l.length-k=g/\n= .int .i64 z/\i= .int .i64 k/\Hid ((∀f∈l,f.2.2.length<=20000)->l.length<=20->z=(zjp (l.take k):Int))/\w=wr)
 case atStart=>exact⟨0,0,Nat.zero_le _,rfl,rfl,rfl,ze (fun _ _ =>rfl),rfl⟩
 case round=>
  obtain⟨k,z,hk,rfl,rfl,rfl,HZ,rfl⟩:=hrel;have k0:(0:Int)<=(k:Int):=Int.natCast_nonneg _
  by_cases hlt:k<l.length
  ·have k1:(k:Int)<(l.length:Int):=by omega
   have kw:IntKind.i64.wrap ((k:Int)+1)=(k:Int)+1:=IntWalk.i64_in _ (by have:=HL.out;unfold maxLen at this;omega);obtain⟨b,o,p,x,t,hao,he,c1,c2,c3⟩:=yM.at HV.out hlt;subst hao
   have HZ2:=ze (show(∀f∈l,f.2.2.length<=20000)->l.length<=20->IntKind.i64.wrap (z +(t.length:Int))=(zjp (l.take (k+1)):Int)from fun ht h=>by
    have h1:=zqN ht (k+1);have h2:=zjc he
    rw[HZ.out ht h,IntWalk.i64_in _ (by
     simp only at h2
     omega)]
    simp only at h2
    omega)
   obtain⟨z2,hz2⟩:∃q,IntKind.i64.wrap (z +(t.length:Int))=q:=⟨_,rfl⟩;rw[hz2]at HZ2;clear he HZ;go_wp2_with fail
   go_roundg (l.length-(k+1))
   case measure=>omega
   case rel=>exact⟨k+1,z2,by omega,rfl,by first |rfl |rw[hz2],by go_num,HZ2,rfl⟩
  ·obtain rfl:k=l.length:=by omega
   have hneg:¬(l.length:Int)<(l.length:Int):=by omega
   have HF:=ze (show l.length<=20->z<=2000->l.length<=20/\((∀f∈l,f.2.2.length<=20000)->∀f∈l,f.2.2.length<=2000)from fun h hz=>⟨h,fun ht f hf=>by
    have h1:=HZ.out ht h;rw[List.take_length]at h1;have h2:=zqw hf
    omega⟩)
   clear HZ
   by_cases h2:(l.length:Int)<=20
   ·have z1:decide ((l.length:Int)<=20)=true:=decide_eq_true h2
    have z2:decide (l.length<=20)=true:=decide_eq_true (by omega)
    have h3:l.length<=20:=by omega
    go_wp2_with fail
    all_goals go_ret
    all_goals exact⟨⟨_,rfl,fun h=>HF.out h3 (of_decide_eq_true h)⟩,rfl⟩
   ·have z1:decide ((l.length:Int)<=20)=false:=decide_eq_false h2
    have z2:decide (l.length<=20)=false:=decide_eq_false (by omega);clear h2;go_wp2_with fail
    all_goals go_ret
    all_goals exact⟨⟨_,rfl,fun h=>by cases h⟩,rfl⟩
end
theorem yM.two{w:World}{q:Nat}{p1 t1 p2 t2:zQ}{x1 x2:Bool}(h:w.heap[q]? =some (.cells #[.string ⟨p1.toArray⟩,.bool x1,.string ⟨t1.toArray⟩,.string ⟨p2.toArray⟩,.bool x2,.string ⟨t2.toArray⟩] 28 (0,0))):yM w (.slice (some ⟨q,0,none⟩) 2 2) [(p1,x1,t1),(p2,x2,t2)]:=
 zI.sl (base:=0) ⟨rfl,.inr ⟨q,2,_,rfl,Nat.zero_le _,h,by first |decide |simp |rfl,by first |decide |simp |rfl |omega,rfl,rfl⟩⟩
theorem zqB:tmT [([97],false,[120,10])] [([97],false,[121,10])] [([97],false,[120,10]),([98],false,[])]=([([97],false,[121,10]),([98],false,[])],[],0):=by decide +kernel
section
theorem zfI(w:World):Calls Tryz.prog 11 #[] w fun e w'=>e= .returned (.bool true)/\Below w.heap.size w w':=by
 have HM:=ze (fun(va vb vc:Value) (wx:World) h1 h2 h3=>zda va vb vc [([97],false,[120,10])] [([97],false,[121,10])] [([97],false,[120,10]),([98],false,[])] wx h1 h2 h3 (fun _ f hf=>by simp only[List.mem_cons,List.not_mem_nil,or_false]at hf;subst hf;simp) (fun _ f hf=>by simp only[List.mem_cons,List.not_mem_nil,or_false]at hf;subst hf;simp) (fun _ f hf=>by simp only[List.mem_cons,List.not_mem_nil,or_false]at hf;rcases hf with rfl |rfl <;> simp));rw[zqB]at HM;have HB0:=ze (show Below w.heap.size w (((w.alloc (.cells #[.string ⟨#[97]⟩,.bool false,.string ⟨#[120,10]⟩] 28)).alloc (.cells #[.string ⟨#[97]⟩,.bool false,.string ⟨#[121,10]⟩] 28)).alloc (.cells #[.string ⟨#[97]⟩,.bool false,.string ⟨#[120,10]⟩,.string ⟨#[98]⟩,.bool false,.string ⟨#[]⟩] 28))from(((Below.refl _ w).alloc (Nat.le_refl _) _).alloc (by simp) _).alloc (by simp;omega) _);have HA:=ze (show yM (((w.alloc (.cells #[.string ⟨#[97]⟩,.bool false,.string ⟨#[120,10]⟩] 28)).alloc (.cells #[.string ⟨#[97]⟩,.bool false,.string ⟨#[121,10]⟩] 28)).alloc (.cells #[.string ⟨#[97]⟩,.bool false,.string ⟨#[120,10]⟩,.string ⟨#[98]⟩,.bool false,.string ⟨#[]⟩] 28)) (.slice (some ⟨w.heap.size,0,none⟩) 1 1) [([97],false,[120,10])]from zy.alloc (zy.alloc (zy.one (heap_alloc_new w _) rfl) _) _);have HB:=ze (show yM (((w.alloc (.cells #[.string ⟨#[97]⟩,.bool false,.string ⟨#[120,10]⟩] 28)).alloc (.cells #[.string ⟨#[97]⟩,.bool false,.string ⟨#[121,10]⟩] 28)).alloc (.cells #[.string ⟨#[97]⟩,.bool false,.string ⟨#[120,10]⟩,.string ⟨#[98]⟩,.bool false,.string ⟨#[]⟩] 28)) (.slice (some ⟨(w.alloc (.cells #[.string ⟨#[97]⟩,.bool false,.string ⟨#[120,10]⟩] 28)).heap.size,0,none⟩) 1 1) [([97],false,[121,10])]from zy.alloc (zy.one (heap_alloc_new (w.alloc (.cells #[.string ⟨#[97]⟩,.bool false,.string ⟨#[120,10]⟩] 28)) _) rfl) _);have HC:=ze (show yM (((w.alloc (.cells #[.string ⟨#[97]⟩,.bool false,.string ⟨#[120,10]⟩] 28)).alloc (.cells #[.string ⟨#[97]⟩,.bool false,.string ⟨#[121,10]⟩] 28)).alloc (.cells #[.string ⟨#[97]⟩,.bool false,.string ⟨#[120,10]⟩,.string ⟨#[98]⟩,.bool false,.string ⟨#[]⟩] 28)) (.slice (some ⟨((w.alloc (.cells #[.string ⟨#[97]⟩,.bool false,.string ⟨#[120,10]⟩] 28)).alloc (.cells #[.string ⟨#[97]⟩,.bool false,.string ⟨#[121,10]⟩] 28)).heap.size,0,none⟩) 2 2) [([97],false,[120,10]),([98],false,[])]from yM.two (heap_alloc_new ((w.alloc (.cells #[.string ⟨#[97]⟩,.bool false,.string ⟨#[120,10]⟩] 28)).alloc (.cells #[.string ⟨#[97]⟩,.bool false,.string ⟨#[121,10]⟩] 28)) _));rw[show(w.alloc (.cells #[.string ⟨#[97]⟩,.bool false,.string ⟨#[120,10]⟩] 28)).heap.size=w.heap.size+1 by simp]at HB;rw[show((w.alloc (.cells #[.string ⟨#[97]⟩,.bool false,.string ⟨#[120,10]⟩] 28)).alloc (.cells #[.string ⟨#[97]⟩,.bool false,.string ⟨#[121,10]⟩] 28)).heap.size=w.heap.size+1+1 by simp]at HC
 go_enter Tryz.func11,Tryz.ntmps11
 go_wp2_with fail;refine(HM.out _ _ _ _ HA.out HB.out HC.out).mono ?_;rintro e w4 ⟨x,y,rfl,hx,hy,hb⟩;have hB4:=ze (zi HB0.out hb HB0.out.size);have HX:=ze hx;obtain⟨xo,xc,hxe⟩:=zy.form hx;obtain⟨yo,yc,hye⟩:=zy.form hy;have hx2:x= .slice xo 2 xc:=hxe;have hy2:y= .slice yo 0 yc:=hye;subst hx2;subst hy2;obtain⟨b1,o1,p,xx,t,e1,he,c1,c2,c3⟩:=yM.at HX.out (i:=0) (by simp);cases he;subst e1;clear hb hxe hye hx hy HA HB HC HM HB0 HX;simp only[Nat.zero_mul,Nat.add_zero]at c1 c2 c3;go_wp2_with fail;go_ret;exact⟨rfl,hB4.out⟩
end
open Go.RowKit
open BigFrame
section
theorem zjd(gw:Nat)(s:jP)(b f:zg)(w:World)(h:yk gw s w)(hF:s.1.length<=100000)(hC:s.2.length<=100000):
  Calls Tryz.prog 32 #[.pointer (some ⟨gw,0,none⟩),ye b,ye f] w fun e w'=>e= .returned (.tuple #[])/\yk gw (if b=f then s else zfG s f 3) w'/\Below gw w w'/\xh w w':=by
 obtain⟨bp,bx,bt⟩:=b;obtain⟨p,x,t⟩:=f;obtain⟨W,hW⟩:∃y,(w.alloc (.cells #[.string ⟨bp.toArray⟩,.bool bx,.string ⟨bt.toArray⟩] 28)).alloc (.cells #[.string ⟨p.toArray⟩,.bool x,.string ⟨t.toArray⟩] 28)=y:=⟨_,rfl⟩
 have hB0:Below w.heap.size w W:=by rw[<-hW];exact((Below.refl _ w).alloc (Nat.le_refl _) _).alloc (by simp) _
 have h1:W.heap[w.heap.size]? =some (.cells #[.string ⟨bp.toArray⟩,.bool bx,.string ⟨bt.toArray⟩] 28 (0,0)):=by
  rw[<-hW];exact(Below.heap_alloc _ _ _ (by simp)).trans (heap_alloc_new w _)
 have h2:W.heap[w.heap.size+1]? =some (.cells #[.string ⟨p.toArray⟩,.bool x,.string ⟨t.toArray⟩] 28 (0,0)):=by
  rw[<-hW];have h:=heap_alloc_new (w.alloc (.cells #[.string ⟨bp.toArray⟩,.bool bx,.string ⟨bt.toArray⟩] 28)) (.cells #[.string ⟨p.toArray⟩,.bool x,.string ⟨t.toArray⟩] 28)
  rwa [show(w.alloc (.cells #[.string ⟨bp.toArray⟩,.bool bx,.string ⟨bt.toArray⟩] 28)).heap.size=w.heap.size+1 by simp]at h
 have b0:=zd (i:=0) h1 rfl;have b1:=zd (i:=1) h1 rfl;have b2:=zd (i:=2) h1 rfl;have c0:=zd (i:=0) h2 rfl;have c1:=zd (i:=1) h2 rfl;have c2:=zd (i:=2) h2 rfl;have HW:=ze (h.old hB0);have HB:=ze (hB0.mono (Nat.le_of_lt h.lt));have HFR:=ze (xh.ofBelow hB0);have HP:=ze (fun wx hh=>zdw gw s p t x 3 wx hh hF hC)
 have hq:=fun wx=>zho bp bt p t bx x wx
 obtain⟨z,hz⟩:∃z,(((bp,bx,bt):zg)==(p,x,t))=z:=⟨_,rfl⟩;simp only[bne,hz]at hq;have HZ:=ze hz;clear h hF hC hB0 h1 h2 hz;unfold ye zq;unfold zq at HP
 go_enter Tryz.func32,Tryz.ntmps32
 cases z with
 |true=>
  have HE:=ze (show((bp,bx,bt):zg)=(p,x,t)from eq_of_beq HZ.out);go_wp2_with fail
  try rw[hW]
  go_end0
  exact⟨rfl,by first |exact HW.out |(rw[if_pos HE.out];exact HW.out),HB.out,HFR.out⟩
 |false=>
  have HE:=ze (show ¬((bp,bx,bt):zg)=(p,x,t)from ne_of_beq_false HZ.out)
  go_wp2_with (go_at_call 34;refine(HP.out _ HW.out).mono ?_;rintro e w5 ⟨rfl,h5,h6,h7⟩;have H5:=ze h5;have H6:=ze (HB.out.trans h6);have H7:=ze (xh.trans HFR.out h7);clear h5 h6 h7)
  go_end0
  exact⟨rfl,by first |exact H5.out |(rw[if_neg HE.out];exact H5.out),H6.out,H7.out⟩
theorem zme(b o t:zg)(B1 B2 B3 B4 cl:Bool)(m:zQ)(h1:(o.1==b.1)=B1)(h2:(t.1==b.1)=B2)(h3:(t.1==o.1)=B3)(h4:(o.2.1==b.2.1)=B4)(hm:jJ b.2.2 o.2.2 t.2.2=(m,cl)):
  zdh b o t=(if B1=true then t.1 else o.1,if B4=true then t.2.1 else o.2.1,m)/\zdI b o t=(if B1=false/\B2=false/\B3=false then 4 else if cl=true then 0 else 1):=by
 subst h1 h2 h3 h4;unfold zdh zdI;rw[hm];refine⟨by simp only[beq_iff_eq],?_⟩
 by_cases e1:o.1=b.1 <;> by_cases e2:t.1=b.1 <;> by_cases e3:t.1=o.1 <;> simp[e1,e2,e3]
theorem zpb(gw:Nat)(s:jP)(b o f:zg)(w:World)(h:yk gw s w)(hF:s.1.length<=100000)(hC:s.2.length<=100000)(lb:b.2.2.length<=3000)(lo:o.2.2.length<=3000)(lf:f.2.2.length<=3000):
  Calls Tryz.prog 31 #[.pointer (some ⟨gw,0,none⟩),ye b,ye o,ye f] w fun e w'=>e= .returned (.tuple #[])/\yk gw (zfG s (zdh b o f) (zdI b o f)) w'/\Below gw w w'/\xh w w':=by
 obtain⟨B1,h1⟩:∃z,(o.1==b.1)=z:=⟨_,rfl⟩;obtain⟨B2,h2⟩:∃z,(f.1==b.1)=z:=⟨_,rfl⟩;obtain⟨B3,h3⟩:∃z,(f.1==o.1)=z:=⟨_,rfl⟩;obtain⟨B4,h4⟩:∃z,(o.2.1==b.2.1)=z:=⟨_,rfl⟩;obtain⟨⟨m,cl⟩,hm⟩:∃z,jJ b.2.2 o.2.2 f.2.2=z:=⟨_,rfl⟩;obtain⟨k1,k2⟩:=zme b o f B1 B2 B3 B4 cl m h1 h2 h3 h4 hm;have HM:=ze (fun wx=>zgQ b.2.2 o.2.2 f.2.2 wx lb lo lf);rw[hm]at HM;clear hm lb lo lf;obtain⟨bp,bx,bt⟩:=b;obtain⟨op,ox,ot⟩:=o;obtain⟨p,x,t⟩:=f;simp only at h1 h2 h3 h4 k1 HM;have HK1:=ze k1;have HK2:=ze k2;clear k1 k2;obtain⟨W,hW⟩:∃y,((w.alloc (.cells #[.string ⟨bp.toArray⟩,.bool bx,.string ⟨bt.toArray⟩] 28)).alloc (.cells #[.string ⟨op.toArray⟩,.bool ox,.string ⟨ot.toArray⟩] 28)).alloc (.cells #[.string ⟨p.toArray⟩,.bool x,.string ⟨t.toArray⟩] 28)=y:=⟨_,rfl⟩
 have hB0:Below w.heap.size w W:=by rw[<-hW];exact(((Below.refl _ w).alloc (Nat.le_refl _) _).alloc (by simp) _).alloc (by simp;omega) _
 have hz1:(w.alloc (.cells #[.string ⟨bp.toArray⟩,.bool bx,.string ⟨bt.toArray⟩] 28)).heap.size=w.heap.size+1:=by simp
 have hz2:((w.alloc (.cells #[.string ⟨bp.toArray⟩,.bool bx,.string ⟨bt.toArray⟩] 28)).alloc (.cells #[.string ⟨op.toArray⟩,.bool ox,.string ⟨ot.toArray⟩] 28)).heap.size=w.heap.size+2:=by simp
 have g1:W.heap[w.heap.size]? =some (.cells #[.string ⟨bp.toArray⟩,.bool bx,.string ⟨bt.toArray⟩] 28 (0,0)):=by
  rw[<-hW];exact(Below.heap_alloc _ _ _ (by omega)).trans ((Below.heap_alloc _ _ _ (by omega)).trans (heap_alloc_new w _))
 have g2:W.heap[w.heap.size+1]? =some (.cells #[.string ⟨op.toArray⟩,.bool ox,.string ⟨ot.toArray⟩] 28 (0,0)):=by
  rw[<-hW];have h:=heap_alloc_new (w.alloc (.cells #[.string ⟨bp.toArray⟩,.bool bx,.string ⟨bt.toArray⟩] 28)) (.cells #[.string ⟨op.toArray⟩,.bool ox,.string ⟨ot.toArray⟩] 28);rw[hz1]at h;exact(Below.heap_alloc _ _ _ (by omega)).trans h
 have g3:W.heap[w.heap.size+2]? =some (.cells #[.string ⟨p.toArray⟩,.bool x,.string ⟨t.toArray⟩] 28 (0,0)):=by
  rw[<-hW];have h:=heap_alloc_new ((w.alloc (.cells #[.string ⟨bp.toArray⟩,.bool bx,.string ⟨bt.toArray⟩] 28)).alloc (.cells #[.string ⟨op.toArray⟩,.bool ox,.string ⟨ot.toArray⟩] 28)) (.cells #[.string ⟨p.toArray⟩,.bool x,.string ⟨t.toArray⟩] 28)
  rwa [hz2]at h
 have b0:=zd (i:=0) g1 rfl;have b1:=zd (i:=1) g1 rfl;have b2:=zd (i:=2) g1 rfl;have o0:=zd (i:=0) g2 rfl;have o1:=zd (i:=1) g2 rfl;have o2:=zd (i:=2) g2 rfl;have c0:=zd (i:=0) g3 rfl;have c1:=zd (i:=1) g3 rfl;have c2:=zd (i:=2) g3 rfl;have HW:=ze (h.old hB0);have HB:=ze (hB0.mono (Nat.le_of_lt h.lt));have HFR:=ze (xh.ofBelow hB0);have HGW:=ze (Nat.lt_of_lt_of_le h.lt hB0.size);have HP:=ze (fun(p t:zQ) (x:Bool) (k:Int) wx hh=>zdw gw s p t x k wx hh hF hC);have HLT:=ze (lt_of_block g3);have HBQ:=ze g1;have HOQ:=ze g2;have HCQ:=ze g3;clear h hF hC hB0 g1 g2 g3 hz1 hz2;unfold ye zq;unfold zq at HP HM
 go_enter Tryz.func31,Tryz.ntmps31
 go_upto_region 2 with fail
 try rw[hW]
 have h9:=heap_alloc_new W (.cells #[.string ⟨op.toArray⟩,.bool ox,.string ⟨#[]⟩] 28);have HB9:=ze ((Below.refl _ W).alloc (Nat.le_refl _) (.cells #[.string ⟨op.toArray⟩,.bool ox,.string ⟨#[]⟩] 28));have HG9:=ze h9;clear h9;have b0:=zf HB9.out b0;have b1:=zf HB9.out b1;have b2:=zf HB9.out b2;have o0:=zf HB9.out o0;have o1:=zf HB9.out o1;have o2:=zf HB9.out o2;have c0:=zf HB9.out c0;have c1:=zf HB9.out c1;have c2:=zf HB9.out c2
 go_upto_region 3 with fail
 generalize W.alloc (.cells #[.string ⟨op.toArray⟩,.bool ox,.string ⟨#[]⟩] 28)=Z at *;obtain⟨g9,hg9⟩:∃g,W.heap.size=g:=⟨_,rfl⟩;have HWZ:=ze (show W.heap.size<=g9 from by omega);have HGL:=ze (show w.heap.size+2<g9 by have:=World.block_lt_of_cell? Z _ c0;rw[<-hg9];exact HLT.out);rw[hg9]at HG9 ⊢;clear hg9;have d0:=zd (i:=0) HG9.out rfl;have d1:=zd (i:=1) HG9.out rfl;have d2:=zd (i:=2) HG9.out rfl;have y0:=zo (i:=0) HG9.out;have y1:=zo (i:=1) HG9.out;have y2:=zo (i:=2) HG9.out
 cases B1 with
 |true=>
  cases B4 with
  |true=>
   go_upto_region 9 with fail
   have HY9:=ze (show((Z.setCell ⟨g9,0,none⟩ (.string ⟨p.toArray⟩)).setCell ⟨g9,1,none⟩ (.bool x)).heap[g9]? =some (.cells #[.string ⟨p.toArray⟩,.bool x,.string ⟨#[]⟩] 28 (0,0))from(zv (i:=1) (u:= .bool x) (zv (i:=0) (u:= .string ⟨p.toArray⟩) HG9.out)));have HYB:=ze (show Below W.heap.size W ((Z.setCell ⟨g9,0,none⟩ (.string ⟨p.toArray⟩)).setCell ⟨g9,1,none⟩ (.bool x))from((HB9.out.setCell (p:=⟨g9,0,none⟩) HWZ.out (.string ⟨p.toArray⟩)).setCell (p:=⟨g9,1,none⟩) HWZ.out (.bool x)));clear d0 d1 d2 y0 y1 y2 b0 b1 b2 o0 o1 o2 c0 c1 c2 HG9 HB9;generalize(Z.setCell ⟨g9,0,none⟩ (.string ⟨p.toArray⟩)).setCell ⟨g9,1,none⟩ (.bool x)=Y at *;have b2:=zd (i:=2) ((HYB.out.block _ (lt_of_block HBQ.out)).trans HBQ.out) rfl;have o2:=zd (i:=2) ((HYB.out.block _ (lt_of_block HOQ.out)).trans HOQ.out) rfl;have c2:=zd (i:=2) ((HYB.out.block _ (lt_of_block HCQ.out)).trans HCQ.out) rfl
   cases cl with
   |true=>
    go_wp2_with (first
     |(go_at_call 35;refine(HM.out _).mono ?_;rintro e w5 ⟨rfl,hb5⟩;have HB5:=ze (HYB.out.trans (hb5.mono HYB.out.size));have HG5:=ze ((hb5.block _ (lt_of_block HY9.out)).trans HY9.out);have z5:=zo (i:=2) HG5.out;have d0:=zd (i:=0) HG5.out rfl;have d1:=zd (i:=1) HG5.out rfl;have d2:=zd (i:=2) HG5.out rfl;have HS5:=ze (HB5.out.setCell (p:=⟨g9,2,none⟩) HWZ.out (.string ⟨m.toArray⟩));clear hb5)
     |(go_at_call 34;refine(HP.out _ _ _ _ _ (yk.old HW.out HS5.out)).mono ?_;rintro e w6 ⟨rfl,h5,h6,h7⟩;have H5:=ze h5;have H6:=ze ((HB.out.trans (HS5.out.mono (Nat.le_of_lt HGW.out))).trans h6);have H7:=ze (xh.trans (xh.trans HFR.out (xh.ofBelow HS5.out)) h7);clear h5 h6 h7))
    go_end0
    refine⟨rfl,?_,H6.out,H7.out⟩;rw[HK1.out,HK2.out];exact H5.out
   |false=>
    go_wp2_with (first
     |(go_at_call 35;refine(HM.out _).mono ?_;rintro e w5 ⟨rfl,hb5⟩;have HB5:=ze (HYB.out.trans (hb5.mono HYB.out.size));have HG5:=ze ((hb5.block _ (lt_of_block HY9.out)).trans HY9.out);have z5:=zo (i:=2) HG5.out;have d0:=zd (i:=0) HG5.out rfl;have d1:=zd (i:=1) HG5.out rfl;have d2:=zd (i:=2) HG5.out rfl;have HS5:=ze (HB5.out.setCell (p:=⟨g9,2,none⟩) HWZ.out (.string ⟨m.toArray⟩));clear hb5)
     |(go_at_call 34;refine(HP.out _ _ _ _ _ (yk.old HW.out HS5.out)).mono ?_;rintro e w6 ⟨rfl,h5,h6,h7⟩;have H5:=ze h5;have H6:=ze ((HB.out.trans (HS5.out.mono (Nat.le_of_lt HGW.out))).trans h6);have H7:=ze (xh.trans (xh.trans HFR.out (xh.ofBelow HS5.out)) h7);clear h5 h6 h7))
    go_end0
    refine⟨rfl,?_,H6.out,H7.out⟩;rw[HK1.out,HK2.out];exact H5.out
  |false=>
   go_upto_region 9 with fail
   have HY9:=ze (show(Z.setCell ⟨g9,0,none⟩ (.string ⟨p.toArray⟩)).heap[g9]? =some (.cells #[.string ⟨p.toArray⟩,.bool ox,.string ⟨#[]⟩] 28 (0,0))from(zv (i:=0) (u:= .string ⟨p.toArray⟩) HG9.out));have HYB:=ze (show Below W.heap.size W (Z.setCell ⟨g9,0,none⟩ (.string ⟨p.toArray⟩))from(HB9.out.setCell (p:=⟨g9,0,none⟩) HWZ.out (.string ⟨p.toArray⟩)));clear d0 d1 d2 y0 y1 y2 b0 b1 b2 o0 o1 o2 c0 c1 c2 HG9 HB9;generalize Z.setCell ⟨g9,0,none⟩ (.string ⟨p.toArray⟩)=Y at *;have b2:=zd (i:=2) ((HYB.out.block _ (lt_of_block HBQ.out)).trans HBQ.out) rfl;have o2:=zd (i:=2) ((HYB.out.block _ (lt_of_block HOQ.out)).trans HOQ.out) rfl;have c2:=zd (i:=2) ((HYB.out.block _ (lt_of_block HCQ.out)).trans HCQ.out) rfl
   cases cl with
   |true=>
    go_wp2_with (first
     |(go_at_call 35;refine(HM.out _).mono ?_;rintro e w5 ⟨rfl,hb5⟩;have HB5:=ze (HYB.out.trans (hb5.mono HYB.out.size));have HG5:=ze ((hb5.block _ (lt_of_block HY9.out)).trans HY9.out);have z5:=zo (i:=2) HG5.out;have d0:=zd (i:=0) HG5.out rfl;have d1:=zd (i:=1) HG5.out rfl;have d2:=zd (i:=2) HG5.out rfl;have HS5:=ze (HB5.out.setCell (p:=⟨g9,2,none⟩) HWZ.out (.string ⟨m.toArray⟩));clear hb5)
     |(go_at_call 34;refine(HP.out _ _ _ _ _ (yk.old HW.out HS5.out)).mono ?_;rintro e w6 ⟨rfl,h5,h6,h7⟩;have H5:=ze h5;have H6:=ze ((HB.out.trans (HS5.out.mono (Nat.le_of_lt HGW.out))).trans h6);have H7:=ze (xh.trans (xh.trans HFR.out (xh.ofBelow HS5.out)) h7);clear h5 h6 h7))
    go_end0
    refine⟨rfl,?_,H6.out,H7.out⟩;rw[HK1.out,HK2.out];exact H5.out
   |false=>
    go_wp2_with (first
     |(go_at_call 35;refine(HM.out _).mono ?_;rintro e w5 ⟨rfl,hb5⟩;have HB5:=ze (HYB.out.trans (hb5.mono HYB.out.size));have HG5:=ze ((hb5.block _ (lt_of_block HY9.out)).trans HY9.out);have z5:=zo (i:=2) HG5.out;have d0:=zd (i:=0) HG5.out rfl;have d1:=zd (i:=1) HG5.out rfl;have d2:=zd (i:=2) HG5.out rfl;have HS5:=ze (HB5.out.setCell (p:=⟨g9,2,none⟩) HWZ.out (.string ⟨m.toArray⟩));clear hb5)
     |(go_at_call 34;refine(HP.out _ _ _ _ _ (yk.old HW.out HS5.out)).mono ?_;rintro e w6 ⟨rfl,h5,h6,h7⟩;have H5:=ze h5;have H6:=ze ((HB.out.trans (HS5.out.mono (Nat.le_of_lt HGW.out))).trans h6);have H7:=ze (xh.trans (xh.trans HFR.out (xh.ofBelow HS5.out)) h7);clear h5 h6 h7))
    go_end0
    refine⟨rfl,?_,H6.out,H7.out⟩;rw[HK1.out,HK2.out];exact H5.out
 |false=>
  cases B2 with
  |true=>
   cases B4 with
   |true=>
    go_upto_region 9 with fail
    have HY9:=ze (show((Z).setCell ⟨g9,1,none⟩ (.bool x)).heap[g9]? =some (.cells #[.string ⟨op.toArray⟩,.bool x,.string ⟨#[]⟩] 28 (0,0))from(zv (i:=1) (u:= .bool x) HG9.out));have HYB:=ze (show Below W.heap.size W ((Z).setCell ⟨g9,1,none⟩ (.bool x))from(HB9.out.setCell (p:=⟨g9,1,none⟩) HWZ.out (.bool x)));clear d0 d1 d2 y0 y1 y2 b0 b1 b2 o0 o1 o2 c0 c1 c2 HG9 HB9;generalize(Z).setCell ⟨g9,1,none⟩ (.bool x)=Y at *;have b2:=zd (i:=2) ((HYB.out.block _ (lt_of_block HBQ.out)).trans HBQ.out) rfl;have o2:=zd (i:=2) ((HYB.out.block _ (lt_of_block HOQ.out)).trans HOQ.out) rfl;have c2:=zd (i:=2) ((HYB.out.block _ (lt_of_block HCQ.out)).trans HCQ.out) rfl
    cases cl with
    |true=>
     go_wp2_with (first
      |(go_at_call 35;refine(HM.out _).mono ?_;rintro e w5 ⟨rfl,hb5⟩;have HB5:=ze (HYB.out.trans (hb5.mono HYB.out.size));have HG5:=ze ((hb5.block _ (lt_of_block HY9.out)).trans HY9.out);have z5:=zo (i:=2) HG5.out;have d0:=zd (i:=0) HG5.out rfl;have d1:=zd (i:=1) HG5.out rfl;have d2:=zd (i:=2) HG5.out rfl;have HS5:=ze (HB5.out.setCell (p:=⟨g9,2,none⟩) HWZ.out (.string ⟨m.toArray⟩));clear hb5)
      |(go_at_call 34;refine(HP.out _ _ _ _ _ (yk.old HW.out HS5.out)).mono ?_;rintro e w6 ⟨rfl,h5,h6,h7⟩;have H5:=ze h5;have H6:=ze ((HB.out.trans (HS5.out.mono (Nat.le_of_lt HGW.out))).trans h6);have H7:=ze (xh.trans (xh.trans HFR.out (xh.ofBelow HS5.out)) h7);clear h5 h6 h7))
     go_end0
     refine⟨rfl,?_,H6.out,H7.out⟩;rw[HK1.out,HK2.out];exact H5.out
    |false=>
     go_wp2_with (first
      |(go_at_call 35;refine(HM.out _).mono ?_;rintro e w5 ⟨rfl,hb5⟩;have HB5:=ze (HYB.out.trans (hb5.mono HYB.out.size));have HG5:=ze ((hb5.block _ (lt_of_block HY9.out)).trans HY9.out);have z5:=zo (i:=2) HG5.out;have d0:=zd (i:=0) HG5.out rfl;have d1:=zd (i:=1) HG5.out rfl;have d2:=zd (i:=2) HG5.out rfl;have HS5:=ze (HB5.out.setCell (p:=⟨g9,2,none⟩) HWZ.out (.string ⟨m.toArray⟩));clear hb5)
      |(go_at_call 34;refine(HP.out _ _ _ _ _ (yk.old HW.out HS5.out)).mono ?_;rintro e w6 ⟨rfl,h5,h6,h7⟩;have H5:=ze h5;have H6:=ze ((HB.out.trans (HS5.out.mono (Nat.le_of_lt HGW.out))).trans h6);have H7:=ze (xh.trans (xh.trans HFR.out (xh.ofBelow HS5.out)) h7);clear h5 h6 h7))
     go_end0
     refine⟨rfl,?_,H6.out,H7.out⟩;rw[HK1.out,HK2.out];exact H5.out
   |false=>
    go_upto_region 9 with fail
    have HY9:=ze (show(Z).heap[g9]? =some (.cells #[.string ⟨op.toArray⟩,.bool ox,.string ⟨#[]⟩] 28 (0,0))from HG9.out);have HYB:=ze (show Below W.heap.size W (Z)from HB9.out);clear d0 d1 d2 y0 y1 y2 b0 b1 b2 o0 o1 o2 c0 c1 c2 HG9 HB9;generalize Z=Y at *;have b2:=zd (i:=2) ((HYB.out.block _ (lt_of_block HBQ.out)).trans HBQ.out) rfl;have o2:=zd (i:=2) ((HYB.out.block _ (lt_of_block HOQ.out)).trans HOQ.out) rfl;have c2:=zd (i:=2) ((HYB.out.block _ (lt_of_block HCQ.out)).trans HCQ.out) rfl
    cases cl with
    |true=>
     go_wp2_with (first
      |(go_at_call 35;refine(HM.out _).mono ?_;rintro e w5 ⟨rfl,hb5⟩;have HB5:=ze (HYB.out.trans (hb5.mono HYB.out.size));have HG5:=ze ((hb5.block _ (lt_of_block HY9.out)).trans HY9.out);have z5:=zo (i:=2) HG5.out;have d0:=zd (i:=0) HG5.out rfl;have d1:=zd (i:=1) HG5.out rfl;have d2:=zd (i:=2) HG5.out rfl;have HS5:=ze (HB5.out.setCell (p:=⟨g9,2,none⟩) HWZ.out (.string ⟨m.toArray⟩));clear hb5)
      |(go_at_call 34;refine(HP.out _ _ _ _ _ (yk.old HW.out HS5.out)).mono ?_;rintro e w6 ⟨rfl,h5,h6,h7⟩;have H5:=ze h5;have H6:=ze ((HB.out.trans (HS5.out.mono (Nat.le_of_lt HGW.out))).trans h6);have H7:=ze (xh.trans (xh.trans HFR.out (xh.ofBelow HS5.out)) h7);clear h5 h6 h7))
     go_end0
     refine⟨rfl,?_,H6.out,H7.out⟩;rw[HK1.out,HK2.out];exact H5.out
    |false=>
     go_wp2_with (first
      |(go_at_call 35;refine(HM.out _).mono ?_;rintro e w5 ⟨rfl,hb5⟩;have HB5:=ze (HYB.out.trans (hb5.mono HYB.out.size));have HG5:=ze ((hb5.block _ (lt_of_block HY9.out)).trans HY9.out);have z5:=zo (i:=2) HG5.out;have d0:=zd (i:=0) HG5.out rfl;have d1:=zd (i:=1) HG5.out rfl;have d2:=zd (i:=2) HG5.out rfl;have HS5:=ze (HB5.out.setCell (p:=⟨g9,2,none⟩) HWZ.out (.string ⟨m.toArray⟩));clear hb5)
      |(go_at_call 34;refine(HP.out _ _ _ _ _ (yk.old HW.out HS5.out)).mono ?_;rintro e w6 ⟨rfl,h5,h6,h7⟩;have H5:=ze h5;have H6:=ze ((HB.out.trans (HS5.out.mono (Nat.le_of_lt HGW.out))).trans h6);have H7:=ze (xh.trans (xh.trans HFR.out (xh.ofBelow HS5.out)) h7);clear h5 h6 h7))
     go_end0
     refine⟨rfl,?_,H6.out,H7.out⟩;rw[HK1.out,HK2.out];exact H5.out
  |false=>
   cases B3 with
   |true=>
    cases B4 with
    |true=>
     go_upto_region 9 with fail
     have HY9:=ze (show((Z).setCell ⟨g9,1,none⟩ (.bool x)).heap[g9]? =some (.cells #[.string ⟨op.toArray⟩,.bool x,.string ⟨#[]⟩] 28 (0,0))from(zv (i:=1) (u:= .bool x) HG9.out));have HYB:=ze (show Below W.heap.size W ((Z).setCell ⟨g9,1,none⟩ (.bool x))from(HB9.out.setCell (p:=⟨g9,1,none⟩) HWZ.out (.bool x)));clear d0 d1 d2 y0 y1 y2 b0 b1 b2 o0 o1 o2 c0 c1 c2 HG9 HB9;generalize(Z).setCell ⟨g9,1,none⟩ (.bool x)=Y at *;have b2:=zd (i:=2) ((HYB.out.block _ (lt_of_block HBQ.out)).trans HBQ.out) rfl;have o2:=zd (i:=2) ((HYB.out.block _ (lt_of_block HOQ.out)).trans HOQ.out) rfl;have c2:=zd (i:=2) ((HYB.out.block _ (lt_of_block HCQ.out)).trans HCQ.out) rfl
     cases cl with
     |true=>
      go_wp2_with (first
       |(go_at_call 35;refine(HM.out _).mono ?_;rintro e w5 ⟨rfl,hb5⟩;have HB5:=ze (HYB.out.trans (hb5.mono HYB.out.size));have HG5:=ze ((hb5.block _ (lt_of_block HY9.out)).trans HY9.out);have z5:=zo (i:=2) HG5.out;have d0:=zd (i:=0) HG5.out rfl;have d1:=zd (i:=1) HG5.out rfl;have d2:=zd (i:=2) HG5.out rfl;have HS5:=ze (HB5.out.setCell (p:=⟨g9,2,none⟩) HWZ.out (.string ⟨m.toArray⟩));clear hb5)
       |(go_at_call 34;refine(HP.out _ _ _ _ _ (yk.old HW.out HS5.out)).mono ?_;rintro e w6 ⟨rfl,h5,h6,h7⟩;have H5:=ze h5;have H6:=ze ((HB.out.trans (HS5.out.mono (Nat.le_of_lt HGW.out))).trans h6);have H7:=ze (xh.trans (xh.trans HFR.out (xh.ofBelow HS5.out)) h7);clear h5 h6 h7))
      go_end0
      refine⟨rfl,?_,H6.out,H7.out⟩;rw[HK1.out,HK2.out];exact H5.out
     |false=>
      go_wp2_with (first
       |(go_at_call 35;refine(HM.out _).mono ?_;rintro e w5 ⟨rfl,hb5⟩;have HB5:=ze (HYB.out.trans (hb5.mono HYB.out.size));have HG5:=ze ((hb5.block _ (lt_of_block HY9.out)).trans HY9.out);have z5:=zo (i:=2) HG5.out;have d0:=zd (i:=0) HG5.out rfl;have d1:=zd (i:=1) HG5.out rfl;have d2:=zd (i:=2) HG5.out rfl;have HS5:=ze (HB5.out.setCell (p:=⟨g9,2,none⟩) HWZ.out (.string ⟨m.toArray⟩));clear hb5)
       |(go_at_call 34;refine(HP.out _ _ _ _ _ (yk.old HW.out HS5.out)).mono ?_;rintro e w6 ⟨rfl,h5,h6,h7⟩;have H5:=ze h5;have H6:=ze ((HB.out.trans (HS5.out.mono (Nat.le_of_lt HGW.out))).trans h6);have H7:=ze (xh.trans (xh.trans HFR.out (xh.ofBelow HS5.out)) h7);clear h5 h6 h7))
      go_end0
      refine⟨rfl,?_,H6.out,H7.out⟩;rw[HK1.out,HK2.out];exact H5.out
    |false=>
     go_upto_region 9 with fail
     have HY9:=ze (show(Z).heap[g9]? =some (.cells #[.string ⟨op.toArray⟩,.bool ox,.string ⟨#[]⟩] 28 (0,0))from HG9.out);have HYB:=ze (show Below W.heap.size W (Z)from HB9.out);clear d0 d1 d2 y0 y1 y2 b0 b1 b2 o0 o1 o2 c0 c1 c2 HG9 HB9;generalize Z=Y at *;have b2:=zd (i:=2) ((HYB.out.block _ (lt_of_block HBQ.out)).trans HBQ.out) rfl;have o2:=zd (i:=2) ((HYB.out.block _ (lt_of_block HOQ.out)).trans HOQ.out) rfl;have c2:=zd (i:=2) ((HYB.out.block _ (lt_of_block HCQ.out)).trans HCQ.out) rfl
     cases cl with
     |true=>
      go_wp2_with (first
       |(go_at_call 35;refine(HM.out _).mono ?_;rintro e w5 ⟨rfl,hb5⟩;have HB5:=ze (HYB.out.trans (hb5.mono HYB.out.size));have HG5:=ze ((hb5.block _ (lt_of_block HY9.out)).trans HY9.out);have z5:=zo (i:=2) HG5.out;have d0:=zd (i:=0) HG5.out rfl;have d1:=zd (i:=1) HG5.out rfl;have d2:=zd (i:=2) HG5.out rfl;have HS5:=ze (HB5.out.setCell (p:=⟨g9,2,none⟩) HWZ.out (.string ⟨m.toArray⟩));clear hb5)
       |(go_at_call 34;refine(HP.out _ _ _ _ _ (yk.old HW.out HS5.out)).mono ?_;rintro e w6 ⟨rfl,h5,h6,h7⟩;have H5:=ze h5;have H6:=ze ((HB.out.trans (HS5.out.mono (Nat.le_of_lt HGW.out))).trans h6);have H7:=ze (xh.trans (xh.trans HFR.out (xh.ofBelow HS5.out)) h7);clear h5 h6 h7))
      go_end0
      refine⟨rfl,?_,H6.out,H7.out⟩;rw[HK1.out,HK2.out];exact H5.out
     |false=>
      go_wp2_with (first
       |(go_at_call 35;refine(HM.out _).mono ?_;rintro e w5 ⟨rfl,hb5⟩;have HB5:=ze (HYB.out.trans (hb5.mono HYB.out.size));have HG5:=ze ((hb5.block _ (lt_of_block HY9.out)).trans HY9.out);have z5:=zo (i:=2) HG5.out;have d0:=zd (i:=0) HG5.out rfl;have d1:=zd (i:=1) HG5.out rfl;have d2:=zd (i:=2) HG5.out rfl;have HS5:=ze (HB5.out.setCell (p:=⟨g9,2,none⟩) HWZ.out (.string ⟨m.toArray⟩));clear hb5)
       |(go_at_call 34;refine(HP.out _ _ _ _ _ (yk.old HW.out HS5.out)).mono ?_;rintro e w6 ⟨rfl,h5,h6,h7⟩;have H5:=ze h5;have H6:=ze ((HB.out.trans (HS5.out.mono (Nat.le_of_lt HGW.out))).trans h6);have H7:=ze (xh.trans (xh.trans HFR.out (xh.ofBelow HS5.out)) h7);clear h5 h6 h7))
      go_end0
      refine⟨rfl,?_,H6.out,H7.out⟩;rw[HK1.out,HK2.out];exact H5.out
   |false=>
    cases B4 with
    |true=>
     go_upto_region 9 with fail
     have HY9:=ze (show((Z).setCell ⟨g9,1,none⟩ (.bool x)).heap[g9]? =some (.cells #[.string ⟨op.toArray⟩,.bool x,.string ⟨#[]⟩] 28 (0,0))from(zv (i:=1) (u:= .bool x) HG9.out));have HYB:=ze (show Below W.heap.size W ((Z).setCell ⟨g9,1,none⟩ (.bool x))from(HB9.out.setCell (p:=⟨g9,1,none⟩) HWZ.out (.bool x)));clear d0 d1 d2 y0 y1 y2 b0 b1 b2 o0 o1 o2 c0 c1 c2 HG9 HB9;generalize(Z).setCell ⟨g9,1,none⟩ (.bool x)=Y at *;have b2:=zd (i:=2) ((HYB.out.block _ (lt_of_block HBQ.out)).trans HBQ.out) rfl;have o2:=zd (i:=2) ((HYB.out.block _ (lt_of_block HOQ.out)).trans HOQ.out) rfl;have c2:=zd (i:=2) ((HYB.out.block _ (lt_of_block HCQ.out)).trans HCQ.out) rfl
     cases cl with
     |true=>
      go_wp2_with (first
       |(go_at_call 35;refine(HM.out _).mono ?_;rintro e w5 ⟨rfl,hb5⟩;have HB5:=ze (HYB.out.trans (hb5.mono HYB.out.size));have HG5:=ze ((hb5.block _ (lt_of_block HY9.out)).trans HY9.out);have z5:=zo (i:=2) HG5.out;have d0:=zd (i:=0) HG5.out rfl;have d1:=zd (i:=1) HG5.out rfl;have d2:=zd (i:=2) HG5.out rfl;have HS5:=ze (HB5.out.setCell (p:=⟨g9,2,none⟩) HWZ.out (.string ⟨m.toArray⟩));clear hb5)
       |(go_at_call 34;refine(HP.out _ _ _ _ _ (yk.old HW.out HS5.out)).mono ?_;rintro e w6 ⟨rfl,h5,h6,h7⟩;have H5:=ze h5;have H6:=ze ((HB.out.trans (HS5.out.mono (Nat.le_of_lt HGW.out))).trans h6);have H7:=ze (xh.trans (xh.trans HFR.out (xh.ofBelow HS5.out)) h7);clear h5 h6 h7))
      go_end0
      refine⟨rfl,?_,H6.out,H7.out⟩;rw[HK1.out,HK2.out];exact H5.out
     |false=>
      go_wp2_with (first
       |(go_at_call 35;refine(HM.out _).mono ?_;rintro e w5 ⟨rfl,hb5⟩;have HB5:=ze (HYB.out.trans (hb5.mono HYB.out.size));have HG5:=ze ((hb5.block _ (lt_of_block HY9.out)).trans HY9.out);have z5:=zo (i:=2) HG5.out;have d0:=zd (i:=0) HG5.out rfl;have d1:=zd (i:=1) HG5.out rfl;have d2:=zd (i:=2) HG5.out rfl;have HS5:=ze (HB5.out.setCell (p:=⟨g9,2,none⟩) HWZ.out (.string ⟨m.toArray⟩));clear hb5)
       |(go_at_call 34;refine(HP.out _ _ _ _ _ (yk.old HW.out HS5.out)).mono ?_;rintro e w6 ⟨rfl,h5,h6,h7⟩;have H5:=ze h5;have H6:=ze ((HB.out.trans (HS5.out.mono (Nat.le_of_lt HGW.out))).trans h6);have H7:=ze (xh.trans (xh.trans HFR.out (xh.ofBelow HS5.out)) h7);clear h5 h6 h7))
      go_end0
      refine⟨rfl,?_,H6.out,H7.out⟩;rw[HK1.out,HK2.out];exact H5.out
    |false=>
     go_upto_region 9 with fail
     have HY9:=ze (show(Z).heap[g9]? =some (.cells #[.string ⟨op.toArray⟩,.bool ox,.string ⟨#[]⟩] 28 (0,0))from HG9.out);have HYB:=ze (show Below W.heap.size W (Z)from HB9.out);clear d0 d1 d2 y0 y1 y2 b0 b1 b2 o0 o1 o2 c0 c1 c2 HG9 HB9;generalize Z=Y at *;have b2:=zd (i:=2) ((HYB.out.block _ (lt_of_block HBQ.out)).trans HBQ.out) rfl;have o2:=zd (i:=2) ((HYB.out.block _ (lt_of_block HOQ.out)).trans HOQ.out) rfl;have c2:=zd (i:=2) ((HYB.out.block _ (lt_of_block HCQ.out)).trans HCQ.out) rfl
     cases cl with
     |true=>
      go_wp2_with (first
       |(go_at_call 35;refine(HM.out _).mono ?_;rintro e w5 ⟨rfl,hb5⟩;have HB5:=ze (HYB.out.trans (hb5.mono HYB.out.size));have HG5:=ze ((hb5.block _ (lt_of_block HY9.out)).trans HY9.out);have z5:=zo (i:=2) HG5.out;have d0:=zd (i:=0) HG5.out rfl;have d1:=zd (i:=1) HG5.out rfl;have d2:=zd (i:=2) HG5.out rfl;have HS5:=ze (HB5.out.setCell (p:=⟨g9,2,none⟩) HWZ.out (.string ⟨m.toArray⟩));clear hb5)
       |(go_at_call 34;refine(HP.out _ _ _ _ _ (yk.old HW.out HS5.out)).mono ?_;rintro e w6 ⟨rfl,h5,h6,h7⟩;have H5:=ze h5;have H6:=ze ((HB.out.trans (HS5.out.mono (Nat.le_of_lt HGW.out))).trans h6);have H7:=ze (xh.trans (xh.trans HFR.out (xh.ofBelow HS5.out)) h7);clear h5 h6 h7))
      go_end0
      refine⟨rfl,?_,H6.out,H7.out⟩;rw[HK1.out,HK2.out];exact H5.out
     |false=>
      go_wp2_with (first
       |(go_at_call 35;refine(HM.out _).mono ?_;rintro e w5 ⟨rfl,hb5⟩;have HB5:=ze (HYB.out.trans (hb5.mono HYB.out.size));have HG5:=ze ((hb5.block _ (lt_of_block HY9.out)).trans HY9.out);have z5:=zo (i:=2) HG5.out;have d0:=zd (i:=0) HG5.out rfl;have d1:=zd (i:=1) HG5.out rfl;have d2:=zd (i:=2) HG5.out rfl;have HS5:=ze (HB5.out.setCell (p:=⟨g9,2,none⟩) HWZ.out (.string ⟨m.toArray⟩));clear hb5)
       |(go_at_call 34;refine(HP.out _ _ _ _ _ (yk.old HW.out HS5.out)).mono ?_;rintro e w6 ⟨rfl,h5,h6,h7⟩;have H5:=ze h5;have H6:=ze ((HB.out.trans (HS5.out.mono (Nat.le_of_lt HGW.out))).trans h6);have H7:=ze (xh.trans (xh.trans HFR.out (xh.ofBelow HS5.out)) h7);clear h5 h6 h7))
      go_end0
      refine⟨rfl,?_,H6.out,H7.out⟩;rw[HK1.out,HK2.out];exact H5.out
end
end Go.Proofs.YtbnafihigoekeaaGreatDoor

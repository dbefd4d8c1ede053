/-
  TmTl, part 27.
-/
import Derived.Test.YtbnafihigoekeaaGreatDoorZt26
import Derived.Test.YtbnafihigoekeaaGreatDoorCards
import Derived.Test.YtbnafihigoekeaaGreatDoorTie
import Derived.Deep.DeepHandedRow
import Derived.Lib.LaidTab
set_option maxRecDepth 100000
set_option maxHeartbeats 4000000
namespace Go.Proofs.YtbnafihigoekeaaGreatDoor
open Go.RowKit
section
theorem zqh(f g:zg)(w:World):
  Calls Tryz.prog 37 #[.agg (jh.enc f).toArray,.agg (jh.enc g).toArray] w fun e w'=>e= .returned (.bool (f==g))/\Below w.heap.size w w':=by
 obtain⟨p1,x1,t1⟩:=f;obtain⟨p2,x2,t2⟩:=g;have he:=zhd p1 t1 p2 t2 x1 x2;obtain⟨tt,htt⟩:∃tt,(((p1,x1,t1):zg)==(p2,x2,t2))=tt:=⟨_,rfl⟩;rw[htt]at he ⊢;clear htt;show Calls Tryz.prog 37 #[.agg #[.string ⟨p1.toArray⟩,.bool x1,.string ⟨t1.toArray⟩],.agg #[.string ⟨p2.toArray⟩,.bool x2,.string ⟨t2.toArray⟩]] w _
 go_enter Tryz.func37,Tryz.ntmps37
 go_wp2
 all_goals go_ret
 all_goals refine⟨rfl,((Below.refl _ _).alloc (Nat.le_refl _) _).alloc (by simp) _⟩
theorem zpn(a b:Value)(x y:List zg)(w:World)(ha:yM w a x)(hb:yM w b y)(hx:x.length<=1000000):
  Calls Tryz.prog 36 #[a,b,.func (Fn.func 37) #[] #[]] w fun e w'=>e= .returned (.bool (x==y))/\Below w.heap.size w w':=by
 obtain⟨aa,ca,rfl⟩:=zy.form ha;obtain⟨ab,cb,rfl⟩:=zy.form hb
 by_cases hl:x.length=y.length
 ·have hne:(x.length !=y.length)=false:=by simp[hl]
  have hne':((x.length:Int) !=(y.length:Int))=false:=by simp[hl]
  have HL:=ze hl;clear hl
  go_enter Tryz.func36,Tryz.ntmps36
  go_wp2
  go_loopw [7] (fun i wr=>∃k:Nat,k<=x.length/\i= .int .i64 k/\x.take k=y.take k/\Below w.heap.size w wr) (fun i _ =>x.length-(intOf i).toNat)
  case atStart=>exact⟨0,Nat.zero_le _,rfl,rfl,Below.refl _ _⟩
  case round=>
   obtain⟨k,hk,rfl,heq,hbel⟩:=hrel
   by_cases hlt:k<x.length
   ·obtain⟨b1,o1,⟨p1,x1,t1⟩,rfl,hb1,hc1⟩:=zy.at' (E:=jh) (zy.old ha hbel) (i:=k) hlt
    obtain⟨b2,o2,⟨p2,x2,t2⟩,rfl,hb2,hc2⟩:=zy.at' (E:=jh) (zy.old hb hbel) (i:=k) (by rw[<-HL.out];exact hlt)
    have hlt2:k<y.length:=by rw[<-HL.out];exact hlt
    have i0:(0:Int)<=(k:Int):=Int.natCast_nonneg _
    have i1:(k:Int)<(x.length:Int):=by omega
    have i2:(k:Int)<(y.length:Int):=by omega
    obtain⟨C,hC⟩:∃C:World->Prop,C=fun wy=>Below wr.heap.size wr wy:=⟨_,rfl⟩
    have ra:∀wy,C wy->wy.rangeAt b1 (o1+k*3) [.string ⟨p1.toArray⟩,.bool x1,.string ⟨t1.toArray⟩]:=by
     rw[hC]
     exact fun wy h j u hu=>(World.cell?_of_block (w:=wr) (h.block _ (World.block_lt_of_cell? wr _ (hc1 j u hu)))).trans (hc1 j u hu)
    have rb:∀wy,C wy->wy.rangeAt b2 (o2+k*3) [.string ⟨p2.toArray⟩,.bool x2,.string ⟨t2.toArray⟩]:=by
     rw[hC]
     exact fun wy h j u hu=>(World.cell?_of_block (w:=wr) (h.block _ (World.block_lt_of_cell? wr _ (hc2 j u hu)))).trans (hc2 j u hu)
    obtain⟨tt,htt⟩:∃tt,(((p1,x1,t1):zg)==(p2,x2,t2))=tt:=⟨_,rfl⟩
    have HEQ:=ze (show ∀wy,C wy->Calls Tryz.prog 37 #[.agg #[.string ⟨p1.toArray⟩,.bool x1,.string ⟨t1.toArray⟩],.agg #[.string ⟨p2.toArray⟩,.bool x2,.string ⟨t2.toArray⟩]] wy fun e w'=>e= .returned (.bool tt)/\C w' from fun wy hy=>by
     rw[<-htt]
     refine(zqh (p1,x1,t1) (p2,x2,t2) wy).mono fun e w' h=>⟨h.1,?_⟩
     rw[hC]at hy ⊢
     exact zi hy h.2 hy.size)
    have hCd:C wr.drew:=by rw[hC];exact⟨rfl,rfl,rfl,Nat.le_refl _,fun _ _ =>rfl⟩
    have HCW:=ze (show ∀wy,C wy->Below w.heap.size w wy from fun wy h=>by rw[hC]at h;exact zi hbel h hbel.size);have HRA:=ze ra;have HRB:=ze rb
    have hse:(Tryz.prog.info? 28).map (·.size)=some 3:=by kernel_rfl
    have HIA:=ze hse;have HT:=ze htt;have HE:=ze heq;have HB1:=ze hb1;have HB2:=ze hb2;have HCD:=ze hCd;clear hC hc1 hc2 ra rb hCd hse htt heq hb1 hb2 ha hb hbel;go_wp2_with fail;refine zV C (by kernel_rfl) (by kernel_rfl) HCD.out ?_
    repeat(first
     |go_big_quiet_skip
     |(go_big_quiet_want;first
      |(refine zcs 28 _ rfl b1 (o1+k*3) rfl _ _ HRA.out Tryz.underlying28 rfl HIA.out ?_;simp only[Act.put,List.setIfInBounds_toArray,List.set_cons_zero,List.set_cons_succ];go_big_quiet_on)
      |(refine zcs 28 _ rfl b2 (o2+k*3) rfl _ _ HRB.out Tryz.underlying28 rfl HIA.out ?_;simp only[Act.put,List.setIfInBounds_toArray,List.set_cons_zero,List.set_cons_succ];go_big_quiet_on)
      |(go_big_quiet_op;first
       |go_big_quiet_on
       |(apply Exists.intro;with_reducible refine⟨fun _ _ =>rfl,?_⟩;go_big_quiet_on)
       |(apply Exists.intro
         refine⟨fun wy hy=>?_,?_⟩
         ·with_reducible exact HEQ.out wy hy
         go_big_quiet_on))))
    refine wpQuiet_nil ?_;intro w5 hC5;have hbw:=HCW.out w5 hC5;clear hC5
    cases tt with
    |true=>
     have h12:((p1,x1,t1):zg)=(p2,x2,t2):=by have:=HT.out;rwa [beq_iff_eq]at this
     have R:=ze (show x.take (k+1)=y.take (k+1) by rw[yz HB1.out,yz HB2.out,HE.out,h12]);clear h12
     go_wp2
     go_roundw
     case rel=>exact⟨k+1,by omega,by go_num,R.out,hbw⟩
     case measure=>simp[intOf];omega
    |false=>
     have hxy:=ze (show(x==y)=false by
      have h12:((p1,x1,t1):zg)≠ (p2,x2,t2):=by have:=HT.out;rwa [beq_eq_false_iff_ne]at this
      rw[beq_eq_false_iff_ne];intro e;subst e;have:=HB1.out.symm.trans HB2.out
      exact h12 (Option.some.inj this))
     go_wp2
     go_ret;rw[hxy.out];exact⟨rfl,hbw⟩
   ·obtain rfl:k=x.length:=by omega
    have hxy:=ze (show(x==y)=true by
     rw[List.take_length,HL.out,List.take_length]at heq;rw[beq_iff_eq]
     exact heq)
    clear heq
    go_wp2
    go_ret;rw[hxy.out];exact⟨rfl,hbel⟩
 ·have hne:(x.length !=y.length)=true:=by simpa using hl
  have hne':((x.length:Int) !=(y.length:Int))=true:=by simp;omega
  have hxy:=ze (show(x==y)=false by
   rw[beq_eq_false_iff_ne];intro e;subst e
   exact hl rfl)
  clear hl
  go_enter Tryz.func36,Tryz.ntmps36
  go_wp2
  go_ret;rw[hxy.out];exact⟨rfl,Below.refl _ _⟩
theorem zem(a b:Value)(x y:List zg)(w:World)(ha:yM w a x)(hb:yM w b y)(hx:x.length<=1000000):
  Calls Tryz.prog 16 #[a,b] w fun e w'=>e= .returned (.bool (x==y))/\Below w.heap.size w w':=by
 go_enter Tryz.func16,Tryz.ntmps16
 go_wp2_with fail;refine(zpn a b x y w ha hb hx).mono ?_;rintro e w' ⟨rfl,hb⟩
 go_wp2
 go_ret;exact⟨rfl,hb⟩
structure kF(w:World)(g:Nat)(es:List zg)(f:zg):Prop where
 block:w.heap[g]? =some (.cells (zO jh (es++[f,f,f])).toArray 28 (0,0))
theorem zmf(X r:List Value)(a0 a1 a2:Value)(m:Nat)(hk:m+2<r.length):((((X++r.drop m).set (X.length) a0).set (X.length+1) a1).set (X.length+2) a2)=X ++(a0::a1::a2::r.drop (m+3)):=by
 rw[List.set_append_right _ _ (Nat.le_refl _),Nat.sub_self,List.drop_eq_getElem_cons (by omega),List.drop_eq_getElem_cons (by omega),List.drop_eq_getElem_cons (by omega),List.set_cons_zero,List.set_append_right _ _ (by omega),Nat.add_sub_cancel_left,List.set_append_right _ _ (by omega),Nat.add_sub_cancel_left]
 rfl
theorem zkA(v:Value)(es:List zg)(f:zg)(w:World)(hv:yM w v es)(hlen:es.length<=1000000):
  Calls Tryz.prog 13 #[v,.agg (jh.enc f).toArray] w fun e w'=>∃g,w.heap.size<=g/\e= .returned (.slice (some ⟨g,0,none⟩) es.length (es.length+3))/\kF w' g es f/\Below w.heap.size w w':=by
 obtain⟨i0,hi0,hi1,hi2,hi3⟩:=info_parts Tryz.infoFile;obtain⟨ao,cap,rfl⟩:=zy.form hv;obtain⟨p,x,t⟩:=f;show Calls Tryz.prog 13 #[_,.agg #[.string ⟨p.toArray⟩,.bool x,.string ⟨t.toArray⟩]] w _
 have hmk:=fun w0=>run_make (P:=Tryz.prog) w0 22 28 i0 _ Tryz.underlying22 hi0 hi1 .i64 .i64 0 ((es.length:Int)+3) (by omega) (by omega) (by rw[hi3];omega) (by omega)
 obtain⟨mc,hmc,hms⟩:∃mc,mc=madeCells (Value.agg #[zq [],.bool false,zq []]).cells (((es.length:Int)+3).toNat*i0.size)/\mc.size=(es.length+3)*3:=⟨_,rfl,by rw[size_madeCells,hi2];omega⟩;rw[<-hmc,show((0:Int)).toNat=0 from rfl,show((es.length:Int)+3).toNat=es.length+3 from by omega]at hmk;have nw:IntKind.i64.wrap ((es.length:Int)+3)=(es.length:Int)+3:=IntWalk.i64_in _ (by omega);have HMS:=ze hms;have hfl:(zO jh es).length=es.length*3:=yN jh es
 have g1:0+es.length<=es.length+3:=by omega
 have g2:0*3 +(zO jh es).length<=mc.size:=by rw[hms,hfl];omega
 have hsl:(es.length:Int)+3<=((es.length+3:Nat):Int):=by omega
 have hgb:((w.alloc (.cells #[.string ⟨p.toArray⟩,.bool x,.string ⟨t.toArray⟩] 28)).alloc (.cells mc 28)).heap[w.heap.size+1]? =some (.cells mc 28 (0,0)):=by
  have:=heap_alloc_new (w.alloc (.cells #[.string ⟨p.toArray⟩,.bool x,.string ⟨t.toArray⟩] 28)) (.cells mc 28);simpa using this
 have hbx:((w.alloc (.cells #[.string ⟨p.toArray⟩,.bool x,.string ⟨t.toArray⟩] 28)).alloc (.cells mc 28)).heap[w.heap.size]? =some (.cells #[.string ⟨p.toArray⟩,.bool x,.string ⟨t.toArray⟩] 28 (0,0)):=by
  have:=heap_alloc_new w (.cells #[.string ⟨p.toArray⟩,.bool x,.string ⟨t.toArray⟩] 28)
  exact((Below.refl _ (w.alloc (.cells #[.string ⟨p.toArray⟩,.bool x,.string ⟨t.toArray⟩] 28))).alloc (Nat.le_refl _) (.cells mc 28)).block _ (lt_of_block this) |>.trans this
 have hsz:((w.alloc (.cells #[.string ⟨p.toArray⟩,.bool x,.string ⟨t.toArray⟩] 28)).alloc (.cells mc 28)).heap.size=w.heap.size+2:=by simp
 have hb1:Below w.heap.size w ((w.alloc (.cells #[.string ⟨p.toArray⟩,.bool x,.string ⟨t.toArray⟩] 28)).alloc (.cells mc 28)):=((Below.refl _ w).alloc (Nat.le_refl _) _).alloc (by simp) _;have hv1:=zy.old hv hb1;clear hmc hms
 go_enter Tryz.func13,Tryz.ntmps13
 go_wp2_with (refine zdE rfl (.tmp 12) (.tmp 13) _ _ rfl 28 3 Tryz.underlying22 hi0 hi2 (w.heap.size+1) 0 (es.length+3) mc rfl hgb _ _ _ rfl (zy.src hv1 Tryz.underlying22) g1 g2 ?_;intro w2 hb2 hk2)
 have hbx2:w2.heap[w.heap.size]? =some (.cells #[.string ⟨p.toArray⟩,.bool x,.string ⟨t.toArray⟩] 28 (0,0)):=((hk2.below (B:=w.heap.size+1) (by rw[hsz];omega) fun i hi=>by show ¬i= _;omega).block _ (Nat.lt_succ_self _)).trans hbx;have hb3:Below w.heap.size w w2:=hb1.trans (hk2.below (by rw[hsz];omega) fun i hi=>by show ¬i= _;omega)
 obtain⟨r,hr,hrl⟩:∃r:List Value,List.take (0*3) mc.toList++zO jh es++List.drop (0*3 +(zO jh es).length) mc.toList=zO jh (es++List.replicate 0 (p,x,t))++r.drop (0*3)/\r.length=3*3:=by
  refine⟨List.drop (0*3 +(zO jh es).length) mc.toList,by simp,?_⟩;rw[List.length_drop,Array.length_toList,HMS.out,hfl];omega
 rw[show @HAppend.hAppend (List Value) (List Value) (List Value) _ (List.take (0*3) mc.toList++zO jh es) (List.drop (0*3 +(zO jh es).length) mc.toList)= _ from hr]at hb2;have HRL:=ze hrl;have HB2:=ze hb2;have HBX2:=ze hbx2;have HB3:=ze hb3;clear hr hrl hk2 hmk g2 hgb hbx hsz hb1 hv1 hv hb2 hbx2 hb3 hi0 hi1 hi2 hi3 hfl
 have hn3:(es.length:Int)+3<=9223372036854775807:=by omega
 go_loopw [7] (fun i wr=>∃j:Nat,es.length<=j/\j<=es.length+3/\i= .int .i64 (j:Int)/\Hid (wr.heap[w.heap.size+1]? =some (.cells (zO jh (es++List.replicate (j-es.length) (p,x,t))++r.drop ((j-es.length)*3)).toArray 28 (0,0)))/\Hid (wr.heap[w.heap.size]? =some (.cells #[.string ⟨p.toArray⟩,.bool x,.string ⟨t.toArray⟩] 28 (0,0)))/\Hid (Below w.heap.size w wr)) (fun i _ =>es.length+3-(intOf i).toNat)
 case atStart=>exact⟨es.length,Nat.le_refl _,by omega,rfl,ze (by rw[Nat.sub_self];exact HB2.out),HBX2,HB3⟩
 case round=>
  obtain⟨j,hj0,hj,rfl,HB,HX,HBEL⟩:=hrel
  by_cases hlt:j<es.length+3
  ·obtain⟨X,hX⟩:∃X,zO jh (es++List.replicate (j-es.length) (p,x,t))=X:=⟨_,rfl⟩
   have hXl:X.length=j*3:=by rw[<-hX,yN,List.length_append,List.length_replicate];show _*3= _;congr 1;omega
   have hb:=HB.out;rw[hX]at hb
   have hT:(X++r.drop ((j-es.length)*3)).length=(es.length+3)*3:=by rw[List.length_append,hXl,List.length_drop,HRL.out];omega
   obtain⟨u0,hu0⟩:∃u,(X++r.drop ((j-es.length)*3)).toArray[j*3]? =some u:=⟨_,Array.getElem?_eq_getElem (by rw[List.size_toArray,hT];omega)⟩;have hc0:=zd hb hu0;have hf0:=zo (i:=j*3) hb;have hb0:=zv (i:=j*3) (u:= .string ⟨p.toArray⟩) hb;rw[List.setIfInBounds_toArray]at hb0;obtain⟨u1,hu1⟩:∃u,((X++r.drop ((j-es.length)*3)).set (j*3) (.string ⟨p.toArray⟩)).toArray[j*3+1]? =some u:=⟨_,Array.getElem?_eq_getElem (by rw[List.size_toArray,List.length_set,hT];omega)⟩;have hc1:=zd hb0 hu1;have hf1:=zo (i:=j*3+1) hb0;have hb1:=zv (i:=j*3+1) (u:= .bool x) hb0;rw[List.setIfInBounds_toArray]at hb1;obtain⟨u2,hu2⟩:∃u,(((X++r.drop ((j-es.length)*3)).set (j*3) (.string ⟨p.toArray⟩)).set (j*3+1) (.bool x)).toArray[j*3+2]? =some u:=⟨_,Array.getElem?_eq_getElem (by rw[List.size_toArray,List.length_set,List.length_set,hT];omega)⟩;have hc2:=zd hb1 hu2;have hf2:=zo (i:=j*3+2) hb1;have hb2:=zv (i:=j*3+2) (u:= .string ⟨t.toArray⟩) hb1;have hst:=zmf X r (.string ⟨p.toArray⟩) (.bool x) (.string ⟨t.toArray⟩) ((j-es.length)*3) (by rw[HRL.out];omega);rw[hXl]at hst;rw[List.setIfInBounds_toArray,hst]at hb2
   have hfin:X ++(.string ⟨p.toArray⟩:: .bool x:: .string ⟨t.toArray⟩::r.drop ((j-es.length)*3+3))=zO jh (es++List.replicate (j+1-es.length) (p,x,t))++r.drop ((j+1-es.length)*3):=by
    rw[show j+1-es.length=j-es.length+1 by omega,List.replicate_succ',<-List.append_assoc,xA,hX,Nat.add_mul,Nat.one_mul,List.append_assoc,zbR]
    rfl
   rw[hfin]at hb2;have hx:=HX.out;have hx0:wr.cell? ⟨w.heap.size,0,none⟩=some (.string ⟨p.toArray⟩):=zd hx rfl;have hx1:wr.cell? ⟨w.heap.size,1,none⟩=some (.bool x):=zd hx rfl;have hx2:wr.cell? ⟨w.heap.size,2,none⟩=some (.string ⟨t.toArray⟩):=zd hx rfl;have HB'':=ze hb2
   have HX'':=ze (show(((wr.setCell ⟨w.heap.size+1,j*3,none⟩ (.string ⟨p.toArray⟩)).setCell ⟨w.heap.size+1,j*3+1,none⟩ (.bool x)).setCell ⟨w.heap.size+1,j*3+2,none⟩ (.string ⟨t.toArray⟩)).heap[w.heap.size]? =some (.cells #[.string ⟨p.toArray⟩,.bool x,.string ⟨t.toArray⟩] 28 (0,0))from
    ((((((Below.refl (w.heap.size+1) wr).setCell (Nat.le_refl _) _).setCell (Nat.le_refl _) _).setCell (Nat.le_refl _) _)).block _ (Nat.lt_succ_self _)).trans hx)
   have i0:(0:Int)<=(j:Int):=Int.natCast_nonneg _
   have i1:(j:Int)<(es.length:Int)+3:=by omega
   have jw:IntKind.i64.wrap ((j:Int)+1)=(j:Int)+1:=IntWalk.i64_in _ (by omega);clear hb hu0 hu1 hu2 hb0 hb1 hb2 hst hfin hT hX hXl hn3 hx
   go_wp2
   go_roundw
   case rel=>exact⟨j+1,by omega,by omega,by go_num,HB'',HX'',ze (((HBEL.out.setCell (Nat.le_succ _) _).setCell (Nat.le_succ _) _).setCell (Nat.le_succ _) _)⟩
   case measure=>simp[intOf];omega
  ·obtain rfl:j=es.length+3:=by omega
   have hown:kF wr (w.heap.size+1) es (p,x,t):=by
    refine⟨?_⟩;rw[HB.out,Nat.add_sub_cancel_left,List.drop_of_length_le (by rw[HRL.out];exact Nat.le_refl _),List.append_nil]
    rfl
   have hlt':decide ((es.length:Int)+3 <(es.length:Int)+3)=false:=by simp
   clear hj0 hj hlt
   go_wp2
   go_ret;exact⟨_,Nat.le_succ _,rfl,hown,HBEL.out⟩
theorem kF.sl{w:World}{g:Nat}{es:List zg}{f:zg}(h:kF w g es f):yM w (.slice (some ⟨g,0,none⟩) es.length (es.length+3)) es:=by
 refine⟨some ⟨g,0,none⟩,es.length+3,rfl,(fun h=>by cases h),by omega,fun a ha i x hx j u hu=>?_⟩;cases ha
 have hj:j<jh.k:=by have:=(List.getElem?_eq_some_iff.1 hu).1;rwa [jh.len]at this
 have h1:=zdq jh (xs:=es++[f,f,f]) (by rw[List.getElem?_append_left (List.getElem?_eq_some_iff.1 hx).1];exact hx) hj;rw[Addr.add_lit,Nat.zero_add];exact zd h.block (by rw[List.getElem?_toArray,h1];exact hu)
theorem kF.spare{w:World}{g:Nat}{es:List zg}{f:zg}(h:kF w g es f)(j:Nat)(h1:es.length<=j)(h2:j<es.length+3)(i:Nat)(u:Value)(hu:(jh.enc f)[i]? =some u):w.cell? ⟨g,j*3+i,none⟩=some u:=by
 have hf:(es++[f,f,f])[j]? =some f:=by
  rw[List.getElem?_append_right h1]
  rcases(show j-es.length=0∨j-es.length=1∨j-es.length=2 by omega)with h |h |h <;> rw[h]<;> rfl
 have hj:i<jh.k:=by have:=(List.getElem?_eq_some_iff.1 hu).1;rwa [jh.len]at this
 have h1:=zdq jh hf hj;exact zd h.block (by rw[List.getElem?_toArray];exact h1.trans hu)
theorem kF.old{w w':World}{g:Nat}{es:List zg}{f:zg}(h:kF w g es f)(hk:Below w.heap.size w w'):kF w' g es f:=⟨(hk.block g (lt_of_block h.block)).trans h.block⟩
theorem zjb(g:Nat)(v:Value)(es:List zg)(f:zg)(w:World)(ho:kF w g es f)(hv:yM w v es)(hlen:es.length<=1000000):
  Calls Tryz.prog 18 #[.slice (some ⟨g,0,none⟩) es.length (es.length+3),v,.agg (jh.enc f).toArray] w fun e w'=>e= .returned (.bool true)/\Below w.heap.size w w':=by
 obtain⟨ao,cap,rfl⟩:=zy.form hv;obtain⟨p,x,t⟩:=f;show Calls Tryz.prog 18 #[_,_,.agg #[.string ⟨p.toArray⟩,.bool x,.string ⟨t.toArray⟩]] w _;have hb1:Below w.heap.size w (w.alloc (.cells #[.string ⟨p.toArray⟩,.bool x,.string ⟨t.toArray⟩] 28)):=(Below.refl _ w).alloc (Nat.le_refl _) _;have hbx:=heap_alloc_new w (.cells #[.string ⟨p.toArray⟩,.bool x,.string ⟨t.toArray⟩] 28);have ho:=ho.old hb1;have hv:=zy.old hv hb1;have hz1:=hb1.size;have hlt0:=lt_of_block hbx;have nw:IntKind.i64.wrap ((es.length:Int)+3)=(es.length:Int)+3:=IntWalk.i64_in _ (by omega)
 have hsl:(es.length:Int)+3<=((es.length+3:Nat):Int):=by omega
 have hcmp:decide ((es.length:Int)+3 <(es.length:Int)+3)=false:=by simp
 go_enter Tryz.func18,Tryz.ntmps18
 go_wp2_with fail;generalize hw1:w.alloc (.cells #[.string ⟨p.toArray⟩,.bool x,.string ⟨t.toArray⟩] 28)=w1 at hb1 hbx ho hv hz1 hlt0 ⊢;clear hw1;have hD:=zem _ _ es es w1 ho.sl hv hlen;rw[show(es==es)=true from by rw[beq_iff_eq]]at hD;refine hD.mono ?_;rintro e x2 ⟨rfl,hq⟩;clear hD;have ho:=ho.old hq;have hbx:=(hq.block _ hlt0).trans hbx;have hb2:=zi hb1 hq hz1;have HO:=ze ho;have HX:=ze hbx;have HB2:=ze hb2;clear ho hbx hb2 hq hb1 hv hz1 hlt0
 have hn3:(es.length:Int)+3<=9223372036854775807:=by omega
 go_wp2_with fail
 go_loopg [8] 3 (fun gg i wr=>∃j:Nat,es.length<=j/\j<=es.length+3/\es.length+3-j=gg/\i= .int .i64 (j:Int)/\Hid (Below x2.heap.size x2 wr))
 case atStart=>exact⟨es.length,Nat.le_refl _,by omega,by omega,rfl,ze (Below.refl _ _)⟩
 case round=>
  obtain⟨j,hj0,hj,rfl,rfl,HB⟩:=hrel
  by_cases hlt:j<es.length+3
  ·have hsp:=(HO.out.old HB.out).spare j hj0 hlt
   have sp0:wr.cell? ⟨g,j*3,none⟩=some (.string ⟨p.toArray⟩):=hsp 0 (.string ⟨p.toArray⟩) rfl;have sp1:wr.cell? ⟨g,j*3+1,none⟩=some (.bool x):=hsp 1 (.bool x) rfl;have sp2:wr.cell? ⟨g,j*3+2,none⟩=some (.string ⟨t.toArray⟩):=hsp 2 (.string ⟨t.toArray⟩) rfl;have hx:=(HB.out.block _ (lt_of_block HX.out)).trans HX.out;have hx0:wr.cell? ⟨w.heap.size,0,none⟩=some (.string ⟨p.toArray⟩):=zd hx rfl;have hx1:wr.cell? ⟨w.heap.size,1,none⟩=some (.bool x):=zd hx rfl;have hx2:wr.cell? ⟨w.heap.size,2,none⟩=some (.string ⟨t.toArray⟩):=zd hx rfl;have i0:(0:Int)<=(j:Int):=Int.natCast_nonneg _
   have i1:(j:Int)<(es.length:Int)+3:=by omega
   have jw:IntKind.i64.wrap ((j:Int)+1)=(j:Int)+1:=IntWalk.i64_in _ (by omega);have hne:=zho p t p t x x;rw[show(((p,x,t):zg) !=(p,x,t))=false by rw[bne_eq_false_iff_eq]]at hne;clear hx hn3 hsp;go_wp2_with fail;go_quiet (fail);have HB3:=ze (zi HB.out (zm wr nq) HB.out.size);generalize wr.drewN nq=wq at HB3 ⊢;clear sp0 hx0 sp1 hx1 sp2 hx2 hne
   go_wp2
   go_roundg (es.length+3-(j+1))
   case measure=>omega
   case rel=>exact⟨j+1,by omega,by omega,rfl,by go_num,HB3⟩
  ·obtain rfl:j=es.length+3:=by omega
   have hlt':decide ((es.length:Int)+3 <(es.length:Int)+3)=false:=by simp
   have hbf:=zi HB2.out HB.out HB2.out.size;clear hj0 hj hlt
   go_wp2
   go_ret;exact⟨rfl,hbf⟩
end
open Go.ChangeShapes Go.WideShapes Go.ChangeAt Go.RowKit
def zri(l:List Nat)(o:Obj):Obj:=
 match o with
 | .cells _ t frozen=> .cells (l.map fun c:Nat=>Value.int .u8 (c:Int)).toArray t frozen
 |o=>o
noncomputable def zfA(os:Os):World:=
 let w:=World.holding Tryz.prog os ⟨#[],#[],[]⟩
 {w with heap:=(w.heap.modify 1 (zri Go.Pinned.utf8FirstZ)).modify 2 (zri ([128,191,160,191,128,159,144,191,128,143]++List.replicate 22 0)) }
end Go.Proofs.YtbnafihigoekeaaGreatDoor

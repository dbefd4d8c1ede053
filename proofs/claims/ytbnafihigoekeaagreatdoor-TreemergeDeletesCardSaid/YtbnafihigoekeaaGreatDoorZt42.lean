/-
  TmTl, part 42.
-/
import Derived.Test.YtbnafihigoekeaaGreatDoorZt41
import Derived.Test.YtbnafihigoekeaaGreatDoorZt21
set_option maxRecDepth 100000
set_option maxHeartbeats 4000000
namespace Go.Proofs.YtbnafihigoekeaaGreatDoor
open Go.RowKit
section
theorem zou(f:zg)(p:zQ)(g:Nat)(w:World)(hg:w.cell? ⟨g,0,none⟩=some (zq p))(hf:f.1.length<=1000000)(hp:p.length<=1000000):
  Calls Tryz.prog 91 #[ye f,.pointer (some ⟨g,0,none⟩)] w fun e w'=>e= .returned (.bool (yS f.1 p))/\Below w.heap.size w w':=by
 obtain⟨q,x,t⟩:=f;have HC:=ze (fun wy=>zmx q p wy hf hp);have HB:=ze ((Below.refl _ w).alloc (Nat.le_refl w.heap.size) (.cells #[.string ⟨q.toArray⟩,.bool x,.string ⟨t.toArray⟩] 28));have hg2:=zf HB.out hg;clear hf hp;unfold zq at HC hg hg2;unfold ye zq
 go_enter Tryz.func91,Tryz.ntmps91
 go_wp2_with (go_at_call 92;refine(HC.out _).mono ?_;rintro e w1 ⟨rfl,hb1⟩;have HB1:=ze (zi HB.out hb1 HB.out.size);clear hb1)
 go_ret;exact⟨rfl,HB1.out⟩
theorem zkZ(v:Value)(l:List zg)(p:zQ)(g:Nat)(w:World)(hv:yM w v l)(hl:l.length<=100000)(hg:w.cell? ⟨g,0,none⟩=some (zq p))(hf:∀f∈l,f.1.length<=1000000)(hp:p.length<=1000000):
  Calls Tryz.prog 120 #[v,.func (Fn.func 91) #[] #[.pointer (some ⟨g,0,none⟩)]] w fun e w'=>∃z:Int,e= .returned (.int .i64 z)/\decide (0<=z)=jD l p/\Below w.heap.size w w':=by
 obtain⟨ao,cap,rfl⟩:=hv.form;have HV:=ze hv;have HL:=ze hl;have HG:=ze hg;have HF:=ze hf;have HP:=ze hp;clear hv hl hg hf hp
 go_enter Tryz.func120,Tryz.ntmps120
 go_wp2_with fail
 go_loopg [5,8] l.length (fun gk _ i wr=>∃k:Nat,k<=l.length/\l.length-k=gk/\i= .int .i64 k/\Hid (jD l p=jD (l.drop k) p)/\Hid (Below w.heap.size w wr))
 case atStart=>exact⟨0,Nat.zero_le _,rfl,rfl,ze rfl,ze (Below.refl _ _)⟩
 case round=>
  obtain⟨k,hk,rfl,rfl,HA,HB⟩:=hrel;have k0:(0:Int)<=(k:Int):=Int.natCast_nonneg _
  by_cases hlt:k<l.length
  ·have k1:(k:Int)<(l.length:Int):=by omega
   have kw:IntKind.i64.wrap ((k:Int)+1)=(k:Int)+1:=IntWalk.i64_in _ (by have:=HL.out;omega);obtain⟨b,o,p2,x2,t2,rfl,he,c1,c2,c3⟩:=yM.at (HV.out.old HB.out) hlt;have hd:=yP he;have HX:=ze (show jD l p=(yS p2 p ||jD (l.drop (k+1)) p) by rw[HA.out,hd];rfl);have HC:=ze (zou (p2,x2,t2) p g wr (zf HB.out HG.out) (HF.out _ (List.mem_iff_getElem?.2 ⟨k,he⟩)) HP.out);unfold ye zq at HC
   dsimp only at HC
   obtain⟨y,hy⟩:∃y,yS p2 p=y:=⟨_,rfl⟩;rw[hy]at HX HC;clear he hd hy HA
   cases y with
   |true=>
    have HQ:=ze (show jD l p=true by rw[HX.out];rfl);clear HX;go_wp2_with fail;refine HC.out.mono ?_;rintro e w1 ⟨rfl,hb1⟩;have HB1:=ze (zi HB.out hb1 HB.out.size);clear hb1;go_wp2_with fail;go_ret;exact⟨(k:Int),rfl,by rw[HQ.out];exact decide_eq_true k0,HB1.out⟩
   |false=>
    have HQ:=ze (show jD l p=jD (l.drop (k+1)) p by rw[HX.out];rfl);clear HX;go_wp2_with fail;refine HC.out.mono ?_;rintro e w1 ⟨rfl,hb1⟩;have HB1:=ze (zi HB.out hb1 HB.out.size);clear hb1;go_wp2_with fail
    go_roundg (l.length-(k+1))
    case measure=>omega
    case rel=>exact⟨k+1,by omega,rfl,by go_num,HQ,HB1⟩
  ·obtain rfl:k=l.length:=by omega
   have hneg:¬(l.length:Int)<(l.length:Int):=by omega
   have HQ:=ze (show jD l p=false by rw[HA.out,List.drop_length];rfl);go_wp2_with fail;go_ret;exact⟨-1,rfl,by rw[HQ.out];rfl,HB.out⟩
theorem zmk(v:Value)(l:List zg)(p:zQ)(g:Nat)(w:World)(hv:yM w v l)(hl:l.length<=100000)(hg:w.cell? ⟨g,0,none⟩=some (zq p))(hf:∀f∈l,f.1.length<=1000000)(hp:p.length<=1000000):
  Calls Tryz.prog 90 #[v,.func (Fn.func 91) #[] #[.pointer (some ⟨g,0,none⟩)]] w fun e w'=>e= .returned (.bool (jD l p))/\Below w.heap.size w w':=by
 have HC:=ze (zkZ v l p g w hv hl hg hf hp);clear hv hl hg hf hp;obtain⟨r,hr⟩:∃r,jD l p=r:=⟨_,rfl⟩;rw[hr]at HC ⊢;clear hr
 go_enter Tryz.func90,Tryz.ntmps90
 go_wp2_with (go_at_call 120;refine HC.out.mono ?_;rintro e w1 ⟨z,rfl,hz,hb1⟩;have HB1:=ze hb1;have HZ:=ze hz;clear hb1 hz)
 go_ret;exact⟨by rw[<-HZ.out];rfl,HB1.out⟩
end
theorem Tryz.neM1:28≠57:=by decide
theorem Tryz.neM2:36≠57:=by decide
theorem Tryz.sizeMerging:(Tryz.prog.info? 57).map (·.size)=some 5:=by kernel_rfl
structure WhM(gk gm:Nat)(v0 v1:Value)(s:jP)(w:World):Prop where
 ex:∃vm vc,w.heap[gk]? =some (.cells #[.map (some gm),v0,v1,vm,vc] 57 (0,0))/\zI w (gk+1) vm s.1/\jv w (gk+1) vc s.2
section
variable{gk gm:Nat}{v0 v1:Value}{s:jP}{w w':World}
theorem WhM.lt(h:WhM gk gm v0 v1 s w):gk<w.heap.size:=by
 obtain⟨_,_,hg,_⟩:=h.ex;exact lt_of_block hg
theorem WhM.old(h:WhM gk gm v0 v1 s w)(hk:Below w.heap.size w w'):WhM gk gm v0 v1 s w':=by
 obtain⟨vm,vc,hg,hf,hc⟩:=h.ex;exact⟨vm,vc,(hk.block _ (lt_of_block hg)).trans hg,World.ownsRow.kept' hf hk,World.ownsRow.kept' hc hk⟩
theorem jv.setM{i:Nat}{base:Nat}{v u:Value}{C:List yK}{cs:Array Value}(h:jv w base v C)(hg:w.heap[gk]? =some (.cells cs 57 (0,0))):jv (w.setCell ⟨gk,i,none⟩ u) base v C:=by
 have hne:=yO h hg Tryz.neM2
 rcases h.2 with hn |⟨g,cap,cur,rfl,hb,hg',rest⟩
 ·exact⟨h.1,.inl hn⟩
 ·refine⟨h.1,.inr ⟨g,cap,cur,rfl,hb,?_,rest⟩⟩
  rw[Below.heap_setCell _ _ _ _ (show g≠gk from fun e=>hne (by rw[e];rfl))];exact hg'
theorem jv.beside{base base' size n:Nat}{v u:Value}{C:List yK}{xs:List Value}(h:jv w base v C)(hu:w.ownsRow base' 28 size u n xs)(hg:w.grownBy w' u.ownBlock):jv w' base v C:=by
 rcases h.2 with hn |⟨k,cap,cur,rfl,hb,hk,rest⟩
 ·exact⟨h.1,.inl hn⟩
 ·exact⟨h.1,.inr ⟨k,cap,cur,rfl,hb,(hg.block k (lt_of_block hk) (fun e=>yO hu hk Tryz.ne3.symm e.symm)).trans hk,rest⟩⟩
theorem zI.besideC{base base' size n:Nat}{v u:Value}{F:List zg}{xs:List Value}(h:zI w base v F)(hu:w.ownsRow base' 36 size u n xs)(hg:w.grownBy w' u.ownBlock):zI w' base v F:=by
 rcases h.2 with hn |⟨k,cap,cur,rfl,hb,hk,rest⟩
 ·exact⟨h.1,.inl hn⟩
 ·exact⟨h.1,.inr ⟨k,cap,cur,rfl,hb,(hg.block k (lt_of_block hk) (fun e=>yO hu hk Tryz.ne3 e.symm)).trans hk,rest⟩⟩
theorem WhM.set4{F:List zg}{C:List yK}{vm vc u:Value}(hg:w.heap[gk]? =some (.cells #[.map (some gm),v0,v1,vm,vc] 57 (0,0)))(hf:zI w (gk+1) vm F)(hc:jv w (gk+1) u C):WhM gk gm v0 v1 (F,C) (w.setCell ⟨gk,4,none⟩ u):=
 ⟨_,_,zv hg,hf.cellSet hg Tryz.neM1,hc.setM hg⟩
end
section
theorem zkC(gk gm:Nat)(v0 v1:Value)(s:jP)(p:zQ)(w:World)(h:WhM gk gm v0 v1 s w)(hl:s.1.length<=100000)(hf:∀f∈s.1,f.1.length<=1000000)(hp:p.length<=1000000):
  Calls Tryz.prog 74 #[.pointer (some ⟨gk,0,none⟩),zq p] w fun e w'=>e= .returned (.bool (zfP s.1 p))/\Below w.heap.size w w':=by
 obtain⟨vm,vc,hg,hfm,hc⟩:=h.ex;obtain⟨fo,fc,rfl⟩:=zl hfm;have hB:=(Below.refl _ w).alloc (Nat.le_refl w.heap.size) (.cells #[zq p] 9);have HC:=ze (zmk _ s.1 p w.heap.size (w.alloc (.cells #[zq p] 9)) ((zI.sl hfm).old hB) hl (zd (i:=0) (heap_alloc_new w _) rfl) hf hp);have c3:=zf hB (zd (i:=3) hg rfl);have HB:=ze hB;clear h hl hf hp hg hfm hc hB;obtain⟨r,hr⟩:∃r,zfP s.1 p=r:=⟨_,rfl⟩;have hr2:jD s.1 p=r:=hr;rw[hr2]at HC;rw[hr];clear hr hr2;unfold zq at HB HC c3 ⊢
 go_enter Tryz.func74,Tryz.ntmps74
 go_wp2_with (go_at_call 90;refine HC.out.mono ?_;rintro e w1 ⟨rfl,hb1⟩;have HB1:=ze (zi HB.out hb1 HB.out.size);clear hb1)
 go_ret;exact⟨rfl,HB1.out⟩
theorem zdu(gk gm:Nat)(v0 v1:Value)(s:jP)(p t:zQ)(x:Bool)(k:Int)(w:World)(h:WhM gk gm v0 v1 s w)(hl:s.1.length<=100000/\s.2.length<=100000)(hf:∀f∈s.1,f.1.length<=1000000)(hp:p.length<=1000000):
  Calls Tryz.prog 51 #[.pointer (some ⟨gk,0,none⟩),.agg #[zq p,.bool x,zq t],.int .i64 k] w fun e w'=>e= .returned (.tuple #[])/\WhM gk gm v0 v1 (jq s (p,x,t) k) w'/\Below gk w w':=by
 obtain⟨F,C⟩:=s;have hgk:=h.lt;have hB:=(Below.refl _ w).alloc (Nat.le_refl w.heap.size) (.cells #[.string ⟨p.toArray⟩,.bool x,.string ⟨t.toArray⟩] 28);have hgq:=heap_alloc_new w (.cells #[.string ⟨p.toArray⟩,.bool x,.string ⟨t.toArray⟩] 28);have HBC:=ze (fun wx hh=>zkC gk gm v0 v1 (F,C) p wx hh hl.1 hf hp);have HW:=ze (h.old hB);obtain⟨vm,vc,hg,hfm,hc⟩:=h.ex;have HRL:=ze (fun j (hj:vm.ownBlock=some j)=>(World.ownsRow.lt hfm j hj).2);have HG0:=ze ((hB.block _ hgk).trans hg);have HF0:=ze (World.ownsRow.kept' hfm hB);have HC0:=ze (World.ownsRow.kept' hc hB);obtain⟨fo,fc,rfl⟩:=zl hfm;obtain⟨co,cc,rfl⟩:=zl hc;have HB0:=ze (hB.mono (Nat.le_of_lt hgk));have HGQ:=ze hgq;have HL:=ze hl;have HGK:=ze (Nat.lt_of_lt_of_le hgk hB.size);have q0:=zd (i:=0) hgq rfl;clear h hl hf hp hgk hB hgq hg hfm hc;obtain⟨bar,hbar⟩:∃b,zfP F p=b:=⟨_,rfl⟩;have HBR:=ze hbar;simp only[hbar]at HBC;clear hbar;unfold zq at HBC ⊢
 go_enter Tryz.func51,Tryz.ntmps51
 go_wp2_with fail;generalize w.alloc (.cells #[.string ⟨p.toArray⟩,.bool x,.string ⟨t.toArray⟩] 28)=W at *;generalize w.heap.size=gq at *;refine(HBC.out W HW.out).mono ?_;rintro e U ⟨rfl,hb⟩;have HBU:=ze (HB0.out.trans (hb.mono (Nat.le_of_lt HGK.out)));have hgq:=(hb.block _ (lt_of_block HGQ.out)).trans HGQ.out;have HGU:=ze hgq;have hg:=(hb.block _ HGK.out).trans HG0.out;have HG:=ze hg;have HF:=ze (World.ownsRow.kept' HF0.out hb);have HC:=ze (World.ownsRow.kept' HC0.out hb);clear hb HBC HW HB0 HGQ HGK q0 HG0 HF0 HC0;have p0:=zd (i:=0) hgq rfl;have p1:=zd (i:=1) hgq rfl;have p2:=zd (i:=2) hgq rfl;have c3:=zd (i:=3) hg rfl;have c4:=zd (i:=4) hg rfl;have HGL:=ze (lt_of_block hg);clear hg hgq
 try simp only at HL HF HC
 cases bar with
 |true=>
  have HPD:=ze (show jq (F,C) (p,x,t) k=(F,C++[(p,5,t)]) by unfold jq;rw[if_pos HBR.out]);have hVB:Below U.heap.size U (U.alloc (.cells #[.string ⟨p.toArray⟩,.int .i64 5,.string ⟨t.toArray⟩] 36)).drew:=((Below.refl _ U).alloc (Nat.le_refl _) _).drew;have HVS:=ze (show zbE (U.alloc (.cells #[.string ⟨p.toArray⟩,.int .i64 5,.string ⟨t.toArray⟩] 36)).drew (.slice (some ⟨U.heap.size,0,none⟩) 1 1) [(p,5,t)]from zy.one (heap_alloc_new U _) rfl);have HVG:=ze (show(U.alloc (.cells #[.string ⟨p.toArray⟩,.int .i64 5,.string ⟨t.toArray⟩] 36)).drew.heap[gk]? = _ from(hVB.block _ HGL.out).trans HG.out);have HVC:=ze (show jv (U.alloc (.cells #[.string ⟨p.toArray⟩,.int .i64 5,.string ⟨t.toArray⟩] 36)).drew _ _ _ from World.ownsRow.kept' HC.out hVB);have HVF:=ze (show zI (U.alloc (.cells #[.string ⟨p.toArray⟩,.int .i64 5,.string ⟨t.toArray⟩] 36)).drew _ _ _ from World.ownsRow.kept' HF.out hVB);have HVB:=ze (show Below gk w (U.alloc (.cells #[.string ⟨p.toArray⟩,.int .i64 5,.string ⟨t.toArray⟩] 36)).drew from HBU.out.trans (hVB.mono (Nat.le_of_lt HGL.out)));have HVZ:=ze (show gk+1<=(U.alloc (.cells #[.string ⟨p.toArray⟩,.int .i64 5,.string ⟨t.toArray⟩] 36)).drew.heap.size from Nat.le_trans HGL.out hVB.size);have HLN:=ze (show C.length<=100000000 by have:=HL.out.2;omega);have e4:(U.alloc (.cells #[.string ⟨p.toArray⟩,.int .i64 5,.string ⟨t.toArray⟩] 36)).cell? ⟨gk,4,none⟩=some (.slice co C.length cc):=zf ((Below.refl _ U).alloc (Nat.le_refl _) _) c4;clear hVB;go_wp2_with fail
  go_region_law (
   refine kL (by rfl) (.tmp 26) (.tmp 33) (by rfl) (gk+1) (.slice co C.length cc) C (p,5,t) (by kernel_rfl) HVC.out (.slice (some ⟨U.heap.size,0,none⟩) 1 1) (by kernel_rfl) HVS.out HLN.out HVZ.out ?_;intro v5 w5 o5 g5
   obtain⟨so5,sc5,rfl⟩:∃o c,v5= .slice o (C.length+1) c:=by obtain⟨o,c,h⟩:=zl o5;exact⟨o,c,by rw[h];simp⟩
   have hw5:=(g5.block gk (lt_of_block HVG.out) (fun e=>yO HVC.out HVG.out Tryz.neM2 e.symm)).trans HVG.out;have HG5:=ze hw5;have HF5:=ze (zI.besideC HVF.out HVC.out g5);have HO5:=ze o5;have HB5:=ze (HVB.out.grown g5 (Nat.le_of_succ_le HVZ.out) (fun j hj=>Nat.le_of_succ_le (World.ownsRow.lt HVC.out j hj).1));have c5:=zd (i:=4) hw5 rfl;have z5:=zo (i:=4) hw5
   clear o5 g5 hw5)
  all_goals(
   go_wp2_with fail
   go_end0
   refine⟨rfl,?_,HB5.out.setCell (Nat.le_refl _) _⟩;rw[HPD.out]
   exact WhM.set4 HG5.out HF5.out HO5.out)
 |false=>
  have hVB:Below U.heap.size U (U.alloc (.cells #[.string ⟨p.toArray⟩,.bool x,.string ⟨t.toArray⟩] 28)).drew:=((Below.refl _ U).alloc (Nat.le_refl _) _).drew;have HVS:=ze (show yM (U.alloc (.cells #[.string ⟨p.toArray⟩,.bool x,.string ⟨t.toArray⟩] 28)).drew (.slice (some ⟨U.heap.size,0,none⟩) 1 1) [(p,x,t)]from zy.one (heap_alloc_new U _) rfl);have HVG:=ze (show(U.alloc (.cells #[.string ⟨p.toArray⟩,.bool x,.string ⟨t.toArray⟩] 28)).drew.heap[gk]? = _ from(hVB.block _ HGL.out).trans HG.out);have HVC:=ze (show jv (U.alloc (.cells #[.string ⟨p.toArray⟩,.bool x,.string ⟨t.toArray⟩] 28)).drew _ _ _ from World.ownsRow.kept' HC.out hVB);have HVF:=ze (show zI (U.alloc (.cells #[.string ⟨p.toArray⟩,.bool x,.string ⟨t.toArray⟩] 28)).drew _ _ _ from World.ownsRow.kept' HF.out hVB);have HVB:=ze (show Below gk w (U.alloc (.cells #[.string ⟨p.toArray⟩,.bool x,.string ⟨t.toArray⟩] 28)).drew from HBU.out.trans (hVB.mono (Nat.le_of_lt HGL.out)));have HVZ:=ze (show gk+1<=(U.alloc (.cells #[.string ⟨p.toArray⟩,.bool x,.string ⟨t.toArray⟩] 28)).drew.heap.size from Nat.le_trans HGL.out hVB.size);have HVQ:=ze (show(U.alloc (.cells #[.string ⟨p.toArray⟩,.bool x,.string ⟨t.toArray⟩] 28)).drew.heap[gq]? = _ from(hVB.block _ (lt_of_block HGU.out)).trans HGU.out);have HLN:=ze (show F.length<=100000000 by have:=HL.out.1;omega);have e3:(U.alloc (.cells #[.string ⟨p.toArray⟩,.bool x,.string ⟨t.toArray⟩] 28)).cell? ⟨gk,3,none⟩=some (.slice fo F.length fc):=zf ((Below.refl _ U).alloc (Nat.le_refl _) _) c3;clear hVB;go_wp2_with fail
  go_region_law (
   refine zau (by rfl) (.tmp 14) (.tmp 16) (by rfl) (gk+1) (.slice fo F.length fc) F (p,x,t) (by kernel_rfl) HVF.out (.slice (some ⟨U.heap.size,0,none⟩) 1 1) (by kernel_rfl) HVS.out HLN.out HVZ.out ?_;intro v5 w5 o5 g5 h5
   obtain⟨so5,sc5,rfl⟩:∃o c,v5= .slice o (F.length+1) c:=by obtain⟨o,c,h⟩:=zl o5;exact⟨o,c,by rw[h];simp⟩
   have hw5:=(g5.block gk (lt_of_block HVG.out) (fun e=>yO HVF.out HVG.out Tryz.neM1 e.symm)).trans HVG.out;have HG5:=ze hw5;have HC5:=ze (jv.beside HVC.out HVF.out g5);have HO5:=ze o5;have HB5:=ze (HVB.out.grown g5 (Nat.le_of_succ_le HVZ.out) (fun j hj=>Nat.le_of_succ_le (World.ownsRow.lt HVF.out j hj).1));have hq5:=(g5.block gq (lt_of_block HVQ.out) (fun e=>Nat.lt_irrefl _ (HRL.out gq e.symm))).trans HVQ.out;have HQ5:=ze hq5;have c5:=zd (i:=3) hw5 rfl;have z5:=zo (i:=3) hw5
   clear o5 g5 hw5 h5 hq5)
  all_goals(
   have HG6:=ze (zv (i:=3) (u:=(.slice so5 (F.length+1) sc5)) HG5.out);have HF6:=ze (zI.cellSet (i:=3) (u:=(.slice so5 (F.length+1) sc5)) HO5.out HG5.out Tryz.neM1);have HC6:=ze (jv.setM (i:=3) (u:=(.slice so5 (F.length+1) sc5)) HC5.out HG5.out);have HB6:=ze (HB5.out.setCell (p:=⟨gk,3,none⟩) (Nat.le_refl _) (.slice so5 (F.length+1) sc5));have HQN:=ze (show gq≠gk from fun e=>by have h1:=HQ5.out;rw[e,HG5.out]at h1;cases h1);have HQ6:=ze (show(w5.setCell ⟨gk,3,none⟩ (.slice so5 (F.length+1) sc5)).heap[gq]? = _ from(Below.heap_setCell _ _ _ _ (show gq≠gk from HQN.out)).trans HQ5.out);clear c5 z5 HG5 HC5 HO5 HB5 HQ5 HVS HVG HVC HVF HVB HVZ HVQ e3 c3 c4 p0 p1 p2 HG HF HC HBU HGU HGL
   by_cases hk0:k=0
   case pos=>
    have kb:(k !=0)=false:=by simp[hk0]
    have kb2:(k==0)=true:=by simp[hk0]
    have HPD:=ze (show jq (F,C) (p,x,t) k=(F++[(p,x,t)],C) by unfold jq;rw[if_neg (by rw[HBR.out];simp),if_pos hk0]);clear hk0;go_wp2_with fail
    go_end0
    refine⟨rfl,?_,HB6.out⟩;rw[HPD.out];exact⟨_,_,HG6.out,HF6.out,HC6.out⟩
   have kb:(k !=0)=true:=by simp[hk0]
   have kb2:(k==0)=false:=by simp[hk0]
   have HPD:=ze (show jq (F,C) (p,x,t) k=(F++[(p,x,t)],C++[(p,k,t)]) by unfold jq;rw[if_neg (by rw[HBR.out];simp),if_neg hk0]);clear hk0;generalize w5.setCell ⟨gk,3,none⟩ (.slice so5 (F.length+1) sc5)=U5 at *;have hg6:=HG6.out;have hq6:=HQ6.out;have p0:=zd (i:=0) hq6 rfl;have p1:=zd (i:=1) hq6 rfl;have p2:=zd (i:=2) hq6 rfl;have c4:U5.cell? ⟨gk,4,none⟩=some (.slice co C.length cc):=zd (i:=4) hg6 rfl;clear hg6 hq6;have HGL:=ze (lt_of_block HG6.out);have hVB:Below U5.heap.size U5 (U5.alloc (.cells #[.string ⟨p.toArray⟩,.int .i64 k,.string ⟨t.toArray⟩] 36)).drew:=((Below.refl _ U5).alloc (Nat.le_refl _) _).drew;have HVS:=ze (show zbE (U5.alloc (.cells #[.string ⟨p.toArray⟩,.int .i64 k,.string ⟨t.toArray⟩] 36)).drew (.slice (some ⟨U5.heap.size,0,none⟩) 1 1) [(p,k,t)]from zy.one (heap_alloc_new U5 _) rfl);have HVG:=ze (show(U5.alloc (.cells #[.string ⟨p.toArray⟩,.int .i64 k,.string ⟨t.toArray⟩] 36)).drew.heap[gk]? = _ from(hVB.block _ HGL.out).trans HG6.out);have HVC:=ze (show jv (U5.alloc (.cells #[.string ⟨p.toArray⟩,.int .i64 k,.string ⟨t.toArray⟩] 36)).drew _ _ _ from World.ownsRow.kept' HC6.out hVB);have HVF:=ze (show zI (U5.alloc (.cells #[.string ⟨p.toArray⟩,.int .i64 k,.string ⟨t.toArray⟩] 36)).drew _ _ _ from World.ownsRow.kept' HF6.out hVB);have HVB:=ze (show Below gk w (U5.alloc (.cells #[.string ⟨p.toArray⟩,.int .i64 k,.string ⟨t.toArray⟩] 36)).drew from HB6.out.trans (hVB.mono (Nat.le_of_lt HGL.out)));have HVZ:=ze (show gk+1<=(U5.alloc (.cells #[.string ⟨p.toArray⟩,.int .i64 k,.string ⟨t.toArray⟩] 36)).drew.heap.size from Nat.le_trans HGL.out hVB.size);have HLC:=ze (show C.length<=100000000 by have:=HL.out.2;omega);have e4:(U5.alloc (.cells #[.string ⟨p.toArray⟩,.int .i64 k,.string ⟨t.toArray⟩] 36)).cell? ⟨gk,4,none⟩=some (.slice co C.length cc):=zf ((Below.refl _ U5).alloc (Nat.le_refl _) _) c4;clear hVB;go_wp2_with fail
   go_region_law (
    refine kL (by rfl) (.tmp 26) (.tmp 33) (by rfl) (gk+1) (.slice co C.length cc) C (p,k,t) (by kernel_rfl) HVC.out (.slice (some ⟨U5.heap.size,0,none⟩) 1 1) (by kernel_rfl) HVS.out HLC.out HVZ.out ?_;intro v7 w7 o7 g7
    obtain⟨so7,sc7,rfl⟩:∃o c,v7= .slice o (C.length+1) c:=by obtain⟨o,c,h⟩:=zl o7;exact⟨o,c,by rw[h];simp⟩
    have hw7:=(g7.block gk (lt_of_block HVG.out) (fun e=>yO HVC.out HVG.out Tryz.neM2 e.symm)).trans HVG.out;have HG7:=ze hw7;have HF7:=ze (zI.besideC HVF.out HVC.out g7);have HO7:=ze o7;have HB7:=ze (HVB.out.grown g7 (Nat.le_of_succ_le HVZ.out) (fun j hj=>Nat.le_of_succ_le (World.ownsRow.lt HVC.out j hj).1));have c7:w7.cell? ⟨gk,4,none⟩=some (.slice co C.length cc):=zd (i:=4) hw7 rfl;have z7:w7.frozen? ⟨gk,4,none⟩=false:=zo (i:=4) hw7
    clear o7 g7 hw7)
   all_goals(
    go_wp2_with fail
    go_end0
    refine⟨rfl,?_,HB7.out.setCell (Nat.le_refl _) _⟩;rw[HPD.out]
    exact WhM.set4 HG7.out HF7.out HO7.out))
end
open Go.RowKit
section
theorem zoZ(b o t:zQ)(w:World):Calls Tryz.prog 76 #[zq b,zq o,zq t] w fun e w'=>e= .returned (zq (if o=b then t else o))/\w=w':=by
 unfold zq
 by_cases h:o=b
 ·have h1:(o==b)=true:=by simp[h]
  rw[if_pos h];clear h
  go_enter Tryz.func76,Tryz.ntmps76
  go_wp2
  go_ret;exact⟨rfl,rfl⟩
 ·have h1:(o==b)=false:=beq_false_of_ne h
  rw[if_neg h];clear h
  go_enter Tryz.func76,Tryz.ntmps76
  go_wp2
  go_ret;exact⟨rfl,rfl⟩
theorem znV(b o t:Bool)(w:World):Calls Tryz.prog 77 #[.bool b,.bool o,.bool t] w fun e w'=>e= .returned (.bool (if o=b then t else o))/\w=w':=by
 cases b <;> cases o <;>(
  go_enter Tryz.func77,Tryz.ntmps77
  go_wp2
  go_ret
  exact⟨rfl,rfl⟩)
def zfu(b o t:zQ):Bool:=!(o==b)&&(!(t==b) && !(o==t))
theorem zlH(b o t:zQ)(w:World):Calls Tryz.prog 78 #[zq b,zq o,zq t] w fun e w'=>e= .returned (.bool (zfu b o t))/\w=w':=by
 obtain⟨z1,h1⟩:∃z,(o==b)=z:=⟨_,rfl⟩;obtain⟨z2,h2⟩:∃z,(t==b)=z:=⟨_,rfl⟩;obtain⟨z3,h3⟩:∃z,(o==t)=z:=⟨_,rfl⟩
 have hA:zfu b o t=(!z1&&(!z2 && !z3)):=by unfold zfu;rw[h1,h2,h3]
 rw[hA];clear hA;unfold zq
 cases z1 <;> cases z2 <;> cases z3 <;>(
  go_enter Tryz.func78,Tryz.ntmps78
  go_wp2
  go_ret
  exact⟨rfl,rfl⟩)
theorem zmT(b o t:zg):zdI b o t=(if zfu b.1 o.1 t.1=true then 4 else if(jJ b.2.2 o.2.2 t.2.2).2=true then 0 else 1):=by
 unfold zdI zfu
 have e:(o.1≠b.1/\t.1≠b.1/\t.1≠o.1) ↔ (!(o.1==b.1)&&(!(t.1==b.1) && !(o.1==t.1)))=true:=by
  simp only[Bool.and_eq_true,Bool.not_eq_true',beq_eq_false_iff_ne];exact⟨fun⟨h1,h2,h3⟩=>⟨h1,h2,h3.symm⟩,fun⟨h1,h2,h3⟩=>⟨h1,h2,h3.symm⟩⟩
 by_cases h:o.1≠b.1/\t.1≠b.1/\t.1≠o.1
 ·rw[if_pos h,if_pos (e.1 h)]
 ·rw[if_neg h,if_neg fun h'=>h (e.2 h')]
theorem zkK(b o t:zg)(w:World)(lb:b.2.2.length<=3000)(lo:o.2.2.length<=3000)(lt:t.2.2.length<=3000):
  Calls Tryz.prog 52 #[ye b,ye o,ye t] w fun e w'=>e= .returned (.tuple #[ye (zdh b o t),.int .i64 (zdI b o t)])/\Below w.heap.size w w':=by
 have hK:=zmT b o t;have HM:=ze (fun wx=>zhB b.2.2 o.2.2 t.2.2 wx lb lo lt);have HAP:=ze (fun wx=>zlH b.1 o.1 t.1 wx);have HCS:=ze (fun wx=>zoZ b.1 o.1 t.1 wx);have HCB:=ze (fun wx=>znV b.2.1 o.2.1 t.2.1 wx);have hF:zdh b o t=(if o.1=b.1 then t.1 else o.1,if o.2.1=b.2.1 then t.2.1 else o.2.1,(jJ b.2.2 o.2.2 t.2.2).1):=rfl;obtain⟨⟨m,cl⟩,hm⟩:∃z,jJ b.2.2 o.2.2 t.2.2=z:=⟨_,rfl⟩;obtain⟨ap,hap⟩:∃z,zfu b.1 o.1 t.1=z:=⟨_,rfl⟩;obtain⟨np,hnp⟩:∃z,(if o.1=b.1 then t.1 else o.1)=z:=⟨_,rfl⟩;obtain⟨nx,hnx⟩:∃z,(if o.2.1=b.2.1 then t.2.1 else o.2.1)=z:=⟨_,rfl⟩;rw[hm,hap]at hK;rw[hm,hnp,hnx]at hF;rw[hm]at HM;rw[hap]at HAP;rw[hnp]at HCS;rw[hnx]at HCB;rw[hK,hF];clear hK hF hm hap hnp hnx lb lo lt;obtain⟨bp,bx,bt⟩:=b;obtain⟨op,ox,ot⟩:=o;obtain⟨p,x,t⟩:=t;simp only at HM HAP HCS HCB
 have hz1:(w.alloc (.cells #[.string ⟨bp.toArray⟩,.bool bx,.string ⟨bt.toArray⟩] 28)).heap.size=w.heap.size+1:=by simp
 have hz2:((w.alloc (.cells #[.string ⟨bp.toArray⟩,.bool bx,.string ⟨bt.toArray⟩] 28)).alloc (.cells #[.string ⟨op.toArray⟩,.bool ox,.string ⟨ot.toArray⟩] 28)).heap.size=w.heap.size+2:=by simp
 have hz3:(((w.alloc (.cells #[.string ⟨bp.toArray⟩,.bool bx,.string ⟨bt.toArray⟩] 28)).alloc (.cells #[.string ⟨op.toArray⟩,.bool ox,.string ⟨ot.toArray⟩] 28)).alloc (.cells #[.string ⟨p.toArray⟩,.bool x,.string ⟨t.toArray⟩] 28)).heap.size=w.heap.size+3:=by simp
 obtain⟨W,hW⟩:∃y,(((w.alloc (.cells #[.string ⟨bp.toArray⟩,.bool bx,.string ⟨bt.toArray⟩] 28)).alloc (.cells #[.string ⟨op.toArray⟩,.bool ox,.string ⟨ot.toArray⟩] 28)).alloc (.cells #[.string ⟨p.toArray⟩,.bool x,.string ⟨t.toArray⟩] 28)).alloc (.cells #[.string ⟨#[]⟩,.bool false,.string ⟨#[]⟩] 28)=y:=⟨_,rfl⟩
 have hB0:Below w.heap.size w W:=by rw[<-hW];exact((((Below.refl _ w).alloc (Nat.le_refl _) _).alloc (by omega) _).alloc (by omega) _).alloc (by omega) _
 have g1:W.heap[w.heap.size]? =some (.cells #[.string ⟨bp.toArray⟩,.bool bx,.string ⟨bt.toArray⟩] 28 (0,0)):=by
  rw[<-hW];exact(Below.heap_alloc _ _ _ (by omega)).trans ((Below.heap_alloc _ _ _ (by omega)).trans ((Below.heap_alloc _ _ _ (by omega)).trans (heap_alloc_new w _)))
 have g2:W.heap[w.heap.size+1]? =some (.cells #[.string ⟨op.toArray⟩,.bool ox,.string ⟨ot.toArray⟩] 28 (0,0)):=by
  rw[<-hW];have h:=heap_alloc_new (w.alloc (.cells #[.string ⟨bp.toArray⟩,.bool bx,.string ⟨bt.toArray⟩] 28)) (.cells #[.string ⟨op.toArray⟩,.bool ox,.string ⟨ot.toArray⟩] 28);rw[hz1]at h;exact(Below.heap_alloc _ _ _ (by omega)).trans ((Below.heap_alloc _ _ _ (by omega)).trans h)
 have g3:W.heap[w.heap.size+2]? =some (.cells #[.string ⟨p.toArray⟩,.bool x,.string ⟨t.toArray⟩] 28 (0,0)):=by
  rw[<-hW];have h:=heap_alloc_new ((w.alloc (.cells #[.string ⟨bp.toArray⟩,.bool bx,.string ⟨bt.toArray⟩] 28)).alloc (.cells #[.string ⟨op.toArray⟩,.bool ox,.string ⟨ot.toArray⟩] 28)) (.cells #[.string ⟨p.toArray⟩,.bool x,.string ⟨t.toArray⟩] 28);rw[hz2]at h;exact(Below.heap_alloc _ _ _ (by omega)).trans h
 have g6:W.heap[w.heap.size+3]? =some (.cells #[.string ⟨#[]⟩,.bool false,.string ⟨#[]⟩] 28 (0,0)):=by
  rw[<-hW];have h:=heap_alloc_new (((w.alloc (.cells #[.string ⟨bp.toArray⟩,.bool bx,.string ⟨bt.toArray⟩] 28)).alloc (.cells #[.string ⟨op.toArray⟩,.bool ox,.string ⟨ot.toArray⟩] 28)).alloc (.cells #[.string ⟨p.toArray⟩,.bool x,.string ⟨t.toArray⟩] 28)) (.cells #[.string ⟨#[]⟩,.bool false,.string ⟨#[]⟩] 28)
  rwa [hz3]at h
 have HG1:=ze g1;have HG2:=ze g2;have HG3:=ze g3;have HG6:=ze g6;have HB0:=ze hB0;have HWL:=ze (lt_of_block g6);have b2:=zd (i:=2) g1 rfl;have o2:=zd (i:=2) g2 rfl;have c2:=zd (i:=2) g3 rfl;clear g1 g2 g3 g6 hB0 hz1 hz2 hz3;unfold ye zq;unfold zq at HM HAP HCS
 go_enter Tryz.func52,Tryz.ntmps52
 go_wp2_with fail
 try rw[hW]
 clear hW;obtain⟨gw,hgw⟩:∃g,w.heap.size=g:=⟨_,rfl⟩;have HGW:=ze hgw;rw[hgw]at HG1 HG2 HG3 HG6 HB0 HWL b2 o2 c2 ⊢;clear hgw;refine(HM.out W).mono ?_;rintro e U ⟨rfl,hb⟩;have HU1:=ze ((hb.block _ (lt_of_block HG1.out)).trans HG1.out);have HU2:=ze ((hb.block _ (lt_of_block HG2.out)).trans HG2.out);have HU3:=ze ((hb.block _ (lt_of_block HG3.out)).trans HG3.out);have HU6:=ze ((hb.block _ (lt_of_block HG6.out)).trans HG6.out);have HBU:=ze (HB0.out.trans (hb.mono (by have:=HWL.out;omega)));clear hb b2 o2 c2 HG1 HG2 HG3 HG6 HB0 HWL;have b0:=zd (i:=0) HU1.out rfl;have b1:=zd (i:=1) HU1.out rfl;have o0:=zd (i:=0) HU2.out rfl;have o1:=zd (i:=1) HU2.out rfl;have c0:=zd (i:=0) HU3.out rfl;have c1:=zd (i:=1) HU3.out rfl;have HUL:=ze (lt_of_block HU6.out)
 go_upto_region 2 with fail
 have d0:=zf ((Below.refl _ U).alloc (Nat.le_refl _) (.cells #[.string ⟨#[]⟩,.bool false,.string ⟨#[]⟩] 28)) b0;have d1:=zf ((Below.refl _ U).alloc (Nat.le_refl _) (.cells #[.string ⟨#[]⟩,.bool false,.string ⟨#[]⟩] 28)) b1;have d2:=zf ((Below.refl _ U).alloc (Nat.le_refl _) (.cells #[.string ⟨#[]⟩,.bool false,.string ⟨#[]⟩] 28)) o0;have d3:=zf ((Below.refl _ U).alloc (Nat.le_refl _) (.cells #[.string ⟨#[]⟩,.bool false,.string ⟨#[]⟩] 28)) o1;have d4:=zf ((Below.refl _ U).alloc (Nat.le_refl _) (.cells #[.string ⟨#[]⟩,.bool false,.string ⟨#[]⟩] 28)) c0;have d5:=zf ((Below.refl _ U).alloc (Nat.le_refl _) (.cells #[.string ⟨#[]⟩,.bool false,.string ⟨#[]⟩] 28)) c1;have f0:=zf ((Below.refl _ U).alloc (Nat.le_refl _) (.cells #[.string ⟨np.toArray⟩,.bool nx,.string ⟨m.toArray⟩] 28)) b0;have f1:=zf ((Below.refl _ U).alloc (Nat.le_refl _) (.cells #[.string ⟨np.toArray⟩,.bool nx,.string ⟨m.toArray⟩] 28)) b1;have f2:=zf ((Below.refl _ U).alloc (Nat.le_refl _) (.cells #[.string ⟨np.toArray⟩,.bool nx,.string ⟨m.toArray⟩] 28)) o0;have f3:=zf ((Below.refl _ U).alloc (Nat.le_refl _) (.cells #[.string ⟨np.toArray⟩,.bool nx,.string ⟨m.toArray⟩] 28)) o1;have f4:=zf ((Below.refl _ U).alloc (Nat.le_refl _) (.cells #[.string ⟨np.toArray⟩,.bool nx,.string ⟨m.toArray⟩] 28)) c0;have f5:=zf ((Below.refl _ U).alloc (Nat.le_refl _) (.cells #[.string ⟨np.toArray⟩,.bool nx,.string ⟨m.toArray⟩] 28)) c1
 go_cut [10]from 21 to 36 (fun s wx=>s= .pointer (some ⟨U.heap.size,0,none⟩)/\Hid (wx.heap[U.heap.size]? =some (.cells #[.string ⟨np.toArray⟩,.bool nx,.string ⟨m.toArray⟩] 28 (0,0))/\Below U.heap.size U wx))
 case first=>
  go_region_held3 (fun wy=>wy.cell? ⟨gw,0,none⟩=some (.string ⟨bp.toArray⟩)/\wy.cell? ⟨gw,1,none⟩=some (.bool bx)/\wy.cell? ⟨gw+1,0,none⟩=some (.string ⟨op.toArray⟩)/\wy.cell? ⟨gw+1,1,none⟩=some (.bool ox)/\wy.cell? ⟨gw+2,0,none⟩=some (.string ⟨p.toArray⟩)/\wy.cell? ⟨gw+2,1,none⟩=some (.bool x)) (first |exact⟨b0,b1,o0,o1,c0,c1⟩ |exact⟨d0,d1,d2,d3,d4,d5⟩ |exact⟨f0,f1,f2,f3,f4,f5⟩) ((first
   |(go_at_call 76;refine(HCS.out _).mono ?_;rintro e w5 ⟨rfl,rfl⟩)
   |(go_at_call 77;refine(HCB.out _).mono ?_;rintro e w5 ⟨rfl,rfl⟩)))
  all_goals(
   go_wp2_with fail
   go_meet
   exact⟨rfl,ze ⟨heap_alloc_new _ _,((Below.refl _ U).alloc (Nat.le_refl _) _).drew⟩⟩)
 case rest=>
  obtain⟨rfl,HC⟩:=hcut;clear d0 d1 d2 d3 d4 d5 f0 f1 f2 f3 f4 f5 b1 o1 c1;have HG10:=ze HC.out.1;have HBC:=ze HC.out.2;have b0:=zf HBC.out b0;have o0:=zf HBC.out o0;have c0:=zf HBC.out c0;have q0:=zd (i:=0) HG10.out rfl;have q1:=zd (i:=1) HG10.out rfl;have q2:=zd (i:=2) HG10.out rfl;have HV6:=ze ((HBC.out.block _ HUL.out).trans HU6.out);have HBV:=ze (show Below gw w wc from HBU.out.trans (HBC.out.mono (by have:=HUL.out;omega)));have HZV:=ze (show gw<=wc.heap.size from by have:=HBV.out.size;have h2:=HGW.out;omega);clear HC HU1 HU2 HU3 HU6 HBU;generalize U.heap.size=g10 at *;generalize wc=V at *
  cases ap with
  |true=>
   go_wp2_with (first
    |(go_at_call 78;refine(HAP.out _).mono ?_;rintro e w5 ⟨rfl,rfl⟩)
    |(refine zB rfl 28 _ _ rfl (gw+3) #[.string ⟨np.toArray⟩,.bool nx,.string ⟨m.toArray⟩] rfl rfl _ _ HV6.out 3 Tryz.sizeFile rfl rfl (by simp[Value.oneCell']) ?_;intro w9 hg9 hk9))
   refine bodyPost_ret (yT rfl _ _ (gw+3) _ _ _ _ _ rfl rfl hg9 Tryz.underlying28 rfl Tryz.sizeFile) rfl ?_;exact⟨rfl,by rw[HGW.out];exact HBV.out.trans (hk9.below HZV.out (fun j hj e=>by omega))⟩
  |false=>
   cases cl <;>(
    go_wp2_with (first
     |(go_at_call 78;refine(HAP.out _).mono ?_;rintro e w5 ⟨rfl,rfl⟩)
     |(refine zB rfl 28 _ _ rfl (gw+3) #[.string ⟨np.toArray⟩,.bool nx,.string ⟨m.toArray⟩] rfl rfl _ _ HV6.out 3 Tryz.sizeFile rfl rfl (by simp[Value.oneCell']) ?_;intro w9 hg9 hk9))
    refine bodyPost_ret (yT rfl _ _ (gw+3) _ _ _ _ _ rfl rfl hg9 Tryz.underlying28 rfl Tryz.sizeFile) rfl ?_
    exact⟨rfl,by rw[HGW.out];exact HBV.out.trans (hk9.below HZV.out (fun j hj e=>by omega))⟩)
end
open Go.RowKit
section
theorem zlw(x t:zg)(w:World)(lx:x.2.2.length<=3000)(lt:t.2.2.length<=3000):
  Calls Tryz.prog 54 #[ye x,ye t] w fun e w'=>e= .returned (.tuple #[ye (if x=t then x else zex x t),.int .i64 (if x=t then 0 else 2)])/\Below w.heap.size w w':=by
 have HM:=ze (fun wx=>zhB [] x.2.2 t.2.2 wx (by simp) lx lt);obtain⟨⟨m,cl⟩,hm⟩:∃z,jJ [] x.2.2 t.2.2=z:=⟨_,rfl⟩;have HJ:=ze (show zex x t=(x.1,x.2.1,m) by unfold zex;rw[hm]);rw[hm]at HM;clear hm lx lt;obtain⟨p,px,pt⟩:=x;obtain⟨q,qx,qt⟩:=t;simp only at HM HJ
 have hz1:(w.alloc (.cells #[.string ⟨p.toArray⟩,.bool px,.string ⟨pt.toArray⟩] 28)).heap.size=w.heap.size+1:=by simp
 have hz2:((w.alloc (.cells #[.string ⟨p.toArray⟩,.bool px,.string ⟨pt.toArray⟩] 28)).alloc (.cells #[.string ⟨q.toArray⟩,.bool qx,.string ⟨qt.toArray⟩] 28)).heap.size=w.heap.size+2:=by simp
 obtain⟨W,hW⟩:∃y,((w.alloc (.cells #[.string ⟨p.toArray⟩,.bool px,.string ⟨pt.toArray⟩] 28)).alloc (.cells #[.string ⟨q.toArray⟩,.bool qx,.string ⟨qt.toArray⟩] 28)).alloc (.cells #[.string ⟨#[]⟩,.bool false,.string ⟨#[]⟩] 28)=y:=⟨_,rfl⟩
 have hB0:Below w.heap.size w W:=by rw[<-hW];exact(((Below.refl _ w).alloc (Nat.le_refl _) _).alloc (by omega) _).alloc (by omega) _
 have g1:W.heap[w.heap.size]? =some (.cells #[.string ⟨p.toArray⟩,.bool px,.string ⟨pt.toArray⟩] 28 (0,0)):=by
  rw[<-hW];exact(Below.heap_alloc _ _ _ (by omega)).trans ((Below.heap_alloc _ _ _ (by omega)).trans (heap_alloc_new w _))
 have g2:W.heap[w.heap.size+1]? =some (.cells #[.string ⟨q.toArray⟩,.bool qx,.string ⟨qt.toArray⟩] 28 (0,0)):=by
  rw[<-hW];have h:=heap_alloc_new (w.alloc (.cells #[.string ⟨p.toArray⟩,.bool px,.string ⟨pt.toArray⟩] 28)) (.cells #[.string ⟨q.toArray⟩,.bool qx,.string ⟨qt.toArray⟩] 28);rw[hz1]at h;exact(Below.heap_alloc _ _ _ (by omega)).trans h
 have g4:W.heap[w.heap.size+2]? =some (.cells #[.string ⟨#[]⟩,.bool false,.string ⟨#[]⟩] 28 (0,0)):=by
  rw[<-hW];have h:=heap_alloc_new ((w.alloc (.cells #[.string ⟨p.toArray⟩,.bool px,.string ⟨pt.toArray⟩] 28)).alloc (.cells #[.string ⟨q.toArray⟩,.bool qx,.string ⟨qt.toArray⟩] 28)) (.cells #[.string ⟨#[]⟩,.bool false,.string ⟨#[]⟩] 28)
  rwa [hz2]at h
 have HG1:=ze g1;have HG4:=ze g4;have HB0:=ze hB0;have HWL:=ze (lt_of_block g4);have b0:=zd (i:=0) g1 rfl;have b1:=zd (i:=1) g1 rfl;have b2:=zd (i:=2) g1 rfl;have c0:=zd (i:=0) g2 rfl;have c1:=zd (i:=1) g2 rfl;have c2:=zd (i:=2) g2 rfl;clear g1 g2 g4 hB0 hz1 hz2
 have hq:=fun wx=>zhd p pt q qt px qx wx
 obtain⟨z,hz⟩:∃y,(((p,px,pt):zg)==(q,qx,qt))=y:=⟨_,rfl⟩;rw[hz]at hq;have HZ:=ze hz;clear hz;unfold zq at HM
 cases z with
 |true=>
  have he:((p,px,pt):zg)=(q,qx,qt):=eq_of_beq HZ.out;rw[if_pos he,if_pos he];clear he;unfold ye zq
  go_enter Tryz.func54,Tryz.ntmps54
  go_wp2_with (refine zB rfl 28 _ _ rfl (w.heap.size+2) #[.string ⟨p.toArray⟩,.bool px,.string ⟨pt.toArray⟩] rfl rfl _ _ HG4.out 3 Tryz.sizeFile rfl rfl (by simp[Value.oneCell']) ?_;intro w9 hg9 hk9)
  refine bodyPost_ret (yT rfl _ _ (w.heap.size+2) _ _ _ _ _ rfl rfl hg9 Tryz.underlying28 rfl Tryz.sizeFile) rfl ?_;exact⟨rfl,HB0.out.trans (hk9.below HB0.out.size (fun j hj e=>by omega))⟩
 |false=>
  have he:¬((p,px,pt):zg)=(q,qx,qt):=ne_of_beq_false HZ.out;rw[if_neg he,if_neg he,HJ.out];clear he;unfold ye zq
  go_enter Tryz.func54,Tryz.ntmps54
  go_wp2_with (first
   |(go_at_call 75;refine(HM.out _).mono ?_;rintro e w5 ⟨rfl,hb5⟩;have HB5:=ze (HB0.out.trans (hb5.mono (by have:=HWL.out;omega)));have HG5:=ze ((hb5.block _ (lt_of_block HG4.out)).trans HG4.out);have d0:=zf hb5 b0;have d1:=zf hb5 b1;clear hb5)
   |(refine zB rfl 28 _ _ rfl (w.heap.size+2) #[.string ⟨p.toArray⟩,.bool px,.string ⟨m.toArray⟩] rfl rfl _ _ HG5.out 3 Tryz.sizeFile rfl rfl (by simp[Value.oneCell']) ?_;intro w9 hg9 hk9))
  refine bodyPost_ret (yT rfl _ _ (w.heap.size+2) _ _ _ _ _ rfl rfl hg9 Tryz.underlying28 rfl Tryz.sizeFile) rfl ?_;exact⟨rfl,HB5.out.trans (hk9.below HB5.out.size (fun j hj e=>by omega))⟩
theorem zeA(gk gm:Nat)(v0 v1:Value)(s:jP)(b f:zg)(w:World)(h:WhM gk gm v0 v1 s w)(hl:s.1.length<=100000/\s.2.length<=100000)(hf:∀f∈s.1,f.1.length<=1000000)(hp:f.1.length<=1000000):
  Calls Tryz.prog 53 #[.pointer (some ⟨gk,0,none⟩),ye b,ye f] w fun e w'=>e= .returned (.tuple #[])/\WhM gk gm v0 v1 (zec s b f) w'/\Below gk w w':=by
 obtain⟨bp,bx,bt⟩:=b;obtain⟨p,x,t⟩:=f;obtain⟨W,hW⟩:∃y,(w.alloc (.cells #[.string ⟨bp.toArray⟩,.bool bx,.string ⟨bt.toArray⟩] 28)).alloc (.cells #[.string ⟨p.toArray⟩,.bool x,.string ⟨t.toArray⟩] 28)=y:=⟨_,rfl⟩
 have hB0:Below w.heap.size w W:=by rw[<-hW];exact((Below.refl _ w).alloc (Nat.le_refl _) _).alloc (by simp) _
 have h1:W.heap[w.heap.size]? =some (.cells #[.string ⟨bp.toArray⟩,.bool bx,.string ⟨bt.toArray⟩] 28 (0,0)):=by
  rw[<-hW];exact(Below.heap_alloc _ _ _ (by simp)).trans (heap_alloc_new w _)
 have h2:W.heap[w.heap.size+1]? =some (.cells #[.string ⟨p.toArray⟩,.bool x,.string ⟨t.toArray⟩] 28 (0,0)):=by
  rw[<-hW];have h:=heap_alloc_new (w.alloc (.cells #[.string ⟨bp.toArray⟩,.bool bx,.string ⟨bt.toArray⟩] 28)) (.cells #[.string ⟨p.toArray⟩,.bool x,.string ⟨t.toArray⟩] 28)
  rwa [show(w.alloc (.cells #[.string ⟨bp.toArray⟩,.bool bx,.string ⟨bt.toArray⟩] 28)).heap.size=w.heap.size+1 by simp]at h
 have b0:=zd (i:=0) h1 rfl;have b1:=zd (i:=1) h1 rfl;have b2:=zd (i:=2) h1 rfl;have c0:=zd (i:=0) h2 rfl;have c1:=zd (i:=1) h2 rfl;have c2:=zd (i:=2) h2 rfl;have HW:=ze (h.old hB0);have HB:=ze (hB0.mono (Nat.le_of_lt h.lt));have HP:=ze (fun wx hh=>zdu gk gm v0 v1 s p t x 3 wx hh hl hf hp)
 have hq:=fun wx=>zho p t bp bt x bx wx
 obtain⟨z,hz⟩:∃z,(((p,x,t):zg)==(bp,bx,bt))=z:=⟨_,rfl⟩;simp only[bne,hz]at hq;have HZ:=ze hz;clear h hl hf hp hB0 h1 h2 hz;unfold zq at HP
 cases z with
 |true=>
  have he:((bp,bx,bt):zg)=(p,x,t):=(eq_of_beq HZ.out).symm;have HE:=ze (show zec s (bp,bx,bt) (p,x,t)=s by unfold zec;rw[if_pos he]);rw[HE.out];clear he;unfold ye zq
  go_enter Tryz.func53,Tryz.ntmps53
  go_wp2_with fail
  try rw[hW]
  go_end0
  exact⟨rfl,HW.out,HB.out⟩
 |false=>
  have he:¬((bp,bx,bt):zg)=(p,x,t):=fun e=>ne_of_beq_false HZ.out e.symm
  have HE:=ze (show zec s (bp,bx,bt) (p,x,t)=jq s (p,x,t) 3 by unfold zec;rw[if_neg he]);rw[HE.out];clear he;unfold ye zq
  go_enter Tryz.func53,Tryz.ntmps53
  go_wp2_with (go_at_call 51;refine(HP.out _ HW.out).mono ?_;rintro e w5 ⟨rfl,h5,h6⟩;have H5:=ze h5;have H6:=ze (HB.out.trans h6);clear h5 h6)
  go_end0
  exact⟨rfl,H5.out,H6.out⟩
end
open Go.RowKit
structure jO(s:jP)(n:Nat):Prop where
 files:s.1.length<=n
 cl:s.2.length<=n
 path:∀f∈s.1,f.1.length<=1000000
theorem jO.put{s:jP}{n:Nat}(h:jO s n){f:zg}(hf:f.1.length<=1000000)(k:Int):jO (jq s f k) (n+1):=by
 obtain⟨h1,h2,h3⟩:=h;unfold jq
 split
 ·exact⟨Nat.le_succ_of_le h1,by simp;omega,h3⟩
 ·refine⟨by simp;omega,?_,fun g hg=>?_⟩
  ·split
   ·exact Nat.le_succ_of_le h2
   ·simp;omega
  ·rcases List.mem_append.1 hg with hg |hg
   ·exact h3 g hg
   ·rw[List.mem_singleton.1 hg];exact hf
theorem jO.mono{s:jP}{n m:Nat}(h:jO s n)(hm:n<=m):jO s m:=⟨Nat.le_trans h.files hm,Nat.le_trans h.cl hm,h.path⟩
theorem jO.one{s:jP}{n:Nat}(h:jO s n)(b:zg){f:zg}(hf:f.1.length<=1000000):jO (zec s b f) (n+1):=by
 unfold zec
 split
 ·exact h.mono (Nat.le_succ _)
 ·exact h.put hf 3
theorem jO.keep{s:jP}{n:Nat}(h:jO s n)(b:zg){u v:Option zg}(hu:∀g,u=some g->g.1.length<=1000000)(hv:∀g,v=some g->g.1.length<=1000000):jO (jV s b u v) (n+1):=by
 unfold jV
 split
 ·refine h.put ?_ _
  unfold zdh;simp only
  split
  ·exact hv _ rfl
  ·exact hu _ rfl
 ·exact h.one _ (hu _ rfl)
 ·exact h.one _ (hv _ rfl)
 ·exact h.mono (Nat.le_succ _)
theorem jO.ok{s:jP}{n:Nat}(h:jO s n)(hn:n<=100000):(s.1.length<=100000/\s.2.length<=100000)/\∀f∈s.1,f.1.length<=1000000:=⟨⟨Nat.le_trans h.files hn,Nat.le_trans h.cl hn⟩,h.path⟩
def znp(v:Value)(w:World)(f:zg):Prop:=∃g,v= .pointer (some ⟨g,0,none⟩)/\w.heap[g]? =some (.cells #[.string ⟨f.1.toArray⟩,.bool f.2.1,.string ⟨f.2.2.toArray⟩] 28 (0,0))
section
theorem zen(kb gm:Nat)(v0 v1:Value)(s:jP)(f:SpS->Option zg)(W0 w:World)(n:Nat)(D:MW)(h:WhM kb gm v0 v1 s w)(hb:Below kb W0 w)(hk0:W0.heap.size=kb)(hms:jM W0 gm n D)(hs:jI D f)(p:zQ)(i:Nat)(hp:p.length<=maxLen)(hi:i<=1):
  Calls Tryz.prog 50 #[.pointer (some ⟨kb,0,none⟩),zq p,.int .u8 (i:Nat)] w fun e w'=>e= .returned (.tuple #[ye ((f (p,i)).getD zM),.bool (f (p,i)).isSome])/\Below w.heap.size w w':=by
 obtain⟨vm,vc,hg,_⟩:=h.ex;exact zmQ kb gm f 57 p i w n D _ rfl hg (hms.old fun hlt=>hb.block _ (by omega)) hs hp hi
theorem zoM(kb gm:Nat)(v0 v1:Value)(f:SpS->Option zg)(W0 w:World)(n:Nat)(D:MW)(s:jP)(h:WhM kb gm v0 v1 s w)(hb:Below kb W0 w)(hk0:W0.heap.size=kb)(hms:jM W0 gm n D)(hs:jI D f)(hfew:jO s 400)(hf:∀p i g,f (p,i)=some g->g.1.length<=1000000/\g.2.2.length<=3000)(va:Value)(a:List zg)(ha:yM W0 va a)(hal:a.length<=100)(hat:∀x∈a,x.1.length<=1000000/\x.2.2.length<=3000):
  Calls Tryz.prog 26 #[.pointer (some ⟨kb,0,none⟩),va] w fun e w'=>e= .returned (.tuple #[])/\WhM kb gm v0 v1 (a.foldl (fun s b=>jV s b (f (b.1,0)) (f (b.1,1))) s) w'/\Below kb W0 w':=by
 obtain⟨ao,ac,rfl⟩:=zy.form ha;have HFI:=ze (fun(s:jP) (p:zQ) (i:Nat) (hp:p.length<=1000000) (hi:i<=1) (wx:World) (h:WhM kb gm v0 v1 s wx) (hb:Below kb W0 wx)=>zen kb gm v0 v1 s f W0 wx n D h hb hk0 hms hs p i (by unfold maxLen;omega) hi);have HFL:=ze hf;have HW:=ze h;have HB:=ze hb;have HFEW:=ze hfew;have HAo:=ze (fun wx (hk:Below kb W0 wx)=>zy.old ha (w':=wx) (by rw[hk0];exact hk));have HAT:=ze hat;have HAL:=ze hal;clear h hb hk0 hms hs hfew hf ha hal hat
 go_enter Tryz.func26,Tryz.ntmps26
 go_wp2_with fail
 go_loopg [12] a.length (fun g i wr=>∃ (k:Nat) (z:jP),i= .int .i64 (k:Int)/\Hid (k<=a.length/\a.length-k<=g)/\Hid (z=(a.take k).foldl (fun s b=>jV s b (f (b.1,0)) (f (b.1,1))) s/\jO z (400+k))/\Hid (WhM kb gm v0 v1 z wr)/\Hid (Below kb W0 wr))
 case atStart=>exact⟨0,s,rfl,ze ⟨Nat.zero_le _,Nat.le_refl _⟩,ze ⟨rfl,HFEW.out⟩,HW,HB⟩
 case round=>
  clear HW HB HFEW;obtain⟨k,z,rfl,HQ,HS,HW,HB⟩:=hrel;have hQ:=HQ.out;have k0:(0:Int)<=(k:Int):=Int.natCast_nonneg _
  by_cases hlt:k<a.length
  case neg=>
   obtain rfl:k=a.length:=by omega
   have hneg:¬(a.length:Int)<(a.length:Int):=by omega
   have HE:=ze (show z=a.foldl (fun s b=>jV s b (f (b.1,0)) (f (b.1,1))) s by rw[HS.out.1,List.take_length]);go_wp2_with fail
   go_end0
   exact⟨rfl,by rw[<-HE.out];exact HW.out,HB.out⟩
  have k1:(k:Int)<(a.length:Int):=by omega
  have kw:IntKind.i64.wrap ((k:Int)+1)=(k:Int)+1:=IntWalk.i64_in _ (by have:=HAL.out;omega);obtain⟨b1,p1,p,x,t,e,he,r0,r1,r2⟩:=yM.at (HAo.out wr HB.out) hlt;cases e;obtain⟨u,hu⟩:∃y,f (p,0)=y:=⟨_,rfl⟩;obtain⟨v,hv⟩:∃y,f (p,1)=y:=⟨_,rfl⟩;obtain⟨⟨up,ux,ut⟩,huv⟩:∃y,u.getD zM=y:=⟨_,rfl⟩;obtain⟨⟨vp,vx,vt⟩,hvv⟩:∃y,v.getD zM=y:=⟨_,rfl⟩;have HK:=ze (show(a.take (k+1)).foldl (fun s b=>jV s b (f (b.1,0)) (f (b.1,1))) s=jV z (p,x,t) u v by rw[List.take_add_one,he,List.foldl_append,<-HS.out.1];show jV z (p,x,t) (f (p,0)) (f (p,1))= _;rw[hu,hv]);have HPT:=ze (HAT.out _ (List.mem_of_getElem? he));have HU3:=ze (show ∀g,u=some g->g.1.length<=1000000/\g.2.2.length<=3000 from fun g hg=>HFL.out p 0 g (hu.trans hg));have HV3:=ze (show ∀g,v=some g->g.1.length<=1000000/\g.2.2.length<=3000 from fun g hg=>HFL.out p 1 g (hv.trans hg));have HF0:=ze (fun wx h1 h2=>(show Calls Tryz.prog 50 #[.pointer (some ⟨kb,0,none⟩),zq p,.int .u8 0] wx _ from HFI.out z p 0 HPT.out.1 (by omega) wx h1 h2));have HF1:=ze (fun wx h1 h2=>(show Calls Tryz.prog 50 #[.pointer (some ⟨kb,0,none⟩),zq p,.int .u8 1] wx _ from HFI.out z p 1 HPT.out.1 (by omega) wx h1 h2));rw[hu,huv]at HF0;rw[hv,hvv]at HF1;have HUV:=ze huv;have HVV:=ze hvv;have HZF:=ze (show jO (jV z (p,x,t) u v) (400 +(k+1))from HS.out.2.keep (p,x,t) (fun g hg=>(HU3.out g hg).1) (fun g hg=>(HV3.out g hg).1));have HOK:=ze (HS.out.2.ok (by have:=HAL.out;omega));clear he hu hv huv hvv;have hbA:Below wr.heap.size wr (wr.alloc (.cells #[.string ⟨p.toArray⟩,.bool x,.string ⟨t.toArray⟩] 28)):=(Below.refl _ wr).alloc (Nat.le_refl _) _;have hgA:=heap_alloc_new wr (.cells #[.string ⟨p.toArray⟩,.bool x,.string ⟨t.toArray⟩] 28);have HWA:=ze (HW.out.old hbA);have HBA:=ze (HB.out.trans (hbA.mono (Nat.le_of_lt HW.out.lt)));have c0:=zd (i:=0) hgA rfl;have c1:=zd (i:=1) hgA rfl;have c2:=zd (i:=2) hgA rfl;clear hbA hgA
  go_upto_region 3 with fail
  clear r0 r1 r2;generalize wr.alloc (.cells #[.string ⟨p.toArray⟩,.bool x,.string ⟨t.toArray⟩] 28)=A at *;generalize wr.heap.size=g5 at *;have HFa:=ze (HF0.out (A.drew) (HWA.out.old ((Below.refl _ _).drew)) (HBA.out.drew));have HFb:=ze (HF0.out (A.alloc (.cells #[.string ⟨#[]⟩,.bool false,.string ⟨#[]⟩] 28)).drew (HWA.out.old (((Below.refl _ A).alloc (Nat.le_refl _) _).drew)) ((HBA.out.alloc (Nat.le_of_lt HWA.out.lt) _).drew));unfold ye zq at HFa HFb;have HNZ:=ze (show(A.alloc (.cells #[.string ⟨#[]⟩,.bool false,.string ⟨#[]⟩] 28)).drew.heap[A.heap.size]? =some (.cells #[.string ⟨#[]⟩,.bool false,.string ⟨#[]⟩] 28 (0,0))from heap_alloc_new A _);have zc:=zf ((Below.refl _ A).alloc (Nat.le_refl _) (.cells #[.string ⟨#[]⟩,.bool false,.string ⟨#[]⟩] 28)) c0
  go_upto_region 3 with fail
  go_cut [6,7]from 16 to 24 (fun sv sb wx=>sb= .bool u.isSome/\Hid (znp sv wx (up,ux,ut)/\Below A.heap.size A wx))
  case first=>
   go_region_law (first
    |(go_simp
      go_at_call 50
      with_reducible refine HFa.out.mono ?_
      rintro e w5 ⟨rfl,hb5⟩;have HB5:=ze (show Below A.heap.size A w5 from((Below.refl _ A).drew).trans hb5);clear hb5
      go_simp)
    |(go_simp
      go_at_call 50
      with_reducible refine HFb.out.mono ?_
      rintro e w5 ⟨rfl,hb5⟩;have HB5:=ze (show Below A.heap.size A w5 from(((Below.refl _ A).alloc (Nat.le_refl _) _).drew).trans (hb5.mono (by simp)));have hn:=(hb5.block _ (lt_of_block HNZ.out)).trans HNZ.out;have HN5:=ze hn;have n0:=zd (i:=0) hn rfl;have n1:=zd (i:=1) hn rfl;have n2:=zd (i:=2) hn rfl;have m0:=zo (i:=0) hn;have m1:=zo (i:=1) hn;have m2:=zo (i:=2) hn;clear hb5 hn
      go_simp))
   all_goals(
    go_wp2_with fail
    go_meet
    exact⟨rfl,ze (by first |exact⟨⟨_,rfl,heap_alloc_new _ _⟩,HB5.out.alloc HB5.out.size _⟩ |exact⟨⟨_,rfl,zv (zv (zv HN5.out))⟩,((HB5.out.setCell (Nat.le_refl _) _).setCell (Nat.le_refl _) _).setCell (Nat.le_refl _) _⟩)⟩)
  case rest=>
   obtain⟨rfl,HC⟩:=hcut;clear HFa HFb HNZ zc;obtain⟨g6,rfl,hg6⟩:=HC.out.1;have hbc:=HC.out.2;have c0_:=zf hbc c0;have c1_:=zf hbc c1;have c2_:=zf hbc c2;have HW6:=ze (HWA.out.old hbc);have HB6:=ze (HBA.out.trans (hbc.mono (Nat.le_of_lt HWA.out.lt)));have q60:=zd (i:=0) hg6 rfl;have q61:=zd (i:=1) hg6 rfl;have q62:=zd (i:=2) hg6 rfl;clear hbc HC hg6 c0 c1 c2;have c0:=c0_;have c1:=c1_;have c2:=c2_;clear c0_ c1_ c2_;generalize wc=B3 at *;have HFa:=ze (HF1.out (B3.drew) (HW6.out.old ((Below.refl _ _).drew)) (HB6.out.drew));have HFb:=ze (HF1.out (B3.alloc (.cells #[.string ⟨#[]⟩,.bool false,.string ⟨#[]⟩] 28)).drew (HW6.out.old (((Below.refl _ B3).alloc (Nat.le_refl _) _).drew)) ((HB6.out.alloc (Nat.le_of_lt HW6.out.lt) _).drew));unfold ye zq at HFa HFb;have HNZ:=ze (show(B3.alloc (.cells #[.string ⟨#[]⟩,.bool false,.string ⟨#[]⟩] 28)).drew.heap[B3.heap.size]? =some (.cells #[.string ⟨#[]⟩,.bool false,.string ⟨#[]⟩] 28 (0,0))from heap_alloc_new B3 _);have zc:=zf ((Below.refl _ B3).alloc (Nat.le_refl _) (.cells #[.string ⟨#[]⟩,.bool false,.string ⟨#[]⟩] 28)) c0
   go_upto_region 4 with fail
   go_cut [8,9]from 25 to 33 (fun sv sb wx=>sb= .bool v.isSome/\Hid (znp sv wx (vp,vx,vt)/\Below B3.heap.size B3 wx))
   case first=>
    go_region_law (first
     |(go_simp
       go_at_call 50
       with_reducible refine HFa.out.mono ?_
       rintro e w5 ⟨rfl,hb5⟩;have HB5:=ze (show Below B3.heap.size B3 w5 from((Below.refl _ B3).drew).trans hb5);clear hb5
       go_simp)
     |(go_simp
       go_at_call 50
       with_reducible refine HFb.out.mono ?_
       rintro e w5 ⟨rfl,hb5⟩;have HB5:=ze (show Below B3.heap.size B3 w5 from(((Below.refl _ B3).alloc (Nat.le_refl _) _).drew).trans (hb5.mono (by simp)));have hn:=(hb5.block _ (lt_of_block HNZ.out)).trans HNZ.out;have HN5:=ze hn;have n0:=zd (i:=0) hn rfl;have n1:=zd (i:=1) hn rfl;have n2:=zd (i:=2) hn rfl;have m0:=zo (i:=0) hn;have m1:=zo (i:=1) hn;have m2:=zo (i:=2) hn;clear hb5 hn
       go_simp))
    all_goals(
     go_wp2_with fail
     go_meet
     exact⟨rfl,ze (by first |exact⟨⟨_,rfl,heap_alloc_new _ _⟩,HB5.out.alloc HB5.out.size _⟩ |exact⟨⟨_,rfl,zv (zv (zv HN5.out))⟩,((HB5.out.setCell (Nat.le_refl _) _).setCell (Nat.le_refl _) _).setCell (Nat.le_refl _) _⟩)⟩)
   case rest=>
    obtain⟨rfl,HC⟩:=hcut;clear HFa HFb HNZ zc;obtain⟨g8,rfl,hg8⟩:=HC.out.1;have hbc:=HC.out.2;have c0_:=zf hbc c0;have c1_:=zf hbc c1;have c2_:=zf hbc c2;have q60_:=zf hbc q60;have q61_:=zf hbc q61;have q62_:=zf hbc q62;have HW8:=ze (HW6.out.old hbc);have HB8:=ze (HB6.out.trans (hbc.mono (Nat.le_of_lt HW6.out.lt)));have q80:=zd (i:=0) hg8 rfl;have q81:=zd (i:=1) hg8 rfl;have q82:=zd (i:=2) hg8 rfl;clear hbc HC hg8 c0 c1 c2 q60 q61 q62;have c0:=c0_;have c1:=c1_;have c2:=c2_;have q60:=q60_;have q61:=q61_;have q62:=q62_;clear c0_ c1_ c2_ q60_ q61_ q62_;generalize wc=B4 at *
    cases u with
    |some g=>
     have hg:g=(up,ux,ut):=HUV.out;subst hg;have HU31:=ze (HU3.out _ rfl)
     cases v with
     |some g=>
      have hg:g=(vp,vx,vt):=HVV.out;subst hg;have HV31:=ze (HV3.out _ rfl);have HUN:=ze (fun wx=>zkK (p,x,t) (up,ux,ut) (vp,vx,vt) wx HPT.out.2 HU31.out.2 HV31.out.2);obtain⟨⟨mp,mx,mt⟩,hmf⟩:∃y,zdh (p,x,t) (up,ux,ut) (vp,vx,vt)=y:=⟨_,rfl⟩
      have HMP:=ze (show mp.length<=1000000 from by
       have h:mp=(zdh (p,x,t) (up,ux,ut) (vp,vx,vt)).1:=by rw[hmf]
       rw[h];unfold zdh;simp only;split
       ·exact HV31.out.1
       ·exact HU31.out.1)
      have HKE:=ze (show jV z (p,x,t) (some (up,ux,ut)) (some (vp,vx,vt))=jq z (mp,mx,mt) (zdI (p,x,t) (up,ux,ut) (vp,vx,vt)) by show jq z (zdh _ _ _) _ = _;rw[hmf]);rw[hmf]at HUN;clear hmf;have HPU:=ze (fun wx hh=>zdu kb gm v0 v1 z mp mt mx (zdI (p,x,t) (up,ux,ut) (vp,vx,vt)) wx hh HOK.out.1 HOK.out.2 HMP.out);unfold ye zq at HUN;unfold zq at HPU;generalize zdI (p,x,t) (up,ux,ut) (vp,vx,vt)=kk at *
      go_wp2_with (first
       |(go_at_call 52;refine(HUN.out _).mono ?_;rintro e w9 ⟨rfl,hb9⟩;have HW9:=ze (HW8.out.old hb9);have HB9:=ze (HB8.out.trans (hb9.mono (Nat.le_of_lt HW8.out.lt)));clear hb9)
       |(go_at_call 51;refine(HPU.out _ HW9.out).mono ?_;rintro e w10 ⟨rfl,h10,hb10⟩;have HW10:=ze h10;have HB10:=ze (HB9.out.trans hb10);clear h10 hb10))
      go_roundg (a.length-(k+1))
      case measure=>omega
      case rel=>exact⟨k+1,_,by go_num,ze ⟨by omega,Nat.le_refl _⟩,ze ⟨HK.out.symm,HZF.out⟩,ze (by rw[HKE.out];exact HW10.out),HB10⟩
     |none=>
      have HPU:=ze (fun wx hh=>zeA kb gm v0 v1 z (p,x,t) (up,ux,ut) wx hh HOK.out.1 HOK.out.2 HU31.out.1);unfold ye zq at HPU
      go_wp2_with (go_at_call 53;refine(HPU.out _ HW8.out).mono ?_;rintro e w10 ⟨rfl,h10,hb10⟩;have HW10:=ze h10;have HB10:=ze (HB8.out.trans hb10);clear h10 hb10)
      go_roundg (a.length-(k+1))
      case measure=>omega
      case rel=>exact⟨k+1,_,by go_num,ze ⟨by omega,Nat.le_refl _⟩,ze ⟨HK.out.symm,HZF.out⟩,HW10,HB10⟩
    |none=>
     cases v with
     |some g=>
      have hg:g=(vp,vx,vt):=HVV.out;subst hg;have HV31:=ze (HV3.out _ rfl);have HPU:=ze (fun wx hh=>zeA kb gm v0 v1 z (p,x,t) (vp,vx,vt) wx hh HOK.out.1 HOK.out.2 HV31.out.1);unfold ye zq at HPU
      go_wp2_with (go_at_call 53;refine(HPU.out _ HW8.out).mono ?_;rintro e w10 ⟨rfl,h10,hb10⟩;have HW10:=ze h10;have HB10:=ze (HB8.out.trans hb10);clear h10 hb10)
      go_roundg (a.length-(k+1))
      case measure=>omega
      case rel=>exact⟨k+1,_,by go_num,ze ⟨by omega,Nat.le_refl _⟩,ze ⟨HK.out.symm,HZF.out⟩,HW10,HB10⟩
     |none=>
      go_wp2_with fail
      go_roundg (a.length-(k+1))
      case measure=>omega
      case rel=>exact⟨k+1,_,by go_num,ze ⟨by omega,Nat.le_refl _⟩,ze ⟨HK.out.symm,HZF.out⟩,HW8,HB8⟩
end
end Go.Proofs.YtbnafihigoekeaaGreatDoor

/-
  TmTl, part 11.
-/
import Derived.Test.YtbnafihigoekeaaGreatDoorZt8
set_option maxRecDepth 100000
set_option maxHeartbeats 8000000
namespace Go.Proofs.YtbnafihigoekeaaGreatDoor
open Go.RowKit
attribute [local go_sem] Oper.semAt_some
def zoR(q:IntKind)(w:World)(base:Nat)(t:Value)(n m:Nat)(f:Nat->Nat->Nat):Prop:=
 ∃g,base<=g/\t= .slice (some ⟨g,0,none⟩) (n+1) (n+1)/\∀i,i<=n->∃r,base<=r/\w.cell? ⟨g,i,none⟩=some (.slice (some ⟨r,0,none⟩) (m+1) (m+1))/\∀k,k<=m->w.cell? ⟨r,k,none⟩=some (.int q (f i k:Nat))
theorem zoR.old{q:IntKind}{w w':World}{base:Nat}{t:Value}{n m:Nat}{f:Nat->Nat->Nat}(h:zoR q w base t n m f)(hk:∀b,base<=b->b<w.heap.size->w'.heap[b]? =w.heap[b]?):zoR q w' base t n m f:=by
 obtain⟨g,hg,rfl,h1⟩:=h;refine⟨g,hg,rfl,fun i hi=>?_⟩;obtain⟨r,hr,h2,h3⟩:=h1 i hi;refine⟨r,hr,(World.cell?_of_block (w:=w) (hk _ hg (World.block_lt_of_cell? w _ h2))).trans h2,fun k hkm=>?_⟩;exact(World.cell?_of_block (w:=w) (hk _ hr (World.block_lt_of_cell? w _ (h3 k hkm)))).trans (h3 k hkm)
structure zcX(w W:World)(vB:Value)(n m g p K L:Nat)(R:Nat->Nat)(f:Nat->Nat->Nat):Prop where
 box:W.heap[w.heap.size]? =some (.cells #[vB] 96 (0,0))
 bp:W.heap[p]? =some (.cells #[.slice (some ⟨g,0,none⟩) (n+1) (n+1)] 261 (0,0))
 top:W.heap[g]? =some (.cells (zbi (fun j=> .slice (some ⟨R j,0,none⟩) (m+1) (m+1)) (fun _ => .slice none 0 0) (n+1) K).toArray 264 (0,0))
 rows:∀j,L<=j->j<=n->W.heap[R j]? =some (.cells (zcF .u16 (f j) (m+1)).toArray 263 (0,0))
 far:w.heap.size<g/\g<p/\∀j,L<=j->j<=n->p<R j
 below:Below w.heap.size w W
theorem zcX.tab{w W:World}{vB:Value}{n m g p:Nat}{R:Nat->Nat}{f:Nat->Nat->Nat}(h:zcX w W vB n m g p 0 0 R f):zoR .u16 W w.heap.size (.slice (some ⟨g,0,none⟩) (n+1) (n+1)) n m f:=by
 obtain⟨h1,h2,h3⟩:=h.far;refine⟨g,by omega,rfl,fun i hi=>⟨R i,by have:=h3 i (Nat.zero_le _) hi;omega,zd h.top ?_,fun k hk=>zd (h.rows i (Nat.zero_le _) hi) ?_⟩⟩
 ·rw[List.getElem?_toArray,zfb (by omega) (Nat.zero_le _)]
 ·rw[List.getElem?_toArray,zca (by omega)]
theorem zcX.row{w W W1:World}{vB:Value}{n m g p i:Nat}{R:Nat->Nat}{f:Nat->Nat->Nat}(h:zcX w W vB n m g p (i+1) (i+1) R f)(hi:i<=n)
  (hw:W1=((W.setCell ⟨g,i,none⟩ (.slice (some ⟨W.heap.size,0,none⟩) (m+1) (m+1))).alloc (.cells (List.replicate (m+1) (Value.int .u16 0)).toArray 263)).drew):
  zcX w W1 vB n m g p i (i+1) (fun j=>if j=i then W.heap.size else R j) f/\W1.heap[W.heap.size]? =some (.cells (zcF .u16 (fun _ =>0) (m+1)).toArray 263 (0,0)):=by
 obtain⟨h1,h2,h3⟩:=h.far;have lg:=lt_of_block h.top;have lp:=lt_of_block h.bp;have ls:=h.below.size
 have hss:(W.setCell ⟨g,i,none⟩ (.slice (some ⟨W.heap.size,0,none⟩) (m+1) (m+1))).heap.size=W.heap.size:=by simp[World.setCell]
 have hne:∀b,b≠g->b<W.heap.size->W1.heap[b]? =W.heap[b]? :=fun b hb hl=>by
  rw[hw];exact(Below.heap_alloc _ _ b (by rw[hss];exact hl)).trans (Below.heap_setCell _ _ _ _ hb)
 refine⟨⟨?_,?_,?_,fun j h4 h5=>?_,⟨h1,h2,fun j h4 h5=>?_⟩,?_⟩,?_⟩
 ·rw[hne _ (by omega) (by omega)]
  exact h.box
 ·rw[hne _ (by omega) (by omega)]
  exact h.bp
 ·have:=zv (i:=i) (u:= .slice (some ⟨W.heap.size,0,none⟩) (m+1) (m+1)) h.top
  rw[hw];refine((Below.heap_alloc _ _ g (by rw[hss];exact lg)).trans this).trans ?_;rw[List.setIfInBounds_toArray]
  congr 3
  have e:=zhO (fun j=>Value.slice (some ⟨if j=i then W.heap.size else R j,0,none⟩) (m+1) (m+1)) (fun _ => .slice none 0 0) (n+1) i (by omega);rw[if_pos rfl]at e;rw[<-e]
  congr 1
  apply List.ext_getElem
  ·simp[zbi]
  ·intro q q1 q2
   simp only[zbi,List.getElem_map,List.getElem_range]
   by_cases hq:i+1<=q
   ·rw[if_pos hq,if_pos hq,if_neg (by omega)]
   ·rw[if_neg hq,if_neg hq]
 ·have lr:=lt_of_block (h.rows j h4 h5)
  have:=h3 j h4 h5;rw[if_neg (by omega),hne _ (by omega) lr];exact h.rows j h4 h5
 ·rw[if_neg (by omega)]
  exact h3 j h4 h5
 ·rw[hw]
  exact((h.below.setCell (by show w.heap.size<=g;omega) _).alloc (by rw[hss];exact ls) _).trans (show Below w.heap.size _ _ from⟨rfl,rfl,rfl,Nat.le_refl _,fun _ _ =>rfl⟩)
 ·rw[hw,<-ziu]
  have:=World.alloc_heap_new (W.setCell ⟨g,i,none⟩ (.slice (some ⟨W.heap.size,0,none⟩) (m+1) (m+1))) (.cells (List.replicate (m+1) (Value.int .u16 0)).toArray 263);rw[hss]at this;exact this
theorem zcX.row2{w W W1:World}{vB:Value}{n m m1 g p i:Nat}{R:Nat->Nat}{f:Nat->Nat->Nat}{Z:Array Value}(h:zcX w W vB n m g p (i+1) (i+1) R f)(hi:i<=n)(hm:m+1=m1)(hZ:(List.replicate m1 (Value.int .u16 0)).toArray=Z)
  (hw:W1=((W.setCell ⟨g,i,none⟩ (.slice (some ⟨W.heap.size,0,none⟩) m1 m1)).alloc (.cells Z 263)).drew):
  zcX w W1 vB n m g p i (i+1) (fun j=>if j=i then W.heap.size else R j) f/\W1.heap[W.heap.size]? =some (.cells (zcF .u16 (fun _ =>0) (m+1)).toArray 263 (0,0)):=by
 subst hm;subst hZ;exact h.row hi hw
theorem zcX.fill{w W W2:World}{vB:Value}{n m g p i r:Nat}{R:Nat->Nat}{f:Nat->Nat->Nat}(h:zcX w W vB n m g p i (i+1) R f)(hr:R i=r)(hne:∀j,i+1<=j->j<=n->R j≠r)(hp:p<r)(hO:zaj r W W2)(hrow:W2.heap[r]? =some (.cells (zcF .u16 (f i) (m+1)).toArray 263 (0,0))):
  zcX w W2 vB n m g p i i R f:=by
 obtain⟨h1,h2,h3⟩:=h.far;refine⟨?_,?_,?_,fun j h4 h5=>?_,⟨h1,h2,fun j h4 h5=>?_⟩,h.below.trans (hO.below (by omega))⟩
 ·rw[hO.block _ (by omega)]
  exact h.box
 ·rw[hO.block _ (by omega)]
  exact h.bp
 ·rw[hO.block _ (by omega)]
  exact h.top
 ·by_cases e:j=i
  ·subst e
   rw[hr];exact hrow
  ·rw[hO.block _ (hne j (by omega) h5)]
   exact h.rows j (by omega) h5
 ·by_cases e:j=i
  ·subst e
   rw[hr];exact hp
  ·exact h3 j (by omega) h5
theorem zcX.alloc{w W:World}{vB:Value}{n m g p K L:Nat}{R:Nat->Nat}{f:Nat->Nat->Nat}(h:zcX w W vB n m g p K L R f)(o:Obj):zcX w (W.alloc o) vB n m g p K L R f:=by
 have k:∀ {b:Nat} {ob:Obj},W.heap[b]? =some ob->(W.alloc o).heap[b]? =some ob:=fun {b ob} hb=>(Below.heap_alloc W o b (Array.getElem?_eq_some_iff.1 hb).1).trans hb
 exact⟨k h.box,k h.bp,k h.top,fun j h4 h5=>k (h.rows j h4 h5),h.far,h.below.alloc h.below.size _⟩
theorem znL{B Z:Nat}{w:World}{vB:Value}{n m g p:Nat}{f:Nat->Nat->Nat}(hB:w.heap.size<=B):OwnFrom B (fun(k:Nat) W=>∃R,Hid (zcX w W vB n m g p (n-k) (n-k) R f)/\Z<=W.heap.size):=fun k X Y row hs hg hr=>by
 obtain⟨R,H,hZ⟩:=hs
 have keep:∀ {b:Nat} {cs:Array Value} {t:TypeId},X.heap[b]? =some (.cells cs t (0,0))->Y.heap[b]? =some (.cells cs t (0,0)):=fun {b cs t} hb=>by
  refine(hg.block b (lt_of_block hb) fun e=>?_).trans hb;obtain⟨_,o,ho,hc⟩:=hr b e.symm;rw[hb]at ho;cases ho;cases hc
 exact⟨R,ze ⟨keep H.out.box,keep H.out.bp,keep H.out.top,fun j h4 h5=>keep (H.out.rows j h4 h5),H.out.far,H.out.below.grown hg H.out.below.size (fun j e=>by have:=(hr j e).1;omega)⟩,Nat.le_trans hZ hg.size⟩
theorem zaj.others'{br:Nat}{w w':World}{cs:Array Value}{t:TypeId}{fr:Nat × Nat}(h:zaj br w w')(hb:w.heap[br]? =some (.cells cs t fr)):KeepsOthers w w':=
 ⟨Nat.le_of_eq h.size.symm,fun k o hk ho=>by
  by_cases e:k=br
  ·subst e
   rw[hb]at hk;cases hk;cases ho
  ·exact(h.block k e).trans hk⟩
theorem zok{w:World}{vB:Value}{n m n1:Nat}{Z1:Array Value}{R:Nat->Nat}{f:Nat->Nat->Nat}(hn:n+1=n1)(hZ1:(List.replicate n1 (Value.slice none 0 0)).toArray=Z1):
  zcX w (((w.alloc (.cells #[vB] 96)).alloc (.cells Z1 264)).alloc (.cells #[.slice (some ⟨w.heap.size+1,0,none⟩) n1 n1] 261)) vB n m (w.heap.size+1) (w.heap.size+1+1) (n+1) (n+1) R f:=by
 subst hn;generalize hA:(.cells #[vB] 96:Obj)=o0;generalize hB:(.cells Z1 264:Obj)=o1;generalize hC:(.cells #[.slice (some ⟨w.heap.size+1,0,none⟩) (n+1) (n+1)] 261:Obj)=o2
 have s0:(w.alloc o0).heap.size=w.heap.size+1:=by simp
 have s1:((w.alloc o0).alloc o1).heap.size=w.heap.size+1+1:=by simp
 have e0:(((w.alloc o0).alloc o1).alloc o2).heap[w.heap.size]? =some o0:=by rw[Below.heap_alloc _ _ _ (by omega),Below.heap_alloc _ _ _ (by omega),World.alloc_heap_new]
 have e1:(((w.alloc o0).alloc o1).alloc o2).heap[w.heap.size+1]? =some o1:=by rw[Below.heap_alloc _ _ _ (by omega),<-s0,World.alloc_heap_new]
 have e2:(((w.alloc o0).alloc o1).alloc o2).heap[w.heap.size+1+1]? =some o2:=by rw[<-s1,World.alloc_heap_new]
 refine⟨e0.trans (congrArg some hA.symm),e2.trans (congrArg some hC.symm),?_,fun j h4 h5=>by omega,⟨by omega,by omega,fun j h4 h5=>by omega⟩,(((Below.refl _ w).alloc (Nat.le_refl _) o0).alloc (by omega) o1).alloc (by omega) o2⟩;refine(e1.trans (congrArg some hB.symm)).trans ?_;rw[<-hZ1]
 congr 3
 apply List.ext_getElem
 ·simp[zbi]
 ·intro q q1 q2
  have:q<n+1:=by simpa using q1
  simp only[zbi,List.getElem_map,List.getElem_range,List.getElem_replicate];rw[if_neg (by omega)]
open Go.RowKit
attribute [local go_sem] Oper.semAt_some
section
theorem Tryz.infoU16:(Tryz.prog.info? 263).map (fun i=>(i.zero,i.size,i.bytes))=some (some (.int .u16 0),1,2):=by kernel_rfl
theorem Tryz.infoSlU:(Tryz.prog.info? 264).map (fun i=>(i.zero,i.size,i.bytes))=some (some (.slice none 0 0),1,24):=by kernel_rfl
theorem zmC(va vb:Value)(a b:List (List UInt8))(w:World)(ha:Sl w va (zj a))(hb:Sl w vb (zj b))(hal:a.length<=60000)(hbl:b.length<=60000):
  Calls Tryz.prog 209 #[va,vb] w fun e w'=>∃t,e= .returned t/\zoR .u16 w' w.heap.size t a.length b.length (fun i k=>lcs (a.drop i) (b.drop k))/\Below w.heap.size w w':=by
 obtain⟨i0,hi0,hi1,hi2,hi3⟩:=info_parts Tryz.infoU16;obtain⟨i9,hj0,hj1,hj2,hj3⟩:=info_parts Tryz.infoSlU;obtain⟨aa,ca,rfl⟩:=ha.form;obtain⟨ab,cb,rfl⟩:=hb.form;rw[zk]at ha hb ⊢;rw[zk];obtain⟨n,hn⟩:∃n,a.length=n:=⟨_,rfl⟩;obtain⟨m,hm⟩:∃m,b.length=m:=⟨_,rfl⟩;rw[hn]at ha hal ⊢;rw[hm]at hb hbl ⊢;obtain⟨n1,hn1⟩:∃n1,n+1=n1:=⟨_,rfl⟩;obtain⟨m1,hm1⟩:∃m1,m+1=m1:=⟨_,rfl⟩;have nw:IntKind.i64.wrap ((n:Int)+1)=(n1:Int):=(IntWalk.i64_in _ (by omega)).trans (by omega);have mw:IntKind.i64.wrap ((m:Int)+1)=(m1:Int):=(IntWalk.i64_in _ (by omega)).trans (by omega)
 have mk1:=fun wx:World=>qQ (P:=Tryz.prog) wx 261 264 i9 (.slice none 0 0) Tryz.underlying261 hj0 hj1 hj2 rfl n1 (by rw[hj3];omega) (by omega)
 have mk2:=fun wx:World=>qQ (P:=Tryz.prog) wx 264 263 i0 (.int .u16 0) Tryz.underlying264 hi0 hi1 hi2 rfl m1 (by rw[hi3];omega) (by omega)
 obtain⟨f,hf⟩:∃f:Nat->Nat->Nat,f=fun i k=>lcs (a.drop i) (b.drop k):=⟨_,rfl⟩
 rw[<-hf]
 have f0:∀k,f n k=0:=fun k=>by rw[hf];show lcs (a.drop n) _ =0;rw[List.drop_of_length_le (l:=a) (by omega),xR]
 have fs:∀i x,a[i]? =some x->znF x b (f i) (f (i+1)):=fun i x hx=>by
  obtain⟨q1,e1⟩:=List.getElem?_eq_some_iff.1 hx;have:=zfF x (a.drop (i+1)) b;rw[<-e1,<-List.drop_eq_getElem_cons q1]at this;rw[hf,<-e1];exact this
 have fm:∀i k,f i k<=65000:=fun i k=>by
  rw[hf];have:=(zav (a.drop i) (b.drop k)).1;rw[List.length_drop]at this;show lcs _ _ <=65000;omega
 obtain⟨Z1,hZ1⟩:∃Z,(List.replicate n1 (Value.slice none 0 0)).toArray=Z:=⟨_,rfl⟩;obtain⟨Z2,hZ2⟩:∃Z,(List.replicate m1 (Value.int .u16 0)).toArray=Z:=⟨_,rfl⟩;rw[hZ1]at mk1;rw[hZ2]at mk2;have n0:(0:Int)<=(n:Int):=Int.natCast_nonneg _
 have nlt:(n:Int)<(n1:Int):=by omega
 have HA:=ze ha;have HB:=ze hb;have HF:=ze (And.intro f0 (And.intro fs fm));have HN:=ze (And.intro hn hn1);have HM:=ze (And.intro hm hm1);have HZ:=ze (And.intro hZ1 hZ2);have HL:=ze (And.intro hal hbl);clear hi0 hi1 hi2 hi3 hj0 hj1 hj2 hj3 ha hb hf f0 fs fm hn hm hal hbl;refine(callsIn_wide (n:=3)).1 ?_;refine callsIn_of_wp_marks Tryz.func209 rfl trivial ?_ rfl;simp only[Tryz.ntmps209,List.size_toArray,List.length_cons,List.length_nil,Nat.reduceAdd,Nat.reduceSub,Array.replicate_succ,Array.replicate_zero,List.push_toArray,List.append_toArray,List.nil_append,List.cons_append];refine wpIn_wide.2 ?_
 go_upto_region 2 with fail
 have hT0:=zok (w:=w) (vB:= .slice ab m cb) (m:=m) (R:=fun _ =>0) (f:=f) HN.out.2 HZ.out.1;generalize((w.alloc (.cells #[.slice ab m cb] 96)).alloc (.cells Z1 264)).alloc (.cells #[.slice (some ⟨w.heap.size+1,0,none⟩) n1 n1] 261)=w2 at hT0 ⊢;have HT0:=ze hT0;rw[HN.out.2]at hT0;have ckb:=zd (i:=0) hT0.box rfl;have ckp:=zd (i:=0) HT0.out.bp rfl;rw[HN.out.2]at ckp;have lt2:=lt_of_block hT0.top;have h0:(w2.alloc (.cells Z2 263)).heap[w.heap.size+1]? = _:=(Below.heap_alloc w2 _ _ lt2).trans hT0.top;have ckt:=zd (i:=n) (v:= .slice none 0 0) h0 (by rw[List.getElem?_toArray];exact zgz (by have:=HN.out.2;omega) (by have:=HN.out.2;omega));have zkt:=zo (i:=n) h0;clear hT0 h0
 go_cut [5]from 8 to 19 (fun v5 wx=>v5= .pointer (some ⟨w.heap.size+1+1,0,none⟩)/\Hid (wx=((w2.setCell ⟨w.heap.size+1,n,none⟩ (.slice (some ⟨w2.heap.size,0,none⟩) m1 m1)).alloc (.cells Z2 263)).drew))
 case first=>
  go_region_held3 (fun wy=>wy.cell? ⟨w.heap.size+1+1,0,none⟩=some (.slice (some ⟨w.heap.size+1,0,none⟩) n1 n1)/\wy.cell? ⟨w.heap.size,0,none⟩=some (.slice ab m cb)) (simp(maxDischargeDepth:=12) [*,World.cell?_alloc_some,World.cell?_setCell_far]) (fail)
  go_wp2_with fail
  go_meet
  exact⟨rfl,ze rfl⟩
 case rest=>
  obtain⟨rfl,HW⟩:=hcut;have lt1:w.heap.size+1+1<w2.heap.size:=lt_of_block HT0.out.bp;obtain⟨hT1,hrow0⟩:=HT0.out.row2 (W1:=wc) (Nat.le_refl _) HM.out.2 HZ.out.2 HW.out
  have hf0:f n=fun _ =>0:=funext HF.out.1
  rw[<-hf0]at hrow0;have HT2:=ze (hT1.fill (r:=w2.heap.size) (if_pos rfl) (fun j h4 h5=>by omega) lt1 (zaj.refl _ _) hrow0);clear hT1 hrow0 hf0 HT0 HW ckb ckp ckt zkt
  go_wp2_with (go_at_call 219;refine(zhy _ _ _ _).mono ?_;rintro e w5 ⟨rfl,rfl⟩)
  obtain⟨w9,hw9⟩:∃w9,wc.alloc (.cells #[.slice aa n ca] 96)=w9:=⟨_,rfl⟩;have HT9:=ze (HT2.out.alloc (.cells #[.slice aa n ca] 96));rw[hw9]at HT9
  have hz9:w9.heap.size=wc.heap.size+1:=by
   rw[<-hw9];simp
  have hc9:w9.cell? ⟨wc.heap.size,0,none⟩=some (.slice aa n ca):=by
   rw[<-hw9];exact zd (i:=0) (World.alloc_heap_new wc _) rfl
  have ltp:=lt_of_block HT2.out.bp;obtain⟨g,hg⟩:∃g,w.heap.size+1=g:=⟨_,rfl⟩;obtain⟨p,hp⟩:∃p,g+1=p:=⟨_,rfl⟩;have hwz:=HT2.out.below.size;rw[hg,hp]at HT9 ltp;rw[hw9,hg,hp];clear HT2 hw9 lt1;refine(wpIn_wide (n:=3)).1 ?_;refine' zbp (gf:=225) (lb:= #[.pointer (some ⟨wc.heap.size,0,none⟩)]) (N:=a.length) (enc:=zbm a) (Kp:=KpB w.heap.size wc.heap.size) (w0:=w9) rfl (enters_of Tryz.func225 (by kernel_rfl) rfl) ?seq (Below.refl _ _) (fun _ =>rfl) KpB.trans ?kb
   (fun k W=>∃R,Hid (zcX w W (.slice ab m cb) n m g p (n-k) (n-k) R f)/\w9.heap.size<=W.heap.size) (znL HT9.out.below.size) ?start _ ?assign ?body ?done
  case seq=>exact zcQ w w9 wc.heap.size _ a HA.out HT9.out.below hc9 (by have h1:=HN.out.1;have h2:=HL.out.1;omega)
  case kb=>exact fun W l o h1 h2=>KpB.put W o (by omega) (by omega) h2
  case start=>exact⟨_,HT9,Nat.le_refl _⟩
  case assign=>
   intro l k W K hK
   dsimp only[zbm]
   gi_wp2
   exact hK
  case body=>
   rintro l k W hk ⟨R,HT,hWz⟩;rw[HN.out.1]at hk;obtain⟨i,hi⟩:∃i,n-1-k=i:=⟨_,rfl⟩
   have hki:n-k=i+1:=by omega
   rw[hki]at HT;obtain⟨x,hx⟩:∃x,a[i]? =some x:=⟨_,List.getElem?_eq_getElem (by rw[HN.out.1];omega)⟩;rw[HN.out.1,hi,hx,Option.getD_some];have HX:=ze hx
   have hin:i<n:=by omega
   have HIK:=ze (show n-(k+1)=i by omega);have i0:(0:Int)<=(i:Int):=Int.natCast_nonneg _
   have i1:(i:Int)<(n1:Int):=by have:=HN.out.2;omega
   have hT:=HT.out;have ckb:=zd (i:=0) hT.box rfl;have ckp:=zd (i:=0) hT.bp rfl;rw[HN.out.2]at ckp;have ltg:=lt_of_block hT.top;have h0:(W.alloc (.cells Z2 263)).heap[g]? = _:=(Below.heap_alloc W _ _ ltg).trans hT.top;have ckt:=zd (i:=i) (v:= .slice none 0 0) h0 (by rw[List.getElem?_toArray];exact zgz (by omega) (by omega));have zkt:=zo (i:=i) h0;clear hT h0 hx hi hki hk
   gi_wp2
   refine zeF (fun wy=>wy.cell? ⟨p,0,none⟩=some (.slice (some ⟨g,0,none⟩) n1 n1)/\wy.cell? ⟨w.heap.size,0,none⟩=some (.slice ab m cb)) (by kernel_rfl) (by kernel_rfl) ?_;have hS:(fun wy=>wy.cell? ⟨p,0,none⟩=some (.slice (some ⟨g,0,none⟩) n1 n1)/\wy.cell? ⟨w.heap.size,0,none⟩=some (.slice ab m cb)) W.drew:=⟨ckp,ckb⟩;refine wpAnyH_take (i:=0) (v:= .slice (some ⟨g,0,none⟩) n1 n1) rfl (by kernel_rfl) (by kernel_rfl) (by kernel_rfl) (fun _ _ _ h=>h) (Or.inl ⟨by rfl,fun wz hz=>?_⟩) hS ?_
   ·obtain⟨z1,z2⟩:=hz
    go_simp
   simp only[Act.put,List.setIfInBounds_toArray];refine wpAnyH_take (i:=1) (v:= .int .i64 (i:Int)) rfl (by kernel_rfl) (by kernel_rfl) (by kernel_rfl) (fun _ _ _ h=>h) (Or.inl ⟨by rfl,fun wz hz=>?_⟩) hS ?_
   ·obtain⟨z1,z2⟩:=hz
    go_simp
   simp only[Act.put];refine wpAnyH_take (i:=2) (v:= .slice ab m cb) rfl (by kernel_rfl) (by kernel_rfl) (by kernel_rfl) (fun _ _ _ h=>h) (Or.inl ⟨by rfl,fun wz hz=>?_⟩) hS ?_
   ·obtain⟨z1,z2⟩:=hz
    go_simp
   simp only[Act.put];refine wpAnyH_take (i:=3) (v:= .int .i64 (m:Int)) rfl (by kernel_rfl) (by kernel_rfl) (by kernel_rfl) (fun _ _ _ h=>h) (Or.inl ⟨by rfl,fun wz hz=>?_⟩) hS ?_
   ·obtain⟨z1,z2⟩:=hz
    go_simp
   simp only[Act.put];refine wpAnyH_take (i:=4) (v:= .int .i64 (m1:Int)) rfl (by kernel_rfl) (by kernel_rfl) (by kernel_rfl) (fun _ _ _ h=>h) (Or.inl ⟨by rfl,fun wz hz=>?_⟩) hS ?_
   ·obtain⟨z1,z2⟩:=hz
    go_simp
   simp only[Act.put];refine wpAnyH_ready (rs:=[5]) (by kernel_rfl) (by simp) ?_;refine AllReadyH.cons rfl (fun K' hK'=>?_) AllReadyH.nil
   go_simp
   have s1:(W.alloc (.cells Z2 263)).cell? ⟨p,0,none⟩= _:=(World.cell?_alloc_some W _ _ (by rw[ckp];rfl)).trans ckp;have s2:(W.alloc (.cells Z2 263)).cell? ⟨w.heap.size,0,none⟩= _:=(World.cell?_alloc_some W _ _ (by rw[ckb];rfl)).trans ckb;refine hK'.out _ _ ⟨s1,s2⟩ (fun hS2=>?_);clear hK' s1 s2;refine wpAnyH_take (i:=6) (v:= .pointer (some ⟨g,i,none⟩)) rfl (by kernel_rfl) (by kernel_rfl) (by kernel_rfl) (fun _ _ _ h=>h) (Or.inl ⟨by rfl,fun wz hz=>?_⟩) hS2 ?_
   ·obtain⟨z1,z2⟩:=hz
    go_simp
   simp only[Act.put];refine wpAnyH_ready (rs:=[7]) (by kernel_rfl) (by simp) ?_;refine AllReadyH.cons rfl (fun K' hK'=>?_) AllReadyH.nil
   go_simp
   obtain⟨far1,far2,far3⟩:=HT.out.far;have s3:(W.setCell ⟨g,i,none⟩ (.slice (some ⟨W.heap.size,0,none⟩) m1 m1)).cell? ⟨p,0,none⟩= _:=(World.cell?_setCell_far W ⟨g,i,none⟩ ⟨p,0,none⟩ _ (by show g≠p;omega)).trans ckp;have s4:(W.setCell ⟨g,i,none⟩ (.slice (some ⟨W.heap.size,0,none⟩) m1 m1)).cell? ⟨w.heap.size,0,none⟩= _:=(World.cell?_setCell_far W ⟨g,i,none⟩ ⟨w.heap.size,0,none⟩ _ (by show g≠w.heap.size;omega)).trans ckb;refine hK'.out _ _ ⟨(World.cell?_alloc_some _ _ _ (by rw[s3];rfl)).trans s3,(World.cell?_alloc_some _ _ _ (by rw[s4];rfl)).trans s4⟩ (fun _ =>?_);clear hK' s3 s4 hS hS2;refine wpAnyH_done (by kernel_rfl) ?_ _;obtain⟨W1,hW1⟩:∃W1,W1=((W.setCell ⟨g,i,none⟩ (.slice (some ⟨W.heap.size,0,none⟩) m1 m1)).alloc (.cells Z2 263)).drew:=⟨_,rfl⟩;obtain⟨hT1,hrow⟩:=HT.out.row2 (by omega) HM.out.2 HZ.out.2 hW1;have hKO:=(((KeepsOthers.setCell W ⟨g,i,none⟩ (.slice (some ⟨W.heap.size,0,none⟩) m1 m1)).trans (KeepsOthers.alloc _ (.cells Z2 263))).trans (KeepsOthers.drew _))
   have hss:(W.setCell ⟨g,i,none⟩ (.slice (some ⟨W.heap.size,0,none⟩) m1 m1)).heap.size=W.heap.size:=by simp[World.setCell]
   have hBs:W1.heap[wc.heap.size]? =W.heap[wc.heap.size]? :=by
    rw[hW1];exact(Below.heap_alloc _ _ _ (by rw[hss];omega)).trans (Below.heap_setCell _ _ _ _ (by show wc.heap.size≠g;omega))
   have hBW:Below w.heap.size W W1:=by
    rw[hW1];exact(((Below.refl _ W).setCell (by show w.heap.size<=g;omega) _).alloc (by rw[hss];exact HT.out.below.size) _).trans (show Below w.heap.size _ _ from⟨rfl,rfl,rfl,Nat.le_refl _,fun _ _ =>rfl⟩)
   have hsz1:W1.heap.size=W.heap.size+1:=by
    rw[hW1];show((W.setCell ⟨g,i,none⟩ (.slice (some ⟨W.heap.size,0,none⟩) m1 m1)).alloc (.cells Z2 263)).heap.size= _;rw[World.size_alloc,hss]
   rw[<-hW1]at hKO ⊢;have hR2lt:=lt_of_block (HT.out.rows (i+1) (Nat.le_refl _) (by omega))
   have hRlt:∀j,i+1<=j->j<=n->R j<W.heap.size:=fun j h4 h5=>lt_of_block (HT.out.rows j h4 h5)
   have hp1:=lt_of_block HT.out.bp;have hbeh:=hT1.rows (i+1) (Nat.le_refl _) (by omega);have c3:=zd (i:=i) hT1.top (by rw[List.getElem?_toArray];exact zfb (by omega) (Nat.le_refl _));have c4:=zd (i:=i+1) hT1.top (by rw[List.getElem?_toArray];exact zfb (by omega) (by omega));rw[if_pos rfl]at c3;rw[if_neg (by omega)]at c4 hbeh;have HR1:=ze (show(fun j=>if j=i then W.heap.size else R j) i=W.heap.size from if_pos rfl)
   have HR2:=ze (show ∀j,i+1<=j->j<=n->(fun j=>if j=i then W.heap.size else R j) j≠W.heap.size from fun j h4 h5=>by
    show(if j=i then W.heap.size else R j)≠ _;rw[if_neg (by omega)];have:=hRlt j h4 h5
    omega)
   have c1:=zd (i:=0) hT1.bp rfl;have c2:=zd (i:=0) hT1.box rfl;obtain⟨R',hR'⟩:∃R',(fun j=>if j=i then W.heap.size else R j)=R':=⟨_,rfl⟩;rw[hR']at hT1 HR1 HR2;obtain⟨rn,hrn⟩:∃rn,W.heap.size=rn:=⟨_,rfl⟩;obtain⟨R2,hR2⟩:∃R2,R (i+1)=R2:=⟨_,rfl⟩;obtain⟨i2,hi2⟩:∃i2,i+1=i2:=⟨_,rfl⟩;have iw2:IntKind.i64.wrap ((i:Int)+1)=(i2:Int):=(IntWalk.i64_in _ (by have:=HL.out.1;omega)).trans (by omega);have i20:(0:Int)<=(i2:Int):=Int.natCast_nonneg _
   have i21:(i2:Int)<(n1:Int):=by have:=HN.out.2;omega
   have HFILL:=ze (zmi w rn R2 m x (.slice ab m cb) b (f i) (f (i+1)) (fun _ =>0) W1.drew HM.out.1 (by have:=HL.out.2;omega) HB.out (hT1.below.trans ⟨rfl,rfl,rfl,Nat.le_refl _,fun _ _ =>rfl⟩) (by omega) (by rw[<-hR2];omega) (by rw[<-hrn];exact hrow) rfl (by rw[<-hR2];exact hbeh) (HF.out.2.1 i x HX.out) (HF.out.2.2 (i+1)) (HF.out.2.2 i));rw[HM.out.2]at HFILL c3 c4;rw[HN.out.2]at c1;rw[hrn]at c3 HR1 HR2 hrow hsz1 hp1;rw[hi2]at c4;rw[<-hi2,hR2,hi2]at c4;have HT1:=ze hT1;have HROW:=ze hrow;have HKO:=ze hKO;have HBW:=ze hBW;have HBS:=ze hBs;have HRN:=ze hrn;have HI2:=ze hi2;clear hT1 hrow hKO hBW hBs hrn hi2 hR2 hR' hRlt hbeh hW1 ckb ckp ckt zkt hss far3;refine zge.normal ?_
   gi_wp2
   refine zeF (fun wy=>wy.cell? ⟨p,0,none⟩=some (.slice (some ⟨g,0,none⟩) n1 n1)/\wy.cell? ⟨w.heap.size,0,none⟩=some (.slice ab m cb)/\wy.cell? ⟨g,i,none⟩=some (.slice (some ⟨rn,0,none⟩) m1 m1)/\wy.cell? ⟨g,i2,none⟩=some (.slice (some ⟨R2,0,none⟩) m1 m1)) (by kernel_rfl) (by kernel_rfl) ?_;have hS7:(fun wy=>wy.cell? ⟨p,0,none⟩=some (.slice (some ⟨g,0,none⟩) n1 n1)/\wy.cell? ⟨w.heap.size,0,none⟩=some (.slice ab m cb)/\wy.cell? ⟨g,i,none⟩=some (.slice (some ⟨rn,0,none⟩) m1 m1)/\wy.cell? ⟨g,i2,none⟩=some (.slice (some ⟨R2,0,none⟩) m1 m1)) W1.drew:=⟨c1,c2,c3,c4⟩;refine wpAnyH_take (i:=0) (v:= .slice (some ⟨g,0,none⟩) n1 n1) rfl (by kernel_rfl) (by kernel_rfl) (by kernel_rfl) (fun _ _ _ h=>h) (Or.inl ⟨by rfl,fun wz hz=>?_⟩) hS7 ?_
   ·obtain⟨z1,z2,z3,z4⟩:=hz
    go_simp
   simp only[Act.put,List.setIfInBounds_toArray];refine wpAnyH_take (i:=1) (v:= .int .i64 (i:Int)) rfl (by kernel_rfl) (by kernel_rfl) (by kernel_rfl) (fun _ _ _ h=>h) (Or.inl ⟨by rfl,fun wz hz=>?_⟩) hS7 ?_
   ·obtain⟨z1,z2,z3,z4⟩:=hz
    go_simp
   simp only[Act.put];refine wpAnyH_take (i:=2) (v:= .pointer (some ⟨g,i,none⟩)) rfl (by kernel_rfl) (by kernel_rfl) (by kernel_rfl) (fun _ _ _ h=>h) (Or.inl ⟨by rfl,fun wz hz=>?_⟩) hS7 ?_
   ·obtain⟨z1,z2,z3,z4⟩:=hz
    go_simp
   simp only[Act.put];refine wpAnyH_take (i:=3) (v:= .slice (some ⟨rn,0,none⟩) m1 m1) rfl (by kernel_rfl) (by kernel_rfl) (by kernel_rfl) (fun _ _ _ h=>h) (Or.inl ⟨by rfl,fun wz hz=>?_⟩) hS7 ?_
   ·obtain⟨z1,z2,z3,z4⟩:=hz
    go_simp
   simp only[Act.put];refine wpAnyH_take (i:=4) (v:= .slice (some ⟨g,0,none⟩) n1 n1) rfl (by kernel_rfl) (by kernel_rfl) (by kernel_rfl) (fun _ _ _ h=>h) (Or.inl ⟨by rfl,fun wz hz=>?_⟩) hS7 ?_
   ·obtain⟨z1,z2,z3,z4⟩:=hz
    go_simp
   simp only[Act.put];refine wpAnyH_take (i:=5) (v:= .int .i64 (i:Int)) rfl (by kernel_rfl) (by kernel_rfl) (by kernel_rfl) (fun _ _ _ h=>h) (Or.inl ⟨by rfl,fun wz hz=>?_⟩) hS7 ?_
   ·obtain⟨z1,z2,z3,z4⟩:=hz
    go_simp
   simp only[Act.put];refine wpAnyH_take (i:=6) (v:= .int .i64 (i2:Int)) rfl (by kernel_rfl) (by kernel_rfl) (by kernel_rfl) (fun _ _ _ h=>h) (Or.inl ⟨by rfl,fun wz hz=>?_⟩) hS7 ?_
   ·obtain⟨z1,z2,z3,z4⟩:=hz
    go_simp
   simp only[Act.put];refine wpAnyH_take (i:=7) (v:= .pointer (some ⟨g,i2,none⟩)) rfl (by kernel_rfl) (by kernel_rfl) (by kernel_rfl) (fun _ _ _ h=>h) (Or.inl ⟨by rfl,fun wz hz=>?_⟩) hS7 ?_
   ·obtain⟨z1,z2,z3,z4⟩:=hz
    go_simp
   simp only[Act.put];refine wpAnyH_take (i:=8) (v:= .slice (some ⟨R2,0,none⟩) m1 m1) rfl (by kernel_rfl) (by kernel_rfl) (by kernel_rfl) (fun _ _ _ h=>h) (Or.inl ⟨by rfl,fun wz hz=>?_⟩) hS7 ?_
   ·obtain⟨z1,z2,z3,z4⟩:=hz
    go_simp
   simp only[Act.put];refine wpAnyH_take (i:=9) (v:= .string ⟨x.toArray⟩) rfl (by kernel_rfl) (by kernel_rfl) (by kernel_rfl) (fun _ _ _ h=>h) (Or.inl ⟨by rfl,fun wz hz=>?_⟩) hS7 ?_
   ·obtain⟨z1,z2,z3,z4⟩:=hz
    go_simp
   simp only[Act.put];refine wpAnyH_take (i:=10) (v:= .slice ab m cb) rfl (by kernel_rfl) (by kernel_rfl) (by kernel_rfl) (fun _ _ _ h=>h) (Or.inl ⟨by rfl,fun wz hz=>?_⟩) hS7 ?_
   ·obtain⟨z1,z2,z3,z4⟩:=hz
    go_simp
   simp only[Act.put];refine wpAnyH_ready (rs:=[11]) (by kernel_rfl) (by simp) ?_;refine AllReadyH.cons rfl (fun K' hK'=>?_) AllReadyH.nil
   go_simp
   refine HFILL.out.mono ?_;rintro e w6 ⟨⟨v,rfl⟩,hO,hr6⟩;obtain⟨far1,far2,_⟩:=HT1.out.far;have d1:w6.cell? ⟨p,0,none⟩= _:=(World.cell?_of_block (w:=W1) (hO.block p (by omega))).trans c1;have d2:w6.cell? ⟨w.heap.size,0,none⟩= _:=(World.cell?_of_block (w:=W1) (hO.block w.heap.size (by omega))).trans c2;have d3:w6.cell? ⟨g,i,none⟩= _:=(World.cell?_of_block (w:=W1) (hO.block g (by omega))).trans c3;have d4:w6.cell? ⟨g,i2,none⟩= _:=(World.cell?_of_block (w:=W1) (hO.block g (by omega))).trans c4;refine hK'.out _ _ ⟨d1,d2,d3,d4⟩ (fun _ =>?_);clear hK' d1 d2 d3 d4 hS7 c1 c2 c3 c4;refine wpAnyH_done (by kernel_rfl) ?_ _;refine zge.normal ?_;have HO1:=ze (show zaj rn W1 w6 from⟨hO.os,hO.tape,hO.output,hO.size,hO.block⟩);have HR6:=ze hr6;clear hO hr6 HFILL
   gi_wp2
   refine⟨(HKO.out.trans (HO1.out.others' HROW.out)).from _,⟨HBW.out.trans (HO1.out.below (by omega)),(HO1.out.block _ (by have:=HRN.out;omega)).trans HBS.out⟩,R',?_,?_⟩
   ·rw[HIK.out]
    have h6:=HR6.out;rw[<-HM.out.2]at h6;exact ze (HT1.out.fill HR1.out HR2.out (by omega) HO1.out h6)
   ·have h1:=HO1.out.size
    have h2:=HRN.out;omega
  case done=>
   rintro D W hD ⟨R,HT,hWz⟩ hK;obtain⟨R',HT',_⟩:=(znL (B:=w9.heap.size) (Z:=w9.heap.size) (w:=w) (vB:= .slice ab m cb) (n:=n) (m:=m) (g:=g) (p:=p) (f:=f) HT9.out.below.size).putObj (.deferred none) (s:=a.length) ⟨R,HT,hWz⟩ hD hK rfl;rw[HN.out.1,Nat.sub_self]at HT HT';have ckp:=zd (i:=0) HT.out.bp rfl;rw[HN.out.2]at ckp;have HTAB:=ze HT'.out.tab;rw[HN.out.2]at HTAB;clear HT'
   dsimp only
   go_wp2_with fail;refine⟨by simp,.inl ⟨_,_,rfl,run_takeDeferred hK,?_⟩⟩;refine⟨.slice (some ⟨g,0,none⟩) n1 n1,results_tmp (show Tryz.f209.results= #[.tmp 4]from rfl) _ _ _,_,rfl,HTAB.out,HT.out.below.trans (belowK_b (w:=w) (Nat.le_refl _) W D _ _ (by have:=HT9.out.below.size;omega) hK rfl rfl)⟩
end
open Go.RowKit
theorem Aside.none(w0 w:World)(v:Value):Aside 0 0 w0 w v:=⟨fun _ _ => .inr (Nat.zero_le _),fun b _ h2=>by omega⟩
section
theorem zoS(w0:World)(l va vb:Value)(es:List (Int × List UInt8))(a b:List (List UInt8))(w:World)(hO:xE w w0.heap.size l es)(ha:Sl w0 va (zj a))(hb:Sl w0 vb (zj b))(hbel:Below w0.heap.size w0 w)(hel:es.length<=1000000)(hal:a.length<=60000)(hbl:b.length<=60000):
  Calls Tryz.prog 191 #[l,va,vb] w fun e w'=>∃l',e= .returned l'/\xE w' w0.heap.size l' (es++kJ a b)/\Below w0.heap.size w0 w':=by
 obtain⟨aa,ca,rfl⟩:=ha.form;obtain⟨ab,cb,rfl⟩:=hb.form;have HR:=ze (zmC _ _ a b w (Sl.old ha hbel) (Sl.old hb hbel) hal hbl);rw[zk]at ha hb HR ⊢;rw[zk]at HR ⊢;obtain⟨p,hp⟩:∃p,a.length=p:=⟨_,rfl⟩;obtain⟨q,hq⟩:∃q,b.length=q:=⟨_,rfl⟩;rw[hp]at ha hal HR ⊢;rw[hq]at hb hbl HR ⊢;have HA:=ze ha;have HB:=ze hb;have HP:=ze hp;have HQ:=ze hq;have HO:=ze hO;have HL:=ze (And.intro hel (And.intro hal hbl));have hw0:=hbel.size;have HBEL:=ze hbel;clear ha hb hp hq hO hel hal hbl hbel
 go_enter Tryz.func191,Tryz.ntmps191
 go_wp2_with fail;refine HR.out.mono ?_;rintro e w1 ⟨t,rfl,ht,hb2⟩;have hbw1:Below w0.heap.size w0 w1:=zi HBEL.out hb2 hw0;have HO1:=ze (show xE w1 w0.heap.size l es from xE.old HO.out hb2);have HA1:=ze (show Aside w.heap.size w1.heap.size w1 w1 l from⟨fun j hj=> .inl (HO.out.lt j hj).2,fun _ _ _ =>rfl⟩);obtain⟨g,hg,rfl,ht'⟩:=ht;have HT:=ze (show zoR .u16 w1 w.heap.size (.slice (some ⟨g,0,none⟩) (p+1) (p+1)) p q (fun i k=>lcs (a.drop i) (b.drop k))from⟨g,hg,rfl,ht'⟩);obtain⟨p1,hp1⟩:∃n,p+1=n:=⟨_,rfl⟩;obtain⟨q1,hq1⟩:∃n,q+1=n:=⟨_,rfl⟩;rw[hp1];have HP1:=ze hp1;have HQ1:=ze hq1;clear ht' hg hp1 hq1 HO HR HBEL hb2 hw0;go_wp2_with fail
 go_loopg [0,8,9] (p+q) (fun gg l i j wr=>∃ (I J:Nat) (E:List (Int × List UInt8)),I<=p/\J<=q/\gg=(p-I) +(q-J)/\i= .int .i64 I/\j= .int .i64 J/\Hid (E++kJ (a.drop I) (b.drop J)=es++kJ a b)/\Hid (xE wr w0.heap.size l E)/\Hid (E.length<=es.length+I+J)/\Hid (Aside w.heap.size w1.heap.size w1 wr l)/\w1.heap.size<=wr.heap.size/\Below w0.heap.size w0 wr)
 case atStart=>exact⟨0,0,es,Nat.zero_le _,Nat.zero_le _,by omega,rfl,rfl,ze rfl,HO1,ze (by omega),HA1,Nat.le_refl _,hbw1⟩
 case round=>
  clear HO1 HA1 hbw1;obtain⟨I,J,E,hI,hJ,rfl,rfl,rfl,HG,HE,HN,HS,hZr,hbr⟩:=hrel;have hzr:=hbr.size;have I0:(0:Int)<=(I:Int):=Int.natCast_nonneg _;have J0:(0:Int)<=(J:Int):=Int.natCast_nonneg _;have HLE:=ze (show E.length+p+q<=3000000 by have h1:=HN.out;have h2:=HL.out.1;have h3:=HL.out.2.1;have h4:=HL.out.2.2;omega);obtain⟨I2,hI2⟩:∃n,I+1=n:=⟨_,rfl⟩;obtain⟨J2,hJ2⟩:∃n,J+1=n:=⟨_,rfl⟩;have Iw2:IntKind.i64.wrap ((I:Int)+1)=(I2:Int):=(IntWalk.i64_in _ (by have:=HLE.out;omega)).trans (by omega);have Jw2:IntKind.i64.wrap ((J:Int)+1)=(J2:Int):=(IntWalk.i64_in _ (by have:=HLE.out;omega)).trans (by omega);have HI2:=ze hI2;have HJ2:=ze hJ2
  by_cases hi:I<p
  ·have hi':(I:Int)<(p:Int):=by omega
   by_cases hj:J<q
   ·have hj':(J:Int)<(q:Int):=by omega
    obtain⟨a1,x,rfl,hcx,hx⟩:=(Sl.old HA.out hbr).strAt' (i:=I) (by rw[HP.out];exact hi);obtain⟨a2,y,rfl,hcy,hy⟩:=(Sl.old HB.out hbr).strAt' (i:=J) (by rw[HQ.out];exact hj);have HX:=ze hx;have HY:=ze hy;clear hx hy
    by_cases hxy:x=y
    ·subst hxy
     have hbe:(x==x)=true:=by simp
     obtain⟨ao,c,rc,hc⟩:=kD HA.out I I2 (by have:=HI2.out;omega) (by have:=HI2.out;rw[HP.out];omega);rw[show I2-I=1 by have:=HI2.out;omega]at rc hc;rw[show(a.drop I).take 1=[x] by rw[yP HX.out];rfl]at hc;have HC:=ze hc;clear hc hI2 hJ2;go_wp2_with fail;go_quiet (fail);have hS':=ze (HS.out.drew nq);have hE':=ze (HE.out.drew nq);have hb':Below w0.heap.size w0 (wr.drewN nq):=zi hbr (zm _ _) hzr;have hZ':w1.heap.size<=(wr.drewN nq).heap.size:=hZr;clear hcx hcy hbr hzr hZr HS HE;generalize wr.drewN nq=wa at hS' hE' hb' hZ' ⊢
     go_wp2_with (go_at_call 190;refine(kH w0 _ _ E 1 [x] _ hE'.out HC.out hb' (by have:=HLE.out;simp;omega) w.heap.size w1.heap.size w1 hZ' hS'.out).mono ?_;rintro e w5 ⟨l5,rfl,hO5,hb5,hz5,hA5⟩;have HO5:=ze hO5;have HA5:=ze hA5;clear hO5 hA5)
     have HG':=ze (show(E++[((1:Int),x)])++kJ (a.drop I2) (b.drop J2)=es++kJ a b by
      rw[<-HG.out,yP HX.out,yP HY.out,kG,if_pos rfl,HI2.out,HJ2.out,List.append_assoc]
      rfl)
     have HN':=ze (show(E++[((1:Int),x)]).length<=es.length+I2+J2 by have h1:=HN.out;have h2:=HI2.out;have h3:=HJ2.out;rw[List.length_append];simp;omega)
     go_roundg ((p-I2) +(q-J2))
     case measure=>have h2:=HI2.out;have h3:=HJ2.out;omega
     case rel=>exact⟨I2,J2,_,by have h2:=HI2.out;omega,by have h3:=HJ2.out;omega,rfl,rfl,rfl,HG',HO5,HN',HA5,Nat.le_trans hZ' hz5,hb5⟩
    ·have hbe:(x==y)=false:=by simpa using hxy
     obtain⟨g',hg',eg,ht⟩:=HT.out.old (w':=wr) (fun b h1 h2=>HS.out.kept b h1 h2);simp only[Value.slice.injEq,Option.some.injEq,Addr.mk.injEq,and_true]at eg;obtain rfl:=eg;obtain⟨r1,hr1,e1,e2⟩:=ht I2 (by omega);obtain⟨r0,hr0,e3,e4⟩:=ht I (by omega);have e2:=e2 J (by omega);have e4:=e4 J2 (by omega);rw[HQ1.out]at e1 e3;obtain⟨V,hV⟩:∃V,lcs (a.drop I2) (b.drop J)=V:=⟨_,rfl⟩;obtain⟨U,hU⟩:∃U,lcs (a.drop I) (b.drop J2)=U:=⟨_,rfl⟩
     have e2:wr.cell? ⟨r1,J,none⟩=some (.int .u16 (V:Nat)):=by rw[<-hV];exact e2
     have e4:wr.cell? ⟨r0,J2,none⟩=some (.int .u16 (U:Nat)):=by rw[<-hU];exact e4
     have I20:(0:Int)<=(I2:Int):=Int.natCast_nonneg _;have J20:(0:Int)<=(J2:Int):=Int.natCast_nonneg _
     have g1:(I:Int)<(p1:Int):=by have:=HP1.out;omega
     have g2:(I2:Int)<(p1:Int):=by have:=HP1.out;omega
     have g3:(J:Int)<(q1:Int):=by have:=HQ1.out;omega
     have g4:(J2:Int)<(q1:Int):=by have:=HQ1.out;omega
     clear hg' hr1 hr0 ht hI2 hJ2
     by_cases hUV:U<=V
     ·have hUV':(U:Int)<=(V:Int):=by omega
      have HF:=ze (show kJ (a.drop I) (b.drop J)=((2:Int),x)::kJ (a.drop I2) (b.drop J) by
       have dx:=yP HX.out;have dy:=yP HY.out;rw[HI2.out]at dx;rw[HJ2.out]at dy
       rw[dx,dy,kG,if_neg hxy,<-dy,if_pos (by rw[<-dx,hV,hU];exact hUV)])
      clear hV hU hUV;obtain⟨ao,c,rc,hc⟩:=kD HA.out I I2 (by have:=HI2.out;omega) (by have:=HI2.out;rw[HP.out];omega);rw[show I2-I=1 by have:=HI2.out;omega]at rc hc;rw[show(a.drop I).take 1=[x] by rw[yP HX.out];rfl]at hc;have HC:=ze hc;clear hc;go_wp2_with fail;go_quiet (fail);have hS':=ze (HS.out.drew nq);have hE':=ze (HE.out.drew nq);have hb':Below w0.heap.size w0 (wr.drewN nq):=zi hbr (zm _ _) hzr;have hZ':w1.heap.size<=(wr.drewN nq).heap.size:=hZr;have k1:(wr.drewN nq).cell? ⟨g,I2,none⟩= _:=e1;have k2:(wr.drewN nq).cell? ⟨r1,J,none⟩= _:=e2;have k3:(wr.drewN nq).cell? ⟨g,I,none⟩= _:=e3;have k4:(wr.drewN nq).cell? ⟨r0,J2,none⟩= _:=e4;clear hcx hcy hbr hzr hZr HS HE e1 e2 e3 e4;generalize wr.drewN nq=wa at hS' hE' hb' hZ' k1 k2 k3 k4 ⊢;go_wp2_with fail;go_quiet (fail);have hS2:=ze (hS'.out.drew nq);have hE2:=ze (hE'.out.drew nq);have hb2:Below w0.heap.size w0 (wa.drewN nq):=zi hb' (zm _ _) hb'.size;have hZ2:w1.heap.size<=(wa.drewN nq).heap.size:=hZ';clear hS' hE' hb' hZ' k1 k2 k3 k4;generalize wa.drewN nq=wb at hS2 hE2 hb2 hZ2 ⊢;have hS':=hS2;have hE':=hE2;have hb':=hb2;have hZ':=hZ2;clear hS2 hE2 hb2 hZ2
      go_wp2_with (go_at_call 190;refine(kH w0 _ _ E 2 [x] _ hE'.out HC.out hb' (by have:=HLE.out;simp;omega) w.heap.size w1.heap.size w1 hZ' hS'.out).mono ?_;rintro e w5 ⟨l5,rfl,hO5,hb5,hz5,hA5⟩;have HO5:=ze hO5;have HA5:=ze hA5;clear hO5 hA5)
      have HG':=ze (show(E++[((2:Int),x)])++kJ (a.drop I2) (b.drop J)=es++kJ a b by
       rw[<-HG.out,HF.out,List.append_assoc]
       rfl)
      have HN':=ze (show(E++[((2:Int),x)]).length<=es.length+I2+J by have h1:=HN.out;have h2:=HI2.out;have h3:=HJ2.out;rw[List.length_append];simp;omega)
      go_roundg ((p-I2) +(q-J))
      case measure=>have h2:=HI2.out;have h3:=HJ2.out;omega
      case rel=>exact⟨I2,J,_,by have h2:=HI2.out;omega,by have h3:=HJ2.out;omega,rfl,rfl,rfl,HG',HO5,HN',HA5,Nat.le_trans hZ' hz5,hb5⟩
     ·have hUV':¬(U:Int)<=(V:Int):=by omega
      have HF:=ze (show kJ (a.drop I) (b.drop J)=((3:Int),y)::kJ (a.drop I) (b.drop J2) by
       have dx:=yP HX.out;have dy:=yP HY.out;rw[HI2.out]at dx;rw[HJ2.out]at dy
       rw[dx,dy,kG,if_neg hxy,<-dy,if_neg (by rw[<-dx,hV,hU];exact hUV),<-dx])
      clear hV hU hUV;obtain⟨ao,c,rc,hc⟩:=kD HB.out J J2 (by have:=HJ2.out;omega) (by have:=HJ2.out;rw[HQ.out];omega);rw[show J2-J=1 by have:=HJ2.out;omega]at rc hc;rw[show(b.drop J).take 1=[y] by rw[yP HY.out];rfl]at hc;have HC:=ze hc;clear hc;go_wp2_with fail;go_quiet (fail);have hS':=ze (HS.out.drew nq);have hE':=ze (HE.out.drew nq);have hb':Below w0.heap.size w0 (wr.drewN nq):=zi hbr (zm _ _) hzr;have hZ':w1.heap.size<=(wr.drewN nq).heap.size:=hZr;have k1:(wr.drewN nq).cell? ⟨g,I2,none⟩= _:=e1;have k2:(wr.drewN nq).cell? ⟨r1,J,none⟩= _:=e2;have k3:(wr.drewN nq).cell? ⟨g,I,none⟩= _:=e3;have k4:(wr.drewN nq).cell? ⟨r0,J2,none⟩= _:=e4;clear hcx hcy hbr hzr hZr HS HE e1 e2 e3 e4;generalize wr.drewN nq=wa at hS' hE' hb' hZ' k1 k2 k3 k4 ⊢;go_wp2_with fail;go_quiet (fail);have hS2:=ze (hS'.out.drew nq);have hE2:=ze (hE'.out.drew nq);have hb2:Below w0.heap.size w0 (wa.drewN nq):=zi hb' (zm _ _) hb'.size;have hZ2:w1.heap.size<=(wa.drewN nq).heap.size:=hZ';clear hS' hE' hb' hZ' k1 k2 k3 k4;generalize wa.drewN nq=wb at hS2 hE2 hb2 hZ2 ⊢;have hS':=hS2;have hE':=hE2;have hb':=hb2;have hZ':=hZ2;clear hS2 hE2 hb2 hZ2
      go_wp2_with (go_at_call 190;refine(kH w0 _ _ E 3 [y] _ hE'.out HC.out hb' (by have:=HLE.out;simp;omega) w.heap.size w1.heap.size w1 hZ' hS'.out).mono ?_;rintro e w5 ⟨l5,rfl,hO5,hb5,hz5,hA5⟩;have HO5:=ze hO5;have HA5:=ze hA5;clear hO5 hA5)
      have HG':=ze (show(E++[((3:Int),y)])++kJ (a.drop I) (b.drop J2)=es++kJ a b by
       rw[<-HG.out,HF.out,List.append_assoc]
       rfl)
      have HN':=ze (show(E++[((3:Int),y)]).length<=es.length+I+J2 by have h1:=HN.out;have h2:=HI2.out;have h3:=HJ2.out;rw[List.length_append];simp;omega)
      go_roundg ((p-I) +(q-J2))
      case measure=>have h2:=HI2.out;have h3:=HJ2.out;omega
      case rel=>exact⟨I,J2,_,by have h2:=HI2.out;omega,by have h3:=HJ2.out;omega,rfl,rfl,rfl,HG',HO5,HN',HA5,Nat.le_trans hZ' hz5,hb5⟩
   ·have hj':¬(J:Int)<(q:Int):=by omega
    have HF:=ze (show kJ (a.drop I) (b.drop J)=((a.drop I).map fun x=>((2:Int),x)) ++(b.drop J).map fun x=>((3:Int),x) by
     rw[List.drop_of_length_le (l:=b) (by rw[HQ.out];omega),zjo]
     simp)
    obtain⟨ao,c,rc,hc⟩:=xG HA.out I (by rw[HP.out];exact hI);obtain⟨bo,d,rd,hd⟩:=xG HB.out J (by rw[HQ.out];exact hJ);rw[HP.out]at rc hc;rw[HQ.out]at rd hd;have HC:=ze hc;have HD:=ze hd
    have I1:(I:Int)<=(p:Int):=by omega
    have J1:(J:Int)<=(q:Int):=by omega
    have hd1:Below w0.heap.size w0 wr.drew:=zi hbr (show Below wr.heap.size wr wr.drew from⟨rfl,rfl,rfl,Nat.le_refl _,fun _ _ =>rfl⟩) hzr;have H1:=ze (kH w0 _ _ E 2 (a.drop I) wr.drew (show xE wr.drew _ _ _ from HE.out) HC.out hd1 (by have:=HLE.out;rw[List.length_drop,HP.out];omega) 0 0 w (Nat.zero_le _) (Aside.none _ _ _));have HLD:=ze (show(E ++(a.drop I).map fun x=>((2:Int),x)).length +(b.drop J).length<=4000000 by have:=HLE.out;rw[List.length_append,List.length_map,List.length_drop,List.length_drop,HP.out,HQ.out];omega);clear hc hd hI2 hJ2;go_wp2_with fail
    go_region_held3 (fun _ =>True) (trivial) ((first
     |(go_at_call 190;with_reducible refine H1.out.mono ?_;rintro e w5 ⟨l5,rfl,hO5,hb5,hz5,hA5⟩;clear H1)
     |(go_at_call 190;with_reducible refine(kH w0 l5 _ _ 3 (b.drop J) _ hO5 HD.out hb5 HLD.out 0 0 w (Nat.zero_le _) (Aside.none _ _ _)).mono ?_;rintro e w6 ⟨l6,rfl,hO6,hb6,hz6,hA6⟩)))
    go_wp2_with fail;go_ret;refine⟨_,rfl,?_,hb6⟩;rw[<-HG.out,HF.out,<-List.append_assoc];exact hO6
  ·have hi':¬(I:Int)<(p:Int):=by omega
   have HF:=ze (show kJ (a.drop I) (b.drop J)=((a.drop I).map fun x=>((2:Int),x)) ++(b.drop J).map fun x=>((3:Int),x) by
    rw[List.drop_of_length_le (l:=a) (by rw[HP.out];omega),kj]
    simp)
   obtain⟨ao,c,rc,hc⟩:=xG HA.out I (by rw[HP.out];exact hI);obtain⟨bo,d,rd,hd⟩:=xG HB.out J (by rw[HQ.out];exact hJ);rw[HP.out]at rc hc;rw[HQ.out]at rd hd;have HC:=ze hc;have HD:=ze hd
   have I1:(I:Int)<=(p:Int):=by omega
   have J1:(J:Int)<=(q:Int):=by omega
   have hd1:Below w0.heap.size w0 wr.drew:=zi hbr (show Below wr.heap.size wr wr.drew from⟨rfl,rfl,rfl,Nat.le_refl _,fun _ _ =>rfl⟩) hzr;have H1:=ze (kH w0 _ _ E 2 (a.drop I) wr.drew (show xE wr.drew _ _ _ from HE.out) HC.out hd1 (by have:=HLE.out;rw[List.length_drop,HP.out];omega) 0 0 w (Nat.zero_le _) (Aside.none _ _ _));have HLD:=ze (show(E ++(a.drop I).map fun x=>((2:Int),x)).length +(b.drop J).length<=4000000 by have:=HLE.out;rw[List.length_append,List.length_map,List.length_drop,List.length_drop,HP.out,HQ.out];omega);clear hc hd hI2 hJ2;go_wp2_with fail
   go_region_held3 (fun _ =>True) (trivial) ((first
    |(go_at_call 190;with_reducible refine H1.out.mono ?_;rintro e w5 ⟨l5,rfl,hO5,hb5,hz5,hA5⟩;clear H1)
    |(go_at_call 190;with_reducible refine(kH w0 l5 _ _ 3 (b.drop J) _ hO5 HD.out hb5 HLD.out 0 0 w (Nat.zero_le _) (Aside.none _ _ _)).mono ?_;rintro e w6 ⟨l6,rfl,hO6,hb6,hz6,hA6⟩)))
   go_wp2_with fail;go_ret;refine⟨_,rfl,?_,hb6⟩;rw[<-HG.out,HF.out,<-List.append_assoc];exact hO6
end
open Go.RowKit
section
theorem zgk(va vb:Value)(a b:List (List UInt8))(w:World)(ha:Sl w va (zj a))(hb:Sl w vb (zj b))(hal:a.length<=1000000)(hbl:b.length<=1000000):
  Calls Tryz.prog 171 #[va,vb] w fun e w'=>∃l,e= .returned l/\xE w' w.heap.size l (zU a b)/\Below w.heap.size w w':=by
 obtain⟨aa,ca,rfl⟩:=ha.form;obtain⟨ab,cb,rfl⟩:=hb.form;have HAl:=ze (zhz _ _ a b w ha hb hal);rw[zk]at ha hb HAl ⊢;rw[zk]at HAl ⊢;have HA:=ze ha;have HB:=ze hb;have HL:=ze (And.intro hal hbl);clear ha hb
 go_enter Tryz.func171,Tryz.ntmps171
 go_wp2_with fail;refine HAl.out.mono ?_;rintro e w1 ⟨k,rfl,⟨hka,hkb,hE,hmax⟩,hb1⟩;have HS:=ze (zhY hE hmax);obtain⟨ho,tc,rt,ht⟩:=zjK HA.out k hka;obtain⟨fo,fc,rf,hf⟩:=xG HA.out k hka;obtain⟨so,sc,rs,hs⟩:=xG HB.out k hkb;have k0:(0:Int)<=(k:Int):=Int.natCast_nonneg _
 have k1:(k:Int)<=(a.length:Int):=by omega
 have k2:(k:Int)<=(b.length:Int):=by omega
 obtain⟨E,hEE⟩:∃E,(a.take k).map (fun x=>((1:Int),x))=E:=⟨_,rfl⟩;obtain⟨c,hc⟩:∃c,a.drop k=c:=⟨_,rfl⟩;obtain⟨d,hd⟩:∃d,b.drop k=d:=⟨_,rfl⟩;obtain⟨p,hp⟩:∃p,a.length-k=p:=⟨_,rfl⟩;obtain⟨q,hq⟩:∃q,b.length-k=q:=⟨_,rfl⟩;have HCP:=ze (show c.length=p by rw[<-hc,List.length_drop];exact hp);have HDQ:=ze (show d.length=q by rw[<-hd,List.length_drop];exact hq);have HEL:=ze (show E.length<=1000000 by rw[<-hEE,List.length_map,List.length_take];omega);have HPQ:=ze (show p<=1000000/\q<=1000000 by omega);rw[hEE,hc,hd]at HS;rw[hc,hp]at hf;rw[hd,hq]at hs;rw[hp]at rf;rw[hq]at rs;have HTK:=ze ht;have HC:=ze hf;have HD:=ze hs;have H1:=ze (kH w (.slice none 0 0) _ [] 1 (a.take k) w1 (xE.nil _ _) ht hb1 (by rw[List.length_take];simp;omega) 0 0 w (Nat.zero_le _) (Aside.none _ _ _));rw[hEE]at H1;clear ht hf hs hE hmax hEE hc hd hp hq HAl hka hkb
 go_wp2_with (go_at_call 190;refine H1.out.mono ?_;rintro e w2 ⟨l2,rfl,hO2,hb2,hz2,hA2⟩;clear H1 hA2 hz2;have HO2:=ze hO2;clear hO2)
 go_quiet (fail);have hO3:=ze (HO2.out.drew nq);have hb3:Below w.heap.size w (w2.drewN nq):=zi hb2 (zm _ _) hb2.size;clear HO2 hb2;generalize w2.drewN nq=w3 at hO3 hb3 ⊢;rw[List.nil_append]at hO3
 by_cases hlong:400<p∨400<q
 ·have HR:=ze (show zU a b=E ++((c.map fun x=>((2:Int),x))++d.map fun x=>((3:Int),x)) by
   rw[HS.out,qh,if_pos (show zaf c d by unfold zaf;rw[HCP.out,HDQ.out];exact hlong)])
  have hsplit:(400:Int)<(p:Int)∨(¬(400:Int)<(p:Int)/\(400:Int)<(q:Int)):=by omega
  clear hlong HS;have H2:=ze (kH w _ _ E 2 c w3 hO3.out HC.out hb3 (by have h1:=HEL.out;have h2:=HPQ.out.1;rw[HCP.out];omega) 0 0 w (Nat.zero_le _) (Aside.none _ _ _));have HLD:=ze (show(E++c.map fun x=>((2:Int),x)).length+d.length<=4000000 by have h1:=HEL.out;have h2:=HPQ.out;rw[List.length_append,List.length_map,HCP.out,HDQ.out];omega)
  rcases hsplit with hs1 |⟨hs1,hs2⟩
  all_goals
   go_wp2_with (first
    |(go_at_call 190;with_reducible refine H2.out.mono ?_;rintro e w5 ⟨l5,rfl,hO5,hb5,hz5,hA5⟩;clear H2)
    |(go_at_call 190;with_reducible refine(kH w l5 _ _ 3 d _ hO5 HD.out hb5 HLD.out 0 0 w (Nat.zero_le _) (Aside.none _ _ _)).mono ?_;rintro e w6 ⟨l6,rfl,hO6,hb6,hz6,hA6⟩))
   go_ret;refine⟨_,rfl,?_,hb6⟩;rw[HR.out,<-List.append_assoc];exact hO6
 ·have HR:=ze (show zU a b=E++kJ c d by
   rw[HS.out,qh,if_neg (show ¬zaf c d by unfold zaf;rw[HCP.out,HDQ.out];exact hlong)])
  have hs1:¬(400:Int)<(p:Int):=by omega
  have hs2:¬(400:Int)<(q:Int):=by omega
  have H2:=ze (zoS w _ _ _ E c d w3 hO3.out HC.out HD.out hb3 HEL.out (by rw[HCP.out];omega) (by rw[HDQ.out];omega));clear hlong HS
  go_wp2_with (go_at_call 191;refine H2.out.mono ?_;rintro e w6 ⟨l6,rfl,hO6,hb6⟩)
  go_ret;refine⟨_,rfl,?_,hb6⟩;rw[HR.out];exact hO6
end
end Go.Proofs.YtbnafihigoekeaaGreatDoor

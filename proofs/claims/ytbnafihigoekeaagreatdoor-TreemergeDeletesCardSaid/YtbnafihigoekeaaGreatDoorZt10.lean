/-
  TmTl, part 10.
-/
import Derived.Test.YtbnafihigoekeaaGreatDoorZt7
import Derived.Deep.DeepCutAuto
import Derived.Deep.CutBlock
set_option maxRecDepth 100000
set_option maxHeartbeats 8000000
namespace Go.Proofs.YtbnafihigoekeaaGreatDoor
open Go.RowKit
section
variable{w:World}
theorem zC{ops:Array Oper}{rest:List Oper}{o:Oper}{a:Act}{Q:Exit->Act->World->Prop}(hgd:o.guard=none)(s sx:Operand)
  (ho:o.op= .call {callee:= .builtin .append,args:= #[s,sx],argTypes:= #[96,96] })
  (base:Nat) (v:Value) (xs ys:List (List UInt8)) (he:a.eval s=v) (hown:w.ownsRow base 9 1 v xs.length (zj xs)) (u:Value) (hx:a.eval sx=u) (hu:Sl w u (zj ys))
  (hlen:xs.length+ys.length<=4000000000) (hbase:base<=w.heap.size)
  (h:∀v' w',w'.ownsRow base 9 1 v' (xs++ys).length (zj (xs++ys))->Below base w w'->wpList Tryz.prog ops Q rest (a.put o.dst v') w'):wpList Tryz.prog ops Q (o::rest) a w:=by
 obtain⟨i0,hi0,hi1,hi2,hi3⟩:=info_parts Tryz.infoStr;have hs:=hu.src (P:=Tryz.prog) Tryz.underlying96 (zgC _);rw[zk]at hs
 refine yd w hgd s sx _ _ ho base 9 i0 _ 1 16 Tryz.underlying96 hi0 hi1 hi2 hi3 rfl (by omega) v _ _ he hown u _ _ hx hs (by unfold maxLen;omega) (by omega) hbase fun v' w' h2 h3 h4=>h v' w' ?_ ?_
 ·rw[List.length_append,yW]
  exact h2
 ·exact(Below.refl base w).grown h3 hbase (fun j hj=>(hown.lt j hj).1)
structure zsh(w:World)(base:Nat)(v u:Value)(xs ys:List (List UInt8)):Prop where
 one:w.ownsRow base 9 1 v xs.length (zj xs)
 two:w.ownsRow base 9 1 u ys.length (zj ys)
 apart:∀g,v.ownBlock=some g->u.ownBlock≠some g
theorem zsh.nil(w:World)(base:Nat):zsh w base (.slice none 0 0) (.slice none 0 0) [] []:=⟨World.ownsRow_nil _ _ _ _,World.ownsRow_nil _ _ _ _,fun g h=>by cases h⟩
end
open Go.RowKit
section
theorem zhK(va vb:Value)(a b:List (List UInt8))(w:World)(ha:Sl w va (zj a))(hb:Sl w vb (zj b))(hal:a.length<=1000000)(hbl:b.length<=1000000):
  Calls Tryz.prog 85 #[va,vb] w fun e w'=>∃t,e= .returned t/\zio w' w.heap.size t a.length b.length (fun i k=>lcs (a.drop i) (b.drop k))/\Below w.heap.size w w':=by
 obtain⟨i0,hi0,hi1,hi2,hi3⟩:=info_parts Tryz.infoI;obtain⟨i9,hj0,hj1,hj2,hj3⟩:=info_parts Tryz.infoSlI;obtain⟨aa,ca,rfl⟩:=ha.form;obtain⟨ab,cb,rfl⟩:=hb.form;rw[zk]at ha hb ⊢;rw[zk];obtain⟨n,hn⟩:∃n,a.length=n:=⟨_,rfl⟩;obtain⟨m,hm⟩:∃m,b.length=m:=⟨_,rfl⟩;rw[hn]at ha hal ⊢;rw[hm]at hb hbl ⊢;obtain⟨n1,hn1⟩:∃n1,n+1=n1:=⟨_,rfl⟩;obtain⟨m1,hm1⟩:∃m1,m+1=m1:=⟨_,rfl⟩;have nw:IntKind.i64.wrap ((n:Int)+1)=(n1:Int):=(IntWalk.i64_in _ (by omega)).trans (by omega);have mw:IntKind.i64.wrap ((m:Int)+1)=(m1:Int):=(IntWalk.i64_in _ (by omega)).trans (by omega)
 have mk1:=fun wx:World=>qQ (P:=Tryz.prog) wx 131 75 i9 (.slice none 0 0) Tryz.underlying131 hj0 hj1 hj2 rfl n1 (by rw[hj3];omega) (by omega)
 have mk2:=fun wx:World=>qQ (P:=Tryz.prog) wx 75 3 i0 (.int .i64 0) Tryz.underlying75 hi0 hi1 hi2 rfl m1 (by rw[hi3];omega) (by omega)
 obtain⟨f,hf⟩:∃f:Nat->Nat->Nat,f=fun i k=>lcs (a.drop i) (b.drop k):=⟨_,rfl⟩
 rw[<-hf]
 have f0:∀k,f n k=0:=fun k=>by rw[hf];show lcs (a.drop n) _ =0;rw[List.drop_of_length_le (l:=a) (by omega),xR]
 have f1:∀i,f i m=0:=fun i=>by rw[hf];show lcs _ (b.drop m)=0;rw[List.drop_of_length_le (l:=b) (by omega),xg]
 have fe:∀i k x,a[i]? =some x->b[k]? =some x->f i k=f (i+1) (k+1)+1:=fun i k x h1 h2=>by
  obtain⟨q1,e1⟩:=List.getElem?_eq_some_iff.1 h1;obtain⟨q2,e2⟩:=List.getElem?_eq_some_iff.1 h2;rw[hf];show lcs (a.drop i) (b.drop k)= _;rw[List.drop_eq_getElem_cons q1,List.drop_eq_getElem_cons q2,e1,e2,xD]
 have fn:∀i k x y,a[i]? =some x->b[k]? =some y->x≠y->f i k=max (f (i+1) k) (f i (k+1)):=fun i k x y h1 h2 hne=>by
  obtain⟨q1,e1⟩:=List.getElem?_eq_some_iff.1 h1;obtain⟨q2,e2⟩:=List.getElem?_eq_some_iff.1 h2;rw[hf];show lcs (a.drop i) (b.drop k)=max (lcs (a.drop (i+1)) (b.drop k)) (lcs (a.drop i) (b.drop (k+1)));rw[List.drop_eq_getElem_cons q1,List.drop_eq_getElem_cons q2,e1,e2,jo hne,<-e1,<-e2,<-List.drop_eq_getElem_cons q1,<-List.drop_eq_getElem_cons q2]
 have hfm:∀i k,f i k<=n:=fun i k=>by
  rw[hf];have:=(zav (a.drop i) (b.drop k)).1;rw[List.length_drop]at this;show lcs (a.drop i) (b.drop k)<=n;omega
 obtain⟨Z1,hZ1⟩:∃Z,(List.replicate n1 (Value.slice none 0 0)).toArray=Z:=⟨_,rfl⟩;obtain⟨Z2,hZ2⟩:∃Z,(List.replicate m1 (Value.int .i64 0)).toArray=Z:=⟨_,rfl⟩;rw[hZ1]at mk1;rw[hZ2]at mk2;have hg0:((w.alloc (.cells Z1 75)).alloc (.cells Z2 3)).heap[w.heap.size]? =some (.cells Z1 75 (0,0)):=heap_alloc2_old w _ _;have hg1:((w.alloc (.cells Z1 75)).alloc (.cells Z2 3)).heap[w.heap.size+1]? =some (.cells Z2 3 (0,0)):=heap_alloc2_new w _ _;have c0:=zd (i:=n) (v:= .slice none 0 0) hg0 (by rw[<-hZ1,List.getElem?_toArray,List.getElem?_replicate,if_pos (by omega)]);have z0:=zo (i:=n) hg0
 have hn2:(n:Int)<(n1:Int):=by omega
 have nn0:(0:Int)<=(n:Int):=Int.natCast_nonneg _
 have hT0:zhk w ((w.alloc (.cells (Z1.setIfInBounds n (.slice (some ⟨w.heap.size+1,0,none⟩) m1 m1)) 75)).alloc (.cells Z2 3)) n m f n:=by
  have e:=zfy (fun j=>Value.slice (some ⟨w.heap.size+1 +(n-j),0,none⟩) (m+1) (m+1)) (.slice none 0 0) (n+1) n (by omega);simp only[Nat.sub_self,Nat.add_zero,hm1]at e
  have e3:Z1.setIfInBounds n (.slice (some ⟨w.heap.size+1,0,none⟩) m1 m1)=(jg (fun j=>Value.slice (some ⟨w.heap.size+1 +(n-j),0,none⟩) m1 m1) (.slice none 0 0) (n+1) n).toArray:=by
   rw[<-hZ1,List.setIfInBounds_toArray,<-hn1,<-zhD (fun j=>Value.slice (some ⟨w.heap.size+1 +(n-j),0,none⟩) m1 m1),e]
  refine⟨by simp,?_,fun j h1 h2=>?_,?_⟩
  ·rw[e3,hm1]
   exact heap_alloc2_old w _ _
  ·obtain rfl:j=n:=by omega
   rw[Nat.sub_self,Nat.add_zero];refine(heap_alloc2_new w _ _).trans ?_;rw[<-hZ2]
   congr 3
   rw[<-hm1]
   apply List.ext_getElem
   ·simp[jg]
   ·intro q q1 q2
    simp[jg,f0]
  ·exact((Below.refl _ _).alloc (Nat.le_refl _) _).alloc (by simp) _
 have HT0:=ze hT0;have HZ2:=ze hZ2;have HF0:=ze f0;have HF1:=ze f1;have HFE:=ze fe;have HFN:=ze fn;have HFM:=ze hfm;have HN1:=ze hn1;have HM1:=ze hm1;have HNL:=ze hn;have HML:=ze hm;clear hf f0 f1 fe fn hfm hn hm hT0 hn1 hm1 hg0 hg1 hZ1 hZ2
 go_enter Tryz.func85,Tryz.ntmps85
 go_wp2_with fail;generalize(w.alloc (.cells (Z1.setIfInBounds n (.slice (some ⟨w.heap.size+1,0,none⟩) m1 m1)) 75)).alloc (.cells Z2 3)=w2 at HT0 ⊢;clear c0 z0
 go_loopg [6] n (fun g i wr=>∃I:Nat,I<=n/\I=g/\i= .int .i64 ((I:Int)-1)/\Hid (zhk w wr n m f I))
 case atStart=>exact⟨n,Nat.le_refl _,rfl,rfl,HT0⟩
 case round=>
  obtain⟨I,hI,rfl,rfl,HT⟩:=hrel
  by_cases hI0:I=0
  ·subst hI0
   have hneg:¬(0:Int)<=((0:Nat):Int)-1:=by omega
   go_wp2
   go_ret;refine⟨_,rfl,?_,HT.out.below⟩;have:=HT.out.tab;rw[HN1.out]at this;exact this
  ·obtain⟨i,rfl⟩:∃i,I=i+1:=⟨I-1,by omega⟩
   rw[show((i+1:Nat):Int)-1=(i:Int) by omega];have i0:(0:Int)<=(i:Int):=Int.natCast_nonneg _
   have i1:(i:Int)<(n1:Int):=by omega
   have iw:IntKind.i64.wrap ((i:Int)-1)=(i:Int)-1:=IntWalk.i64_in _ (by omega)
   have hin:i<n:=by omega
   have hz:=HT.out.size;have h0:(wr.alloc (.cells Z2 3)).heap[w.heap.size]? = _:=(Below.heap_alloc wr _ _ (by omega)).trans HT.out.top;have c1:=zd (i:=i) (v:= .slice none 0 0) h0 (by rw[List.getElem?_toArray,zlu (by omega) (by omega)]);have z1:=zo (i:=i) h0;have hR:=HT.out.row hin (HF1.out i) rfl;rw[HM1.out,HZ2.out]at hR;have HR:=ze hR;clear h0 hR hz;go_wp2_with fail;generalize(wr.alloc (.cells Z2 3)).setCell ⟨w.heap.size,i,none⟩ (.slice (some ⟨wr.heap.size,0,none⟩) m1 m1)=w3 at HR ⊢;clear c1 z1
   go_loopg [7] m (fun g k wr=>∃K:Nat,K<=m/\K=g/\k= .int .i64 ((K:Int)-1)/\Hid (zhg w wr n m f i K))
   case atStart=>exact⟨m,Nat.le_refl _,rfl,rfl,HR⟩
   case round=>
    obtain⟨K,hK,rfl,rfl,HU⟩:=hrel
    by_cases hK0:K=0
    ·subst hK0
     have hneg:¬(0:Int)<=((0:Nat):Int)-1:=by omega
     have HD:=ze HU.out.done
     go_wp2
     go_roundg i
     case measure=>omega
     case rel=>exact⟨i,by omega,rfl,rfl,HD⟩
    ·obtain⟨k,rfl⟩:∃k,K=k+1:=⟨K-1,by omega⟩
     rw[show((k+1:Nat):Int)-1=(k:Int) by omega];have k0:(0:Int)<=(k:Int):=Int.natCast_nonneg _;have kw:IntKind.i64.wrap ((k:Int)-1)=(k:Int)-1:=IntWalk.i64_in _ (by omega)
     have hkm:k<m:=by omega
     have hbel:=HU.out.below;obtain⟨a1,x,rfl,hcx,hx⟩:=(Sl.old ha hbel).strAt' (i:=i) (by rw[HNL.out];exact hin);obtain⟨a2,y,rfl,hcy,hy⟩:=(Sl.old hb hbel).strAt' (i:=k) (by rw[HML.out];exact hkm)
     have in1:(i:Int)<(n:Int):=by omega
     have km1:(k:Int)<(m:Int):=by omega
     obtain⟨R0,hR0⟩:∃R0,w.heap.size+1 +(n-i)=R0:=⟨_,rfl⟩;obtain⟨R1,hR1⟩:∃R1,w.heap.size+1 +(n-(i+1))=R1:=⟨_,rfl⟩;obtain⟨i2,hi2'⟩:∃i2,i+1=i2:=⟨_,rfl⟩;obtain⟨k2,hk2'⟩:∃k2,k+1=k2:=⟨_,rfl⟩;have iw2:IntKind.i64.wrap ((i:Int)+1)=(i2:Int):=(IntWalk.i64_in _ (by omega)).trans (by omega);have kw2:IntKind.i64.wrap ((k:Int)+1)=(k2:Int):=(IntWalk.i64_in _ (by omega)).trans (by omega);have ct0:=zd (i:=i) HU.out.top (by rw[List.getElem?_toArray];exact zbh (by omega) (Nat.le_refl _));have ct1:=zd (i:=i2) HU.out.top (by rw[List.getElem?_toArray];exact zbh (by omega) (by omega));rw[hR0,HM1.out]at ct0;rw[<-hi2',hR1,hi2',HM1.out]at ct1;have hrow:=HU.out.rows (i+1) (Nat.le_refl _) (by omega);have hcur:=HU.out.cur;rw[hR1]at hrow;rw[hR0]at hcur;have cr0:=zd (i:=k) hrow (by rw[List.getElem?_toArray];exact zbh (by omega) (Nat.zero_le _));have cr1:=zd (i:=k2) hrow (by rw[List.getElem?_toArray];exact zbh (by omega) (Nat.zero_le _));have cc1:=zd (i:=k2) hcur (by rw[List.getElem?_toArray];exact zbh (by omega) (by omega));have cc0:=zd (i:=k) hcur (by rw[List.getElem?_toArray];exact zlu (by omega) (by omega));have zc0:=zo (i:=k) hcur
     have hm1:(k2:Int)<(m1:Int):=by have:=HM1.out;omega
     have hm2:(k:Int)<(m1:Int):=by have:=HM1.out;omega
     have hi3':(i2:Int)<(n1:Int):=by have:=HN1.out;omega
     have k20:(0:Int)<=(k2:Int):=Int.natCast_nonneg _;have i20:(0:Int)<=(i2:Int):=Int.natCast_nonneg _
     by_cases hxy:x=y
     ·subst hxy
      have hbe:(x==x)=true:=by simp
      have hfe:=HFE.out i k x hx hy;have hfm:=HFM.out (i+1) (k+1);rw[hi2',hk2']at hfe hfm;obtain⟨V,hV⟩:∃V,f i2 k2=V:=⟨_,rfl⟩;rw[hV]at hfe hfm;rw[hi2',hV]at cr1;have HFE2:=ze hfe;have HR0:=ze hR0;have vw:IntKind.i64.wrap ((V:Int)+1)=(V:Int)+1:=IntWalk.i64_in _ (by omega);clear hfe hV hrow hcur hR0 hR1 hi2' hk2' hx hy hbel cr0 cc1;go_wp2_with fail;go_quiet (fail);go_wp2_with fail;refine wp_region_still_tail 16 (by kernel_rfl) (by kernel_rfl) ?_;simp only[List.take_succ_cons,List.take_zero,List.drop_succ_cons,List.drop_zero];have e0:(wr.drewN nq).drew.cell? ⟨w.heap.size,i,none⟩= _:=ct0;have e1:(wr.drewN nq).drew.cell? ⟨w.heap.size,i2,none⟩= _:=ct1;have e2:(wr.drewN nq).drew.cell? ⟨R1,k2,none⟩= _:=cr1;have e3:(wr.drewN nq).drew.cell? ⟨R0,k,none⟩= _:=cc0;have e4:(wr.drewN nq).drew.frozen? ⟨R0,k,none⟩=false:=zc0;have HQ:=ze (show ∃q,(wr.drewN nq).drew=wr.drewN q from⟨nq+1,rfl⟩)
      change wpStill _ _ (World.drew (wr.drewN nq)) (fun a'=>wpList _ _ _ _ a' (World.drew (wr.drewN nq))) _ _
      clear ct0 ct1 cr1 cc0 zc0 hcx hcy;generalize(wr.drewN nq).drew=w5 at e0 e1 e2 e3 e4 HQ ⊢
      repeat still_step
      try refine wpStill_nil ?_
      go_wp2_with fail;have R:=HU.out.put (by omega) (by omega) HQ.out (.int .i64 ((V:Int)+1)) (by rw[HFE2.out];rfl);rw[HR0.out]at R
      go_roundg k
      case measure=>omega
      case rel=>exact⟨k,by omega,rfl,rfl,ze R⟩
     ·have hbe:(x==y)=false:=by simpa using hxy
      have hfe:=HFN.out i k x y hx hy hxy;have hfm0:=HFM.out (i+1) k;have hfm1:=HFM.out i (k+1);rw[hi2',hk2']at hfe;rw[hi2']at hfm0 cr0;rw[hk2']at hfm1;obtain⟨V0,hV0⟩:∃V,f i2 k=V:=⟨_,rfl⟩;obtain⟨V1,hV1⟩:∃V,f i k2=V:=⟨_,rfl⟩;rw[hV0,hV1]at hfe;rw[hV0]at hfm0 cr0;rw[hV1]at hfm1 cc1;have HFE2:=ze hfe;have HR0:=ze hR0;clear hfe hV0 hV1 hrow hcur hR0 hR1 hi2' hk2' hx hy hbel cr1 hxy;go_wp2_with fail;go_quiet (fail);go_wp2_with fail;refine wp_region_still_tail 23 (by kernel_rfl) (by kernel_rfl) ?_;simp only[List.take_succ_cons,List.take_zero,List.drop_succ_cons,List.drop_zero];have e0:(wr.drewN nq).drew.cell? ⟨w.heap.size,i,none⟩= _:=ct0;have e1:(wr.drewN nq).drew.cell? ⟨w.heap.size,i2,none⟩= _:=ct1;have e2:(wr.drewN nq).drew.cell? ⟨R1,k,none⟩= _:=cr0;have e5:(wr.drewN nq).drew.cell? ⟨R0,k2,none⟩= _:=cc1;have e3:(wr.drewN nq).drew.cell? ⟨R0,k,none⟩= _:=cc0;have e4:(wr.drewN nq).drew.frozen? ⟨R0,k,none⟩=false:=zc0;have HQ:=ze (show ∃q,(wr.drewN nq).drew=wr.drewN q from⟨nq+1,rfl⟩)
      change wpStill _ _ (World.drew (wr.drewN nq)) (fun a'=>wpList _ _ _ _ a' (World.drew (wr.drewN nq))) _ _
      clear ct0 ct1 cr0 cc0 cc1 zc0 hcx hcy;generalize(wr.drewN nq).drew=w5 at e0 e1 e2 e3 e4 e5 HQ ⊢
      repeat still_step
      try refine wpStill_nil ?_
      go_wp2_with fail
      ·rename_i hmx
       have R:=HU.out.put (by omega) (by omega) HQ.out (.int .i64 (V1:Int)) (by rw[HFE2.out,Nat.max_eq_right (by omega)]);rw[HR0.out]at R
       go_roundg k
       case measure=>omega
       case rel=>exact⟨k,by omega,rfl,rfl,ze R⟩
      ·rename_i hmx
       have R:=HU.out.put (by omega) (by omega) HQ.out (.int .i64 (V0:Int)) (by rw[HFE2.out,Nat.max_eq_left (by omega)]);rw[HR0.out]at R
       go_roundg k
       case measure=>omega
       case rel=>exact⟨k,by omega,rfl,rfl,ze R⟩
theorem zll(va vb:Value)(a b:List (List UInt8))(w:World)(ha:Sl w va (zj a))(hb:Sl w vb (zj b))(hal:a.length<=1000000)(hbl:b.length<=1000000):
  Calls Tryz.prog 67 #[va,vb] w fun e w'=>e= .returned (.int .i64 (lcs a b:Nat))/\Below w.heap.size w w':=by
 go_enter Tryz.func67,Tryz.ntmps67
 go_wp2_with fail;refine(zhK va vb a b w ha hb hal hbl).mono ?_;rintro e w1 ⟨t,rfl,⟨g,_,rfl,ht⟩,hb1⟩;obtain⟨r,_,h1,h2⟩:=ht 0 (Nat.zero_le _);have h3:w1.cell? ⟨r,0,none⟩=some (.int .i64 (lcs a b:Nat)):=h2 0 (Nat.zero_le _);clear ht h2;obtain⟨n1,hn1⟩:∃n1,a.length+1=n1:=⟨_,rfl⟩;obtain⟨m1,hm1⟩:∃m1,b.length+1=m1:=⟨_,rfl⟩;rw[hm1]at h1;rw[hn1]
 have p1:(0:Int)<(n1:Int):=by omega
 have p2:(0:Int)<(m1:Int):=by omega
 have p1':0<n1:=by omega
 have p2':0<m1:=by omega
 clear hn1 hm1
 go_wp2
 go_ret;exact⟨rfl,hb1⟩
end
open Go.RowKit
theorem zeo{a b:List (List UInt8)}{k:Nat}(h:a.take k=b.take k):zU a b=((a.take k).map fun x=>((1:Int),x))++zU (a.drop k) (b.drop k):=by
 have:=zcT (a.take k) (a.drop k) (b.drop k);rw[List.take_append_drop,h,List.take_append_drop]at this;rw[h];exact this
theorem zms{a:List (List UInt8)}{k:Nat}{x:List UInt8}(h:a[k]? =some x):((a.take k).map fun x=>((1:Int),x))++[((1:Int),x)]=(a.take (k+1)).map fun x=>((1:Int),x):=by
 rw[yz h,List.map_append]
 rfl
theorem yV{a:List (List UInt8)}{k:Nat}{x:List UInt8}(h:a[k]? =some x):a.drop k=x::a.drop (k+1):=by
 obtain⟨q,e⟩:=List.getElem?_eq_some_iff.1 h;rw[List.drop_eq_getElem_cons q,e]
section
theorem zlr(va vb:Value)(a b:List (List UInt8))(w:World)(ha:Sl w va (zj a))(hb:Sl w vb (zj b))(hal:a.length<=1000000)(hbl:b.length<=1000000):
  Calls Tryz.prog 112 #[va,vb] w fun e w'=>∃l,e= .returned l/\xE w' w.heap.size l (zU a b)/\Below w.heap.size w w':=by
 obtain⟨i0,hi0,hi1,hi2,hi3⟩:=info_parts Tryz.infoEd;obtain⟨aa,ca,rfl⟩:=ha.form;obtain⟨ab,cb,rfl⟩:=hb.form;rw[zk]at ha hb ⊢;rw[zk]
 go_enter Tryz.func112,Tryz.ntmps112
 go_upto_block 0 with fail
 go_cut [5,6] (fun l n wx=>∃k:Nat,n= .int .i64 k/\k<=a.length/\k<=b.length/\Hid (zU a b=(a.take k).map (fun x=>((1:Int),x))++qh (a.drop k) (b.drop k))/\xE wx w.heap.size l ((a.take k).map (fun x=>((1:Int),x)))/\Below w.heap.size w wx)
 case first=>
  go_wp2_with fail
  go_loopg [5,6] a.length (fun g l n wr=>∃k:Nat,k<=a.length/\k<=b.length/\g=a.length-k/\n= .int .i64 k/\Hid (a.take k=b.take k)/\Hid (xE wr w.heap.size l ((a.take k).map (fun x=>((1:Int),x))))/\Below w.heap.size w wr)
  case atStart=>exact⟨0,Nat.zero_le _,Nat.zero_le _,rfl,rfl,ze rfl,ze (xE.nil _ _),Below.refl _ _⟩
  case round=>
   obtain⟨k,hka,hkb,rfl,rfl,HE,HO,hbel⟩:=hrel;have hz:=hbel.size;have k0:(0:Int)<=(k:Int):=Int.natCast_nonneg _;have kw:IntKind.i64.wrap ((k:Int)+1)=(k:Int)+1:=IntWalk.i64_in _ (by omega)
   by_cases h1:k<a.length
   ·have h1':(k:Int)<(a.length:Int):=by omega
    by_cases h2:k<b.length
    ·have h2':(k:Int)<(b.length:Int):=by omega
     obtain⟨a1,x,rfl,hcx,hx⟩:=(Sl.old ha hbel).strAt' (i:=k) h1;obtain⟨a2,y,rfl,hcy,hy⟩:=(Sl.old hb hbel).strAt' (i:=k) h2
     by_cases hxy:x=y
     ·subst hxy
      have hbe:(x==x)=true:=by simp
      have HX:=ze hx;have HY:=ze hy;clear hx hy;obtain⟨z,hz5⟩:∃z,u5=z:=⟨_,rfl⟩;have hO:=HO.out;go_wp2_with fail;go_quiet (fail);have hO1:=hO.drew nq
      have hlen:((a.take k).map fun x=>((1:Int),x)).length<=4000000:=by rw[List.length_map,List.length_take];omega
      have hcx1:(wr.drewN nq).cell? (a1.add k)= _:=hcx;have hbel1:Below w.heap.size w (wr.drewN nq):=zi hbel (zm _ _) hz;generalize wr.drewN nq=wq at hO1 hcx1 hbel1 ⊢;have hzq:=hbel1.size;clear hO hcx hcy
      go_wp2_with (refine qZ rfl 33 39 rfl w.heap.size _ _ 1 x rfl hO1 rfl hlen hzq ?_;intro v5 w5 hown5 hb5)
      have hb6:=hbel1.trans hb5
      have HO':=ze (show xE w5 w.heap.size v5 ((a.take (k+1)).map fun x=>((1:Int),x)) by
       rw[<-zms HX.out]
       exact hown5)
      have HE':=ze (show a.take (k+1)=b.take (k+1) by rw[yz HX.out,yz HY.out,HE.out]);clear hown5 hb5
      go_roundg (a.length-(k+1))
      case measure=>omega
      case rel=>exact⟨k+1,by omega,by omega,rfl,rfl,HE',HO',hb6⟩
     ·have hbe:(x==y)=false:=by simpa using hxy
      have HS:=ze (show zU a b=((a.take k).map fun x=>((1:Int),x))++qh (a.drop k) (b.drop k) by
       rw[zeo HE.out,yV hx,yV hy,zaI,if_neg hxy])
      clear hx hy;go_wp2_with fail;go_quiet (fail);go_wp2_with fail
      go_meet
      exact⟨k,rfl,hka,hkb,HS,HO.out.drew _,zi hbel (zm _ _) hz⟩
    ·have hn2:¬(k:Int)<(b.length:Int):=by omega
     have HS:=ze (show zU a b=((a.take k).map fun x=>((1:Int),x))++qh (a.drop k) (b.drop k) by
      rw[zeo HE.out,List.drop_of_length_le (l:=b) (by omega),qF])
     go_wp2_with fail;go_quiet (fail);go_wp2_with fail
     go_meet
     exact⟨k,rfl,hka,hkb,HS,HO.out.drew _,zi hbel (zm _ _) hz⟩
   ·have hn1:¬(k:Int)<(a.length:Int):=by omega
    have HS:=ze (show zU a b=((a.take k).map fun x=>((1:Int),x))++qh (a.drop k) (b.drop k) by
     rw[zeo HE.out,List.drop_of_length_le (l:=a) (by omega),qX])
    go_wp2_with fail;go_quiet (fail);go_wp2_with fail
    go_meet
    exact⟨k,rfl,hka,hkb,HS,HO.out.drew _,zi hbel (zm _ _) hz⟩
 case rest=>
  obtain⟨k,rfl,hka,hkb,HS,HO,hbel⟩:=hcut;have hz:=hbel.size;have k0:(0:Int)<=(k:Int):=Int.natCast_nonneg _
  have k1:(k:Int)<=(a.length:Int):=by omega
  have k2:(k:Int)<=(b.length:Int):=by omega
  obtain⟨j0,hj0,hj1,hj2,hj3⟩:=info_parts Tryz.infoStr;obtain⟨va',ra,hA,_,aa',ca',rfl⟩:=qH 96 9 Tryz.underlying96 hj0 hj2 ha k (by rw[zk];exact hka);obtain⟨vb',rb,hB,_,ab',cb',rfl⟩:=qH 96 9 Tryz.underlying96 hj0 hj2 hb k (by rw[zk];exact hkb);rw[zk]at ra rb hA hB;obtain⟨c,hc⟩:∃c,a.drop k=c:=⟨_,rfl⟩;obtain⟨d,hd⟩:∃d,b.drop k=d:=⟨_,rfl⟩;obtain⟨E,hE⟩:∃E,(a.take k).map (fun x=>((1:Int),x))=E:=⟨_,rfl⟩;rw[show List.drop k (zj a)=zj c by rw[<-hc];simp[zj]]at hA;rw[show List.drop k (zj b)=zj d by rw[<-hd];simp[zj]]at hB;obtain⟨p,hp⟩:∃p,a.length-k=p:=⟨_,rfl⟩;obtain⟨q,hq⟩:∃q,b.length-k=q:=⟨_,rfl⟩
  have hcp:c.length=p:=by rw[<-hc,List.length_drop];exact hp
  have hdq:d.length=q:=by rw[<-hd,List.length_drop];exact hq
  have hEl:E.length<=1000000:=by rw[<-hE,List.length_map,List.length_take];omega
  rw[hc,hd,hE]at HS;rw[hE]at HO;rw[hp]at ra hA;rw[hq]at rb hB
  have hpl:p<=1000000:=by omega
  have hql:q<=1000000:=by omega
  have HCP:=ze hcp;have HDQ:=ze hdq;have HO':=ze HO;clear hc hd hE hp hq hcp hdq HO
  by_cases hlong:400<p∨400<q
  ·have HR:=ze (show zU a b=E ++((c.map fun x=>((2:Int),x))++d.map fun y=>((3:Int),y)) by
    rw[HS.out,qh,if_pos (show zaf c d by unfold zaf;rw[HCP.out,HDQ.out];exact hlong)])
   clear HS
   have hsplit:(400:Int)<(p:Int)∨(¬(400:Int)<(p:Int)/\(400:Int)<(q:Int)):=by omega
   clear hlong
   rcases hsplit with hs1 |⟨hs1,hs2⟩
   all_goals
    go_wp2_with fail;go_quiet (fail);have hO1:=ze (HO'.out.drew nq);have hb1:Below w.heap.size w (wc.drewN nq):=zi hbel (zm _ _) hz;clear HO' hbel hz;generalize wc.drewN nq=w1 at hO1 hb1 ⊢;go_wp2_with fail
    go_loopg [5,7] p (fun g l i wr=>∃I:Nat,I<=p/\g=p-I/\i= .int .i64 I/\Hid (xE wr w.heap.size l (E ++(c.take I).map fun x=>((2:Int),x)))/\Below w.heap.size w wr)
    case atStart=>exact⟨0,Nat.zero_le _,rfl,rfl,ze (by simpa using hO1.out),hb1⟩
    case round=>
     obtain⟨I,hI,rfl,rfl,HL,hbr⟩:=hrel;have hzr:=hbr.size;have I0:(0:Int)<=(I:Int):=Int.natCast_nonneg _;have Iw:IntKind.i64.wrap ((I:Int)+1)=(I:Int)+1:=IntWalk.i64_in _ (by omega)
     by_cases h1:I<p
     ·have h1':(I:Int)<(p:Int):=by omega
      obtain⟨a1,x,rfl,hcx,hx⟩:=(hA.old hbr).strAt' (i:=I) (by rw[HCP.out];exact h1)
      have hlen:(E ++(c.take I).map fun x=>((2:Int),x)).length<=4000000:=by rw[List.length_append,List.length_map,List.length_take];omega
      have hL:=HL.out;have HX:=ze hx;clear hx
      go_wp2_with (refine qZ rfl 63 69 rfl w.heap.size _ _ 2 x rfl hL rfl hlen hzr ?_;intro v5 w5 hown5 hb5)
      have hb6:=hbr.trans hb5
      have HL':=ze (show xE w5 w.heap.size v5 (E ++(c.take (I+1)).map fun x=>((2:Int),x)) by
       rw[yz HX.out,List.map_append,<-List.append_assoc]
       exact hown5)
      clear hown5 hb5
      go_roundg (p-(I+1))
      case measure=>omega
      case rel=>exact⟨I+1,by omega,rfl,rfl,HL',hb6⟩
     ·obtain rfl:I=p:=by omega
      have hL1:=HL.out;rw[<-HCP.out,List.take_length]at hL1;have HL1:=ze hL1;clear HL hL1;go_wp2_with fail
      go_loopg [5,8] q (fun g l i wr=>∃J:Nat,J<=q/\g=q-J/\i= .int .i64 J/\Hid (xE wr w.heap.size l (E ++((c.map fun x=>((2:Int),x)) ++(d.take J).map fun y=>((3:Int),y))))/\Below w.heap.size w wr)
      case atStart=>exact⟨0,Nat.zero_le _,rfl,rfl,ze (by simpa using HL1.out),hbr⟩
      case round=>
       obtain⟨J,hJ,rfl,rfl,HL,hbr⟩:=hrel;have hzr:=hbr.size;have J0:(0:Int)<=(J:Int):=Int.natCast_nonneg _;have Jw:IntKind.i64.wrap ((J:Int)+1)=(J:Int)+1:=IntWalk.i64_in _ (by omega)
       by_cases h1:J<q
       ·have h1':(J:Int)<(q:Int):=by omega
        obtain⟨a1,x,rfl,hcx,hx⟩:=(hB.old hbr).strAt' (i:=J) (by rw[HDQ.out];exact h1)
        have hlen:(E ++((c.map fun x=>((2:Int),x)) ++(d.take J).map fun y=>((3:Int),y))).length<=4000000:=by
         rw[List.length_append,List.length_append,List.length_map,List.length_map,List.length_take,HCP.out];omega
        have hL:=HL.out;have HX:=ze hx;clear hx
        go_wp2_with (refine qZ rfl 77 83 rfl w.heap.size _ _ 3 x rfl hL rfl hlen hzr ?_;intro v5 w5 hown5 hb5)
        have hb6:=hbr.trans hb5
        have HL':=ze (show xE w5 w.heap.size v5 (E ++((c.map fun x=>((2:Int),x)) ++(d.take (J+1)).map fun y=>((3:Int),y))) by
         rw[yz HX.out,List.map_append,<-List.append_assoc,<-List.append_assoc];rw[<-List.append_assoc]at hown5
         exact hown5)
        clear hown5 hb5
        go_roundg (q-(J+1))
        case measure=>omega
        case rel=>exact⟨J+1,by omega,rfl,rfl,HL',hb6⟩
       ·obtain rfl:J=q:=by omega
        have hL2:=HL.out;rw[<-HDQ.out,List.take_length,<-HR.out]at hL2;obtain⟨ao,cap,rfl⟩:=hL2.form;have HL2:=ze hL2;clear HL hL2;go_wp2_with fail;go_ret;exact⟨_,rfl,HL2.out,hbr⟩
  ·have HR:=ze (show zU a b=E++kJ c d by
    rw[HS.out,qh,if_neg (show ¬zaf c d by unfold zaf;rw[HCP.out,HDQ.out];exact hlong)])
   clear HS
   have hs1:¬(400:Int)<(p:Int):=by omega
   have hs2:¬(400:Int)<(q:Int):=by omega
   clear hlong;go_wp2_with fail;go_quiet (fail);have hO1:=ze (HO'.out.drew nq);have hb1:Below w.heap.size w (wc.drewN nq):=zi hbel (zm _ _) hz;have hlt1:=HO'.out.lt;have hws:(wc.drewN nq).heap.size=wc.heap.size:=rfl;rw[<-hws]at hlt1;clear HO' hbel hz hws;generalize wc.drewN nq=w0 at hO1 hb1 hlt1 ⊢;have hA0:=hA.old hb1;have hB0:=hB.old hb1;have hz0:=hb1.size;go_wp2_with fail;have hT:=zhK _ _ c d w0 hA0 hB0 (by rw[HCP.out];exact hpl) (by rw[HDQ.out];exact hql);rw[HCP.out,HDQ.out]at hT;refine hT.mono ?_;rintro e w1 ⟨t,rfl,ht,hb2⟩;obtain⟨B,hBe⟩:∃B,w0.heap.size=B:=⟨_,rfl⟩;obtain⟨Z,hZe⟩:∃Z,w1.heap.size=Z:=⟨_,rfl⟩;have hbw1:Below w.heap.size w w1:=zi hb1 hb2 hz0;have HO1:=ze (show xE w1 w.heap.size u5 E from xE.old hO1.out hb2);rw[hBe]at ht;obtain⟨g,hg,rfl,ht⟩:=ht;have HT:=ze (show zio w1 B (.slice (some ⟨g,0,none⟩) (p+1) (p+1)) p q (fun i k=>lcs (c.drop i) (d.drop k))from⟨g,hg,rfl,ht⟩);have HA1:=ze (show Aside B Z w1 w1 u5 from⟨fun j hj=> .inl (by rw[<-hBe];exact(hlt1 j hj).2),fun _ _ _ =>rfl⟩);have hZ1:Z<=w1.heap.size:=Nat.le_of_eq hZe.symm;have HZE:=ze hZe;obtain⟨p1,hp1⟩:∃n,p+1=n:=⟨_,rfl⟩;obtain⟨q1,hq1⟩:∃n,q+1=n:=⟨_,rfl⟩;rw[hp1];have HP1:=ze hp1;have HQ1:=ze hq1;clear ht hT hO1 hlt1 hBe hZe hA0 hB0 hg hb2 hb1 hz0 hp1 hq1;go_wp2_with fail
   go_loopg [5,10,11] (p+q) (fun gg l i j wr=>∃ (I J:Nat) (S:List (Int × List UInt8)),I<=p/\J<=q/\gg=(p-I) +(q-J)/\i= .int .i64 I/\j= .int .i64 J/\Hid (kJ c d=S++kJ (c.drop I) (d.drop J))/\Hid (xE wr w.heap.size l (E++S))/\Hid (S.length<=I+J)/\Hid (Aside B Z w1 wr l)/\Z<=wr.heap.size/\Below w.heap.size w wr)
   case atStart=>exact⟨0,0,[],Nat.zero_le _,Nat.zero_le _,by omega,rfl,rfl,ze rfl,ze (by simpa using HO1.out),ze (Nat.zero_le _),HA1,hZ1,hbw1⟩
   case round=>
    clear HO1 HA1 hZ1 hbw1;obtain⟨I,J,S,hI,hJ,rfl,rfl,rfl,HG,HL,HN,HA,hZr,hbr⟩:=hrel;have hzr:=hbr.size;have I0:(0:Int)<=(I:Int):=Int.natCast_nonneg _;have J0:(0:Int)<=(J:Int):=Int.natCast_nonneg _;have Iw:IntKind.i64.wrap ((I:Int)+1)=(I:Int)+1:=IntWalk.i64_in _ (by omega);have Jw:IntKind.i64.wrap ((J:Int)+1)=(J:Int)+1:=IntWalk.i64_in _ (by omega)
    have hlen:(E++S).length<=4000000:=by have:=HN.out;rw[List.length_append];omega
    by_cases hi:I<p
    ·have hi':(I:Int)<(p:Int):=by omega
     obtain⟨a1,x,rfl,hcx,hx⟩:=(hA.old hbr).strAt' (i:=I) (by rw[HCP.out];exact hi)
     by_cases hj:J<q
     ·have hj':(J:Int)<(q:Int):=by omega
      have hjn:((J:Int)==(q:Int))=false:=by simp;omega
      obtain⟨a2,y,rfl,hcy,hy⟩:=(hB.old hbr).strAt' (i:=J) (by rw[HDQ.out];exact hj)
      by_cases hxy:x=y
      ·subst hxy
       have hbe:(x==x)=true:=by simp
       have HF:=ze (show kJ (c.drop I) (d.drop J)=((1:Int),x)::kJ (c.drop (I+1)) (d.drop (J+1)) by
        rw[yV hx,yV hy,kG,if_pos rfl])
       clear hx hy;go_wp2_with fail;go_quiet (fail);have hL':=HL.out.drew nq;have hA':=HA.out.drew nq;have hcx':(wr.drewN nq).cell? (a1.add I)= _:=hcx;have hb':Below w.heap.size w (wr.drewN nq):=zi hbr (zm _ _) hzr;have hZ':Z<=(wr.drewN nq).heap.size:=hZr;clear hcx hcy hbr hzr hZr HL HA;generalize wr.drewN nq=wa at hL' hA' hcx' hb' hZ' ⊢;have hzr:=hb'.size;have hbr:=hb';have hZr:=hZ';have hcx:=hcx';clear hb' hZ' hcx';have HL:=ze hL';have HA:=ze hA';clear hL' hA';have hL:=HL.out;have hAs:=HA.out
       go_wp2_with (refine xp rfl 131 137 rfl w.heap.size _ _ 1 x rfl hL rfl hlen hzr B Z w1 hZr hAs ?_;intro v5 w5 hown5 hb5 has5)
       have hb6:=hbr.trans hb5;have HG':=ze (show kJ c d=(S++[((1:Int),x)])++kJ (c.drop (I+1)) (d.drop (J+1)) by rw[HG.out,HF.out,List.append_assoc];rfl);have HL':=ze (show xE w5 w.heap.size v5 (E ++(S++[((1:Int),x)])) by rw[<-List.append_assoc];exact hown5);have HN':=ze (show(S++[((1:Int),x)]).length<=(I+1) +(J+1) by have:=HN.out;rw[List.length_append];simp;omega);have HA':=ze has5;have hZ5:Z<=w5.heap.size:=Nat.le_trans hZr hb5.size;clear hown5 hb5 has5
       go_roundg ((p-(I+1)) +(q-(J+1)))
       case measure=>omega
       case rel=>exact⟨(I+1),(J+1),_,by omega,by omega,rfl,rfl,rfl,HG',HL',HN',HA',hZ5,hb6⟩
      ·have hbe:(x==y)=false:=by simpa using hxy
       have HT2:=HT.out.old (w':=wr) (fun b h1 h2=>HA.out.kept b h1 (by rw[<-HZE.out];exact h2));obtain⟨g',hg',eg,ht⟩:=HT2;simp only[Value.slice.injEq,Option.some.injEq,Addr.mk.injEq,and_true]at eg;obtain rfl:=eg;obtain⟨r1,hr1,e1,e2⟩:=ht (I+1) (by omega);obtain⟨r0,hr0,e3,e4⟩:=ht I (by omega);have e2:=e2 J (by omega);have e4:=e4 (J+1) (by omega);rw[HQ1.out]at e1 e3;obtain⟨V,hV⟩:∃V,lcs (c.drop (I+1)) (d.drop J)=V:=⟨_,rfl⟩;obtain⟨U,hU⟩:∃U,lcs (c.drop I) (d.drop (J+1))=U:=⟨_,rfl⟩
       have e2:wr.cell? ⟨r1,J,none⟩=some (.int .i64 (V:Nat)):=by rw[<-hV];exact e2
       have e4:wr.cell? ⟨r0,J+1,none⟩=some (.int .i64 (U:Nat)):=by rw[<-hU];exact e4
       obtain⟨I2,hI2⟩:∃n,I+1=n:=⟨_,rfl⟩;obtain⟨J2,hJ2⟩:∃n,J+1=n:=⟨_,rfl⟩;rw[hI2]at e1;rw[hJ2]at e4;have Iw2:IntKind.i64.wrap ((I:Int)+1)=(I2:Int):=Iw.trans (by omega);have Jw2:IntKind.i64.wrap ((J:Int)+1)=(J2:Int):=Jw.trans (by omega);have I20:(0:Int)<=(I2:Int):=Int.natCast_nonneg _;have J20:(0:Int)<=(J2:Int):=Int.natCast_nonneg _
       have g1:(I:Int)<(p1:Int):=by have:=HP1.out;omega
       have g2:(I2:Int)<(p1:Int):=by have:=HP1.out;omega
       have g3:(J:Int)<(q1:Int):=by have:=HQ1.out;omega
       have g4:(J2:Int)<(q1:Int):=by have:=HQ1.out;omega
       have HX:=ze hx;have HY:=ze hy;have HI2:=ze hI2;have HJ2:=ze hJ2;clear hx hy hg' hr1 hr0 ht Iw Jw hI2 hJ2
       by_cases hUV:U<=V
       ·have hUV':(U:Int)<=(V:Int):=by omega
        have HF:=ze (show kJ (c.drop I) (d.drop J)=((2:Int),x)::kJ (c.drop (I+1)) (d.drop J) by
         rw[yV HX.out,yV HY.out,kG,if_neg hxy,<-yV HX.out,<-yV HY.out,if_pos (by rw[hV,hU];exact hUV)])
        clear hV hU;go_wp2_with fail;go_quiet (fail);have hL':=HL.out.drew nq;have hA':=HA.out.drew nq;have hcx':(wr.drewN nq).cell? (a1.add I)= _:=hcx;have hcy':(wr.drewN nq).cell? (a2.add J)= _:=hcy;have e1':(wr.drewN nq).cell? ⟨g,I2,none⟩= _:=e1;have e2':(wr.drewN nq).cell? ⟨r1,J,none⟩= _:=e2;have e3':(wr.drewN nq).cell? ⟨g,I,none⟩= _:=e3;have e4':(wr.drewN nq).cell? ⟨r0,J2,none⟩= _:=e4;have hb':Below w.heap.size w (wr.drewN nq):=zi hbr (zm _ _) hzr;have hZ':Z<=(wr.drewN nq).heap.size:=hZr;clear hcx hcy e1 e2 e3 e4 hbr hzr hZr HL HA;generalize wr.drewN nq=wa at hL' hA' hcx' hcy' e1' e2' e3' e4' hb' hZ' ⊢;have hzr:=hb'.size;have hbr:=hb';have hZr:=hZ';have hcx:=hcx';have hcy:=hcy';have e1:=e1';have e2:=e2';have e3:=e3';have e4:=e4';clear hb' hZ' hcx' hcy' e1' e2' e3' e4';have HL:=ze hL';have HA:=ze hA';clear hL' hA';go_wp2_with fail;go_quiet (fail);have hL':=HL.out.drew nq;have hA':=HA.out.drew nq;have hcx':(wa.drewN nq).cell? (a1.add I)= _:=hcx;have hb':Below w.heap.size w (wa.drewN nq):=zi hbr (zm _ _) hzr;have hZ':Z<=(wa.drewN nq).heap.size:=hZr;clear hcx hcy e1 e2 e3 e4 hbr hzr hZr HL HA;generalize wa.drewN nq=wb at hL' hA' hcx' hb' hZ' ⊢;have hzr:=hb'.size;have hbr:=hb';have hZr:=hZ';have hcx:=hcx';clear hb' hZ' hcx';have HL:=ze hL';have HA:=ze hA';clear hL' hA';have hL:=HL.out;have hAs:=HA.out;have Iw:=Iw2.trans (show(I2:Int)=(I:Int)+1 by have:=HI2.out;omega);clear Iw2 Jw2
        go_wp2_with (refine xp rfl 173 179 rfl w.heap.size _ _ 2 x rfl hL rfl hlen hzr B Z w1 hZr hAs ?_;intro v5 w5 hown5 hb5 has5)
        have hb6:=hbr.trans hb5;have HG':=ze (show kJ c d=(S++[((2:Int),x)])++kJ (c.drop (I+1)) (d.drop J) by rw[HG.out,HF.out,List.append_assoc];rfl);have HL':=ze (show xE w5 w.heap.size v5 (E ++(S++[((2:Int),x)])) by rw[<-List.append_assoc];exact hown5);have HN':=ze (show(S++[((2:Int),x)]).length<=(I+1)+J by have:=HN.out;rw[List.length_append];simp;omega);have HA':=ze has5;have hZ5:Z<=w5.heap.size:=Nat.le_trans hZr hb5.size;clear hown5 hb5 has5
        go_roundg ((p-(I+1)) +(q-J))
        case measure=>omega
        case rel=>exact⟨(I+1),J,_,by omega,by omega,rfl,rfl,rfl,HG',HL',HN',HA',hZ5,hb6⟩
       ·have hUV':¬(U:Int)<=(V:Int):=by omega
        have HF:=ze (show kJ (c.drop I) (d.drop J)=((3:Int),y)::kJ (c.drop I) (d.drop (J+1)) by
         rw[yV HX.out,yV HY.out,kG,if_neg hxy,<-yV HX.out,<-yV HY.out,if_neg (by rw[hV,hU];exact hUV)])
        clear hV hU;go_wp2_with fail;go_quiet (fail);have hL':=HL.out.drew nq;have hA':=HA.out.drew nq;have hcx':(wr.drewN nq).cell? (a1.add I)= _:=hcx;have hcy':(wr.drewN nq).cell? (a2.add J)= _:=hcy;have e1':(wr.drewN nq).cell? ⟨g,I2,none⟩= _:=e1;have e2':(wr.drewN nq).cell? ⟨r1,J,none⟩= _:=e2;have e3':(wr.drewN nq).cell? ⟨g,I,none⟩= _:=e3;have e4':(wr.drewN nq).cell? ⟨r0,J2,none⟩= _:=e4;have hb':Below w.heap.size w (wr.drewN nq):=zi hbr (zm _ _) hzr;have hZ':Z<=(wr.drewN nq).heap.size:=hZr;clear hcx hcy e1 e2 e3 e4 hbr hzr hZr HL HA;generalize wr.drewN nq=wa at hL' hA' hcx' hcy' e1' e2' e3' e4' hb' hZ' ⊢;have hzr:=hb'.size;have hbr:=hb';have hZr:=hZ';have hcx:=hcx';have hcy:=hcy';have e1:=e1';have e2:=e2';have e3:=e3';have e4:=e4';clear hb' hZ' hcx' hcy' e1' e2' e3' e4';have HL:=ze hL';have HA:=ze hA';clear hL' hA';go_wp2_with fail;go_quiet (fail);have hL':=HL.out.drew nq;have hA':=HA.out.drew nq;have hcy':(wa.drewN nq).cell? (a2.add J)= _:=hcy;have hb':Below w.heap.size w (wa.drewN nq):=zi hbr (zm _ _) hzr;have hZ':Z<=(wa.drewN nq).heap.size:=hZr;clear hcx hcy e1 e2 e3 e4 hbr hzr hZr HL HA;generalize wa.drewN nq=wb at hL' hA' hcy' hb' hZ' ⊢;have hzr:=hb'.size;have hbr:=hb';have hZr:=hZ';have hcy:=hcy';clear hb' hZ' hcy';have HL:=ze hL';have HA:=ze hA';clear hL' hA';have hL:=HL.out;have hAs:=HA.out;have Jw:=Jw2.trans (show(J2:Int)=(J:Int)+1 by have:=HJ2.out;omega);clear Iw2 Jw2
        go_wp2_with (refine xp rfl 99 105 rfl w.heap.size _ _ 3 y rfl hL rfl hlen hzr B Z w1 hZr hAs ?_;intro v5 w5 hown5 hb5 has5)
        have hb6:=hbr.trans hb5;have HG':=ze (show kJ c d=(S++[((3:Int),y)])++kJ (c.drop I) (d.drop (J+1)) by rw[HG.out,HF.out,List.append_assoc];rfl);have HL':=ze (show xE w5 w.heap.size v5 (E ++(S++[((3:Int),y)])) by rw[<-List.append_assoc];exact hown5);have HN':=ze (show(S++[((3:Int),y)]).length<=I +(J+1) by have:=HN.out;rw[List.length_append];simp;omega);have HA':=ze has5;have hZ5:Z<=w5.heap.size:=Nat.le_trans hZr hb5.size;clear hown5 hb5 has5
        go_roundg ((p-I) +(q-(J+1)))
        case measure=>omega
        case rel=>exact⟨I,(J+1),_,by omega,by omega,rfl,rfl,rfl,HG',HL',HN',HA',hZ5,hb6⟩
     ·obtain rfl:J=q:=by omega
      have hjq:¬(J:Int)<(J:Int):=Int.lt_irrefl _
      have HF:=ze (show kJ (c.drop I) (d.drop J)=((2:Int),x)::kJ (c.drop (I+1)) (d.drop J) by
       rw[List.drop_of_length_le (l:=d) (by rw[HDQ.out];exact Nat.le_refl _),yV hx,zdG])
      clear hx;go_wp2_with fail;go_quiet (fail);have hL':=HL.out.drew nq;have hA':=HA.out.drew nq;have hcx':(wr.drewN nq).cell? (a1.add I)= _:=hcx;have hb':Below w.heap.size w (wr.drewN nq):=zi hbr (zm _ _) hzr;have hZ':Z<=(wr.drewN nq).heap.size:=hZr;clear hcx hbr hzr hZr HL HA;generalize wr.drewN nq=wa at hL' hA' hcx' hb' hZ' ⊢;have hzr:=hb'.size;have hbr:=hb';have hZr:=hZ';have hcx:=hcx';clear hb' hZ' hcx';have HL:=ze hL';have HA:=ze hA';clear hL' hA';go_wp2_with fail;go_quiet (fail);have hL':=HL.out.drew nq;have hA':=HA.out.drew nq;have hcx':(wa.drewN nq).cell? (a1.add I)= _:=hcx;have hb':Below w.heap.size w (wa.drewN nq):=zi hbr (zm _ _) hzr;have hZ':Z<=(wa.drewN nq).heap.size:=hZr;clear hcx hbr hzr hZr HL HA;generalize wa.drewN nq=wb at hL' hA' hcx' hb' hZ' ⊢;have hzr:=hb'.size;have hbr:=hb';have hZr:=hZ';have hcx:=hcx';clear hb' hZ' hcx';have HL:=ze hL';have HA:=ze hA';clear hL' hA';have hL:=HL.out;have hAs:=HA.out
      go_wp2_with (refine xp rfl 173 179 rfl w.heap.size _ _ 2 x rfl hL rfl hlen hzr B Z w1 hZr hAs ?_;intro v5 w5 hown5 hb5 has5)
      have hb6:=hbr.trans hb5;have HG':=ze (show kJ c d=(S++[((2:Int),x)])++kJ (c.drop (I+1)) (d.drop J) by rw[HG.out,HF.out,List.append_assoc];rfl);have HL':=ze (show xE w5 w.heap.size v5 (E ++(S++[((2:Int),x)])) by rw[<-List.append_assoc];exact hown5);have HN':=ze (show(S++[((2:Int),x)]).length<=(I+1)+J by have:=HN.out;rw[List.length_append];simp;omega);have HA':=ze has5;have hZ5:Z<=w5.heap.size:=Nat.le_trans hZr hb5.size;clear hown5 hb5 has5
      go_roundg ((p-(I+1)) +(J-J))
      case measure=>omega
      case rel=>exact⟨(I+1),J,_,by omega,by omega,rfl,rfl,rfl,HG',HL',HN',HA',hZ5,hb6⟩
    ·obtain rfl:I=p:=by omega
     by_cases hj:J<q
     ·have hj':(J:Int)<(q:Int):=by omega
      have hjn:((J:Int)==(q:Int))=false:=by simp;omega
      obtain⟨a2,y,rfl,hcy,hy⟩:=(hB.old hbr).strAt' (i:=J) (by rw[HDQ.out];exact hj)
      have HF:=ze (show kJ (c.drop I) (d.drop J)=((3:Int),y)::kJ (c.drop I) (d.drop (J+1)) by
       rw[List.drop_of_length_le (l:=c) (by rw[HCP.out];exact Nat.le_refl _),yV hy,kj,kj]
       rfl)
      clear hy;go_wp2_with fail;go_quiet (fail);have hL':=HL.out.drew nq;have hA':=HA.out.drew nq;have hcy':(wr.drewN nq).cell? (a2.add J)= _:=hcy;have hb':Below w.heap.size w (wr.drewN nq):=zi hbr (zm _ _) hzr;have hZ':Z<=(wr.drewN nq).heap.size:=hZr;clear hcy hbr hzr hZr HL HA;generalize wr.drewN nq=wa at hL' hA' hcy' hb' hZ' ⊢;have hzr:=hb'.size;have hbr:=hb';have hZr:=hZ';have hcy:=hcy';clear hb' hZ' hcy';have HL:=ze hL';have HA:=ze hA';clear hL' hA';go_wp2_with fail;go_quiet (fail);have hL':=HL.out.drew nq;have hA':=HA.out.drew nq;have hcy':(wa.drewN nq).cell? (a2.add J)= _:=hcy;have hb':Below w.heap.size w (wa.drewN nq):=zi hbr (zm _ _) hzr;have hZ':Z<=(wa.drewN nq).heap.size:=hZr;clear hcy hbr hzr hZr HL HA;generalize wa.drewN nq=wb at hL' hA' hcy' hb' hZ' ⊢;have hzr:=hb'.size;have hbr:=hb';have hZr:=hZ';have hcy:=hcy';clear hb' hZ' hcy';have HL:=ze hL';have HA:=ze hA';clear hL' hA';have hL:=HL.out;have hAs:=HA.out
      go_wp2_with (refine xp rfl 99 105 rfl w.heap.size _ _ 3 y rfl hL rfl hlen hzr B Z w1 hZr hAs ?_;intro v5 w5 hown5 hb5 has5)
      have hb6:=hbr.trans hb5;have HG':=ze (show kJ c d=(S++[((3:Int),y)])++kJ (c.drop I) (d.drop (J+1)) by rw[HG.out,HF.out,List.append_assoc];rfl);have HL':=ze (show xE w5 w.heap.size v5 (E ++(S++[((3:Int),y)])) by rw[<-List.append_assoc];exact hown5);have HN':=ze (show(S++[((3:Int),y)]).length<=I +(J+1) by have:=HN.out;rw[List.length_append];simp;omega);have HA':=ze has5;have hZ5:Z<=w5.heap.size:=Nat.le_trans hZr hb5.size;clear hown5 hb5 has5
      go_roundg ((I-I) +(q-(J+1)))
      case measure=>omega
      case rel=>exact⟨I,(J+1),_,by omega,by omega,rfl,rfl,rfl,HG',HL',HN',HA',hZ5,hb6⟩
     ·obtain rfl:J=q:=by omega
      have hL:=HL.out;have hG:=HG.out;rw[List.drop_of_length_le (l:=c) (by rw[HCP.out];exact Nat.le_refl _),List.drop_of_length_le (l:=d) (by rw[HDQ.out];exact Nat.le_refl _),kj,List.map_nil,List.append_nil]at hG;rw[<-hG,<-HR.out]at hL;obtain⟨ao,cap,rfl⟩:=hL.form;have HL2:=ze hL;clear HL hL hG;go_wp2_with fail;go_ret;exact⟨_,rfl,HL2.out,hbr⟩
end
end Go.Proofs.YtbnafihigoekeaaGreatDoor

/-
  TmTl, part 8.
-/
import Derived.Test.YtbnafihigoekeaaGreatDoorZt7
import Derived.Test.YtbnafihigoekeaaGreatDoorZt6
import Derived.Test.YtbnafihigoekeaaGreatDoorZt5
import Derived.Deep.DeepCutAuto
set_option maxRecDepth 100000
set_option maxHeartbeats 4000000
namespace Go.Proofs.YtbnafihigoekeaaGreatDoor
open Go.RowKit
section
theorem zhz(va vb:Value)(a b:List (List UInt8))(w:World)(ha:Sl w va (zj a))(hb:Sl w vb (zj b))(hal:a.length<=1000000):
  Calls Tryz.prog 189 #[va,vb] w fun e w'=>∃k:Nat,e= .returned (.int .i64 k)/\(k<=a.length/\k<=b.length/\a.take k=b.take k/\∀x y,a[k]? =some x->b[k]? =some y->x≠y)/\Below w.heap.size w w':=by
 obtain⟨aa,ca,rfl⟩:=ha.form;obtain⟨ab,cb,rfl⟩:=hb.form;rw[zk]at ha hb ⊢;rw[zk]
 go_enter Tryz.func189,Tryz.ntmps189
 go_wp2_with fail
 go_loopg [5] a.length (fun g n wr=>∃k:Nat,k<=a.length/\k<=b.length/\g=a.length-k/\n= .int .i64 k/\Hid (a.take k=b.take k)/\Below w.heap.size w wr)
 case atStart=>exact⟨0,Nat.zero_le _,Nat.zero_le _,rfl,rfl,ze rfl,Below.refl _ _⟩
 case round=>
  obtain⟨k,hka,hkb,rfl,rfl,HE,hbel⟩:=hrel;have hz:=hbel.size;have k0:(0:Int)<=(k:Int):=Int.natCast_nonneg _;have kw:IntKind.i64.wrap ((k:Int)+1)=(k:Int)+1:=IntWalk.i64_in _ (by omega)
  by_cases h1:k<a.length
  ·have h1':(k:Int)<(a.length:Int):=by omega
   by_cases h2:k<b.length
   ·have h2':(k:Int)<(b.length:Int):=by omega
    obtain⟨a1,x,rfl,hcx,hx⟩:=(Sl.old ha hbel).strAt' (i:=k) h1;obtain⟨a2,y,rfl,hcy,hy⟩:=(Sl.old hb hbel).strAt' (i:=k) h2
    by_cases hxy:x=y
    ·subst hxy
     have hbe:(x==x)=true:=by simp
     have HE':=ze (zhV HE.out hx hy);clear hx hy;go_wp2_with fail;go_quiet (fail);go_wp2_with fail
     go_roundg (a.length-(k+1))
     case measure=>omega
     case rel=>exact⟨k+1,by omega,by omega,rfl,rfl,HE',zi hbel (zm _ _) hz⟩
    ·have hbe:(x==y)=false:=by simpa using hxy
     have HM:=ze (show ∀x y,a[k]? =some x->b[k]? =some y->x≠y from fun x' y' q1 q2=>by
      rw[hx]at q1;rw[hy]at q2;cases q1;cases q2
      exact hxy)
     clear hx hy;go_wp2_with fail;go_quiet (fail);go_wp2_with fail;go_ret;exact⟨k,rfl,⟨hka,hkb,HE.out,HM.out⟩,zi hbel (zm _ _) hz⟩
   ·have hn2:¬(k:Int)<(b.length:Int):=by omega
    go_wp2_with fail;go_quiet (fail);go_wp2_with fail;go_ret;exact⟨k,rfl,⟨hka,hkb,HE.out,fun x y _ q=>absurd (List.getElem?_eq_some_iff.1 q).1 h2⟩,zi hbel (zm _ _) hz⟩
  ·have hn1:¬(k:Int)<(a.length:Int):=by omega
   go_wp2_with fail;go_quiet (fail);go_wp2_with fail;go_ret;exact⟨k,rfl,⟨hka,hkb,HE.out,fun x y q _ =>absurd (List.getElem?_eq_some_iff.1 q).1 h1⟩,zi hbel (zm _ _) hz⟩
theorem zoa(va vb:Value)(a b:List (List UInt8))(w:World)(ha:Sl w va (zj a))(hb:Sl w vb (zj b))(hal:a.length<=1000000)(hbl:b.length<=1000000):
  Calls Tryz.prog 215 #[va,vb] w fun e w'=>∃k:Nat,e= .returned (.int .i64 k)/\(k<=a.length/\k<=b.length/\a.drop (a.length-k)=b.drop (b.length-k))/\Below w.heap.size w w':=by
 obtain⟨aa,ca,rfl⟩:=ha.form;obtain⟨ab,cb,rfl⟩:=hb.form;rw[zk]at ha hb ⊢;rw[zk]
 go_enter Tryz.func215,Tryz.ntmps215
 go_wp2_with fail
 go_loopg [5] a.length (fun g n wr=>∃k:Nat,k<=a.length/\k<=b.length/\g=a.length-k/\n= .int .i64 k/\Hid (a.drop (a.length-k)=b.drop (b.length-k))/\Below w.heap.size w wr)
 case atStart=>exact⟨0,Nat.zero_le _,Nat.zero_le _,rfl,rfl,ze (by simp),Below.refl _ _⟩
 case round=>
  obtain⟨k,hka,hkb,rfl,rfl,HE,hbel⟩:=hrel;have hz:=hbel.size;have k0:(0:Int)<=(k:Int):=Int.natCast_nonneg _;have kw:IntKind.i64.wrap ((k:Int)+1)=(k:Int)+1:=IntWalk.i64_in _ (by omega)
  by_cases h1:k<a.length
  ·have h1':(k:Int)<(a.length:Int):=by omega
   by_cases h2:k<b.length
   ·have h2':(k:Int)<(b.length:Int):=by omega
    obtain⟨i,hi⟩:∃i,a.length-(k+1)=i:=⟨_,rfl⟩;obtain⟨j,hj⟩:∃j,b.length-(k+1)=j:=⟨_,rfl⟩;obtain⟨a1,x,rfl,hcx,hx⟩:=(Sl.old ha hbel).strAt' (i:=i) (by omega);obtain⟨a2,y,rfl,hcy,hy⟩:=(Sl.old hb hbel).strAt' (i:=j) (by omega);have i0:(0:Int)<=(i:Int):=Int.natCast_nonneg _
    have i1:(i:Int)<(a.length:Int):=by omega
    have j0:(0:Int)<=(j:Int):=Int.natCast_nonneg _
    have j1:(j:Int)<(b.length:Int):=by omega
    have aw1:IntKind.i64.wrap ((a.length:Int)-1)=(a.length:Int)-1:=IntWalk.i64_in _ (by omega);have aw2:IntKind.i64.wrap ((a.length:Int)-1-(k:Int))=(i:Int):=(IntWalk.i64_in _ (by omega)).trans (by omega);have bw1:IntKind.i64.wrap ((b.length:Int)-1)=(b.length:Int)-1:=IntWalk.i64_in _ (by omega);have bw2:IntKind.i64.wrap ((b.length:Int)-1-(k:Int))=(j:Int):=(IntWalk.i64_in _ (by omega)).trans (by omega)
    by_cases hxy:x=y
    ·subst hxy
     have hbe:(x==x)=true:=by simp
     have HE':=ze (show a.drop (a.length-(k+1))=b.drop (b.length-(k+1)) by
      rw[hi,hj];refine zia ?_ hx hy;rw[show i+1=a.length-k by omega,show j+1=b.length-k by omega]
      exact HE.out)
     clear hx hy hi hj;go_wp2_with fail;go_quiet (fail);go_wp2_with fail
     go_roundg (a.length-(k+1))
     case measure=>omega
     case rel=>exact⟨k+1,by omega,by omega,rfl,rfl,HE',zi hbel (zm _ _) hz⟩
    ·have hbe:(x==y)=false:=by simpa using hxy
     clear hx hy hi hj;go_wp2_with fail;go_quiet (fail);go_wp2_with fail;go_ret;exact⟨k,rfl,⟨hka,hkb,HE.out⟩,zi hbel (zm _ _) hz⟩
   ·have hn2:¬(k:Int)<(b.length:Int):=by omega
    go_wp2_with fail;go_quiet (fail);go_wp2_with fail;go_ret;exact⟨k,rfl,⟨hka,hkb,HE.out⟩,zi hbel (zm _ _) hz⟩
  ·have hn1:¬(k:Int)<(a.length:Int):=by omega
   go_wp2_with fail;go_quiet (fail);go_wp2_with fail;go_ret;exact⟨k,rfl,⟨hka,hkb,HE.out⟩,zi hbel (zm _ _) hz⟩
theorem kH(w0:World)(l vs:Value)(es:List (Int × List UInt8))(kind:Int)(xs:List (List UInt8))(w:World)(hO:xE w w0.heap.size l es)(hs:Sl w0 vs (zj xs))(hb:Below w0.heap.size w0 w)(hlen:es.length+xs.length<=4000000)
  (B Z:Nat) (wA:World) (hZ:Z<=w.heap.size) (hA:Aside B Z wA w l):
  Calls Tryz.prog 190 #[l,.int .i64 kind,vs] w fun e w'=>∃l',e= .returned l'/\xE w' w0.heap.size l' (es++xs.map fun x=>(kind,x))/\Below w0.heap.size w0 w'/\w.heap.size<=w'.heap.size/\Aside B Z wA w' l':=by
 obtain⟨ao,cap,rfl⟩:=hs.form;rw[zk]at hs ⊢;have hw:=hb.size
 go_enter Tryz.func190,Tryz.ntmps190
 go_wp2_with fail
 go_loopg [0,11] xs.length (fun g l i wr=>∃k:Nat,k<=xs.length/\g=xs.length-k/\i= .int .i64 k/\Hid (xE wr w0.heap.size l (es ++(xs.take k).map fun x=>(kind,x)))/\Below w0.heap.size w0 wr/\w.heap.size<=wr.heap.size/\Hid (Aside B Z wA wr l))
 case atStart=>exact⟨0,Nat.zero_le _,rfl,rfl,ze (by simpa using hO),hb,Nat.le_refl _,ze hA⟩
 case round=>
  obtain⟨k,hk,rfl,rfl,HO,hbel,hz,HA⟩:=hrel;have k0:(0:Int)<=(k:Int):=Int.natCast_nonneg _
  by_cases hlt:k<xs.length
  ·have k1:(k:Int)<(xs.length:Int):=by omega
   have kw:IntKind.i64.wrap ((k:Int)+1)=(k:Int)+1:=IntWalk.i64_in _ (by omega);obtain⟨a1,x,rfl,hcx,hx⟩:=(Sl.old hs hbel).strAt' (i:=k) hlt
   have HS:=ze (show(es ++(xs.take k).map fun x=>(kind,x))++[(kind,x)]=es ++(xs.take (k+1)).map fun x=>(kind,x) by
    rw[yz hx,List.map_append,List.append_assoc]
    rfl)
   have hl4:(es ++(xs.take k).map fun x=>(kind,x)).length<=4000000:=by rw[List.length_append,List.length_map,List.length_take];omega
   obtain⟨E,hE⟩:∃E,(es ++(xs.take k).map fun x=>(kind,x))=E:=⟨_,rfl⟩;rw[hE]at HO HS hl4;have HL4:=ze hl4;have hbase:w0.heap.size<=wr.heap.size:=hbel.size;clear hx hE hl4
   go_wp2_with (refine xp rfl 15 19 rfl w0.heap.size _ _ kind x rfl HO.out rfl HL4.out hbase B Z wA (by omega) HA.out ?_;intro v5 w5 hown5 hb5 hA5)
   have HO':=ze (show xE w5 w0.heap.size v5 (es ++(xs.take (k+1)).map fun x=>(kind,x)) by
    rw[<-HS.out]
    exact hown5)
   have HA':=ze hA5;have hb6:=hbel.trans hb5;have hs6:=hb5.size;clear hown5 hA5 hb5
   go_roundg (xs.length-(k+1))
   case measure=>omega
   case rel=>exact⟨k+1,by omega,rfl,rfl,HO',hb6,by omega,HA'⟩
  ·obtain rfl:k=xs.length:=by omega
   have hneg:¬(xs.length:Int)<(xs.length:Int):=by omega
   go_wp2_with fail;go_ret;have:=HO.out;rw[List.take_length]at this;exact⟨_,rfl,this,hbel,hz,HA.out⟩
end
open Go.RowKit
attribute [local go_sem] Oper.semAt_some
section
theorem Tryz.infoU32:(Tryz.prog.info? 110).map (fun i=>(i.zero,i.size,i.bytes))=some (some (.int .u32 0),1,4):=by kernel_rfl
structure zgu(w wx:World)(vB:Value)(m r h p q:Nat)(g f:Nat->Nat):Prop where
 box:wx.heap[w.heap.size]? =some (.cells #[vB] 96 (0,0))
 bp:wx.heap[p]? =some (.cells #[.slice (some ⟨r,0,none⟩) (m+1) (m+1)] 277 (0,0))
 bq:wx.heap[q]? =some (.cells #[.slice (some ⟨h,0,none⟩) (m+1) (m+1)] 277 (0,0))
 rr:wx.heap[r]? =some (.cells (zcF .u32 g (m+1)).toArray 110 (0,0))
 rh:wx.heap[h]? =some (.cells (zcF .u32 f (m+1)).toArray 110 (0,0))
 far:w.heap.size<r/\w.heap.size<h/\w.heap.size<p/\w.heap.size<q
 apart:r≠h/\r≠p/\r≠q/\h≠p/\h≠q/\p≠q
 below:Below w.heap.size w wx
theorem zJ(w:World)(o0 o1 o2 o3 o4:Obj):let X:=(((((w.alloc o0).alloc o1).alloc o2).alloc o3).alloc o4).drew
  X.heap[w.heap.size]? =some o0/\X.heap[w.heap.size+1]? =some o1/\X.heap[w.heap.size+1+1]? =some o2/\X.heap[w.heap.size+1+1+1]? =some o3/\X.heap[w.heap.size+1+1+1+1]? =some o4/\Below w.heap.size w X:=by
 have s0:(w.alloc o0).heap.size=w.heap.size+1:=by simp
 have s1:((w.alloc o0).alloc o1).heap.size=w.heap.size+1+1:=by simp
 have s2:(((w.alloc o0).alloc o1).alloc o2).heap.size=w.heap.size+1+1+1:=by simp
 have s3:((((w.alloc o0).alloc o1).alloc o2).alloc o3).heap.size=w.heap.size+1+1+1+1:=by simp
 intro X;refine⟨?_,?_,?_,?_,?_,?_⟩
 ·show(((((w.alloc o0).alloc o1).alloc o2).alloc o3).alloc o4).heap[_]? = _
  rw[Below.heap_alloc _ _ _ (by omega),Below.heap_alloc _ _ _ (by omega),Below.heap_alloc _ _ _ (by omega),Below.heap_alloc _ _ _ (by omega),World.alloc_heap_new]
 ·show(((((w.alloc o0).alloc o1).alloc o2).alloc o3).alloc o4).heap[_]? = _
  rw[Below.heap_alloc _ _ _ (by omega),Below.heap_alloc _ _ _ (by omega),Below.heap_alloc _ _ _ (by omega),<-s0,World.alloc_heap_new]
 ·show(((((w.alloc o0).alloc o1).alloc o2).alloc o3).alloc o4).heap[_]? = _
  rw[Below.heap_alloc _ _ _ (by omega),Below.heap_alloc _ _ _ (by omega),<-s1,World.alloc_heap_new]
 ·show(((((w.alloc o0).alloc o1).alloc o2).alloc o3).alloc o4).heap[_]? = _
  rw[Below.heap_alloc _ _ _ (by omega),<-s2,World.alloc_heap_new]
 ·show(((((w.alloc o0).alloc o1).alloc o2).alloc o3).alloc o4).heap[_]? = _
  rw[<-s3,World.alloc_heap_new]
 ·exact((((((Below.refl _ w).alloc (Nat.le_refl _) o0).alloc (by omega) o1).alloc (by omega) o2).alloc (by omega) o3).alloc (by omega) o4).trans (show Below w.heap.size _ X from⟨rfl,rfl,rfl,Nat.le_refl _,fun _ _ =>rfl⟩)
theorem zgu.alloc{w wx:World}{vB:Value}{m r h p q:Nat}{g f:Nat->Nat}(hU:zgu w wx vB m r h p q g f)(o:Obj):zgu w (wx.alloc o) vB m r h p q g f:=by
 have k:∀ {b:Nat} {ob:Obj},wx.heap[b]? =some ob->(wx.alloc o).heap[b]? =some ob:=fun {b ob} hb=>(Below.heap_alloc wx o b (Array.getElem?_eq_some_iff.1 hb).1).trans hb
 exact⟨k hU.box,k hU.bp,k hU.bq,k hU.rr,k hU.rh,hU.far,hU.apart,hU.below.alloc hU.below.size _⟩
def zrD(w:World)(vA vB:Value)(m:Nat)(v0 v5 v6:Value)(wx:World):Prop:=
 v0=vA/\∃r h p q:Nat,v5= .pointer (some ⟨p,0,none⟩)/\v6= .pointer (some ⟨q,0,none⟩)/\Hid (zgu w wx vB m r h p q (fun _ =>0) (fun _ =>0))
theorem ziG{w wx:World}{vA vB:Value}{Z:Array Value}{m m1 r h p q:Nat}(hm1:m+1=m1)(hZ:(List.replicate m1 (Value.int .u32 0)).toArray=Z)(h0:wx.heap[w.heap.size]? =some (.cells #[vB] 96 (0,0)))
  (hp:wx.heap[p]? =some (.cells #[.slice (some ⟨r,0,none⟩) m1 m1] 277 (0,0))) (hq:wx.heap[q]? =some (.cells #[.slice (some ⟨h,0,none⟩) m1 m1] 277 (0,0)))
  (hr:wx.heap[r]? =some (.cells Z 110 (0,0))) (hh:wx.heap[h]? =some (.cells Z 110 (0,0))) (far:w.heap.size<r/\w.heap.size<h/\w.heap.size<p/\w.heap.size<q) (apart:r≠h/\r≠p/\r≠q/\h≠p/\h≠q/\p≠q)
  (hb:Below w.heap.size w wx):zrD w vA vB m vA (.pointer (some ⟨p,0,none⟩)) (.pointer (some ⟨q,0,none⟩)) wx:=by
 subst hm1;rw[<-hZ,ziu]at hr hh;exact⟨rfl,r,h,p,q,rfl,rfl,ze ⟨h0,hp,hq,hr,hh,far,apart,hb⟩⟩
theorem zgu.step{w wx w1:World}{vB:Value}{m r h p q:Nat}{g f g':Nat->Nat}(hU:zgu w wx vB m r h p q g f)(hO:zaj r wx w1)(hr:w1.heap[r]? =some (.cells (zcF .u32 g' (m+1)).toArray 110 (0,0))):
  zgu w ((w1.setCell ⟨p,0,none⟩ (.slice (some ⟨h,0,none⟩) (m+1) (m+1))).setCell ⟨q,0,none⟩ (.slice (some ⟨r,0,none⟩) (m+1) (m+1))) vB m h r p q f g':=by
 obtain⟨f1,f2,f3,f4⟩:=hU.far;obtain⟨a1,a2,a3,a4,a5,a6⟩:=hU.apart
 have hne:∀b,b≠p->b≠q->((w1.setCell ⟨p,0,none⟩ (.slice (some ⟨h,0,none⟩) (m+1) (m+1))).setCell ⟨q,0,none⟩ (.slice (some ⟨r,0,none⟩) (m+1) (m+1))).heap[b]? =w1.heap[b]? :=fun b h1 h2=>(Below.heap_setCell _ _ _ _ h2).trans (Below.heap_setCell _ _ _ _ h1)
 refine⟨?_,?_,?_,?_,?_,⟨f2,f1,f3,f4⟩,⟨a1.symm,a4,a5,a2,a3,a6⟩,?_⟩
 ·rw[hne _ (by omega) (by omega),hO.block _ (by omega)]
  exact hU.box
 ·rw[Below.heap_setCell _ _ _ _ (show p≠q by omega)]
  have:=zv (i:=0) (u:= .slice (some ⟨h,0,none⟩) (m+1) (m+1)) ((hO.block _ (by omega)).trans hU.bp);simpa using this
 ·have:=zv (i:=0) (u:= .slice (some ⟨r,0,none⟩) (m+1) (m+1)) ((Below.heap_setCell w1 ⟨p,0,none⟩ (.slice (some ⟨h,0,none⟩) (m+1) (m+1)) q (by show q≠p;omega)).trans ((hO.block _ (by omega)).trans hU.bq))
  simpa using this
 ·rw[hne _ (by omega) (by omega),hO.block _ (by omega)]
  exact hU.rh
 ·rw[hne _ (by omega) (by omega)]
  exact hr
 ·exact((hU.below.trans (hO.below (by omega))).setCell (by show w.heap.size<=p;omega) _).setCell (by show w.heap.size<=q;omega) _
theorem zqb{B Z:Nat}{w:World}{vB:Value}{m p q:Nat}{F:Nat->Nat->Nat}(hB:w.heap.size<=B):OwnFrom B (fun(k:Nat) W=>∃r h g,Hid (zgu w W vB m r h p q g (F k))/\Hid (g m=0/\r<Z/\h<Z)):=fun k X Y row hs hg hr=>by
 obtain⟨r,h,g,HU,g0⟩:=hs;have hU:=HU.out
 have keep:∀ {b:Nat} {cs:Array Value} {t:TypeId},X.heap[b]? =some (.cells cs t (0,0))->Y.heap[b]? =some (.cells cs t (0,0)):=fun {b cs t} hb=>by
  refine(hg.block b (lt_of_block hb) fun e=>?_).trans hb;obtain⟨_,o,ho,hc⟩:=hr b e.symm;rw[hb]at ho;cases ho;cases hc
 exact⟨r,h,g,ze ⟨keep hU.box,keep hU.bp,keep hU.bq,keep hU.rr,keep hU.rh,hU.far,hU.apart,hU.below.grown hg hU.below.size (fun j e=>by have:=(hr j e).1;omega)⟩,g0⟩
theorem zaj.others{br:Nat}{w w':World}{cs:Array Value}{t:TypeId}{fr:Nat × Nat}(h:zaj br w w')(hb:w.heap[br]? =some (.cells cs t fr)):KeepsOthers w w':=
 ⟨Nat.le_of_eq h.size.symm,fun k o hk ho=>by
  by_cases e:k=br
  ·subst e
   rw[hb]at hk;cases hk;cases ho
  ·exact(h.block k e).trans hk⟩
theorem zkd(va vb:Value)(a b:List (List UInt8))(w:World)(ha:Sl w va (zj a))(hb:Sl w vb (zj b))(hal:a.length<=1000000)(hbl:b.length<=1000000):
  Calls Tryz.prog 216 #[va,vb] w fun e w'=>e= .returned (.int .i64 (lcs a b:Nat))/\Below w.heap.size w w':=by
 obtain⟨i0,hi0,hi1,hi2,hi3⟩:=info_parts Tryz.infoU32;obtain⟨aa,ca,rfl⟩:=ha.form;obtain⟨ab,cb,rfl⟩:=hb.form;rw[zk]at ha hb ⊢;rw[zk];refine(callsIn_wide (n:=3)).1 ?_;refine callsIn_of_wp_marks Tryz.func216 rfl trivial ?_ rfl;simp only[Tryz.ntmps216,List.size_toArray,List.length_cons,List.length_nil,Nat.reduceAdd,Nat.reduceSub,Array.replicate_succ,Array.replicate_zero,List.push_toArray,List.append_toArray,List.nil_append,List.cons_append];refine wpIn_wide.2 ?_
 have mk1:=fun(wx:World) (m:Nat) (hm:m<=1000001)=>qQ (P:=Tryz.prog) wx 277 110 i0 (.int .u32 0) Tryz.underlying277 hi0 hi1 hi2 rfl m (by rw[hi3];omega) (by omega)
 have HA:=ze ha;have HB:=ze hb;clear hi0 hi1 hi2 hi3 ha hb
 by_cases hlt:a.length<b.length
 ·have hlt':(a.length:Int)<(b.length:Int):=by omega
  have hlc:lcs a b=lcs b a:=zqv a b;obtain⟨m,hm⟩:∃m,a.length=m:=⟨_,rfl⟩;obtain⟨n,hn⟩:∃n,b.length=n:=⟨_,rfl⟩;obtain⟨m1,hm1⟩:∃m1,m+1=m1:=⟨_,rfl⟩
  have mk2:=fun wx:World=>mk1 wx m1 (by omega)
  have mw:IntKind.i64.wrap ((m:Int)+1)=(m1:Int):=(IntWalk.i64_in _ (by omega)).trans (by omega);obtain⟨Z,hZ⟩:∃Z,(List.replicate m1 (Value.int .u32 0)).toArray=Z:=⟨_,rfl⟩;rw[hZ]at mk2;rw[hlc];rw[hm,hn]at hlt' ⊢;rw[hm]at HA;rw[hn]at HB;have HM1:=ze hm1;have HZ:=ze hZ;have HM:=ze hm;have HN:=ze hn;have HLB:=ze (show m<=1000000/\n<=1000000 by omega);clear mk1 hm1 hm hn hZ hlt hlc hal hbl
  go_upto_region 3 with fail
  have hne1:=Nat.ne_of_gt (Nat.lt_succ_self w.heap.size)
  go_cut [0,5,6]from 9 to 24 (fun v0 v5 v6 wx=>zrD w (.slice ab n cb) (.slice aa m ca) m v0 v5 v6 wx)
  case first=>
   go_region_held3 (fun wy=>wy.cell? ⟨w.heap.size,0,none⟩=some (.slice aa m ca)) (simp(maxDischargeDepth:=12) [*,World.cell?_alloc_some]) (fail)
   all_goals
    go_wp2_with fail
    go_meet
    apply ziG HM1.out HZ.out (zJ _ _ _ _ _ _).1 ?hp ?hq ?hr ?hh ?far ?apart (zJ _ _ _ _ _ _).2.2.2.2.2
    case hp=>first |exact(zJ _ _ _ _ _ _).2.1 |exact(zJ _ _ _ _ _ _).2.2.1 |exact(zJ _ _ _ _ _ _).2.2.2.1 |exact(zJ _ _ _ _ _ _).2.2.2.2.1
    case hq=>first |exact(zJ _ _ _ _ _ _).2.1 |exact(zJ _ _ _ _ _ _).2.2.1 |exact(zJ _ _ _ _ _ _).2.2.2.1 |exact(zJ _ _ _ _ _ _).2.2.2.2.1
    case hr=>first |exact(zJ _ _ _ _ _ _).2.1 |exact(zJ _ _ _ _ _ _).2.2.1 |exact(zJ _ _ _ _ _ _).2.2.2.1 |exact(zJ _ _ _ _ _ _).2.2.2.2.1
    case hh=>first |exact(zJ _ _ _ _ _ _).2.1 |exact(zJ _ _ _ _ _ _).2.2.1 |exact(zJ _ _ _ _ _ _).2.2.2.1 |exact(zJ _ _ _ _ _ _).2.2.2.2.1
    case far=>omega
    case apart=>omega
  case rest=>
   obtain⟨rfl,r,h,p,q,rfl,rfl,HU⟩:=hcut;have hzc:=HU.out.below.size;obtain⟨q1,q2,q3,q4⟩:=HU.out.far;have hr0:=lt_of_block HU.out.rr;have hh0:=lt_of_block HU.out.rh;have hp0:=lt_of_block HU.out.bp;have hq0:=lt_of_block HU.out.bq
   go_wp2_with (go_at_call 219;refine(zhy _ _ _ _).mono ?_;rintro e w5 ⟨rfl,rfl⟩)
   obtain⟨w9,hw9⟩:∃w9,wc.alloc (.cells #[.slice ab n cb] 96)=w9:=⟨_,rfl⟩
   have hU9:zgu w w9 (.slice aa m ca) m r h p q (fun _ =>0) (fun _ =>0):=by
    rw[<-hw9];exact HU.out.alloc _
   have hz9:w9.heap.size=wc.heap.size+1:=by
    rw[<-hw9];simp
   have hc9:w9.cell? ⟨wc.heap.size,0,none⟩=some (.slice ab n cb):=by
    rw[<-hw9];exact zd (i:=0) (World.alloc_heap_new wc _) rfl
   rw[hw9];clear HU hw9;refine(wpIn_wide (n:=3)).1 ?_;refine' zbp (gf:=225) (lb:= #[.pointer (some ⟨wc.heap.size,0,none⟩)]) (N:=b.length) (enc:=zbm b) (Kp:=KpB w.heap.size wc.heap.size) (w0:=w9) rfl (enters_of Tryz.func225 (by kernel_rfl) rfl) ?seq (Below.refl _ _) (fun _ =>rfl) KpB.trans ?kb
    (fun k W=>∃r h g,Hid (zgu w W (.slice aa m ca) m r h p q g (fun j=>lcs (b.drop (b.length-k)) (a.drop j)))/\Hid (g m=0/\r<wc.heap.size/\h<wc.heap.size)) (zqb hU9.below.size) ?start _ ?assign ?body ?done
   case seq=>exact zcQ w w9 wc.heap.size _ b HB.out hU9.below hc9 (by rw[HN.out];exact HLB.out.2)
   case kb=>exact fun W l o h1 h2=>KpB.put W o (by omega) (by omega) h2
   case start=>
    refine⟨r,h,fun _ =>0,ze ?_,ze ⟨rfl,hr0,hh0⟩⟩
    have:(fun j=>lcs (b.drop (b.length-0)) (a.drop j))=fun _ =>0:=by
     funext j
     rw[Nat.sub_zero,List.drop_length,xR]
    rw[this];exact hU9
   case assign=>
    intro l k W K hK
    dsimp only[zbm]
    gi_wp2
    exact hK
   case body=>
    rintro l k W hk ⟨r,h,g,HU,HG⟩;obtain⟨f1,f2,f3,f4⟩:=HU.out.far;obtain⟨a1,a2,a3,a4,a5,a6⟩:=HU.out.apart;obtain⟨x,hx⟩:∃x,b[b.length-1-k]? =some x:=⟨_,List.getElem?_eq_getElem (by omega)⟩;rw[hx,Option.getD_some]
    have hA':b.drop (b.length-(k+1))=x::b.drop (b.length-k):=by
     obtain⟨e1,e2⟩:=List.getElem?_eq_some_iff.1 hx;rw[show b.length-(k+1)=b.length-1-k by omega,List.drop_eq_getElem_cons e1,e2,show b.length-1-k+1=b.length-k by omega]
    have HST:=ze (zfF x (b.drop (b.length-k)) a);rw[<-hA']at HST
    obtain⟨F,hF⟩:∃F:Nat->Nat,F=fun j=>lcs (b.drop (b.length-k)) (a.drop j):=⟨_,rfl⟩
    obtain⟨G,hG⟩:∃G:Nat->Nat,G=fun j=>lcs (b.drop (b.length-(k+1))) (a.drop j):=⟨_,rfl⟩
    have HF1:=ze (show ∀j,F j<=1000000 from fun j=>by
     rw[hF];have:=(zav (b.drop (b.length-k)) (a.drop j)).1;have h1:=HLB.out.2;have h2:=HN.out;rw[List.length_drop]at this;show lcs _ _ <=1000000
     omega)
    have HG1:=ze (show ∀j,G j<=1000000 from fun j=>by
     rw[hG];have:=(zav (b.drop (b.length-(k+1))) (a.drop j)).1;have h1:=HLB.out.2;have h2:=HN.out;rw[List.length_drop]at this;show lcs _ _ <=1000000
     omega)
    have HF0:=ze (show F m=0 by
     rw[hF];show lcs _ (a.drop m)=0
     rw[List.drop_of_length_le (l:=a) (Nat.le_of_eq HM.out),xg])
    rw[<-hF,<-hG]at HST;rw[<-hF]at HU;have HGE:=ze hG;have ckb:=zd (i:=0) HU.out.box rfl;have ckp:=zd (i:=0) HU.out.bp rfl;have ckq:=zd (i:=0) HU.out.bq rfl;clear hx hA' hF hG
    gi_wp2_with (refine⟨trivial,?_⟩;gi_at_call 223;refine(CallsIn.inRound l (callsIn_wide.2 (zhH w r h m x (.slice aa m ca) a G F g W HM.out (by have:=HLB.out.1;omega) HA.out HU.out.below (by omega) (by omega) HU.out.rr HG.out.1 HU.out.rh HST.out HF1.out HG1.out))).mono ?_;rintro e w6 ⟨⟨v,rfl⟩,hO,hr6⟩;have c6p:=zd (i:=0) ((hO.block p (by omega)).trans HU.out.bp) rfl;have c6q:=zd (i:=0) ((hO.block q (by omega)).trans HU.out.bq) rfl;have z6p:=zo (i:=0) ((hO.block p (by omega)).trans HU.out.bp);have z6q:=zo (i:=0) ((hO.block q (by omega)).trans HU.out.bq);have HO6:=ze hO;have HR6:=ze hr6;clear hO hr6)
    refine⟨(((zaj.others HO6.out HU.out.rr).trans (KeepsOthers.setCell _ _ _)).trans (KeepsOthers.setCell _ _ _)).from _,⟨((HO6.out.below (by omega)).setCell (by show w.heap.size<=p;omega) _).setCell (by show w.heap.size<=q;omega) _,?_⟩,h,r,F,?_,ze ⟨HF0.out,HG.out.2.2,HG.out.2.1⟩⟩
    ·exact((Below.heap_setCell _ _ _ _ (by show wc.heap.size≠q;omega)).trans (Below.heap_setCell _ _ _ _ (by show wc.heap.size≠p;omega))).trans (HO6.out.block _ (by have:=HG.out.2.1;omega))
    ·have hs:=HU.out.step HO6.out HR6.out
     rw[HGE.out]at hs;exact ze hs
   case done=>
    rintro D W hD ⟨r,h,g,HU,HG⟩ hK;have ckq:=zd (i:=0) HU.out.bq rfl;have ckh:=zd (i:=0) HU.out.rh (by rw[List.getElem?_toArray];exact zca (by omega))
    have HV:lcs (b.drop (b.length-b.length)) (a.drop 0)=lcs b a:=by
     rw[Nat.sub_self,List.drop_zero,List.drop_zero]
    have hle:=(zav b a).1;rw[HV]at ckh;obtain⟨V,hV⟩:∃V,lcs b a=V:=⟨_,rfl⟩;rw[HN.out]at hle;rw[hV]at ckh hle;have HVE:=ze hV;have hl1:=HLB.out.2;have vw:IntKind.i64.wrap (V:Int)=(V:Int):=IntWalk.i64_in _ (by omega)
    have p0:(0:Int)<((m:Int)+1):=by omega
    clear hle hV HV
    dsimp only
    go_wp2_with fail;refine⟨by simp,.inl ⟨_,_,rfl,run_takeDeferred hK,?_⟩⟩;exact⟨_,results_tmp rfl _ _ _,(by rw[HVE.out];rfl),HU.out.below.trans (belowK_b (w:=w) (Nat.le_refl _) W D _ _ (by have:=hU9.below.size;omega) hK rfl rfl)⟩
 ·have hlt':¬(a.length:Int)<(b.length:Int):=by omega
  have hlc:lcs a b=lcs a b:=rfl;obtain⟨m,hm⟩:∃m,b.length=m:=⟨_,rfl⟩;obtain⟨n,hn⟩:∃n,a.length=n:=⟨_,rfl⟩;obtain⟨m1,hm1⟩:∃m1,m+1=m1:=⟨_,rfl⟩
  have mk2:=fun wx:World=>mk1 wx m1 (by omega)
  have mw:IntKind.i64.wrap ((m:Int)+1)=(m1:Int):=(IntWalk.i64_in _ (by omega)).trans (by omega);obtain⟨Z,hZ⟩:∃Z,(List.replicate m1 (Value.int .u32 0)).toArray=Z:=⟨_,rfl⟩;rw[hZ]at mk2;rw[hlc];rw[hm,hn]at hlt' ⊢;rw[hm]at HB;rw[hn]at HA;have HM1:=ze hm1;have HZ:=ze hZ;have HM:=ze hm;have HN:=ze hn;have HLB:=ze (show m<=1000000/\n<=1000000 by omega);clear mk1 hm1 hm hn hZ hlt hlc hal hbl
  go_upto_region 3 with fail
  have hne1:=Nat.ne_of_gt (Nat.lt_succ_self w.heap.size)
  go_cut [0,5,6]from 9 to 24 (fun v0 v5 v6 wx=>zrD w (.slice aa n ca) (.slice ab m cb) m v0 v5 v6 wx)
  case first=>
   go_region_held3 (fun wy=>wy.cell? ⟨w.heap.size,0,none⟩=some (.slice ab m cb)) (simp(maxDischargeDepth:=12) [*,World.cell?_alloc_some]) (fail)
   all_goals
    go_wp2_with fail
    go_meet
    apply ziG HM1.out HZ.out (zJ _ _ _ _ _ _).1 ?hp ?hq ?hr ?hh ?far ?apart (zJ _ _ _ _ _ _).2.2.2.2.2
    case hp=>first |exact(zJ _ _ _ _ _ _).2.1 |exact(zJ _ _ _ _ _ _).2.2.1 |exact(zJ _ _ _ _ _ _).2.2.2.1 |exact(zJ _ _ _ _ _ _).2.2.2.2.1
    case hq=>first |exact(zJ _ _ _ _ _ _).2.1 |exact(zJ _ _ _ _ _ _).2.2.1 |exact(zJ _ _ _ _ _ _).2.2.2.1 |exact(zJ _ _ _ _ _ _).2.2.2.2.1
    case hr=>first |exact(zJ _ _ _ _ _ _).2.1 |exact(zJ _ _ _ _ _ _).2.2.1 |exact(zJ _ _ _ _ _ _).2.2.2.1 |exact(zJ _ _ _ _ _ _).2.2.2.2.1
    case hh=>first |exact(zJ _ _ _ _ _ _).2.1 |exact(zJ _ _ _ _ _ _).2.2.1 |exact(zJ _ _ _ _ _ _).2.2.2.1 |exact(zJ _ _ _ _ _ _).2.2.2.2.1
    case far=>omega
    case apart=>omega
  case rest=>
   obtain⟨rfl,r,h,p,q,rfl,rfl,HU⟩:=hcut;have hzc:=HU.out.below.size;obtain⟨q1,q2,q3,q4⟩:=HU.out.far;have hr0:=lt_of_block HU.out.rr;have hh0:=lt_of_block HU.out.rh;have hp0:=lt_of_block HU.out.bp;have hq0:=lt_of_block HU.out.bq
   go_wp2_with (go_at_call 219;refine(zhy _ _ _ _).mono ?_;rintro e w5 ⟨rfl,rfl⟩)
   obtain⟨w9,hw9⟩:∃w9,wc.alloc (.cells #[.slice aa n ca] 96)=w9:=⟨_,rfl⟩
   have hU9:zgu w w9 (.slice ab m cb) m r h p q (fun _ =>0) (fun _ =>0):=by
    rw[<-hw9];exact HU.out.alloc _
   have hz9:w9.heap.size=wc.heap.size+1:=by
    rw[<-hw9];simp
   have hc9:w9.cell? ⟨wc.heap.size,0,none⟩=some (.slice aa n ca):=by
    rw[<-hw9];exact zd (i:=0) (World.alloc_heap_new wc _) rfl
   rw[hw9];clear HU hw9;refine(wpIn_wide (n:=3)).1 ?_;refine' zbp (gf:=225) (lb:= #[.pointer (some ⟨wc.heap.size,0,none⟩)]) (N:=a.length) (enc:=zbm a) (Kp:=KpB w.heap.size wc.heap.size) (w0:=w9) rfl (enters_of Tryz.func225 (by kernel_rfl) rfl) ?seq (Below.refl _ _) (fun _ =>rfl) KpB.trans ?kb
    (fun k W=>∃r h g,Hid (zgu w W (.slice ab m cb) m r h p q g (fun j=>lcs (a.drop (a.length-k)) (b.drop j)))/\Hid (g m=0/\r<wc.heap.size/\h<wc.heap.size)) (zqb hU9.below.size) ?start _ ?assign ?body ?done
   case seq=>exact zcQ w w9 wc.heap.size _ a HA.out hU9.below hc9 (by rw[HN.out];exact HLB.out.2)
   case kb=>exact fun W l o h1 h2=>KpB.put W o (by omega) (by omega) h2
   case start=>
    refine⟨r,h,fun _ =>0,ze ?_,ze ⟨rfl,hr0,hh0⟩⟩
    have:(fun j=>lcs (a.drop (a.length-0)) (b.drop j))=fun _ =>0:=by
     funext j
     rw[Nat.sub_zero,List.drop_length,xR]
    rw[this];exact hU9
   case assign=>
    intro l k W K hK
    dsimp only[zbm]
    gi_wp2
    exact hK
   case body=>
    rintro l k W hk ⟨r,h,g,HU,HG⟩;obtain⟨f1,f2,f3,f4⟩:=HU.out.far;obtain⟨a1,a2,a3,a4,a5,a6⟩:=HU.out.apart;obtain⟨x,hx⟩:∃x,a[a.length-1-k]? =some x:=⟨_,List.getElem?_eq_getElem (by omega)⟩;rw[hx,Option.getD_some]
    have hA':a.drop (a.length-(k+1))=x::a.drop (a.length-k):=by
     obtain⟨e1,e2⟩:=List.getElem?_eq_some_iff.1 hx;rw[show a.length-(k+1)=a.length-1-k by omega,List.drop_eq_getElem_cons e1,e2,show a.length-1-k+1=a.length-k by omega]
    have HST:=ze (zfF x (a.drop (a.length-k)) b);rw[<-hA']at HST
    obtain⟨F,hF⟩:∃F:Nat->Nat,F=fun j=>lcs (a.drop (a.length-k)) (b.drop j):=⟨_,rfl⟩
    obtain⟨G,hG⟩:∃G:Nat->Nat,G=fun j=>lcs (a.drop (a.length-(k+1))) (b.drop j):=⟨_,rfl⟩
    have HF1:=ze (show ∀j,F j<=1000000 from fun j=>by
     rw[hF];have:=(zav (a.drop (a.length-k)) (b.drop j)).1;have h1:=HLB.out.2;have h2:=HN.out;rw[List.length_drop]at this;show lcs _ _ <=1000000
     omega)
    have HG1:=ze (show ∀j,G j<=1000000 from fun j=>by
     rw[hG];have:=(zav (a.drop (a.length-(k+1))) (b.drop j)).1;have h1:=HLB.out.2;have h2:=HN.out;rw[List.length_drop]at this;show lcs _ _ <=1000000
     omega)
    have HF0:=ze (show F m=0 by
     rw[hF];show lcs _ (b.drop m)=0
     rw[List.drop_of_length_le (l:=b) (Nat.le_of_eq HM.out),xg])
    rw[<-hF,<-hG]at HST;rw[<-hF]at HU;have HGE:=ze hG;have ckb:=zd (i:=0) HU.out.box rfl;have ckp:=zd (i:=0) HU.out.bp rfl;have ckq:=zd (i:=0) HU.out.bq rfl;clear hx hA' hF hG
    gi_wp2_with (refine⟨trivial,?_⟩;gi_at_call 223;refine(CallsIn.inRound l (callsIn_wide.2 (zhH w r h m x (.slice ab m cb) b G F g W HM.out (by have:=HLB.out.1;omega) HB.out HU.out.below (by omega) (by omega) HU.out.rr HG.out.1 HU.out.rh HST.out HF1.out HG1.out))).mono ?_;rintro e w6 ⟨⟨v,rfl⟩,hO,hr6⟩;have c6p:=zd (i:=0) ((hO.block p (by omega)).trans HU.out.bp) rfl;have c6q:=zd (i:=0) ((hO.block q (by omega)).trans HU.out.bq) rfl;have z6p:=zo (i:=0) ((hO.block p (by omega)).trans HU.out.bp);have z6q:=zo (i:=0) ((hO.block q (by omega)).trans HU.out.bq);have HO6:=ze hO;have HR6:=ze hr6;clear hO hr6)
    refine⟨(((zaj.others HO6.out HU.out.rr).trans (KeepsOthers.setCell _ _ _)).trans (KeepsOthers.setCell _ _ _)).from _,⟨((HO6.out.below (by omega)).setCell (by show w.heap.size<=p;omega) _).setCell (by show w.heap.size<=q;omega) _,?_⟩,h,r,F,?_,ze ⟨HF0.out,HG.out.2.2,HG.out.2.1⟩⟩
    ·exact((Below.heap_setCell _ _ _ _ (by show wc.heap.size≠q;omega)).trans (Below.heap_setCell _ _ _ _ (by show wc.heap.size≠p;omega))).trans (HO6.out.block _ (by have:=HG.out.2.1;omega))
    ·have hs:=HU.out.step HO6.out HR6.out
     rw[HGE.out]at hs;exact ze hs
   case done=>
    rintro D W hD ⟨r,h,g,HU,HG⟩ hK;have ckq:=zd (i:=0) HU.out.bq rfl;have ckh:=zd (i:=0) HU.out.rh (by rw[List.getElem?_toArray];exact zca (by omega))
    have HV:lcs (a.drop (a.length-a.length)) (b.drop 0)=lcs a b:=by
     rw[Nat.sub_self,List.drop_zero,List.drop_zero]
    have hle:=(zav a b).1;rw[HV]at ckh;obtain⟨V,hV⟩:∃V,lcs a b=V:=⟨_,rfl⟩;rw[HN.out]at hle;rw[hV]at ckh hle;have HVE:=ze hV;have hl1:=HLB.out.2;have vw:IntKind.i64.wrap (V:Int)=(V:Int):=IntWalk.i64_in _ (by omega)
    have p0:(0:Int)<((m:Int)+1):=by omega
    clear hle hV HV
    dsimp only
    go_wp2_with fail;refine⟨by simp,.inl ⟨_,_,rfl,run_takeDeferred hK,?_⟩⟩;exact⟨_,results_tmp rfl _ _ _,(by rw[HVE.out];rfl),HU.out.below.trans (belowK_b (w:=w) (Nat.le_refl _) W D _ _ (by have:=hU9.below.size;omega) hK rfl rfl)⟩
end
open Go.RowKit
theorem kD{w:World}{v:Value}{xs:List (List UInt8)}(h:Sl w v (zj xs))(n m:Nat)(hnm:n<=m)(hm:m<=xs.length):
  ∃ao c,(∀wx,(Instr.slice 96 v (some (.int .i64 n)) (some (.int .i64 m)) none).run Tryz.prog wx= .ok (.slice ao (m-n) c) wx)/\Sl w (.slice ao (m-n) c) (zj ((xs.drop n).take (m-n))):=by
 obtain⟨j0,hj0,hj1,hj2,hj3⟩:=info_parts Tryz.infoStr;obtain⟨ao,c,h1,h2,_⟩:=zhU 96 9 Tryz.underlying96 hj0 hj2 h n m hnm (by rw[zk];exact hm);exact⟨ao,c,h1,by rw[show zj ((xs.drop n).take (m-n))=((zj xs).drop n).take (m-n) by simp[zj]];exact h2⟩
theorem xG{w:World}{v:Value}{xs:List (List UInt8)}(h:Sl w v (zj xs))(n:Nat)(hn:n<=xs.length):
  ∃ao c,(∀wx,(Instr.slice 96 v (some (.int .i64 n)) none none).run Tryz.prog wx= .ok (.slice ao (xs.length-n) c) wx)/\Sl w (.slice ao (xs.length-n) c) (zj (xs.drop n)):=by
 obtain⟨j0,hj0,hj1,hj2,hj3⟩:=info_parts Tryz.infoStr;obtain⟨v',h1,h2,_,ao,c,rfl⟩:=qH 96 9 Tryz.underlying96 hj0 hj2 h n (by rw[zk];exact hn);rw[zk]at h1 h2;exact⟨ao,c,h1,by rw[show zj (xs.drop n)=(zj xs).drop n by simp[zj]];exact h2⟩
theorem zjK{w:World}{v:Value}{xs:List (List UInt8)}(h:Sl w v (zj xs))(n:Nat)(hn:n<=xs.length):
  ∃ao c,(∀wx,(Instr.slice 96 v none (some (.int .i64 n)) none).run Tryz.prog wx= .ok (.slice ao n c) wx)/\Sl w (.slice ao n c) (zj (xs.take n)):=by
 obtain⟨j0,hj0,hj1,hj2,hj3⟩:=info_parts Tryz.infoStr;obtain⟨v',h1,h2,_,ao,c,rfl⟩:=zeT 96 9 Tryz.underlying96 hj0 h n (by rw[zk];exact hn);exact⟨ao,c,h1,by rw[show zj (xs.take n)=(zj xs).take n by simp[zj]];exact h2⟩
open Go.RowKit
section
theorem zkE(va vb:Value)(a b:List (List UInt8))(w:World)(ha:Sl w va (zj a))(hb:Sl w vb (zj b))(hal:a.length<=1000000)(hbl:b.length<=1000000):
  Calls Tryz.prog 205 #[va,vb] w fun e w'=>e= .returned (.int .i64 (lcs a b:Nat))/\Below w.heap.size w w':=by
 obtain⟨aa,ca,rfl⟩:=ha.form;obtain⟨ab,cb,rfl⟩:=hb.form;have HAl:=ze (zhz _ _ a b w ha hb hal);rw[zk]at ha hb HAl ⊢;rw[zk]at HAl ⊢;have HA:=ze ha;have HB:=ze hb;clear ha hb
 go_enter Tryz.func205,Tryz.ntmps205
 go_wp2_with fail;refine HAl.out.mono ?_;rintro e w1 ⟨k,rfl,⟨hka,hkb,hE,_⟩,hb1⟩;obtain⟨fo,fc,rf,hf⟩:=xG HA.out k hka;obtain⟨so,sc,rs,hs⟩:=xG HB.out k hkb;have k0:(0:Int)<=(k:Int):=Int.natCast_nonneg _
 have k1:(k:Int)<=(a.length:Int):=by omega
 have k2:(k:Int)<=(b.length:Int):=by omega
 have hCORE:=fun(t:Nat)=>zpL (t:=t) hE hka
 obtain⟨c,hc⟩:∃c,a.drop k=c:=⟨_,rfl⟩;obtain⟨d,hd⟩:∃d,b.drop k=d:=⟨_,rfl⟩;obtain⟨p,hp⟩:∃p,a.length-k=p:=⟨_,rfl⟩;obtain⟨q,hq⟩:∃q,b.length-k=q:=⟨_,rfl⟩
 have hcp:c.length=p:=by rw[<-hc,List.length_drop];exact hp
 have hdq:d.length=q:=by rw[<-hd,List.length_drop];exact hq
 rw[hc,hd,hcp,hdq]at hCORE;rw[hc,hp]at hf;rw[hd,hq]at hs;rw[hp]at rf;rw[hq]at rs;have HCORE:=ze hCORE;have HC:=ze hf;have HD:=ze hs;have HCP:=ze hcp;have HDQ:=ze hdq;have HPQ:=ze (show p<=1000000/\q<=1000000/\k<=1000000 by omega);clear hf hs hE hc hd hp hq HAl hka hkb hCORE hcp hdq hal hbl;go_wp2_with fail;go_quiet (fail);have hb3:Below w.heap.size w (w1.drewN nq):=zi hb1 (zm _ _) hb1.size;clear hb1;generalize w1.drewN nq=w3 at hb3 ⊢;have HT:=ze (zoa _ _ c d w3 (Sl.old HC.out hb3) (Sl.old HD.out hb3) (by rw[HCP.out];exact HPQ.out.1) (by rw[HDQ.out];exact HPQ.out.2.1));rw[HCP.out,HDQ.out]at HT
 go_wp2_with (go_at_call 215;refine HT.out.mono ?_;rintro e w4 ⟨t,rfl,⟨htp,htq,htE⟩,hb4⟩)
 have hb5:Below w.heap.size w w4:=zi hb3 hb4 hb3.size;obtain⟨m,hm⟩:∃m,p-t=m:=⟨_,rfl⟩;obtain⟨n,hn⟩:∃n,q-t=n:=⟨_,rfl⟩;have hco:=HCORE.out t htE htp;rw[hm,hn]at hco;have HCO:=ze hco;have t0:(0:Int)<=(t:Int):=Int.natCast_nonneg _;have mw:IntKind.i64.wrap ((p:Int)-(t:Int))=(m:Int):=(IntWalk.i64_in _ (by have:=HPQ.out;omega)).trans (by omega);have nw:IntKind.i64.wrap ((q:Int)-(t:Int))=(n:Int):=(IntWalk.i64_in _ (by have:=HPQ.out;omega)).trans (by omega);obtain⟨uo,uc,ru,hu⟩:=zjK HC.out m (by rw[HCP.out];omega);obtain⟨xo,xc,rx,hx⟩:=zjK HD.out n (by rw[HDQ.out];omega);have HU:=ze hu;have HX:=ze hx;have HM:=ze (show m<=1000000/\n<=1000000/\t<=1000000/\m<=p/\n<=q by have:=HPQ.out;omega);have m0:(0:Int)<=(m:Int):=Int.natCast_nonneg _;have n0:(0:Int)<=(n:Int):=Int.natCast_nonneg _;clear hu hx hco htE hm hn hb4 hb3 HCORE HT;go_wp2_with fail;go_quiet (fail);have hb6:Below w.heap.size w (w4.drewN nq):=zi hb5 (zm _ _) hb5.size;clear hb5;generalize w4.drewN nq=w6 at hb6 ⊢;obtain⟨C,hC⟩:∃C,c.take m=C:=⟨_,rfl⟩;obtain⟨D,hD⟩:∃D,d.take n=D:=⟨_,rfl⟩;have HCL:=ze (show C.length=m by rw[<-hC,List.length_take,HCP.out,Nat.min_eq_left HM.out.2.2.2.1]);have HDL:=ze (show D.length=n by rw[<-hD,List.length_take,HDQ.out,Nat.min_eq_left HM.out.2.2.2.2]);rw[hC]at HU HCO;rw[hD]at HX HCO;have HBT:=ze (zkd _ _ C D w6 (Sl.old HU.out hb6) (Sl.old HX.out hb6) (by rw[HCL.out];exact HM.out.1) (by rw[HDL.out];exact HM.out.2.1));have hle:=(zav C D).1;rw[HCL.out]at hle;obtain⟨V,hV⟩:∃V,lcs C D=V:=⟨_,rfl⟩;rw[hV]at hle HBT HCO;have w1':IntKind.i64.wrap ((k:Int) +(V:Int))=(k:Int) +(V:Int):=IntWalk.i64_in _ (by have:=HPQ.out;have:=HM.out;omega);have w2':IntKind.i64.wrap ((k:Int) +(V:Int) +(t:Int))=(k:Int) +(V:Int) +(t:Int):=IntWalk.i64_in _ (by have:=HPQ.out;have:=HM.out;omega);clear hC hD hV hle
 go_wp2_with (go_at_call 216;refine HBT.out.mono ?_;rintro e w7 ⟨rfl,hb7⟩)
 go_ret;refine⟨?_,zi hb6 hb7 hb6.size⟩;rw[HCO.out];simp
end
end Go.Proofs.YtbnafihigoekeaaGreatDoor

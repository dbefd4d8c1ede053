/-
  TmTl, part 41.
-/
import Derived.Test.YtbnafihigoekeaaGreatDoorZt40
set_option maxRecDepth 100000
set_option maxHeartbeats 4000000
namespace Go.Proofs.YtbnafihigoekeaaGreatDoor
open Go.RowKit
theorem Tryz.sizeSides:(Tryz.prog.info? 54).map (·.size)=some 3:=by kernel_rfl
theorem Tryz.neS:28≠54:=by decide
structure zX(base gs gm N:Nat)(f:SpS->Option zg)(X0 X1:List zg)(w:World):Prop where
 ex:∃v0 v1 n D,w.heap[gs]? =some (.cells #[.map (some gm),v0,v1] 54 (0,0))/\n<=N/\jM w gm n D/\jI D f/\zI w base v0 X0/\zI w base v1 X1/\∀k,v0.ownBlock=some k->v1.ownBlock≠some k
 hgs:base<=gs
 hgm:base<=gm
theorem zX.old{base gs gm N:Nat}{f:SpS->Option zg}{X0 X1:List zg}{w w':World}(h:zX base gs gm N f X0 X1 w)(hk:Below w.heap.size w w'):zX base gs gm N f X0 X1 w':=by
 obtain⟨v0,v1,n,D,h1,h2,h3,h4,h5,h6,h7⟩:=h.ex;exact⟨⟨v0,v1,n,D,(hk.block _ (lt_of_block h1)).trans h1,h2,h3.old fun h=>hk.block _ h,h4,World.ownsRow.kept' h5 hk,World.ownsRow.kept' h6 hk,h7⟩,h.hgs,h.hgm⟩
theorem zX.lt{base gs gm N:Nat}{f:SpS->Option zg}{X0 X1:List zg}{w:World}(h:zX base gs gm N f X0 X1 w):gs<w.heap.size:=by
 obtain⟨v0,v1,n,D,h1,_⟩:=h.ex;exact lt_of_block h1
theorem zfw{w:World}{g n k:Nat}{D:MW}{t:TypeId}{R:Value->Option (MW × List MemPlace)}{cs:Array Value}{e:TypeId}{fr:Nat × Nat}(h:w.ownsMap Tryz.prog t R g n D)(hk:w.heap[k]? =some (.cells cs e fr)):k≠g:=fun e'=>by
 obtain⟨es,clock,hb,_⟩:=h;rw[e',hb]at hk;cases hk
theorem zI.mapped{w w':World}{base g n:Nat}{D:MW}{t:TypeId}{R:Value->Option (MW × List MemPlace)}{v:Value}{xs:List zg}(h:zI w base v xs)(hm:w.ownsMap Tryz.prog t R g n D)(hg:w.grownBy w' (some g)):zI w' base v xs:=by
 rcases h.2 with hn |⟨k,cap,cur,rfl,hb,hk,rest⟩
 ·exact⟨h.1,.inl hn⟩
 ·exact⟨h.1,.inr ⟨k,cap,cur,rfl,hb,(hg.block k (lt_of_block hk) (fun e=>zfw hm hk (by simpa using e))).trans hk,rest⟩⟩
theorem zI.beside{w w':World}{base:Nat}{v u:Value}{xs:List zg}(h:zI w base v xs)(hg:w.grownBy w' u.ownBlock)(hne:∀k,v.ownBlock=some k->u.ownBlock≠some k):zI w' base v xs:=by
 rcases h.2 with hn |⟨k,cap,cur,rfl,hb,hk,rest⟩
 ·exact⟨h.1,.inl hn⟩
 ·exact⟨h.1,.inr ⟨k,cap,cur,rfl,hb,(hg.block k (lt_of_block hk) (fun e=>hne k rfl e.symm)).trans hk,rest⟩⟩
theorem zI.cellSet{w:World}{base g i:Nat}{v u:Value}{xs:List zg}{cs:Array Value}{e:TypeId}(h:zI w base v xs)(hg:w.heap[g]? =some (.cells cs e (0,0)))(hne:28≠e):zI (w.setCell ⟨g,i,none⟩ u) base v xs:=h.fr (xh.setCell hg hne)
theorem zaA.old{w w':World}{g:Nat}{f:zQ->Option jQ}(h:zaA w g f)(hk:Below w.heap.size w w'):zaA w' g f:=by
 obtain⟨n,D,h1,h2⟩:=h;exact⟨n,D,h1.old fun h=>hk.block _ h,h2⟩
theorem zaA.grown{w w':World}{g:Nat}{row:Option Nat}{f:zQ->Option jQ}(h:zaA w g f)(hg:w.grownBy w' row)(hne:row≠some g):zaA w' g f:=by
 obtain⟨n,D,h1,h2⟩:=h;exact⟨n,D,h1.old fun h=>hg.block _ h fun e=>hne e.symm,h2⟩
theorem zaA.cellSet{w:World}{g k i:Nat}{u:Value}{cs:Array Value}{e:TypeId}{fr:Nat × Nat}{f:zQ->Option jQ}(h:zaA w g f)(hk:w.heap[k]? =some (.cells cs e fr)):zaA (w.setCell ⟨k,i,none⟩ u) g f:=by
 obtain⟨n,D,h1,h2⟩:=h;exact⟨n,D,h1.old fun _ =>Below.heap_setCell _ _ _ _ (show g≠k from fun e=>zfw h1 hk e.symm),h2⟩
theorem zep{w:World}{base g n m size:Nat}{D:MW}{t e:TypeId}{R:Value->Option (MW × List MemPlace)}{v:Value}{xs:List Value}(hm:w.ownsMap Tryz.prog t R g n D)(h:w.ownsRow base e size v m xs):v.ownBlock≠some g:=by
 rcases h.2 with⟨rfl,_⟩ |⟨k,cap,cur,rfl,_,hk,_⟩
 ·simp[Value.ownBlock]
 ·intro he
  exact zfw hm hk (by simpa[Value.ownBlock]using he)
theorem zaA.row{w:World}{base g size m:Nat}{e:TypeId}{f:zQ->Option jQ}{v:Value}{xs:List Value}(h:zaA w g f)(hr:w.ownsRow base e size v m xs):v.ownBlock≠some g:=by
 obtain⟨n,D,h1,_⟩:=h;exact zep h1 hr
section
variable{base gs gm N n:Nat}{f:SpS->Option zg}{X0 X1:List zg}{w w':World}{v0 v1:Value}{D:MW}
theorem zX.mapped(hg:w.heap[gs]? =some (.cells #[.map (some gm),v0,v1] 54 (0,0)))(hn:n<=N)(hm:jM w gm n D)(hs:jI D f)(h0:zI w base v0 X0)(h1:zI w base v1 X1)(hne:∀k,v0.ownBlock=some k->v1.ownBlock≠some k)
  (hgs:base<=gs) (hgm:base<=gm) {k:SpS} (hk:zcz k) (q:zg) (hown:jM w' gm (n+1) (D.put (kv k) (zeE q))) (hgr:w.grownBy w' (some gm)):zX base gs gm (N+1) (upd f k q) X0 X1 w':=
 ⟨⟨v0,v1,n+1,_,(hgr.block gs (lt_of_block hg) (fun e=>zfw hm hg (by simpa using e))).trans hg,by omega,hown,hs.put (World.ownsMap.isMap hm) k hk q,h0.mapped hm hgr,h1.mapped hm hgr,hne⟩,hgs,hgm⟩
theorem zX.grow0{v5:Value}{x:zg}(hg:w.heap[gs]? =some (.cells #[.map (some gm),v0,v1] 54 (0,0)))(hn:n<=N)(hm:jM w gm n D)(hs:jI D f)(h0:zI w base v0 X0)(h1:zI w base v1 X1)(hne:∀k,v0.ownBlock=some k->v1.ownBlock≠some k)
  (hgs:base<=gs) (hgm:base<=gm) (o5:zI w' base v5 (X0++[x])) (g5:w.grownBy w' v0.ownBlock) (h5:v5.ownBlock=v0.ownBlock∨v5.ownBlock=some w.heap.size):zX base gs gm N f (X0++[x]) X1 (w'.setCell ⟨gs,1,none⟩ v5):=by
 have hb:w'.heap[gs]? =some (.cells #[.map (some gm),v0,v1] 54 (0,0)):=(g5.block gs (lt_of_block hg) (fun e=>yO h0 hg Tryz.neS e.symm)).trans hg
 have hm5:jM w' gm n D:=hm.old fun h=>g5.block gm h fun e=>zep hm h0 e.symm
 refine⟨⟨v5,v1,n,D,zv hb,hn,hm5.old fun _ =>Below.heap_setCell _ _ _ _ (show gm≠gs from fun e=>zfw hm5 hb e.symm),hs,o5.cellSet hb Tryz.neS,(h1.beside g5 fun k hk e=>hne k e hk).cellSet hb Tryz.neS,fun k hk=>?_⟩,hgs,hgm⟩
 rcases h5 with e |e
 ·exact hne k (e ▸ hk)
 ·rw[e]at hk
  cases hk;intro e1;have:=(h1.lt _ e1).2;omega
theorem zX.grow1{v5:Value}{x:zg}(hg:w.heap[gs]? =some (.cells #[.map (some gm),v0,v1] 54 (0,0)))(hn:n<=N)(hm:jM w gm n D)(hs:jI D f)(h0:zI w base v0 X0)(h1:zI w base v1 X1)(hne:∀k,v0.ownBlock=some k->v1.ownBlock≠some k)
  (hgs:base<=gs) (hgm:base<=gm) (o5:zI w' base v5 (X1++[x])) (g5:w.grownBy w' v1.ownBlock) (h5:v5.ownBlock=v1.ownBlock∨v5.ownBlock=some w.heap.size):zX base gs gm N f X0 (X1++[x]) (w'.setCell ⟨gs,2,none⟩ v5):=by
 have hb:w'.heap[gs]? =some (.cells #[.map (some gm),v0,v1] 54 (0,0)):=(g5.block gs (lt_of_block hg) (fun e=>yO h1 hg Tryz.neS e.symm)).trans hg
 have hm5:jM w' gm n D:=hm.old fun h=>g5.block gm h fun e=>zep hm h1 e.symm
 refine⟨⟨v0,v5,n,D,zv hb,hn,hm5.old fun _ =>Below.heap_setCell _ _ _ _ (show gm≠gs from fun e=>zfw hm5 hb e.symm),hs,(h0.beside g5 hne).cellSet hb Tryz.neS,o5.cellSet hb Tryz.neS,fun k hk=>?_⟩,hgs,hgm⟩
 rcases h5 with e |e
 ·rw[e]
  exact hne k hk
 ·rw[e]
  intro e1;cases e1;have:=(h0.lt _ hk).2;omega
end
theorem zlc{l:List zg}(h:zT l){f:zg}(hf:f∈l):f.1.length<=maxLen:=by
 have:=qV (h.ok _ hf);unfold maxLen;omega
theorem znm{a b:List zg}(ta:zT a)(tb:zT b){p:zQ}{o:jQ}(h:zah a (yj a b) p=some o):o.1.length<=maxLen:=by
 have hP:=zam.ok ta.rise tb.rise (zgD ta tb)
 by_cases hp:∃r∈yj a b,r.2=p
 ·obtain⟨r,hr,rfl⟩:=hp
  rw[znx hP hr]at h;have e:r=o:=Option.some.inj h;rw[<-e];have h1:=(hP.there r hr).1
  cases hf:zz a r.1 with
  |none=>rw[hf]at h1;cases h1
  |some f=>
   obtain⟨h2,h3⟩:=xq hf;rw[<-h3];exact zlc ta h2
 ·rw[ziD fun r hr e=>hp ⟨r,hr,e⟩]at h
  split at h
  ·rename_i h1
   cases h
   cases hf:zz a p with
   |none=>rw[hf]at h1;cases h1
   |some f=>
    obtain⟨h2,h3⟩:=xq hf;show p.length<=maxLen;rw[<-h3];exact zlc ta h2
  ·cases h
section
theorem zmQ(gs gm:Nat)(f:SpS->Option zg)(ty:TypeId)(p:zQ)(i:Nat)(w:World)(n:Nat)(D:MW)(cs:Array Value)(hcs:cs[0]? =some (.map (some gm)))
  (hg:w.heap[gs]? =some (.cells cs ty (0,0))) (hm:jM w gm n D) (hs:jI D f) (hp:p.length<=maxLen) (hi:i<=1):
  Calls Tryz.prog 50 #[.pointer (some ⟨gs,0,none⟩),zq p,.int .u8 (i:Nat)] w fun e w'=>e= .returned (.tuple #[ye ((f (p,i)).getD zM),.bool (f (p,i)).isSome])/\Below w.heap.size w w':=by
 obtain⟨W,hW⟩:∃y,w.alloc (.cells #[.string ⟨#[]⟩,.bool false,.string ⟨#[]⟩] 28)=y:=⟨_,rfl⟩
 have hB0:Below w.heap.size w W:=by rw[<-hW];exact(Below.refl _ w).alloc (Nat.le_refl _) _
 have hg6:W.heap[w.heap.size]? =some (.cells #[.string ⟨#[]⟩,.bool false,.string ⟨#[]⟩] 28 (0,0)):=by rw[<-hW];exact heap_alloc_new w _
 have c0:=zf hB0 (zd (i:=0) hg hcs);have HM:=ze (hm.old fun h=>hB0.block _ h);have HS:=ze hs;have HF:=ze (show zcz (p,i)from⟨hp,hi⟩);have HB0:=ze hB0;have HG6:=ze hg6;clear hg hm hs hp hi hB0 hg6 hcs;obtain⟨r,hr⟩:∃r,f (p,i)=r:=⟨_,rfl⟩;obtain⟨⟨rp,rx,rt⟩,hrv⟩:∃y,r.getD zM=y:=⟨_,rfl⟩
 have hfil:zmH (r.getD zM)= .agg #[.string ⟨rp.toArray⟩,.bool rx,.string ⟨rt.toArray⟩]:=by rw[hrv];rfl
 rw[hr,hrv];have HR:=ze hr;have HFIL:=ze hfil;clear hr hrv hfil;unfold zq ye zq
 go_enter Tryz.func50,Tryz.ntmps50
 go_upto_region 1 with fail
 try rw[hW]
 clear hW;obtain⟨g6,hg6⟩:∃g,w.heap.size=g:=⟨_,rfl⟩;have HGW:=ze hg6;rw[hg6]at HG6 HB0 ⊢;clear hg6;have HZ:=ze (lt_of_block HG6.out);have HG6a:=ze (show(W.alloc (.cells #[.string ⟨rp.toArray⟩,.bool rx,.string ⟨rt.toArray⟩] 28)).heap[g6]? =some (.cells #[.string ⟨#[]⟩,.bool false,.string ⟨#[]⟩] 28 (0,0))from(Below.heap_alloc _ _ _ HZ.out).trans HG6.out);have HBa:=ze (show Below g6 w (W.alloc (.cells #[.string ⟨rp.toArray⟩,.bool rx,.string ⟨rt.toArray⟩] 28))from HB0.out.alloc (Nat.le_of_lt HZ.out) _)
 go_wp2_with (first
  |(at_lookup;refine zfL rfl (.tmp 14) (.tmp 17) rfl gm n D f (p,i) rfl HM.out HS.out HF.out rfl r HR.out ?_;rw[HFIL.out])
  |(refine zB rfl 28 _ _ rfl g6 #[.string ⟨rp.toArray⟩,.bool rx,.string ⟨rt.toArray⟩] rfl rfl _ _ HG6a.out 3 Tryz.sizeFile rfl rfl (by simp[Value.oneCell']) ?_;intro w9 hg9 hk9))
 refine bodyPost_ret (yT rfl _ _ g6 _ _ _ _ _ rfl rfl hg9 Tryz.underlying28 rfl Tryz.sizeFile) rfl ?_;exact⟨rfl,by rw[HGW.out];exact HBa.out.trans (hk9.below (by have:=HZ.out;simp;omega) (fun j hj e=>by omega))⟩
theorem zkU(base gs gm N:Nat)(f:SpS->Option zg)(X0 X1:List zg)(va vb:Value)(a b:List zg)(w0 w:World)(h:zX base gs gm N f X0 X1 w)(hw0:w0.heap.size=base)(hbl:Below base w0 w)(ha:yM w0 va a)(hb:yM w0 vb b)(ta:zT a)(tb:zT b)(hN:N<=1000)(hX:X0.length<=1000):
  Calls Tryz.prog 49 #[.pointer (some ⟨gs,0,none⟩),.int .u8 0,va,vb] w fun e w'=>e= .returned (.tuple #[])/\zX base gs gm (N+b.length) (km a (yj a b) 0 f b) (X0 ++(qn a (yj a b) b)) X1 w'/\Below base w w':=by
 obtain⟨ao,ac,rfl⟩:=zy.form ha;obtain⟨bo,bc,rfl⟩:=zy.form hb;have HBo:=ze (fun wx (hk:Below base w0 wx)=>zy.old hb (w':=wx) (by rw[hw0];exact hk));have HBL0:=ze hbl;have HT:=ze tb;have HBL:=ze tb.len;have HNN:=ze (And.intro hN hX);have HO:=ze (zey _ _ a b w (zy.old ha (by rw[hw0];exact hbl)) (HBo.out w hbl) ta tb);have HH:=ze h;have HBB:=ze (show base<=w.heap.size from Nat.le_trans h.hgs (Nat.le_of_lt h.lt));have HOL:=ze (show ∀p o,zah a (yj a b) p=some o->o.1.length<=maxLen from fun p o h=>znm ta tb h);clear h ha hb ta tb hN hX hw0 hbl;generalize yj a b=R at *
 go_enter Tryz.func49,Tryz.ntmps49
 go_wp2_with fail;refine HO.out.mono ?_;rintro e w1 ⟨go,rfl,hgo,hmo,hb1⟩;have HH1:=ze (HH.out.old hb1);have HB1:=ze (hb1.mono HBB.out);have HMO:=ze hmo
 have HNE:=ze (show gm≠go from fun e=>by
  obtain⟨_,_,n,D,_,_,h3,_⟩:=HH.out.ex;have:=h3.lt
  omega)
 clear hgo hmo hb1 HO HH;go_wp2_with fail
 go_loopg [19] b.length (fun g i wr=>∃k:Nat,i= .int .i64 (k:Int)/\Hid (k<=b.length/\b.length-k<=g)/\Hid (zX base gs gm (N+k) (km a R 0 f (b.take k)) (X0 ++(qn a R (b.take k))) X1 wr)/\Hid (zaA wr go (zah a R))/\Hid (Below base w wr))
 case atStart=>exact⟨0,rfl,ze ⟨Nat.zero_le _,Nat.le_refl _⟩,ze (by simpa[km,qn]using HH1.out),HMO,HB1⟩
 case round=>
  clear HH1 HMO HB1;obtain⟨k,rfl,HQ,HH,HMO,HBW⟩:=hrel;have hQ:=HQ.out;have k0:(0:Int)<=(k:Int):=Int.natCast_nonneg _
  by_cases hlt:k<b.length
  case neg=>
   obtain rfl:k=b.length:=by omega
   have hneg:¬(b.length:Int)<(b.length:Int):=by omega
   have HE:=ze (show zX base gs gm (N+b.length) (km a R 0 f b) (X0 ++(qn a R b)) X1 wr by have:=HH.out;rwa [List.take_length]at this);clear HH;go_wp2_with fail
   go_end0
   exact⟨rfl,HE.out,HBW.out⟩
  have k1:(k:Int)<(b.length:Int):=by omega
  have kw:IntKind.i64.wrap ((k:Int)+1)=(k:Int)+1:=IntWalk.i64_in _ (by have:=HBL.out;omega);obtain⟨b1,o1,p,x,t,e,he,c0,c1,c2⟩:=yM.at (HBo.out wr (HBL0.out.trans HBW.out)) hlt;cases e;have HPL:=ze (show p.length<=maxLen by have:=qV (HT.out.ok _ (List.mem_of_getElem? he));simp only at this;unfold maxLen;omega);have HTK:=ze (show b.take (k+1)=b.take k++[(p,x,t)] by rw[List.take_add_one,he];rfl);clear he;obtain⟨nm,Dm,hmo,hso⟩:=HMO.out;obtain⟨q,hq⟩:∃q,zah a R p=q:=⟨_,rfl⟩;obtain⟨⟨qp,qq⟩,hqv⟩:∃y,q.getD ([],[])=y:=⟨_,rfl⟩
  have hren:zkI (q.getD ([],[]))= .agg #[.string ⟨qp.toArray⟩,.string ⟨qq.toArray⟩]:=by rw[hqv];rfl
  have hz1:(wr.alloc (.cells #[.string ⟨p.toArray⟩,.bool x,.string ⟨t.toArray⟩] 28)).heap.size=wr.heap.size+1:=by simp
  have hbW:Below wr.heap.size wr ((wr.alloc (.cells #[.string ⟨p.toArray⟩,.bool x,.string ⟨t.toArray⟩] 28)).alloc (.cells #[.string ⟨p.toArray⟩,.int .u8 0] 119)):=((Below.refl _ wr).alloc (Nat.le_refl _) _).alloc (by simp) _;have g10:((wr.alloc (.cells #[.string ⟨p.toArray⟩,.bool x,.string ⟨t.toArray⟩] 28)).alloc (.cells #[.string ⟨p.toArray⟩,.int .u8 0] 119)).heap[wr.heap.size]? =some (.cells #[.string ⟨p.toArray⟩,.bool x,.string ⟨t.toArray⟩] 28 (0,0)):=(Below.heap_alloc _ _ _ (by omega)).trans (heap_alloc_new wr _)
  have g11:((wr.alloc (.cells #[.string ⟨p.toArray⟩,.bool x,.string ⟨t.toArray⟩] 28)).alloc (.cells #[.string ⟨p.toArray⟩,.int .u8 0] 119)).heap[wr.heap.size+1]? =some (.cells #[.string ⟨p.toArray⟩,.int .u8 0] 119 (0,0)):=by
   have h:=heap_alloc_new (wr.alloc (.cells #[.string ⟨p.toArray⟩,.bool x,.string ⟨t.toArray⟩] 28)) (.cells #[.string ⟨p.toArray⟩,.int .u8 0] 119)
   rwa [hz1]at h
  have HMW:=ze (show zcB ((wr.alloc (.cells #[.string ⟨p.toArray⟩,.bool x,.string ⟨t.toArray⟩] 28)).alloc (.cells #[.string ⟨p.toArray⟩,.int .u8 0] 119)) go nm Dm from hmo.old fun h=>hbW.block _ h);have HSO:=ze hso;have HQV:=ze hq;have HREN:=ze hren
  have HSP:=ze (show ke a R p=if q.isSome=true then qp else p by
   unfold ke;rw[hq]
   cases q with
   |none=>rfl
   |some o=>rw[show o=(qp,qq)from hqv];rfl)
  have HNW:=ze (show qn a R (b.take (k+1))=qn a R (b.take k) ++(if q.isSome=true then []else [(p,x,t)]) by
   rw[qn,HTK.out,List.filter_append,qn]
   congr 1
   cases q with
   |none=>rw[List.filter_cons_of_pos (by rw[hq];rfl)];rfl
   |some o=>rw[List.filter_cons_of_neg (by rw[hq];simp)];rfl)
  have HEN:=ze (show km a R 0 f (b.take (k+1))=upd (km a R 0 f (b.take k)) (ke a R p,0) (p,x,t) by
   rw[HTK.out,km,List.foldl_append]
   rfl)
  have HQL:=ze (show q.isSome=true->qp.length<=maxLen from fun h=>by
   cases q with
   |none=>cases h
   |some o=>rw[show qp=o.1 from by rw[show o=(qp,qq)from hqv]];exact HOL.out p o hq)
  have HWL:=ze (show base<=wr.heap.size from Nat.le_trans HBB.out HBW.out.size);have HG10:=ze g10;have HG11:=ze g11;have HBV:=ze hbW;have e0:=zd (i:=0) g10 rfl;clear hmo hso hq hqv hren hz1 hbW g10 g11
  go_upto_region 5 with fail
  clear c0 c1 c2;generalize((wr.alloc (.cells #[.string ⟨p.toArray⟩,.bool x,.string ⟨t.toArray⟩] 28)).alloc (.cells #[.string ⟨p.toArray⟩,.int .u8 0] 119))=W at *;have HW1:=ze (lt_of_block HG11.out);have HQB:=ze (show Below wr.heap.size wr (W.alloc (.cells #[.string ⟨qp.toArray⟩,.string ⟨qq.toArray⟩] 78))from HBV.out.alloc HBV.out.size _);have HG10a:=ze (show(W.alloc (.cells #[.string ⟨qp.toArray⟩,.string ⟨qq.toArray⟩] 78)).heap[wr.heap.size]? = _ from(Below.heap_alloc _ _ _ (lt_of_block HG10.out)).trans HG10.out);have HG11a:=ze (show(W.alloc (.cells #[.string ⟨qp.toArray⟩,.string ⟨qq.toArray⟩] 78)).heap[wr.heap.size+1]? = _ from(Below.heap_alloc _ _ _ HW1.out).trans HG11.out);have HG12a:=ze (heap_alloc_new W (.cells #[.string ⟨qp.toArray⟩,.string ⟨qq.toArray⟩] 78));obtain⟨qs,hqs⟩:∃z,q.isSome=z:=⟨_,rfl⟩;rw[hqs]at HSP HNW HQL
  go_upto_region 6 with(at_lookup;refine zbT rfl (.tmp 28) (.tmp 30) rfl go nm Dm (zah a R) p rfl HMW.out HSO.out HPL.out rfl q HQV.out ?_;rw[HREN.out,hqs])
  generalize W.alloc (.cells #[.string ⟨qp.toArray⟩,.string ⟨qq.toArray⟩] 78)=U at *;clear hqs HQV HREN HMW HSO HBV HG10 HG11;generalize W.heap.size=g12 at *;have HUO:=ze (HMO.out.old HQB.out);have HUS:=ze (HH.out.old HQB.out);have hq10:=HG10a.out;have hq11:=HG11a.out;have u0:=zd (i:=0) HG12a.out rfl;have z0:=zo (i:=0) HG11a.out;have zc:=zd (i:=0) HG11a.out rfl
  cases qs with
  |true=>
   have HV10:=ze (show(U.setCell ⟨wr.heap.size+1,0,none⟩ (.string ⟨qp.toArray⟩)).heap[wr.heap.size]? =some (.cells #[.string ⟨p.toArray⟩,.bool x,.string ⟨t.toArray⟩] 28 (0,0))from by
    rw[Below.heap_setCell _ _ _ _ (show wr.heap.size≠wr.heap.size+1 by omega)]
    exact hq10)
   have HV11:=ze (show(U.setCell ⟨wr.heap.size+1,0,none⟩ (.string ⟨qp.toArray⟩)).heap[wr.heap.size+1]? =some (.cells #[.string ⟨qp.toArray⟩,.int .u8 0] 119 (0,0))from zv hq11);have hvb:Below wr.heap.size wr (U.setCell ⟨wr.heap.size+1,0,none⟩ (.string ⟨qp.toArray⟩)):=HQB.out.setCell (Nat.le_succ _) _;have HVO:=ze (HMO.out.old hvb);have HVB:=ze (hvb.mono HWL.out);have HVS:=ze (HH.out.old hvb);have HKL:=ze (HQL.out rfl);have HFIN:=ze (fun(w9:World) (h:zX base gs gm (N+k+1) (upd (km a R 0 f (b.take k)) (qp,0) (p,x,t)) (X0 ++(qn a R (b.take k))) X1 w9)=>(show zX base gs gm (N +(k+1)) (upd (km a R 0 f (b.take k)) (if true=true then qp else p,0) (p,x,t)) (X0 ++(qn a R (b.take k)++if true=true then []else [(p,x,t)])) X1 w9 from by simpa[Nat.add_assoc]using h));clear hvb
   go_upto_region 9 with fail
   generalize U.setCell ⟨wr.heap.size+1,0,none⟩ (.string ⟨qp.toArray⟩)=V at *;clear u0 z0 zc hq10 hq11 e0 HG10a HG11a HG12a HQB HUO HUS;obtain⟨v0,v1,n,D,hgs,hn,hms,hss,h0,h1,hne⟩:=HVS.out.ex;clear HVS;have HGSV:=ze hgs;have HSID:=ze (And.intro hn (And.intro hms (And.intro hss (And.intro h0 (And.intro h1 hne)))));have y0:V.drew.cell? ⟨gs,0,none⟩=some (.map (some gm)):=zd (i:=0) hgs rfl;have y1:V.drew.cell? ⟨wr.heap.size,0,none⟩=some (.string ⟨p.toArray⟩):=zd (i:=0) HV10.out rfl;have y2:V.drew.cell? ⟨wr.heap.size,1,none⟩=some (.bool x):=zd (i:=1) HV10.out rfl;have y3:V.drew.cell? ⟨wr.heap.size,2,none⟩=some (.string ⟨t.toArray⟩):=zd (i:=2) HV10.out rfl;have y4:V.drew.cell? ⟨wr.heap.size+1,0,none⟩=some (.string ⟨qp.toArray⟩):=zd (i:=0) HV11.out rfl;have y5:V.drew.cell? ⟨wr.heap.size+1,1,none⟩=some (.int .u8 0):=zd (i:=1) HV11.out rfl;have HFIT:=ze (show zcz (qp,0)from⟨HKL.out,by show(0:Nat)<=1;omega⟩);have HKEY:=ze (show keyOf Tryz.prog 119 (.agg #[.string ⟨qp.toArray⟩,.int .u8 0])=some (kv (qp,0))from zeh HFIT.out);have HNM:=ze (show n<maxLen by have:=hn;have:=HNN.out;have:=HBL.out;unfold maxLen;omega);have HDM:=ze (show jM V.drew gm n D from hms);have HDG:=ze (show V.drew.heap[gs]? = _ from hgs);have HD0:=ze (show zI V.drew base v0 _ from h0);have HD1:=ze (show zI V.drew base v1 _ from h1);have HDO:=ze (show zaA V.drew go (zah a R)from HVO.out);have HDB:=ze (show Below base wr V.drew from HVB.out.drew);have HNV:=ze (And.intro hn (And.intro hss hne));clear hgs hn hms hss h0 h1 hne HV10 HV11 HVO HVB HSID;refine wp_region_still_tail 6 (by kernel_rfl) (by kernel_rfl) ?_;simp only[List.take_succ_cons,List.take_zero,List.drop_succ_cons,List.drop_zero]
   change wpStill _ _ (World.drew V) (fun a'=>wpList _ _ _ _ a' (World.drew V)) _ _
   generalize V.drew=V9 at y0 y1 y2 y3 y4 y5 HDM HDG HD0 HD1 HDO HDB ⊢
   repeat still_step
   try refine wpStill_nil ?_
   go_wp2_with (at_mapUpdate;refine wpList_mapUpdate_own _ rfl (.tmp 55) (.tmp 56) (.tmp 57) 51 rfl 119 28 Tryz.spotLawM Tryz.underlying51 kN gm n D rfl HDM.out HNM.out _ _ (kv (qp,0)) rfl rfl HKEY.out (zeE (p,x,t)) [] (zbc (p,x,t)) ?_;intro w9 hown9 hgrow9;have HO9:=ze hown9;have HG9:=ze hgrow9;clear hown9 hgrow9)
   go_roundg (b.length-(k+1))
   case measure=>omega
   case rel=>exact⟨k+1,by go_num,ze ⟨by omega,Nat.le_refl _⟩,ze (by rw[HEN.out,HSP.out,HNW.out];exact HFIN.out w9 (zX.mapped HDG.out HNV.out.1 HDM.out HNV.out.2.1 HD0.out HD1.out HNV.out.2.2 HH.out.hgs HH.out.hgm HFIT.out (p,x,t) HO9.out HG9.out)),ze (HDO.out.grown HG9.out (by simpa using HNE.out)),ze (HBW.out.trans (HDB.out.grown HG9.out (Nat.le_trans HWL.out HDB.out.size) (fun j hj=>by cases hj;exact HH.out.hgm)))⟩
  |false=>
   have HKL:=ze HPL.out;obtain⟨XX,hXX⟩:∃z,X0++qn a R (b.take k)=z:=⟨_,rfl⟩;have HFIN:=ze (fun(w9:World) (h:zX base gs gm (N+k+1) (upd (km a R 0 f (b.take k)) (p,0) (p,x,t)) (XX++[(p,x,t)]) X1 w9)=>(show zX base gs gm (N +(k+1)) (upd (km a R 0 f (b.take k)) (if false=true then qp else p,0) (p,x,t)) (X0 ++(qn a R (b.take k)++if false=true then []else [(p,x,t)])) X1 w9 from by rw[<-hXX]at h;simpa[Nat.add_assoc]using h))
   have HXXL:=ze (show XX.length<=100000000 by
    have h1:(qn a R (b.take k)).length<=(b.take k).length:=List.length_filter_le _ _;rw[<-hXX,List.length_append];have h2:=HNN.out;have h3:=HBL.out;rw[List.length_take]at h1
    omega)
   have HHX:=ze HH.out;rw[hXX]at HHX;clear hXX;obtain⟨v0,v1,n,D,hgs,hn,hms,hss,h0,h1,hne⟩:=HHX.out.ex;have HRL:=ze (fun j (hj:v0.ownBlock=some j)=>World.ownsRow.lt h0 j hj);have hgsU:=(HQB.out.block gs (lt_of_block hgs)).trans hgs;have hVB:Below U.heap.size U (U.alloc (.cells #[.string ⟨p.toArray⟩,.bool x,.string ⟨t.toArray⟩] 28)).drew:=((Below.refl _ U).alloc (Nat.le_refl _) _).drew;have hwB:Below wr.heap.size wr (U.alloc (.cells #[.string ⟨p.toArray⟩,.bool x,.string ⟨t.toArray⟩] 28)).drew:=HQB.out.trans (hVB.mono HQB.out.size);have HGA:=ze (show(U.alloc (.cells #[.string ⟨p.toArray⟩,.bool x,.string ⟨t.toArray⟩] 28)).drew.heap[gs]? =some (.cells #[.map (some gm),v0,v1] 54 (0,0))from(hwB.block gs (lt_of_block hgs)).trans hgs);have HMA:=ze (show jM (U.alloc (.cells #[.string ⟨p.toArray⟩,.bool x,.string ⟨t.toArray⟩] 28)).drew gm n D from hms.old fun h=>hwB.block _ h);have HA0:=ze (show zI (U.alloc (.cells #[.string ⟨p.toArray⟩,.bool x,.string ⟨t.toArray⟩] 28)).drew base v0 _ from World.ownsRow.kept' h0 hwB);have HA1:=ze (show zI (U.alloc (.cells #[.string ⟨p.toArray⟩,.bool x,.string ⟨t.toArray⟩] 28)).drew base v1 _ from World.ownsRow.kept' h1 hwB);have HAO:=ze (show zaA (U.alloc (.cells #[.string ⟨p.toArray⟩,.bool x,.string ⟨t.toArray⟩] 28)).drew go (zah a R)from HMO.out.old hwB);have HAB:=ze hwB;have HSA:=ze (show yM (U.alloc (.cells #[.string ⟨p.toArray⟩,.bool x,.string ⟨t.toArray⟩] 28)).drew (.slice (some ⟨U.heap.size,0,none⟩) 1 1) [(p,x,t)]from zy.one (heap_alloc_new U _) rfl);have HA10:=ze (show(U.alloc (.cells #[.string ⟨p.toArray⟩,.bool x,.string ⟨t.toArray⟩] 28)).drew.heap[wr.heap.size]? =some (.cells #[.string ⟨p.toArray⟩,.bool x,.string ⟨t.toArray⟩] 28 (0,0))from(hVB.block _ (lt_of_block hq10)).trans hq10);have HA11:=ze (show(U.alloc (.cells #[.string ⟨p.toArray⟩,.bool x,.string ⟨t.toArray⟩] 28)).drew.heap[wr.heap.size+1]? =some (.cells #[.string ⟨p.toArray⟩,.int .u8 0] 119 (0,0))from(hVB.block _ (lt_of_block hq11)).trans hq11);have HBASE:=ze (show base<=(U.alloc (.cells #[.string ⟨p.toArray⟩,.bool x,.string ⟨t.toArray⟩] 28)).drew.heap.size from Nat.le_trans HWL.out hwB.size);have HNN2:=ze (And.intro hn (And.intro hss hne));obtain⟨xo,xc,hvx⟩:=zl h0;subst hvx;have t1:U.cell? ⟨gs,1,none⟩=some (.slice xo XX.length xc):=zd (i:=1) hgsU rfl;have t2:(U.alloc (.cells #[.string ⟨p.toArray⟩,.bool x,.string ⟨t.toArray⟩] 28)).cell? ⟨gs,1,none⟩=some (.slice xo XX.length xc):=zf ((Below.refl _ U).alloc (Nat.le_refl _) _) t1;have f0:=zd (i:=0) hq10 rfl;have f1:=zd (i:=1) hq10 rfl;have f2:=zd (i:=2) hq10 rfl;clear hgs hn hms hss h0 h1 hne hgsU hVB hwB HUS HUO u0 z0 zc e0
   go_upto_region 8 with fail
   go_region_law (
    refine zau (by rfl) (.tmp 45) (.tmp 47) (by rfl) base (.slice xo XX.length xc) XX (p,x,t) (by kernel_rfl) HA0.out (.slice (some ⟨U.heap.size,0,none⟩) 1 1) (by kernel_rfl) HSA.out HXXL.out HBASE.out ?_;intro v5 w5 o5 g5 h5
    obtain⟨so5,sc5,rfl⟩:∃o c,v5= .slice o (XX.length+1) c:=by obtain⟨o,c,h⟩:=zl o5;exact⟨o,c,by rw[h];simp⟩
    have HS5:=ze (zX.grow0 HGA.out HNN2.out.1 HMA.out HNN2.out.2.1 HA0.out HA1.out HNN2.out.2.2 HH.out.hgs HH.out.hgm o5 g5 h5);have hw5:=(g5.block gs (lt_of_block HGA.out) (fun e=>yO HA0.out HGA.out Tryz.neS e.symm)).trans HGA.out;have c5:=zd (i:=1) hw5 rfl;have z5:=zo (i:=1) hw5;have HO5:=ze (zaA.cellSet (i:=1) (u:= .slice so5 (XX.length+1) sc5) (HAO.out.grown g5 (zaA.row HAO.out HA0.out)) hw5);have hw10:=(g5.block wr.heap.size (lt_of_block HA10.out) (fun e=>by have:=(HRL.out _ e.symm).2;omega)).trans HA10.out;have hw11:=(g5.block (wr.heap.size+1) (lt_of_block HA11.out) (fun e=>by have:=(HRL.out _ e.symm).2;omega)).trans HA11.out;have HW10:=ze hw10;have HW11:=ze hw11;have HB5:=ze (((HAB.out.mono HWL.out).grown g5 HBASE.out (fun j hj=>(HRL.out j hj).1)).setCell (p:=⟨gs,1,none⟩) HH.out.hgs (.slice so5 (XX.length+1) sc5));have HGS5:=ze (show wr.heap.size≠gs/\wr.heap.size+1≠gs from by have:=HH.out.lt;omega)
    clear o5 g5 h5 hw5 hw10 hw11)
   all_goals(
    have HV10:=ze (show(w5.setCell ⟨gs,1,none⟩ (.slice so5 (XX.length+1) sc5)).heap[wr.heap.size]? =some (.cells #[.string ⟨p.toArray⟩,.bool x,.string ⟨t.toArray⟩] 28 (0,0))from by rw[Below.heap_setCell _ _ _ _ (show wr.heap.size≠gs from HGS5.out.1)];exact HW10.out);have HV11:=ze (show(w5.setCell ⟨gs,1,none⟩ (.slice so5 (XX.length+1) sc5)).heap[wr.heap.size+1]? =some (.cells #[.string ⟨p.toArray⟩,.int .u8 0] 119 (0,0))from by rw[Below.heap_setCell _ _ _ _ (show wr.heap.size+1≠gs from HGS5.out.2)];exact HW11.out);clear c5 z5 t1 t2 f0 f1 f2 hq10 hq11 HG10a HG11a HG12a HQB
    go_upto_region 9 with fail
    generalize w5.setCell ⟨gs,1,none⟩ (.slice so5 (XX.length+1) sc5)=V at *;have HVO:=ze HO5.out;have HVB:=ze HB5.out;obtain⟨v0,v1,n,D,hgs,hn,hms,hss,h0,h1,hne⟩:=HS5.out.ex;clear HS5;have HGSV:=ze hgs;have HSID:=ze (And.intro hn (And.intro hms (And.intro hss (And.intro h0 (And.intro h1 hne)))));have y0:V.drew.cell? ⟨gs,0,none⟩=some (.map (some gm)):=zd (i:=0) hgs rfl;have y1:V.drew.cell? ⟨wr.heap.size,0,none⟩=some (.string ⟨p.toArray⟩):=zd (i:=0) HV10.out rfl;have y2:V.drew.cell? ⟨wr.heap.size,1,none⟩=some (.bool x):=zd (i:=1) HV10.out rfl;have y3:V.drew.cell? ⟨wr.heap.size,2,none⟩=some (.string ⟨t.toArray⟩):=zd (i:=2) HV10.out rfl;have y4:V.drew.cell? ⟨wr.heap.size+1,0,none⟩=some (.string ⟨p.toArray⟩):=zd (i:=0) HV11.out rfl;have y5:V.drew.cell? ⟨wr.heap.size+1,1,none⟩=some (.int .u8 0):=zd (i:=1) HV11.out rfl;have HFIT:=ze (show zcz (p,0)from⟨HKL.out,by show(0:Nat)<=1;omega⟩);have HKEY:=ze (show keyOf Tryz.prog 119 (.agg #[.string ⟨p.toArray⟩,.int .u8 0])=some (kv (p,0))from zeh HFIT.out);have HNM:=ze (show n<maxLen by have:=hn;have:=HNN.out;have:=HBL.out;unfold maxLen;omega);have HDM:=ze (show jM V.drew gm n D from hms);have HDG:=ze (show V.drew.heap[gs]? = _ from hgs);have HD0:=ze (show zI V.drew base v0 _ from h0);have HD1:=ze (show zI V.drew base v1 _ from h1);have HDO:=ze (show zaA V.drew go (zah a R)from HVO.out);have HDB:=ze (show Below base wr V.drew from HVB.out.drew);have HNV:=ze (And.intro hn (And.intro hss hne));clear hgs hn hms hss h0 h1 hne HV10 HV11 HVO HVB HSID;refine wp_region_still_tail 6 (by kernel_rfl) (by kernel_rfl) ?_;simp only[List.take_succ_cons,List.take_zero,List.drop_succ_cons,List.drop_zero]
    change wpStill _ _ (World.drew V) (fun a'=>wpList _ _ _ _ a' (World.drew V)) _ _
    generalize V.drew=V9 at y0 y1 y2 y3 y4 y5 HDM HDG HD0 HD1 HDO HDB ⊢
    repeat still_step
    try refine wpStill_nil ?_
    go_wp2_with (at_mapUpdate;refine wpList_mapUpdate_own _ rfl (.tmp 55) (.tmp 56) (.tmp 57) 51 rfl 119 28 Tryz.spotLawM Tryz.underlying51 kN gm n D rfl HDM.out HNM.out _ _ (kv (p,0)) rfl rfl HKEY.out (zeE (p,x,t)) [] (zbc (p,x,t)) ?_;intro w9 hown9 hgrow9;have HO9:=ze hown9;have HG9:=ze hgrow9;clear hown9 hgrow9)
    go_roundg (b.length-(k+1))
    case measure=>omega
    case rel=>exact⟨k+1,by go_num,ze ⟨by omega,Nat.le_refl _⟩,ze (by rw[HEN.out,HSP.out,HNW.out];exact HFIN.out w9 (zX.mapped HDG.out HNV.out.1 HDM.out HNV.out.2.1 HD0.out HD1.out HNV.out.2.2 HH.out.hgs HH.out.hgm HFIT.out (p,x,t) HO9.out HG9.out)),ze (HDO.out.grown HG9.out (by simpa using HNE.out)),ze (HBW.out.trans (HDB.out.grown HG9.out (Nat.le_trans HWL.out HDB.out.size) (fun j hj=>by cases hj;exact HH.out.hgm)))⟩)
theorem zlz(base gs gm N:Nat)(f:SpS->Option zg)(X0 X1:List zg)(va vb:Value)(a b:List zg)(w0 w:World)(h:zX base gs gm N f X0 X1 w)(hw0:w0.heap.size=base)(hbl:Below base w0 w)(ha:yM w0 va a)(hb:yM w0 vb b)(ta:zT a)(tb:zT b)(hN:N<=1000)(hX:X1.length<=1000):
  Calls Tryz.prog 49 #[.pointer (some ⟨gs,0,none⟩),.int .u8 1,va,vb] w fun e w'=>e= .returned (.tuple #[])/\zX base gs gm (N+b.length) (km a (yj a b) 1 f b) X0 (X1 ++(qn a (yj a b) b)) w'/\Below base w w':=by
 obtain⟨ao,ac,rfl⟩:=zy.form ha;obtain⟨bo,bc,rfl⟩:=zy.form hb;have HBo:=ze (fun wx (hk:Below base w0 wx)=>zy.old hb (w':=wx) (by rw[hw0];exact hk));have HBL0:=ze hbl;have HT:=ze tb;have HBL:=ze tb.len;have HNN:=ze (And.intro hN hX);have HO:=ze (zey _ _ a b w (zy.old ha (by rw[hw0];exact hbl)) (HBo.out w hbl) ta tb);have HH:=ze h;have HBB:=ze (show base<=w.heap.size from Nat.le_trans h.hgs (Nat.le_of_lt h.lt));have HOL:=ze (show ∀p o,zah a (yj a b) p=some o->o.1.length<=maxLen from fun p o h=>znm ta tb h);clear h ha hb ta tb hN hX hw0 hbl;generalize yj a b=R at *
 go_enter Tryz.func49,Tryz.ntmps49
 go_wp2_with fail;refine HO.out.mono ?_;rintro e w1 ⟨go,rfl,hgo,hmo,hb1⟩;have HH1:=ze (HH.out.old hb1);have HB1:=ze (hb1.mono HBB.out);have HMO:=ze hmo
 have HNE:=ze (show gm≠go from fun e=>by
  obtain⟨_,_,n,D,_,_,h3,_⟩:=HH.out.ex;have:=h3.lt
  omega)
 clear hgo hmo hb1 HO HH;go_wp2_with fail
 go_loopg [19] b.length (fun g i wr=>∃k:Nat,i= .int .i64 (k:Int)/\Hid (k<=b.length/\b.length-k<=g)/\Hid (zX base gs gm (N+k) (km a R 1 f (b.take k)) X0 (X1 ++(qn a R (b.take k))) wr)/\Hid (zaA wr go (zah a R))/\Hid (Below base w wr))
 case atStart=>exact⟨0,rfl,ze ⟨Nat.zero_le _,Nat.le_refl _⟩,ze (by simpa[km,qn]using HH1.out),HMO,HB1⟩
 case round=>
  clear HH1 HMO HB1;obtain⟨k,rfl,HQ,HH,HMO,HBW⟩:=hrel;have hQ:=HQ.out;have k0:(0:Int)<=(k:Int):=Int.natCast_nonneg _
  by_cases hlt:k<b.length
  case neg=>
   obtain rfl:k=b.length:=by omega
   have hneg:¬(b.length:Int)<(b.length:Int):=by omega
   have HE:=ze (show zX base gs gm (N+b.length) (km a R 1 f b) X0 (X1 ++(qn a R b)) wr by have:=HH.out;rwa [List.take_length]at this);clear HH;go_wp2_with fail
   go_end0
   exact⟨rfl,HE.out,HBW.out⟩
  have k1:(k:Int)<(b.length:Int):=by omega
  have kw:IntKind.i64.wrap ((k:Int)+1)=(k:Int)+1:=IntWalk.i64_in _ (by have:=HBL.out;omega);obtain⟨b1,o1,p,x,t,e,he,c0,c1,c2⟩:=yM.at (HBo.out wr (HBL0.out.trans HBW.out)) hlt;cases e;have HPL:=ze (show p.length<=maxLen by have:=qV (HT.out.ok _ (List.mem_of_getElem? he));simp only at this;unfold maxLen;omega);have HTK:=ze (show b.take (k+1)=b.take k++[(p,x,t)] by rw[List.take_add_one,he];rfl);clear he;obtain⟨nm,Dm,hmo,hso⟩:=HMO.out;obtain⟨q,hq⟩:∃q,zah a R p=q:=⟨_,rfl⟩;obtain⟨⟨qp,qq⟩,hqv⟩:∃y,q.getD ([],[])=y:=⟨_,rfl⟩
  have hren:zkI (q.getD ([],[]))= .agg #[.string ⟨qp.toArray⟩,.string ⟨qq.toArray⟩]:=by rw[hqv];rfl
  have hz1:(wr.alloc (.cells #[.string ⟨p.toArray⟩,.bool x,.string ⟨t.toArray⟩] 28)).heap.size=wr.heap.size+1:=by simp
  have hbW:Below wr.heap.size wr ((wr.alloc (.cells #[.string ⟨p.toArray⟩,.bool x,.string ⟨t.toArray⟩] 28)).alloc (.cells #[.string ⟨p.toArray⟩,.int .u8 1] 119)):=((Below.refl _ wr).alloc (Nat.le_refl _) _).alloc (by simp) _;have g10:((wr.alloc (.cells #[.string ⟨p.toArray⟩,.bool x,.string ⟨t.toArray⟩] 28)).alloc (.cells #[.string ⟨p.toArray⟩,.int .u8 1] 119)).heap[wr.heap.size]? =some (.cells #[.string ⟨p.toArray⟩,.bool x,.string ⟨t.toArray⟩] 28 (0,0)):=(Below.heap_alloc _ _ _ (by omega)).trans (heap_alloc_new wr _)
  have g11:((wr.alloc (.cells #[.string ⟨p.toArray⟩,.bool x,.string ⟨t.toArray⟩] 28)).alloc (.cells #[.string ⟨p.toArray⟩,.int .u8 1] 119)).heap[wr.heap.size+1]? =some (.cells #[.string ⟨p.toArray⟩,.int .u8 1] 119 (0,0)):=by
   have h:=heap_alloc_new (wr.alloc (.cells #[.string ⟨p.toArray⟩,.bool x,.string ⟨t.toArray⟩] 28)) (.cells #[.string ⟨p.toArray⟩,.int .u8 1] 119)
   rwa [hz1]at h
  have HMW:=ze (show zcB ((wr.alloc (.cells #[.string ⟨p.toArray⟩,.bool x,.string ⟨t.toArray⟩] 28)).alloc (.cells #[.string ⟨p.toArray⟩,.int .u8 1] 119)) go nm Dm from hmo.old fun h=>hbW.block _ h);have HSO:=ze hso;have HQV:=ze hq;have HREN:=ze hren
  have HSP:=ze (show ke a R p=if q.isSome=true then qp else p by
   unfold ke;rw[hq]
   cases q with
   |none=>rfl
   |some o=>rw[show o=(qp,qq)from hqv];rfl)
  have HNW:=ze (show qn a R (b.take (k+1))=qn a R (b.take k) ++(if q.isSome=true then []else [(p,x,t)]) by
   rw[qn,HTK.out,List.filter_append,qn]
   congr 1
   cases q with
   |none=>rw[List.filter_cons_of_pos (by rw[hq];rfl)];rfl
   |some o=>rw[List.filter_cons_of_neg (by rw[hq];simp)];rfl)
  have HEN:=ze (show km a R 1 f (b.take (k+1))=upd (km a R 1 f (b.take k)) (ke a R p,1) (p,x,t) by
   rw[HTK.out,km,List.foldl_append]
   rfl)
  have HQL:=ze (show q.isSome=true->qp.length<=maxLen from fun h=>by
   cases q with
   |none=>cases h
   |some o=>rw[show qp=o.1 from by rw[show o=(qp,qq)from hqv]];exact HOL.out p o hq)
  have HWL:=ze (show base<=wr.heap.size from Nat.le_trans HBB.out HBW.out.size);have HG10:=ze g10;have HG11:=ze g11;have HBV:=ze hbW;have e0:=zd (i:=0) g10 rfl;clear hmo hso hq hqv hren hz1 hbW g10 g11
  go_upto_region 5 with fail
  clear c0 c1 c2;generalize((wr.alloc (.cells #[.string ⟨p.toArray⟩,.bool x,.string ⟨t.toArray⟩] 28)).alloc (.cells #[.string ⟨p.toArray⟩,.int .u8 1] 119))=W at *;have HW1:=ze (lt_of_block HG11.out);have HQB:=ze (show Below wr.heap.size wr (W.alloc (.cells #[.string ⟨qp.toArray⟩,.string ⟨qq.toArray⟩] 78))from HBV.out.alloc HBV.out.size _);have HG10a:=ze (show(W.alloc (.cells #[.string ⟨qp.toArray⟩,.string ⟨qq.toArray⟩] 78)).heap[wr.heap.size]? = _ from(Below.heap_alloc _ _ _ (lt_of_block HG10.out)).trans HG10.out);have HG11a:=ze (show(W.alloc (.cells #[.string ⟨qp.toArray⟩,.string ⟨qq.toArray⟩] 78)).heap[wr.heap.size+1]? = _ from(Below.heap_alloc _ _ _ HW1.out).trans HG11.out);have HG12a:=ze (heap_alloc_new W (.cells #[.string ⟨qp.toArray⟩,.string ⟨qq.toArray⟩] 78));obtain⟨qs,hqs⟩:∃z,q.isSome=z:=⟨_,rfl⟩;rw[hqs]at HSP HNW HQL
  go_upto_region 6 with(at_lookup;refine zbT rfl (.tmp 28) (.tmp 30) rfl go nm Dm (zah a R) p rfl HMW.out HSO.out HPL.out rfl q HQV.out ?_;rw[HREN.out,hqs])
  generalize W.alloc (.cells #[.string ⟨qp.toArray⟩,.string ⟨qq.toArray⟩] 78)=U at *;clear hqs HQV HREN HMW HSO HBV HG10 HG11;generalize W.heap.size=g12 at *;have HUO:=ze (HMO.out.old HQB.out);have HUS:=ze (HH.out.old HQB.out);have hq10:=HG10a.out;have hq11:=HG11a.out;have u0:=zd (i:=0) HG12a.out rfl;have z0:=zo (i:=0) HG11a.out;have zc:=zd (i:=0) HG11a.out rfl
  cases qs with
  |true=>
   have HV10:=ze (show(U.setCell ⟨wr.heap.size+1,0,none⟩ (.string ⟨qp.toArray⟩)).heap[wr.heap.size]? =some (.cells #[.string ⟨p.toArray⟩,.bool x,.string ⟨t.toArray⟩] 28 (0,0))from by
    rw[Below.heap_setCell _ _ _ _ (show wr.heap.size≠wr.heap.size+1 by omega)]
    exact hq10)
   have HV11:=ze (show(U.setCell ⟨wr.heap.size+1,0,none⟩ (.string ⟨qp.toArray⟩)).heap[wr.heap.size+1]? =some (.cells #[.string ⟨qp.toArray⟩,.int .u8 1] 119 (0,0))from zv hq11);have hvb:Below wr.heap.size wr (U.setCell ⟨wr.heap.size+1,0,none⟩ (.string ⟨qp.toArray⟩)):=HQB.out.setCell (Nat.le_succ _) _;have HVO:=ze (HMO.out.old hvb);have HVB:=ze (hvb.mono HWL.out);have HVS:=ze (HH.out.old hvb);have HKL:=ze (HQL.out rfl);have HFIN:=ze (fun(w9:World) (h:zX base gs gm (N+k+1) (upd (km a R 1 f (b.take k)) (qp,1) (p,x,t)) X0 (X1 ++(qn a R (b.take k))) w9)=>(show zX base gs gm (N +(k+1)) (upd (km a R 1 f (b.take k)) (if true=true then qp else p,1) (p,x,t)) X0 (X1 ++(qn a R (b.take k)++if true=true then []else [(p,x,t)])) w9 from by simpa[Nat.add_assoc]using h));clear hvb
   go_upto_region 9 with fail
   generalize U.setCell ⟨wr.heap.size+1,0,none⟩ (.string ⟨qp.toArray⟩)=V at *;clear u0 z0 zc hq10 hq11 e0 HG10a HG11a HG12a HQB HUO HUS;obtain⟨v0,v1,n,D,hgs,hn,hms,hss,h0,h1,hne⟩:=HVS.out.ex;clear HVS;have HGSV:=ze hgs;have HSID:=ze (And.intro hn (And.intro hms (And.intro hss (And.intro h0 (And.intro h1 hne)))));have y0:V.drew.cell? ⟨gs,0,none⟩=some (.map (some gm)):=zd (i:=0) hgs rfl;have y1:V.drew.cell? ⟨wr.heap.size,0,none⟩=some (.string ⟨p.toArray⟩):=zd (i:=0) HV10.out rfl;have y2:V.drew.cell? ⟨wr.heap.size,1,none⟩=some (.bool x):=zd (i:=1) HV10.out rfl;have y3:V.drew.cell? ⟨wr.heap.size,2,none⟩=some (.string ⟨t.toArray⟩):=zd (i:=2) HV10.out rfl;have y4:V.drew.cell? ⟨wr.heap.size+1,0,none⟩=some (.string ⟨qp.toArray⟩):=zd (i:=0) HV11.out rfl;have y5:V.drew.cell? ⟨wr.heap.size+1,1,none⟩=some (.int .u8 1):=zd (i:=1) HV11.out rfl;have HFIT:=ze (show zcz (qp,1)from⟨HKL.out,by show(1:Nat)<=1;omega⟩);have HKEY:=ze (show keyOf Tryz.prog 119 (.agg #[.string ⟨qp.toArray⟩,.int .u8 1])=some (kv (qp,1))from zeh HFIT.out);have HNM:=ze (show n<maxLen by have:=hn;have:=HNN.out;have:=HBL.out;unfold maxLen;omega);have HDM:=ze (show jM V.drew gm n D from hms);have HDG:=ze (show V.drew.heap[gs]? = _ from hgs);have HD0:=ze (show zI V.drew base v0 _ from h0);have HD1:=ze (show zI V.drew base v1 _ from h1);have HDO:=ze (show zaA V.drew go (zah a R)from HVO.out);have HDB:=ze (show Below base wr V.drew from HVB.out.drew);have HNV:=ze (And.intro hn (And.intro hss hne));clear hgs hn hms hss h0 h1 hne HV10 HV11 HVO HVB HSID;refine wp_region_still_tail 6 (by kernel_rfl) (by kernel_rfl) ?_;simp only[List.take_succ_cons,List.take_zero,List.drop_succ_cons,List.drop_zero]
   change wpStill _ _ (World.drew V) (fun a'=>wpList _ _ _ _ a' (World.drew V)) _ _
   generalize V.drew=V9 at y0 y1 y2 y3 y4 y5 HDM HDG HD0 HD1 HDO HDB ⊢
   repeat still_step
   try refine wpStill_nil ?_
   go_wp2_with (at_mapUpdate;refine wpList_mapUpdate_own _ rfl (.tmp 55) (.tmp 56) (.tmp 57) 51 rfl 119 28 Tryz.spotLawM Tryz.underlying51 kN gm n D rfl HDM.out HNM.out _ _ (kv (qp,1)) rfl rfl HKEY.out (zeE (p,x,t)) [] (zbc (p,x,t)) ?_;intro w9 hown9 hgrow9;have HO9:=ze hown9;have HG9:=ze hgrow9;clear hown9 hgrow9)
   go_roundg (b.length-(k+1))
   case measure=>omega
   case rel=>exact⟨k+1,by go_num,ze ⟨by omega,Nat.le_refl _⟩,ze (by rw[HEN.out,HSP.out,HNW.out];exact HFIN.out w9 (zX.mapped HDG.out HNV.out.1 HDM.out HNV.out.2.1 HD0.out HD1.out HNV.out.2.2 HH.out.hgs HH.out.hgm HFIT.out (p,x,t) HO9.out HG9.out)),ze (HDO.out.grown HG9.out (by simpa using HNE.out)),ze (HBW.out.trans (HDB.out.grown HG9.out (Nat.le_trans HWL.out HDB.out.size) (fun j hj=>by cases hj;exact HH.out.hgm)))⟩
  |false=>
   have HKL:=ze HPL.out;obtain⟨XX,hXX⟩:∃z,X1++qn a R (b.take k)=z:=⟨_,rfl⟩;have HFIN:=ze (fun(w9:World) (h:zX base gs gm (N+k+1) (upd (km a R 1 f (b.take k)) (p,1) (p,x,t)) X0 (XX++[(p,x,t)]) w9)=>(show zX base gs gm (N +(k+1)) (upd (km a R 1 f (b.take k)) (if false=true then qp else p,1) (p,x,t)) X0 (X1 ++(qn a R (b.take k)++if false=true then []else [(p,x,t)])) w9 from by rw[<-hXX]at h;simpa[Nat.add_assoc]using h))
   have HXXL:=ze (show XX.length<=100000000 by
    have h1:(qn a R (b.take k)).length<=(b.take k).length:=List.length_filter_le _ _;rw[<-hXX,List.length_append];have h2:=HNN.out;have h3:=HBL.out;rw[List.length_take]at h1
    omega)
   have HHX:=ze HH.out;rw[hXX]at HHX;clear hXX;obtain⟨v0,v1,n,D,hgs,hn,hms,hss,h0,h1,hne⟩:=HHX.out.ex;have HRL:=ze (fun j (hj:v1.ownBlock=some j)=>World.ownsRow.lt h1 j hj);have hgsU:=(HQB.out.block gs (lt_of_block hgs)).trans hgs;have hVB:Below U.heap.size U (U.alloc (.cells #[.string ⟨p.toArray⟩,.bool x,.string ⟨t.toArray⟩] 28)).drew:=((Below.refl _ U).alloc (Nat.le_refl _) _).drew;have hwB:Below wr.heap.size wr (U.alloc (.cells #[.string ⟨p.toArray⟩,.bool x,.string ⟨t.toArray⟩] 28)).drew:=HQB.out.trans (hVB.mono HQB.out.size);have HGA:=ze (show(U.alloc (.cells #[.string ⟨p.toArray⟩,.bool x,.string ⟨t.toArray⟩] 28)).drew.heap[gs]? =some (.cells #[.map (some gm),v0,v1] 54 (0,0))from(hwB.block gs (lt_of_block hgs)).trans hgs);have HMA:=ze (show jM (U.alloc (.cells #[.string ⟨p.toArray⟩,.bool x,.string ⟨t.toArray⟩] 28)).drew gm n D from hms.old fun h=>hwB.block _ h);have HA0:=ze (show zI (U.alloc (.cells #[.string ⟨p.toArray⟩,.bool x,.string ⟨t.toArray⟩] 28)).drew base v0 _ from World.ownsRow.kept' h0 hwB);have HA1:=ze (show zI (U.alloc (.cells #[.string ⟨p.toArray⟩,.bool x,.string ⟨t.toArray⟩] 28)).drew base v1 _ from World.ownsRow.kept' h1 hwB);have HAO:=ze (show zaA (U.alloc (.cells #[.string ⟨p.toArray⟩,.bool x,.string ⟨t.toArray⟩] 28)).drew go (zah a R)from HMO.out.old hwB);have HAB:=ze hwB;have HSA:=ze (show yM (U.alloc (.cells #[.string ⟨p.toArray⟩,.bool x,.string ⟨t.toArray⟩] 28)).drew (.slice (some ⟨U.heap.size,0,none⟩) 1 1) [(p,x,t)]from zy.one (heap_alloc_new U _) rfl);have HA10:=ze (show(U.alloc (.cells #[.string ⟨p.toArray⟩,.bool x,.string ⟨t.toArray⟩] 28)).drew.heap[wr.heap.size]? =some (.cells #[.string ⟨p.toArray⟩,.bool x,.string ⟨t.toArray⟩] 28 (0,0))from(hVB.block _ (lt_of_block hq10)).trans hq10);have HA11:=ze (show(U.alloc (.cells #[.string ⟨p.toArray⟩,.bool x,.string ⟨t.toArray⟩] 28)).drew.heap[wr.heap.size+1]? =some (.cells #[.string ⟨p.toArray⟩,.int .u8 1] 119 (0,0))from(hVB.block _ (lt_of_block hq11)).trans hq11);have HBASE:=ze (show base<=(U.alloc (.cells #[.string ⟨p.toArray⟩,.bool x,.string ⟨t.toArray⟩] 28)).drew.heap.size from Nat.le_trans HWL.out hwB.size);have HNN2:=ze (And.intro hn (And.intro hss hne));obtain⟨xo,xc,hvx⟩:=zl h1;subst hvx;have t1:U.cell? ⟨gs,2,none⟩=some (.slice xo XX.length xc):=zd (i:=2) hgsU rfl;have t2:(U.alloc (.cells #[.string ⟨p.toArray⟩,.bool x,.string ⟨t.toArray⟩] 28)).cell? ⟨gs,2,none⟩=some (.slice xo XX.length xc):=zf ((Below.refl _ U).alloc (Nat.le_refl _) _) t1;have f0:=zd (i:=0) hq10 rfl;have f1:=zd (i:=1) hq10 rfl;have f2:=zd (i:=2) hq10 rfl;clear hgs hn hms hss h0 h1 hne hgsU hVB hwB HUS HUO u0 z0 zc e0
   go_upto_region 8 with fail
   go_region_law (
    refine zau (by rfl) (.tmp 45) (.tmp 47) (by rfl) base (.slice xo XX.length xc) XX (p,x,t) (by kernel_rfl) HA1.out (.slice (some ⟨U.heap.size,0,none⟩) 1 1) (by kernel_rfl) HSA.out HXXL.out HBASE.out ?_;intro v5 w5 o5 g5 h5
    obtain⟨so5,sc5,rfl⟩:∃o c,v5= .slice o (XX.length+1) c:=by obtain⟨o,c,h⟩:=zl o5;exact⟨o,c,by rw[h];simp⟩
    have HS5:=ze (zX.grow1 HGA.out HNN2.out.1 HMA.out HNN2.out.2.1 HA0.out HA1.out HNN2.out.2.2 HH.out.hgs HH.out.hgm o5 g5 h5);have hw5:=(g5.block gs (lt_of_block HGA.out) (fun e=>yO HA1.out HGA.out Tryz.neS e.symm)).trans HGA.out;have c5:=zd (i:=2) hw5 rfl;have z5:=zo (i:=2) hw5;have HO5:=ze (zaA.cellSet (i:=2) (u:= .slice so5 (XX.length+1) sc5) (HAO.out.grown g5 (zaA.row HAO.out HA1.out)) hw5);have hw10:=(g5.block wr.heap.size (lt_of_block HA10.out) (fun e=>by have:=(HRL.out _ e.symm).2;omega)).trans HA10.out;have hw11:=(g5.block (wr.heap.size+1) (lt_of_block HA11.out) (fun e=>by have:=(HRL.out _ e.symm).2;omega)).trans HA11.out;have HW10:=ze hw10;have HW11:=ze hw11;have HB5:=ze (((HAB.out.mono HWL.out).grown g5 HBASE.out (fun j hj=>(HRL.out j hj).1)).setCell (p:=⟨gs,2,none⟩) HH.out.hgs (.slice so5 (XX.length+1) sc5));have HGS5:=ze (show wr.heap.size≠gs/\wr.heap.size+1≠gs from by have:=HH.out.lt;omega)
    clear o5 g5 h5 hw5 hw10 hw11)
   all_goals(
    have HV10:=ze (show(w5.setCell ⟨gs,2,none⟩ (.slice so5 (XX.length+1) sc5)).heap[wr.heap.size]? =some (.cells #[.string ⟨p.toArray⟩,.bool x,.string ⟨t.toArray⟩] 28 (0,0))from by rw[Below.heap_setCell _ _ _ _ (show wr.heap.size≠gs from HGS5.out.1)];exact HW10.out);have HV11:=ze (show(w5.setCell ⟨gs,2,none⟩ (.slice so5 (XX.length+1) sc5)).heap[wr.heap.size+1]? =some (.cells #[.string ⟨p.toArray⟩,.int .u8 1] 119 (0,0))from by rw[Below.heap_setCell _ _ _ _ (show wr.heap.size+1≠gs from HGS5.out.2)];exact HW11.out);clear c5 z5 t1 t2 f0 f1 f2 hq10 hq11 HG10a HG11a HG12a HQB
    go_upto_region 9 with fail
    generalize w5.setCell ⟨gs,2,none⟩ (.slice so5 (XX.length+1) sc5)=V at *;have HVO:=ze HO5.out;have HVB:=ze HB5.out;obtain⟨v0,v1,n,D,hgs,hn,hms,hss,h0,h1,hne⟩:=HS5.out.ex;clear HS5;have HGSV:=ze hgs;have HSID:=ze (And.intro hn (And.intro hms (And.intro hss (And.intro h0 (And.intro h1 hne)))));have y0:V.drew.cell? ⟨gs,0,none⟩=some (.map (some gm)):=zd (i:=0) hgs rfl;have y1:V.drew.cell? ⟨wr.heap.size,0,none⟩=some (.string ⟨p.toArray⟩):=zd (i:=0) HV10.out rfl;have y2:V.drew.cell? ⟨wr.heap.size,1,none⟩=some (.bool x):=zd (i:=1) HV10.out rfl;have y3:V.drew.cell? ⟨wr.heap.size,2,none⟩=some (.string ⟨t.toArray⟩):=zd (i:=2) HV10.out rfl;have y4:V.drew.cell? ⟨wr.heap.size+1,0,none⟩=some (.string ⟨p.toArray⟩):=zd (i:=0) HV11.out rfl;have y5:V.drew.cell? ⟨wr.heap.size+1,1,none⟩=some (.int .u8 1):=zd (i:=1) HV11.out rfl;have HFIT:=ze (show zcz (p,1)from⟨HKL.out,by show(1:Nat)<=1;omega⟩);have HKEY:=ze (show keyOf Tryz.prog 119 (.agg #[.string ⟨p.toArray⟩,.int .u8 1])=some (kv (p,1))from zeh HFIT.out);have HNM:=ze (show n<maxLen by have:=hn;have:=HNN.out;have:=HBL.out;unfold maxLen;omega);have HDM:=ze (show jM V.drew gm n D from hms);have HDG:=ze (show V.drew.heap[gs]? = _ from hgs);have HD0:=ze (show zI V.drew base v0 _ from h0);have HD1:=ze (show zI V.drew base v1 _ from h1);have HDO:=ze (show zaA V.drew go (zah a R)from HVO.out);have HDB:=ze (show Below base wr V.drew from HVB.out.drew);have HNV:=ze (And.intro hn (And.intro hss hne));clear hgs hn hms hss h0 h1 hne HV10 HV11 HVO HVB HSID;refine wp_region_still_tail 6 (by kernel_rfl) (by kernel_rfl) ?_;simp only[List.take_succ_cons,List.take_zero,List.drop_succ_cons,List.drop_zero]
    change wpStill _ _ (World.drew V) (fun a'=>wpList _ _ _ _ a' (World.drew V)) _ _
    generalize V.drew=V9 at y0 y1 y2 y3 y4 y5 HDM HDG HD0 HD1 HDO HDB ⊢
    repeat still_step
    try refine wpStill_nil ?_
    go_wp2_with (at_mapUpdate;refine wpList_mapUpdate_own _ rfl (.tmp 55) (.tmp 56) (.tmp 57) 51 rfl 119 28 Tryz.spotLawM Tryz.underlying51 kN gm n D rfl HDM.out HNM.out _ _ (kv (p,1)) rfl rfl HKEY.out (zeE (p,x,t)) [] (zbc (p,x,t)) ?_;intro w9 hown9 hgrow9;have HO9:=ze hown9;have HG9:=ze hgrow9;clear hown9 hgrow9)
    go_roundg (b.length-(k+1))
    case measure=>omega
    case rel=>exact⟨k+1,by go_num,ze ⟨by omega,Nat.le_refl _⟩,ze (by rw[HEN.out,HSP.out,HNW.out];exact HFIN.out w9 (zX.mapped HDG.out HNV.out.1 HDM.out HNV.out.2.1 HD0.out HD1.out HNV.out.2.2 HH.out.hgs HH.out.hgm HFIT.out (p,x,t) HO9.out HG9.out)),ze (HDO.out.grown HG9.out (by simpa using HNE.out)),ze (HBW.out.trans (HDB.out.grown HG9.out (Nat.le_trans HWL.out HDB.out.size) (fun j hj=>by cases hj;exact HH.out.hgm)))⟩)
def zrv(w:World)(base:Nat)(f:SpS->Option zg)(X0 X1:List zg)(gm:Nat)(v0 v1:Value):Prop:=∃n D,jM w gm n D/\jI D f/\zI w base v0 X0/\zI w base v1 X1/\base<=gm
theorem zjY(va vb vc:Value)(a b c:List zg)(w:World)(ha:yM w va a)(hb:yM w vb b)(hc:yM w vc c)(ta:zT a)(tb:zT b)(tc:zT c):
  Calls Tryz.prog 25 #[va,vb,vc] w fun e w'=>∃gm v0 v1,e= .returned (.agg #[.map (some gm),v0,v1])/\zrv w' w.heap.size (zai a b c (yj a b) (yj a c)) (zN a b (yj a b)) (zN a c (yj a c)) gm v0 v1/\Below w.heap.size w w':=by
 have hz1:(w.alloc (.cells #[.map none,.slice none 0 0,.slice none 0 0] 54)).heap.size=w.heap.size+1:=by simp
 have hz2:((w.alloc (.cells #[.map none,.slice none 0 0,.slice none 0 0] 54)).alloc (.map #[] 0)).heap.size=w.heap.size+2:=by simp
 have hb1:Below w.heap.size w (((w.alloc (.cells #[.map none,.slice none 0 0,.slice none 0 0] 54)).alloc (.map #[] 0)).alloc (.cells #[.map (some (w.heap.size+1)),.slice none 0 0,.slice none 0 0] 54)):=(((Below.refl _ w).alloc (Nat.le_refl _) _).alloc (by omega) _).alloc (by omega) _
 have hg6:(((w.alloc (.cells #[.map none,.slice none 0 0,.slice none 0 0] 54)).alloc (.map #[] 0)).alloc (.cells #[.map (some (w.heap.size+1)),.slice none 0 0,.slice none 0 0] 54)).heap[w.heap.size]? =some (.cells #[.map none,.slice none 0 0,.slice none 0 0] 54 (0,0)):=
  (Below.heap_alloc _ _ _ (by omega)).trans ((Below.heap_alloc _ _ _ (by omega)).trans (heap_alloc_new w _))
 have hg7:(((w.alloc (.cells #[.map none,.slice none 0 0,.slice none 0 0] 54)).alloc (.map #[] 0)).alloc (.cells #[.map (some (w.heap.size+1)),.slice none 0 0,.slice none 0 0] 54)).heap[w.heap.size+2]? =some (.cells #[.map (some (w.heap.size+1)),.slice none 0 0,.slice none 0 0] 54 (0,0)):=by
  have h:=heap_alloc_new ((w.alloc (.cells #[.map none,.slice none 0 0,.slice none 0 0] 54)).alloc (.map #[] 0)) (.cells #[.map (some (w.heap.size+1)),.slice none 0 0,.slice none 0 0] 54)
  rwa [hz2]at h
 have hm:jM (((w.alloc (.cells #[.map none,.slice none 0 0,.slice none 0 0] 54)).alloc (.map #[] 0)).alloc (.cells #[.map (some (w.heap.size+1)),.slice none 0 0,.slice none 0 0] 54)) (w.heap.size+1) 0 (.map []):=by
  have h:=World.ownsMap_made (P:=Tryz.prog) (k:=119) (R:=kN) (w.alloc (.cells #[.map none,.slice none 0 0,.slice none 0 0] 54));rw[hz1]at h;exact World.ownsMap.alloc h _
 obtain⟨w0,hw0⟩:∃y,w.alloc (.cells #[.map none,.slice none 0 0,.slice none 0 0] 54)=y:=⟨_,rfl⟩
 have hw1:w0.heap.size=w.heap.size+1:=by rw[<-hw0];exact hz1
 have hbw:Below w.heap.size w w0:=by rw[<-hw0];exact(Below.refl _ w).alloc (Nat.le_refl _) _
 have hb2:Below (w.heap.size+1) w0 (((w.alloc (.cells #[.map none,.slice none 0 0,.slice none 0 0] 54)).alloc (.map #[] 0)).alloc (.cells #[.map (some (w.heap.size+1)),.slice none 0 0,.slice none 0 0] 54)):=by rw[<-hw0];exact((Below.refl _ _).alloc (by omega) _).alloc (by omega) _
 have HS0:=ze (show zX (w.heap.size+1) (w.heap.size+1+1) (w.heap.size+1) 0 (fun _ =>none) [] [] (((w.alloc (.cells #[.map none,.slice none 0 0,.slice none 0 0] 54)).alloc (.map #[] 0)).alloc (.cells #[.map (some (w.heap.size+1)),.slice none 0 0,.slice none 0 0] 54))from
  ⟨⟨_,_,0,_,hg7,Nat.le_refl _,hm,jI.nil,World.ownsRow_nil _ _ _ _,World.ownsRow_nil _ _ _ _,fun k h=>by cases h⟩,by omega,by omega⟩)
 have HB1:=ze hb2;have HG0:=ze (show w0.heap[w.heap.size]? =some (.cells #[.map none,.slice none 0 0,.slice none 0 0] 54 (0,0)) by rw[<-hw0];exact heap_alloc_new w _);have HBW:=ze hbw;have HL:=ze (And.intro ta.len (And.intro tb.len tc.len));have HE0:=ze (fun(W:World) (h:zX (w.heap.size+1) (w.heap.size+1+1) (w.heap.size+1) 0 (fun _ =>none) [] [] W) (hk:Below (w.heap.size+1) w0 W)=>zkU (w.heap.size+1) (w.heap.size+1+1) (w.heap.size+1) 0 (fun _ =>none) [] [] va vb a b w0 W h hw1 hk (ha.old hbw) (hb.old hbw) ta tb (by omega) (by simp));have HE1:=ze (fun(W:World) (f:SpS->Option zg) (h:zX (w.heap.size+1) (w.heap.size+1+1) (w.heap.size+1) (0+b.length) f ([]++qn a (yj a b) b) [] W) (hk:Below (w.heap.size+1) w0 W)=>zlz (w.heap.size+1) (w.heap.size+1+1) (w.heap.size+1) (0+b.length) f ([]++qn a (yj a b) b) [] va vc a c w0 W h hw1 hk (ha.old hbw) (hc.old hbw) ta tc (by have:=tb.len;omega) (by simp));clear hz1 hz2 hb1 hg6 hg7 hm ha hb hc ta tb tc hw1 hbw hb2 hw0;have hmm:= @run_makeMap Tryz.prog
 go_enter Tryz.func25,Tryz.ntmps25
 go_wp2_with fail;clear hmm;refine(HE0.out _ HS0.out HB1.out).mono ?_;rintro e w5 ⟨rfl,h5,hb5⟩;have H5:=ze h5;have HB5:=ze (HB1.out.trans hb5);clear h5 hb5 HS0 HB1;go_wp2_with fail;refine(HE1.out w5 _ H5.out HB5.out).mono ?_;rintro e w6 ⟨rfl,h6,hb6⟩;have HB6:=ze (HB5.out.trans hb6);have HG66:=ze ((HB6.out.block w.heap.size (Nat.lt_succ_self _)).trans HG0.out);have h7:=h6;rw[zix,zix,List.nil_append,List.nil_append]at h7;obtain⟨v0,v1,n,D,hgs,hn,hms,hss,h0,h1,hne⟩:=h7.ex;have HM6:=ze hms;have HSS:=ze (show jI D (zai a b c (yj a b) (yj a c))from hss);have H0:=ze h0;have H1:=ze h1;have s0:=zd (i:=0) hgs rfl;have s1:=zd (i:=1) hgs rfl;have s2:=zd (i:=2) hgs rfl;obtain⟨o0,q0,rfl⟩:=zl h0;obtain⟨o1,q1,rfl⟩:=zl h1;clear h6 h7 hb6 hgs hn hms hss h0 h1 hne H5 HB5
 go_wp2_with (refine zB rfl 54 _ _ rfl w.heap.size #[.map (some (w.heap.size+1)),.slice o0 (zN a b (yj a b)).length q0,.slice o1 (zN a c (yj a c)).length q1] rfl rfl _ _ HG66.out 3 Tryz.sizeSides rfl rfl (by simp[Value.oneCell']) ?_;intro w7 hg7 hk7;have HG7:=ze hg7;have HK7:=ze hk7;clear hg7 hk7)
 refine bodyPost_ret (results_cell_row rfl _ _ w.heap.size _ _ _ _ rfl HG7.out Tryz.underlying54 rfl Tryz.sizeSides) rfl ?_;have hK:=HK7.out;refine⟨_,_,_,rfl,⟨n,D,HM6.out.old fun h=>hK.block _ h (by omega),HSS.out,zY (hK.owns H0.out fun k hk e=>?_) (Nat.le_succ _),zY (hK.owns H1.out fun k hk e=>?_) (Nat.le_succ _),Nat.le_succ _⟩,?_⟩
 ·have:=(H0.out.lt k hk).1;omega
 ·have:=(H1.out.lt k hk).1;omega
 ·exact(HBW.out.trans (HB6.out.mono (Nat.le_succ _))).trans (hK.below (Nat.le_trans HBW.out.size HB6.out.size) (fun j hj e=>by omega))
end
end Go.Proofs.YtbnafihigoekeaaGreatDoor

/-
  TmTl, part 35.
-/
import Derived.Test.YtbnafihigoekeaaGreatDoorZt34
set_option maxRecDepth 100000
set_option maxHeartbeats 4000000
namespace Go.Proofs.YtbnafihigoekeaaGreatDoor
open Go.RowKit
def kI(l:List TwS)(x:TwS):Option Nat:=l.findIdx? (· ==x)
theorem zmp(l:List TwS)(q p:TwS):kI (l++[q]) p=match kI l p with |some i=>some i |none=>if q=p then some l.length else none:=by
 unfold kI;rw[List.findIdx?_append]
 cases h:List.findIdx? (· ==p) l with
 |some i=>simp
 |none=>
  by_cases e:q=p
  ·simp[e,List.findIdx?_cons]
  ·simp[e,List.findIdx?_cons]
theorem zco{l:List TwS}{x:TwS}{i:Nat}(h:kI l x=some i):l[i]? =some x:=by
 unfold kI at h;rw[List.findIdx?_eq_some_iff_getElem]at h;obtain⟨h1,h2,_⟩:=h;rw[List.getElem?_eq_getElem h1];simpa using h2
theorem zmO{l:List TwS}{x:TwS}(h:∀i:Nat,l[i]?≠some x):kI l x=none:=by
 cases e:kI l x with
 |none=>rfl
 |some i=>exact absurd (zco e) (h i)
theorem zfY{l:List zg}{i j:Nat}{t:zQ}(hij:i<j)(hi:i<l.length)(ht:(l.getD i zM).2.2=t):cntT (l.take i) t<cntT (l.take j) t:=by
 have h1:l.take (i+1)=l.take i++[l.getD i zM]:=by
  rw[List.take_add_one,List.getElem?_eq_getElem hi,List.getD_eq_getElem?_getD,List.getElem?_eq_getElem hi]
  rfl
 have h2:cntT (l.take (i+1)) t=cntT (l.take i) t+1:=by rw[h1,zfQ,if_pos ht]
 have h3:cntT (l.take (i+1)) t<=cntT (l.take j) t:=by
  unfold cntT;exact((List.take_sublist_take_left (by omega)).filter _).length_le
 omega
theorem qT{l:List zg}{i j:Nat}(hi:i<l.length)(hj:j<l.length)(h:zZ l i=zZ l j):i=j:=by
 unfold zZ at h;obtain⟨h1,h2⟩:=Prod.mk.inj h
 rcases Nat.lt_trichotomy i j with e |e |e
 ·have:=zfY (t:=(l.getD i zM).2.2) e hi rfl
  rw[h1]at this;rw[h1]at h2;omega
 ·exact e
 ·have:=zfY (t:=(l.getD j zM).2.2) e hj rfl
  rw[<-h1]at this h2;omega
theorem zoj{l:List zg}{k:Nat}(hk:k<l.length):kI (zbG l k) (zZ l k)=none:=zmO fun i h=>by
 have hlt:=(List.getElem?_eq_some_iff.1 h).1;rw[qy]at hlt;rw[zdB hlt]at h;have:=qT (l:=l) (by omega) hk (Option.some.inj h);omega
def qK(l m:List zg)(s:List Int × List Int)(i:Nat):List Int × List Int:=
 match kI (zbG m m.length) (zZ l i)with
 |some j=>xN s i j
 |none=>s
def joinTw(l m:List zg)(st:List Int × List Int)(k:Nat):List Int × List Int:=(List.range k).foldl (qK l m) st
theorem zbn(l m:List zg)(st:List Int × List Int)(k:Nat):joinTw l m st (k+1)=qK l m (joinTw l m st k) k:=by
 rw[joinTw,List.range_succ,List.foldl_append]
 rfl
theorem zjU(l m:List zg)(s:List Int × List Int)(i:Nat):(qK l m s i).1.length=s.1.length/\(qK l m s i).2.length=s.2.length:=by
 unfold qK
 split
 ·exact ziL _ _ _
 ·exact⟨rfl,rfl⟩
theorem zhR(l m:List zg)(st:List Int × List Int):∀k,(joinTw l m st k).1.length=st.1.length/\(joinTw l m st k).2.length=st.2.length
 |0=>⟨rfl,rfl⟩
 |k+1=>by
  rw[zbn];have h1:=zjU l m (joinTw l m st k) k;have h2:=zhR l m st k;exact⟨h1.1.trans h2.1,h1.2.trans h2.2⟩
theorem xX.old{w0:World}{vb vs:Value}{gp gt gf:Nat}{ts fs:List Int}{w w':World}(h:xX w0 vb vs gp gt gf ts fs w)(hk:Below w.heap.size w w'):xX w0 vb vs gp gt gf ts fs w':=
 ⟨(hk.block _ (lt_of_block h.cell)).trans h.cell,(hk.block _ (lt_of_block h.rowT)).trans h.rowT,(hk.block _ (lt_of_block h.rowF)).trans h.rowF,h.hp,h.ht,h.hf,h.ptf,h.ppt,h.ppf,h.below.trans (hk.mono h.below.size)⟩
theorem xX.alloc{w0:World}{vb vs:Value}{gp gt gf:Nat}{ts fs:List Int}{w:World}(h:xX w0 vb vs gp gt gf ts fs w)(o:Obj):xX w0 vb vs gp gt gf ts fs (w.alloc o):=h.old ((Below.refl _ w).alloc (Nat.le_refl _) o)
theorem Tryz.laidOutJ:laidOutB Tryz.prog=true:=by kernel_rfl
theorem Tryz.rowTwin:(190:TypeId)< Tryz.prog.types.size:=of_decide_eq_true (by kernel_rfl)
theorem Tryz.wideTwin:(match Tryz.prog.underlying 190 with |some (.array _ _) |some (.struct _)=>true | _ =>false)=true:=by rw[Tryz.underlying190]
theorem Tryz.twinLaw:Maps.Keyed Tryz.prog 190:=Maps.Keyed.of_law (deep_law_laid Tryz.laidOutJ (m:=3) (by omega) Tryz.rowTwin (by kernel_rfl) Tryz.wideTwin)
def qP(x:TwS):Lit:= .string (keyBytes [.string x.1,.int .i64 (x.2:Nat)])
def zgb(x:TwS):Prop:=x.1.length<=maxLen/\x.2<=4000000000
theorem zjJ{x:TwS}(h:zgb x):keyOf Tryz.prog 190 (.agg #[.string ⟨x.1.toArray⟩,.int .i64 (x.2:Nat)])=some (qP x):=by
 have hk:Tryz.prog.keyType 190=true:=by kernel_rfl
 have hc:Tryz.prog.cellsOf 190=2:=by kernel_rfl
 have hc1:Tryz.prog.cellsOf 9=1:=by kernel_rfl
 have hc2:Tryz.prog.cellsOf 3=1:=by kernel_rfl
 obtain⟨h1,h2⟩:=h
 have w2:(Lit.int .i64 (x.2:Int)).wf=true:=by simp[Lit.wf,IntKind.min,IntKind.max,IntKind.signed,IntKind.bits];omega
 have hsz:(ByteArray.mk x.1.toArray).size<=maxLen:=by
  show x.1.toArray.size<=maxLen;simpa using h1
 obtain⟨n,hn⟩:∃n,Tryz.prog.types.size+1=n+2:=⟨Tryz.prog.types.size-1,by have h:190<Tryz.prog.types.size:=Tryz.rowTwin;omega⟩;unfold keyOf;rw[Tryz.underlying190,hk,hn];simp[Value.formed,Tryz.underlying190,hc,Value.cells,Program.keyLits,hc1,hc2,Tryz.underlying3,Tryz.underlying9,w2,qP,hsz]
theorem zoU{x y:TwS}(hx:zgb x)(hy:zgb y)(h:qP x=qP y):x=y:=by
 have:=Tryz.twinLaw.inj (zjJ hx) (h ▸ zjJ hy);simp at this;exact Prod.ext this.1 (by omega)
abbrev zeM(w:World)(b n:Nat)(D:MW):Prop:=w.ownsMap Tryz.prog 190 (plainElem Tryz.prog 3) b n D
def zcS(D:MW)(l:List TwS):Prop:=Maps.IsMap D/\∀x,zgb x->Maps.has D (qP x)=(kI l x).isSome/\∀i,kI l x=some i->∀z,D.atKey (qP x) z= .lit (.int .i64 (i:Nat))
theorem zcS.nil:zcS (.map []) []:=⟨Maps.isMap_empty,fun x _ =>⟨rfl,fun i h=>by simp[kI]at h⟩⟩
theorem zcS.put{D:MW}{l:List TwS}{q:TwS}(h:zcS D l)(hq:zgb q)(hn:kI l q=none):zcS (D.put (qP q) (.lit (.int .i64 (l.length:Nat)))) (l++[q]):=by
 refine⟨h.1.put _ _,fun x hx=>?_⟩;obtain⟨h1,h2⟩:=h.2 x hx;rw[zmp]
 by_cases e:q=x
 ·subst e
  rw[hn];simp only[if_true];refine⟨(Maps.has_put_same h.1 (show WideAt.IsKeyLit (qP q)from trivial) _).trans rfl,fun i hi z=>?_⟩;cases hi;exact Maps.atKey_put_same h.1 (show WideAt.IsKeyLit (qP q)from trivial) _ z
 ·have hne:qP x≠qP q:=fun e'=>e (zoU hx hq e').symm
  rw[Maps.has_put_other hne]
  cases hi:kI l x with
  |some i=>
   rw[hi]at h1 h2;refine⟨h1,fun j hj z=>?_⟩;rw[Maps.atKey_put_other hne];exact h2 j hj z
  |none=>
   simp only[e,if_false];rw[hi]at h1;exact⟨h1,fun j hj=>by cases hj⟩
theorem zeM.old{w w':World}{b n:Nat}{D:MW}(h:zeM w b n D)(hk:b<w.heap.size->w'.heap[b]? =w.heap[b]?):zeM w' b n D:=by
 have hlt:=h.lt;obtain⟨es,clock,hb,r⟩:=h;exact⟨es,clock,(hk hlt).trans hb,r⟩
theorem zeM.alloc{w:World}{b n:Nat}{D:MW}(h:zeM w b n D)(o:Obj):zeM (w.alloc o) b n D:=h.old fun hb=>Below.heap_alloc _ _ _ hb
section
theorem zgR(w0:World)(vb vs:Value)(gp gt gf:Nat)(ts fs:List Int)(l m:List zg)(w:World)(h:xX w0 vb vs gp gt gf ts fs w)(hb:yM w0 vb l)(hs:yM w0 vs m)
  (hl:ts.length=l.length) (hm:fs.length=m.length) (fl:few l) (fm:few m):
  Calls Tryz.prog 117 #[.pointer (some ⟨gp,0,none⟩)] w fun e w'=>e= .returned (.tuple #[])/\
   xX w0 vb vs gp gt gf (joinTw l m (ts,fs) l.length).1 (joinTw l m (ts,fs) l.length).2 w':=by
 have HP:=ze h
 have HTS:=ze fun(wx:World) (hk:Below w.heap.size w wx)=>zhJ vs m wx (hs.old (h.below.trans (hk.mono h.below.size))) (by have:=fm.1;omega) fm.2
 have HTB:=ze fun(wx:World) (hk:Below w.heap.size w wx)=>zhJ vb l wx (hb.old (h.below.trans (hk.mono h.below.size))) (by have:=fl.1;omega) fl.2
 have HLE:=ze (show ts.length=l.length/\fs.length=m.length/\l.length<=1000/\m.length<=1000 from⟨hl,hm,fl.1,fm.1⟩)
 have fit:∀ (L:List zg),few L->∀k x,x∈zbG L k->zgb x:=fun L fL k x hx=>by
  obtain⟨i,hi,rfl⟩:=List.mem_map.1 hx;refine⟨?_,?_⟩
  ·show(L.getD i zM).2.2.length<=maxLen
   rw[List.getD_eq_getElem?_getD]
   cases e:L[i]? with
   |none=>exact Nat.zero_le _
   |some f=>
    have:=fL.2 f (List.mem_of_getElem? e);show f.2.2.length<=maxLen;unfold maxLen;omega
  ·have h1:=znE (L.take i) (L.getD i zM).2.2
   rw[List.length_take]at h1;have h2:=fL.1;show cntT (L.take i) (L.getD i zM).2.2<=4000000000;omega
 have HFS:=ze (fit m fm m.length);have HFB:=ze (fit l fl l.length);have c1:w.cell? ⟨gp,1,none⟩=some vs:=zd (i:=1) h.cell rfl;obtain⟨ao,ac,rfl⟩:=hb.form;obtain⟨bo,bc,rfl⟩:=hs.form;clear h hb hs hl hm fl fm fit;have hmm:= @run_makeMap Tryz.prog
 go_enter Tryz.func117,Tryz.ntmps117
 go_upto_region 1 with fail
 clear hmm;obtain⟨w1,hw1⟩:∃w1,w.alloc (.map #[] 0)=w1:=⟨_,rfl⟩
 have hm1:zeM w1 w.heap.size 0 (.map []):=by rw[<-hw1];exact World.ownsMap_made w _ _ _
 have hb1:Below w.heap.size w w1:=by rw[<-hw1];exact(Below.refl _ w).alloc (Nat.le_refl _) _
 have d1:w1.cell? ⟨gp,1,none⟩=some (.slice bo m.length bc):=(hb1.cell (p:=⟨gp,1,none⟩) (World.block_lt_of_cell? _ _ c1)).trans c1;rw[hw1];obtain⟨gm,hgm⟩:∃g,w.heap.size=g:=⟨_,rfl⟩;have HGM:=ze hgm;rw[hgm]at hm1 ⊢;have HM1:=ze hm1;have HB1:=ze hb1;clear hm1 hb1 hw1 c1;go_wp2_with fail;refine(HTS.out w1 HB1.out).mono ?_;rintro e w2 ⟨v2,rfl,ho2,hb2⟩;obtain⟨no,nc,rfl⟩:=zl ho2;have HS2:=ze (zdK.sl ho2);have HM2:=ze (HM1.out.old fun hb=>hb2.block _ hb);have HB2:=ze (zi HB1.out hb2 HB1.out.size)
 have HSB:=ze (show ∀bb oo,no=some (⟨bb,oo,none⟩:Addr)->bb≠gm from fun bb oo e=>by
  subst e;have h1:=(World.ownsRow.lt ho2 bb rfl).1;have h2:=HM1.out.lt
  omega)
 have HGT:=ze (show gm<w2.heap.size from HM2.out.lt);rw[qy]at HS2 ⊢;clear ho2 hb2 HM1 d1 HTS
 have HTU:=ze fun(L:List zg) (k:Nat)=>qy L k
 have HZI:=ze Tryz.zeroIntI;go_wp2_with fail
 go_loopg [16] m.length (fun g i wr=>∃ (k n:Nat) (D:MW),i= .int .i64 (k:Int)/\Hid (k<=m.length/\m.length-k<=g/\n<=k)/\Hid (zeM wr gm n D)/\Hid (zcS D (zbG m k))/\Hid (yH (fun q=>q=gm) w2 wr)/\Hid (Below w.heap.size w wr))
 case atStart=>exact⟨0,0,.map [],rfl,ze ⟨Nat.zero_le _,Nat.le_refl _,Nat.le_refl _⟩,HM2,ze zcS.nil,ze (yH.refl _ _),HB2⟩
 case round=>
  clear HM2 HB2;obtain⟨k,n,D,rfl,HQ,HM,HC,HK,HB⟩:=hrel;have hQ:=HQ.out;have k0:(0:Int)<=(k:Int):=Int.natCast_nonneg _
  by_cases hlt:k<m.length
  ·have k1:(k:Int)<(m.length:Int):=by omega
   have kw:IntKind.i64.wrap ((k:Int)+1)=(k:Int)+1:=IntWalk.i64_in _ (by have:=HLE.out;omega);obtain⟨b,o,p,q,rfl,he,c1,c2⟩:=zpX.at HS2.out (i:=k) (by rw[HTU.out];exact hlt)
   have hbm:b≠gm:=by
    have h2:=HSB.out b o;exact h2 rfl
   have old:∀ {j:Nat} {u:Value},w2.cell? ⟨b,j,none⟩=some u->wr.cell? ⟨b,j,none⟩=some u:=fun {j u} hp=>(World.cell?_of_block (w:=w2) (HK.out.block b (World.block_lt_of_cell? _ _ hp) hbm)).trans hp
   have f1:=old c1;have f2:=old c2
   have hpq:zZ m k=(p,q):=by
    rw[zdB hlt]at he;exact Option.some.inj he
   have HFIT:=ze (show zgb (p,q)from HFS.out _ (List.mem_of_getElem? he));have HKEY:=ze (zjJ HFIT.out)
   have HS3:=ze (show zcS (D.put (qP (p,q)) (.lit (.int .i64 (k:Nat)))) (zbG m (k+1)) by
    have h1:=HC.out.put HFIT.out (by rw[<-hpq];exact zoj hlt);rw[qy]at h1;rw[ziy,hpq]
    exact h1)
   have HNM:=ze (show n<maxLen by have:=HLE.out;unfold maxLen;omega);have HWF:=ze (show(Lit.int .i64 (k:Int)).wf=true by have:=HLE.out;simp[Lit.wf,IntKind.min,IntKind.max,IntKind.signed,IntKind.bits];omega);have HMA:=ze (HM.out.alloc (.cells #[.string ⟨p.toArray⟩,.int .i64 (q:Nat)] 190));have HKA:=ze (HK.out.alloc (.cells #[.string ⟨p.toArray⟩,.int .i64 (q:Nat)] 190));have HBA:=ze (HB.out.alloc HB.out.size (.cells #[.string ⟨p.toArray⟩,.int .i64 (q:Nat)] 190));have HZM:=ze (show gm<w2.heap.size from HGT.out);clear old c1 c2 he hpq hbm HM HC HK HB
   go_wp2_with (first
    |(at_mapUpdate;refine wpList_mapUpdate_own _ rfl (.tmp 21) (.tmp 22) (.tmp 23) 186 rfl 190 3 Tryz.twinLaw Tryz.underlying186 _ gm n D rfl HMA.out HNM.out _ _ (qP (p,q)) rfl rfl HKEY.out (.lit (.int .i64 (k:Int))) [] (plainElem_int Tryz.underlying3 HWF.out) ?_;intro w6 hown6 hg6;have HM6:=ze hown6;have HG6:=ze hg6;clear hown6 hg6))
   go_roundg (m.length-(k+1))
   case measure=>omega
   case rel=>exact⟨k+1,n+1,_,by go_num,ze ⟨by omega,Nat.le_refl _,by omega⟩,HM6,HS3,ze (HKA.out.grown HG6.out (fun j hj e=>by cases e;rfl)),ze (HBA.out.grown HG6.out HBA.out.size (fun j hj=>by cases hj;exact Nat.le_of_eq HGM.out))⟩
  ·obtain rfl:k=m.length:=by omega
   have hneg:¬(m.length:Int)<(m.length:Int):=by omega
   have hP:=HP.out.old HB.out;have d0:wr.cell? ⟨gp,0,none⟩=some (.slice ao l.length ac):=zd (i:=0) hP.cell rfl;have HP1:=ze hP;clear hP hQ;go_wp2_with fail;refine(HTB.out wr HB.out).mono ?_;rintro e w4 ⟨v4,rfl,ho4,hb4⟩;obtain⟨no4,nc4,rfl⟩:=zl ho4;have HS4:=ze (zdK.sl ho4);have HM4:=ze (HM.out.old fun hb=>hb4.block _ hb);have HB4:=ze (zi HB.out hb4 HB.out.size);have HP4:=ze (HP1.out.old hb4)
   have HSB4:=ze (show ∀bb oo,no4=some (⟨bb,oo,none⟩:Addr)->bb≠gt/\bb≠gf from fun bb oo e=>by
    subst e;have h1:=(World.ownsRow.lt ho4 bb rfl).1;have h2:=lt_of_block HP1.out.rowT;have h3:=lt_of_block HP1.out.rowF
    omega)
   have HGTF:=ze (show gm≠gt/\gm≠gf by
    have h2:=lt_of_block HP.out.rowT;have h3:=lt_of_block HP.out.rowF;have:=HGM.out
    omega)
   rw[qy]at HS4 ⊢;clear ho4 hb4 d0 HM HK HB HP1 HTB
   have HJT:=ze fun(k:Nat)=>zhR l m (ts,fs) k
   go_wp2_with fail
   go_loopg [31] l.length (fun g i wr=>∃k:Nat,i= .int .i64 (k:Int)/\Hid (k<=l.length/\l.length-k<=g)/\
    Hid (xX w0 (.slice ao l.length ac) (.slice bo m.length bc) gp gt gf (joinTw l m (ts,fs) k).1 (joinTw l m (ts,fs) k).2 wr)/\Hid (yH (fun q=>q=gt∨q=gf) w4 wr))
   case atStart=>exact⟨0,rfl,ze ⟨Nat.zero_le _,Nat.le_refl _⟩,HP4,ze (yH.refl _ _)⟩
   case round=>
    clear HP4;obtain⟨k,rfl,HQ,HP5,HK⟩:=hrel;have hQ:=HQ.out;have k0:(0:Int)<=(k:Int):=Int.natCast_nonneg _
    by_cases hlt:k<l.length
    ·have k1:(k:Int)<(l.length:Int):=by omega
     have kw:IntKind.i64.wrap ((k:Int)+1)=(k:Int)+1:=IntWalk.i64_in _ (by have:=HLE.out;omega);obtain⟨b,o,p,q,rfl,he,c1,c2⟩:=zpX.at HS4.out (i:=k) (by rw[HTU.out];exact hlt);have hbm:b≠gt/\b≠gf:=HSB4.out b o rfl
     have old:∀ {j:Nat} {u:Value},w4.cell? ⟨b,j,none⟩=some u->wr.cell? ⟨b,j,none⟩=some u:=fun {j u} hp=>(World.cell?_of_block (w:=w4) (HK.out.block b (World.block_lt_of_cell? _ _ hp) (fun e=>by rcases e with e |e;exact hbm.1 e;exact hbm.2 e))).trans hp
     have f1:=old c1;have f2:=old c2
     have hpq:zZ l k=(p,q):=by
      rw[zdB hlt]at he;exact Option.some.inj he
     have HFIT:=ze (show zgb (p,q)from HFB.out _ (List.mem_of_getElem? he));have HKEY:=ze (zjJ HFIT.out)
     have HST:=ze (show joinTw l m (ts,fs) (k+1)=match kI (zbG m m.length) (p,q)with |some j=>xN (joinTw l m (ts,fs) k) k j |none=>joinTw l m (ts,fs) k by
      rw[zbn,qK,hpq])
     have HSH:=ze (HC.out.2 (p,q) HFIT.out)
     have HIX:=ze fun(j:Nat) (hj:kI (zbG m m.length) (p,q)=some j)=>show j<m.length by
      have:=(List.getElem?_eq_some_iff.1 (zco hj)).1
      rwa [qy]at this
     have HMA:=ze (show zeM (wr.alloc (.cells #[.string ⟨p.toArray⟩,.int .i64 (q:Nat)] 190)) gm n D from
      (HM4.out.old fun hb=>HK.out.block gm hb (fun e=>by rcases e with e |e;exact HGTF.out.1 e;exact HGTF.out.2 e)).alloc _)
     have HKA:=ze (HK.out.alloc (.cells #[.string ⟨p.toArray⟩,.int .i64 (q:Nat)] 190));have HPA:=ze (HP5.out.alloc (.cells #[.string ⟨p.toArray⟩,.int .i64 (q:Nat)] 190));obtain⟨r,hr⟩:∃r,kI (zbG m m.length) (p,q)=r:=⟨_,rfl⟩;rw[hr]at HST HSH HIX;clear old c1 c2 he hpq hbm hr HP5 HK
     cases r with
     |none=>
      have HHAS:=ze (show Maps.has D (qP (p,q))=false from HSH.out.1)
      go_wp2_with (first
       |(at_lookup;refine wpList_lookup_own_ok_int _ rfl (.tmp 37) (.tmp 38) 186 rfl 190 3 .i64 Tryz.twinLaw Tryz.underlying186 Tryz.underlying3 (HZI.out _) gm n D rfl HMA.out _ (qP (p,q)) rfl HKEY.out ?_;intro c hc _;rw[HHAS.out];clear hc))
      go_roundg (l.length-(k+1))
      case measure=>omega
      case rel=>exact⟨k+1,by go_num,ze ⟨by omega,Nat.le_refl _⟩,ze (by rw[HST.out];exact HPA.out),HKA⟩
     |some j=>
      have HHAS:=ze (show Maps.has D (qP (p,q))=true from HSH.out.1);have HAT:=ze (show D.atKey (qP (p,q)) (.lit (.int .i64 0))= .lit (.int .i64 (j:Nat))from HSH.out.2 j rfl _);have hjm:=HIX.out j rfl;have hln:=HJT.out k;have HJA:=ze (ziz w0 _ _ gp gt gf _ _ k j _ HPA.out (by rw[hln.1];show k<ts.length;rw[HLE.out.1];exact hlt) (by rw[hln.2];show j<fs.length;rw[HLE.out.2.1];exact hjm) (by rw[hln.1];show ts.length<= _;have:=HLE.out;omega) (by rw[hln.2];show fs.length<= _;have:=HLE.out;omega));clear hln hjm
      go_wp2_with (first
       |(at_lookup;refine wpList_lookup_own_ok_int _ rfl (.tmp 37) (.tmp 38) 186 rfl 190 3 .i64 Tryz.twinLaw Tryz.underlying186 Tryz.underlying3 (HZI.out _) gm n D rfl HMA.out _ (qP (p,q)) rfl HKEY.out ?_;intro c hc _;rw[HHAS.out];obtain rfl:c=(j:Int):=by(have:=hc.symm.trans HAT.out;simpa using this))
       |(go_at_call 141;refine HJA.out.mono ?_;rintro e w6 ⟨rfl,hP6,hK6⟩))
      go_roundg (l.length-(k+1))
      case measure=>omega
      case rel=>exact⟨k+1,by go_num,ze ⟨by omega,Nat.le_refl _⟩,ze (by rw[HST.out];exact hP6),ze (HKA.out.trans hK6)⟩
    ·obtain rfl:k=l.length:=by omega
     have hneg:¬(l.length:Int)<(l.length:Int):=by omega
     clear hQ;go_wp2_with fail
     go_end0
     exact⟨rfl,HP5.out⟩
end
open Go.RowKit
def zrh(ts:List Int)(n:Nat):Prop:=∀ (i:Nat) (z:Int),ts[i]? =some z->z= -1∨∃j:Nat,z=(j:Int)/\j<n
section
theorem zic(w0:World)(vb vs:Value)(gp gt gf:Nat)(ts fs:List Int)(l m:List zg)(w:World)(h:xX w0 vb vs gp gt gf ts fs w)(hb:yM w0 vb l)(hs:yM w0 vs m)
  (hl:ts.length=l.length) (hv:zrh ts m.length) (fl:few l):
  Calls Tryz.prog 119 #[.pointer (some ⟨gp,0,none⟩)] w fun e w'=>∃v,e= .returned v/\
   zcd w' w.heap.size v (zP (ltOf cfV) (ky l m ts l.length).toArray).toList/\Below w.heap.size w w':=by
 have HP:=ze h;have HLB:=ze (hb.old h.below);have HLS:=ze (hs.old h.below);have HLE:=ze (show ts.length=l.length/\l.length<=1000 from⟨hl,fl.1⟩);have HV:=ze hv;obtain⟨ao,ac,rfl⟩:=hb.form;obtain⟨bo,bc,rfl⟩:=hs.form
 have c2:w.cell? ⟨gp,2,none⟩=some (.slice (some ⟨gt,0,none⟩) l.length l.length):=by rw[<-hl];exact zd (i:=2) h.cell rfl
 clear h hb hs hl hv fl
 go_enter Tryz.func119,Tryz.ntmps119
 go_wp2_with fail;clear c2
 go_loopg [3,11] l.length (fun g s3 i wr=>∃ (k:Nat) (X:List jQ),i= .int .i64 (k:Int)/\Hid (k<=l.length/\l.length-k<=g)/\Hid (X=ky l m ts k/\X.length<=k)/\Hid (zcd wr w.heap.size s3 X)/\Hid (Below w.heap.size w wr))
 case atStart=>exact⟨0,[],rfl,ze ⟨Nat.zero_le _,Nat.le_refl _⟩,ze ⟨rfl,Nat.le_refl _⟩,ze (World.ownsRow_nil _ _ _ _),ze (Below.refl _ _)⟩
 case round=>
  obtain⟨k,X,rfl,HQ,HX,HO,HB⟩:=hrel;obtain⟨no,nc,rfl⟩:=zl HO.out;have hQ:=HQ.out;have k0:(0:Int)<=(k:Int):=Int.natCast_nonneg _
  by_cases hlt:k<l.length
  ·have k1:(k:Int)<(l.length:Int):=by omega
   have kw:IntKind.i64.wrap ((k:Int)+1)=(k:Int)+1:=IntWalk.i64_in _ (by have:=HLE.out;omega);obtain⟨z,hz⟩:∃z,ts[k]? =some z:=⟨_,List.getElem?_eq_getElem (by have:=HLE.out.1;omega)⟩;have hP:=HP.out.old HB.out;have ct:wr.cell? ⟨gt,k,none⟩=some (.int .i64 z):=zd hP.rowT (zbw hz);have HOne:=ze (show kR l m ts k=if z= -1 then none else some ((l.getD k zM).1,(m.getD z.toNat zM).1) by rw[kR,hz])
   by_cases hzn:z= -1
   ·subst hzn
    have HE:=ze (show X=ky l m ts (k+1) by rw[zck,HOne.out,if_pos rfl,<-HX.out.1];simp);clear hz hP;go_wp2_with fail
    go_roundg (l.length-(k+1))
    case measure=>omega
    case rel=>exact⟨k+1,X,by go_num,ze ⟨by omega,Nat.le_refl _⟩,ze ⟨HE.out,by have:=HX.out;omega⟩,HO,HB⟩
   ·obtain⟨j,rfl,hj⟩:∃j:Nat,z=(j:Int)/\j<m.length:=by
     rcases HV.out k z hz with h |h
     ·exact absurd h hzn
     ·exact h
    have hzb:((j:Int) != -1)=true:=by simp
    have hzb2:((j:Int)== -1)=false:=by simp
    obtain⟨b1,o1,p1,x1,t1,rfl,he1,c11,c12,c13⟩:=yM.at (HLB.out.old HB.out) hlt;obtain⟨b2,o2,p2,x2,t2,rfl,he2,c21,c22,c23⟩:=yM.at (HLS.out.old HB.out) hj
    have HE:=ze (show X++[(p1,p2)]=ky l m ts (k+1) by
     have e1:l.getD k zM=(p1,x1,t1):=by rw[List.getD_eq_getElem?_getD,he1];rfl
     have e2:m.getD j zM=(p2,x2,t2):=by rw[List.getD_eq_getElem?_getD,he2];rfl
     rw[zck,HOne.out,if_neg hzn,<-HX.out.1,Int.toNat_natCast,e1,e2]
     rfl)
    have d0:wr.cell? ⟨gp,0,none⟩=some (.slice (some ⟨b1,o1,none⟩) l.length ac):=zd (i:=0) hP.cell rfl;have d1:wr.cell? ⟨gp,1,none⟩=some (.slice (some ⟨b2,o2,none⟩) m.length bc):=zd (i:=1) hP.cell rfl;have j0:(0:Int)<=(j:Int):=Int.natCast_nonneg _
    have j1:(j:Int)<(m.length:Int):=by omega
    have HOD:=ze (show zcd wr.drew w.heap.size (.slice no X.length nc) X from HO.out);have HXL:=ze (show X.length<=1000 by have:=HX.out;have:=HLE.out;omega);have hzr:=HB.out.size;have HBD:=ze (HB.out.trans ((zm wr 1).mono HB.out.size));have hpg:gp<wr.heap.size:=lt_of_block hP.cell;clear hz hP he1 he2 c12 c13 c22 c23 hzn hj;go_wp2_with fail
    go_region_law (refine kg (by rfl) (.tmp 18) (.tmp 36) rfl w.heap.size (.slice no X.length nc) X (p1,p2) (by kernel_rfl) (World.ownsRow.alloc HOD.out _) _ rfl (zy.one (heap_alloc_new _ _) rfl) (by have:=HXL.out;omega) (Nat.le_trans hzr (by simp)) ?_;intro v8 w8 o8 b8;have HO8:=ze o8;have HB8:=ze b8;clear o8 b8)
    all_goals(
     go_wp2_with fail
     go_roundg (l.length-(k+1))
     case measure=>omega
     case rel=>exact⟨k+1,X++[(p1,p2)],by go_num,ze ⟨by omega,Nat.le_refl _⟩,ze ⟨HE.out,by have:=HX.out;simp;omega⟩,HO8,ze ((HBD.out.alloc HBD.out.size _).trans HB8.out)⟩)
  ·obtain rfl:k=l.length:=by omega
   have hneg:¬(l.length:Int)<(l.length:Int):=by omega
   have HSO:=ze (zpt _ X wr w.heap.size HB.out.size HO.out (by have:=HX.out;have:=HLE.out;omega));clear hQ
   go_wp2_with (go_at_call 143;refine HSO.out.mono ?_;rintro e w5 ⟨rfl,hO5,hb5⟩)
   go_ret;rw[<-HX.out.1];exact⟨_,rfl,hO5,HB.out.trans hb5⟩
end
structure Inv(n m:Nat)(P:Nat->Nat->Prop)(st:List Int × List Int):Prop where
 len1:st.1.length=n
 len2:st.2.length=m
 val1:∀ (i:Nat) (z:Int),st.1[i]? =some z->z= -1∨∃j:Nat,z=(j:Int)
 val2:∀ (j:Nat) (z:Int),st.2[j]? =some z->z= -1∨∃i:Nat,z=(i:Int)
 fwd:∀i j:Nat,st.1[i]? =some (j:Int)->st.2[j]? =some (i:Int)/\P i j
 bwd:∀j i:Nat,st.2[j]? =some (i:Int)->st.1[i]? =some (j:Int)
theorem Inv.mono{n m:Nat}{P Q:Nat->Nat->Prop}{st:List Int × List Int}(h:Inv n m P st)(hPQ:∀i j,i<n->j<m->P i j->Q i j):Inv n m Q st:=
 ⟨h.len1,h.len2,h.val1,h.val2,fun i j hij=>⟨(h.fwd i j hij).1,hPQ i j (by
  have:=(List.getElem?_eq_some_iff.1 hij).1;rw[<-h.len1]
  exact this) (by
  have:=(List.getElem?_eq_some_iff.1 (h.fwd i j hij).1).1;rw[<-h.len2]
  exact this) (h.fwd i j hij).2⟩,h.bwd⟩
theorem Inv.start(n m:Nat)(P:Nat->Nat->Prop):Inv n m P (List.replicate n (-1),List.replicate m (-1)):=by
 have e:∀ (n i:Nat) (z:Int),(List.replicate n (-1:Int))[i]? =some z->z= -1:=fun n i z h=>by
  rw[List.getElem?_replicate]at h
  split at h
  ·exact(Option.some.inj h).symm
  ·cases h
 exact⟨by simp,by simp,fun i z h=> .inl (e n i z h),fun i z h=> .inl (e m i z h),fun i j h=>by have:=e n i _ h;omega,fun j i h=>by have:=e m j _ h;omega⟩
theorem Inv.join{n m:Nat}{P:Nat->Nat->Prop}{st:List Int × List Int}(h:Inv n m P st){i j:Nat}(hi:i<n)(hj:j<m)(hP:P i j):Inv n m P (xN st i j):=by
 unfold xN
 split
 ·rename_i hf
  have g1:∀ (a:Nat) (z:Int),(st.1.set i (j:Int))[a]? =some z->(a=i/\z=(j:Int))∨(a≠i/\st.1[a]? =some z):=fun a z hz=>by
   rw[List.getElem?_set]at hz
   split at hz
   ·rename_i e
    split at hz
    ·exact .inl ⟨e.symm,(Option.some.inj hz).symm⟩
    ·cases hz
   ·rename_i e
    exact .inr ⟨fun e'=>e e'.symm,hz⟩
  have g2:∀ (a:Nat) (z:Int),(st.2.set j (i:Int))[a]? =some z->(a=j/\z=(i:Int))∨(a≠j/\st.2[a]? =some z):=fun a z hz=>by
   rw[List.getElem?_set]at hz
   split at hz
   ·rename_i e
    split at hz
    ·exact .inl ⟨e.symm,(Option.some.inj hz).symm⟩
    ·cases hz
   ·rename_i e
    exact .inr ⟨fun e'=>e e'.symm,hz⟩
  have s1:(st.1.set i (j:Int))[i]? =some (j:Int):=by rw[List.getElem?_set_self (by rw[h.len1];exact hi)]
  have s2:(st.2.set j (i:Int))[j]? =some (i:Int):=by rw[List.getElem?_set_self (by rw[h.len2];exact hj)]
  refine⟨by rw[List.length_set];exact h.len1,by rw[List.length_set];exact h.len2,fun a z hz=>?_,fun a z hz=>?_,fun a b hab=>?_,fun b a hab=>?_⟩
  ·rcases g1 a z hz with⟨_,rfl⟩ |⟨_,hz⟩
   ·exact .inr ⟨j,rfl⟩
   ·exact h.val1 a z hz
  ·rcases g2 a z hz with⟨_,rfl⟩ |⟨_,hz⟩
   ·exact .inr ⟨i,rfl⟩
   ·exact h.val2 a z hz
  ·rcases g1 a _ hab with⟨rfl,e⟩ |⟨hne,hz⟩
   ·obtain rfl:b=j:=by omega
    exact⟨s2,hP⟩
   ·obtain⟨q1,q2⟩:=h.fwd a b hz
    refine⟨?_,q2⟩
    have hbj:b≠j:=fun e=>by
     subst e;rw[hf.2]at q1;have:=Option.some.inj q1;omega
    show(st.2.set j (i:Int))[b]? = _;rw[List.getElem?_set_ne (fun e=>hbj e.symm)];exact q1
  ·rcases g2 b _ hab with⟨rfl,e⟩ |⟨hne,hz⟩
   ·obtain rfl:a=i:=by omega
    exact s1
   ·have q1:=h.bwd b a hz
    have hai:a≠i:=fun e=>by
     subst e;rw[hf.1]at q1;have:=Option.some.inj q1;omega
    show(st.1.set i (j:Int))[a]? = _;rw[List.getElem?_set_ne (fun e=>hai e.symm)];exact q1
 ·exact h
def zbb(st:List Int × List Int)(i j:Nat):Prop:=st.1[i]?≠some (-1)∨st.2[j]?≠some (-1)
theorem zbb.mono{st:List Int × List Int}{i j:Nat}(h:zbb st i j)(a b:Nat):zbb (xN st a b) i j:=by
 unfold xN
 split
 ·rcases h with h |h
  ·left
   show(st.1.set a (b:Int))[i]?≠ _;rw[List.getElem?_set]
   split
   ·split
    ·exact fun e=>by have:=Option.some.inj e;omega
    ·exact fun e=>by cases e
   ·exact h
  ·right
   show(st.2.set b (a:Int))[j]?≠ _;rw[List.getElem?_set]
   split
   ·split
    ·exact fun e=>by have:=Option.some.inj e;omega
    ·exact fun e=>by cases e
   ·exact h
 ·exact h
theorem zbb.did(st:List Int × List Int)(i j:Nat):zbb (xN st i j) i j:=by
 unfold xN
 split
 ·rename_i h
  left
  show(st.1.set i (j:Int))[i]?≠ _;have hlt:=(List.getElem?_eq_some_iff.1 h.1).1;rw[List.getElem?_set_self hlt]
  exact fun e=>by have:=Option.some.inj e;omega
 ·rename_i h
  unfold zbb;exact Decidable.not_and_iff_or_not.1 h
theorem zbF:∀ (ms:List MtS) (st:List Int × List Int),(∀i j,zbb st i j->zbb (joinAll st ms) i j)/\∀x∈ms,zbb (joinAll st ms) x.1 x.2.1
 | [],st=>⟨fun _ _ h=>h,fun x hx=>by cases hx⟩
 |x::ms,st=>by
  obtain⟨h1,h2⟩:=zbF ms (xN st x.1 x.2.1);refine⟨fun i j h=>h1 i j (h.mono _ _),fun y hy=>?_⟩
  rcases List.mem_cons.1 hy with rfl |hy
  ·exact h1 _ _ (zbb.did _ _ _)
  ·exact h2 y hy
theorem Inv.joinAll{n m:Nat}{P:Nat->Nat->Prop}:∀ (ms:List MtS) (st:List Int × List Int),Inv n m P st->(∀x∈ms,x.1<n/\x.2.1<m/\P x.1 x.2.1)->Inv n m P (joinAll st ms)
 | [],st,h,_ =>h
 |x::ms,st,h,hx=>by
  have q:=hx x (List.mem_cons_self ..)
  exact Inv.joinAll ms (xN st x.1 x.2.1) (h.join q.1 q.2.1 q.2.2) fun y hy=>hx y (List.mem_cons_of_mem _ hy)
theorem zrH{l:List zg}{j:Nat}{x:TwS}(hj:j<l.length)(h:zZ l j=x):kI (zbG l l.length) x=some j:=by
 cases e:kI (zbG l l.length) x with
 |none=>
  unfold kI at e;rw[List.findIdx?_eq_none_iff]at e;have:=e x (List.mem_of_getElem? (by rw[zdB hj,h]));simp at this
 |some i=>
  have h1:=zco e;have hlt:=(List.getElem?_eq_some_iff.1 h1).1;rw[qy]at hlt;rw[zdB hlt]at h1;rw[qT hlt hj ((Option.some.inj h1).trans h.symm)]
theorem zql{l:List zg}{j:Nat}{x:TwS}(h:kI (zbG l l.length) x=some j):j<l.length/\zZ l j=x:=by
 have h1:=zco h;have hlt:=(List.getElem?_eq_some_iff.1 h1).1;rw[qy]at hlt;rw[zdB hlt]at h1;exact⟨hlt,Option.some.inj h1⟩
theorem Inv.joinTw{l m:List zg}{st:List Int × List Int}(h:Inv l.length m.length (fun i j=>zZ l i=zZ m j) st):∀k,k<=l.length->Inv l.length m.length (fun i j=>zZ l i=zZ m j) (joinTw l m st k)
 |0,_ =>h
 |k+1,hk=>by
  rw[zbn];have ih:=Inv.joinTw h k (by omega);unfold qK
  split
  ·rename_i j hj
   obtain⟨h1,h2⟩:=zql hj;exact ih.join (by omega) h1 h2.symm
  ·exact ih
theorem zaG{l m:List zg}{st:List Int × List Int}{i j:Nat}(he:zZ l i=zZ m j)(hj:j<m.length):∀k,i<k->zbb (joinTw l m st k) i j
 |0,h=>by omega
 |k+1,h=>by
  rw[zbn]
  by_cases e:i=k
  ·subst e
   rw[qK,zrH hj he.symm];exact zbb.did _ _ _
  ·have ih:=zaG (st:=st) he hj k (by omega)
   unfold qK
   split
   ·exact ih.mono _ _
   ·exact ih
theorem zce{l:List zg}{t:zQ}:∀ (j:Nat),j<l.length->(l.getD j zM).2.2=t->∀n,n<=cntT (l.take j) t->∃i,i<=j/\zZ l i=(t,n):=by
 intro j
 induction j using Nat.strongRecOn with
 |ind j ih=>
  intro hj ht n hn
  by_cases e:n=cntT (l.take j) t
  ·exact⟨j,Nat.le_refl _,by rw[zZ,ht,e]⟩
  ·
   have hpos:0<cntT (l.take j) t:=by omega
   have key:∀q,q<=l.length->0<cntT (l.take q) t->∃i,i<q/\(l.getD i zM).2.2=t/\cntT (l.take q) t=cntT (l.take i) t+1:=by
    intro q
    induction q with
    |zero=>intro _ h;simp[cntT]at h
    |succ q ihq=>
     intro hq h
     have hs:l.take (q+1)=l.take q++[l.getD q zM]:=by
      rw[List.take_add_one,List.getElem?_eq_getElem (by omega),List.getD_eq_getElem?_getD,List.getElem?_eq_getElem (by omega)]
      rfl
     have hc:=zfQ (l.take q) (l.getD q zM) t;rw[<-hs]at hc
     by_cases e2:(l.getD q zM).2.2=t
     ·rw[if_pos e2]at hc
      exact⟨q,by omega,e2,hc⟩
     ·rw[if_neg e2]at hc
      obtain⟨i,h1,h2,h3⟩:=ihq (by omega) (by omega);exact⟨i,by omega,h2,by omega⟩
   obtain⟨i,h1,h2,h3⟩:=key j (by omega) hpos;obtain⟨i',h4,h5⟩:=ih i h1 (by omega) h2 n (by omega);exact⟨i',by omega,h5⟩
theorem zlp{l m:List zg}{st:List Int × List Int}(h:Inv l.length m.length (fun i j=>zZ l i=zZ m j) st){i j:Nat}(hi:i<l.length)(hj:j<m.length)(ht:(l.getD i zM).2.2=(m.getD j zM).2.2):
  zbb (joinTw l m st l.length) i j:=by
 have hI:=Inv.joinTw h l.length (Nat.le_refl _);obtain⟨t,et⟩:∃t,(m.getD j zM).2.2=t:=⟨_,rfl⟩;rw[et]at ht
 by_cases hle:cntT (l.take i) t<=cntT (m.take j) t
 ·obtain⟨j',h1,h2⟩:=zce j hj et _ hle
  have he:zZ l i=zZ m j':=by rw[h2,zZ,ht]
  rcases zaG (st:=st) he (by omega) l.length hi with h3 |h3
  ·exact .inl h3
  ·left
   obtain⟨z,hz⟩:∃z,(joinTw l m st l.length).2[j']? =some z:=⟨_,List.getElem?_eq_getElem (by rw[hI.len2];omega)⟩
   rcases hI.val2 j' z hz with e |⟨i',e⟩
   ·rw[hz,e]at h3
    exact absurd rfl h3
   ·rw[e]at hz
    have h4:=hI.bwd j' i' hz;have h5:=(hI.fwd i' j' h4).2
    have hi':i'<l.length:=by have:=(List.getElem?_eq_some_iff.1 h4).1;rw[hI.len1]at this;exact this
    have:i'=i:=qT hi' hi (h5.trans he.symm);rw[<-this,h4]
    exact fun e=>by have:=Option.some.inj e;omega
 ·obtain⟨i',h1,h2⟩:=zce i hi ht _ (Nat.le_of_lt (Nat.not_le.1 hle))
  have he:zZ l i'=zZ m j:=by rw[h2,zZ,et]
  have hi':i'<l.length:=by omega
  rcases zaG (st:=st) he hj l.length hi' with h3 |h3
  ·right
   obtain⟨z,hz⟩:∃z,(joinTw l m st l.length).1[i']? =some z:=⟨_,List.getElem?_eq_getElem (by rw[hI.len1];omega)⟩
   rcases hI.val1 i' z hz with e |⟨j',e⟩
   ·rw[hz,e]at h3
    exact absurd rfl h3
   ·rw[e]at hz
    obtain⟨h4,h5⟩:=hI.fwd i' j' hz
    have hj':j'<m.length:=by have:=(List.getElem?_eq_some_iff.1 h4).1;rw[hI.len2]at this;exact this
    have:j'=j:=qT hj' hj (h5.symm.trans he);rw[<-this,h4]
    exact fun e=>by have:=Option.some.inj e;omega
  ·exact .inr h3
open Go.Sort
theorem yX{l m:List zg}{x:zg}:x∈zu l m ↔ x∈l/\qr m x:=by
 unfold zu qr;rw[List.mem_filter]
 have:yR m x=true ↔ zz m x.1=none/\x.2.2≠ []:=by
  unfold yR;rw[Bool.and_eq_true,Option.isNone_iff_eq_none];simp
 rw[this]
theorem qd{l m:List zg}(h:yD l):yD (zu l m):=List.Pairwise.sublist List.filter_sublist h
def zrZ(B S:List zg):List Int × List Int:=(List.replicate B.length (-1),List.replicate S.length (-1))
def zaK(B S:List zg):List Int × List Int:=joinTw B S (zrZ B S) B.length
def zdF(B S:List zg):List Int × List Int:=joinAll (zaK B S) (qW B S (zaK B S))
def yj(l m:List zg):List jQ:=ky (zu l m) (zu m l) (zdF (zu l m) (zu m l)).1 (zu l m).length
theorem zfJ{B S:List zg}{i j:Nat}(h:zZ B i=zZ S j):(B.getD i zM).2.2=(S.getD j zM).2.2:=congrArg Prod.fst h
def zqA(B S:List zg)(i j:Nat):Prop:=zbj (B.getD i zM) (S.getD j zM)
theorem inv1(B S:List zg):Inv B.length S.length (zqA B S) (zaK B S):=
 (Inv.joinTw (Inv.start B.length S.length _) B.length (Nat.le_refl _)).mono fun _ _ _ _ h=> .inl (zfJ h)
theorem zpc(B S:List zg):Inv B.length S.length (zqA B S) (zdF B S):=by
 refine Inv.joinAll _ _ (inv1 B S) fun x hx=>?_
 obtain⟨h1,h2⟩:=zfO hx;refine⟨h1,h2,?_⟩;obtain⟨a,b,ha,hb,hal,rfl⟩:=zfn (zbe.1 hx);obtain⟨f,f1,_,f3,_⟩:=jS ha;obtain⟨g,g1,_,g3,_⟩:=jS hb;show zbj (B.getD a.1 zM) (S.getD b.1 zM);rw[ym f1,ym g1]
 right
 rw[zbA,f3,g3]at hal;exact of_decide_eq_true hal
theorem zgA{l:List zg}{ws:List Int}{i:Nat}{f:zg}(h:l[i]? =some f)(hw:ws[i]? =some (-1)):(i,zn f.2.2)∈yu l ws l.length:=by
 refine List.mem_filterMap.2 ⟨i,List.mem_range.2 (List.getElem?_eq_some_iff.1 h).1,?_⟩;rw[zae,h,hw];simp
theorem zpy{A B:List TxS}{a b:TxS}(ha:a∈A)(hb:b∈B)(h:zbA a.2 b.2=true):(a.1,b.1,ratioL a.2 b.2)∈jX A B A.length:=by
 refine List.mem_flatMap.2 ⟨a,by rw[List.take_length];exact ha,List.mem_filterMap.2 ⟨b,by rw[List.take_length];exact hb,?_⟩⟩;rw[zik,if_pos h]
theorem zrC{B S:List zg}{i j:Nat}{x y:zg}(hi:B[i]? =some x)(hj:S[j]? =some y)(h:zbj x y):zbb (zdF B S) i j:=by
 have hil:=(List.getElem?_eq_some_iff.1 hi).1;have hjl:=(List.getElem?_eq_some_iff.1 hj).1
 by_cases ht:zbb (zaK B S) i j
 ·exact(zbF _ _).1 i j ht
 ·have h1:(zaK B S).1[i]? =some (-1):=Decidable.not_not.1 fun e=>ht (.inl e)
  have h2:(zaK B S).2[j]? =some (-1):=Decidable.not_not.1 fun e=>ht (.inr e)
  rcases h with he |h5
  ·exact absurd (zlp (Inv.start B.length S.length _) hil hjl (by rw[ym hi,ym hj];exact he)) ht
  ·exact(zbF _ _).2 (i,j,ratioL (zn x.2.2) (zn y.2.2)) (zbe.2 (zpy (a:=(i,zn x.2.2)) (b:=(j,zn y.2.2)) (zgA hi h1) (zgA hj h2) (decide_eq_true h5)))
theorem zfN{B S:List zg}{i:Nat}{p:jQ}(h:kR B S (zdF B S).1 i=some p):∃ (j:Nat) (x y:zg),(zdF B S).1[i]? =some (j:Int)/\(zdF B S).2[j]? =some (i:Int)/\B[i]? =some x/\S[j]? =some y/\p=(x.1,y.1)/\zbj x y:=by
 obtain⟨z,hz,hn,rfl⟩:=zjB h;have hI:=zpc B S
 rcases hI.val1 i z hz with e |⟨j,rfl⟩
 ·exact absurd e hn
 ·obtain⟨h1,h2⟩:=hI.fwd i j hz
  have hi:=(List.getElem?_eq_some_iff.1 hz).1;have hj:=(List.getElem?_eq_some_iff.1 h1).1;rw[hI.len1]at hi;rw[hI.len2]at hj;refine⟨j,B[i],S[j],hz,h1,List.getElem?_eq_getElem hi,List.getElem?_eq_getElem hj,?_,?_⟩
  ·rw[ym (List.getElem?_eq_getElem hi),Int.toNat_natCast,ym (List.getElem?_eq_getElem hj)]
  ·unfold zqA at h2
   rw[ym (List.getElem?_eq_getElem hi),ym (List.getElem?_eq_getElem hj)]at h2;exact h2
theorem zkV{l m:List zg}(tl:yD l):(yj l m).Pairwise fun p q=>xv p.1 q.1=true:=by
 unfold yj ky;rw[List.pairwise_filterMap]
 refine(zfg _).imp fun {i j} hij p hp q hq=>?_
 obtain⟨_,x,_,_,_,hx,_,rfl,_⟩:=zfN hp;obtain⟨_,y,_,_,_,hy,_,rfl,_⟩:=zfN hq;exact qM (qd tl) hij hx hy
theorem zpC{l m:List zg}(tm:yD m):(yj l m).Pairwise fun p q=>p.2≠q.2:=by
 unfold yj ky;rw[List.pairwise_filterMap]
 refine(zfg _).imp fun {i j} hij p hp q hq he=>?_
 obtain⟨a,_,x,_,h1,_,hx,rfl,_⟩:=zfN hp;obtain⟨b,_,y,_,h2,_,hy,rfl,_⟩:=zfN hq;have he:x.1=y.1:=he
 rcases Nat.lt_trichotomy a b with e |e |e
 ·have:=qM (qd tm) e hx hy
  rw[he,jG]at this;cases this
 ·subst e
  rw[h1]at h2;have:=Option.some.inj h2;omega
 ·have:=qM (qd tm) e hy hx
  rw[he,jG]at this;cases this
theorem zrA{l m:List zg}(tl:yD l)(tm:yD m):zdb l m (yj l m):=by
 have mk:∀ (i j:Nat) (x y:zg),(zu l m)[i]? =some x->(zu m l)[j]? =some y->(zdF (zu l m) (zu m l)).1[i]? =some (j:Int)->(x.1,y.1)∈yj l m:=fun i j x y hx hy hz=>by
  refine List.mem_filterMap.2 ⟨i,List.mem_range.2 (List.getElem?_eq_some_iff.1 hx).1,?_⟩;rw[kR,hz]
  dsimp only
  rw[if_neg (by omega),ym hx,Int.toNat_natCast,ym hy]
 refine⟨fun p hp=>?_,zkV tl,zpC tm,fun x hx y hy lx ly hal=>?_⟩
 ·obtain⟨i,_,hi⟩:=List.mem_filterMap.1 hp
  obtain⟨j,x,y,_,_,hx,hy,rfl,hal⟩:=zfN hi;have h1:=yX.1 (List.mem_of_getElem? hx);have h2:=yX.1 (List.mem_of_getElem? hy);exact⟨x,y,h1.1,h2.1,rfl,rfl,h1.2,h2.2,hal⟩
 ·obtain⟨i,hi⟩:=List.mem_iff_getElem?.1 (yX.2 ⟨hx,lx⟩)
  obtain⟨j,hj⟩:=List.mem_iff_getElem?.1 (yX.2 ⟨hy,ly⟩);have hI:=zpc (zu l m) (zu m l);have hil:=(List.getElem?_eq_some_iff.1 hi).1;have hjl:=(List.getElem?_eq_some_iff.1 hj).1
  rcases zrC hi hj hal with h |h
  ·left
   obtain⟨z,hz⟩:∃z,(zdF (zu l m) (zu m l)).1[i]? =some z:=⟨_,List.getElem?_eq_getElem (by rw[hI.len1];exact hil)⟩
   rcases hI.val1 i z hz with e |⟨j',rfl⟩
   ·rw[hz,e]at h
    exact absurd rfl h
   ·have hj':=(List.getElem?_eq_some_iff.1 (hI.fwd i j' hz).1).1
    rw[hI.len2]at hj';exact⟨_,mk i j' x _ hi (List.getElem?_eq_getElem hj') hz,rfl⟩
  ·right
   obtain⟨z,hz⟩:∃z,(zdF (zu l m) (zu m l)).2[j]? =some z:=⟨_,List.getElem?_eq_getElem (by rw[hI.len2];exact hjl)⟩
   rcases hI.val2 j z hz with e |⟨i',rfl⟩
   ·rw[hz,e]at h
    exact absurd rfl h
   ·have hz':=hI.bwd j i' hz
    have hi':=(List.getElem?_eq_some_iff.1 hz').1;rw[hI.len1]at hi';exact⟨_,mk i' j _ y (List.getElem?_eq_getElem hi') hj hz',rfl⟩
theorem zmX{l m:List zg}(tl:yD l):(zP (ltOf cfV) (yj l m).toArray).toList=yj l m:=by
 have h:zjM (ltOf cfV) (yj l m).toArray:=fun i j hij hj=>by
  have hj':j <(yj l m).length:=by simpa using hj
  have:=List.pairwise_iff_getElem.1 (zkV (m:=m) tl) i j (by omega) hj' hij;rw[getElem!_pos _ _ (by simpa using hj'),getElem!_pos _ _ (by simp;omega)];simp only[List.getElem_toArray];exact(zfi _ _).trans (zbx this)
 rw[zlM h]
theorem znZ(l m:List zg):zrh (zdF (zu l m) (zu m l)).1 (zu m l).length:=fun i z hz=>by
 have hI:=zpc (zu l m) (zu m l)
 rcases hI.val1 i z hz with e |⟨j,rfl⟩
 ·exact .inl e
 ·have hj:=(List.getElem?_eq_some_iff.1 (hI.fwd i j hz).1).1
  rw[hI.len2]at hj;exact .inr ⟨j,rfl,hj⟩
theorem zlf{l m:List zg}(h:zT l):few (zu l m):=by
 refine⟨Nat.le_trans (List.length_filter_le _ _) (by have:=h.len;omega),fun f hf=>?_⟩;have:=h.ok f (yX.1 hf).1;rw[jW,Bool.and_eq_true]at this;have:=of_decide_eq_true this.2;omega
open Go.RowKit
section
theorem zif(va vb:Value)(l m:List zg)(w:World)(ha:yM w va l)(hb:yM w vb m)(tl:zT l)(tm:zT m):
  Calls Tryz.prog 89 #[va,vb] w fun e w'=>∃v,e= .returned v/\zcd w' w.heap.size v (yj l m)/\Below w.heap.size w w':=by
 have HL1:=ze (ziM va vb l m w ha hb (by have:=tl.len;omega) (by have:=tm.len;omega))
 have HL2:=ze fun(wx:World) (hk:Below w.heap.size w wx)=>ziM vb va m l wx (hb.old hk) (ha.old hk) (by have:=tm.len;omega) (by have:=tl.len;omega)
 have HSO:=ze (zmX (m:=m) tl.rise);have HVA:=ze (znZ l m);have HFB:=ze (zlf (m:=m) tl);have HFS:=ze (zlf (m:=l) tm);have HI1:=ze (inv1 (zu l m) (zu m l));have HI2:=ze (zpc (zu l m) (zu m l));have hRN:yj l m=ky (zu l m) (zu m l) (zdF (zu l m) (zu m l)).1 (zu l m).length:=rfl;have h1S:zaK (zu l m) (zu m l)=joinTw (zu l m) (zu m l) (List.replicate (zu l m).length (-1),List.replicate (zu m l).length (-1)) (zu l m).length:=rfl;have h2S:zdF (zu l m) (zu m l)=joinAll (zaK (zu l m) (zu m l)) (qW (zu l m) (zu m l) (zaK (zu l m) (zu m l))):=rfl;obtain⟨T1,hT1⟩:∃T,zaK (zu l m) (zu m l)=T:=⟨_,rfl⟩;obtain⟨T2,hT2⟩:∃T,zdF (zu l m) (zu m l)=T:=⟨_,rfl⟩;obtain⟨R,hR⟩:∃R,yj l m=R:=⟨_,rfl⟩;rw[hT1]at h1S h2S HI1;rw[hT2]at h2S HI2 HVA hRN;rw[hR]at hRN HSO ⊢;clear hT1 hT2 hR;obtain⟨B,hB⟩:∃B,zu l m=B:=⟨_,rfl⟩;obtain⟨S,hS⟩:∃S,zu m l=S:=⟨_,rfl⟩;rw[hB]at HL1 hRN h1S h2S HI1 HI2 HFB;rw[hS]at HL2 hRN h1S h2S HI1 HI2 HVA HFS;have HRN:=ze hRN;have H1S:=ze h1S;have H2S:=ze h2S;clear hRN h1S h2S hB hS ha hb tl tm
 go_enter Tryz.func89,Tryz.ntmps89
 go_wp2_with fail;refine HL1.out.mono ?_;rintro e w1 ⟨vB,rfl,ho1,hb1⟩;have HOB:=ze ho1;have HB1:=ze hb1;clear ho1 hb1;go_wp2_with fail;refine(HL2.out w1 HB1.out).mono ?_;rintro e w2 ⟨vS,rfl,ho2,hb2⟩;have HSB:=ze (zy.old (zI.sl HOB.out) hb2);have HSS:=ze (zI.sl ho2);have HB2:=ze (HB1.out.trans (hb2.mono HB1.out.size));clear ho2 hb2 HL1 HL2;go_wp2_with fail;refine(zgs vB vS B S w2 HSB.out HSS.out (by have:=HFB.out.1;omega) (by have:=HFS.out.1;omega)).mono ?_;rintro e w3 ⟨gp,gt,gf,rfl,hp3⟩;have HP3:=ze hp3;clear hp3;go_wp2_with fail;refine(zgR w2 vB vS gp gt gf _ _ B S w3 HP3.out HSB.out HSS.out (by simp) (by simp) HFB.out HFS.out).mono ?_;rintro e w4 ⟨rfl,hp4⟩;rw[<-H1S.out]at hp4;have HP4:=ze hp4;clear hp4 HP3;go_wp2_with fail;refine(zgT w2 vB vS gp gt gf T1.1 T1.2 B S w4 HP4.out HSB.out HSS.out HI1.out.len1 HI1.out.len2 HFB.out HFS.out).mono ?_;rintro e w5 ⟨rfl,hp5⟩;rw[show((T1.1,T1.2):List Int × List Int)=T1 from rfl,<-H2S.out]at hp5;have HP5:=ze hp5;clear hp5 HP4;go_wp2_with fail;refine(zic w2 vB vS gp gt gf T2.1 T2.2 B S w5 HP5.out HSB.out HSS.out HI2.out.len1 HVA.out HFB.out).mono ?_;rintro e w6 ⟨v,rfl,ho6,hb6⟩;rw[<-HRN.out,HSO.out]at ho6;have HO6:=ze ho6;have HB5:=ze (HB2.out.trans (HP5.out.below.mono HB2.out.size));have HB6:=ze (HB5.out.trans (hb6.mono HB5.out.size));clear ho6 hb6;go_wp2_with fail;go_ret;exact⟨v,rfl,⟨HO6.out.1,HO6.out.2.imp id fun⟨g,cap,cur,h1,h2,h3⟩=>⟨g,cap,cur,h1,Nat.le_trans HB5.out.size h2,h3⟩⟩,HB6.out⟩
end
end Go.Proofs.YtbnafihigoekeaaGreatDoor

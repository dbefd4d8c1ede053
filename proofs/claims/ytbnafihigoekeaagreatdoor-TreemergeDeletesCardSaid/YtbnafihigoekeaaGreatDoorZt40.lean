/-
  TmTl, part 40.
-/
import Derived.Test.YtbnafihigoekeaaGreatDoorZt39
import Derived.Test.YtbnafihigoekeaaGreatDoorZt36
import Derived.Test.YtbnafihigoekeaaGreatDoorZt26
set_option maxRecDepth 100000
set_option maxHeartbeats 4000000
namespace Go.Proofs.YtbnafihigoekeaaGreatDoor
open Go.RowKit
def zfM(q:jQ):MW:= .agg [.lit (.string q.1),.lit (.string q.2)]
def zaF:Value->Option (MW × List MemPlace)
 | .agg cs=>match cs.toList with
  | [.string a,.string b]=>some (zfM (a.data.toList,b.data.toList),[])
  | _ =>none
 | _ =>none
def zkI(q:jQ):Value:= .agg #[.string ⟨q.1.toArray⟩,.string ⟨q.2.toArray⟩]
theorem zee(q:jQ):zaF (zkI q)=some (zfM q,[]):=by simp[zaF,zkI]
theorem zfR{v:Value}{q:jQ}{ps:List MemPlace}(h:zaF v=some (zfM q,ps)):v=zkI q:=by
 cases v with
 |agg cs=>
  obtain⟨l⟩:=cs;simp only[zaF]at h
  split at h
  ·simp only[zfM,Option.some.injEq,Prod.mk.injEq,DataW.agg.injEq,List.cons.injEq,DataW.lit.injEq,Lit.string.injEq,and_true]at h
   obtain⟨⟨h1,h2⟩,_⟩:=h;rw[zkI,<-h1,<-h2]
  ·cases h
 | _ =>simp[zaF]at h
def zeE(q:zg):MW:= .agg [.lit (.string q.1),.lit (.bool q.2.1),.lit (.string q.2.2)]
def kN:Value->Option (MW × List MemPlace)
 | .agg cs=>match cs.toList with
  | [.string a,.bool x,.string b]=>some (zeE (a.data.toList,x,b.data.toList),[])
  | _ =>none
 | _ =>none
def zmH(q:zg):Value:= .agg #[.string ⟨q.1.toArray⟩,.bool q.2.1,.string ⟨q.2.2.toArray⟩]
theorem zbc(q:zg):kN (zmH q)=some (zeE q,[]):=by simp[kN,zmH]
theorem zgn{v:Value}{q:zg}{ps:List MemPlace}(h:kN v=some (zeE q,ps)):v=zmH q:=by
 cases v with
 |agg cs=>
  obtain⟨l⟩:=cs;simp only[kN]at h
  split at h
  ·simp only[zeE,Option.some.injEq,Prod.mk.injEq,DataW.agg.injEq,List.cons.injEq,DataW.lit.injEq,Lit.string.injEq,Lit.bool.injEq,and_true]at h
   obtain⟨⟨h1,h2,h3⟩,_⟩:=h;rw[zmH,<-h1,<-h2,<-h3]
  ·cases h
 | _ =>simp[kN]at h
abbrev zcB(w:World)(b n:Nat)(D:MW):Prop:=w.ownsMap Tryz.prog 9 zaF b n D
def kA(D:MW)(f:zQ->Option jQ):Prop:=∀p,Maps.has D (.string p)=(f p).isSome/\∀q,f p=some q->∀z,D.atKey (.string p) z=zfM q
theorem kA.nil:kA (.map []) fun _ =>none:=fun _ =>⟨rfl,fun _ h=>by cases h⟩
theorem kA.put{D:MW}{f:zQ->Option jQ}(hD:Maps.IsMap D)(h:kA D f)(k:zQ)(q:jQ):kA (D.put (.string k) (zfM q)) (upd f k q):=fun p=>by
 by_cases e:p=k
 ·subst e
  refine⟨(Maps.has_put_same hD (show WideAt.IsKeyLit (.string p)from trivial) _).trans (by simp[upd]),fun r hr z=>?_⟩;simp only[upd,if_true]at hr;cases hr;exact Maps.atKey_put_same hD (show WideAt.IsKeyLit (.string p)from trivial) _ z
 ·have hne:(Lit.string p)≠ .string k:=fun e'=>e (by cases e';rfl)
  rw[Maps.has_put_other hne];simp only[upd,if_neg e];refine⟨(h p).1,fun r hr z=>?_⟩;rw[Maps.atKey_put_other hne];exact(h p).2 r hr z
def zaA(w:World)(g:Nat)(f:zQ->Option jQ):Prop:=∃n D,zcB w g n D/\kA D f
theorem zcB.old{w w':World}{b n:Nat}{D:MW}(h:zcB w b n D)(hk:b<w.heap.size->w'.heap[b]? =w.heap[b]?):zcB w' b n D:=by
 have hlt:=h.lt;obtain⟨es,clock,hb,r⟩:=h;exact⟨es,clock,(hk hlt).trans hb,r⟩
theorem Tryz.zeroMvA(w:World):(zeroValue 78).run Tryz.prog w= .ok (zkI ([],[])) w:=by kernel_rfl
theorem Tryz.zeroFileA(w:World):(zeroValue 28).run Tryz.prog w= .ok (zmH zM) w:=by kernel_rfl
theorem zbT{ops:Array Oper}{rest:List Oper}{o:Oper}{a:Act}{w:World}{Q:Exit->Act->World->Prop}(hg:o.guard=none)(m x:Operand)(hop:o.op=Op.lookup 116 m x true)
  (b n:Nat) (D:MW) (f:zQ->Option jQ) (p:zQ) (hm:a.eval m= .map (some b)) (hown:zcB w b n D) (hs:kA D f) (hp:p.length<=maxLen) (hx:a.eval x= .string ⟨p.toArray⟩) (r:Option jQ) (hr:f p=r)
  (hK:wpList Tryz.prog ops Q rest (a.put o.dst (.tuple #[zkI (r.getD ([],[])),.bool r.isSome])) w):wpList Tryz.prog ops Q (o::rest) a w:=by
 refine wpList_lookup_own_ok w hg m x 116 hop 9 78 (Maps.string_keyed Tryz.underlying9) Tryz.underlying116 zaF (Tryz.zeroMvA _) (zfM ([],[])) [] (zee _) b n D hm hown _ (.string p) hx (zgB hp) fun v ps hv=>?_
 obtain⟨h1,h2⟩:=hs p;rw[h1,hr]
 cases r with
 |some q=>
  rw[h2 q hr]at hv;rw[zfR hv];exact hK
 |none=>
  have hn:D.atKey (.string p) (zfM ([],[]))=zfM ([],[]):=Maps.atKey_of_not_has (by rw[h1,hr];rfl) _;rw[hn]at hv;rw[zfR hv];exact hK
theorem Tryz.laidOutS:laidOutB Tryz.prog=true:=by kernel_rfl
theorem Tryz.rowSpotM:(119:TypeId)< Tryz.prog.types.size:=of_decide_eq_true (by kernel_rfl)
theorem Tryz.wideSpotM:(match Tryz.prog.underlying 119 with |some (.array _ _) |some (.struct _)=>true | _ =>false)=true:=by rw[Tryz.underlying119]
theorem Tryz.spotLawM:Maps.Keyed Tryz.prog 119:=Maps.Keyed.of_law (deep_law_laid Tryz.laidOutS (m:=3) (by omega) Tryz.rowSpotM (by kernel_rfl) Tryz.wideSpotM)
abbrev SpS:=zQ × Nat
def kv(x:SpS):Lit:= .string (keyBytes [.string x.1,.int .u8 (x.2:Nat)])
def zcz(x:SpS):Prop:=x.1.length<=maxLen/\x.2<=1
theorem zeh{x:SpS}(h:zcz x):keyOf Tryz.prog 119 (.agg #[.string ⟨x.1.toArray⟩,.int .u8 (x.2:Nat)])=some (kv x):=by
 have hk:Tryz.prog.keyType 119=true:=by kernel_rfl
 have hc:Tryz.prog.cellsOf 119=2:=by kernel_rfl
 have hc1:Tryz.prog.cellsOf 9=1:=by kernel_rfl
 have hc2:Tryz.prog.cellsOf 84=1:=by kernel_rfl
 obtain⟨h1,h2⟩:=h
 have w2:(Lit.int .u8 (x.2:Int)).wf=true:=by simp[Lit.wf,IntKind.min,IntKind.max,IntKind.signed,IntKind.bits];omega
 have hsz:(ByteArray.mk x.1.toArray).size<=maxLen:=by
  show x.1.toArray.size<=maxLen;simpa using h1
 obtain⟨n,hn⟩:∃n,Tryz.prog.types.size+1=n+2:=⟨Tryz.prog.types.size-1,by have h:119<Tryz.prog.types.size:=Tryz.rowSpotM;omega⟩;unfold keyOf;rw[Tryz.underlying119,hk,hn];simp[Value.formed,Tryz.underlying119,hc,Value.cells,Program.keyLits,hc1,hc2,Tryz.underlying84,Tryz.underlying9,w2,kv,hsz]
theorem zoL{x y:SpS}(hx:zcz x)(hy:zcz y)(h:kv x=kv y):x=y:=by
 have:=Tryz.spotLawM.inj (zeh hx) (h ▸ zeh hy);simp at this;exact Prod.ext this.1 (by omega)
abbrev jM(w:World)(b n:Nat)(D:MW):Prop:=w.ownsMap Tryz.prog 119 kN b n D
def jI(D:MW)(f:SpS->Option zg):Prop:=∀p,zcz p->Maps.has D (kv p)=(f p).isSome/\∀q,f p=some q->∀z,D.atKey (kv p) z=zeE q
theorem jI.nil:jI (.map []) fun _ =>none:=fun _ _ =>⟨rfl,fun _ h=>by cases h⟩
theorem jI.put{D:MW}{f:SpS->Option zg}(hD:Maps.IsMap D)(h:jI D f)(k:SpS)(hk:zcz k)(q:zg):jI (D.put (kv k) (zeE q)) (upd f k q):=fun p hp=>by
 by_cases e:p=k
 ·subst e
  refine⟨(Maps.has_put_same hD (show WideAt.IsKeyLit (kv p)from trivial) _).trans (by simp[upd]),fun r hr z=>?_⟩;simp only[upd,if_true]at hr;cases hr;exact Maps.atKey_put_same hD (show WideAt.IsKeyLit (kv p)from trivial) _ z
 ·have hne:kv p≠kv k:=fun e'=>e (zoL hp hk e')
  rw[Maps.has_put_other hne];simp only[upd,if_neg e];refine⟨(h p hp).1,fun r hr z=>?_⟩;rw[Maps.atKey_put_other hne];exact(h p hp).2 r hr z
theorem jM.old{w w':World}{b n:Nat}{D:MW}(h:jM w b n D)(hk:b<w.heap.size->w'.heap[b]? =w.heap[b]?):jM w' b n D:=by
 have hlt:=h.lt;obtain⟨es,clock,hb,r⟩:=h;exact⟨es,clock,(hk hlt).trans hb,r⟩
theorem zfL{ops:Array Oper}{rest:List Oper}{o:Oper}{a:Act}{w:World}{Q:Exit->Act->World->Prop}(hg:o.guard=none)(m x:Operand)(hop:o.op=Op.lookup 51 m x true)
  (b n:Nat) (D:MW) (f:SpS->Option zg) (p:SpS) (hm:a.eval m= .map (some b)) (hown:jM w b n D) (hs:jI D f) (hp:zcz p) (hx:a.eval x= .agg #[.string ⟨p.1.toArray⟩,.int .u8 (p.2:Nat)]) (r:Option zg) (hr:f p=r)
  (hK:wpList Tryz.prog ops Q rest (a.put o.dst (.tuple #[zmH (r.getD zM),.bool r.isSome])) w):wpList Tryz.prog ops Q (o::rest) a w:=by
 refine wpList_lookup_own_ok w hg m x 51 hop 119 28 Tryz.spotLawM Tryz.underlying51 kN (Tryz.zeroFileA _) (zeE zM) [] (zbc _) b n D hm hown _ (kv p) hx (zeh hp) fun v ps hv=>?_
 obtain⟨h1,h2⟩:=hs p hp;rw[h1,hr]
 cases r with
 |some q=>
  rw[h2 q hr]at hv;rw[zgn hv];exact hK
 |none=>
  have hn:D.atKey (kv p) (zeE zM)=zeE zM:=Maps.atKey_of_not_has (by rw[h1,hr];rfl) _;rw[hn]at hv;rw[zgn hv];exact hK
theorem zqs(l m:List zg):(yj l m).length<=l.length:=by
 unfold yj;exact Nat.le_trans (zin _ _ _ _) (List.length_filter_le _ _)
theorem zgD{l m:List zg}(tl:zT l)(tm:zT m):zam l m (yj l m):=zmN tl.rise tm.rise (Nat.le_trans tl.len (by omega)) (Nat.le_trans tm.len (by omega))
theorem zlU{α:Type}{E:Enc α}{w w':World}{g n:Nat}{D:MW}{v:Value}{xs:List α}{k:TypeId}{R:Value->Option (MW × List MemPlace)}(h:zy E w v xs)(hm:w.ownsMap Tryz.prog k R g n D)(hg:w.grownBy w' (some g)):zy E w' v xs:=by
 obtain⟨es,clock,hb,_⟩:=hm;obtain⟨ao,cap,hv,hnone,hcap,hc⟩:=h;refine⟨ao,cap,hv,hnone,hcap,fun a ha i x hx j u hu=>?_⟩;have h1:=hc a ha i x hx j u hu;have hlt:=World.block_lt_of_cell? w _ h1;refine(World.cell?_of_block (hg.block _ hlt fun e=>?_)).trans h1
 have e:(a.add (i*E.k+j)).block=g:=by simpa using e
 simp[World.cell?,e,hb]at h1
section
theorem zey(va vb:Value)(a b:List zg)(w:World)(ha:yM w va a)(hb:yM w vb b)(ta:zT a)(tb:zT b):
  Calls Tryz.prog 73 #[va,vb] w fun e w'=>∃g,e= .returned (.map (some g))/\w.heap.size<=g/\zaA w' g (zah a (yj a b))/\Below w.heap.size w w':=by
 obtain⟨ao,ac,rfl⟩:=zy.form ha;obtain⟨bo,bc,rfl⟩:=zy.form hb;have HA:=ze ha;have HB:=ze hb;have HT:=ze (And.intro ta tb);have hal:a.length<=100:=ta.len;have HAL:=ze hal;clear ha hb ta tb hal;have HR:=ze (fun wx (hk:Below w.heap.size w wx)=>zif _ _ a b wx (HA.out.old hk) (HB.out.old hk) HT.out.1 HT.out.2);have HRL:=ze (show(yj a b).length<=100 from Nat.le_trans (zqs a b) HAL.out)
 have HRT:=ze (show ∀r∈yj a b,r.2.length<=maxLen from fun r hr=>by
  obtain⟨x,y,hx,hy,e1,e2⟩:=(zgD HT.out.1 HT.out.2).there r hr;have:=qV (HT.out.2.ok _ hy);rw[<-e2]
  unfold maxLen;omega)
 obtain⟨R,hR⟩:∃R,yj a b=R:=⟨_,rfl⟩;rw[hR]at HR HRL HRT ⊢;clear hR;have hmm:= @run_makeMap Tryz.prog
 go_enter Tryz.func73,Tryz.ntmps73
 go_wp2_with fail;clear hmm;obtain⟨w1,hw1⟩:∃w1,w.alloc (.map #[] 0)=w1:=⟨_,rfl⟩
 have hm1:zcB w1 w.heap.size 0 (.map []):=by rw[<-hw1];exact World.ownsMap_made w _ _ _
 have hb1:Below w.heap.size w w1:=by rw[<-hw1];exact(Below.refl _ w).alloc (Nat.le_refl _) _
 rw[hw1];obtain⟨gm,hgm⟩:∃g,w.heap.size=g:=⟨_,rfl⟩;have HGM:=ze hgm;rw[hgm]at hm1 ⊢;have HM1:=ze hm1;have HB1:=ze hb1;clear hm1 hb1 hw1 hgm
 go_loopg [13] a.length (fun g i wr=>∃ (k n:Nat) (D:MW),i= .int .i64 (k:Int)/\Hid (k<=a.length/\a.length-k<=g/\n<=k)/\Hid (zcB wr gm n D)/\Hid (kA D (zmn (a.take k)))/\Hid (Below w.heap.size w wr))
 case atStart=>exact⟨0,0,.map [],rfl,ze ⟨Nat.zero_le _,Nat.le_refl _,Nat.le_refl _⟩,HM1,ze kA.nil,HB1⟩
 case round=>
  clear HM1 HB1;obtain⟨k,n,D,rfl,HQ,HM,HS,HBW⟩:=hrel;have hQ:=HQ.out;have k0:(0:Int)<=(k:Int):=Int.natCast_nonneg _
  by_cases hlt:k<a.length
  case pos=>
   have k1:(k:Int)<(a.length:Int):=by omega
   have kw:IntKind.i64.wrap ((k:Int)+1)=(k:Int)+1:=IntWalk.i64_in _ (by have:=HAL.out;omega);obtain⟨b1,o1,p,x,t,e,he,c0,c1,c2⟩:=yM.at (HA.out.old HBW.out) hlt;cases e
   have hpl:p.length<=maxLen:=by
    have:=HT.out.1.ok _ (List.mem_of_getElem? he);have:=qV this;simp only at this;unfold maxLen;omega
   have HKEY:=ze (zgB hpl)
   have HS2:=ze (show kA (D.put (.string p) (zfM (p,p))) (zmn (a.take (k+1))) by
    rw[zmn,List.take_add_one,he,List.foldl_append]
    exact kA.put (World.ownsMap.isMap HM.out) HS.out p (p,p))
   clear he hpl;have HBA:=ze (HBW.out.alloc HBW.out.size (.cells #[.string ⟨p.toArray⟩,.bool x,.string ⟨t.toArray⟩] 28));have HMA:=ze (show zcB (wr.alloc (.cells #[.string ⟨p.toArray⟩,.bool x,.string ⟨t.toArray⟩] 28)) gm n D from HM.out.alloc _);have HN:=ze (show n<maxLen by have:=HAL.out;unfold maxLen;omega)
   go_wp2_with (at_mapUpdate;refine wpList_mapUpdate_own _ rfl (.tmp 17) (.tmp 19) (.tmp 24) 116 rfl 9 78 (Maps.string_keyed Tryz.underlying9) Tryz.underlying116 zaF gm n D rfl HMA.out HN.out _ _ (.string p) rfl rfl HKEY.out (zfM (p,p)) [] (zee (p,p)) ?_;intro w4 hown4 hgrow4;have HO4:=ze hown4;have HB4:=ze (HBA.out.grown hgrow4 HBA.out.size (fun j hj=>by cases hj;exact Nat.le_of_eq HGM.out));clear hown4 hgrow4)
   go_roundg (a.length-(k+1))
   case measure=>omega
   case rel=>exact⟨k+1,n+1,_,by go_num,ze ⟨by omega,Nat.le_refl _,by omega⟩,HO4,HS2,HB4⟩
  obtain rfl:k=a.length:=by omega
  have hneg:¬(a.length:Int)<(a.length:Int):=by omega
  have HS1:=ze (show kA D (zmn a) by have:=HS.out;rwa [List.take_length]at this);have HN1:=ze (show n<=100 by have:=HAL.out;omega);clear HS hQ HQ;go_wp2_with fail;refine(HR.out wr HBW.out).mono ?_;rintro e w5 ⟨v,rfl,ho,hb⟩;have HV:=ze (zcd.sl ho);have HB5:=ze (zi HBW.out hb HBW.out.size);have HM5:=ze (HM.out.old fun h=>hb.block _ h);clear ho hb HR;obtain⟨vo,vc,rfl⟩:=zy.form HV.out;generalize wr=wv at *;go_wp2_with fail
  go_loopg [30] R.length (fun g i wr=>∃ (k n:Nat) (D:MW),i= .int .i64 (k:Int)/\Hid (k<=R.length/\R.length-k<=g/\n<=100+k)/\Hid (zcB wr gm n D)/\Hid (kA D (zah a (R.take k)))/\Hid (Below w.heap.size w wr)/\Hid (SlV wr (.slice vo R.length vc) R))
  case atStart=>exact⟨0,n,D,rfl,ze ⟨Nat.zero_le _,Nat.le_refl _,HN1.out⟩,HM5,HS1,HB5,HV⟩
  case round=>
   clear HM5 HS1 HB5 HV;obtain⟨k,n,D,rfl,HQ,HM,HS,HBW,HV⟩:=hrel;have hQ:=HQ.out;have k0:(0:Int)<=(k:Int):=Int.natCast_nonneg _
   by_cases hlt:k<R.length
   case pos=>
    have k1:(k:Int)<(R.length:Int):=by omega
    have kw:IntKind.i64.wrap ((k:Int)+1)=(k:Int)+1:=IntWalk.i64_in _ (by have:=HRL.out;omega);obtain⟨b1,o1,p,q,e,he,c0,c1⟩:=SlV.at HV.out hlt;cases e;have HKEY:=ze (zgB (HRT.out _ (List.mem_of_getElem? he)))
    have HS2:=ze (show kA (D.put (.string q) (zfM (p,q))) (zah a (R.take (k+1))) by
     rw[zah,List.take_add_one,he,List.foldl_append]
     exact kA.put (World.ownsMap.isMap HM.out) HS.out q (p,q))
    clear he;have HBA:=ze (HBW.out.alloc HBW.out.size (.cells #[.string ⟨p.toArray⟩,.string ⟨q.toArray⟩] 78));have HMA:=ze (show zcB (wr.alloc (.cells #[.string ⟨p.toArray⟩,.string ⟨q.toArray⟩] 78)) gm n D from HM.out.alloc _);have HVA:=ze (show SlV (wr.alloc (.cells #[.string ⟨p.toArray⟩,.string ⟨q.toArray⟩] 78)) (.slice (some ⟨b1,o1,none⟩) R.length vc) R from zy.alloc HV.out _);have HN:=ze (show n<maxLen by have:=HRL.out;unfold maxLen;omega)
    go_wp2_with (at_mapUpdate;refine wpList_mapUpdate_own _ rfl (.tmp 34) (.tmp 36) (.tmp 37) 116 rfl 9 78 (Maps.string_keyed Tryz.underlying9) Tryz.underlying116 zaF gm n D rfl HMA.out HN.out _ _ (.string q) rfl rfl HKEY.out (zfM (p,q)) [] (zee (p,q)) ?_;intro w4 hown4 hgrow4;have HO4:=ze hown4;have HB4:=ze (HBA.out.grown hgrow4 HBA.out.size (fun j hj=>by cases hj;exact Nat.le_of_eq HGM.out));have HV4:=ze (zlU HVA.out HMA.out hgrow4);clear hown4 hgrow4)
    go_roundg (R.length-(k+1))
    case measure=>omega
    case rel=>exact⟨k+1,n+1,_,by go_num,ze ⟨by omega,Nat.le_refl _,by omega⟩,HO4,HS2,HB4,HV4⟩
   obtain rfl:k=R.length:=by omega
   have hneg:¬(R.length:Int)<(R.length:Int):=by omega
   have HS3:=ze (show kA D (zah a R) by have:=HS.out;rwa [List.take_length]at this);go_wp2_with fail;go_ret;exact⟨gm,rfl,by rw[HGM.out];exact Nat.le_refl _,⟨n,D,HM.out,HS3.out⟩,HBW.out⟩
end
open Go.RowKit
section
variable{w:World}
theorem zau{ops:Array Oper}{o:Oper}{a:Act}{K:Act->World->Prop}{Q:Exit->Act->World->Prop}{X:Prop}(hgd:o.guard=none)(s sx:Operand)
  (ho:o.op= .call {callee:= .builtin .append,args:= #[s,sx],argTypes:= #[22,22] })
  (base:Nat) (v:Value) (xs:List zg) (x:zg) (he:a.eval s=v) (hown:zI w base v xs) (u:Value) (hx:a.eval sx=u) (hu:yM w u [x])
  (hlen:xs.length<=100000000) (hbase:base<=w.heap.size)
  (h:∀v' w',zI w' base v' (xs++[x])->w.grownBy w' v.ownBlock->(v'.ownBlock=v.ownBlock∨v'.ownBlock=some w.heap.size)->K (a.put o.dst v') w'):if Region.wanted o (yielded ops a.tmps)=true then Oper.wp Tryz.prog o a w K Q else X:=by
 obtain⟨i0,hi0,hi1,hi2,hi3⟩:=info_parts Tryz.infoFile
 refine jA w hgd s sx _ _ ho base 28 i0 _ 3 40 Tryz.underlying22 hi0 hi1 hi2 hi3 rfl (by omega) v _ _ he hown u 1 _ hx (hu.src Tryz.underlying22) (by unfold maxLen;omega) (by omega) hbase fun v' w' h2 h3 h4=>h v' w' ?_ h3 h4
 unfold zI;rw[List.length_append,xA];exact h2
end
open Go.RowKit
open BigFrame
theorem yO{w:World}{base g n size:Nat}{e e':TypeId}{v:Value}{xs:List Value}{cs:Array Value}{fr:Nat × Nat}(h:w.ownsRow base e size v n xs)(hg:w.heap[g]? =some (.cells cs e' fr))(hne:e≠e'):v.ownBlock≠some g:=by
 rcases h.2 with⟨rfl,_⟩ |⟨g',cap,cur,rfl,_,hg',_⟩
 ·simp[Value.ownBlock]
 ·intro he
  have:g'=g:=by simpa[Value.ownBlock]using he
  subst this;rw[hg']at hg;cases hg;exact hne rfl
def xh(w w':World):Prop:=∀ (k:Nat) (cs:Array Value) (fr:Nat × Nat),w.heap[k]? =some (Obj.cells cs 28 fr)->w'.heap[k]? =some (Obj.cells cs 28 fr)
theorem xh.refl(w:World):xh w w:=fun _ _ _ h=>h
theorem xh.trans{a b c:World}(h:xh a b)(k:xh b c):xh a c:=fun i cs fr e=>k i cs fr (h i cs fr e)
theorem xh.ofBelow{w w':World}(h:Below w.heap.size w w'):xh w w':=fun k _ _ e=>(h.block k (lt_of_block e)).trans e
theorem xh.grown{w w':World}{row:Option Nat}(hg:w.grownBy w' row)(hr:∀k,row=some k->∀ (cs:Array Value) (fr:Nat × Nat),w.heap[k]?≠some (Obj.cells cs 28 fr)):xh w w':=fun k cs fr e=>by
 refine(hg.block k (lt_of_block e) fun he=>?_).trans e;exact hr k he.symm cs fr e
theorem xh.setCell{w:World}{g i:Nat}{u:Value}{cs:Array Value}{e:TypeId}{fr:Nat × Nat}(hg:w.heap[g]? =some (.cells cs e fr))(hne:28≠e):xh w (w.setCell ⟨g,i,none⟩ u):=fun k cs' fr' h=>by
 by_cases hk:k=g
 ·subst hk
  rw[hg]at h;cases h;exact absurd rfl hne
 ·rw[Below.heap_setCell _ _ _ _ (show k≠g from hk)]
  exact h
theorem zI.fr{w w':World}{base:Nat}{v:Value}{xs:List zg}(h:zI w base v xs)(hf:xh w w'):zI w' base v xs:=by
 rcases h.2 with hn |⟨g,cap,cur,rfl,hb,hg,rest⟩
 ·exact⟨h.1,.inl hn⟩
 ·exact⟨h.1,.inr ⟨g,cap,cur,rfl,hb,hf _ _ _ hg,rest⟩⟩
def zfG(s:jP)(f:zg)(k:Int):jP:=
 if zfP s.1 f.1=true then(s.1,s.2++[(f.1,5,f.2.2)])else(yC s.1 f,if k=0 then s.2 else s.2++[(f.1,k,f.2.2)])
theorem zqQ(M:List zg)(C:List yK)(f:zg)(k:Int):zfG (xu M,C) f k=(xu (jq (M,C) f k).1,(jq (M,C) f k).2):=by
 unfold zfG jq;simp only[zqH]
 split
 ·rfl
 ·rw[zqt]
structure yk(gw:Nat)(s:jP)(w:World):Prop where
 ex:∃vf vc,w.heap[gw]? =some (.cells #[vf,vc] 61 (0,0))/\zI w (gw+1) vf s.1/\jv w (gw+1) vc s.2
theorem yk.lt{gw:Nat}{s:jP}{w:World}(h:yk gw s w):gw<w.heap.size:=by
 obtain⟨_,_,hg,_⟩:=h.ex;exact lt_of_block hg
theorem yk.old{gw:Nat}{s:jP}{w w':World}(h:yk gw s w)(hk:Below w.heap.size w w'):yk gw s w':=by
 obtain⟨vf,vc,hg,hf,hc⟩:=h.ex;exact⟨vf,vc,(hk.block _ (lt_of_block hg)).trans hg,World.ownsRow.kept' hf hk,World.ownsRow.kept' hc hk⟩
theorem Tryz.ne1:28≠61:=by decide
theorem Tryz.ne2:36≠61:=by decide
theorem Tryz.ne3:36≠28:=by decide
theorem jv.set{gw i:Nat}{w:World}{base:Nat}{v u:Value}{C:List yK}{cs:Array Value}(h:jv w base v C)(hg:w.heap[gw]? =some (.cells cs 61 (0,0))):jv (w.setCell ⟨gw,i,none⟩ u) base v C:=by
 have hne:=yO h hg Tryz.ne2
 rcases h.2 with hn |⟨g,cap,cur,rfl,hb,hg',rest⟩
 ·exact⟨h.1,.inl hn⟩
 ·refine⟨h.1,.inr ⟨g,cap,cur,rfl,hb,?_,rest⟩⟩
  rw[Below.heap_setCell _ _ _ _ (show g≠gw from fun e=>hne (by rw[e];rfl))];exact hg'
theorem yk.set0{gw:Nat}{F:List zg}{C:List yK}{w:World}{vf vc u:Value}(hg:w.heap[gw]? =some (.cells #[vf,vc] 61 (0,0)))(hf:zI w (gw+1) u F)(hc:jv w (gw+1) vc C):yk gw (F,C) (w.setCell ⟨gw,0,none⟩ u):=
 ⟨_,_,zv hg,hf.fr (xh.setCell hg Tryz.ne1),hc.set hg⟩
theorem yk.set1{gw:Nat}{F:List zg}{C:List yK}{w:World}{vf vc u:Value}(hg:w.heap[gw]? =some (.cells #[vf,vc] 61 (0,0)))(hf:zI w (gw+1) vf F)(hc:jv w (gw+1) u C):yk gw (F,C) (w.setCell ⟨gw,1,none⟩ u):=
 ⟨_,_,zv hg,hf.fr (xh.setCell hg Tryz.ne1),hc.set hg⟩
section
theorem zdw(gw:Nat)(s:jP)(p t:zQ)(x:Bool)(k:Int)(w:World)(h:yk gw s w)(hF:s.1.length<=100000)(hC:s.2.length<=100000):
  Calls Tryz.prog 34 #[.pointer (some ⟨gw,0,none⟩),.agg #[zq p,.bool x,zq t],.int .i64 k] w fun e w'=>e= .returned (.tuple #[])/\yk gw (zfG s (p,x,t) k) w'/\Below gw w w'/\xh w w':=by
 obtain⟨F,C⟩:=s;have hgw:=h.lt;obtain⟨vf,vc,hg,hf,hc⟩:=h.ex;simp only at hf hc hF hC;obtain⟨W,hW⟩:∃y,w.alloc (.cells #[.string ⟨p.toArray⟩,.bool x,.string ⟨t.toArray⟩] 28)=y:=⟨_,rfl⟩
 have hB0:Below w.heap.size w W:=by rw[<-hW];exact(Below.refl _ w).alloc (Nat.le_refl _) _
 have hgq:W.heap[w.heap.size]? =some (.cells #[.string ⟨p.toArray⟩,.bool x,.string ⟨t.toArray⟩] 28 (0,0)):=by rw[<-hW];exact heap_alloc_new w _
 have HW0:=ze (hB0.mono (show gw<=w.heap.size by omega));have HFR:=ze (xh.ofBelow hB0);have HG:=ze ((hB0.block _ hgw).trans hg);have HF:=ze (World.ownsRow.kept' hf hB0);have HC:=ze (World.ownsRow.kept' hc hB0);have q0:=zd (i:=0) hgq rfl;have q1:=zd (i:=1) hgq rfl;have q2:=zd (i:=2) hgq rfl;have HGQ:=ze hgq;have HGW:=ze (show gw<W.heap.size from lt_of_block HG.out);have HL:=ze (And.intro hF hC);have cw0:=zd (i:=0) HG.out rfl;have cw1:=zd (i:=1) HG.out rfl;obtain⟨fo,fc,rfl⟩:=zl hf;obtain⟨co,cc,rfl⟩:=zl hc;clear h hf hc hg hF hC hB0 hgq hgw;unfold zq
 go_enter Tryz.func34,Tryz.ntmps34
 go_upto_region 1 with fail
 try rw[hW]
 clear hW;generalize w.heap.size=gq at *;obtain⟨z,hz⟩:∃z,zz F p=z:=⟨_,rfl⟩;obtain⟨⟨zp,zx,zt⟩,hzv⟩:∃y,z.getD zM=y:=⟨_,rfl⟩;have HFI:=ze (fun wx (h:yM wx (.slice fo F.length fc) F)=>kU _ F p wx h (by have:=HL.out;omega));rw[hz,hzv]at HFI;unfold ye zq at HFI;have HZ:=ze hz;clear hz hzv;have HS1:=ze (show yM W.drew (.slice fo F.length fc) F from(zI.sl HF.out).old ((Below.refl _ W).drew));have HS2:=ze (show yM (W.alloc (.cells #[.string ⟨#[]⟩,.bool false,.string ⟨#[]⟩] 28)).drew (.slice fo F.length fc) F from(zI.sl HF.out).old (((Below.refl _ W).alloc (Nat.le_refl _) _).drew));have HN2:=ze (show(W.alloc (.cells #[.string ⟨#[]⟩,.bool false,.string ⟨#[]⟩] 28)).drew.heap[W.heap.size]? =some (.cells #[.string ⟨#[]⟩,.bool false,.string ⟨#[]⟩] 28 (0,0))from heap_alloc_new W _);have a0:(W.alloc (.cells #[.string ⟨#[]⟩,.bool false,.string ⟨#[]⟩] 28)).cell? ⟨gw,0,none⟩=some (.slice fo F.length fc):=zf ((Below.refl _ W).alloc (Nat.le_refl _) _) cw0;have a1:(W.alloc (.cells #[.string ⟨#[]⟩,.bool false,.string ⟨#[]⟩] 28)).cell? ⟨gq,0,none⟩=some (.string ⟨p.toArray⟩):=zf ((Below.refl _ W).alloc (Nat.le_refl _) _) q0
 go_cut [6,7]from 8 to 17 (fun s6 s7 wx=>s7= .bool z.isSome/\Hid (Below W.heap.size W wx))
 case first=>
  go_region_law (first
   |(go_simp
     go_at_call 20
     refine(HFI.out _ (by with_reducible exact HS1.out)).mono ?_;rintro e w5 ⟨rfl,hb5⟩;have HB5:=ze (show Below W.heap.size W w5 from((Below.refl _ W).drew).trans hb5);clear hb5
     go_simp)
   |(go_simp
     go_at_call 20
     refine(HFI.out _ (by with_reducible exact HS2.out)).mono ?_;rintro e w5 ⟨rfl,hb5⟩;have HB5:=ze (show Below W.heap.size W w5 from(((Below.refl _ W).alloc (Nat.le_refl _) _).drew).trans (hb5.mono (by simp)));have hn:=(hb5.block _ (lt_of_block HN2.out)).trans HN2.out;have n0:=zd (i:=0) hn rfl;have n1:=zd (i:=1) hn rfl;have n2:=zd (i:=2) hn rfl;have m0:=zo (i:=0) hn;have m1:=zo (i:=1) hn;have m2:=zo (i:=2) hn;clear hb5 hn
     go_simp))
  all_goals(
   go_wp2_with fail
   go_meet
   exact⟨rfl,ze (by first |exact HB5.out.alloc HB5.out.size _ |exact((HB5.out.setCell (Nat.le_refl _) _).setCell (Nat.le_refl _) _).setCell (Nat.le_refl _) _)⟩)
 case rest=>
  obtain⟨rfl,HBC⟩:=hcut;clear a0 a1 HS1 HS2 HN2 cw0 cw1 q0 q1 q2;have HGC:=ze ((HBC.out.block _ HGW.out).trans HG.out);have HGQC:=ze ((HBC.out.block _ (lt_of_block HGQ.out)).trans HGQ.out);have HFC:=ze (World.ownsRow.kept' HF.out HBC.out);have HCC:=ze (World.ownsRow.kept' HC.out HBC.out);have HWC:=ze (show Below gw w wc from HW0.out.trans (HBC.out.mono (Nat.le_of_lt HGW.out)));have HFRC:=ze (xh.trans HFR.out (xh.ofBelow HBC.out));have HGWC:=ze (lt_of_block HGC.out);clear HBC HG HGQ HF HC HW0 HFR HGW;generalize wc=U at *;have cw0:=zd (i:=0) HGC.out rfl;have cw1:=zd (i:=1) HGC.out rfl;have zw0:=zo (i:=0) HGC.out;have zw1:=zo (i:=1) HGC.out;have q0:=zd (i:=0) HGQC.out rfl;have q1:=zd (i:=1) HGQC.out rfl;have q2:=zd (i:=2) HGQC.out rfl;obtain⟨bar,hbar⟩:∃b,zfP F p=b:=⟨_,rfl⟩;have HBR:=ze hbar;have HCL:=ze (fun wx (h:yM wx (.slice fo F.length fc) F)=>zeK _ F p wx h (by have:=HL.out;omega));obtain⟨cl,hcl⟩:∃b,yG F p=b:=⟨_,rfl⟩;have HOR:=ze (show bar=(z.isSome ||cl) by rw[<-hbar,zqf,HZ.out,hcl]);rw[hcl]at HCL;unfold zq at HCL;obtain⟨zs,hzs⟩:∃b,z.isSome=b:=⟨_,rfl⟩;rw[hzs]at HOR ⊢;clear hbar hcl hzs
  go_upto_region 2 with fail
  go_cut [27]from 18 to 27 (fun s wx=>s= .bool bar/\Hid (Below U.heap.size U wx))
  case first=>
   obtain⟨ι,_,f,hf,hc⟩:=fam U;have HSU:=ze (zI.sl HFC.out);have cw0:=yE hf cw0;have q0:=yE hf q0
   cases zs with
   |true=>
    refine zV (fun w'=>∃i,w'=f i) (by kernel_rfl) (by kernel_rfl) (hc _ ((Below.refl _ _).drew)) ?_
    repeat(go_big_quiet_step (fail))
    refine wpQuiet_nil ?_;intro _ hw';obtain⟨nq,hw''⟩:=hw';subst hw'';go_wp2_with fail
    go_meet
    exact⟨by rw[HOR.out];rfl,ze (hf nq)⟩
   |false=>
    refine zV (fun w'=>∃i,w'=f i) (by kernel_rfl) (by kernel_rfl) (hc _ ((Below.refl _ _).drew)) ?_
    repeat(go_big_quiet_step ((go_at_call 44;exact jC hf hc ((HCL.out _ (zy.old HSU.out (hf _))).mono (fun _ _ ⟨h1,h2⟩=>⟨h1,h2 ▸ Below.refl _ _⟩)))))
    refine wpQuiet_nil ?_;intro _ hw';obtain⟨nq,hw''⟩:=hw';subst hw'';go_wp2_with fail
    go_meet
    exact⟨by rw[HOR.out];rfl,ze (hf nq)⟩
  case rest=>
   obtain⟨rfl,HBC⟩:=hcut;have HGD:=ze (show wc.heap[gw]? = _ from(HBC.out.block _ HGWC.out).trans HGC.out);have HFD:=ze (World.ownsRow.kept' HFC.out HBC.out);have HCD:=ze (World.ownsRow.kept' HCC.out HBC.out);have HWD:=ze (show Below gw w wc from HWC.out.trans (HBC.out.mono (Nat.le_of_lt HGWC.out)));have HFRD:=ze (xh.trans HFRC.out (xh.ofBelow HBC.out));have HGWD:=ze (lt_of_block HGD.out);have cv0:=zd (i:=0) HGD.out rfl;have cv1:=zd (i:=1) HGD.out rfl;have zv0:=zo (i:=0) HGD.out;have zv1:=zo (i:=1) HGD.out;have p0:=zf HBC.out q0;have p1:=zf HBC.out q1;have p2:=zf HBC.out q2;have HGQD:=ze ((HBC.out.block _ (lt_of_block HGQC.out)).trans HGQC.out);clear HBC HGC HFC HCC HWC HFRC HGWC cw0 cw1 zw0 zw1 q0 q1 q2 HGQC;generalize wc=V at *
   cases bar with
   |true=>
    have HPD:=ze (show zfG (F,C) (p,x,t) k=(F,C++[(p,5,t)]) by unfold zfG;rw[if_pos HBR.out]);obtain⟨VA,hVA⟩:∃y,(V.alloc (.cells #[.string ⟨p.toArray⟩,.int .i64 5,.string ⟨t.toArray⟩] 36)).drew=y:=⟨_,rfl⟩;have e1:(V.alloc (.cells #[.string ⟨p.toArray⟩,.int .i64 5,.string ⟨t.toArray⟩] 36)).cell? ⟨gw,1,none⟩=some (.slice co C.length cc):=zf ((Below.refl _ V).alloc (Nat.le_refl _) _) cv1
    have hVB:Below V.heap.size V VA:=by rw[<-hVA];exact((Below.refl _ V).alloc (Nat.le_refl _) _).drew
    have hVN:VA.heap[V.heap.size]? =some (.cells #[.string ⟨p.toArray⟩,.int .i64 5,.string ⟨t.toArray⟩] 36 (0,0)):=by rw[<-hVA];exact heap_alloc_new V _
    have HVS:=ze (show zbE VA (.slice (some ⟨V.heap.size,0,none⟩) 1 1) [(p,5,t)]from zy.one hVN rfl);have HVO:=ze (World.ownsRow.kept' HCD.out hVB);have HVB:=ze hVB;have HCN:=ze (yO HCD.out HGD.out Tryz.ne2);have HCZ:=ze (fun k (hk:(Value.slice co C.length cc).ownBlock=some k) (cs:Array Value) (fr:Nat × Nat) (he:VA.heap[k]? =some (.cells cs 28 fr))=>yO HVO.out he Tryz.ne3 hk);have HCG:=ze (fun k (hk:(Value.slice co C.length cc).ownBlock=some k)=>(World.ownsRow.lt HVO.out k hk).1);have HCLN:=ze (show C.length<=100000000 by have:=HL.out;omega);have HVZ:=ze (show gw+1<=VA.heap.size from Nat.le_trans HGWD.out hVB.size);clear hVB hVN;subst hVA;go_wp2_with fail
    go_region_law (
     refine kL (by rfl) (.tmp 32) (.tmp 38) (by rfl) (gw+1) (.slice co C.length cc) C (p,5,t) (by kernel_rfl) HVO.out (.slice (some ⟨V.heap.size,0,none⟩) 1 1) (by kernel_rfl) HVS.out HCLN.out HVZ.out ?_;intro v5 w5 o5 g5
     obtain⟨so5,sc5,rfl⟩:∃o c,v5= .slice o (C.length+1) c:=by obtain⟨o,c,h⟩:=zl o5;exact⟨o,c,by rw[h];simp⟩
     have HO5:=ze o5;have HGR:=ze g5;have hw5:=(g5.block gw (Nat.lt_of_lt_of_le HGWD.out HVB.out.size) (fun e=>HCN.out e.symm)).trans ((HVB.out.block gw HGWD.out).trans HGD.out);have HG5:=ze hw5;have HB5:=ze (show Below gw w w5 from((HWD.out.trans (HVB.out.mono (Nat.le_of_lt HGWD.out))).grown g5 (Nat.le_of_lt (Nat.lt_of_lt_of_le HGWD.out HVB.out.size)) (fun k hk=>Nat.le_of_succ_le (HCG.out k hk))));have HF5:=ze (xh.trans (xh.trans HFRD.out (xh.ofBelow HVB.out)) (xh.grown g5 HCZ.out));have HFF5:=ze (zI.fr (zI.fr HFD.out (xh.ofBelow HVB.out)) (xh.grown g5 HCZ.out));have HPQ:=ze (xh.trans (xh.ofBelow HVB.out) (xh.grown g5 HCZ.out));have c5:=zd (i:=1) hw5 rfl;have z5:=zo (i:=1) hw5
     clear o5 g5 hw5)
    all_goals(
     go_wp2_with fail;refine zrt rfl rfl ?_;refine⟨rfl,?_,HB5.out.setCell (Nat.le_refl _) _,xh.trans HF5.out (xh.setCell HG5.out Tryz.ne1)⟩;rw[HPD.out]
     exact yk.set1 HG5.out HFF5.out HO5.out)
   |false=>
    by_cases hk0:k=0
    ·have kb:(k !=0)=false:=by simp[hk0]
     have kb2:(k==0)=true:=by simp[hk0]
     have HPD:=ze (show zfG (F,C) (p,x,t) k=(yC F (p,x,t),C) by unfold zfG;rw[if_neg (by rw[HBR.out];simp),if_pos hk0]);clear hk0;go_wp2_with fail;have HSO:=ze (fun(wx:World) (h:yM wx (.slice fo F.length fc) F)=>zdd _ F p t x wx h (by have:=HL.out;omega));unfold zq at HSO;have HSV:=ze (show yM V.drew (.slice fo F.length fc) F from(zI.sl HFD.out).old ((Below.refl _ _).drew));go_wp2_with fail
     go_region_law (
      go_simp
      go_at_call 45
      refine(HSO.out _ HSV.out).mono ?_;rintro e w7 ⟨u7,rfl,o7,b7⟩;obtain⟨so7,sc7,rfl⟩:=zl o7;have hb7:Below V.heap.size V w7:=((Below.refl _ _).drew).trans b7;have hw7:=(hb7.block gw HGWD.out).trans HGD.out;have HO7:=ze (show zI w7 (gw+1) (.slice so7 _ sc7) _ from zY o7 HGWD.out);have HG7:=ze hw7;have HB7:=ze hb7;have c7:=zd (i:=0) hw7 rfl;have z7:=zo (i:=0) hw7;clear o7 b7 hb7 hw7
      go_simp)
     all_goals(
      go_wp2_with fail
      go_end0
      refine⟨rfl,?_,(HWD.out.trans (HB7.out.mono (Nat.le_of_lt HGWD.out))).setCell (Nat.le_refl _) _,xh.trans (xh.trans HFRD.out (xh.ofBelow HB7.out)) (xh.setCell HG7.out Tryz.ne1)⟩;rw[HPD.out]
      exact yk.set0 HG7.out HO7.out (World.ownsRow.kept' HCD.out HB7.out))
    ·have kb:(k !=0)=true:=by simp[hk0]
     have kb2:(k==0)=false:=by simp[hk0]
     have HPD:=ze (show zfG (F,C) (p,x,t) k=(yC F (p,x,t),C++[(p,k,t)]) by unfold zfG;rw[if_neg (by rw[HBR.out];simp),if_neg hk0]);clear hk0;go_wp2_with fail;obtain⟨VA,hVA⟩:∃y,(V.alloc (.cells #[.string ⟨p.toArray⟩,.int .i64 k,.string ⟨t.toArray⟩] 36)).drew=y:=⟨_,rfl⟩;have e1:(V.alloc (.cells #[.string ⟨p.toArray⟩,.int .i64 k,.string ⟨t.toArray⟩] 36)).cell? ⟨gw,1,none⟩=some (.slice co C.length cc):=zf ((Below.refl _ V).alloc (Nat.le_refl _) _) cv1
     have hVB:Below V.heap.size V VA:=by rw[<-hVA];exact((Below.refl _ V).alloc (Nat.le_refl _) _).drew
     have hVN:VA.heap[V.heap.size]? =some (.cells #[.string ⟨p.toArray⟩,.int .i64 k,.string ⟨t.toArray⟩] 36 (0,0)):=by rw[<-hVA];exact heap_alloc_new V _
     have HVS:=ze (show zbE VA (.slice (some ⟨V.heap.size,0,none⟩) 1 1) [(p,k,t)]from zy.one hVN rfl);have HVO:=ze (World.ownsRow.kept' HCD.out hVB);have HVB:=ze hVB;have HCN:=ze (yO HCD.out HGD.out Tryz.ne2);have HCZ:=ze (fun k (hk:(Value.slice co C.length cc).ownBlock=some k) (cs:Array Value) (fr:Nat × Nat) (he:VA.heap[k]? =some (.cells cs 28 fr))=>yO HVO.out he Tryz.ne3 hk);have HCG:=ze (fun k (hk:(Value.slice co C.length cc).ownBlock=some k)=>(World.ownsRow.lt HVO.out k hk).1);have HCLN:=ze (show C.length<=100000000 by have:=HL.out;omega);have HVZ:=ze (show gw+1<=VA.heap.size from Nat.le_trans HGWD.out hVB.size);clear hVB hVN;subst hVA;go_wp2_with fail
     go_region_law (
      refine kL (by rfl) (.tmp 48) (.tmp 55) (by rfl) (gw+1) (.slice co C.length cc) C (p,k,t) (by kernel_rfl) HVO.out (.slice (some ⟨V.heap.size,0,none⟩) 1 1) (by kernel_rfl) HVS.out HCLN.out HVZ.out ?_;intro v5 w5 o5 g5
      obtain⟨so5,sc5,rfl⟩:∃o c,v5= .slice o (C.length+1) c:=by obtain⟨o,c,h⟩:=zl o5;exact⟨o,c,by rw[h];simp⟩
      have HO5:=ze o5;have HGR:=ze g5;have hw5:=(g5.block gw (Nat.lt_of_lt_of_le HGWD.out HVB.out.size) (fun e=>HCN.out e.symm)).trans ((HVB.out.block gw HGWD.out).trans HGD.out);have HG5:=ze hw5;have HB5:=ze (show Below gw w w5 from((HWD.out.trans (HVB.out.mono (Nat.le_of_lt HGWD.out))).grown g5 (Nat.le_of_lt (Nat.lt_of_lt_of_le HGWD.out HVB.out.size)) (fun k hk=>Nat.le_of_succ_le (HCG.out k hk))));have HF5:=ze (xh.trans (xh.trans HFRD.out (xh.ofBelow HVB.out)) (xh.grown g5 HCZ.out));have HFF5:=ze (zI.fr (zI.fr HFD.out (xh.ofBelow HVB.out)) (xh.grown g5 HCZ.out));have HPQ:=ze (xh.trans (xh.ofBelow HVB.out) (xh.grown g5 HCZ.out));have c5:=zd (i:=1) hw5 rfl;have z5:=zo (i:=1) hw5
      clear o5 g5 hw5)
     all_goals(
      have HQ0:=ze (zv (i:=1) (u:=(.slice so5 (C.length+1) sc5)) HG5.out);have HQB:=ze (HB5.out.setCell (p:=⟨gw,1,none⟩) (Nat.le_refl _) (.slice so5 (C.length+1) sc5));have HQR:=ze (xh.trans HF5.out (xh.setCell (i:=1) (u:=(.slice so5 (C.length+1) sc5)) HG5.out Tryz.ne1));have HQP:=ze (xh.trans HPQ.out (xh.setCell (i:=1) (u:=(.slice so5 (C.length+1) sc5)) HG5.out Tryz.ne1));have HQF:=ze (zI.fr HFF5.out (xh.setCell (i:=1) (u:=(.slice so5 (C.length+1) sc5)) HG5.out Tryz.ne1));have HQC:=ze (jv.set (i:=1) (u:=(.slice so5 (C.length+1) sc5)) HO5.out HG5.out);clear c5 z5 HG5 HB5 HF5 HFF5 HO5 HPQ HGR HVS HVO e1 cv0 cv1 zv0 zv1 p0 p1 p2;generalize w5.setCell ⟨gw,1,none⟩ (.slice so5 (C.length+1) sc5)=V5 at *;have HZ5:=ze (lt_of_block HQ0.out);have d0:=zd (i:=0) HQ0.out rfl;have HGK:=ze (HQP.out _ _ _ HGQD.out);have p0:=zd (i:=0) HGK.out rfl;have p1:=zd (i:=1) HGK.out rfl;have p2:=zd (i:=2) HGK.out rfl;have HSO:=ze (fun(wx:World) (h:yM wx (.slice fo F.length fc) F)=>zdd _ F p t x wx h (by have:=HL.out;omega));unfold zq at HSO;have HSV:=ze (show yM V5.drew (.slice fo F.length fc) F from(zI.sl HQF.out).old ((Below.refl _ _).drew));go_wp2_with fail
      go_region_law (
       go_simp
       go_at_call 45
       refine(HSO.out _ HSV.out).mono ?_;rintro e w7 ⟨u7,rfl,o7,b7⟩;obtain⟨so7,sc7,rfl⟩:=zl o7;have hb7:Below V5.heap.size V5 w7:=((Below.refl _ _).drew).trans b7;have hw7:=(hb7.block gw HZ5.out).trans HQ0.out;have HO7:=ze (show zI w7 (gw+1) (.slice so7 _ sc7) _ from zY o7 HZ5.out);have HG7:=ze hw7;have HB7:=ze hb7;have c7:=zd (i:=0) hw7 rfl;have z7:=zo (i:=0) hw7;clear o7 b7 hb7 hw7
       go_simp)
      all_goals(
       go_wp2_with fail
       go_end0
       refine⟨rfl,?_,(HQB.out.trans (HB7.out.mono (Nat.le_of_lt HZ5.out))).setCell (Nat.le_refl _) _,xh.trans (xh.trans HQR.out (xh.ofBelow HB7.out)) (xh.setCell HG7.out Tryz.ne1)⟩;rw[HPD.out]
       exact yk.set0 HG7.out HO7.out (World.ownsRow.kept' HQC.out HB7.out)))
end
end Go.Proofs.YtbnafihigoekeaaGreatDoor

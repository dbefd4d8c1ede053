/-
  TmTl, part 34.
-/
import Derived.Test.YtbnafihigoekeaaGreatDoorZt30
import Derived.Test.YtbnafihigoekeaaGreatDoorZt33
set_option maxRecDepth 100000
set_option maxHeartbeats 8000000
namespace Go.Proofs.YtbnafihigoekeaaGreatDoor
open Go.Shelf Go.RowKit Go.Lib Go.Sort
def Tryz.stV_ren:Go.Shelf.Ren:=⟨fun |85=>218 |80=>208 |72=>188 |59=>167 |43=>143 |71=>187 |n=>n,fun |0=>0 |3=>3 |4=>4 |37=>126 |28=>39 |35=>78 |79=>197 |n=>n,fun |n=>n⟩
theorem Tryz.stV:StL Tryz.prog Tryz.stV_ren:= {
 mixed:=by kernel_rfl
 f85:=⟨ "slices.swapRangeCmpFunc[rick/api.Rename]",by kernel_rfl,Tryz.func218.trans (congrArg some (by kernel_rfl))⟩
 f80:=⟨ "slices.rotateCmpFunc[rick/api.Rename]",by kernel_rfl,Tryz.func208.trans (congrArg some (by kernel_rfl))⟩
 f72:=⟨ "slices.symMergeCmpFunc[rick/api.Rename]",by kernel_rfl,Tryz.func188.trans (congrArg some (by kernel_rfl))⟩
 f59:=⟨ "slices.stableCmpFunc[rick/api.Rename]",by kernel_rfl,Tryz.func167.trans (congrArg some (by kernel_rfl))⟩
 f43:=⟨ "slices.SortStableFunc[[]rick/api.Rename,rick/api.Rename]",by kernel_rfl,Tryz.func143.trans (congrArg some (by kernel_rfl))⟩
 t0:=Tryz.underlying0
 a0:=Tryz.isAgg0
 z0:=Tryz.sizeOf0
 v0:=Tryz.zeroValue0
 t3:=Tryz.underlying3
 a3:=Tryz.isAgg3
 z3:=Tryz.sizeOf3
 v3:=Tryz.zeroValue3
 t4:=Tryz.underlying4
 a4:=Tryz.isAgg4
 z4:=Tryz.sizeOf4
 v4:=Tryz.zeroValue4
 t37:=Tryz.underlying126
 a37:=Tryz.isAgg126
 z37:=Tryz.sizeOf126
 v37:=Tryz.zeroValue126
 t28:=Tryz.underlying39
 a28:=Tryz.isAgg39
 z28:=Tryz.sizeOf39
 v28:=Tryz.zeroValue39
 t79:=Tryz.underlying197
 a79:=Tryz.isAgg197
 z79:=Tryz.sizeOf197
 v79:=Tryz.zeroValue197 }
def Tryz.stV2_ren:Go.Shelf.Ren:=⟨fun |20=>187 |n=>n,fun |0=>0 |3=>3 |4=>4 |22=>39 |24=>78 |25=>197 |n=>n,fun |n=>n⟩
theorem Tryz.stV2:Go.Proofs.SlLaysF0.n20 Tryz.prog Tryz.stV2_ren:= {
 mixed:=by kernel_rfl
 f20:=⟨ "slices.insertionSortCmpFunc[rick/api.Rename]",by kernel_rfl,Tryz.func187.trans (congrArg some (by kernel_rfl))⟩
 t0:=Tryz.underlying0
 a0:=Tryz.isAgg0
 z0:=Tryz.sizeOf0
 v0:=Tryz.zeroValue0
 t3:=Tryz.underlying3
 a3:=Tryz.isAgg3
 z3:=Tryz.sizeOf3
 v3:=Tryz.zeroValue3
 t4:=Tryz.underlying4
 a4:=Tryz.isAgg4
 z4:=Tryz.sizeOf4
 v4:=Tryz.zeroValue4
 t22:=Tryz.underlying39
 a22:=Tryz.isAgg39
 z22:=Tryz.sizeOf39
 v22:=Tryz.zeroValue39
 t25:=Tryz.underlying197
 a25:=Tryz.isAgg197
 z25:=Tryz.sizeOf197
 v25:=Tryz.zeroValue197 }
def Tryz.stM_ren:Go.Shelf.Ren:=⟨fun |85=>224 |80=>217 |72=>207 |59=>185 |43=>164 |71=>206 |n=>n,fun |0=>0 |3=>3 |4=>4 |37=>126 |28=>192 |35=>195 |79=>229 |n=>n,fun |n=>n⟩
theorem Tryz.stM:StL Tryz.prog Tryz.stM_ren:= {
 mixed:=by kernel_rfl
 f85:=⟨ "slices.swapRangeCmpFunc[rick/similar.match]",by kernel_rfl,Tryz.func224.trans (congrArg some (by kernel_rfl))⟩
 f80:=⟨ "slices.rotateCmpFunc[rick/similar.match]",by kernel_rfl,Tryz.func217.trans (congrArg some (by kernel_rfl))⟩
 f72:=⟨ "slices.symMergeCmpFunc[rick/similar.match]",by kernel_rfl,Tryz.func207.trans (congrArg some (by kernel_rfl))⟩
 f59:=⟨ "slices.stableCmpFunc[rick/similar.match]",by kernel_rfl,Tryz.func185.trans (congrArg some (by kernel_rfl))⟩
 f43:=⟨ "slices.SortStableFunc[[]rick/similar.match,rick/similar.match]",by kernel_rfl,Tryz.func164.trans (congrArg some (by kernel_rfl))⟩
 t0:=Tryz.underlying0
 a0:=Tryz.isAgg0
 z0:=Tryz.sizeOf0
 v0:=Tryz.zeroValue0
 t3:=Tryz.underlying3
 a3:=Tryz.isAgg3
 z3:=Tryz.sizeOf3
 v3:=Tryz.zeroValue3
 t4:=Tryz.underlying4
 a4:=Tryz.isAgg4
 z4:=Tryz.sizeOf4
 v4:=Tryz.zeroValue4
 t37:=Tryz.underlying126
 a37:=Tryz.isAgg126
 z37:=Tryz.sizeOf126
 v37:=Tryz.zeroValue126
 t28:=Tryz.underlying192
 a28:=Tryz.isAgg192
 z28:=Tryz.sizeOf192
 v28:=Tryz.zeroValue192
 t79:=Tryz.underlying229
 a79:=Tryz.isAgg229
 z79:=Tryz.sizeOf229
 v79:=Tryz.zeroValue229 }
def Tryz.stM2_ren:Go.Shelf.Ren:=⟨fun |20=>206 |n=>n,fun |0=>0 |3=>3 |4=>4 |22=>192 |24=>195 |25=>229 |n=>n,fun |n=>n⟩
theorem Tryz.stM2:Go.Proofs.SlLaysF0.n20 Tryz.prog Tryz.stM2_ren:= {
 mixed:=by kernel_rfl
 f20:=⟨ "slices.insertionSortCmpFunc[rick/similar.match]",by kernel_rfl,Tryz.func206.trans (congrArg some (by kernel_rfl))⟩
 t0:=Tryz.underlying0
 a0:=Tryz.isAgg0
 z0:=Tryz.sizeOf0
 v0:=Tryz.zeroValue0
 t3:=Tryz.underlying3
 a3:=Tryz.isAgg3
 z3:=Tryz.sizeOf3
 v3:=Tryz.zeroValue3
 t4:=Tryz.underlying4
 a4:=Tryz.isAgg4
 z4:=Tryz.sizeOf4
 v4:=Tryz.zeroValue4
 t22:=Tryz.underlying192
 a22:=Tryz.isAgg192
 z22:=Tryz.sizeOf192
 v22:=Tryz.zeroValue192
 t25:=Tryz.underlying229
 a25:=Tryz.isAgg229
 z25:=Tryz.sizeOf229
 v25:=Tryz.zeroValue229 }
def cfV(x y:jQ):Int:=compareBytes x.1 y.1
def zgq(x y:MtS):Int:=if y.2.2<x.2.2 then -1 else if x.2.2<y.2.2 then 1 else 0
section
theorem zoE(x y:jQ)(W:World):Calls Tryz.prog 144 #[.agg #[zq x.1,zq x.2],.agg #[zq y.1,zq y.2]] W fun e w'=>e= .returned (.int .i64 (cfV x y))/\∃q os',w'=grow (W.drewN q) os':=by
 obtain⟨a,b⟩:=x;obtain⟨c,d⟩:=y
 have HC:=ze fun(w:World)=>zeG a c w
 unfold zq at HC ⊢
 show Calls _ _ _ _ fun e w'=>e= .returned (.int .i64 (compareBytes a c))/\ _
 go_enter Tryz.func144,Tryz.ntmps144
 go_wp2_with (go_at_call 57;refine(HC.out _).mono ?_;rintro e w1 ⟨rfl,rfl⟩)
 go_ret;exact⟨rfl,0,#[_,_],by simp only[alloc_eq_grow,grow_grow];rfl⟩
theorem zpf(x:Int)(w:World):Calls Tryz.prog 186 #[.int .i64 x] w fun e w'=>e= .returned (.bool false)/\w=w':=by
 go_enter Tryz.func186,Tryz.ntmps186
 go_wp2
 go_ret;exact⟨by simp,rfl⟩
theorem zoB(x y:Nat)(w:World):Calls Tryz.prog 166 #[.int .i64 (x:Nat),.int .i64 (y:Nat)] w fun e w'=>e= .returned (.int .i64 (if x<y then -1 else if y<x then 1 else 0))/\w=w':=by
 have HC:=ze fun(x:Int) (w:World)=>zpf x w
 rcases Nat.lt_trichotomy x y with h |rfl |h
 ·have hz:(x:Int)<(y:Int):=by omega
  rw[if_pos h];clear h
  go_enter Tryz.func166,Tryz.ntmps166
  go_wp2_with (go_at_call 186;refine(HC.out _ _).mono ?_;rintro e w1 ⟨rfl,rfl⟩)
  go_ret;exact⟨rfl,rfl⟩
 ·have hz:¬(x:Int)<(x:Int):=by omega
  rw[if_neg (by omega),if_neg (by omega)]
  go_enter Tryz.func166,Tryz.ntmps166
  go_wp2_with (go_at_call 186;refine(HC.out _ _).mono ?_;rintro e w1 ⟨rfl,rfl⟩)
  go_ret;exact⟨rfl,rfl⟩
 ·have hz:¬(x:Int)<(y:Int):=by omega
  have hz2:(y:Int)<(x:Int):=by omega
  rw[if_neg (by omega),if_pos h];clear h
  go_enter Tryz.func166,Tryz.ntmps166
  go_wp2_with (go_at_call 186;refine(HC.out _ _).mono ?_;rintro e w1 ⟨rfl,rfl⟩)
  go_ret;exact⟨rfl,rfl⟩
theorem zlI(x y:MtS)(W:World):Calls Tryz.prog 165 #[.agg #[.int .i64 (x.1:Nat),.int .i64 (x.2.1:Nat),.int .i64 (x.2.2:Nat)],.agg #[.int .i64 (y.1:Nat),.int .i64 (y.2.1:Nat),.int .i64 (y.2.2:Nat)]] W fun e w'=>e= .returned (.int .i64 (zgq x y))/\∃q os',w'=grow (W.drewN q) os':=by
 obtain⟨a1,a2,a3⟩:=x;obtain⟨b1,b2,b3⟩:=y
 have HC:=ze fun(w:World)=>zoB b3 a3 w
 show Calls _ _ _ _ fun e w'=>e= .returned (.int .i64 (if b3<a3 then -1 else if a3<b3 then 1 else 0))/\ _
 obtain⟨R,hR⟩:∃R:Int,R=if b3<a3 then -1 else if a3<b3 then 1 else 0:=⟨_,rfl⟩
 rw[<-hR]at HC ⊢;clear hR
 go_enter Tryz.func165,Tryz.ntmps165
 go_wp2_with (go_at_call 166;refine(HC.out _).mono ?_;rintro e w1 ⟨rfl,rfl⟩)
 go_ret;exact⟨rfl,0,#[_,_],by simp only[alloc_eq_grow,grow_grow];rfl⟩
end
theorem zpt(v:Value)(l:List jQ)(w:World)(base:Nat)(hb:base<=w.heap.size)(hv:zcd w base v l)(hl:l.length<=100000000):
  Calls Tryz.prog 143 #[v,.func (.func 144) #[] #[]] w fun e w'=>e= .returned (.tuple #[])/\zcd w' base v (zP (ltOf cfV) l.toArray).toList/\Below base w w':=by
 refine(St.own Tryz.stV Tryz.stV2 rfl rfl zoT Tryz.isAgg78 Tryz.sizeOf78 cfV 144 #[] (enters_of Tryz.func144 (by kernel_rfl) rfl) 78 v l w base hb hv hl (fun x y W=>zoE x y W)).mono ?_;rintro e w' ⟨rfl,h,hb'⟩;refine⟨rfl,?_,hb'⟩;unfold zcd;rw[Array.length_toList,xf,List.size_toArray];exact h
theorem zon(v:Value)(l:List MtS)(w:World)(base:Nat)(hb:base<=w.heap.size)(hv:zbf w base v l)(hl:l.length<=100000000):
  Calls Tryz.prog 164 #[v,.func (.func 165) #[] #[]] w fun e w'=>e= .returned (.tuple #[])/\zbf w' base v (zP (ltOf zgq) l.toArray).toList/\Below base w w':=by
 refine(St.own Tryz.stM Tryz.stM2 rfl rfl zhL Tryz.isAgg195 Tryz.sizeOf195 zgq 165 #[] (enters_of Tryz.func165 (by kernel_rfl) rfl) 195 v l w base hb hv hl (fun x y W=>zlI x y W)).mono ?_;rintro e w' ⟨rfl,h,hb'⟩;refine⟨rfl,?_,hb'⟩;unfold zbf;rw[Array.length_toList,xf,List.size_toArray];exact h
open Go.RowKit
def zik(a b:TxS):Option MtS:=if zbA a.2 b.2=true then some (a.1,b.1,ratioL a.2 b.2)else none
def zbq(a:TxS)(B:List TxS)(j:Nat):List MtS:=(B.take j).filterMap (zik a)
def jX(A B:List TxS)(k:Nat):List MtS:=(A.take k).flatMap fun a=>zbq a B B.length
theorem zmG{a b:TxS}{B:List TxS}{j:Nat}(h:B[j]? =some b):zbq a B (j+1)=zbq a B j ++(zik a b).toList:=by
 rw[zbq,List.take_add_one,h,List.filterMap_append]
 cases e:zik a b <;> simp[e,zbq]
theorem ziv(a:TxS)(B:List TxS)(j:Nat):(zbq a B j).length<=j:=by
 have h:=List.length_filterMap_le (zik a) (B.take j);rw[List.length_take]at h;exact Nat.le_trans h (Nat.min_le_left ..)
theorem zhh{a:TxS}{A B:List TxS}{k:Nat}(h:A[k]? =some a):jX A B (k+1)=jX A B k++zbq a B B.length:=by
 rw[jX,List.take_add_one,h,List.flatMap_append];simp[jX]
theorem zdy(A B:List TxS):∀k,(jX A B k).length<=k*B.length
 |0=>by simp[jX]
 |k+1=>by
  by_cases h:k<A.length
  ·rw[zhh (List.getElem?_eq_getElem h),List.length_append,Nat.succ_mul]
   exact Nat.add_le_add (zdy A B k) (ziv _ _ _)
  ·have:jX A B (k+1)=jX A B k:=by rw[jX,jX,List.take_of_length_le (by omega),List.take_of_length_le (by omega)]
   rw[this,Nat.succ_mul];have:=zdy A B k;omega
def few(l:List zg):Prop:=l.length<=1000/\∀f∈l,f.2.2.length<=1000000
theorem jS{l:List zg}{ws:List Int}{k:Nat}{x:TxS}(h:x∈yu l ws k):∃f,l[x.1]? =some f/\ws[x.1]? =some (-1)/\x.2=zn f.2.2/\x.1<k:=by
 obtain⟨i,hi,he⟩:=List.mem_filterMap.1 h;unfold zae at he
 split at he
 ·rename_i f z h1 h2
  split at he
  ·rename_i hz
   cases he;subst hz;exact⟨f,h1,h2,rfl,List.mem_range.1 hi⟩
  ·cases he
 ·cases he
section
theorem zjT(w0:World)(vb vs:Value)(gp gt gf:Nat)(ts fs:List Int)(l m:List zg)(w:World)(h:xX w0 vb vs gp gt gf ts fs w)(hb:yM w0 vb l)(hs:yM w0 vs m)
  (hl:ts.length=l.length) (hm:fs.length=m.length) (fl:few l) (fm:few m):
  Calls Tryz.prog 142 #[.pointer (some ⟨gp,0,none⟩)] w fun e w'=>∃v,e= .returned v/\
   zbf w' w.heap.size v (zP (ltOf zgq) (jX (yu l ts l.length) (yu m fs m.length) (yu l ts l.length).length).toArray).toList/\Below w.heap.size w w':=by
 have hsb:=hb.old h.below;have hss:=hs.old h.below
 have HL1:=ze fun(wx:World) (hk:Below w.heap.size w wx)=>ziQ vb gt ts.length l ts wx (hsb.old hk) ((hk.block _ (lt_of_block h.rowT)).trans h.rowT) (Nat.le_of_eq hl.symm) (by rw[hl];have:=fl.1;omega) fl.2
 have HL2:=ze fun(wx:World) (hk:Below w.heap.size w wx)=>ziQ vs gf fs.length m fs wx (hss.old hk) ((hk.block _ (lt_of_block h.rowF)).trans h.rowF) (Nat.le_of_eq hm.symm) (by rw[hm];have:=fm.1;omega) fm.2
 have HXA:=ze fun(x:TxS) (hx:x∈yu l ts l.length)=>show x.2.length<=1000000 by
  obtain⟨f,h1,_,h3,_⟩:=jS hx;rw[h3];exact Nat.le_trans (yL _) (fl.2 f (List.mem_of_getElem? h1))
 have HXB:=ze fun(x:TxS) (hx:x∈yu m fs m.length)=>show x.2.length<=1000000 by
  obtain⟨f,h1,_,h3,_⟩:=jS hx;rw[h3];exact Nat.le_trans (yL _) (fm.2 f (List.mem_of_getElem? h1))
 have hal:=zcn l ts l.length;have hbl:=zcn m fs m.length;obtain⟨A,hA⟩:∃A,yu l ts l.length=A:=⟨_,rfl⟩;obtain⟨B,hB⟩:∃B,yu m fs m.length=B:=⟨_,rfl⟩;rw[hA]at HL1 HXA hal;rw[hB]at HL2 HXB hbl;rw[hA,hB];have HAB:=ze (show A.length<=1000/\B.length<=1000 by have:=fl.1;have:=fm.1;omega);obtain⟨n1,hn1⟩:∃n,ts.length=n:=⟨_,rfl⟩;obtain⟨n2,hn2⟩:∃n,fs.length=n:=⟨_,rfl⟩;have hcell:=h.cell;rw[hn1]at HL1 hcell;rw[hn2]at HL2 hcell;have c0:w.cell? ⟨gp,0,none⟩=some vb:=zd (i:=0) hcell rfl;have c1:w.cell? ⟨gp,1,none⟩=some vs:=zd (i:=1) hcell rfl;have c2:w.cell? ⟨gp,2,none⟩=some (.slice (some ⟨gt,0,none⟩) n1 n1):=zd (i:=2) hcell rfl;have c3:w.cell? ⟨gp,3,none⟩=some (.slice (some ⟨gf,0,none⟩) n2 n2):=zd (i:=3) hcell rfl;have HCELL:=ze hcell;obtain⟨ao,ac,rfl⟩:=hb.form;obtain⟨bo,bc,rfl⟩:=hs.form;obtain⟨k1,hk1⟩:∃k,l.length=k:=⟨_,rfl⟩;obtain⟨k2,hk2⟩:∃k,m.length=k:=⟨_,rfl⟩;rw[hk1]at c0 HL1 HCELL;rw[hk2]at c1 HL2 HCELL;clear h hb hs hl hm fl fm hsb hss hal hbl hA hB hn1 hn2 hcell hk1 hk2
 go_enter Tryz.func142,Tryz.ntmps142
 go_upto_region 1 with fail
 go_cut [3]from 11 to 19 (fun v1 wx=>Hid (zbk wx w.heap.size v1 B)/\Hid (Below w.heap.size w wx))
 case first=>
  have HLW:=ze (HL2.out w.drew (zm w 1))
  go_region_law (go_simp;go_at_call 162;refine HLW.out.mono ?_;rintro e w1 ⟨v1,rfl,ho1,hb1⟩;go_simp)
  all_goals(
   go_wp2_with fail
   go_meet
   exact⟨ze ho1,ze ((zm w 1).trans hb1)⟩)
 case rest=>
  obtain⟨HO1,HB1⟩:=hcut;obtain⟨o1,p1,rfl⟩:=HO1.out.form;have hc2:=(HB1.out.block _ (lt_of_block HCELL.out)).trans HCELL.out;have d0:wc.cell? ⟨gp,0,none⟩=some (.slice ao k1 ac):=zd (i:=0) hc2 rfl;have d2:wc.cell? ⟨gp,2,none⟩=some (.slice (some ⟨gt,0,none⟩) n1 n1):=zd (i:=2) hc2 rfl;clear c0 c1 c2 c3 hc2 HL2
  go_upto_region 3 with fail
  go_cut [28,29,30]from 20 to 30 (fun v2 v3 v4 wx=>Hid (zbk wx w.heap.size v2 A)/\v3= .int .i64 A.length/\v4= .int .i64 0/\Hid (Below wc.heap.size wc wx))
  case first=>
   have HLW:=ze (HL1.out wc.drew ((HB1.out.trans ((zm wc 1).mono HB1.out.size))));have hzc:=HB1.out.size
   go_region_law (go_simp;go_at_call 162;refine HLW.out.mono ?_;rintro e w2 ⟨v2,rfl,ho2,hb2⟩;obtain⟨o2,p2,rfl⟩:=ho2.form;have HO2:=ze ho2;have HB2:=ze hb2;clear ho2 hb2;go_simp)
   all_goals(
    go_wp2_with fail
    go_meet
    obtain⟨flat,q1,q2⟩:=HO2.out
    exact⟨ze ⟨flat,zbV q1 hzc,q2⟩,rfl,rfl,ze ((zm wc 1).trans HB2.out)⟩)
  case rest=>
   clear d0 d2;obtain⟨HO2,rfl,rfl,HB2⟩:=hcut;rename_i w1 w2;obtain⟨o2,p2,rfl⟩:=HO2.out.form;have HS1:=ze (HO1.out.slX.old HB2.out);have HS2:=ze HO2.out.slX;have HB3:=ze (zi HB1.out HB2.out HB1.out.size);clear HO1 HO2 HB1 HB2 HL1 HCELL;have hAL:=HAB.out;obtain⟨na,hna⟩:∃n,A.length=n:=⟨_,rfl⟩;obtain⟨nb,hnb⟩:∃n,B.length=n:=⟨_,rfl⟩;rw[hna]at HS2 hAL ⊢;rw[hnb]at HS1 hAL ⊢;have HNA:=ze hna;have HNB:=ze hnb;have HAL:=ze hAL;clear HAB hna hnb hAL
   have HMU:=ze fun k=>zdy A B k
   have HRU:=ze fun(a:TxS) j=>ziv a B j
   go_wp2_with fail
   go_loopg [4,30] na (fun g s4 s30 wr=>∃ (k:Nat) (L:List MtS),s30= .int .i64 (k:Int)/\Hid (k<=na/\na-k<=g)/\Hid (L=jX A B k)/\Hid (zbf wr wc.heap.size s4 L)/\Hid (Below wc.heap.size wc wr))
   case atStart=>exact⟨0,[],rfl,ze ⟨Nat.zero_le _,Nat.le_refl _⟩,ze rfl,ze (World.ownsRow_nil _ _ _ _),ze (Below.refl _ _)⟩
   case round=>
    obtain⟨k,L,rfl,HQ,HLL,HO,HW⟩:=hrel;obtain⟨no,nc,rfl⟩:=zl HO.out;have hQ:=HQ.out;have k0:(0:Int)<=(k:Int):=Int.natCast_nonneg _
    by_cases hlt:k<na
    ·have k1:(k:Int)<(na:Int):=by omega
     have kw:IntKind.i64.wrap ((k:Int)+1)=(k:Int)+1:=IntWalk.i64_in _ (by have:=HAL.out;omega);obtain⟨ba,oa,ka,xa,la,sa,rfl,e1,e2,e3,ta,tb,hxa⟩:=HS2.out.at' (i:=k) (by rw[HNA.out];exact hlt);obtain⟨lo,lc,rfl⟩:=ta.form;obtain⟨so,sc,rfl⟩:=tb.form
     have old:∀ {p:Addr} {u:Value},wc.cell? p=some u->wr.cell? p=some u:=fun {p u} hp=>(World.cell?_of_block (w:=wc) (HW.out.block _ (World.block_lt_of_cell? _ _ hp))).trans hp
     have f1:=old e1;have f2:=old e2;have f3:=old e3;have HTA:=ze (show zjs wc _ _ xa from⟨ta,tb⟩);have HXL:=ze (show xa.length<=1000000 from HXA.out _ (List.mem_of_getElem? hxa));have HNEXT:=ze (show jX A B (k+1)=L++zbq (ka,xa) B B.length by rw[zhh hxa,HLL.out]);have HLB:=ze (show L.length<=k*nb by rw[HLL.out,<-HNB.out];exact HMU.out k);obtain⟨m1,hm1⟩:∃n,(zj xa).length=n:=⟨_,rfl⟩;obtain⟨m2,hm2⟩:∃n,(zj (xi xa)).length=n:=⟨_,rfl⟩;rw[hm1]at f2 HTA;rw[hm2]at f3 HTA;obtain⟨wb,hwb⟩:∃wb,wr.alloc (.cells #[.int .i64 (ka:Nat),.slice lo m1 lc,.slice so m2 sc] 225)=wb:=⟨_,rfl⟩
     have hgb:wb.heap[wr.heap.size]? =some (.cells #[.int .i64 (ka:Nat),.slice lo m1 lc,.slice so m2 sc] 225 (0,0)):=by rw[<-hwb];exact heap_alloc_new wr _
     have HOB:=ze (show zbf wb wc.heap.size (.slice no L.length nc) L by rw[<-hwb];exact HO.out.alloc _);have HWB:=ze (show Below wc.heap.size wc wb by rw[<-hwb];exact HW.out.alloc HW.out.size _);obtain⟨ga,hga⟩:∃g,wr.heap.size=g:=⟨_,rfl⟩;rw[hga]at hgb;have HGB:=ze hgb;clear old e1 e2 e3 ta tb hxa hm1 hm2 hQ hgb
     go_upto_region 6 with fail
     clear f1 f2 f3 hwb hga HO HW;go_wp2_with fail
     go_loopg [4,36] nb (fun g s4 s36 wr=>∃ (j:Nat) (M:List MtS),s36= .int .i64 (j:Int)/\Hid (j<=nb/\nb-j<=g)/\Hid (M=L++zbq (ka,xa) B j)/\Hid (zbf wr wc.heap.size s4 M)/\Hid (wr.heap[ga]? =some (.cells #[.int .i64 (ka:Nat),.slice lo m1 lc,.slice so m2 sc] 225 (0,0)))/\Hid (Below wc.heap.size wc wr))
     case atStart=>exact⟨0,L,rfl,ze ⟨Nat.zero_le _,Nat.le_refl _⟩,ze (by simp[zbq]),HOB,HGB,HWB⟩
     case round=>
      clear HOB HGB HWB;obtain⟨j,M,rfl,HQ2,HM,HO,HG,HW⟩:=hrel;obtain⟨no2,nc2,rfl⟩:=zl HO.out;have hQ2:=HQ2.out;have j0:(0:Int)<=(j:Int):=Int.natCast_nonneg _
      by_cases hjt:j<nb
      ·have j1:(j:Int)<(nb:Int):=by omega
       have jw:IntKind.i64.wrap ((j:Int)+1)=(j:Int)+1:=IntWalk.i64_in _ (by have:=HAL.out;omega);obtain⟨bb,ob,kb,xb,lb,sb,rfl,e1,e2,e3,tc,td,hxb⟩:=HS1.out.at' (i:=j) (by rw[HNB.out];exact hjt);obtain⟨lo2,lc2,rfl⟩:=tc.form;obtain⟨so2,sc2,rfl⟩:=td.form
       have old:∀ {p:Addr} {u:Value},wc.cell? p=some u->wr.cell? p=some u:=fun {p u} hp=>(World.cell?_of_block (w:=wc) (HW.out.block _ (World.block_lt_of_cell? _ _ hp))).trans hp
       have f1:=old e1;have f2:=old e2;have f3:=old e3;have HTB:=ze (show zjs wc _ _ xb from⟨tc,td⟩);have HXL2:=ze (show xb.length<=1000000 from HXB.out _ (List.mem_of_getElem? hxb));have HNX:=ze (show L++zbq (ka,xa) B (j+1)=M ++(zik (ka,xa) (kb,xb)).toList by rw[zmG hxb,HM.out,List.append_assoc])
       have HML:=ze (show M.length<=2000000 by
        have h1:=HRU.out (ka,xa) j;have h2:=HLB.out;have h3:=HAL.out;have h4:=HQ.out;have h5:k*nb<=1000*1000:=Nat.mul_le_mul (by omega) h3.2;rw[HM.out,List.length_append]
        omega)
       obtain⟨m3,hm3⟩:∃n,(zj xb).length=n:=⟨_,rfl⟩;obtain⟨m4,hm4⟩:∃n,(zj (xi xb)).length=n:=⟨_,rfl⟩;rw[hm3]at f2 HTB;rw[hm4]at f3 HTB;obtain⟨wz,hwz⟩:∃wz,wr.alloc (.cells #[.int .i64 (kb:Nat),.slice lo2 m3 lc2,.slice so2 m4 sc2] 225)=wz:=⟨_,rfl⟩
       have hgz:wz.heap[wr.heap.size]? =some (.cells #[.int .i64 (kb:Nat),.slice lo2 m3 lc2,.slice so2 m4 sc2] 225 (0,0)):=by rw[<-hwz];exact heap_alloc_new wr _
       have hga2:wz.heap[ga]? =some (.cells #[.int .i64 (ka:Nat),.slice lo m1 lc,.slice so m2 sc] 225 (0,0)):=by rw[<-hwz];exact(Below.heap_alloc _ _ _ (lt_of_block HG.out)).trans HG.out
       have HOZ:=ze (show zbf wz wc.heap.size (.slice no2 M.length nc2) M by rw[<-hwz];exact HO.out.alloc _);have HWZ:=ze (show Below wc.heap.size wc wz by rw[<-hwz];exact HW.out.alloc HW.out.size _);obtain⟨gz,hgzn⟩:∃g,wr.heap.size=g:=⟨_,rfl⟩;rw[hgzn]at hgz;have HGZ:=ze hgz;have HGA:=ze hga2;have HAC:=ze (zld ka kb _ _ _ _ xa xb wz (HTA.out.old (HWZ.out.mono (Nat.le_refl _))) (HTB.out.old (HWZ.out.mono (Nat.le_refl _))) HXL.out HXL2.out);have HONE:=ze (show zik (ka,xa) (kb,xb)=if zbA xa xb=true then some (ka,kb,ratioL xa xb)else none from rfl);clear old e1 e2 e3 tc td hxb hm3 hm4 hQ2 hgz hga2 HO HG HW
       go_upto_region 9 with fail
       clear f1 f2 f3 hwz hgzn;have a0:wz.cell? ⟨ga,0,none⟩=some (.int .i64 (ka:Nat)):=zd (i:=0) HGA.out rfl;have a1:wz.cell? ⟨ga,1,none⟩=some (.slice lo m1 lc):=zd (i:=1) HGA.out rfl;have a2:wz.cell? ⟨ga,2,none⟩=some (.slice so m2 sc):=zd (i:=2) HGA.out rfl;have z0:wz.cell? ⟨gz,0,none⟩=some (.int .i64 (kb:Nat)):=zd (i:=0) HGZ.out rfl;have z1:wz.cell? ⟨gz,1,none⟩=some (.slice lo2 m3 lc2):=zd (i:=1) HGZ.out rfl;have z2:wz.cell? ⟨gz,2,none⟩=some (.slice so2 m4 sc2):=zd (i:=2) HGZ.out rfl;go_wp2_with fail;refine HAC.out.mono ?_;rintro e w3 ⟨r,rfl,hr,hb3⟩;have hga3:=(hb3.block _ (lt_of_block HGA.out)).trans HGA.out;have hgz3:=(hb3.block _ (lt_of_block HGZ.out)).trans HGZ.out;have HO3:=ze (show zbf w3 wc.heap.size (.slice no2 M.length nc2) M from zD HOZ.out fun q _ hq=>hb3.block q hq);have HW3:=ze (zi HWZ.out hb3 HWZ.out.size);have HG3:=ze hga3;clear a0 a1 a2 z0 z1 z2 HAC HGA HGZ HOZ HWZ hb3
       cases hal:zbA xa xb with
       |true=>
        obtain rfl:=hr hal;have HE:=ze (show M++[(ka,kb,ratioL xa xb)]=L++zbq (ka,xa) B (j+1) by rw[HNX.out,HONE.out,hal];rfl);have a0:w3.cell? ⟨ga,0,none⟩=some (.int .i64 (ka:Nat)):=zd (i:=0) hga3 rfl;have z0:w3.cell? ⟨gz,0,none⟩=some (.int .i64 (kb:Nat)):=zd (i:=0) hgz3 rfl
        have hne:(Value.slice no2 M.length nc2).ownBlock≠some ga:=by
         rcases ownsRow_ne_a HO3.out hga3 (fun cur e=>absurd (Obj.cells.inj e).2.1 (by decide))with h1 |h1
         ·rw[h1]
          exact fun e=>by cases e
         ·exact h1
        have HNE:=ze hne;have hlga:=lt_of_block hga3;obtain⟨rr,hrr⟩:∃rr,ratioL xa xb=rr:=⟨_,rfl⟩;rw[hrr]at HE ⊢;clear hr hal hga3 hgz3 hne hrr
        go_wp2_with (at_builtin;refine zfh (by rfl) (.tmp 47) (.tmp 54) rfl wc.heap.size _ M (ka,kb,rr) rfl HO3.out _ rfl rfl (by have:=HML.out;omega) HW3.out.size ?_;intro v5 w5 hO5 hb5 hk5)
        go_roundg (nb-(j+1))
        case measure=>have:=HQ2.out;omega
        case rel=>exact⟨j+1,_,by go_num,ze ⟨by have:=HQ2.out;omega,Nat.le_refl _⟩,ze HE.out,ze hO5,ze ((hk5 ga hlga HNE.out).trans HG3.out),ze (HW3.out.trans hb5)⟩
       |false=>
        have HE:=ze (show M=L++zbq (ka,xa) B (j+1) by rw[HNX.out,HONE.out,hal];simp);clear hr hal hga3 hgz3;go_wp2_with fail
        go_roundg (nb-(j+1))
        case measure=>have:=HQ2.out;omega
        case rel=>exact⟨j+1,M,by go_num,ze ⟨by have:=HQ2.out;omega,Nat.le_refl _⟩,HE,HO3,HG3,HW3⟩
      ·obtain rfl:j=nb:=by omega
       have hneg:¬(j:Int)<(j:Int):=by omega
       have HE:=ze (show M=jX A B (k+1) by rw[HNEXT.out,HM.out,<-HNB.out]);clear hQ2;go_wp2_with fail
       go_roundg (na-(k+1))
       case measure=>have:=HQ.out;omega
       case rel=>exact⟨k+1,M,by go_num,ze ⟨by omega,Nat.le_refl _⟩,HE,HO,HW⟩
    ·obtain rfl:k=na:=by omega
     have hneg:¬(k:Int)<(k:Int):=by omega
     have HE:=ze (show L=jX A B A.length by rw[HLL.out,HNA.out])
     have HLB:=ze (show L.length<=2000000 by
      have h1:=HMU.out k;have h3:=HAL.out;have h5:k*nb<=1000*1000:=Nat.mul_le_mul h3.1 h3.2;rw[HLL.out];have:=HNB.out;rw[this]at h1
      omega)
     have HSO:=ze (zon _ L wr wc.heap.size HW.out.size HO.out (by have:=HLB.out;omega));clear hQ
     go_wp2_with (go_at_call 164;refine HSO.out.mono ?_;rintro e w5 ⟨rfl,hO5,hb5⟩)
     go_ret;rw[<-HNA.out]at *;rw[<-HE.out];exact⟨_,rfl,zbV hO5 HB3.out.size,HB3.out.trans ((HW.out.trans hb5).mono HB3.out.size)⟩
end
open Go.RowKit
def joinAll(st:List Int × List Int)(ms:List MtS):List Int × List Int:=ms.foldl (fun s m=>xN s m.1 m.2.1) st
theorem zle(ms:List MtS):∀st:List Int × List Int,(joinAll st ms).1.length=st.1.length/\(joinAll st ms).2.length=st.2.length:=by
 induction ms with
 |nil=>exact fun st=>⟨rfl,rfl⟩
 |cons m ms ih=>
  intro st;have h1:=ih (xN st m.1 m.2.1);have h2:=ziL st m.1 m.2.1;exact⟨h1.1.trans h2.1,h1.2.trans h2.2⟩
theorem zjw(ms:List MtS)(st:List Int × List Int){k:Nat}{m:MtS}(h:ms[k]? =some m):joinAll st (ms.take (k+1))=xN (joinAll st (ms.take k)) m.1 m.2.1:=by
 rw[List.take_add_one,h,joinAll,List.foldl_append]
 rfl
def qW(l m:List zg)(st:List Int × List Int):List MtS:=
 (zP (ltOf zgq) (jX (yu l st.1 l.length) (yu m st.2 m.length) (yu l st.1 l.length).length).toArray).toList
theorem zfn{A B:List TxS}{k:Nat}{x:MtS}(h:x∈jX A B k):∃a b,a∈A/\b∈B/\zbA a.2 b.2=true/\x=(a.1,b.1,ratioL a.2 b.2):=by
 obtain⟨a,ha,h⟩:=List.mem_flatMap.1 h;obtain⟨b,hb,he⟩:=List.mem_filterMap.1 h;unfold zik at he
 split at he
 ·rename_i hal
  cases he;exact⟨a,b,List.mem_of_mem_take ha,List.mem_of_mem_take hb,hal,rfl⟩
 ·cases he
theorem zbe{l m:List zg}{st:List Int × List Int}{x:MtS}:x∈qW l m st ↔ x∈jX (yu l st.1 l.length) (yu m st.2 m.length) (yu l st.1 l.length).length:=by
 unfold qW;rw[(zeS _ _).mem_iff]
theorem zfO{l m:List zg}{st:List Int × List Int}{x:MtS}(h:x∈qW l m st):x.1<l.length/\x.2.1<m.length:=by
 obtain⟨a,b,ha,hb,_,rfl⟩:=zfn (zbe.1 h);obtain⟨_,_,_,_,h1⟩:=jS ha;obtain⟨_,_,_,_,h2⟩:=jS hb;exact⟨h1,h2⟩
section
theorem zgT(w0:World)(vb vs:Value)(gp gt gf:Nat)(ts fs:List Int)(l m:List zg)(w:World)(h:xX w0 vb vs gp gt gf ts fs w)(hb:yM w0 vb l)(hs:yM w0 vs m)
  (hl:ts.length=l.length) (hm:fs.length=m.length) (fl:few l) (fm:few m):
  Calls Tryz.prog 118 #[.pointer (some ⟨gp,0,none⟩)] w fun e w'=>e= .returned (.tuple #[])/\
   xX w0 vb vs gp gt gf (joinAll (ts,fs) (qW l m (ts,fs))).1 (joinAll (ts,fs) (qW l m (ts,fs))).2 w':=by
 have HM:=ze (zjT w0 vb vs gp gt gf ts fs l m w h hb hs hl hm fl fm)
 have hin:=fun x=> @zfO l m (ts,fs) x
 have hms:qW l m (ts,fs)=(zP (ltOf zgq) (jX (yu l ts l.length) (yu m fs m.length) (yu l ts l.length).length).toArray).toList:=rfl;rw[<-hms]at HM;obtain⟨Ms,hMs⟩:∃M,qW l m (ts,fs)=M:=⟨_,rfl⟩;rw[hMs]at HM hin ⊢;have HIN:=ze (show ∀x∈Ms,x.1<ts.length/\x.2.1<fs.length by rw[hl,hm];exact hin);have HLE:=ze (show ts.length<=1000000/\fs.length<=1000000 by rw[hl,hm];have:=fl.1;have:=fm.1;omega)
 have hml:Ms.length<=1000000:=by
  rw[<-hMs,hms,Array.length_toList,xf,List.size_toArray];have h1:=zdy (yu l ts l.length) (yu m fs m.length) (yu l ts l.length).length;have h2:=zcn l ts l.length;have h3:=zcn m fs m.length;have h4:=Nat.mul_le_mul (Nat.le_trans h2 fl.1) (Nat.le_trans h3 fm.1);omega
 have HML:=ze hml;have HP:=ze h;clear h hb hs hl hm fl fm hin hms hMs hml
 go_enter Tryz.func118,Tryz.ntmps118
 go_wp2_with fail;refine HM.out.mono ?_;rintro e w1 ⟨v,rfl,ho,hb1⟩;obtain⟨no,nc,rfl⟩:=zl ho;have HSM:=ze (zbf.sl ho)
 have HP1:=ze (show xX w0 vb vs gp gt gf ts fs w1 from
  ⟨(hb1.block _ (lt_of_block HP.out.cell)).trans HP.out.cell,(hb1.block _ (lt_of_block HP.out.rowT)).trans HP.out.rowT,(hb1.block _ (lt_of_block HP.out.rowF)).trans HP.out.rowF,HP.out.hp,HP.out.ht,HP.out.hf,HP.out.ptf,HP.out.ppt,HP.out.ppf,HP.out.below.trans (hb1.mono HP.out.below.size)⟩)
 have HGT:=ze (show ∀q,(Value.slice no Ms.length nc).ownBlock=some q->q≠gt/\q≠gf from fun q hq=>by
  have h1:=(World.ownsRow.lt ho q hq).1;have h2:=lt_of_block HP.out.rowT;have h3:=lt_of_block HP.out.rowF
  omega)
 have HOM:=ze ho;clear ho hb1 HP HM;go_wp2_with fail
 go_loopg [7] Ms.length (fun g i wr=>∃k:Nat,i= .int .i64 (k:Int)/\Hid (k<=Ms.length/\Ms.length-k<=g)/\
  Hid (xX w0 vb vs gp gt gf (joinAll (ts,fs) (Ms.take k)).1 (joinAll (ts,fs) (Ms.take k)).2 wr)/\Hid (yH (fun q=>q=gt∨q=gf) w1 wr))
 case atStart=>exact⟨0,rfl,ze ⟨Nat.zero_le _,Nat.le_refl _⟩,HP1,ze (yH.refl _ _)⟩
 case round=>
  obtain⟨k,rfl,HQ,HP,HK⟩:=hrel;have hQ:=HQ.out;have k0:(0:Int)<=(k:Int):=Int.natCast_nonneg _
  by_cases hlt:k<Ms.length
  ·have k1:(k:Int)<(Ms.length:Int):=by omega
   have kw:IntKind.i64.wrap ((k:Int)+1)=(k:Int)+1:=IntWalk.i64_in _ (by have:=HML.out;omega);have HSL:=HOM.out;obtain⟨b,o,p,q,r,rfl,he,c1,c2,c3⟩:=zqO.at HSM.out hlt
   have hbo:b≠gt/\b≠gf:=HGT.out b (by
    rcases HSL.2 with⟨e,_⟩ |⟨g,cap,cur,e,_⟩
    ·cases e
    ·rfl)
   have old:∀ {j:Nat} {u:Value},w1.cell? ⟨b,j,none⟩=some u->wr.cell? ⟨b,j,none⟩=some u:=fun {j u} hp=>(World.cell?_of_block (w:=w1) (HK.out.block b (World.block_lt_of_cell? _ _ hp) (fun e=>by rcases e with e |e;exact hbo.1 e;exact hbo.2 e))).trans hp
   have f1:=old c1;have f2:=old c2;have f3:=old c3;have hpq:=HIN.out _ (List.mem_of_getElem? he);have hjl:=zle (Ms.take k) (ts,fs);have HNX:=ze (zjw Ms (ts,fs) he)
   have HJ:=ze (fun(wx:World) (hx:xX w0 vb vs gp gt gf (joinAll (ts,fs) (Ms.take k)).1 (joinAll (ts,fs) (Ms.take k)).2 wx)=>
    ziz w0 vb vs gp gt gf _ _ p q wx hx (by rw[hjl.1];exact hpq.1) (by rw[hjl.2];exact hpq.2) (by rw[hjl.1];exact HLE.out.1) (by rw[hjl.2];exact HLE.out.2))
   have HA:=ze (show xX w0 vb vs gp gt gf (joinAll (ts,fs) (Ms.take k)).1 (joinAll (ts,fs) (Ms.take k)).2 (wr.alloc (.cells #[.int .i64 (p:Nat),.int .i64 (q:Nat),.int .i64 (r:Nat)] 195))from
    ⟨(Below.heap_alloc _ _ _ (lt_of_block HP.out.cell)).trans HP.out.cell,(Below.heap_alloc _ _ _ (lt_of_block HP.out.rowT)).trans HP.out.rowT,(Below.heap_alloc _ _ _ (lt_of_block HP.out.rowF)).trans HP.out.rowF,HP.out.hp,HP.out.ht,HP.out.hf,HP.out.ptf,HP.out.ppt,HP.out.ppf,HP.out.below.alloc HP.out.below.size _⟩)
   have HKA:=ze (HK.out.alloc (.cells #[.int .i64 (p:Nat),.int .i64 (q:Nat),.int .i64 (r:Nat)] 195));have HJA:=ze (HJ.out _ HA.out);clear old c1 c2 c3 he hpq hjl hbo HSL HJ
   go_wp2_with (go_at_call 141;refine HJA.out.mono ?_;rintro e w2 ⟨rfl,hP2,hK2⟩)
   go_roundg (Ms.length-(k+1))
   case measure=>omega
   case rel=>exact⟨k+1,by go_num,ze ⟨by omega,Nat.le_refl _⟩,ze (by rw[HNX.out];exact hP2),ze (HKA.out.trans hK2)⟩
  ·obtain rfl:k=Ms.length:=by omega
   have hneg:¬(Ms.length:Int)<(Ms.length:Int):=by omega
   have HE:=HP.out;rw[List.take_length]at HE;have HE2:=ze HE;clear HE hQ;go_wp2_with fail
   go_end0
   exact⟨rfl,HE2.out⟩
end
open Go.RowKit
abbrev TwS:=zQ × Nat
def cntT(l:List zg)(t:zQ):Nat:=(l.filter fun f=>f.2.2==t).length
theorem zfQ(l:List zg)(f:zg)(t:zQ):cntT (l++[f]) t=cntT l t+if f.2.2=t then 1 else 0:=by
 unfold cntT;rw[List.filter_append,List.length_append]
 congr 1
 by_cases h:f.2.2=t
 ·simp[h]
 ·simp[h]
theorem znE(l:List zg)(t:zQ):cntT l t<=l.length:=List.length_filter_le _ _
def zZ(l:List zg)(i:Nat):TwS:=((l.getD i zM).2.2,cntT (l.take i) (l.getD i zM).2.2)
def zbG(l:List zg)(k:Nat):List TwS:=(List.range k).map (zZ l)
theorem ziy(l:List zg)(k:Nat):zbG l (k+1)=zbG l k++[zZ l k]:=by rw[zbG,List.range_succ,List.map_append];rfl
theorem qy(l:List zg)(k:Nat):(zbG l k).length=k:=by simp[zbG]
theorem zdB{l:List zg}{k i:Nat}(h:i<k):(zbG l k)[i]? =some (zZ l i):=by simp[zbG,h]
def zjg:Enc TwS:=⟨2,by omega,fun f=>[zq f.1,.int .i64 (f.2:Nat)],fun _ =>rfl,fun f u hu=>by
 simp only[List.mem_cons,List.not_mem_nil,or_false]at hu
 rcases hu with rfl |rfl <;> rfl⟩
theorem Tryz.infoTw:(Tryz.prog.info? 190).map (fun i=>(i.zero,i.size,i.bytes))=some (some (.agg #[zq [],.int .i64 0]),2,24):=by kernel_rfl
abbrev zpX(w:World)(v:Value)(fs:List TwS):Prop:=zy zjg w v fs
abbrev zdK(w:World)(base:Nat)(v:Value)(fs:List TwS):Prop:=w.ownsRow base 190 2 v fs.length (zO zjg fs)
theorem zdK.sl{w:World}{base:Nat}{v:Value}{fs:List TwS}(h:zdK w base v fs):zpX w v fs:=zy.ofOwns (E:=zjg) h
theorem zpX.at{w:World}{ao:Option Addr}{n cap:Nat}{fs:List TwS}(h:zpX w (.slice ao n cap) fs){i:Nat}(hi:i<fs.length):
  ∃b o p q,ao=some ⟨b,o,none⟩/\fs[i]? =some (p,q)/\w.cell? ⟨b,o+i*2,none⟩=some (.string ⟨List.toArray p⟩)/\w.cell? ⟨b,o+i*2+1,none⟩=some (.int .i64 (q:Nat)):=by
 obtain⟨b,o,⟨p,q⟩,ha,hx,hc⟩:=zy.at' h hi;exact⟨b,o,p,q,ha,hx,hc 0 _ rfl,hc 1 _ rfl⟩
theorem zeW{w:World}{ops:Array Oper}{rest:List Oper}{o:Oper}{a:Act}{Q:Exit->Act->World->Prop}(hgd:o.guard=none)(s sx:Operand)
  (ho:o.op= .call {callee:= .builtin .append,args:= #[s,sx],argTypes:= #[187,187] })
  (base:Nat) (v:Value) (xs:List TwS) (x:TwS) (he:a.eval s=v) (hown:zdK w base v xs) (q:Nat) (hx:a.eval sx= .slice (some ⟨q,0,none⟩) 1 1) (hq:w.heap.size=q)
  (hlen:xs.length<=100000000) (hbase:base<=w.heap.size)
  (h:∀v' w',zdK w' base v' (xs++[x])->Below base w w'->(w.alloc (.cells #[.string ⟨x.1.toArray⟩,.int .i64 (x.2:Nat)] 190)).grownBy w' v.ownBlock->wpList Tryz.prog ops Q rest (a.put o.dst v') w'):wpList Tryz.prog ops Q (o::rest) a (w.alloc (.cells #[.string ⟨x.1.toArray⟩,.int .i64 (x.2:Nat)] 190)):=by
 obtain⟨i0,hi0,hi1,hi2,hi3⟩:=info_parts Tryz.infoTw;subst hq
 have hsrc:Src Tryz.prog 2 187 (.slice (some ⟨w.heap.size,0,none⟩) 1 1) 1 (zjg.enc x) (w.alloc (.cells #[.string ⟨x.1.toArray⟩,.int .i64 (x.2:Nat)] 190)):=by
  refine Src.ofSlice _ Tryz.underlying187 ⟨w.heap.size,0,none⟩ 1 1 (zjg.enc x) rfl (fun j u hu=>?_) (zjg.one x);rw[Addr.add_lit,Nat.zero_add];refine zd (heap_alloc_new w _) ?_;rw[List.getElem?_toArray];exact hu
 refine yd _ hgd s sx _ _ ho base 190 i0 _ 2 24 Tryz.underlying187 hi0 hi1 hi2 hi3 rfl (by omega) v _ _ he (hown.alloc _) _ 1 _ hx hsrc (by unfold maxLen;omega) (by omega) (by simp;omega) fun v' w' h2 h3 h4=>h v' w' ?_ ?_ h3
 ·unfold zdK
  rw[List.length_append,xA,zbR];exact h2
 ·exact((Below.refl base w).alloc hbase _).grown h3 (by simp;omega) (fun j hj=>(hown.lt j hj).1)
abbrev MW:=DataW Unit
theorem Tryz.zeroIntI(w:World):(zeroValue 3).run Tryz.prog w= .ok (.int .i64 0) w:=by kernel_rfl
abbrev zkr(w:World)(b n:Nat)(D:MW):Prop:=w.ownsMap Tryz.prog 9 (plainElem Tryz.prog 3) b n D
def zcU(D:MW)(l:List zg):Prop:=Maps.IsMap D/\∀t:zQ,D.atKey (.string t) (.lit (.int .i64 0))= .lit (.int .i64 (cntT l t:Nat))
theorem zcU.nil:zcU (.map []) []:=⟨Maps.isMap_empty,fun _ =>rfl⟩
theorem zcU.put{D:MW}{l:List zg}(h:zcU D l)(f:zg):zcU (D.put (.string f.2.2) (.lit (.int .i64 ((cntT l f.2.2+1:Nat):Int)))) (l++[f]):=by
 refine⟨h.1.put _ _,fun t=>?_⟩;rw[zfQ]
 by_cases e:f.2.2=t
 ·rw[if_pos e,<-e]
  exact Maps.atKey_put_same h.1 (show WideAt.IsKeyLit (.string f.2.2)from trivial) _ _
 ·rw[if_neg e,Maps.atKey_put_other (fun e'=>e (by cases e';rfl))]
  exact h.2 t
theorem zgB{t:zQ}(ht:t.length<=maxLen):keyOf Tryz.prog 9 (.string ⟨t.toArray⟩)=some (.string t):=by
 have hsz:(ByteArray.mk t.toArray).size<=maxLen:=by
  show t.toArray.size<=maxLen;simpa using ht
 simp[keyOf,Tryz.underlying9,mapKey,hsz]
theorem zdN{W:World}{base:Nat}{e:TypeId}{size:Nat}{v:Value}{k:Nat}{xs:List Value}(h:W.ownsRow base e size v k xs){j:Nat}{o:Obj}(hj:W.heap[j]? =some o)(hno:∀cur,o≠ .cells cur e (0,0)):
  v.ownBlock=none∨v.ownBlock≠some j:=ownsRow_ne_a h hj hno
section
theorem zhJ(v:Value)(l:List zg)(w:World)(hv:yM w v l)(hl:l.length<=1000000)(hf:∀f∈l,f.2.2.length<=1000000):
  Calls Tryz.prog 140 #[v] w fun e w'=>∃u,e= .returned u/\zdK w' w.heap.size u (zbG l l.length)/\Below w.heap.size w w':=by
 obtain⟨ao,cap,rfl⟩:=hv.form;have HV:=ze hv;have HL:=ze hl;have HF:=ze hf;clear hv hl hf;have hmm:= @run_makeMap Tryz.prog
 go_enter Tryz.func140,Tryz.ntmps140
 go_wp2_with fail;clear hmm;obtain⟨w1,hw1⟩:∃w1,w.alloc (.map #[] 0)=w1:=⟨_,rfl⟩
 have hm1:zkr w1 w.heap.size 0 (.map []):=by rw[<-hw1];exact World.ownsMap_made w _ _ _
 have hb1:Below w.heap.size w w1:=by rw[<-hw1];exact(Below.refl _ w).alloc (Nat.le_refl _) _
 rw[hw1];obtain⟨gm,hgm⟩:∃g,w.heap.size=g:=⟨_,rfl⟩;have HGM:=ze hgm;rw[hgm]at hm1 ⊢;have HM1:=ze hm1;have HB1:=ze hb1;clear hm1 hb1 hw1 hgm
 go_loopg [4,10] l.length (fun g s4 i wr=>∃ (k n:Nat) (D:MW) (T:List TwS),i= .int .i64 (k:Int)/\Hid (k<=l.length/\l.length-k<=g/\n<=k)/\Hid (T=zbG l k)/\Hid (zdK wr w.heap.size s4 T)/\Hid (zkr wr gm n D)/\Hid (zcU D (l.take k))/\Hid (Below w.heap.size w wr))
 case atStart=>exact⟨0,0,.map [],[],rfl,ze ⟨Nat.zero_le _,Nat.le_refl _,Nat.le_refl _⟩,ze rfl,ze (World.ownsRow_nil _ _ _ _),HM1,ze zcU.nil,HB1⟩
 case round=>
  clear HM1 HB1;obtain⟨k,n,D,T,rfl,HQ,HT,HO,HM,HC,HB⟩:=hrel;obtain⟨no,nc,rfl⟩:=zl HO.out;have hQ:=HQ.out;have k0:(0:Int)<=(k:Int):=Int.natCast_nonneg _
  by_cases hlt:k<l.length
  ·have k1:(k:Int)<(l.length:Int):=by omega
   have kw:IntKind.i64.wrap ((k:Int)+1)=(k:Int)+1:=IntWalk.i64_in _ (by have:=HL.out;omega);obtain⟨b,o,p,x,t,rfl,he,c1,c2,c3⟩:=yM.at (HV.out.old HB.out) hlt
   have htl:t.length<=maxLen:=by have:=HF.out (p,x,t) (List.mem_of_getElem? he);unfold maxLen;simp only at this;omega
   have hgd:l.getD k zM=(p,x,t):=by rw[List.getD_eq_getElem?_getD,he];rfl
   have htk:l.take (k+1)=l.take k++[(p,x,t)]:=by rw[List.take_add_one,he];rfl
   have hql:cntT (l.take k) t<=1000000:=by have:=znE (l.take k) t;rw[List.length_take]at this;have:=HL.out;omega
   obtain⟨q,hq⟩:∃q,cntT (l.take k) t=q:=⟨_,rfl⟩;have HTW:=ze (show T++[(t,q)]=zbG l (k+1) by rw[ziy,zZ,hgd,<-hq,HT.out]);have HC2:=ze (show zcU (D.put (.string t) (.lit (.int .i64 ((q+1:Nat):Int)))) (l.take (k+1)) by rw[htk,<-hq];exact HC.out.put (p,x,t));have HAT:=ze (show D.atKey (.string t) (.lit (.int .i64 0))= .lit (.int .i64 (q:Nat)) by rw[<-hq];exact HC.out.2 t);rw[hq]at hql;have HKEY:=ze (zgB htl);have HTL:=ze (show T.length=k by rw[HT.out];exact qy l k);obtain⟨wb,hwb⟩:∃wb,wr.alloc (.cells #[.string ⟨p.toArray⟩,.bool x,.string ⟨t.toArray⟩] 28)=wb:=⟨_,rfl⟩
   have hgb:wb.heap[wr.heap.size]? =some (.cells #[.string ⟨p.toArray⟩,.bool x,.string ⟨t.toArray⟩] 28 (0,0)):=by rw[<-hwb];exact heap_alloc_new wr _
   have HBB:=ze (show Below w.heap.size w wb by rw[<-hwb];exact HB.out.alloc HB.out.size _);have HOB:=ze (show zdK wb w.heap.size (.slice no T.length nc) T by rw[<-hwb];exact HO.out.alloc _);have HMB:=ze (show zkr wb gm n D by rw[<-hwb];exact HM.out.alloc _);obtain⟨gb,hgbn⟩:∃g,wr.heap.size=g:=⟨_,rfl⟩;rw[hgbn]at hgb;have q0:wb.cell? ⟨gb,2,none⟩=some (.string ⟨t.toArray⟩):=zd (i:=2) hgb rfl;have HGB:=ze hgb;have qw:IntKind.i64.wrap ((q:Int)+1)=((q+1:Nat):Int):=(IntWalk.i64_in _ (by omega)).trans (by omega);have HQL:=ze hql;have HZI:=ze Tryz.zeroIntI;clear he htl hgd htk hq hql hgb
   go_upto_region 6 with fail
   clear c1 c2 c3 hwb hgbn HO HM HC;have ql:=HQL.out
   go_upto_region 7 with(first
    |(at_lookup;refine wpList_lookup_own_int _ rfl (.tmp 17) (.tmp 19) 221 rfl 9 3 .i64 (Maps.string_keyed Tryz.underlying9) Tryz.underlying221 Tryz.underlying3 (HZI.out _) gm n D rfl HMB.out _ (.string t) rfl HKEY.out ?_;intro c hc _;obtain rfl:c=(q:Int):=by(have:=hc.symm.trans HAT.out;simpa using this))
    |(at_builtin;refine zeW (by rfl) (.tmp 14) (.tmp 22) rfl w.heap.size _ T (t,q) rfl HOB.out _ rfl rfl (by have:=HTL.out;have:=HQ.out;have:=HL.out;omega) HBB.out.size ?_;intro v5 w5 hO5 hb5 hg5))
   have hrow:∀ {W:World} {u:Value} {m:Nat} {xs:List Value},W.ownsRow w.heap.size 190 2 u m xs->zkr W gm n D->u.ownBlock≠some gm:=fun {W u m xs} h hm=>by
    obtain⟨es,clock,hbm,_⟩:=hm
    rcases zdN h hbm (fun cur e=>by cases e)with h1 |h1
    ·rw[h1]
     exact fun e=>by cases e
    ·exact h1
   have hngb:(Value.slice no T.length nc).ownBlock≠some gb:=by
    rcases zdN HOB.out HGB.out (fun cur e=>absurd (Obj.cells.inj e).2.1 (by decide))with h1 |h1
    ·rw[h1]
     exact fun e=>by cases e
    ·exact h1
   have hgb5:=(hg5.block gb (by have:=lt_of_block HGB.out;simp;omega) (fun e=>hngb e.symm)).trans ((Below.heap_alloc _ _ _ (lt_of_block HGB.out)).trans HGB.out);have r0:w5.cell? ⟨gb,2,none⟩=some (.string ⟨t.toArray⟩):=zd (i:=2) hgb5 rfl;have HM5:=ze (show zkr w5 gm n D from World.ownsMap.kept (HMB.out.alloc _) hg5 (fun e=>hrow HOB.out HMB.out e.symm));have HO5:=ze hO5;have HB5:=ze (HBB.out.trans hb5);have HROW:=ze (hrow HO5.out HM5.out);have HNM:=ze (show n<maxLen by have:=HQ.out;have:=HL.out;unfold maxLen;omega);have HWF:=ze (show(Lit.int .i64 ((q+1:Nat):Int)).wf=true by have:=HQL.out;simp[Lit.wf,IntKind.min,IntKind.max,IntKind.signed,IntKind.bits];omega);clear hrow hngb hgb5 hg5 hO5 hb5 q0 ql HOB HMB HGB
   go_wp2_with (first
    |(at_lookup;refine wpList_lookup_own_int _ rfl (.tmp 24) (.tmp 26) 221 rfl 9 3 .i64 (Maps.string_keyed Tryz.underlying9) Tryz.underlying221 Tryz.underlying3 (HZI.out _) gm n D rfl HM5.out _ (.string t) rfl HKEY.out ?_;intro c hc _;obtain rfl:c=(q:Int):=by(have:=hc.symm.trans HAT.out;simpa using this))
    |(at_mapUpdate;refine wpList_mapUpdate_own _ rfl (.tmp 24) (.tmp 26) (.tmp 28) 221 rfl 9 3 (Maps.string_keyed Tryz.underlying9) Tryz.underlying221 _ gm n D rfl HM5.out HNM.out _ _ (.string t) rfl rfl HKEY.out (.lit (.int .i64 ((q+1:Nat):Int))) [] (plainElem_int Tryz.underlying3 HWF.out) ?_;intro w6 hown6 hg6;have HM6:=ze hown6;have HG6:=ze hg6;clear hown6 hg6))
   go_roundg (l.length-(k+1))
   case measure=>omega
   case rel=>exact⟨k+1,n+1,_,_,by go_num,ze ⟨by omega,Nat.le_refl _,by omega⟩,HTW,ze (HO5.out.kept HG6.out (.inr HROW.out)),HM6,HC2,ze (HB5.out.grown HG6.out HB5.out.size (fun j hj=>by cases hj;exact Nat.le_of_eq HGM.out))⟩
  ·obtain rfl:k=l.length:=by omega
   have hneg:¬(l.length:Int)<(l.length:Int):=by omega
   clear hQ;go_wp2_with fail;go_ret;rw[<-HT.out];exact⟨_,rfl,HO.out,HB.out⟩
end
end Go.Proofs.YtbnafihigoekeaaGreatDoor

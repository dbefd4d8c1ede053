/-
  TmTl, part 21.
-/
import Derived.Test.YtbnafihigoekeaaGreatDoorZt20
import Derived.Test.YtbnafihigoekeaaGreatDoorZt19
set_option maxRecDepth 100000
set_option maxHeartbeats 4000000
namespace Go.Proofs.YtbnafihigoekeaaGreatDoor
open Go.RowKit
theorem zdJ{x:Tx}(a:Tx)(h:x≠ []):yA (a++x)=a++yA x:=by
 rcases List.eq_nil_or_concat x with rfl |⟨y,c,rfl⟩
 ·exact absurd rfl h
 ·rw[List.concat_eq_append]
  unfold yA;rw[<-List.append_assoc,List.getLast?_concat,List.getLast?_concat]
  by_cases hc:c=10
  ·rw[if_pos (.inr (by rw[hc])),if_pos (.inr (by rw[hc]))]
   simp
  ·rw[if_neg (by simp[hc]),if_neg (by simp[hc])]
   simp
theorem zdk(a y:Tx){m:Tx}(h:m.getLast? =some 10):yA (a++m++y)=a++m++yA y:=by
 by_cases hy:y=[]
 ·subst hy
  rw[List.append_nil,show yA ([]:Tx)=[]from rfl,List.append_nil]
  rcases List.eq_nil_or_concat m with rfl |⟨z,c,rfl⟩
  ·cases h
  ·rw[List.concat_eq_append,List.getLast?_concat]at h
   unfold yA;rw[List.concat_eq_append,<-List.append_assoc,List.getLast?_concat,if_pos (.inr h)]
 ·exact zdJ _ hy
theorem kT{T:List Tx}(h:∀x∈T,x≠ []):T.length<=T.flatten.length:=by
 induction T with
 |nil=>simp
 |cons x T ih=>
  have h1:=ih fun y hy=>h y (List.mem_cons_of_mem _ hy)
  have h2:0<x.length:=List.length_pos_iff.2 (h x (by simp));rw[List.flatten_cons,List.length_append,List.length_cons];omega
theorem zaM{T:List Tx}(h:∀x∈T,x≠ [])(m:Tx):(zH T m).flatten=yA T.flatten++m:=by
 unfold zH
 rcases List.eq_nil_or_concat T with rfl |⟨L,x,rfl⟩
 ·simp[yA]
 ·rw[List.concat_eq_append]at h ⊢
  have hx:=h x (by simp);rw[List.getLast?_concat,List.dropLast_concat,List.flatten_append,List.flatten_append,List.flatten_append];simp only[List.flatten_singleton];rw[zdJ _ hx,zjC hx]
theorem zhW{x:Tx}(h:x≠ []):xF x≠ []:=by
 unfold xF
 split
 ·exact h
 ·simp
theorem zad{T:List Tx}{m:Tx}(h:∀x∈T,x≠ [])(hm:m≠ []):∀x∈zH T m,x≠ []:=by
 unfold zH
 rcases List.eq_nil_or_concat T with rfl |⟨L,y,rfl⟩
 ·intro x hx
  simp at hx;rw[hx];exact hm
 ·rw[List.concat_eq_append]at h ⊢
  rw[List.getLast?_concat,List.dropLast_concat];intro x hx;simp only[List.mem_append,List.mem_singleton]at hx
  rcases hx with(hx |hx) |hx
  ·exact h x (by simp[hx])
  ·rw[hx];exact zhW (h y (by simp))
  ·rw[hx];exact hm
theorem zdr{A B:List Tx}(ha:∀x∈A,x≠ [])(hb:∀x∈B,x≠ []):∀x∈A++B,x≠ []:=fun x hx=>(List.mem_append.1 hx).elim (ha x) (hb x)
theorem zmD{T:List Tx}{k:Int}{xb xo xt:List Tx}(h:∀x∈T,x≠ [])(hb:∀x∈xb,x≠ [])(ho:∀x∈xo,x≠ [])(ht:∀x∈xt,x≠ []):
  (zeQ T (k,xb,xo,xt)).flatten=yA T.flatten++mk0++yA xo.flatten++mk1++yA xb.flatten++mk2++yA xt.flatten++mk3/\∀x∈zeQ T (k,xb,xo,xt),x≠ []:=by
 have n0:mk0≠ []:=by decide
 have n1:mk1≠ []:=by decide
 have n2:mk2≠ []:=by decide
 have n3:mk3≠ []:=by decide
 have g1:=zdr (zad h n0) ho;have g2:=zdr (zad g1 n1) hb;have g3:=zdr (zad g2 n2) ht;unfold zeQ;refine⟨?_,zad g3 n3⟩;simp only;rw[zaM g3,List.flatten_append,zaM g2,List.flatten_append,zaM g1,List.flatten_append,zaM h];rw[zdk _ xo.flatten (show mk0.getLast? =some 10 from rfl),zdk _ xb.flatten (show mk1.getLast? =some 10 from rfl),zdk _ xt.flatten (show mk2.getLast? =some 10 from rfl)]
theorem zpq{b o t:Tx}:∀c∈yn (zn b) (zn o) (zn t),(∀x∈c.2.1,x≠ [])/\(∀x∈c.2.2.1,x≠ [])/\∀x∈c.2.2.2,x≠ []:=by
 obtain⟨h1,h2,h3,_⟩:=zaL (zn b) (zn o) (zn t);intro c hc;refine⟨fun x hx=>?_,fun x hx=>?_,fun x hx=>?_⟩
 ·exact zek b x (h1 ▸ List.mem_flatMap.2 ⟨c,hc,hx⟩)
 ·exact zek o x (h2 ▸ List.mem_flatMap.2 ⟨c,hc,hx⟩)
 ·exact zek t x (h3 ▸ List.mem_flatMap.2 ⟨c,hc,hx⟩)
section
theorem zeX(v:Value)(cs:List CkS)(w:World)(hv:SlC w v cs)(hl:cs.length<=4000000)(hm:(zG cs).length<=1000000000):
  Calls Tryz.prog 97 #[v] w fun e w'=>∃u,e= .returned u/\Sl w' u (zj (zG cs))/\Below w.heap.size w w':=by
 obtain⟨ao,cap,rfl⟩:=hv.form;have HV:=ze hv;have HMX:=ze hm;clear hv hm
 go_enter Tryz.func97,Tryz.ntmps97
 go_wp2_with fail
 go_loopg [3,8] cs.length (fun g out i wr=>∃ (k:Nat) (X:List Tx),k<=cs.length/\cs.length-k=g/\i= .int .i64 k/\Hid (X=zG (cs.take k))/\Hid (wr.ownsRow w.heap.size 9 1 out X.length (zj X))/\Below w.heap.size w wr)
 case atStart=>exact⟨0,[],Nat.zero_le _,rfl,rfl,ze rfl,ze (World.ownsRow_nil _ _ _ _),Below.refl _ _⟩
 case round=>
  obtain⟨k,X,hk,rfl,rfl,HX,HN,hbel⟩:=hrel;have hz:=hbel.size;have k0:(0:Int)<=(k:Int):=Int.natCast_nonneg _;obtain⟨no,nc,rfl⟩:=zl HN.out
  by_cases hlt:k<cs.length
  ·have k1:(k:Int)<(cs.length:Int):=by omega
   have kw:IntKind.i64.wrap ((k:Int)+1)=(k:Int)+1:=IntWalk.i64_in _ (by omega);obtain⟨b,o,z,xb,xo,xt,vb,vo,vt,rfl,c1,c2,c3,c4,s1,s2,s3,he⟩:=(HV.out.old hbel).at' (i:=k) hlt
   have hm:zG (cs.take (k+1))=X ++(if z=3 then xt else xo):=by
    rw[yz he,HX.out];simp[zG]
   have hle:(zG (cs.take (k+1))).length<=(zG cs).length:=by
    conv=>rhs;rw[<-List.take_append_drop (k+1) cs]
    rw[zcN,List.length_append];omega
   have hmx:=HMX.out;rw[hm,List.length_append]at hle;have S2:=ze s2;have S3:=ze s3;have HBA:=ze (fun o:Obj=>hbel.alloc hz o);obtain⟨_,_,rfl⟩:=s1.form;obtain⟨_,_,rfl⟩:=s2.form;obtain⟨_,_,rfl⟩:=s3.form;clear he s1 s2 s3
   by_cases h3:z=3
   ·subst h3
    rw[if_pos rfl]at hle;have HM:=ze (show X++xt=zG (cs.take (k+1)) by rw[hm,if_pos rfl]);have HLE:=ze (show X.length+xt.length<=4000000000 by omega);clear hm S2 hle hmx
    go_wp2_with (refine zC rfl (.tmp 15) (.tmp 17) rfl w.heap.size _ X xt rfl (World.ownsRow.alloc HN.out _) _ rfl (Sl.alloc S3.out _) HLE.out (by simp;omega) ?_;intro v5 w5 hO5 hb5;have HO5:=ze hO5;have hb6:=(HBA.out _).trans hb5;clear hO5 hb5)
    go_wp2_with fail
    go_roundg (cs.length-(k+1))
    case measure=>omega
    case rel=>exact⟨k+1,X++xt,by omega,rfl,rfl,HM,HO5,hb6⟩
   ·have hb:(z==3)=false:=by simpa using h3
    rw[if_neg h3]at hle;have HM:=ze (show X++xo=zG (cs.take (k+1)) by rw[hm,if_neg h3]);have HLE:=ze (show X.length+xo.length<=4000000000 by omega);clear hm S3 h3 hle hmx
    go_wp2_with (refine zC rfl (.tmp 19) (.tmp 21) rfl w.heap.size _ X xo rfl (World.ownsRow.alloc HN.out _) _ rfl (Sl.alloc S2.out _) HLE.out (by simp;omega) ?_;intro v5 w5 hO5 hb5;have HO5:=ze hO5;have hb6:=(HBA.out _).trans hb5;clear hO5 hb5)
    go_wp2_with fail
    go_roundg (cs.length-(k+1))
    case measure=>omega
    case rel=>exact⟨k+1,X++xo,by omega,rfl,rfl,HM,HO5,hb6⟩
  ·obtain rfl:k=cs.length:=by omega
   have hneg:¬(cs.length:Int)<(cs.length:Int):=by omega
   have HM:=ze (show X=zG cs by rw[HX.out,List.take_length]);have HSL:=ze (Sl.ofOwns HN.out);go_wp2_with fail;go_ret;rw[<-HM.out];exact⟨_,rfl,HSL.out,hbel⟩
theorem zhB(tb tw tt:Tx)(w:World)(lb:tb.length<=3000)(lo:tw.length<=3000)(lt:tt.length<=3000):
  Calls Tryz.prog 75 #[zq tb,zq tw,zq tt] w fun e w'=>e= .returned (.tuple #[zq (jJ tb tw tt).1,.bool (jJ tb tw tt).2])/\Below w.heap.size w w':=by
 have n1:=yL tb;have n2:=yL tw;have n3:=yL tt;have HFL:=ze (zhp lb lo lt);have HNE:=ze (zpq (b:=tb) (o:=tw) (t:=tt));have HLN:=ze (zfU (b:=zn tb) (o:=zn tw) (t:=zn tt) (by omega) (by omega) (by omega));obtain⟨hfew,hcl,_⟩:=zgN (a:=zn tb) (b:=zn tw) (c:=zn tt) (by omega) (by omega) (by omega)
 have hM:jJ tb tw tt=if xI (yn (zn tb) (zn tw) (zn tt))then((zG (yn (zn tb) (zn tw) (zn tt))).flatten,true)else(yl [] (yn (zn tb) (zn tw) (zn tt)),false):=rfl
 have HSB:=ze (fun wx=>zcq tb wx (by omega));have HSO:=ze (fun wx=>zcq tw wx (by omega));have HST:=ze (fun wx=>zcq tt wx (by omega));obtain⟨Lb,hLb⟩:∃L,zn tb=L:=⟨_,rfl⟩;obtain⟨Lo,hLo⟩:∃L,zn tw=L:=⟨_,rfl⟩;obtain⟨Lt,hLt⟩:∃L,zn tt=L:=⟨_,rfl⟩;rw[hLb]at HSB hM HFL HNE HLN hfew hcl n1;rw[hLo]at HSO hM HFL HNE HLN hfew hcl n2;rw[hLt]at HST hM HFL HNE HLN hfew hcl n3;have HNN:=ze (show Lb.length<=3000/\Lo.length<=3000/\Lt.length<=3000 by omega);have HOF:=ze (fun(va vb vc:Value) (wx:World) (h1:Sl wx va (zj Lb)) (h2:Sl wx vb (zj Lo)) (h3:Sl wx vc (zj Lt))=>zrf va vb vc Lb Lo Lt wx h1 h2 h3 HNN.out.1 HNN.out.2.1 HNN.out.2.2);obtain⟨l,hl⟩:∃l,yn Lb Lo Lt=l:=⟨_,rfl⟩;rw[hl]at hM HFL HNE HLN hfew hcl HOF;have HML:=ze hM;have HFW:=ze hfew;have HCL:=ze hcl;clear hM hLb hLo hLt hl n1 n2 n3 lb lo lt hfew hcl HNN;obtain⟨R,hR⟩:∃R,jJ tb tw tt=R:=⟨_,rfl⟩;rw[hR]at HML ⊢;clear hR;unfold zq at HSB HSO HST ⊢
 go_enter Tryz.func75,Tryz.ntmps75
 go_wp2_with fail;refine(HSB.out w).mono ?_;rintro e x1 ⟨v1,rfl,o1,hb1⟩;obtain⟨p1,r1,rfl⟩:=zl o1;have S1:=ze (Sl.ofOwns o1);clear o1;go_wp2_with fail;refine(HSO.out x1).mono ?_;rintro e x2 ⟨v2,rfl,o2,hb2⟩;obtain⟨p2,r2,rfl⟩:=zl o2;have S1:=ze (Sl.old S1.out hb2);have S2:=ze (Sl.ofOwns o2);have hb2:=zi hb1 hb2 hb1.size;clear o2 hb1;go_wp2_with fail;refine(HST.out x2).mono ?_;rintro e x3 ⟨v3,rfl,o3,hb3⟩;obtain⟨p3,r3,rfl⟩:=zl o3;have S1:=ze (Sl.old S1.out hb3);have S2:=ze (Sl.old S2.out hb3);have S3:=ze (Sl.ofOwns o3);have hb3:=zi hb2 hb3 hb2.size;clear o3 hb2;go_wp2_with fail;refine(HOF.out _ _ _ x3 S1.out S2.out S3.out).mono ?_;rintro e x4 ⟨v4,rfl,o4,hb4⟩;obtain⟨p4,r4,rfl⟩:=o4.form;have S4:=ze o4;have hb4:=zi hb3 hb4 hb3.size;clear o4 hb3 S1 S2 S3 HOF HSB HSO HST;have HCLN:=ze (zmZ _ l x4 S4.out (by have:=HCL.out;omega));go_wp2_with fail;refine HCLN.out.mono ?_;rintro e x5 ⟨rfl,hb5⟩;have S5:=ze (S4.out.old hb5);have hb5:=zi hb4 hb5 hb4.size;clear HCLN S4 hb4
 by_cases hc:xI l=true
 ·have HR:=ze (show R=((zG l).flatten,true) by rw[HML.out,if_pos hc])
  rw[hc];have HMG:=ze (zeX _ l x5 S5.out (by have:=HCL.out;omega) (by have h1:=zaC (l:=l) (n:=3000) HLN.out;have h2:=HCL.out;omega));clear hc HML;go_wp2_with fail;refine HMG.out.mono ?_;rintro e x6 ⟨v6,rfl,o6,hb6⟩;obtain⟨p6,r6,rfl⟩:=o6.form;have hb6:=zi hb5 hb6 hb5.size;have HJ:=ze (zhC _ (zG l) x6 o6 (by have h1:=zgf HFL.out;have h2:=HCL.out;omega) (by have h1:=zaC (l:=l) (n:=3000) HLN.out;have h2:=HCL.out;omega));unfold zq at HJ;clear o6;go_wp2_with fail;refine HJ.out.mono ?_;rintro e x7 ⟨rfl,hb7⟩;go_wp2_with fail;refine bodyPost_ret (results_tmp2 rfl _ _ _) rfl ?_;exact⟨by rw[HR.out];rfl,zi hb6 hb7 hb6.size⟩
 ·have HR:=ze (show R=(yl [] l,false) by rw[HML.out,if_neg hc])
  rw[show xI l=false by simpa using hc];clear hc HML;have HB5:=ze hb5;clear hb5;go_wp2_with fail
  go_loopg [9,26] l.length (fun g o i wx=>∃ (k:Nat) (T:List Tx),k<=l.length/\l.length-k=g/\i= .int .i64 k/\Hid (wx.ownsRow x5.heap.size 9 1 o T.length (zj T))/\Hid (yl [] l=yl T.flatten (l.drop k))/\Hid (T.flatten.length<=k*10000)/\Hid (∀x∈T,x≠ [])/\Below x5.heap.size x5 wx)
  case atStart=>exact⟨0,[],Nat.zero_le _,rfl,rfl,ze (World.ownsRow_nil _ _ _ _),ze rfl,ze (Nat.zero_le _),ze (fun x hx=>by cases hx),Below.refl _ _⟩
  case round=>
   obtain⟨k,T,hk,rfl,rfl,HO,HM,HPL,HTN,hbx⟩:=hrel;obtain⟨ot,tc,rfl⟩:=zl HO.out;have hzx:=hbx.size;have k0:(0:Int)<=(k:Int):=Int.natCast_nonneg _;have hcl:=HCL.out
   by_cases hlt:k<l.length
   ·have k1:(k:Int)<(l.length:Int):=by omega
    have kw:IntKind.i64.wrap ((k:Int)+1)=(k:Int)+1:=IntWalk.i64_in _ (by omega);have hpl:=HPL.out;obtain⟨b,o,z,xb,xo,xt,vb,vo,vt,hao,c1,c2,c3,c4,s1,s2,s3,he⟩:=S5.out.at' (i:=k) hlt;subst hao
    have up:∀ {a:Addr} {v:Value},x5.cell? a=some v->wr.cell? a=some v:=fun {a v} hc=>(World.cell?_of_block (w:=x5) (hbx.block _ (World.block_lt_of_cell? x5 _ hc))).trans hc
    have c1:=up c1;have c2:=up c2;have c3:=up c3;have c4:=up c4
    have hd:l.drop k=(z,xb,xo,xt)::l.drop (k+1):=by
     obtain⟨q,e⟩:=List.getElem?_eq_some_iff.1 he;rw[List.drop_eq_getElem_cons q,e]
    have hfl:=HFW.out.at he;have hne:=HNE.out _ (List.mem_of_getElem? he);simp only at hne;have hfo:xo.flatten.length<=3000:=(HFL.out _ (List.mem_of_getElem? he)).2.1;have hfb:xb.flatten.length<=3000:=(HFL.out _ (List.mem_of_getElem? he)).1;have hft:xt.flatten.length<=3000:=(HFL.out _ (List.mem_of_getElem? he)).2.2;obtain⟨ab,cb,rfl⟩:=s1.form;obtain⟨ao,co,rfl⟩:=s2.form;obtain⟨ah,ch,rfl⟩:=s3.form;rw[zk]at c2 c3 c4 s1 s2 s3;have HBA:=ze (fun o:Obj=>hbx.alloc hzx o)
    by_cases h5:z=5
    ·subst h5
     obtain⟨hcf,hcn⟩:=zmD (k:=(5:Int)) HTN.out hne.1 hne.2.1 hne.2.2;have HRX:=ze (show yl [] l=yl (zeQ T (5,xb,xo,xt)).flatten (l.drop (k+1)) by rw[hcf,HM.out,hd,yl,if_pos rfl])
     have hlen:(zeQ T (5,xb,xo,xt)).flatten.length<=(k+1)*10000:=by
      have q0:mk0.length=13:=rfl;have q1:mk1.length=13:=rfl;have q2:mk2.length=8:=rfl;have q3:mk3.length=15:=rfl;have l0:=jT T.flatten;have l1:=jT xo.flatten;have l2:=jT xb.flatten;have l3:=jT xt.flatten;rw[hcf];simp only[List.length_append];omega
     have HLEN:=ze hlen;have HCN:=ze hcn;have tl:=kT HTN.out;have tb:=kT hne.1;have t1:=kT hne.2.1;have t2:=kT hne.2.2
     have HCF:=ze (zih x5.heap.size (.slice ot T.length tc) T 5 xb xo xt _ _ _ (wr.alloc (.cells #[.int .i64 5,.slice ab xb.length cb,.slice ao xo.length co,.slice ah xt.length ch] 104)) (HO.out.alloc _) (fun wy hy=>⟨Sl.old s1 ((HBA.out _).trans hy),Sl.old s2 ((HBA.out _).trans hy),Sl.old s3 ((HBA.out _).trans hy)⟩) (by omega)
      ⟨fun x hx=>by have:=kO hx;omega,fun x hx=>by have:=kO hx;omega,fun x hx=>by have:=kO hx;omega,fun x hx=>by have:=kO hx;omega⟩ (by simp;omega))
     rw[zk]at *;clear hcf hcn hlen tl tb t1 t2 hpl he hd hfl hne hfo hfb hft s1 s2 s3
     go_wp2_with (go_at_call 98;refine HCF.out.mono ?_;rintro e w6 ⟨u6,rfl,o6,hb6⟩;have HO6:=ze o6;have HB6:=ze ((HBA.out _).trans hb6);clear o6 hb6)
     go_roundg (l.length-(k+1))
     case measure=>omega
     case rel=>exact⟨k+1,_,by omega,rfl,by go_num,HO6.out,HRX,HLEN,HCN,HB6.out⟩
    ·have hne5:(z==5)=false:=by simpa using h5
     obtain⟨so,sc,hsl,ss⟩:=zpG (S5.out.old hbx) he
     have hone:zG [(z,xb,xo,xt)]=jK (z,xb,xo,xt):=by simp[zG,jK]
     have hof:(jK (z,xb,xo,xt)).flatten.length<=3000:=by
      unfold jK
      split
      ·exact hft
      ·exact hfo
     have hnn:∀x∈jK (z,xb,xo,xt),x≠ []:=by
      unfold jK
      split
      ·exact hne.2.2
      ·exact hne.2.1
     have hol:(jK (z,xb,xo,xt)).length<=3000:=Nat.le_trans (kT hnn) hof
     have HMG:=fun(o:Obj)=>zeX _ [(z,xb,xo,xt)] (wr.alloc o) (ss.old ((Below.refl _ wr).alloc (Nat.le_refl _) o)) (by simp) (by rw[hone];omega)
     rw[hone]at HMG;have HRX:=ze (show yl [] l=yl (T++jK (z,xb,xo,xt)).flatten (l.drop (k+1)) by rw[HM.out,hd,yl,if_neg h5,List.flatten_append]);have HNN:=ze (zdr HTN.out hnn);have tl:=kT HTN.out;obtain⟨M,hMM⟩:∃M,jK (z,xb,xo,xt)=M:=⟨_,rfl⟩;rw[hMM]at HMG HRX HNN hof hol;have HLN2:=ze (show(T++M).flatten.length<=(k+1)*10000 by rw[List.flatten_append,List.length_append];omega);have HTL:=ze (show T.length+M.length<=4000000000 by omega);have HMH:=ze HMG;clear HMG hMM hof hol hone he hd hfl s1 s2 s3 h5 hpl ss hfo hfb hft hnn tl hne
     go_wp2_with (first
      |(go_at_call 97;refine(HMH.out _).mono ?_;rintro e y1 ⟨u1,rfl,o1,hb1⟩
        obtain⟨uo,uc,rfl⟩:=o1.form;have HO1:=ze o1;have HT1:=ze (zD (HO.out.alloc _) fun g _ hg=>hb1.block g hg);have HB1:=ze (zi (HBA.out _) hb1 (HBA.out _).size)
        clear o1 hb1)
      |(at_builtin;refine zC rfl (.tmp 37) (.tmp 43) rfl x5.heap.size _ T M rfl HT1.out _ rfl HO1.out HTL.out HB1.out.size ?_;intro v6 w6 o6 hb6;have HO6:=ze o6;have HB6:=ze (HB1.out.trans hb6);clear o6 hb6))
     go_roundg (l.length-(k+1))
     case measure=>omega
     case rel=>exact⟨k+1,_,by omega,rfl,by go_num,HO6.out,HRX,HLN2,HNN,HB6.out⟩
   ·obtain rfl:k=l.length:=by omega
    have hneg:¬(l.length:Int)<(l.length:Int):=by omega
    have HP:=ze (show yl [] l=T.flatten by rw[HM.out,List.drop_length];rfl);have hpl:=HPL.out;have tl:=kT HTN.out;have HJ:=ze (zhC _ T wr (Sl.ofOwns HO.out) (by omega) (by omega));unfold zq at HJ;clear tl hpl
    go_wp2_with (go_at_call 96;with_reducible refine HJ.out.mono ?_;rintro e w6 ⟨rfl,hb6⟩)
    refine bodyPost_ret (results_tmp2 rfl _ _ _) rfl ?_;exact⟨by rw[HR.out,HP.out];rfl,zi HB5.out (zi hbx hb6 hzx) HB5.out.size⟩
end
end Go.Proofs.YtbnafihigoekeaaGreatDoor

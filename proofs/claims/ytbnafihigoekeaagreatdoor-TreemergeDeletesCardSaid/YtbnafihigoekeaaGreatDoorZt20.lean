/-
  TmTl, part 20.
-/
import Derived.Test.YtbnafihigoekeaaGreatDoorZt9
import Derived.Test.YtbnafihigoekeaaGreatDoorZt16
set_option maxRecDepth 100000
set_option maxHeartbeats 4000000
namespace Go.Proofs.YtbnafihigoekeaaGreatDoor
abbrev Tx:=List UInt8
def mk0:Tx:=[60,60,60,60,60,60,60,32,111,117,114,115,10]
def mk1:Tx:=[124,124,124,124,124,124,124,32,98,97,115,101,10]
def mk2:Tx:=[61,61,61,61,61,61,61,10]
def mk3:Tx:=[62,62,62,62,62,62,62,32,116,104,101,105,114,115,10]
def yA(s:Tx):Tx:=if s=[]∨s.getLast? =some 10 then s else s++[10]
def zgG(x:Tx):Int:=if x=mk0 then 0 else if x=mk1 then 1 else if x=mk2 then 2 else if x=mk3 then 3 else -1
def jK(c:Ck Tx):List Tx:=if c.1=3 then c.2.2.2 else c.2.2.1
def yl:Tx->List (Ck Tx)->Tx
 |out,[]=>out
 |out,c::r=>if c.1=5 then yl (yA out++mk0++yA c.2.2.1.flatten++mk1++yA c.2.1.flatten++mk2++yA c.2.2.2.flatten++mk3) r else yl (out ++(jK c).flatten) r
def jJ(b o t:Tx):Tx × Bool:=
 if xI (yn (zn b) (zn o) (zn t))then((zG (yn (zn b) (zn o) (zn t))).flatten,true)else(yl [] (yn (zn b) (zn o) (zn t)),false)
def zsF(s:Tx):Bool:=(zn s).all fun x=>decide (zgG (yA x)< 0)
def zsi(out:List (Ck Tx))(st:Int)(x:Tx):List (Ck Tx):=
 match out.getLast? with
 |some c=>out.dropLast++[(c.1,if st= -1∨st=1 then c.2.1++[x]else c.2.1,if st= -1∨st=0 then c.2.2.1++[x]else c.2.2.1,if st= -1∨st=2 then c.2.2.2++[x]else c.2.2.2)]
 |none=>out
def zsm(out:List (Ck Tx))(st:Int):Bool:=decide (st= -1)&&(match out.getLast? with |some c=>decide (c.1=5) |none=>true)
def zsf(out:List (Ck Tx))(st:Int)(x:Tx):Option (List (Ck Tx) × Int):=
 if 0<=zgG x then
  if zgG x≠st+1 then none
  else some (if zgG x=0 then out++[(5,[],[],[])]else out,if zgG x=3 then -1 else zgG x)
 else some (zsi (if zsm out st then out++[(1,[],[],[])]else out) st x,st)
def zsg:List (Ck Tx)->Int->List Tx->Option (List (Ck Tx) × Int)
 |out,st,[]=>some (out,st)
 |out,st,x::r=>match zsf out st x with
  |some (o,s)=>zsg o s r
  |none=>none
def zsA(s:Tx):Option (List (Ck Tx)):=match zsg [] (-1) (zn s)with
 |some (l,st)=>if st= -1 then some l else none
 |none=>none
def zsP(ours:Bool)(l:List (Ck Tx)):Tx:=l.flatMap fun c=>(if ours then c.2.2.1 else c.2.2.2).flatten
def zsH(l:List (Ck Tx)):Nat:=l.countP fun c=>decide (c.1=5)
def zjt(xs:List Tx):Prop:=∀x∈xs,zgG x<0
def znk(c:Ck Tx):List Tx:=if c.1=5 then mk0::c.2.2.1++mk1::c.2.1++mk2::c.2.2.2++[mk3]else jK c
def znu(c:Ck Tx):Prop:=zjt c.2.1/\zjt c.2.2.1/\zjt c.2.2.2
theorem znu.one{c:Ck Tx}(h:znu c):zjt (jK c):=by
 unfold jK
 split
 ·exact h.2.2
 ·exact h.2.1
def zsx(q:Bool)(c:Ck Tx):Tx:=if c.1=5 then(if q then c.2.2.1 else c.2.2.2).flatten else(jK c).flatten
def zhj(x:Tx):Prop:=∃y,(∀b∈y,b≠10)/\x=y++[10]
theorem zhj.lines{xs:List Tx}(h:∀x∈xs,zhj x):zn xs.flatten=xs:=by
 induction xs with
 |nil=>rfl
 |cons x xs ih=>
  obtain⟨y,hy,rfl⟩:=h x (List.mem_cons_self ..);rw[List.flatten_cons,List.append_assoc];show zn (y++10::xs.flatten)= _;rw[zfa y _ hy,ih fun z hz=>h z (List.mem_cons_of_mem _ hz)]
theorem zqM:zhj mk0/\zhj mk1/\zhj mk2/\zhj mk3:=by
 refine⟨⟨mk0.dropLast,?_,by decide⟩,⟨mk1.dropLast,?_,by decide⟩,⟨mk2.dropLast,?_,by decide⟩,⟨mk3.dropLast,?_,by decide⟩⟩<;> decide
def zjW(c:Ck Tx):Prop:=(∀x∈c.2.1,zhj x)/\(∀x∈c.2.2.1,zhj x)/\∀x∈c.2.2.2,zhj x
theorem zjW.one{c:Ck Tx}(h:zjW c):∀x∈jK c,zhj x:=by
 unfold jK
 split
 ·exact h.2.2
 ·exact h.2.1
theorem zjW.all{c:Ck Tx}(h:zjW c):∀x∈znk c,zhj x:=by
 intro x hx;unfold znk at hx
 split at hx
 ·simp only[List.cons_append,List.append_assoc,List.mem_cons,List.mem_append,List.not_mem_nil,or_false]at hx
  obtain⟨a0,a1,a2,a3⟩:=zqM
  rcases hx with rfl |hx |rfl |hx |rfl |hx |rfl
  ·exact a0
  ·exact h.2.1 x hx
  ·exact a1
  ·exact h.1 x hx
  ·exact a2
  ·exact h.2.2 x hx
  ·exact a3
 ·exact h.one x hx
open Go.RowKit
abbrev MT:=DataW Unit
def zkY(a b:Int):MT:= .agg [.lit (.int .u8 a),.lit (.int .u8 b)]
def zrV:Value->Option (MT × List MemPlace)
 | .agg cs=>match cs.toList with
  | [.int .u8 a,.int .u8 b]=>some (zkY a b,[])
  | _ =>none
 | _ =>none
def zpE(k:Int):Int × Int:=if k=0 then(0,1)else if k=1 then(1,2)else if k=2 then(2,3)else if k=3 then(3,0)else(0,0)
def zsO(k:Int):Value:= .agg #[.int .u8 (zpE k).1,.int .u8 (zpE k).2]
def zsG:MT:=(((((.map []:MT).put (.string mk0) (zkY 0 1)).put (.string mk1) (zkY 1 2)).put (.string mk2) (zkY 2 3)).put (.string mk3) (zkY 3 0))
section
variable{w:World}
end
section
def zei(s:Tx):Bool:=decide (s.getLast? =some 10)
def xF(s:Tx):Tx:=if zei s then s else s++[10]
theorem zpH(s:Tx)(w:World)(hlen:s.length<=4611686018427387904):Calls Tryz.prog 194 #[zq s,zq [10]] w fun e w'=>e= .returned (.bool (zei s))/\w=w':=by
 unfold zq
 rcases List.eq_nil_or_concat s with rfl |⟨t,c,rfl⟩
 ·clear hlen
  go_enter Tryz.func194,Tryz.ntmps194
  go_wp2_with fail;go_ret;exact⟨rfl,rfl⟩
 ·rw[List.concat_eq_append]at hlen ⊢
  have hsl:=zaE (P:=Tryz.prog) 9 Tryz.underlying9 (t++[c]) t.length (by simp);rw[List.drop_left]at hsl
  have hE:zei (t++[c])=(c==10):=by
   unfold zei;rw[List.getLast?_concat]
   by_cases h:c=10 <;> simp[h]
  have hl:(t++[c]).length=t.length+1:=by simp
  obtain⟨s,hs⟩:∃s,t++[c]=s:=⟨_,rfl⟩;rw[hs]at hsl hE hl hlen ⊢;obtain⟨m,hm⟩:∃m,s.length=m:=⟨_,rfl⟩;obtain⟨j,hj⟩:∃j,t.length=j:=⟨_,rfl⟩;rw[hj]at hsl hl
  have h1:(1:Int)<=(m:Int):=by omega
  have mw:IntKind.i64.wrap ((m:Int)-1)=(j:Int):=(IntWalk.i64_in _ (by omega)).trans (by omega);have mlen:s.length=m:=hm;have HE:=ze hE;clear hE hs hj hm hl hlen
  go_enter Tryz.func194,Tryz.ntmps194
  go_wp2_with fail;go_ret;exact⟨by rw[HE.out];rfl,rfl⟩
theorem zpv(s:Tx)(w:World)(hlen:s.length<=4611686018427387904):Calls Tryz.prog 175 #[zq s,zq [10]] w fun e w'=>e= .returned (.bool (zei s))/\w=w':=by
 have H:=ze (zpH s w hlen);unfold zq at H ⊢;clear hlen
 go_enter Tryz.func175,Tryz.ntmps175
 go_wp2_with fail;refine H.out.mono ?_;rintro e _ ⟨rfl,rfl⟩;go_wp2_with fail;go_ret;exact⟨rfl,rfl⟩
theorem zmA(s:Tx)(w:World)(hlen:s.length<=4611686018427387904):Calls Tryz.prog 155 #[zq s] w fun e w'=>e= .returned (zq (xF s))/\w=w':=by
 have H:=ze (zpv s w hlen);have hadd:=xm (P:=Tryz.prog) s [10] (by simp;omega);obtain⟨q,hq⟩:∃q,zei s=q:=⟨_,rfl⟩;unfold xF;rw[hq]at H ⊢;unfold zq at H ⊢;clear hlen hq
 go_enter Tryz.func155,Tryz.ntmps155
 go_wp2_with fail;refine H.out.mono ?_;rintro e _ ⟨rfl,rfl⟩
 cases q with
 |true=>
  go_wp2_with fail;go_ret;exact⟨rfl,rfl⟩
 |false=>
  go_wp2_with fail;go_ret;exact⟨rfl,rfl⟩
theorem zjC{s:Tx}(h:s≠ []):xF s=yA s:=by
 unfold xF yA zei
 by_cases hq:s.getLast? =some 10
 ·rw[if_pos (by simpa using hq),if_pos (.inr hq)]
 ·rw[if_neg (by simpa using hq),if_neg (by simp[h,hq])]
end
def tok(k:Nat):Tx:=if k=0 then mk0 else if k=1 then mk1 else if k=2 then mk2 else if k=3 then mk3 else [120,10]
def znK:Bool->Nat->List Nat->Bool × Nat
 |r,a,[]=>(r,a)
 |r,a,k::l=>if k=4 then znK r a l else znK (r&&decide (k=a)) ((k+1) % 4) l
def zsp(x:Tx):List (It Tx):=[.gap [] [] [],.line x]
open Go.RowKit
def zH(T:List Tx)(m:Tx):List Tx:=(match T.getLast? with |some x=>T.dropLast++[xF x] |none=>[])++[m]
theorem zmt{w:World}{base:Nat}{e:TypeId}{v:Value}{n:Nat}{xs:List Value}(h:w.ownsRow base e 1 v n xs){g cap:Nat}(hv:v= .slice (some ⟨g,0,none⟩) n cap)(j:Nat)(u:Value):
  (w.setCell ⟨g,j,none⟩ u).ownsRow base e 1 v n (xs.set j u):=by
 rcases h.2 with⟨e0,_⟩ |⟨g1,c1,cur,hv1,q0,q1,q2,q3,q4,q5⟩
 ·rw[hv]at e0;cases e0
 ·have:g1=g:=by rw[hv1]at hv;cases hv;rfl
  subst this;refine⟨by have:=h.1;simpa using this,.inr ⟨g1,c1,_,hv1,q0,zv q1,q2,q3,by simpa using q4,?_⟩⟩;rw[Array.toList_setIfInBounds,List.take_set,q5]
abbrev zfv(base bx:Nat):Nat->Prop:=fun k=>base<=k/\k≠bx
section
variable{w:World}
theorem zbU{ops:Array Oper}{rest:List Oper}{o:Oper}{a:Act}{Q:Exit->Act->World->Prop}(hgd:o.guard=none)(s sx:Operand)
  (ho:o.op= .call {callee:= .builtin .append,args:= #[s,sx],argTypes:= #[96,96] })
  (base:Nat) (v:Value) (xs ys:List (List UInt8)) (he:a.eval s=v) (hown:w.ownsRow base 9 1 v xs.length (zj xs)) (u:Value) (hx:a.eval sx=u) (hu:Sl w u (zj ys))
  (hlen:xs.length+ys.length<=8000000000000) (hbase:base<=w.heap.size)
  (h:∀v' w',w'.ownsRow base 9 1 v' (xs++ys).length (zj (xs++ys))->w.grownBy w' v.ownBlock->(v'.ownBlock=v.ownBlock∨v'.ownBlock=some w.heap.size)->wpList Tryz.prog ops Q rest (a.put o.dst v') w'):wpList Tryz.prog ops Q (o::rest) a w:=by
 obtain⟨i0,hi0,hi1,hi2,hi3⟩:=info_parts Tryz.infoStr;have hs:=hu.src (P:=Tryz.prog) Tryz.underlying96 (zgC _);rw[zk]at hs
 refine yd w hgd s sx _ _ ho base 9 i0 _ 1 16 Tryz.underlying96 hi0 hi1 hi2 hi3 rfl (by omega) v _ _ he hown u _ _ hx hs (by unfold maxLen;omega) (by omega) hbase fun v' w' h2 h3 h4=>h v' w' ?_ h3 h4
 rw[List.length_append,yW];exact h2
theorem zaY{ops:Array Oper}{o:Oper}{a:Act}{K:Act->World->Prop}{Q:Exit->Act->World->Prop}{E:Prop}(hgd:o.guard=none)(s sx:Operand)
  (ho:o.op= .call {callee:= .builtin .append,args:= #[s,sx],argTypes:= #[96,96] })
  (base:Nat) (v:Value) (xs ys:List (List UInt8)) (he:a.eval s=v) (hown:w.ownsRow base 9 1 v xs.length (zj xs)) (u:Value) (hx:a.eval sx=u) (hu:Sl w u (zj ys))
  (hlen:xs.length+ys.length<=8000000000000) (hbase:base<=w.heap.size)
  (h:∀v' w',w'.ownsRow base 9 1 v' (xs++ys).length (zj (xs++ys))->w.grownBy w' v.ownBlock->(v'.ownBlock=v.ownBlock∨v'.ownBlock=some w.heap.size)->K (a.put o.dst v') w'):
  if Region.wanted o (yielded ops a.tmps)=true then Oper.wp Tryz.prog o a w K Q else E:=by
 obtain⟨i0,hi0,hi1,hi2,hi3⟩:=info_parts Tryz.infoStr;have hs:=hu.src (P:=Tryz.prog) Tryz.underlying96 (zgC _);rw[zk]at hs
 refine jA w hgd s sx _ _ ho base 9 i0 _ 1 16 Tryz.underlying96 hi0 hi1 hi2 hi3 rfl (by omega) v _ _ he hown u _ _ hx hs (by unfold maxLen;omega) (by omega) hbase fun v' w' h2 h3 h4=>h v' w' ?_ h3 h4
 rw[List.length_append,yW];exact h2
end
section
theorem zhC(v:Value)(l:List Tx)(w:World)(hv:Sl w v (zj l))(hlen:l.flatten.length<=1099511627776)(hn:l.length<=1099511627776):
  Calls Tryz.prog 96 #[v] w fun e w'=>e= .returned (zq l.flatten)/\Below w.heap.size w w':=by
 have hc:=ze (zoD v l w hv hlen hn);clear hv hlen hn
 go_enter Tryz.func96,Tryz.ntmps96
 go_wp2_with fail;refine hc.out.mono ?_;rintro e w' ⟨rfl,hb⟩;unfold zq
 go_wp2
 go_ret;exact⟨rfl,hb⟩
theorem zkX(base bx:Nat)(v:Value)(T:List Tx)(m:Tx)(w:World)(ho:w.ownsRow base 9 1 v T.length (zj T))(hl:T.length<=1000000000)(hx:∀x∈T,x.length<=1099511627776)(hb:base<=w.heap.size)(hbx:bx<w.heap.size)(hne:v.ownBlock≠some bx):
  Calls Tryz.prog 128 #[v,zq m] w fun e w'=>∃u,e= .returned u/\w'.ownsRow base 9 1 u (zH T m).length (zj (zH T m))/\u.ownBlock≠some bx/\yH (zfv base bx) w w':=by
 have hlast:∀ (wx:World) (vx:Value) (xs:List Tx) (o:Obj),wx.ownsRow base 9 1 vx xs.length (zj xs)->yH (zfv base bx) w wx->w.heap.size<=wx.heap.size->vx.ownBlock≠some bx->∀ (u:Value) (w5:World),(wx.alloc o).grownBy w5 vx.ownBlock->(u.ownBlock=vx.ownBlock∨u.ownBlock=some (wx.alloc o).heap.size)->u.ownBlock≠some bx/\yH (zfv base bx) w w5:=fun wx vx xs o h1 h2 h3 h4 u w5 hg hd=>by
  refine⟨?_,(h2.alloc o).grown hg fun k _ e=>⟨(h1.lt k e).1,fun e'=>h4 (e' ▸ e)⟩⟩
  rcases hd with e |e
  ·rw[e];exact h4
  ·rw[e]
   intro e';have:=Option.some.inj e';simp at this;omega
 have HLS:=ze hlast;clear hlast
 rcases List.eq_nil_or_concat T with rfl |⟨T0,x,rfl⟩
 ·obtain⟨ao,cap,rfl⟩:=zl ho
  have HO:=ze ho;have HB:=ze (And.intro hb hbx);have HN:=ze hne;unfold zq;clear ho hl hx hb hbx hne
  go_enter Tryz.func128,Tryz.ntmps128
  go_wp2_with (at_builtin;refine zbU rfl (.tmp 20) (.tmp 22) rfl base _ [] [m] rfl (HO.out.alloc _) _ rfl (show Sl _ (.slice (some ⟨w.heap.size,0,none⟩) 1 1) (zj [m])from Sl.ofBlock (heap_alloc_new w _)) (by simp) (by have:=HB.out.1;simp;omega) ?_;intro v5 w5 o5 g5 d5;have HO5:=ze o5;have HG5:=ze g5;have HD5:=ze d5;clear o5 g5 d5)
  go_ret;exact⟨_,rfl,HO5.out,HLS.out w _ [] _ HO.out (yH.refl _ _) (Nat.le_refl _) HN.out _ _ HG5.out HD5.out⟩
 ·rw[List.concat_eq_append]at ho hl hx ⊢
  have hm:zH (T0++[x]) m=T0++[xF x]++[m]:=by unfold zH;rw[List.getLast?_concat,List.dropLast_concat]
  rw[hm];obtain⟨ao,cap,rfl⟩:=zl ho;rw[yW]at ho
  have hn:(T0++[x]).length=T0.length+1:=by simp
  rcases ho.2 with⟨e0,h0⟩ |⟨g,c1,cur,hv1,q0,q1,q2,q3,q4,q5⟩
  ·simp at h0
  obtain⟨rfl,_,rfl⟩:=Value.slice.inj hv1;have hc0:=ho.cells (g:=g) rfl T0.length (zq x) (by rw[List.getElem?_append_right (by simp[zj])];simp[zj]);rw[Addr.add_lit,Nat.zero_add]at hc0;have hfz:w.frozen? ⟨g,T0.length,none⟩=false:=zo q1;have HST:=ze (zmt ho rfl T0.length (zq (xF x)));have HEN:=ze (zmA x w (by have:=hx x (by simp);omega));have HK:=ze ((yH.refl (zfv base bx) w).setCell (p:=⟨g,T0.length,none⟩) ⟨q0,fun e=>hne (by rw[<-e];rfl)⟩ (zq (xF x)));have HB:=ze (And.intro hb hbx);have HN:=ze hne;obtain⟨y,hy⟩:∃y,xF x=y:=⟨_,rfl⟩;rw[hy]at HST HEN HK ⊢
  have HST:=ze (show(w.setCell ⟨g,T0.length,none⟩ (zq y)).ownsRow base 9 1 (.slice (some ⟨g,0,none⟩) (T0++[x]).length cap) (T0++[y]).length (zj (T0++[y])) by
   have h:=HST.out
   rw[show(zj T0++zj [x]).set T0.length (zq y)=zj (T0++[y]) by
    rw[List.set_append_right _ _ (by simp[zj])]
    simp[zj]]at h
   rw[show(T0++[y]).length=(T0++[x]).length by simp]
   exact h)
  obtain⟨n,hnn⟩:∃z,(T0++[x]).length=z:=⟨_,rfl⟩;obtain⟨j,hj⟩:∃z,T0.length=z:=⟨_,rfl⟩;rw[hnn]at hn hl HST HN ⊢;rw[hj]at hn hc0 hfz HST HK
  have n0:(0:Int)<(n:Int):=by omega
  have j0:(0:Int)<=(j:Int):=Int.natCast_nonneg _
  have jn:(j:Int)<(n:Int):=by omega
  have nw:IntKind.i64.wrap ((n:Int)-1)=(j:Int):=(IntWalk.i64_in _ (by omega)).trans (by omega);have HLL:=ze (show(T0++[y]).length<=1000000000 by simp;omega);have HSL:=ze (show Sl ((w.setCell ⟨g,j,none⟩ (zq y)).alloc (.cells #[zq m] 9)) (.slice (some ⟨w.heap.size,0,none⟩) 1 1) (zj [m])from Sl.ofBlock (cs:= #[zq m]) (t:=9) (fr:=(0,0)) (by have h:=heap_alloc_new (w.setCell ⟨g,j,none⟩ (zq y)) (.cells #[zq m] 9);simpa using h));unfold zq at hc0 HEN HST HK HSL ⊢;clear ho hl hx hb hbx hne hm hn hnn hj hy hv1 q0 q1 q2 q3 q4 q5
  go_enter Tryz.func128,Tryz.ntmps128
  go_wp2_with (first
   |(go_at_call 155;with_reducible refine HEN.out.mono ?_;rintro e _ ⟨rfl,rfl⟩)
   |(at_builtin;refine zbU rfl (.tmp 20) (.tmp 22) rfl base _ (T0++[y]) [m] rfl (HST.out.alloc _) _ rfl HSL.out (by have:=HLL.out;simp only[List.length_singleton];omega) (by have:=HB.out.1;simp;omega) ?_;intro v5 w5 o5 g5 d5;have HO5:=ze o5;have HG5:=ze g5;have HD5:=ze d5;clear o5 g5 d5))
  go_ret;exact⟨_,rfl,HO5.out,HLS.out _ _ (T0++[y]) _ HST.out HK.out HK.out.size HN.out _ _ HG5.out HD5.out⟩
def zsJ(q:Bool)(l:List CkS):List Tx:=l.flatMap fun c=>if q then c.2.2.1 else c.2.2.2
end
open Go.RowKit
def zeQ(T:List Tx)(c:CkS):List Tx:=zH (zH (zH (zH T mk0++c.2.2.1) mk1++c.2.1) mk2++c.2.2.2) mk3
theorem zde(T:List Tx)(m:Tx):(zH T m).length=T.length+1:=by
 unfold zH
 rcases List.eq_nil_or_concat T with rfl |⟨L,x,rfl⟩
 ·rfl
 ·rw[List.concat_eq_append,List.getLast?_concat,List.dropLast_concat];simp
theorem zhS(x:Tx):(xF x).length<=x.length+1:=by
 unfold xF
 split
 ·omega
 ·simp
theorem zcx{T:List Tx}{m:Tx}{n:Nat}(h:∀x∈T,x.length<=n)(hm:m.length<=n+1):∀x∈zH T m,x.length<=n+1:=by
 unfold zH
 rcases List.eq_nil_or_concat T with rfl |⟨L,y,rfl⟩
 ·intro x hx
  simp at hx;rw[hx];exact hm
 ·rw[List.concat_eq_append]at h ⊢
  rw[List.getLast?_concat,List.dropLast_concat];intro x hx;simp only[List.mem_append,List.mem_singleton]at hx
  rcases hx with(hx |hx) |hx
  ·have:=h x (by simp[hx]);omega
  ·rw[hx]
   have:=zhS y;have:=h y (by simp);omega
  ·rw[hx];exact hm
structure C9(w:World)(base:Nat)(k:Int)(vb vo vt:Value)(u:Value)(T:List Tx)(wx:World):Prop where
 own:wx.ownsRow base 9 1 u T.length (zj T)
 ne:u.ownBlock≠some w.heap.size
 keep:yH (zfv base w.heap.size) (w.alloc (.cells #[.int .i64 k,vb,vo,vt] 104)) wx
 at0:base<=w.heap.size
section
variable{w:World}{base:Nat}{k:Int}{vb vo vt u:Value}{T:List Tx}{wx:World}
theorem C9.size(h:C9 w base k vb vo vt u T wx):w.heap.size<wx.heap.size/\base<=wx.heap.size:=by
 have h1:=h.keep.size;have h2:=h.at0;rw[World.size_alloc]at h1;omega
theorem C9.blk(h:C9 w base k vb vo vt u T wx):wx.heap[w.heap.size]? =some (.cells #[.int .i64 k,vb,vo,vt] 104 (0,0)):=
 (h.keep.block w.heap.size (by simp) (fun e=>e.2 rfl)).trans (heap_alloc_new w _)
theorem C9.below(h:C9 w base k vb vo vt u T wx):Below base w wx:=
 (((Below.refl base w).alloc h.at0 _)).trans (h.keep.below (by have:=h.at0;simp;omega) (fun j hj e=>by have:=e.1;omega))
theorem C9.put{w2:World}{u2:Value}{T2:List Tx}(h:C9 w base k vb vo vt u T wx)(ho:w2.ownsRow base 9 1 u2 T2.length (zj T2))(hn:u2.ownBlock≠some w.heap.size)(hk:yH (zfv base w.heap.size) wx w2):C9 w base k vb vo vt u2 T2 w2:=⟨ho,hn,h.keep.trans hk,h.at0⟩
theorem C9.drew(h:C9 w base k vb vo vt u T wx):C9 w base k vb vo vt u T wx.drew:=⟨h.own,h.ne,h.keep.drew,h.at0⟩
theorem C9.grown{w2:World}{u2:Value}{T2:List Tx}(h:C9 w base k vb vo vt u T wx)(ho:w2.ownsRow base 9 1 u2 T2.length (zj T2))(hg:wx.grownBy w2 u.ownBlock)(hd:u2.ownBlock=u.ownBlock∨u2.ownBlock=some wx.heap.size):C9 w base k vb vo vt u2 T2 w2:=by
 refine h.put ho ?_ ((yH.refl _ _).grown hg fun j _ e=>⟨(h.own.lt j e).1,fun e'=>h.ne (e' ▸ e)⟩)
 rcases hd with e |e
 ·rw[e];exact h.ne
 ·rw[e]
  intro e';have:=Option.some.inj e';have:=h.size;omega
theorem C9.marked(h:C9 w base k vb vo vt u T wx)(m:Tx)(hl:T.length<=1000000000)(hx:∀x∈T,x.length<=1099511627776):
  Calls Tryz.prog 128 #[u,zq m] wx fun e w'=>∃u',e= .returned u'/\C9 w base k vb vo vt u' (zH T m) w':=
 (zkX base w.heap.size u T m wx h.own hl hx h.size.2 h.size.1 h.ne).mono fun _ _ ⟨u',e,h1,h2,h3⟩=>⟨u',e,h.put h1 h2 h3⟩
end
section
theorem zih(base:Nat)(v:Value)(T:List Tx)(k:Int)(xb xo xt:List Tx)(vb vo vt:Value)(w:World)(ho:w.ownsRow base 9 1 v T.length (zj T))
  (hS:∀wx,Below base w wx->Sl wx vb (zj xb)/\Sl wx vo (zj xo)/\Sl wx vt (zj xt))
  (hl:T.length<=900000000/\xb.length<=1000000/\xo.length<=1000000/\xt.length<=1000000) (hx:(∀x∈T,x.length<=1000000000)/\(∀x∈xb,x.length<=1000000000)/\(∀x∈xo,x.length<=1000000000)/\∀x∈xt,x.length<=1000000000) (hb:base<=w.heap.size):
  Calls Tryz.prog 98 #[v,.agg #[.int .i64 k,vb,vo,vt]] w fun e w'=>∃u,e= .returned u/\w'.ownsRow base 9 1 u (zeQ T (k,xb,xo,xt)).length (zj (zeQ T (k,xb,xo,xt)))/\Below base w w':=by
 have h0:C9 w base k vb vo vt v T (w.alloc (.cells #[.int .i64 k,vb,vo,vt] 104)):=⟨ho.alloc _,fun e=>by have:=(ho.lt _ e).2;omega,yH.refl _ _,hb⟩;have l0:mk0.length=13:=rfl;have l1:mk1.length=13:=rfl;have l2:mk2.length=8:=rfl;have e1:=zcx (m:=mk0) hx.1 (by omega);have n1:=zde T mk0
 have a1:∀x∈zH T mk0++xo,x.length<=1000000001:=fun x h=>by
  rcases List.mem_append.1 h with h |h
  ·exact e1 x h
  ·have:=hx.2.2.1 x h;omega
 have e2:=zcx (m:=mk1) a1 (by omega);have n2:=zde (zH T mk0++xo) mk1
 have a2:∀x∈zH (zH T mk0++xo) mk1++xb,x.length<=1000000002:=fun x h=>by
  rcases List.mem_append.1 h with h |h
  ·exact e2 x h
  ·have:=hx.2.1 x h;omega
 have e3:=zcx (m:=mk2) a2 (by omega);have n3:=zde (zH (zH T mk0++xo) mk1++xb) mk2
 have a3:∀x∈zH (zH (zH T mk0++xo) mk1++xb) mk2++xt,x.length<=1000000003:=fun x h=>by
  rcases List.mem_append.1 h with h |h
  ·exact e3 x h
  ·have:=hx.2.2.2 x h;omega
 rw[List.length_append]at n2 n3;have HL:=ze (show(zH T mk0).length<=900000001/\(zH (zH T mk0++xo) mk1).length<=901000003/\(zH (zH (zH T mk0++xo) mk1++xb) mk2).length<=902000004 by omega);have HC:=ze h0;have HS:=ze hS;have HM1:=ze (fun wx (h:C9 w base k vb vo vt v T wx)=>h.marked mk0 (by omega) (fun x hx'=>by have:=hx.1 x hx';omega));have HM2:=ze (fun u wx (h:C9 w base k vb vo vt u (zH T mk0++xo) wx)=>h.marked mk1 (by rw[List.length_append];omega) (fun x hx'=>by have:=a1 x hx';omega));have HM3:=ze (fun u wx (h:C9 w base k vb vo vt u (zH (zH T mk0++xo) mk1++xb) wx)=>h.marked mk2 (by rw[List.length_append];omega) (fun x hx'=>by have:=a2 x hx';omega));have HM4:=ze (fun u wx (h:C9 w base k vb vo vt u (zH (zH (zH T mk0++xo) mk1++xb) mk2++xt) wx)=>h.marked mk3 (by rw[List.length_append];omega) (fun x hx'=>by have:=a3 x hx';omega));have HLX:=ze hl.2;have HCT:=ze (show zeQ T (k,xb,xo,xt)=zH (zH (zH (zH T mk0++xo) mk1++xb) mk2++xt) mk3 from rfl);obtain⟨R,hR⟩:∃R,zeQ T (k,xb,xo,xt)=R:=⟨_,rfl⟩;rw[hR]at HCT ⊢;clear h0 l0 l1 l2 e1 e2 e3 n1 n2 n3 a1 a2 a3 hR ho hS hl hx hb;obtain⟨T1,hT1⟩:∃z,zH T mk0=z:=⟨_,rfl⟩;rw[hT1]at HL HM1 HM2 HM3 HM4 HCT;obtain⟨T2,hT2⟩:∃z,zH (T1++xo) mk1=z:=⟨_,rfl⟩;rw[hT2]at HL HM2 HM3 HM4 HCT;obtain⟨T3,hT3⟩:∃z,zH (T2++xb) mk2=z:=⟨_,rfl⟩;rw[hT3]at HL HM3 HM4 HCT;rw[<-HCT.out]at HM4;clear hT1 hT2 hT3;unfold zq mk0 at HM1;unfold zq mk1 at HM2;unfold zq mk2 at HM3;unfold zq mk3 at HM4;have c1:=zd (i:=1) HC.out.blk rfl;have c2:=zd (i:=2) HC.out.blk rfl;have c3:=zd (i:=3) HC.out.blk rfl
 go_enter Tryz.func98,Tryz.ntmps98
 go_upto_region 1 with fail
 go_cut [0]from 5 to 9 (fun v0 wx=>C9 w base k vb vo vt v0 (T1++xo) wx)
 case first=>
  go_region_law (first
   |(go_simp;go_at_call 128;refine(HM1.out _ HC.out.drew).mono ?_;rintro e w2 ⟨u2,rfl,hc2⟩;have q1:=zd (i:=1) hc2.blk rfl;have q2:=zd (i:=2) hc2.blk rfl;have q3:=zd (i:=3) hc2.blk rfl;have HC2:=ze hc2;clear hc2;go_simp)
   |(refine zaY rfl (.tmp 6) (.tmp 8) rfl base _ T1 xo rfl HC2.out.own _ rfl (HS.out _ HC2.out.below).2.1 (by have h1:=HL.out;have h2:=HLX.out;omega) HC2.out.size.2 ?_;intro u3 w3 o3 g3 d3;have HC3:=ze (HC2.out.grown o3 g3 d3);clear o3 g3 d3))
  all_goals(
   go_wp2_with fail
   go_meet
   exact HC3.out)
 case rest=>
  have HD1:=ze hcut;have c1:=zd (i:=1) hcut.blk rfl;have c2:=zd (i:=2) hcut.blk rfl;have c3:=zd (i:=3) hcut.blk rfl;clear hcut
  go_upto_region 2 with fail
  go_cut [0]from 10 to 14 (fun v0 wx=>C9 w base k vb vo vt v0 (T2++xb) wx)
  case first=>
   go_region_law (first
    |(go_simp;go_at_call 128;refine(HM2.out _ _ HD1.out.drew).mono ?_;rintro e w2 ⟨u2,rfl,hc2⟩;have q1:=zd (i:=1) hc2.blk rfl;have q2:=zd (i:=2) hc2.blk rfl;have q3:=zd (i:=3) hc2.blk rfl;have HC2:=ze hc2;clear hc2;go_simp)
    |(refine zaY rfl (.tmp 11) (.tmp 13) rfl base _ T2 xb rfl HC2.out.own _ rfl (HS.out _ HC2.out.below).1 (by have h1:=HL.out;have h2:=HLX.out;omega) HC2.out.size.2 ?_;intro u3 w3 o3 g3 d3;have HC3:=ze (HC2.out.grown o3 g3 d3);clear o3 g3 d3))
   all_goals(
    go_wp2_with fail
    go_meet
    exact HC3.out)
  case rest=>
   have HD2:=ze hcut;have c1:=zd (i:=1) hcut.blk rfl;have c2:=zd (i:=2) hcut.blk rfl;have c3:=zd (i:=3) hcut.blk rfl;clear hcut
   go_upto_region 3 with fail
   go_cut [0]from 15 to 19 (fun v0 wx=>C9 w base k vb vo vt v0 (T3++xt) wx)
   case first=>
    go_region_law (first
     |(go_simp;go_at_call 128;refine(HM3.out _ _ HD2.out.drew).mono ?_;rintro e w2 ⟨u2,rfl,hc2⟩;have q1:=zd (i:=1) hc2.blk rfl;have q2:=zd (i:=2) hc2.blk rfl;have q3:=zd (i:=3) hc2.blk rfl;have HC2:=ze hc2;clear hc2;go_simp)
     |(refine zaY rfl (.tmp 16) (.tmp 18) rfl base _ T3 xt rfl HC2.out.own _ rfl (HS.out _ HC2.out.below).2.2 (by have h1:=HL.out;have h2:=HLX.out;omega) HC2.out.size.2 ?_;intro u3 w3 o3 g3 d3;have HC3:=ze (HC2.out.grown o3 g3 d3);clear o3 g3 d3))
    all_goals(
     go_wp2_with fail
     go_meet
     exact HC3.out)
   case rest=>
    have HD3:=ze hcut;have c1:=zd (i:=1) hcut.blk rfl;have c2:=zd (i:=2) hcut.blk rfl;have c3:=zd (i:=3) hcut.blk rfl;clear hcut
    go_wp2_with (go_at_call 128;refine(HM4.out _ _ HD3.out).mono ?_;rintro e w4 ⟨u4,rfl,hc4⟩;have HC4:=ze hc4;clear hc4)
    go_ret;exact⟨_,rfl,HC4.out.own,HC4.out.below⟩
end
open Go.RowKit
section
theorem zba(s:List UInt8)(w:World)(hlen:s.length<=1099511627776):
  Calls Tryz.prog 61 #[zq s] w fun e w'=>∃v,e= .returned v/\w'.ownsRow w.heap.size 9 1 v (zn s).length (zj (zn s))/\Below w.heap.size w w':=by
 obtain⟨i0,hi0,hi1,hi2,hi3⟩:=info_parts Tryz.infoStr;unfold zq;have hsz:=ze (rfl:(⟨s.toArray⟩:ByteArray).size=s.length)
 go_enter Tryz.func61,Tryz.ntmps61
 go_wp2_with fail
 go_loopw [3,4,5] (fun l f i wr=>∃ (ds:List (List UInt8)) (p k:Nat),Hid (kP s ds p k)/\p<=k/\k<=s.length/\ds.length<=p/\f= .int .i64 (p:Nat)/\i= .int .i64 (k:Nat)/\wr.ownsRow w.heap.size 9 1 l ds.length (zj ds)/\Below w.heap.size w wr) (fun _ _ i _ =>s.length-(intOf i).toNat)
 case atStart=>exact⟨[],0,0,ze (kP.start s),Nat.le_refl _,Nat.zero_le _,Nat.le_refl _,rfl,rfl,World.ownsRow_nil _ _ _ _,Below.refl _ _⟩
 case round=>
  obtain⟨ds,p,k,HL,hpk,hk,hdp,rfl,rfl,hown,hbel⟩:=hrel;have hz:=hbel.size
  by_cases hlt:k<s.length
  ·obtain⟨b,hb⟩:∃b,s[k]? =some b:=⟨_,List.getElem?_eq_getElem hlt⟩
   have hix:=zaX (P:=Tryz.prog) 9 Tryz.underlying9 hb
   have k1:(k:Int)<(s.length:Int):=by omega
   obtain⟨e,he⟩:∃e,e=k+1:=⟨_,rfl⟩;have kw:IntKind.i64.wrap ((k:Int)+1)=(e:Int):=(IntWalk.i64_in _ (by omega)).trans (by omega)
   by_cases h10:b=10
   ·subst h10
    have hsl:=zfV (P:=Tryz.prog) 9 Tryz.underlying9 s p e (by omega) (by omega);have hbe:((UInt8.toNat 10:Nat):Int)=10:=rfl;rw[hbe]at hix;have HN:=ze (HL.out.line hb);rw[<-he]at HN;obtain⟨x,hx⟩:∃x,(s.drop p).take (e-p)=x:=⟨_,rfl⟩;rw[hx]at hsl HN
    have g3:ds.length+1<=maxLen:=by unfold maxLen;omega
    have g4:(ds.length+1)*16<=140737488355328:=by omega
    have HE:=ze he;obtain⟨al,cl,rfl⟩:=zl hown
    have hbase:w.heap.size<=(wr.alloc (.cells #[.string ⟨x.toArray⟩] 9)).heap.size:=by simp;omega
    clear hb hx he
    go_wp2_with (refine yd _ rfl (.tmp 16) (.tmp 22) _ _ rfl w.heap.size 9 i0 _ 1 16 Tryz.underlying96 hi0 hi1 hi2 hi3 rfl (by omega) (.slice al ds.length cl) _ _ rfl (hown.alloc _) _ 1 [.string ⟨x.toArray⟩] rfl (Src.ofSlice _ Tryz.underlying96 ⟨wr.heap.size,0,none⟩ 1 1 [.string ⟨x.toArray⟩] (by rfl) (World.news_of_block (cs:= #[.string ⟨x.toArray⟩]) (t:=9) (fr:=(0,0)) (heap_alloc_new wr _)) (by simp[Value.oneCell'])) g3 g4 hbase ?_;intro v5 w5 hown5 hgrow5 hat5)
    have hb5:Below w.heap.size w w5:=(hbel.alloc hz _).grown hgrow5 hbase (fun j hj=>(hown.lt j hj).1)
    have R:w5.ownsRow w.heap.size 9 1 v5 (ds++[x]).length (zj (ds++[x])):=by
     rw[yW,List.length_append];exact hown5
    have he:=HE.out;clear hown5 hgrow5 hat5 hown
    go_roundw
    case rel=>exact⟨ds++[x],e,e,HN,by omega,by omega,by simp;omega,rfl,rfl,R,hb5⟩
    case measure=>simp[intOf];omega
   ·have hbe:(((b.toNat:Nat):Int)==10)=false:=by
     simp;intro h;exact h10 (UInt8.toNat_inj.1 (by rw[show UInt8.toNat 10=10 from rfl];omega))
    have HN:=ze (HL.out.more hb h10);rw[<-he]at HN;have HE:=ze he;clear hb h10 he
    go_wp2
    go_roundw
    case rel=>exact⟨ds,p,e,HN,by have:=HE.out;omega,by have:=HE.out;omega,hdp,rfl,rfl,hown,hbel⟩
    case measure=>have:=HE.out;simp[intOf];omega
  ·obtain rfl:k=s.length:=by omega
   have HS:=ze HL.out.stop
   by_cases hps:p<s.length
   ·have hps':(p:Int)<(s.length:Int):=by omega
    have hsl:=zaE (P:=Tryz.prog) 9 Tryz.underlying9 s p (by omega);obtain⟨x,hx⟩:∃x,s.drop p=x:=⟨_,rfl⟩;have HS2:=ze (show zn s=ds++[x] by rw[HS.out,if_pos hps,hx]);rw[hx]at hsl
    have g3:ds.length+1<=maxLen:=by unfold maxLen;omega
    have g4:(ds.length+1)*16<=140737488355328:=by omega
    obtain⟨al,cl,rfl⟩:=zl hown
    have hbase:w.heap.size<=(wr.alloc (.cells #[.string ⟨x.toArray⟩] 9)).heap.size:=by simp;omega
    have hlt':¬(s.length:Int)<(s.length:Int):=by omega
    clear hx hlt hps
    go_wp2_with (refine yd _ rfl (.tmp 30) (.tmp 34) _ _ rfl w.heap.size 9 i0 _ 1 16 Tryz.underlying96 hi0 hi1 hi2 hi3 rfl (by omega) (.slice al ds.length cl) _ _ rfl (hown.alloc _) _ 1 [.string ⟨x.toArray⟩] rfl (Src.ofSlice _ Tryz.underlying96 ⟨wr.heap.size,0,none⟩ 1 1 [.string ⟨x.toArray⟩] (by rfl) (World.news_of_block (cs:= #[.string ⟨x.toArray⟩]) (t:=9) (fr:=(0,0)) (heap_alloc_new wr _)) (by simp[Value.oneCell'])) g3 g4 hbase ?_;intro v5 w5 hown5 hgrow5 hat5)
    have hb5:Below w.heap.size w w5:=(hbel.alloc hz _).grown hgrow5 hbase (fun j hj=>(hown.lt j hj).1);go_ret;refine⟨v5,rfl,?_,hb5⟩;rw[HS2.out,yW,List.length_append];exact hown5
   ·have hps':¬(p:Int)<(s.length:Int):=by omega
    have HS2:=ze (show zn s=ds by rw[HS.out,if_neg hps])
    have hlt':¬(s.length:Int)<(s.length:Int):=by omega
    clear hlt hps
    go_wp2
    go_ret;refine⟨_,rfl,?_,hbel⟩;rw[HS2.out];exact hown
theorem zbO(v:Value)(l:List (List UInt8))(w:World)(hv:Sl w v (zj l))(hlen:l.flatten.length<=9223372036854775807)(hn:l.length<=maxLen):
  Calls Tryz.prog 63 #[v] w fun e w'=>e= .returned (zq l.flatten)/\w=w':=by
 obtain⟨ao,cap,rfl⟩:=hv.form;rw[zk]at hv ⊢;unfold maxLen at hn
 go_enter Tryz.func63,Tryz.ntmps63
 go_wp2_with fail
 go_loop [3,4] (fun o i=>∃k:Nat,k<=l.length/\i= .int .i64 (k:Nat)/\o= .string ⟨(l.take k).flatten.toArray⟩) (fun _ i=>l.length-(intOf i).toNat)
 case atStart=>exact⟨0,Nat.zero_le _,rfl,by simp⟩
 case round=>
  obtain⟨k,hk,rfl,rfl⟩:=hrel
  by_cases hlt:k<l.length
  ·obtain⟨a,x,rfl,hc,hx⟩:=hv.strAt' (i:=k) hlt
   have k0:(0:Int)<=(k:Int):=Int.natCast_nonneg _
   have k1:(k:Int)<(l.length:Int):=by omega
   have kw:IntKind.i64.wrap ((k:Int)+1)=(k:Int)+1:=IntWalk.i64_in _ (by omega)
   have e1:(l.take (k+1)).flatten=(l.take k).flatten++x:=by rw[yz hx];simp
   have hle:(l.take (k+1)).flatten.length<=l.flatten.length:=by
    conv=>rhs;rw[<-List.take_append_drop (k+1) l]
    rw[List.flatten_append,List.length_append];omega
   obtain⟨o,ho⟩:∃o,(l.take k).flatten=o:=⟨_,rfl⟩;rw[ho]at e1 ⊢;have hadd:=xm (P:=Tryz.prog) o x (by rw[e1,List.length_append]at hle;omega);have HE:=ze e1;clear hx e1 hle ho hlen hn
   go_wp2
   go_round
   case rel=>exact⟨k+1,by omega,by go_num,by rw[HE.out]⟩
   case measure=>simp[intOf];omega
  ·obtain rfl:k=l.length:=by omega
   have hlt':¬(l.length:Int)<(l.length:Int):=by omega
   clear hlt hlen hn
   go_wp2
   go_ret;exact⟨rfl,rfl⟩
end
open Go.RowKit
def zsD(k:Nat):Tx:=if k=0 then mk0 else if k=1 then mk1 else if k=2 then mk2 else mk3
def zdZ:Array Value:= #[zq mk0,zq mk1,zq mk2,zq mk3]
theorem zoA{k:Nat}(h:k<4):zdZ[k]? =some (zq (zsD k)):=by
 rcases(show k=0∨k=1∨k=2∨k=3 by omega)with rfl |rfl |rfl |rfl <;> rfl
theorem Tryz.sizeMk:(Tryz.prog.info? 101).map (·.size)=some 4:=by kernel_rfl
section
theorem zlZ(w:World):Calls Tryz.prog 65 #[] w fun e w'=>e= .returned (.agg zdZ)/\Below w.heap.size w w':=by
 go_enter Tryz.func65,Tryz.ntmps65
 go_wp2_with fail;refine bodyPost_ret (results_cell_row rfl _ _ w.heap.size 101 zdZ (0,0) _ rfl (heap_alloc_new w _) Tryz.underlying101 rfl Tryz.sizeMk) rfl ?_;exact⟨rfl,(Below.refl _ w).alloc (Nat.le_refl _) _⟩
theorem zcm(s:Tx)(w:World)(hl:s.length<=4611686018427387904):Calls Tryz.prog 66 #[zq s] w fun e w'=>e= .returned (zq (yA s))/\w=w':=by
 unfold zq
 rcases List.eq_nil_or_concat s with rfl |⟨t,c,rfl⟩
 ·have he:yA ([]:Tx)=[]:=rfl
  rw[he]
  have h0:¬(0:Int)< 0:=by omega
  clear hl
  go_enter Tryz.func66,Tryz.ntmps66
  go_wp2_with fail;go_ret;exact⟨rfl,rfl⟩
 ·rw[List.concat_eq_append]at hl ⊢
  have hat:(t++[c])[t.length]? =some c:=by simp
  have hix:=zaX (P:=Tryz.prog) 9 Tryz.underlying9 hat;have hadd:=xm (P:=Tryz.prog) (t++[c]) [10] (by simp at hl ⊢;omega)
  have hE:yA (t++[c])=if c=10 then t++[c]else t++[c]++[10]:=by
   unfold yA;rw[List.getLast?_concat]
   by_cases h:c=10
   ·rw[if_pos (.inr (by rw[h])),if_pos h]
   ·rw[if_neg (by simp[h]),if_neg h]
  obtain⟨s,hs⟩:∃s,t++[c]=s:=⟨_,rfl⟩
  have hsl:s.length=t.length+1:=by rw[<-hs];simp
  rw[hs]at hix hadd hE hl ⊢;obtain⟨m,hm⟩:∃m,s.length=m:=⟨_,rfl⟩;obtain⟨j,hj⟩:∃j,t.length=j:=⟨_,rfl⟩;rw[hj]at hix;have hlen:=ze hm
  have m0:(0:Int)<(m:Int):=by omega
  have mw:IntKind.i64.wrap ((m:Int)-1)=(j:Int):=(IntWalk.i64_in _ (by omega)).trans (by omega);have HS:=ze (rfl:(⟨s.toArray⟩:ByteArray).size=s.length);have mlen:s.length=m:=hm;clear hs hsl hj hat hm
  by_cases h10:c=10
  ·subst h10
   have hbe:((UInt8.toNat 10:Nat):Int)=10:=rfl;rw[hbe]at hix;rw[if_pos rfl]at hE;have HE:=ze hE;clear hE hadd
   go_enter Tryz.func66,Tryz.ntmps66
   go_wp2_with fail;go_ret;exact⟨by rw[HE.out];rfl,rfl⟩
  ·have hbe:(((c.toNat:Nat):Int)==10)=false:=by
    simp;intro h;exact h10 (UInt8.toNat_inj.1 (by rw[show UInt8.toNat 10=10 from rfl];omega))
   rw[if_neg h10]at hE;have HE:=ze hE;clear hE h10
   go_enter Tryz.func66,Tryz.ntmps66
   go_wp2_with fail;go_ret;exact⟨by rw[HE.out];rfl,rfl⟩
end
open Go.RowKit
theorem jT(s:Tx):(yA s).length<=s.length+1:=by
 unfold yA
 split
 ·omega
 ·simp
theorem zpG{w:World}{ao:Option Addr}{n cap:Nat}{cs:List CkS}(h:SlC w (.slice ao n cap) cs){i:Nat}{p:CkS}(hp:cs[i]? =some p):
  ∃ao' c',(∀wx,(Instr.slice 94 (.slice ao n cap) (some (.int .i64 (i:Int))) (some (.int .i64 ((i:Int)+1))) none).run Tryz.prog wx= .ok (.slice ao' 1 c') wx)/\SlC w (.slice ao' 1 c') [p]:=by
 obtain⟨i0,hi0,hi1,hi2,hi3⟩:=info_parts Tryz.infoCk;obtain⟨ao',cap',hv,hnone,hcap,hc⟩:=h;obtain⟨rfl,rfl,rfl⟩:=Value.slice.inj hv;have hlt:=(List.getElem?_eq_some_iff.1 hp).1;refine⟨if cap=i then ao else ao.map (·.add (i*4)),cap-i,fun wx=>?_,⟨_,cap-i,rfl,fun h=>?_,by simp;omega,fun a ha j u hu=>?_⟩⟩
 ·have e1:(i:Int)+1=((i+1:Nat):Int):=by omega
  have h1:(i:Int)<=((i+1:Nat):Int):=by omega
  have h2:((i+1:Nat):Int)<=cap:=by omega
  have h3:i+1-i=1:=by omega
  rw[e1];generalize hm:i+1=m at h1 h2 h3 ⊢;simp[Instr.slice,run_underlying Tryz.underlying94,Instr.sliceBounds,run_sliceBound,sizeOf,typeInfo,hi0,hi2,h1,h2,h3]
 ·have:ao=none:=by
   split at h
   ·exact h
   ·simpa using h
  rw[hnone this]at hlt;cases hlt
 ·obtain⟨rfl,rfl⟩:j=0/\u=p:=by
   cases j with
   |zero=>exact⟨rfl,by simpa using hu.symm⟩
   |succ j=>simp at hu
  rw[if_neg (by omega)]at ha
  cases ao with
  |none=>cases ha
  |some b=>
   cases ha;obtain⟨vb,vo,vt,h1,h2,h3,h4,h5,h6,h7⟩:=hc b rfl i _ hp;refine⟨vb,vo,vt,?_,?_,?_,?_,h5,h6,h7⟩
   ·rw[xU];simpa using h1
   ·rw[xU];simpa using h2
   ·rw[xU];simpa using h3
   ·rw[xU];simpa using h4
theorem zcN(a b:List CkS):zG (a++b)=zG a++zG b:=by simp[zG]
section
theorem zeJ(v:Value)(cs:List CkS)(w:World)(hv:SlC w v cs)(hl:cs.length<=4000000)(hm:(zG cs).length<=1000000000):
  Calls Tryz.prog 64 #[v] w fun e w'=>∃u,e= .returned u/\w'.ownsRow w.heap.size 9 1 u (zG cs).length (zj (zG cs))/\Below w.heap.size w w':=by
 obtain⟨ao,cap,rfl⟩:=hv.form;have HV:=ze hv;have HM:=ze hm;clear hv hm
 go_enter Tryz.func64,Tryz.ntmps64
 go_wp2_with fail
 go_loopg [3,4] cs.length (fun g out i wr=>∃ (k:Nat) (X:List Tx),k<=cs.length/\cs.length-k=g/\i= .int .i64 k/\Hid (X=zG (cs.take k))/\Hid (wr.ownsRow w.heap.size 9 1 out X.length (zj X))/\Below w.heap.size w wr)
 case atStart=>exact⟨0,[],Nat.zero_le _,rfl,rfl,ze rfl,ze (World.ownsRow_nil _ _ _ _),Below.refl _ _⟩
 case round=>
  obtain⟨k,X,hk,rfl,rfl,HX,HN,hbel⟩:=hrel;have hz:=hbel.size;have k0:(0:Int)<=(k:Int):=Int.natCast_nonneg _;obtain⟨no,nc,rfl⟩:=zl HN.out
  by_cases hlt:k<cs.length
  ·have k1:(k:Int)<(cs.length:Int):=by omega
   have kw:IntKind.i64.wrap ((k:Int)+1)=(k:Int)+1:=IntWalk.i64_in _ (by omega);obtain⟨b,o,z,xb,xo,xt,vb,vo,vt,rfl,c1,c2,c3,c4,s1,s2,s3,he⟩:=(HV.out.old hbel).at' (i:=k) hlt
   have hm:zG (cs.take (k+1))=X ++(if z=3 then xt else xo):=by
    rw[yz he,HX.out];simp[zG]
   have hle:(zG (cs.take (k+1))).length<=(zG cs).length:=by
    conv=>rhs;rw[<-List.take_append_drop (k+1) cs]
    rw[zcN,List.length_append];omega
   have hmx:=HM.out;rw[hm,List.length_append]at hle;clear he c2 s1
   by_cases h3:z=3
   ·subst h3
    rw[if_pos rfl]at hle;have HMM:=ze (show X++xt=zG (cs.take (k+1)) by rw[hm,if_pos rfl]);clear hm c3 s2
    go_wp2_with (at_builtin;refine zC rfl (.tmp 17) (.tmp 22) rfl w.heap.size _ X xt rfl HN.out _ rfl s3 (by omega) hz ?_;intro v5 w5 hO5 hb5;have HO5:=ze hO5;have hb6:=hbel.trans hb5;clear hO5 hb5)
    go_wp2_with fail
    go_roundg (cs.length-(k+1))
    case measure=>omega
    case rel=>exact⟨k+1,X++xt,by omega,rfl,rfl,HMM,HO5,hb6⟩
   ·have hb:(z==3)=false:=by simpa using h3
    rw[if_neg h3]at hle;have HMM:=ze (show X++xo=zG (cs.take (k+1)) by rw[hm,if_neg h3]);clear hm c4 s3 h3
    go_wp2_with (at_builtin;refine zC rfl (.tmp 24) (.tmp 29) rfl w.heap.size _ X xo rfl HN.out _ rfl s2 (by omega) hz ?_;intro v5 w5 hO5 hb5;have HO5:=ze hO5;have hb6:=hbel.trans hb5;clear hO5 hb5)
    go_wp2_with fail
    go_roundg (cs.length-(k+1))
    case measure=>omega
    case rel=>exact⟨k+1,X++xo,by omega,rfl,rfl,HMM,HO5,hb6⟩
  ·obtain rfl:k=cs.length:=by omega
   have hneg:¬(cs.length:Int)<(cs.length:Int):=by omega
   have HMM:=ze (show X=zG cs by rw[HX.out,List.take_length]);go_wp2_with fail;go_ret;rw[<-HMM.out];exact⟨_,rfl,HN.out,hbel⟩
theorem zhp{b o t:Tx}(hb:b.length<=3000)(ho:o.length<=3000)(ht:t.length<=3000):∀c∈yn (zn b) (zn o) (zn t),c.2.1.flatten.length<=3000/\c.2.2.1.flatten.length<=3000/\c.2.2.2.flatten.length<=3000:=by
 obtain⟨h1,h2,h3,_⟩:=zaL (zn b) (zn o) (zn t)
 have key:∀ (f:CkS->List Tx) (l:List CkS) (c:CkS),c∈l->(f c).flatten.length<=(l.flatMap f).flatten.length:=fun f l c hc=>by
  induction l with
  |nil=>cases hc
  |cons x l ih=>
   rw[List.flatMap_cons,List.flatten_append,List.length_append]
   rcases List.mem_cons.1 hc with rfl |hc
   ·omega
   ·have:=ih hc;omega
 intro c hc;have e1:=key (fun k=>k.2.1) _ c hc;have e2:=key (fun k=>k.2.2.1) _ c hc;have e3:=key (fun k=>k.2.2.2) _ c hc;rw[h1,zcc]at e1;rw[h2,zcc]at e2;rw[h3,zcc]at e3;omega
theorem zgf{l:List CkS}{n:Nat}(h:∀c∈l,c.2.1.flatten.length<=n/\c.2.2.1.flatten.length<=n/\c.2.2.2.flatten.length<=n):(zG l).flatten.length<=l.length*n:=by
 induction l with
 |nil=>simp[zG]
 |cons c l ih=>
  have h1:=h c (List.mem_cons_self ..)
  have h2:=ih fun x hx=>h x (List.mem_cons_of_mem _ hx)
  have e:zG (c::l)=(if c.1=3 then c.2.2.2 else c.2.2.1)++zG l:=by simp[zG]
  rw[e,List.flatten_append,List.length_append,List.length_cons,Nat.succ_mul]
  split <;> omega
theorem zaC{l:List CkS}{n:Nat}(h:∀c∈l,c.2.2.1.length<=n/\c.2.2.2.length<=n):(zG l).length<=l.length*n:=by
 induction l with
 |nil=>simp[zG]
 |cons c l ih=>
  have h1:=h c (List.mem_cons_self ..)
  have h2:=ih fun x hx=>h x (List.mem_cons_of_mem _ hx)
  have e:zG (c::l)=(if c.1=3 then c.2.2.2 else c.2.2.1)++zG l:=by simp[zG]
  rw[e,List.length_append,List.length_cons,Nat.succ_mul]
  split <;> omega
theorem zfU{b o t:List Tx}(_:b.length<=3000)(ho:o.length<=3000)(ht:t.length<=3000):∀c∈yn b o t,c.2.2.1.length<=3000/\c.2.2.2.length<=3000:=fun c hc=>by
 obtain⟨h1,h2,h3,_⟩:=zaL b o t;have e2:=zdg (f:=fun k:CkS=>k.2.2.1) hc;have e3:=zdg (f:=fun k:CkS=>k.2.2.2) hc;rw[h2]at e2;rw[h3]at e3;omega
theorem zgQ(tb tw tt:Tx)(w:World)(lb:tb.length<=3000)(lo:tw.length<=3000)(lt:tt.length<=3000):
  Calls Tryz.prog 35 #[zq tb,zq tw,zq tt] w fun e w'=>e= .returned (.tuple #[zq (jJ tb tw tt).1,.bool (jJ tb tw tt).2])/\Below w.heap.size w w':=by
 have n1:=yL tb;have n2:=yL tw;have n3:=yL tt;have HFL:=ze (zhp lb lo lt);have HLN:=ze (zfU (b:=zn tb) (o:=zn tw) (t:=zn tt) (by omega) (by omega) (by omega));obtain⟨hfew,hcl,_⟩:=zgN (a:=zn tb) (b:=zn tw) (c:=zn tt) (by omega) (by omega) (by omega)
 have hM:jJ tb tw tt=if xI (yn (zn tb) (zn tw) (zn tt))then((zG (yn (zn tb) (zn tw) (zn tt))).flatten,true)else(yl [] (yn (zn tb) (zn tw) (zn tt)),false):=rfl
 have HSB:=ze (fun wx=>zba tb wx (by omega));have HSO:=ze (fun wx=>zba tw wx (by omega));have HST:=ze (fun wx=>zba tt wx (by omega));obtain⟨Lb,hLb⟩:∃L,zn tb=L:=⟨_,rfl⟩;obtain⟨Lo,hLo⟩:∃L,zn tw=L:=⟨_,rfl⟩;obtain⟨Lt,hLt⟩:∃L,zn tt=L:=⟨_,rfl⟩;rw[hLb]at HSB hM HFL HLN hfew hcl n1;rw[hLo]at HSO hM HFL HLN hfew hcl n2;rw[hLt]at HST hM HFL HLN hfew hcl n3;have HNN:=ze (show Lb.length<=3000/\Lo.length<=3000/\Lt.length<=3000 by omega);have HOF:=ze (fun(va vb vc:Value) (wx:World) (h1:Sl wx va (zj Lb)) (h2:Sl wx vb (zj Lo)) (h3:Sl wx vc (zj Lt))=>zra va vb vc Lb Lo Lt wx h1 h2 h3 HNN.out.1 HNN.out.2.1 HNN.out.2.2);obtain⟨l,hl⟩:∃l,yn Lb Lo Lt=l:=⟨_,rfl⟩;rw[hl]at hM HFL HLN hfew hcl HOF;have HML:=ze hM;have HFW:=ze hfew;have HCL:=ze hcl;clear hM hLb hLo hLt hl n1 n2 n3 lb lo lt hfew hcl HNN;obtain⟨R,hR⟩:∃R,jJ tb tw tt=R:=⟨_,rfl⟩;rw[hR]at HML ⊢;clear hR;unfold zq at HSB HSO HST ⊢
 go_enter Tryz.func35,Tryz.ntmps35
 go_wp2_with fail;refine(HSB.out w).mono ?_;rintro e x1 ⟨v1,rfl,o1,hb1⟩;obtain⟨p1,r1,rfl⟩:=zl o1;have S1:=ze (Sl.ofOwns o1);clear o1;go_wp2_with fail;refine(HSO.out x1).mono ?_;rintro e x2 ⟨v2,rfl,o2,hb2⟩;obtain⟨p2,r2,rfl⟩:=zl o2;have S1:=ze (Sl.old S1.out hb2);have S2:=ze (Sl.ofOwns o2);have hb2:=zi hb1 hb2 hb1.size;clear o2 hb1;go_wp2_with fail;refine(HST.out x2).mono ?_;rintro e x3 ⟨v3,rfl,o3,hb3⟩;obtain⟨p3,r3,rfl⟩:=zl o3;have S1:=ze (Sl.old S1.out hb3);have S2:=ze (Sl.old S2.out hb3);have S3:=ze (Sl.ofOwns o3);have hb3:=zi hb2 hb3 hb2.size;clear o3 hb2;go_wp2_with fail;refine(HOF.out _ _ _ x3 S1.out S2.out S3.out).mono ?_;rintro e x4 ⟨v4,rfl,o4,hb4⟩;obtain⟨p4,r4,rfl⟩:=o4.form;have S4:=ze o4;have hb4:=zi hb3 hb4 hb3.size;clear o4 hb3 S1 S2 S3 HOF HSB HSO HST;have HCLN:=ze (zmS _ l x4 S4.out (by have:=HCL.out;omega));go_wp2_with fail;refine HCLN.out.mono ?_;rintro e _ ⟨rfl,rfl⟩;clear HCLN
 by_cases hc:xI l=true
 ·have HR:=ze (show R=((zG l).flatten,true) by rw[HML.out,if_pos hc])
  rw[hc];have HMG:=ze (zeJ _ l x4 S4.out (by have:=HCL.out;omega) (by have h1:=zaC (l:=l) (n:=3000) HLN.out;have h2:=HCL.out;omega));clear hc HML;go_wp2_with fail;refine HMG.out.mono ?_;rintro e x5 ⟨v5,rfl,o5,hb5⟩;obtain⟨p5,r5,rfl⟩:=zl o5;have S5:=ze (Sl.ofOwns o5);have hb5:=zi hb4 hb5 hb4.size;clear o5;have HJ:=ze (zbO _ (zG l) x5 S5.out (by have h1:=zgf HFL.out;have h2:=HCL.out;omega) (by have h1:=zaC (l:=l) (n:=3000) HLN.out;have h2:=HCL.out;unfold maxLen;omega));unfold zq at HJ;go_wp2_with fail;refine HJ.out.mono ?_;rintro e _ ⟨rfl,rfl⟩;go_wp2_with fail;refine bodyPost_ret (results_tmp2 rfl _ _ _) rfl ?_;exact⟨by rw[HR.out];rfl,hb5⟩
 ·have HR:=ze (show R=(yl [] l,false) by rw[HML.out,if_neg hc])
  rw[show xI l=false by simpa using hc];clear hc HML;go_wp2_with fail;refine(zlZ x4).mono ?_;rintro e x5 ⟨rfl,hb5⟩;have hg:=heap_alloc_new x5 (.cells zdZ 101);have HMK:=ze (fun(k:Nat) (h:k<4)=>zd (i:=k) hg (zoA h));have HB:=ze ((zi hb4 hb5 hb4.size).alloc (Nat.le_trans hb4.size hb5.size) (.cells zdZ 101));have HS:=ze ((S4.out.old hb5).old ((Below.refl _ x5).alloc (Nat.le_refl _) (.cells zdZ 101)));unfold zdZ zq at HMK HB HS ⊢;clear hg hb4 hb5 S4;go_wp2_with fail;generalize x5.alloc (.cells #[.string ⟨mk0.toArray⟩,.string ⟨mk1.toArray⟩,.string ⟨mk2.toArray⟩,.string ⟨mk3.toArray⟩] 101)=W at HMK HB HS ⊢;generalize x5.heap.size=gm at HMK ⊢
  go_loopg [10,11] l.length (fun g o i wx=>∃ (k:Nat) (p:Tx),k<=l.length/\l.length-k=g/\i= .int .i64 k/\o= .string ⟨p.toArray⟩/\Hid (yl [] l=yl p (l.drop k))/\Hid (p.length<=k*10000)/\Below W.heap.size W wx)
  case atStart=>exact⟨0,[],Nat.zero_le _,rfl,rfl,rfl,ze rfl,ze (Nat.zero_le _),Below.refl _ _⟩
  case round=>
   obtain⟨k,p,hk,rfl,rfl,rfl,HM,HPL,hbx⟩:=hrel;have hzx:=hbx.size;have k0:(0:Int)<=(k:Int):=Int.natCast_nonneg _;have hcl:=HCL.out
   by_cases hlt:k<l.length
   ·have k1:(k:Int)<(l.length:Int):=by omega
    have kw:IntKind.i64.wrap ((k:Int)+1)=(k:Int)+1:=IntWalk.i64_in _ (by omega);have hpl:=HPL.out;obtain⟨b,o,z,xb,xo,xt,vb,vo,vt,hao,c1,c2,c3,c4,s1,s2,s3,he⟩:=(HS.out.old hbx).at' (i:=k) hlt;subst hao
    have hd:l.drop k=(z,xb,xo,xt)::l.drop (k+1):=by
     obtain⟨q,e⟩:=List.getElem?_eq_some_iff.1 he;rw[List.drop_eq_getElem_cons q,e]
    have hfl:=HFW.out.at he;obtain⟨_,_,rfl⟩:=s1.form;obtain⟨_,_,rfl⟩:=s2.form;obtain⟨_,_,rfl⟩:=s3.form
    by_cases h5:z=5
    ·subst h5
     have hfo:xo.flatten.length<=3000:=(HFL.out _ (List.mem_of_getElem? he)).2.1;have hfb:xb.flatten.length<=3000:=(HFL.out _ (List.mem_of_getElem? he)).1;have hft:xt.flatten.length<=3000:=(HFL.out _ (List.mem_of_getElem? he)).2.2;have HRX:=ze (show yl [] l=yl (yA p++mk0++yA xo.flatten++mk1++yA xb.flatten++mk2++yA xt.flatten++mk3) (l.drop (k+1)) by rw[HM.out,hd,yl,if_pos rfl]);have J1:=ze (fun n=>(zbO _ xo (wr.drewN n) (Sl.old s2 (zm wr n)) (by omega) (by have:=hfl.2.1;unfold maxLen;omega)).mono fun _ _ ⟨he,hm⟩=>(⟨he,hm.symm⟩: _ /\ _));have J2:=ze (fun n=>(zbO _ xb (wr.drewN n) (Sl.old s1 (zm wr n)) (by omega) (by have:=hfl.1;unfold maxLen;omega)).mono fun _ _ ⟨he,hm⟩=>(⟨he,hm.symm⟩: _ /\ _));have J3:=ze (fun n=>(zbO _ xt (wr.drewN n) (Sl.old s3 (zm wr n)) (by omega) (by have:=hfl.2.2;unfold maxLen;omega)).mono fun _ _ ⟨he,hm⟩=>(⟨he,hm.symm⟩: _ /\ _));have E0:=ze (fun n=>(zcm p (wr.drewN n) (by omega)).mono fun _ _ ⟨he,hm⟩=>(⟨he,hm.symm⟩: _ /\ _));have E1:=ze (fun n=>(zcm xo.flatten (wr.drewN n) (by omega)).mono fun _ _ ⟨he,hm⟩=>(⟨he,hm.symm⟩: _ /\ _));have E2:=ze (fun n=>(zcm xb.flatten (wr.drewN n) (by omega)).mono fun _ _ ⟨he,hm⟩=>(⟨he,hm.symm⟩: _ /\ _));have E3:=ze (fun n=>(zcm xt.flatten (wr.drewN n) (by omega)).mono fun _ _ ⟨he,hm⟩=>(⟨he,hm.symm⟩: _ /\ _));have l0:=jT p;have l1:=jT xo.flatten;have l2:=jT xb.flatten;have l3:=jT xt.flatten;obtain⟨s0,hs0⟩:∃z,yA p=z:=⟨_,rfl⟩;obtain⟨s1',hs1⟩:∃z,yA xo.flatten=z:=⟨_,rfl⟩;obtain⟨s2',hs2⟩:∃z,yA xb.flatten=z:=⟨_,rfl⟩;obtain⟨s3',hs3⟩:∃z,yA xt.flatten=z:=⟨_,rfl⟩;rw[hs0]at HRX l0 E0;rw[hs1]at HRX l1 E1;rw[hs2]at HRX l2 E2;rw[hs3]at HRX l3 E3;have q0:mk0.length=13:=rfl;have q1:mk1.length=13:=rfl;have q2:mk2.length=8:=rfl;have q3:mk3.length=15:=rfl;obtain⟨a0,ha0⟩:∃z,s0++mk0=z:=⟨_,rfl⟩
     have len_a0:a0.length=s0.length+mk0.length:=by rw[<-ha0,List.length_append]
     have add0:=xm (P:=Tryz.prog) s0 mk0 (by omega);rw[ha0]at add0 HRX;obtain⟨a1,ha1⟩:∃z,a0++s1'=z:=⟨_,rfl⟩
     have len_a1:a1.length=a0.length+s1'.length:=by rw[<-ha1,List.length_append]
     have add1:=xm (P:=Tryz.prog) a0 s1' (by omega);rw[ha1]at add1 HRX;obtain⟨a2,ha2⟩:∃z,a1++mk1=z:=⟨_,rfl⟩
     have len_a2:a2.length=a1.length+mk1.length:=by rw[<-ha2,List.length_append]
     have add2:=xm (P:=Tryz.prog) a1 mk1 (by omega);rw[ha2]at add2 HRX;obtain⟨a3,ha3⟩:∃z,a2++s2'=z:=⟨_,rfl⟩
     have len_a3:a3.length=a2.length+s2'.length:=by rw[<-ha3,List.length_append]
     have add3:=xm (P:=Tryz.prog) a2 s2' (by omega);rw[ha3]at add3 HRX;obtain⟨a4,ha4⟩:∃z,a3++mk2=z:=⟨_,rfl⟩
     have len_a4:a4.length=a3.length+mk2.length:=by rw[<-ha4,List.length_append]
     have add4:=xm (P:=Tryz.prog) a3 mk2 (by omega);rw[ha4]at add4 HRX;obtain⟨a5,ha5⟩:∃z,a4++s3'=z:=⟨_,rfl⟩
     have len_a5:a5.length=a4.length+s3'.length:=by rw[<-ha5,List.length_append]
     have add5:=xm (P:=Tryz.prog) a4 s3' (by omega);rw[ha5]at add5 HRX;obtain⟨a6,ha6⟩:∃z,a5++mk3=z:=⟨_,rfl⟩
     have len_a6:a6.length=a5.length+mk3.length:=by rw[<-ha6,List.length_append]
     have add6:=xm (P:=Tryz.prog) a5 mk3 (by omega);rw[ha6]at add6 HRX;have HLN2:=ze (show a6.length<=(k+1)*10000 by omega);rw[zk]at J1 J2 J3;unfold zq at J1 J2 J3 E0 E1 E2 E3;have hk0:W.cell? ⟨gm,0,none⟩= _:=HMK.out 0 (by omega);have hk1:W.cell? ⟨gm,1,none⟩= _:=HMK.out 1 (by omega);have hk2:W.cell? ⟨gm,2,none⟩= _:=HMK.out 2 (by omega);have hk3:W.cell? ⟨gm,3,none⟩= _:=HMK.out 3 (by omega);have ck0:wr.cell? ⟨gm,0,none⟩=some (.string ⟨mk0.toArray⟩):=(World.cell?_of_block (w:=W) (hbx.block _ (World.block_lt_of_cell? W _ hk0))).trans hk0;have ck1:wr.cell? ⟨gm,1,none⟩=some (.string ⟨mk1.toArray⟩):=(World.cell?_of_block (w:=W) (hbx.block _ (World.block_lt_of_cell? W _ hk1))).trans hk1;have ck2:wr.cell? ⟨gm,2,none⟩=some (.string ⟨mk2.toArray⟩):=(World.cell?_of_block (w:=W) (hbx.block _ (World.block_lt_of_cell? W _ hk2))).trans hk2;have ck3:wr.cell? ⟨gm,3,none⟩=some (.string ⟨mk3.toArray⟩):=(World.cell?_of_block (w:=W) (hbx.block _ (World.block_lt_of_cell? W _ hk3))).trans hk3;simp only[zk]at c2 c3 c4 s1 s2 s3;clear hk0 hk1 hk2 hk3 he hd hfl s1 s2 s3 l0 l1 l2 l3 hs0 hs1 hs2 hs3 q0 q1 q2 q3 hfo hfb hft ha0 ha1 ha2 ha3 ha4 ha5 ha6 len_a0 len_a1 len_a2 len_a3 len_a4 len_a5 len_a6 hpl;go_wp2_with fail
     go_quiet ((first
      |(go_at_call 63;with_reducible exact Calls.quiet_of_same (J1.out _))
      |(go_at_call 63;with_reducible exact Calls.quiet_of_same (J2.out _))
      |(go_at_call 63;with_reducible exact Calls.quiet_of_same (J3.out _))
      |(go_at_call 66;with_reducible exact Calls.quiet_of_same (E0.out _))
      |(go_at_call 66;with_reducible exact Calls.quiet_of_same (E1.out _))
      |(go_at_call 66;with_reducible exact Calls.quiet_of_same (E2.out _))
      |(go_at_call 66;with_reducible exact Calls.quiet_of_same (E3.out _))))
     go_wp2_with fail
     go_roundg (l.length-(k+1))
     case measure=>omega
     case rel=>exact⟨k+1,a6,by omega,rfl,by go_num,rfl,HRX,HLN2,hbx.trans ⟨rfl,rfl,rfl,Nat.le_refl _,fun _ _ =>rfl⟩⟩
    ·have hne:(z !=5)=true:=by simpa using h5
     obtain⟨so,sc,hsl,ss⟩:=zpG (HS.out.old hbx) he
     have hone:zG [(z,xb,xo,xt)]=jK (z,xb,xo,xt):=by simp[zG,jK]
     have hof:(jK (z,xb,xo,xt)).flatten.length<=3000:=by
      have h:=HFL.out _ (List.mem_of_getElem? he);unfold jK
      split
      ·exact h.2.2
      ·exact h.2.1
     have hol:(jK (z,xb,xo,xt)).length<=3000:=by
      have h:=HLN.out _ (List.mem_of_getElem? he);unfold jK
      split
      ·exact h.2
      ·exact h.1
     have HMG:=zeJ _ [(z,xb,xo,xt)] wr ss (by simp) (by rw[hone];omega);rw[hone]at HMG;have HRX:=ze (show yl [] l=yl (p ++(jK (z,xb,xo,xt)).flatten) (l.drop (k+1)) by rw[HM.out,hd,yl,if_neg h5]);obtain⟨M,hMM⟩:∃M,jK (z,xb,xo,xt)=M:=⟨_,rfl⟩;rw[hMM]at HMG HRX hof hol;have hadd:=xm (P:=Tryz.prog) p M.flatten (by omega);have HLN2:=ze (show(p++M.flatten).length<=(k+1)*10000 by rw[List.length_append];omega);have HMH:=ze HMG;have HOL:=ze (And.intro hof hol);clear HMG hMM hof hol hone he hd hfl s1 s2 s3 c2 c3 c4 h5 hpl ss
     go_wp2_with (first
      |(go_at_call 64;refine HMH.out.mono ?_;rintro e y1 ⟨u1,rfl,o1,hb1⟩
        obtain⟨uo,uc,rfl⟩:=zl o1;have HJ:=ze (zbO _ M y1 (Sl.ofOwns o1) (by have:=HOL.out.1;omega) (by have:=HOL.out.2;unfold maxLen;omega));unfold zq at HJ;have HB1:=ze (zi hbx hb1 hzx)
        clear o1 hb1)
      |(go_at_call 63;refine HJ.out.mono ?_;rintro e _ ⟨rfl,rfl⟩))
     go_roundg (l.length-(k+1))
     case measure=>omega
     case rel=>exact⟨k+1,_,by omega,rfl,by go_num,rfl,HRX,HLN2,HB1.out⟩
   ·obtain rfl:k=l.length:=by omega
    have hneg:¬(l.length:Int)<(l.length:Int):=by omega
    have HP:=ze (show yl [] l=p by rw[HM.out,List.drop_length];rfl);go_wp2_with fail;refine bodyPost_ret (results_tmp2 rfl _ _ _) rfl ?_;exact⟨by rw[HR.out,HP.out];rfl,zi HB.out hbx HB.out.size⟩
end
end Go.Proofs.YtbnafihigoekeaaGreatDoor

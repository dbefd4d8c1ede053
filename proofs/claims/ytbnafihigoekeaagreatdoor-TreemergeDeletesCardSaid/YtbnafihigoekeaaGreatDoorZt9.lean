/-
  TmTl, part 9.
-/
import Derived.Test.YtbnafihigoekeaaGreatDoorZt2
import Derived.Shelf.Bytes.SlIndexAt
import Derived.Shelf.Strings.OnBuilder
set_option maxRecDepth 100000
set_option maxHeartbeats 2000000
namespace Go.Proofs.YtbnafihigoekeaaGreatDoor
def zn:List UInt8->List (List UInt8)
 | []=>[]
 |b::s=>if b=10 then [b]::zn s else match zn s with
  | []=>[[b]]
  |l::ls=>(b::l)::ls
theorem zfa(x r:List UInt8)(h:∀b∈x,b≠10):zn (x++10::r)=(x++[10])::zn r:=by
 induction x with
 |nil=>simp[zn]
 |cons b x ih=>
  have hb:=h b (List.mem_cons_self ..);have:=ih (fun c hc=>h c (List.mem_cons_of_mem _ hc));simp only[List.cons_append,zn,if_neg hb,this]
theorem zjG(x:List UInt8)(h:∀b∈x,b≠10)(hx:x≠ []):zn x=[x]:=by
 induction x with
 |nil=>exact absurd rfl hx
 |cons b x ih=>
  have hb:=h b (List.mem_cons_self ..)
  by_cases hx':x=[]
  ·subst hx'
   simp[zn,hb]
  ·have:=ih (fun c hc=>h c (List.mem_cons_of_mem _ hc)) hx'
   simp only[zn,if_neg hb,this]
theorem zcc(s:List UInt8):(zn s).flatten=s:=by
 induction s with
 |nil=>rfl
 |cons b s ih=>
  simp only[zn]
  split
  ·simp[ih]
  ·cases hl:zn s with
   |nil=>rw[hl]at ih;simp at ih;subst ih;simp
   |cons l ls=>rw[hl]at ih;simp at ih ⊢;exact ih
theorem yL(s:List UInt8):(zn s).length<=s.length:=by
 induction s with
 |nil=>simp[zn]
 |cons b s ih=>
  simp only[zn]
  split
  ·simpa using ih
  ·cases hl:zn s with
   |nil=>simp
   |cons l ls=>rw[hl]at ih;simp at ih ⊢;omega
theorem zek(s:List UInt8):∀x∈zn s,x≠ []:=by
 induction s with
 |nil=>simp[zn]
 |cons b s ih=>
  simp only[zn]
  split
  ·intro x hx
   rcases List.mem_cons.1 hx with rfl |h
   ·simp
   ·exact ih x h
  ·cases hl:zn s with
   |nil=>simp
   |cons l ls=>
    rw[hl]at ih;intro x hx
    rcases List.mem_cons.1 hx with rfl |h
    ·simp
    ·exact ih x (List.mem_cons_of_mem _ h)
structure kP(s:List UInt8)(done:List (List UInt8))(f i:Nat):Prop where
 fi:f<=i
 il:i<=s.length
 cnt:done.length<=f
 all:zn s=done++zn (s.drop f)
 none:∀b∈ (s.drop f).take (i-f),b≠10
theorem kP.start(s:List UInt8):kP s [] 0 0:=⟨Nat.le_refl _,Nat.zero_le _,Nat.le_refl _,by simp,by simp⟩
theorem kP.more{s:List UInt8}{done:List (List UInt8)}{f i:Nat}{b:UInt8}(h:kP s done f i)(hb:s[i]? =some b)(hne:b≠10):kP s done f (i+1):=by
 have hi:=(List.getElem?_eq_some_iff.1 hb).1;have hfi:=h.fi;refine⟨by omega,hi,h.cnt,h.all,?_⟩
 have e:(s.drop f).take (i+1-f)=(s.drop f).take (i-f)++[b]:=by
  rw[show i+1-f=i-f+1 by omega];exact yz (by rw[List.getElem?_drop,show f +(i-f)=i by omega];exact hb)
 rw[e];intro c hc
 rcases List.mem_append.1 hc with h1 |h1
 ·exact h.none c h1
 ·simp at h1
  rw[h1];exact hne
theorem kP.line{s:List UInt8}{done:List (List UInt8)}{f i:Nat}(h:kP s done f i)(hb:s[i]? =some 10):kP s (done++[(s.drop f).take (i+1-f)]) (i+1) (i+1):=by
 have hi:=(List.getElem?_eq_some_iff.1 hb).1;have hfi:=h.fi;have hcnt:=h.cnt
 have e:(s.drop f).take (i+1-f)=(s.drop f).take (i-f)++[10]:=by
  rw[show i+1-f=i-f+1 by omega];exact yz (by rw[List.getElem?_drop,show f +(i-f)=i by omega];exact hb)
 have e2:s.drop f=(s.drop f).take (i-f)++10::s.drop (i+1):=by
  conv=>lhs;rw[<-List.take_append_drop (i-f) (s.drop f)]
  rw[List.drop_drop,show f +(i-f)=i by omega,List.drop_eq_getElem_cons hi];obtain⟨_,h10⟩:=List.getElem?_eq_some_iff.1 hb;rw[h10]
 refine⟨Nat.le_refl _,hi,by simp;omega,?_,by simp⟩;rw[h.all]
 conv=>lhs;rw[e2]
 rw[zfa _ _ h.none,e];simp
theorem kP.stop{s:List UInt8}{done:List (List UInt8)}{f:Nat}(h:kP s done f s.length):zn s=if f<s.length then done++[s.drop f]else done:=by
 have hn:=h.none;have hfi:=h.fi;rw[List.take_of_length_le (by rw[List.length_drop];omega)]at hn;rw[h.all]
 split
 ·rw[zjG _ hn (by
   intro e;have:=congrArg List.length e;rw[List.length_drop]at this;simp at this
   omega)]
 ·rw[List.drop_of_length_le (by omega)]
  simp[zn]
open Go.RowKit
section
variable{P:Program}
theorem zfH(w:World){v:Value}{l:List UInt8}(h:Sl w v (Lib.byteCells l))(c:UInt8):
  (Extern.BytealgIndexByte.indexByte #[v,.int .u8 (c.toNat:Int)]).run P w= .ok (.int .i64 (Lib.indexByte l c)) w:=by
 obtain⟨ao,cap,rfl,hn,_,hc⟩:=h
 cases ao with
 |none=>
  have:l=[]:=by simpa[Lib.byteCells]using hn rfl
  subst this;exact Lib.run_indexByteNil w _ cap _
 |some a=>
  have hr:=Lib.run_indexByteAt (P:=P) w a l.length cap (l.map fun b=>(b.toNat:Int)) (by simp) (fun i hi=>by
   refine hc a rfl i _ ?_
   simp[Lib.byteCells,hi]) (c.toNat:Int)
  have hb:Lib.bytesOf (l.map fun b=>(b.toNat:Int))=l:=by
   unfold Lib.bytesOf;rw[List.map_map];exact List.map_id'' (fun b=>by simp) l
  rw[hb,show((c.toNat:Int)).toNat.toUInt8=c by simp]at hr;rw[Lib.byteCells_length];exact hr
end
def lineLen:List UInt8->Nat
 | []=>0
 |b::s=>if b=10 then 1 else lineLen s+1
theorem zhA(s:List UInt8):lineLen s<=s.length:=by
 induction s with
 |nil=>simp[lineLen]
 |cons b s ih=>
  simp only[lineLen,List.length_cons]
  split <;> omega
theorem zkN{s:List UInt8}(h:0<s.length):0<lineLen s:=by
 cases s with
 |nil=>simp at h
 |cons b s=>simp only[lineLen];split <;> omega
theorem zid(s:List UInt8):Lib.indexByte s 10= -1/\lineLen s=s.length∨0<=Lib.indexByte s 10/\Lib.indexByte s 10+1=(lineLen s:Int):=by
 induction s with
 |nil=>left;simp[Lib.indexByte,lineLen]
 |cons b s ih=>
  by_cases hb:b=10
  ·right
   subst hb;simp[Lib.indexByte,lineLen]
  ·have hb':(b==10)=false:=by simpa using hb
   simp only[Lib.indexByte,lineLen,hb',if_neg hb,List.length_cons]
   rcases ih with⟨h1,h2⟩ |⟨h1,h2⟩
   ·left
    simp[h1,h2]
   ·right
    have:(Lib.indexByte s 10== -1)=false:=by simp;omega
    simp[this];omega
theorem zhX{s:List UInt8}(h:0<s.length):zn s=s.take (lineLen s)::zn (s.drop (lineLen s)):=by
 induction s with
 |nil=>simp at h
 |cons b s ih=>
  by_cases hb:b=10
  ·simp[zn,lineLen,hb]
  ·simp only[zn,lineLen,if_neg hb,List.take_succ_cons,List.drop_succ_cons]
   by_cases hs:0<s.length
   ·rw[ih hs]
   ·have:s=[]:=List.eq_nil_of_length_eq_zero (by omega)
    subst this;simp[zn]
def zrE(x:List UInt8):Bool:=x.getLast? ==some 10
def zrw:List (List UInt8)->Bool
 | []=>true
 |x::l=>(decide (0<x.length)&&(lineLen x==x.length))&&(l.isEmpty ||zrE x)&&zrw l
open Go.RowKit
section
theorem zpO(v:Value)(l:List UInt8)(w:World)(hv:Sl w v (Lib.byteCells l)):
  Calls Tryz.prog 151 #[v,.int .u8 10] w fun e w'=>e= .returned (.int .i64 (Lib.indexByte l 10))/\w=w':=by
 obtain⟨ao,cap,rfl⟩:=hv.form;have hr:=zfH (P:=Tryz.prog) w hv 10;rw[show((UInt8.toNat 10:Nat):Int)=10 from rfl]at hr
 go_enter Tryz.func151,Tryz.ntmps151
 go_wp2
 rw[run_callFunc_extern Tryz.func172 (by kernel_rfl) (by kernel_rfl) (by kernel_rfl) (e:=Extern.BytealgIndexByte.indexByte) (by kernel_rfl),hr];simp only[Result.andThen];rw[Oper.upon_value]
 go_wp2
 go_ret;exact⟨rfl,rfl⟩
theorem zmJ(v:Value)(l:List UInt8)(w:World)(hv:Sl w v (Lib.byteCells l))(hl:l.length<=1099511627776):
  Calls Tryz.prog 126 #[v] w fun e w'=>e= .returned (.int .i64 (lineLen l:Nat))/\w=w':=by
 obtain⟨ao,cap,rfl⟩:=hv.form;have hx:=zid l;have hc:=ze (zpO _ l w hv);have hle:=zhA l;rw[Lib.byteCells_length]at hc ⊢;generalize Lib.indexByte l 10=x at hx hc;clear hv
 go_enter Tryz.func126,Tryz.ntmps126
 go_wp2_with fail;refine hc.out.mono ?_;rintro e w1 ⟨rfl,rfl⟩
 rcases hx with⟨rfl,h2⟩ |⟨h1,h2⟩
 ·have H2:=ze h2
  clear h2 hle
  go_wp2
  go_ret;exact⟨znR (by rw[H2.out]),rfl⟩
 ·have h1':¬x<0:=by omega
  have hw:IntKind.i64.wrap (x+1)=x+1:=IntWalk.i64_in _ (by omega);have H2:=ze h2;clear h2 hle
  go_wp2
  go_ret;exact⟨znR H2.out,rfl⟩
theorem zbV{w:World}{b b':Nat}{e:TypeId}{size:Nat}{v:Value}{n:Nat}{xs:List Value}(h:w.ownsRow b e size v n xs)(hb:b'<=b):w.ownsRow b' e size v n xs:=by
 refine⟨h.1,?_⟩
 rcases h.2 with hn |⟨g,cap,cur,rfl,hg,rest⟩
 ·exact .inl hn
 ·exact .inr ⟨g,cap,cur,rfl,Nat.le_trans hb hg,rest⟩
theorem zcq(s:List UInt8)(w:World)(hlen:s.length<=1099511627776):
  Calls Tryz.prog 94 #[zq s] w fun e w'=>∃v,e= .returned v/\w'.ownsRow w.heap.size 9 1 v (zn s).length (zj (zn s))/\Below w.heap.size w w':=by
 obtain⟨i0,hi0,hi1,hi2,hi3⟩:=info_parts Tryz.infoStr;obtain⟨j0,hj0,hj1,hj2,hj3⟩:=info_parts Tryz.info5;unfold zq;obtain⟨cap,wc,hcv,hsc,hzc,hbc⟩:=zjD (P:=Tryz.prog) w 9 133 5 s Tryz.underlying9 Tryz.underlying133 Tryz.underlying5;have HSC:=ze hsc;have HBC:=ze hbc;clear hsc hbc
 go_enter Tryz.func94,Tryz.ntmps94
 go_wp2_with fail
 go_loopw [3,4] (fun l f wr=>∃ (ds:List (List UInt8)) (r:List UInt8) (ao:Option Addr) (cr:Nat),Hid (zn s=ds++zn r)/\r.length+ds.length<=s.length/\f= .slice ao r.length cr/\Hid (∀a,ao=some a->a.block=w.heap.size)/\Hid (Sl wr f (Lib.byteCells r))/\Hid (wr.ownsRow wc.heap.size 9 1 l ds.length (zj ds))/\Hid (Below wc.heap.size wc wr)) (fun _ f _ =>match f with | .slice _ n _ =>n | _ =>0)
 case atStart=>exact⟨[],s,_,_,ze (by simp),by simp,rfl,ze (fun a h=>by cases h;rfl),HSC,ze (World.ownsRow_nil _ _ _ _),ze (Below.refl _ _)⟩
 case round=>
  obtain⟨ds,r,ao,cr,HL,hlr,rfl,HB,HS,HO,HW⟩:=hrel;have hz:=HW.out.size
  by_cases h0:0<r.length
  ·have k0:(0:Int)<(r.length:Int):=by omega
   have hcf:=ze (zmJ _ r wr HS.out (by omega));have hle:=zhA r;have hpos:=zkN h0;obtain⟨x,hx⟩:∃x,r.take (lineLen r)=x:=⟨_,rfl⟩;obtain⟨y,hy⟩:∃y,r.drop (lineLen r)=y:=⟨_,rfl⟩
   have hxl:x.length=lineLen r:=by rw[<-hx,List.length_take,Nat.min_eq_left hle]
   have hyl:r.length-lineLen r=y.length:=by rw[<-hy,List.length_drop]
   have HN:=ze (show zn s=(ds++[x])++zn y by rw[HL.out,zhX h0,hx,hy];simp);obtain⟨v1,s1,hs1,_,a1,c1,rfl⟩:=zeT (P:=Tryz.prog) 133 5 Tryz.underlying133 hj0 HS.out (lineLen r) (by rw[Lib.byteCells_length];exact hle);rw[<-zha,hx]at hs1;have hcs:=zhT (P:=Tryz.prog) 133 9 5 Tryz.underlying133 Tryz.underlying5 Tryz.underlying9 hs1;obtain⟨al,cl,hfl⟩:=zl HO.out;subst hfl
   have g3:ds.length+1<=maxLen:=by unfold maxLen;omega
   have g4:(ds.length+1)*16<=140737488355328:=by omega
   have hbase:wc.heap.size<=(wr.alloc (.cells #[.string ⟨x.toArray⟩] 9)).heap.size:=by simp;omega
   obtain⟨v2,s2,hs2,hb2,a2,c2,rfl⟩:=qH (P:=Tryz.prog) 133 5 Tryz.underlying133 hj0 hj2 HS.out (lineLen r) (by rw[Lib.byteCells_length];exact hle);rw[<-zhP,hy]at hs2;rw[Lib.byteCells_length,hyl]at s2 hs2 hb2
   have HB2:=ze (show ∀a,a2=some a->a.block=w.heap.size from fun a ha=>by
    obtain⟨a',k',c',e,e2⟩:=hb2 a _ _ (by rw[ha]);rw[e2]
    exact HB.out a' (Value.slice.inj e).1)
   have HS2:=ze hs2;have HXL:=ze hxl;have HYL:=ze hyl
   have hpy:y.length<r.length:=by omega
   have hcnt:y.length +(ds.length+1)<=s.length:=by omega
   clear hs1 hs2 hb2 hx hy hxl hyl hle h0 HL;go_wp2_with fail;refine hcf.out.mono ?_;rintro e w1 ⟨rfl,rfl⟩
   go_wp2_with (refine yd _ rfl (.tmp 13) (.tmp 18) _ _ rfl wc.heap.size 9 i0 _ 1 16 Tryz.underlying96 hi0 hi1 hi2 hi3 rfl (by omega) (.slice al ds.length cl) _ _ rfl (HO.out.alloc _) _ 1 [.string ⟨x.toArray⟩] rfl (Src.ofSlice _ Tryz.underlying96 ⟨wr.heap.size,0,none⟩ 1 1 [.string ⟨x.toArray⟩] (by rfl) (World.news_of_block (cs:= #[.string ⟨x.toArray⟩]) (t:=9) (fr:=(0,0)) (heap_alloc_new wr _)) (by simp[Value.oneCell'])) g3 g4 hbase ?_;intro v5 w5 hown5 hgrow5 hat5)
   have hlt5:=fun j hj=>(HO.out.lt j hj).1
   have hb5:Below wc.heap.size wc w5:=(HW.out.alloc hz _).grown hgrow5 hbase hlt5
   have R:w5.ownsRow wc.heap.size 9 1 v5 (ds++[x]).length (zj (ds++[x])):=by
    rw[yW,List.length_append];exact hown5
   have S5:Sl w5 (.slice a2 y.length c2) (Lib.byteCells y):=by
    refine(Sl.alloc HS2.out (.cells #[.string ⟨x.toArray⟩] 9)).kept fun a n c e hlt=>?_
    have hbk:=HB2.out a (Value.slice.inj e).1;exact hgrow5.block _ hlt (fun e'=>by have:=hlt5 _ e'.symm;omega)
   have HR:=ze R;have H5:=ze S5;have HB5:=ze hb5;clear hown5 hgrow5 hat5 R S5 hb5 hlt5
   go_roundw
   case rel=>exact⟨ds++[x],y,a2,c2,HN,by simp;omega,rfl,HB2,H5,HR,HB5⟩
   case measure=>simpa using hpy
  ·have hr0:r=[]:=List.eq_nil_of_length_eq_zero (by omega)
   subst hr0;have HE:=ze (show zn s=ds by rw[HL.out];simp[zn]);clear HL h0
   go_wp2
   go_ret;refine⟨_,rfl,?_,HBC.out.trans (HW.out.mono (by omega))⟩;rw[HE.out];exact zbV HO.out (by omega)
end
def zsn(s:List UInt8):Bool:=match s.getLast? with
 |none=>false
 |some b=>b !=10
def zsQ(ls:List (List UInt8)):Prop:=∀i x,ls[i]? =some x->x≠ []/\(∀k,k+1<x.length->x[k]?≠some 10)/\(i+1<ls.length->x[x.length-1]? =some 10)
theorem kO{ls:List (List UInt8)}{x:List UInt8}(h:x∈ls):x.length<=ls.flatten.length:=by
 induction ls with
 |nil=>cases h
 |cons y ys ih=>
  rw[List.flatten_cons,List.length_append]
  rcases List.mem_cons.1 h with rfl |h'
  ·omega
  ·have:=ih h';omega
def zqF(s:List UInt8):Prop:=s=[]∨∃t,s=t++[10]
theorem zqF.line(s x:List UInt8):zqF (s ++(x++[10])):= .inr ⟨s++x,by simp⟩
open Go.RowKit Go.Shelf
def Tryz.lays156_ren:Go.Shelf.Ren:=⟨fun |156=>127 |165=>152 |166=>153 |169=>154 |240=>173 |241=>174 |276=>192 |277=>193 |n=>n,fun |31=>96 |9=>9 |3=>3 |4=>4 |0=>0 |20=>20 |72=>208 |76=>212 |70=>206 |37=>133 |75=>211 |127=>232 |164=>249 |5=>5 |80=>214 |n=>n,fun |n=>n⟩
theorem Tryz.lays156:Go.Proofs.Lays.n156 Tryz.prog Tryz.lays156_ren:= {
 mixed:=by kernel_rfl
 f156:=Tryz.func127.trans (congrArg some (by kernel_rfl))
 f165:=Tryz.func152.trans (congrArg some (by kernel_rfl))
 f166:=Tryz.func153.trans (congrArg some (by kernel_rfl))
 f169:=Tryz.func154.trans (congrArg some (by kernel_rfl))
 f240:=Tryz.func173.trans (congrArg some (by kernel_rfl))
 f241:=Tryz.func174.trans (congrArg some (by kernel_rfl))
 f276:=Tryz.func192.trans (congrArg some (by kernel_rfl))
 f277:=Tryz.func193.trans (congrArg some (by kernel_rfl))
 t0:=Tryz.underlying0
 a0:=Tryz.isAgg0
 z0:=Tryz.sizeOf0
 v0:=Tryz.zeroValue0
 t3:=Tryz.underlying3
 a3:=Tryz.isAgg3
 z3:=Tryz.sizeOf3
 v3:=Tryz.zeroValue3
 t4:=Tryz.underlying4
 a4:=Tryz.isAgg4
 z4:=Tryz.sizeOf4
 v4:=Tryz.zeroValue4
 t9:=Tryz.underlying9
 a9:=Tryz.isAgg9
 z9:=Tryz.sizeOf9
 v9:=Tryz.zeroValue9
 t20:=Tryz.underlying20
 a20:=Tryz.isAgg20
 z20:=Tryz.sizeOf20
 v20:=Tryz.zeroValue20
 t31:=Tryz.underlying96
 a31:=Tryz.isAgg96
 z31:=Tryz.sizeOf96
 v31:=Tryz.zeroValue96
 t37:=Tryz.underlying133
 a37:=Tryz.isAgg133
 z37:=Tryz.sizeOf133
 v37:=Tryz.zeroValue133
 t70:=Tryz.underlying206
 a70:=Tryz.isAgg206
 z70:=Tryz.sizeOf206
 v70:=Tryz.zeroValue206
 t72:=Tryz.underlying208
 a72:=Tryz.isAgg208
 z72:=Tryz.sizeOf208
 v72:=Tryz.zeroValue208
 t75:=Tryz.underlying211
 a75:=Tryz.isAgg211
 z75:=Tryz.sizeOf211
 v75:=Tryz.zeroValue211
 t76:=Tryz.underlying212
 a76:=Tryz.isAgg212
 z76:=Tryz.sizeOf212
 v76:=Tryz.zeroValue212
 t127:=Tryz.underlying232
 a127:=Tryz.isAgg232
 z127:=Tryz.sizeOf232
 v127:=Tryz.zeroValue232
 t164:=Tryz.underlying249
 a164:=Tryz.isAgg249
 z164:=Tryz.sizeOf249
 v164:=Tryz.zeroValue249 }
theorem Tryz.Builder_Extra_156:Builder.Extra Tryz.prog Tryz.lays156_ren:= {
 sizeBuilder:=by kernel_rfl
 liesBuilder:=by kernel_rfl
 t5:=Tryz.underlying5
 a5:=Tryz.isAgg5
 z5:=Tryz.sizeOf5
 v5:=Tryz.zeroValue5
 infoByte:=by kernel_rfl
 cellsByte:=by kernel_rfl
 sizeByte:=by kernel_rfl
 neB5:=by decide }
theorem zoK(l:List (List UInt8)):Lib.join l []=l.flatten:=by
 cases l with
 |nil=>rfl
 |cons x l=>
  rw[Lib.join_cons,List.flatten_cons]
  congr 1
  induction l with
  |nil=>rfl
  |cons y l _ =>simp[Lib.joinTail]
theorem zoD(v:Value)(l:List (List UInt8))(w:World)(hv:Sl w v (zj l))(hlen:l.flatten.length<=1099511627776)(hn:l.length<=1099511627776):
  Calls Tryz.prog 127 #[v,.string ⟨#[]⟩] w fun e w'=>e= .returned (zq l.flatten)/\Below w.heap.size w w':=by
 obtain⟨ao,cap,rfl,hnone,hcap,hc⟩:=hv;rw[zk]at hcap ⊢
 by_cases h0:l.length=0
 ·have hl:l=[]:=List.eq_nil_of_length_eq_zero h0
  subst hl;refine(Any.strings_Join_none Tryz.lays156 Tryz.Builder_Extra_156 ao cap ⟨#[]⟩ w).mono ?_;rintro e w' ⟨rfl,rfl⟩;exact⟨rfl,Below.refl _ _⟩
 ·cases ao with
  |none=>
   have:=hnone rfl;simp[zj]at this;subst this;simp at h0
  |some a=>
   have hcell:∀ (j:Nat) (x:List UInt8),l[j]? =some x->w.cell? (a.add j)=some (zq x):=fun j x hj=>hc a rfl j _ (by simp[zj,hj])
   obtain⟨x0,hx0⟩:∃x,l[0]? =some x:=⟨_,List.getElem?_eq_getElem (by omega)⟩;have h00:=hcell 0 x0 hx0;obtain⟨b,o,sp⟩:=a
   have hsp:sp=none:=by
    cases sp with
    |none=>rfl
    |some k=>
     simp[Addr.add,World.cell?]at h00
     split at h00 <;> simp at h00
   subst hsp
   have hblk:b<w.heap.size:=by
    have:=World.block_lt_of_cell? w _ h00;simpa[Addr.add]using this
   have hm:(l.map fun x=>(⟨x.toArray⟩:ByteArray)).map (·.data.toList)=l:=by
    rw[List.map_map];exact List.map_id'' (fun x=>by simp) l
   have hj:Lib.join ((l.map fun x=>(⟨x.toArray⟩:ByteArray)).map (·.data.toList)) (⟨#[]⟩:ByteArray).data.toList=l.flatten:=by
    rw[hm];exact zoK l
   have key:=Any.strings_Join Tryz.lays156 Tryz.Builder_Extra_156 b o cap (l.map fun x=>(⟨x.toArray⟩:ByteArray)) ⟨#[]⟩ w (fun j x hx=>by
    simp only[List.getElem?_map,Option.map_eq_some_iff]at hx;obtain⟨y,hy,rfl⟩:=hx;have:=hcell j y hy
    rwa [Addr.add_lit]at this) hblk (by rw[List.length_map];omega) (by rw[List.length_map];exact hcap) (by rw[hj];omega)
   rw[hj,List.length_map]at key;exact key
end Go.Proofs.YtbnafihigoekeaaGreatDoor

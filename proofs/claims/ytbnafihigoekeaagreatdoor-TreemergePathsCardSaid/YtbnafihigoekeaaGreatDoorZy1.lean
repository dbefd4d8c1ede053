/-
  TmTu TmPa, part 1.
-/
import Derived.Test.YtbnafihigoekeaaGreatDoorZt43
namespace Go.Proofs.YtbnafihigoekeaaGreatDoor
open Go.RowKit
section
variable{α:Type}(E:Enc α)
variable{E}
end
section
variable{α:Type}{E:Enc α}{P:Program}{w:World}
theorem jz{ops:Array Oper}{rest:List Oper}{o:Oper}{a:Act}{Q:Exit->Act->World->Prop}(hgd:o.guard=none)(s sx:Operand)(t e:TypeId)
  (ho:o.op= .call {callee:= .builtin .append,args:= #[s,sx],argTypes:= #[t,t] })
  (ht:P.underlying t=some (.slice e)) {ti:TypeInfo} (hi:P.info? e=some ti) {z:Value} (hz:ti.zero=some z) (hs:ti.size=E.k) (hby:ti.bytes<=1000) (hzs:z.cells.size=E.k)
  (base:Nat) (v:Value) (xs ys:List α) (he:a.eval s=v) (hown:w.ownsRow base e E.k v xs.length (zO E xs)) (u:Value) (hx:a.eval sx=u) (hu:zy E w u ys)
  (hlen:xs.length+ys.length<=100000000) (hbase:base<=w.heap.size)
  (h:∀v' w',w'.ownsRow base e E.k v' (xs++ys).length (zO E (xs++ys))->Below base w w'->wpList P ops Q rest (a.put o.dst v') w'):wpList P ops Q (o::rest) a w:=by
 have hb:(xs.length+ys.length)*ti.bytes<=140737488355328:=Nat.le_trans (Nat.mul_le_mul_left _ hby) (by omega)
 refine yd w hgd s sx _ _ ho base e ti z E.k ti.bytes ht hi hz hs rfl hzs E.pos v _ _ he hown u ys.length _ hx (hu.src ht) (by unfold maxLen;omega) hb hbase fun v' w' h2 h3 h4=>h v' w' ?_ ?_
 ·rw[List.length_append,xA]
  exact h2
 ·exact(Below.refl base w).grown h3 hbase (fun j hj=>(hown.lt j hj).1)
end
open Go.RowKit
section
variable{w:World}
theorem zt{ops:Array Oper}{rest:List Oper}{o:Oper}{a:Act}{Q:Exit->Act->World->Prop}(hgd:o.guard=none)(s sx:Operand)
  (ho:o.op= .call {callee:= .builtin .append,args:= #[s,sx],argTypes:= #[22,22] })
  (base:Nat) (v:Value) (xs ys:List zg) (he:a.eval s=v) (hown:zI w base v xs) (u:Value) (hx:a.eval sx=u) (hu:yM w u ys)
  (hlen:xs.length+ys.length<=100000000) (hbase:base<=w.heap.size)
  (h:∀v' w',zI w' base v' (xs++ys)->Below base w w'->wpList Tryz.prog ops Q rest (a.put o.dst v') w'):wpList Tryz.prog ops Q (o::rest) a w:=by
 obtain⟨i0,hi0,hi1,hi2,hi3⟩:=info_parts Tryz.infoFile;exact jz (E:=jh) hgd s sx 22 28 ho Tryz.underlying22 hi0 hi1 hi2 (by rw[hi3];omega) rfl base v xs ys he hown u hx hu hlen hbase h
end
section
variable{α:Type}
end
section
variable{α:Type} [DecidableEq α]
end
section
variable{α:Type}
theorem GQ.keepO{b o t:List α}{s1 s2:List (Int × α)}{I:List (It α)}(h:GQ b o t s1 s2 I)(hs:∀e∈s1,e.1=1)(hbo:o=b):zhl (fun b o _ =>o=b) I:=by
 induction h with
 |done b o t=>exact zhl.one hbo
 |insO _ ih=>exact absurd (hs _ (List.mem_cons_self ..)) (by simp)
 |insT _ ih=>exact ih hs hbo
 |firm _ ih=>exact zhl.cons hbo (ih (fun e he=>hs e (List.mem_cons_of_mem _ he)) rfl)
 |ko _ ih=>exact ih (fun e he=>hs e (List.mem_cons_of_mem _ he)) (by rw[hbo])
 |kt _ ih=>exact absurd (hs _ (List.mem_cons_self ..)) (by simp)
 |kd _ ih=>exact absurd (hs _ (List.mem_cons_self ..)) (by simp)
theorem GQ.turn{b o t:List α}{s1 s2:List (Int × α)}{I:List (It α)}(h:GQ b o t s1 s2 I):GQ b t o s2 s1 (I.map zst):=by
 induction h with
 |done b o t=>exact .done b t o
 |insO _ ih=>exact .insT ih
 |insT _ ih=>exact .insO ih
 |firm _ ih=>exact .firm ih
 |ko _ ih=>exact .kt ih
 |kt _ ih=>exact .ko ih
 |kd _ ih=>exact .kd ih
theorem zhl.turn{P:List α->List α->List α->Prop}{I:List (It α)}(h:zhl (fun b o t=>P b t o) (I.map zst)):zhl P I:=fun b o t hm=>h b t o (List.mem_map.2 ⟨_,hm,rfl⟩)
theorem GQ.keepT{b o t:List α}{s1 s2:List (Int × α)}{I:List (It α)}(h:GQ b o t s1 s2 I)(hs:∀e∈s2,e.1=1)(hbo:t=b):zhl (fun b _ t=>t=b) I:=
 zhl.turn (h.turn.keepO hs hbo)
theorem zkt{o p:List α}(b:List α)(q:Nat)(bs:List α)(xs:List Int)(h:o=p):zhl (fun _ o t=>o=t) (xn o p b q q bs xs xs):=by
 subst h
 induction bs generalizing b q xs with
 |nil=>cases xs <;> exact zhl.one rfl
 |cons z bs ih=>
  cases xs with
  |nil=>exact zhl.one rfl
  |cons x xs=>
   rw[xn]
   split
   ·exact ih _ _ _
   ·exact zhl.cons rfl (ih _ _ _)
end
section
variable{α:Type}
theorem zhl.head{P:List α->List α->List α->Prop}{b o t:List α}{I:List (It α)}(h:zhl P (.gap b o t::I)):P b o t:=h b o t (List.mem_cons_self ..)
theorem zfs(p:Ck α->Bool)(hp:∀r:List α,p (1,r,r,r)=true)(run:List α):(zal run).all p=true:=by
 unfold zal
 split
 ·rfl
 ·simp[hp]
end
section
variable{α:Type} [DecidableEq α]
theorem zw{I:List (It α)}(h:zhl (fun b o t=>yg b o t≠5) I):∀run,xI (zR run I)=true:=by
 unfold xI
 induction I with
 |nil=>exact fun run=>zfs _ (fun _ =>rfl) run
 |cons x I ih=>
  intro run
  cases x with
  |line z=>exact ih h.tail _
  |gap b o t=>
   rw[zR]
   split
   ·exact ih h.tail _
   ·rw[List.all_append,List.all_cons,zfs _ (fun _ =>rfl),ih h.tail]
    simpa using h.head
theorem zlF{I:List (It α)}(h:zhl (fun b o _ =>o=b) I):itM I=itT I:=by
 induction I with
 |nil=>rfl
 |cons x I ih=>
  cases x with
  |line z=>rw[itM,itT,ih h.tail]
  |gap b o t=>rw[itM,itT,ih h.tail,if_pos (by rw[yg,if_pos h.head])]
theorem zrO{I:List (It α)}(h:zhl (fun b _ t=>t=b) I):itM I=itO I:=by
 induction I with
 |nil=>rfl
 |cons x I ih=>
  cases x with
  |line z=>rw[itM,itO,ih h.tail]
  |gap b o t=>
   rw[itM,itO,ih h.tail]
   split
   ·rename_i hk
    unfold yg at hk
    split at hk
    ·rename_i e;rw[show t=b from h.head,e]
    ·rw[if_pos h.head]at hk;cases hk
   ·rfl
theorem zrP{I:List (It α)}(h:zhl (fun _ o t=>o=t) I):itM I=itO I:=by
 induction I with
 |nil=>rfl
 |cons x I ih=>
  cases x with
  |line z=>rw[itM,itO,ih h.tail]
  |gap b o t=>
   rw[itM,itO,ih h.tail,show o=t from h.head]
   split <;> rfl
theorem zta{b o t:List α}(h:o=b):yg b o t≠5:=by rw[yg,if_pos h];decide
theorem zsZ{b o t:List α}(h:t=b):yg b o t≠5:=by
 unfold yg
 split
 ·decide
 ·first |decide |(rw[if_pos h];decide)
theorem zrj(a:List α):kJ a a=a.map fun x=>((1:Int),x):=by
 induction a with
 |nil=>rfl
 |cons x a ih=>rw[kG,if_pos rfl,ih];rfl
theorem zqk(a:List α):∀e∈kJ a a,e.1=1:=by
 rw[zrj];intro e he;obtain⟨x,_,rfl⟩:=List.mem_map.1 he
 rfl
end
section
variable{α:Type} [DecidableEq α]
theorem kn{a b c:List α}{I:List (It α)}(hI:GQ [] [] [] (zU a b) (zU a c) I):yn a b c=zR [] I:=by
 obtain⟨k1,s1,t1,_⟩:=yr a b;obtain⟨k2,s2,t2,_⟩:=yr a c;have h:=hI.places (ours:=b) (theirs:=c) 0 0 0 0 rfl rfl (by rw[t1];rfl) (by rw[t2];rfl);rw[s1]at h;unfold yn yi;rw[h]
end
open Go.RowKit
section
variable{w:World}
theorem zsh.turn{w:World}{base:Nat}{v u:Value}{xs ys:List (List UInt8)}(h:zsh w base v u xs ys):zsh w base u v ys xs:=⟨h.two,h.one,fun g h1 h2=>h.apart g h2 h1⟩
end
section
variable{α:Type} [DecidableEq α]
theorem yt:∀a:List α,∀e∈zU a a,e.1=1
 | []=>by
  rw[qX];unfold qh
  split
  ·simp
  ·exact zqk []
 |x::a=>by
  rw[zaI,if_pos rfl];intro e he
  rcases List.mem_cons.1 he with rfl |he
  ·rfl
  ·exact yt a e he
theorem xo(a b:List α):(xI (yn a a b)=true/\zG (yn a a b)=b)/\(xI (yn a b a)=true/\zG (yn a b a)=b):=by
 refine⟨?_,?_⟩
 ·obtain⟨I,hI,he⟩:=zfo a a b
  have hg:=hI.keepO (yt a) rfl;rw[he,(zlm I []).2.2.2,zlF hg,hI.sides.2.2,(yr a b).2.2.1];exact⟨zw (fun b o t hm=>zta (hg b o t hm)) [],rfl⟩
 ·obtain⟨I,hI,he⟩:=zfo a b a
  have hg:=hI.keepT (yt a) rfl;rw[he,(zlm I []).2.2.2,zrO hg,hI.sides.2.1,(yr a b).2.2.1];exact⟨zw (fun b o t hm=>zsZ (hg b o t hm)) [],rfl⟩
end
theorem zcD(a b:Tx):jJ a a b=(b,true):=by
 obtain⟨⟨c1,m1⟩,_⟩:=xo (zn a) (zn b);rw[jJ,if_pos c1,m1,zcc]
theorem zow(a b:Tx):jJ a b a=(b,true):=by
 obtain⟨_,c1,m1⟩:=xo (zn a) (zn b);rw[jJ,if_pos c1,m1,zcc]
section
variable{α:Type} [DecidableEq α]
theorem jm{I:List (It α)}:∀run,xI (zR run I)=true->zhl (fun b o t=>yg b o t≠5) I:=by
 induction I with
 |nil=>intro run _ b o t hm;cases hm
 |cons x I ih=>
  intro run h
  cases x with
  |line z=>
   rw[zR]at h;intro b o t hm
   rcases List.mem_cons.1 hm with e |hm
   ·cases e
   ·exact ih _ h b o t hm
  |gap b o t=>
   rw[zR]at h;intro b' o' t' hm
   split at h
   ·rename_i he
    rcases List.mem_cons.1 hm with e |hm
    ·cases e
     rw[he.1,he.2.1,yg,if_pos rfl]
     decide
    ·exact ih _ h b' o' t' hm
   ·unfold xI at h
    rw[List.all_append,List.all_cons,Bool.and_eq_true,Bool.and_eq_true]at h
    rcases List.mem_cons.1 hm with e |hm
    ·cases e
     simpa using h.2.1
    ·exact ih _ h.2.2 b' o' t' hm
theorem jl(b o t:List α):yg b t o=5 ↔ yg b o t=5:=by
 unfold yg
 by_cases h1:o=b
 ·by_cases h2:t=b
  ·simp[h1,h2]
  ·simp[h1,h2]
 ·by_cases h2:t=b
  ·simp[h1,h2]
  ·by_cases h3:o=t
   ·simp[h3,h2]
   ·have h4:¬t=o:=fun q=>h3 q.symm
    simp[h1,h2,h3,h4]
theorem qx{I:List (It α)}(h:zhl (fun b o t=>yg b o t≠5) I):zhl (fun b o t=>yg b o t≠5) (I.map zst):=by
 intro b o t hm;obtain⟨x,hx,e⟩:=List.mem_map.1 hm
 cases x with
 |line z=>cases e
 |gap b' o' t'=>
  cases e
  exact fun h5=>h _ _ _ hx ((jl _ _ _).1 h5)
theorem zqT{I:List (It α)}(h:zhl (fun b o t=>yg b o t≠5) I):itM (I.map zst)=itM I:=by
 induction I with
 |nil=>rfl
 |cons x I ih=>
  cases x with
  |line z=>rw[List.map_cons,zst,itM,itM,ih h.tail]
  |gap b o t=>
   rw[List.map_cons,zst,itM,itM,ih h.tail]
   congr 1
   have h5:=h.head;unfold yg at h5 ⊢
   by_cases h1:o=b
   ·by_cases h2:t=b
    ·simp[h1,h2]
    ·simp[h1,h2]
   ·by_cases h2:t=b
    ·simp[h1,h2]
    ·by_cases h3:o=t
     ·simp[h3,h2]
     ·simp[h1,h2,h3]at h5
theorem zfq(a b c:List α):xI (yn a c b)=xI (yn a b c)/\(xI (yn a b c)=true->zG (yn a c b)=zG (yn a b c)):=by
 obtain⟨I,hI,he⟩:=zfo a b c;have he2:yn a c b=zR [] (I.map zst):=kn hI.turn
 have hback:(I.map zst).map zst=I:=by
  rw[List.map_map];refine(List.map_congr_left fun x _ =>?_).trans (List.map_id I)
  cases x <;> rfl
 rw[he,he2]
 constructor
 ·rw[Bool.eq_iff_iff]
  refine⟨fun h=>?_,fun h=>?_⟩
  ·have:=qx (jm [] h)
   rw[hback]at this;exact zw this []
  ·exact zw (qx (jm [] h)) []
 ·intro h
  rw[(zlm _ []).2.2.2,(zlm _ []).2.2.2,zqT (jm [] h)]
end
theorem qk(b o t:Tx):(jJ b t o).2=(jJ b o t).2/\((jJ b o t).2=true->(jJ b t o).1=(jJ b o t).1):=by
 obtain⟨h1,h2⟩:=zfq (zn b) (zn o) (zn t);unfold jJ;rw[h1]
 constructor
 ·split <;> rfl
 ·intro h
  by_cases hc:xI (yn (zn b) (zn o) (zn t))=true
  ·rw[if_pos hc,if_pos hc,h2 hc]
  ·rw[if_neg hc]at h
   cases h
def jj(c:Ck Tx):Nat:=c.2.1.flatten.length+c.2.2.1.flatten.length+c.2.2.2.flatten.length
def zp(L:List (Ck Tx)):Nat:=L.countP fun c=>c.1==5
theorem zfm(s:Tx):(yA s).length<=s.length+1:=by
 unfold yA
 split <;> simp
theorem yw:∀ (L:List (Ck Tx)) (out:Tx),(yl out L).length<=out.length +(L.map jj).sum+53*zp L
 | [],out=>by simp[yl,zp]
 |c::L,out=>by
  rw[yl]
  have hm:mk0.length=13/\mk1.length=13/\mk2.length=8/\mk3.length=15:=by decide
  split
  ·rename_i h
   refine Nat.le_trans (yw L _) ?_;have e0:=zfm out;have e1:=zfm c.2.2.1.flatten;have e2:=zfm c.2.1.flatten;have e3:=zfm c.2.2.2.flatten
   have hc:zp (c::L)=zp L+1:=by unfold zp;rw[List.countP_cons_of_pos (by simp[h])]
   rw[hc,List.map_cons,List.sum_cons];simp only[List.length_append,hm.1,hm.2.1,hm.2.2.1,hm.2.2.2];unfold jj;omega
  ·rename_i h
   refine Nat.le_trans (yw L _) ?_
   have hc:zp (c::L)=zp L:=by unfold zp;rw[List.countP_cons_of_neg (by simpa using h)]
   have h1:(jK c).flatten.length<=jj c:=by
    unfold jK jj
    split <;> omega
   rw[hc,List.map_cons,List.sum_cons,List.length_append];omega
theorem kz:∀ (L:List (Ck Tx)),(zG L).flatten.length<=(L.map jj).sum
 | []=>by simp[zG]
 |c::L=>by
  have ih:=kz L;unfold zG at ih ⊢;rw[List.flatMap_cons,List.flatten_append,List.length_append,List.map_cons,List.sum_cons]
  have h1:(if c.1=3 then c.2.2.2 else c.2.2.1).flatten.length<=jj c:=by
   unfold jj
   split <;> omega
  omega
theorem zpo(b o t:Tx):(jJ b o t).1.length<=b.length+o.length+t.length+53*zp (yn (zn b) (zn o) (zn t)):=by
 obtain⟨h1,h2,h3,_⟩:=zaL (zn b) (zn o) (zn t)
 have hs:((yn (zn b) (zn o) (zn t)).map jj).sum=b.length+o.length+t.length:=by
  have e:∀L:List (Ck Tx),(L.map jj).sum=(L.flatMap (·.2.1)).flatten.length +(L.flatMap (·.2.2.1)).flatten.length +(L.flatMap (·.2.2.2)).flatten.length:=by
   intro L
   induction L with
   |nil=>rfl
   |cons c L ih=>
    rw[List.map_cons,List.sum_cons,ih];simp only[List.flatMap_cons,List.flatten_append,List.length_append];unfold jj;omega
  rw[e,h1,h2,h3,zcc,zcc,zcc]
 unfold jJ
 split
 ·have:=kz (yn (zn b) (zn o) (zn t))
  simp only;omega
 ·have:=yw (yn (zn b) (zn o) (zn t)) []
  simp only[List.length_nil]at this ⊢;omega
section
variable{α:Type} [DecidableEq α]
def yo:List (It α)->Nat
 | []=>0
 | .gap _ _ _::r=>yo r
 | .line _::r=>yo r+1
def zc:List (It α)->Nat
 | []=>0
 | .gap b o t::r=>zc r +(if yg b o t=5 then 1 else 0)
 | .line _::r=>zc r
theorem qs{b o t:List α}(h:yg b o t=5):o≠b/\t≠b/\o≠t:=by
 unfold yg at h
 by_cases h1:o=b
 ·simp[h1]at h
 ·by_cases h2:t=b
  ·simp[h1,h2]at h
  ·by_cases h3:o=t
   ·rw[if_neg h1,if_neg h2,if_pos h3]at h
    simp at h
   ·exact⟨h1,h2,h3⟩
theorem ka:∀I:List (It α),3*yo I+2*zc I<=(itB I).length +(itO I).length +(itT I).length
 | []=>by simp[yo,zc]
 | .line z::I=>by
  have:=ka I;simp only[yo,zc,itB,itO,itT,List.length_cons];omega
 | .gap b o t::I=>by
  have:=ka I;simp only[yo,zc,itB,itO,itT,List.length_append]
  split
  ·rename_i h
   obtain⟨h1,h2,h3⟩:=qs h
   have:2<=b.length+o.length+t.length:=by
    cases b with
    |nil=>
     have ho:0<o.length:=List.length_pos_iff.2 h1;have ht:0<t.length:=List.length_pos_iff.2 h2;omega
    |cons x b=>
     cases o with
     |nil=>
      have ht:0<t.length:=List.length_pos_iff.2 fun e=>h3 e.symm
      simp only[List.length_cons];omega
     |cons y o=>
      simp only[List.length_cons];omega
   omega
  ·omega
end
section
variable{α:Type} [DecidableEq α]
theorem xw:∀I:List (It α),zc (I.map zst)=zc I
 | []=>rfl
 | .line z::I=>by rw[List.map_cons,zst,zc,zc,xw I]
 | .gap b o t::I=>by
  rw[List.map_cons,zst,zc,zc,xw I]
  congr 1
  by_cases h:yg b o t=5
  ·rw[if_pos h,if_pos ((jl b o t).2 h)]
  ·rw[if_neg h,if_neg fun q=>h ((jl b o t).1 q)]
theorem zsW{b o t:List α}{s1 s2:List (Int × α)}{I:List (It α)}(h:GQ b o t s1 s2 I):zc I<=yo I+1:=by
 induction h with
 |done b o t=>simp only[zc,yo];split <;> omega
 |insO _ ih=>exact ih
 |insT _ ih=>exact ih
 |firm _ ih=>simp only[zc,yo];split <;> omega
 |ko _ ih=>exact ih
 |kt _ ih=>exact ih
 |kd _ ih=>exact ih
omit [DecidableEq α] in
theorem ya(k:Int){r s:List (Int × α)}(h:r <:+ s):(zW k r).length<=(zW k s).length:=by
 obtain⟨p,rfl⟩:=h;rw[zK,List.length_append];omega
omit [DecidableEq α] in
theorem zrL{b o t:List α}{s1 s2:List (Int × α)}{I:List (It α)}(h:GQ b o t s1 s2 I):(∃b' o' t',I=[.gap b' o' t'])∨∃b' o' t' z r1 r2 J,I= .gap b' o' t':: .line z::J/\GQ [] [] [] r1 r2 J/\r1 <:+ s1/\r2 <:+ s2:=by
 induction h with
 |done b o t=>exact .inl ⟨_,_,_,rfl⟩
 |insO _ ih=>
  rcases ih with ih |⟨b',o',t',z,r1,r2,J,e,g,h1,h2⟩
  ·exact .inl ih
  ·exact .inr ⟨b',o',t',z,r1,r2,J,e,g,h1.trans (List.suffix_cons _ _),h2⟩
 |insT _ ih=>
  rcases ih with ih |⟨b',o',t',z,r1,r2,J,e,g,h1,h2⟩
  ·exact .inl ih
  ·exact .inr ⟨b',o',t',z,r1,r2,J,e,g,h1,h2.trans (List.suffix_cons _ _)⟩
 |firm g _ =>exact .inr ⟨_,_,_,_,_,_,_,rfl,g,List.suffix_cons _ _,List.suffix_cons _ _⟩
 |ko _ ih |kt _ ih |kd _ ih=>
  rcases ih with ih |⟨b',o',t',z,r1,r2,J,e,g,h1,h2⟩
  ·exact .inl ih
  ·exact .inr ⟨b',o',t',z,r1,r2,J,e,g,h1.trans (List.suffix_cons _ _),h2.trans (List.suffix_cons _ _)⟩
theorem zsY{b o t:List α}{s1 s2:List (Int × α)}{I:List (It α)}(h:GQ b o t s1 s2 I):5*zc I<=(zW 2 s1).length +(zW 3 s1).length +(zW 3 s2).length+8:=by
 rcases zrL h with⟨b',o',t',rfl⟩ |⟨b',o',t',z,r1,r2,J,rfl,g,h1,h2⟩
 ·simp only[zc]
  split <;> omega
 ·have e1:=ka J
  have e2:=zsW g;obtain⟨f1,f2,f3⟩:=g.sides;rw[f1,f2,f3]at e1;simp only[List.nil_append]at e1;have g1:=ya 2 h1;have g2:=ya 3 h1;have g3:=ya 3 h2;simp only[zc]
  split <;> omega
theorem kp:∀ (n:Nat) (p b t:List α) (r1 s2:List (Int × α)) (I:List (It α)),p.length+s2.length<=n->GQ b b t ((p.map fun x=>(1,x))++r1) s2 I->
  ∃b' t' s2' J,GQ b' b' t' r1 s2' J/\zc I=zc J/\s2' <:+ s2
 | _,[],b,t,r1,s2,I,_,h=>⟨b,t,s2,I,h,rfl,List.suffix_refl _⟩
 |0,x::p,b,t,r1,s2,I,hn,h=>by simp at hn
 |n+1,x::p,b,t,r1,s2,I,hn,h=>by
  rw[List.map_cons,List.cons_append]at h;simp only[List.length_cons]at hn
  cases h with
  | @insT _ _ _ z _ s2 I g=>
   obtain⟨b',t',s2',J,q1,q2,q3⟩:=kp n (x::p) b (t++[z]) r1 s2 I (by simp only[List.length_cons]at hn ⊢;omega) (by rw[List.map_cons,List.cons_append];exact g);exact⟨b',t',s2',J,q1,q2,q3.trans (List.suffix_cons _ _)⟩
  | @firm _ _ _ z _ s2 I g=>
   obtain⟨b',t',s2',J,q1,q2,q3⟩:=kp n p [] [] r1 s2 I (by simp only[List.length_cons]at hn;omega) g;refine⟨b',t',s2',J,q1,?_,q3.trans (List.suffix_cons _ _)⟩;simp only[zc];rw[if_neg (by rw[yg,if_pos rfl];decide),q2]
   rfl
  | @ko _ _ _ z _ s2 I g=>
   obtain⟨b',t',s2',J,q1,q2,q3⟩:=kp n p (b++[x]) t r1 s2 I (by simp only[List.length_cons]at hn;omega) g;exact⟨b',t',s2',J,q1,q2,q3.trans (List.suffix_cons _ _)⟩
theorem jw:∀a b:List α,∃p a1 b1,a=p++a1/\b=p++b1/\zU a b=(p.map fun x=>(1,x))++qh a1 b1
 | [],b=>⟨[],[],b,rfl,rfl,by rw[qX];rfl⟩
 |x::a,[]=>⟨[],x::a,[],rfl,rfl,by rw[qF];rfl⟩
 |x::a,y::b=>by
  by_cases h:x=y
  ·subst h
   obtain⟨p,a1,b1,h1,h2,h3⟩:=jw a b;exact⟨x::p,a1,b1,by rw[h1];rfl,by rw[h2];rfl,by rw[zaI,if_pos rfl,h3];rfl⟩
  ·exact⟨[],x::a,y::b,rfl,rfl,by rw[zaI,if_neg h];rfl⟩
theorem qw{a b:List α}(h:zaf a b):∀e∈qh a b,e.1≠1:=by
 unfold qh;rw[if_pos h];intro e he
 rcases List.mem_append.1 he with h |h
 ·obtain⟨x,_,rfl⟩:=List.mem_map.1 h
  simp
 ·obtain⟨x,_,rfl⟩:=List.mem_map.1 h
  simp
omit [DecidableEq α] in
theorem zke{a b:List α}(h:¬zaf a b):a.length<=400/\b.length<=400:=by
 unfold zaf at h;simp at h;omega
theorem zgL{b o t:List α}:zc [It.gap b o t]<=1:=by
 simp only[zc]
 split <;> omega
theorem kf{a b c:List α}{I:List (It α)}(hc:zU a c=qh a c)(h:GQ [] [] [] (zU a b) (zU a c) I):zc I<=241:=by
 obtain⟨p,a1,b1,ea,eb,es⟩:=jw a b;rw[hc]at h
 by_cases lc:zaf a c
 ·have:=h.turn.none (qw lc)
  have h2:=xw I;rw[this]at h2;rw[<-h2];exact Nat.le_trans zgL (by omega)
 ·obtain⟨la,lc2⟩:=zke lc
  rw[es]at h;obtain⟨b',t',s2',J,g,e1,e2⟩:=kp _ p [] [] _ _ I (Nat.le_refl _) h;rw[e1]
  by_cases lb:zaf a1 b1
  ·rw[g.none (qw lb)]
   exact Nat.le_trans zgL (by omega)
  ·obtain⟨l1,l2⟩:=zke lb
   have:=zsY g;rw[(zfB a1 b1).2.1,(zfB a1 b1).2.2.1]at this;have h3:=ya 3 e2;rw[(zfB a c).2.2.1]at h3;omega
theorem kk{x:α}{a b:List α}(h:∀r,b≠x::r):zU (x::a) b=qh (x::a) b:=by
 cases b with
 |nil=>exact qF _
 |cons y b=>rw[zaI,if_neg fun e=>h b (by rw[e])]
theorem zjZ:∀ (a b c:List α) (I:List (It α)),GQ [] [] [] (zU a b) (zU a c) I->zc I<=241
 | [],b,c,I,h=>kf (qX c) h
 |x::a,b,c,I,h=>by
  by_cases hc:∃r,c=x::r
  ·by_cases hb:∃r,b=x::r
   ·obtain⟨c,rfl⟩:=hc
    obtain⟨b,rfl⟩:=hb;rw[zaI,if_pos rfl,zaI,if_pos rfl]at h
    cases h with
    |firm g=>
     have:=zjZ a b c _ g;simp only[zc];rw[if_neg (by rw[yg,if_pos rfl];decide)];exact this
   ·rw[<-xw I]
    exact kf (kk fun r e=>hb ⟨r,e⟩) h.turn
  ·exact kf (kk fun r e=>hc ⟨r,e⟩) h
end
theorem zbZ(run:List Tx):zp (zal run)=0:=by
 unfold zal zp
 split <;> simp
theorem zet(l m:List (Ck Tx)):zp (l++m)=zp l+zp m:=List.countP_append
theorem yp:∀ (I:List (It Tx)) (run:List Tx),zp (zR run I)<=zc I
 | [],run=>by rw[zR,zbZ];omega
 | .line z::I,run=>by rw[zR];exact yp I _
 | .gap b o t::I,run=>by
  rw[zR]
  split
  ·have:=yp I run
   simp only[zc];omega
  ·have:=yp I []
   rw[zet,zbZ];simp only[zc]
   by_cases h:yg b o t=5
   ·have:zp ((yg b o t,b,o,t)::zR [] I)=zp (zR [] I)+1:=by unfold zp;rw[List.countP_cons_of_pos (by simp[h])]
    rw[if_pos h];omega
   ·have:zp ((yg b o t,b,o,t)::zR [] I)=zp (zR [] I):=by unfold zp;rw[List.countP_cons_of_neg (by simpa using h)]
    rw[if_neg h];omega
theorem znC(b o t:Tx):(jJ b o t).1.length<=b.length+o.length+t.length+12773:=by
 have h:=zpo b o t;obtain⟨I,hI,he⟩:=zfo (zn b) (zn o) (zn t);have h1:=yp I [];have h2:=zjZ _ _ _ I hI;rw[he]at h;omega
open Go.RowKit Go.WideShapes Go.ChangeShapes
section
variable{H:Type}{enc:TypeId × Value->H}{P:Program}{w:World}{base:Nat}{spare:Nat->Bool}{held:Bool}
theorem zrK{r:Reach}{b0:Nat}{t:TypeId}{v:Value}{d:DataW H}{ps:List MemPlace}(ht:P.underlying t=some .string)(hval:Value.okWide P w r b0 t v)(hd:DataW.Trod enc P w base spare held t v d ps):
  ∃l:List UInt8,v=zq l/\d= .lit (.string l)/\ps=[]/\l.length<=maxLen:=by
 obtain⟨s,rfl,rfl,rfl,hs⟩:=Go.ChangeMaps.open_string ht hval hd;refine⟨s.data.toList,?_,rfl,rfl,znB hs⟩;simp[zq]
end
theorem ztc{a b c:List zg}{M:List zg}{C:List yK}(ta:zT a)(tb:zT b)(tc:zT c)(h:tmW a b c (yj a b) (yj a c)=(M,C))(hm:zT (xu M)):tmT a b c=(xu M,qY C,0):=by
 unfold tmT tmS;rw[if_pos ⟨(yY a).2 ta,(yY b).2 tb,(yY c).2 tc⟩,h,if_pos ((yY _).2 hm)]
section
variable{a b:List zg}{R:List jQ}
def ztd(a b:List zg)(R:List jQ):List zg:=a.filterMap (fun x=>yU x.1 b R)++zN a b R
theorem zrc{f:zg}:f∈zN a b R ↔ f∈b/\zz a f.1=none/\∀r∈R,r.2≠f.1:=by
 unfold zN;rw[List.mem_filter];unfold zcf;simp
end
theorem ku{α β:Type}{f g:β->α->β}:∀ (l:List α) (s:β),(∀x∈l,∀s,f s x=g s x)->l.foldl f s=l.foldl g s
 | [],_,_ =>rfl
 |x::l,s,h=>by rw[List.foldl_cons,List.foldl_cons,h x (List.mem_cons_self ..),ku l _ fun y hy=>h y (List.mem_cons_of_mem _ hy)]
theorem kl(x y:zg):zdh x x y=y/\zdI x x y=0:=by
 unfold zdh zdI;rw[zcD];simp
theorem ql(x y:zg):zdh x y x=y/\zdI x y x=0:=by
 unfold zdh zdI;rw[zow];obtain⟨y1,y2,y3⟩:=y
 constructor
 ·simp only
  refine Prod.ext ?_ (Prod.ext ?_ rfl)
  ·simp only
   split
   ·rename_i h;exact h.symm
   ·rfl
  ·simp only
   split
   ·rename_i h;exact h.symm
   ·rfl
 ·simp
section
variable{α:Type} [DecidableEq α]
theorem zlE(o t:List α):yn [] o t=if o=[]/\t=[]then []else [(yg [] o t,[],o,t)]:=by
 unfold yn
 have e:xn o t [] 0 0 [] (yi [] o) (yi [] t)=[.gap [] o t]:=by simp[xn]
 rw[e];simp[zR,zal]
end
theorem qo(s:Tx):(yA s).length<=s.length+1:=by
 unfold yA
 split <;> simp
theorem zqr:zn []=[]:=by
 have h:=zcc [];have h2:=yL [];simpa using h2
theorem zsq(x y:Tx):(jJ [] x y).1.length<=x.length+y.length+60:=by
 unfold jJ;rw[zqr,zlE]
 split
 ·simp[xI,zG]
 ·split
  ·simp only[zG,List.flatMap_cons,List.flatMap_nil,List.append_nil]
   split
   ·rw[zcc];omega
   ·rw[zcc];omega
  ·rename_i h
   have h5:yg [] (zn x) (zn y)=5:=by
    by_cases h5:yg [] (zn x) (zn y)=5
    ·exact h5
    ·exact absurd (by simp[xI,h5]) h
   simp only[yl,h5,if_true,zcc];have h1:=qo x;have h2:=qo y
   have h0:(yA []).length=0:=by simp[yA]
   have k0:mk0.length=13:=rfl;have k1:mk1.length=13:=rfl;have k2:mk2.length=8:=rfl
   have k3:mk3.length<=20:=by decide
   simp only[List.length_append,List.flatten_nil,h0,k0,k1,k2];omega
theorem zx{α β:Type}{I:β->Prop}{f:β->α->β}:∀ (l:List α) (b:β),(∀b,∀a∈l,I b->I (f b a))->I b->I (l.foldl f b)
 | [],_,_,hb=>hb
 |a::l,b,h,hb=>zx l _ (fun b a ha=>h b a (List.mem_cons_of_mem _ ha)) (h b a (List.mem_cons_self ..) hb)
def OkW(s:jP):Prop:=∀f∈s.1,jW f=true
theorem yc{s:jP}(h:OkW s){f:zg}(hf:jW f=true)(k:Int):OkW (jq s f k):=by
 unfold jq
 split
 ·exact h
 ·intro x hx
  rcases List.mem_append.1 hx with hx |hx
  ·exact h x hx
  ·rw[List.mem_singleton.1 hx]
   exact hf
theorem yb{f:zg}:jW f=true ↔ yZ f.1=true/\f.2.2.length<=20000:=by
 unfold jW;rw[Bool.and_eq_true,decide_eq_true_eq]
theorem zpW{x o t:zg}(hx:x.2.2.length<=2000)(ho:jW o=true)(ht:jW t=true)(ho2:o.2.2.length<=2000)(ht2:t.2.2.length<=2000):jW (zdh x o t)=true:=by
 refine yb.2 ⟨?_,?_⟩
 ·show yZ (if o.1=x.1 then t.1 else o.1)=true
  split
  ·exact(yb.1 ht).1
  ·exact(yb.1 ho).1
 ·have:=znC x.2.2 o.2.2 t.2.2
  show(jJ x.2.2 o.2.2 t.2.2).1.length<=20000;omega
theorem zpd{x t:zg}(hx:jW x=true)(hx2:x.2.2.length<=2000)(ht2:t.2.2.length<=2000):jW (zex x t)=true:=by
 refine yb.2 ⟨(yb.1 hx).1,?_⟩;have:=zsq x.2.2 t.2.2;show(jJ [] x.2.2 t.2.2).1.length<=20000;omega
theorem zqG{l:List zg}(h:jy l):∀x∈l,∀y∈l,x≠y->yS x.1 y.1=false:=by
 induction l with
 |nil=>intro x hx;cases hx
 |cons z l ih=>
  intro x hx y hy hne;unfold jy at h ih;rw[List.pairwise_cons]at h
  rcases List.mem_cons.1 hx with e1 |hx'
  ·rcases List.mem_cons.1 hy with e2 |hy'
   ·exact absurd (e1.trans e2.symm) hne
   ·rw[e1];exact h.1 y hy'
  ·rcases List.mem_cons.1 hy with e2 |hy'
   ·rw[e2,zhw];exact h.1 x hx'
   ·exact ih h.2 x hx' y hy' hne
theorem zpj{l:List zg}(hn:(l.map (·.1)).Nodup)(h:∀x∈l,∀y∈l,x≠y->yS x.1 y.1=false):jy l:=by
 rw[List.nodup_iff_pairwise_ne,List.pairwise_map]at hn
 exact hn.imp_of_mem fun {x y} hx hy hne=>h x hx y hy fun e=>hne (congrArg (fun f:zg=>f.1) e)
theorem zrN{M:List zg}(hl:M.length<=100)(ho:∀f∈M,jW f=true)(ha:jy M):zT (xu M):=by
 have hr:=zqc (zqC ha);refine⟨by rw[zgF];exact hl,fun f hf=>ho f ((znO M f).1 hf),hr,?_⟩;refine List.Pairwise.imp_of_mem (fun {x y} hx hy hxy=>?_) hr
 exact zqG ha x ((znO M x).1 hx) y ((znO M y).1 hy) fun e=>znN hxy (by rw[e])
theorem zrg{a b c:List zg}(P Q:List jQ)(tb:zT b)(tc:zT c)(la:a.length<=30)(lb:b.length<=30)(lc:c.length<=30)
  (xa:∀f∈a,f.2.2.length<=2000) (xb:∀f∈b,f.2.2.length<=2000) (xc:∀f∈c,f.2.2.length<=2000):zT (xu (tmW a b c P Q).1):=by
 refine zrN ?_ ?_ (zqa a b c P Q)
 ·have h1:=zaP a b P
  have h2:=zaP a c Q
  have fl:∀ {α:Type} {g:jP->α->jP} (hg:∀s x,(g s x).1.length<=s.1.length+1) (l:List α) (s:jP),(l.foldl g s).1.length<=s.1.length+l.length:=by
   intro α g hg l
   induction l with
   |nil=>intro s;exact Nat.le_refl _
   |cons x l ih=>
    intro s;rw[List.foldl_cons,List.length_cons];have h1:=ih (g s x);have h2:=hg s x;omega
  unfold tmW zaB;have e1:=fl (fun s x=>(zov (zN a b P) s x).1) (zN a c Q) ((zN a b P).foldl (kY (zN a c Q)) (a.foldl (fun s b'=>jV s b' (yU b'.1 b P) (yU b'.1 c Q)) ([],[])));have e2:=fl (fun s x=>(znW (zN a c Q) s x).1) (zN a b P) (a.foldl (fun s b'=>jV s b' (yU b'.1 b P) (yU b'.1 c Q)) ([],[]));have e3:=fl (fun s b'=>(qR s b' (yU b'.1 b P) (yU b'.1 c Q)).1) a ([],[]);simp only[List.length_nil]at e3;omega
 ·have h1:OkW (zaB ([],[]) a b c P Q):=by
   refine zx (I:=OkW) a ([],[]) (fun s x hx hs=>?_) (fun f hf=>by cases hf)
   have one:∀ (y:zg),jW y=true->OkW (zec s x y):=fun y hy=>by
    unfold zec
    split
    ·exact hs
    ·exact yc hs hy _
   cases ho:yU x.1 b P with
   |none=>
    cases ht:yU x.1 c Q with
    |none=>exact hs
    |some t=>exact one t (tc.ok t (ziY ht))
   |some o=>
    have mo:=ziY ho
    cases ht:yU x.1 c Q with
    |none=>exact one o (tb.ok o mo)
    |some t=>
     have mt:=ziY ht;exact yc hs (zpW (xa x hx) (tb.ok o mo) (tc.ok t mt) (xb o mo) (xc t mt)) _
  have h2:OkW ((zN a b P).foldl (kY (zN a c Q)) (zaB ([],[]) a b c P Q)):=by
   refine zx (I:=OkW) _ _ (fun s x hx hs=>?_) h1;have mx:=(List.mem_filter.1 hx).1;unfold kY
   split
   ·exact yc hs (tb.ok x mx) _
   ·rename_i t ht
    have mt:=(List.mem_filter.1 (xq ht).1).1
    split
    ·exact yc hs (tb.ok x mx) _
    ·exact yc hs (zpd (tb.ok x mx) (xb x mx) (xc t mt)) _
  refine zx (I:=OkW) _ _ (fun s x hx hs=>?_) h2;unfold zao
  split
  ·exact hs
  ·exact yc hs (tc.ok x (List.mem_filter.1 hx).1) _
theorem zeD{a b c:List zg}(ta:zT a)(tb:zT b)(tc:zT c)(la:a.length<=30)(lb:b.length<=30)(lc:c.length<=30)
  (xa:∀f∈a,f.2.2.length<=2000) (xb:∀f∈b,f.2.2.length<=2000) (xc:∀f∈c,f.2.2.length<=2000):
  tmT a b c=(xu (tmW a b c (yj a b) (yj a c)).1,qY (tmW a b c (yj a b) (yj a c)).2,0)/\zT (xu (tmW a b c (yj a b) (yj a c)).1):=
 have h:=zrg (yj a b) (yj a c) tb tc la lb lc xa xb xc
 ⟨ztc ta tb tc rfl h,h⟩
end Go.Proofs.YtbnafihigoekeaaGreatDoor

/-
  TmTl, part 17.
-/
import Derived.Test.YtbnafihigoekeaaGreatDoorZt13
import Derived.Test.YtbnafihigoekeaaGreatDoorZt11
set_option maxRecDepth 100000
set_option maxHeartbeats 4000000
namespace Go.Proofs.YtbnafihigoekeaaGreatDoor
abbrev Cor:=Nat × Nat × Nat
abbrev Rn:=Cor × Cor
def zgU(c:Cor):Cor:=(c.1+1,c.2.1+1,c.2.2+1)
def kK(l:List Rn)(i:Nat)(p q:Int):List Rn:=
 if p<0∨q<0 then l
 else match l.getLast? with
  |some r=>if r.2=(i,p.toNat,q.toNat)then l.dropLast++[(r.1,zgU (i,p.toNat,q.toNat))]else l++[((i,p.toNat,q.toNat),zgU (i,p.toNat,q.toNat))]
  |none=>[((i,p.toNat,q.toNat),zgU (i,p.toNat,q.toNat))]
def yI:Nat->List Rn->List Int->List Int->List Rn
 |i,l,p::xs,q::ys=>yI (i+1) (kK l i p q) xs ys
 | _,l,_,_ =>l
def xM:Option Rn->Nat->List Int->List Int->List Rn
 |none,i,p::xs,q::ys=>if p<0∨q<0 then xM none (i+1) xs ys else xM (some ((i,p.toNat,q.toNat),zgU (i,p.toNat,q.toNat))) (i+1) xs ys
 |some r,i,p::xs,q::ys=>if p<0∨q<0 then xM (some r) (i+1) xs ys else if r.2=(i,p.toNat,q.toNat)then xM (some (r.1,zgU (i,p.toNat,q.toNat))) (i+1) xs ys else r::xM (some ((i,p.toNat,q.toNat),zgU (i,p.toNat,q.toNat))) (i+1) xs ys
 |op,_,_,_ =>op.toList
theorem zlk(xs:List Int):∀ (ys:List Int) (i:Nat) (l:List Rn) (r:Rn),yI i (l++[r]) xs ys=l++xM (some r) i xs ys:=by
 induction xs with
 |nil=>intro ys i l r;simp[yI,xM]
 |cons p xs ih=>
  intro ys i l r
  cases ys with
  |nil=>simp[yI,xM]
  |cons q ys=>
   rw[yI,xM,kK]
   split
   ·exact ih ys (i+1) l r
   ·rw[List.getLast?_concat,List.dropLast_concat]
    simp only[]
    split
    ·exact ih ys (i+1) l _
    ·rw[ih ys (i+1) (l++[r]),List.append_assoc]
     rfl
theorem zlA(xs:List Int):∀ (ys:List Int) (i:Nat),yI i [] xs ys=xM none i xs ys:=by
 induction xs with
 |nil=>intro ys i;simp[yI,xM]
 |cons p xs ih=>
  intro ys i
  cases ys with
  |nil=>simp[yI,xM]
  |cons q ys=>
   rw[yI,xM,kK]
   split
   ·exact ih ys (i+1)
   ·exact zlk xs ys (i+1) [] _
section
variable{α:Type}
def zL(l:List α)(a b:Nat):List α:=(l.drop a).take (b-a)
theorem yQ(l:List α)(a:Nat):zL l a a=[]:=by simp[zL]
theorem qi{l:List α}{a b:Nat}{z:α}(h:a<=b)(hz:l[b]? =some z):zL l a b++[z]=zL l a (b+1):=zit h hz
theorem zbt{l:List α}{a b:Nat}(h:a<b)(hb:b<=l.length):zL l a b≠ []:=by
 intro e;have:=congrArg List.length e;simp[zL]at this;omega
theorem kE{l:List α}{a:Nat}{z:α}(hz:l[a]? =some z):zL l a (a+1)=[z]:=by
 have:=qi (Nat.le_refl a) hz;rw[yQ]at this;exact this.symm
theorem zbN{l:List α}{a b:Nat}(h:a<=b)(hb:b<=l.length):(zL l a b).length=b-a:=by simp[zL];omega
theorem zcM{l:List α}{a:Nat}:zL l a l.length=l.drop a:=by
 unfold zL;rw[List.take_of_length_le];simp
def zbH(e:Cor):Cor->List Rn->Prop
 |d,[]=>d.1<=e.1/\d.2.1<=e.2.1/\d.2.2<=e.2.2
 |d,(f,t)::rs=>(d.1<=f.1/\d.2.1<=f.2.1/\d.2.2<=f.2.2)/\(f.1<=t.1/\f.2.1<=t.2.1/\f.2.2<=t.2.2)/\(t.1<=e.1/\t.2.1<=e.2.1/\t.2.2<=e.2.2)/\zbH e t rs
theorem zbH.low{e:Cor}{rs:List Rn}{d d':Cor}(h:zbH e d rs)(h1:d'.1<=d.1)(h2:d'.2.1<=d.2.1)(h3:d'.2.2<=d.2.2):zbH e d' rs:=by
 cases rs with
 |nil=>exact⟨Nat.le_trans h1 h.1,Nat.le_trans h2 h.2.1,Nat.le_trans h3 h.2.2⟩
 |cons r rs=>exact⟨⟨Nat.le_trans h1 h.1.1,Nat.le_trans h2 h.1.2.1,Nat.le_trans h3 h.1.2.2⟩,h.2⟩
theorem zjr(s:List (Int × α))(hK:xC s):∀ (n i:Nat) (p:Int),(zF n s)[i]? =some p->¬p<0->n<=p.toNat/\(zW 3 s)[p.toNat-n]? =(zW 2 s)[i]?/\p.toNat-n <(zW 3 s).length:=by
 induction s with
 |nil=>intro n i p h;simp[zF]at h
 |cons e s ih=>
  obtain⟨k,x⟩:=e;intro n i p h h0;rw[zr,zr]
  rcases hK (k,x) (List.mem_cons_self ..)with e |e |e
  ·simp only at e;subst e
   rw[zF,if_pos rfl]at h;rw[if_pos (by simp),if_pos (by simp)]
   cases i with
   |zero=>
    simp only[List.getElem?_cons_zero,Option.some.injEq]at h;subst h;simp
   |succ i=>
    simp only[List.getElem?_cons_succ]at h;obtain⟨h1,h2,h3⟩:=ih hK.tail (n+1) i p h h0;refine⟨by omega,?_,by simp;omega⟩;rw[show p.toNat-n=(p.toNat-(n+1))+1 by omega];simpa using h2
  ·simp only at e;subst e
   rw[zF,if_neg (by simp),if_pos rfl]at h;rw[if_neg (by simp),if_pos (by simp)]
   cases i with
   |zero=>
    simp only[List.getElem?_cons_zero,Option.some.injEq]at h;omega
   |succ i=>
    simp only[List.getElem?_cons_succ]at h;obtain⟨h1,h2,h3⟩:=ih hK.tail n i p h h0;exact⟨h1,by simpa using h2,h3⟩
  ·simp only at e;subst e
   rw[zF,if_neg (by simp),if_neg (by simp)]at h;rw[if_pos (by simp),if_neg (by simp)];obtain⟨h1,h2,h3⟩:=ih hK.tail (n+1) i p h h0;refine⟨by omega,?_,by simp;omega⟩;rw[show p.toNat-n=(p.toNat-(n+1))+1 by omega];simpa using h2
end
section
variable{α:Type} [DecidableEq α]
theorem zez{a b:List α}{i:Nat}{p:Int}(h:(yi a b)[i]? =some p)(h0:¬p<0):b[p.toNat]? =a[i]?/\p.toNat<b.length:=by
 unfold yi at h;obtain⟨k1,s2,s3,_⟩:=yr a b;obtain⟨_,h2,h3⟩:=zjr _ k1 0 i p h h0;rw[s2,s3]at h2;rw[s3]at h3;exact⟨by simpa using h2,by simpa using h3⟩
variable(base ours theirs:List α)
def xO:Cor->List Rn->List (Ck α)
 |d,[]=>jY (base.drop d.1) (ours.drop d.2.1) (theirs.drop d.2.2)
 |d,(f,t)::rs=>jY (zL base d.1 f.1) (zL ours d.2.1 f.2.1) (zL theirs d.2.2 f.2.2) ++(1,zL base f.1 t.1,zL ours f.2.1 t.2.1,zL theirs f.2.2 t.2.2)::xO t rs
theorem zbS:jY ([]:List α) [] []=[]:=by simp[jY]
theorem zeL(f d:Cor):∀ (xs ys:List Int) (i:Nat) (t:Cor),xO base ours theirs d (xM (some (f,t)) i xs ys)=jY (zL base d.1 f.1) (zL ours d.2.1 f.2.1) (zL theirs d.2.2 f.2.2)++xO base ours theirs f (xM (some (f,t)) i xs ys):=by
 have one:∀ (t:Cor) rs,xO base ours theirs d ((f,t)::rs)=jY (zL base d.1 f.1) (zL ours d.2.1 f.2.1) (zL theirs d.2.2 f.2.2)++xO base ours theirs f ((f,t)::rs):=fun t rs=>by
  rw[xO,xO,yQ,yQ,yQ,zbS,List.nil_append]
 intro xs
 induction xs with
 |nil=>intro ys i t;rw[xM];exact one t [];all_goals simp
 |cons p xs ih=>
  intro ys i t
  cases ys with
  |nil=>rw[xM];exact one t [];all_goals simp
  |cons q ys=>
   rw[xM]
   split
   ·exact ih ys (i+1) t
   ·split
    ·exact ih ys (i+1) _
    ·exact one t _
theorem zfE(bb oo tt:List α)(r:List (It α)):zR [] (.gap bb oo tt::r)=jY bb oo tt++zR [] r:=by
 rw[zR];unfold jY
 split
 ·simp
 ·simp[zal]
theorem zgW(z:α)(r:List (It α)):zR [] (.line z::r)=zR [z] r:=by rw[zR];rfl
omit [DecidableEq α] in
theorem zgx{l base:List α}{X:List Int}(hX:∀ (i:Nat) (p:Int),X[i]? =some p->¬p<0->l[p.toNat]? =base[i]?/\p.toNat<l.length){i:Nat}{z:α}(hz:base[i]? =some z){p:Int}{xs:List Int}(hx:X.drop i=p::xs)(h0:¬p<0):l[p.toNat]? =some z:=by
 have:X[i]? =some p:=by
  have:=congrArg List.head? hx;simpa using this
 rw[(hX i p this h0).1,hz]
theorem zaN{β:Type}{X:List β}{i:Nat}{p:β}{xs:List β}(hx:X.drop i=p::xs):X.drop (i+1)=xs:=by
 have:=congrArg (List.drop 1) hx;rw[List.drop_drop]at this;simpa using this
theorem znj{β:Type}{X:List β}{i:Nat}{p:β}{xs:List β}(hx:X.drop i=p::xs):X[i]? =some p:=by
 have:=congrArg List.head? hx;simpa using this
variable{X Y:List Int}
theorem zlR(hX:∀ (i:Nat) (p:Int),X[i]? =some p->¬p<0->ours[p.toNat]? =base[i]?/\p.toNat<ours.length)(hY:∀ (i:Nat) (p:Int),Y[i]? =some p->¬p<0->theirs[p.toNat]? =base[i]?/\p.toNat<theirs.length):
  ∀ (bs:List α) (xs ys:List Int) (i:Nat) (f t:Cor),base.drop i=bs->X.drop i=xs->Y.drop i=ys->bs.length=xs.length->bs.length=ys.length->Asc ours.length t.2.1 xs->Asc theirs.length t.2.2 ys->
   f.1<t.1->f.2.1<=t.2.1->f.2.2<=t.2.2->t.1<=i->i<=base.length->t.2.1<=ours.length->t.2.2<=theirs.length->zL ours f.2.1 t.2.1=zL base f.1 t.1->zL theirs f.2.2 t.2.2=zL base f.1 t.1->
   zR (zL base f.1 t.1) (xn ours theirs (zL base t.1 i) t.2.1 t.2.2 bs xs ys)=xO base ours theirs f (xM (some (f,t)) i xs ys)/\zbH (base.length,ours.length,theirs.length) f (xM (some (f,t)) i xs ys):=by
 intro bs
 induction bs with
 |nil=>
  intro xs ys i f t hb hx hy l1 l2 ax ay g1 g2 g3 g4 g5 g6 g7 k1 k2;obtain rfl:xs=[]:=List.eq_nil_of_length_eq_zero l1.symm;obtain rfl:ys=[]:=List.eq_nil_of_length_eq_zero l2.symm
  have hi:base.length<=i:=by simpa using hb
  obtain rfl:i=base.length:=by omega
  have hne:zL base f.1 t.1≠ []:=zbt g1 g4
  have e1:xM (some (f,t)) base.length [] []=[(f,t)]:=by simp[xM]
  have e2:xn ours theirs (zL base t.1 base.length) t.2.1 t.2.2 [] [] []=[.gap (zL base t.1 base.length) (ours.drop t.2.1) (theirs.drop t.2.2)]:=by simp[xn]
  rw[e1,e2];refine⟨?_,⟨⟨Nat.le_refl _,Nat.le_refl _,Nat.le_refl _⟩,⟨Nat.le_of_lt g1,g2,g3⟩,⟨g4,g6,g7⟩,⟨g4,g6,g7⟩⟩⟩;rw[xO,xO,yQ,yQ,yQ,zbS,List.nil_append,k1,k2,zcM,jY]
  by_cases h:base.drop t.1=[]/\ours.drop t.2.1=[]/\theirs.drop t.2.2=[]
  ·rw[zR,if_pos h,if_pos h,zR,zal,if_neg hne]
  ·rw[zR,if_neg h,if_neg h,zR,zal,if_neg hne]
   simp[zal]
 |cons z bs ih=>
  intro xs ys i f t hb hx hy l1 l2 ax ay g1 g2 g3 g4 g5 g6 g7 k1 k2
  cases xs with
  |nil=>simp at l1
  |cons p xs=>
  cases ys with
  |nil=>simp at l2
  |cons q ys=>
  have hz:=znj hb;have hb':=zaN hb;have hx':=zaN hx;have hy':=zaN hy;have hil:i<base.length:=(List.getElem?_eq_some_iff.1 hz).1;simp only[List.length_cons,Nat.add_right_cancel_iff]at l1 l2;rw[xn,xM]
  by_cases hf:p<0∨q<0
  ·rw[if_pos hf,if_pos hf]
   have ax':Asc ours.length t.2.1 xs:=by
    rcases ax with⟨_,h⟩ |⟨j,_,hj,_,h⟩
    ·exact h
    ·exact h.mono (by omega)
   have ay':Asc theirs.length t.2.2 ys:=by
    rcases ay with⟨_,h⟩ |⟨j,_,hj,_,h⟩
    ·exact h
    ·exact h.mono (by omega)
   rw[qi g4 hz];exact ih xs ys (i+1) f t hb' hx' hy' l1 l2 ax' ay' g1 g2 g3 (by omega) (by omega) g6 g7 k1 k2
  ·rw[if_neg hf,if_neg hf]
   rcases ax with⟨hp,_⟩ |⟨j,rfl,j1,j2,ax⟩
   ·exact absurd (Or.inl (by omega)) hf
   rcases ay with⟨hp,_⟩ |⟨k,rfl,m1,m2,ay⟩
   ·exact absurd (Or.inr (by omega)) hf
   have oz:ours[j]? =some z:=by simpa using zgx hX hz hx (by omega)
   have tz:theirs[k]? =some z:=by simpa using zgx hY hz hy (by omega)
   rw[Int.toNat_natCast,Int.toNat_natCast]
   by_cases hc:t=(i,j,k)
   ·subst hc
    rw[if_pos rfl,Nat.sub_self,Nat.sub_self,List.take_zero,List.take_zero,yQ,zR,if_pos ⟨rfl,rfl,rfl⟩,zR,qi (Nat.le_of_lt g1) hz];have:=ih xs ys (i+1) f (i+1,j+1,k+1) hb' hx' hy' l1 l2 ax ay (by simp only at g1 ⊢;omega) (by simp only at g2 ⊢;omega) (by simp only at g3 ⊢;omega) (Nat.le_refl _) (by omega) (by simp only;omega) (by simp only;omega)
     (by rw[<-qi g2 oz,<-qi (Nat.le_of_lt g1) hz,k1]) (by rw[<-qi g3 tz,<-qi (Nat.le_of_lt g1) hz,k2])
    rw[yQ]at this;exact this
   ·rw[if_neg (by exact hc)]
    have hne:¬(zL base t.1 i=[]/\(ours.drop t.2.1).take (j-t.2.1)=[]/\(theirs.drop t.2.2).take (k-t.2.2)=[]):=by
     rintro⟨e1,e2,e3⟩
     apply hc
     have f1:t.1=i:=by
      apply Classical.byContradiction
      intro h;exact zbt (l:=base) (by omega) (by omega) e1
     have f2:t.2.1=j:=by
      apply Classical.byContradiction
      intro h;exact zbt (l:=ours) (by omega) (by omega) e2
     have f3:t.2.2=k:=by
      apply Classical.byContradiction
      intro h;exact zbt (l:=theirs) (by omega) (by omega) e3
     rw[<-f1,<-f2,<-f3]
    have hrun:zL base f.1 t.1≠ []:=zbt g1 (by omega);obtain⟨r1,r2⟩:=ih xs ys (i+1) (i,j,k) (i+1,j+1,k+1) hb' hx' hy' l1 l2 ax ay (by simp) (by simp) (by simp) (Nat.le_refl _) (by omega) (by simp only;omega) (by simp only;omega) (by rw[kE oz,kE hz]) (by rw[kE tz,kE hz]);rw[kE hz,yQ]at r1;refine⟨?_,⟨⟨Nat.le_refl _,Nat.le_refl _,Nat.le_refl _⟩,⟨Nat.le_of_lt g1,g2,g3⟩,⟨by simp only;omega,g6,g7⟩,zbH.low r2 g4 j1 m1⟩⟩;rw[kS _ _ _ _ _ hne,zfE,zgW,r1,zal,if_neg hrun];show _ =xO base ours theirs f ((f,t):: _);rw[xO,yQ,yQ,yQ,zbS,List.nil_append,k1,k2];show _ = _::xO base ours theirs t (xM (some ((i,j,k),(i+1,j+1,k+1))) (i+1) xs ys);rw[zeL base ours theirs (i,j,k) t]
    rfl
theorem zmq(hX:∀ (i:Nat) (p:Int),X[i]? =some p->¬p<0->ours[p.toNat]? =base[i]?/\p.toNat<ours.length)(hY:∀ (i:Nat) (p:Int),Y[i]? =some p->¬p<0->theirs[p.toNat]? =base[i]?/\p.toNat<theirs.length):
  ∀ (bs:List α) (xs ys:List Int) (i:Nat),base.drop i=bs->X.drop i=xs->Y.drop i=ys->bs.length=xs.length->bs.length=ys.length->Asc ours.length 0 xs->Asc theirs.length 0 ys->i<=base.length->
   zR [] (xn ours theirs (zL base 0 i) 0 0 bs xs ys)=xO base ours theirs (0,0,0) (xM none i xs ys)/\zbH (base.length,ours.length,theirs.length) (0,0,0) (xM none i xs ys):=by
 intro bs
 induction bs with
 |nil=>
  intro xs ys i hb hx hy l1 l2 ax ay g5;obtain rfl:xs=[]:=List.eq_nil_of_length_eq_zero l1.symm;obtain rfl:ys=[]:=List.eq_nil_of_length_eq_zero l2.symm
  have hi:base.length<=i:=by simpa using hb
  obtain rfl:i=base.length:=by omega
  have e1:xM none base.length [] []=[]:=by simp[xM]
  have e2:xn ours theirs (zL base 0 base.length) 0 0 [] [] []=[.gap (zL base 0 base.length) (ours.drop 0) (theirs.drop 0)]:=by simp[xn]
  rw[e1,e2];refine⟨?_,⟨Nat.zero_le _,Nat.zero_le _,Nat.zero_le _⟩⟩;rw[xO,zcM,zfE,zR];simp[zal]
 |cons z bs ih=>
  intro xs ys i hb hx hy l1 l2 ax ay g5
  cases xs with
  |nil=>simp at l1
  |cons p xs=>
  cases ys with
  |nil=>simp at l2
  |cons q ys=>
  have hz:=znj hb;have hb':=zaN hb;have hx':=zaN hx;have hy':=zaN hy;have hil:i<base.length:=(List.getElem?_eq_some_iff.1 hz).1;simp only[List.length_cons,Nat.add_right_cancel_iff]at l1 l2;rw[xn,xM]
  by_cases hf:p<0∨q<0
  ·rw[if_pos hf,if_pos hf]
   have ax':Asc ours.length 0 xs:=by
    rcases ax with⟨_,h⟩ |⟨j,_,hj,_,h⟩
    ·exact h
    ·exact h.mono (by omega)
   have ay':Asc theirs.length 0 ys:=by
    rcases ay with⟨_,h⟩ |⟨j,_,hj,_,h⟩
    ·exact h
    ·exact h.mono (by omega)
   rw[qi (Nat.zero_le _) hz];exact ih xs ys (i+1) hb' hx' hy' l1 l2 ax' ay' (by omega)
  ·rw[if_neg hf,if_neg hf]
   rcases ax with⟨hp,_⟩ |⟨j,rfl,j1,j2,ax⟩
   ·exact absurd (Or.inl (by omega)) hf
   rcases ay with⟨hp,_⟩ |⟨k,rfl,m1,m2,ay⟩
   ·exact absurd (Or.inr (by omega)) hf
   have oz:ours[j]? =some z:=by simpa using zgx hX hz hx (by omega)
   have tz:theirs[k]? =some z:=by simpa using zgx hY hz hy (by omega)
   rw[Int.toNat_natCast,Int.toNat_natCast];obtain⟨r1,r2⟩:=zlR base ours theirs hX hY bs xs ys (i+1) (i,j,k) (i+1,j+1,k+1) hb' hx' hy' l1 l2 ax ay (by simp) (by simp) (by simp) (Nat.le_refl _) (by omega) (by simp only;omega) (by simp only;omega) (by rw[kE oz,kE hz]) (by rw[kE tz,kE hz]);rw[kE hz,yQ]at r1;refine⟨?_,zbH.low r2 (Nat.zero_le _) (Nat.zero_le _) (Nat.zero_le _)⟩;rw[zfE,zgW,r1];show _ =xO base ours theirs (0,0,0) (xM (some ((i,j,k),(i+1,j+1,k+1))) (i+1) xs ys);rw[zeL base ours theirs (i,j,k) (0,0,0)]
   rfl
theorem zkx(base ours theirs:List α):
  yn base ours theirs=xO base ours theirs (0,0,0) (yI 0 [] (yi base ours) (yi base theirs))/\zbH (base.length,ours.length,theirs.length) (0,0,0) (yI 0 [] (yi base ours) (yi base theirs)):=by
 rw[zlA];exact zmq base ours theirs (X:=yi base ours) (Y:=yi base theirs) (fun i p h h0=>zez h h0) (fun i p h h0=>zez h h0) base _ _ 0 rfl rfl rfl (kW base ours).symm (kW base theirs).symm (ks base ours) (ks base theirs) (Nat.zero_le _)
end
open Go.RowKit
theorem Tryz.laidOut:laidOutB Tryz.prog=true:=by kernel_rfl
theorem Tryz.rowSpot:(203:TypeId)< Tryz.prog.types.size:=of_decide_eq_true (by kernel_rfl)
theorem Tryz.wideSpot:(match Tryz.prog.underlying 203 with |some (.array _ _) |some (.struct _)=>true | _ =>false)=true:=by rw[Tryz.underlying203]
theorem Tryz.spotLaw:Maps.Keyed Tryz.prog 203:=Maps.Keyed.of_law (deep_law_laid Tryz.laidOut (m:=3) (by omega) Tryz.rowSpot (by kernel_rfl) Tryz.wideSpot)
theorem Tryz.zeroInt(w:World):(zeroValue 3).run Tryz.prog w= .ok (.int .i64 0) w:=by kernel_rfl
def zaH(i s:Nat):Lit:= .string (keyBytes [.int .i64 i,.int .u8 s])
theorem zdf{i s:Nat}(hi:i<=4000000000)(hs:s<256):keyOf Tryz.prog 203 (.agg #[.int .i64 i,.int .u8 s])=some (zaH i s):=by
 have hk:Tryz.prog.keyType 203=true:=by kernel_rfl
 have hc:Tryz.prog.cellsOf 203=2:=by kernel_rfl
 have hc1:Tryz.prog.cellsOf 3=1:=by kernel_rfl
 have hc2:Tryz.prog.cellsOf 201=1:=by kernel_rfl
 have w1:(Lit.int .i64 (i:Int)).wf=true:=by simp[Lit.wf,IntKind.min,IntKind.max,IntKind.signed,IntKind.bits];omega
 have w2:(Lit.int .u8 (s:Int)).wf=true:=by simp[Lit.wf,IntKind.min,IntKind.max,IntKind.signed,IntKind.bits];omega
 obtain⟨n,hn⟩:∃n,Tryz.prog.types.size+1=n+2:=⟨Tryz.prog.types.size-1,by have h:203<Tryz.prog.types.size:=Tryz.rowSpot;omega⟩;unfold keyOf;rw[Tryz.underlying203,hk,hn];simp[Value.formed,Tryz.underlying203,hc,Value.cells,Program.keyLits,hc1,hc2,Tryz.underlying3,Tryz.underlying201,w1,w2,zaH]
theorem zdm{i s j r:Nat}(hi:i<=4000000000)(hs:s<256)(hj:j<=4000000000)(hr:r<256)(h:zaH i s=zaH j r):i=j/\s=r:=by
 have:=Tryz.spotLaw.inj (zdf hi hs) (h ▸ zdf hj hr);simp at this;omega
abbrev MD:=DataW Unit
def zmd(j:Nat):MD:= .lit (.int .i64 j)
section
variable{α:Type}
def xL(s:Nat):MD->Nat->Nat->List (Int × α)->MD
 |D,_,_,[]=>D
 |D,i,j,e::r=>if e.1=1 then xL s (D.put (zaH i s) (zmd j)) (i+1) (j+1) r else if e.1=2 then xL s D (i+1) j r else xL s D i (j+1) r
def zku(D:MD)(kl:Lit)(p:Int):Prop:=(p<0->Maps.has D kl=false)/\(¬p<0->Maps.has D kl=true/\∀z,D.atKey kl z= .lit (.int .i64 p))
theorem zhb(i s:Nat):WideAt.IsKeyLit (zaH i s):=trivial
theorem zbr{s:Nat}{kl:Lit}:∀ (r:List (Int × α)) (D:MD) (i j:Nat),(∀k,i<=k->k<=i+r.length->kl≠zaH k s)->Maps.has (xL s D i j r) kl=Maps.has D kl/\∀z,(xL s D i j r).atKey kl z=D.atKey kl z:=by
 intro r
 induction r with
 |nil=>exact fun _ _ _ _ =>⟨rfl,fun _ =>rfl⟩
 |cons e r ih=>
  intro D i j h;simp only[List.length_cons]at h;rw[xL]
  split
  ·obtain⟨h1,h2⟩:=ih (D.put (zaH i s) (zmd j)) (i+1) (j+1) fun k hk hk'=>h k (by omega) (by omega)
   have hne:kl≠zaH i s:=h i (Nat.le_refl _) (by omega);exact⟨h1.trans (Maps.has_put_other hne _),fun z=>(h2 z).trans (Maps.atKey_put_other hne _ z)⟩
  ·split
   ·exact ih D (i+1) j fun k hk hk'=>h k (by omega) (by omega)
   ·exact ih D i (j+1) fun k hk hk'=>h k hk (by omega)
theorem zox{s:Nat}:∀ (r:List (Int × α)) (D:MD) (i j:Nat),Maps.IsMap D->Maps.IsMap (xL s D i j r):=by
 intro r
 induction r with
 |nil=>exact fun _ _ _ h=>h
 |cons e r ih=>
  intro D i j h;rw[xL]
  split
  ·exact ih _ _ _ (h.put _ _)
  ·split
   ·exact ih _ _ _ h
   ·exact ih _ _ _ h
theorem zgj{s:Nat}(hs:s<256):∀ (r:List (Int × α)) (D:MD) (i j:Nat),Maps.IsMap D->i+r.length<=4000000000->(∀k,i<=k->k<=i+r.length->Maps.has D (zaH k s)=false)->∀ (k:Nat) (p:Int),(zF j r)[k]? =some p->zku (xL s D i j r) (zaH (i+k) s) p:=by
 intro r
 induction r with
 |nil=>intro D i j _ _ _ k p h;simp[zF]at h
 |cons e r ih=>
  intro D i j hD hl hn k p h;simp only[List.length_cons]at hl hn;rw[zF]at h;rw[xL]
  split at h
  ·rename_i h1
   rw[if_pos h1]
   cases k with
   |zero=>
    simp only[List.getElem?_cons_zero,Option.some.injEq]at h;subst h
    obtain⟨g1,g2⟩:=zbr (s:=s) (kl:=zaH i s) r (D.put (zaH i s) (zmd j)) (i+1) (j+1) fun k hk hk' e=>by
     have:=(zdm (by omega) hs (by omega) hs e).1;omega
    rw[Nat.add_zero];refine⟨fun h=>by omega,fun _ =>⟨g1.trans (Maps.has_put_same hD (zhb i s) _),fun z=>(g2 z).trans (Maps.atKey_put_same hD (zhb i s) _ z)⟩⟩
   |succ k=>
    simp only[List.getElem?_cons_succ]at h
    have:=ih (D.put (zaH i s) (zmd j)) (i+1) (j+1) (hD.put _ _) (by omega) (fun k hk hk'=>by
     rw[Maps.has_put_other]
     ·exact hn k (by omega) (by omega)
     ·intro e
      have:=(zdm (by omega) hs (by omega) hs e).1
      omega) k p h
    rw[show i+1+k=i +(k+1) by omega]at this;exact this
  ·rename_i h1
   rw[if_neg h1]
   split at h
   ·rename_i h2
    rw[if_pos h2]
    cases k with
    |zero=>
     simp only[List.getElem?_cons_zero,Option.some.injEq]at h;subst h
     obtain⟨g1,g2⟩:=zbr (s:=s) (kl:=zaH i s) r D (i+1) j fun k hk hk' e=>by
      have:=(zdm (by omega) hs (by omega) hs e).1;omega
     rw[Nat.add_zero];exact⟨fun _ =>g1.trans (hn i (Nat.le_refl _) (by omega)),fun h=>absurd (by decide) h⟩
    |succ k=>
     simp only[List.getElem?_cons_succ]at h;have:=ih D (i+1) j hD (by omega) (fun k hk hk'=>hn k (by omega) (by omega)) k p h;rw[show i+1+k=i +(k+1) by omega]at this;exact this
   ·rename_i h2
    rw[if_neg h2];exact ih D i (j+1) hD (by omega) (fun k hk hk'=>hn k hk (by omega)) k p h
theorem zmj{s1 s2:List (Int × α)}(l1:s1.length<=1000000)(l2:s2.length<=1000000):
  (∀k p,(zF 0 s1)[k]? =some p->zku (xL 1 (xL 0 (.map []) 0 0 s1) 0 0 s2) (zaH k 0) p)/\∀k p,(zF 0 s2)[k]? =some p->zku (xL 1 (xL 0 (.map []) 0 0 s1) 0 0 s2) (zaH k 1) p:=by
 have e0:∀kl,Maps.has (.map []:MD) kl=false:=fun kl=>rfl
 constructor
 ·intro k p h
  have hk:k<4000000000:=by
   have h1:=(List.getElem?_eq_some_iff.1 h).1
   have:∀ (r:List (Int × α)) (j:Nat),(zF j r).length<=r.length:=fun r=>by
    induction r with
    |nil=>intro j;simp[zF]
    |cons e r ih=>
     intro j;rw[zF]
     split
     ·simp;exact ih _
     ·split
      ·simp;exact ih _
      ·exact Nat.le_trans (ih _) (by simp)
   have:=this s1 0;omega
  have:=zgj (s:=0) (by omega) s1 (.map []) 0 0 Maps.isMap_empty (by omega) (fun _ _ _ =>e0 _) k p h;rw[Nat.zero_add]at this
  obtain⟨g1,g2⟩:=zbr (s:=1) (kl:=zaH k 0) s2 (xL 0 (.map []) 0 0 s1) 0 0 fun k' _ hk' e=>by
   have:=(zdm (by omega) (by omega) (by omega) (by omega) e).2;omega
  exact⟨fun h=>g1.trans (this.1 h),fun h=>⟨g1.trans (this.2 h).1,fun z=>(g2 z).trans ((this.2 h).2 z)⟩⟩
 ·intro k p h
  have:=zgj (s:=1) (by omega) s2 (xL 0 (.map []) 0 0 s1) 0 0 (zox _ _ _ _ Maps.isMap_empty) (by omega) (fun k' _ hk'=>by
   rw[(zbr (s:=0) (kl:=zaH k' 1) s1 (.map []) 0 0 fun j _ hj e=>by
    have:=(zdm (by omega) (by omega) (by omega) (by omega) e).2
    omega).1]
   rfl) k p h
  rw[Nat.zero_add]at this;exact this
end
abbrev zdD(w:World)(b n:Nat)(D:MD):Prop:=w.ownsMap Tryz.prog 203 (plainElem Tryz.prog 3) b n D
theorem zdD.apart{w:World}{b n:Nat}{D:MD}(h:zdD w b n D){a:Addr}{v:Value}(hc:w.cell? a=some v):a.block≠b:=by
 obtain⟨es,c,hb,_⟩:=h;intro e;unfold World.cell? at hc;rw[e,hb]at hc;simp at hc
theorem SlE.grown{w w':World}{b n:Nat}{D:MD}{v:Value}{es:List (Int × List UInt8)}(h:SlE w v es)(hm:zdD w b n D)(hg:w.grownBy w' (some b)):SlE w' v es:=by
 obtain⟨ao,cap,rfl,hn,hcap,hc⟩:=h;refine⟨ao,cap,rfl,hn,hcap,fun a ha i e he=>?_⟩;obtain⟨h1,h2⟩:=hc a ha i e he;exact⟨hg.cell h1 (fun e=>hm.apart h1 (Option.some.inj e)),hg.cell h2 (fun e=>hm.apart h2 (Option.some.inj e))⟩
theorem zrb{α:Type}{es:List (Int × α)}{k:Nat}{c:Int}{x:α}(h:es[k]? =some (c,x))(s:Nat)(D:MD)(i j:Nat):
  xL s D i j (es.drop k)=if c=1 then xL s (D.put (zaH i s) (zmd j)) (i+1) (j+1) (es.drop (k+1))else if c=2 then xL s D (i+1) j (es.drop (k+1))else xL s D i (j+1) (es.drop (k+1)):=by
 obtain⟨q,e⟩:=List.getElem?_eq_some_iff.1 h;rw[List.drop_eq_getElem_cons q,e]
 rfl
section
theorem ziF(b n s:Nat)(vs v:Value)(es:List (Int × List UInt8))(D:MD)(w:World)(hvs:vs= .int .u8 (s:Int))(hs:s<256)(hv:SlE w v es)(hm:zdD w b n D)(hk:xC es)(hl:es.length<=1000000)(hn:n<=1000000):
  Calls Tryz.prog 170 #[.map (some b),vs,v] w fun e w'=>e= .returned (.tuple #[])/\zdD w' b (n+es.length) (xL s D 0 0 es)/\w.grownBy w' (some b):=by
 subst hvs;obtain⟨ao,cap,rfl⟩:=hv.form;have HV:=ze hv;have HM:=ze hm;have HKI:=ze hk;have HS:=ze hs;have HNL:=ze (And.intro hl hn);clear hv hm hk hs hl hn
 go_enter Tryz.func170,Tryz.ntmps170
 go_wp2_with fail
 go_loopg [6,7,12] es.length (fun g i j m wx=>∃ (I J k:Nat) (E:MD),k<=es.length/\g=es.length-k/\i= .int .i64 I/\j= .int .i64 J/\m= .int .i64 k/\Hid (I<=k/\J<=k)/\Hid (xL s E I J (es.drop k)=xL s D 0 0 es)/\Hid (zdD wx b (n+k) E)/\Hid (w.grownBy wx (some b)))
 case atStart=>exact⟨0,0,0,D,Nat.zero_le _,rfl,rfl,rfl,rfl,ze ⟨Nat.le_refl _,Nat.le_refl _⟩,ze (by rw[List.drop_zero]),HM,ze ⟨rfl,rfl,rfl,Nat.le_refl _,fun _ _ _ =>rfl⟩⟩
 case round=>
  obtain⟨I,J,k,E,hk,rfl,rfl,rfl,rfl,HIJ,HE,HO,HG⟩:=hrel;have k0:(0:Int)<=(k:Int):=Int.natCast_nonneg _;have I0:(0:Int)<=(I:Int):=Int.natCast_nonneg _;have J0:(0:Int)<=(J:Int):=Int.natCast_nonneg _
  by_cases hlt:k<es.length
  ·have k1:(k:Int)<(es.length:Int):=by omega
   have kw:IntKind.i64.wrap ((k:Int)+1)=(k:Int)+1:=IntWalk.i64_in _ (by have:=HNL.out;omega);have iw:IntKind.i64.wrap ((I:Int)+1)=(I:Int)+1:=IntWalk.i64_in _ (by have h1:=HNL.out;have h2:=HIJ.out;omega);have jw:IntKind.i64.wrap ((J:Int)+1)=(J:Int)+1:=IntWalk.i64_in _ (by have h1:=HNL.out;have h2:=HIJ.out;omega);obtain⟨be,oe,c,x,rfl,hc,hd,he⟩:=(HV.out.grown HM.out HG.out).at' (i:=k) hlt;have HST:=ze (zrb he s E I J);have HKC:=ze (HKI.out _ (List.mem_of_getElem? he));clear he
   by_cases h1:c=1
   ·subst h1
    have HX:=ze (show xL s (E.put (zaH I s) (zmd J)) (I+1) (J+1) (es.drop (k+1))=xL s D 0 0 es by rw[<-HE.out,HST.out,if_pos rfl]);have HKEY:=ze (zdf (i:=I) (s:=s) (by have h1:=HNL.out;have h2:=HIJ.out;omega) HS.out);have HWF:=ze (show(Lit.int .i64 (J:Int)).wf=true by have h1:=HNL.out;have h2:=HIJ.out;simp[Lit.wf,IntKind.min,IntKind.max,IntKind.signed,IntKind.bits];omega);have HN:=ze (show n+k<maxLen by have h1:=HNL.out;unfold maxLen;omega);clear HE HST
    go_wp2_with (at_mapUpdate;refine wpList_mapUpdate_own _ rfl _ _ _ 199 rfl 203 3 Tryz.spotLaw Tryz.underlying199 _ b (n+k) E rfl (HO.out.alloc _) HN.out _ _ (zaH I s) rfl rfl HKEY.out (zmd J) [] (plainElem_int Tryz.underlying3 HWF.out) ?_;intro w1 hown1 hgrow1;have HO1:=ze hown1;have HG1:=ze (HG.out.trans ((World.grownBy_alloc wr _ (some b)).trans hgrow1));clear hown1 hgrow1)
    go_wp2_with fail
    go_roundg (es.length-(k+1))
    case measure=>omega
    case rel=>exact⟨I+1,J+1,k+1,_,by omega,rfl,by go_num,by go_num,by go_num,ze (by have:=HIJ.out;omega),HX,HO1,HG1⟩
   ·have c1b:(c==1)=false:=by simpa using h1
    by_cases h2:c=2
    ·subst h2
     have HX:=ze (show xL s E (I+1) J (es.drop (k+1))=xL s D 0 0 es by rw[<-HE.out,HST.out,if_neg (by decide),if_pos rfl]);clear HE HST h1 c1b;go_wp2_with fail
     go_roundg (es.length-(k+1))
     case measure=>omega
     case rel=>exact⟨I+1,J,k+1,E,by omega,rfl,by go_num,rfl,by go_num,ze (by have:=HIJ.out;omega),HX,ze ((HO.out.alloc _).mono (by omega)),ze (HG.out.trans (World.grownBy_alloc wr _ (some b)))⟩
    ·obtain rfl:c=3:=by
      have:=HKC.out;simp only at this;omega
     have HX:=ze (show xL s E I (J+1) (es.drop (k+1))=xL s D 0 0 es by rw[<-HE.out,HST.out,if_neg (by decide),if_neg (by decide)]);clear HE HST h1 h2 c1b;go_wp2_with fail
     go_roundg (es.length-(k+1))
     case measure=>omega
     case rel=>exact⟨I,J+1,k+1,E,by omega,rfl,rfl,by go_num,by go_num,ze (by have:=HIJ.out;omega),HX,ze ((HO.out.alloc _).mono (by omega)),ze (HG.out.trans (World.grownBy_alloc wr _ (some b)))⟩
  ·obtain rfl:k=es.length:=by omega
   have hneg:¬(es.length:Int)<(es.length:Int):=by omega
   have HX:=ze (show E=xL s D 0 0 es by rw[<-HE.out,List.drop_length];rfl);clear HE;go_wp2_with fail;refine bodyPost_end (results_none rfl _ _ _) rfl ?_;rw[<-HX.out];exact⟨rfl,HO.out,HG.out⟩
end
open Go.RowKit
theorem zcP{w w':World}(h:Below w.heap.size w w')(row:Option Nat):w.grownBy w' row:=⟨h.os,h.tape,h.output,h.size,fun k hk _ =>h.block k hk⟩
theorem zdD.old{w w':World}{b n:Nat}{D:MD}(h:zdD w b n D)(hk:Below w.heap.size w w'):zdD w' b n D:=World.ownsMap.kept h (zcP hk none) (by simp)
theorem zoY(w:World)(g:Nat)(hg:w.heap.size=g):zdD (w.alloc (.map #[] 0)) g 0 (.map []):=hg ▸ World.ownsMap_made w _ _ _
section
theorem zob(va vb vc:Value)(a b c:List (List UInt8))(w:World)(ha:Sl w va (zj a))(hb:Sl w vb (zj b))(hc:Sl w vc (zj c))(la:a.length<=3000)(lb:b.length<=3000)(lc:c.length<=3000):
  Calls Tryz.prog 147 #[.agg #[va,vb,vc]] w fun e w'=>∃g n D,e= .returned (.map (some g))/\w.heap.size<=g/\g<w'.heap.size/\zdD w' g n D/\(∀k p,(yi a b)[k]? =some p->zku D (zaH k 0) p)/\(∀k p,(yi a c)[k]? =some p->zku D (zaH k 1) p)/\Below w.heap.size w w':=by
 have hmm:= @run_makeMap Tryz.prog;obtain⟨aa,ca,rfl⟩:=ha.form;obtain⟨ab,cb,rfl⟩:=hb.form;obtain⟨ac,cc,rfl⟩:=hc.form;rw[zk]at ha hb hc ⊢;rw[zk,zk]
 have l1:(zU a b).length<=1000000:=by
  have:=(yr a b).2.2.2;omega
 have l2:(zU a c).length<=1000000:=by
  have:=(yr a c).2.2.2;omega
 have HN:=ze (zmj l1 l2);have HK1:=ze (show xC (zU a b)from(yr a b).1);have HK2:=ze (show xC (zU a c)from(yr a c).1);have HL:=ze (And.intro l1 l2);have HLL:=ze (And.intro la (And.intro lb lc));have HA:=ze ha;have HB:=ze hb;have HC:=ze hc;clear l1 l2 ha hb hc la lb lc;unfold yi;obtain⟨s1,hs1⟩:∃s,zU a b=s:=⟨_,rfl⟩;obtain⟨s2,hs2⟩:∃s,zU a c=s:=⟨_,rfl⟩;rw[hs1]at HN HK1 HL;rw[hs2]at HN HK2 HL;rw[hs1,hs2];have HS1:=ze hs1;have HS2:=ze hs2;clear hs1 hs2;have B1:Below w.heap.size w ((w.alloc (.cells #[.slice aa a.length ca,.slice ab b.length cb,.slice ac c.length cc] 162)).alloc (.map #[] 0)):=((Below.refl _ w).alloc (Nat.le_refl _) _).alloc (by simp) _;have hblk:((w.alloc (.cells #[.slice aa a.length ca,.slice ab b.length cb,.slice ac c.length cc] 162)).alloc (.map #[] 0)).heap[w.heap.size]? =some (.cells #[.slice aa a.length ca,.slice ab b.length cb,.slice ac c.length cc] 162 (0,0)):=(Below.heap_alloc _ _ _ (by simp)).trans (heap_alloc_new w _);have HM0:=ze (zoY (w.alloc (.cells #[.slice aa a.length ca,.slice ab b.length cb,.slice ac c.length cc] 162)) (w.heap.size+1) (by simp));have HSC1:=ze (zgk _ _ a b _ (Sl.old HA.out B1) (Sl.old HB.out B1) (by have:=HLL.out;omega) (by have:=HLL.out;omega));rw[HS1.out]at HSC1;have c0:=zd (i:=0) hblk rfl;have c1:=zd (i:=1) hblk rfl;have c2:=zd (i:=2) hblk rfl;have HBL:=ze hblk;have HB1:=ze B1;clear hblk B1
 go_enter Tryz.func147,Tryz.ntmps147
 go_wp2_with (go_at_call 171;refine HSC1.out.mono ?_;rintro e w3 ⟨l,rfl,hE,hb3⟩)
 have z3:=hb3.size;simp only[World.size_alloc]at z3;have HM3:=ze (zdD.old HM0.out hb3);have HB3:=ze (zi HB1.out hb3 HB1.out.size);obtain⟨lo,lcap,rfl⟩:=hE.form;have HN1:=ze (ziF _ _ 0 (.int .u8 0) _ s1 _ w3 rfl (by omega) hE.slE HM3.out HK1.out HL.out.1 (Nat.zero_le _));have HBL3:=ze ((hb3.block w.heap.size (by simp;omega)).trans HBL.out);clear hE hb3 HSC1 HM0 HBL HB1 c0 c1 c2
 go_wp2_with (first
  |(go_at_call 170;with_reducible refine HN1.out.mono ?_;rintro e w4 ⟨rfl,hm4,hg4⟩
    have hb4:Below w.heap.size w w4:=HB3.out.grown hg4 HB3.out.size (fun j hj=>by cases hj;omega);have HM4:=ze hm4;have HB4:=ze hb4;have hbl4:=(hg4.block w.heap.size (by omega) (by simp)).trans HBL3.out;have HBL4:=ze hbl4;have d0:=zd (i:=0) hbl4 rfl;have d2:=zd (i:=2) hbl4 rfl;have z4:=hg4.size;have HSC2:=ze (zgk _ _ a c _ (Sl.old HA.out hb4) (Sl.old HC.out hb4) (by have:=HLL.out;omega) (by have:=HLL.out;omega));rw[HS2.out]at HSC2
    clear hm4 hg4 hb4 hbl4 HN1)
  |(go_at_call 171;with_reducible refine HSC2.out.mono ?_;rintro e w5 ⟨l2,rfl,hE5,hb5⟩
    have HM5:=ze (zdD.old HM4.out hb5);have HB5:=ze (zi HB4.out hb5 HB4.out.size);have z5:=hb5.size;obtain⟨lo5,lcap5,rfl⟩:=hE5.form;have HN2:=ze (ziF _ _ 1 (.int .u8 1) _ s2 _ w5 rfl (by omega) hE5.slE HM5.out HK2.out HL.out.2 (by have:=HL.out.1;omega))
    clear hE5 hb5 HSC2 d0 d2)
  |(go_at_call 170;with_reducible refine HN2.out.mono ?_;rintro e w6 ⟨rfl,hm6,hg6⟩
    have HM6:=ze hm6;have HB6:=ze (HB5.out.grown hg6 HB5.out.size (fun j hj=>by cases hj;omega));have z6:=hg6.size
    clear hm6 hg6 HN2))
 go_ret;exact⟨_,_,_,rfl,by omega,by omega,HM6.out,HN.out.1,HN.out.2,HB6.out⟩
end
open Go.RowKit
def zsc(c:Cor):List Value:=[.int .i64 c.1,.int .i64 c.2.1,.int .i64 c.2.2]
def jd(r:Rn):List Value:=[.int .i64 r.1.1,.int .i64 r.1.2.1,.int .i64 r.1.2.2,.int .i64 r.2.1,.int .i64 r.2.2.1,.int .i64 r.2.2.2]
def xQ(rs:List Rn):List Value:=rs.flatMap jd
theorem jU(rs:List Rn):(xQ rs).length=rs.length*6:=by
 induction rs with
 |nil=>rfl
 |cons r rs ih=>rw[xQ,List.flatMap_cons,List.length_append,<-xQ,ih,List.length_cons];simp[jd];omega
theorem zaT(a b:List Rn):xQ (a++b)=xQ a++xQ b:=by simp[xQ]
theorem zjI(rs:List Rn)(i:Nat):(xQ rs).drop (i*6)=xQ (rs.drop i):=by
 induction rs generalizing i with
 |nil=>simp[xQ]
 |cons r rs ih=>
  cases i with
  |zero=>simp
  |succ i=>
   rw[xQ,List.flatMap_cons,<-xQ,List.drop_succ_cons,<-ih i,show(i+1)*6=6+i*6 by omega,<-List.drop_drop]
   rfl
theorem zlQ{rs:List Rn}{i:Nat}{r:Rn}(h:rs[i]? =some r)(j:Nat)(hj:j<6):(xQ rs)[i*6+j]? =(jd r)[j]? :=by
 obtain⟨q,e⟩:=List.getElem?_eq_some_iff.1 h;rw[<-List.getElem?_drop,zjI,List.drop_eq_getElem_cons q,e,xQ,List.flatMap_cons,List.getElem?_append_left (by simpa[jd]using hj)]
def xd(w:World)(base:Nat)(v:Value)(rs:List Rn):Prop:=w.ownsRow base 168 6 v rs.length (xQ rs)
theorem xd.nil(w:World)(base:Nat):xd w base (.slice none 0 0) []:=World.ownsRow_nil _ _ _ _
theorem xd.form{w:World}{base:Nat}{v:Value}{rs:List Rn}(h:xd w base v rs):∃ao cap,v= .slice ao rs.length cap:=zl h
def zkj(w:World)(v:Value)(rs:List Rn):Prop:=
 ∃ao cap,v= .slice ao rs.length cap/\(ao=none->rs=[])/\rs.length<=cap/\∀a,ao=some a->∃g,a=⟨g,0,none⟩/\∀i r,rs[i]? =some r->∀j,j<6->w.cell? ⟨g,i*6+j,none⟩=(jd r)[j]?
theorem xd.sl{w:World}{base:Nat}{v:Value}{rs:List Rn}(h:xd w base v rs):zkj w v rs:=by
 rcases h.2 with⟨rfl,h0⟩ |⟨g,cap,cur,rfl,r⟩
 ·have:rs=[]:=List.eq_nil_of_length_eq_zero h0
  subst this;exact⟨none,0,rfl,fun _ =>rfl,Nat.le_refl _,fun a h=>by cases h⟩
 ·refine⟨some ⟨g,0,none⟩,cap,rfl,(fun h=>by cases h),r.2.2.1,fun a ha=>?_⟩
  cases ha;refine⟨g,rfl,fun i x hx j hj=>?_⟩;have e:=zlQ hx j hj
  have hl:j <(jd x).length:=by simpa[jd]using hj
  have:=h.cells rfl (i*6+j) (jd x)[j] (by rw[e,List.getElem?_eq_getElem hl]);rw[Addr.add_lit,Nat.zero_add]at this;rw[this,List.getElem?_eq_getElem hl]
theorem zkj.old{w w':World}{v:Value}{rs:List Rn}(h:zkj w v rs)(hk:Below w.heap.size w w'):zkj w' v rs:=by
 obtain⟨ao,cap,rfl,hn,hcap,hc⟩:=h;refine⟨ao,cap,rfl,hn,hcap,fun a ha=>?_⟩;obtain⟨g,rfl,h⟩:=hc a ha;refine⟨g,rfl,fun i r hr j hj=>?_⟩;have e:=h i r hr j hj
 have hl:j <(jd r).length:=by simpa[jd]using hj
 rw[List.getElem?_eq_getElem hl]at e ⊢;exact(World.cell?_of_block (w:=w) (hk.block _ (World.block_lt_of_cell? w _ e))).trans e
theorem zkj.form{w:World}{v:Value}{rs:List Rn}(h:zkj w v rs):∃ao cap,v= .slice ao rs.length cap:=by
 obtain⟨ao,cap,rfl,_⟩:=h;exact⟨ao,cap,rfl⟩
theorem zkj.at'{w:World}{ao:Option Addr}{n cap:Nat}{rs:List Rn}(h:zkj w (.slice ao n cap) rs){i:Nat}(hi:i<rs.length):
  ∃ (g x1 x2 x3 y1 y2 y3:Nat),ao=some ⟨g,0,none⟩/\rs[i]? =some ((x1,x2,x3),(y1,y2,y3))/\w.cell? ⟨g,i*6,none⟩=some (.int .i64 x1)/\w.cell? ⟨g,i*6+1,none⟩=some (.int .i64 x2)/\w.cell? ⟨g,i*6+2,none⟩=some (.int .i64 x3)/\
   w.cell? ⟨g,i*6+3,none⟩=some (.int .i64 y1)/\w.cell? ⟨g,i*6+4,none⟩=some (.int .i64 y2)/\w.cell? ⟨g,i*6+5,none⟩=some (.int .i64 y3):=by
 obtain⟨ao',cap',hv,hn,_,hc⟩:=h;obtain⟨rfl,_,_⟩:=Value.slice.inj hv
 cases ao with
 |none=>rw[hn rfl]at hi;cases hi
 |some a=>
  obtain⟨g,rfl,h⟩:=hc _ rfl;have:=h i _ (List.getElem?_eq_getElem hi);exact⟨g,_,_,_,_,_,_,rfl,List.getElem?_eq_getElem hi,this 0 (by omega),this 1 (by omega),this 2 (by omega),this 3 (by omega),this 4 (by omega),this 5 (by omega)⟩
theorem xd.old{w w':World}{base:Nat}{v:Value}{rs:List Rn}(h:xd w base v rs)(hk:Below w.heap.size w w'):xd w' base v rs:=World.ownsRow.kept h (zcP hk none) (by cases hv:v.ownBlock <;> simp)
theorem xd.low{w:World}{b b':Nat}{v:Value}{rs:List Rn}(h:xd w b v rs)(hb:b'<=b):xd w b' v rs:=by
 refine⟨h.1,?_⟩
 rcases h.2 with hn |⟨g,cap,cur,rfl,hbg,rest⟩
 ·exact .inl hn
 ·exact .inr ⟨g,cap,cur,rfl,Nat.le_trans hb hbg,rest⟩
theorem xd.last{w:World}{base:Nat}{v:Value}{L:List Rn}{r:Rn}(h:xd w base v (L++[r])):∃g cap,v= .slice (some ⟨g,0,none⟩) (L.length+1) cap/\base<=g/\g<w.heap.size:=by
 rcases h.2 with⟨_,h0⟩ |⟨g,cap,cur,rfl,r1,r2,_⟩
 ·simp at h0
 ·exact⟨g,cap,by rw[List.length_append,List.length_singleton],r1,(Array.getElem?_eq_some_iff.1 r2).1⟩
theorem Tryz.infoRn:(Tryz.prog.info? 168).map (fun i=>(i.zero,i.size,i.bytes))=some (some (.agg #[.int .i64 0,.int .i64 0,.int .i64 0,.int .i64 0,.int .i64 0,.int .i64 0]),6,48):=by kernel_rfl
theorem Tryz.sizeCor:(Tryz.prog.info? 164).map (·.size)=some 3:=by kernel_rfl
section
variable{w:World}
theorem kr{ops:Array Oper}{rest:List Oper}{o:Oper}{a:Act}{Q:Exit->Act->World->Prop}(hgd:o.guard=none)(s sx:Operand)
  (ho:o.op= .call {callee:= .builtin .append,args:= #[s,sx],argTypes:= #[165,165] })
  (base:Nat) (v:Value) (rs:List Rn) (r:Rn) (he:a.eval s=v) (hown:xd w base v rs) (hx:a.eval sx= .slice (some ⟨w.heap.size,0,none⟩) 1 1) (hlen:rs.length<=4000000) (hbase:base<=w.heap.size)
  (h:∀v' w',xd w' base v' (rs++[r])->Below base w w'->(∀b,b<w.heap.size->v.ownBlock≠some b->w'.heap[b]? =w.heap[b]?)->wpList Tryz.prog ops Q rest (a.put o.dst v') w'):wpList Tryz.prog ops Q (o::rest) a (w.alloc (.cells #[.int .i64 r.1.1,.int .i64 r.1.2.1,.int .i64 r.1.2.2,.int .i64 r.2.1,.int .i64 r.2.2.1,.int .i64 r.2.2.2] 168)):=by
 obtain⟨i0,hi0,hi1,hi2,hi3⟩:=info_parts Tryz.infoRn
 have hz:(w.alloc (.cells #[.int .i64 r.1.1,.int .i64 r.1.2.1,.int .i64 r.1.2.2,.int .i64 r.2.1,.int .i64 r.2.2.1,.int .i64 r.2.2.2] 168)).heap.size=w.heap.size+1:=by simp
 refine wpList_plain hgd fun _ hK=>jF _ s sx _ _ ho base 168 i0 _ 6 48 Tryz.underlying165 hi0 hi1 hi2 hi3 rfl (by omega) v _ _ he (World.ownsRow.alloc hown _) _ 1 (jd r) hx
  (Src.ofSlice _ Tryz.underlying165 ⟨w.heap.size,0,none⟩ 1 1 (jd r) (by rfl) (World.news_of_block (cs:= #[.int .i64 r.1.1,.int .i64 r.1.2.1,.int .i64 r.1.2.2,.int .i64 r.2.1,.int .i64 r.2.2.1,.int .i64 r.2.2.2]) (t:=168) (fr:=(0,0)) (heap_alloc_new w _)) (fun u hu=>?_)) (by unfold maxLen;omega) (by omega) (by omega) fun v' w' q1 q2 q3=>hK _ _ (h v' w' ?_ ?_ fun b hb hne=>(q2.block b (by omega) (fun e=>hne e.symm)).trans (Below.heap_alloc w _ b hb))
 ·simp only[jd,List.mem_cons,List.not_mem_nil,or_false]at hu
  rcases hu with rfl |rfl |rfl |rfl |rfl |rfl <;> rfl
 ·unfold xd
  rw[zaT,List.length_append];simpa[xQ]using q1
 ·exact((Below.refl base w).alloc hbase _).grown q2 (by omega) (fun j hj=>(World.ownsRow.lt hown j hj).1)
theorem zgr{P:Program}{ops:Array Oper}{rest:List Oper}{o:Oper}{a:Act}{Q:Exit->Act->World->Prop}(hgd:o.guard=none)(ty:TypeId)(x y:Operand)(ho:o.op= .store ty x y)
  (g off:Nat) (cells:Array Value) (hx:a.eval x= .pointer (some ⟨g,off,none⟩)) (hy:a.eval y= .agg cells)
  (t:TypeId) (old:Array Value) (hg:w.heap[g]? =some (.cells old t (0,0))) (hi:(P.info? ty).map (·.size)=some cells.size)
  (hold:off+cells.size<=old.size) (h1:cells.all (·.oneCell')=true)
  (h:∀w',w'.heap[g]? =some (.cells (old.toList.take off++cells.toList++old.toList.drop (off+cells.size)).toArray t (0,0))->yH (· =g) w w'->wpList P ops Q rest (a.put o.dst undef) w'):wpList P ops Q (o::rest) a w:=by
 refine wpList_plain hgd fun _ hK=>?_
 have hst:=run_storeCells_at P g off t cells.toList 0 old w hg (by simpa using hold) (fun v hv=>(Array.all_eq_true_iff_forall_mem.1 h1) v (by simpa using hv))
 have hrun:(storeVar ty ⟨g,off,none⟩ (.agg cells)).run P w= .ok () (w.setRow g (old.toList.take off++cells.toList++old.toList.drop (off+cells.size)).toArray):=by
  cases hq:P.info? ty with
  |none=>simp[hq]at hi
  |some i=>
   have hs:cells.size=i.size:=by simp[hq]at hi;omega
   simp[storeVar,sizeOf,typeInfo,hq,Value.cells,hs]at hst ⊢;rw[<-hs]at hst ⊢;exact hst
 unfold Oper.wp execOp;simp only[ho,hx,hy,Instr.storeAt,Instr.sureAddr,Sem.run_bind,Sem.run_pure,Result.andThen_ok,hrun];exact hK _ _ (h _ (setRow_heap w g old _ t _ hg) ⟨rfl,rfl,rfl,by simp[World.setRow],fun k _ hk=>setRow_other w g k _ hk⟩)
theorem jb{ops:Array Oper}{rest:List Oper}{o:Oper}{a:Act}{Q:Exit->Act->World->Prop}(hgd:o.guard=none)(x y:Operand)(ho:o.op= .store 164 x y)
  (base g n cap:Nat) (rs:List Rn) (r:Rn) (c:Cor) (hown:xd w base (.slice (some ⟨g,0,none⟩) n cap) (rs++[r])) (off:Nat) (hoff:off=rs.length*6+3) (hx:a.eval x= .pointer (some ⟨g,off,none⟩)) (hy:a.eval y= .agg #[.int .i64 c.1,.int .i64 c.2.1,.int .i64 c.2.2])
  (h:∀w',xd w' base (.slice (some ⟨g,0,none⟩) n cap) (rs++[(r.1,c)])->yH (· =g) w w'->wpList Tryz.prog ops Q rest (a.put o.dst undef) w'):wpList Tryz.prog ops Q (o::rest) a w:=by
 subst hoff
 rcases hown.2 with⟨hv,_⟩ |⟨g',cap',cur,hv,q1,q2,q3,q4,q5,q6⟩
 ·cases hv
 ·cases hv
  rw[List.length_append,List.length_singleton]at q3 q6 hown
  have hcs:rs.length*6+6<=cur.size:=by rw[q5];omega
  refine zgr hgd 164 x y ho g (rs.length*6+3) #[.int .i64 c.1,.int .i64 c.2.1,.int .i64 c.2.2] hx hy 168 cur q2 Tryz.sizeCor (by simp;omega) (by simp[Value.oneCell']) fun w' hg hk=>h w' ?_ hk
  refine⟨by rw[jU],.inr ⟨g,cap,_,by rw[List.length_append,List.length_append];rfl,q1,hg,by simpa using q3,q4,by simp;omega,?_⟩⟩
  have e:cur.toList.take (rs.length*6+3)=xQ rs++[.int .i64 r.1.1,.int .i64 r.1.2.1,.int .i64 r.1.2.2]:=by
   have:=congrArg (List.take (rs.length*6+3)) q6;rw[List.take_take,Nat.min_eq_left (by omega)]at this;rw[this,zaT,List.take_append,jU,List.take_of_length_le (by rw[jU];omega),show rs.length*6+3-rs.length*6=3 by omega]
   rfl
  simp only[List.length_append,List.length_singleton];rw[e,List.take_append_of_le_length (by simp[jU];omega),zaT,List.take_of_length_le (by simp[jU];omega),List.append_assoc]
  rfl
end
end Go.Proofs.YtbnafihigoekeaaGreatDoor

/-
  TmTl, part 13.
-/
import Derived.Test.YtbnafihigoekeaaGreatDoorZt12
import Derived.Test.YtbnafihigoekeaaGreatDoorZt6
namespace Go.Proofs.YtbnafihigoekeaaGreatDoor
abbrev Ck(α:Type):=Int × List α × List α × List α
inductive It (α:Type) where
 |gap (b o t:List α)
 |line (x:α)
section
variable{α:Type}
def zF:Nat->List (Int × α)->List Int
 | _,[]=>[]
 |n,e::s=>if e.1=1 then(n:Int)::zF (n+1) s else if e.1=2 then -1::zF n s else zF (n+1) s
def xn(ours theirs:List α):List α->Nat->Nat->List α->List Int->List Int->List (It α)
 |p,o,t,z::bs,x::xs,y::ys=>
  if x<0∨y<0 then xn ours theirs (p++[z]) o t bs xs ys
  else .gap p ((ours.drop o).take (x.toNat-o)) ((theirs.drop t).take (y.toNat-t)):: .line z::xn ours theirs [] (x.toNat+1) (y.toNat+1) bs xs ys
 |p,o,t,_,_,_ =>[.gap p (ours.drop o) (theirs.drop t)]
def zal(run:List α):List (Ck α):=if run=[]then []else [(1,run,run,run)]
end
section
variable{α:Type} [DecidableEq α]
def yg(b o t:List α):Int:=if o=b then 3 else if t=b then 2 else if o=t then 4 else 5
def zR:List α->List (It α)->List (Ck α)
 |run,[]=>zal run
 |run,.gap b o t::r=>if b=[]/\o=[]/\t=[]then zR run r else zal run ++(yg b o t,b,o,t)::zR [] r
 |run,.line z::r=>zR (run++[z]) r
def yi(base side:List α):List Int:=zF 0 (zU base side)
def yn(base ours theirs:List α):List (Ck α):=zR [] (xn ours theirs [] 0 0 base (yi base ours) (yi base theirs))
def xI(l:List (Ck α)):Bool:=l.all fun c=>c.1 !=5
def zG(l:List (Ck α)):List α:=l.flatMap fun c=>if c.1=3 then c.2.2.2 else c.2.2.1
end
section
variable{α:Type}
inductive GQ:List α->List α->List α->List (Int × α)->List (Int × α)->List (It α)->Prop where
 |done (b o t):GQ b o t [] [] [.gap b o t]
 |insO {b o t z s1 s2 I}:GQ b (o++[z]) t s1 s2 I->GQ b o t ((3,z)::s1) s2 I
 |insT {b o t z s1 s2 I}:GQ b o (t++[z]) s1 s2 I->GQ b o t s1 ((3,z)::s2) I
 |firm {b o t z s1 s2 I}:GQ [] [] [] s1 s2 I->GQ b o t ((1,z)::s1) ((1,z)::s2) (.gap b o t:: .line z::I)
 |ko {b o t z s1 s2 I}:GQ (b++[z]) (o++[z]) t s1 s2 I->GQ b o t ((1,z)::s1) ((2,z)::s2) I
 |kt {b o t z s1 s2 I}:GQ (b++[z]) o (t++[z]) s1 s2 I->GQ b o t ((2,z)::s1) ((1,z)::s2) I
 |kd {b o t z s1 s2 I}:GQ (b++[z]) o t s1 s2 I->GQ b o t ((2,z)::s1) ((2,z)::s2) I
theorem GQ.there:∀ (n:Nat) (b o t:List α) (s1 s2:List (Int × α)),s1.length+s2.length<=n->xC s1->xC s2->zW 2 s1=zW 2 s2->∃I,GQ b o t s1 s2 I
 |0,b,o,t,s1,s2,h,_,_,_ =>by
  obtain rfl:s1=[]:=List.eq_nil_of_length_eq_zero (by omega);obtain rfl:s2=[]:=List.eq_nil_of_length_eq_zero (by omega);exact⟨_,.done b o t⟩
 |n+1,b,o,t,s1,s2,h,k1,k2,he=>by
  by_cases h1:∃z s,s1=(3,z)::s
  ·obtain⟨z,s,rfl⟩:=h1
   obtain⟨I,hI⟩:=GQ.there n b (o++[z]) t s s2 (by simp at h;omega) k1.tail k2 (by rw[zr,if_neg (by simp)]at he;exact he);exact⟨I,.insO hI⟩
  by_cases h2:∃z s,s2=(3,z)::s
  ·obtain⟨z,s,rfl⟩:=h2
   obtain⟨I,hI⟩:=GQ.there n b o (t++[z]) s1 s (by simp at h;omega) k1 k2.tail (by rw[zr,if_neg (by simp)]at he;exact he);exact⟨I,.insT hI⟩
  cases s1 with
  |nil=>
   cases s2 with
   |nil=>exact⟨_,.done b o t⟩
   |cons e2 s2=>
    obtain⟨c2,z2⟩:=e2;have hk2:=k2 _ (List.mem_cons_self ..);simp only at hk2;rw[zr,if_pos (hk2.elim .inl fun q=>q.elim .inr fun q=>absurd ⟨z2,s2,by rw[q]⟩ h2)]at he;cases he
  |cons e1 s1=>
   obtain⟨c1,z1⟩:=e1;have hk1:=k1 _ (List.mem_cons_self ..);simp only at hk1
   have g1:c1=1∨c1=2:=hk1.elim .inl fun q=>q.elim .inr fun q=>absurd ⟨z1,s1,by rw[q]⟩ h1
   rw[zr,if_pos g1]at he
   cases s2 with
   |nil=>cases he
   |cons e2 s2=>
    obtain⟨c2,z2⟩:=e2;have hk2:=k2 _ (List.mem_cons_self ..);simp only at hk2
    have g2:c2=1∨c2=2:=hk2.elim .inl fun q=>q.elim .inr fun q=>absurd ⟨z2,s2,by rw[q]⟩ h2
    rw[zr,if_pos g2]at he;simp only[List.cons.injEq]at he;obtain⟨rfl,he⟩:=he
    have hl:s1.length+s2.length<=n:=by simp at h;omega
    rcases g1 with rfl |rfl <;> rcases g2 with rfl |rfl
    ·obtain⟨I,hI⟩:=GQ.there n [] [] [] s1 s2 hl k1.tail k2.tail he
     exact⟨_,.firm hI⟩
    ·obtain⟨I,hI⟩:=GQ.there n (b++[z1]) (o++[z1]) t s1 s2 hl k1.tail k2.tail he
     exact⟨_,.ko hI⟩
    ·obtain⟨I,hI⟩:=GQ.there n (b++[z1]) o (t++[z1]) s1 s2 hl k1.tail k2.tail he
     exact⟨_,.kt hI⟩
    ·obtain⟨I,hI⟩:=GQ.there n (b++[z1]) o t s1 s2 hl k1.tail k2.tail he
     exact⟨_,.kd hI⟩
theorem zkR{l a b:List α}{o n:Nat}(h:l.drop o=a++b)(hn:n=o+a.length):(l.drop o).take (n-o)=a/\l.drop n=b:=by
 subst hn
 constructor
 ·rw[h,Nat.add_sub_cancel_left,List.take_left']
  rfl
 ·rw[<-List.drop_drop,h,List.drop_left']
  rfl
theorem GQ.places{ours theirs b o t:List α}{s1 s2:List (Int × α)}{I:List (It α)}(h:GQ b o t s1 s2 I):
  ∀ (p q n m:Nat),n=p+o.length->m=q+t.length->ours.drop p=o++zW 3 s1->theirs.drop q=t++zW 3 s2->xn ours theirs b p q (zW 2 s1) (zF n s1) (zF m s2)=I:=by
 induction h with
 |done b o t=>
  intro p q n m hn hm h1 h2;show [It.gap b (ours.drop p) (theirs.drop q)]= _;rw[h1,h2];simp[yJ]
 | @insO b o t z s1 s2 I _ ih=>
  intro p q n m hn hm h1 h2;rw[zr,if_neg (by simp),zF,if_neg (by simp),if_neg (by simp)];refine ih p q (n+1) m (by simp;omega) hm ?_ h2;rw[h1,zr,if_pos (by simp),List.append_assoc]
  rfl
 | @insT b o t z s1 s2 I _ ih=>
  intro p q n m hn hm h1 h2;rw[zF.eq_2 _ (3,z),if_neg (by simp),if_neg (by simp)];refine ih p q n (m+1) hn (by simp;omega) h1 ?_;rw[h2,zr,if_pos (by simp),List.append_assoc]
  rfl
 | @firm b o t z s1 s2 I _ ih=>
  intro p q n m hn hm h1 h2;rw[zr,if_pos (by simp)]at h1 h2;rw[zr,if_pos (by simp),zF.eq_2 _ (1,z),if_pos rfl,zF.eq_2 _ (1,z),if_pos rfl,xn,if_neg (by omega)];obtain⟨a1,a2⟩:=zkR (n:=n) h1 hn;obtain⟨b1,b2⟩:=zkR (n:=m) h2 hm;rw[Int.toNat_natCast,Int.toNat_natCast,a1,b1];rw[ih (n+1) (m+1) (n+1) (m+1) (by simp) (by simp) (by rw[<-List.drop_drop,a2];rfl) (by rw[<-List.drop_drop,b2];rfl)]
 | @ko b o t z s1 s2 I _ ih=>
  intro p q n m hn hm h1 h2;rw[zr,if_pos (by simp)]at h1;rw[zr,if_neg (by simp)]at h2;rw[zr,if_pos (by simp),zF.eq_2 _ (1,z),if_pos rfl,zF.eq_2 _ (2,z),if_neg (by simp),if_pos rfl,xn,if_pos (.inr (by decide))];refine ih p q (n+1) m (by simp;omega) hm ?_ h2;rw[h1,List.append_assoc]
  rfl
 | @kt b o t z s1 s2 I _ ih=>
  intro p q n m hn hm h1 h2;rw[zr,if_neg (by simp)]at h1;rw[zr,if_pos (by simp)]at h2;rw[zr,if_pos (by simp),zF.eq_2 _ (2,z),if_neg (by simp),if_pos rfl,zF.eq_2 _ (1,z),if_pos rfl,xn,if_pos (.inl (by decide))];refine ih p q n (m+1) hn (by simp;omega) h1 ?_;rw[h2,List.append_assoc]
  rfl
 | @kd b o t z s1 s2 I _ ih=>
  intro p q n m hn hm h1 h2;rw[zr,if_neg (by simp)]at h1;rw[zr,if_neg (by simp)]at h2;rw[zr,if_pos (by simp),zF.eq_2 _ (2,z),if_neg (by simp),if_pos rfl,zF.eq_2 _ (2,z),if_neg (by simp),if_pos rfl,xn,if_pos (.inl (by decide))];exact ih p q n m hn hm h1 h2
def itB:List (It α)->List α
 | []=>[]
 | .gap b _ _::r=>b++itB r
 | .line x::r=>x::itB r
def itO:List (It α)->List α
 | []=>[]
 | .gap _ o _::r=>o++itO r
 | .line x::r=>x::itO r
def itT:List (It α)->List α
 | []=>[]
 | .gap _ _ t::r=>t++itT r
 | .line x::r=>x::itT r
theorem GQ.sides{b o t:List α}{s1 s2:List (Int × α)}{I:List (It α)}(h:GQ b o t s1 s2 I):itB I=b++zW 2 s1/\itO I=o++zW 3 s1/\itT I=t++zW 3 s2:=by
 induction h with
 |done b o t=>exact⟨rfl,rfl,rfl⟩
 |insO _ ih=>simpa[zr]using ih
 |insT _ ih=>simpa[zr]using ih
 |firm _ ih=>obtain⟨h1,h2,h3⟩:=ih;simp[itB,itO,itT,zr,h1,h2,h3]
 |ko _ ih=>simpa[zr]using ih
 |kt _ ih=>simpa[zr]using ih
 |kd _ ih=>simpa[zr]using ih
def zhl(P:List α->List α->List α->Prop)(I:List (It α)):Prop:=∀b o t,It.gap b o t∈I->P b o t
theorem zhl.cons{P:List α->List α->List α->Prop}{b o t:List α}{x:α}{I:List (It α)}(h:P b o t)(k:zhl P I):zhl P (.gap b o t:: .line x::I):=fun b' o' t' hm=>by
 rcases List.mem_cons.1 hm with e |hm
 ·cases e;exact h
 ·rcases List.mem_cons.1 hm with e |hm
  ·cases e
  ·exact k _ _ _ hm
theorem zhl.one{P:List α->List α->List α->Prop}{b o t:List α}(h:P b o t):zhl P [.gap b o t]:=fun b' o' t' hm=>by
 rcases List.mem_singleton.1 hm with e
 cases e;exact h
def zst:It α->It α
 | .gap b o t=> .gap b t o
 | .line x=> .line x
theorem GQ.join{b o t:List α}{s1 s2 r1 r2:List (Int × α)}{I J:List (It α)}{x:α}(h:GQ b o t s1 s2 I)(k:GQ [] [] [] r1 r2 J):GQ b o t (s1 ++(1,x)::r1) (s2 ++(1,x)::r2) (I ++ .line x::J):=by
 induction h with
 |done b o t=>exact .firm k
 |insO _ ih=>exact .insO ih
 |insT _ ih=>exact .insT ih
 |firm _ ih=>exact .firm ih
 |ko _ ih=>exact .ko ih
 |kt _ ih=>exact .kt ih
 |kd _ ih=>exact .kd ih
theorem GQ.none{b o t:List α}{s1 s2:List (Int × α)}{I:List (It α)}(h:GQ b o t s1 s2 I)(hs:∀e∈s1,e.1≠1):I=[.gap (b++zW 2 s1) (o++zW 3 s1) (t++zW 3 s2)]:=by
 induction h with
 |done b o t=>simp[yJ]
 |insO _ ih=>have:=ih fun e he=>hs e (List.mem_cons_of_mem _ he);simpa[zr]using this
 |insT _ ih=>have:=ih hs;simpa[zr]using this
 |firm _ ih=>exact absurd rfl (hs _ (List.mem_cons_self ..))
 |ko _ ih=>exact absurd rfl (hs _ (List.mem_cons_self ..))
 |kt _ ih=>have:=ih fun e he=>hs e (List.mem_cons_of_mem _ he);simpa[zr]using this
 |kd _ ih=>have:=ih fun e he=>hs e (List.mem_cons_of_mem _ he);simpa[zr]using this
end
section
variable{α:Type}
theorem zfe(s:List (Int × α))(k:Int):(zW 1 s).Sublist (zW k s):=by
 induction s with
 |nil=>exact List.Sublist.refl _
 |cons e s ih=>
  rw[zr,zr]
  by_cases h:e.1=1
  ·rw[if_pos (.inl h),if_pos (.inl h)]
   exact ih.cons_cons _
  ·rw[if_neg (fun q=>q.elim h h)]
   split
   ·exact ih.cons _
   ·exact ih
theorem zqm{s:List (Int × α)}(hK:xC s)(h2:(zW 1 s).length=(zW 2 s).length)(h3:(zW 1 s).length=(zW 3 s).length):∀e∈s,e.1=1:=by
 induction s with
 |nil=>exact fun e he=>by cases he
 |cons e s ih=>
  have l2:=(zfe s 2).length_le;have l3:=(zfe s 3).length_le;rw[zr,zr]at h2 h3
  rcases hK e (List.mem_cons_self ..)with h |h |h
  ·rw[if_pos (.inl h),if_pos (.inl h)]at h2 h3
   simp only[List.length_cons]at h2 h3;intro x hx
   rcases List.mem_cons.1 hx with rfl |hx
   ·exact h
   ·exact ih hK.tail (by omega) (by omega) x hx
  ·rw[if_neg (by omega),if_pos (.inr h)]at h2
   simp only[List.length_cons]at h2;omega
  ·rw[if_neg (by omega),if_pos (.inr h)]at h3
   simp only[List.length_cons]at h3;omega
theorem zhl.tail{P:List α->List α->List α->Prop}{x:It α}{I:List (It α)}(h:zhl P (x::I)):zhl P I:=fun b o t hm=>h b o t (List.mem_cons_of_mem _ hm)
theorem kX(f:Ck α->List α)(hf:∀r:List α,f (1,r,r,r)=r)(run:List α):(zal run).flatMap f=run:=by
 unfold zal
 split
 ·rename_i h;subst h;rfl
 ·simp[hf]
def Sep:List (Ck α)->Prop
 |c::d::r=>¬(c.1=1/\d.1=1)/\Sep (d::r)
 | _ =>True
theorem Sep.put{c:Ck α}{l:List (Ck α)}(h:Sep l)(hc:c.1≠1):Sep (c::l):=by
 cases l with
 |nil=>trivial
 |cons d r=>exact⟨fun q=>hc q.1,h⟩
theorem Sep.at{l:List (Ck α)}(h:Sep l){i:Nat}{c d:Ck α}(hc:l[i]? =some c)(hd:l[i+1]? =some d):¬(c.1=1/\d.1=1):=by
 induction l generalizing i with
 |nil=>simp at hc
 |cons x l ih=>
  cases l with
  |nil=>simp at hd
  |cons y r=>
   cases i with
   |zero=>simp at hc hd;subst hc;subst hd;exact h.1
   |succ i=>exact ih h.2 (by simpa using hc) (by simpa using hd)
def zss(c:Ck α):Ck α:=(if c.1=2 then 3 else if c.1=3 then 2 else c.1,c.2.1,c.2.2.2,c.2.2.1)
end
section
variable{α:Type} [DecidableEq α]
theorem zoJ(a1 b1 a2 b2:List α):lcs a1 b1+lcs a2 b2<=lcs (a1++a2) (b1++b2):=by
 obtain⟨s1,p1,q1,e1⟩:=zbW a1 b1;obtain⟨s2,p2,q2,e2⟩:=zbW a2 b2;have:=zeC (a1++a2) (b1++b2) (s1++s2) (p1.append p2) (q1.append q2);rw[List.length_append]at this;omega
def Opt(s:List (Int × α)):Prop:=(zW 1 s).length=lcs (zW 2 s) (zW 3 s)
theorem zno(s:List (Int × α)):(zW 1 s).length<=lcs (zW 2 s) (zW 3 s):=zeC _ _ _ (zfe s 2) (zfe s 3)
theorem Opt.parts{s r:List (Int × α)}(h:Opt (s++r)):Opt s/\Opt r:=by
 unfold Opt at h ⊢;rw[zK,zK,zK,List.length_append]at h;have h1:=zno s;have h2:=zno r;have h3:=zoJ (zW 2 s) (zW 3 s) (zW 2 r) (zW 3 r);omega
theorem Opt.same{s:List (Int × α)}(h:Opt s)(hK:xC s)(he:zW 3 s=zW 2 s):∀e∈s,e.1=1:=by
 unfold Opt at h;rw[he,zpi]at h;exact zqm hK h (by rw[h,he])
def zse(I:List (It α)):Prop:=zhl (fun b o t=>o=b->t=b->b=[]) I
theorem GQ.clear{b o t:List α}{s1 s2:List (Int × α)}{I:List (It α)}(h:GQ b o t s1 s2 I):∀ (P1 P2:List (Int × α)),xC (P1++s1)->xC (P2++s2)->Opt (P1++s1)->Opt (P2++s2)->
  zW 2 P1=b->zW 2 P2=b->zW 3 P1=o->zW 3 P2=t->((∀e∈P1,e.1=1)->(∀e∈P2,e.1=1)->P1=[])->zse I:=by
 have gap:∀ {b o t:List α} (P1 P2 r1 r2:List (Int × α)),xC (P1++r1)->xC (P2++r2)->Opt (P1++r1)->Opt (P2++r2)->zW 2 P1=b->zW 2 P2=b->zW 3 P1=o->zW 3 P2=t->((∀e∈P1,e.1=1)->(∀e∈P2,e.1=1)->P1=[])->o=b->t=b->b=[]:=by
  intro b o t P1 P2 r1 r2 k1 k2 h1 h2 b1 b2 o1 t2 hn e1 e2;have q1:=h1.parts.1.same (fun e he=>k1 e (List.mem_append_left _ he)) (by rw[o1,b1,e1]);have q2:=h2.parts.1.same (fun e he=>k2 e (List.mem_append_left _ he)) (by rw[t2,b2,e2]);rw[<-b1,hn q1 q2]
  rfl
 have not1:∀ {P:List (Int × α)} {k:Int} {z:α},k≠1->¬∀e∈P++[(k,z)],e.1=1:=fun hk q=>hk (q _ (List.mem_append_right _ (List.mem_singleton_self _)))
 induction h with
 |done b o t=>exact fun P1 P2 k1 k2 h1 h2 b1 b2 o1 t2 hn=>zhl.one (gap P1 P2 [] [] k1 k2 h1 h2 b1 b2 o1 t2 hn)
 | @insO b o t z s1 s2 I _ ih=>
  intro P1 P2 k1 k2 h1 h2 b1 b2 o1 t2 hn
  refine ih (P1++[(3,z)]) P2 (by simpa using k1) k2 (by simpa using h1) h2 ?_ b2 ?_ t2 fun q _ =>absurd q (not1 (by decide))
  ·rw[zK,b1];simp[zr,yJ]
  ·rw[zK,o1];simp[zr,yJ]
 | @insT b o t z s1 s2 I _ ih=>
  intro P1 P2 k1 k2 h1 h2 b1 b2 o1 t2 hn
  refine ih P1 (P2++[(3,z)]) k1 (by simpa using k2) h1 (by simpa using h2) b1 ?_ o1 ?_ fun _ q=>absurd q (not1 (by decide))
  ·rw[zK,b2];simp[zr,yJ]
  ·rw[zK,t2];simp[zr,yJ]
 | @firm b o t z s1 s2 I _ ih=>
  intro P1 P2 k1 k2 h1 h2 b1 b2 o1 t2 hn
  have g1:Opt s1:=by
   have:=h1.parts.2;rw[<-List.singleton_append]at this;exact this.parts.2
  have g2:Opt s2:=by
   have:=h2.parts.2;rw[<-List.singleton_append]at this;exact this.parts.2
  exact zhl.cons (gap P1 P2 _ _ k1 k2 h1 h2 b1 b2 o1 t2 hn) (ih [] [] (fun e he=>k1 e (List.mem_append_right _ (List.mem_cons_of_mem _ he))) (fun e he=>k2 e (List.mem_append_right _ (List.mem_cons_of_mem _ he))) g1 g2 rfl rfl rfl rfl fun _ _ =>rfl)
 | @ko b o t z s1 s2 I _ ih=>
  intro P1 P2 k1 k2 h1 h2 b1 b2 o1 t2 hn
  refine ih (P1++[(1,z)]) (P2++[(2,z)]) (by simpa using k1) (by simpa using k2) (by simpa using h1) (by simpa using h2) ?_ ?_ ?_ ?_ fun _ q=>absurd q (not1 (by decide))
  ·rw[zK,b1];simp[zr,yJ]
  ·rw[zK,b2];simp[zr,yJ]
  ·rw[zK,o1];simp[zr,yJ]
  ·rw[zK,t2];simp[zr,yJ]
 | @kt b o t z s1 s2 I _ ih=>
  intro P1 P2 k1 k2 h1 h2 b1 b2 o1 t2 hn
  refine ih (P1++[(2,z)]) (P2++[(1,z)]) (by simpa using k1) (by simpa using k2) (by simpa using h1) (by simpa using h2) ?_ ?_ ?_ ?_ fun q _ =>absurd q (not1 (by decide))
  ·rw[zK,b1];simp[zr,yJ]
  ·rw[zK,b2];simp[zr,yJ]
  ·rw[zK,o1];simp[zr,yJ]
  ·rw[zK,t2];simp[zr,yJ]
 | @kd b o t z s1 s2 I _ ih=>
  intro P1 P2 k1 k2 h1 h2 b1 b2 o1 t2 hn
  refine ih (P1++[(2,z)]) (P2++[(2,z)]) (by simpa using k1) (by simpa using k2) (by simpa using h1) (by simpa using h2) ?_ ?_ ?_ ?_ fun q _ =>absurd q (not1 (by decide))
  ·rw[zK,b1];simp[zr,yJ]
  ·rw[zK,b2];simp[zr,yJ]
  ·rw[zK,o1];simp[zr,yJ]
  ·rw[zK,t2];simp[zr,yJ]
def itM:List (It α)->List α
 | []=>[]
 | .gap b o t::r=>(if yg b o t=3 then t else o)++itM r
 | .line x::r=>x::itM r
theorem zlm(I:List (It α)):∀run,(zR run I).flatMap (·.2.1)=run++itB I/\(zR run I).flatMap (·.2.2.1)=run++itO I/\(zR run I).flatMap (·.2.2.2)=run++itT I/\zG (zR run I)=run++itM I:=by
 induction I with
 |nil=>exact fun run=>⟨by rw[zR,kX _ (fun _ =>rfl)];exact(List.append_nil _).symm,by rw[zR,kX _ (fun _ =>rfl)];exact(List.append_nil _).symm,by rw[zR,kX _ (fun _ =>rfl)];exact(List.append_nil _).symm,
   by rw[zR,zG,kX _ (fun _ =>rfl)];exact(List.append_nil _).symm⟩
 |cons x I ih=>
  intro run
  cases x with
  |line z=>
   obtain⟨h1,h2,h3,h4⟩:=ih (run++[z]);rw[zR];exact⟨by rw[h1,itB,List.append_assoc];rfl,by rw[h2,itO,List.append_assoc];rfl,by rw[h3,itT,List.append_assoc];rfl,by rw[h4,itM,List.append_assoc];rfl⟩
  |gap b o t=>
   rw[zR]
   split
   ·rename_i h
    obtain⟨rfl,rfl,rfl⟩:=h;obtain⟨h1,h2,h3,h4⟩:=ih run;exact⟨h1,h2,h3,by rw[h4,itM,yg,if_pos rfl,if_pos rfl];rfl⟩
   ·obtain⟨h1,h2,h3,h4⟩:=ih []
    unfold zG at h4 ⊢;simp only[List.flatMap_append,List.flatMap_cons,h1,h2,h3,h4];rw[kX _ (fun _ =>rfl),kX _ (fun _ =>rfl),kX _ (fun _ =>rfl),kX _ (fun _ =>rfl)];exact⟨rfl,rfl,rfl,rfl⟩
def zsL(b o t:List α):Int:=if o=b/\t=b then 1 else yg b o t
theorem zkh(I:List (It α)):∀run,(zR run I).length<=run.length +(itB I).length +(itO I).length +(itT I).length:=by
 have hs:∀run:List α,(zal run).length<=run.length:=fun run=>by
  unfold zal
  split
  ·exact Nat.zero_le _
  ·rename_i h
   have:=List.length_pos_iff.2 h;simp only[List.length_singleton];omega
 induction I with
 |nil=>exact fun run=>by have:=hs run;simp only[zR,itB,itO,itT];simp;omega
 |cons x I ih=>
  intro run
  cases x with
  |line z=>
   have:=ih (run++[z]);simp only[zR,itB,itO,itT,List.length_cons,List.length_append,List.length_nil]at this ⊢;omega
  |gap b o t=>
   rw[zR];have h1:=ih run;have h2:=ih [];have h3:=hs run
   split
   ·simp only[itB,itO,itT,List.length_append]at h1 ⊢
    omega
   ·rename_i hne
    have:0<b.length+o.length+t.length:=by
     apply Nat.pos_of_ne_zero
     intro q;exact hne ⟨List.eq_nil_of_length_eq_zero (by omega),List.eq_nil_of_length_eq_zero (by omega),List.eq_nil_of_length_eq_zero (by omega)⟩
    simp only[itB,itO,itT,List.length_append,List.length_cons,List.length_nil]at h2 ⊢;omega
end
section
variable{α:Type}
def Asc(n:Nat):Nat->List Int->Prop
 | _,[]=>True
 |lo,x::xs=>(x= -1/\Asc n lo xs)∨∃j:Nat,x=(j:Int)/\lo<=j/\j<n/\Asc n (j+1) xs
theorem Asc.mono{n:Nat}{xs:List Int}:∀ {lo lo':Nat},Asc n lo xs->lo'<=lo->Asc n lo' xs:=by
 induction xs with
 |nil=>exact fun _ _ =>trivial
 |cons x xs ih=>
  intro lo lo' h hl
  rcases h with⟨h1,h2⟩ |⟨j,h1,h2,h3,h4⟩
  ·exact .inl ⟨h1,ih h2 hl⟩
  ·exact .inr ⟨j,h1,by omega,h3,h4⟩
theorem zkl(s:List (Int × α)):∀ (at' lo n:Nat),lo<=at'->at' +(zW 3 s).length=n->xC s->Asc n lo (zF at' s):=by
 induction s with
 |nil=>exact fun _ _ _ _ _ _ =>trivial
 |cons e s ih=>
  obtain⟨k,x⟩:=e;intro at' lo n h1 h2 hK;rw[zr]at h2
  rcases hK (k,x) (List.mem_cons_self ..)with h |h |h
  ·simp only at h;subst h
   rw[if_pos (by simp)]at h2;rw[zF,if_pos rfl];simp only[List.length_cons]at h2;exact .inr ⟨at',rfl,h1,by omega,ih (at'+1) (at'+1) n (Nat.le_refl _) (by omega) hK.tail⟩
  ·simp only at h;subst h
   rw[if_neg (by simp)]at h2;rw[zF,if_neg (by simp),if_pos rfl];exact .inl ⟨rfl,ih at' lo n h1 h2 hK.tail⟩
  ·simp only at h;subst h
   rw[if_pos (by simp)]at h2;rw[zF,if_neg (by simp),if_neg (by simp)];simp only[List.length_cons]at h2;exact ih (at'+1) lo n (by omega) (by omega) hK.tail
theorem zds{n:Nat}{x:List Int}:∀ {lo i j:Nat},Asc n lo x->x[i]? =some (j:Int)->j<n:=by
 induction x with
 |nil=>intro lo i j _ h;simp at h
 |cons y x ih=>
  intro lo i j h hi
  cases i with
  |zero=>
   simp only[List.getElem?_cons_zero,Option.some.injEq]at hi
   rcases h with⟨h,_⟩ |⟨k,h,_,hk,_⟩<;> omega
  |succ i=>
   simp only[List.getElem?_cons_succ]at hi
   rcases h with⟨_,h⟩ |⟨_,_,_,_,h⟩
   ·exact ih h hi
   ·exact ih h hi
theorem zgH(s:List (Int × α)):∀at',xC s->(zF at' s).length=(zW 2 s).length:=by
 induction s with
 |nil=>exact fun _ _ =>rfl
 |cons e s ih=>
  obtain⟨k,x⟩:=e;intro at' hK;rw[zr]
  rcases hK (k,x) (List.mem_cons_self ..)with h |h |h
  ·simp only at h;subst h
   rw[zF,if_pos rfl,if_pos (by simp),List.length_cons,List.length_cons,ih _ hK.tail]
  ·simp only at h;subst h
   rw[zF,if_neg (by simp),if_pos rfl,if_pos (by simp),List.length_cons,List.length_cons,ih _ hK.tail]
  ·simp only at h;subst h
   rw[zF,if_neg (by simp),if_neg (by simp),if_neg (by simp),ih _ hK.tail]
theorem zit{base:List α}{b i:Nat}{z:α}(hb:b<=i)(h:base[i]? =some z):(base.drop b).take (i-b)++[z]=(base.drop b).take (i+1-b):=by
 have:=yz (l:=base.drop b) (k:=i-b) (b:=z) (by rw[List.getElem?_drop,show b +(i-b)=i by omega];exact h);rw[show i+1-b=i-b+1 by omega,this]
end
section
variable{α:Type} [DecidableEq α]
theorem kS(run b o t:List α)(r:List (It α))(h:¬(b=[]/\o=[]/\t=[])):zR run (.gap b o t::r)=zal run++zR [] (.gap b o t::r):=by
 have e:∀run:List α,zR run (.gap b o t::r)=zal run ++(yg b o t,b,o,t)::zR [] r:=fun run=>by rw[zR,if_neg h]
 rw[e run,e []];simp[zal]
theorem zgm(ours theirs:List α)(run:List α):∀ (bs:List α) (xs ys:List Int) (p:List α) (o t:Nat),p≠ []->zR run (xn ours theirs p o t bs xs ys)=zal run++zR [] (xn ours theirs p o t bs xs ys)
 | [],xs,ys,p,o,t,hp=>by
  rw[xn]
  ·exact kS run _ _ _ _ (fun h=>hp h.1)
  all_goals simp
 |z::bs,[],ys,p,o,t,hp=>by
  rw[xn]
  ·exact kS run _ _ _ _ (fun h=>hp h.1)
  all_goals simp
 |z::bs,x::xs,[],p,o,t,hp=>by
  rw[xn]
  ·exact kS run _ _ _ _ (fun h=>hp h.1)
  all_goals simp
 |z::bs,x::xs,y::ys,p,o,t,hp=>by
  rw[xn]
  split
  ·exact zgm ours theirs run bs xs ys (p++[z]) o t (by simp)
  ·exact kS run _ _ _ _ (fun h=>hp h.1)
theorem zlT(ours theirs:List α)(run:List α)(bs:List α)(xs ys:List Int)(o t:Nat)(hx:Asc ours.length o xs)(hy:Asc theirs.length t ys)(hs:bs=[]∨xs[0]?≠some (o:Int)∨ys[0]?≠some (t:Int)):
  zR run (xn ours theirs [] o t bs xs ys)=zal run++zR [] (xn ours theirs [] o t bs xs ys):=by
 have last:∀b o t:List α,zR run [.gap b o t]=zal run++zR [] [.gap b o t]:=fun b o t=>by
  by_cases h:b=[]/\o=[]/\t=[]
  ·rw[show zR run [.gap b o t]=zal run by rw[zR,if_pos h,zR],show zR [] [.gap b o t]=[] by rw[zR,if_pos h,zR];simp[zal]]
   simp
  ·exact kS run b o t [] h
 match bs,xs,ys with
 | [],xs,ys=>rw[xn];exact last _ _ _;all_goals simp
 |z::bs,[],ys=>rw[xn];exact last _ _ _;all_goals simp
 |z::bs,x::xs,[]=>rw[xn];exact last _ _ _;all_goals simp
 |z::bs,x::xs,y::ys=>
  rw[xn]
  split
  ·exact zgm ours theirs run bs xs ys _ o t (by simp)
  ·rename_i hn
   have hne:¬(([]:List α)=[]/\((ours.drop o).take (x.toNat-o))=[]/\((theirs.drop t).take (y.toNat-t))=[]):=by
    rintro⟨_,h1,h2⟩
    rcases hx with⟨h,_⟩ |⟨j,rfl,g1,g2,_⟩
    ·omega
    rcases hy with⟨h,_⟩ |⟨k,rfl,g3,g4,_⟩
    ·omega
    have l1:=congrArg List.length h1;have l2:=congrArg List.length h2;simp only[List.length_take,List.length_drop,List.length_nil,Int.toNat_natCast]at l1 l2
    have e1:j=o:=by omega
    have e2:k=t:=by omega
    rcases hs with hs |hs |hs
    ·cases hs
    ·exact hs (by simp[e1])
    ·exact hs (by simp[e2])
   exact kS run _ _ _ _ hne
theorem zje(ours theirs:List α):∀ (m:Nat) (run bs:List α) (xs ys:List Int) (o t:Nat),bs.length=xs.length->bs.length=ys.length->m<=bs.length->Asc ours.length o xs->Asc theirs.length t ys->
  (∀k,k<m->xs[k]? =some ((o+k:Nat):Int)/\ys[k]? =some ((t+k:Nat):Int))->(m=bs.length∨xs[m]?≠some ((o+m:Nat):Int)∨ys[m]?≠some ((t+m:Nat):Int))->
  zR run (xn ours theirs [] o t bs xs ys)=zal (run++bs.take m)++zR [] (xn ours theirs [] (o+m) (t+m) (bs.drop m) (xs.drop m) (ys.drop m))/\Asc ours.length (o+m) (xs.drop m)/\Asc theirs.length (t+m) (ys.drop m)
 |0,run,bs,xs,ys,o,t,_,_,_,hx,hy,_,hs=>by
  refine⟨?_,hx,hy⟩;simp only[List.take_zero,List.append_nil,List.drop_zero,Nat.add_zero];refine zlT ours theirs run bs xs ys o t hx hy ?_
  rcases hs with hs |hs |hs
  ·exact .inl (List.eq_nil_of_length_eq_zero hs.symm)
  ·exact .inr (.inl (by simpa using hs))
  ·exact .inr (.inr (by simpa using hs))
 |m+1,run,[],xs,ys,o,t,_,_,hm,_,_,_,_ =>by simp at hm
 |m+1,run,z::bs,[],ys,o,t,h,_,_,_,_,_,_ =>by simp at h
 |m+1,run,z::bs,x::xs,[],o,t,_,h,_,_,_,_,_ =>by simp at h
 |m+1,run,z::bs,x::xs,y::ys,o,t,h1,h2,hm,hx,hy,hk,hs=>by
  obtain⟨a1,a2⟩:=hk 0 (by omega);simp only[List.getElem?_cons_zero,Option.some.injEq,Nat.add_zero]at a1 a2;subst a1;subst a2
  have hx':Asc ours.length (o+1) xs:=by
   rcases hx with⟨h,_⟩ |⟨j,e,_,_,h⟩
   ·omega
   ·have:j=o:=by omega
    subst this;exact h
  have hy':Asc theirs.length (t+1) ys:=by
   rcases hy with⟨h,_⟩ |⟨j,e,_,_,h⟩
   ·omega
   ·have:j=t:=by omega
    subst this;exact h
  obtain⟨r1,r2,r3⟩:=zje ours theirs m (run++[z]) bs xs ys (o+1) (t+1) (by simpa using h1) (by simpa using h2) (by simpa using hm) hx' hy' (fun k hk'=>by
   have:=hk (k+1) (by omega);simp only[List.getElem?_cons_succ]at this;rw[show o+1+k=o +(k+1) by omega,show t+1+k=t +(k+1) by omega];exact this) (by
   rcases hs with hs |hs |hs
   ·exact .inl (by simpa using hs)
   ·exact .inr (.inl (by rw[show o+1+m=o +(m+1) by omega];simpa using hs))
   ·exact .inr (.inr (by rw[show t+1+m=t +(m+1) by omega];simpa using hs)))
  rw[show o+1+m=o +(m+1) by omega,show t+1+m=t +(m+1) by omega]at r1;rw[show o+1+m=o +(m+1) by omega]at r2;rw[show t+1+m=t +(m+1) by omega]at r3;refine⟨?_,by simpa using r2,by simpa using r3⟩;rw[xn,if_neg (by omega),Int.toNat_natCast,Int.toNat_natCast,Nat.sub_self,Nat.sub_self,List.take_zero,List.take_zero,zR,if_pos ⟨rfl,rfl,rfl⟩,zR,r1];simp
end
section
variable{α:Type} [DecidableEq α]
def qj(base ours theirs:List α)(x y:List Int)(i b o t:Nat):List (Ck α):=zR [] (xn ours theirs ((base.drop b).take (i-b)) o t (base.drop i) (x.drop i) (y.drop i))
def jY(b o t:List α):List (Ck α):=if b=[]/\o=[]/\t=[]then []else [(yg b o t,b,o,t)]
theorem zoX{base ours theirs:List α}{x y:List Int}{i b o t:Nat}{z:α}{p q:Int}(hb:b<=i)(hz:base[i]? =some z)(hx:x[i]? =some p)(hy:y[i]? =some q)(h:p<0∨q<0):
  qj base ours theirs x y i b o t=qj base ours theirs x y (i+1) b o t:=by
 obtain⟨l1,e1⟩:=List.getElem?_eq_some_iff.1 hz;obtain⟨l2,e2⟩:=List.getElem?_eq_some_iff.1 hx;obtain⟨l3,e3⟩:=List.getElem?_eq_some_iff.1 hy;unfold qj;rw[List.drop_eq_getElem_cons l1,List.drop_eq_getElem_cons l2,List.drop_eq_getElem_cons l3,e1,e2,e3,xn,if_pos h,zit hb hz]
theorem zkm{n lo:Nat}{x:List Int}{i:Nat}(h:Asc n lo (x.drop i))(hi:i<x.length):Asc n lo (x.drop (i+1)):=by
 rw[List.drop_eq_getElem_cons hi]at h
 rcases h with⟨_,h⟩ |⟨j,_,hj,_,h⟩
 ·exact h
 ·exact h.mono (by omega)
theorem zjX{n lo:Nat}{x:List Int}{i:Nat}{p:Int}(h:Asc n lo (x.drop i))(hp:x[i]? =some p)(h0:¬p<0):∃j:Nat,p=(j:Int)/\lo<=j/\j<n/\Asc n (j+1) (x.drop (i+1)):=by
 obtain⟨hi,e⟩:=List.getElem?_eq_some_iff.1 hp;rw[List.drop_eq_getElem_cons hi,e]at h
 rcases h with⟨h,_⟩ |h
 ·omega
 ·exact h
theorem zpK{base ours theirs:List α}{x y:List Int}{i b o t n P Q:Nat}(lx:x.length=base.length)(ly:y.length=base.length)(hi:i<base.length)(hn:0<n)(hin:i+n<=base.length)
  (hx:Asc ours.length o (x.drop i)) (hy:Asc theirs.length t (y.drop i)) (hk:∀k,k<n->x[i+k]? =some ((P+k:Nat):Int)/\y[i+k]? =some ((Q+k:Nat):Int))
  (hs:i+n=base.length∨x[i+n]?≠some ((P+n:Nat):Int)∨y[i+n]?≠some ((Q+n:Nat):Int)):
  qj base ours theirs x y i b o t=jY ((base.drop b).take (i-b)) ((ours.drop o).take (P-o)) ((theirs.drop t).take (Q-t)) ++(1,(base.drop i).take n,(base.drop i).take n,(base.drop i).take n)::qj base ours theirs x y (i+n) (i+n) (P+n) (Q+n)/\
   Asc ours.length (P+n) (x.drop (i+n))/\Asc theirs.length (Q+n) (y.drop (i+n)):=by
 obtain⟨hx0,hy0⟩:=hk 0 hn;simp only[Nat.add_zero]at hx0 hy0;obtain⟨j,e1,_,_,ax⟩:=zjX hx hx0 (by omega);obtain⟨j',e2,_,_,ay⟩:=zjX hy hy0 (by omega)
 have e1:P=j:=by omega
 have e2:Q=j':=by omega
 subst e1;subst e2;obtain⟨l2,g2⟩:=List.getElem?_eq_some_iff.1 hx0;obtain⟨l3,g3⟩:=List.getElem?_eq_some_iff.1 hy0;obtain⟨m,rfl⟩:∃m,n=m+1:=⟨n-1,by omega⟩
 obtain⟨r1,r2,r3⟩:=zje ours theirs m [base[i]] (base.drop (i+1)) (x.drop (i+1)) (y.drop (i+1)) (P+1) (Q+1) (by simp[lx]) (by simp[ly]) (by simp;omega) ax ay (fun k hk'=>by
  rw[List.getElem?_drop,List.getElem?_drop,show i+1+k=i +(k+1) by omega,show P+1+k=P +(k+1) by omega,show Q+1+k=Q +(k+1) by omega]
  exact hk (k+1) (by omega)) (by
  rw[List.getElem?_drop,List.getElem?_drop,List.length_drop,show i+1+m=i +(m+1) by omega,show P+1+m=P +(m+1) by omega,show Q+1+m=Q +(m+1) by omega]
  rcases hs with hs |hs |hs
  ·exact .inl (by omega)
  ·exact .inr (.inl hs)
  ·exact .inr (.inr hs))
 rw[List.drop_drop,show i+1+m=i +(m+1) by omega,show P+1+m=P +(m+1) by omega]at r2;rw[List.drop_drop,show i+1+m=i +(m+1) by omega,show Q+1+m=Q +(m+1) by omega]at r3;refine⟨?_,r2,r3⟩
 have hrun: [base[i]] ++(base.drop (i+1)).take m=(base.drop i).take (m+1):=by
  rw[List.drop_eq_getElem_cons hi,List.take_succ_cons]
  rfl
 have hgap:∀ (bb oo tt:List α) (r:List (It α)),zR [] (.gap bb oo tt::r)=jY bb oo tt++zR [] r:=fun bb oo tt r=>by
  rw[zR];unfold jY
  split
  ·simp
  ·simp[zal]
 have hne:(base.drop i).take (m+1)≠ []:=by
  rw[<-hrun];simp
 unfold qj;rw[List.drop_eq_getElem_cons hi,List.drop_eq_getElem_cons l2,List.drop_eq_getElem_cons l3,g2,g3,xn,if_neg (by omega),Int.toNat_natCast,Int.toNat_natCast,hgap,zR,List.nil_append,r1,hrun];rw[show zal ((base.drop i).take (m+1))=[(1,(base.drop i).take (m+1),(base.drop i).take (m+1),(base.drop i).take (m+1))] by rw[zal,if_neg hne]];simp only[List.drop_drop,Nat.sub_self,List.take_zero,List.singleton_append];rw[show i+1+m=i +(m+1) by omega,show P+1+m=P +(m+1) by omega,show Q+1+m=Q +(m+1) by omega];rw[List.drop_eq_getElem_cons hi,List.take_succ_cons]
theorem zpP{base ours theirs:List α}{x y:List Int}{b o t:Nat}:qj base ours theirs x y base.length b o t=jY (base.drop b) (ours.drop o) (theirs.drop t):=by
 unfold qj;rw[List.drop_length,List.take_of_length_le (by simp)];rw[xn]
 ·rw[zR]
  unfold jY
  split
  ·simp[zR,zal]
  ·simp[zR,zal]
 all_goals simp
theorem zmR(base ours theirs:List α):yn base ours theirs=qj base ours theirs (yi base ours) (yi base theirs) 0 0 0 0:=by
 unfold yn qj;simp
end
section
variable{α:Type} [DecidableEq α]
theorem zfB(a b:List α):xC (qh a b)/\zW 2 (qh a b)=a/\zW 3 (qh a b)=b/\(qh a b).length<=a.length+b.length:=by
 unfold qh
 split
 ·refine⟨fun e he=>?_,?_,?_,by simp⟩
  ·rcases List.mem_append.1 he with h |h
   ·obtain⟨x,_,rfl⟩:=List.mem_map.1 h
    simp
   ·obtain⟨x,_,rfl⟩:=List.mem_map.1 h
    simp
  ·rw[zK,zdv 2 2 a (.inr rfl),zcj 2 3 b (by decide),List.append_nil]
  ·rw[zK,zcj 3 2 a (by decide),zdv 3 3 b (.inr rfl),List.nil_append]
 ·have h:=zoh a b
  exact⟨zoe a b,h.1,h.2.1,by omega⟩
theorem yr:∀a b:List α,xC (zU a b)/\zW 2 (zU a b)=a/\zW 3 (zU a b)=b/\(zU a b).length<=a.length+b.length
 | [],b=>by rw[qX];exact zfB _ _
 |x::a,[]=>by rw[qF];exact zfB _ _
 |x::a,y::b=>by
  rw[zaI]
  split
  ·rename_i h
   subst h;obtain⟨h1,h2,h3,h4⟩:=yr a b;refine⟨fun e he=>?_,?_,?_,by simp;omega⟩
   ·rcases List.mem_cons.1 he with rfl |he
    ·simp
    ·exact h1 e he
   ·rw[zr,if_pos (by simp),h2]
   ·rw[zr,if_pos (by simp),h3]
  ·exact zfB _ _
theorem kW(a b:List α):(yi a b).length=a.length:=by
 unfold yi;rw[zgH _ _ (yr a b).1,(yr a b).2.1]
theorem ks(a b:List α):Asc b.length 0 (yi a b):=by
 unfold yi;exact zkl _ 0 0 _ (Nat.le_refl _) (by rw[(yr a b).2.2.1,Nat.zero_add]) (yr a b).1
theorem zfo(a b c:List α):∃I,GQ [] [] [] (zU a b) (zU a c) I/\yn a b c=zR [] I:=by
 obtain⟨k1,s1,t1,_⟩:=yr a b;obtain⟨k2,s2,t2,_⟩:=yr a c;obtain⟨I,hI⟩:=GQ.there _ [] [] [] (zU a b) (zU a c) (Nat.le_refl _) k1 k2 (s1.trans s2.symm);refine⟨I,hI,?_⟩;have h:=hI.places (ours:=b) (theirs:=c) 0 0 0 0 rfl rfl (by rw[t1];rfl) (by rw[t2];rfl);rw[s1]at h;unfold yn yi;rw[h]
theorem zaL(a b c:List α):(yn a b c).flatMap (·.2.1)=a/\(yn a b c).flatMap (·.2.2.1)=b/\(yn a b c).flatMap (·.2.2.2)=c/\(yn a b c).length<=a.length+b.length+c.length:=by
 obtain⟨I,hI,he⟩:=zfo a b c;obtain⟨h1,h2,h3⟩:=hI.sides;rw[(yr a b).2.1,List.nil_append]at h1;rw[(yr a b).2.2.1,List.nil_append]at h2;rw[(yr a c).2.2.1,List.nil_append]at h3;obtain⟨g1,g2,g3,_⟩:=zlm I [];have g4:=zkh I [];rw[he];refine⟨by rw[g1,h1];rfl,by rw[g2,h2];rfl,by rw[g3,h3];rfl,?_⟩;rw[h1,h2,h3]at g4;simpa using g4
end
open Go.RowKit
abbrev CkS:=Ck (List UInt8)
def SlC(w:World)(v:Value)(cs:List CkS):Prop:=
 ∃ao cap,v= .slice ao cs.length cap/\(ao=none->cs=[])/\cs.length<=cap/\∀a,ao=some a->∀i c,cs[i]? =some c->∃vb vo vt,w.cell? (a.add (i*4))=some (.int .i64 c.1)/\w.cell? (a.add (i*4+1))=some vb/\w.cell? (a.add (i*4+2))=some vo/\w.cell? (a.add (i*4+3))=some vt/\
  Sl w vb (zj c.2.1)/\Sl w vo (zj c.2.2.1)/\Sl w vt (zj c.2.2.2)
theorem SlC.nil(w:World):SlC w (.slice none 0 0) []:=⟨none,0,rfl,fun _ =>rfl,Nat.le_refl _,fun a h=>by cases h⟩
theorem SlC.form{w:World}{v:Value}{cs:List CkS}(h:SlC w v cs):∃ao cap,v= .slice ao cs.length cap:=by
 obtain⟨ao,cap,rfl,_⟩:=h;exact⟨ao,cap,rfl⟩
theorem SlC.old{w w':World}{v:Value}{cs:List CkS}(h:SlC w v cs)(hk:Below w.heap.size w w'):SlC w' v cs:=by
 obtain⟨ao,cap,rfl,hn,hcap,hc⟩:=h;refine⟨ao,cap,rfl,hn,hcap,fun a ha i c hi=>?_⟩;obtain⟨vb,vo,vt,h1,h2,h3,h4,h5,h6,h7⟩:=hc a ha i c hi
 have k:∀ {p:Addr} {u:Value},w.cell? p=some u->w'.cell? p=some u:=fun {p u} hp=>(World.cell?_of_block (w:=w) (hk.block _ (World.block_lt_of_cell? w _ hp))).trans hp
 exact⟨vb,vo,vt,k h1,k h2,k h3,k h4,h5.old hk,h6.old hk,h7.old hk⟩
theorem SlC.at'{w:World}{ao:Option Addr}{n cap:Nat}{cs:List CkS}(h:SlC w (.slice ao n cap) cs){i:Nat}(hi:i<cs.length):
  ∃b o k xb xo xt vb vo vt,ao=some ⟨b,o,none⟩/\w.cell? ⟨b,o+i*4,none⟩=some (.int .i64 k)/\w.cell? ⟨b,o+i*4+1,none⟩=some vb/\w.cell? ⟨b,o+i*4+2,none⟩=some vo/\w.cell? ⟨b,o+i*4+3,none⟩=some vt/\
   Sl w vb (zj xb)/\Sl w vo (zj xo)/\Sl w vt (zj xt)/\cs[i]? =some (k,xb,xo,xt):=by
 obtain⟨ao',cap',hv,hn,_,hc⟩:=h;obtain⟨rfl,_,_⟩:=Value.slice.inj hv
 cases ao with
 |none=>rw[hn rfl]at hi;cases hi
 |some a=>
  obtain⟨b,o,sp⟩:=a;obtain⟨vb,vo,vt,h1,h2,h3,h4,h5,h6,h7⟩:=hc _ rfl i _ (List.getElem?_eq_getElem hi);obtain⟨_,_,_,h0,_⟩:=hc _ rfl 0 _ (List.getElem?_eq_getElem (by omega));rw[Nat.zero_mul,show(⟨b,o,sp⟩:Addr).add 0=⟨b,o,sp⟩from rfl]at h0;have hsp:sp=none:=World.cell?_spot h0;subst hsp
  have hadd:∀j,(⟨b,o,none⟩:Addr).add j=⟨b,o+j,none⟩:=fun j=>Addr.add_lit ..
  rw[hadd]at h1 h2 h3 h4;rw[<-Nat.add_assoc]at h2 h3 h4;exact⟨b,o,_,_,_,_,vb,vo,vt,rfl,h1,h2,h3,h4,h5,h6,h7,List.getElem?_eq_getElem hi⟩
def zpg(cs:List CkS):Prop:=∀c∈cs,c.2.1.length<=4000000/\c.2.2.1.length<=4000000/\c.2.2.2.length<=4000000
theorem zpg.at{cs:List CkS}(h:zpg cs){i:Nat}{k:Int}{xb xo xt:List (List UInt8)}(hi:cs[i]? =some (k,xb,xo,xt)):xb.length<=4000000/\xo.length<=4000000/\xt.length<=4000000:=h _ (List.mem_of_getElem? hi)
theorem zdg{α β:Type}{f:α->List β}{l:List α}{c:α}(h:c∈l):(f c).length<=(l.flatMap f).length:=by
 induction l with
 |nil=>cases h
 |cons x l ih=>
  rw[List.flatMap_cons,List.length_append]
  rcases List.mem_cons.1 h with rfl |h
  ·omega
  ·have:=ih h;omega
theorem zgN{a b c:List (List UInt8)}(ha:a.length<=3000)(hb:b.length<=3000)(hc:c.length<=3000):zpg (yn a b c)/\(yn a b c).length<=9000/\(yn a b c).length<=a.length+b.length+c.length:=by
 obtain⟨h1,h2,h3,h6⟩:=zaL a b c;refine⟨fun k hk=>?_,by omega,h6⟩;have e1:=zdg (f:=fun k:CkS=>k.2.1) hk;have e2:=zdg (f:=fun k:CkS=>k.2.2.1) hk;have e3:=zdg (f:=fun k:CkS=>k.2.2.2) hk;rw[h1]at e1;rw[h2]at e2;rw[h3]at e3;omega
open Go.RowKit
def zpR(w:World)(v:Value)(cs:List CkS)(flat:List Value):Prop:=
 ∀i c,cs[i]? =some c->∃vb vo vt,flat[i*4]? =some (.int .i64 c.1)/\flat[i*4+1]? =some vb/\flat[i*4+2]? =some vo/\flat[i*4+3]? =some vt/\yy w v vb c.2.1/\yy w v vo c.2.2.1/\yy w v vt c.2.2.2
def xZ(w:World)(base:Nat)(v:Value)(cs:List CkS):Prop:=∃flat,w.ownsRow base 104 4 v cs.length flat/\zpR w v cs flat
theorem xZ.nil(w:World)(base:Nat):xZ w base (.slice none 0 0) []:=⟨[],World.ownsRow_nil _ _ _ _,fun i h hi=>by simp at hi⟩
theorem xZ.form{w:World}{base:Nat}{v:Value}{cs:List CkS}(h:xZ w base v cs):∃ao cap,v= .slice ao cs.length cap:=by
 obtain⟨flat,h,_⟩:=h;exact zl h
theorem xZ.lt{w:World}{base:Nat}{v:Value}{cs:List CkS}(h:xZ w base v cs):∀j,v.ownBlock=some j->base<=j/\j<w.heap.size:=by
 obtain⟨flat,h,_⟩:=h;exact h.lt
theorem xZ.slC{w:World}{base:Nat}{v:Value}{cs:List CkS}(h:xZ w base v cs):SlC w v cs:=by
 obtain⟨flat,h1,h2⟩:=h
 rcases h1.2 with⟨rfl,hn⟩ |⟨g,cap,cur,rfl,r⟩
 ·have:cs=[]:=List.eq_nil_of_length_eq_zero hn
  subst this;exact SlC.nil w
 ·refine⟨some ⟨g,0,none⟩,cap,rfl,(fun h=>by cases h),r.2.2.1,fun a ha i x hx=>?_⟩
  cases ha;obtain⟨vb,vo,vt,e1,e2,e3,e4,n1,n2,n3⟩:=h2 i x hx;exact⟨vb,vo,vt,h1.cells rfl _ _ e1,h1.cells rfl _ _ e2,h1.cells rfl _ _ e3,h1.cells rfl _ _ e4,n1.1,n2.1,n3.1⟩
theorem xZ.old{w w':World}{base:Nat}{v:Value}{cs:List CkS}(h:xZ w base v cs)(hk:Below w.heap.size w w'):xZ w' base v cs:=by
 obtain⟨flat,h1,h2⟩:=h;refine⟨flat,?_,fun i x hx=>?_⟩
 ·rcases h1.2 with⟨rfl,h0⟩ |⟨g,cap,cur,rfl,r1,r2,r3⟩
  ·exact⟨h1.1,.inl ⟨rfl,h0⟩⟩
  ·exact⟨h1.1,.inr ⟨g,cap,cur,rfl,r1,(hk.block g (h1.lt g rfl).2).trans r2,r3⟩⟩
 ·obtain⟨vb,vo,vt,e1,e2,e3,e4,n1,n2,n3⟩:=h2 i x hx
  have k:∀ {u xs},yy w v u xs->yy w' v u xs:=fun n=>n.kept (fun b hb _ =>hk.block b hb) hk.size (.inl rfl)
  exact⟨vb,vo,vt,e1,e2,e3,e4,k n1,k n2,k n3⟩
theorem Tryz.infoCk:(Tryz.prog.info? 104).map (fun i=>(i.zero,i.size,i.bytes))=some (some (.agg #[.int .i64 0,.slice none 0 0,.slice none 0 0,.slice none 0 0]),4,80):=by kernel_rfl
section
variable{w:World}
theorem zkT{base:Nat}{v:Value}{cs:List CkS}{k:Int}{xb xo xt:List (List UInt8)}{vb vo vt:Value}{flat:List Value}(h1:w.ownsRow base 104 4 v cs.length flat)
  (h2:zpR w v cs flat) (hn1:yy w v vb xb) (hn2:yy w v vo xo) (hn3:yy w v vt xt)
  {o:Obj} {v':Value} {w':World} (q1:w'.ownsRow base 104 4 v' (cs.length+1) (flat++[.int .i64 k,vb,vo,vt])) (q2:(w.alloc o).grownBy w' v.ownBlock) (q3:v'.ownBlock=v.ownBlock∨v'.ownBlock=some (w.alloc o).heap.size):
  xZ w' base v' (cs++[(k,xb,xo,xt)]):=by
 have hl:=h1.1
 have hz:(w.alloc o).heap.size=w.heap.size+1:=by simp
 have keep:∀b,b<w.heap.size->v.ownBlock≠some b->w'.heap[b]? =w.heap[b]? :=fun b hb hne=>(q2.block b (by omega) (fun e=>hne e.symm)).trans (Below.heap_alloc w _ b hb)
 have hv:v'.ownBlock=v.ownBlock∨∃f,v'.ownBlock=some f/\w.heap.size<=f:=by
  rcases q3 with e |e
  ·exact .inl e
  ·exact .inr ⟨_,e,by omega⟩
 have hsz:w.heap.size<=w'.heap.size:=by have:=q2.size;omega
 have kk:∀ {u xs},yy w v u xs->yy w' v' u xs:=fun n=>n.kept keep hsz hv
 refine⟨flat++[.int .i64 k,vb,vo,vt],by rw[List.length_append];exact q1,fun i x hx=>?_⟩
 by_cases hi:i<cs.length
 ·rw[List.getElem?_append_left hi]at hx
  obtain⟨a,b,c,e1,e2,e3,e4,n1,n2,n3⟩:=h2 i x hx;refine⟨a,b,c,?_,?_,?_,?_,kk n1,kk n2,kk n3⟩
  ·rw[List.getElem?_append_left (by omega)];exact e1
  ·rw[List.getElem?_append_left (by omega)];exact e2
  ·rw[List.getElem?_append_left (by omega)];exact e3
  ·rw[List.getElem?_append_left (by omega)];exact e4
 ·have hlt:=(List.getElem?_eq_some_iff.1 hx).1
  rw[List.length_append,List.length_singleton]at hlt
  obtain rfl:i=cs.length:=by omega
  rw[List.getElem?_append_right (Nat.le_refl _),Nat.sub_self]at hx;cases hx;refine⟨vb,vo,vt,?_,?_,?_,?_,kk hn1,kk hn2,kk hn3⟩
  ·rw[List.getElem?_append_right (by omega),show cs.length*4-flat.length=0 by omega];rfl
  ·rw[List.getElem?_append_right (by omega),show cs.length*4+1-flat.length=1 by omega];rfl
  ·rw[List.getElem?_append_right (by omega),show cs.length*4+2-flat.length=2 by omega];rfl
  ·rw[List.getElem?_append_right (by omega),show cs.length*4+3-flat.length=3 by omega];rfl
theorem zjP{o:Oper}{a:Act}{K:Act->World->Prop}{Q:Exit->Act->World->Prop}(s sx:Operand)
  (ho:o.op= .call {callee:= .builtin .append,args:= #[s,sx],argTypes:= #[94,94] })
  (base:Nat) (v:Value) (cs:List CkS) (k:Int) (xb xo xt:List (List UInt8)) (vb vo vt:Value) (he:a.eval s=v) (hown:xZ w base v cs) (hn1:yy w v vb xb) (hn2:yy w v vo xo) (hn3:yy w v vt xt)
  (hx:a.eval sx= .slice (some ⟨w.heap.size,0,none⟩) 1 1) (c1:vb.oneCell'=true) (c2:vo.oneCell'=true) (c3:vt.oneCell'=true) (hlen:cs.length<=4000000) (hbase:base<=w.heap.size)
  (h:∀v' w',xZ w' base v' (cs++[(k,xb,xo,xt)])->Below base w w'->(∀b,b<w.heap.size->v.ownBlock≠some b->w'.heap[b]? =w.heap[b]?)->K (a.put o.dst v') w'):o.wp Tryz.prog a (w.alloc (.cells #[.int .i64 k,vb,vo,vt] 104)) K Q:=by
 obtain⟨flat,h1,h2⟩:=hown;obtain⟨i0,hi0,hi1,hi2,hi3⟩:=info_parts Tryz.infoCk
 have hz:(w.alloc (.cells #[.int .i64 k,vb,vo,vt] 104)).heap.size=w.heap.size+1:=by simp
 refine jF _ s sx _ _ ho base 104 i0 _ 4 80 Tryz.underlying94 hi0 hi1 hi2 hi3 rfl (by omega) v _ _ he (h1.alloc _) _ 1 [.int .i64 k,vb,vo,vt] hx
  (Src.ofSlice _ Tryz.underlying94 ⟨w.heap.size,0,none⟩ 1 1 [.int .i64 k,vb,vo,vt] (by rfl) (World.news_of_block (cs:= #[.int .i64 k,vb,vo,vt]) (t:=104) (fr:=(0,0)) (heap_alloc_new w _)) (fun u hu=>?_)) (by unfold maxLen;omega) (by omega) (by omega) fun v' w' q1 q2 q3=>h v' w' (zkT h1 h2 hn1 hn2 hn3 q1 q2 q3) ?_ fun b hb hne=>(q2.block b (by omega) (fun e=>hne e.symm)).trans (Below.heap_alloc w _ b hb)
 ·rcases List.mem_cons.1 hu with rfl |hu
  ·rfl
  rcases List.mem_cons.1 hu with rfl |hu
  ·exact c1
  rcases List.mem_cons.1 hu with rfl |hu
  ·exact c2
  rcases List.mem_cons.1 hu with rfl |hu
  ·exact c3
  cases hu
 ·exact((Below.refl base w).alloc hbase _).grown q2 (by omega) (fun j hj=>(h1.lt j hj).1)
theorem jc{ops:Array Oper}{rest:List Oper}{o:Oper}{a:Act}{Q:Exit->Act->World->Prop}(hgd:o.guard=none)(s sx:Operand)
  (ho:o.op= .call {callee:= .builtin .append,args:= #[s,sx],argTypes:= #[94,94] })
  (base:Nat) (v:Value) (cs:List CkS) (k:Int) (xb xo xt:List (List UInt8)) (vb vo vt:Value) (he:a.eval s=v) (hown:xZ w base v cs) (hn1:yy w v vb xb) (hn2:yy w v vo xo) (hn3:yy w v vt xt)
  (hx:a.eval sx= .slice (some ⟨w.heap.size,0,none⟩) 1 1) (c1:vb.oneCell'=true) (c2:vo.oneCell'=true) (c3:vt.oneCell'=true) (hlen:cs.length<=4000000) (hbase:base<=w.heap.size)
  (h:∀v' w',xZ w' base v' (cs++[(k,xb,xo,xt)])->Below base w w'->(∀b,b<w.heap.size->v.ownBlock≠some b->w'.heap[b]? =w.heap[b]?)->wpList Tryz.prog ops Q rest (a.put o.dst v') w'):wpList Tryz.prog ops Q (o::rest) a (w.alloc (.cells #[.int .i64 k,vb,vo,vt] 104)):=
 wpList_plain hgd fun _ hK=>zjP s sx ho base v cs k xb xo xt vb vo vt he hown hn1 hn2 hn3 hx c1 c2 c3 hlen hbase fun v' w' h2 h3 h4=>hK _ _ (h v' w' h2 h3 h4)
theorem jL{ops:Array Oper}{rest:List Oper}{o:Oper}{a:Act}{Q:Exit->Act->World->Prop}(hgd:o.guard=none)(s sx:Operand)
  (ho:o.op= .call {callee:= .builtin .append,args:= #[s,sx],argTypes:= #[94,94] })
  (base:Nat) (v:Value) (cs:List CkS) (k:Int) (xb xo xt:List (List UInt8)) (vb vo vt:Value) (he:a.eval s=v) (hown:xZ w base v cs) (hn1:yy w v vb xb) (hn2:yy w v vo xo) (hn3:yy w v vt xt)
  (g:Nat) (hg:w.heap.size=g) (hx:a.eval sx= .slice (some ⟨g,0,none⟩) 1 1) (c1:vb.oneCell'=true) (c2:vo.oneCell'=true) (c3:vt.oneCell'=true) (hlen:cs.length<=4000000) (hbase:base<=w.heap.size)
  (h:∀v' w',xZ w' base v' (cs++[(k,xb,xo,xt)])->Below base w w'->wpList Tryz.prog ops Q rest (a.put o.dst v') w'):wpList Tryz.prog ops Q (o::rest) a (w.alloc (.cells #[.int .i64 k,vb,vo,vt] 104)):=by
 subst hg
 exact jc hgd s sx ho base v cs k xb xo xt vb vo vt he hown hn1 hn2 hn3 hx c1 c2 c3 hlen hbase fun v' w' h1 h2 _ =>h v' w' h1 h2
end
end Go.Proofs.YtbnafihigoekeaaGreatDoor

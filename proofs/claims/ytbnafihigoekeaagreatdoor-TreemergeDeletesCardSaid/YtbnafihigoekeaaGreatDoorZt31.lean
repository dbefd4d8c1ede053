/-
  TmTl, part 31.
-/
import Derived.Test.YtbnafihigoekeaaGreatDoorZt30
namespace Go.Proofs.YtbnafihigoekeaaGreatDoor
open Go.Sort
section
variable{α:Type} [Inhabited α]
def Ord(lt:α->α->Bool)(a b:Nat)(d:Array α):Prop:=∀i j,a<=i->i<j->j<b->lt d[j]! d[i]! =false
structure ju(lt:α->α->Bool)(a b:Nat)(d d':Array α):Prop where
 size:d'.size=d.size
 way:∃π:Nat->Nat,(∀k,d'[k]! =d[π k]!)/\(∀k,a<=k->k<b->a<=π k/\π k<b)/\(∀k,k<a∨b<=k->π k=k)/\
  (∀i j,i<j->π i≠π j)/\∀i j,i<j->π j<π i->lt d[π i]! d[π j]! =true
variable{lt:α->α->Bool}
theorem ju.refl(a b:Nat)(d:Array α):ju lt a b d d:=
 ⟨rfl,id,fun _ =>rfl,fun _ h1 h2=>⟨h1,h2⟩,fun _ _ =>rfl,fun i j h=>by show i≠j;omega,fun i j h h2=>by simp only[id]at h2;omega⟩
theorem ju.trans{a b:Nat}{d d1 d2:Array α}(h1:ju lt a b d d1)(h2:ju lt a b d1 d2):ju lt a b d d2:=by
 obtain⟨s1,p,p1,p2,p3,p4,p5⟩:=h1;obtain⟨s2,q,q1,q2,q3,q4,q5⟩:=h2;refine⟨s2.trans s1,fun k=>p (q k),fun k=>(q1 k).trans (p1 _),fun k e1 e2=>p2 _ (q2 k e1 e2).1 (q2 k e1 e2).2,fun k e=>by show p (q k)=k;rw[q3 k e,p3 k e],fun i j h=>?_,fun i j h h'=>?_⟩
 ·have:=q4 i j h
  rcases Nat.lt_trichotomy (q i) (q j)with e |e |e
  ·exact p4 _ _ e
  ·exact absurd e this
  ·exact(p4 _ _ e).symm
 ·rcases Nat.lt_trichotomy (q i) (q j)with e |e |e
  ·exact p5 _ _ e h'
  ·exact absurd e (q4 i j h)
  ·have:=q5 i j h e
   rwa [p1,p1]at this
theorem ju.wide{a b a' b':Nat}{d d1:Array α}(h:ju lt a b d d1)(ha:a'<=a)(hb:b<=b'):ju lt a' b' d d1:=by
 obtain⟨s1,p,p1,p2,p3,p4,p5⟩:=h;refine⟨s1,p,p1,fun k e1 e2=>?_,fun k e=>p3 k (by omega),p4,p5⟩
 by_cases e:a<=k/\k<b
 ·have:=p2 k e.1 e.2
  omega
 ·rw[p3 k (by omega)]
  exact⟨e1,e2⟩
theorem ju.out{a b:Nat}{d d1:Array α}(h:ju lt a b d d1){k:Nat}(hk:k<a∨b<=k):d1[k]! =d[k]!:=by
 obtain⟨_,p,p1,_,p3,_⟩:=h;rw[p1,p3 k hk]
theorem ju.ins{a b:Nat}{d d1:Array α}(h:ju lt a b d d1){k:Nat}(h1:a<=k)(h2:k<b):∃j,a<=j/\j<b/\d1[k]! =d[j]!:=by
 obtain⟨_,p,p1,p2,_⟩:=h;exact⟨p k,(p2 k h1 h2).1,(p2 k h1 h2).2,p1 k⟩
theorem Ord.out{a b x y:Nat}{d d1:Array α}(h:ju lt a b d d1)(ho:Ord lt x y d)(hk:y<=a∨b<=x):Ord lt x y d1:=fun i j h1 h2 h3=>by
 rw[h.out (k:=i) (by omega),h.out (k:=j) (by omega)];exact ho i j h1 h2 h3
theorem Ord.one{a b:Nat}(d:Array α)(h:b<=a+1):Ord lt a b d:=fun i j e1 e2 e3=>by omega
def yF(s m e k:Nat):Nat:=if s<=k/\k<s +(e-m)then k +(m-s)else if s +(e-m)<=k/\k<e then k-(e-m)else k
def swI(a b n k:Nat):Nat:=if a<=k/\k<a+n then k +(b-a)else if b<=k/\k<b+n then k-(b-a)else k
theorem zqy(d:Array α){i j:Nat}(hij:i<j)(hj:j<d.size)(k:Nat):(swp d i j)[k]! =d[swI i j 1 k]!:=by
 unfold swI
 by_cases e1:k=i
 ·subst e1
  rw[swp_left d k j (by omega) (by omega),if_pos (by omega)]
  congr 1
  omega
 ·by_cases e2:k=j
  ·subst e2
   rw[swp_right d i k hj,if_neg (by omega),if_pos (by omega)]
   congr 1
   omega
  ·rw[swp_other d i j k e1 e2,if_neg (by omega),if_neg (by omega)]
theorem zpU(d:Array α){i j:Nat}(hij:i<j)(hj:j<d.size)(k:Nat):(swp d j i)[k]! =d[swI i j 1 k]!:=by
 unfold swI
 by_cases e1:k=i
 ·subst e1
  rw[swp_right d j k (by omega),if_pos (by omega)]
  congr 1
  omega
 ·by_cases e2:k=j
  ·subst e2
   rw[swp_left d k i hj (by omega),if_neg (by omega),if_pos (by omega)]
   congr 1
   omega
  ·rw[swp_other d j i k e2 e1,if_neg (by omega),if_neg (by omega)]
theorem zdz(a b:Nat):∀ (n i:Nat) (d:Array α),a+i+n<=b+i->b+i+n<=d.size->∀k,(kh a b n i d)[k]! =d[swI (a+i) (b+i) n k]!
 |0,i,d,_,_,k=>by
  rw[kh,swI,if_neg (by omega),if_neg (by omega)]
 |n+1,i,d,h1,h2,k=>by
  rw[kh,zdz a b n (i+1) _ (by omega) (by rw[size_swp];omega),zqy d (by omega) (by omega)]
  congr 1
  unfold swI
  repeat' split
  all_goals omega
theorem zhm(m:Nat):∀ (g i j:Nat) (d:Array α),1<=i->1<=j->i<=m->m+j<=d.size->i+j<=g->∀k,(kV m g i j d)[k]! =d[yF (m-i) m (m+j) k]!
 |0,i,j,d,h1,h2,_,_,hg,_ =>by omega
 |g+1,i,j,d,h1,h2,h3,h4,hg,k=>by
  rw[kV]
  split
  ·rename_i e
   subst e;rw[zdz _ _ _ _ _ (by omega) (by omega)]
   congr 1
   unfold swI yF
   repeat' split
   all_goals omega
  ·split
   ·rw[zhm m g (i-j) j _ (by omega) h2 (by omega) (by rw[xB];omega) (by omega),zdz _ _ _ _ _ (by omega) (by omega)]
    congr 1
    unfold swI yF
    repeat' split
    all_goals omega
   ·rw[zhm m g i (j-i) _ h1 (by omega) h3 (by rw[xB];omega) (by omega),zdz _ _ _ _ _ (by omega) (by omega)]
    congr 1
    unfold swI yF
    repeat' split
    all_goals omega
theorem zmz(d:Array α){s m e:Nat}(h1:s<m)(h2:m<e)(he:e<=d.size)(k:Nat):(xY d s m e)[k]! =d[yF s m e k]!:=by
 rw[xY,zhm m (e-s) (m-s) (e-m) d (by omega) (by omega) (by omega) (by omega) (by omega)];rw[show m-(m-s)=s by omega,show m +(e-m)=e by omega]
theorem znJ:∀ (n k:Nat) (d:Array α),k+n<d.size->∀t,(zdC n k d)[t]! =d[yF k (k+1) (k+1+n) t]!
 |0,k,d,h,t=>by
  rw[zdC]
  congr 1
  unfold yF
  repeat' split
  all_goals omega
 |n+1,k,d,h,t=>by
  rw[zdC,znJ n (k+1) _ (by rw[size_swp];omega),zqy d (by omega) (by omega)]
  congr 1
  unfold swI yF
  repeat' split
  all_goals omega
theorem zjn:∀ (n k:Nat) (d:Array α),n<=k->k<d.size->∀t,(kC n k d)[t]! =d[yF (k-n) k (k+1) t]!
 |0,k,d,_,h,t=>by
  rw[kC]
  congr 1
  unfold yF
  repeat' split
  all_goals omega
 |n+1,k,d,hn,h,t=>by
  rw[kC,zjn n (k-1) _ (by omega) (by rw[size_swp];omega),zpU d (by omega) h]
  congr 1
  unfold swI yF
  repeat' split
  all_goals omega
theorem zeI{d d':Array α}{s m e:Nat}(h1:s<=m)(h2:m<=e)(hs:d'.size=d.size)(ha:∀k,d'[k]! =d[yF s m e k]!)
  (hx:∀x y,s<=x->x<m->m<=y->y<e->lt d[y]! d[x]! =true):ju lt s e d d':=by
 refine⟨hs,yF s m e,ha,fun k e1 e2=>?_,fun k e1=>?_,fun i j hij=>?_,fun i j hij hc=>?_⟩
 ·unfold yF
  repeat' split
  all_goals omega
 ·unfold yF
  repeat' split
  all_goals omega
 ·unfold yF
  repeat' split
  all_goals omega
 ·have:s<=yF s m e j/\yF s m e j<m/\m<=yF s m e i/\yF s m e i<e:=by
   revert hc
   unfold yF
   repeat' split
   all_goals intro hc
   all_goals omega
  exact hx _ _ this.1 this.2.1 this.2.2.1 this.2.2.2
omit [Inhabited α] in
theorem zkD(hS:SWO lt){x y:α}(h:lt x y=true):lt y x=false:=by
 cases e:lt y x with
 |false=>rfl
 |true=>exact absurd (hS.trans _ _ _ h e) (by rw[hS.irrefl];simp)
theorem znv(hS:SWO lt){d d':Array α}{a s m e b:Nat}(h0:a<=s)(h1:s<=m)(h2:m<=e)(h3:e<=b)(ha:∀k,d'[k]! =d[yF s m e k]!)
  (o1:Ord lt a m d) (o2:Ord lt m b d) (hx:∀x y,s<=x->x<m->m<=y->y<e->lt d[y]! d[x]! =true)
  (hk:∀x y,a<=x->x<m->m<=y->y<b->x<s∨e<=y->lt d[y]! d[x]! =false):Ord lt a b d':=fun i j e1 e2 e3=>by
 rw[ha,ha]
 have hi:a<=yF s m e i/\yF s m e i<b:=by
  unfold yF
  repeat' split
  all_goals omega
 have hj:a<=yF s m e j/\yF s m e j<b:=by
  unfold yF
  repeat' split
  all_goals omega
 have hw:yF s m e i<yF s m e j∨(s<=yF s m e j/\yF s m e j<m/\m<=yF s m e i/\yF s m e i<e):=by
  unfold yF
  repeat' split
  all_goals omega
 have hnc:yF s m e i<m->m<=yF s m e j->yF s m e i<s∨e<=yF s m e j:=by
  unfold yF
  repeat' split
  all_goals omega
 rcases hw with hw |⟨w1,w2,w3,w4⟩
 ·by_cases q1:yF s m e j<m
  ·exact o1 _ _ hi.1 hw q1
  ·by_cases q2:m<=yF s m e i
   ·exact o2 _ _ q2 hw hj.2
   ·exact hk _ _ hi.1 (by omega) (by omega) hj.2 (hnc (by omega) (by omega))
 ·exact zkD hS (hx _ _ w1 w2 w3 w4)
theorem zeV(f:Nat->Bool):∀ (g i j:Nat),i<=j->j-i<=g->(i<xe f g i j->f (xe f g i j-1)=true)/\(xe f g i j<j->f (xe f g i j)=false)
 |0,i,j,h,hg=>⟨fun e=>by rw[xe]at e;omega,fun e=>by rw[xe]at e;omega⟩
 |g+1,i,j,h,hg=>by
  rw[xe]
  split
  ·split
   ·rename_i hf
    have ih:=zeV f g ((i+j) / 2+1) j (by omega) (by omega);have hin:=zaJ f g ((i+j) / 2+1) j (by omega);refine⟨fun _ =>?_,ih.2⟩
    by_cases e:(i+j) / 2+1<xe f g ((i+j) / 2+1) j
    ·exact ih.1 e
    ·rw[show xe f g ((i+j) / 2+1) j-1=(i+j) / 2 by omega]
     exact hf
   ·rename_i hf
    have ih:=zeV f g i ((i+j) / 2) (by omega) (by omega);have hin:=zaJ f g i ((i+j) / 2) (by omega);refine⟨ih.1,fun _ =>?_⟩
    by_cases e:xe f g i ((i+j) / 2)<(i+j) / 2
    ·exact ih.2 e
    ·rw[show xe f g i ((i+j) / 2)=(i+j) / 2 by omega]
     simpa using hf
  ·exact⟨fun e=>by omega,fun e=>by omega⟩
theorem zjE(hS:SWO lt):∀ (g a m b:Nat) (d:Array α),a<m->m<b->b<=d.size->b-a<=g->Ord lt a m d->Ord lt m b d->ju lt a b d (xr lt g a m b d)/\Ord lt a b (xr lt g a m b d)
 |0,a,m,b,d,h1,h2,_,hg,_,_ =>by omega
 |g+1,a,m,b,d,h1,h2,hb,hg,o1,o2=>by
  rw[xr]
  split
  ·rename_i em
   obtain⟨r,er⟩:∃r,xe (fun h=>lt d[h]! d[a]!) (b-m) m b=r:=⟨_,rfl⟩;have hin:=zaJ (fun h=>lt d[h]! d[a]!) (b-m) m b (by omega);obtain⟨f1,f2⟩:=zeV (fun h=>lt d[h]! d[a]!) (b-m) m b (by omega) (Nat.le_refl _);rw[er]at hin f1 f2 ⊢
   have at':∀t,(zdC (r-1-a) a d)[t]! =d[yF a m r t]!:=fun t=>by
    rw[znJ _ _ _ (by omega)]
    congr 1
    unfold yF
    repeat' split
    all_goals omega
   have hx:∀x y,a<=x->x<m->m<=y->y<r->lt d[y]! d[x]! =true:=fun x y e1 e2 e3 e4=>by
    obtain rfl:x=a:=by omega
    have e5:=f1 (by omega)
    cases e:lt d[y]! d[x]! with
    |true=>rfl
    |false=>
     have:lt d[r-1]! d[y]! =false:=by
      by_cases e6:y=r-1
      ·rw[e6];exact hS.irrefl _
      ·exact o2 y (r-1) e3 (by omega) (by omega)
     rw[hS.ntrans _ _ _ this e]at e5;cases e5
   have hk:∀x y,a<=x->x<m->m<=y->y<b->x<a∨r<=y->lt d[y]! d[x]! =false:=fun x y e1 e2 e3 e4 e5=>by
    obtain rfl:x=a:=by omega
    have e6:=f2 (by omega)
    have:lt d[y]! d[r]! =false:=by
     by_cases e7:y=r
     ·rw[e7];exact hS.irrefl _
     ·exact o2 r y (by omega) (by omega) e4
    exact hS.ntrans _ _ _ this e6
   exact⟨(zeI (by omega) (by omega) (zft _ _ _) at' hx).wide (Nat.le_refl _) hin.2,znv hS (Nat.le_refl _) (by omega) hin.1 hin.2 at' o1 o2 hx hk⟩
  ·split
   ·rename_i em
    obtain⟨r,er⟩:∃r,xe (fun h=>!lt d[m]! d[h]!) (m-a) a m=r:=⟨_,rfl⟩;have hin:=zaJ (fun h=>!lt d[m]! d[h]!) (m-a) a m (by omega);obtain⟨f1,f2⟩:=zeV (fun h=>!lt d[m]! d[h]!) (m-a) a m (by omega) (Nat.le_refl _);rw[er]at hin f1 f2 ⊢
    have at':∀t,(kC (m-r) m d)[t]! =d[yF r m (m+1) t]!:=fun t=>by
     rw[zjn _ _ _ (by omega) (by omega),show m-(m-r)=r by omega]
    have hx:∀x y,r<=x->x<m->m<=y->y<m+1->lt d[y]! d[x]! =true:=fun x y e1 e2 e3 e4=>by
     obtain rfl:y=m:=by omega
     have e5:lt d[y]! d[r]! =true:=by simpa using f2 (by omega)
     cases e:lt d[y]! d[x]! with
     |true=>rfl
     |false=>
      have:lt d[x]! d[r]! =false:=by
       by_cases e6:x=r
       ·rw[e6];exact hS.irrefl _
       ·exact o1 r x (by omega) (by omega) (by omega)
      rw[hS.ntrans _ _ _ e this]at e5;cases e5
    have hk:∀x y,a<=x->x<m->m<=y->y<b->x<r∨m+1<=y->lt d[y]! d[x]! =false:=fun x y e1 e2 e3 e4 e5=>by
     obtain rfl:y=m:=by omega
     have e6:lt d[y]! d[r-1]! =false:=by simpa using f1 (by omega)
     have:lt d[r-1]! d[x]! =false:=by
      by_cases e7:x=r-1
      ·rw[e7];exact hS.irrefl _
      ·exact o1 x (r-1) e1 (by omega) (by omega)
     exact hS.ntrans _ _ _ e6 this
    exact⟨(zeI (by omega) (by omega) (zcW _ _ _) at' hx).wide hin.1 (by omega),znv hS hin.1 hin.2 (by omega) (by omega) at' o1 o2 hx hk⟩
   ·rename_i n1 n2
    have hm:=ziH h1 h2;have hin:=znr lt d h1 h2;obtain⟨f1,f2⟩:=zeV (fun c=>!lt d[(a+b) / 2+m-1-c]! d[c]!) (zaq a m b-zcE a m b) (zcE a m b) (zaq a m b) (by omega) (Nat.le_refl _)
    have hlo:zcE a m b=a∨(a+b) / 2+m=zcE a m b+b:=by unfold zcE;split <;> omega
    have hhi:zaq a m b=m∨zaq a m b=(a+b) / 2:=by unfold zaq;split <;> omega
    change zcE a m b<zea lt d a m b->(!lt d[(a+b) / 2+m-1-(zea lt d a m b-1)]! d[zea lt d a m b-1]!)=true at f1
    change zea lt d a m b<zaq a m b->(!lt d[(a+b) / 2+m-1-zea lt d a m b]! d[zea lt d a m b]!)=false at f2
    dsimp only
    generalize zea lt d a m b=s at *;generalize zcE a m b=lo at *;generalize zaq a m b=hi at *
    have hmid:a <(a+b) / 2/\(a+b) / 2<b:=by omega
    generalize(a+b) / 2=mid at *;obtain⟨z1,z2,z3,z4,z5,z6,z7⟩:=hm;obtain⟨i1,i2⟩:=hin
    have f1':lo<s->lt d[mid+m-s]! d[s-1]! =false:=fun h=>by
     have:=f1 h;rw[show mid+m-1-(s-1)=mid+m-s by omega]at this;simpa using this
    have f2':s<hi->lt d[mid+m-s-1]! d[s]! =true:=fun h=>by
     have:=f2 h;rw[show mid+m-1-s=mid+m-s-1 by omega]at this;simpa using this
    clear f1 f2
    have he:mid+m-s+s=mid+m:=by omega
    generalize mid+m-s=e at *
    have hx:∀x y,s<=x->x<m->m<=y->y<e->lt d[y]! d[x]! =true:=fun x y e1 e2 e3 e4=>by
     have e5:=f2' (by omega)
     cases q:lt d[y]! d[x]! with
     |true=>rfl
     |false=>
      have q1:lt d[e-1]! d[y]! =false:=by
       by_cases e6:y=e-1
       ·rw[e6];exact hS.irrefl _
       ·exact o2 y (e-1) e3 (by omega) (by omega)
      have q2:lt d[x]! d[s]! =false:=by
       by_cases e6:x=s
       ·rw[e6];exact hS.irrefl _
       ·exact o1 s x (by omega) (by omega) e2
      rw[hS.ntrans _ _ _ (hS.ntrans _ _ _ q1 q) q2]at e5;cases e5
    have hk:∀x y,a<=x->x<s->e<=y->y<b->lt d[y]! d[x]! =false:=fun x y e1 e2 e3 e4=>by
     have e5:=f1' (by omega)
     have q1:lt d[y]! d[e]! =false:=by
      by_cases e6:y=e
      ·rw[e6];exact hS.irrefl _
      ·exact o2 e y (by omega) (by omega) e4
     have q2:lt d[s-1]! d[x]! =false:=by
      by_cases e6:x=s-1
      ·rw[e6];exact hS.irrefl _
      ·exact o1 x (s-1) e1 (by omega) (by omega)
     exact hS.ntrans _ _ _ (hS.ntrans _ _ _ q1 e5) q2
    obtain⟨d1,hd1⟩:∃x,(if s<m/\m<e then xY d s m e else d)=x:=⟨_,rfl⟩;rw[hd1]
    have sz1:d1.size=d.size:=by
     rw[<-hd1]
     split
     ·exact zaD _ _ _ _
     ·rfl
    have at1:∀k,d1[k]! =d[yF s m e k]!:=fun k=>by
     rw[<-hd1]
     split
     ·rename_i q
      exact zmz d q.1 q.2 (by omega) k
     ·rename_i q
      congr 1
      unfold yF
      repeat' split
      all_goals omega
    have S1:ju lt a b d d1:=(zeI (by omega) (by omega) sz1 at1 hx).wide (by omega) (by omega)
    have half:∀x y,a<=x->x<mid->mid<=y->y<b->lt d1[y]! d1[x]! =false:=fun x y e1 e2 e3 e4=>by
     rw[at1,at1]
     have hX:(a<=yF s m e x/\yF s m e x<s)∨(m<=yF s m e x/\yF s m e x<e):=by
      unfold yF
      repeat' split
      all_goals omega
     have hY:(s<=yF s m e y/\yF s m e y<m)∨(e<=yF s m e y/\yF s m e y<b):=by
      unfold yF
      repeat' split
      all_goals omega
     rcases hX with⟨x1,x2⟩ |⟨x1,x2⟩<;> rcases hY with⟨y1,y2⟩ |⟨y1,y2⟩
     ·exact o1 _ _ x1 (by omega) y2
     ·exact hk _ _ x1 x2 y1 y2
     ·exact zkD hS (hx _ _ y1 y2 x1 x2)
     ·exact o2 _ _ x1 (by omega) y2
    have oI:∀x y,(∀i j,x<=i->i<j->j<y->yF s m e i<yF s m e j/\((a<=yF s m e i/\yF s m e j<m)∨(m<=yF s m e i/\yF s m e j<b)))->Ord lt x y d1:=fun x y h i j e1 e2 e3=>by
     rw[at1,at1];obtain⟨q1,q2 |q2⟩:=h i j e1 e2 e3
     ·exact o1 _ _ q2.1 q1 q2.2
     ·exact o2 _ _ q2.1 q1 q2.2
    have p1:Ord lt a s d1:=oI a s fun i j e1 e2 e3=>by
     unfold yF
     repeat' split
     all_goals omega
    have p2:Ord lt s mid d1:=oI s mid fun i j e1 e2 e3=>by
     unfold yF
     repeat' split
     all_goals omega
    have p3:Ord lt mid e d1:=oI mid e fun i j e1 e2 e3=>by
     unfold yF
     repeat' split
     all_goals omega
    have p4:Ord lt e b d1:=oI e b fun i j e1 e2 e3=>by
     unfold yF
     repeat' split
     all_goals omega
    clear hd1 at1 oI hx hk f1' f2';obtain⟨d2,hd2⟩:∃x,(if a<s/\s<mid then xr lt g a s mid d1 else d1)=x:=⟨_,rfl⟩;rw[hd2]
    have S2:ju lt a mid d1 d2/\Ord lt a mid d2:=by
     rw[<-hd2]
     split
     ·rename_i q
      exact zjE hS g a s mid d1 q.1 q.2 (by omega) (by omega) p1 p2
     ·refine⟨ju.refl _ _ _,?_⟩
      by_cases q:s=a
      ·rw[<-q];exact p2
      ·rw[show mid=s by omega];exact p1
    obtain⟨S2,r1⟩:=S2;have r3:Ord lt mid e d2:=p3.out S2 (.inr (Nat.le_refl _));have r4:Ord lt e b d2:=p4.out S2 (.inr (by omega));have sz2:=S2.size;clear hd2;obtain⟨d3,hd3⟩:∃x,(if mid<e/\e<b then xr lt g mid e b d2 else d2)=x:=⟨_,rfl⟩;rw[hd3]
    have S3:ju lt mid b d2 d3/\Ord lt mid b d3:=by
     rw[<-hd3]
     split
     ·rename_i q
      exact zjE hS g mid e b d2 q.1 q.2 (by omega) (by omega) r3 r4
     ·refine⟨ju.refl _ _ _,?_⟩
      by_cases q:e=mid
      ·rw[<-q];exact r4
      ·rw[show b=e by omega];exact r3
    obtain⟨S3,t1⟩:=S3;have t2:Ord lt a mid d3:=r1.out S3 (.inl (Nat.le_refl _));refine⟨(S1.trans (S2.wide (Nat.le_refl _) (by omega))).trans (S3.wide (by omega) (Nat.le_refl _)),fun i j e1 e2 e3=>?_⟩
    by_cases q1:j<mid
    ·exact t2 i j e1 e2 q1
    ·by_cases q2:mid<=i
     ·exact t1 i j q2 e2 e3
     ·obtain⟨y,y1,y2,y3⟩:=S3.ins (k:=j) (by omega) e3
      obtain⟨x,x1,x2,x3⟩:=S2.ins (k:=i) e1 (by omega);rw[S3.out (k:=i) (by omega),x3,y3,S2.out (k:=y) (by omega)];exact half x y x1 x2 y1 y2
theorem zpS{d:Array α}{j:Nat}(hj:j+1<d.size)(h:lt d[j+1]! d[j]! =true):ju lt j (j+2) d (swp d (j+1) j):=by
 refine zeI (s:=j) (m:=j+1) (e:=j+2) (by omega) (by omega) (size_swp _ _ _) (fun k=>?_) fun x y e1 e2 e3 e4=>?_
 ·rw[zpU d (by omega) hj]
  congr 1
  unfold swI yF
  repeat' split
  all_goals omega
 ·obtain rfl:x=j:=by omega
  obtain rfl:y=x+1:=by omega
  exact h
theorem zgX(a b:Nat):∀ (j:Nat) (d:Array α),j<b->b<=d.size->ju lt a b d (insInner lt a j d)
 |0,d,_,_ =>ju.refl _ _ _
 |j+1,d,hj,hb=>by
  rw[insInner]
  split
  ·rename_i h
   simp only[gt_iff_lt,Bool.and_eq_true,decide_eq_true_eq]at h;exact((zpS (by omega) h.2).wide (by omega) (by omega)).trans (zgX a b j _ (by omega) (by rw[size_swp];exact hb))
  ·exact ju.refl _ _ _
theorem zht(a b:Nat):∀ (n i:Nat) (d:Array α),b-i<=n->b<=d.size->ju lt a b d (insOuter lt a b i d)
 |0,i,d,hn,_ =>by
  rw[insOuter,if_neg (by omega)];exact ju.refl _ _ _
 |n+1,i,d,hn,hb=>by
  rw[insOuter]
  split
  ·rename_i h
   exact(zgX a b i d h hb).trans (zht a b n (i+1) _ (by omega) (by rw[zac];exact hb))
  ·exact ju.refl _ _ _
theorem zpD(hS:SWO lt)(d:Array α){a b:Nat}(hab:a<=b)(hb:b<=d.size):ju lt a b d (insertionSort lt d a b)/\Ord lt a b (insertionSort lt d a b):=
 ⟨zht a b _ _ d (Nat.le_refl _) hb,(insertionSort_holds (lt:=lt) hS d a b hab hb).2⟩
def znq(lt:α->α->Bool)(s t:Nat)(d:Array α):Prop:=∀u i j,t<=u->u*s<=i->i<j->j<u*s+s->j<d.size->lt d[j]! d[i]! =false
theorem zqi(hS:SWO lt):∀ (g t:Nat) (d:Array α),d.size<t*20+g->ju lt (t*20) d.size d (qN lt g (t*20) d)/\znq lt 20 t (qN lt g (t*20) d)
 |0,t,d,h=>⟨ju.refl _ _ _,fun u i j h1 h2 h3 h4 h5=>by rw[qN]at h5;have:=Nat.mul_le_mul_right 20 h1;omega⟩
 |g+1,t,d,h=>by
  rw[qN]
  split
  ·rename_i hq
   obtain⟨s1,o1⟩:=zpD (lt:=lt) hS d (a:=t*20) (b:=t*20+20) (by omega) hq;have hz:=s1.size
   have et:t*20+20=(t+1)*20:=by omega
   obtain⟨s2,o2⟩:=zqi hS g (t+1) (insertionSort lt d (t*20) (t*20+20)) (by rw[hz];omega);rw[<-et]at s2 o2;rw[hz]at s2;refine⟨(s1.wide (Nat.le_refl _) hq).trans (s2.wide (by omega) (Nat.le_refl _)),fun u i j h1 h2 h3 h4 h5=>?_⟩
   by_cases hu:u=t
   ·subst hu
    exact o1.out s2 (.inl (Nat.le_refl _)) i j h2 h3 h4
   ·exact o2 u i j (by omega) h2 h3 h4 h5
  ·by_cases hq:t*20<=d.size
   ·obtain⟨s1,o1⟩:=zpD (lt:=lt) hS d (a:=t*20) (b:=d.size) hq (Nat.le_refl _)
    refine⟨s1,fun u i j h1 h2 h3 h4 h5=>?_⟩;rw[s1.size]at h5;have:=Nat.mul_le_mul_right 20 h1;exact o1 i j (by omega) h3 h5
   ·have e:insertionSort lt d (t*20) d.size=d:=by
     rw[insertionSort,insOuter,if_neg (by omega)]
    rw[e];refine⟨ju.refl _ _ _,fun u i j h1 h2 h3 h4 h5=>?_⟩;have:=Nat.mul_le_mul_right 20 h1;omega
theorem zqg(hS:SWO lt)(s:Nat)(hs:0<s):∀ (g t:Nat) (d:Array α),d.size<t*(2*s)+g->znq lt s (2*t) d->ju lt (t*(2*s)) d.size d (qE lt s g (t*(2*s)) d)/\znq lt (2*s) t (qE lt s g (t*(2*s)) d)
 |0,t,d,h,_ =>⟨ju.refl _ _ _,fun u i j h1 h2 h3 h4 h5=>by rw[qE]at h5;have:=Nat.mul_le_mul_right (2*s) h1;omega⟩
 |g+1,t,d,h,hp=>by
  have e1:2*t*s=t*(2*s):=by rw[Nat.mul_comm 2 t,Nat.mul_assoc]
  have e2:(2*t+1)*s=t*(2*s)+s:=by rw[Nat.succ_mul,e1]
  have e3:(t+1)*(2*s)=t*(2*s)+2*s:=Nat.succ_mul _ _;rw[qE]
  split
  ·rename_i hq
   have q1:Ord lt (t*(2*s)) (t*(2*s)+s) d:=fun i j h1 h2 h3=>hp (2*t) i j (Nat.le_refl _) (by omega) h2 (by omega) (by omega)
   have q2:Ord lt (t*(2*s)+s) (t*(2*s)+2*s) d:=fun i j h1 h2 h3=>hp (2*t+1) i j (by omega) (by omega) h2 (by omega) (by omega)
   obtain⟨s1,o1⟩:=zjE hS (2*s) (t*(2*s)) (t*(2*s)+s) (t*(2*s)+2*s) d (by omega) (by omega) hq (by omega) q1 q2;generalize xr lt (2*s) (t*(2*s)) (t*(2*s)+s) (t*(2*s)+2*s) d=d1 at s1 o1 ⊢;have hz:=s1.size
   obtain⟨s2,o2⟩:=zqg hS s hs g (t+1) d1 (by rw[hz,e3];omega) (fun u i j h1 h2 h3 h4 h5=>by
    have h6:=Nat.mul_le_mul_right s h1;rw[show 2*(t+1)=(2*t+1)+1 by omega,Nat.succ_mul,e2]at h6;rw[s1.out (k:=i) (by omega),s1.out (k:=j) (by omega)]
    exact hp u i j (by omega) h2 h3 h4 (by omega))
   rw[e3]at s2 o2;rw[hz]at s2;refine⟨(s1.wide (Nat.le_refl _) hq).trans (s2.wide (by omega) (Nat.le_refl _)),fun u i j h1 h2 h3 h4 h5=>?_⟩
   by_cases hu:u=t
   ·subst hu
    exact o1.out s2 (.inl (Nat.le_refl _)) i j h2 h3 h4
   ·exact o2 u i j (by omega) h2 h3 h4 h5
  ·split
   ·rename_i hq hq2
    have q1:Ord lt (t*(2*s)) (t*(2*s)+s) d:=fun i j h1 h2 h3=>hp (2*t) i j (Nat.le_refl _) (by omega) h2 (by omega) (by omega)
    have q2:Ord lt (t*(2*s)+s) d.size d:=fun i j h1 h2 h3=>hp (2*t+1) i j (by omega) (by omega) h2 (by omega) h3
    obtain⟨s1,o1⟩:=zjE hS (2*s) (t*(2*s)) (t*(2*s)+s) d.size d (by omega) hq2 (Nat.le_refl _) (by omega) q1 q2;refine⟨s1,fun u i j h1 h2 h3 h4 h5=>?_⟩;rw[s1.size]at h5;have:=Nat.mul_le_mul_right (2*s) h1;exact o1 i j (by omega) h3 h5
   ·rename_i hq hq2
    refine⟨ju.refl _ _ _,fun u i j h1 h2 h3 h4 h5=>?_⟩;have:=Nat.mul_le_mul_right (2*s) h1;exact hp (2*t) i j (Nat.le_refl _) (by omega) h3 (by omega) h5
theorem znI(hS:SWO lt):∀ (g s:Nat) (d:Array α),0<s->d.size<s+g->znq lt s 0 d->ju lt 0 d.size d (jr lt g s d)/\Ord lt 0 d.size (jr lt g s d)
 |0,s,d,_,h,hp=>⟨ju.refl _ _ _,fun i j h1 h2 h3=>hp 0 i j (Nat.le_refl _) (by omega) h2 (by omega) h3⟩
 |g+1,s,d,hs,h,hp=>by
  rw[jr]
  split
  ·have h0:0*(2*s)=0:=Nat.zero_mul _
   obtain⟨s1,o1⟩:=zqg hS s hs (d.size+1) 0 d (by omega) hp;rw[h0]at s1 o1;generalize qE lt s (d.size+1) 0 d=d1 at s1 o1 ⊢;obtain⟨s2,o2⟩:=znI hS g (2*s) d1 (by omega) (by rw[s1.size];omega) o1;rw[s1.size]at s2 o2;exact⟨s1.trans s2,o2⟩
  ·exact⟨ju.refl _ _ _,fun i j h1 h2 h3=>hp 0 i j (Nat.le_refl _) (by omega) h2 (by omega) h3⟩
theorem zfl(hS:SWO lt)(d:Array α):ju lt 0 d.size d (zP lt d)/\Ord lt 0 d.size (zP lt d):=by
 have h0:0*20=0:=rfl;obtain⟨s1,o1⟩:=zqi hS (d.size+1) 0 d (by omega);rw[h0]at s1 o1;rw[zP];generalize qN lt (d.size+1) 0 d=d1 at s1 o1 ⊢;obtain⟨s2,o2⟩:=znI hS (d.size+1) 20 d1 (by omega) (by rw[s1.size];omega) o1;rw[s1.size]at s2 o2;exact⟨s1.trans s2,o2⟩
theorem zlP(hS:SWO lt)(d:Array α)(lx:α->α->Prop)(h:∀i j,i<j->j<d.size->lt d[i]! d[j]! =false->lt d[j]! d[i]! =false->lx d[i]! d[j]!):
  ∀i j,i<j->j<d.size->lt (zP lt d)[j]! (zP lt d)[i]! =false/\(lt (zP lt d)[i]! (zP lt d)[j]! =false->lx (zP lt d)[i]! (zP lt d)[j]!):=by
 obtain⟨⟨_,p,p1,p2,_,p4,p5⟩,ho⟩:=zfl hS d
 refine fun i j hij hj=>⟨ho i j (Nat.zero_le _) hij hj,fun hn=>?_⟩
 have hr:=ho i j (Nat.zero_le _) hij hj;rw[p1,p1]at hn hr ⊢
 rcases Nat.lt_trichotomy (p i) (p j)with e |e |e
 ·exact h _ _ e (p2 j (Nat.zero_le _) hj).2 hn hr
 ·exact absurd e (p4 i j hij)
 ·rw[p5 i j hij e]at hn
  cases hn
end
end Go.Proofs.YtbnafihigoekeaaGreatDoor

/-
  TmTl, part 6.
-/
import Derived.Test.YtbnafihigoekeaaGreatDoorZt3
namespace Go.Proofs.YtbnafihigoekeaaGreatDoor
section
variable{α:Type}
theorem zeR{s a:List α}{x:α}(h:s.Sublist (a++[x])):s.dropLast.Sublist a:=by
 obtain⟨s1,s2,rfl,h1,h2⟩:=List.sublist_append_iff.1 h
 rcases s2 with _ |⟨y,_ |⟨z,s3⟩⟩
 ·rw[List.append_nil]
  exact(List.dropLast_sublist s1).trans h1
 ·rw[List.dropLast_concat]
  exact h1
 ·have:=h2.length_le
  simp at this
theorem zhV{a b:List α}{k:Nat}{x:α}(h:a.take k=b.take k)(ha:a[k]? =some x)(hb:b[k]? =some x):a.take (k+1)=b.take (k+1):=by
 rw[List.take_add_one,List.take_add_one,h,ha,hb]
theorem zia{a b:List α}{i j:Nat}{x:α}(h:a.drop (i+1)=b.drop (j+1))(ha:a[i]? =some x)(hb:b[j]? =some x):a.drop i=b.drop j:=by
 obtain⟨q1,e1⟩:=List.getElem?_eq_some_iff.1 ha;obtain⟨q2,e2⟩:=List.getElem?_eq_some_iff.1 hb;rw[List.drop_eq_getElem_cons q1,List.drop_eq_getElem_cons q2,e1,e2,h]
end
section
variable{α:Type} [DecidableEq α]
theorem zpu(a b:List α)(x:α):lcs (a++[x]) (b++[x])=lcs a b+1:=by
 apply Nat.le_antisymm
 ·obtain⟨s,h1,h2,h3⟩:=zbW (a++[x]) (b++[x])
  have:=zeC a b s.dropLast (zeR h1) (zeR h2);rw[List.length_dropLast]at this;omega
 ·obtain⟨s,h1,h2,h3⟩:=zbW a b
  have:=zeC (a++[x]) (b++[x]) (s++[x]) (h1.append (List.Sublist.refl _)) (h2.append (List.Sublist.refl _));rw[List.length_append]at this;simp at this;omega
theorem zmL(l a b:List α):lcs (a++l) (b++l)=lcs a b+l.length:=by
 induction l generalizing a b with
 |nil=>simp
 |cons x l ih=>
  have:=ih (a++[x]) (b++[x]);rw[List.append_assoc,List.append_assoc,List.singleton_append,zpu]at this;rw[this,List.length_cons];omega
theorem zpL{a b:List α}{k t:Nat}(h:a.take k=b.take k)(hka:k<=a.length)(ht:(a.drop k).drop ((a.drop k).length-t)=(b.drop k).drop ((b.drop k).length-t))(h1:t<=(a.drop k).length):
  lcs a b=k+lcs ((a.drop k).take ((a.drop k).length-t)) ((b.drop k).take ((b.drop k).length-t))+t:=by
 have e1:lcs a b=k+lcs (a.drop k) (b.drop k):=by
  have:=zmw (a.take k) (a.drop k) (b.drop k);rw[List.take_append_drop,h,List.take_append_drop,<-h,List.length_take,Nat.min_eq_left hka]at this;exact this
 have e2:=zmL ((a.drop k).drop ((a.drop k).length-t)) ((a.drop k).take ((a.drop k).length-t)) ((b.drop k).take ((b.drop k).length-t))
 have e3:((a.drop k).drop ((a.drop k).length-t)).length=t:=by rw[List.length_drop];omega
 rw[List.take_append_drop,ht,List.take_append_drop,<-ht,e3]at e2;rw[e1,e2];omega
theorem zhY{a b:List α}{k:Nat}(h:a.take k=b.take k)(hmax:∀x y,a[k]? =some x->b[k]? =some y->x≠y):zU a b=((a.take k).map fun x=>((1:Int),x))++qh (a.drop k) (b.drop k):=by
 have e:=zcT (a.take k) (a.drop k) (b.drop k);rw[List.take_append_drop,h,List.take_append_drop,<-h]at e;rw[e]
 congr 1
 by_cases h1:k<a.length
 ·by_cases h2:k<b.length
  ·rw[List.drop_eq_getElem_cons h1,List.drop_eq_getElem_cons h2,zaI,if_neg (hmax _ _ (List.getElem?_eq_getElem h1) (List.getElem?_eq_getElem h2))]
  ·rw[List.drop_of_length_le (l:=b) (by omega),qF]
 ·rw[List.drop_of_length_le (l:=a) (by omega),qX]
end
end Go.Proofs.YtbnafihigoekeaaGreatDoor

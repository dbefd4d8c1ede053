/-
  TmTl, part 46.
-/
import Derived.Test.YtbnafihigoekeaaGreatDoorZt37
set_option maxRecDepth 100000
set_option maxHeartbeats 4000000
namespace Go.Proofs.YtbnafihigoekeaaGreatDoor
open Go.RowKit
section
theorem zqj(f g:yK)(w:World):
  Calls Tryz.prog 39 #[.agg (zig.enc f).toArray,.agg (zig.enc g).toArray] w fun e w'=>e= .returned (.bool (f==g))/\Below w.heap.size w w':=by
 obtain⟨p1,x1,t1⟩:=f;obtain⟨p2,x2,t2⟩:=g;have he:=zre p1 t1 p2 t2 x1 x2;obtain⟨tt,htt⟩:∃tt,(((p1,x1,t1):yK)==(p2,x2,t2))=tt:=⟨_,rfl⟩;rw[htt]at he ⊢;clear htt;show Calls Tryz.prog 39 #[.agg #[.string ⟨p1.toArray⟩,.int .i64 x1,.string ⟨t1.toArray⟩],.agg #[.string ⟨p2.toArray⟩,.int .i64 x2,.string ⟨t2.toArray⟩]] w _
 go_enter Tryz.func39,Tryz.ntmps39
 go_wp2
 all_goals go_ret
 all_goals refine⟨rfl,((Below.refl _ _).alloc (Nat.le_refl _) _).alloc (by simp) _⟩
theorem zpF(a b:Value)(x y:List yK)(w:World)(ha:zbE w a x)(hb:zbE w b y)(hx:x.length<=1000000):
  Calls Tryz.prog 38 #[a,b,.func (Fn.func 39) #[] #[]] w fun e w'=>e= .returned (.bool (x==y))/\Below w.heap.size w w':=by
 obtain⟨aa,ca,rfl⟩:=zy.form ha;obtain⟨ab,cb,rfl⟩:=zy.form hb
 by_cases hl:x.length=y.length
 ·have hne:(x.length !=y.length)=false:=by simp[hl]
  have hne':((x.length:Int) !=(y.length:Int))=false:=by simp[hl]
  have HL:=ze hl;clear hl
  go_enter Tryz.func38,Tryz.ntmps38
  go_wp2
  go_loopw [7] (fun i wr=>∃k:Nat,k<=x.length/\i= .int .i64 k/\x.take k=y.take k/\Below w.heap.size w wr) (fun i _ =>x.length-(intOf i).toNat)
  case atStart=>exact⟨0,Nat.zero_le _,rfl,rfl,Below.refl _ _⟩
  case round=>
   obtain⟨k,hk,rfl,heq,hbel⟩:=hrel
   by_cases hlt:k<x.length
   ·obtain⟨b1,o1,⟨p1,x1,t1⟩,rfl,hb1,hc1⟩:=zy.at' (E:=zig) (zy.old ha hbel) (i:=k) hlt
    obtain⟨b2,o2,⟨p2,x2,t2⟩,rfl,hb2,hc2⟩:=zy.at' (E:=zig) (zy.old hb hbel) (i:=k) (by rw[<-HL.out];exact hlt)
    have hlt2:k<y.length:=by rw[<-HL.out];exact hlt
    have i0:(0:Int)<=(k:Int):=Int.natCast_nonneg _
    have i1:(k:Int)<(x.length:Int):=by omega
    have i2:(k:Int)<(y.length:Int):=by omega
    obtain⟨C,hC⟩:∃C:World->Prop,C=fun wy=>Below wr.heap.size wr wy:=⟨_,rfl⟩
    have ra:∀wy,C wy->wy.rangeAt b1 (o1+k*3) [.string ⟨p1.toArray⟩,.int .i64 x1,.string ⟨t1.toArray⟩]:=by
     rw[hC]
     exact fun wy h j u hu=>(World.cell?_of_block (w:=wr) (h.block _ (World.block_lt_of_cell? wr _ (hc1 j u hu)))).trans (hc1 j u hu)
    have rb:∀wy,C wy->wy.rangeAt b2 (o2+k*3) [.string ⟨p2.toArray⟩,.int .i64 x2,.string ⟨t2.toArray⟩]:=by
     rw[hC]
     exact fun wy h j u hu=>(World.cell?_of_block (w:=wr) (h.block _ (World.block_lt_of_cell? wr _ (hc2 j u hu)))).trans (hc2 j u hu)
    obtain⟨tt,htt⟩:∃tt,(((p1,x1,t1):yK)==(p2,x2,t2))=tt:=⟨_,rfl⟩
    have HEQ:=ze (show ∀wy,C wy->Calls Tryz.prog 39 #[.agg #[.string ⟨p1.toArray⟩,.int .i64 x1,.string ⟨t1.toArray⟩],.agg #[.string ⟨p2.toArray⟩,.int .i64 x2,.string ⟨t2.toArray⟩]] wy fun e w'=>e= .returned (.bool tt)/\C w' from fun wy hy=>by
     rw[<-htt]
     refine(zqj (p1,x1,t1) (p2,x2,t2) wy).mono fun e w' h=>⟨h.1,?_⟩
     rw[hC]at hy ⊢
     exact zi hy h.2 hy.size)
    have hCd:C wr.drew:=by rw[hC];exact⟨rfl,rfl,rfl,Nat.le_refl _,fun _ _ =>rfl⟩
    have HCW:=ze (show ∀wy,C wy->Below w.heap.size w wy from fun wy h=>by rw[hC]at h;exact zi hbel h hbel.size);have HRA:=ze ra;have HRB:=ze rb
    have hse:(Tryz.prog.info? 36).map (·.size)=some 3:=by kernel_rfl
    have HIA:=ze hse;have HT:=ze htt;have HE:=ze heq;have HB1:=ze hb1;have HB2:=ze hb2;have HCD:=ze hCd;clear hC hc1 hc2 ra rb hCd hse htt heq hb1 hb2 ha hb hbel;go_wp2_with fail;refine zV C (by kernel_rfl) (by kernel_rfl) HCD.out ?_
    repeat(first
     |go_big_quiet_skip
     |(go_big_quiet_want;first
      |(refine zcs 36 _ rfl b1 (o1+k*3) rfl _ _ HRA.out Tryz.underlying36 rfl HIA.out ?_;simp only[Act.put,List.setIfInBounds_toArray,List.set_cons_zero,List.set_cons_succ];go_big_quiet_on)
      |(refine zcs 36 _ rfl b2 (o2+k*3) rfl _ _ HRB.out Tryz.underlying36 rfl HIA.out ?_;simp only[Act.put,List.setIfInBounds_toArray,List.set_cons_zero,List.set_cons_succ];go_big_quiet_on)
      |(go_big_quiet_op;first
       |go_big_quiet_on
       |(apply Exists.intro;with_reducible refine⟨fun _ _ =>rfl,?_⟩;go_big_quiet_on)
       |(apply Exists.intro
         refine⟨fun wy hy=>?_,?_⟩
         ·with_reducible exact HEQ.out wy hy
         go_big_quiet_on))))
    refine wpQuiet_nil ?_;intro w5 hC5;have hbw:=HCW.out w5 hC5;clear hC5
    cases tt with
    |true=>
     have h12:((p1,x1,t1):yK)=(p2,x2,t2):=by have:=HT.out;rwa [beq_iff_eq]at this
     have R:=ze (show x.take (k+1)=y.take (k+1) by rw[yz HB1.out,yz HB2.out,HE.out,h12]);clear h12
     go_wp2
     go_roundw
     case rel=>exact⟨k+1,by omega,by go_num,R.out,hbw⟩
     case measure=>simp[intOf];omega
    |false=>
     have hxy:=ze (show(x==y)=false by
      have h12:((p1,x1,t1):yK)≠ (p2,x2,t2):=by have:=HT.out;rwa [beq_eq_false_iff_ne]at this
      rw[beq_eq_false_iff_ne];intro e;subst e;have:=HB1.out.symm.trans HB2.out
      exact h12 (Option.some.inj this))
     go_wp2
     go_ret;rw[hxy.out];exact⟨rfl,hbw⟩
   ·obtain rfl:k=x.length:=by omega
    have hxy:=ze (show(x==y)=true by
     rw[List.take_length,HL.out,List.take_length]at heq;rw[beq_iff_eq]
     exact heq)
    clear heq
    go_wp2
    go_ret;rw[hxy.out];exact⟨rfl,hbel⟩
 ·have hne:(x.length !=y.length)=true:=by simpa using hl
  have hne':((x.length:Int) !=(y.length:Int))=true:=by simp;omega
  have hxy:=ze (show(x==y)=false by
   rw[beq_eq_false_iff_ne];intro e;subst e
   exact hl rfl)
  clear hl
  go_enter Tryz.func38,Tryz.ntmps38
  go_wp2
  go_ret;rw[hxy.out];exact⟨rfl,Below.refl _ _⟩
theorem zhu(a b:Value)(x y:List yK)(w:World)(ha:zbE w a x)(hb:zbE w b y)(hx:x.length<=1000000):
  Calls Tryz.prog 17 #[a,b] w fun e w'=>e= .returned (.bool (x==y))/\Below w.heap.size w w':=by
 go_enter Tryz.func17,Tryz.ntmps17
 go_wp2_with fail;refine(zpF a b x y w ha hb hx).mono ?_;rintro e w' ⟨rfl,hb⟩
 go_wp2
 go_ret;exact⟨rfl,hb⟩
end
end Go.Proofs.YtbnafihigoekeaaGreatDoor

/-
  TmTl, part 25.
-/
import Derived.Test.YtbnafihigoekeaaGreatDoorZt24
set_option maxRecDepth 100000
set_option maxHeartbeats 4000000
namespace Go.Proofs.YtbnafihigoekeaaGreatDoor
open Go.RowKit
theorem zfi:∀x y:List UInt8,decide (Lib.compareBytes x y<0)=xv x y
 | [],[]=>rfl
 | [],_:: _ =>rfl
 | _:: _,[]=>rfl
 |a::x,b::y=>by
  have ih:=zfi x y;rw[Lib.compareBytes]
  cases e:xv (a::x) (b::y)with
  |true=>
   rcases(zeP a b x y).1 e with h |⟨rfl,h⟩
   ·rw[if_pos h];rfl
   ·rw[if_neg (by rw[UInt8.lt_iff_toNat_lt];omega),if_neg (by rw[UInt8.lt_iff_toNat_lt];omega),ih,h]
  |false=>
   have h1:¬(a<b∨(a=b/\xv x y=true)):=fun h=>by rw[(zeP a b x y).2 h]at e;cases e
   rw[not_or]at h1;rw[if_neg h1.1]
   split
   ·rfl
   ·rename_i h2
    have e1:a=b:=by
     apply UInt8.toNat_inj.1
     have:=h1.1;rw[UInt8.lt_iff_toNat_lt]at this h2;omega
    rw[ih]
    cases e2:xv x y with
    |false=>rfl
    |true=>exact absurd ⟨e1,e2⟩ h1.2
theorem zls:∀x y:List UInt8,(Lib.compareBytes x y==0)=(x==y)
 | [],[]=>rfl
 | [],_:: _ =>rfl
 | _:: _,[]=>rfl
 |a::x,b::y=>by
  have ih:=zls x y;rw[Lib.compareBytes]
  by_cases h1:a<b
  ·have:¬a=b:=fun e=>by rw[e,UInt8.lt_iff_toNat_lt]at h1;omega
   rw[if_pos h1];simp[this]
  ·rw[if_neg h1]
   by_cases h2:b<a
   ·have:¬a=b:=fun e=>by rw[e,UInt8.lt_iff_toNat_lt]at h2;omega
    rw[if_pos h2];simp[this]
   ·have e:a=b:=by
     apply UInt8.toNat_inj.1
     rw[UInt8.lt_iff_toNat_lt]at h1 h2;omega
    rw[if_neg h2,ih,e];simp
section
theorem znU(x y:List UInt8)(w:World):
  Calls Tryz.prog 81 #[zq x,zq y] w fun e w'=>e= .returned (.int .i64 (Lib.compareBytes x y))/\w=w':=by
 have hr:=fun w=>Lib.run_compareString (P:=Tryz.prog) ⟨x.toArray⟩ ⟨y.toArray⟩ w
 unfold zq
 go_enter Tryz.func81,Tryz.ntmps81
 go_wp2
 rw[run_callFunc_extern Tryz.func109 (by kernel_rfl) (by kernel_rfl) (by kernel_rfl) (e:=Extern.BytealgCompare.compare) (by kernel_rfl),hr];simp only[Result.andThen];rw[Oper.upon_value]
 go_wp2
 go_ret;exact⟨rfl,rfl⟩
theorem zeG(x y:List UInt8)(w:World):
  Calls Tryz.prog 57 #[zq x,zq y] w fun e w'=>e= .returned (.int .i64 (Lib.compareBytes x y))/\w=w':=by
 have HC:=ze (znU x y w);unfold zq at HC ⊢
 go_enter Tryz.func57,Tryz.ntmps57
 go_wp2_with (go_at_call 81;refine HC.out.mono ?_;rintro e w1 ⟨rfl,rfl⟩)
 go_ret;exact⟨rfl,rfl⟩
end
end Go.Proofs.YtbnafihigoekeaaGreatDoor

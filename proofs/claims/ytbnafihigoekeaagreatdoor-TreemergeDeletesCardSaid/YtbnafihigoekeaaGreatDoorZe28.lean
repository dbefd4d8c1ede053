/-
  TmDe, part 28.
-/
import Derived.Shelf.SlSortCmp.KitK
namespace Go.Proofs.YtbnafihigoekeaaGreatDoor
open Go.Shelf
def stB_swr (ρ : Ren) : Func :=
 Func.mk "slices.swapRangeCmpFunc[rick/api.Rename]" "slices.swapRangeCmpFunc" #[Ren.t ρ 35]
  #[Ren.t ρ 28, Ren.t ρ 3, Ren.t ρ 3, Ren.t ρ 3, Ren.t ρ 79] #[] 0 38 #[]
  (some
  (Code.seq
  (Code.region 0
  #[Oper.mk (some 10) (Op.assign (Operand.const (Value.int IntKind.i64 0))) (Ren.t ρ 3) "zsortanyfunc.go:330"
  #[] none]
  false)
  (Code.block 0
  (Code.loop
  (Code.seq
  (Code.seq
  (Code.region 1
  #[Oper.mk (some 11) (Op.move (Operand.tmp 10)) (Ren.t ρ 3) "zsortanyfunc.go:330" #[] none,
  Oper.mk (some 12) (Op.move (Operand.tmp 3)) (Ren.t ρ 3) "zsortanyfunc.go:330" #[] none,
  Oper.mk (some 13) (Op.binOp BinOp.lss (Ren.t ρ 3) (Operand.tmp 11) (Operand.tmp 12) (Ren.t ρ 3))
  (Ren.t ρ 4) "zsortanyfunc.go:330" #[Edge.mk 0 Ground.data, Edge.mk 1 Ground.data] none]
  false)
  (Code.cond (Operand.tmp 13) Code.skip (Code.exit 0)))
  (Code.seq
  (Code.block 1
  (Code.region 3
  #[Oper.mk (some 16) (Op.move (Operand.tmp 0)) (Ren.t ρ 28) "zsortanyfunc.go:331" #[] none,
  Oper.mk (some 17) (Op.move (Operand.tmp 1)) (Ren.t ρ 3) "zsortanyfunc.go:331" #[] none,
  Oper.mk (some 18) (Op.move (Operand.tmp 10)) (Ren.t ρ 3) "zsortanyfunc.go:331" #[] none,
  Oper.mk (some 19) (Op.binOp BinOp.add (Ren.t ρ 3) (Operand.tmp 17) (Operand.tmp 18) (Ren.t ρ 3))
  (Ren.t ρ 3) "zsortanyfunc.go:331" #[Edge.mk 1 Ground.data, Edge.mk 2 Ground.data] none,
  Oper.mk (some 20) (Op.move (Operand.tmp 0)) (Ren.t ρ 28) "zsortanyfunc.go:331"
  #[Edge.mk 21 (Ground.gcOnly Departure.lateStores)] none,
  Oper.mk (some 21) (Op.move (Operand.tmp 2)) (Ren.t ρ 3) "zsortanyfunc.go:331"
  #[Edge.mk 21 (Ground.gcOnly Departure.lateStores)] none,
  Oper.mk (some 22) (Op.move (Operand.tmp 10)) (Ren.t ρ 3) "zsortanyfunc.go:331"
  #[Edge.mk 21 (Ground.gcOnly Departure.lateStores)] none,
  Oper.mk (some 23) (Op.binOp BinOp.add (Ren.t ρ 3) (Operand.tmp 21) (Operand.tmp 22) (Ren.t ρ 3))
  (Ren.t ρ 3) "zsortanyfunc.go:331"
  #[Edge.mk 5 Ground.data, Edge.mk 6 Ground.data, Edge.mk 21 (Ground.gcOnly Departure.lateStores)]
  none,
  Oper.mk (some 24) (Op.move (Operand.tmp 0)) (Ren.t ρ 28) "zsortanyfunc.go:331" #[] none,
  Oper.mk (some 25) (Op.move (Operand.tmp 2)) (Ren.t ρ 3) "zsortanyfunc.go:331" #[] none,
  Oper.mk (some 26) (Op.move (Operand.tmp 10)) (Ren.t ρ 3) "zsortanyfunc.go:331" #[] none,
  Oper.mk (some 27) (Op.binOp BinOp.add (Ren.t ρ 3) (Operand.tmp 25) (Operand.tmp 26) (Ren.t ρ 3))
  (Ren.t ρ 3) "zsortanyfunc.go:331" #[Edge.mk 9 Ground.data, Edge.mk 10 Ground.data] none,
  Oper.mk (some 28) (Op.indexAddr (Ren.t ρ 28) (Operand.tmp 24) (Operand.tmp 27)) (Ren.t ρ 0)
  "zsortanyfunc.go:331" #[Edge.mk 8 Ground.data, Edge.mk 11 Ground.data] none,
  Oper.mk (some 29) (Op.load (Ren.t ρ 35) (Operand.tmp 28)) (Ren.t ρ 35) "zsortanyfunc.go:331"
  #[Edge.mk 12 Ground.data] none,
  Oper.mk (some 30) (Op.move (Operand.tmp 0)) (Ren.t ρ 28) "zsortanyfunc.go:331" #[] none,
  Oper.mk (some 31) (Op.move (Operand.tmp 1)) (Ren.t ρ 3) "zsortanyfunc.go:331" #[] none,
  Oper.mk (some 32) (Op.move (Operand.tmp 10)) (Ren.t ρ 3) "zsortanyfunc.go:331" #[] none,
  Oper.mk (some 33) (Op.binOp BinOp.add (Ren.t ρ 3) (Operand.tmp 31) (Operand.tmp 32) (Ren.t ρ 3))
  (Ren.t ρ 3) "zsortanyfunc.go:331" #[Edge.mk 15 Ground.data, Edge.mk 16 Ground.data] none,
  Oper.mk (some 34) (Op.indexAddr (Ren.t ρ 28) (Operand.tmp 30) (Operand.tmp 33)) (Ren.t ρ 0)
  "zsortanyfunc.go:331" #[Edge.mk 14 Ground.data, Edge.mk 17 Ground.data] none,
  Oper.mk (some 35) (Op.load (Ren.t ρ 35) (Operand.tmp 34)) (Ren.t ρ 35) "zsortanyfunc.go:331"
  #[Edge.mk 18 Ground.data] none,
  Oper.mk (some 36) (Op.indexAddr (Ren.t ρ 28) (Operand.tmp 16) (Operand.tmp 19)) (Ren.t ρ 0)
  "zsortanyfunc.go:331"
  #[Edge.mk 0 Ground.data, Edge.mk 3 Ground.data, Edge.mk 0 Ground.phase, Edge.mk 1 Ground.phase,
  Edge.mk 2 Ground.phase, Edge.mk 3 Ground.phase,
  Edge.mk 4 (Ground.textOnly Departure.lateStores),
  Edge.mk 5 (Ground.textOnly Departure.lateStores),
  Edge.mk 6 (Ground.textOnly Departure.lateStores),
  Edge.mk 7 (Ground.textOnly Departure.lateStores), Edge.mk 8 Ground.phase,
  Edge.mk 9 Ground.phase, Edge.mk 10 Ground.phase, Edge.mk 11 Ground.phase,
  Edge.mk 12 Ground.phase, Edge.mk 13 Ground.phase,
  Edge.mk 14 (Ground.textOnly Departure.lateStores),
  Edge.mk 15 (Ground.textOnly Departure.lateStores),
  Edge.mk 16 (Ground.textOnly Departure.lateStores),
  Edge.mk 17 (Ground.textOnly Departure.lateStores),
  Edge.mk 18 (Ground.textOnly Departure.lateStoresUnsure), Edge.mk 19 Ground.phase]
  none,
  Oper.mk none (Op.store (Ren.t ρ 35) (Operand.tmp 36) (Operand.tmp 29)) (Ren.t ρ 0)
  "zsortanyfunc.go:331"
  #[Edge.mk 20 Ground.data, Edge.mk 13 Ground.data, Edge.mk 0 Ground.phase,
  Edge.mk 1 Ground.phase, Edge.mk 2 Ground.phase, Edge.mk 3 Ground.phase,
  Edge.mk 4 (Ground.textOnly Departure.lateStores),
  Edge.mk 5 (Ground.textOnly Departure.lateStores),
  Edge.mk 6 (Ground.textOnly Departure.lateStores),
  Edge.mk 7 (Ground.textOnly Departure.lateStores), Edge.mk 8 Ground.phase,
  Edge.mk 9 Ground.phase, Edge.mk 10 Ground.phase, Edge.mk 11 Ground.phase,
  Edge.mk 12 Ground.phase, Edge.mk 13 Ground.phase,
  Edge.mk 14 (Ground.textOnly Departure.lateStores),
  Edge.mk 15 (Ground.textOnly Departure.lateStores),
  Edge.mk 16 (Ground.textOnly Departure.lateStores),
  Edge.mk 17 (Ground.textOnly Departure.lateStores),
  Edge.mk 18 (Ground.textOnly Departure.lateStoresUnsure), Edge.mk 19 Ground.phase]
  none,
  Oper.mk (some 37) (Op.indexAddr (Ren.t ρ 28) (Operand.tmp 20) (Operand.tmp 23)) (Ren.t ρ 0)
  "zsortanyfunc.go:331"
  #[Edge.mk 4 Ground.data, Edge.mk 7 Ground.data, Edge.mk 0 Ground.phase, Edge.mk 1 Ground.phase,
  Edge.mk 2 Ground.phase, Edge.mk 3 Ground.phase, Edge.mk 4 Ground.phase,
  Edge.mk 5 Ground.phase, Edge.mk 6 Ground.phase, Edge.mk 7 Ground.phase,
  Edge.mk 8 Ground.phase, Edge.mk 9 Ground.phase, Edge.mk 10 Ground.phase,
  Edge.mk 11 Ground.phase, Edge.mk 12 Ground.phase, Edge.mk 13 Ground.phase,
  Edge.mk 14 Ground.phase, Edge.mk 15 Ground.phase, Edge.mk 16 Ground.phase,
  Edge.mk 17 Ground.phase, Edge.mk 18 Ground.phase, Edge.mk 19 Ground.phase,
  Edge.mk 20 Ground.phase, Edge.mk 21 Ground.phase]
  none,
  Oper.mk none (Op.store (Ren.t ρ 35) (Operand.tmp 37) (Operand.tmp 35)) (Ren.t ρ 0)
  "zsortanyfunc.go:331"
  #[Edge.mk 22 Ground.data, Edge.mk 19 Ground.data, Edge.mk 21 Ground.chain,
  Edge.mk 0 Ground.phase, Edge.mk 1 Ground.phase, Edge.mk 2 Ground.phase,
  Edge.mk 3 Ground.phase, Edge.mk 4 Ground.phase, Edge.mk 5 Ground.phase,
  Edge.mk 6 Ground.phase, Edge.mk 7 Ground.phase, Edge.mk 8 Ground.phase,
  Edge.mk 9 Ground.phase, Edge.mk 10 Ground.phase, Edge.mk 11 Ground.phase,
  Edge.mk 12 Ground.phase, Edge.mk 13 Ground.phase, Edge.mk 14 Ground.phase,
  Edge.mk 15 Ground.phase, Edge.mk 16 Ground.phase, Edge.mk 17 Ground.phase,
  Edge.mk 18 Ground.phase, Edge.mk 19 Ground.phase, Edge.mk 20 Ground.phase,
  Edge.mk 21 Ground.phase]
  none]
  true))
  (Code.region 2
  #[Oper.mk (some 14) (Op.move (Operand.tmp 10)) (Ren.t ρ 3) "zsortanyfunc.go:330" #[] none,
  Oper.mk (some 15)
  (Op.binOp BinOp.add (Ren.t ρ 3) (Operand.tmp 14) (Operand.const (Value.int IntKind.i64 1))
  (Ren.t ρ 3))
  (Ren.t ρ 3) "zsortanyfunc.go:330" #[Edge.mk 0 Ground.data] none,
  Oper.mk (some 10) (Op.assign (Operand.tmp 15)) (Ren.t ρ 3) "zsortanyfunc.go:330"
  #[Edge.mk 1 Ground.data, Edge.mk 0 Ground.phase, Edge.mk 1 Ground.phase] none]
  false)))))))
  false false "slices/zsortanyfunc.go" 333 none
  [Departure.mixedOrders, Departure.lateStoresUnsure, Departure.lateStores]
  #["data", "a", "b", "n", "cmp", "data", "a", "b", "n", "cmp", "i", "", "", "", "", "", "", "", "", "", "", "", "",
  "", "", "", "", "", "", "", "", "", "", "", "", "", "", ""]
def stB_rot (ρ : Ren) : Func :=
 Func.mk "slices.rotateCmpFunc[rick/api.Rename]" "slices.rotateCmpFunc" #[Ren.t ρ 35]
  #[Ren.t ρ 28, Ren.t ρ 3, Ren.t ρ 3, Ren.t ρ 3, Ren.t ρ 79] #[] 0 58 #[]
  (some
  (Code.seq
  (Code.region 0
  #[Oper.mk (some 12) (Op.move (Operand.tmp 2)) (Ren.t ρ 3) "zsortanyfunc.go:465" #[] none,
  Oper.mk (some 13) (Op.move (Operand.tmp 1)) (Ren.t ρ 3) "zsortanyfunc.go:465" #[] none,
  Oper.mk (some 14) (Op.binOp BinOp.sub (Ren.t ρ 3) (Operand.tmp 12) (Operand.tmp 13) (Ren.t ρ 3)) (Ren.t ρ 3)
  "zsortanyfunc.go:465" #[Edge.mk 0 Ground.data, Edge.mk 1 Ground.data] none,
  Oper.mk (some 10) (Op.assign (Operand.tmp 14)) (Ren.t ρ 3) "zsortanyfunc.go:465"
  #[Edge.mk 2 Ground.data, Edge.mk 0 Ground.phase, Edge.mk 1 Ground.phase, Edge.mk 2 Ground.phase] none]
  false)
  (Code.seq
  (Code.region 1
  #[Oper.mk (some 15) (Op.move (Operand.tmp 3)) (Ren.t ρ 3) "zsortanyfunc.go:466" #[] none,
  Oper.mk (some 16) (Op.move (Operand.tmp 2)) (Ren.t ρ 3) "zsortanyfunc.go:466" #[] none,
  Oper.mk (some 17) (Op.binOp BinOp.sub (Ren.t ρ 3) (Operand.tmp 15) (Operand.tmp 16) (Ren.t ρ 3))
  (Ren.t ρ 3) "zsortanyfunc.go:466" #[Edge.mk 0 Ground.data, Edge.mk 1 Ground.data] none,
  Oper.mk (some 11) (Op.assign (Operand.tmp 17)) (Ren.t ρ 3) "zsortanyfunc.go:466"
  #[Edge.mk 2 Ground.data, Edge.mk 0 Ground.phase, Edge.mk 1 Ground.phase, Edge.mk 2 Ground.phase] none]
  false)
  (Code.seq
  (Code.block 0
  (Code.loop
  (Code.seq
  (Code.seq
  (Code.region 2
  #[Oper.mk (some 18) (Op.move (Operand.tmp 10)) (Ren.t ρ 3) "zsortanyfunc.go:468" #[] none,
  Oper.mk (some 19) (Op.move (Operand.tmp 11)) (Ren.t ρ 3) "zsortanyfunc.go:468" #[] none,
  Oper.mk (some 20) (Op.binOp BinOp.neq (Ren.t ρ 3) (Operand.tmp 18) (Operand.tmp 19) (Ren.t ρ 3))
  (Ren.t ρ 4) "zsortanyfunc.go:468" #[Edge.mk 0 Ground.data, Edge.mk 1 Ground.data] none]
  false)
  (Code.cond (Operand.tmp 20) Code.skip (Code.exit 0)))
  (Code.block 1
  (Code.seq
  (Code.region 3
  #[Oper.mk (some 21) (Op.move (Operand.tmp 10)) (Ren.t ρ 3) "zsortanyfunc.go:469" #[] none,
  Oper.mk (some 22) (Op.move (Operand.tmp 11)) (Ren.t ρ 3) "zsortanyfunc.go:469" #[] none,
  Oper.mk (some 23)
  (Op.binOp BinOp.gtr (Ren.t ρ 3) (Operand.tmp 21) (Operand.tmp 22) (Ren.t ρ 3)) (Ren.t ρ 4)
  "zsortanyfunc.go:469" #[Edge.mk 0 Ground.data, Edge.mk 1 Ground.data] none]
  false)
  (Code.cond (Operand.tmp 23)
  (Code.seq
  (Code.region 4
  #[Oper.mk (some 24) (Op.move (Operand.tmp 0)) (Ren.t ρ 28) "zsortanyfunc.go:470" #[] none,
  Oper.mk (some 25) (Op.move (Operand.tmp 2)) (Ren.t ρ 3) "zsortanyfunc.go:470" #[] none,
  Oper.mk (some 26) (Op.move (Operand.tmp 10)) (Ren.t ρ 3) "zsortanyfunc.go:470" #[] none,
  Oper.mk (some 27)
  (Op.binOp BinOp.sub (Ren.t ρ 3) (Operand.tmp 25) (Operand.tmp 26) (Ren.t ρ 3))
  (Ren.t ρ 3) "zsortanyfunc.go:470" #[Edge.mk 1 Ground.data, Edge.mk 2 Ground.data] none,
  Oper.mk (some 28) (Op.move (Operand.tmp 2)) (Ren.t ρ 3) "zsortanyfunc.go:470" #[] none,
  Oper.mk (some 29) (Op.move (Operand.tmp 11)) (Ren.t ρ 3) "zsortanyfunc.go:470" #[] none,
  Oper.mk (some 30) (Op.move (Operand.tmp 4)) (Ren.t ρ 79) "zsortanyfunc.go:470" #[] none,
  Oper.mk (some 31)
  (Op.call
  (Call.mk (Callee.value (Operand.func (Ren.f ρ 85)))
  #[Operand.tmp 24, Operand.tmp 27, Operand.tmp 28, Operand.tmp 29, Operand.tmp 30]
  #[Ren.t ρ 28, Ren.t ρ 3, Ren.t ρ 3, Ren.t ρ 3, Ren.t ρ 79]))
  (Ren.t ρ 0) "zsortanyfunc.go:470"
  #[Edge.mk 0 Ground.data, Edge.mk 3 Ground.data, Edge.mk 4 Ground.data,
  Edge.mk 5 Ground.data, Edge.mk 6 Ground.data]
  none]
  false)
  (Code.region 5
  #[Oper.mk (some 32) (Op.move (Operand.tmp 10)) (Ren.t ρ 3) "zsortanyfunc.go:471" #[] none,
  Oper.mk (some 33) (Op.move (Operand.tmp 11)) (Ren.t ρ 3) "zsortanyfunc.go:471" #[] none,
  Oper.mk (some 34)
  (Op.binOp BinOp.sub (Ren.t ρ 3) (Operand.tmp 32) (Operand.tmp 33) (Ren.t ρ 3))
  (Ren.t ρ 3) "zsortanyfunc.go:471" #[Edge.mk 0 Ground.data, Edge.mk 1 Ground.data] none,
  Oper.mk (some 10) (Op.assign (Operand.tmp 34)) (Ren.t ρ 3) "zsortanyfunc.go:471"
  #[Edge.mk 2 Ground.data, Edge.mk 0 Ground.phase, Edge.mk 1 Ground.phase,
  Edge.mk 2 Ground.phase]
  none]
  false))
  (Code.seq
  (Code.region 6
  #[Oper.mk (some 35) (Op.move (Operand.tmp 0)) (Ren.t ρ 28) "zsortanyfunc.go:473" #[] none,
  Oper.mk (some 36) (Op.move (Operand.tmp 2)) (Ren.t ρ 3) "zsortanyfunc.go:473" #[] none,
  Oper.mk (some 37) (Op.move (Operand.tmp 10)) (Ren.t ρ 3) "zsortanyfunc.go:473" #[] none,
  Oper.mk (some 38)
  (Op.binOp BinOp.sub (Ren.t ρ 3) (Operand.tmp 36) (Operand.tmp 37) (Ren.t ρ 3))
  (Ren.t ρ 3) "zsortanyfunc.go:473" #[Edge.mk 1 Ground.data, Edge.mk 2 Ground.data] none,
  Oper.mk (some 39) (Op.move (Operand.tmp 2)) (Ren.t ρ 3) "zsortanyfunc.go:473" #[] none,
  Oper.mk (some 40) (Op.move (Operand.tmp 11)) (Ren.t ρ 3) "zsortanyfunc.go:473" #[] none,
  Oper.mk (some 41)
  (Op.binOp BinOp.add (Ren.t ρ 3) (Operand.tmp 39) (Operand.tmp 40) (Ren.t ρ 3))
  (Ren.t ρ 3) "zsortanyfunc.go:473" #[Edge.mk 4 Ground.data, Edge.mk 5 Ground.data] none,
  Oper.mk (some 42) (Op.move (Operand.tmp 10)) (Ren.t ρ 3) "zsortanyfunc.go:473" #[] none,
  Oper.mk (some 43)
  (Op.binOp BinOp.sub (Ren.t ρ 3) (Operand.tmp 41) (Operand.tmp 42) (Ren.t ρ 3))
  (Ren.t ρ 3) "zsortanyfunc.go:473" #[Edge.mk 6 Ground.data, Edge.mk 7 Ground.data] none,
  Oper.mk (some 44) (Op.move (Operand.tmp 10)) (Ren.t ρ 3) "zsortanyfunc.go:473" #[] none,
  Oper.mk (some 45) (Op.move (Operand.tmp 4)) (Ren.t ρ 79) "zsortanyfunc.go:473" #[] none,
  Oper.mk (some 46)
  (Op.call
  (Call.mk (Callee.value (Operand.func (Ren.f ρ 85)))
  #[Operand.tmp 35, Operand.tmp 38, Operand.tmp 43, Operand.tmp 44, Operand.tmp 45]
  #[Ren.t ρ 28, Ren.t ρ 3, Ren.t ρ 3, Ren.t ρ 3, Ren.t ρ 79]))
  (Ren.t ρ 0) "zsortanyfunc.go:473"
  #[Edge.mk 0 Ground.data, Edge.mk 3 Ground.data, Edge.mk 8 Ground.data,
  Edge.mk 9 Ground.data, Edge.mk 10 Ground.data]
  none]
  false)
  (Code.region 7
  #[Oper.mk (some 47) (Op.move (Operand.tmp 11)) (Ren.t ρ 3) "zsortanyfunc.go:474" #[] none,
  Oper.mk (some 48) (Op.move (Operand.tmp 10)) (Ren.t ρ 3) "zsortanyfunc.go:474" #[] none,
  Oper.mk (some 49)
  (Op.binOp BinOp.sub (Ren.t ρ 3) (Operand.tmp 47) (Operand.tmp 48) (Ren.t ρ 3))
  (Ren.t ρ 3) "zsortanyfunc.go:474" #[Edge.mk 0 Ground.data, Edge.mk 1 Ground.data] none,
  Oper.mk (some 11) (Op.assign (Operand.tmp 49)) (Ren.t ρ 3) "zsortanyfunc.go:474"
  #[Edge.mk 2 Ground.data, Edge.mk 0 Ground.phase, Edge.mk 1 Ground.phase,
  Edge.mk 2 Ground.phase]
  none]
  false))))))))
  (Code.region 8
  #[Oper.mk (some 50) (Op.move (Operand.tmp 0)) (Ren.t ρ 28) "zsortanyfunc.go:478" #[] none,
  Oper.mk (some 51) (Op.move (Operand.tmp 2)) (Ren.t ρ 3) "zsortanyfunc.go:478" #[] none,
  Oper.mk (some 52) (Op.move (Operand.tmp 10)) (Ren.t ρ 3) "zsortanyfunc.go:478" #[] none,
  Oper.mk (some 53) (Op.binOp BinOp.sub (Ren.t ρ 3) (Operand.tmp 51) (Operand.tmp 52) (Ren.t ρ 3))
  (Ren.t ρ 3) "zsortanyfunc.go:478" #[Edge.mk 1 Ground.data, Edge.mk 2 Ground.data] none,
  Oper.mk (some 54) (Op.move (Operand.tmp 2)) (Ren.t ρ 3) "zsortanyfunc.go:478" #[] none,
  Oper.mk (some 55) (Op.move (Operand.tmp 10)) (Ren.t ρ 3) "zsortanyfunc.go:478" #[] none,
  Oper.mk (some 56) (Op.move (Operand.tmp 4)) (Ren.t ρ 79) "zsortanyfunc.go:478" #[] none,
  Oper.mk (some 57)
  (Op.call
  (Call.mk (Callee.value (Operand.func (Ren.f ρ 85)))
  #[Operand.tmp 50, Operand.tmp 53, Operand.tmp 54, Operand.tmp 55, Operand.tmp 56]
  #[Ren.t ρ 28, Ren.t ρ 3, Ren.t ρ 3, Ren.t ρ 3, Ren.t ρ 79]))
  (Ren.t ρ 0) "zsortanyfunc.go:478"
  #[Edge.mk 0 Ground.data, Edge.mk 3 Ground.data, Edge.mk 4 Ground.data, Edge.mk 5 Ground.data,
  Edge.mk 6 Ground.data]
  none]
  false)))))
  false false "slices/zsortanyfunc.go" 479 none []
  #["data", "a", "m", "b", "cmp", "data", "a", "m", "b", "cmp", "i", "j", "", "", "", "", "", "", "", "", "", "", "",
  "", "", "", "", "", "", "", "", "", "", "", "", "", "", "", "", "", "", "", "", "", "", "", "", "", "", "", "",
  "", "", "", "", "", "", ""]
def stB_sym (ρ : Ren) : Func :=
 Func.mk "slices.symMergeCmpFunc[rick/api.Rename]" "slices.symMergeCmpFunc" #[Ren.t ρ 35]
  #[Ren.t ρ 28, Ren.t ρ 3, Ren.t ρ 3, Ren.t ρ 3, Ren.t ρ 79] #[] 0 220 #[]
  (some
  (Code.seq
  (Code.seq
  (Code.region 0
  #[Oper.mk (some 25) (Op.move (Operand.tmp 2)) (Ren.t ρ 3) "zsortanyfunc.go:382" #[] none,
  Oper.mk (some 26) (Op.move (Operand.tmp 1)) (Ren.t ρ 3) "zsortanyfunc.go:382" #[] none,
  Oper.mk (some 27) (Op.binOp BinOp.sub (Ren.t ρ 3) (Operand.tmp 25) (Operand.tmp 26) (Ren.t ρ 3))
  (Ren.t ρ 3) "zsortanyfunc.go:382" #[Edge.mk 0 Ground.data, Edge.mk 1 Ground.data] none,
  Oper.mk (some 28)
  (Op.binOp BinOp.eql (Ren.t ρ 3) (Operand.tmp 27) (Operand.const (Value.int IntKind.i64 1)) (Ren.t ρ 3))
  (Ren.t ρ 4) "zsortanyfunc.go:382" #[Edge.mk 2 Ground.data] none]
  false)
  (Code.cond (Operand.tmp 28)
  (Code.seq
  (Code.region 1
  #[Oper.mk (some 29) (Op.move (Operand.tmp 2)) (Ren.t ρ 3) "zsortanyfunc.go:386" #[] none,
  Oper.mk (some 10) (Op.assign (Operand.tmp 29)) (Ren.t ρ 3) "zsortanyfunc.go:386"
  #[Edge.mk 0 Ground.data, Edge.mk 0 Ground.phase] none]
  false)
  (Code.seq
  (Code.region 2
  #[Oper.mk (some 30) (Op.move (Operand.tmp 3)) (Ren.t ρ 3) "zsortanyfunc.go:387" #[] none,
  Oper.mk (some 11) (Op.assign (Operand.tmp 30)) (Ren.t ρ 3) "zsortanyfunc.go:387"
  #[Edge.mk 0 Ground.data, Edge.mk 0 Ground.phase] none]
  false)
  (Code.seq
  (Code.block 0
  (Code.loop
  (Code.seq
  (Code.seq
  (Code.region 3
  #[Oper.mk (some 31) (Op.move (Operand.tmp 10)) (Ren.t ρ 3) "zsortanyfunc.go:388" #[] none,
  Oper.mk (some 32) (Op.move (Operand.tmp 11)) (Ren.t ρ 3) "zsortanyfunc.go:388" #[] none,
  Oper.mk (some 33)
  (Op.binOp BinOp.lss (Ren.t ρ 3) (Operand.tmp 31) (Operand.tmp 32) (Ren.t ρ 3))
  (Ren.t ρ 4) "zsortanyfunc.go:388" #[Edge.mk 0 Ground.data, Edge.mk 1 Ground.data] none]
  false)
  (Code.cond (Operand.tmp 33) Code.skip (Code.exit 0)))
  (Code.block 1
  (Code.seq
  (Code.region 4
  #[Oper.mk (some 34) (Op.move (Operand.tmp 10)) (Ren.t ρ 3) "zsortanyfunc.go:389" #[] none,
  Oper.mk (some 35) (Op.move (Operand.tmp 11)) (Ren.t ρ 3) "zsortanyfunc.go:389" #[] none,
  Oper.mk (some 36)
  (Op.binOp BinOp.add (Ren.t ρ 3) (Operand.tmp 34) (Operand.tmp 35) (Ren.t ρ 3))
  (Ren.t ρ 3) "zsortanyfunc.go:389" #[Edge.mk 0 Ground.data, Edge.mk 1 Ground.data]
  none,
  Oper.mk (some 37) (Op.convert (Ren.t ρ 3) (Ren.t ρ 37) (Operand.tmp 36)) (Ren.t ρ 37)
  "zsortanyfunc.go:389" #[Edge.mk 2 Ground.data] none,
  Oper.mk (some 38)
  (Op.binOp BinOp.shr (Ren.t ρ 37) (Operand.tmp 37)
  (Operand.const (Value.int IntKind.u64 1)) (Ren.t ρ 37))
  (Ren.t ρ 37) "zsortanyfunc.go:389" #[Edge.mk 3 Ground.data] none,
  Oper.mk (some 39) (Op.convert (Ren.t ρ 37) (Ren.t ρ 3) (Operand.tmp 38)) (Ren.t ρ 3)
  "zsortanyfunc.go:389" #[Edge.mk 4 Ground.data] none,
  Oper.mk (some 12) (Op.assign (Operand.tmp 39)) (Ren.t ρ 3) "zsortanyfunc.go:389"
  #[Edge.mk 5 Ground.data, Edge.mk 0 Ground.phase, Edge.mk 1 Ground.phase,
  Edge.mk 2 Ground.phase, Edge.mk 3 Ground.phase, Edge.mk 4 Ground.phase,
  Edge.mk 5 Ground.phase]
  none]
  false)
  (Code.seq
  (Code.region 5
  #[Oper.mk (some 40) (Op.move (Operand.tmp 4)) (Ren.t ρ 79) "zsortanyfunc.go:390" #[]
  none,
  Oper.mk (some 41) (Op.move (Operand.tmp 0)) (Ren.t ρ 28) "zsortanyfunc.go:390" #[]
  none,
  Oper.mk (some 42) (Op.move (Operand.tmp 12)) (Ren.t ρ 3) "zsortanyfunc.go:390" #[]
  none,
  Oper.mk (some 43) (Op.indexAddr (Ren.t ρ 28) (Operand.tmp 41) (Operand.tmp 42))
  (Ren.t ρ 0) "zsortanyfunc.go:390" #[Edge.mk 1 Ground.data, Edge.mk 2 Ground.data]
  none,
  Oper.mk (some 44) (Op.load (Ren.t ρ 35) (Operand.tmp 43)) (Ren.t ρ 35)
  "zsortanyfunc.go:390" #[Edge.mk 3 Ground.data] none,
  Oper.mk (some 45) (Op.move (Operand.tmp 0)) (Ren.t ρ 28) "zsortanyfunc.go:390" #[]
  none,
  Oper.mk (some 46) (Op.move (Operand.tmp 1)) (Ren.t ρ 3) "zsortanyfunc.go:390" #[]
  none,
  Oper.mk (some 47) (Op.indexAddr (Ren.t ρ 28) (Operand.tmp 45) (Operand.tmp 46))
  (Ren.t ρ 0) "zsortanyfunc.go:390" #[Edge.mk 5 Ground.data, Edge.mk 6 Ground.data]
  none,
  Oper.mk (some 48) (Op.load (Ren.t ρ 35) (Operand.tmp 47)) (Ren.t ρ 35)
  "zsortanyfunc.go:390" #[Edge.mk 7 Ground.data] none,
  Oper.mk (some 49)
  (Op.call
  (Call.mk (Callee.value (Operand.tmp 40)) #[Operand.tmp 44, Operand.tmp 48]
  #[Ren.t ρ 35, Ren.t ρ 35]))
  (Ren.t ρ 3) "zsortanyfunc.go:390"
  #[Edge.mk 0 Ground.data, Edge.mk 4 Ground.data, Edge.mk 8 Ground.data] none,
  Oper.mk (some 50)
  (Op.binOp BinOp.lss (Ren.t ρ 3) (Operand.tmp 49)
  (Operand.const (Value.int IntKind.i64 0)) (Ren.t ρ 3))
  (Ren.t ρ 4) "zsortanyfunc.go:390" #[Edge.mk 9 Ground.data] none]
  true)
  (Code.cond (Operand.tmp 50)
  (Code.region 6
  #[Oper.mk (some 51) (Op.move (Operand.tmp 12)) (Ren.t ρ 3) "zsortanyfunc.go:391" #[]
  none,
  Oper.mk (some 52)
  (Op.binOp BinOp.add (Ren.t ρ 3) (Operand.tmp 51)
  (Operand.const (Value.int IntKind.i64 1)) (Ren.t ρ 3))
  (Ren.t ρ 3) "zsortanyfunc.go:391" #[Edge.mk 0 Ground.data] none,
  Oper.mk (some 10) (Op.assign (Operand.tmp 52)) (Ren.t ρ 3) "zsortanyfunc.go:391"
  #[Edge.mk 1 Ground.data, Edge.mk 0 Ground.phase, Edge.mk 1 Ground.phase] none]
  false)
  (Code.region 7
  #[Oper.mk (some 53) (Op.move (Operand.tmp 12)) (Ren.t ρ 3) "zsortanyfunc.go:393" #[]
  none,
  Oper.mk (some 11) (Op.assign (Operand.tmp 53)) (Ren.t ρ 3) "zsortanyfunc.go:393"
  #[Edge.mk 0 Ground.data, Edge.mk 0 Ground.phase] none]
  false))))))))
  (Code.seq
  (Code.seq
  (Code.region 8
  #[Oper.mk (some 54) (Op.move (Operand.tmp 1)) (Ren.t ρ 3) "zsortanyfunc.go:397" #[] none,
  Oper.mk (some 13) (Op.assign (Operand.tmp 54)) (Ren.t ρ 3) "zsortanyfunc.go:397"
  #[Edge.mk 0 Ground.data, Edge.mk 0 Ground.phase] none]
  false)
  (Code.block 2
  (Code.loop
  (Code.seq
  (Code.seq
  (Code.region 9
  #[Oper.mk (some 55) (Op.move (Operand.tmp 13)) (Ren.t ρ 3) "zsortanyfunc.go:397" #[]
  none,
  Oper.mk (some 56) (Op.move (Operand.tmp 10)) (Ren.t ρ 3) "zsortanyfunc.go:397" #[]
  none,
  Oper.mk (some 57)
  (Op.binOp BinOp.sub (Ren.t ρ 3) (Operand.tmp 56)
  (Operand.const (Value.int IntKind.i64 1)) (Ren.t ρ 3))
  (Ren.t ρ 3) "zsortanyfunc.go:397" #[Edge.mk 1 Ground.data] none,
  Oper.mk (some 58)
  (Op.binOp BinOp.lss (Ren.t ρ 3) (Operand.tmp 55) (Operand.tmp 57) (Ren.t ρ 3))
  (Ren.t ρ 4) "zsortanyfunc.go:397" #[Edge.mk 0 Ground.data, Edge.mk 2 Ground.data]
  none]
  false)
  (Code.cond (Operand.tmp 58) Code.skip (Code.exit 2)))
  (Code.seq
  (Code.block 3
  (Code.region 11
  #[Oper.mk (some 61) (Op.move (Operand.tmp 0)) (Ren.t ρ 28) "zsortanyfunc.go:398" #[]
  none,
  Oper.mk (some 62) (Op.move (Operand.tmp 13)) (Ren.t ρ 3) "zsortanyfunc.go:398" #[]
  none,
  Oper.mk (some 63) (Op.move (Operand.tmp 0)) (Ren.t ρ 28) "zsortanyfunc.go:398"
  #[Edge.mk 15 (Ground.gcOnly Departure.lateStores)] none,
  Oper.mk (some 64) (Op.move (Operand.tmp 13)) (Ren.t ρ 3) "zsortanyfunc.go:398"
  #[Edge.mk 15 (Ground.gcOnly Departure.lateStores)] none,
  Oper.mk (some 65)
  (Op.binOp BinOp.add (Ren.t ρ 3) (Operand.tmp 64)
  (Operand.const (Value.int IntKind.i64 1)) (Ren.t ρ 3))
  (Ren.t ρ 3) "zsortanyfunc.go:398"
  #[Edge.mk 3 Ground.data, Edge.mk 15 (Ground.gcOnly Departure.lateStores)] none,
  Oper.mk (some 66) (Op.move (Operand.tmp 0)) (Ren.t ρ 28) "zsortanyfunc.go:398" #[]
  none,
  Oper.mk (some 67) (Op.move (Operand.tmp 13)) (Ren.t ρ 3) "zsortanyfunc.go:398" #[]
  none,
  Oper.mk (some 68)
  (Op.binOp BinOp.add (Ren.t ρ 3) (Operand.tmp 67)
  (Operand.const (Value.int IntKind.i64 1)) (Ren.t ρ 3))
  (Ren.t ρ 3) "zsortanyfunc.go:398" #[Edge.mk 6 Ground.data] none,
  Oper.mk (some 69) (Op.indexAddr (Ren.t ρ 28) (Operand.tmp 66) (Operand.tmp 68))
  (Ren.t ρ 0) "zsortanyfunc.go:398" #[Edge.mk 5 Ground.data, Edge.mk 7 Ground.data]
  none,
  Oper.mk (some 70) (Op.load (Ren.t ρ 35) (Operand.tmp 69)) (Ren.t ρ 35)
  "zsortanyfunc.go:398" #[Edge.mk 8 Ground.data] none,
  Oper.mk (some 71) (Op.move (Operand.tmp 0)) (Ren.t ρ 28) "zsortanyfunc.go:398" #[]
  none,
  Oper.mk (some 72) (Op.move (Operand.tmp 13)) (Ren.t ρ 3) "zsortanyfunc.go:398" #[]
  none,
  Oper.mk (some 73) (Op.indexAddr (Ren.t ρ 28) (Operand.tmp 71) (Operand.tmp 72))
  (Ren.t ρ 0) "zsortanyfunc.go:398"
  #[Edge.mk 10 Ground.data, Edge.mk 11 Ground.data] none,
  Oper.mk (some 74) (Op.load (Ren.t ρ 35) (Operand.tmp 73)) (Ren.t ρ 35)
  "zsortanyfunc.go:398" #[Edge.mk 12 Ground.data] none,
  Oper.mk (some 75) (Op.indexAddr (Ren.t ρ 28) (Operand.tmp 61) (Operand.tmp 62))
  (Ren.t ρ 0) "zsortanyfunc.go:398"
  #[Edge.mk 0 Ground.data, Edge.mk 1 Ground.data, Edge.mk 0 Ground.phase,
  Edge.mk 1 Ground.phase, Edge.mk 2 (Ground.textOnly Departure.lateStores),
  Edge.mk 3 (Ground.textOnly Departure.lateStores),
  Edge.mk 4 (Ground.textOnly Departure.lateStores), Edge.mk 5 Ground.phase,
  Edge.mk 6 Ground.phase, Edge.mk 7 Ground.phase, Edge.mk 8 Ground.phase,
  Edge.mk 9 Ground.phase, Edge.mk 10 (Ground.textOnly Departure.lateStores),
  Edge.mk 11 (Ground.textOnly Departure.lateStores),
  Edge.mk 12 (Ground.textOnly Departure.lateStoresUnsure),
  Edge.mk 13 Ground.phase]
  none,
  Oper.mk none (Op.store (Ren.t ρ 35) (Operand.tmp 75) (Operand.tmp 70)) (Ren.t ρ 0)
  "zsortanyfunc.go:398"
  #[Edge.mk 14 Ground.data, Edge.mk 9 Ground.data, Edge.mk 0 Ground.phase,
  Edge.mk 1 Ground.phase, Edge.mk 2 (Ground.textOnly Departure.lateStores),
  Edge.mk 3 (Ground.textOnly Departure.lateStores),
  Edge.mk 4 (Ground.textOnly Departure.lateStores), Edge.mk 5 Ground.phase,
  Edge.mk 6 Ground.phase, Edge.mk 7 Ground.phase, Edge.mk 8 Ground.phase,
  Edge.mk 9 Ground.phase, Edge.mk 10 (Ground.textOnly Departure.lateStores),
  Edge.mk 11 (Ground.textOnly Departure.lateStores),
  Edge.mk 12 (Ground.textOnly Departure.lateStoresUnsure),
  Edge.mk 13 Ground.phase]
  none,
  Oper.mk (some 76) (Op.indexAddr (Ren.t ρ 28) (Operand.tmp 63) (Operand.tmp 65))
  (Ren.t ρ 0) "zsortanyfunc.go:398"
  #[Edge.mk 2 Ground.data, Edge.mk 4 Ground.data, Edge.mk 0 Ground.phase,
  Edge.mk 1 Ground.phase, Edge.mk 2 Ground.phase, Edge.mk 3 Ground.phase,
  Edge.mk 4 Ground.phase, Edge.mk 5 Ground.phase, Edge.mk 6 Ground.phase,
  Edge.mk 7 Ground.phase, Edge.mk 8 Ground.phase, Edge.mk 9 Ground.phase,
  Edge.mk 10 Ground.phase, Edge.mk 11 Ground.phase, Edge.mk 12 Ground.phase,
  Edge.mk 13 Ground.phase, Edge.mk 14 Ground.phase, Edge.mk 15 Ground.phase]
  none,
  Oper.mk none (Op.store (Ren.t ρ 35) (Operand.tmp 76) (Operand.tmp 74)) (Ren.t ρ 0)
  "zsortanyfunc.go:398"
  #[Edge.mk 16 Ground.data, Edge.mk 13 Ground.data, Edge.mk 15 Ground.chain,
  Edge.mk 0 Ground.phase, Edge.mk 1 Ground.phase, Edge.mk 2 Ground.phase,
  Edge.mk 3 Ground.phase, Edge.mk 4 Ground.phase, Edge.mk 5 Ground.phase,
  Edge.mk 6 Ground.phase, Edge.mk 7 Ground.phase, Edge.mk 8 Ground.phase,
  Edge.mk 9 Ground.phase, Edge.mk 10 Ground.phase, Edge.mk 11 Ground.phase,
  Edge.mk 12 Ground.phase, Edge.mk 13 Ground.phase, Edge.mk 14 Ground.phase,
  Edge.mk 15 Ground.phase]
  none]
  true))
  (Code.region 10
  #[Oper.mk (some 59) (Op.move (Operand.tmp 13)) (Ren.t ρ 3) "zsortanyfunc.go:397" #[]
  none,
  Oper.mk (some 60)
  (Op.binOp BinOp.add (Ren.t ρ 3) (Operand.tmp 59)
  (Operand.const (Value.int IntKind.i64 1)) (Ren.t ρ 3))
  (Ren.t ρ 3) "zsortanyfunc.go:397" #[Edge.mk 0 Ground.data] none,
  Oper.mk (some 13) (Op.assign (Operand.tmp 60)) (Ren.t ρ 3) "zsortanyfunc.go:397"
  #[Edge.mk 1 Ground.data, Edge.mk 0 Ground.phase, Edge.mk 1 Ground.phase] none]
  false))))))
  Code.ret))))
  Code.skip))
  (Code.seq
  (Code.seq
  (Code.region 12
  #[Oper.mk (some 77) (Op.move (Operand.tmp 3)) (Ren.t ρ 3) "zsortanyfunc.go:406" #[] none,
  Oper.mk (some 78) (Op.move (Operand.tmp 2)) (Ren.t ρ 3) "zsortanyfunc.go:406" #[] none,
  Oper.mk (some 79) (Op.binOp BinOp.sub (Ren.t ρ 3) (Operand.tmp 77) (Operand.tmp 78) (Ren.t ρ 3))
  (Ren.t ρ 3) "zsortanyfunc.go:406" #[Edge.mk 0 Ground.data, Edge.mk 1 Ground.data] none,
  Oper.mk (some 80)
  (Op.binOp BinOp.eql (Ren.t ρ 3) (Operand.tmp 79) (Operand.const (Value.int IntKind.i64 1))
  (Ren.t ρ 3))
  (Ren.t ρ 4) "zsortanyfunc.go:406" #[Edge.mk 2 Ground.data] none]
  false)
  (Code.cond (Operand.tmp 80)
  (Code.seq
  (Code.region 13
  #[Oper.mk (some 81) (Op.move (Operand.tmp 1)) (Ren.t ρ 3) "zsortanyfunc.go:410" #[] none,
  Oper.mk (some 14) (Op.assign (Operand.tmp 81)) (Ren.t ρ 3) "zsortanyfunc.go:410"
  #[Edge.mk 0 Ground.data, Edge.mk 0 Ground.phase] none]
  false)
  (Code.seq
  (Code.region 14
  #[Oper.mk (some 82) (Op.move (Operand.tmp 2)) (Ren.t ρ 3) "zsortanyfunc.go:411" #[] none,
  Oper.mk (some 15) (Op.assign (Operand.tmp 82)) (Ren.t ρ 3) "zsortanyfunc.go:411"
  #[Edge.mk 0 Ground.data, Edge.mk 0 Ground.phase] none]
  false)
  (Code.seq
  (Code.block 4
  (Code.loop
  (Code.seq
  (Code.seq
  (Code.region 15
  #[Oper.mk (some 83) (Op.move (Operand.tmp 14)) (Ren.t ρ 3) "zsortanyfunc.go:412" #[] none,
  Oper.mk (some 84) (Op.move (Operand.tmp 15)) (Ren.t ρ 3) "zsortanyfunc.go:412" #[] none,
  Oper.mk (some 85)
  (Op.binOp BinOp.lss (Ren.t ρ 3) (Operand.tmp 83) (Operand.tmp 84) (Ren.t ρ 3))
  (Ren.t ρ 4) "zsortanyfunc.go:412" #[Edge.mk 0 Ground.data, Edge.mk 1 Ground.data]
  none]
  false)
  (Code.cond (Operand.tmp 85) Code.skip (Code.exit 4)))
  (Code.block 5
  (Code.seq
  (Code.region 16
  #[Oper.mk (some 86) (Op.move (Operand.tmp 14)) (Ren.t ρ 3) "zsortanyfunc.go:413" #[]
  none,
  Oper.mk (some 87) (Op.move (Operand.tmp 15)) (Ren.t ρ 3) "zsortanyfunc.go:413" #[]
  none,
  Oper.mk (some 88)
  (Op.binOp BinOp.add (Ren.t ρ 3) (Operand.tmp 86) (Operand.tmp 87) (Ren.t ρ 3))
  (Ren.t ρ 3) "zsortanyfunc.go:413" #[Edge.mk 0 Ground.data, Edge.mk 1 Ground.data]
  none,
  Oper.mk (some 89) (Op.convert (Ren.t ρ 3) (Ren.t ρ 37) (Operand.tmp 88)) (Ren.t ρ 37)
  "zsortanyfunc.go:413" #[Edge.mk 2 Ground.data] none,
  Oper.mk (some 90)
  (Op.binOp BinOp.shr (Ren.t ρ 37) (Operand.tmp 89)
  (Operand.const (Value.int IntKind.u64 1)) (Ren.t ρ 37))
  (Ren.t ρ 37) "zsortanyfunc.go:413" #[Edge.mk 3 Ground.data] none,
  Oper.mk (some 91) (Op.convert (Ren.t ρ 37) (Ren.t ρ 3) (Operand.tmp 90)) (Ren.t ρ 3)
  "zsortanyfunc.go:413" #[Edge.mk 4 Ground.data] none,
  Oper.mk (some 16) (Op.assign (Operand.tmp 91)) (Ren.t ρ 3) "zsortanyfunc.go:413"
  #[Edge.mk 5 Ground.data, Edge.mk 0 Ground.phase, Edge.mk 1 Ground.phase,
  Edge.mk 2 Ground.phase, Edge.mk 3 Ground.phase, Edge.mk 4 Ground.phase,
  Edge.mk 5 Ground.phase]
  none]
  false)
  (Code.seq
  (Code.region 17
  #[Oper.mk (some 92) (Op.move (Operand.tmp 4)) (Ren.t ρ 79) "zsortanyfunc.go:414" #[]
  none,
  Oper.mk (some 93) (Op.move (Operand.tmp 0)) (Ren.t ρ 28) "zsortanyfunc.go:414" #[]
  none,
  Oper.mk (some 94) (Op.move (Operand.tmp 2)) (Ren.t ρ 3) "zsortanyfunc.go:414" #[]
  none,
  Oper.mk (some 95) (Op.indexAddr (Ren.t ρ 28) (Operand.tmp 93) (Operand.tmp 94))
  (Ren.t ρ 0) "zsortanyfunc.go:414" #[Edge.mk 1 Ground.data, Edge.mk 2 Ground.data]
  none,
  Oper.mk (some 96) (Op.load (Ren.t ρ 35) (Operand.tmp 95)) (Ren.t ρ 35)
  "zsortanyfunc.go:414" #[Edge.mk 3 Ground.data] none,
  Oper.mk (some 97) (Op.move (Operand.tmp 0)) (Ren.t ρ 28) "zsortanyfunc.go:414" #[]
  none,
  Oper.mk (some 98) (Op.move (Operand.tmp 16)) (Ren.t ρ 3) "zsortanyfunc.go:414" #[]
  none,
  Oper.mk (some 99) (Op.indexAddr (Ren.t ρ 28) (Operand.tmp 97) (Operand.tmp 98))
  (Ren.t ρ 0) "zsortanyfunc.go:414" #[Edge.mk 5 Ground.data, Edge.mk 6 Ground.data]
  none,
  Oper.mk (some 100) (Op.load (Ren.t ρ 35) (Operand.tmp 99)) (Ren.t ρ 35)
  "zsortanyfunc.go:414" #[Edge.mk 7 Ground.data] none,
  Oper.mk (some 101)
  (Op.call
  (Call.mk (Callee.value (Operand.tmp 92)) #[Operand.tmp 96, Operand.tmp 100]
  #[Ren.t ρ 35, Ren.t ρ 35]))
  (Ren.t ρ 3) "zsortanyfunc.go:414"
  #[Edge.mk 0 Ground.data, Edge.mk 4 Ground.data, Edge.mk 8 Ground.data] none,
  Oper.mk (some 102)
  (Op.binOp BinOp.lss (Ren.t ρ 3) (Operand.tmp 101)
  (Operand.const (Value.int IntKind.i64 0)) (Ren.t ρ 3))
  (Ren.t ρ 4) "zsortanyfunc.go:414" #[Edge.mk 9 Ground.data] none,
  Oper.mk (some 103) (Op.unOp UnOp.not (Ren.t ρ 4) (Operand.tmp 102)) (Ren.t ρ 4)
  "zsortanyfunc.go:414" #[Edge.mk 10 Ground.data] none]
  true)
  (Code.cond (Operand.tmp 103)
  (Code.region 18
  #[Oper.mk (some 104) (Op.move (Operand.tmp 16)) (Ren.t ρ 3) "zsortanyfunc.go:415"
  #[] none,
  Oper.mk (some 105)
  (Op.binOp BinOp.add (Ren.t ρ 3) (Operand.tmp 104)
  (Operand.const (Value.int IntKind.i64 1)) (Ren.t ρ 3))
  (Ren.t ρ 3) "zsortanyfunc.go:415" #[Edge.mk 0 Ground.data] none,
  Oper.mk (some 14) (Op.assign (Operand.tmp 105)) (Ren.t ρ 3) "zsortanyfunc.go:415"
  #[Edge.mk 1 Ground.data, Edge.mk 0 Ground.phase, Edge.mk 1 Ground.phase] none]
  false)
  (Code.region 19
  #[Oper.mk (some 106) (Op.move (Operand.tmp 16)) (Ren.t ρ 3) "zsortanyfunc.go:417"
  #[] none,
  Oper.mk (some 15) (Op.assign (Operand.tmp 106)) (Ren.t ρ 3) "zsortanyfunc.go:417"
  #[Edge.mk 0 Ground.data, Edge.mk 0 Ground.phase] none]
  false))))))))
  (Code.seq
  (Code.seq
  (Code.region 20
  #[Oper.mk (some 107) (Op.move (Operand.tmp 2)) (Ren.t ρ 3) "zsortanyfunc.go:421" #[] none,
  Oper.mk (some 17) (Op.assign (Operand.tmp 107)) (Ren.t ρ 3) "zsortanyfunc.go:421"
  #[Edge.mk 0 Ground.data, Edge.mk 0 Ground.phase] none]
  false)
  (Code.block 6
  (Code.loop
  (Code.seq
  (Code.seq
  (Code.region 21
  #[Oper.mk (some 108) (Op.move (Operand.tmp 17)) (Ren.t ρ 3) "zsortanyfunc.go:421" #[]
  none,
  Oper.mk (some 109) (Op.move (Operand.tmp 14)) (Ren.t ρ 3) "zsortanyfunc.go:421" #[]
  none,
  Oper.mk (some 110)
  (Op.binOp BinOp.gtr (Ren.t ρ 3) (Operand.tmp 108) (Operand.tmp 109) (Ren.t ρ 3))
  (Ren.t ρ 4) "zsortanyfunc.go:421" #[Edge.mk 0 Ground.data, Edge.mk 1 Ground.data]
  none]
  false)
  (Code.cond (Operand.tmp 110) Code.skip (Code.exit 6)))
  (Code.seq
  (Code.block 7
  (Code.region 23
  #[Oper.mk (some 113) (Op.move (Operand.tmp 0)) (Ren.t ρ 28) "zsortanyfunc.go:422"
  #[] none,
  Oper.mk (some 114) (Op.move (Operand.tmp 17)) (Ren.t ρ 3) "zsortanyfunc.go:422"
  #[] none,
  Oper.mk (some 115) (Op.move (Operand.tmp 0)) (Ren.t ρ 28) "zsortanyfunc.go:422"
  #[Edge.mk 15 (Ground.gcOnly Departure.lateStores)] none,
  Oper.mk (some 116) (Op.move (Operand.tmp 17)) (Ren.t ρ 3) "zsortanyfunc.go:422"
  #[Edge.mk 15 (Ground.gcOnly Departure.lateStores)] none,
  Oper.mk (some 117)
  (Op.binOp BinOp.sub (Ren.t ρ 3) (Operand.tmp 116)
  (Operand.const (Value.int IntKind.i64 1)) (Ren.t ρ 3))
  (Ren.t ρ 3) "zsortanyfunc.go:422"
  #[Edge.mk 3 Ground.data, Edge.mk 15 (Ground.gcOnly Departure.lateStores)] none,
  Oper.mk (some 118) (Op.move (Operand.tmp 0)) (Ren.t ρ 28) "zsortanyfunc.go:422"
  #[] none,
  Oper.mk (some 119) (Op.move (Operand.tmp 17)) (Ren.t ρ 3) "zsortanyfunc.go:422"
  #[] none,
  Oper.mk (some 120)
  (Op.binOp BinOp.sub (Ren.t ρ 3) (Operand.tmp 119)
  (Operand.const (Value.int IntKind.i64 1)) (Ren.t ρ 3))
  (Ren.t ρ 3) "zsortanyfunc.go:422" #[Edge.mk 6 Ground.data] none,
  Oper.mk (some 121) (Op.indexAddr (Ren.t ρ 28) (Operand.tmp 118) (Operand.tmp 120))
  (Ren.t ρ 0) "zsortanyfunc.go:422"
  #[Edge.mk 5 Ground.data, Edge.mk 7 Ground.data] none,
  Oper.mk (some 122) (Op.load (Ren.t ρ 35) (Operand.tmp 121)) (Ren.t ρ 35)
  "zsortanyfunc.go:422" #[Edge.mk 8 Ground.data] none,
  Oper.mk (some 123) (Op.move (Operand.tmp 0)) (Ren.t ρ 28) "zsortanyfunc.go:422"
  #[] none,
  Oper.mk (some 124) (Op.move (Operand.tmp 17)) (Ren.t ρ 3) "zsortanyfunc.go:422"
  #[] none,
  Oper.mk (some 125) (Op.indexAddr (Ren.t ρ 28) (Operand.tmp 123) (Operand.tmp 124))
  (Ren.t ρ 0) "zsortanyfunc.go:422"
  #[Edge.mk 10 Ground.data, Edge.mk 11 Ground.data] none,
  Oper.mk (some 126) (Op.load (Ren.t ρ 35) (Operand.tmp 125)) (Ren.t ρ 35)
  "zsortanyfunc.go:422" #[Edge.mk 12 Ground.data] none,
  Oper.mk (some 127) (Op.indexAddr (Ren.t ρ 28) (Operand.tmp 113) (Operand.tmp 114))
  (Ren.t ρ 0) "zsortanyfunc.go:422"
  #[Edge.mk 0 Ground.data, Edge.mk 1 Ground.data, Edge.mk 0 Ground.phase,
  Edge.mk 1 Ground.phase, Edge.mk 2 (Ground.textOnly Departure.lateStores),
  Edge.mk 3 (Ground.textOnly Departure.lateStores),
  Edge.mk 4 (Ground.textOnly Departure.lateStores), Edge.mk 5 Ground.phase,
  Edge.mk 6 Ground.phase, Edge.mk 7 Ground.phase, Edge.mk 8 Ground.phase,
  Edge.mk 9 Ground.phase, Edge.mk 10 (Ground.textOnly Departure.lateStores),
  Edge.mk 11 (Ground.textOnly Departure.lateStores),
  Edge.mk 12 (Ground.textOnly Departure.lateStoresUnsure),
  Edge.mk 13 Ground.phase]
  none,
  Oper.mk none (Op.store (Ren.t ρ 35) (Operand.tmp 127) (Operand.tmp 122))
  (Ren.t ρ 0) "zsortanyfunc.go:422"
  #[Edge.mk 14 Ground.data, Edge.mk 9 Ground.data, Edge.mk 0 Ground.phase,
  Edge.mk 1 Ground.phase, Edge.mk 2 (Ground.textOnly Departure.lateStores),
  Edge.mk 3 (Ground.textOnly Departure.lateStores),
  Edge.mk 4 (Ground.textOnly Departure.lateStores), Edge.mk 5 Ground.phase,
  Edge.mk 6 Ground.phase, Edge.mk 7 Ground.phase, Edge.mk 8 Ground.phase,
  Edge.mk 9 Ground.phase, Edge.mk 10 (Ground.textOnly Departure.lateStores),
  Edge.mk 11 (Ground.textOnly Departure.lateStores),
  Edge.mk 12 (Ground.textOnly Departure.lateStoresUnsure),
  Edge.mk 13 Ground.phase]
  none,
  Oper.mk (some 128) (Op.indexAddr (Ren.t ρ 28) (Operand.tmp 115) (Operand.tmp 117))
  (Ren.t ρ 0) "zsortanyfunc.go:422"
  #[Edge.mk 2 Ground.data, Edge.mk 4 Ground.data, Edge.mk 0 Ground.phase,
  Edge.mk 1 Ground.phase, Edge.mk 2 Ground.phase, Edge.mk 3 Ground.phase,
  Edge.mk 4 Ground.phase, Edge.mk 5 Ground.phase, Edge.mk 6 Ground.phase,
  Edge.mk 7 Ground.phase, Edge.mk 8 Ground.phase, Edge.mk 9 Ground.phase,
  Edge.mk 10 Ground.phase, Edge.mk 11 Ground.phase, Edge.mk 12 Ground.phase,
  Edge.mk 13 Ground.phase, Edge.mk 14 Ground.phase, Edge.mk 15 Ground.phase]
  none,
  Oper.mk none (Op.store (Ren.t ρ 35) (Operand.tmp 128) (Operand.tmp 126))
  (Ren.t ρ 0) "zsortanyfunc.go:422"
  #[Edge.mk 16 Ground.data, Edge.mk 13 Ground.data, Edge.mk 15 Ground.chain,
  Edge.mk 0 Ground.phase, Edge.mk 1 Ground.phase, Edge.mk 2 Ground.phase,
  Edge.mk 3 Ground.phase, Edge.mk 4 Ground.phase, Edge.mk 5 Ground.phase,
  Edge.mk 6 Ground.phase, Edge.mk 7 Ground.phase, Edge.mk 8 Ground.phase,
  Edge.mk 9 Ground.phase, Edge.mk 10 Ground.phase, Edge.mk 11 Ground.phase,
  Edge.mk 12 Ground.phase, Edge.mk 13 Ground.phase, Edge.mk 14 Ground.phase,
  Edge.mk 15 Ground.phase]
  none]
  true))
  (Code.region 22
  #[Oper.mk (some 111) (Op.move (Operand.tmp 17)) (Ren.t ρ 3) "zsortanyfunc.go:421" #[]
  none,
  Oper.mk (some 112)
  (Op.binOp BinOp.sub (Ren.t ρ 3) (Operand.tmp 111)
  (Operand.const (Value.int IntKind.i64 1)) (Ren.t ρ 3))
  (Ren.t ρ 3) "zsortanyfunc.go:421" #[Edge.mk 0 Ground.data] none,
  Oper.mk (some 17) (Op.assign (Operand.tmp 112)) (Ren.t ρ 3) "zsortanyfunc.go:421"
  #[Edge.mk 1 Ground.data, Edge.mk 0 Ground.phase, Edge.mk 1 Ground.phase] none]
  false))))))
  Code.ret))))
  Code.skip))
  (Code.seq
  (Code.region 24
  #[Oper.mk (some 129) (Op.move (Operand.tmp 1)) (Ren.t ρ 3) "zsortanyfunc.go:427" #[] none,
  Oper.mk (some 130) (Op.move (Operand.tmp 3)) (Ren.t ρ 3) "zsortanyfunc.go:427" #[] none,
  Oper.mk (some 131) (Op.binOp BinOp.add (Ren.t ρ 3) (Operand.tmp 129) (Operand.tmp 130) (Ren.t ρ 3))
  (Ren.t ρ 3) "zsortanyfunc.go:427" #[Edge.mk 0 Ground.data, Edge.mk 1 Ground.data] none,
  Oper.mk (some 132) (Op.convert (Ren.t ρ 3) (Ren.t ρ 37) (Operand.tmp 131)) (Ren.t ρ 37)
  "zsortanyfunc.go:427" #[Edge.mk 2 Ground.data] none,
  Oper.mk (some 133)
  (Op.binOp BinOp.shr (Ren.t ρ 37) (Operand.tmp 132) (Operand.const (Value.int IntKind.u64 1))
  (Ren.t ρ 37))
  (Ren.t ρ 37) "zsortanyfunc.go:427" #[Edge.mk 3 Ground.data] none,
  Oper.mk (some 134) (Op.convert (Ren.t ρ 37) (Ren.t ρ 3) (Operand.tmp 133)) (Ren.t ρ 3)
  "zsortanyfunc.go:427" #[Edge.mk 4 Ground.data] none,
  Oper.mk (some 18) (Op.assign (Operand.tmp 134)) (Ren.t ρ 3) "zsortanyfunc.go:427"
  #[Edge.mk 5 Ground.data, Edge.mk 0 Ground.phase, Edge.mk 1 Ground.phase, Edge.mk 2 Ground.phase,
  Edge.mk 3 Ground.phase, Edge.mk 4 Ground.phase, Edge.mk 5 Ground.phase]
  none]
  false)
  (Code.seq
  (Code.region 25
  #[Oper.mk (some 135) (Op.move (Operand.tmp 18)) (Ren.t ρ 3) "zsortanyfunc.go:428" #[] none,
  Oper.mk (some 136) (Op.move (Operand.tmp 2)) (Ren.t ρ 3) "zsortanyfunc.go:428" #[] none,
  Oper.mk (some 137) (Op.binOp BinOp.add (Ren.t ρ 3) (Operand.tmp 135) (Operand.tmp 136) (Ren.t ρ 3))
  (Ren.t ρ 3) "zsortanyfunc.go:428" #[Edge.mk 0 Ground.data, Edge.mk 1 Ground.data] none,
  Oper.mk (some 19) (Op.assign (Operand.tmp 137)) (Ren.t ρ 3) "zsortanyfunc.go:428"
  #[Edge.mk 2 Ground.data, Edge.mk 0 Ground.phase, Edge.mk 1 Ground.phase, Edge.mk 2 Ground.phase]
  none]
  false)
  (Code.seq
  (Code.region 26
  #[Oper.mk (some 20) (Op.assign (Operand.const (Value.int IntKind.i64 0))) (Ren.t ρ 3)
  "zsortanyfunc.go:429" #[] none,
  Oper.mk (some 21) (Op.assign (Operand.const (Value.int IntKind.i64 0))) (Ren.t ρ 3)
  "zsortanyfunc.go:429" #[Edge.mk 0 Ground.chain] none]
  false)
  (Code.seq
  (Code.seq
  (Code.region 27
  #[Oper.mk (some 138) (Op.move (Operand.tmp 2)) (Ren.t ρ 3) "zsortanyfunc.go:430" #[] none,
  Oper.mk (some 139) (Op.move (Operand.tmp 18)) (Ren.t ρ 3) "zsortanyfunc.go:430" #[] none,
  Oper.mk (some 140)
  (Op.binOp BinOp.gtr (Ren.t ρ 3) (Operand.tmp 138) (Operand.tmp 139) (Ren.t ρ 3)) (Ren.t ρ 4)
  "zsortanyfunc.go:430" #[Edge.mk 0 Ground.data, Edge.mk 1 Ground.data] none]
  false)
  (Code.cond (Operand.tmp 140)
  (Code.seq
  (Code.region 28
  #[Oper.mk (some 141) (Op.move (Operand.tmp 19)) (Ren.t ρ 3) "zsortanyfunc.go:431" #[] none,
  Oper.mk (some 142) (Op.move (Operand.tmp 3)) (Ren.t ρ 3) "zsortanyfunc.go:431" #[] none,
  Oper.mk (some 143)
  (Op.binOp BinOp.sub (Ren.t ρ 3) (Operand.tmp 141) (Operand.tmp 142) (Ren.t ρ 3))
  (Ren.t ρ 3) "zsortanyfunc.go:431" #[Edge.mk 0 Ground.data, Edge.mk 1 Ground.data] none,
  Oper.mk (some 20) (Op.assign (Operand.tmp 143)) (Ren.t ρ 3) "zsortanyfunc.go:431"
  #[Edge.mk 2 Ground.data, Edge.mk 0 Ground.phase, Edge.mk 1 Ground.phase,
  Edge.mk 2 Ground.phase]
  none]
  false)
  (Code.region 29
  #[Oper.mk (some 144) (Op.move (Operand.tmp 18)) (Ren.t ρ 3) "zsortanyfunc.go:432" #[] none,
  Oper.mk (some 21) (Op.assign (Operand.tmp 144)) (Ren.t ρ 3) "zsortanyfunc.go:432"
  #[Edge.mk 0 Ground.data, Edge.mk 0 Ground.phase] none]
  false))
  (Code.seq
  (Code.region 30
  #[Oper.mk (some 145) (Op.move (Operand.tmp 1)) (Ren.t ρ 3) "zsortanyfunc.go:434" #[] none,
  Oper.mk (some 20) (Op.assign (Operand.tmp 145)) (Ren.t ρ 3) "zsortanyfunc.go:434"
  #[Edge.mk 0 Ground.data, Edge.mk 0 Ground.phase] none]
  false)
  (Code.region 31
  #[Oper.mk (some 146) (Op.move (Operand.tmp 2)) (Ren.t ρ 3) "zsortanyfunc.go:435" #[] none,
  Oper.mk (some 21) (Op.assign (Operand.tmp 146)) (Ren.t ρ 3) "zsortanyfunc.go:435"
  #[Edge.mk 0 Ground.data, Edge.mk 0 Ground.phase] none]
  false))))
  (Code.seq
  (Code.region 32
  #[Oper.mk (some 147) (Op.move (Operand.tmp 19)) (Ren.t ρ 3) "zsortanyfunc.go:437" #[] none,
  Oper.mk (some 148)
  (Op.binOp BinOp.sub (Ren.t ρ 3) (Operand.tmp 147) (Operand.const (Value.int IntKind.i64 1))
  (Ren.t ρ 3))
  (Ren.t ρ 3) "zsortanyfunc.go:437" #[Edge.mk 0 Ground.data] none,
  Oper.mk (some 22) (Op.assign (Operand.tmp 148)) (Ren.t ρ 3) "zsortanyfunc.go:437"
  #[Edge.mk 1 Ground.data, Edge.mk 0 Ground.phase, Edge.mk 1 Ground.phase] none]
  false)
  (Code.seq
  (Code.block 8
  (Code.loop
  (Code.seq
  (Code.seq
  (Code.region 33
  #[Oper.mk (some 149) (Op.move (Operand.tmp 20)) (Ren.t ρ 3) "zsortanyfunc.go:439" #[]
  none,
  Oper.mk (some 150) (Op.move (Operand.tmp 21)) (Ren.t ρ 3) "zsortanyfunc.go:439" #[]
  none,
  Oper.mk (some 151)
  (Op.binOp BinOp.lss (Ren.t ρ 3) (Operand.tmp 149) (Operand.tmp 150) (Ren.t ρ 3))
  (Ren.t ρ 4) "zsortanyfunc.go:439" #[Edge.mk 0 Ground.data, Edge.mk 1 Ground.data]
  none]
  false)
  (Code.cond (Operand.tmp 151) Code.skip (Code.exit 8)))
  (Code.block 9
  (Code.seq
  (Code.region 34
  #[Oper.mk (some 152) (Op.move (Operand.tmp 20)) (Ren.t ρ 3) "zsortanyfunc.go:440" #[]
  none,
  Oper.mk (some 153) (Op.move (Operand.tmp 21)) (Ren.t ρ 3) "zsortanyfunc.go:440" #[]
  none,
  Oper.mk (some 154)
  (Op.binOp BinOp.add (Ren.t ρ 3) (Operand.tmp 152) (Operand.tmp 153) (Ren.t ρ 3))
  (Ren.t ρ 3) "zsortanyfunc.go:440" #[Edge.mk 0 Ground.data, Edge.mk 1 Ground.data]
  none,
  Oper.mk (some 155) (Op.convert (Ren.t ρ 3) (Ren.t ρ 37) (Operand.tmp 154))
  (Ren.t ρ 37) "zsortanyfunc.go:440" #[Edge.mk 2 Ground.data] none,
  Oper.mk (some 156)
  (Op.binOp BinOp.shr (Ren.t ρ 37) (Operand.tmp 155)
  (Operand.const (Value.int IntKind.u64 1)) (Ren.t ρ 37))
  (Ren.t ρ 37) "zsortanyfunc.go:440" #[Edge.mk 3 Ground.data] none,
  Oper.mk (some 157) (Op.convert (Ren.t ρ 37) (Ren.t ρ 3) (Operand.tmp 156))
  (Ren.t ρ 3) "zsortanyfunc.go:440" #[Edge.mk 4 Ground.data] none,
  Oper.mk (some 23) (Op.assign (Operand.tmp 157)) (Ren.t ρ 3) "zsortanyfunc.go:440"
  #[Edge.mk 5 Ground.data, Edge.mk 0 Ground.phase, Edge.mk 1 Ground.phase,
  Edge.mk 2 Ground.phase, Edge.mk 3 Ground.phase, Edge.mk 4 Ground.phase,
  Edge.mk 5 Ground.phase]
  none]
  false)
  (Code.seq
  (Code.region 35
  #[Oper.mk (some 158) (Op.move (Operand.tmp 4)) (Ren.t ρ 79) "zsortanyfunc.go:441"
  #[] none,
  Oper.mk (some 159) (Op.move (Operand.tmp 0)) (Ren.t ρ 28) "zsortanyfunc.go:441"
  #[] none,
  Oper.mk (some 160) (Op.move (Operand.tmp 22)) (Ren.t ρ 3) "zsortanyfunc.go:441"
  #[] none,
  Oper.mk (some 161) (Op.move (Operand.tmp 23)) (Ren.t ρ 3) "zsortanyfunc.go:441"
  #[] none,
  Oper.mk (some 162)
  (Op.binOp BinOp.sub (Ren.t ρ 3) (Operand.tmp 160) (Operand.tmp 161) (Ren.t ρ 3))
  (Ren.t ρ 3) "zsortanyfunc.go:441"
  #[Edge.mk 2 Ground.data, Edge.mk 3 Ground.data] none,
  Oper.mk (some 163) (Op.indexAddr (Ren.t ρ 28) (Operand.tmp 159) (Operand.tmp 162))
  (Ren.t ρ 0) "zsortanyfunc.go:441"
  #[Edge.mk 1 Ground.data, Edge.mk 4 Ground.data] none,
  Oper.mk (some 164) (Op.load (Ren.t ρ 35) (Operand.tmp 163)) (Ren.t ρ 35)
  "zsortanyfunc.go:441" #[Edge.mk 5 Ground.data] none,
  Oper.mk (some 165) (Op.move (Operand.tmp 0)) (Ren.t ρ 28) "zsortanyfunc.go:441"
  #[] none,
  Oper.mk (some 166) (Op.move (Operand.tmp 23)) (Ren.t ρ 3) "zsortanyfunc.go:441"
  #[] none,
  Oper.mk (some 167) (Op.indexAddr (Ren.t ρ 28) (Operand.tmp 165) (Operand.tmp 166))
  (Ren.t ρ 0) "zsortanyfunc.go:441"
  #[Edge.mk 7 Ground.data, Edge.mk 8 Ground.data] none,
  Oper.mk (some 168) (Op.load (Ren.t ρ 35) (Operand.tmp 167)) (Ren.t ρ 35)
  "zsortanyfunc.go:441" #[Edge.mk 9 Ground.data] none,
  Oper.mk (some 169)
  (Op.call
  (Call.mk (Callee.value (Operand.tmp 158)) #[Operand.tmp 164, Operand.tmp 168]
  #[Ren.t ρ 35, Ren.t ρ 35]))
  (Ren.t ρ 3) "zsortanyfunc.go:441"
  #[Edge.mk 0 Ground.data, Edge.mk 6 Ground.data, Edge.mk 10 Ground.data] none,
  Oper.mk (some 170)
  (Op.binOp BinOp.lss (Ren.t ρ 3) (Operand.tmp 169)
  (Operand.const (Value.int IntKind.i64 0)) (Ren.t ρ 3))
  (Ren.t ρ 4) "zsortanyfunc.go:441" #[Edge.mk 11 Ground.data] none,
  Oper.mk (some 171) (Op.unOp UnOp.not (Ren.t ρ 4) (Operand.tmp 170)) (Ren.t ρ 4)
  "zsortanyfunc.go:441" #[Edge.mk 12 Ground.data] none]
  true)
  (Code.cond (Operand.tmp 171)
  (Code.region 36
  #[Oper.mk (some 172) (Op.move (Operand.tmp 23)) (Ren.t ρ 3) "zsortanyfunc.go:442"
  #[] none,
  Oper.mk (some 173)
  (Op.binOp BinOp.add (Ren.t ρ 3) (Operand.tmp 172)
  (Operand.const (Value.int IntKind.i64 1)) (Ren.t ρ 3))
  (Ren.t ρ 3) "zsortanyfunc.go:442" #[Edge.mk 0 Ground.data] none,
  Oper.mk (some 20) (Op.assign (Operand.tmp 173)) (Ren.t ρ 3)
  "zsortanyfunc.go:442"
  #[Edge.mk 1 Ground.data, Edge.mk 0 Ground.phase, Edge.mk 1 Ground.phase] none]
  false)
  (Code.region 37
  #[Oper.mk (some 174) (Op.move (Operand.tmp 23)) (Ren.t ρ 3) "zsortanyfunc.go:444"
  #[] none,
  Oper.mk (some 21) (Op.assign (Operand.tmp 174)) (Ren.t ρ 3)
  "zsortanyfunc.go:444" #[Edge.mk 0 Ground.data, Edge.mk 0 Ground.phase] none]
  false))))))))
  (Code.seq
  (Code.region 38
  #[Oper.mk (some 175) (Op.move (Operand.tmp 19)) (Ren.t ρ 3) "zsortanyfunc.go:448" #[] none,
  Oper.mk (some 176) (Op.move (Operand.tmp 20)) (Ren.t ρ 3) "zsortanyfunc.go:448" #[] none,
  Oper.mk (some 177)
  (Op.binOp BinOp.sub (Ren.t ρ 3) (Operand.tmp 175) (Operand.tmp 176) (Ren.t ρ 3))
  (Ren.t ρ 3) "zsortanyfunc.go:448" #[Edge.mk 0 Ground.data, Edge.mk 1 Ground.data] none,
  Oper.mk (some 24) (Op.assign (Operand.tmp 177)) (Ren.t ρ 3) "zsortanyfunc.go:448"
  #[Edge.mk 2 Ground.data, Edge.mk 0 Ground.phase, Edge.mk 1 Ground.phase,
  Edge.mk 2 Ground.phase]
  none]
  false)
  (Code.seq
  (Code.seq
  (Code.region 39
  #[Oper.mk (some 178) (Op.move (Operand.tmp 20)) (Ren.t ρ 3) "zsortanyfunc.go:449" #[]
  none,
  Oper.mk (some 179) (Op.move (Operand.tmp 2)) (Ren.t ρ 3) "zsortanyfunc.go:449" #[] none,
  Oper.mk (some 180)
  (Op.binOp BinOp.lss (Ren.t ρ 3) (Operand.tmp 178) (Operand.tmp 179) (Ren.t ρ 3))
  (Ren.t ρ 4) "zsortanyfunc.go:449" #[Edge.mk 0 Ground.data, Edge.mk 1 Ground.data]
  none,
  Oper.mk (some 181) (Op.move (Operand.tmp 180)) (Ren.t ρ 4) "zsortanyfunc.go:449"
  #[Edge.mk 2 Ground.data] none,
  Oper.mk (some 182) (Op.move (Operand.tmp 2)) (Ren.t ρ 3) "zsortanyfunc.go:449"
  #[Edge.mk 3 Ground.guard] (some (3, true)),
  Oper.mk (some 183) (Op.move (Operand.tmp 24)) (Ren.t ρ 3) "zsortanyfunc.go:449"
  #[Edge.mk 3 Ground.guard] (some (3, true)),
  Oper.mk (some 184)
  (Op.binOp BinOp.lss (Ren.t ρ 3) (Operand.tmp 182) (Operand.tmp 183) (Ren.t ρ 3))
  (Ren.t ρ 4) "zsortanyfunc.go:449"
  #[Edge.mk 4 Ground.data, Edge.mk 5 Ground.data, Edge.mk 3 Ground.guard]
  (some (3, true)),
  Oper.mk (some 185)
  (Op.pick (Operand.tmp 181) (Operand.tmp 184) (Operand.const (Value.bool false)))
  (Ren.t ρ 4) "zsortanyfunc.go:449" #[Edge.mk 3 Ground.data, Edge.mk 6 Ground.data]
  none]
  false)
  (Code.cond (Operand.tmp 185)
  (Code.region 40
  #[Oper.mk (some 186) (Op.move (Operand.tmp 0)) (Ren.t ρ 28) "zsortanyfunc.go:450" #[]
  none,
  Oper.mk (some 187) (Op.move (Operand.tmp 20)) (Ren.t ρ 3) "zsortanyfunc.go:450" #[]
  none,
  Oper.mk (some 188) (Op.move (Operand.tmp 2)) (Ren.t ρ 3) "zsortanyfunc.go:450" #[]
  none,
  Oper.mk (some 189) (Op.move (Operand.tmp 24)) (Ren.t ρ 3) "zsortanyfunc.go:450" #[]
  none,
  Oper.mk (some 190) (Op.move (Operand.tmp 4)) (Ren.t ρ 79) "zsortanyfunc.go:450" #[]
  none,
  Oper.mk (some 191)
  (Op.call
  (Call.mk (Callee.value (Operand.func (Ren.f ρ 80)))
  #[Operand.tmp 186, Operand.tmp 187, Operand.tmp 188, Operand.tmp 189,
  Operand.tmp 190]
  #[Ren.t ρ 28, Ren.t ρ 3, Ren.t ρ 3, Ren.t ρ 3, Ren.t ρ 79]))
  (Ren.t ρ 0) "zsortanyfunc.go:450"
  #[Edge.mk 0 Ground.data, Edge.mk 1 Ground.data, Edge.mk 2 Ground.data,
  Edge.mk 3 Ground.data, Edge.mk 4 Ground.data]
  none]
  false)
  Code.skip))
  (Code.seq
  (Code.seq
  (Code.region 41
  #[Oper.mk (some 192) (Op.move (Operand.tmp 1)) (Ren.t ρ 3) "zsortanyfunc.go:452" #[]
  none,
  Oper.mk (some 193) (Op.move (Operand.tmp 20)) (Ren.t ρ 3) "zsortanyfunc.go:452" #[]
  none,
  Oper.mk (some 194)
  (Op.binOp BinOp.lss (Ren.t ρ 3) (Operand.tmp 192) (Operand.tmp 193) (Ren.t ρ 3))
  (Ren.t ρ 4) "zsortanyfunc.go:452" #[Edge.mk 0 Ground.data, Edge.mk 1 Ground.data]
  none,
  Oper.mk (some 195) (Op.move (Operand.tmp 194)) (Ren.t ρ 4) "zsortanyfunc.go:452"
  #[Edge.mk 2 Ground.data] none,
  Oper.mk (some 196) (Op.move (Operand.tmp 20)) (Ren.t ρ 3) "zsortanyfunc.go:452"
  #[Edge.mk 3 Ground.guard] (some (3, true)),
  Oper.mk (some 197) (Op.move (Operand.tmp 18)) (Ren.t ρ 3) "zsortanyfunc.go:452"
  #[Edge.mk 3 Ground.guard] (some (3, true)),
  Oper.mk (some 198)
  (Op.binOp BinOp.lss (Ren.t ρ 3) (Operand.tmp 196) (Operand.tmp 197) (Ren.t ρ 3))
  (Ren.t ρ 4) "zsortanyfunc.go:452"
  #[Edge.mk 4 Ground.data, Edge.mk 5 Ground.data, Edge.mk 3 Ground.guard]
  (some (3, true)),
  Oper.mk (some 199)
  (Op.pick (Operand.tmp 195) (Operand.tmp 198) (Operand.const (Value.bool false)))
  (Ren.t ρ 4) "zsortanyfunc.go:452" #[Edge.mk 3 Ground.data, Edge.mk 6 Ground.data]
  none]
  false)
  (Code.cond (Operand.tmp 199)
  (Code.region 42
  #[Oper.mk (some 200) (Op.move (Operand.tmp 0)) (Ren.t ρ 28) "zsortanyfunc.go:453" #[]
  none,
  Oper.mk (some 201) (Op.move (Operand.tmp 1)) (Ren.t ρ 3) "zsortanyfunc.go:453" #[]
  none,
  Oper.mk (some 202) (Op.move (Operand.tmp 20)) (Ren.t ρ 3) "zsortanyfunc.go:453" #[]
  none,
  Oper.mk (some 203) (Op.move (Operand.tmp 18)) (Ren.t ρ 3) "zsortanyfunc.go:453" #[]
  none,
  Oper.mk (some 204) (Op.move (Operand.tmp 4)) (Ren.t ρ 79) "zsortanyfunc.go:453" #[]
  none,
  Oper.mk (some 205)
  (Op.call
  (Call.mk (Callee.value (Operand.func (Ren.f ρ 72)))
  #[Operand.tmp 200, Operand.tmp 201, Operand.tmp 202, Operand.tmp 203,
  Operand.tmp 204]
  #[Ren.t ρ 28, Ren.t ρ 3, Ren.t ρ 3, Ren.t ρ 3, Ren.t ρ 79]))
  (Ren.t ρ 0) "zsortanyfunc.go:453"
  #[Edge.mk 0 Ground.data, Edge.mk 1 Ground.data, Edge.mk 2 Ground.data,
  Edge.mk 3 Ground.data, Edge.mk 4 Ground.data]
  none]
  false)
  Code.skip))
  (Code.seq
  (Code.region 43
  #[Oper.mk (some 206) (Op.move (Operand.tmp 18)) (Ren.t ρ 3) "zsortanyfunc.go:455" #[]
  none,
  Oper.mk (some 207) (Op.move (Operand.tmp 24)) (Ren.t ρ 3) "zsortanyfunc.go:455" #[]
  none,
  Oper.mk (some 208)
  (Op.binOp BinOp.lss (Ren.t ρ 3) (Operand.tmp 206) (Operand.tmp 207) (Ren.t ρ 3))
  (Ren.t ρ 4) "zsortanyfunc.go:455" #[Edge.mk 0 Ground.data, Edge.mk 1 Ground.data]
  none,
  Oper.mk (some 209) (Op.move (Operand.tmp 208)) (Ren.t ρ 4) "zsortanyfunc.go:455"
  #[Edge.mk 2 Ground.data] none,
  Oper.mk (some 210) (Op.move (Operand.tmp 24)) (Ren.t ρ 3) "zsortanyfunc.go:455"
  #[Edge.mk 3 Ground.guard] (some (3, true)),
  Oper.mk (some 211) (Op.move (Operand.tmp 3)) (Ren.t ρ 3) "zsortanyfunc.go:455"
  #[Edge.mk 3 Ground.guard] (some (3, true)),
  Oper.mk (some 212)
  (Op.binOp BinOp.lss (Ren.t ρ 3) (Operand.tmp 210) (Operand.tmp 211) (Ren.t ρ 3))
  (Ren.t ρ 4) "zsortanyfunc.go:455"
  #[Edge.mk 4 Ground.data, Edge.mk 5 Ground.data, Edge.mk 3 Ground.guard]
  (some (3, true)),
  Oper.mk (some 213)
  (Op.pick (Operand.tmp 209) (Operand.tmp 212) (Operand.const (Value.bool false)))
  (Ren.t ρ 4) "zsortanyfunc.go:455" #[Edge.mk 3 Ground.data, Edge.mk 6 Ground.data]
  none]
  false)
  (Code.cond (Operand.tmp 213)
  (Code.region 44
  #[Oper.mk (some 214) (Op.move (Operand.tmp 0)) (Ren.t ρ 28) "zsortanyfunc.go:456" #[]
  none,
  Oper.mk (some 215) (Op.move (Operand.tmp 18)) (Ren.t ρ 3) "zsortanyfunc.go:456" #[]
  none,
  Oper.mk (some 216) (Op.move (Operand.tmp 24)) (Ren.t ρ 3) "zsortanyfunc.go:456" #[]
  none,
  Oper.mk (some 217) (Op.move (Operand.tmp 3)) (Ren.t ρ 3) "zsortanyfunc.go:456" #[]
  none,
  Oper.mk (some 218) (Op.move (Operand.tmp 4)) (Ren.t ρ 79) "zsortanyfunc.go:456" #[]
  none,
  Oper.mk (some 219)
  (Op.call
  (Call.mk (Callee.value (Operand.func (Ren.f ρ 72)))
  #[Operand.tmp 214, Operand.tmp 215, Operand.tmp 216, Operand.tmp 217,
  Operand.tmp 218]
  #[Ren.t ρ 28, Ren.t ρ 3, Ren.t ρ 3, Ren.t ρ 3, Ren.t ρ 79]))
  (Ren.t ρ 0) "zsortanyfunc.go:456"
  #[Edge.mk 0 Ground.data, Edge.mk 1 Ground.data, Edge.mk 2 Ground.data,
  Edge.mk 3 Ground.data, Edge.mk 4 Ground.data]
  none]
  false)
  Code.skip))))))))))))))
  false false "slices/zsortanyfunc.go" 458 none
  [Departure.mixedOrders, Departure.lateStoresUnsure, Departure.lateStores]
  (List.toArray
  (List.append
  (List.append
  ["data", "a", "m", "b", "cmp", "data", "a", "m", "b", "cmp", "i", "j", "h", "k", "i", "j", "h", "k", "mid",
  "n", "start", "r", "p", "c", "end", "", "", "", "", "", "", "", "", "", "", "", "", "", "", "", "", "", "",
  "", "", "", "", "", "", "", "", "", "", "", ""]
  ["", "", "", "", "", "", "", "", "", "", "", "", "", "", "", "", "", "", "", "", "", "", "", "", "", "", "",
  "", "", "", "", "", "", "", "", "", "", "", "", "", "", "", "", "", "", "", "", "", "", "", "", "", "", "",
  ""])
  (List.append
  ["", "", "", "", "", "", "", "", "", "", "", "", "", "", "", "", "", "", "", "", "", "", "", "", "", "", "",
  "", "", "", "", "", "", "", "", "", "", "", "", "", "", "", "", "", "", "", "", "", "", "", "", "", "", "",
  ""]
  ["", "", "", "", "", "", "", "", "", "", "", "", "", "", "", "", "", "", "", "", "", "", "", "", "", "", "",
  "", "", "", "", "", "", "", "", "", "", "", "", "", "", "", "", "", "", "", "", "", "", "", "", "", "", "",
  ""])))
def stB_stb (ρ : Ren) : Func :=
 Func.mk "slices.stableCmpFunc[rick/api.Rename]" "slices.stableCmpFunc" #[Ren.t ρ 35]
  #[Ren.t ρ 28, Ren.t ρ 3, Ren.t ρ 79] #[] 0 63 #[]
  (some
  (Code.seq
  (Code.region 0
  #[Oper.mk (some 6) (Op.assign (Operand.const (Value.int IntKind.i64 20))) (Ren.t ρ 3) "zsortanyfunc.go:336"
  #[] none]
  false)
  (Code.seq
  (Code.region 1
  #[Oper.mk (some 10) (Op.move (Operand.tmp 6)) (Ren.t ρ 3) "zsortanyfunc.go:337"
  #[Edge.mk 1 (Ground.gcOnly Departure.lateStores)] none,
  Oper.mk (some 7) (Op.assign (Operand.const (Value.int IntKind.i64 0))) (Ren.t ρ 3) "zsortanyfunc.go:337"
  #[Edge.mk 0 (Ground.textOnly Departure.lateStores)] none,
  Oper.mk (some 8) (Op.assign (Operand.tmp 10)) (Ren.t ρ 3) "zsortanyfunc.go:337"
  #[Edge.mk 0 Ground.data, Edge.mk 1 Ground.chain, Edge.mk 0 Ground.phase, Edge.mk 1 Ground.phase] none]
  false)
  (Code.seq
  (Code.block 0
  (Code.loop
  (Code.seq
  (Code.seq
  (Code.region 2
  #[Oper.mk (some 11) (Op.move (Operand.tmp 8)) (Ren.t ρ 3) "zsortanyfunc.go:338" #[] none,
  Oper.mk (some 12) (Op.move (Operand.tmp 1)) (Ren.t ρ 3) "zsortanyfunc.go:338" #[] none,
  Oper.mk (some 13) (Op.binOp BinOp.leq (Ren.t ρ 3) (Operand.tmp 11) (Operand.tmp 12) (Ren.t ρ 3))
  (Ren.t ρ 4) "zsortanyfunc.go:338" #[Edge.mk 0 Ground.data, Edge.mk 1 Ground.data] none]
  false)
  (Code.cond (Operand.tmp 13) Code.skip (Code.exit 0)))
  (Code.block 1
  (Code.seq
  (Code.region 3
  #[Oper.mk (some 14) (Op.move (Operand.tmp 0)) (Ren.t ρ 28) "zsortanyfunc.go:339" #[] none,
  Oper.mk (some 15) (Op.move (Operand.tmp 7)) (Ren.t ρ 3) "zsortanyfunc.go:339" #[] none,
  Oper.mk (some 16) (Op.move (Operand.tmp 8)) (Ren.t ρ 3) "zsortanyfunc.go:339" #[] none,
  Oper.mk (some 17) (Op.move (Operand.tmp 2)) (Ren.t ρ 79) "zsortanyfunc.go:339" #[] none,
  Oper.mk (some 18)
  (Op.call
  (Call.mk (Callee.value (Operand.func (Ren.f ρ 71)))
  #[Operand.tmp 14, Operand.tmp 15, Operand.tmp 16, Operand.tmp 17]
  #[Ren.t ρ 28, Ren.t ρ 3, Ren.t ρ 3, Ren.t ρ 79]))
  (Ren.t ρ 0) "zsortanyfunc.go:339"
  #[Edge.mk 0 Ground.data, Edge.mk 1 Ground.data, Edge.mk 2 Ground.data,
  Edge.mk 3 Ground.data]
  none]
  false)
  (Code.seq
  (Code.region 4
  #[Oper.mk (some 19) (Op.move (Operand.tmp 8)) (Ren.t ρ 3) "zsortanyfunc.go:340" #[] none,
  Oper.mk (some 7) (Op.assign (Operand.tmp 19)) (Ren.t ρ 3) "zsortanyfunc.go:340"
  #[Edge.mk 0 Ground.data, Edge.mk 0 Ground.phase] none]
  false)
  (Code.region 5
  #[Oper.mk (some 20) (Op.move (Operand.tmp 8)) (Ren.t ρ 3) "zsortanyfunc.go:341" #[] none,
  Oper.mk (some 21) (Op.move (Operand.tmp 6)) (Ren.t ρ 3) "zsortanyfunc.go:341" #[] none,
  Oper.mk (some 22)
  (Op.binOp BinOp.add (Ren.t ρ 3) (Operand.tmp 20) (Operand.tmp 21) (Ren.t ρ 3)) (Ren.t ρ 3)
  "zsortanyfunc.go:341" #[Edge.mk 0 Ground.data, Edge.mk 1 Ground.data] none,
  Oper.mk (some 8) (Op.assign (Operand.tmp 22)) (Ren.t ρ 3) "zsortanyfunc.go:341"
  #[Edge.mk 2 Ground.data, Edge.mk 0 Ground.phase, Edge.mk 1 Ground.phase,
  Edge.mk 2 Ground.phase]
  none]
  false)))))))
  (Code.seq
  (Code.region 6
  #[Oper.mk (some 23) (Op.move (Operand.tmp 0)) (Ren.t ρ 28) "zsortanyfunc.go:343" #[] none,
  Oper.mk (some 24) (Op.move (Operand.tmp 7)) (Ren.t ρ 3) "zsortanyfunc.go:343" #[] none,
  Oper.mk (some 25) (Op.move (Operand.tmp 1)) (Ren.t ρ 3) "zsortanyfunc.go:343" #[] none,
  Oper.mk (some 26) (Op.move (Operand.tmp 2)) (Ren.t ρ 79) "zsortanyfunc.go:343" #[] none,
  Oper.mk (some 27)
  (Op.call
  (Call.mk (Callee.value (Operand.func (Ren.f ρ 71)))
  #[Operand.tmp 23, Operand.tmp 24, Operand.tmp 25, Operand.tmp 26]
  #[Ren.t ρ 28, Ren.t ρ 3, Ren.t ρ 3, Ren.t ρ 79]))
  (Ren.t ρ 0) "zsortanyfunc.go:343"
  #[Edge.mk 0 Ground.data, Edge.mk 1 Ground.data, Edge.mk 2 Ground.data, Edge.mk 3 Ground.data] none]
  false)
  (Code.block 2
  (Code.loop
  (Code.seq
  (Code.seq
  (Code.region 7
  #[Oper.mk (some 28) (Op.move (Operand.tmp 6)) (Ren.t ρ 3) "zsortanyfunc.go:345" #[] none,
  Oper.mk (some 29) (Op.move (Operand.tmp 1)) (Ren.t ρ 3) "zsortanyfunc.go:345" #[] none,
  Oper.mk (some 30)
  (Op.binOp BinOp.lss (Ren.t ρ 3) (Operand.tmp 28) (Operand.tmp 29) (Ren.t ρ 3)) (Ren.t ρ 4)
  "zsortanyfunc.go:345" #[Edge.mk 0 Ground.data, Edge.mk 1 Ground.data] none]
  false)
  (Code.cond (Operand.tmp 30) Code.skip (Code.exit 2)))
  (Code.block 3
  (Code.seq
  (Code.region 8
  #[Oper.mk (some 31) (Op.move (Operand.tmp 6)) (Ren.t ρ 3) "zsortanyfunc.go:346"
  #[Edge.mk 2 (Ground.gcOnly Departure.lateStores)] none,
  Oper.mk (some 32)
  (Op.binOp BinOp.mul (Ren.t ρ 3) (Operand.const (Value.int IntKind.i64 2)) (Operand.tmp 31)
  (Ren.t ρ 3))
  (Ren.t ρ 3) "zsortanyfunc.go:346"
  #[Edge.mk 0 Ground.data, Edge.mk 2 (Ground.gcOnly Departure.lateStores)] none,
  Oper.mk (some 7) (Op.assign (Operand.const (Value.int IntKind.i64 0))) (Ren.t ρ 3)
  "zsortanyfunc.go:346"
  #[Edge.mk 0 (Ground.textOnly Departure.lateStores),
  Edge.mk 1 (Ground.textOnly Departure.lateStores)]
  none,
  Oper.mk (some 8) (Op.assign (Operand.tmp 32)) (Ren.t ρ 3) "zsortanyfunc.go:346"
  #[Edge.mk 1 Ground.data, Edge.mk 2 Ground.chain, Edge.mk 0 Ground.phase,
  Edge.mk 1 Ground.phase, Edge.mk 2 Ground.phase]
  none]
  false)
  (Code.seq
  (Code.block 4
  (Code.loop
  (Code.seq
  (Code.seq
  (Code.region 9
  #[Oper.mk (some 33) (Op.move (Operand.tmp 8)) (Ren.t ρ 3) "zsortanyfunc.go:347" #[]
  none,
  Oper.mk (some 34) (Op.move (Operand.tmp 1)) (Ren.t ρ 3) "zsortanyfunc.go:347" #[]
  none,
  Oper.mk (some 35)
  (Op.binOp BinOp.leq (Ren.t ρ 3) (Operand.tmp 33) (Operand.tmp 34) (Ren.t ρ 3))
  (Ren.t ρ 4) "zsortanyfunc.go:347"
  #[Edge.mk 0 Ground.data, Edge.mk 1 Ground.data] none]
  false)
  (Code.cond (Operand.tmp 35) Code.skip (Code.exit 4)))
  (Code.block 5
  (Code.seq
  (Code.region 10
  #[Oper.mk (some 36) (Op.move (Operand.tmp 0)) (Ren.t ρ 28) "zsortanyfunc.go:348"
  #[] none,
  Oper.mk (some 37) (Op.move (Operand.tmp 7)) (Ren.t ρ 3) "zsortanyfunc.go:348"
  #[] none,
  Oper.mk (some 38) (Op.move (Operand.tmp 7)) (Ren.t ρ 3) "zsortanyfunc.go:348"
  #[] none,
  Oper.mk (some 39) (Op.move (Operand.tmp 6)) (Ren.t ρ 3) "zsortanyfunc.go:348"
  #[] none,
  Oper.mk (some 40)
  (Op.binOp BinOp.add (Ren.t ρ 3) (Operand.tmp 38) (Operand.tmp 39) (Ren.t ρ 3))
  (Ren.t ρ 3) "zsortanyfunc.go:348"
  #[Edge.mk 2 Ground.data, Edge.mk 3 Ground.data] none,
  Oper.mk (some 41) (Op.move (Operand.tmp 8)) (Ren.t ρ 3) "zsortanyfunc.go:348"
  #[] none,
  Oper.mk (some 42) (Op.move (Operand.tmp 2)) (Ren.t ρ 79) "zsortanyfunc.go:348"
  #[] none,
  Oper.mk (some 43)
  (Op.call
  (Call.mk (Callee.value (Operand.func (Ren.f ρ 72)))
  #[Operand.tmp 36, Operand.tmp 37, Operand.tmp 40, Operand.tmp 41,
  Operand.tmp 42]
  #[Ren.t ρ 28, Ren.t ρ 3, Ren.t ρ 3, Ren.t ρ 3, Ren.t ρ 79]))
  (Ren.t ρ 0) "zsortanyfunc.go:348"
  #[Edge.mk 0 Ground.data, Edge.mk 1 Ground.data, Edge.mk 4 Ground.data,
  Edge.mk 5 Ground.data, Edge.mk 6 Ground.data]
  none]
  false)
  (Code.seq
  (Code.region 11
  #[Oper.mk (some 44) (Op.move (Operand.tmp 8)) (Ren.t ρ 3) "zsortanyfunc.go:349"
  #[] none,
  Oper.mk (some 7) (Op.assign (Operand.tmp 44)) (Ren.t ρ 3)
  "zsortanyfunc.go:349" #[Edge.mk 0 Ground.data, Edge.mk 0 Ground.phase] none]
  false)
  (Code.region 12
  #[Oper.mk (some 45) (Op.move (Operand.tmp 8)) (Ren.t ρ 3) "zsortanyfunc.go:350"
  #[] none,
  Oper.mk (some 46) (Op.move (Operand.tmp 6)) (Ren.t ρ 3) "zsortanyfunc.go:350"
  #[] none,
  Oper.mk (some 47)
  (Op.binOp BinOp.mul (Ren.t ρ 3) (Operand.const (Value.int IntKind.i64 2))
  (Operand.tmp 46) (Ren.t ρ 3))
  (Ren.t ρ 3) "zsortanyfunc.go:350" #[Edge.mk 1 Ground.data] none,
  Oper.mk (some 48)
  (Op.binOp BinOp.add (Ren.t ρ 3) (Operand.tmp 45) (Operand.tmp 47)
  (Ren.t ρ 3))
  (Ren.t ρ 3) "zsortanyfunc.go:350"
  #[Edge.mk 0 Ground.data, Edge.mk 2 Ground.data] none,
  Oper.mk (some 8) (Op.assign (Operand.tmp 48)) (Ren.t ρ 3)
  "zsortanyfunc.go:350"
  #[Edge.mk 3 Ground.data, Edge.mk 0 Ground.phase, Edge.mk 1 Ground.phase,
  Edge.mk 2 Ground.phase, Edge.mk 3 Ground.phase]
  none]
  false)))))))
  (Code.seq
  (Code.seq
  (Code.region 13
  #[Oper.mk (some 49) (Op.move (Operand.tmp 7)) (Ren.t ρ 3) "zsortanyfunc.go:352" #[]
  none,
  Oper.mk (some 50) (Op.move (Operand.tmp 6)) (Ren.t ρ 3) "zsortanyfunc.go:352" #[]
  none,
  Oper.mk (some 51)
  (Op.binOp BinOp.add (Ren.t ρ 3) (Operand.tmp 49) (Operand.tmp 50) (Ren.t ρ 3))
  (Ren.t ρ 3) "zsortanyfunc.go:352" #[Edge.mk 0 Ground.data, Edge.mk 1 Ground.data]
  none,
  Oper.mk (some 9) (Op.assign (Operand.tmp 51)) (Ren.t ρ 3) "zsortanyfunc.go:352"
  #[Edge.mk 2 Ground.data, Edge.mk 0 Ground.phase, Edge.mk 1 Ground.phase,
  Edge.mk 2 Ground.phase]
  none]
  false)
  (Code.seq
  (Code.region 14
  #[Oper.mk (some 52) (Op.move (Operand.tmp 9)) (Ren.t ρ 3) "zsortanyfunc.go:352" #[]
  none,
  Oper.mk (some 53) (Op.move (Operand.tmp 1)) (Ren.t ρ 3) "zsortanyfunc.go:352" #[]
  none,
  Oper.mk (some 54)
  (Op.binOp BinOp.lss (Ren.t ρ 3) (Operand.tmp 52) (Operand.tmp 53) (Ren.t ρ 3))
  (Ren.t ρ 4) "zsortanyfunc.go:352" #[Edge.mk 0 Ground.data, Edge.mk 1 Ground.data]
  none]
  false)
  (Code.cond (Operand.tmp 54)
  (Code.region 15
  #[Oper.mk (some 55) (Op.move (Operand.tmp 0)) (Ren.t ρ 28) "zsortanyfunc.go:353" #[]
  none,
  Oper.mk (some 56) (Op.move (Operand.tmp 7)) (Ren.t ρ 3) "zsortanyfunc.go:353" #[]
  none,
  Oper.mk (some 57) (Op.move (Operand.tmp 9)) (Ren.t ρ 3) "zsortanyfunc.go:353" #[]
  none,
  Oper.mk (some 58) (Op.move (Operand.tmp 1)) (Ren.t ρ 3) "zsortanyfunc.go:353" #[]
  none,
  Oper.mk (some 59) (Op.move (Operand.tmp 2)) (Ren.t ρ 79) "zsortanyfunc.go:353" #[]
  none,
  Oper.mk (some 60)
  (Op.call
  (Call.mk (Callee.value (Operand.func (Ren.f ρ 72)))
  #[Operand.tmp 55, Operand.tmp 56, Operand.tmp 57, Operand.tmp 58,
  Operand.tmp 59]
  #[Ren.t ρ 28, Ren.t ρ 3, Ren.t ρ 3, Ren.t ρ 3, Ren.t ρ 79]))
  (Ren.t ρ 0) "zsortanyfunc.go:353"
  #[Edge.mk 0 Ground.data, Edge.mk 1 Ground.data, Edge.mk 2 Ground.data,
  Edge.mk 3 Ground.data, Edge.mk 4 Ground.data]
  none]
  false)
  Code.skip)))
  (Code.region 16
  #[Oper.mk (some 61) (Op.move (Operand.tmp 6)) (Ren.t ρ 3) "zsortanyfunc.go:355" #[] none,
  Oper.mk (some 62)
  (Op.binOp BinOp.mul (Ren.t ρ 3) (Operand.tmp 61)
  (Operand.const (Value.int IntKind.i64 2)) (Ren.t ρ 3))
  (Ren.t ρ 3) "zsortanyfunc.go:355" #[Edge.mk 0 Ground.data] none,
  Oper.mk (some 6) (Op.assign (Operand.tmp 62)) (Ren.t ρ 3) "zsortanyfunc.go:355"
  #[Edge.mk 1 Ground.data, Edge.mk 0 Ground.phase, Edge.mk 1 Ground.phase] none]
  false)))))))))))))
  false false "slices/zsortanyfunc.go" 357 none [Departure.mixedOrders, Departure.lateStores]
  #["data", "n", "cmp", "data", "n", "cmp", "blockSize", "a", "b", "m", "", "", "", "", "", "", "", "", "", "", "",
  "", "", "", "", "", "", "", "", "", "", "", "", "", "", "", "", "", "", "", "", "", "", "", "", "", "", "", "",
  "", "", "", "", "", "", "", "", "", "", "", "", "", ""]
def stB_top (ρ : Ren) : Func :=
 Func.mk "slices.SortStableFunc[[]rick/api.Rename,rick/api.Rename]" "slices.SortStableFunc" #[Ren.t ρ 28, Ren.t ρ 35]
  #[Ren.t ρ 28, Ren.t ρ 79] #[] 0 9 #[]
  (some
  (Code.region 0
  #[Oper.mk (some 4) (Op.move (Operand.tmp 0)) (Ren.t ρ 28) "sort.go:38" #[] none,
  Oper.mk (some 5) (Op.move (Operand.tmp 0)) (Ren.t ρ 28) "sort.go:38" #[] none,
  Oper.mk (some 6) (Op.call (Call.mk (Callee.builtin Builtin.len) #[Operand.tmp 5] #[Ren.t ρ 28])) (Ren.t ρ 3)
  "sort.go:38" #[Edge.mk 1 Ground.data] none,
  Oper.mk (some 7) (Op.move (Operand.tmp 1)) (Ren.t ρ 79) "sort.go:38" #[] none,
  Oper.mk (some 8)
  (Op.call
  (Call.mk (Callee.value (Operand.func (Ren.f ρ 59))) #[Operand.tmp 4, Operand.tmp 6, Operand.tmp 7]
  #[Ren.t ρ 28, Ren.t ρ 3, Ren.t ρ 79]))
  (Ren.t ρ 0) "sort.go:38" #[Edge.mk 0 Ground.data, Edge.mk 2 Ground.data, Edge.mk 3 Ground.data] none]
  false))
  false false "slices/sort.go" 39 none [] #["x", "cmp", "x", "cmp", "", "", "", "", ""]
theorem stB_swr_ntmps (ρ : Ren) : (stB_swr ρ).ntmps = 38 := rfl
theorem stB_rot_ntmps (ρ : Ren) : (stB_rot ρ).ntmps = 58 := rfl
theorem stB_sym_ntmps (ρ : Ren) : (stB_sym ρ).ntmps = 220 := rfl
theorem stB_stb_ntmps (ρ : Ren) : (stB_stb ρ).ntmps = 63 := rfl
theorem stB_top_ntmps (ρ : Ren) : (stB_top ρ).ntmps = 9 := rfl
structure StL (P : Program) (ρ : Ren) : Prop where
  mixed : P.follows .mixedOrders = true
  f85 : Bears P (ρ.f 85) (stB_swr ρ)
  f80 : Bears P (ρ.f 80) (stB_rot ρ)
  f72 : Bears P (ρ.f 72) (stB_sym ρ)
  f59 : Bears P (ρ.f 59) (stB_stb ρ)
  f43 : Bears P (ρ.f 43) (stB_top ρ)
  t0 : P.underlying (ρ.t 0) = some (TypeDesc.tuple #[])
  a0 : ∀ w, (isAgg (ρ.t 0)).run P w = .ok false w
  z0 : ∀ w, (Go.sizeOf (ρ.t 0)).run P w = .ok 1 w
  v0 : ∀ w, (zeroValue (ρ.t 0)).run P w = .ok (Value.tuple #[]) w
  t3 : P.underlying (ρ.t 3) = some (TypeDesc.int IntKind.i64)
  a3 : ∀ w, (isAgg (ρ.t 3)).run P w = .ok false w
  z3 : ∀ w, (Go.sizeOf (ρ.t 3)).run P w = .ok 1 w
  v3 : ∀ w, (zeroValue (ρ.t 3)).run P w = .ok (Value.int IntKind.i64 0) w
  t4 : P.underlying (ρ.t 4) = some (TypeDesc.bool)
  a4 : ∀ w, (isAgg (ρ.t 4)).run P w = .ok false w
  z4 : ∀ w, (Go.sizeOf (ρ.t 4)).run P w = .ok 1 w
  v4 : ∀ w, (zeroValue (ρ.t 4)).run P w = .ok (Value.bool false) w
  t37 : P.underlying (ρ.t 37) = some (TypeDesc.int IntKind.u64)
  a37 : ∀ w, (isAgg (ρ.t 37)).run P w = .ok false w
  z37 : ∀ w, (Go.sizeOf (ρ.t 37)).run P w = .ok 1 w
  v37 : ∀ w, (zeroValue (ρ.t 37)).run P w = .ok (Value.int IntKind.u64 0) w
  t28 : P.underlying (ρ.t 28) = some (TypeDesc.slice (ρ.t 35))
  a28 : ∀ w, (isAgg (ρ.t 28)).run P w = .ok false w
  z28 : ∀ w, (Go.sizeOf (ρ.t 28)).run P w = .ok 1 w
  v28 : ∀ w, (zeroValue (ρ.t 28)).run P w = .ok (Value.slice none 0 0) w
  t79 : P.underlying (ρ.t 79) = some (TypeDesc.func #[ρ.t 35, ρ.t 35] #[ρ.t 3] false)
  a79 : ∀ w, (isAgg (ρ.t 79)).run P w = .ok false w
  z79 : ∀ w, (Go.sizeOf (ρ.t 79)).run P w = .ok 1 w
  v79 : ∀ w, (zeroValue (ρ.t 79)).run P w = .ok (Value.nilFunc) w
end Go.Proofs.YtbnafihigoekeaaGreatDoor

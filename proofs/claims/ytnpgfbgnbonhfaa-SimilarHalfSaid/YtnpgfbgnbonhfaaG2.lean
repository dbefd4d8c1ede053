/-
  The library's stable sort (slices.SortStableFunc and what it calls), as the translator prints it, over any numbering of functions and types. The library's stable sort as mathematics: its own steps, row for row; each is a rearrangement. The library's stable sort, walked over any program that bears it: swapRange, rotate, symMerge. The library's stable sort, walked over any program that bears it: stable and the top; at rows of the call's own. The library's stable sort at rows of the call's own. The library's stable sort is a rearrangement (mathematics). What is sorted already the library's stable sort leaves as it is (mathematics).
-/
import Derived.Shelf.SlSortCmp.KitK
import Derived.Sort.Lot0
import Derived.Sort.LotA
import Derived.Test.YtnpgfbgnbonhfaaLaw
import Derived.Sort.Walk0
import Derived.Deep.DeepCutAuto
import Derived.Deep.CutBlock
import Derived.Deep.CutRange
import Derived.WalkKit
import Derived.Laws.Shifts
import Derived.Lib.Walk
import Derived.Shelf.SlSortCmp.PivotK
import Derived.Sort.WalkB2
import Derived.Sort.WalkB12
import Derived.Deep.LoopGhost
import Derived.Test.YtnpgfbgnbonhfaaEnc
import Derived.Sort.OwnSorted
namespace Go.Proofs.Ytnpgfbgnbonhfaa
open Go.Shelf

def stB_swr (ρ : Ren) : Func :=
  Func.mk "slices.swapRangeCmpFunc[rick/api.Rename]" "slices.swapRangeCmpFunc" #[Ren.t ρ 35]
    #[Ren.t ρ 28, Ren.t ρ 3, Ren.t ρ 3, Ren.t ρ 3, Ren.t ρ 79] #[] 0 38 #[]
    (some
      (Code.seq
        (Code.region 0
          #[Oper.mk (some 10) (Op.assign (Operand.const (Value.int IntKind.i64 0))) (Ren.t ρ 3) "zsortanyfunc.go:330"
              #[] none]
          false)
        (Code.block 0
          (Code.loop
            (Code.seq
              (Code.seq
                (Code.region 1
                  #[Oper.mk (some 11) (Op.move (Operand.tmp 10)) (Ren.t ρ 3) "zsortanyfunc.go:330" #[] none,
                    Oper.mk (some 12) (Op.move (Operand.tmp 3)) (Ren.t ρ 3) "zsortanyfunc.go:330" #[] none,
                    Oper.mk (some 13) (Op.binOp BinOp.lss (Ren.t ρ 3) (Operand.tmp 11) (Operand.tmp 12) (Ren.t ρ 3))
                      (Ren.t ρ 4) "zsortanyfunc.go:330" #[Edge.mk 0 Ground.data, Edge.mk 1 Ground.data] none]
                  false)
                (Code.cond (Operand.tmp 13) Code.skip (Code.exit 0)))
              (Code.seq
                (Code.block 1
                  (Code.region 3
                    #[Oper.mk (some 16) (Op.move (Operand.tmp 0)) (Ren.t ρ 28) "zsortanyfunc.go:331" #[] none,
                      Oper.mk (some 17) (Op.move (Operand.tmp 1)) (Ren.t ρ 3) "zsortanyfunc.go:331" #[] none,
                      Oper.mk (some 18) (Op.move (Operand.tmp 10)) (Ren.t ρ 3) "zsortanyfunc.go:331" #[] none,
                      Oper.mk (some 19) (Op.binOp BinOp.add (Ren.t ρ 3) (Operand.tmp 17) (Operand.tmp 18) (Ren.t ρ 3))
                        (Ren.t ρ 3) "zsortanyfunc.go:331" #[Edge.mk 1 Ground.data, Edge.mk 2 Ground.data] none,
                      Oper.mk (some 20) (Op.move (Operand.tmp 0)) (Ren.t ρ 28) "zsortanyfunc.go:331"
                        #[Edge.mk 21 (Ground.gcOnly Departure.lateStores)] none,
                      Oper.mk (some 21) (Op.move (Operand.tmp 2)) (Ren.t ρ 3) "zsortanyfunc.go:331"
                        #[Edge.mk 21 (Ground.gcOnly Departure.lateStores)] none,
                      Oper.mk (some 22) (Op.move (Operand.tmp 10)) (Ren.t ρ 3) "zsortanyfunc.go:331"
                        #[Edge.mk 21 (Ground.gcOnly Departure.lateStores)] none,
                      Oper.mk (some 23) (Op.binOp BinOp.add (Ren.t ρ 3) (Operand.tmp 21) (Operand.tmp 22) (Ren.t ρ 3))
                        (Ren.t ρ 3) "zsortanyfunc.go:331"
                        #[Edge.mk 5 Ground.data, Edge.mk 6 Ground.data, Edge.mk 21 (Ground.gcOnly Departure.lateStores)]
                        none,
                      Oper.mk (some 24) (Op.move (Operand.tmp 0)) (Ren.t ρ 28) "zsortanyfunc.go:331" #[] none,
                      Oper.mk (some 25) (Op.move (Operand.tmp 2)) (Ren.t ρ 3) "zsortanyfunc.go:331" #[] none,
                      Oper.mk (some 26) (Op.move (Operand.tmp 10)) (Ren.t ρ 3) "zsortanyfunc.go:331" #[] none,
                      Oper.mk (some 27) (Op.binOp BinOp.add (Ren.t ρ 3) (Operand.tmp 25) (Operand.tmp 26) (Ren.t ρ 3))
                        (Ren.t ρ 3) "zsortanyfunc.go:331" #[Edge.mk 9 Ground.data, Edge.mk 10 Ground.data] none,
                      Oper.mk (some 28) (Op.indexAddr (Ren.t ρ 28) (Operand.tmp 24) (Operand.tmp 27)) (Ren.t ρ 0)
                        "zsortanyfunc.go:331" #[Edge.mk 8 Ground.data, Edge.mk 11 Ground.data] none,
                      Oper.mk (some 29) (Op.load (Ren.t ρ 35) (Operand.tmp 28)) (Ren.t ρ 35) "zsortanyfunc.go:331"
                        #[Edge.mk 12 Ground.data] none,
                      Oper.mk (some 30) (Op.move (Operand.tmp 0)) (Ren.t ρ 28) "zsortanyfunc.go:331" #[] none,
                      Oper.mk (some 31) (Op.move (Operand.tmp 1)) (Ren.t ρ 3) "zsortanyfunc.go:331" #[] none,
                      Oper.mk (some 32) (Op.move (Operand.tmp 10)) (Ren.t ρ 3) "zsortanyfunc.go:331" #[] none,
                      Oper.mk (some 33) (Op.binOp BinOp.add (Ren.t ρ 3) (Operand.tmp 31) (Operand.tmp 32) (Ren.t ρ 3))
                        (Ren.t ρ 3) "zsortanyfunc.go:331" #[Edge.mk 15 Ground.data, Edge.mk 16 Ground.data] none,
                      Oper.mk (some 34) (Op.indexAddr (Ren.t ρ 28) (Operand.tmp 30) (Operand.tmp 33)) (Ren.t ρ 0)
                        "zsortanyfunc.go:331" #[Edge.mk 14 Ground.data, Edge.mk 17 Ground.data] none,
                      Oper.mk (some 35) (Op.load (Ren.t ρ 35) (Operand.tmp 34)) (Ren.t ρ 35) "zsortanyfunc.go:331"
                        #[Edge.mk 18 Ground.data] none,
                      Oper.mk (some 36) (Op.indexAddr (Ren.t ρ 28) (Operand.tmp 16) (Operand.tmp 19)) (Ren.t ρ 0)
                        "zsortanyfunc.go:331"
                        #[Edge.mk 0 Ground.data, Edge.mk 3 Ground.data, Edge.mk 0 Ground.phase, Edge.mk 1 Ground.phase,
                          Edge.mk 2 Ground.phase, Edge.mk 3 Ground.phase,
                          Edge.mk 4 (Ground.textOnly Departure.lateStores),
                          Edge.mk 5 (Ground.textOnly Departure.lateStores),
                          Edge.mk 6 (Ground.textOnly Departure.lateStores),
                          Edge.mk 7 (Ground.textOnly Departure.lateStores), Edge.mk 8 Ground.phase,
                          Edge.mk 9 Ground.phase, Edge.mk 10 Ground.phase, Edge.mk 11 Ground.phase,
                          Edge.mk 12 Ground.phase, Edge.mk 13 Ground.phase,
                          Edge.mk 14 (Ground.textOnly Departure.lateStores),
                          Edge.mk 15 (Ground.textOnly Departure.lateStores),
                          Edge.mk 16 (Ground.textOnly Departure.lateStores),
                          Edge.mk 17 (Ground.textOnly Departure.lateStores),
                          Edge.mk 18 (Ground.textOnly Departure.lateStoresUnsure), Edge.mk 19 Ground.phase]
                        none,
                      Oper.mk none (Op.store (Ren.t ρ 35) (Operand.tmp 36) (Operand.tmp 29)) (Ren.t ρ 0)
                        "zsortanyfunc.go:331"
                        #[Edge.mk 20 Ground.data, Edge.mk 13 Ground.data, Edge.mk 0 Ground.phase,
                          Edge.mk 1 Ground.phase, Edge.mk 2 Ground.phase, Edge.mk 3 Ground.phase,
                          Edge.mk 4 (Ground.textOnly Departure.lateStores),
                          Edge.mk 5 (Ground.textOnly Departure.lateStores),
                          Edge.mk 6 (Ground.textOnly Departure.lateStores),
                          Edge.mk 7 (Ground.textOnly Departure.lateStores), Edge.mk 8 Ground.phase,
                          Edge.mk 9 Ground.phase, Edge.mk 10 Ground.phase, Edge.mk 11 Ground.phase,
                          Edge.mk 12 Ground.phase, Edge.mk 13 Ground.phase,
                          Edge.mk 14 (Ground.textOnly Departure.lateStores),
                          Edge.mk 15 (Ground.textOnly Departure.lateStores),
                          Edge.mk 16 (Ground.textOnly Departure.lateStores),
                          Edge.mk 17 (Ground.textOnly Departure.lateStores),
                          Edge.mk 18 (Ground.textOnly Departure.lateStoresUnsure), Edge.mk 19 Ground.phase]
                        none,
                      Oper.mk (some 37) (Op.indexAddr (Ren.t ρ 28) (Operand.tmp 20) (Operand.tmp 23)) (Ren.t ρ 0)
                        "zsortanyfunc.go:331"
                        #[Edge.mk 4 Ground.data, Edge.mk 7 Ground.data, Edge.mk 0 Ground.phase, Edge.mk 1 Ground.phase,
                          Edge.mk 2 Ground.phase, Edge.mk 3 Ground.phase, Edge.mk 4 Ground.phase,
                          Edge.mk 5 Ground.phase, Edge.mk 6 Ground.phase, Edge.mk 7 Ground.phase,
                          Edge.mk 8 Ground.phase, Edge.mk 9 Ground.phase, Edge.mk 10 Ground.phase,
                          Edge.mk 11 Ground.phase, Edge.mk 12 Ground.phase, Edge.mk 13 Ground.phase,
                          Edge.mk 14 Ground.phase, Edge.mk 15 Ground.phase, Edge.mk 16 Ground.phase,
                          Edge.mk 17 Ground.phase, Edge.mk 18 Ground.phase, Edge.mk 19 Ground.phase,
                          Edge.mk 20 Ground.phase, Edge.mk 21 Ground.phase]
                        none,
                      Oper.mk none (Op.store (Ren.t ρ 35) (Operand.tmp 37) (Operand.tmp 35)) (Ren.t ρ 0)
                        "zsortanyfunc.go:331"
                        #[Edge.mk 22 Ground.data, Edge.mk 19 Ground.data, Edge.mk 21 Ground.chain,
                          Edge.mk 0 Ground.phase, Edge.mk 1 Ground.phase, Edge.mk 2 Ground.phase,
                          Edge.mk 3 Ground.phase, Edge.mk 4 Ground.phase, Edge.mk 5 Ground.phase,
                          Edge.mk 6 Ground.phase, Edge.mk 7 Ground.phase, Edge.mk 8 Ground.phase,
                          Edge.mk 9 Ground.phase, Edge.mk 10 Ground.phase, Edge.mk 11 Ground.phase,
                          Edge.mk 12 Ground.phase, Edge.mk 13 Ground.phase, Edge.mk 14 Ground.phase,
                          Edge.mk 15 Ground.phase, Edge.mk 16 Ground.phase, Edge.mk 17 Ground.phase,
                          Edge.mk 18 Ground.phase, Edge.mk 19 Ground.phase, Edge.mk 20 Ground.phase,
                          Edge.mk 21 Ground.phase]
                        none]
                    true))
                (Code.region 2
                  #[Oper.mk (some 14) (Op.move (Operand.tmp 10)) (Ren.t ρ 3) "zsortanyfunc.go:330" #[] none,
                    Oper.mk (some 15)
                      (Op.binOp BinOp.add (Ren.t ρ 3) (Operand.tmp 14) (Operand.const (Value.int IntKind.i64 1))
                        (Ren.t ρ 3))
                      (Ren.t ρ 3) "zsortanyfunc.go:330" #[Edge.mk 0 Ground.data] none,
                    Oper.mk (some 10) (Op.assign (Operand.tmp 15)) (Ren.t ρ 3) "zsortanyfunc.go:330"
                      #[Edge.mk 1 Ground.data, Edge.mk 0 Ground.phase, Edge.mk 1 Ground.phase] none]
                  false)))))))
    false false "slices/zsortanyfunc.go" 333 none
    [Departure.mixedOrders, Departure.lateStoresUnsure, Departure.lateStores]
    #["data", "a", "b", "n", "cmp", "data", "a", "b", "n", "cmp", "i", "", "", "", "", "", "", "", "", "", "", "", "",
      "", "", "", "", "", "", "", "", "", "", "", "", "", "", ""]

def stB_rot (ρ : Ren) : Func :=
  Func.mk "slices.rotateCmpFunc[rick/api.Rename]" "slices.rotateCmpFunc" #[Ren.t ρ 35]
    #[Ren.t ρ 28, Ren.t ρ 3, Ren.t ρ 3, Ren.t ρ 3, Ren.t ρ 79] #[] 0 58 #[]
    (some
      (Code.seq
        (Code.region 0
          #[Oper.mk (some 12) (Op.move (Operand.tmp 2)) (Ren.t ρ 3) "zsortanyfunc.go:465" #[] none,
            Oper.mk (some 13) (Op.move (Operand.tmp 1)) (Ren.t ρ 3) "zsortanyfunc.go:465" #[] none,
            Oper.mk (some 14) (Op.binOp BinOp.sub (Ren.t ρ 3) (Operand.tmp 12) (Operand.tmp 13) (Ren.t ρ 3)) (Ren.t ρ 3)
              "zsortanyfunc.go:465" #[Edge.mk 0 Ground.data, Edge.mk 1 Ground.data] none,
            Oper.mk (some 10) (Op.assign (Operand.tmp 14)) (Ren.t ρ 3) "zsortanyfunc.go:465"
              #[Edge.mk 2 Ground.data, Edge.mk 0 Ground.phase, Edge.mk 1 Ground.phase, Edge.mk 2 Ground.phase] none]
          false)
        (Code.seq
          (Code.region 1
            #[Oper.mk (some 15) (Op.move (Operand.tmp 3)) (Ren.t ρ 3) "zsortanyfunc.go:466" #[] none,
              Oper.mk (some 16) (Op.move (Operand.tmp 2)) (Ren.t ρ 3) "zsortanyfunc.go:466" #[] none,
              Oper.mk (some 17) (Op.binOp BinOp.sub (Ren.t ρ 3) (Operand.tmp 15) (Operand.tmp 16) (Ren.t ρ 3))
                (Ren.t ρ 3) "zsortanyfunc.go:466" #[Edge.mk 0 Ground.data, Edge.mk 1 Ground.data] none,
              Oper.mk (some 11) (Op.assign (Operand.tmp 17)) (Ren.t ρ 3) "zsortanyfunc.go:466"
                #[Edge.mk 2 Ground.data, Edge.mk 0 Ground.phase, Edge.mk 1 Ground.phase, Edge.mk 2 Ground.phase] none]
            false)
          (Code.seq
            (Code.block 0
              (Code.loop
                (Code.seq
                  (Code.seq
                    (Code.region 2
                      #[Oper.mk (some 18) (Op.move (Operand.tmp 10)) (Ren.t ρ 3) "zsortanyfunc.go:468" #[] none,
                        Oper.mk (some 19) (Op.move (Operand.tmp 11)) (Ren.t ρ 3) "zsortanyfunc.go:468" #[] none,
                        Oper.mk (some 20) (Op.binOp BinOp.neq (Ren.t ρ 3) (Operand.tmp 18) (Operand.tmp 19) (Ren.t ρ 3))
                          (Ren.t ρ 4) "zsortanyfunc.go:468" #[Edge.mk 0 Ground.data, Edge.mk 1 Ground.data] none]
                      false)
                    (Code.cond (Operand.tmp 20) Code.skip (Code.exit 0)))
                  (Code.block 1
                    (Code.seq
                      (Code.region 3
                        #[Oper.mk (some 21) (Op.move (Operand.tmp 10)) (Ren.t ρ 3) "zsortanyfunc.go:469" #[] none,
                          Oper.mk (some 22) (Op.move (Operand.tmp 11)) (Ren.t ρ 3) "zsortanyfunc.go:469" #[] none,
                          Oper.mk (some 23)
                            (Op.binOp BinOp.gtr (Ren.t ρ 3) (Operand.tmp 21) (Operand.tmp 22) (Ren.t ρ 3)) (Ren.t ρ 4)
                            "zsortanyfunc.go:469" #[Edge.mk 0 Ground.data, Edge.mk 1 Ground.data] none]
                        false)
                      (Code.cond (Operand.tmp 23)
                        (Code.seq
                          (Code.region 4
                            #[Oper.mk (some 24) (Op.move (Operand.tmp 0)) (Ren.t ρ 28) "zsortanyfunc.go:470" #[] none,
                              Oper.mk (some 25) (Op.move (Operand.tmp 2)) (Ren.t ρ 3) "zsortanyfunc.go:470" #[] none,
                              Oper.mk (some 26) (Op.move (Operand.tmp 10)) (Ren.t ρ 3) "zsortanyfunc.go:470" #[] none,
                              Oper.mk (some 27)
                                (Op.binOp BinOp.sub (Ren.t ρ 3) (Operand.tmp 25) (Operand.tmp 26) (Ren.t ρ 3))
                                (Ren.t ρ 3) "zsortanyfunc.go:470" #[Edge.mk 1 Ground.data, Edge.mk 2 Ground.data] none,
                              Oper.mk (some 28) (Op.move (Operand.tmp 2)) (Ren.t ρ 3) "zsortanyfunc.go:470" #[] none,
                              Oper.mk (some 29) (Op.move (Operand.tmp 11)) (Ren.t ρ 3) "zsortanyfunc.go:470" #[] none,
                              Oper.mk (some 30) (Op.move (Operand.tmp 4)) (Ren.t ρ 79) "zsortanyfunc.go:470" #[] none,
                              Oper.mk (some 31)
                                (Op.call
                                  (Call.mk (Callee.value (Operand.func (Ren.f ρ 85)))
                                    #[Operand.tmp 24, Operand.tmp 27, Operand.tmp 28, Operand.tmp 29, Operand.tmp 30]
                                    #[Ren.t ρ 28, Ren.t ρ 3, Ren.t ρ 3, Ren.t ρ 3, Ren.t ρ 79]))
                                (Ren.t ρ 0) "zsortanyfunc.go:470"
                                #[Edge.mk 0 Ground.data, Edge.mk 3 Ground.data, Edge.mk 4 Ground.data,
                                  Edge.mk 5 Ground.data, Edge.mk 6 Ground.data]
                                none]
                            false)
                          (Code.region 5
                            #[Oper.mk (some 32) (Op.move (Operand.tmp 10)) (Ren.t ρ 3) "zsortanyfunc.go:471" #[] none,
                              Oper.mk (some 33) (Op.move (Operand.tmp 11)) (Ren.t ρ 3) "zsortanyfunc.go:471" #[] none,
                              Oper.mk (some 34)
                                (Op.binOp BinOp.sub (Ren.t ρ 3) (Operand.tmp 32) (Operand.tmp 33) (Ren.t ρ 3))
                                (Ren.t ρ 3) "zsortanyfunc.go:471" #[Edge.mk 0 Ground.data, Edge.mk 1 Ground.data] none,
                              Oper.mk (some 10) (Op.assign (Operand.tmp 34)) (Ren.t ρ 3) "zsortanyfunc.go:471"
                                #[Edge.mk 2 Ground.data, Edge.mk 0 Ground.phase, Edge.mk 1 Ground.phase,
                                  Edge.mk 2 Ground.phase]
                                none]
                            false))
                        (Code.seq
                          (Code.region 6
                            #[Oper.mk (some 35) (Op.move (Operand.tmp 0)) (Ren.t ρ 28) "zsortanyfunc.go:473" #[] none,
                              Oper.mk (some 36) (Op.move (Operand.tmp 2)) (Ren.t ρ 3) "zsortanyfunc.go:473" #[] none,
                              Oper.mk (some 37) (Op.move (Operand.tmp 10)) (Ren.t ρ 3) "zsortanyfunc.go:473" #[] none,
                              Oper.mk (some 38)
                                (Op.binOp BinOp.sub (Ren.t ρ 3) (Operand.tmp 36) (Operand.tmp 37) (Ren.t ρ 3))
                                (Ren.t ρ 3) "zsortanyfunc.go:473" #[Edge.mk 1 Ground.data, Edge.mk 2 Ground.data] none,
                              Oper.mk (some 39) (Op.move (Operand.tmp 2)) (Ren.t ρ 3) "zsortanyfunc.go:473" #[] none,
                              Oper.mk (some 40) (Op.move (Operand.tmp 11)) (Ren.t ρ 3) "zsortanyfunc.go:473" #[] none,
                              Oper.mk (some 41)
                                (Op.binOp BinOp.add (Ren.t ρ 3) (Operand.tmp 39) (Operand.tmp 40) (Ren.t ρ 3))
                                (Ren.t ρ 3) "zsortanyfunc.go:473" #[Edge.mk 4 Ground.data, Edge.mk 5 Ground.data] none,
                              Oper.mk (some 42) (Op.move (Operand.tmp 10)) (Ren.t ρ 3) "zsortanyfunc.go:473" #[] none,
                              Oper.mk (some 43)
                                (Op.binOp BinOp.sub (Ren.t ρ 3) (Operand.tmp 41) (Operand.tmp 42) (Ren.t ρ 3))
                                (Ren.t ρ 3) "zsortanyfunc.go:473" #[Edge.mk 6 Ground.data, Edge.mk 7 Ground.data] none,
                              Oper.mk (some 44) (Op.move (Operand.tmp 10)) (Ren.t ρ 3) "zsortanyfunc.go:473" #[] none,
                              Oper.mk (some 45) (Op.move (Operand.tmp 4)) (Ren.t ρ 79) "zsortanyfunc.go:473" #[] none,
                              Oper.mk (some 46)
                                (Op.call
                                  (Call.mk (Callee.value (Operand.func (Ren.f ρ 85)))
                                    #[Operand.tmp 35, Operand.tmp 38, Operand.tmp 43, Operand.tmp 44, Operand.tmp 45]
                                    #[Ren.t ρ 28, Ren.t ρ 3, Ren.t ρ 3, Ren.t ρ 3, Ren.t ρ 79]))
                                (Ren.t ρ 0) "zsortanyfunc.go:473"
                                #[Edge.mk 0 Ground.data, Edge.mk 3 Ground.data, Edge.mk 8 Ground.data,
                                  Edge.mk 9 Ground.data, Edge.mk 10 Ground.data]
                                none]
                            false)
                          (Code.region 7
                            #[Oper.mk (some 47) (Op.move (Operand.tmp 11)) (Ren.t ρ 3) "zsortanyfunc.go:474" #[] none,
                              Oper.mk (some 48) (Op.move (Operand.tmp 10)) (Ren.t ρ 3) "zsortanyfunc.go:474" #[] none,
                              Oper.mk (some 49)
                                (Op.binOp BinOp.sub (Ren.t ρ 3) (Operand.tmp 47) (Operand.tmp 48) (Ren.t ρ 3))
                                (Ren.t ρ 3) "zsortanyfunc.go:474" #[Edge.mk 0 Ground.data, Edge.mk 1 Ground.data] none,
                              Oper.mk (some 11) (Op.assign (Operand.tmp 49)) (Ren.t ρ 3) "zsortanyfunc.go:474"
                                #[Edge.mk 2 Ground.data, Edge.mk 0 Ground.phase, Edge.mk 1 Ground.phase,
                                  Edge.mk 2 Ground.phase]
                                none]
                            false))))))))
            (Code.region 8
              #[Oper.mk (some 50) (Op.move (Operand.tmp 0)) (Ren.t ρ 28) "zsortanyfunc.go:478" #[] none,
                Oper.mk (some 51) (Op.move (Operand.tmp 2)) (Ren.t ρ 3) "zsortanyfunc.go:478" #[] none,
                Oper.mk (some 52) (Op.move (Operand.tmp 10)) (Ren.t ρ 3) "zsortanyfunc.go:478" #[] none,
                Oper.mk (some 53) (Op.binOp BinOp.sub (Ren.t ρ 3) (Operand.tmp 51) (Operand.tmp 52) (Ren.t ρ 3))
                  (Ren.t ρ 3) "zsortanyfunc.go:478" #[Edge.mk 1 Ground.data, Edge.mk 2 Ground.data] none,
                Oper.mk (some 54) (Op.move (Operand.tmp 2)) (Ren.t ρ 3) "zsortanyfunc.go:478" #[] none,
                Oper.mk (some 55) (Op.move (Operand.tmp 10)) (Ren.t ρ 3) "zsortanyfunc.go:478" #[] none,
                Oper.mk (some 56) (Op.move (Operand.tmp 4)) (Ren.t ρ 79) "zsortanyfunc.go:478" #[] none,
                Oper.mk (some 57)
                  (Op.call
                    (Call.mk (Callee.value (Operand.func (Ren.f ρ 85)))
                      #[Operand.tmp 50, Operand.tmp 53, Operand.tmp 54, Operand.tmp 55, Operand.tmp 56]
                      #[Ren.t ρ 28, Ren.t ρ 3, Ren.t ρ 3, Ren.t ρ 3, Ren.t ρ 79]))
                  (Ren.t ρ 0) "zsortanyfunc.go:478"
                  #[Edge.mk 0 Ground.data, Edge.mk 3 Ground.data, Edge.mk 4 Ground.data, Edge.mk 5 Ground.data,
                    Edge.mk 6 Ground.data]
                  none]
              false)))))
    false false "slices/zsortanyfunc.go" 479 none []
    #["data", "a", "m", "b", "cmp", "data", "a", "m", "b", "cmp", "i", "j", "", "", "", "", "", "", "", "", "", "", "",
      "", "", "", "", "", "", "", "", "", "", "", "", "", "", "", "", "", "", "", "", "", "", "", "", "", "", "", "",
      "", "", "", "", "", "", ""]

def stB_sym (ρ : Ren) : Func :=
  Func.mk "slices.symMergeCmpFunc[rick/api.Rename]" "slices.symMergeCmpFunc" #[Ren.t ρ 35]
    #[Ren.t ρ 28, Ren.t ρ 3, Ren.t ρ 3, Ren.t ρ 3, Ren.t ρ 79] #[] 0 220 #[]
    (some
      (Code.seq
        (Code.seq
          (Code.region 0
            #[Oper.mk (some 25) (Op.move (Operand.tmp 2)) (Ren.t ρ 3) "zsortanyfunc.go:382" #[] none,
              Oper.mk (some 26) (Op.move (Operand.tmp 1)) (Ren.t ρ 3) "zsortanyfunc.go:382" #[] none,
              Oper.mk (some 27) (Op.binOp BinOp.sub (Ren.t ρ 3) (Operand.tmp 25) (Operand.tmp 26) (Ren.t ρ 3))
                (Ren.t ρ 3) "zsortanyfunc.go:382" #[Edge.mk 0 Ground.data, Edge.mk 1 Ground.data] none,
              Oper.mk (some 28)
                (Op.binOp BinOp.eql (Ren.t ρ 3) (Operand.tmp 27) (Operand.const (Value.int IntKind.i64 1)) (Ren.t ρ 3))
                (Ren.t ρ 4) "zsortanyfunc.go:382" #[Edge.mk 2 Ground.data] none]
            false)
          (Code.cond (Operand.tmp 28)
            (Code.seq
              (Code.region 1
                #[Oper.mk (some 29) (Op.move (Operand.tmp 2)) (Ren.t ρ 3) "zsortanyfunc.go:386" #[] none,
                  Oper.mk (some 10) (Op.assign (Operand.tmp 29)) (Ren.t ρ 3) "zsortanyfunc.go:386"
                    #[Edge.mk 0 Ground.data, Edge.mk 0 Ground.phase] none]
                false)
              (Code.seq
                (Code.region 2
                  #[Oper.mk (some 30) (Op.move (Operand.tmp 3)) (Ren.t ρ 3) "zsortanyfunc.go:387" #[] none,
                    Oper.mk (some 11) (Op.assign (Operand.tmp 30)) (Ren.t ρ 3) "zsortanyfunc.go:387"
                      #[Edge.mk 0 Ground.data, Edge.mk 0 Ground.phase] none]
                  false)
                (Code.seq
                  (Code.block 0
                    (Code.loop
                      (Code.seq
                        (Code.seq
                          (Code.region 3
                            #[Oper.mk (some 31) (Op.move (Operand.tmp 10)) (Ren.t ρ 3) "zsortanyfunc.go:388" #[] none,
                              Oper.mk (some 32) (Op.move (Operand.tmp 11)) (Ren.t ρ 3) "zsortanyfunc.go:388" #[] none,
                              Oper.mk (some 33)
                                (Op.binOp BinOp.lss (Ren.t ρ 3) (Operand.tmp 31) (Operand.tmp 32) (Ren.t ρ 3))
                                (Ren.t ρ 4) "zsortanyfunc.go:388" #[Edge.mk 0 Ground.data, Edge.mk 1 Ground.data] none]
                            false)
                          (Code.cond (Operand.tmp 33) Code.skip (Code.exit 0)))
                        (Code.block 1
                          (Code.seq
                            (Code.region 4
                              #[Oper.mk (some 34) (Op.move (Operand.tmp 10)) (Ren.t ρ 3) "zsortanyfunc.go:389" #[] none,
                                Oper.mk (some 35) (Op.move (Operand.tmp 11)) (Ren.t ρ 3) "zsortanyfunc.go:389" #[] none,
                                Oper.mk (some 36)
                                  (Op.binOp BinOp.add (Ren.t ρ 3) (Operand.tmp 34) (Operand.tmp 35) (Ren.t ρ 3))
                                  (Ren.t ρ 3) "zsortanyfunc.go:389" #[Edge.mk 0 Ground.data, Edge.mk 1 Ground.data]
                                  none,
                                Oper.mk (some 37) (Op.convert (Ren.t ρ 3) (Ren.t ρ 37) (Operand.tmp 36)) (Ren.t ρ 37)
                                  "zsortanyfunc.go:389" #[Edge.mk 2 Ground.data] none,
                                Oper.mk (some 38)
                                  (Op.binOp BinOp.shr (Ren.t ρ 37) (Operand.tmp 37)
                                    (Operand.const (Value.int IntKind.u64 1)) (Ren.t ρ 37))
                                  (Ren.t ρ 37) "zsortanyfunc.go:389" #[Edge.mk 3 Ground.data] none,
                                Oper.mk (some 39) (Op.convert (Ren.t ρ 37) (Ren.t ρ 3) (Operand.tmp 38)) (Ren.t ρ 3)
                                  "zsortanyfunc.go:389" #[Edge.mk 4 Ground.data] none,
                                Oper.mk (some 12) (Op.assign (Operand.tmp 39)) (Ren.t ρ 3) "zsortanyfunc.go:389"
                                  #[Edge.mk 5 Ground.data, Edge.mk 0 Ground.phase, Edge.mk 1 Ground.phase,
                                    Edge.mk 2 Ground.phase, Edge.mk 3 Ground.phase, Edge.mk 4 Ground.phase,
                                    Edge.mk 5 Ground.phase]
                                  none]
                              false)
                            (Code.seq
                              (Code.region 5
                                #[Oper.mk (some 40) (Op.move (Operand.tmp 4)) (Ren.t ρ 79) "zsortanyfunc.go:390" #[]
                                    none,
                                  Oper.mk (some 41) (Op.move (Operand.tmp 0)) (Ren.t ρ 28) "zsortanyfunc.go:390" #[]
                                    none,
                                  Oper.mk (some 42) (Op.move (Operand.tmp 12)) (Ren.t ρ 3) "zsortanyfunc.go:390" #[]
                                    none,
                                  Oper.mk (some 43) (Op.indexAddr (Ren.t ρ 28) (Operand.tmp 41) (Operand.tmp 42))
                                    (Ren.t ρ 0) "zsortanyfunc.go:390" #[Edge.mk 1 Ground.data, Edge.mk 2 Ground.data]
                                    none,
                                  Oper.mk (some 44) (Op.load (Ren.t ρ 35) (Operand.tmp 43)) (Ren.t ρ 35)
                                    "zsortanyfunc.go:390" #[Edge.mk 3 Ground.data] none,
                                  Oper.mk (some 45) (Op.move (Operand.tmp 0)) (Ren.t ρ 28) "zsortanyfunc.go:390" #[]
                                    none,
                                  Oper.mk (some 46) (Op.move (Operand.tmp 1)) (Ren.t ρ 3) "zsortanyfunc.go:390" #[]
                                    none,
                                  Oper.mk (some 47) (Op.indexAddr (Ren.t ρ 28) (Operand.tmp 45) (Operand.tmp 46))
                                    (Ren.t ρ 0) "zsortanyfunc.go:390" #[Edge.mk 5 Ground.data, Edge.mk 6 Ground.data]
                                    none,
                                  Oper.mk (some 48) (Op.load (Ren.t ρ 35) (Operand.tmp 47)) (Ren.t ρ 35)
                                    "zsortanyfunc.go:390" #[Edge.mk 7 Ground.data] none,
                                  Oper.mk (some 49)
                                    (Op.call
                                      (Call.mk (Callee.value (Operand.tmp 40)) #[Operand.tmp 44, Operand.tmp 48]
                                        #[Ren.t ρ 35, Ren.t ρ 35]))
                                    (Ren.t ρ 3) "zsortanyfunc.go:390"
                                    #[Edge.mk 0 Ground.data, Edge.mk 4 Ground.data, Edge.mk 8 Ground.data] none,
                                  Oper.mk (some 50)
                                    (Op.binOp BinOp.lss (Ren.t ρ 3) (Operand.tmp 49)
                                      (Operand.const (Value.int IntKind.i64 0)) (Ren.t ρ 3))
                                    (Ren.t ρ 4) "zsortanyfunc.go:390" #[Edge.mk 9 Ground.data] none]
                                true)
                              (Code.cond (Operand.tmp 50)
                                (Code.region 6
                                  #[Oper.mk (some 51) (Op.move (Operand.tmp 12)) (Ren.t ρ 3) "zsortanyfunc.go:391" #[]
                                      none,
                                    Oper.mk (some 52)
                                      (Op.binOp BinOp.add (Ren.t ρ 3) (Operand.tmp 51)
                                        (Operand.const (Value.int IntKind.i64 1)) (Ren.t ρ 3))
                                      (Ren.t ρ 3) "zsortanyfunc.go:391" #[Edge.mk 0 Ground.data] none,
                                    Oper.mk (some 10) (Op.assign (Operand.tmp 52)) (Ren.t ρ 3) "zsortanyfunc.go:391"
                                      #[Edge.mk 1 Ground.data, Edge.mk 0 Ground.phase, Edge.mk 1 Ground.phase] none]
                                  false)
                                (Code.region 7
                                  #[Oper.mk (some 53) (Op.move (Operand.tmp 12)) (Ren.t ρ 3) "zsortanyfunc.go:393" #[]
                                      none,
                                    Oper.mk (some 11) (Op.assign (Operand.tmp 53)) (Ren.t ρ 3) "zsortanyfunc.go:393"
                                      #[Edge.mk 0 Ground.data, Edge.mk 0 Ground.phase] none]
                                  false))))))))
                  (Code.seq
                    (Code.seq
                      (Code.region 8
                        #[Oper.mk (some 54) (Op.move (Operand.tmp 1)) (Ren.t ρ 3) "zsortanyfunc.go:397" #[] none,
                          Oper.mk (some 13) (Op.assign (Operand.tmp 54)) (Ren.t ρ 3) "zsortanyfunc.go:397"
                            #[Edge.mk 0 Ground.data, Edge.mk 0 Ground.phase] none]
                        false)
                      (Code.block 2
                        (Code.loop
                          (Code.seq
                            (Code.seq
                              (Code.region 9
                                #[Oper.mk (some 55) (Op.move (Operand.tmp 13)) (Ren.t ρ 3) "zsortanyfunc.go:397" #[]
                                    none,
                                  Oper.mk (some 56) (Op.move (Operand.tmp 10)) (Ren.t ρ 3) "zsortanyfunc.go:397" #[]
                                    none,
                                  Oper.mk (some 57)
                                    (Op.binOp BinOp.sub (Ren.t ρ 3) (Operand.tmp 56)
                                      (Operand.const (Value.int IntKind.i64 1)) (Ren.t ρ 3))
                                    (Ren.t ρ 3) "zsortanyfunc.go:397" #[Edge.mk 1 Ground.data] none,
                                  Oper.mk (some 58)
                                    (Op.binOp BinOp.lss (Ren.t ρ 3) (Operand.tmp 55) (Operand.tmp 57) (Ren.t ρ 3))
                                    (Ren.t ρ 4) "zsortanyfunc.go:397" #[Edge.mk 0 Ground.data, Edge.mk 2 Ground.data]
                                    none]
                                false)
                              (Code.cond (Operand.tmp 58) Code.skip (Code.exit 2)))
                            (Code.seq
                              (Code.block 3
                                (Code.region 11
                                  #[Oper.mk (some 61) (Op.move (Operand.tmp 0)) (Ren.t ρ 28) "zsortanyfunc.go:398" #[]
                                      none,
                                    Oper.mk (some 62) (Op.move (Operand.tmp 13)) (Ren.t ρ 3) "zsortanyfunc.go:398" #[]
                                      none,
                                    Oper.mk (some 63) (Op.move (Operand.tmp 0)) (Ren.t ρ 28) "zsortanyfunc.go:398"
                                      #[Edge.mk 15 (Ground.gcOnly Departure.lateStores)] none,
                                    Oper.mk (some 64) (Op.move (Operand.tmp 13)) (Ren.t ρ 3) "zsortanyfunc.go:398"
                                      #[Edge.mk 15 (Ground.gcOnly Departure.lateStores)] none,
                                    Oper.mk (some 65)
                                      (Op.binOp BinOp.add (Ren.t ρ 3) (Operand.tmp 64)
                                        (Operand.const (Value.int IntKind.i64 1)) (Ren.t ρ 3))
                                      (Ren.t ρ 3) "zsortanyfunc.go:398"
                                      #[Edge.mk 3 Ground.data, Edge.mk 15 (Ground.gcOnly Departure.lateStores)] none,
                                    Oper.mk (some 66) (Op.move (Operand.tmp 0)) (Ren.t ρ 28) "zsortanyfunc.go:398" #[]
                                      none,
                                    Oper.mk (some 67) (Op.move (Operand.tmp 13)) (Ren.t ρ 3) "zsortanyfunc.go:398" #[]
                                      none,
                                    Oper.mk (some 68)
                                      (Op.binOp BinOp.add (Ren.t ρ 3) (Operand.tmp 67)
                                        (Operand.const (Value.int IntKind.i64 1)) (Ren.t ρ 3))
                                      (Ren.t ρ 3) "zsortanyfunc.go:398" #[Edge.mk 6 Ground.data] none,
                                    Oper.mk (some 69) (Op.indexAddr (Ren.t ρ 28) (Operand.tmp 66) (Operand.tmp 68))
                                      (Ren.t ρ 0) "zsortanyfunc.go:398" #[Edge.mk 5 Ground.data, Edge.mk 7 Ground.data]
                                      none,
                                    Oper.mk (some 70) (Op.load (Ren.t ρ 35) (Operand.tmp 69)) (Ren.t ρ 35)
                                      "zsortanyfunc.go:398" #[Edge.mk 8 Ground.data] none,
                                    Oper.mk (some 71) (Op.move (Operand.tmp 0)) (Ren.t ρ 28) "zsortanyfunc.go:398" #[]
                                      none,
                                    Oper.mk (some 72) (Op.move (Operand.tmp 13)) (Ren.t ρ 3) "zsortanyfunc.go:398" #[]
                                      none,
                                    Oper.mk (some 73) (Op.indexAddr (Ren.t ρ 28) (Operand.tmp 71) (Operand.tmp 72))
                                      (Ren.t ρ 0) "zsortanyfunc.go:398"
                                      #[Edge.mk 10 Ground.data, Edge.mk 11 Ground.data] none,
                                    Oper.mk (some 74) (Op.load (Ren.t ρ 35) (Operand.tmp 73)) (Ren.t ρ 35)
                                      "zsortanyfunc.go:398" #[Edge.mk 12 Ground.data] none,
                                    Oper.mk (some 75) (Op.indexAddr (Ren.t ρ 28) (Operand.tmp 61) (Operand.tmp 62))
                                      (Ren.t ρ 0) "zsortanyfunc.go:398"
                                      #[Edge.mk 0 Ground.data, Edge.mk 1 Ground.data, Edge.mk 0 Ground.phase,
                                        Edge.mk 1 Ground.phase, Edge.mk 2 (Ground.textOnly Departure.lateStores),
                                        Edge.mk 3 (Ground.textOnly Departure.lateStores),
                                        Edge.mk 4 (Ground.textOnly Departure.lateStores), Edge.mk 5 Ground.phase,
                                        Edge.mk 6 Ground.phase, Edge.mk 7 Ground.phase, Edge.mk 8 Ground.phase,
                                        Edge.mk 9 Ground.phase, Edge.mk 10 (Ground.textOnly Departure.lateStores),
                                        Edge.mk 11 (Ground.textOnly Departure.lateStores),
                                        Edge.mk 12 (Ground.textOnly Departure.lateStoresUnsure),
                                        Edge.mk 13 Ground.phase]
                                      none,
                                    Oper.mk none (Op.store (Ren.t ρ 35) (Operand.tmp 75) (Operand.tmp 70)) (Ren.t ρ 0)
                                      "zsortanyfunc.go:398"
                                      #[Edge.mk 14 Ground.data, Edge.mk 9 Ground.data, Edge.mk 0 Ground.phase,
                                        Edge.mk 1 Ground.phase, Edge.mk 2 (Ground.textOnly Departure.lateStores),
                                        Edge.mk 3 (Ground.textOnly Departure.lateStores),
                                        Edge.mk 4 (Ground.textOnly Departure.lateStores), Edge.mk 5 Ground.phase,
                                        Edge.mk 6 Ground.phase, Edge.mk 7 Ground.phase, Edge.mk 8 Ground.phase,
                                        Edge.mk 9 Ground.phase, Edge.mk 10 (Ground.textOnly Departure.lateStores),
                                        Edge.mk 11 (Ground.textOnly Departure.lateStores),
                                        Edge.mk 12 (Ground.textOnly Departure.lateStoresUnsure),
                                        Edge.mk 13 Ground.phase]
                                      none,
                                    Oper.mk (some 76) (Op.indexAddr (Ren.t ρ 28) (Operand.tmp 63) (Operand.tmp 65))
                                      (Ren.t ρ 0) "zsortanyfunc.go:398"
                                      #[Edge.mk 2 Ground.data, Edge.mk 4 Ground.data, Edge.mk 0 Ground.phase,
                                        Edge.mk 1 Ground.phase, Edge.mk 2 Ground.phase, Edge.mk 3 Ground.phase,
                                        Edge.mk 4 Ground.phase, Edge.mk 5 Ground.phase, Edge.mk 6 Ground.phase,
                                        Edge.mk 7 Ground.phase, Edge.mk 8 Ground.phase, Edge.mk 9 Ground.phase,
                                        Edge.mk 10 Ground.phase, Edge.mk 11 Ground.phase, Edge.mk 12 Ground.phase,
                                        Edge.mk 13 Ground.phase, Edge.mk 14 Ground.phase, Edge.mk 15 Ground.phase]
                                      none,
                                    Oper.mk none (Op.store (Ren.t ρ 35) (Operand.tmp 76) (Operand.tmp 74)) (Ren.t ρ 0)
                                      "zsortanyfunc.go:398"
                                      #[Edge.mk 16 Ground.data, Edge.mk 13 Ground.data, Edge.mk 15 Ground.chain,
                                        Edge.mk 0 Ground.phase, Edge.mk 1 Ground.phase, Edge.mk 2 Ground.phase,
                                        Edge.mk 3 Ground.phase, Edge.mk 4 Ground.phase, Edge.mk 5 Ground.phase,
                                        Edge.mk 6 Ground.phase, Edge.mk 7 Ground.phase, Edge.mk 8 Ground.phase,
                                        Edge.mk 9 Ground.phase, Edge.mk 10 Ground.phase, Edge.mk 11 Ground.phase,
                                        Edge.mk 12 Ground.phase, Edge.mk 13 Ground.phase, Edge.mk 14 Ground.phase,
                                        Edge.mk 15 Ground.phase]
                                      none]
                                  true))
                              (Code.region 10
                                #[Oper.mk (some 59) (Op.move (Operand.tmp 13)) (Ren.t ρ 3) "zsortanyfunc.go:397" #[]
                                    none,
                                  Oper.mk (some 60)
                                    (Op.binOp BinOp.add (Ren.t ρ 3) (Operand.tmp 59)
                                      (Operand.const (Value.int IntKind.i64 1)) (Ren.t ρ 3))
                                    (Ren.t ρ 3) "zsortanyfunc.go:397" #[Edge.mk 0 Ground.data] none,
                                  Oper.mk (some 13) (Op.assign (Operand.tmp 60)) (Ren.t ρ 3) "zsortanyfunc.go:397"
                                    #[Edge.mk 1 Ground.data, Edge.mk 0 Ground.phase, Edge.mk 1 Ground.phase] none]
                                false))))))
                    Code.ret))))
            Code.skip))
        (Code.seq
          (Code.seq
            (Code.region 12
              #[Oper.mk (some 77) (Op.move (Operand.tmp 3)) (Ren.t ρ 3) "zsortanyfunc.go:406" #[] none,
                Oper.mk (some 78) (Op.move (Operand.tmp 2)) (Ren.t ρ 3) "zsortanyfunc.go:406" #[] none,
                Oper.mk (some 79) (Op.binOp BinOp.sub (Ren.t ρ 3) (Operand.tmp 77) (Operand.tmp 78) (Ren.t ρ 3))
                  (Ren.t ρ 3) "zsortanyfunc.go:406" #[Edge.mk 0 Ground.data, Edge.mk 1 Ground.data] none,
                Oper.mk (some 80)
                  (Op.binOp BinOp.eql (Ren.t ρ 3) (Operand.tmp 79) (Operand.const (Value.int IntKind.i64 1))
                    (Ren.t ρ 3))
                  (Ren.t ρ 4) "zsortanyfunc.go:406" #[Edge.mk 2 Ground.data] none]
              false)
            (Code.cond (Operand.tmp 80)
              (Code.seq
                (Code.region 13
                  #[Oper.mk (some 81) (Op.move (Operand.tmp 1)) (Ren.t ρ 3) "zsortanyfunc.go:410" #[] none,
                    Oper.mk (some 14) (Op.assign (Operand.tmp 81)) (Ren.t ρ 3) "zsortanyfunc.go:410"
                      #[Edge.mk 0 Ground.data, Edge.mk 0 Ground.phase] none]
                  false)
                (Code.seq
                  (Code.region 14
                    #[Oper.mk (some 82) (Op.move (Operand.tmp 2)) (Ren.t ρ 3) "zsortanyfunc.go:411" #[] none,
                      Oper.mk (some 15) (Op.assign (Operand.tmp 82)) (Ren.t ρ 3) "zsortanyfunc.go:411"
                        #[Edge.mk 0 Ground.data, Edge.mk 0 Ground.phase] none]
                    false)
                  (Code.seq
                    (Code.block 4
                      (Code.loop
                        (Code.seq
                          (Code.seq
                            (Code.region 15
                              #[Oper.mk (some 83) (Op.move (Operand.tmp 14)) (Ren.t ρ 3) "zsortanyfunc.go:412" #[] none,
                                Oper.mk (some 84) (Op.move (Operand.tmp 15)) (Ren.t ρ 3) "zsortanyfunc.go:412" #[] none,
                                Oper.mk (some 85)
                                  (Op.binOp BinOp.lss (Ren.t ρ 3) (Operand.tmp 83) (Operand.tmp 84) (Ren.t ρ 3))
                                  (Ren.t ρ 4) "zsortanyfunc.go:412" #[Edge.mk 0 Ground.data, Edge.mk 1 Ground.data]
                                  none]
                              false)
                            (Code.cond (Operand.tmp 85) Code.skip (Code.exit 4)))
                          (Code.block 5
                            (Code.seq
                              (Code.region 16
                                #[Oper.mk (some 86) (Op.move (Operand.tmp 14)) (Ren.t ρ 3) "zsortanyfunc.go:413" #[]
                                    none,
                                  Oper.mk (some 87) (Op.move (Operand.tmp 15)) (Ren.t ρ 3) "zsortanyfunc.go:413" #[]
                                    none,
                                  Oper.mk (some 88)
                                    (Op.binOp BinOp.add (Ren.t ρ 3) (Operand.tmp 86) (Operand.tmp 87) (Ren.t ρ 3))
                                    (Ren.t ρ 3) "zsortanyfunc.go:413" #[Edge.mk 0 Ground.data, Edge.mk 1 Ground.data]
                                    none,
                                  Oper.mk (some 89) (Op.convert (Ren.t ρ 3) (Ren.t ρ 37) (Operand.tmp 88)) (Ren.t ρ 37)
                                    "zsortanyfunc.go:413" #[Edge.mk 2 Ground.data] none,
                                  Oper.mk (some 90)
                                    (Op.binOp BinOp.shr (Ren.t ρ 37) (Operand.tmp 89)
                                      (Operand.const (Value.int IntKind.u64 1)) (Ren.t ρ 37))
                                    (Ren.t ρ 37) "zsortanyfunc.go:413" #[Edge.mk 3 Ground.data] none,
                                  Oper.mk (some 91) (Op.convert (Ren.t ρ 37) (Ren.t ρ 3) (Operand.tmp 90)) (Ren.t ρ 3)
                                    "zsortanyfunc.go:413" #[Edge.mk 4 Ground.data] none,
                                  Oper.mk (some 16) (Op.assign (Operand.tmp 91)) (Ren.t ρ 3) "zsortanyfunc.go:413"
                                    #[Edge.mk 5 Ground.data, Edge.mk 0 Ground.phase, Edge.mk 1 Ground.phase,
                                      Edge.mk 2 Ground.phase, Edge.mk 3 Ground.phase, Edge.mk 4 Ground.phase,
                                      Edge.mk 5 Ground.phase]
                                    none]
                                false)
                              (Code.seq
                                (Code.region 17
                                  #[Oper.mk (some 92) (Op.move (Operand.tmp 4)) (Ren.t ρ 79) "zsortanyfunc.go:414" #[]
                                      none,
                                    Oper.mk (some 93) (Op.move (Operand.tmp 0)) (Ren.t ρ 28) "zsortanyfunc.go:414" #[]
                                      none,
                                    Oper.mk (some 94) (Op.move (Operand.tmp 2)) (Ren.t ρ 3) "zsortanyfunc.go:414" #[]
                                      none,
                                    Oper.mk (some 95) (Op.indexAddr (Ren.t ρ 28) (Operand.tmp 93) (Operand.tmp 94))
                                      (Ren.t ρ 0) "zsortanyfunc.go:414" #[Edge.mk 1 Ground.data, Edge.mk 2 Ground.data]
                                      none,
                                    Oper.mk (some 96) (Op.load (Ren.t ρ 35) (Operand.tmp 95)) (Ren.t ρ 35)
                                      "zsortanyfunc.go:414" #[Edge.mk 3 Ground.data] none,
                                    Oper.mk (some 97) (Op.move (Operand.tmp 0)) (Ren.t ρ 28) "zsortanyfunc.go:414" #[]
                                      none,
                                    Oper.mk (some 98) (Op.move (Operand.tmp 16)) (Ren.t ρ 3) "zsortanyfunc.go:414" #[]
                                      none,
                                    Oper.mk (some 99) (Op.indexAddr (Ren.t ρ 28) (Operand.tmp 97) (Operand.tmp 98))
                                      (Ren.t ρ 0) "zsortanyfunc.go:414" #[Edge.mk 5 Ground.data, Edge.mk 6 Ground.data]
                                      none,
                                    Oper.mk (some 100) (Op.load (Ren.t ρ 35) (Operand.tmp 99)) (Ren.t ρ 35)
                                      "zsortanyfunc.go:414" #[Edge.mk 7 Ground.data] none,
                                    Oper.mk (some 101)
                                      (Op.call
                                        (Call.mk (Callee.value (Operand.tmp 92)) #[Operand.tmp 96, Operand.tmp 100]
                                          #[Ren.t ρ 35, Ren.t ρ 35]))
                                      (Ren.t ρ 3) "zsortanyfunc.go:414"
                                      #[Edge.mk 0 Ground.data, Edge.mk 4 Ground.data, Edge.mk 8 Ground.data] none,
                                    Oper.mk (some 102)
                                      (Op.binOp BinOp.lss (Ren.t ρ 3) (Operand.tmp 101)
                                        (Operand.const (Value.int IntKind.i64 0)) (Ren.t ρ 3))
                                      (Ren.t ρ 4) "zsortanyfunc.go:414" #[Edge.mk 9 Ground.data] none,
                                    Oper.mk (some 103) (Op.unOp UnOp.not (Ren.t ρ 4) (Operand.tmp 102)) (Ren.t ρ 4)
                                      "zsortanyfunc.go:414" #[Edge.mk 10 Ground.data] none]
                                  true)
                                (Code.cond (Operand.tmp 103)
                                  (Code.region 18
                                    #[Oper.mk (some 104) (Op.move (Operand.tmp 16)) (Ren.t ρ 3) "zsortanyfunc.go:415"
                                        #[] none,
                                      Oper.mk (some 105)
                                        (Op.binOp BinOp.add (Ren.t ρ 3) (Operand.tmp 104)
                                          (Operand.const (Value.int IntKind.i64 1)) (Ren.t ρ 3))
                                        (Ren.t ρ 3) "zsortanyfunc.go:415" #[Edge.mk 0 Ground.data] none,
                                      Oper.mk (some 14) (Op.assign (Operand.tmp 105)) (Ren.t ρ 3) "zsortanyfunc.go:415"
                                        #[Edge.mk 1 Ground.data, Edge.mk 0 Ground.phase, Edge.mk 1 Ground.phase] none]
                                    false)
                                  (Code.region 19
                                    #[Oper.mk (some 106) (Op.move (Operand.tmp 16)) (Ren.t ρ 3) "zsortanyfunc.go:417"
                                        #[] none,
                                      Oper.mk (some 15) (Op.assign (Operand.tmp 106)) (Ren.t ρ 3) "zsortanyfunc.go:417"
                                        #[Edge.mk 0 Ground.data, Edge.mk 0 Ground.phase] none]
                                    false))))))))
                    (Code.seq
                      (Code.seq
                        (Code.region 20
                          #[Oper.mk (some 107) (Op.move (Operand.tmp 2)) (Ren.t ρ 3) "zsortanyfunc.go:421" #[] none,
                            Oper.mk (some 17) (Op.assign (Operand.tmp 107)) (Ren.t ρ 3) "zsortanyfunc.go:421"
                              #[Edge.mk 0 Ground.data, Edge.mk 0 Ground.phase] none]
                          false)
                        (Code.block 6
                          (Code.loop
                            (Code.seq
                              (Code.seq
                                (Code.region 21
                                  #[Oper.mk (some 108) (Op.move (Operand.tmp 17)) (Ren.t ρ 3) "zsortanyfunc.go:421" #[]
                                      none,
                                    Oper.mk (some 109) (Op.move (Operand.tmp 14)) (Ren.t ρ 3) "zsortanyfunc.go:421" #[]
                                      none,
                                    Oper.mk (some 110)
                                      (Op.binOp BinOp.gtr (Ren.t ρ 3) (Operand.tmp 108) (Operand.tmp 109) (Ren.t ρ 3))
                                      (Ren.t ρ 4) "zsortanyfunc.go:421" #[Edge.mk 0 Ground.data, Edge.mk 1 Ground.data]
                                      none]
                                  false)
                                (Code.cond (Operand.tmp 110) Code.skip (Code.exit 6)))
                              (Code.seq
                                (Code.block 7
                                  (Code.region 23
                                    #[Oper.mk (some 113) (Op.move (Operand.tmp 0)) (Ren.t ρ 28) "zsortanyfunc.go:422"
                                        #[] none,
                                      Oper.mk (some 114) (Op.move (Operand.tmp 17)) (Ren.t ρ 3) "zsortanyfunc.go:422"
                                        #[] none,
                                      Oper.mk (some 115) (Op.move (Operand.tmp 0)) (Ren.t ρ 28) "zsortanyfunc.go:422"
                                        #[Edge.mk 15 (Ground.gcOnly Departure.lateStores)] none,
                                      Oper.mk (some 116) (Op.move (Operand.tmp 17)) (Ren.t ρ 3) "zsortanyfunc.go:422"
                                        #[Edge.mk 15 (Ground.gcOnly Departure.lateStores)] none,
                                      Oper.mk (some 117)
                                        (Op.binOp BinOp.sub (Ren.t ρ 3) (Operand.tmp 116)
                                          (Operand.const (Value.int IntKind.i64 1)) (Ren.t ρ 3))
                                        (Ren.t ρ 3) "zsortanyfunc.go:422"
                                        #[Edge.mk 3 Ground.data, Edge.mk 15 (Ground.gcOnly Departure.lateStores)] none,
                                      Oper.mk (some 118) (Op.move (Operand.tmp 0)) (Ren.t ρ 28) "zsortanyfunc.go:422"
                                        #[] none,
                                      Oper.mk (some 119) (Op.move (Operand.tmp 17)) (Ren.t ρ 3) "zsortanyfunc.go:422"
                                        #[] none,
                                      Oper.mk (some 120)
                                        (Op.binOp BinOp.sub (Ren.t ρ 3) (Operand.tmp 119)
                                          (Operand.const (Value.int IntKind.i64 1)) (Ren.t ρ 3))
                                        (Ren.t ρ 3) "zsortanyfunc.go:422" #[Edge.mk 6 Ground.data] none,
                                      Oper.mk (some 121) (Op.indexAddr (Ren.t ρ 28) (Operand.tmp 118) (Operand.tmp 120))
                                        (Ren.t ρ 0) "zsortanyfunc.go:422"
                                        #[Edge.mk 5 Ground.data, Edge.mk 7 Ground.data] none,
                                      Oper.mk (some 122) (Op.load (Ren.t ρ 35) (Operand.tmp 121)) (Ren.t ρ 35)
                                        "zsortanyfunc.go:422" #[Edge.mk 8 Ground.data] none,
                                      Oper.mk (some 123) (Op.move (Operand.tmp 0)) (Ren.t ρ 28) "zsortanyfunc.go:422"
                                        #[] none,
                                      Oper.mk (some 124) (Op.move (Operand.tmp 17)) (Ren.t ρ 3) "zsortanyfunc.go:422"
                                        #[] none,
                                      Oper.mk (some 125) (Op.indexAddr (Ren.t ρ 28) (Operand.tmp 123) (Operand.tmp 124))
                                        (Ren.t ρ 0) "zsortanyfunc.go:422"
                                        #[Edge.mk 10 Ground.data, Edge.mk 11 Ground.data] none,
                                      Oper.mk (some 126) (Op.load (Ren.t ρ 35) (Operand.tmp 125)) (Ren.t ρ 35)
                                        "zsortanyfunc.go:422" #[Edge.mk 12 Ground.data] none,
                                      Oper.mk (some 127) (Op.indexAddr (Ren.t ρ 28) (Operand.tmp 113) (Operand.tmp 114))
                                        (Ren.t ρ 0) "zsortanyfunc.go:422"
                                        #[Edge.mk 0 Ground.data, Edge.mk 1 Ground.data, Edge.mk 0 Ground.phase,
                                          Edge.mk 1 Ground.phase, Edge.mk 2 (Ground.textOnly Departure.lateStores),
                                          Edge.mk 3 (Ground.textOnly Departure.lateStores),
                                          Edge.mk 4 (Ground.textOnly Departure.lateStores), Edge.mk 5 Ground.phase,
                                          Edge.mk 6 Ground.phase, Edge.mk 7 Ground.phase, Edge.mk 8 Ground.phase,
                                          Edge.mk 9 Ground.phase, Edge.mk 10 (Ground.textOnly Departure.lateStores),
                                          Edge.mk 11 (Ground.textOnly Departure.lateStores),
                                          Edge.mk 12 (Ground.textOnly Departure.lateStoresUnsure),
                                          Edge.mk 13 Ground.phase]
                                        none,
                                      Oper.mk none (Op.store (Ren.t ρ 35) (Operand.tmp 127) (Operand.tmp 122))
                                        (Ren.t ρ 0) "zsortanyfunc.go:422"
                                        #[Edge.mk 14 Ground.data, Edge.mk 9 Ground.data, Edge.mk 0 Ground.phase,
                                          Edge.mk 1 Ground.phase, Edge.mk 2 (Ground.textOnly Departure.lateStores),
                                          Edge.mk 3 (Ground.textOnly Departure.lateStores),
                                          Edge.mk 4 (Ground.textOnly Departure.lateStores), Edge.mk 5 Ground.phase,
                                          Edge.mk 6 Ground.phase, Edge.mk 7 Ground.phase, Edge.mk 8 Ground.phase,
                                          Edge.mk 9 Ground.phase, Edge.mk 10 (Ground.textOnly Departure.lateStores),
                                          Edge.mk 11 (Ground.textOnly Departure.lateStores),
                                          Edge.mk 12 (Ground.textOnly Departure.lateStoresUnsure),
                                          Edge.mk 13 Ground.phase]
                                        none,
                                      Oper.mk (some 128) (Op.indexAddr (Ren.t ρ 28) (Operand.tmp 115) (Operand.tmp 117))
                                        (Ren.t ρ 0) "zsortanyfunc.go:422"
                                        #[Edge.mk 2 Ground.data, Edge.mk 4 Ground.data, Edge.mk 0 Ground.phase,
                                          Edge.mk 1 Ground.phase, Edge.mk 2 Ground.phase, Edge.mk 3 Ground.phase,
                                          Edge.mk 4 Ground.phase, Edge.mk 5 Ground.phase, Edge.mk 6 Ground.phase,
                                          Edge.mk 7 Ground.phase, Edge.mk 8 Ground.phase, Edge.mk 9 Ground.phase,
                                          Edge.mk 10 Ground.phase, Edge.mk 11 Ground.phase, Edge.mk 12 Ground.phase,
                                          Edge.mk 13 Ground.phase, Edge.mk 14 Ground.phase, Edge.mk 15 Ground.phase]
                                        none,
                                      Oper.mk none (Op.store (Ren.t ρ 35) (Operand.tmp 128) (Operand.tmp 126))
                                        (Ren.t ρ 0) "zsortanyfunc.go:422"
                                        #[Edge.mk 16 Ground.data, Edge.mk 13 Ground.data, Edge.mk 15 Ground.chain,
                                          Edge.mk 0 Ground.phase, Edge.mk 1 Ground.phase, Edge.mk 2 Ground.phase,
                                          Edge.mk 3 Ground.phase, Edge.mk 4 Ground.phase, Edge.mk 5 Ground.phase,
                                          Edge.mk 6 Ground.phase, Edge.mk 7 Ground.phase, Edge.mk 8 Ground.phase,
                                          Edge.mk 9 Ground.phase, Edge.mk 10 Ground.phase, Edge.mk 11 Ground.phase,
                                          Edge.mk 12 Ground.phase, Edge.mk 13 Ground.phase, Edge.mk 14 Ground.phase,
                                          Edge.mk 15 Ground.phase]
                                        none]
                                    true))
                                (Code.region 22
                                  #[Oper.mk (some 111) (Op.move (Operand.tmp 17)) (Ren.t ρ 3) "zsortanyfunc.go:421" #[]
                                      none,
                                    Oper.mk (some 112)
                                      (Op.binOp BinOp.sub (Ren.t ρ 3) (Operand.tmp 111)
                                        (Operand.const (Value.int IntKind.i64 1)) (Ren.t ρ 3))
                                      (Ren.t ρ 3) "zsortanyfunc.go:421" #[Edge.mk 0 Ground.data] none,
                                    Oper.mk (some 17) (Op.assign (Operand.tmp 112)) (Ren.t ρ 3) "zsortanyfunc.go:421"
                                      #[Edge.mk 1 Ground.data, Edge.mk 0 Ground.phase, Edge.mk 1 Ground.phase] none]
                                  false))))))
                      Code.ret))))
              Code.skip))
          (Code.seq
            (Code.region 24
              #[Oper.mk (some 129) (Op.move (Operand.tmp 1)) (Ren.t ρ 3) "zsortanyfunc.go:427" #[] none,
                Oper.mk (some 130) (Op.move (Operand.tmp 3)) (Ren.t ρ 3) "zsortanyfunc.go:427" #[] none,
                Oper.mk (some 131) (Op.binOp BinOp.add (Ren.t ρ 3) (Operand.tmp 129) (Operand.tmp 130) (Ren.t ρ 3))
                  (Ren.t ρ 3) "zsortanyfunc.go:427" #[Edge.mk 0 Ground.data, Edge.mk 1 Ground.data] none,
                Oper.mk (some 132) (Op.convert (Ren.t ρ 3) (Ren.t ρ 37) (Operand.tmp 131)) (Ren.t ρ 37)
                  "zsortanyfunc.go:427" #[Edge.mk 2 Ground.data] none,
                Oper.mk (some 133)
                  (Op.binOp BinOp.shr (Ren.t ρ 37) (Operand.tmp 132) (Operand.const (Value.int IntKind.u64 1))
                    (Ren.t ρ 37))
                  (Ren.t ρ 37) "zsortanyfunc.go:427" #[Edge.mk 3 Ground.data] none,
                Oper.mk (some 134) (Op.convert (Ren.t ρ 37) (Ren.t ρ 3) (Operand.tmp 133)) (Ren.t ρ 3)
                  "zsortanyfunc.go:427" #[Edge.mk 4 Ground.data] none,
                Oper.mk (some 18) (Op.assign (Operand.tmp 134)) (Ren.t ρ 3) "zsortanyfunc.go:427"
                  #[Edge.mk 5 Ground.data, Edge.mk 0 Ground.phase, Edge.mk 1 Ground.phase, Edge.mk 2 Ground.phase,
                    Edge.mk 3 Ground.phase, Edge.mk 4 Ground.phase, Edge.mk 5 Ground.phase]
                  none]
              false)
            (Code.seq
              (Code.region 25
                #[Oper.mk (some 135) (Op.move (Operand.tmp 18)) (Ren.t ρ 3) "zsortanyfunc.go:428" #[] none,
                  Oper.mk (some 136) (Op.move (Operand.tmp 2)) (Ren.t ρ 3) "zsortanyfunc.go:428" #[] none,
                  Oper.mk (some 137) (Op.binOp BinOp.add (Ren.t ρ 3) (Operand.tmp 135) (Operand.tmp 136) (Ren.t ρ 3))
                    (Ren.t ρ 3) "zsortanyfunc.go:428" #[Edge.mk 0 Ground.data, Edge.mk 1 Ground.data] none,
                  Oper.mk (some 19) (Op.assign (Operand.tmp 137)) (Ren.t ρ 3) "zsortanyfunc.go:428"
                    #[Edge.mk 2 Ground.data, Edge.mk 0 Ground.phase, Edge.mk 1 Ground.phase, Edge.mk 2 Ground.phase]
                    none]
                false)
              (Code.seq
                (Code.region 26
                  #[Oper.mk (some 20) (Op.assign (Operand.const (Value.int IntKind.i64 0))) (Ren.t ρ 3)
                      "zsortanyfunc.go:429" #[] none,
                    Oper.mk (some 21) (Op.assign (Operand.const (Value.int IntKind.i64 0))) (Ren.t ρ 3)
                      "zsortanyfunc.go:429" #[Edge.mk 0 Ground.chain] none]
                  false)
                (Code.seq
                  (Code.seq
                    (Code.region 27
                      #[Oper.mk (some 138) (Op.move (Operand.tmp 2)) (Ren.t ρ 3) "zsortanyfunc.go:430" #[] none,
                        Oper.mk (some 139) (Op.move (Operand.tmp 18)) (Ren.t ρ 3) "zsortanyfunc.go:430" #[] none,
                        Oper.mk (some 140)
                          (Op.binOp BinOp.gtr (Ren.t ρ 3) (Operand.tmp 138) (Operand.tmp 139) (Ren.t ρ 3)) (Ren.t ρ 4)
                          "zsortanyfunc.go:430" #[Edge.mk 0 Ground.data, Edge.mk 1 Ground.data] none]
                      false)
                    (Code.cond (Operand.tmp 140)
                      (Code.seq
                        (Code.region 28
                          #[Oper.mk (some 141) (Op.move (Operand.tmp 19)) (Ren.t ρ 3) "zsortanyfunc.go:431" #[] none,
                            Oper.mk (some 142) (Op.move (Operand.tmp 3)) (Ren.t ρ 3) "zsortanyfunc.go:431" #[] none,
                            Oper.mk (some 143)
                              (Op.binOp BinOp.sub (Ren.t ρ 3) (Operand.tmp 141) (Operand.tmp 142) (Ren.t ρ 3))
                              (Ren.t ρ 3) "zsortanyfunc.go:431" #[Edge.mk 0 Ground.data, Edge.mk 1 Ground.data] none,
                            Oper.mk (some 20) (Op.assign (Operand.tmp 143)) (Ren.t ρ 3) "zsortanyfunc.go:431"
                              #[Edge.mk 2 Ground.data, Edge.mk 0 Ground.phase, Edge.mk 1 Ground.phase,
                                Edge.mk 2 Ground.phase]
                              none]
                          false)
                        (Code.region 29
                          #[Oper.mk (some 144) (Op.move (Operand.tmp 18)) (Ren.t ρ 3) "zsortanyfunc.go:432" #[] none,
                            Oper.mk (some 21) (Op.assign (Operand.tmp 144)) (Ren.t ρ 3) "zsortanyfunc.go:432"
                              #[Edge.mk 0 Ground.data, Edge.mk 0 Ground.phase] none]
                          false))
                      (Code.seq
                        (Code.region 30
                          #[Oper.mk (some 145) (Op.move (Operand.tmp 1)) (Ren.t ρ 3) "zsortanyfunc.go:434" #[] none,
                            Oper.mk (some 20) (Op.assign (Operand.tmp 145)) (Ren.t ρ 3) "zsortanyfunc.go:434"
                              #[Edge.mk 0 Ground.data, Edge.mk 0 Ground.phase] none]
                          false)
                        (Code.region 31
                          #[Oper.mk (some 146) (Op.move (Operand.tmp 2)) (Ren.t ρ 3) "zsortanyfunc.go:435" #[] none,
                            Oper.mk (some 21) (Op.assign (Operand.tmp 146)) (Ren.t ρ 3) "zsortanyfunc.go:435"
                              #[Edge.mk 0 Ground.data, Edge.mk 0 Ground.phase] none]
                          false))))
                  (Code.seq
                    (Code.region 32
                      #[Oper.mk (some 147) (Op.move (Operand.tmp 19)) (Ren.t ρ 3) "zsortanyfunc.go:437" #[] none,
                        Oper.mk (some 148)
                          (Op.binOp BinOp.sub (Ren.t ρ 3) (Operand.tmp 147) (Operand.const (Value.int IntKind.i64 1))
                            (Ren.t ρ 3))
                          (Ren.t ρ 3) "zsortanyfunc.go:437" #[Edge.mk 0 Ground.data] none,
                        Oper.mk (some 22) (Op.assign (Operand.tmp 148)) (Ren.t ρ 3) "zsortanyfunc.go:437"
                          #[Edge.mk 1 Ground.data, Edge.mk 0 Ground.phase, Edge.mk 1 Ground.phase] none]
                      false)
                    (Code.seq
                      (Code.block 8
                        (Code.loop
                          (Code.seq
                            (Code.seq
                              (Code.region 33
                                #[Oper.mk (some 149) (Op.move (Operand.tmp 20)) (Ren.t ρ 3) "zsortanyfunc.go:439" #[]
                                    none,
                                  Oper.mk (some 150) (Op.move (Operand.tmp 21)) (Ren.t ρ 3) "zsortanyfunc.go:439" #[]
                                    none,
                                  Oper.mk (some 151)
                                    (Op.binOp BinOp.lss (Ren.t ρ 3) (Operand.tmp 149) (Operand.tmp 150) (Ren.t ρ 3))
                                    (Ren.t ρ 4) "zsortanyfunc.go:439" #[Edge.mk 0 Ground.data, Edge.mk 1 Ground.data]
                                    none]
                                false)
                              (Code.cond (Operand.tmp 151) Code.skip (Code.exit 8)))
                            (Code.block 9
                              (Code.seq
                                (Code.region 34
                                  #[Oper.mk (some 152) (Op.move (Operand.tmp 20)) (Ren.t ρ 3) "zsortanyfunc.go:440" #[]
                                      none,
                                    Oper.mk (some 153) (Op.move (Operand.tmp 21)) (Ren.t ρ 3) "zsortanyfunc.go:440" #[]
                                      none,
                                    Oper.mk (some 154)
                                      (Op.binOp BinOp.add (Ren.t ρ 3) (Operand.tmp 152) (Operand.tmp 153) (Ren.t ρ 3))
                                      (Ren.t ρ 3) "zsortanyfunc.go:440" #[Edge.mk 0 Ground.data, Edge.mk 1 Ground.data]
                                      none,
                                    Oper.mk (some 155) (Op.convert (Ren.t ρ 3) (Ren.t ρ 37) (Operand.tmp 154))
                                      (Ren.t ρ 37) "zsortanyfunc.go:440" #[Edge.mk 2 Ground.data] none,
                                    Oper.mk (some 156)
                                      (Op.binOp BinOp.shr (Ren.t ρ 37) (Operand.tmp 155)
                                        (Operand.const (Value.int IntKind.u64 1)) (Ren.t ρ 37))
                                      (Ren.t ρ 37) "zsortanyfunc.go:440" #[Edge.mk 3 Ground.data] none,
                                    Oper.mk (some 157) (Op.convert (Ren.t ρ 37) (Ren.t ρ 3) (Operand.tmp 156))
                                      (Ren.t ρ 3) "zsortanyfunc.go:440" #[Edge.mk 4 Ground.data] none,
                                    Oper.mk (some 23) (Op.assign (Operand.tmp 157)) (Ren.t ρ 3) "zsortanyfunc.go:440"
                                      #[Edge.mk 5 Ground.data, Edge.mk 0 Ground.phase, Edge.mk 1 Ground.phase,
                                        Edge.mk 2 Ground.phase, Edge.mk 3 Ground.phase, Edge.mk 4 Ground.phase,
                                        Edge.mk 5 Ground.phase]
                                      none]
                                  false)
                                (Code.seq
                                  (Code.region 35
                                    #[Oper.mk (some 158) (Op.move (Operand.tmp 4)) (Ren.t ρ 79) "zsortanyfunc.go:441"
                                        #[] none,
                                      Oper.mk (some 159) (Op.move (Operand.tmp 0)) (Ren.t ρ 28) "zsortanyfunc.go:441"
                                        #[] none,
                                      Oper.mk (some 160) (Op.move (Operand.tmp 22)) (Ren.t ρ 3) "zsortanyfunc.go:441"
                                        #[] none,
                                      Oper.mk (some 161) (Op.move (Operand.tmp 23)) (Ren.t ρ 3) "zsortanyfunc.go:441"
                                        #[] none,
                                      Oper.mk (some 162)
                                        (Op.binOp BinOp.sub (Ren.t ρ 3) (Operand.tmp 160) (Operand.tmp 161) (Ren.t ρ 3))
                                        (Ren.t ρ 3) "zsortanyfunc.go:441"
                                        #[Edge.mk 2 Ground.data, Edge.mk 3 Ground.data] none,
                                      Oper.mk (some 163) (Op.indexAddr (Ren.t ρ 28) (Operand.tmp 159) (Operand.tmp 162))
                                        (Ren.t ρ 0) "zsortanyfunc.go:441"
                                        #[Edge.mk 1 Ground.data, Edge.mk 4 Ground.data] none,
                                      Oper.mk (some 164) (Op.load (Ren.t ρ 35) (Operand.tmp 163)) (Ren.t ρ 35)
                                        "zsortanyfunc.go:441" #[Edge.mk 5 Ground.data] none,
                                      Oper.mk (some 165) (Op.move (Operand.tmp 0)) (Ren.t ρ 28) "zsortanyfunc.go:441"
                                        #[] none,
                                      Oper.mk (some 166) (Op.move (Operand.tmp 23)) (Ren.t ρ 3) "zsortanyfunc.go:441"
                                        #[] none,
                                      Oper.mk (some 167) (Op.indexAddr (Ren.t ρ 28) (Operand.tmp 165) (Operand.tmp 166))
                                        (Ren.t ρ 0) "zsortanyfunc.go:441"
                                        #[Edge.mk 7 Ground.data, Edge.mk 8 Ground.data] none,
                                      Oper.mk (some 168) (Op.load (Ren.t ρ 35) (Operand.tmp 167)) (Ren.t ρ 35)
                                        "zsortanyfunc.go:441" #[Edge.mk 9 Ground.data] none,
                                      Oper.mk (some 169)
                                        (Op.call
                                          (Call.mk (Callee.value (Operand.tmp 158)) #[Operand.tmp 164, Operand.tmp 168]
                                            #[Ren.t ρ 35, Ren.t ρ 35]))
                                        (Ren.t ρ 3) "zsortanyfunc.go:441"
                                        #[Edge.mk 0 Ground.data, Edge.mk 6 Ground.data, Edge.mk 10 Ground.data] none,
                                      Oper.mk (some 170)
                                        (Op.binOp BinOp.lss (Ren.t ρ 3) (Operand.tmp 169)
                                          (Operand.const (Value.int IntKind.i64 0)) (Ren.t ρ 3))
                                        (Ren.t ρ 4) "zsortanyfunc.go:441" #[Edge.mk 11 Ground.data] none,
                                      Oper.mk (some 171) (Op.unOp UnOp.not (Ren.t ρ 4) (Operand.tmp 170)) (Ren.t ρ 4)
                                        "zsortanyfunc.go:441" #[Edge.mk 12 Ground.data] none]
                                    true)
                                  (Code.cond (Operand.tmp 171)
                                    (Code.region 36
                                      #[Oper.mk (some 172) (Op.move (Operand.tmp 23)) (Ren.t ρ 3) "zsortanyfunc.go:442"
                                          #[] none,
                                        Oper.mk (some 173)
                                          (Op.binOp BinOp.add (Ren.t ρ 3) (Operand.tmp 172)
                                            (Operand.const (Value.int IntKind.i64 1)) (Ren.t ρ 3))
                                          (Ren.t ρ 3) "zsortanyfunc.go:442" #[Edge.mk 0 Ground.data] none,
                                        Oper.mk (some 20) (Op.assign (Operand.tmp 173)) (Ren.t ρ 3)
                                          "zsortanyfunc.go:442"
                                          #[Edge.mk 1 Ground.data, Edge.mk 0 Ground.phase, Edge.mk 1 Ground.phase] none]
                                      false)
                                    (Code.region 37
                                      #[Oper.mk (some 174) (Op.move (Operand.tmp 23)) (Ren.t ρ 3) "zsortanyfunc.go:444"
                                          #[] none,
                                        Oper.mk (some 21) (Op.assign (Operand.tmp 174)) (Ren.t ρ 3)
                                          "zsortanyfunc.go:444" #[Edge.mk 0 Ground.data, Edge.mk 0 Ground.phase] none]
                                      false))))))))
                      (Code.seq
                        (Code.region 38
                          #[Oper.mk (some 175) (Op.move (Operand.tmp 19)) (Ren.t ρ 3) "zsortanyfunc.go:448" #[] none,
                            Oper.mk (some 176) (Op.move (Operand.tmp 20)) (Ren.t ρ 3) "zsortanyfunc.go:448" #[] none,
                            Oper.mk (some 177)
                              (Op.binOp BinOp.sub (Ren.t ρ 3) (Operand.tmp 175) (Operand.tmp 176) (Ren.t ρ 3))
                              (Ren.t ρ 3) "zsortanyfunc.go:448" #[Edge.mk 0 Ground.data, Edge.mk 1 Ground.data] none,
                            Oper.mk (some 24) (Op.assign (Operand.tmp 177)) (Ren.t ρ 3) "zsortanyfunc.go:448"
                              #[Edge.mk 2 Ground.data, Edge.mk 0 Ground.phase, Edge.mk 1 Ground.phase,
                                Edge.mk 2 Ground.phase]
                              none]
                          false)
                        (Code.seq
                          (Code.seq
                            (Code.region 39
                              #[Oper.mk (some 178) (Op.move (Operand.tmp 20)) (Ren.t ρ 3) "zsortanyfunc.go:449" #[]
                                  none,
                                Oper.mk (some 179) (Op.move (Operand.tmp 2)) (Ren.t ρ 3) "zsortanyfunc.go:449" #[] none,
                                Oper.mk (some 180)
                                  (Op.binOp BinOp.lss (Ren.t ρ 3) (Operand.tmp 178) (Operand.tmp 179) (Ren.t ρ 3))
                                  (Ren.t ρ 4) "zsortanyfunc.go:449" #[Edge.mk 0 Ground.data, Edge.mk 1 Ground.data]
                                  none,
                                Oper.mk (some 181) (Op.move (Operand.tmp 180)) (Ren.t ρ 4) "zsortanyfunc.go:449"
                                  #[Edge.mk 2 Ground.data] none,
                                Oper.mk (some 182) (Op.move (Operand.tmp 2)) (Ren.t ρ 3) "zsortanyfunc.go:449"
                                  #[Edge.mk 3 Ground.guard] (some (3, true)),
                                Oper.mk (some 183) (Op.move (Operand.tmp 24)) (Ren.t ρ 3) "zsortanyfunc.go:449"
                                  #[Edge.mk 3 Ground.guard] (some (3, true)),
                                Oper.mk (some 184)
                                  (Op.binOp BinOp.lss (Ren.t ρ 3) (Operand.tmp 182) (Operand.tmp 183) (Ren.t ρ 3))
                                  (Ren.t ρ 4) "zsortanyfunc.go:449"
                                  #[Edge.mk 4 Ground.data, Edge.mk 5 Ground.data, Edge.mk 3 Ground.guard]
                                  (some (3, true)),
                                Oper.mk (some 185)
                                  (Op.pick (Operand.tmp 181) (Operand.tmp 184) (Operand.const (Value.bool false)))
                                  (Ren.t ρ 4) "zsortanyfunc.go:449" #[Edge.mk 3 Ground.data, Edge.mk 6 Ground.data]
                                  none]
                              false)
                            (Code.cond (Operand.tmp 185)
                              (Code.region 40
                                #[Oper.mk (some 186) (Op.move (Operand.tmp 0)) (Ren.t ρ 28) "zsortanyfunc.go:450" #[]
                                    none,
                                  Oper.mk (some 187) (Op.move (Operand.tmp 20)) (Ren.t ρ 3) "zsortanyfunc.go:450" #[]
                                    none,
                                  Oper.mk (some 188) (Op.move (Operand.tmp 2)) (Ren.t ρ 3) "zsortanyfunc.go:450" #[]
                                    none,
                                  Oper.mk (some 189) (Op.move (Operand.tmp 24)) (Ren.t ρ 3) "zsortanyfunc.go:450" #[]
                                    none,
                                  Oper.mk (some 190) (Op.move (Operand.tmp 4)) (Ren.t ρ 79) "zsortanyfunc.go:450" #[]
                                    none,
                                  Oper.mk (some 191)
                                    (Op.call
                                      (Call.mk (Callee.value (Operand.func (Ren.f ρ 80)))
                                        #[Operand.tmp 186, Operand.tmp 187, Operand.tmp 188, Operand.tmp 189,
                                          Operand.tmp 190]
                                        #[Ren.t ρ 28, Ren.t ρ 3, Ren.t ρ 3, Ren.t ρ 3, Ren.t ρ 79]))
                                    (Ren.t ρ 0) "zsortanyfunc.go:450"
                                    #[Edge.mk 0 Ground.data, Edge.mk 1 Ground.data, Edge.mk 2 Ground.data,
                                      Edge.mk 3 Ground.data, Edge.mk 4 Ground.data]
                                    none]
                                false)
                              Code.skip))
                          (Code.seq
                            (Code.seq
                              (Code.region 41
                                #[Oper.mk (some 192) (Op.move (Operand.tmp 1)) (Ren.t ρ 3) "zsortanyfunc.go:452" #[]
                                    none,
                                  Oper.mk (some 193) (Op.move (Operand.tmp 20)) (Ren.t ρ 3) "zsortanyfunc.go:452" #[]
                                    none,
                                  Oper.mk (some 194)
                                    (Op.binOp BinOp.lss (Ren.t ρ 3) (Operand.tmp 192) (Operand.tmp 193) (Ren.t ρ 3))
                                    (Ren.t ρ 4) "zsortanyfunc.go:452" #[Edge.mk 0 Ground.data, Edge.mk 1 Ground.data]
                                    none,
                                  Oper.mk (some 195) (Op.move (Operand.tmp 194)) (Ren.t ρ 4) "zsortanyfunc.go:452"
                                    #[Edge.mk 2 Ground.data] none,
                                  Oper.mk (some 196) (Op.move (Operand.tmp 20)) (Ren.t ρ 3) "zsortanyfunc.go:452"
                                    #[Edge.mk 3 Ground.guard] (some (3, true)),
                                  Oper.mk (some 197) (Op.move (Operand.tmp 18)) (Ren.t ρ 3) "zsortanyfunc.go:452"
                                    #[Edge.mk 3 Ground.guard] (some (3, true)),
                                  Oper.mk (some 198)
                                    (Op.binOp BinOp.lss (Ren.t ρ 3) (Operand.tmp 196) (Operand.tmp 197) (Ren.t ρ 3))
                                    (Ren.t ρ 4) "zsortanyfunc.go:452"
                                    #[Edge.mk 4 Ground.data, Edge.mk 5 Ground.data, Edge.mk 3 Ground.guard]
                                    (some (3, true)),
                                  Oper.mk (some 199)
                                    (Op.pick (Operand.tmp 195) (Operand.tmp 198) (Operand.const (Value.bool false)))
                                    (Ren.t ρ 4) "zsortanyfunc.go:452" #[Edge.mk 3 Ground.data, Edge.mk 6 Ground.data]
                                    none]
                                false)
                              (Code.cond (Operand.tmp 199)
                                (Code.region 42
                                  #[Oper.mk (some 200) (Op.move (Operand.tmp 0)) (Ren.t ρ 28) "zsortanyfunc.go:453" #[]
                                      none,
                                    Oper.mk (some 201) (Op.move (Operand.tmp 1)) (Ren.t ρ 3) "zsortanyfunc.go:453" #[]
                                      none,
                                    Oper.mk (some 202) (Op.move (Operand.tmp 20)) (Ren.t ρ 3) "zsortanyfunc.go:453" #[]
                                      none,
                                    Oper.mk (some 203) (Op.move (Operand.tmp 18)) (Ren.t ρ 3) "zsortanyfunc.go:453" #[]
                                      none,
                                    Oper.mk (some 204) (Op.move (Operand.tmp 4)) (Ren.t ρ 79) "zsortanyfunc.go:453" #[]
                                      none,
                                    Oper.mk (some 205)
                                      (Op.call
                                        (Call.mk (Callee.value (Operand.func (Ren.f ρ 72)))
                                          #[Operand.tmp 200, Operand.tmp 201, Operand.tmp 202, Operand.tmp 203,
                                            Operand.tmp 204]
                                          #[Ren.t ρ 28, Ren.t ρ 3, Ren.t ρ 3, Ren.t ρ 3, Ren.t ρ 79]))
                                      (Ren.t ρ 0) "zsortanyfunc.go:453"
                                      #[Edge.mk 0 Ground.data, Edge.mk 1 Ground.data, Edge.mk 2 Ground.data,
                                        Edge.mk 3 Ground.data, Edge.mk 4 Ground.data]
                                      none]
                                  false)
                                Code.skip))
                            (Code.seq
                              (Code.region 43
                                #[Oper.mk (some 206) (Op.move (Operand.tmp 18)) (Ren.t ρ 3) "zsortanyfunc.go:455" #[]
                                    none,
                                  Oper.mk (some 207) (Op.move (Operand.tmp 24)) (Ren.t ρ 3) "zsortanyfunc.go:455" #[]
                                    none,
                                  Oper.mk (some 208)
                                    (Op.binOp BinOp.lss (Ren.t ρ 3) (Operand.tmp 206) (Operand.tmp 207) (Ren.t ρ 3))
                                    (Ren.t ρ 4) "zsortanyfunc.go:455" #[Edge.mk 0 Ground.data, Edge.mk 1 Ground.data]
                                    none,
                                  Oper.mk (some 209) (Op.move (Operand.tmp 208)) (Ren.t ρ 4) "zsortanyfunc.go:455"
                                    #[Edge.mk 2 Ground.data] none,
                                  Oper.mk (some 210) (Op.move (Operand.tmp 24)) (Ren.t ρ 3) "zsortanyfunc.go:455"
                                    #[Edge.mk 3 Ground.guard] (some (3, true)),
                                  Oper.mk (some 211) (Op.move (Operand.tmp 3)) (Ren.t ρ 3) "zsortanyfunc.go:455"
                                    #[Edge.mk 3 Ground.guard] (some (3, true)),
                                  Oper.mk (some 212)
                                    (Op.binOp BinOp.lss (Ren.t ρ 3) (Operand.tmp 210) (Operand.tmp 211) (Ren.t ρ 3))
                                    (Ren.t ρ 4) "zsortanyfunc.go:455"
                                    #[Edge.mk 4 Ground.data, Edge.mk 5 Ground.data, Edge.mk 3 Ground.guard]
                                    (some (3, true)),
                                  Oper.mk (some 213)
                                    (Op.pick (Operand.tmp 209) (Operand.tmp 212) (Operand.const (Value.bool false)))
                                    (Ren.t ρ 4) "zsortanyfunc.go:455" #[Edge.mk 3 Ground.data, Edge.mk 6 Ground.data]
                                    none]
                                false)
                              (Code.cond (Operand.tmp 213)
                                (Code.region 44
                                  #[Oper.mk (some 214) (Op.move (Operand.tmp 0)) (Ren.t ρ 28) "zsortanyfunc.go:456" #[]
                                      none,
                                    Oper.mk (some 215) (Op.move (Operand.tmp 18)) (Ren.t ρ 3) "zsortanyfunc.go:456" #[]
                                      none,
                                    Oper.mk (some 216) (Op.move (Operand.tmp 24)) (Ren.t ρ 3) "zsortanyfunc.go:456" #[]
                                      none,
                                    Oper.mk (some 217) (Op.move (Operand.tmp 3)) (Ren.t ρ 3) "zsortanyfunc.go:456" #[]
                                      none,
                                    Oper.mk (some 218) (Op.move (Operand.tmp 4)) (Ren.t ρ 79) "zsortanyfunc.go:456" #[]
                                      none,
                                    Oper.mk (some 219)
                                      (Op.call
                                        (Call.mk (Callee.value (Operand.func (Ren.f ρ 72)))
                                          #[Operand.tmp 214, Operand.tmp 215, Operand.tmp 216, Operand.tmp 217,
                                            Operand.tmp 218]
                                          #[Ren.t ρ 28, Ren.t ρ 3, Ren.t ρ 3, Ren.t ρ 3, Ren.t ρ 79]))
                                      (Ren.t ρ 0) "zsortanyfunc.go:456"
                                      #[Edge.mk 0 Ground.data, Edge.mk 1 Ground.data, Edge.mk 2 Ground.data,
                                        Edge.mk 3 Ground.data, Edge.mk 4 Ground.data]
                                      none]
                                  false)
                                Code.skip))))))))))))))
    false false "slices/zsortanyfunc.go" 458 none
    [Departure.mixedOrders, Departure.lateStoresUnsure, Departure.lateStores]
    (List.toArray
      (List.append
        (List.append
          ["data", "a", "m", "b", "cmp", "data", "a", "m", "b", "cmp", "i", "j", "h", "k", "i", "j", "h", "k", "mid",
            "n", "start", "r", "p", "c", "end", "", "", "", "", "", "", "", "", "", "", "", "", "", "", "", "", "", "",
            "", "", "", "", "", "", "", "", "", "", "", ""]
          ["", "", "", "", "", "", "", "", "", "", "", "", "", "", "", "", "", "", "", "", "", "", "", "", "", "", "",
            "", "", "", "", "", "", "", "", "", "", "", "", "", "", "", "", "", "", "", "", "", "", "", "", "", "", "",
            ""])
        (List.append
          ["", "", "", "", "", "", "", "", "", "", "", "", "", "", "", "", "", "", "", "", "", "", "", "", "", "", "",
            "", "", "", "", "", "", "", "", "", "", "", "", "", "", "", "", "", "", "", "", "", "", "", "", "", "", "",
            ""]
          ["", "", "", "", "", "", "", "", "", "", "", "", "", "", "", "", "", "", "", "", "", "", "", "", "", "", "",
            "", "", "", "", "", "", "", "", "", "", "", "", "", "", "", "", "", "", "", "", "", "", "", "", "", "", "",
            ""])))

def stB_stb (ρ : Ren) : Func :=
  Func.mk "slices.stableCmpFunc[rick/api.Rename]" "slices.stableCmpFunc" #[Ren.t ρ 35]
    #[Ren.t ρ 28, Ren.t ρ 3, Ren.t ρ 79] #[] 0 63 #[]
    (some
      (Code.seq
        (Code.region 0
          #[Oper.mk (some 6) (Op.assign (Operand.const (Value.int IntKind.i64 20))) (Ren.t ρ 3) "zsortanyfunc.go:336"
              #[] none]
          false)
        (Code.seq
          (Code.region 1
            #[Oper.mk (some 10) (Op.move (Operand.tmp 6)) (Ren.t ρ 3) "zsortanyfunc.go:337"
                #[Edge.mk 1 (Ground.gcOnly Departure.lateStores)] none,
              Oper.mk (some 7) (Op.assign (Operand.const (Value.int IntKind.i64 0))) (Ren.t ρ 3) "zsortanyfunc.go:337"
                #[Edge.mk 0 (Ground.textOnly Departure.lateStores)] none,
              Oper.mk (some 8) (Op.assign (Operand.tmp 10)) (Ren.t ρ 3) "zsortanyfunc.go:337"
                #[Edge.mk 0 Ground.data, Edge.mk 1 Ground.chain, Edge.mk 0 Ground.phase, Edge.mk 1 Ground.phase] none]
            false)
          (Code.seq
            (Code.block 0
              (Code.loop
                (Code.seq
                  (Code.seq
                    (Code.region 2
                      #[Oper.mk (some 11) (Op.move (Operand.tmp 8)) (Ren.t ρ 3) "zsortanyfunc.go:338" #[] none,
                        Oper.mk (some 12) (Op.move (Operand.tmp 1)) (Ren.t ρ 3) "zsortanyfunc.go:338" #[] none,
                        Oper.mk (some 13) (Op.binOp BinOp.leq (Ren.t ρ 3) (Operand.tmp 11) (Operand.tmp 12) (Ren.t ρ 3))
                          (Ren.t ρ 4) "zsortanyfunc.go:338" #[Edge.mk 0 Ground.data, Edge.mk 1 Ground.data] none]
                      false)
                    (Code.cond (Operand.tmp 13) Code.skip (Code.exit 0)))
                  (Code.block 1
                    (Code.seq
                      (Code.region 3
                        #[Oper.mk (some 14) (Op.move (Operand.tmp 0)) (Ren.t ρ 28) "zsortanyfunc.go:339" #[] none,
                          Oper.mk (some 15) (Op.move (Operand.tmp 7)) (Ren.t ρ 3) "zsortanyfunc.go:339" #[] none,
                          Oper.mk (some 16) (Op.move (Operand.tmp 8)) (Ren.t ρ 3) "zsortanyfunc.go:339" #[] none,
                          Oper.mk (some 17) (Op.move (Operand.tmp 2)) (Ren.t ρ 79) "zsortanyfunc.go:339" #[] none,
                          Oper.mk (some 18)
                            (Op.call
                              (Call.mk (Callee.value (Operand.func (Ren.f ρ 71)))
                                #[Operand.tmp 14, Operand.tmp 15, Operand.tmp 16, Operand.tmp 17]
                                #[Ren.t ρ 28, Ren.t ρ 3, Ren.t ρ 3, Ren.t ρ 79]))
                            (Ren.t ρ 0) "zsortanyfunc.go:339"
                            #[Edge.mk 0 Ground.data, Edge.mk 1 Ground.data, Edge.mk 2 Ground.data,
                              Edge.mk 3 Ground.data]
                            none]
                        false)
                      (Code.seq
                        (Code.region 4
                          #[Oper.mk (some 19) (Op.move (Operand.tmp 8)) (Ren.t ρ 3) "zsortanyfunc.go:340" #[] none,
                            Oper.mk (some 7) (Op.assign (Operand.tmp 19)) (Ren.t ρ 3) "zsortanyfunc.go:340"
                              #[Edge.mk 0 Ground.data, Edge.mk 0 Ground.phase] none]
                          false)
                        (Code.region 5
                          #[Oper.mk (some 20) (Op.move (Operand.tmp 8)) (Ren.t ρ 3) "zsortanyfunc.go:341" #[] none,
                            Oper.mk (some 21) (Op.move (Operand.tmp 6)) (Ren.t ρ 3) "zsortanyfunc.go:341" #[] none,
                            Oper.mk (some 22)
                              (Op.binOp BinOp.add (Ren.t ρ 3) (Operand.tmp 20) (Operand.tmp 21) (Ren.t ρ 3)) (Ren.t ρ 3)
                              "zsortanyfunc.go:341" #[Edge.mk 0 Ground.data, Edge.mk 1 Ground.data] none,
                            Oper.mk (some 8) (Op.assign (Operand.tmp 22)) (Ren.t ρ 3) "zsortanyfunc.go:341"
                              #[Edge.mk 2 Ground.data, Edge.mk 0 Ground.phase, Edge.mk 1 Ground.phase,
                                Edge.mk 2 Ground.phase]
                              none]
                          false)))))))
            (Code.seq
              (Code.region 6
                #[Oper.mk (some 23) (Op.move (Operand.tmp 0)) (Ren.t ρ 28) "zsortanyfunc.go:343" #[] none,
                  Oper.mk (some 24) (Op.move (Operand.tmp 7)) (Ren.t ρ 3) "zsortanyfunc.go:343" #[] none,
                  Oper.mk (some 25) (Op.move (Operand.tmp 1)) (Ren.t ρ 3) "zsortanyfunc.go:343" #[] none,
                  Oper.mk (some 26) (Op.move (Operand.tmp 2)) (Ren.t ρ 79) "zsortanyfunc.go:343" #[] none,
                  Oper.mk (some 27)
                    (Op.call
                      (Call.mk (Callee.value (Operand.func (Ren.f ρ 71)))
                        #[Operand.tmp 23, Operand.tmp 24, Operand.tmp 25, Operand.tmp 26]
                        #[Ren.t ρ 28, Ren.t ρ 3, Ren.t ρ 3, Ren.t ρ 79]))
                    (Ren.t ρ 0) "zsortanyfunc.go:343"
                    #[Edge.mk 0 Ground.data, Edge.mk 1 Ground.data, Edge.mk 2 Ground.data, Edge.mk 3 Ground.data] none]
                false)
              (Code.block 2
                (Code.loop
                  (Code.seq
                    (Code.seq
                      (Code.region 7
                        #[Oper.mk (some 28) (Op.move (Operand.tmp 6)) (Ren.t ρ 3) "zsortanyfunc.go:345" #[] none,
                          Oper.mk (some 29) (Op.move (Operand.tmp 1)) (Ren.t ρ 3) "zsortanyfunc.go:345" #[] none,
                          Oper.mk (some 30)
                            (Op.binOp BinOp.lss (Ren.t ρ 3) (Operand.tmp 28) (Operand.tmp 29) (Ren.t ρ 3)) (Ren.t ρ 4)
                            "zsortanyfunc.go:345" #[Edge.mk 0 Ground.data, Edge.mk 1 Ground.data] none]
                        false)
                      (Code.cond (Operand.tmp 30) Code.skip (Code.exit 2)))
                    (Code.block 3
                      (Code.seq
                        (Code.region 8
                          #[Oper.mk (some 31) (Op.move (Operand.tmp 6)) (Ren.t ρ 3) "zsortanyfunc.go:346"
                              #[Edge.mk 2 (Ground.gcOnly Departure.lateStores)] none,
                            Oper.mk (some 32)
                              (Op.binOp BinOp.mul (Ren.t ρ 3) (Operand.const (Value.int IntKind.i64 2)) (Operand.tmp 31)
                                (Ren.t ρ 3))
                              (Ren.t ρ 3) "zsortanyfunc.go:346"
                              #[Edge.mk 0 Ground.data, Edge.mk 2 (Ground.gcOnly Departure.lateStores)] none,
                            Oper.mk (some 7) (Op.assign (Operand.const (Value.int IntKind.i64 0))) (Ren.t ρ 3)
                              "zsortanyfunc.go:346"
                              #[Edge.mk 0 (Ground.textOnly Departure.lateStores),
                                Edge.mk 1 (Ground.textOnly Departure.lateStores)]
                              none,
                            Oper.mk (some 8) (Op.assign (Operand.tmp 32)) (Ren.t ρ 3) "zsortanyfunc.go:346"
                              #[Edge.mk 1 Ground.data, Edge.mk 2 Ground.chain, Edge.mk 0 Ground.phase,
                                Edge.mk 1 Ground.phase, Edge.mk 2 Ground.phase]
                              none]
                          false)
                        (Code.seq
                          (Code.block 4
                            (Code.loop
                              (Code.seq
                                (Code.seq
                                  (Code.region 9
                                    #[Oper.mk (some 33) (Op.move (Operand.tmp 8)) (Ren.t ρ 3) "zsortanyfunc.go:347" #[]
                                        none,
                                      Oper.mk (some 34) (Op.move (Operand.tmp 1)) (Ren.t ρ 3) "zsortanyfunc.go:347" #[]
                                        none,
                                      Oper.mk (some 35)
                                        (Op.binOp BinOp.leq (Ren.t ρ 3) (Operand.tmp 33) (Operand.tmp 34) (Ren.t ρ 3))
                                        (Ren.t ρ 4) "zsortanyfunc.go:347"
                                        #[Edge.mk 0 Ground.data, Edge.mk 1 Ground.data] none]
                                    false)
                                  (Code.cond (Operand.tmp 35) Code.skip (Code.exit 4)))
                                (Code.block 5
                                  (Code.seq
                                    (Code.region 10
                                      #[Oper.mk (some 36) (Op.move (Operand.tmp 0)) (Ren.t ρ 28) "zsortanyfunc.go:348"
                                          #[] none,
                                        Oper.mk (some 37) (Op.move (Operand.tmp 7)) (Ren.t ρ 3) "zsortanyfunc.go:348"
                                          #[] none,
                                        Oper.mk (some 38) (Op.move (Operand.tmp 7)) (Ren.t ρ 3) "zsortanyfunc.go:348"
                                          #[] none,
                                        Oper.mk (some 39) (Op.move (Operand.tmp 6)) (Ren.t ρ 3) "zsortanyfunc.go:348"
                                          #[] none,
                                        Oper.mk (some 40)
                                          (Op.binOp BinOp.add (Ren.t ρ 3) (Operand.tmp 38) (Operand.tmp 39) (Ren.t ρ 3))
                                          (Ren.t ρ 3) "zsortanyfunc.go:348"
                                          #[Edge.mk 2 Ground.data, Edge.mk 3 Ground.data] none,
                                        Oper.mk (some 41) (Op.move (Operand.tmp 8)) (Ren.t ρ 3) "zsortanyfunc.go:348"
                                          #[] none,
                                        Oper.mk (some 42) (Op.move (Operand.tmp 2)) (Ren.t ρ 79) "zsortanyfunc.go:348"
                                          #[] none,
                                        Oper.mk (some 43)
                                          (Op.call
                                            (Call.mk (Callee.value (Operand.func (Ren.f ρ 72)))
                                              #[Operand.tmp 36, Operand.tmp 37, Operand.tmp 40, Operand.tmp 41,
                                                Operand.tmp 42]
                                              #[Ren.t ρ 28, Ren.t ρ 3, Ren.t ρ 3, Ren.t ρ 3, Ren.t ρ 79]))
                                          (Ren.t ρ 0) "zsortanyfunc.go:348"
                                          #[Edge.mk 0 Ground.data, Edge.mk 1 Ground.data, Edge.mk 4 Ground.data,
                                            Edge.mk 5 Ground.data, Edge.mk 6 Ground.data]
                                          none]
                                      false)
                                    (Code.seq
                                      (Code.region 11
                                        #[Oper.mk (some 44) (Op.move (Operand.tmp 8)) (Ren.t ρ 3) "zsortanyfunc.go:349"
                                            #[] none,
                                          Oper.mk (some 7) (Op.assign (Operand.tmp 44)) (Ren.t ρ 3)
                                            "zsortanyfunc.go:349" #[Edge.mk 0 Ground.data, Edge.mk 0 Ground.phase] none]
                                        false)
                                      (Code.region 12
                                        #[Oper.mk (some 45) (Op.move (Operand.tmp 8)) (Ren.t ρ 3) "zsortanyfunc.go:350"
                                            #[] none,
                                          Oper.mk (some 46) (Op.move (Operand.tmp 6)) (Ren.t ρ 3) "zsortanyfunc.go:350"
                                            #[] none,
                                          Oper.mk (some 47)
                                            (Op.binOp BinOp.mul (Ren.t ρ 3) (Operand.const (Value.int IntKind.i64 2))
                                              (Operand.tmp 46) (Ren.t ρ 3))
                                            (Ren.t ρ 3) "zsortanyfunc.go:350" #[Edge.mk 1 Ground.data] none,
                                          Oper.mk (some 48)
                                            (Op.binOp BinOp.add (Ren.t ρ 3) (Operand.tmp 45) (Operand.tmp 47)
                                              (Ren.t ρ 3))
                                            (Ren.t ρ 3) "zsortanyfunc.go:350"
                                            #[Edge.mk 0 Ground.data, Edge.mk 2 Ground.data] none,
                                          Oper.mk (some 8) (Op.assign (Operand.tmp 48)) (Ren.t ρ 3)
                                            "zsortanyfunc.go:350"
                                            #[Edge.mk 3 Ground.data, Edge.mk 0 Ground.phase, Edge.mk 1 Ground.phase,
                                              Edge.mk 2 Ground.phase, Edge.mk 3 Ground.phase]
                                            none]
                                        false)))))))
                          (Code.seq
                            (Code.seq
                              (Code.region 13
                                #[Oper.mk (some 49) (Op.move (Operand.tmp 7)) (Ren.t ρ 3) "zsortanyfunc.go:352" #[]
                                    none,
                                  Oper.mk (some 50) (Op.move (Operand.tmp 6)) (Ren.t ρ 3) "zsortanyfunc.go:352" #[]
                                    none,
                                  Oper.mk (some 51)
                                    (Op.binOp BinOp.add (Ren.t ρ 3) (Operand.tmp 49) (Operand.tmp 50) (Ren.t ρ 3))
                                    (Ren.t ρ 3) "zsortanyfunc.go:352" #[Edge.mk 0 Ground.data, Edge.mk 1 Ground.data]
                                    none,
                                  Oper.mk (some 9) (Op.assign (Operand.tmp 51)) (Ren.t ρ 3) "zsortanyfunc.go:352"
                                    #[Edge.mk 2 Ground.data, Edge.mk 0 Ground.phase, Edge.mk 1 Ground.phase,
                                      Edge.mk 2 Ground.phase]
                                    none]
                                false)
                              (Code.seq
                                (Code.region 14
                                  #[Oper.mk (some 52) (Op.move (Operand.tmp 9)) (Ren.t ρ 3) "zsortanyfunc.go:352" #[]
                                      none,
                                    Oper.mk (some 53) (Op.move (Operand.tmp 1)) (Ren.t ρ 3) "zsortanyfunc.go:352" #[]
                                      none,
                                    Oper.mk (some 54)
                                      (Op.binOp BinOp.lss (Ren.t ρ 3) (Operand.tmp 52) (Operand.tmp 53) (Ren.t ρ 3))
                                      (Ren.t ρ 4) "zsortanyfunc.go:352" #[Edge.mk 0 Ground.data, Edge.mk 1 Ground.data]
                                      none]
                                  false)
                                (Code.cond (Operand.tmp 54)
                                  (Code.region 15
                                    #[Oper.mk (some 55) (Op.move (Operand.tmp 0)) (Ren.t ρ 28) "zsortanyfunc.go:353" #[]
                                        none,
                                      Oper.mk (some 56) (Op.move (Operand.tmp 7)) (Ren.t ρ 3) "zsortanyfunc.go:353" #[]
                                        none,
                                      Oper.mk (some 57) (Op.move (Operand.tmp 9)) (Ren.t ρ 3) "zsortanyfunc.go:353" #[]
                                        none,
                                      Oper.mk (some 58) (Op.move (Operand.tmp 1)) (Ren.t ρ 3) "zsortanyfunc.go:353" #[]
                                        none,
                                      Oper.mk (some 59) (Op.move (Operand.tmp 2)) (Ren.t ρ 79) "zsortanyfunc.go:353" #[]
                                        none,
                                      Oper.mk (some 60)
                                        (Op.call
                                          (Call.mk (Callee.value (Operand.func (Ren.f ρ 72)))
                                            #[Operand.tmp 55, Operand.tmp 56, Operand.tmp 57, Operand.tmp 58,
                                              Operand.tmp 59]
                                            #[Ren.t ρ 28, Ren.t ρ 3, Ren.t ρ 3, Ren.t ρ 3, Ren.t ρ 79]))
                                        (Ren.t ρ 0) "zsortanyfunc.go:353"
                                        #[Edge.mk 0 Ground.data, Edge.mk 1 Ground.data, Edge.mk 2 Ground.data,
                                          Edge.mk 3 Ground.data, Edge.mk 4 Ground.data]
                                        none]
                                    false)
                                  Code.skip)))
                            (Code.region 16
                              #[Oper.mk (some 61) (Op.move (Operand.tmp 6)) (Ren.t ρ 3) "zsortanyfunc.go:355" #[] none,
                                Oper.mk (some 62)
                                  (Op.binOp BinOp.mul (Ren.t ρ 3) (Operand.tmp 61)
                                    (Operand.const (Value.int IntKind.i64 2)) (Ren.t ρ 3))
                                  (Ren.t ρ 3) "zsortanyfunc.go:355" #[Edge.mk 0 Ground.data] none,
                                Oper.mk (some 6) (Op.assign (Operand.tmp 62)) (Ren.t ρ 3) "zsortanyfunc.go:355"
                                  #[Edge.mk 1 Ground.data, Edge.mk 0 Ground.phase, Edge.mk 1 Ground.phase] none]
                              false)))))))))))))
    false false "slices/zsortanyfunc.go" 357 none [Departure.mixedOrders, Departure.lateStores]
    #["data", "n", "cmp", "data", "n", "cmp", "blockSize", "a", "b", "m", "", "", "", "", "", "", "", "", "", "", "",
      "", "", "", "", "", "", "", "", "", "", "", "", "", "", "", "", "", "", "", "", "", "", "", "", "", "", "", "",
      "", "", "", "", "", "", "", "", "", "", "", "", "", ""]

def stB_top (ρ : Ren) : Func :=
  Func.mk "slices.SortStableFunc[[]rick/api.Rename,rick/api.Rename]" "slices.SortStableFunc" #[Ren.t ρ 28, Ren.t ρ 35]
    #[Ren.t ρ 28, Ren.t ρ 79] #[] 0 9 #[]
    (some
      (Code.region 0
        #[Oper.mk (some 4) (Op.move (Operand.tmp 0)) (Ren.t ρ 28) "sort.go:38" #[] none,
          Oper.mk (some 5) (Op.move (Operand.tmp 0)) (Ren.t ρ 28) "sort.go:38" #[] none,
          Oper.mk (some 6) (Op.call (Call.mk (Callee.builtin Builtin.len) #[Operand.tmp 5] #[Ren.t ρ 28])) (Ren.t ρ 3)
            "sort.go:38" #[Edge.mk 1 Ground.data] none,
          Oper.mk (some 7) (Op.move (Operand.tmp 1)) (Ren.t ρ 79) "sort.go:38" #[] none,
          Oper.mk (some 8)
            (Op.call
              (Call.mk (Callee.value (Operand.func (Ren.f ρ 59))) #[Operand.tmp 4, Operand.tmp 6, Operand.tmp 7]
                #[Ren.t ρ 28, Ren.t ρ 3, Ren.t ρ 79]))
            (Ren.t ρ 0) "sort.go:38" #[Edge.mk 0 Ground.data, Edge.mk 2 Ground.data, Edge.mk 3 Ground.data] none]
        false))
    false false "slices/sort.go" 39 none [] #["x", "cmp", "x", "cmp", "", "", "", "", ""]
theorem stB_swr_ntmps (ρ : Ren) : (stB_swr ρ).ntmps = 38 := rfl
theorem stB_rot_ntmps (ρ : Ren) : (stB_rot ρ).ntmps = 58 := rfl
theorem stB_sym_ntmps (ρ : Ren) : (stB_sym ρ).ntmps = 220 := rfl
theorem stB_stb_ntmps (ρ : Ren) : (stB_stb ρ).ntmps = 63 := rfl
theorem stB_top_ntmps (ρ : Ren) : (stB_top ρ).ntmps = 9 := rfl

/-- the program bears them -/
structure StL (P : Program) (ρ : Ren) : Prop where
  mixed : P.follows .mixedOrders = true
  f85 : Bears P (ρ.f 85) (stB_swr ρ)
  f80 : Bears P (ρ.f 80) (stB_rot ρ)
  f72 : Bears P (ρ.f 72) (stB_sym ρ)
  f59 : Bears P (ρ.f 59) (stB_stb ρ)
  f43 : Bears P (ρ.f 43) (stB_top ρ)
  t0 : P.underlying (ρ.t 0) = some (TypeDesc.tuple #[])
  a0 : ∀ w, (isAgg (ρ.t 0)).run P w = .ok false w
  z0 : ∀ w, (Go.sizeOf (ρ.t 0)).run P w = .ok 1 w
  v0 : ∀ w, (zeroValue (ρ.t 0)).run P w = .ok (Value.tuple #[]) w
  t3 : P.underlying (ρ.t 3) = some (TypeDesc.int IntKind.i64)
  a3 : ∀ w, (isAgg (ρ.t 3)).run P w = .ok false w
  z3 : ∀ w, (Go.sizeOf (ρ.t 3)).run P w = .ok 1 w
  v3 : ∀ w, (zeroValue (ρ.t 3)).run P w = .ok (Value.int IntKind.i64 0) w
  t4 : P.underlying (ρ.t 4) = some (TypeDesc.bool)
  a4 : ∀ w, (isAgg (ρ.t 4)).run P w = .ok false w
  z4 : ∀ w, (Go.sizeOf (ρ.t 4)).run P w = .ok 1 w
  v4 : ∀ w, (zeroValue (ρ.t 4)).run P w = .ok (Value.bool false) w
  t37 : P.underlying (ρ.t 37) = some (TypeDesc.int IntKind.u64)
  a37 : ∀ w, (isAgg (ρ.t 37)).run P w = .ok false w
  z37 : ∀ w, (Go.sizeOf (ρ.t 37)).run P w = .ok 1 w
  v37 : ∀ w, (zeroValue (ρ.t 37)).run P w = .ok (Value.int IntKind.u64 0) w
  t28 : P.underlying (ρ.t 28) = some (TypeDesc.slice (ρ.t 35))
  a28 : ∀ w, (isAgg (ρ.t 28)).run P w = .ok false w
  z28 : ∀ w, (Go.sizeOf (ρ.t 28)).run P w = .ok 1 w
  v28 : ∀ w, (zeroValue (ρ.t 28)).run P w = .ok (Value.slice none 0 0) w
  t79 : P.underlying (ρ.t 79) = some (TypeDesc.func #[ρ.t 35, ρ.t 35] #[ρ.t 3] false)
  a79 : ∀ w, (isAgg (ρ.t 79)).run P w = .ok false w
  z79 : ∀ w, (Go.sizeOf (ρ.t 79)).run P w = .ok 1 w
  v79 : ∀ w, (zeroValue (ρ.t 79)).run P w = .ok (Value.nilFunc) w
end Go.Proofs.Ytnpgfbgnbonhfaa

namespace Go.Proofs.Ytnpgfbgnbonhfaa
open Go.Sort
section
variable {α : Type} [Inhabited α]

def swapGo (a b : Nat) : Nat → Nat → Array α → Array α
  | 0, _, d => d
  | n + 1, i, d => swapGo a b n (i + 1) (swp d (a + i) (b + i))
def rotGo (m : Nat) : Nat → Nat → Nat → Array α → Array α
  | 0, _, _, d => d
  | g + 1, i, j, d =>
    if i = j then swapGo (m - i) m i 0 d
    else if j < i then rotGo m g (i - j) j (swapGo (m - i) m j 0 d)
    else rotGo m g i (j - i) (swapGo (m - i) (m + j - i) i 0 d)
def rotateS (d : Array α) (a m b : Nat) : Array α := rotGo m (b - a) (m - a) (b - m) d
/-- the search by halves: the first place from i to j at which f is false (true ahead of it, false from there on) -/
def bsGo (f : Nat → Bool) : Nat → Nat → Nat → Nat
  | 0, i, _ => i
  | g + 1, i, j => if i < j then (if f ((i + j) / 2) then bsGo f g ((i + j) / 2 + 1) j else bsGo f g i ((i + j) / 2)) else i
def upGo : Nat → Nat → Array α → Array α
  | 0, _, d => d
  | n + 1, k, d => upGo n (k + 1) (swp d k (k + 1))
def downGo : Nat → Nat → Array α → Array α
  | 0, _, d => d
  | n + 1, k, d => downGo n (k - 1) (swp d k (k - 1))
section
variable (lt : α → α → Bool)
def mgLo (a m b : Nat) : Nat := if (a + b) / 2 < m then (a + b) / 2 + m - b else a
def mgHi (a m b : Nat) : Nat := if (a + b) / 2 < m then (a + b) / 2 else m
def mgAt (d : Array α) (a m b : Nat) : Nat :=
  bsGo (fun c => !lt d[(a + b) / 2 + m - 1 - c]! d[c]!) (mgHi a m b - mgLo a m b) (mgLo a m b) (mgHi a m b)
def symGo : Nat → Nat → Nat → Nat → Array α → Array α
  | 0, _, _, _, d => d
  | g + 1, a, m, b, d =>
    if m - a = 1 then upGo (bsGo (fun h => lt d[h]! d[a]!) (b - m) m b - 1 - a) a d
    else if b - m = 1 then downGo (m - bsGo (fun h => !lt d[m]! d[h]!) (m - a) a m) m d
    else
      let mid := (a + b) / 2
      let s := mgAt lt d a m b
      let e := mid + m - s
      let d1 := if s < m ∧ m < e then rotateS d s m e else d
      let d2 := if a < s ∧ s < mid then symGo g a s mid d1 else d1
      if mid < e ∧ e < b then symGo g mid e b d2 else d2
def blkGo : Nat → Nat → Array α → Array α
  | 0, _, d => d
  | g + 1, a, d => if a + 20 ≤ d.size then blkGo g (a + 20) (insertionSort lt d a (a + 20)) else insertionSort lt d a d.size
def mrgGo (s : Nat) : Nat → Nat → Array α → Array α
  | 0, _, d => d
  | g + 1, a, d => if a + 2 * s ≤ d.size then mrgGo s g (a + 2 * s) (symGo lt (2 * s) a (a + s) (a + 2 * s) d)
    else if a + s < d.size then symGo lt (2 * s) a (a + s) d.size d else d
def passGo : Nat → Nat → Array α → Array α
  | 0, _, d => d
  | g + 1, s, d => if s < d.size then passGo g (2 * s) (mrgGo lt s (d.size + 1) 0 d) else d
def stableA (d : Array α) : Array α := passGo lt (d.size + 1) 20 (blkGo lt (d.size + 1) 0 d)
end

/-! ### Sizes -/
theorem size_swapGo (a b : Nat) : ∀ (n i : Nat) (d : Array α), (swapGo a b n i d).size = d.size
  | 0, _, _ => rfl
  | n + 1, i, d => by rw [swapGo, size_swapGo a b n, size_swp]
theorem size_rotGo (m : Nat) : ∀ (g i j : Nat) (d : Array α), (rotGo m g i j d).size = d.size
  | 0, _, _, _ => rfl
  | g + 1, i, j, d => by
    rw [rotGo]
    split
    · rw [size_swapGo]
    · split
      · rw [size_rotGo m g, size_swapGo]
      · rw [size_rotGo m g, size_swapGo]
theorem size_rotateS (d : Array α) (a m b : Nat) : (rotateS d a m b).size = d.size := size_rotGo _ _ _ _ _
theorem size_upGo : ∀ (n k : Nat) (d : Array α), (upGo n k d).size = d.size
  | 0, _, _ => rfl
  | n + 1, k, d => by rw [upGo, size_upGo n, size_swp]
theorem size_downGo : ∀ (n k : Nat) (d : Array α), (downGo n k d).size = d.size
  | 0, _, _ => rfl
  | n + 1, k, d => by rw [downGo, size_downGo n, size_swp]
theorem bsGo_in (f : Nat → Bool) : ∀ (g i j : Nat), i ≤ j → i ≤ bsGo f g i j ∧ bsGo f g i j ≤ j
  | 0, i, j, h => ⟨Nat.le_refl _, h⟩
  | g + 1, i, j, h => by
    rw [bsGo]
    split
    · split
      · have := bsGo_in f g ((i + j) / 2 + 1) j (by omega)
        omega
      · have := bsGo_in f g i ((i + j) / 2) (by omega)
        omega
    · omega
theorem bsGo_end (f : Nat → Bool) (g i j : Nat) (h : ¬ i < j) : bsGo f g i j = i := by
  cases g with
  | zero => rfl
  | succ g => rw [bsGo, if_neg h]
theorem bsGo_go (f : Nat → Bool) (g i j : Nat) (h : i < j) (hf : f ((i + j) / 2) = true) : bsGo f (g + 1) i j = bsGo f g ((i + j) / 2 + 1) j := by rw [bsGo, if_pos h, if_pos hf]
theorem bsGo_no (f : Nat → Bool) (g i j : Nat) (h : i < j) (hf : f ((i + j) / 2) = false) : bsGo f (g + 1) i j = bsGo f g i ((i + j) / 2) := by rw [bsGo, if_pos h, if_neg (by rw [hf]; simp)]
/-- where the middle search lies -/
theorem mg_in {a m b : Nat} (h1 : a < m) (h2 : m < b) : a ≤ mgLo a m b ∧ mgLo a m b ≤ mgHi a m b ∧ mgHi a m b ≤ m ∧ mgHi a m b ≤ (a + b) / 2 ∧ (a + b) / 2 + m ≤ mgLo a m b + b ∧ (a + b) / 2 ≤ (a + b) / 2 + m - mgHi a m b ∧ m ≤ (a + b) / 2 + m - mgHi a m b := by
  unfold mgLo mgHi
  split <;> omega
theorem mgAt_in (lt : α → α → Bool) (d : Array α) {a m b : Nat} (h1 : a < m) (h2 : m < b) : mgLo a m b ≤ mgAt lt d a m b ∧ mgAt lt d a m b ≤ mgHi a m b := bsGo_in _ _ _ _ (mg_in h1 h2).2.1
theorem size_symGo (lt : α → α → Bool) : ∀ (g a m b : Nat) (d : Array α), (symGo lt g a m b d).size = d.size
  | 0, _, _, _, _ => rfl
  | g + 1, a, m, b, d => by
    rw [symGo]
    split
    · rw [size_upGo]
    · split
      · rw [size_downGo]
      · dsimp only
        have h1 : ∀ s e, (if s < m ∧ m < e then rotateS d s m e else d).size = d.size := fun s e => by split; exact size_rotateS _ _ _ _; rfl
        split
        · rw [size_symGo lt g]
          split
          · rw [size_symGo lt g, h1]
          · rw [h1]
        · split
          · rw [size_symGo lt g, h1]
          · rw [h1]
theorem size_insInner (lt : α → α → Bool) (a : Nat) : ∀ (j : Nat) (d : Array α), (insInner lt a j d).size = d.size
  | 0, _ => rfl
  | j + 1, d => by
    rw [insInner]
    split
    · rw [size_insInner lt a j, size_swp]
    · rfl
theorem size_insOuter (lt : α → α → Bool) (a b : Nat) : ∀ (n i : Nat) (d : Array α), b - i ≤ n → (insOuter lt a b i d).size = d.size
  | 0, i, d, h => by rw [insOuter, if_neg (by omega)]
  | n + 1, i, d, h => by
    rw [insOuter]
    split
    · rw [size_insOuter lt a b n _ _ (by omega), size_insInner]
    · rfl
theorem size_insertionSort (lt : α → α → Bool) (d : Array α) (a b : Nat) : (insertionSort lt d a b).size = d.size := size_insOuter lt a b _ _ _ (Nat.le_refl _)
theorem size_blkGo (lt : α → α → Bool) : ∀ (g a : Nat) (d : Array α), (blkGo lt g a d).size = d.size
  | 0, _, _ => rfl
  | g + 1, a, d => by
    rw [blkGo]
    split
    · rw [size_blkGo lt g, size_insertionSort]
    · rw [size_insertionSort]
theorem size_mrgGo (lt : α → α → Bool) (s : Nat) : ∀ (g a : Nat) (d : Array α), (mrgGo lt s g a d).size = d.size
  | 0, _, _ => rfl
  | g + 1, a, d => by
    rw [mrgGo]
    split
    · rw [size_mrgGo lt s g, size_symGo]
    · split
      · rw [size_symGo]
      · rfl
theorem size_passGo (lt : α → α → Bool) : ∀ (g s : Nat) (d : Array α), (passGo lt g s d).size = d.size
  | 0, _, _ => rfl
  | g + 1, s, d => by
    rw [passGo]
    split
    · rw [size_passGo lt g, size_mrgGo]
    · rfl
theorem size_stableA (lt : α → α → Bool) (d : Array α) : (stableA lt d).size = d.size := by rw [stableA, size_passGo, size_blkGo]
end
end Go.Proofs.Ytnpgfbgnbonhfaa

namespace Go.Proofs.Ytnpgfbgnbonhfaa
open Go.Shelf Go.RowKit Go.Lib Go.Sort
variable {P : Program} {ρ : Ren} {α : Type} [Inhabited α]

theorem nat_name (n : Nat) : ∃ p, Hid (p = n) := ⟨n, rfl⟩

set_option maxHeartbeats 4000000 in
set_option maxRecDepth 1000000 in
theorem St.swapRange (L : StL P ρ) (k : Nat) (aE : ∀ w, (isAgg (ρ.t 35)).run P w = .ok true w) (zE : ∀ w, (Go.sizeOf (ρ.t 35)).run P w = .ok k w) (enc : α → List Value) (g : Nat) (cb : Array Value) (blk off cap a b n : Nat) (d0 d : Array α) (w0 w : World)
    (R : RowK enc k w0 blk off d0) (hs : d0.size = d.size) (S : SWK enc k w0 blk off d w) (ha : a + n ≤ d.size) (hb : b + n ≤ d.size) (hsz : d.size < 4611686018427387904) :
    Calls P (ρ.f 85) #[.slice (some ⟨blk, off, none⟩) d.size cap, .int .i64 a, .int .i64 b, .int .i64 n, .func (.func g) #[] cb] w fun e w' => e = .returned (.tuple #[]) ∧ SWK enc k w0 blk off (swapGo a b n 0 d) w' := by
  have mixed := L.mixed; have t0 := L.t0; have a0 := L.a0; have z0 := L.z0; have v0 := L.v0; have t3 := L.t3; have a3 := L.a3; have z3 := L.z3; have v3 := L.v3; have t4 := L.t4; have a4 := L.a4; have z4 := L.z4; have v4 := L.v4; have t28 := L.t28; have a28 := L.a28; have z28 := L.z28; have v28 := L.v28; have t37 := L.t37; have a37 := L.a37; have z37 := L.z37; have v37 := L.v37; have t79 := L.t79; have a79 := L.a79; have z79 := L.z79; have v79 := L.v79
  obtain ⟨_, _, FG⟩ := L.f85
  have S0 : Aside (SWK enc k w0 blk off d w) := S
  clear S
  go_enter FG, stB_swr_ntmps ρ
  go_wp2
  go_loopg [10] n (fun kx s10 wr => ∃ (i : Nat) (dk : Array α), s10 = .int .i64 i ∧ kx + i = n ∧ dk.size = d.size ∧ Aside (SWK enc k w0 blk off dk wr) ∧ Hid (swapGo a b kx i dk = swapGo a b n 0 d))
  case atStart => exact ⟨0, d, rfl, by omega, rfl, S0, rfl⟩
  case round =>
    clear S0
    obtain ⟨i, dk, rfl, hkx, hds, S1, HE⟩ := hrel
    cases gk with
    | zero =>
      have hltz : ¬ (i : Int) < (n : Int) := by omega
      go_wp2
      go_end0
      exact ⟨rfl, by rw [← HE.out]; exact S1.out⟩
    | succ kx =>
      have hltz : (i : Int) < (n : Int) := by omega
      obtain ⟨p, hp⟩ := nat_name (a + i)
      obtain ⟨q, hq⟩ := nat_name (b + i)
      have hpo := hp.out
      have hqo := hq.out
      have ip : IntKind.i64.wrap ((a : Int) + (i : Int)) = (p : Int) := (IntWalk.i64_in _ (by omega)).trans (by omega)
      have iq : IntKind.i64.wrap ((b : Int) + (i : Int)) = (q : Int) := (IntWalk.i64_in _ (by omega)).trans (by omega)
      have ii : IntKind.i64.wrap ((i : Int) + 1) = (i : Int) + 1 := IntWalk.i64_in _ (by omega)
      have hpd : p < d.size := by omega
      have hqd : q < d.size := by omega
      clear hpo hqo
      have e1a : ((p : Nat) : Int).toNat = p := Int.toNat_natCast _
      have p1a : (0 : Int) ≤ (p : Int) := Int.natCast_nonneg _
      have b1a : (p : Int) < (d.size : Int) := by omega
      have r1a : IntKind.i64.wrap ((p : Nat) : Int) = (p : Int) := IntWalk.i64_in _ (by omega)
      have e1c : ((q : Nat) : Int).toNat = q := Int.toNat_natCast _
      have p1c : (0 : Int) ≤ (q : Int) := Int.natCast_nonneg _
      have b1c : (q : Int) < (d.size : Int) := by omega
      have r1c : IntKind.i64.wrap ((q : Nat) : Int) = (q : Int) := IntWalk.i64_in _ (by omega)
      have S2 : Aside (SWK enc k w0 blk off (swp dk p q) ((wr.drew.setCells blk (off + p * k) (enc dk[q]!)).setCells blk (off + q * k) (enc dk[p]!))) := S1.out.swapped R p q (by omega) (by omega)
      have l1a := S1.out.ld1 R (by omega) P p (by omega)
      have l1b := S1.out.ld1 R (by omega) P q (by omega)
      have s1a := S1.out.st1 R (by omega) P p (by omega) dk[q]!
      have s1b := S1.out.st2 R (by omega) P p q (by omega) (by omega) dk[q]! dk[p]!
      have n1a : (enc dk[p]!).length = k := R.hk _
      have n1b : (enc dk[q]!).length = k := R.hk _
      generalize enc dk[p]! = cI1 at S2 l1a s1b n1a
      generalize enc dk[q]! = cJ1 at S2 l1b s1a s1b n1b
      clear S1
      go_wp2_with fail
      go_big_region_o
      clear l1a l1b s1a s1b
      generalize (wr.drew.setCells blk (off + p * k) cJ1).setCells blk (off + q * k) cI1 = w2 at S2 ⊢
      go_wp2
      go_roundg kx
      case measure => omega
      case rel => exact ⟨i + 1, swp dk p q, by go_num, by omega, by rw [size_swp]; exact hds, S2, (show Hid _ from by rw [hp.out, hq.out]; exact HE.out)⟩

set_option maxHeartbeats 4000000 in
set_option maxRecDepth 1000000 in
theorem St.rotate (L : StL P ρ) (k : Nat) (aE : ∀ w, (isAgg (ρ.t 35)).run P w = .ok true w) (zE : ∀ w, (Go.sizeOf (ρ.t 35)).run P w = .ok k w) (enc : α → List Value) (g : Nat) (cb : Array Value) (blk off cap a m b : Nat) (d0 d : Array α) (w0 w : World)
    (R : RowK enc k w0 blk off d0) (hs : d0.size = d.size) (S : SWK enc k w0 blk off d w) (h1 : a < m) (h2 : m < b) (hb : b ≤ d.size) (hsz : d.size < 4611686018427387904) :
    Calls P (ρ.f 80) #[.slice (some ⟨blk, off, none⟩) d.size cap, .int .i64 a, .int .i64 m, .int .i64 b, .func (.func g) #[] cb] w fun e w' => e = .returned (.tuple #[]) ∧ SWK enc k w0 blk off (rotateS d a m b) w' := by
  have mixed := L.mixed; have t0 := L.t0; have a0 := L.a0; have z0 := L.z0; have v0 := L.v0; have t3 := L.t3; have a3 := L.a3; have z3 := L.z3; have v3 := L.v3; have t4 := L.t4; have a4 := L.a4; have z4 := L.z4; have v4 := L.v4; have t28 := L.t28; have a28 := L.a28; have z28 := L.z28; have v28 := L.v28; have t37 := L.t37; have a37 := L.a37; have z37 := L.z37; have v37 := L.v37; have t79 := L.t79; have a79 := L.a79; have z79 := L.z79; have v79 := L.v79
  obtain ⟨_, _, FG⟩ := L.f80
  have e85 : ∀ args w, (callFunc (ρ.f 85) args).run P w = .ok (.enter (ρ.f 85) args) w := L.f85.enters rfl
  have HSW := hid fun (x y n : Nat) (d : Array α) (w : World) => St.swapRange L k aE zE enc g cb blk off cap x y n d0 d w0 w R
  have S0 : Aside (SWK enc k w0 blk off d w) := S
  clear S
  obtain ⟨i0, hi0⟩ := nat_name (m - a)
  obtain ⟨j0, hj0⟩ := nat_name (b - m)
  have hio := hi0.out
  have hjo := hj0.out
  have wi : IntKind.i64.wrap ((m : Int) - (a : Int)) = (i0 : Int) := (IntWalk.i64_in _ (by omega)).trans (by omega)
  have wj : IntKind.i64.wrap ((b : Int) - (m : Int)) = (j0 : Int) := (IntWalk.i64_in _ (by omega)).trans (by omega)
  have HB := hid (show 0 < i0 ∧ 0 < j0 ∧ i0 ≤ m ∧ m + j0 ≤ d.size ∧ i0 + j0 = b - a by omega)
  have HR := hid (show rotateS d a m b = rotGo m (i0 + j0) i0 j0 d by rw [rotateS, hi0.out, hj0.out, show m - a + (b - m) = b - a by omega])
  clear hio hjo
  rw [HR.out]
  clear HR
  go_enter FG, stB_rot_ntmps ρ
  go_wp2_with fail
  go_loopg [10, 11] (i0 + j0) (fun kx s10 s11 wr => ∃ (i j : Nat) (dk : Array α), s10 = .int .i64 i ∧ s11 = .int .i64 j ∧ Hid (0 < i ∧ 0 < j ∧ i ≤ i0 ∧ j ≤ j0 ∧ i + j ≤ kx) ∧ dk.size = d.size ∧ Aside (SWK enc k w0 blk off dk wr) ∧ Hid (rotGo m kx i j dk = rotGo m (i0 + j0) i0 j0 d))
  case atStart => exact ⟨i0, j0, d, rfl, rfl, hid ⟨HB.out.1, HB.out.2.1, Nat.le_refl _, Nat.le_refl _, Nat.le_refl _⟩, rfl, S0, rfl⟩
  case round =>
    clear S0
    obtain ⟨i, j, dk, rfl, rfl, HI, hds, S1, HE⟩ := hrel
    cases gk with
    | zero => exact absurd HI.out (by omega)
    | succ kx =>
      have hHI := HI.out
      have hHB := HB.out
      obtain ⟨p, hp⟩ := nat_name (m - i)
      have hpo := hp.out
      have ip : IntKind.i64.wrap ((m : Int) - (i : Int)) = (p : Int) := (IntWalk.i64_in _ (by omega)).trans (by omega)
      by_cases he : i = j
      · subst he
        have HE2 := hid (show swapGo p m i 0 dk = rotGo m (i0 + j0) i0 j0 d by rw [← HE.out, rotGo, if_pos rfl, hp.out])
        have hc := HSW.out p m i dk wr (by omega) S1.out (by omega) (by omega) (by omega)
        rw [hds] at hc
        clear hHI hHB hpo HI HB
        go_wp2_with (go_at_fn (ρ.f 85); refine hc.mono ?_; rintro e w2 ⟨rfl, hS2⟩)
        go_end0
        exact ⟨rfl, by rw [← HE2.out]; exact hS2⟩
      · have hez : ¬ (i : Int) = (j : Int) := by omega
        have heb : ((i : Int) == (j : Int)) = false := by simpa using hez
        by_cases hlt : j < i
        · have hltz : (j : Int) < (i : Int) := by omega
          obtain ⟨i2, hi2⟩ := nat_name (i - j)
          have hi2o := hi2.out
          have iw : IntKind.i64.wrap ((i : Int) - (j : Int)) = (i2 : Int) := (IntWalk.i64_in _ (by omega)).trans (by omega)
          have HE2 := hid (show rotGo m kx i2 j (swapGo p m j 0 dk) = rotGo m (i0 + j0) i0 j0 d by rw [← HE.out, rotGo, if_neg he, if_pos hlt, hp.out, hi2.out])
          have hc := HSW.out p m j dk wr (by omega) S1.out (by omega) (by omega) (by omega)
          rw [hds] at hc
          have HI2 := hid (show 0 < i2 ∧ 0 < j ∧ i2 ≤ i0 ∧ j ≤ j0 ∧ i2 + j ≤ kx by omega)
          have hkx : kx < kx + 1 := by omega
          clear hHI hHB hpo HI hi2o
          go_wp2_with (go_at_fn (ρ.f 85); refine hc.mono ?_; rintro e w2 ⟨rfl, hS2⟩)
          go_roundg kx
          case measure => exact hkx
          case rel => exact ⟨i2, j, _, rfl, rfl, HI2, by rw [size_swapGo]; exact hds, hS2, HE2⟩
        · have hltz : ¬ (j : Int) < (i : Int) := by omega
          obtain ⟨j2, hj2⟩ := nat_name (j - i)
          obtain ⟨r, hr⟩ := nat_name (m + j - i)
          have hj2o := hj2.out
          have hro := hr.out
          have jw : IntKind.i64.wrap ((j : Int) - (i : Int)) = (j2 : Int) := (IntWalk.i64_in _ (by omega)).trans (by omega)
          have rw1 : IntKind.i64.wrap ((m : Int) + (j : Int)) = (m : Int) + (j : Int) := IntWalk.i64_in _ (by omega)
          have rw2 : IntKind.i64.wrap ((m : Int) + (j : Int) - (i : Int)) = (r : Int) := (IntWalk.i64_in _ (by omega)).trans (by omega)
          have HE2 := hid (show rotGo m kx i j2 (swapGo p r i 0 dk) = rotGo m (i0 + j0) i0 j0 d by rw [← HE.out, rotGo, if_neg he, if_neg hlt, hp.out, hj2.out, hr.out])
          have hc := HSW.out p r i dk wr (by omega) S1.out (by omega) (by omega) (by omega)
          rw [hds] at hc
          have HI2 := hid (show 0 < i ∧ 0 < j2 ∧ i ≤ i0 ∧ j2 ≤ j0 ∧ i + j2 ≤ kx by omega)
          have hkx : kx < kx + 1 := by omega
          clear hHI hHB hpo HI hj2o hro
          go_wp2_with (go_at_fn (ρ.f 85); refine hc.mono ?_; rintro e w2 ⟨rfl, hS2⟩)
          go_roundg kx
          case measure => exact hkx
          case rel => exact ⟨i, j2, _, rfl, rfl, HI2, by rw [size_swapGo]; exact hds, hS2, HE2⟩

theorem symGo_mid (lt : α → α → Bool) (G : Nat) {a m b s e mid : Nat} (d : Array α) {d1 d2 : Array α} (h1 : ¬ m - a = 1) (h2 : ¬ b - m = 1) (hs : mgAt lt d a m b = s) (hm : mid = (a + b) / 2) (he : e = mid + m - s)
    (hd1 : d1 = if s < m ∧ m < e then rotateS d s m e else d) (hd2 : d2 = if a < s ∧ s < mid then symGo lt G a s mid d1 else d1) :
    symGo lt (G + 1) a m b d = if mid < e ∧ e < b then symGo lt G mid e b d2 else d2 := by
  rw [symGo, if_neg h1, if_neg h2]
  dsimp only
  rw [hs, ← hm, ← he, ← hd1, ← hd2]

set_option maxHeartbeats 8000000 in
set_option maxRecDepth 1000000 in
theorem St.symMerge (L : StL P ρ) (k : Nat) (aE : ∀ w, (isAgg (ρ.t 35)).run P w = .ok true w) (zE : ∀ w, (Go.sizeOf (ρ.t 35)).run P w = .ok k w) (enc : α → List Value) (cf : α → α → Int) (g : Nat) (cb : Array Value) (blk off cap : Nat) (d0 : Array α) (w0 : World)
    (eg : ∀ args w, (callFunc g args).run P w = .ok (.enter g args) w) (hcmp : CmpLays P g cb enc k cf blk off d0.size w0) (R : RowK enc k w0 blk off d0) (hsz : d0.size < 4611686018427387904) : ∀ (G a m b : Nat) (d : Array α) (w : World), d0.size = d.size → SWK enc k w0 blk off d w → b - a ≤ G → a < m → m < b → b ≤ d.size →
    Calls P (ρ.f 72) #[.slice (some ⟨blk, off, none⟩) d.size cap, .int .i64 a, .int .i64 m, .int .i64 b, .func (.func g) #[] cb] w fun e w' => e = .returned (.tuple #[]) ∧ SWK enc k w0 blk off (symGo (ltOf cf) G a m b d) w' := by
  intro G
  induction G with
  | zero => intro a m b d w hs S hG h1 h2 hb; omega
  | succ G ih =>
  intro a m b d w hs S hG h1 h2 hb
  have mixed := L.mixed; have t0 := L.t0; have a0 := L.a0; have z0 := L.z0; have v0 := L.v0; have t3 := L.t3; have a3 := L.a3; have z3 := L.z3; have v3 := L.v3; have t4 := L.t4; have a4 := L.a4; have z4 := L.z4; have v4 := L.v4; have t28 := L.t28; have a28 := L.a28; have z28 := L.z28; have v28 := L.v28; have t37 := L.t37; have a37 := L.a37; have z37 := L.z37; have v37 := L.v37; have t79 := L.t79; have a79 := L.a79; have z79 := L.z79; have v79 := L.v79
  obtain ⟨_, _, FG⟩ := L.f72
  have e80 : ∀ args w, (callFunc (ρ.f 80) args).run P w = .ok (.enter (ρ.f 80) args) w := L.f80.enters rfl
  have e72 : ∀ args w, (callFunc (ρ.f 72) args).run P w = .ok (.enter (ρ.f 72) args) w := L.f72.enters rfl
  have HC : Aside _ := hcmp
  have S0 : Aside (SWK enc k w0 blk off d w) := S
  clear S hcmp
  rw [hs] at hsz
  by_cases h1m : m - a = 1
  · have wm : IntKind.i64.wrap ((m : Int) - (a : Int)) = 1 := (IntWalk.i64_in _ (by omega)).trans (by omega)
    obtain ⟨f, Hf⟩ : ∃ f : Nat → Bool, Hid (f = fun h => ltOf cf d[h]! d[a]!) := ⟨_, rfl⟩
    clear ih
    go_enter FG, stB_sym_ntmps ρ
    go_wp2_with fail
    go_loopg [10, 11] (b - m) (fun kx s1 s2 wr => ∃ (i j : Nat), s1 = .int .i64 i ∧ s2 = .int .i64 j ∧ Hid (m ≤ i ∧ i ≤ j ∧ j ≤ b ∧ j - i ≤ kx) ∧ Aside (SWK enc k w0 blk off d wr) ∧ Hid (bsGo f kx i j = bsGo f (b - m) m b))
    case atStart => exact ⟨m, b, rfl, rfl, hid ⟨Nat.le_refl _, Nat.le_of_lt h2, Nat.le_refl _, Nat.le_refl _⟩, S0, rfl⟩
    case round =>
      clear S0
      obtain ⟨i, j, rfl, rfl, HI, S1, HE⟩ := hrel
      have hHI := HI.out
      by_cases hlt : i < j
      · have hltz : (i : Int) < (j : Int) := by omega
        cases gk with
        | zero => exact absurd hHI (by omega)
        | succ gk =>
          obtain ⟨h, hh⟩ := nat_name ((i + j) / 2)
          have hho := hh.out
          have ih : (((i : Nat) : Int) + (j : Int)) / 2 = (h : Int) := by omega
          have wh : IntKind.i64.wrap (((i : Nat) : Int) + (j : Int)) = (i : Int) + (j : Int) := IntWalk.i64_in _ (by omega)
          have zh : IntKind.i64.wrap (h : Int) = (h : Int) := IntWalk.i64_in _ (by omega)
          have bh : h < 4611686018427387904 := by omega
          have ch : i < 4611686018427387904 := by omega
          have dh : j < 4611686018427387904 := by omega
          have ih1 : IntKind.i64.wrap ((h : Int) + 1) = (h : Int) + 1 := IntWalk.i64_in _ (by omega)
          have hhd : h < d.size := by omega
          cases hv : ltOf cf d[h]! d[a]! with
          | true =>
            have hf1 : f ((i + j) / 2) = true := by rw [← hh.out, Hf.out]; exact hv
            have HE2 := hid (show bsGo f gk (h + 1) j = bsGo f (b - m) m b by rw [← HE.out, bsGo_go _ _ _ _ hlt hf1, hh.out])
            have HI2 := hid (show m ≤ h + 1 ∧ h + 1 ≤ j ∧ j ≤ b ∧ j - (h + 1) ≤ gk by omega)
            clear HE HI hHI hf1 hho
            have e1a : ((h : Nat) : Int).toNat = h := Int.toNat_natCast _
            have p1a : (0 : Int) ≤ (h : Int) := Int.natCast_nonneg _
            have b1a : (h : Int) < (d.size : Int) := by omega
            have r1a : IntKind.i64.wrap ((h : Nat) : Int) = (h : Int) := IntWalk.i64_in _ (by omega)
            have e1c : ((a : Nat) : Int).toNat = a := Int.toNat_natCast _
            have p1c : (0 : Int) ≤ (a : Int) := Int.natCast_nonneg _
            have b1c : (a : Int) < (d.size : Int) := by omega
            have r1c : IntKind.i64.wrap ((a : Nat) : Int) = (a : Int) := IntWalk.i64_in _ (by omega)
            obtain ⟨x1, hx1⟩ : ∃ x, x = d[h]! := ⟨_, rfl⟩
            obtain ⟨y1, hy1⟩ : ∃ x, x = d[a]! := ⟨_, rfl⟩
            have l1a := S1.out.ld R (by omega) P h (by omega)
            have l1b := S1.out.ld R (by omega) P a (by omega)
            rw [← hx1] at l1a
            rw [← hy1] at l1b
            have hc1 := S1.out.cmp HC.out (by omega) x1 y1
            have hv1 : cf x1 y1 < 0 := by rw [hx1, hy1]; exact of_decide_eq_true hv
            have hd1 : decide (cf x1 y1 < 0) = true := decide_eq_true hv1
            clear hx1 hy1
            go_wp2_with fail
            go_quiet_grown (first | (go_at_fn g; refine Calls.grown_of (hc1 _ _)))
            have S2 : Aside (SWK enc k w0 blk off d (grow (wr.drewN nq) osq)) := S1.out.grown nq osq
            clear l1a l1b hc1 S1
            generalize grow (wr.drewN nq) osq = w2 at S2 ⊢
            clear nq osq
            go_wp2_with fail
            go_roundg gk
            case measure => omega
            case rel => exact ⟨h + 1, j, by go_num, rfl, HI2, S2, HE2⟩
          | false =>
            have hf1 : f ((i + j) / 2) = false := by rw [← hh.out, Hf.out]; exact hv
            have HE2 := hid (show bsGo f gk i h = bsGo f (b - m) m b by rw [← HE.out, bsGo_no _ _ _ _ hlt hf1, hh.out])
            have HI2 := hid (show m ≤ i ∧ i ≤ h ∧ h ≤ b ∧ h - i ≤ gk by omega)
            clear HE HI hHI hf1 hho
            have e1a : ((h : Nat) : Int).toNat = h := Int.toNat_natCast _
            have p1a : (0 : Int) ≤ (h : Int) := Int.natCast_nonneg _
            have b1a : (h : Int) < (d.size : Int) := by omega
            have r1a : IntKind.i64.wrap ((h : Nat) : Int) = (h : Int) := IntWalk.i64_in _ (by omega)
            have e1c : ((a : Nat) : Int).toNat = a := Int.toNat_natCast _
            have p1c : (0 : Int) ≤ (a : Int) := Int.natCast_nonneg _
            have b1c : (a : Int) < (d.size : Int) := by omega
            have r1c : IntKind.i64.wrap ((a : Nat) : Int) = (a : Int) := IntWalk.i64_in _ (by omega)
            obtain ⟨x1, hx1⟩ : ∃ x, x = d[h]! := ⟨_, rfl⟩
            obtain ⟨y1, hy1⟩ : ∃ x, x = d[a]! := ⟨_, rfl⟩
            have l1a := S1.out.ld R (by omega) P h (by omega)
            have l1b := S1.out.ld R (by omega) P a (by omega)
            rw [← hx1] at l1a
            rw [← hy1] at l1b
            have hc1 := S1.out.cmp HC.out (by omega) x1 y1
            have hv1 : ¬ cf x1 y1 < 0 := by rw [hx1, hy1]; exact of_decide_eq_false hv
            have hd1 : decide (cf x1 y1 < 0) = false := decide_eq_false hv1
            clear hx1 hy1
            go_wp2_with fail
            go_quiet_grown (first | (go_at_fn g; refine Calls.grown_of (hc1 _ _)))
            have S2 : Aside (SWK enc k w0 blk off d (grow (wr.drewN nq) osq)) := S1.out.grown nq osq
            clear l1a l1b hc1 S1
            generalize grow (wr.drewN nq) osq = w2 at S2 ⊢
            clear nq osq
            go_wp2_with fail
            go_roundg gk
            case measure => omega
            case rel => exact ⟨i, h, rfl, rfl, HI2, S2, HE2⟩
      · have hltz : ¬ (i : Int) < (j : Int) := by omega
        have HX := hid (show bsGo f (b - m) m b = i by rw [← HE.out, bsGo_end _ _ _ _ hlt])
        have HI2 := hid (show m ≤ i ∧ i ≤ b by omega)
        clear HE HI hHI hlt
        generalize wr = w3 at S1 ⊢
        obtain ⟨i1, hi1⟩ := nat_name (i - 1)
        have hi1o := hi1.out
        have hHI2 := HI2.out
        have wi1 : IntKind.i64.wrap ((i : Int) - 1) = (i1 : Int) := (IntWalk.i64_in _ (by omega)).trans (by omega)
        have HUP := hid (show a ≤ i1 ∧ i1 < b by omega)
        have HFIN := hid (show symGo (ltOf cf) (G + 1) a m b d = upGo (i1 - a) a d by rw [symGo, if_pos h1m, ← Hf.out, HX.out, hi1.out])
        clear hHI2 hi1o HX
        go_wp2_with fail
        go_loopg [13] (i1 - a) (fun kx s1 wr => ∃ (q : Nat) (dk : Array α), s1 = .int .i64 q ∧ Hid (a ≤ q ∧ kx + q = i1) ∧ dk.size = d.size ∧ Aside (SWK enc k w0 blk off dk wr) ∧ Hid (upGo kx q dk = upGo (i1 - a) a d))
        case atStart => exact ⟨a, d, rfl, hid (by have := HUP.out; omega), rfl, S1, rfl⟩
        case round =>
          clear S1
          obtain ⟨q, dk, rfl, HQ, hds, S1, HE⟩ := hrel
          have hHQ := HQ.out
          have hHU := HUP.out
          cases gk with
          | zero =>
            have hltz : ¬ (q : Int) < (i1 : Int) := by omega
            clear hHQ hHU
            go_wp2_with fail
            refine ret0 rfl rfl ?_
            exact ⟨rfl, by rw [HFIN.out, ← HE.out]; exact S1.out⟩
          | succ gk =>
            have hltz : (q : Int) < (i1 : Int) := by omega
            obtain ⟨p, hp⟩ := nat_name (q + 1)
            have hpo := hp.out
            have ip : IntKind.i64.wrap ((q : Int) + 1) = (p : Int) := (IntWalk.i64_in _ (by omega)).trans (by omega)
            have hqd : q < d.size := by omega
            have hpd : p < d.size := by omega
            have HQ2 := hid (show a ≤ p ∧ gk + p = i1 by omega)
            have HE2 := hid (show upGo gk p (swp dk q p) = upGo (i1 - a) a d by rw [← HE.out, upGo, hp.out])
            clear hpo hHQ hHU HQ HE
            have eua : ((q : Nat) : Int).toNat = q := Int.toNat_natCast _
            have pua : (0 : Int) ≤ (q : Int) := Int.natCast_nonneg _
            have bua : (q : Int) < (d.size : Int) := by omega
            have rua : IntKind.i64.wrap ((q : Nat) : Int) = (q : Int) := IntWalk.i64_in _ (by omega)
            have euc : ((p : Nat) : Int).toNat = p := Int.toNat_natCast _
            have puc : (0 : Int) ≤ (p : Int) := Int.natCast_nonneg _
            have buc : (p : Int) < (d.size : Int) := by omega
            have ruc : IntKind.i64.wrap ((p : Nat) : Int) = (p : Int) := IntWalk.i64_in _ (by omega)
            have S2 : Aside (SWK enc k w0 blk off (swp dk q p) ((wr.drew.setCells blk (off + q * k) (enc dk[p]!)).setCells blk (off + p * k) (enc dk[q]!))) := S1.out.swapped R q p (by omega) (by omega)
            have lua := S1.out.ld1 R (by omega) P q (by omega)
            have lub := S1.out.ld1 R (by omega) P p (by omega)
            have sua := S1.out.st1 R (by omega) P q (by omega) dk[p]!
            have sub := S1.out.st2 R (by omega) P q p (by omega) (by omega) dk[p]! dk[q]!
            have nua : (enc dk[q]!).length = k := R.hk _
            have nub : (enc dk[p]!).length = k := R.hk _
            generalize enc dk[q]! = cIu at S2 lua sub nua
            generalize enc dk[p]! = cJu at S2 lub sua sub nub
            clear S1
            go_wp2_with fail
            go_big_region_o
            clear lua lub sua sub
            generalize (wr.drew.setCells blk (off + q * k) cJu).setCells blk (off + p * k) cIu = w2 at S2 ⊢
            go_wp2_with fail
            go_roundg gk
            case measure => omega
            case rel => exact ⟨p, swp dk q p, rfl, HQ2, by rw [size_swp]; exact hds, S2, HE2⟩
  · obtain ⟨ma, hma⟩ := nat_name (m - a)
    have hmao := hma.out
    have wm : IntKind.i64.wrap ((m : Int) - (a : Int)) = (ma : Int) := (IntWalk.i64_in _ (by omega)).trans (by omega)
    have wm1 : ((ma : Int) == 1) = false := by simp; omega
    have wm2 : ¬ (ma : Int) = 1 := by omega
    clear hmao
    by_cases h1b : b - m = 1
    · have wb : IntKind.i64.wrap ((b : Int) - (m : Int)) = 1 := (IntWalk.i64_in _ (by omega)).trans (by omega)
      obtain ⟨f, Hf⟩ : ∃ f : Nat → Bool, Hid (f = fun h => !ltOf cf d[m]! d[h]!) := ⟨_, rfl⟩
      have hmd : m < d.size := by omega
      clear ih
      go_enter FG, stB_sym_ntmps ρ
      go_wp2_with fail
      go_loopg [14, 15] (m - a) (fun kx s1 s2 wr => ∃ (i j : Nat), s1 = .int .i64 i ∧ s2 = .int .i64 j ∧ Hid (a ≤ i ∧ i ≤ j ∧ j ≤ m ∧ j - i ≤ kx) ∧ Aside (SWK enc k w0 blk off d wr) ∧ Hid (bsGo f kx i j = bsGo f (m - a) a m))
      case atStart => exact ⟨a, m, rfl, rfl, hid ⟨Nat.le_refl _, Nat.le_of_lt h1, Nat.le_refl _, Nat.le_refl _⟩, S0, rfl⟩
      case round =>
        clear S0
        obtain ⟨i, j, rfl, rfl, HI, S1, HE⟩ := hrel
        have hHI := HI.out
        by_cases hlt : i < j
        · have hltz : (i : Int) < (j : Int) := by omega
          cases gk with
          | zero => exact absurd hHI (by omega)
          | succ gk =>
            obtain ⟨h, hh⟩ := nat_name ((i + j) / 2)
            have hho := hh.out
            have ih : (((i : Nat) : Int) + (j : Int)) / 2 = (h : Int) := by omega
            have wh : IntKind.i64.wrap (((i : Nat) : Int) + (j : Int)) = (i : Int) + (j : Int) := IntWalk.i64_in _ (by omega)
            have zh : IntKind.i64.wrap (h : Int) = (h : Int) := IntWalk.i64_in _ (by omega)
            have bh : h < 4611686018427387904 := by omega
            have ch : i < 4611686018427387904 := by omega
            have dh : j < 4611686018427387904 := by omega
            have ih1 : IntKind.i64.wrap ((h : Int) + 1) = (h : Int) + 1 := IntWalk.i64_in _ (by omega)
            have hhd : h < d.size := by omega
            cases hv : ltOf cf d[m]! d[h]! with
            | false =>
              have hf1 : f ((i + j) / 2) = true := by rw [← hh.out, Hf.out]; show (!_) = _; rw [hv]; rfl
              have HE2 := hid (show bsGo f gk (h + 1) j = bsGo f (m - a) a m by rw [← HE.out, bsGo_go _ _ _ _ hlt hf1, hh.out])
              have HI2 := hid (show a ≤ h + 1 ∧ h + 1 ≤ j ∧ j ≤ m ∧ j - (h + 1) ≤ gk by omega)
              clear HE HI hHI hf1 hho
              have e2a : ((m : Nat) : Int).toNat = m := Int.toNat_natCast _
              have p2a : (0 : Int) ≤ (m : Int) := Int.natCast_nonneg _
              have b2a : (m : Int) < (d.size : Int) := by omega
              have r2a : IntKind.i64.wrap ((m : Nat) : Int) = (m : Int) := IntWalk.i64_in _ (by omega)
              have e2c : ((h : Nat) : Int).toNat = h := Int.toNat_natCast _
              have p2c : (0 : Int) ≤ (h : Int) := Int.natCast_nonneg _
              have b2c : (h : Int) < (d.size : Int) := by omega
              have r2c : IntKind.i64.wrap ((h : Nat) : Int) = (h : Int) := IntWalk.i64_in _ (by omega)
              obtain ⟨x2, hx2⟩ : ∃ x, x = d[m]! := ⟨_, rfl⟩
              obtain ⟨y2, hy2⟩ : ∃ x, x = d[h]! := ⟨_, rfl⟩
              have l2a := S1.out.ld R (by omega) P m (by omega)
              have l2b := S1.out.ld R (by omega) P h (by omega)
              rw [← hx2] at l2a
              rw [← hy2] at l2b
              have hc2 := S1.out.cmp HC.out (by omega) x2 y2
              have hv2 : ¬ cf x2 y2 < 0 := by rw [hx2, hy2]; exact of_decide_eq_false hv
              have hd2 : decide (cf x2 y2 < 0) = false := decide_eq_false hv2
              clear hx2 hy2
              go_wp2_with fail
              go_quiet_grown (first | (go_at_fn g; refine Calls.grown_of (hc2 _ _)))
              have S2 : Aside (SWK enc k w0 blk off d (grow (wr.drewN nq) osq)) := S1.out.grown nq osq
              clear l2a l2b hc2 S1
              generalize grow (wr.drewN nq) osq = w2 at S2 ⊢
              clear nq osq
              go_wp2_with fail
              go_roundg gk
              case measure => omega
              case rel => exact ⟨h + 1, j, by go_num, rfl, HI2, S2, HE2⟩
            | true =>
              have hf1 : f ((i + j) / 2) = false := by rw [← hh.out, Hf.out]; show (!_) = _; rw [hv]; rfl
              have HE2 := hid (show bsGo f gk i h = bsGo f (m - a) a m by rw [← HE.out, bsGo_no _ _ _ _ hlt hf1, hh.out])
              have HI2 := hid (show a ≤ i ∧ i ≤ h ∧ h ≤ m ∧ h - i ≤ gk by omega)
              clear HE HI hHI hf1 hho
              have e2a : ((m : Nat) : Int).toNat = m := Int.toNat_natCast _
              have p2a : (0 : Int) ≤ (m : Int) := Int.natCast_nonneg _
              have b2a : (m : Int) < (d.size : Int) := by omega
              have r2a : IntKind.i64.wrap ((m : Nat) : Int) = (m : Int) := IntWalk.i64_in _ (by omega)
              have e2c : ((h : Nat) : Int).toNat = h := Int.toNat_natCast _
              have p2c : (0 : Int) ≤ (h : Int) := Int.natCast_nonneg _
              have b2c : (h : Int) < (d.size : Int) := by omega
              have r2c : IntKind.i64.wrap ((h : Nat) : Int) = (h : Int) := IntWalk.i64_in _ (by omega)
              obtain ⟨x2, hx2⟩ : ∃ x, x = d[m]! := ⟨_, rfl⟩
              obtain ⟨y2, hy2⟩ : ∃ x, x = d[h]! := ⟨_, rfl⟩
              have l2a := S1.out.ld R (by omega) P m (by omega)
              have l2b := S1.out.ld R (by omega) P h (by omega)
              rw [← hx2] at l2a
              rw [← hy2] at l2b
              have hc2 := S1.out.cmp HC.out (by omega) x2 y2
              have hv2 : cf x2 y2 < 0 := by rw [hx2, hy2]; exact of_decide_eq_true hv
              have hd2 : decide (cf x2 y2 < 0) = true := decide_eq_true hv2
              clear hx2 hy2
              go_wp2_with fail
              go_quiet_grown (first | (go_at_fn g; refine Calls.grown_of (hc2 _ _)))
              have S2 : Aside (SWK enc k w0 blk off d (grow (wr.drewN nq) osq)) := S1.out.grown nq osq
              clear l2a l2b hc2 S1
              generalize grow (wr.drewN nq) osq = w2 at S2 ⊢
              clear nq osq
              go_wp2_with fail
              go_roundg gk
              case measure => omega
              case rel => exact ⟨i, h, rfl, rfl, HI2, S2, HE2⟩
        · have hltz : ¬ (i : Int) < (j : Int) := by omega
          have HX := hid (show bsGo f (m - a) a m = i by rw [← HE.out, bsGo_end _ _ _ _ hlt])
          have HI2 := hid (show a ≤ i ∧ i ≤ m by omega)
          clear HE HI hHI hlt
          generalize wr = w3 at S1 ⊢
          have hHI2 := HI2.out
          have HFIN := hid (show symGo (ltOf cf) (G + 1) a m b d = downGo (m - i) m d by rw [symGo, if_neg h1m, if_pos h1b, ← Hf.out, HX.out])
          clear hHI2 HX
          go_wp2_with fail
          go_loopg [17] (m - i) (fun kx s1 wr => ∃ (q : Nat) (dk : Array α), s1 = .int .i64 q ∧ Hid (q ≤ m ∧ kx + i = q) ∧ dk.size = d.size ∧ Aside (SWK enc k w0 blk off dk wr) ∧ Hid (downGo kx q dk = downGo (m - i) m d))
          case atStart => exact ⟨m, d, rfl, hid (by have := HI2.out; omega), rfl, S1, rfl⟩
          case round =>
            clear S1
            obtain ⟨q, dk, rfl, HQ, hds, S1, HE⟩ := hrel
            have hHQ := HQ.out
            cases gk with
            | zero =>
              have hltz : ¬ (i : Int) < (q : Int) := by omega
              clear hHQ
              go_wp2_with fail
              refine ret0 rfl rfl ?_
              exact ⟨rfl, by rw [HFIN.out, ← HE.out]; exact S1.out⟩
            | succ gk =>
              have hltz : (i : Int) < (q : Int) := by omega
              obtain ⟨p, hp⟩ := nat_name (q - 1)
              have hpo := hp.out
              have ip : IntKind.i64.wrap ((q : Int) - 1) = (p : Int) := (IntWalk.i64_in _ (by omega)).trans (by omega)
              have hqd : q < d.size := by omega
              have hpd : p < d.size := by omega
              have HQ2 := hid (show p ≤ m ∧ gk + i = p by omega)
              have HE2 := hid (show downGo gk p (swp dk q p) = downGo (m - i) m d by rw [← HE.out, downGo, hp.out])
              clear hpo hHQ HQ HE
              have eua : ((q : Nat) : Int).toNat = q := Int.toNat_natCast _
              have pua : (0 : Int) ≤ (q : Int) := Int.natCast_nonneg _
              have bua : (q : Int) < (d.size : Int) := by omega
              have rua : IntKind.i64.wrap ((q : Nat) : Int) = (q : Int) := IntWalk.i64_in _ (by omega)
              have euc : ((p : Nat) : Int).toNat = p := Int.toNat_natCast _
              have puc : (0 : Int) ≤ (p : Int) := Int.natCast_nonneg _
              have buc : (p : Int) < (d.size : Int) := by omega
              have ruc : IntKind.i64.wrap ((p : Nat) : Int) = (p : Int) := IntWalk.i64_in _ (by omega)
              have S2 : Aside (SWK enc k w0 blk off (swp dk q p) ((wr.drew.setCells blk (off + q * k) (enc dk[p]!)).setCells blk (off + p * k) (enc dk[q]!))) := S1.out.swapped R q p (by omega) (by omega)
              have lua := S1.out.ld1 R (by omega) P q (by omega)
              have lub := S1.out.ld1 R (by omega) P p (by omega)
              have sua := S1.out.st1 R (by omega) P q (by omega) dk[p]!
              have sub := S1.out.st2 R (by omega) P q p (by omega) (by omega) dk[p]! dk[q]!
              have nua : (enc dk[q]!).length = k := R.hk _
              have nub : (enc dk[p]!).length = k := R.hk _
              generalize enc dk[q]! = cIu at S2 lua sub nua
              generalize enc dk[p]! = cJu at S2 lub sua sub nub
              clear S1
              go_wp2_with fail
              go_big_region_o
              clear lua lub sua sub
              generalize (wr.drew.setCells blk (off + q * k) cJu).setCells blk (off + p * k) cIu = w2 at S2 ⊢
              go_wp2_with fail
              go_roundg gk
              case measure => omega
              case rel => exact ⟨p, swp dk q p, rfl, HQ2, by rw [size_swp]; exact hds, S2, HE2⟩
    · obtain ⟨mb, hmb⟩ := nat_name (b - m)
      have hmbo := hmb.out
      have wb : IntKind.i64.wrap ((b : Int) - (m : Int)) = (mb : Int) := (IntWalk.i64_in _ (by omega)).trans (by omega)
      have wb1 : ((mb : Int) == 1) = false := by simp; omega
      have wb2 : ¬ (mb : Int) = 1 := by omega
      clear hmbo
      obtain ⟨mid, hmid⟩ := nat_name ((a + b) / 2)
      have hmido := hmid.out
      have imid : (((a : Nat) : Int) + (b : Int)) / 2 = (mid : Int) := by omega
      have wmid : IntKind.i64.wrap (((a : Nat) : Int) + (b : Int)) = (a : Int) + (b : Int) := IntWalk.i64_in _ (by omega)
      have zmid : IntKind.i64.wrap (mid : Int) = (mid : Int) := IntWalk.i64_in _ (by omega)
      have bmid : mid < 4611686018427387904 := by omega
      have cmid : a < 4611686018427387904 := by omega
      have dmid : b < 4611686018427387904 := by omega
      obtain ⟨n, hn⟩ := nat_name (mid + m)
      obtain ⟨pp, hpp⟩ := nat_name (mid + m - 1)
      have hno := hn.out
      have hppo := hpp.out
      have wn : IntKind.i64.wrap ((mid : Int) + (m : Int)) = (n : Int) := (IntWalk.i64_in _ (by omega)).trans (by omega)
      have wpp : IntKind.i64.wrap ((n : Int) - 1) = (pp : Int) := (IntWalk.i64_in _ (by omega)).trans (by omega)
      have HN0 := hid (show n = mid + m by omega)
      have HRO := hid fun (dd : Array α) (ww : World) (hs1 : dd.size = d.size) (S : SWK enc k w0 blk off dd ww) => (fun (s e : Nat) (q1 : s < m) (q2 : m < e) (q3 : e ≤ dd.size) => St.rotate L k aE zE enc g cb blk off cap s m e d0 dd w0 ww R (by omega) S q1 q2 q3 (by omega))
      have HIH := hid fun (x y z : Nat) (dd : Array α) (ww : World) (hs1 : dd.size = d.size) (S : SWK enc k w0 blk off dd ww) (q0 : z - x ≤ G) (q1 : x < y) (q2 : y < z) (q3 : z ≤ d.size) => ih x y z dd ww (by omega) S q0 q1 q2 (by omega)
      clear hmido hno hppo ih
      go_enter FG, stB_sym_ntmps ρ
      go_upto_if 140 with fail
      go_cut [20, 21] from 138 to 219 (fun s1 s2 wx => ∃ lo hi : Nat, s1 = .int .i64 lo ∧ s2 = .int .i64 hi ∧ Hid (lo = mgLo a m b ∧ hi = mgHi a m b) ∧ Aside (SWK enc k w0 blk off d wx))
      case first =>
        by_cases hm : mid < m
        · have hmz : (mid : Int) < (m : Int) := by omega
          obtain ⟨lo, hlo⟩ := nat_name (mgLo a m b)
          have hloo : lo = mid + m - b := by rw [hlo.out, mgLo, if_pos (by have := hmid.out; omega), hmid.out]
          have wlo : IntKind.i64.wrap ((n : Int) - (b : Int)) = (lo : Int) := (IntWalk.i64_in _ (by have := HN0.out; have := hmid.out; omega)).trans (by have := HN0.out; have := hmid.out; omega)
          clear hloo
          go_wp2_with fail
          go_meet
          exact ⟨lo, mid, rfl, rfl, hid ⟨hlo.out, by rw [mgHi, if_pos (by have := hmid.out; omega)]; exact hmid.out⟩, S0⟩
        · have hmz : ¬ (mid : Int) < (m : Int) := by omega
          go_wp2_with fail
          go_meet
          exact ⟨a, m, rfl, rfl, hid ⟨by rw [mgLo, if_neg (by have := hmid.out; omega)], by rw [mgHi, if_neg (by have := hmid.out; omega)]⟩, S0⟩
      case rest =>
        clear S0
        obtain ⟨lo, hi, rfl, rfl, HLH, S0⟩ := hcut
        have HM2 := hid (show lo ≤ hi ∧ hi ≤ mid ∧ hi ≤ m ∧ n ≤ lo + b ∧ a ≤ lo by
          have := mg_in h1 h2
          have := HLH.out
          have := HN0.out
          have := hmid.out
          omega)
        obtain ⟨f, Hf⟩ : ∃ f : Nat → Bool, Hid (f = fun c => !ltOf cf d[(a + b) / 2 + m - 1 - c]! d[c]!) := ⟨_, rfl⟩
        go_wp2_with fail
        go_loopg [20, 21] (hi - lo) (fun kx s1 s2 wr => ∃ (i j : Nat), s1 = .int .i64 i ∧ s2 = .int .i64 j ∧ Hid (lo ≤ i ∧ i ≤ j ∧ j ≤ hi ∧ j - i ≤ kx) ∧ Aside (SWK enc k w0 blk off d wr) ∧ Hid (bsGo f kx i j = bsGo f (hi - lo) lo hi))
        case atStart => exact ⟨lo, hi, rfl, rfl, hid ⟨Nat.le_refl _, HM2.out.1, Nat.le_refl _, Nat.le_refl _⟩, S0, rfl⟩
        case round =>
          clear S0
          obtain ⟨i, j, rfl, rfl, HI, S1, HE⟩ := hrel
          have hHI := HI.out
          by_cases hlt : i < j
          · have hltz : (i : Int) < (j : Int) := by omega
            cases gk with
            | zero => exact absurd hHI (by omega)
            | succ gk =>
              have hM2 := HM2.out
              obtain ⟨h, hh⟩ := nat_name ((i + j) / 2)
              have hho := hh.out
              have ih : (((i : Nat) : Int) + (j : Int)) / 2 = (h : Int) := by omega
              have wh : IntKind.i64.wrap (((i : Nat) : Int) + (j : Int)) = (i : Int) + (j : Int) := IntWalk.i64_in _ (by omega)
              have zh : IntKind.i64.wrap (h : Int) = (h : Int) := IntWalk.i64_in _ (by omega)
              have bh : h < 4611686018427387904 := by omega
              have ch : i < 4611686018427387904 := by omega
              have dh : j < 4611686018427387904 := by omega
              have ih1 : IntKind.i64.wrap ((h : Int) + 1) = (h : Int) + 1 := IntWalk.i64_in _ (by omega)
              have hN0 := HN0.out
              have hmo := hmid.out
              have hpo := hpp.out
              obtain ⟨q, hq⟩ := nat_name (mid + m - 1 - h)
              have hqo := hq.out
              have wq : IntKind.i64.wrap ((pp : Int) - (h : Int)) = (q : Int) := (IntWalk.i64_in _ (by omega)).trans (by omega)
              have hqd : q < d.size := by omega
              have hhd : h < d.size := by omega
              have HN := hid (show (a + b) / 2 + m - 1 - h = q by omega)
              clear hM2 hN0 hmo hpo hqo
              cases hv : ltOf cf d[q]! d[h]! with
              | false =>
                have hf1 : f ((i + j) / 2) = true := by rw [← hh.out, Hf.out]; show (!_) = _; rw [HN.out, hv]; rfl
                have HE2 := hid (show bsGo f gk (h + 1) j = bsGo f (hi - lo) lo hi by rw [← HE.out, bsGo_go _ _ _ _ hlt hf1, hh.out])
                have HI2 := hid (show lo ≤ h + 1 ∧ h + 1 ≤ j ∧ j ≤ hi ∧ j - (h + 1) ≤ gk by omega)
                clear HE HI hHI hf1 hho
                have e3a : ((q : Nat) : Int).toNat = q := Int.toNat_natCast _
                have p3a : (0 : Int) ≤ (q : Int) := Int.natCast_nonneg _
                have b3a : (q : Int) < (d.size : Int) := by omega
                have r3a : IntKind.i64.wrap ((q : Nat) : Int) = (q : Int) := IntWalk.i64_in _ (by omega)
                have e3c : ((h : Nat) : Int).toNat = h := Int.toNat_natCast _
                have p3c : (0 : Int) ≤ (h : Int) := Int.natCast_nonneg _
                have b3c : (h : Int) < (d.size : Int) := by omega
                have r3c : IntKind.i64.wrap ((h : Nat) : Int) = (h : Int) := IntWalk.i64_in _ (by omega)
                obtain ⟨x3, hx3⟩ : ∃ x, x = d[q]! := ⟨_, rfl⟩
                obtain ⟨y3, hy3⟩ : ∃ x, x = d[h]! := ⟨_, rfl⟩
                have l3a := S1.out.ld R (by omega) P q (by omega)
                have l3b := S1.out.ld R (by omega) P h (by omega)
                rw [← hx3] at l3a
                rw [← hy3] at l3b
                have hc3 := S1.out.cmp HC.out (by omega) x3 y3
                have hv3 : ¬ cf x3 y3 < 0 := by rw [hx3, hy3]; exact of_decide_eq_false hv
                have hd3 : decide (cf x3 y3 < 0) = false := decide_eq_false hv3
                clear hx3 hy3
                go_wp2_with fail
                go_quiet_grown (first | (go_at_fn g; refine Calls.grown_of (hc3 _ _)))
                have S2 : Aside (SWK enc k w0 blk off d (grow (wr.drewN nq) osq)) := S1.out.grown nq osq
                clear l3a l3b hc3 S1
                generalize grow (wr.drewN nq) osq = w2 at S2 ⊢
                clear nq osq
                go_wp2_with fail
                go_roundg gk
                case measure => omega
                case rel => exact ⟨h + 1, j, by go_num, rfl, HI2, S2, HE2⟩
              | true =>
                have hf1 : f ((i + j) / 2) = false := by rw [← hh.out, Hf.out]; show (!_) = _; rw [HN.out, hv]; rfl
                have HE2 := hid (show bsGo f gk i h = bsGo f (hi - lo) lo hi by rw [← HE.out, bsGo_no _ _ _ _ hlt hf1, hh.out])
                have HI2 := hid (show lo ≤ i ∧ i ≤ h ∧ h ≤ hi ∧ h - i ≤ gk by omega)
                clear HE HI hHI hf1 hho
                have e3a : ((q : Nat) : Int).toNat = q := Int.toNat_natCast _
                have p3a : (0 : Int) ≤ (q : Int) := Int.natCast_nonneg _
                have b3a : (q : Int) < (d.size : Int) := by omega
                have r3a : IntKind.i64.wrap ((q : Nat) : Int) = (q : Int) := IntWalk.i64_in _ (by omega)
                have e3c : ((h : Nat) : Int).toNat = h := Int.toNat_natCast _
                have p3c : (0 : Int) ≤ (h : Int) := Int.natCast_nonneg _
                have b3c : (h : Int) < (d.size : Int) := by omega
                have r3c : IntKind.i64.wrap ((h : Nat) : Int) = (h : Int) := IntWalk.i64_in _ (by omega)
                obtain ⟨x3, hx3⟩ : ∃ x, x = d[q]! := ⟨_, rfl⟩
                obtain ⟨y3, hy3⟩ : ∃ x, x = d[h]! := ⟨_, rfl⟩
                have l3a := S1.out.ld R (by omega) P q (by omega)
                have l3b := S1.out.ld R (by omega) P h (by omega)
                rw [← hx3] at l3a
                rw [← hy3] at l3b
                have hc3 := S1.out.cmp HC.out (by omega) x3 y3
                have hv3 : cf x3 y3 < 0 := by rw [hx3, hy3]; exact of_decide_eq_true hv
                have hd3 : decide (cf x3 y3 < 0) = true := decide_eq_true hv3
                clear hx3 hy3
                go_wp2_with fail
                go_quiet_grown (first | (go_at_fn g; refine Calls.grown_of (hc3 _ _)))
                have S2 : Aside (SWK enc k w0 blk off d (grow (wr.drewN nq) osq)) := S1.out.grown nq osq
                clear l3a l3b hc3 S1
                generalize grow (wr.drewN nq) osq = w2 at S2 ⊢
                clear nq osq
                go_wp2_with fail
                go_roundg gk
                case measure => omega
                case rel => exact ⟨i, h, rfl, rfl, HI2, S2, HE2⟩
          · have hltz : ¬ (i : Int) < (j : Int) := by omega
            have HX := hid (show bsGo f (hi - lo) lo hi = i by rw [← HE.out, bsGo_end _ _ _ _ hlt])
            have HI2 := hid (show lo ≤ i ∧ i ≤ hi by omega)
            clear HE HI hHI hlt
            generalize wr = w3 at S1 ⊢
            obtain ⟨s, hs⟩ : ∃ s, s = i := ⟨_, rfl⟩
            rw [← hs] at HX HI2 hltz ⊢
            clear hs
            obtain ⟨e, he⟩ := nat_name (mid + m - s)
            have heo := he.out
            have hHI2 := HI2.out
            have hHL := HLH.out
            have hM2 := HM2.out
            have we : IntKind.i64.wrap ((n : Int) - (s : Int)) = (e : Int) := (IntWalk.i64_in _ (by have := HN0.out; omega)).trans (by have := HN0.out; omega)
            have HM3 := hid (show ¬ m - a = 1 ∧ ¬ b - m = 1 ∧ a ≤ s ∧ s ≤ m ∧ e ≤ b ∧ mid - a ≤ G ∧ b - mid ≤ G ∧ mid < b ∧ a < mid by
              rw [HLH.out.1, HLH.out.2] at hHI2
              have := mg_in h1 h2
              have := hmid.out
              omega)
            have HMG := hid (show mgAt (ltOf cf) d a m b = s by rw [mgAt, ← Hf.out, ← hHL.1, ← hHL.2]; exact HX.out)
            clear heo hHI2 hHL hM2 HX
            generalize w3 = wc at S1 ⊢
            go_upto_region 39 with fail
            go_cut [185] from 178 to 219 (fun c wx => Hid (c = .bool (decide (s < m ∧ m < e))) ∧ Aside (SWK enc k w0 blk off d wx))
            case first =>
              by_cases hA : s < m
              · have hAz : (s : Int) < (m : Int) := by omega
                by_cases hB : m < e
                · have hBz : (m : Int) < (e : Int) := by omega
                  go_wp2_with fail
                  go_meet
                  exact ⟨hid (congrArg Value.bool (decide_eq_true ⟨hA, hB⟩).symm), S1⟩
                · have hBz : ¬ (m : Int) < (e : Int) := by omega
                  go_wp2_with fail
                  go_meet
                  exact ⟨hid (congrArg Value.bool (decide_eq_false fun h => hB h.2).symm), S1⟩
              · have hAz : ¬ (s : Int) < (m : Int) := by omega
                go_wp2_with fail
                go_meet
                exact ⟨hid (congrArg Value.bool (decide_eq_false fun h => hA h.1).symm), S1⟩
            case rest =>
              clear S1
              obtain ⟨HC0, S1⟩ := hcut
              obtain ⟨cb, HCB⟩ : ∃ cb : Bool, Hid (cb = decide (s < m ∧ m < e)) := ⟨_, rfl⟩
              rw [← HCB.out] at HC0
              obtain rfl := HC0.out
              clear HC0
              go_upto_if 185 with fail
              go_cut [] from 178 to 219 (fun wx => ∃ d1 : Array α, Hid (d1 = if s < m ∧ m < e then rotateS d s m e else d) ∧ d1.size = d.size ∧ Aside (SWK enc k w0 blk off d1 wx))
              case first =>
                cases cb with
                | true =>
                  have hAB : s < m ∧ m < e := of_decide_eq_true HCB.out.symm
                  have hc := HRO.out d wc rfl S1.out s e hAB.1 hAB.2 (by have := HM3.out; omega)
                  go_wp2_with (go_at_fn (ρ.f 80); refine hc.mono ?_; rintro e w5 ⟨rfl, hS5⟩)
                  go_meet
                  exact ⟨_, hid (by rw [if_pos hAB]), (by rw [size_rotateS]), hS5⟩
                | false =>
                  have hAB : ¬ (s < m ∧ m < e) := of_decide_eq_false HCB.out.symm
                  go_wp2_with fail
                  go_meet
                  exact ⟨d, hid (by rw [if_neg hAB]), rfl, S1⟩
              case rest =>
                clear S1 HCB
                obtain ⟨d1, Hd1, hszd1, S1⟩ := hcut
                have HSZd1 := hid hszd1
                clear hszd1
                go_upto_region 41 with fail
                go_cut [199] from 192 to 219 (fun c wx => Hid (c = .bool (decide (a < s ∧ s < mid))) ∧ Aside (SWK enc k w0 blk off d1 wx))
                case first =>
                  by_cases hA : a < s
                  · have hAz : (a : Int) < (s : Int) := by omega
                    by_cases hB : s < mid
                    · have hBz : (s : Int) < (mid : Int) := by omega
                      go_wp2_with fail
                      go_meet
                      exact ⟨hid (congrArg Value.bool (decide_eq_true ⟨hA, hB⟩).symm), S1⟩
                    · have hBz : ¬ (s : Int) < (mid : Int) := by omega
                      go_wp2_with fail
                      go_meet
                      exact ⟨hid (congrArg Value.bool (decide_eq_false fun h => hB h.2).symm), S1⟩
                  · have hAz : ¬ (a : Int) < (s : Int) := by omega
                    go_wp2_with fail
                    go_meet
                    exact ⟨hid (congrArg Value.bool (decide_eq_false fun h => hA h.1).symm), S1⟩
                case rest =>
                  clear S1
                  obtain ⟨HC0, S1⟩ := hcut
                  obtain ⟨cb, HCB⟩ : ∃ cb : Bool, Hid (cb = decide (a < s ∧ s < mid)) := ⟨_, rfl⟩
                  rw [← HCB.out] at HC0
                  obtain rfl := HC0.out
                  clear HC0
                  go_upto_if 199 with fail
                  go_cut [] from 192 to 219 (fun wx => ∃ d2 : Array α, Hid (d2 = if a < s ∧ s < mid then symGo (ltOf cf) G a s mid d1 else d1) ∧ d2.size = d.size ∧ Aside (SWK enc k w0 blk off d2 wx))
                  case first =>
                    cases cb with
                    | true =>
                      have hAB : a < s ∧ s < mid := of_decide_eq_true HCB.out.symm
                      have hc := HIH.out a s mid d1 wc HSZd1.out S1.out (by have := HM3.out; omega) hAB.1 hAB.2 (by have := HM3.out; omega)
                      rw [HSZd1.out] at hc
                      go_wp2_with (go_at_fn (ρ.f 72); refine hc.mono ?_; rintro e w5 ⟨rfl, hS5⟩)
                      go_meet
                      exact ⟨_, hid (by rw [if_pos hAB]), (by rw [size_symGo]; exact HSZd1.out), hS5⟩
                    | false =>
                      have hAB : ¬ (a < s ∧ s < mid) := of_decide_eq_false HCB.out.symm
                      go_wp2_with fail
                      go_meet
                      exact ⟨d1, hid (by rw [if_neg hAB]), HSZd1.out, S1⟩
                  case rest =>
                    clear S1 HCB
                    obtain ⟨d2, Hd2, hszd2, S1⟩ := hcut
                    have HSZd2 := hid hszd2
                    clear hszd2
                    go_upto_region 43 with fail
                    go_cut [213] from 206 to 219 (fun c wx => Hid (c = .bool (decide (mid < e ∧ e < b))) ∧ Aside (SWK enc k w0 blk off d2 wx))
                    case first =>
                      by_cases hA : mid < e
                      · have hAz : (mid : Int) < (e : Int) := by omega
                        by_cases hB : e < b
                        · have hBz : (e : Int) < (b : Int) := by omega
                          go_wp2_with fail
                          go_meet
                          exact ⟨hid (congrArg Value.bool (decide_eq_true ⟨hA, hB⟩).symm), S1⟩
                        · have hBz : ¬ (e : Int) < (b : Int) := by omega
                          go_wp2_with fail
                          go_meet
                          exact ⟨hid (congrArg Value.bool (decide_eq_false fun h => hB h.2).symm), S1⟩
                      · have hAz : ¬ (mid : Int) < (e : Int) := by omega
                        go_wp2_with fail
                        go_meet
                        exact ⟨hid (congrArg Value.bool (decide_eq_false fun h => hA h.1).symm), S1⟩
                    case rest =>
                      clear S1
                      obtain ⟨HC0, S1⟩ := hcut
                      obtain ⟨cb, HCB⟩ : ∃ cb : Bool, Hid (cb = decide (mid < e ∧ e < b)) := ⟨_, rfl⟩
                      rw [← HCB.out] at HC0
                      obtain rfl := HC0.out
                      clear HC0
                      go_upto_if 213 with fail
                      cases cb with
                      | true =>
                        have hAB : mid < e ∧ e < b := of_decide_eq_true HCB.out.symm
                        have hc := HIH.out mid e b d2 wc HSZd2.out S1.out (by have := HM3.out; omega) hAB.1 hAB.2 (by have := HM3.out; omega)
                        rw [HSZd2.out] at hc
                        go_wp2_with (go_at_fn (ρ.f 72); refine hc.mono ?_; rintro e w5 ⟨rfl, hS5⟩)
                        go_end0
                        exact ⟨rfl, by rw [symGo_mid _ G d HM3.out.1 HM3.out.2.1 HMG.out hmid.out he.out Hd1.out Hd2.out, if_pos hAB]; exact hS5⟩
                      | false =>
                        have hAB : ¬ (mid < e ∧ e < b) := of_decide_eq_false HCB.out.symm
                        go_wp2_with fail
                        go_end0
                        exact ⟨rfl, by rw [symGo_mid _ G d HM3.out.1 HM3.out.2.1 HMG.out hmid.out he.out Hd1.out Hd2.out, if_neg hAB]; exact S1.out⟩
end Go.Proofs.Ytnpgfbgnbonhfaa

namespace Go.Proofs.Ytnpgfbgnbonhfaa
open Go.Shelf Go.RowKit Go.Lib Go.Sort
variable {P : Program} {ρ ρ2 : Ren} {α : Type} [Inhabited α]

theorem St.insertion (L2 : SlLaysF0.n20 P ρ2) (k : Nat) (aE : ∀ w, (isAgg (ρ2.t 24)).run P w = .ok true w) (zE : ∀ w, (Go.sizeOf (ρ2.t 24)).run P w = .ok k w) (enc : α → List Value) (cf : α → α → Int) (g : Nat) (cb : Array Value) (blk off cap a b : Nat) (d0 d : Array α) (w0 w : World)
    (eg : ∀ args w, (callFunc g args).run P w = .ok (.enter g args) w) (hcmp : CmpLays P g cb enc k cf blk off d0.size w0) (R : RowK enc k w0 blk off d0) (hs : d0.size = d.size) (S : SWK enc k w0 blk off d w) (hab : a ≤ b) (hb : b ≤ d.size) (hsz : d.size < 4611686018427387904) :
    Calls P (ρ2.f 20) #[.slice (some ⟨blk, off, none⟩) d.size cap, .int .i64 a, .int .i64 b, .func (.func g) #[] cb] w fun e w' => e = .returned (.tuple #[]) ∧ SWK enc k w0 blk off (Sort.insertionSort (ltOf cf) d a b) w' := by
  have hC : CmpLays P g cb enc k cf blk off d.size w := fun m os dk hdk x y => by
    obtain ⟨n0, os0, rfl⟩ := S
    rw [sortWorldK_on enc k w0 blk off n0 m d dk os0 os R.hblk hdk]
    exact hcmp _ _ dk (by omega) x y
  refine (AnyQ.insertionSortCmpFunc L2 k aE zE enc R.hk R.h1 cf g cb blk off cap a b d w eg hC (S.holds R.hblk R.hH hs.symm) (S.lt R.hblk) hab hb hsz).mono ?_
  rintro e w' ⟨rfl, n, os, rfl⟩
  exact ⟨rfl, S.on R.hblk n _ os (size_insertionSort _ _ _ _)⟩
set_option maxHeartbeats 2000000 in
theorem St.insertion_none (L : SlLaysF0.n20 P ρ2) (p : Option Addr) (cap : Nat) (fv : Value) (w : World) :
    Calls P (ρ2.f 20) #[.slice p 0 cap, .int .i64 0, .int .i64 0, fv] w fun e w' => e = .returned (.tuple #[]) ∧ w' = w := by
  have mixed := L.mixed; have t0 := L.t0; have a0 := L.a0; have z0 := L.z0; have v0 := L.v0; have t3 := L.t3; have a3 := L.a3; have z3 := L.z3; have v3 := L.v3; have t4 := L.t4; have a4 := L.a4; have z4 := L.z4; have v4 := L.v4; have t22 := L.t22; have a22 := L.a22; have z22 := L.z22; have v22 := L.v22; have t25 := L.t25; have a25 := L.a25; have z25 := L.z25; have v25 := L.v25
  obtain ⟨_, _, FG⟩ := L.f20
  go_enter FG, SlBodyF.n20_ntmps ρ2
  go_wp2
  refine wp_loop_rounds 1 ?_
  rw [rounds_succ]
  go_wp2
  go_end0
  exact ⟨rfl, rfl⟩

set_option maxHeartbeats 8000000 in
set_option maxRecDepth 1000000 in
theorem St.stable (L : StL P ρ) (k : Nat) (aE : ∀ w, (isAgg (ρ.t 35)).run P w = .ok true w) (zE : ∀ w, (Go.sizeOf (ρ.t 35)).run P w = .ok k w) (enc : α → List Value) (L2 : SlLaysF0.n20 P ρ2) (h71 : ρ2.f 20 = ρ.f 71) (h35 : ρ2.t 24 = ρ.t 35) (cf : α → α → Int) (g : Nat) (cb : Array Value) (blk off cap : Nat) (d0 d : Array α) (w0 w : World)
    (eg : ∀ args w, (callFunc g args).run P w = .ok (.enter g args) w) (hcmp : CmpLays P g cb enc k cf blk off d0.size w0) (R : RowK enc k w0 blk off d0) (hs : d0.size = d.size) (S : SWK enc k w0 blk off d w) (hsz : d.size ≤ 100000000) :
    Calls P (ρ.f 59) #[.slice (some ⟨blk, off, none⟩) d.size cap, .int .i64 d.size, .func (.func g) #[] cb] w fun e w' => e = .returned (.tuple #[]) ∧ SWK enc k w0 blk off (stableA (ltOf cf) d) w' := by
  have mixed := L.mixed; have t0 := L.t0; have a0 := L.a0; have z0 := L.z0; have v0 := L.v0; have t3 := L.t3; have a3 := L.a3; have z3 := L.z3; have v3 := L.v3; have t4 := L.t4; have a4 := L.a4; have z4 := L.z4; have v4 := L.v4; have t28 := L.t28; have a28 := L.a28; have z28 := L.z28; have v28 := L.v28; have t37 := L.t37; have a37 := L.a37; have z37 := L.z37; have v37 := L.v37; have t79 := L.t79; have a79 := L.a79; have z79 := L.z79; have v79 := L.v79
  obtain ⟨_, _, FG⟩ := L.f59
  have e71 : ∀ args w, (callFunc (ρ.f 71) args).run P w = .ok (.enter (ρ.f 71) args) w := by rw [← h71]; exact L2.f20.enters rfl
  have e72 : ∀ args w, (callFunc (ρ.f 72) args).run P w = .ok (.enter (ρ.f 72) args) w := L.f72.enters rfl
  have HIN := hid fun (a b : Nat) (dd : Array α) (ww : World) (q1 : dd.size = d.size) (S : SWK enc k w0 blk off dd ww) (q2 : a ≤ b) (q3 : b ≤ dd.size) =>
    St.insertion L2 k (by rw [h35]; exact aE) (by rw [h35]; exact zE) enc cf g cb blk off cap a b d0 dd w0 ww eg hcmp R (by omega) S q2 q3 (by omega)
  rw [h71] at HIN
  have HSM := hid fun (G a m b : Nat) (dd : Array α) (ww : World) (q1 : dd.size = d.size) (S : SWK enc k w0 blk off dd ww) => St.symMerge L k aE zE enc cf g cb blk off cap d0 w0 eg hcmp R (by omega) G a m b dd ww (by omega) S
  have S0 : Aside (SWK enc k w0 blk off d w) := S
  have HST := hid (show stableA (ltOf cf) d = passGo (ltOf cf) (d.size + 1) 20 (blkGo (ltOf cf) (d.size + 1) 0 d) from rfl)
  obtain ⟨D1, hD1⟩ : ∃ D1, blkGo (ltOf cf) (d.size + 1) 0 d = D1 := ⟨_, rfl⟩
  have HDS := hid (show D1.size = d.size by rw [← hD1, size_blkGo])
  rw [hD1] at HST
  have HD1 := hid hD1
  clear S hcmp h71 h35 hD1 hs
  rw [HST.out]
  obtain ⟨n, hn⟩ := nat_name d.size
  rw [← hn.out] at HIN HSM HDS hsz HD1 ⊢
  have HNN := hid (show n ≤ 100000000 from hsz)
  clear HST hsz
  go_enter FG, stB_stb_ntmps ρ
  go_wp2_with fail
  go_loopg [7, 8] (n + 1) (fun kx s1 s2 wr => ∃ (a b : Nat) (dk : Array α), s1 = .int .i64 a ∧ s2 = .int .i64 b ∧ Hid (b = a + 20 ∧ a ≤ n ∧ n + 1 - a ≤ kx ∧ dk.size = n) ∧ Aside (SWK enc k w0 blk off dk wr) ∧ Hid (blkGo (ltOf cf) kx a dk = D1))
  case atStart => exact ⟨0, 20, d, rfl, rfl, hid ⟨rfl, Nat.zero_le _, Nat.le_refl _, hn.out.symm⟩, S0, HD1⟩
  case round =>
    clear S0 HD1
    obtain ⟨a, b, dk, rfl, rfl, HA, S1, HE⟩ := hrel
    have hA := HA.out
    have hN := HNN.out
    cases gk with
    | zero => exact absurd hA (by omega)
    | succ gk =>
      by_cases hlt : b ≤ n
      · have hltz : (b : Int) ≤ (n : Int) := by omega
        have hc := HIN.out a b dk wr hA.2.2.2 S1.out (by omega) (by omega)
        rw [hA.2.2.2] at hc
        obtain ⟨b2, hb2⟩ := nat_name (b + 20)
        have hb2o := hb2.out
        have wb : IntKind.i64.wrap ((b : Int) + 20) = (b2 : Int) := (IntWalk.i64_in _ (by omega)).trans (by omega)
        have HE2 := hid (show blkGo (ltOf cf) gk b (Sort.insertionSort (ltOf cf) dk a b) = D1 by rw [← HE.out, blkGo, if_pos (by omega), hA.1])
        have HA2 := hid (show b2 = b + 20 ∧ b ≤ n ∧ n + 1 - b ≤ gk ∧ (Sort.insertionSort (ltOf cf) dk a b).size = n from ⟨hb2o, hlt, by omega, by rw [size_insertionSort]; exact hA.2.2.2⟩)
        have hgk : gk < gk + 1 := by omega
        clear hA hN HA HE hb2o S1
        go_wp2_with (go_at_fn (ρ.f 71); refine hc.mono ?_; rintro e w2 ⟨rfl, hS2⟩)
        go_roundg gk
        case measure => exact hgk
        case rel => exact ⟨b, b2, _, rfl, rfl, HA2, hS2, HE2⟩
      · have hltz : ¬ (b : Int) ≤ (n : Int) := by omega
        have hc := HIN.out a n dk wr hA.2.2.2 S1.out hA.2.1 (by omega)
        rw [hA.2.2.2] at hc
        have HE2 := hid (show Sort.insertionSort (ltOf cf) dk a n = D1 by rw [← HE.out, blkGo, if_neg (by omega), hA.2.2.2])
        clear hA hN HA HE S1
        go_wp2_with (go_at_fn (ρ.f 71); refine hc.mono ?_; rintro e w2 ⟨rfl, hS2⟩)
        rw [HE2.out] at hS2
        have S1 : Aside _ := hS2
        clear hS2 HE2 hc hltz hlt HIN
        generalize w2 = w3 at S1 ⊢
        go_wp2_with fail
        go_loopg [6] (n + 1) (fun kx s1 wr => ∃ (s : Nat) (dk : Array α), s1 = .int .i64 s ∧ Hid (1 ≤ s ∧ s ≤ 2 * n + 20 ∧ n + 1 - s ≤ kx ∧ dk.size = n) ∧ Aside (SWK enc k w0 blk off dk wr) ∧ Hid (passGo (ltOf cf) kx s dk = passGo (ltOf cf) (n + 1) 20 D1))
        case atStart => exact ⟨20, D1, rfl, hid ⟨by omega, by omega, by omega, HDS.out⟩, S1, rfl⟩
        case round =>
          clear S1
          obtain ⟨s, dk, rfl, HA, S1, HE⟩ := hrel
          have hA := HA.out
          have hN := HNN.out
          by_cases hlt : s < n
          · have hltz : (s : Int) < (n : Int) := by omega
            cases gk with
            | zero => exact absurd hA (by omega)
            | succ g2 =>
              obtain ⟨s2, hs2⟩ := nat_name (2 * s)
              have hs2o := hs2.out
              have ws : IntKind.i64.wrap (2 * (s : Int)) = (s2 : Int) := (IntWalk.i64_in _ (by omega)).trans (by omega)
              have ws' : IntKind.i64.wrap ((s : Int) * 2) = (s2 : Int) := (IntWalk.i64_in _ (by omega)).trans (by omega)
              obtain ⟨D2, HD2⟩ : ∃ D2, Hid (mrgGo (ltOf cf) s (n + 1) 0 dk = D2) := ⟨_, rfl⟩
              have HE2 := hid (show passGo (ltOf cf) g2 s2 D2 = passGo (ltOf cf) (n + 1) 20 D1 by rw [← HE.out, passGo, if_pos (by omega), hA.2.2.2, HD2.out, hs2o])
              have HA2 := hid (show 1 ≤ s2 ∧ s2 ≤ 2 * n + 20 ∧ n + 1 - s2 ≤ g2 by omega)
              have HDZ := hid (show dk.size = n from hA.2.2.2)
              have HD2S := hid (show D2.size = n by rw [← HD2.out, size_mrgGo]; exact hA.2.2.2)
              have HSS := hid (show s2 = 2 * s ∧ 1 ≤ s ∧ s ≤ 2 * n + 20 from ⟨hs2o, hA.1, hA.2.1⟩)
              have hg2 : g2 < g2 + 1 := by omega
              clear hA hN HA HE hs2o
              go_wp2_with fail
              go_loopg [7, 8] (n + 1) (fun kx s1 s3 wr => ∃ (a b : Nat) (dj : Array α), s1 = .int .i64 a ∧ s3 = .int .i64 b ∧ Hid (b = a + s2 ∧ a ≤ n ∧ n + 1 - a ≤ kx ∧ dj.size = n) ∧ Aside (SWK enc k w0 blk off dj wr) ∧ Hid (mrgGo (ltOf cf) s kx a dj = D2))
              case atStart => exact ⟨0, s2, dk, rfl, rfl, hid ⟨by omega, Nat.zero_le _, Nat.le_refl _, HDZ.out⟩, S1, HD2⟩
              case round =>
                clear S1 HD2 HDZ
                obtain ⟨a, b, dj, rfl, rfl, HA, S1, HE⟩ := hrel
                have hA := HA.out
                have hN := HNN.out
                have hS := HSS.out
                cases gk with
                | zero => exact absurd hA (by omega)
                | succ g3 =>
                  obtain ⟨m, hm⟩ := nat_name (a + s)
                  have hmo := hm.out
                  have wm : IntKind.i64.wrap ((a : Int) + (s : Int)) = (m : Int) := (IntWalk.i64_in _ (by omega)).trans (by omega)
                  by_cases hbn : b ≤ n
                  · have hbz : (b : Int) ≤ (n : Int) := by omega
                    have hc := HSM.out s2 a m b dj wr hA.2.2.2 S1.out (by omega) (by omega) (by omega) (by omega)
                    rw [hA.2.2.2] at hc
                    obtain ⟨b2, hb2⟩ := nat_name (b + s2)
                    have hb2o := hb2.out
                    have wb : IntKind.i64.wrap ((b : Int) + (s2 : Int)) = (b2 : Int) := (IntWalk.i64_in _ (by omega)).trans (by omega)
                    have HE3 := hid (show mrgGo (ltOf cf) s g3 b (symGo (ltOf cf) s2 a m b dj) = D2 by rw [← HE.out, mrgGo, if_pos (by omega), hm.out, hA.1, hS.1])
                    have HA3 := hid (show b2 = b + s2 ∧ b ≤ n ∧ n + 1 - b ≤ g3 ∧ (symGo (ltOf cf) s2 a m b dj).size = n from ⟨hb2o, hbn, by omega, by rw [size_symGo]; exact hA.2.2.2⟩)
                    have hg3 : g3 < g3 + 1 := by omega
                    clear hA hN hS HA HE hb2o hmo S1
                    go_wp2_with (go_at_fn (ρ.f 72); refine hc.mono ?_; rintro e w5 ⟨rfl, hS2⟩)
                    go_roundg g3
                    case measure => exact hg3
                    case rel => exact ⟨b, b2, _, rfl, rfl, HA3, hS2, HE3⟩
                  · have hbz : ¬ (b : Int) ≤ (n : Int) := by omega
                    by_cases hmn : m < n
                    · have hmz : (m : Int) < (n : Int) := by omega
                      have hc := HSM.out s2 a m n dj wr hA.2.2.2 S1.out (by omega) (by omega) hmn (by omega)
                      rw [hA.2.2.2] at hc
                      have HE3 := hid (show symGo (ltOf cf) s2 a m n dj = D2 by rw [← HE.out, mrgGo, if_neg (by omega), if_pos (by omega), hm.out, hS.1, hA.2.2.2])
                      clear hA hN hS HA HE hmo S1
                      go_wp2_with (go_at_fn (ρ.f 72); refine hc.mono ?_; rintro e w5 ⟨rfl, hS2⟩)
                      rw [HE3.out] at hS2
                      go_roundg g2
                      case measure => exact hg2
                      case rel => exact ⟨s2, D2, rfl, hid ⟨HA2.out.1, HA2.out.2.1, HA2.out.2.2, HD2S.out⟩, hS2, HE2⟩
                    · have hmz : ¬ (m : Int) < (n : Int) := by omega
                      have HE3 := hid (show dj = D2 by rw [← HE.out, mrgGo, if_neg (by omega), if_neg (by omega)])
                      clear hA hN hS HA HE hmo
                      go_wp2_with fail
                      go_roundg g2
                      case measure => exact hg2
                      case rel => exact ⟨s2, D2, rfl, hid ⟨HA2.out.1, HA2.out.2.1, HA2.out.2.2, HD2S.out⟩, (show Aside _ from by rw [← HE3.out]; exact S1.out), HE2⟩
          · have hltz : ¬ (s : Int) < (n : Int) := by omega
            have HE2 := hid (show passGo (ltOf cf) (n + 1) 20 D1 = dk by
              rw [← HE.out]
              cases gk <;> first | rfl | (rw [passGo, if_neg (by omega)]))
            clear hA hN HA HE
            go_wp2_with fail
            go_end0
            exact ⟨rfl, by rw [HE2.out]; exact S1.out⟩
end Go.Proofs.Ytnpgfbgnbonhfaa

namespace Go.Proofs.Ytnpgfbgnbonhfaa
open Go.Shelf Go.RowKit Go.Lib Go.Sort
variable {P : Program} {ρ ρ2 : Ren} {α : Type} [Inhabited α]

set_option maxHeartbeats 2000000 in
theorem St.stable_none (L : StL P ρ) (L2 : SlLaysF0.n20 P ρ2) (h71 : ρ2.f 20 = ρ.f 71) (p : Option Addr) (cap : Nat) (fv : Value) (w : World) :
    Calls P (ρ.f 59) #[.slice p 0 cap, .int .i64 0, fv] w fun e w' => e = .returned (.tuple #[]) ∧ w' = w := by
  have mixed := L.mixed; have t0 := L.t0; have a0 := L.a0; have z0 := L.z0; have v0 := L.v0; have t3 := L.t3; have a3 := L.a3; have z3 := L.z3; have v3 := L.v3; have t4 := L.t4; have a4 := L.a4; have z4 := L.z4; have v4 := L.v4; have t28 := L.t28; have a28 := L.a28; have z28 := L.z28; have v28 := L.v28; have t79 := L.t79; have a79 := L.a79; have z79 := L.z79; have v79 := L.v79
  have e71 : ∀ args w, (callFunc (ρ.f 71) args).run P w = .ok (.enter (ρ.f 71) args) w := by rw [← h71]; exact L2.f20.enters rfl
  have hc := fun W => St.insertion_none L2 p cap fv W
  rw [h71] at hc
  obtain ⟨_, _, FG⟩ := L.f59
  go_enter FG, stB_stb_ntmps ρ
  go_wp2
  refine wp_loop_rounds 1 ?_
  rw [rounds_succ]
  go_wp2_with (go_at_fn (ρ.f 71); refine (hc _).mono ?_; rintro e w1 ⟨rfl, rfl⟩)
  refine wp_loop_rounds 1 ?_
  rw [rounds_succ]
  go_wp2
  go_end0
  exact ⟨rfl, rfl⟩

set_option maxHeartbeats 2000000 in
theorem St.top (L : StL P ρ) (fv v : Value) (n : Nat) (ao : Option Addr) (cap : Nat) (w : World) (R : Ending → World → Prop) (hv : v = .slice ao n cap)
    (hc : Calls P (ρ.f 59) #[v, .int .i64 n, fv] w fun e w' => e = .returned (.tuple #[]) ∧ R e w') : Calls P (ρ.f 43) #[v, fv] w fun e w' => e = .returned (.tuple #[]) ∧ R e w' := by
  have mixed := L.mixed; have t0 := L.t0; have a0 := L.a0; have z0 := L.z0; have v0 := L.v0; have t3 := L.t3; have a3 := L.a3; have z3 := L.z3; have v3 := L.v3; have t4 := L.t4; have a4 := L.a4; have z4 := L.z4; have v4 := L.v4; have t28 := L.t28; have a28 := L.a28; have z28 := L.z28; have v28 := L.v28; have t79 := L.t79; have a79 := L.a79; have z79 := L.z79; have v79 := L.v79
  have e59 : ∀ args w, (callFunc (ρ.f 59) args).run P w = .ok (.enter (ρ.f 59) args) w := L.f59.enters rfl
  subst hv
  obtain ⟨_, _, FG⟩ := L.f43
  go_enter FG, stB_top_ntmps ρ
  go_wp2_with (go_at_fn (ρ.f 59); refine hc.mono ?_; rintro e w1 ⟨rfl, hR⟩)
  go_end0
  exact ⟨rfl, hR⟩

theorem flatK_flatR (E : Enc α) (xs : List α) : flatK E.enc E.k xs.toArray = (flatR E xs).toArray := by
  apply Array.ext
  · simp [flatR_length]
  · intro t h1 h2
    have ht : t < xs.length * E.k := by simpa using h1
    have hk := E.pos
    have hi : t / E.k < xs.length := Nat.div_lt_of_lt_mul (by rw [Nat.mul_comm]; exact ht)
    have hj : t % E.k < E.k := Nat.mod_lt _ hk
    have h3 := flatR_at E (i := t / E.k) (List.getElem?_eq_getElem hi) hj
    rw [Nat.div_add_mod'] at h3
    have h4 : t % E.k < (E.enc xs[t / E.k]).length := by rw [E.len]; exact hj
    rw [List.getElem?_eq_getElem h4, List.getElem?_eq_getElem (by rw [flatR_length]; exact ht)] at h3
    have h5 := get_flatK E.enc E.k xs.toArray t (by simpa using ht)
    rw [getElem!_pos (flatK E.enc E.k xs.toArray) t h1] at h5
    rw [h5]
    have h6 : xs.toArray[t / E.k]! = xs[t / E.k] := by rw [getElem!_pos xs.toArray (t / E.k) (by simpa using hi)]; simp
    rw [h6, getElem!_pos (E.enc xs[t / E.k]) (t % E.k) h4]
    simpa using (Option.some.inj h3).symm
omit [Inhabited α] in
theorem holds_of_cells {w : World} {g : Nat} {cur : Array Value} {e : TypeId} {F : List Value} (hb : w.heap[g]? = some (.cells cur e (0, 0))) (ht : cur.toList.take F.length = F) : Holds id w g 0 F.toArray := by
  intro j hj
  have hj' : j < F.length := by simpa using hj
  refine ⟨?_, by simp [World.frozen?, hb]⟩
  have h1 : (cur.toList.take F.length)[j]? = F[j]? := by rw [ht]
  rw [List.getElem?_take_of_lt hj'] at h1
  simp only [World.cell?, hb, Nat.zero_add]
  simp only [Option.isSome_none, Bool.false_eq_true, if_false]
  rw [← Array.getElem?_toList, h1]
  simp [hj']
theorem heap_put_id {w : World} {g n : Nat} {os : Array Obj} {cur : Array Value} {e : TypeId} {fr : Nat × Nat} (F : Array Value) (hb : w.heap[g]? = some (.cells cur e fr)) :
    (grow (putRow id (Sort.ahead w n) g 0 F) os).heap[g]? = some (.cells (putCells id 0 F cur) e fr) := by
  have hg : g < w.heap.size := (Array.getElem?_eq_some_iff.1 hb).1
  rw [heap_grow_old _ _ (by simpa using hg)]
  simp [putRow, mapBlock, Sort.ahead, Array.getElem?_modify, hb, onCells]
theorem grownBy_put_id {w : World} {g n : Nat} {os : Array Obj} (F : Array Value) : w.grownBy (grow (putRow id (Sort.ahead w n) g 0 F) os) (some g) := by
  refine ⟨rfl, rfl, rfl, by simp, fun k hk hne => ?_⟩
  rw [heap_grow_old _ _ (by simpa using hk)]
  have : g ≠ k := fun e => hne (by rw [e])
  simp [putRow, mapBlock, Sort.ahead, Array.getElem?_modify, this]
theorem take_put_id (cur : Array Value) (F : List Value) (h : F.length ≤ cur.size) : (putCells id 0 F.toArray cur).toList.take F.length = F := by
  apply List.ext_getElem?
  intro j
  by_cases hj : j < F.length
  · rw [List.getElem?_take_of_lt hj, Array.getElem?_toList]
    simp [putCells, hj, show j < cur.size by omega]
  · rw [List.getElem?_take_eq_none (by omega), List.getElem?_eq_none (by omega)]

/-- A row of the call's own is sorted where it stands. -/
theorem St.own (L : StL P ρ) (L2 : SlLaysF0.n20 P ρ2) (h71 : ρ2.f 20 = ρ.f 71) (h35 : ρ2.t 24 = ρ.t 35) (E : Enc α) (aE : ∀ w, (isAgg (ρ.t 35)).run P w = .ok true w) (zE : ∀ w, (Go.sizeOf (ρ.t 35)).run P w = .ok E.k w) (cf : α → α → Int) (g : Nat) (cb : Array Value)
    (eg : ∀ args w, (callFunc g args).run P w = .ok (.enter g args) w) (ty : TypeId) (v : Value) (xs : List α) (w : World) (base : Nat) (hb : base ≤ w.heap.size) (hv : w.ownsRow base ty E.k v xs.length (flatR E xs)) (hl : xs.length ≤ 100000000)
    (hcmp : ∀ (x y : α) (W : World), Calls P g (#[.agg (E.enc x).toArray, .agg (E.enc y).toArray] ++ cb) W fun e w' => e = .returned (.int .i64 (cf x y)) ∧ ∃ q os', w' = grow (W.drewN q) os') :
    Calls P (ρ.f 43) #[v, .func (.func g) #[] cb] w fun e w' => e = .returned (.tuple #[]) ∧ w'.ownsRow base ty E.k v xs.length (flatR E (stableA (ltOf cf) xs.toArray).toList) ∧ Below base w w' := by
  have hv2 := hv
  rcases hv.2 with ⟨rfl, h0⟩ | ⟨gb, cap, cur, rfl, hbg, hg, h1, h2, h3, h4⟩
  · obtain rfl := List.eq_nil_of_length_eq_zero h0
    refine (St.top L _ _ 0 none 0 w (fun _ w' => w' = w) rfl (St.stable_none L L2 h71 none 0 _ w)).mono ?_
    rintro e w' ⟨rfl, rfl⟩
    refine ⟨rfl, ?_, Below.refl _ _⟩
    have e0 : (stableA (ltOf cf) ([] : List α).toArray).toList = [] := by
      apply List.eq_nil_of_length_eq_zero
      rw [Array.length_toList, size_stableA]
      rfl
    rw [e0]
    exact hv2
  · have hH : HoldsK E.enc E.k w gb 0 xs.toArray := by
      unfold HoldsK
      rw [flatK_flatR]
      exact holds_of_cells hg (by rw [flatR_length]; exact h4)
    have hlt := (Array.getElem?_eq_some_iff.1 hg).1
    have hsz : xs.toArray.size ≤ 100000000 := by simpa using hl
    have hc := St.stable L E.k aE zE E.enc L2 h71 h35 cf g cb gb 0 cap xs.toArray xs.toArray w w eg (fun m os dk _ x y => hcmp x y _) ⟨E.len, E.one, hH, hlt⟩ rfl (SWK.start hH) hsz
    have hs0 : xs.toArray.size = xs.length := by simp
    rw [hs0] at hc
    refine (St.top L _ _ xs.length (some ⟨gb, 0, none⟩) cap w (fun _ w' => SWK E.enc E.k w gb 0 (stableA (ltOf cf) xs.toArray) w') rfl hc).mono ?_
    rintro e w' ⟨rfl, n, os, rfl⟩
    obtain ⟨Y, hY⟩ : ∃ Y, stableA (ltOf cf) xs.toArray = Y := ⟨_, rfl⟩
    have hYs : Y.size = xs.length := by rw [← hY, size_stableA]; exact hs0
    have hYl : Y.toList.length = xs.length := by rw [Array.length_toList]; exact hYs
    rw [hY]
    have hF : flatK E.enc E.k Y = (flatR E Y.toList).toArray := by
      have := flatK_flatR E Y.toList
      rwa [Array.toArray_toList] at this
    have hFl : (flatR E Y.toList).length = xs.length * E.k := by rw [flatR_length, hYl]
    unfold sortWorldK putRowK
    rw [hF]
    have hle : (flatR E Y.toList).length ≤ cur.size := by rw [hFl, h3]; exact Nat.mul_le_mul_right _ h1
    refine ⟨rfl, ⟨hFl, .inr ⟨gb, cap, _, rfl, hbg, heap_put_id _ hg, h1, h2, by simp [putCells, h3], by rw [← hFl]; exact take_put_id cur _ hle⟩⟩,
      (Below.refl base w).grown (grownBy_put_id _) hb (fun j hj => by cases hj; exact hbg)⟩
end Go.Proofs.Ytnpgfbgnbonhfaa

namespace Go.Proofs.Ytnpgfbgnbonhfaa
open Go.Sort
section
variable {α : Type} [Inhabited α]

theorem perm_swp (d : Array α) {i j : Nat} (hi : i < d.size) (hj : j < d.size) : (swp d i j).toList.Perm d.toList := by
  have h := (swp_permIn d 0 d.size i j (Nat.zero_le _) hi (Nat.zero_le _) hj (Nat.le_refl _)).2.2
  have e1 : (swp d i j).extract 0 d.size = swp d i j := by
    have := Array.extract_size (xs := swp d i j)
    rwa [size_swp] at this
  rw [e1, Array.extract_size] at h
  exact h
theorem perm_swapGo (a b : Nat) : ∀ (n i : Nat) (d : Array α), a + i + n ≤ d.size → b + i + n ≤ d.size → (swapGo a b n i d).toList.Perm d.toList
  | 0, _, _, _, _ => List.Perm.refl _
  | n + 1, i, d, h1, h2 => by
    rw [swapGo]
    exact (perm_swapGo a b n (i + 1) _ (by rw [size_swp]; omega) (by rw [size_swp]; omega)).trans (perm_swp d (by omega) (by omega))
theorem perm_rotGo (m : Nat) : ∀ (g i j : Nat) (d : Array α), i ≤ m → m + j ≤ d.size → (rotGo m g i j d).toList.Perm d.toList
  | 0, _, _, _, _, _ => List.Perm.refl _
  | g + 1, i, j, d, h1, h2 => by
    rw [rotGo]
    split
    · exact perm_swapGo _ _ _ _ _ (by omega) (by omega)
    · split
      · exact (perm_rotGo m g _ _ _ (by omega) (by rw [size_swapGo]; omega)).trans (perm_swapGo _ _ _ _ _ (by omega) (by omega))
      · exact (perm_rotGo m g _ _ _ (by omega) (by rw [size_swapGo]; omega)).trans (perm_swapGo _ _ _ _ _ (by omega) (by omega))
theorem perm_rotateS (d : Array α) {a m b : Nat} (h1 : a < m) (h2 : m < b) (hb : b ≤ d.size) : (rotateS d a m b).toList.Perm d.toList := perm_rotGo m _ _ _ _ (by omega) (by omega)
theorem perm_upGo : ∀ (n k : Nat) (d : Array α), k + n < d.size ∨ n = 0 → (upGo n k d).toList.Perm d.toList
  | 0, _, _, _ => List.Perm.refl _
  | n + 1, k, d, h => by
    rw [upGo]
    exact (perm_upGo n (k + 1) _ (by rw [size_swp]; omega)).trans (perm_swp d (by omega) (by omega))
theorem perm_downGo : ∀ (n k : Nat) (d : Array α), n ≤ k → k < d.size ∨ n = 0 → (downGo n k d).toList.Perm d.toList
  | 0, _, _, _, _ => List.Perm.refl _
  | n + 1, k, d, h, h2 => by
    rw [downGo]
    exact (perm_downGo n (k - 1) _ (by omega) (by rw [size_swp]; omega)).trans (perm_swp d (by omega) (by omega))
theorem perm_symGo (lt : α → α → Bool) : ∀ (g a m b : Nat) (d : Array α), a < m → m < b → b ≤ d.size → (symGo lt g a m b d).toList.Perm d.toList
  | 0, _, _, _, _, _, _, _ => List.Perm.refl _
  | g + 1, a, m, b, d, h1, h2, hb => by
    rw [symGo]
    split
    · have hi := bsGo_in (fun h => lt d[h]! d[a]!) (b - m) m b (by omega)
      exact perm_upGo _ _ _ (by omega)
    · split
      · have hi := bsGo_in (fun h => !lt d[m]! d[h]!) (m - a) a m (by omega)
        exact perm_downGo _ _ _ (by omega) (by omega)
      · have hm := mg_in h1 h2
        have hs := mgAt_in lt d h1 h2
        dsimp only
        obtain ⟨s, es⟩ : ∃ s, mgAt lt d a m b = s := ⟨_, rfl⟩
        obtain ⟨mid, em⟩ : ∃ mid, (a + b) / 2 = mid := ⟨_, rfl⟩
        rw [es] at hs ⊢
        rw [em] at hm ⊢
        have q1 : (if s < m ∧ m < mid + m - s then rotateS d s m (mid + m - s) else d).toList.Perm d.toList := by
          split
          · rename_i h
            exact perm_rotateS d h.1 h.2 (by omega)
          · exact List.Perm.refl _
        have z1 : (if s < m ∧ m < mid + m - s then rotateS d s m (mid + m - s) else d).size = d.size := by
          split
          · exact size_rotateS _ _ _ _
          · rfl
        obtain ⟨d1, e1⟩ : ∃ d1, (if s < m ∧ m < mid + m - s then rotateS d s m (mid + m - s) else d) = d1 := ⟨_, rfl⟩
        rw [e1] at q1 z1 ⊢
        have q2 : (if a < s ∧ s < mid then symGo lt g a s mid d1 else d1).toList.Perm d.toList := by
          split
          · rename_i h
            exact (perm_symGo lt g a s mid d1 h.1 h.2 (by omega)).trans q1
          · exact q1
        have z2 : (if a < s ∧ s < mid then symGo lt g a s mid d1 else d1).size = d.size := by
          split
          · rw [size_symGo, z1]
          · exact z1
        obtain ⟨d2, e2⟩ : ∃ d2, (if a < s ∧ s < mid then symGo lt g a s mid d1 else d1) = d2 := ⟨_, rfl⟩
        rw [e2] at q2 z2 ⊢
        split
        · rename_i h
          exact (perm_symGo lt g mid _ b d2 h.1 h.2 (by omega)).trans q2
        · exact q2
theorem perm_insInner (lt : α → α → Bool) (a : Nat) : ∀ (j : Nat) (d : Array α), j < d.size → (insInner lt a j d).toList.Perm d.toList
  | 0, _, _ => List.Perm.refl _
  | j + 1, d, h => by
    rw [insInner]
    split
    · exact (perm_insInner lt a j _ (by rw [size_swp]; omega)).trans (perm_swp d (by omega) (by omega))
    · exact List.Perm.refl _
theorem perm_insOuter (lt : α → α → Bool) (a b : Nat) : ∀ (n i : Nat) (d : Array α), b - i ≤ n → b ≤ d.size → (insOuter lt a b i d).toList.Perm d.toList
  | 0, i, d, h, _ => by
    rw [insOuter, if_neg (by omega)]
  | n + 1, i, d, h, hb => by
    rw [insOuter]
    split
    · exact (perm_insOuter lt a b n _ _ (by omega) (by rw [size_insInner]; exact hb)).trans (perm_insInner lt a i d (by omega))
    · exact List.Perm.refl _
theorem perm_insertionSort (lt : α → α → Bool) (d : Array α) (a b : Nat) (hb : b ≤ d.size) : (insertionSort lt d a b).toList.Perm d.toList := perm_insOuter lt a b _ _ _ (Nat.le_refl _) hb
theorem perm_blkGo (lt : α → α → Bool) : ∀ (g a : Nat) (d : Array α), (blkGo lt g a d).toList.Perm d.toList
  | 0, _, _ => List.Perm.refl _
  | g + 1, a, d => by
    rw [blkGo]
    split
    · rename_i h
      exact (perm_blkGo lt g _ _).trans (perm_insertionSort lt d _ _ h)
    · exact perm_insertionSort lt d _ _ (Nat.le_refl _)
theorem perm_mrgGo (lt : α → α → Bool) (s : Nat) (hs : 0 < s) : ∀ (g a : Nat) (d : Array α), (mrgGo lt s g a d).toList.Perm d.toList
  | 0, _, _ => List.Perm.refl _
  | g + 1, a, d => by
    rw [mrgGo]
    split
    · rename_i h
      exact (perm_mrgGo lt s hs g _ _).trans (perm_symGo lt _ _ _ _ d (by omega) (by omega) h)
    · split
      · rename_i h
        exact perm_symGo lt _ _ _ _ d (by omega) h (Nat.le_refl _)
      · exact List.Perm.refl _
theorem perm_passGo (lt : α → α → Bool) : ∀ (g s : Nat) (d : Array α), 0 < s → (passGo lt g s d).toList.Perm d.toList
  | 0, _, _, _ => List.Perm.refl _
  | g + 1, s, d, hs => by
    rw [passGo]
    split
    · exact (perm_passGo lt g _ _ (by omega)).trans (perm_mrgGo lt s hs _ _ d)
    · exact List.Perm.refl _
theorem perm_stableA (lt : α → α → Bool) (d : Array α) : (stableA lt d).toList.Perm d.toList := (perm_passGo lt _ _ _ (by omega)).trans (perm_blkGo lt _ _ d)
/-- up to one block it is the plain insertion sort -/
theorem stable_small (lt : α → α → Bool) (d : Array α) (h : d.size ≤ 20) : stableA lt d = insertionSort lt d 0 d.size := by
  have hb : blkGo lt (d.size + 1) 0 d = insertionSort lt d 0 d.size := by
    rw [blkGo]
    split
    · rename_i h2
      have e : d.size = 20 := by omega
      obtain ⟨D, hD⟩ : ∃ D, insertionSort lt d 0 (0 + 20) = D := ⟨_, rfl⟩
      have hs : D.size = d.size := by rw [← hD, size_insertionSort]
      rw [hD, e]
      rw [blkGo, if_neg (by omega)]
      rw [hs, e, ← hD]
      unfold insertionSort
      rw [insOuter, if_neg (by omega)]
    · rfl
  rw [stableA, hb, passGo, if_neg (by rw [size_insertionSort]; omega)]
end
end Go.Proofs.Ytnpgfbgnbonhfaa

namespace Go.Proofs.Ytnpgfbgnbonhfaa
open Go.Sort
section
variable {α : Type} [Inhabited α]

/-- no later one is less than an earlier one -/
def Asc (lt : α → α → Bool) (d : Array α) : Prop := ∀ i j, i < j → j < d.size → lt d[j]! d[i]! = false
theorem asc_inner {lt : α → α → Bool} {d : Array α} (h : Asc lt d) (a : Nat) : ∀ j, j < d.size → insInner lt a j d = d
  | 0, _ => rfl
  | j + 1, hj => by
    rw [insInner, h j (j + 1) (by omega) hj]
    simp
theorem asc_outer {lt : α → α → Bool} {d : Array α} (h : Asc lt d) (a b : Nat) (hb : b ≤ d.size) : ∀ n i, b - i ≤ n → insOuter lt a b i d = d
  | 0, i, hn => by rw [insOuter, if_neg (by omega)]
  | n + 1, i, hn => by
    rw [insOuter]
    split
    · rw [asc_inner h a i (by omega), asc_outer h a b hb n (i + 1) (by omega)]
    · rfl
theorem asc_ins {lt : α → α → Bool} {d : Array α} (h : Asc lt d) (a b : Nat) (hb : b ≤ d.size) : insertionSort lt d a b = d := asc_outer h a b hb _ _ (Nat.le_refl _)
theorem bs_none {f : Nat → Bool} : ∀ (g i j : Nat), j - i ≤ g → (∀ h, i ≤ h → h < j → f h = false) → bsGo f g i j = i
  | 0, i, j, _, _ => rfl
  | g + 1, i, j, hg, hf => by
    rw [bsGo]
    split
    · rw [if_neg (by rw [hf _ (by omega) (by omega)]; simp)]
      exact bs_none g i _ (by omega) fun h h1 h2 => hf h h1 (by omega)
    · rfl
theorem bs_all {f : Nat → Bool} : ∀ (g i j : Nat), j - i ≤ g → i ≤ j → (∀ h, i ≤ h → h < j → f h = true) → bsGo f g i j = j
  | 0, i, j, hg, hij, _ => by
    have : i = j := by omega
    rw [this]
    rfl
  | g + 1, i, j, hg, hij, hf => by
    rw [bsGo]
    split
    · rw [if_pos (hf _ (by omega) (by omega))]
      exact bs_all g _ j (by omega) (by omega) fun h h1 h2 => hf h (by omega) h2
    · omega
theorem asc_sym {lt : α → α → Bool} {d : Array α} (h : Asc lt d) : ∀ (g a m b : Nat), a < m → m < b → b ≤ d.size → symGo lt g a m b d = d
  | 0, _, _, _, _, _, _ => rfl
  | g + 1, a, m, b, h1, h2, hb => by
    rw [symGo]
    split
    · rw [bs_none (b - m) m b (Nat.le_refl _) fun x hx hx2 => h a x (by omega) (by omega)]
      rw [show m - 1 - a = 0 by omega]
      rfl
    · split
      · rw [bs_all (m - a) a m (Nat.le_refl _) (by omega) fun x hx hx2 => by rw [h x m hx2 (by omega)]; rfl]
        rw [Nat.sub_self]
        rfl
      · have hm := mg_in h1 h2
        have hs : mgAt lt d a m b = mgHi a m b := bs_all _ _ _ (Nat.le_refl _) hm.2.1 fun c hc hc2 => by
          rw [h c ((a + b) / 2 + m - 1 - c) (by omega) (by omega)]
          rfl
        have hh : mgHi a m b ≤ m ∧ (mgHi a m b < m → mgHi a m b = (a + b) / 2) := by
          unfold mgHi
          split <;> constructor <;> omega
        dsimp only
        rw [hs]
        have hm' := hm
        generalize mgHi a m b = s at *
        obtain ⟨z1, z2, z3, z4, z5, z6, z7⟩ := hm'
        have d1 : (if s < m ∧ m < (a + b) / 2 + m - s then rotateS d s m ((a + b) / 2 + m - s) else d) = d := if_neg (by omega)
        rw [d1]
        have d2 : (if a < s ∧ s < (a + b) / 2 then symGo lt g a s ((a + b) / 2) d else d) = d := by
          split
          · exact asc_sym h g _ _ _ (by omega) (by omega) (by omega)
          · rfl
        rw [d2]
        split
        · exact asc_sym h g _ _ _ (by omega) (by omega) hb
        · rfl
theorem asc_blk {lt : α → α → Bool} {d : Array α} (h : Asc lt d) : ∀ (g a : Nat), blkGo lt g a d = d
  | 0, _ => rfl
  | g + 1, a => by
    rw [blkGo]
    split
    · rename_i e
      rw [asc_ins h _ _ e, asc_blk h g]
    · exact asc_ins h _ _ (Nat.le_refl _)
theorem asc_mrg {lt : α → α → Bool} {d : Array α} (h : Asc lt d) (s : Nat) (hs : 0 < s) : ∀ (g a : Nat), mrgGo lt s g a d = d
  | 0, _ => rfl
  | g + 1, a => by
    rw [mrgGo]
    split
    · rename_i e
      rw [asc_sym h _ _ _ _ (by omega) (by omega) e, asc_mrg h s hs g]
    · split
      · rename_i e
        exact asc_sym h _ _ _ _ (by omega) e (Nat.le_refl _)
      · rfl
theorem asc_pass {lt : α → α → Bool} {d : Array α} (h : Asc lt d) : ∀ (g s : Nat), 0 < s → passGo lt g s d = d
  | 0, _, _ => rfl
  | g + 1, s, hs => by
    rw [passGo]
    split
    · rw [asc_mrg h s hs, asc_pass h g _ (by omega)]
    · rfl
theorem stable_asc {lt : α → α → Bool} {d : Array α} (h : Asc lt d) : stableA lt d = d := by
  rw [stableA, asc_blk h, asc_pass h _ _ (by omega)]
end
end Go.Proofs.Ytnpgfbgnbonhfaa

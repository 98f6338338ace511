/-
  Joined: RSame.
-/
import Derived.Test.YtlcbfdiohcbpbaaGreatDoorZS1
import Derived.Test.YtlcbfdiohcbpbaaGreatDoorZS2
import Derived.Test.YtlcbfdiohcbpbaaGreatDoorZS3
import Derived.Test.YtlcbfdiohcbpbaaGreatDoorZS4
namespace Go.Proofs.YtlcbfdiohcbpbaaGreatDoor
/-
  What the document's Same answers of messages, as a contract.
-/
open Go.ChangeShapes Go.WideShapes Go.ChangeAt Go.RowKit
set_option linter.unusedVariables false
set_option linter.unusedSimpArgs false
theorem same_M (m n : Ms) (w : World) (hm : MW w m) (hn : MW w n) : Calls Tryz.prog 15 #[msV m, msV n] w fun e w' => e = .returned (.bool (sameM m.msg n.msg)) ∧ Below w.heap.size w w' := by
  cases t0 : (m.kind == n.kind) with
  | false => exact same_0 m n w hm hn t0
  | true =>
    cases t1 : (m.xid == n.xid) with
    | false => exact same_1 m n w hm hn t0 t1
    | true =>
      cases t2 : (m.cmd == n.cmd) with
      | false => exact same_2 m n w hm hn t0 t1 t2
      | true =>
        cases t3 : (m.chk == n.chk) with
        | false => exact same_3 m n w hm hn t0 t1 t2 t3
        | true =>
          cases t4 : sEnt m.en.pri m.ts m.en.sp n.en.pri n.ts n.en.sp with
          | false => exact same_4 m n w hm hn t0 t1 t2 t3 t4
          | true =>
            cases t5 : sGrp m.gid m.gkd (m.gb.map Bk.b3) n.gid n.gkd (n.gb.map Bk.b3) with
            | false => exact same_5 m n w hm hn t0 t1 t2 t3 t4 t5
            | true =>
              cases t6 : sMet m.mid m.mra m.mbu n.mid n.mra n.mbu with
              | false => exact same_6 m n w hm hn t0 t1 t2 t3 t4 t5 t6
              | true =>
                cases t7 : (m.typ == n.typ) with
                | false => exact same_7 m n w hm hn t0 t1 t2 t3 t4 t5 t6 t7
                | true =>
                  cases t8 : (m.cod == n.cod) with
                  | false => exact same_8 m n w hm hn t0 t1 t2 t3 t4 t5 t6 t7 t8
                  | true =>
                    cases t9 : (m.prt == n.prt) with
                    | false => exact same_9 m n w hm hn t0 t1 t2 t3 t4 t5 t6 t7 t8 t9
                    | true =>
                      cases t10 : (m.live == n.live) with
                      | false => exact same_10 m n w hm hn t0 t1 t2 t3 t4 t5 t6 t7 t8 t9 t10
                      | true =>
                        cases t11 : sameB m.la n.la with
                        | false => exact same_11 m n w hm hn t0 t1 t2 t3 t4 t5 t6 t7 t8 t9 t10 t11
                        | true =>
                          cases t12 : (m.dat.toList == n.dat.toList) with
                          | false => exact same_12 m n w hm hn t0 t1 t2 t3 t4 t5 t6 t7 t8 t9 t10 t11 t12
                          | true =>
                            exact same_13 m n w hm hn t0 t1 t2 t3 t4 t5 t6 t7 t8 t9 t10 t11 t12
end Go.Proofs.YtlcbfdiohcbpbaaGreatDoor

import Derived.Test.YtlcbfdiohcbpbaaGreatDoorZS1
import Derived.Test.YtlcbfdiohcbpbaaGreatDoorZS2
import Derived.Test.YtlcbfdiohcbpbaaGreatDoorZS3
namespace Go.Proofs.YtlcbfdiohcbpbaaGreatDoor
open Go.ChangeShapes Go.WideShapes Go.ChangeAt Go.RowKit
set_option linter.unusedVariables false
set_option linter.unusedSimpArgs false
theorem same_M (m n:Ms) (w:World) (hm:MW w m) (hn:MW w n):Calls Tryz.prog 15 #[msV m,msV n] w fun e w'=>e=.returned (.bool (sameM m.msg n.msg))∧Below w.heap.size w w':=by
 have f:∀ b:Bool,b=true∨b=false:=fun b=>by cases b <;> simp
 rcases f ((m.kind == n.kind)) with t0 | t0
 rotate_left
 ·exact same_a m n w hm hn (.inl t0)
 rcases f ((m.xid == n.xid)) with t1 | t1
 rotate_left
 ·exact same_a m n w hm hn (.inr (.inl ⟨t0,t1⟩))
 rcases f ((m.cmd == n.cmd)) with t2 | t2
 rotate_left
 ·exact same_a m n w hm hn (.inr (.inr (.inl ⟨t0,t1,t2⟩)))
 rcases f ((m.chk == n.chk)) with t3 | t3
 rotate_left
 ·exact same_a m n w hm hn (.inr (.inr (.inr ⟨t0,t1,t2,t3⟩)))
 rcases f (sEnt m.en.pri m.ts m.en.sp n.en.pri n.ts n.en.sp) with t4 | t4
 rotate_left
 ·exact same_4 m n w hm hn t0 t1 t2 t3 (.inl t4)
 rcases f (sGrp m.gid m.gkd (m.gb.map Bk.b3) n.gid n.gkd (n.gb.map Bk.b3)) with t5 | t5
 rotate_left
 ·exact same_4 m n w hm hn t0 t1 t2 t3 (.inr ⟨t4,t5⟩)
 rcases f (sMet m.mid m.mra m.mbu n.mid n.mra n.mbu) with t6 | t6
 rotate_left
 ·exact same_b m n w hm hn t0 t1 t2 t3 t4 t5 (.inl t6)
 rcases f ((m.typ == n.typ)) with t7 | t7
 rotate_left
 ·exact same_b m n w hm hn t0 t1 t2 t3 t4 t5 (.inr (.inl ⟨t6,t7⟩))
 rcases f ((m.cod == n.cod)) with t8 | t8
 rotate_left
 ·exact same_b m n w hm hn t0 t1 t2 t3 t4 t5 (.inr (.inr (.inl ⟨t6,t7,t8⟩)))
 rcases f ((m.prt == n.prt)) with t9 | t9
 rotate_left
 ·exact same_b m n w hm hn t0 t1 t2 t3 t4 t5 (.inr (.inr (.inr (.inl ⟨t6,t7,t8,t9⟩))))
 rcases f ((m.live == n.live)) with t10 | t10
 rotate_left
 ·exact same_b m n w hm hn t0 t1 t2 t3 t4 t5 (.inr (.inr (.inr (.inr ⟨t6,t7,t8,t9,t10⟩))))
 rcases f (sameB m.la n.la) with t11 | t11
 rotate_left
 ·exact same_c m n w hm hn t0 t1 t2 t3 t4 t5 t6 t7 t8 t9 t10 (.inl t11)
 rcases f ((m.dat.toList == n.dat.toList)) with t12 | t12
 rotate_left
 ·exact same_c m n w hm hn t0 t1 t2 t3 t4 t5 t6 t7 t8 t9 t10 (.inr (.inl ⟨t11,t12⟩))
 exact same_c m n w hm hn t0 t1 t2 t3 t4 t5 t6 t7 t8 t9 t10 (.inr (.inr ⟨t11,t12⟩))
end Go.Proofs.YtlcbfdiohcbpbaaGreatDoor

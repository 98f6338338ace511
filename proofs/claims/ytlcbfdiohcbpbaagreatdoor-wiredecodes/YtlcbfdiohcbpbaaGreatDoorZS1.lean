import Derived.Test.YtlcbfdiohcbpbaaGreatDoorZS
namespace Go.Proofs.YtlcbfdiohcbpbaaGreatDoor
set_option maxRecDepth 20000
set_option maxHeartbeats 32000000
open Go.ChangeShapes Go.WideShapes Go.ChangeAt Go.RowKit
set_option linter.unusedVariables false
set_option linter.unusedSimpArgs false
theorem same_a (m n:Ms) (w:World) (hm:MW w m) (hn:MW w n) (h:((m.kind == n.kind)=false)∨((m.kind == n.kind)=true∧(m.xid == n.xid)=false)∨((m.kind == n.kind)=true∧(m.xid == n.xid)=true∧(m.cmd == n.cmd)=false)∨((m.kind == n.kind)=true∧(m.xid == n.xid)=true∧(m.cmd == n.cmd)=true∧(m.chk == n.chk)=false)):Calls Tryz.prog 15 #[msV m,msV n] w fun e w'=>e=.returned (.bool (sameM m.msg n.msg))∧Below w.heap.size w w':=by
 have HR:sameM m.msg n.msg=((m.kind == n.kind) && (m.xid == n.xid) && (m.cmd == n.cmd) && (m.chk == n.chk) && sEnt m.en.pri m.ts m.en.sp n.en.pri n.ts n.en.sp && sGrp m.gid m.gkd (m.gb.map Bk.b3) n.gid n.gkd (n.gb.map Bk.b3) && sMet m.mid m.mra m.mbu n.mid n.mra n.mbu && (m.typ == n.typ) && (m.cod == n.cod) && (m.prt == n.prt) && (m.live == n.live) && sameB m.la n.la && (m.dat.toList == n.dat.toList)):=rfl
 rw [HR]
 clear HR hm hn
 rcases h with t0 | ⟨t0,t1⟩ | ⟨t0,t1,t2⟩ | ⟨t0,t1,t2,t3⟩
 all_goals
  try rw [t0]
  try rw [t1]
  try rw [t2]
  try rw [t3]
  simp only [Bool.true_and,Bool.and_true,Bool.false_and,Bool.and_false]
  go_enter Tryz.func15,Tryz.ntmps15
  go_wp2_with fail
  go_ret
  exact ⟨rfl,by go_grown⟩
theorem same_4 (m n:Ms) (w:World) (hm:MW w m) (hn:MW w n) (t0:(m.kind == n.kind)=true) (t1:(m.xid == n.xid)=true) (t2:(m.cmd == n.cmd)=true) (t3:(m.chk == n.chk)=true) (h:(sEnt m.en.pri m.ts m.en.sp n.en.pri n.ts n.en.sp=false)∨(sEnt m.en.pri m.ts m.en.sp n.en.pri n.ts n.en.sp=true∧sGrp m.gid m.gkd (m.gb.map Bk.b3) n.gid n.gkd (n.gb.map Bk.b3)=false)):Calls Tryz.prog 15 #[msV m,msV n] w fun e w'=>e=.returned (.bool (sameM m.msg n.msg))∧Below w.heap.size w w':=by
 have HR:sameM m.msg n.msg=((m.kind == n.kind) && (m.xid == n.xid) && (m.cmd == n.cmd) && (m.chk == n.chk) && sEnt m.en.pri m.ts m.en.sp n.en.pri n.ts n.en.sp && sGrp m.gid m.gkd (m.gb.map Bk.b3) n.gid n.gkd (n.gb.map Bk.b3) && sMet m.mid m.mra m.mbu n.mid n.mra n.mbu && (m.typ == n.typ) && (m.cod == n.cod) && (m.prt == n.prt) && (m.live == n.live) && sameB m.la n.la && (m.dat.toList == n.dat.toList)):=rfl
 obtain ⟨H1,H2,H3,W2,G2,HB,HW2⟩:=sm_set m n w hm hn
 rw [HR,t0,t1,t2,t3]
 clear HR hm hn H3
 rcases h with t4 | ⟨t4,t5⟩
 ·rw [t4] at H1 ⊢
  simp only [Bool.true_and,Bool.and_true,Bool.false_and,Bool.and_false]
  clear t4 H2
  go_enter Tryz.func15,Tryz.ntmps15
  go_wp2_with fail
  rw [HW2.out]
  refine (H1.out _ G2).mono ?_
  rintro r w1 ⟨rfl,g1⟩
  have G1:=btr G2 g1 (Nat.le_refl _)
  obtain ⟨u,v⟩:=HB.out _ g1
  obtain ⟨c14,c15,c16⟩:=cs14 u
  obtain ⟨d14,d15,d16⟩:=cs14 v
  clear u v
  go_wp2_with fail
  go_ret
  exact ⟨rfl,G1⟩
 ·rw [t4] at H1 ⊢
  rw [t5] at H2 ⊢
  simp only [Bool.true_and,Bool.and_true,Bool.false_and,Bool.and_false]
  clear t4 t5
  go_enter Tryz.func15,Tryz.ntmps15
  go_wp2_with fail
  rw [HW2.out]
  refine (H1.out _ G2).mono ?_
  rintro r w1 ⟨rfl,g1⟩
  have G1:=btr G2 g1 (Nat.le_refl _)
  obtain ⟨u,v⟩:=HB.out _ g1
  obtain ⟨c14,c15,c16⟩:=cs14 u
  obtain ⟨d14,d15,d16⟩:=cs14 v
  clear u v
  go_wp2_with fail
  refine (H2.out _ G1).mono ?_
  rintro r w2 ⟨rfl,g2⟩
  have b2:=btr g1 g2 (Nat.le_refl _)
  have G3:=btr G1 g2 (Nat.le_refl _)
  go_wp2_with fail
  go_ret
  exact ⟨rfl,G3⟩
end Go.Proofs.YtlcbfdiohcbpbaaGreatDoor

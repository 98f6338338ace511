import Derived.Test.YtlcbfdiohcbpbaaGreatDoorZS
namespace Go.Proofs.YtlcbfdiohcbpbaaGreatDoor
set_option maxRecDepth 20000
set_option maxHeartbeats 32000000
open Go.ChangeShapes Go.WideShapes Go.ChangeAt Go.RowKit
set_option linter.unusedVariables false
set_option linter.unusedSimpArgs false
theorem same_b (m n:Ms) (w:World) (hm:MW w m) (hn:MW w n) (t0:(m.kind == n.kind)=true) (t1:(m.xid == n.xid)=true) (t2:(m.cmd == n.cmd)=true) (t3:(m.chk == n.chk)=true) (t4:sEnt m.en.pri m.ts m.en.sp n.en.pri n.ts n.en.sp=true) (t5:sGrp m.gid m.gkd (m.gb.map Bk.b3) n.gid n.gkd (n.gb.map Bk.b3)=true) (h:(sMet m.mid m.mra m.mbu n.mid n.mra n.mbu=false)∨(sMet m.mid m.mra m.mbu n.mid n.mra n.mbu=true∧(m.typ == n.typ)=false)∨(sMet m.mid m.mra m.mbu n.mid n.mra n.mbu=true∧(m.typ == n.typ)=true∧(m.cod == n.cod)=false)∨(sMet m.mid m.mra m.mbu n.mid n.mra n.mbu=true∧(m.typ == n.typ)=true∧(m.cod == n.cod)=true∧(m.prt == n.prt)=false)∨(sMet m.mid m.mra m.mbu n.mid n.mra n.mbu=true∧(m.typ == n.typ)=true∧(m.cod == n.cod)=true∧(m.prt == n.prt)=true∧(m.live == n.live)=false)):Calls Tryz.prog 15 #[msV m,msV n] w fun e w'=>e=.returned (.bool (sameM m.msg n.msg))∧Below w.heap.size w w':=by
 have HR:sameM m.msg n.msg=((m.kind == n.kind) && (m.xid == n.xid) && (m.cmd == n.cmd) && (m.chk == n.chk) && sEnt m.en.pri m.ts m.en.sp n.en.pri n.ts n.en.sp && sGrp m.gid m.gkd (m.gb.map Bk.b3) n.gid n.gkd (n.gb.map Bk.b3) && sMet m.mid m.mra m.mbu n.mid n.mra n.mbu && (m.typ == n.typ) && (m.cod == n.cod) && (m.prt == n.prt) && (m.live == n.live) && sameB m.la n.la && (m.dat.toList == n.dat.toList)):=rfl
 obtain ⟨H1,H2,H3,W2,G2,HB,HW2⟩:=sm_set m n w hm hn
 have hq:∀ w,(binOp .eql 40 (.agg #[.int .i64 m.mid,.int .i64 m.mra,.int .i64 m.mbu]) (.agg #[.int .i64 n.mid,.int .i64 n.mra,.int .i64 n.mbu])).run Tryz.prog w=.ok (.bool (sMet m.mid m.mra m.mbu n.mid n.mra n.mbu)) w:=fun w=>eqMr m.mid m.mra m.mbu n.mid n.mra n.mbu w
 have hg:=guMr
 rw [HR,t0,t1,t2,t3,t4,t5]
 rw [t4] at H1
 rw [t5] at H2
 clear HR hm hn H3 t4 t5
 rcases h with t6 | ⟨t6,t7⟩ | ⟨t6,t7,t8⟩ | ⟨t6,t7,t8,t9⟩ | ⟨t6,t7,t8,t9,t10⟩
 all_goals
  rw [t6] at hq ⊢
  try rw [t7]
  try rw [t8]
  try rw [t9]
  try rw [t10]
  simp only [Bool.true_and,Bool.and_true,Bool.false_and,Bool.and_false]
  clear t6
  go_enter Tryz.func15,Tryz.ntmps15
  go_wp2_with fail
  rw [HW2.out]
  refine (H1.out _ G2).mono ?_
  rintro r w1 ⟨rfl,g1⟩
  have G1:=btr G2 g1 (Nat.le_refl _)
  obtain ⟨u,v⟩:=HB.out _ g1
  obtain ⟨c14,c15,c16⟩:=cs14 u
  obtain ⟨d14,d15,d16⟩:=cs14 v
  clear u v
  go_wp2_with fail
  refine (H2.out _ G1).mono ?_
  rintro r w2 ⟨rfl,g2⟩
  have b2:=btr g1 g2 (Nat.le_refl _)
  have G3:=btr G1 g2 (Nat.le_refl _)
  clear c14 d14 c15 d15 c16 d16 g1 g2
  obtain ⟨u,v⟩:=HB.out _ b2
  obtain ⟨c17,c18,c19,c20,c21,c22,c23,c24⟩:=cs17 u
  obtain ⟨d17,d18,d19,d20,d21,d22,d23,d24⟩:=cs17 v
  clear u v
  go_wp2_with fail
  go_ret
  exact ⟨rfl,G3⟩
end Go.Proofs.YtlcbfdiohcbpbaaGreatDoor

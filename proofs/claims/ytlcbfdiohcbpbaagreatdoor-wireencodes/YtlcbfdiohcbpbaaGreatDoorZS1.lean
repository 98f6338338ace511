/-
  Joined: RSa.
-/
import Derived.Test.YtlcbfdiohcbpbaaGreatDoorZS
namespace Go.Proofs.YtlcbfdiohcbpbaaGreatDoor
/-
  What the document's Same answers of messages, as a contract.
-/
open Go.ChangeShapes Go.WideShapes Go.ChangeAt Go.RowKit
set_option linter.unusedVariables false
set_option linter.unusedSimpArgs false
set_option maxRecDepth 20000 in
set_option maxHeartbeats 16000000 in
theorem same_0 (m n : Ms) (w : World) (hm : MW w m) (hn : MW w n) (t0 : (m.kind == n.kind) = false) : Calls Tryz.prog 15 #[msV m, msV n] w fun e w' => e = .returned (.bool (sameM m.msg n.msg)) ∧ Below w.heap.size w w' := by
  have HR : sameM m.msg n.msg = ((m.kind == n.kind) && (m.xid == n.xid) && (m.cmd == n.cmd) && (m.chk == n.chk) && sEnt m.en.pri m.ts m.en.sp n.en.pri n.ts n.en.sp && sGrp m.gid m.gkd (m.gb.map Bk.b3) n.gid n.gkd (n.gb.map Bk.b3) && sMet m.mid m.mra m.mbu n.mid n.mra n.mbu && (m.typ == n.typ) && (m.cod == n.cod) && (m.prt == n.prt) && (m.live == n.live) && sameB m.la n.la && (m.dat.toList == n.dat.toList)) := rfl
  rw [HR, t0]
  clear HR
  simp only [Bool.true_and, Bool.and_true, Bool.false_and, Bool.and_false]
  clear hm hn
  go_enter Tryz.func15, Tryz.ntmps15
  go_wp2_with fail
  go_ret
  exact ⟨rfl, by go_grown⟩
set_option maxRecDepth 20000 in
set_option maxHeartbeats 16000000 in
theorem same_1 (m n : Ms) (w : World) (hm : MW w m) (hn : MW w n) (t0 : (m.kind == n.kind) = true) (t1 : (m.xid == n.xid) = false) : Calls Tryz.prog 15 #[msV m, msV n] w fun e w' => e = .returned (.bool (sameM m.msg n.msg)) ∧ Below w.heap.size w w' := by
  have HR : sameM m.msg n.msg = ((m.kind == n.kind) && (m.xid == n.xid) && (m.cmd == n.cmd) && (m.chk == n.chk) && sEnt m.en.pri m.ts m.en.sp n.en.pri n.ts n.en.sp && sGrp m.gid m.gkd (m.gb.map Bk.b3) n.gid n.gkd (n.gb.map Bk.b3) && sMet m.mid m.mra m.mbu n.mid n.mra n.mbu && (m.typ == n.typ) && (m.cod == n.cod) && (m.prt == n.prt) && (m.live == n.live) && sameB m.la n.la && (m.dat.toList == n.dat.toList)) := rfl
  rw [HR, t0, t1]
  clear HR
  simp only [Bool.true_and, Bool.and_true, Bool.false_and, Bool.and_false]
  clear hm hn
  go_enter Tryz.func15, Tryz.ntmps15
  go_wp2_with fail
  go_ret
  exact ⟨rfl, by go_grown⟩
set_option maxRecDepth 20000 in
set_option maxHeartbeats 16000000 in
theorem same_2 (m n : Ms) (w : World) (hm : MW w m) (hn : MW w n) (t0 : (m.kind == n.kind) = true) (t1 : (m.xid == n.xid) = true) (t2 : (m.cmd == n.cmd) = false) : Calls Tryz.prog 15 #[msV m, msV n] w fun e w' => e = .returned (.bool (sameM m.msg n.msg)) ∧ Below w.heap.size w w' := by
  have HR : sameM m.msg n.msg = ((m.kind == n.kind) && (m.xid == n.xid) && (m.cmd == n.cmd) && (m.chk == n.chk) && sEnt m.en.pri m.ts m.en.sp n.en.pri n.ts n.en.sp && sGrp m.gid m.gkd (m.gb.map Bk.b3) n.gid n.gkd (n.gb.map Bk.b3) && sMet m.mid m.mra m.mbu n.mid n.mra n.mbu && (m.typ == n.typ) && (m.cod == n.cod) && (m.prt == n.prt) && (m.live == n.live) && sameB m.la n.la && (m.dat.toList == n.dat.toList)) := rfl
  rw [HR, t0, t1, t2]
  clear HR
  simp only [Bool.true_and, Bool.and_true, Bool.false_and, Bool.and_false]
  clear hm hn
  go_enter Tryz.func15, Tryz.ntmps15
  go_wp2_with fail
  go_ret
  exact ⟨rfl, by go_grown⟩
set_option maxRecDepth 20000 in
set_option maxHeartbeats 16000000 in
theorem same_3 (m n : Ms) (w : World) (hm : MW w m) (hn : MW w n) (t0 : (m.kind == n.kind) = true) (t1 : (m.xid == n.xid) = true) (t2 : (m.cmd == n.cmd) = true) (t3 : (m.chk == n.chk) = false) : Calls Tryz.prog 15 #[msV m, msV n] w fun e w' => e = .returned (.bool (sameM m.msg n.msg)) ∧ Below w.heap.size w w' := by
  have HR : sameM m.msg n.msg = ((m.kind == n.kind) && (m.xid == n.xid) && (m.cmd == n.cmd) && (m.chk == n.chk) && sEnt m.en.pri m.ts m.en.sp n.en.pri n.ts n.en.sp && sGrp m.gid m.gkd (m.gb.map Bk.b3) n.gid n.gkd (n.gb.map Bk.b3) && sMet m.mid m.mra m.mbu n.mid n.mra n.mbu && (m.typ == n.typ) && (m.cod == n.cod) && (m.prt == n.prt) && (m.live == n.live) && sameB m.la n.la && (m.dat.toList == n.dat.toList)) := rfl
  rw [HR, t0, t1, t2, t3]
  clear HR
  simp only [Bool.true_and, Bool.and_true, Bool.false_and, Bool.and_false]
  clear hm hn
  go_enter Tryz.func15, Tryz.ntmps15
  go_wp2_with fail
  go_ret
  exact ⟨rfl, by go_grown⟩
set_option maxRecDepth 20000 in
set_option maxHeartbeats 16000000 in
theorem same_4 (m n : Ms) (w : World) (hm : MW w m) (hn : MW w n) (t0 : (m.kind == n.kind) = true) (t1 : (m.xid == n.xid) = true) (t2 : (m.cmd == n.cmd) = true) (t3 : (m.chk == n.chk) = true) (t4 : sEnt m.en.pri m.ts m.en.sp n.en.pri n.ts n.en.sp = false) : Calls Tryz.prog 15 #[msV m, msV n] w fun e w' => e = .returned (.bool (sameM m.msg n.msg)) ∧ Below w.heap.size w w' := by
  have HR : sameM m.msg n.msg = ((m.kind == n.kind) && (m.xid == n.xid) && (m.cmd == n.cmd) && (m.chk == n.chk) && sEnt m.en.pri m.ts m.en.sp n.en.pri n.ts n.en.sp && sGrp m.gid m.gkd (m.gb.map Bk.b3) n.gid n.gkd (n.gb.map Bk.b3) && sMet m.mid m.mra m.mbu n.mid n.mra n.mbu && (m.typ == n.typ) && (m.cod == n.cod) && (m.prt == n.prt) && (m.live == n.live) && sameB m.la n.la && (m.dat.toList == n.dat.toList)) := rfl
  rw [HR, t0, t1, t2, t3, t4]
  clear HR
  simp only [Bool.true_and, Bool.and_true, Bool.false_and, Bool.and_false]
  have H1 : Hid (∀ w1, Below w.heap.size w w1 → Calls Tryz.prog 26 #[enV m.en, enV n.en] w1 fun e w' => e = .returned (.bool false) ∧ Below w1.heap.size w1 w') := (show ∀ w1, _ from fun w1 g => t4 ▸ sEnt_any m.en n.en m.ts n.ts w1 (hm.e.below g) (hn.e.below g) (hm.t.below g) (hn.t.below g) hm.tl hn.tl hm.tn hn.tn)
  clear hm hn t4
  obtain ⟨W2, hW2⟩ : ∃ W2, rx (rx w m) n = W2 := ⟨_, rfl⟩
  have G2 : Below w.heap.size w W2 := by rw [← hW2]; go_grown
  have HB : Hid (∀ w1, Below W2.heap.size W2 w1 → Bm w1 w.heap.size m ∧ Bm w1 (w.heap.size + 1) n) := (show ∀ w1, _ from fun w1 g => ⟨(hW2 ▸ (two_R w m n).1 : Bm W2 w.heap.size m).below (by rw [← hW2]; simp; omega) g, (hW2 ▸ (two_R w m n).2 : Bm W2 (w.heap.size + 1) n).below (by rw [← hW2]; simp) g⟩)
  have HW2 : Hid ((w.alloc (.cells #[.int .i64 m.kind, .int .i64 m.xid, .int .i64 m.cmd, .bool m.chk, .int .i64 m.en.tab, .int .i64 m.en.pri, .slice m.en.ta m.en.tl m.en.tc, .slice m.en.aa m.en.la.length m.en.ca, .slice m.en.aw m.en.lw.length m.en.cw, .bool m.en.clr, .int .u64 m.en.mt, .int .u64 m.en.mm, .int .i64 m.en.met, .int .i64 m.en.go, .int .i64 m.gid, .int .i64 m.gkd, .slice m.ga m.gb.length m.gc, .int .i64 m.mid, .int .i64 m.mra, .int .i64 m.mbu, .int .i64 m.typ, .int .i64 m.cod, .int .i64 m.prt, .bool m.live, .slice m.aa m.la.length m.ca, .string m.dat] 42)).alloc (.cells #[.int .i64 n.kind, .int .i64 n.xid, .int .i64 n.cmd, .bool n.chk, .int .i64 n.en.tab, .int .i64 n.en.pri, .slice n.en.ta n.en.tl n.en.tc, .slice n.en.aa n.en.la.length n.en.ca, .slice n.en.aw n.en.lw.length n.en.cw, .bool n.en.clr, .int .u64 n.en.mt, .int .u64 n.en.mm, .int .i64 n.en.met, .int .i64 n.en.go, .int .i64 n.gid, .int .i64 n.gkd, .slice n.ga n.gb.length n.gc, .int .i64 n.mid, .int .i64 n.mra, .int .i64 n.mbu, .int .i64 n.typ, .int .i64 n.cod, .int .i64 n.prt, .bool n.live, .slice n.aa n.la.length n.ca, .string n.dat] 42) = W2) := hW2
  clear hW2
  go_enter Tryz.func15, Tryz.ntmps15
  go_wp2_with fail
  rw [HW2.out]
  refine (H1.out _ G2).mono ?_
  rintro r w1 ⟨rfl, g1⟩
  have G1 := btr G2 g1 (Nat.le_refl _)
  go_wp2_with fail
  go_ret
  exact ⟨rfl, G1⟩
set_option maxRecDepth 20000 in
set_option maxHeartbeats 16000000 in
theorem same_5 (m n : Ms) (w : World) (hm : MW w m) (hn : MW w n) (t0 : (m.kind == n.kind) = true) (t1 : (m.xid == n.xid) = true) (t2 : (m.cmd == n.cmd) = true) (t3 : (m.chk == n.chk) = true) (t4 : sEnt m.en.pri m.ts m.en.sp n.en.pri n.ts n.en.sp = true) (t5 : sGrp m.gid m.gkd (m.gb.map Bk.b3) n.gid n.gkd (n.gb.map Bk.b3) = false) : Calls Tryz.prog 15 #[msV m, msV n] w fun e w' => e = .returned (.bool (sameM m.msg n.msg)) ∧ Below w.heap.size w w' := by
  have HR : sameM m.msg n.msg = ((m.kind == n.kind) && (m.xid == n.xid) && (m.cmd == n.cmd) && (m.chk == n.chk) && sEnt m.en.pri m.ts m.en.sp n.en.pri n.ts n.en.sp && sGrp m.gid m.gkd (m.gb.map Bk.b3) n.gid n.gkd (n.gb.map Bk.b3) && sMet m.mid m.mra m.mbu n.mid n.mra n.mbu && (m.typ == n.typ) && (m.cod == n.cod) && (m.prt == n.prt) && (m.live == n.live) && sameB m.la n.la && (m.dat.toList == n.dat.toList)) := rfl
  rw [HR, t0, t1, t2, t3, t4, t5]
  clear HR
  simp only [Bool.true_and, Bool.and_true, Bool.false_and, Bool.and_false]
  have H1 : Hid (∀ w1, Below w.heap.size w w1 → Calls Tryz.prog 26 #[enV m.en, enV n.en] w1 fun e w' => e = .returned (.bool true) ∧ Below w1.heap.size w1 w') := (show ∀ w1, _ from fun w1 g => t4 ▸ sEnt_any m.en n.en m.ts n.ts w1 (hm.e.below g) (hn.e.below g) (hm.t.below g) (hn.t.below g) hm.tl hn.tl hm.tn hn.tn)
  have H2 : Hid (∀ w1, Below w.heap.size w w1 → Calls Tryz.prog 27 #[.agg #[.int .i64 m.gid, .int .i64 m.gkd, .slice m.ga m.gb.length m.gc], .agg #[.int .i64 n.gid, .int .i64 n.gkd, .slice n.ga n.gb.length n.gc]] w1 fun e w' => e = .returned (.bool false) ∧ Below w1.heap.size w1 w') := (show ∀ w1, _ from fun w1 g => t5 ▸ sGrp_any m.gid m.gkd m.ga m.gb m.gc n.gid n.gkd n.ga n.gb n.gc w1 (hm.g.below g) (hn.g.below g) hm.gn hn.gn)
  clear hm hn t4 t5
  obtain ⟨W2, hW2⟩ : ∃ W2, rx (rx w m) n = W2 := ⟨_, rfl⟩
  have G2 : Below w.heap.size w W2 := by rw [← hW2]; go_grown
  have HB : Hid (∀ w1, Below W2.heap.size W2 w1 → Bm w1 w.heap.size m ∧ Bm w1 (w.heap.size + 1) n) := (show ∀ w1, _ from fun w1 g => ⟨(hW2 ▸ (two_R w m n).1 : Bm W2 w.heap.size m).below (by rw [← hW2]; simp; omega) g, (hW2 ▸ (two_R w m n).2 : Bm W2 (w.heap.size + 1) n).below (by rw [← hW2]; simp) g⟩)
  have HW2 : Hid ((w.alloc (.cells #[.int .i64 m.kind, .int .i64 m.xid, .int .i64 m.cmd, .bool m.chk, .int .i64 m.en.tab, .int .i64 m.en.pri, .slice m.en.ta m.en.tl m.en.tc, .slice m.en.aa m.en.la.length m.en.ca, .slice m.en.aw m.en.lw.length m.en.cw, .bool m.en.clr, .int .u64 m.en.mt, .int .u64 m.en.mm, .int .i64 m.en.met, .int .i64 m.en.go, .int .i64 m.gid, .int .i64 m.gkd, .slice m.ga m.gb.length m.gc, .int .i64 m.mid, .int .i64 m.mra, .int .i64 m.mbu, .int .i64 m.typ, .int .i64 m.cod, .int .i64 m.prt, .bool m.live, .slice m.aa m.la.length m.ca, .string m.dat] 42)).alloc (.cells #[.int .i64 n.kind, .int .i64 n.xid, .int .i64 n.cmd, .bool n.chk, .int .i64 n.en.tab, .int .i64 n.en.pri, .slice n.en.ta n.en.tl n.en.tc, .slice n.en.aa n.en.la.length n.en.ca, .slice n.en.aw n.en.lw.length n.en.cw, .bool n.en.clr, .int .u64 n.en.mt, .int .u64 n.en.mm, .int .i64 n.en.met, .int .i64 n.en.go, .int .i64 n.gid, .int .i64 n.gkd, .slice n.ga n.gb.length n.gc, .int .i64 n.mid, .int .i64 n.mra, .int .i64 n.mbu, .int .i64 n.typ, .int .i64 n.cod, .int .i64 n.prt, .bool n.live, .slice n.aa n.la.length n.ca, .string n.dat] 42) = W2) := hW2
  clear hW2
  go_enter Tryz.func15, Tryz.ntmps15
  go_wp2_with fail
  rw [HW2.out]
  refine (H1.out _ G2).mono ?_
  rintro r w1 ⟨rfl, g1⟩
  have G1 := btr G2 g1 (Nat.le_refl _)
  obtain ⟨u, v⟩ := HB.out _ g1
  have c14 : w1.cell? ⟨w.heap.size, 14, none⟩ = some (.int .i64 m.gid) := u 14 _ rfl
  have d14 : w1.cell? ⟨w.heap.size + 1, 14, none⟩ = some (.int .i64 n.gid) := v 14 _ rfl
  have c15 : w1.cell? ⟨w.heap.size, 15, none⟩ = some (.int .i64 m.gkd) := u 15 _ rfl
  have d15 : w1.cell? ⟨w.heap.size + 1, 15, none⟩ = some (.int .i64 n.gkd) := v 15 _ rfl
  have c16 : w1.cell? ⟨w.heap.size, 16, none⟩ = some (.slice m.ga m.gb.length m.gc) := u 16 _ rfl
  have d16 : w1.cell? ⟨w.heap.size + 1, 16, none⟩ = some (.slice n.ga n.gb.length n.gc) := v 16 _ rfl
  clear u v
  go_wp2_with fail
  refine (H2.out _ G1).mono ?_
  rintro r w2 ⟨rfl, g2⟩
  have b2 := btr g1 g2 (Nat.le_refl _)
  have G3 := btr G1 g2 (Nat.le_refl _)
  clear c14 d14 c15 d15 c16 d16 g1 g2
  go_wp2_with fail
  go_ret
  exact ⟨rfl, G3⟩
set_option maxRecDepth 20000 in
set_option maxHeartbeats 16000000 in
theorem same_6 (m n : Ms) (w : World) (hm : MW w m) (hn : MW w n) (t0 : (m.kind == n.kind) = true) (t1 : (m.xid == n.xid) = true) (t2 : (m.cmd == n.cmd) = true) (t3 : (m.chk == n.chk) = true) (t4 : sEnt m.en.pri m.ts m.en.sp n.en.pri n.ts n.en.sp = true) (t5 : sGrp m.gid m.gkd (m.gb.map Bk.b3) n.gid n.gkd (n.gb.map Bk.b3) = true) (t6 : sMet m.mid m.mra m.mbu n.mid n.mra n.mbu = false) : Calls Tryz.prog 15 #[msV m, msV n] w fun e w' => e = .returned (.bool (sameM m.msg n.msg)) ∧ Below w.heap.size w w' := by
  have HR : sameM m.msg n.msg = ((m.kind == n.kind) && (m.xid == n.xid) && (m.cmd == n.cmd) && (m.chk == n.chk) && sEnt m.en.pri m.ts m.en.sp n.en.pri n.ts n.en.sp && sGrp m.gid m.gkd (m.gb.map Bk.b3) n.gid n.gkd (n.gb.map Bk.b3) && sMet m.mid m.mra m.mbu n.mid n.mra n.mbu && (m.typ == n.typ) && (m.cod == n.cod) && (m.prt == n.prt) && (m.live == n.live) && sameB m.la n.la && (m.dat.toList == n.dat.toList)) := rfl
  rw [HR, t0, t1, t2, t3, t4, t5, t6]
  clear HR
  simp only [Bool.true_and, Bool.and_true, Bool.false_and, Bool.and_false]
  have H1 : Hid (∀ w1, Below w.heap.size w w1 → Calls Tryz.prog 26 #[enV m.en, enV n.en] w1 fun e w' => e = .returned (.bool true) ∧ Below w1.heap.size w1 w') := (show ∀ w1, _ from fun w1 g => t4 ▸ sEnt_any m.en n.en m.ts n.ts w1 (hm.e.below g) (hn.e.below g) (hm.t.below g) (hn.t.below g) hm.tl hn.tl hm.tn hn.tn)
  have H2 : Hid (∀ w1, Below w.heap.size w w1 → Calls Tryz.prog 27 #[.agg #[.int .i64 m.gid, .int .i64 m.gkd, .slice m.ga m.gb.length m.gc], .agg #[.int .i64 n.gid, .int .i64 n.gkd, .slice n.ga n.gb.length n.gc]] w1 fun e w' => e = .returned (.bool true) ∧ Below w1.heap.size w1 w') := (show ∀ w1, _ from fun w1 g => t5 ▸ sGrp_any m.gid m.gkd m.ga m.gb m.gc n.gid n.gkd n.ga n.gb n.gc w1 (hm.g.below g) (hn.g.below g) hm.gn hn.gn)
  have hq : ∀ w, (binOp .eql 40 (.agg #[.int .i64 m.mid, .int .i64 m.mra, .int .i64 m.mbu]) (.agg #[.int .i64 n.mid, .int .i64 n.mra, .int .i64 n.mbu])).run Tryz.prog w = .ok (.bool false) w := fun w => t6 ▸ eqMr m.mid m.mra m.mbu n.mid n.mra n.mbu w
  have hg := guMr
  clear hm hn t4 t5 t6
  obtain ⟨W2, hW2⟩ : ∃ W2, rx (rx w m) n = W2 := ⟨_, rfl⟩
  have G2 : Below w.heap.size w W2 := by rw [← hW2]; go_grown
  have HB : Hid (∀ w1, Below W2.heap.size W2 w1 → Bm w1 w.heap.size m ∧ Bm w1 (w.heap.size + 1) n) := (show ∀ w1, _ from fun w1 g => ⟨(hW2 ▸ (two_R w m n).1 : Bm W2 w.heap.size m).below (by rw [← hW2]; simp; omega) g, (hW2 ▸ (two_R w m n).2 : Bm W2 (w.heap.size + 1) n).below (by rw [← hW2]; simp) g⟩)
  have HW2 : Hid ((w.alloc (.cells #[.int .i64 m.kind, .int .i64 m.xid, .int .i64 m.cmd, .bool m.chk, .int .i64 m.en.tab, .int .i64 m.en.pri, .slice m.en.ta m.en.tl m.en.tc, .slice m.en.aa m.en.la.length m.en.ca, .slice m.en.aw m.en.lw.length m.en.cw, .bool m.en.clr, .int .u64 m.en.mt, .int .u64 m.en.mm, .int .i64 m.en.met, .int .i64 m.en.go, .int .i64 m.gid, .int .i64 m.gkd, .slice m.ga m.gb.length m.gc, .int .i64 m.mid, .int .i64 m.mra, .int .i64 m.mbu, .int .i64 m.typ, .int .i64 m.cod, .int .i64 m.prt, .bool m.live, .slice m.aa m.la.length m.ca, .string m.dat] 42)).alloc (.cells #[.int .i64 n.kind, .int .i64 n.xid, .int .i64 n.cmd, .bool n.chk, .int .i64 n.en.tab, .int .i64 n.en.pri, .slice n.en.ta n.en.tl n.en.tc, .slice n.en.aa n.en.la.length n.en.ca, .slice n.en.aw n.en.lw.length n.en.cw, .bool n.en.clr, .int .u64 n.en.mt, .int .u64 n.en.mm, .int .i64 n.en.met, .int .i64 n.en.go, .int .i64 n.gid, .int .i64 n.gkd, .slice n.ga n.gb.length n.gc, .int .i64 n.mid, .int .i64 n.mra, .int .i64 n.mbu, .int .i64 n.typ, .int .i64 n.cod, .int .i64 n.prt, .bool n.live, .slice n.aa n.la.length n.ca, .string n.dat] 42) = W2) := hW2
  clear hW2
  go_enter Tryz.func15, Tryz.ntmps15
  go_wp2_with fail
  rw [HW2.out]
  refine (H1.out _ G2).mono ?_
  rintro r w1 ⟨rfl, g1⟩
  have G1 := btr G2 g1 (Nat.le_refl _)
  obtain ⟨u, v⟩ := HB.out _ g1
  have c14 : w1.cell? ⟨w.heap.size, 14, none⟩ = some (.int .i64 m.gid) := u 14 _ rfl
  have d14 : w1.cell? ⟨w.heap.size + 1, 14, none⟩ = some (.int .i64 n.gid) := v 14 _ rfl
  have c15 : w1.cell? ⟨w.heap.size, 15, none⟩ = some (.int .i64 m.gkd) := u 15 _ rfl
  have d15 : w1.cell? ⟨w.heap.size + 1, 15, none⟩ = some (.int .i64 n.gkd) := v 15 _ rfl
  have c16 : w1.cell? ⟨w.heap.size, 16, none⟩ = some (.slice m.ga m.gb.length m.gc) := u 16 _ rfl
  have d16 : w1.cell? ⟨w.heap.size + 1, 16, none⟩ = some (.slice n.ga n.gb.length n.gc) := v 16 _ rfl
  clear u v
  go_wp2_with fail
  refine (H2.out _ G1).mono ?_
  rintro r w2 ⟨rfl, g2⟩
  have b2 := btr g1 g2 (Nat.le_refl _)
  have G3 := btr G1 g2 (Nat.le_refl _)
  clear c14 d14 c15 d15 c16 d16 g1 g2
  obtain ⟨u, v⟩ := HB.out _ b2
  have c17 : w2.cell? ⟨w.heap.size, 17, none⟩ = some (.int .i64 m.mid) := u 17 _ rfl
  have d17 : w2.cell? ⟨w.heap.size + 1, 17, none⟩ = some (.int .i64 n.mid) := v 17 _ rfl
  have c18 : w2.cell? ⟨w.heap.size, 18, none⟩ = some (.int .i64 m.mra) := u 18 _ rfl
  have d18 : w2.cell? ⟨w.heap.size + 1, 18, none⟩ = some (.int .i64 n.mra) := v 18 _ rfl
  have c19 : w2.cell? ⟨w.heap.size, 19, none⟩ = some (.int .i64 m.mbu) := u 19 _ rfl
  have d19 : w2.cell? ⟨w.heap.size + 1, 19, none⟩ = some (.int .i64 n.mbu) := v 19 _ rfl
  clear u v
  go_wp2_with fail
  go_ret
  exact ⟨rfl, G3⟩
set_option maxRecDepth 20000 in
set_option maxHeartbeats 16000000 in
theorem same_7 (m n : Ms) (w : World) (hm : MW w m) (hn : MW w n) (t0 : (m.kind == n.kind) = true) (t1 : (m.xid == n.xid) = true) (t2 : (m.cmd == n.cmd) = true) (t3 : (m.chk == n.chk) = true) (t4 : sEnt m.en.pri m.ts m.en.sp n.en.pri n.ts n.en.sp = true) (t5 : sGrp m.gid m.gkd (m.gb.map Bk.b3) n.gid n.gkd (n.gb.map Bk.b3) = true) (t6 : sMet m.mid m.mra m.mbu n.mid n.mra n.mbu = true) (t7 : (m.typ == n.typ) = false) : Calls Tryz.prog 15 #[msV m, msV n] w fun e w' => e = .returned (.bool (sameM m.msg n.msg)) ∧ Below w.heap.size w w' := by
  have HR : sameM m.msg n.msg = ((m.kind == n.kind) && (m.xid == n.xid) && (m.cmd == n.cmd) && (m.chk == n.chk) && sEnt m.en.pri m.ts m.en.sp n.en.pri n.ts n.en.sp && sGrp m.gid m.gkd (m.gb.map Bk.b3) n.gid n.gkd (n.gb.map Bk.b3) && sMet m.mid m.mra m.mbu n.mid n.mra n.mbu && (m.typ == n.typ) && (m.cod == n.cod) && (m.prt == n.prt) && (m.live == n.live) && sameB m.la n.la && (m.dat.toList == n.dat.toList)) := rfl
  rw [HR, t0, t1, t2, t3, t4, t5, t6, t7]
  clear HR
  simp only [Bool.true_and, Bool.and_true, Bool.false_and, Bool.and_false]
  have H1 : Hid (∀ w1, Below w.heap.size w w1 → Calls Tryz.prog 26 #[enV m.en, enV n.en] w1 fun e w' => e = .returned (.bool true) ∧ Below w1.heap.size w1 w') := (show ∀ w1, _ from fun w1 g => t4 ▸ sEnt_any m.en n.en m.ts n.ts w1 (hm.e.below g) (hn.e.below g) (hm.t.below g) (hn.t.below g) hm.tl hn.tl hm.tn hn.tn)
  have H2 : Hid (∀ w1, Below w.heap.size w w1 → Calls Tryz.prog 27 #[.agg #[.int .i64 m.gid, .int .i64 m.gkd, .slice m.ga m.gb.length m.gc], .agg #[.int .i64 n.gid, .int .i64 n.gkd, .slice n.ga n.gb.length n.gc]] w1 fun e w' => e = .returned (.bool true) ∧ Below w1.heap.size w1 w') := (show ∀ w1, _ from fun w1 g => t5 ▸ sGrp_any m.gid m.gkd m.ga m.gb m.gc n.gid n.gkd n.ga n.gb n.gc w1 (hm.g.below g) (hn.g.below g) hm.gn hn.gn)
  have hq : ∀ w, (binOp .eql 40 (.agg #[.int .i64 m.mid, .int .i64 m.mra, .int .i64 m.mbu]) (.agg #[.int .i64 n.mid, .int .i64 n.mra, .int .i64 n.mbu])).run Tryz.prog w = .ok (.bool true) w := fun w => t6 ▸ eqMr m.mid m.mra m.mbu n.mid n.mra n.mbu w
  have hg := guMr
  clear hm hn t4 t5 t6
  obtain ⟨W2, hW2⟩ : ∃ W2, rx (rx w m) n = W2 := ⟨_, rfl⟩
  have G2 : Below w.heap.size w W2 := by rw [← hW2]; go_grown
  have HB : Hid (∀ w1, Below W2.heap.size W2 w1 → Bm w1 w.heap.size m ∧ Bm w1 (w.heap.size + 1) n) := (show ∀ w1, _ from fun w1 g => ⟨(hW2 ▸ (two_R w m n).1 : Bm W2 w.heap.size m).below (by rw [← hW2]; simp; omega) g, (hW2 ▸ (two_R w m n).2 : Bm W2 (w.heap.size + 1) n).below (by rw [← hW2]; simp) g⟩)
  have HW2 : Hid ((w.alloc (.cells #[.int .i64 m.kind, .int .i64 m.xid, .int .i64 m.cmd, .bool m.chk, .int .i64 m.en.tab, .int .i64 m.en.pri, .slice m.en.ta m.en.tl m.en.tc, .slice m.en.aa m.en.la.length m.en.ca, .slice m.en.aw m.en.lw.length m.en.cw, .bool m.en.clr, .int .u64 m.en.mt, .int .u64 m.en.mm, .int .i64 m.en.met, .int .i64 m.en.go, .int .i64 m.gid, .int .i64 m.gkd, .slice m.ga m.gb.length m.gc, .int .i64 m.mid, .int .i64 m.mra, .int .i64 m.mbu, .int .i64 m.typ, .int .i64 m.cod, .int .i64 m.prt, .bool m.live, .slice m.aa m.la.length m.ca, .string m.dat] 42)).alloc (.cells #[.int .i64 n.kind, .int .i64 n.xid, .int .i64 n.cmd, .bool n.chk, .int .i64 n.en.tab, .int .i64 n.en.pri, .slice n.en.ta n.en.tl n.en.tc, .slice n.en.aa n.en.la.length n.en.ca, .slice n.en.aw n.en.lw.length n.en.cw, .bool n.en.clr, .int .u64 n.en.mt, .int .u64 n.en.mm, .int .i64 n.en.met, .int .i64 n.en.go, .int .i64 n.gid, .int .i64 n.gkd, .slice n.ga n.gb.length n.gc, .int .i64 n.mid, .int .i64 n.mra, .int .i64 n.mbu, .int .i64 n.typ, .int .i64 n.cod, .int .i64 n.prt, .bool n.live, .slice n.aa n.la.length n.ca, .string n.dat] 42) = W2) := hW2
  clear hW2
  go_enter Tryz.func15, Tryz.ntmps15
  go_wp2_with fail
  rw [HW2.out]
  refine (H1.out _ G2).mono ?_
  rintro r w1 ⟨rfl, g1⟩
  have G1 := btr G2 g1 (Nat.le_refl _)
  obtain ⟨u, v⟩ := HB.out _ g1
  have c14 : w1.cell? ⟨w.heap.size, 14, none⟩ = some (.int .i64 m.gid) := u 14 _ rfl
  have d14 : w1.cell? ⟨w.heap.size + 1, 14, none⟩ = some (.int .i64 n.gid) := v 14 _ rfl
  have c15 : w1.cell? ⟨w.heap.size, 15, none⟩ = some (.int .i64 m.gkd) := u 15 _ rfl
  have d15 : w1.cell? ⟨w.heap.size + 1, 15, none⟩ = some (.int .i64 n.gkd) := v 15 _ rfl
  have c16 : w1.cell? ⟨w.heap.size, 16, none⟩ = some (.slice m.ga m.gb.length m.gc) := u 16 _ rfl
  have d16 : w1.cell? ⟨w.heap.size + 1, 16, none⟩ = some (.slice n.ga n.gb.length n.gc) := v 16 _ rfl
  clear u v
  go_wp2_with fail
  refine (H2.out _ G1).mono ?_
  rintro r w2 ⟨rfl, g2⟩
  have b2 := btr g1 g2 (Nat.le_refl _)
  have G3 := btr G1 g2 (Nat.le_refl _)
  clear c14 d14 c15 d15 c16 d16 g1 g2
  obtain ⟨u, v⟩ := HB.out _ b2
  have c17 : w2.cell? ⟨w.heap.size, 17, none⟩ = some (.int .i64 m.mid) := u 17 _ rfl
  have d17 : w2.cell? ⟨w.heap.size + 1, 17, none⟩ = some (.int .i64 n.mid) := v 17 _ rfl
  have c18 : w2.cell? ⟨w.heap.size, 18, none⟩ = some (.int .i64 m.mra) := u 18 _ rfl
  have d18 : w2.cell? ⟨w.heap.size + 1, 18, none⟩ = some (.int .i64 n.mra) := v 18 _ rfl
  have c19 : w2.cell? ⟨w.heap.size, 19, none⟩ = some (.int .i64 m.mbu) := u 19 _ rfl
  have d19 : w2.cell? ⟨w.heap.size + 1, 19, none⟩ = some (.int .i64 n.mbu) := v 19 _ rfl
  have c20 : w2.cell? ⟨w.heap.size, 20, none⟩ = some (.int .i64 m.typ) := u 20 _ rfl
  have d20 : w2.cell? ⟨w.heap.size + 1, 20, none⟩ = some (.int .i64 n.typ) := v 20 _ rfl
  clear u v
  go_wp2_with fail
  go_ret
  exact ⟨rfl, G3⟩
end Go.Proofs.YtlcbfdiohcbpbaaGreatDoor

import Derived.Test.YtlcbfdiohcbpbaaGreatDoorRBodyP
namespace Go.Proofs.YtlcbfdiohcbpbaaGreatDoor
set_option maxRecDepth 20000
set_option maxHeartbeats 16000000
open Go.ChangeShapes Go.WideShapes Go.ChangeAt Go.RowKit
set_option linter.unusedVariables false
set_option linter.unusedSimpArgs false
def own29 (m:Ms):Ms:={ own0 m with cmd:=m.cmd,mid:=m.mid,mra:=m.mra,mbu:=m.mbu }
theorem start29 {w V:World} {m:Ms} (h:RW w m (own0 m) V):∃ U0 U1 U2 U3,V.setCell ⟨w.heap.size + 2,2,none⟩ (.int .i64 m.cmd)=U0∧U0.setCell ⟨w.heap.size + 2,17,none⟩ (.int .i64 m.mid)=U1∧U1.setCell ⟨w.heap.size + 2,18,none⟩ (.int .i64 m.mra)=U2∧U2.setCell ⟨w.heap.size + 2,19,none⟩ (.int .i64 m.mbu)=U3∧(V.cell? ⟨w.heap.size,0,none⟩=some (.int .i64 m.kind)∧V.cell? ⟨w.heap.size,2,none⟩=some (.int .i64 m.cmd)∧V.cell? ⟨w.heap.size + 2,2,none⟩=some (.int .i64 0)∧V.frozen? ⟨w.heap.size + 2,2,none⟩=false)∧(U0.cell? ⟨w.heap.size,17,none⟩=some (.int .i64 m.mid)∧U0.cell? ⟨w.heap.size,18,none⟩=some (.int .i64 m.mra)∧U0.cell? ⟨w.heap.size,19,none⟩=some (.int .i64 m.mbu)∧U0.cell? ⟨w.heap.size + 2,17,none⟩=some (.int .i64 0)∧U0.frozen? ⟨w.heap.size + 2,17,none⟩=false)∧(U1.cell? ⟨w.heap.size + 2,18,none⟩=some (.int .i64 0)∧U1.frozen? ⟨w.heap.size + 2,18,none⟩=false)∧(U2.cell? ⟨w.heap.size + 2,19,none⟩=some (.int .i64 0)∧U2.frozen? ⟨w.heap.size + 2,19,none⟩=false)∧RW w m (own29 m) U3:=by
 have h1:=h.one 2 (.int .i64 m.cmd) { own0 m with cmd:=m.cmd } (by decide) rfl
 have h2:=h1.one 17 (.int .i64 m.mid) { own0 m with cmd:=m.cmd,mid:=m.mid } (by decide) rfl
 have h3:=h2.one 18 (.int .i64 m.mra) { own0 m with cmd:=m.cmd,mid:=m.mid,mra:=m.mra } (by decide) rfl
 have h4:=h3.one 19 (.int .i64 m.mbu) (own29 m) (by decide) rfl
 exact ⟨_,_,_,_,rfl,rfl,rfl,rfl,⟨h.m 0 _ rfl,h.m 2 _ rfl,h.o 2 _ rfl,h.f 2 (by decide)⟩,⟨h1.m 17 _ rfl,h1.m 18 _ rfl,h1.m 19 _ rfl,h1.o 17 _ rfl,h1.f 17 (by decide)⟩,⟨h2.o 18 _ rfl,h2.f 18 (by decide)⟩,⟨h3.o 19 _ rfl,h3.f 19 (by decide)⟩,h4⟩
theorem rb29 (m:Ms) (w:World) (k0:(m.kind == 0)=false) (k20:(m.kind == 20)=false) (k21:(m.kind == 21)=false) (k1:(m.kind == 1)=false) (k2:(m.kind == 2)=false) (k3:(m.kind == 3)=false) (k12:(m.kind == 12)=false) (k13:(m.kind == 13)=false) (k14:(m.kind == 14)=false) (k15:(m.kind == 15)=false) (k29:(m.kind == 29)=true) :
    Calls Tryz.prog 19 #[msV m] w fun e w'=>e=.returned (.tuple #[.string (pw m.cmd 2 ++ ⟨#[0,5]⟩ ++ pw m.mid 4 ++ ⟨#[0,1,0,16]⟩ ++ pw m.mra 4 ++ pw m.mbu 4 ++ zeros 4),msV (own29 m),.bool (inB m.cmd 0 2 && inB m.mid 1 16 && inB m.mra 0 4294967295 && inB m.mbu 0 4294967295)])∧Below w.heap.size w w':=by
  obtain ⟨W1,hW1,s1,f0,f1,hY,HV⟩:=rb_set m w
  have HP1:Hid (∀ w,Calls Tryz.prog 21 #[.int .i64 m.cmd,.int .i64 2] w fun e w'=>e=.returned (.string (pw m.cmd 2))∧Below w.heap.size w w'):=(show ∀ w,_ from fun w=>r8put2 _ w)
  have z1:=pw_size m.cmd 2
  have HP2:Hid (∀ w,Calls Tryz.prog 21 #[.int .i64 m.mid,.int .i64 4] w fun e w'=>e=.returned (.string (pw m.mid 4))∧Below w.heap.size w w'):=(show ∀ w,_ from fun w=>r8put4 _ w)
  have z2:=pw_size m.mid 4
  have HP3:Hid (∀ w,Calls Tryz.prog 21 #[.int .i64 m.mra,.int .i64 4] w fun e w'=>e=.returned (.string (pw m.mra 4))∧Below w.heap.size w w'):=(show ∀ w,_ from fun w=>r8put4 _ w)
  have z3:=pw_size m.mra 4
  have HP4:Hid (∀ w,Calls Tryz.prog 21 #[.int .i64 m.mbu,.int .i64 4] w fun e w'=>e=.returned (.string (pw m.mbu 4))∧Below w.heap.size w w'):=(show ∀ w,_ from fun w=>r8put4 _ w)
  have z4:=pw_size m.mbu 4
  have HZ4:Hid (∀ w,Calls Tryz.prog 39 #[.int .i64 4] w fun e w'=>e=.returned (.string (zeros 4))∧Below w.heap.size w w'):=(show ∀ w,_ from fun w=>r8z4 w)
  have y4z:=zeros_size 4
  have HI0:Hid (∀ w,Calls Tryz.prog 20 #[.int .i64 m.cmd,.int .i64 0,.int .i64 2] w fun e w'=>e=.returned (.bool (inB m.cmd 0 2))∧w'=w):=(show ∀ w,_ from fun w=>r8in _ _ _ w)
  have HI1:Hid (∀ w,Calls Tryz.prog 20 #[.int .i64 m.mid,.int .i64 1,.int .i64 16] w fun e w'=>e=.returned (.bool (inB m.mid 1 16))∧w'=w):=(show ∀ w,_ from fun w=>r8in _ _ _ w)
  have HI2:Hid (∀ w,Calls Tryz.prog 20 #[.int .i64 m.mra,.int .i64 0,.int .i64 4294967295] w fun e w'=>e=.returned (.bool (inB m.mra 0 4294967295))∧w'=w):=(show ∀ w,_ from fun w=>r8in _ _ _ w)
  have HI3:Hid (∀ w,Calls Tryz.prog 20 #[.int .i64 m.mbu,.int .i64 0,.int .i64 4294967295] w fun e w'=>e=.returned (.bool (inB m.mbu 0 4294967295))∧w'=w):=(show ∀ w,_ from fun w=>r8in _ _ _ w)
  generalize pw m.cmd 2=P1 at *
  generalize pw m.mid 4=P2 at *
  generalize pw m.mra 4=P3 at *
  generalize pw m.mbu 4=P4 at *
  generalize zeros 4=Z4 at *
  have e1:∀ w,(Op.stringOp .add P1 ⟨#[0,5]⟩).run Tryz.prog w=.ok (.string (P1 ++ ⟨#[0,5]⟩)) w:=cat _ _ 2 2 (by omega) (by exact Nat.le_refl _) (by decide)
  have y1:=cat_sz P1 ⟨#[0,5]⟩ 2 2 (by omega) (by exact Nat.le_refl _)
  generalize P1 ++ ⟨#[0,5]⟩=S1 at *
  have e2:∀ w,(Op.stringOp .add S1 P2).run Tryz.prog w=.ok (.string (S1 ++ P2)) w:=cat _ _ 4 4 (by omega) (by omega) (by decide)
  have y2:=cat_sz S1 P2 4 4 (by omega) (by omega)
  generalize S1 ++ P2=S2 at *
  have e3:∀ w,(Op.stringOp .add S2 ⟨#[0,1,0,16]⟩).run Tryz.prog w=.ok (.string (S2 ++ ⟨#[0,1,0,16]⟩)) w:=cat _ _ 8 4 (by omega) (by exact Nat.le_refl _) (by decide)
  have y3:=cat_sz S2 ⟨#[0,1,0,16]⟩ 8 4 (by omega) (by exact Nat.le_refl _)
  generalize S2 ++ ⟨#[0,1,0,16]⟩=S3 at *
  have e4:∀ w,(Op.stringOp .add S3 P3).run Tryz.prog w=.ok (.string (S3 ++ P3)) w:=cat _ _ 12 4 (by omega) (by omega) (by decide)
  have y4:=cat_sz S3 P3 12 4 (by omega) (by omega)
  generalize S3 ++ P3=S4 at *
  have e5:∀ w,(Op.stringOp .add S4 P4).run Tryz.prog w=.ok (.string (S4 ++ P4)) w:=cat _ _ 16 4 (by omega) (by omega) (by decide)
  have y5:=cat_sz S4 P4 16 4 (by omega) (by omega)
  generalize S4 ++ P4=S5 at *
  have e6:∀ w,(Op.stringOp .add S5 Z4).run Tryz.prog w=.ok (.string (S5 ++ Z4)) w:=cat _ _ 20 4 (by omega) (by omega) (by decide)
  have y6:=cat_sz S5 Z4 20 4 (by omega) (by omega)
  generalize S5 ++ Z4=S6 at *
  clear z1 z2 z3 z4 y4z y1 y2 y3 y4 y5 y6
  rcases (show inB m.cmd 0 2=false∨(inB m.cmd 0 2=true∧inB m.mid 1 16=false)∨(inB m.cmd 0 2=true∧inB m.mid 1 16=true∧inB m.mra 0 4294967295=false)∨(inB m.cmd 0 2=true∧inB m.mid 1 16=true∧inB m.mra 0 4294967295=true) by cases inB m.cmd 0 2 <;> cases inB m.mid 1 16 <;> cases inB m.mra 0 4294967295 <;> simp) with q0 | ⟨q0,q1⟩ | ⟨q0,q1,q2⟩ | ⟨q0,q1,q2⟩
  all_goals
    try rw [q0] at HI0 ⊢
    try rw [q1] at HI1 ⊢
    try rw [q2] at HI2 ⊢
    simp only [Bool.true_and,Bool.false_and,Bool.and_false]
    try clear q2
    try clear q1
    clear q0
    go_enter Tryz.func19,Tryz.ntmps19
    go_wp2_with (first | (refine build_R rfl (.tmp 24) (.tmp 26) rfl m.kind m.xid rfl rfl ?_) | (refine store_R rfl (.tmp 5) (.tmp 27) rfl (w.heap.size + 2) (own0 m) rfl rfl hY ?_;intro V bV tV oV;obtain ⟨U0,U1,U2,U3,E0,E1,E2,E3,⟨a0_0,a0_1,a0_2,a0_3⟩,⟨a1_0,a1_1,a1_2,a1_3,a1_4⟩,⟨a2_0,a2_1⟩,⟨a3_0,a3_1⟩,R⟩:=start29 (HV.out V bV tV oV);clear bV tV oV HV hY hW1 f0 f1 s1))
    clear E0 E1 E2 E3 a0_0 a0_1 a0_2 a0_3 a1_0 a1_1 a1_2 a1_3 a1_4 a2_0 a2_1 a3_0 a3_1
    have hc:∀ n:GhT U3 (w.heap.size + 1),n.w.cell? ⟨w.heap.size,2,none⟩=some (.int .i64 m.cmd)∧n.w.cell? ⟨w.heap.size,17,none⟩=some (.int .i64 m.mid)∧n.w.cell? ⟨w.heap.size,18,none⟩=some (.int .i64 m.mra)∧n.w.cell? ⟨w.heap.size,19,none⟩=some (.int .i64 m.mbu):=fun n=>⟨R.gm 2 _ rfl n,R.gm 17 _ rfl n,R.gm 18 _ rfl n,R.gm 19 _ rfl n⟩
    have HO:Hid (∀ u,(∃ n:GhT U3 (w.heap.size + 1),u=n.w)→Bm u (w.heap.size + 2) (own29 m)):=(show ∀ u,_ from R.holes)
    have HBU:Hid (w.heap.size + 1 < U3.heap.size):=(show _ < _ by have:=R.z;omega)
    refine wp_region_R [_,_,_,_,_,_,_,_,_,_,_,_,_,_,_,_,_,_,_,_,_,_,_,_,_,_,_,_,_,_,_,_,_,_,_,_,_,_,_,_,_,_,_,_,_] [_] _ 22 3 326 5 (w.heap.size + 1) (w.heap.size + 2) (own29 m) _ (by kernel_rfl) (by kernel_rfl) (by kernel_rfl) rfl rfl rfl (by decide) rfl rfl (by kernel_rfl) rfl rfl rfl rfl (show 326 < 349 by decide) R.t1 R.b2 (by have:=R.z;omega) (by omega) ?_
    dsimp only [List.cons_append,List.nil_append,repOp]
    repeat (first
      | (go_big_quiet_want;refine quiet_R (.tmp 5) rfl (w.heap.size + 2) (own29 m) rfl HO.out ?_;go_big_quiet_on;simp only [Act.put,List.setIfInBounds_toArray,List.set_cons_succ,List.set_cons_zero])
      | go_big_quiet_step (first | (go_at_call_of 21 (Value.int IntKind.i64 m.cmd);exact quiet_gh HBU.out (HP1.out _)) | (go_at_call_of 21 (Value.int IntKind.i64 m.mid);exact quiet_gh HBU.out (HP2.out _)) | (go_at_call_of 21 (Value.int IntKind.i64 m.mra);exact quiet_gh HBU.out (HP3.out _)) | (go_at_call_of 21 (Value.int IntKind.i64 m.mbu);exact quiet_gh HBU.out (HP4.out _)) | (go_at_call 39;exact quiet_gh HBU.out (HZ4.out _)) | (go_at_call_of 20 (Value.int IntKind.i64 m.cmd);exact quiet_ghs (HI0.out _)) | (go_at_call_of 20 (Value.int IntKind.i64 m.mid);exact quiet_ghs (HI1.out _)) | (go_at_call_of 20 (Value.int IntKind.i64 m.mra);exact quiet_ghs (HI2.out _)) | (go_at_call_of 20 (Value.int IntKind.i64 m.mbu);exact quiet_ghs (HI3.out _))))
    refine wpQuiet_nil ?_
    intro w' hw'
    obtain ⟨B,H⟩:=gh_end (own29 m) R.t1 hw'
    generalize sM w' (w.heap.size + 1) (own29 m)=V2 at *
    have HE:Hid (Below w.heap.size w V2):=(show Below _ _ _ from R.done H)
    clear hw' HO HBU H R hc
    go_wp2_with fail
    refine bodyPost_ret (resSMb (b:=w.heap.size + 1) (m:=own29 m) rfl rfl B) rfl ?_
    exact ⟨rfl,HE.out⟩
end Go.Proofs.YtlcbfdiohcbpbaaGreatDoor

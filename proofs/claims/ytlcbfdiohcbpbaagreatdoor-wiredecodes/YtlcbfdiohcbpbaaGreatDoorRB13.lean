import Derived.Test.YtlcbfdiohcbpbaaGreatDoorRBodyP
namespace Go.Proofs.YtlcbfdiohcbpbaaGreatDoor
set_option maxRecDepth 20000
set_option maxHeartbeats 16000000
open Go.ChangeShapes Go.WideShapes Go.ChangeAt Go.RowKit
set_option linter.unusedVariables false
set_option linter.unusedSimpArgs false
def own13 (m:Ms):Ms:={ own0 m with prt:=m.prt,aa:=m.aa,la:=m.la,ca:=m.ca,dat:=m.dat }
theorem start13 {w V:World} {m:Ms} (h:RW w m (own0 m) V):∃ U0 U1 U2,V.setCell ⟨w.heap.size + 2,22,none⟩ (.int .i64 m.prt)=U0∧U0.setCell ⟨w.heap.size + 2,24,none⟩ (.slice m.aa m.la.length m.ca)=U1∧U1.setCell ⟨w.heap.size + 2,25,none⟩ (.string m.dat)=U2∧(V.cell? ⟨w.heap.size,0,none⟩=some (.int .i64 m.kind)∧V.cell? ⟨w.heap.size,22,none⟩=some (.int .i64 m.prt)∧V.cell? ⟨w.heap.size + 2,22,none⟩=some (.int .i64 0)∧V.frozen? ⟨w.heap.size + 2,22,none⟩=false)∧(U0.cell? ⟨w.heap.size,24,none⟩=some (.slice m.aa m.la.length m.ca)∧U0.cell? ⟨w.heap.size + 2,24,none⟩=some (.slice none 0 0)∧U0.frozen? ⟨w.heap.size + 2,24,none⟩=false)∧(U1.cell? ⟨w.heap.size,25,none⟩=some (.string m.dat)∧U1.cell? ⟨w.heap.size + 2,25,none⟩=some (.string ⟨#[]⟩)∧U1.frozen? ⟨w.heap.size + 2,25,none⟩=false)∧RW w m (own13 m) U2:=by
 have h1:=h.one 22 (.int .i64 m.prt) { own0 m with prt:=m.prt } (by decide) rfl
 have h2:=h1.one 24 (.slice m.aa m.la.length m.ca) { own0 m with prt:=m.prt,aa:=m.aa,la:=m.la,ca:=m.ca } (by decide) rfl
 have h3:=h2.one 25 (.string m.dat) (own13 m) (by decide) rfl
 exact ⟨_,_,_,rfl,rfl,rfl,⟨h.m 0 _ rfl,h.m 22 _ rfl,h.o 22 _ rfl,h.f 22 (by decide)⟩,⟨h1.m 24 _ rfl,h1.o 24 _ rfl,h1.f 24 (by decide)⟩,⟨h2.m 25 _ rfl,h2.o 25 _ rfl,h2.f 25 (by decide)⟩,h3⟩
theorem rb13 (m:Ms) (w:World) (mw:MW w m) (mu:MU m) (k0:(m.kind == 0)=false) (k20:(m.kind == 20)=false) (k21:(m.kind == 21)=false) (k1:(m.kind == 1)=false) (k2:(m.kind == 2)=false) (k3:(m.kind == 3)=false) (k12:(m.kind == 12)=false) (k13:(m.kind == 13)=true) :
    Calls Tryz.prog 19 #[msV m] w fun e w'=>e=.returned (.tuple #[.string (⟨#[255,255,255,255]⟩ ++ pw m.prt 4 ++ pw ((encodeS m.la).size:Int) 2 ++ zeros 6 ++ encodeS m.la ++ m.dat),msV (own13 m),.bool (mostA m.la 32 && inB m.prt 0 16 && decide ((m.dat.size:Int)≤1500))])∧Below w.heap.size w w':=by
  obtain ⟨W1,hW1,s1,f0,f1,hY,HV⟩:=rb_set m w
  have hz:=mw.d
  have HA:Hid (∀ X,Below w.heap.size w X→Calls Tryz.prog 40 #[.slice m.aa m.la.length m.ca,.int .i64 32] X fun e w'=>e=.returned (.tuple #[.string (encodeS m.la),.bool (mostA m.la 32)])∧Below X.heap.size X w'):=(show ∀ X,_ from fun X g=>r8acts m.aa m.la m.ca 32 X (mw.a.below g) mw.an mu.a)
  have HP1:Hid (∀ w,Calls Tryz.prog 21 #[.int .i64 m.prt,.int .i64 4] w fun e w'=>e=.returned (.string (pw m.prt 4))∧Below w.heap.size w w'):=(show ∀ w,_ from fun w=>r8put4 _ w)
  have z1:=pw_size m.prt 4
  have HP2:Hid (∀ w,Calls Tryz.prog 21 #[.int .i64 ((encodeS m.la).size:Int),.int .i64 2] w fun e w'=>e=.returned (.string (pw ((encodeS m.la).size:Int) 2))∧Below w.heap.size w w'):=(show ∀ w,_ from fun w=>r8put2 _ w)
  have z2:=pw_size ((encodeS m.la).size:Int) 2
  have HZ6:Hid (∀ w,Calls Tryz.prog 39 #[.int .i64 6] w fun e w'=>e=.returned (.string (zeros 6))∧Below w.heap.size w w'):=(show ∀ w,_ from fun w=>r8z6 w)
  have y6z:=zeros_size 6
  have HI0:Hid (∀ w,Calls Tryz.prog 20 #[.int .i64 m.prt,.int .i64 0,.int .i64 16] w fun e w'=>e=.returned (.bool (inB m.prt 0 16))∧w'=w):=(show ∀ w,_ from fun w=>r8in _ _ _ w)
  have z4:=encS_le m.la
  generalize pw m.prt 4=P1 at *
  generalize pw ((encodeS m.la).size:Int) 2=P2 at *
  generalize zeros 6=Z6 at *
  generalize encodeS m.la=SA at *
  have e1:∀ w,(Op.stringOp .add ⟨#[255,255,255,255]⟩ P1).run Tryz.prog w=.ok (.string (⟨#[255,255,255,255]⟩ ++ P1)) w:=cat _ _ 4 4 (by exact Nat.le_refl _) (by omega) (by decide)
  have y1:=cat_sz ⟨#[255,255,255,255]⟩ P1 4 4 (by exact Nat.le_refl _) (by omega)
  generalize ⟨#[255,255,255,255]⟩ ++ P1=S1 at *
  have e2:∀ w,(Op.stringOp .add S1 P2).run Tryz.prog w=.ok (.string (S1 ++ P2)) w:=cat _ _ 8 2 (by omega) (by omega) (by decide)
  have y2:=cat_sz S1 P2 8 2 (by omega) (by omega)
  generalize S1 ++ P2=S2 at *
  have e3:∀ w,(Op.stringOp .add S2 Z6).run Tryz.prog w=.ok (.string (S2 ++ Z6)) w:=cat _ _ 10 6 (by omega) (by omega) (by decide)
  have y3:=cat_sz S2 Z6 10 6 (by omega) (by omega)
  generalize S2 ++ Z6=S3 at *
  have e4:∀ w,(Op.stringOp .add S3 SA).run Tryz.prog w=.ok (.string (S3 ++ SA)) w:=cat _ _ 16 512 (by omega) (by omega) (by decide)
  have y4:=cat_sz S3 SA 16 512 (by omega) (by omega)
  generalize S3 ++ SA=S4 at *
  have e5:∀ w,(Op.stringOp .add S4 m.dat).run Tryz.prog w=.ok (.string (S4 ++ m.dat)) w:=cat _ _ 528 100000 (by omega) (by omega) (by decide)
  have y5:=cat_sz S4 m.dat 528 100000 (by omega) (by omega)
  generalize S4 ++ m.dat=S5 at *
  clear z1 z2 y6z z4 y1 y2 y3 y4 y5 hz mw mu
  rcases (show mostA m.la 32=false∨(mostA m.la 32=true∧inB m.prt 0 16=false)∨(mostA m.la 32=true∧inB m.prt 0 16=true) by cases mostA m.la 32 <;> cases inB m.prt 0 16 <;> simp) with q0 | ⟨q0,q1⟩ | ⟨q0,q1⟩
  all_goals
    try rw [q0] at HA ⊢
    try rw [q1] at HI0 ⊢
    simp only [Bool.true_and,Bool.false_and,Bool.and_false]
    try clear q1
    clear q0
    go_enter Tryz.func19,Tryz.ntmps19
    go_wp2_with (first | (refine build_R rfl (.tmp 24) (.tmp 26) rfl m.kind m.xid rfl rfl ?_) | (refine store_R rfl (.tmp 5) (.tmp 27) rfl (w.heap.size + 2) (own0 m) rfl rfl hY ?_;intro V bV tV oV;obtain ⟨U0,U1,U2,E0,E1,E2,⟨a0_0,a0_1,a0_2,a0_3⟩,⟨a1_0,a1_1,a1_2⟩,⟨a2_0,a2_1,a2_2⟩,R⟩:=start13 (HV.out V bV tV oV);have rl:=R.m 24 _ rfl;clear bV tV oV HV hY hW1 f0 f1 s1))
    clear E0 E1 E2 a0_0 a0_1 a0_2 a0_3 a1_0 a1_1 a1_2 a2_0 a2_1 a2_2 rl
    refine (HA.out _ R.g).mono ?_
    rintro x w1 ⟨rfl,g1⟩
    have R1:=R.grow g1
    clear R g1
    go_wp2_with fail
    have hc:∀ n:GhT w1 (w.heap.size + 1),n.w.cell? ⟨w.heap.size,22,none⟩=some (.int .i64 m.prt)∧n.w.cell? ⟨w.heap.size,25,none⟩=some (.string m.dat):=fun n=>⟨R1.gm 22 _ rfl n,R1.gm 25 _ rfl n⟩
    have HO:Hid (∀ u,(∃ n:GhT w1 (w.heap.size + 1),u=n.w)→Bm u (w.heap.size + 2) (own13 m)):=(show ∀ u,_ from R1.holes)
    have HBU:Hid (w.heap.size + 1 < w1.heap.size):=(show _ < _ by have:=R1.z;omega)
    refine wp_region_R [_,_,_,_,_,_,_,_,_,_,_,_,_,_,_,_,_,_,_,_,_,_,_,_,_,_,_,_,_] [_] _ 15 3 143 5 (w.heap.size + 1) (w.heap.size + 2) (own13 m) _ (by kernel_rfl) (by kernel_rfl) (by kernel_rfl) rfl rfl rfl (by decide) rfl rfl (by kernel_rfl) rfl rfl rfl rfl (show 143 < 349 by decide) R1.t1 R1.b2 (by have:=R1.z;omega) (by omega) ?_
    dsimp only [List.cons_append,List.nil_append,repOp]
    repeat (first
      | (go_big_quiet_want;refine quiet_R (.tmp 5) rfl (w.heap.size + 2) (own13 m) rfl HO.out ?_;go_big_quiet_on;simp only [Act.put,List.setIfInBounds_toArray,List.set_cons_succ,List.set_cons_zero])
      | go_big_quiet_step (first | (go_at_call_of 21 (Value.int IntKind.i64 4);exact quiet_gh HBU.out (HP1.out _)) | (go_at_call_of 21 (Value.int IntKind.i64 2);exact quiet_gh HBU.out (HP2.out _)) | (go_at_call 39;exact quiet_gh HBU.out (HZ6.out _)) | (go_at_call_of 20 (Value.int IntKind.i64 m.prt);exact quiet_ghs (HI0.out _))))
    refine wpQuiet_nil ?_
    intro w' hw'
    obtain ⟨B,H⟩:=gh_end (own13 m) R1.t1 hw'
    generalize sM w' (w.heap.size + 1) (own13 m)=V2 at *
    have HE:Hid (Below w.heap.size w V2):=(show Below _ _ _ from R1.done H)
    clear hw' HO HBU H R1 hc
    go_wp2_with fail
    refine bodyPost_ret (resSMb (b:=w.heap.size + 1) (m:=own13 m) rfl rfl B) rfl ?_
    exact ⟨rfl,HE.out⟩
end Go.Proofs.YtlcbfdiohcbpbaaGreatDoor

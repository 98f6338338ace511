import Derived.Test.YtlcbfdiohcbpbaaGreatDoorRBodyP
namespace Go.Proofs.YtlcbfdiohcbpbaaGreatDoor
set_option maxRecDepth 20000
set_option maxHeartbeats 16000000
open Go.ChangeShapes Go.WideShapes Go.ChangeAt Go.RowKit
set_option linter.unusedVariables false
set_option linter.unusedSimpArgs false
def own1 (m:Ms):Ms:={ own0 m with typ:=m.typ,cod:=m.cod,dat:=m.dat }
theorem start1 {w V:World} {m:Ms} (h:RW w m (own0 m) V):∃ U0 U1 U2,V.setCell ⟨w.heap.size + 2,20,none⟩ (.int .i64 m.typ)=U0∧U0.setCell ⟨w.heap.size + 2,21,none⟩ (.int .i64 m.cod)=U1∧U1.setCell ⟨w.heap.size + 2,25,none⟩ (.string m.dat)=U2∧(V.cell? ⟨w.heap.size,0,none⟩=some (.int .i64 m.kind)∧V.cell? ⟨w.heap.size,20,none⟩=some (.int .i64 m.typ)∧V.cell? ⟨w.heap.size + 2,20,none⟩=some (.int .i64 0)∧V.frozen? ⟨w.heap.size + 2,20,none⟩=false)∧(U0.cell? ⟨w.heap.size,21,none⟩=some (.int .i64 m.cod)∧U0.cell? ⟨w.heap.size + 2,21,none⟩=some (.int .i64 0)∧U0.frozen? ⟨w.heap.size + 2,21,none⟩=false)∧(U1.cell? ⟨w.heap.size,25,none⟩=some (.string m.dat)∧U1.cell? ⟨w.heap.size + 2,25,none⟩=some (.string ⟨#[]⟩)∧U1.frozen? ⟨w.heap.size + 2,25,none⟩=false)∧RW w m (own1 m) U2:=by
 have h1:=h.one 20 (.int .i64 m.typ) { own0 m with typ:=m.typ } (by decide) rfl
 have h2:=h1.one 21 (.int .i64 m.cod) { own0 m with typ:=m.typ,cod:=m.cod } (by decide) rfl
 have h3:=h2.one 25 (.string m.dat) (own1 m) (by decide) rfl
 exact ⟨_,_,_,rfl,rfl,rfl,⟨h.m 0 _ rfl,h.m 20 _ rfl,h.o 20 _ rfl,h.f 20 (by decide)⟩,⟨h1.m 21 _ rfl,h1.o 21 _ rfl,h1.f 21 (by decide)⟩,⟨h2.m 25 _ rfl,h2.o 25 _ rfl,h2.f 25 (by decide)⟩,h3⟩
theorem rb1 (m:Ms) (w:World) (hz:m.dat.size≤100000) (k0:(m.kind == 0)=false) (k20:(m.kind == 20)=false) (k21:(m.kind == 21)=false) (k1:(m.kind == 1)=true) :
    Calls Tryz.prog 19 #[msV m] w fun e w'=>e=.returned (.tuple #[.string (pw m.typ 2 ++ pw m.cod 2 ++ m.dat),msV (own1 m),.bool (inB m.typ 0 65535 && inB m.cod 0 65535 && decide ((m.dat.size:Int)≤64))])∧Below w.heap.size w w':=by
  obtain ⟨W1,hW1,s1,f0,f1,hY,HV⟩:=rb_set m w
  have HP1:Hid (∀ w,Calls Tryz.prog 21 #[.int .i64 m.typ,.int .i64 2] w fun e w'=>e=.returned (.string (pw m.typ 2))∧Below w.heap.size w w'):=(show ∀ w,_ from fun w=>r8put2 _ w)
  have z1:=pw_size m.typ 2
  have HP2:Hid (∀ w,Calls Tryz.prog 21 #[.int .i64 m.cod,.int .i64 2] w fun e w'=>e=.returned (.string (pw m.cod 2))∧Below w.heap.size w w'):=(show ∀ w,_ from fun w=>r8put2 _ w)
  have z2:=pw_size m.cod 2
  have HI0:Hid (∀ w,Calls Tryz.prog 20 #[.int .i64 m.typ,.int .i64 0,.int .i64 65535] w fun e w'=>e=.returned (.bool (inB m.typ 0 65535))∧w'=w):=(show ∀ w,_ from fun w=>r8in _ _ _ w)
  have HI1:Hid (∀ w,Calls Tryz.prog 20 #[.int .i64 m.cod,.int .i64 0,.int .i64 65535] w fun e w'=>e=.returned (.bool (inB m.cod 0 65535))∧w'=w):=(show ∀ w,_ from fun w=>r8in _ _ _ w)
  generalize pw m.typ 2=P1 at *
  generalize pw m.cod 2=P2 at *
  have e1:∀ w,(Op.stringOp .add P1 P2).run Tryz.prog w=.ok (.string (P1 ++ P2)) w:=cat _ _ 2 2 (by omega) (by omega) (by decide)
  have y1:=cat_sz P1 P2 2 2 (by omega) (by omega)
  generalize P1 ++ P2=S1 at *
  have e2:∀ w,(Op.stringOp .add S1 m.dat).run Tryz.prog w=.ok (.string (S1 ++ m.dat)) w:=cat _ _ 4 100000 (by omega) (by omega) (by decide)
  have y2:=cat_sz S1 m.dat 4 100000 (by omega) (by omega)
  generalize S1 ++ m.dat=S2 at *
  clear z1 z2 y1 y2 hz
  rcases (show inB m.typ 0 65535=false∨(inB m.typ 0 65535=true∧inB m.cod 0 65535=false)∨(inB m.typ 0 65535=true∧inB m.cod 0 65535=true) by cases inB m.typ 0 65535 <;> cases inB m.cod 0 65535 <;> simp) with q0 | ⟨q0,q1⟩ | ⟨q0,q1⟩
  all_goals
    try rw [q0] at HI0 ⊢
    try rw [q1] at HI1 ⊢
    simp only [Bool.true_and,Bool.false_and,Bool.and_false]
    try clear q1
    clear q0
    go_enter Tryz.func19,Tryz.ntmps19
    go_wp2_with (first | (refine build_R rfl (.tmp 24) (.tmp 26) rfl m.kind m.xid rfl rfl ?_) | (refine store_R rfl (.tmp 5) (.tmp 27) rfl (w.heap.size + 2) (own0 m) rfl rfl hY ?_;intro V bV tV oV;obtain ⟨U0,U1,U2,E0,E1,E2,⟨a0_0,a0_1,a0_2,a0_3⟩,⟨a1_0,a1_1,a1_2⟩,⟨a2_0,a2_1,a2_2⟩,R⟩:=start1 (HV.out V bV tV oV);clear bV tV oV HV hY hW1 f0 f1 s1))
    clear E0 E1 E2 a0_0 a0_1 a0_2 a0_3 a1_0 a1_1 a1_2 a2_0 a2_1 a2_2
    have hc:∀ n:GhT U2 (w.heap.size + 1),n.w.cell? ⟨w.heap.size,20,none⟩=some (.int .i64 m.typ)∧n.w.cell? ⟨w.heap.size,21,none⟩=some (.int .i64 m.cod)∧n.w.cell? ⟨w.heap.size,25,none⟩=some (.string m.dat):=fun n=>⟨R.gm 20 _ rfl n,R.gm 21 _ rfl n,R.gm 25 _ rfl n⟩
    have HO:Hid (∀ u,(∃ n:GhT U2 (w.heap.size + 1),u=n.w)→Bm u (w.heap.size + 2) (own1 m)):=(show ∀ u,_ from R.holes)
    have HBU:Hid (w.heap.size + 1 < U2.heap.size):=(show _ < _ by have:=R.z;omega)
    refine wp_region_R [_,_,_,_,_,_,_,_,_,_,_,_,_,_,_,_,_,_,_,_,_,_,_,_,_,_] [_] _ 10 3 56 5 (w.heap.size + 1) (w.heap.size + 2) (own1 m) _ (by kernel_rfl) (by kernel_rfl) (by kernel_rfl) rfl rfl rfl (by decide) rfl rfl (by kernel_rfl) rfl rfl rfl rfl (show 56 < 349 by decide) R.t1 R.b2 (by have:=R.z;omega) (by omega) ?_
    dsimp only [List.cons_append,List.nil_append,repOp]
    repeat (first
      | (go_big_quiet_want;refine quiet_R (.tmp 5) rfl (w.heap.size + 2) (own1 m) rfl HO.out ?_;go_big_quiet_on;simp only [Act.put,List.setIfInBounds_toArray,List.set_cons_succ,List.set_cons_zero])
      | go_big_quiet_step (first | (go_at_call_of 21 (Value.int IntKind.i64 m.typ);exact quiet_gh HBU.out (HP1.out _)) | (go_at_call_of 21 (Value.int IntKind.i64 m.cod);exact quiet_gh HBU.out (HP2.out _)) | (go_at_call_of 20 (Value.int IntKind.i64 m.typ);exact quiet_ghs (HI0.out _)) | (go_at_call_of 20 (Value.int IntKind.i64 m.cod);exact quiet_ghs (HI1.out _))))
    refine wpQuiet_nil ?_
    intro w' hw'
    obtain ⟨B,H⟩:=gh_end (own1 m) R.t1 hw'
    generalize sM w' (w.heap.size + 1) (own1 m)=V2 at *
    have HE:Hid (Below w.heap.size w V2):=(show Below _ _ _ from R.done H)
    clear hw' HO HBU H R hc
    go_wp2_with fail
    refine bodyPost_ret (resSMb (b:=w.heap.size + 1) (m:=own1 m) rfl rfl B) rfl ?_
    exact ⟨rfl,HE.out⟩
end Go.Proofs.YtlcbfdiohcbpbaaGreatDoor

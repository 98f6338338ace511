import Derived.Test.YtlcbfdiohcbpbaaGreatDoorRBodyP
namespace Go.Proofs.YtlcbfdiohcbpbaaGreatDoor
set_option maxRecDepth 20000
set_option maxHeartbeats 16000000
open Go.ChangeShapes Go.WideShapes Go.ChangeAt Go.RowKit
set_option linter.unusedVariables false
set_option linter.unusedSimpArgs false
def own12 (m:Ms) (b:Bool):Ms:={ own0 m with prt:=m.prt,live:=b }
theorem start12 {w V:World} {m:Ms} (b:Bool) (hb:m.live=b) (h:RW w m (own0 m) V):∃ U0 U1,V.setCell ⟨w.heap.size + 2,22,none⟩ (.int .i64 m.prt)=U0∧U0.setCell ⟨w.heap.size + 2,23,none⟩ (.bool b)=U1∧(V.cell? ⟨w.heap.size,0,none⟩=some (.int .i64 m.kind)∧V.cell? ⟨w.heap.size,22,none⟩=some (.int .i64 m.prt)∧V.cell? ⟨w.heap.size + 2,22,none⟩=some (.int .i64 0)∧V.frozen? ⟨w.heap.size + 2,22,none⟩=false)∧(U0.cell? ⟨w.heap.size,23,none⟩=some (.bool b)∧U0.cell? ⟨w.heap.size + 2,23,none⟩=some (.bool false)∧U0.frozen? ⟨w.heap.size + 2,23,none⟩=false)∧RW w m (own12 m b) U1:=by
 have h1:=h.one 22 (.int .i64 m.prt) { own0 m with prt:=m.prt } (by decide) rfl
 have h2:=h1.one 23 (.bool b) (own12 m b) (by decide) rfl
 exact ⟨_,_,rfl,rfl,⟨h.m 0 _ rfl,h.m 22 _ rfl,h.o 22 _ rfl,h.f 22 (by decide)⟩,⟨h1.m 23 _ (by rw [← hb];rfl),h1.o 23 _ rfl,h1.f 23 (by decide)⟩,h2⟩
theorem rb12_t (m:Ms) (w:World) (hl:m.live=true) (k0:(m.kind == 0)=false) (k20:(m.kind == 20)=false) (k21:(m.kind == 21)=false) (k1:(m.kind == 1)=false) (k2:(m.kind == 2)=false) (k3:(m.kind == 3)=false) (k12:(m.kind == 12)=true) :
    Calls Tryz.prog 19 #[msV m] w fun e w'=>e=.returned (.tuple #[.string (⟨#[2]⟩ ++ zeros 7 ++ pw m.prt 4 ++ zeros 32 ++ (zeros 4) ++ zeros 24),msV (own12 m true),.bool (inB m.prt 1 16)])∧Below w.heap.size w w':=by
  obtain ⟨W1,hW1,s1,f0,f1,hY,HV⟩:=rb_set m w
  have HL:Hid (m.live=true):=hl
  clear hl
  have HP1:Hid (∀ w,Calls Tryz.prog 21 #[.int .i64 m.prt,.int .i64 4] w fun e w'=>e=.returned (.string (pw m.prt 4))∧Below w.heap.size w w'):=(show ∀ w,_ from fun w=>r8put4 _ w)
  have z1:=pw_size m.prt 4
  have HZ4:Hid (∀ w,Calls Tryz.prog 39 #[.int .i64 4] w fun e w'=>e=.returned (.string (zeros 4))∧Below w.heap.size w w'):=(show ∀ w,_ from fun w=>r8z4 w)
  have y4z:=zeros_size 4
  generalize zeros 4=Z4 at *
  have HZ7:Hid (∀ w,Calls Tryz.prog 39 #[.int .i64 7] w fun e w'=>e=.returned (.string (zeros 7))∧Below w.heap.size w w'):=(show ∀ w,_ from fun w=>r8z7 w)
  have y7z:=zeros_size 7
  generalize zeros 7=Z7 at *
  have HZ24:Hid (∀ w,Calls Tryz.prog 39 #[.int .i64 24] w fun e w'=>e=.returned (.string (zeros 24))∧Below w.heap.size w w'):=(show ∀ w,_ from fun w=>r8z24 w)
  have y24z:=zeros_size 24
  generalize zeros 24=Z24 at *
  have HZ32:Hid (∀ w,Calls Tryz.prog 39 #[.int .i64 32] w fun e w'=>e=.returned (.string (zeros 32))∧Below w.heap.size w w'):=(show ∀ w,_ from fun w=>r8z32 w)
  have y32z:=zeros_size 32
  generalize zeros 32=Z32 at *
  have HI0:Hid (∀ w,Calls Tryz.prog 20 #[.int .i64 m.prt,.int .i64 1,.int .i64 16] w fun e w'=>e=.returned (.bool (inB m.prt 1 16))∧w'=w):=(show ∀ w,_ from fun w=>r8in _ _ _ w)
  generalize pw m.prt 4=P1 at *
  have e1:∀ w,(Op.stringOp .add ⟨#[2]⟩ Z7).run Tryz.prog w=.ok (.string (⟨#[2]⟩ ++ Z7)) w:=cat _ _ 1 7 (by exact Nat.le_refl _) (by omega) (by decide)
  have y1:=cat_sz ⟨#[2]⟩ Z7 1 7 (by exact Nat.le_refl _) (by omega)
  generalize ⟨#[2]⟩ ++ Z7=S1 at *
  have e2:∀ w,(Op.stringOp .add S1 P1).run Tryz.prog w=.ok (.string (S1 ++ P1)) w:=cat _ _ 8 4 (by omega) (by omega) (by decide)
  have y2:=cat_sz S1 P1 8 4 (by omega) (by omega)
  generalize S1 ++ P1=S2 at *
  have e3:∀ w,(Op.stringOp .add S2 Z32).run Tryz.prog w=.ok (.string (S2 ++ Z32)) w:=cat _ _ 12 32 (by omega) (by omega) (by decide)
  have y3:=cat_sz S2 Z32 12 32 (by omega) (by omega)
  generalize S2 ++ Z32=S3 at *
  have e4:∀ w,(Op.stringOp .add S3 Z4).run Tryz.prog w=.ok (.string (S3 ++ Z4)) w:=cat _ _ 44 4 (by omega) (by omega) (by decide)
  have y4:=cat_sz S3 Z4 44 4 (by omega) (by omega)
  generalize S3 ++ Z4=S4 at *
  have e5:∀ w,(Op.stringOp .add S4 Z24).run Tryz.prog w=.ok (.string (S4 ++ Z24)) w:=cat _ _ 48 24 (by omega) (by omega) (by decide)
  have y5:=cat_sz S4 Z24 48 24 (by omega) (by omega)
  generalize S4 ++ Z24=S5 at *
  clear z1 y4z y7z y24z y32z y1 y2 y3 y4 y5
  go_enter Tryz.func19,Tryz.ntmps19
  go_wp2_with (first | (refine build_R rfl (.tmp 24) (.tmp 26) rfl m.kind m.xid rfl rfl ?_) | (refine store_R rfl (.tmp 5) (.tmp 27) rfl (w.heap.size + 2) (own0 m) rfl rfl hY ?_;intro V bV tV oV;obtain ⟨U0,U1,E0,E1,⟨a0_0,a0_1,a0_2,a0_3⟩,⟨a1_0,a1_1,a1_2⟩,R⟩:=start12 true HL.out (HV.out V bV tV oV);have rl:=R.m 23 (.bool true) (by rw [← HL.out];rfl);clear bV tV oV HV hY hW1 f0 f1 s1))
  clear E0 E1 a0_0 a0_1 a0_2 a0_3 a1_0 a1_1 a1_2 rl
  refine (HZ4.out _).mono ?_
  rintro x w1 ⟨rfl,g1⟩
  have R1:=R.grow g1
  clear R g1
  go_wp2_with fail
  have hc:∀ n:GhT w1 (w.heap.size + 1),n.w.cell? ⟨w.heap.size,22,none⟩=some (.int .i64 m.prt):=fun n=>R1.gm 22 _ rfl n
  have HO:Hid (∀ u,(∃ n:GhT w1 (w.heap.size + 1),u=n.w)→Bm u (w.heap.size + 2) (own12 m true)):=(show ∀ u,_ from R1.holes)
  have HBU:Hid (w.heap.size + 1 < w1.heap.size):=(show _ < _ by have:=R1.z;omega)
  refine wp_region_R [_,_,_,_,_,_,_,_,_,_,_,_,_,_,_,_,_] [_] _ 12 3 107 5 (w.heap.size + 1) (w.heap.size + 2) (own12 m true) _ (by kernel_rfl) (by kernel_rfl) (by kernel_rfl) rfl rfl rfl (by decide) rfl rfl (by kernel_rfl) rfl rfl rfl rfl (show 107 < 349 by decide) R1.t1 R1.b2 (by have:=R1.z;omega) (by omega) ?_
  dsimp only [List.cons_append,List.nil_append,repOp]
  repeat (first
    | (go_big_quiet_want;refine quiet_R (.tmp 5) rfl (w.heap.size + 2) (own12 m true) rfl HO.out ?_;go_big_quiet_on;simp only [Act.put,List.setIfInBounds_toArray,List.set_cons_succ,List.set_cons_zero])
    | go_big_quiet_step (first | (go_at_call 21;exact quiet_gh HBU.out (HP1.out _)) | (go_at_call_of 39 (Value.int IntKind.i64 7);exact quiet_gh HBU.out (HZ7.out _)) | (go_at_call_of 39 (Value.int IntKind.i64 24);exact quiet_gh HBU.out (HZ24.out _)) | (go_at_call_of 39 (Value.int IntKind.i64 32);exact quiet_gh HBU.out (HZ32.out _)) | (go_at_call_of 20 (Value.int IntKind.i64 m.prt);exact quiet_ghs (HI0.out _))))
  refine wpQuiet_nil ?_
  intro w' hw'
  obtain ⟨B,H⟩:=gh_end (own12 m true) R1.t1 hw'
  generalize sM w' (w.heap.size + 1) (own12 m true)=V2 at *
  have HE:Hid (Below w.heap.size w V2):=(show Below _ _ _ from R1.done H)
  clear hw' HO HBU H R1 hc
  go_wp2_with fail
  refine bodyPost_ret (resSMb (b:=w.heap.size + 1) (m:=own12 m true) rfl rfl B) rfl ?_
  exact ⟨rfl,HE.out⟩
theorem rb12_f (m:Ms) (w:World) (hl:m.live=false) (k0:(m.kind == 0)=false) (k20:(m.kind == 20)=false) (k21:(m.kind == 21)=false) (k1:(m.kind == 1)=false) (k2:(m.kind == 2)=false) (k3:(m.kind == 3)=false) (k12:(m.kind == 12)=true) :
    Calls Tryz.prog 19 #[msV m] w fun e w'=>e=.returned (.tuple #[.string (⟨#[2]⟩ ++ zeros 7 ++ pw m.prt 4 ++ zeros 32 ++ ⟨#[0,0,0,1]⟩ ++ zeros 24),msV (own12 m false),.bool (inB m.prt 1 16)])∧Below w.heap.size w w':=by
  obtain ⟨W1,hW1,s1,f0,f1,hY,HV⟩:=rb_set m w
  have HL:Hid (m.live=false):=hl
  clear hl
  have HP1:Hid (∀ w,Calls Tryz.prog 21 #[.int .i64 m.prt,.int .i64 4] w fun e w'=>e=.returned (.string (pw m.prt 4))∧Below w.heap.size w w'):=(show ∀ w,_ from fun w=>r8put4 _ w)
  have z1:=pw_size m.prt 4
  have HZ4:Hid (∀ w,Calls Tryz.prog 39 #[.int .i64 4] w fun e w'=>e=.returned (.string (zeros 4))∧Below w.heap.size w w'):=(show ∀ w,_ from fun w=>r8z4 w)
  have y4z:=zeros_size 4
  generalize zeros 4=Z4 at *
  have HZ7:Hid (∀ w,Calls Tryz.prog 39 #[.int .i64 7] w fun e w'=>e=.returned (.string (zeros 7))∧Below w.heap.size w w'):=(show ∀ w,_ from fun w=>r8z7 w)
  have y7z:=zeros_size 7
  generalize zeros 7=Z7 at *
  have HZ24:Hid (∀ w,Calls Tryz.prog 39 #[.int .i64 24] w fun e w'=>e=.returned (.string (zeros 24))∧Below w.heap.size w w'):=(show ∀ w,_ from fun w=>r8z24 w)
  have y24z:=zeros_size 24
  generalize zeros 24=Z24 at *
  have HZ32:Hid (∀ w,Calls Tryz.prog 39 #[.int .i64 32] w fun e w'=>e=.returned (.string (zeros 32))∧Below w.heap.size w w'):=(show ∀ w,_ from fun w=>r8z32 w)
  have y32z:=zeros_size 32
  generalize zeros 32=Z32 at *
  have HI0:Hid (∀ w,Calls Tryz.prog 20 #[.int .i64 m.prt,.int .i64 1,.int .i64 16] w fun e w'=>e=.returned (.bool (inB m.prt 1 16))∧w'=w):=(show ∀ w,_ from fun w=>r8in _ _ _ w)
  generalize pw m.prt 4=P1 at *
  have e1:∀ w,(Op.stringOp .add ⟨#[2]⟩ Z7).run Tryz.prog w=.ok (.string (⟨#[2]⟩ ++ Z7)) w:=cat _ _ 1 7 (by exact Nat.le_refl _) (by omega) (by decide)
  have y1:=cat_sz ⟨#[2]⟩ Z7 1 7 (by exact Nat.le_refl _) (by omega)
  generalize ⟨#[2]⟩ ++ Z7=S1 at *
  have e2:∀ w,(Op.stringOp .add S1 P1).run Tryz.prog w=.ok (.string (S1 ++ P1)) w:=cat _ _ 8 4 (by omega) (by omega) (by decide)
  have y2:=cat_sz S1 P1 8 4 (by omega) (by omega)
  generalize S1 ++ P1=S2 at *
  have e3:∀ w,(Op.stringOp .add S2 Z32).run Tryz.prog w=.ok (.string (S2 ++ Z32)) w:=cat _ _ 12 32 (by omega) (by omega) (by decide)
  have y3:=cat_sz S2 Z32 12 32 (by omega) (by omega)
  generalize S2 ++ Z32=S3 at *
  have e4:∀ w,(Op.stringOp .add S3 ⟨#[0,0,0,1]⟩).run Tryz.prog w=.ok (.string (S3 ++ ⟨#[0,0,0,1]⟩)) w:=cat _ _ 44 4 (by omega) (by exact Nat.le_refl _) (by decide)
  have y4:=cat_sz S3 ⟨#[0,0,0,1]⟩ 44 4 (by omega) (by exact Nat.le_refl _)
  generalize S3 ++ ⟨#[0,0,0,1]⟩=S4 at *
  have e5:∀ w,(Op.stringOp .add S4 Z24).run Tryz.prog w=.ok (.string (S4 ++ Z24)) w:=cat _ _ 48 24 (by omega) (by omega) (by decide)
  have y5:=cat_sz S4 Z24 48 24 (by omega) (by omega)
  generalize S4 ++ Z24=S5 at *
  clear z1 y4z y7z y24z y32z y1 y2 y3 y4 y5
  go_enter Tryz.func19,Tryz.ntmps19
  go_wp2_with (first | (refine build_R rfl (.tmp 24) (.tmp 26) rfl m.kind m.xid rfl rfl ?_) | (refine store_R rfl (.tmp 5) (.tmp 27) rfl (w.heap.size + 2) (own0 m) rfl rfl hY ?_;intro V bV tV oV;obtain ⟨U0,U1,E0,E1,⟨a0_0,a0_1,a0_2,a0_3⟩,⟨a1_0,a1_1,a1_2⟩,R⟩:=start12 false HL.out (HV.out V bV tV oV);have rl:=R.m 23 (.bool false) (by rw [← HL.out];rfl);clear bV tV oV HV hY hW1 f0 f1 s1))
  clear E0 E1 a0_0 a0_1 a0_2 a0_3 a1_0 a1_1 a1_2 rl
  have hc:∀ n:GhT U1 (w.heap.size + 1),n.w.cell? ⟨w.heap.size,22,none⟩=some (.int .i64 m.prt):=fun n=>R.gm 22 _ rfl n
  have HO:Hid (∀ u,(∃ n:GhT U1 (w.heap.size + 1),u=n.w)→Bm u (w.heap.size + 2) (own12 m false)):=(show ∀ u,_ from R.holes)
  have HBU:Hid (w.heap.size + 1 < U1.heap.size):=(show _ < _ by have:=R.z;omega)
  refine wp_region_R [_,_,_,_,_,_,_,_,_,_,_,_,_,_,_,_,_] [_] _ 12 3 107 5 (w.heap.size + 1) (w.heap.size + 2) (own12 m false) _ (by kernel_rfl) (by kernel_rfl) (by kernel_rfl) rfl rfl rfl (by decide) rfl rfl (by kernel_rfl) rfl rfl rfl rfl (show 107 < 349 by decide) R.t1 R.b2 (by have:=R.z;omega) (by omega) ?_
  dsimp only [List.cons_append,List.nil_append,repOp]
  repeat (first
    | (go_big_quiet_want;refine quiet_R (.tmp 5) rfl (w.heap.size + 2) (own12 m false) rfl HO.out ?_;go_big_quiet_on;simp only [Act.put,List.setIfInBounds_toArray,List.set_cons_succ,List.set_cons_zero])
    | go_big_quiet_step (first | (go_at_call 21;exact quiet_gh HBU.out (HP1.out _)) | (go_at_call_of 39 (Value.int IntKind.i64 7);exact quiet_gh HBU.out (HZ7.out _)) | (go_at_call_of 39 (Value.int IntKind.i64 24);exact quiet_gh HBU.out (HZ24.out _)) | (go_at_call_of 39 (Value.int IntKind.i64 32);exact quiet_gh HBU.out (HZ32.out _)) | (go_at_call_of 20 (Value.int IntKind.i64 m.prt);exact quiet_ghs (HI0.out _))))
  refine wpQuiet_nil ?_
  intro w' hw'
  obtain ⟨B,H⟩:=gh_end (own12 m false) R.t1 hw'
  generalize sM w' (w.heap.size + 1) (own12 m false)=V2 at *
  have HE:Hid (Below w.heap.size w V2):=(show Below _ _ _ from R.done H)
  clear hw' HO HBU H R hc
  go_wp2_with fail
  refine bodyPost_ret (resSMb (b:=w.heap.size + 1) (m:=own12 m false) rfl rfl B) rfl ?_
  exact ⟨rfl,HE.out⟩
end Go.Proofs.YtlcbfdiohcbpbaaGreatDoor

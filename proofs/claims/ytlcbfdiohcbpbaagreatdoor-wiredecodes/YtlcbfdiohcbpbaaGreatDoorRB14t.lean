import Derived.Test.YtlcbfdiohcbpbaaGreatDoorRB14p
namespace Go.Proofs.YtlcbfdiohcbpbaaGreatDoor
set_option maxRecDepth 20000
set_option maxHeartbeats 16000000
open Go.ChangeShapes Go.WideShapes Go.ChangeAt Go.RowKit
set_option linter.unusedVariables false
set_option linter.unusedSimpArgs false
theorem rb14_t (m:Ms) (w:World) (mw:MW w m) (mu:MU m) (hl:m.chk=true) (k0:(m.kind == 0)=false) (k20:(m.kind == 20)=false) (k21:(m.kind == 21)=false) (k1:(m.kind == 1)=false) (k2:(m.kind == 2)=false) (k3:(m.kind == 3)=false) (k12:(m.kind == 12)=false) (k13:(m.kind == 13)=false) (k14:(m.kind == 14)=true) :
    Calls Tryz.prog 19 #[msV m] w fun e w'=>e=.returned (.tuple #[.string (zeros 16 ++ pw m.en.tab 1 ++ pw m.cmd 1 ++ zeros 4 ++ pw m.en.pri 2 ++ ⟨#[255,255,255,255,255,255,255,255,255,255,255,255]⟩ ++ ⟨#[0,2,0,0]⟩ ++ Mt.encodeS m.ts ++ encodeX m.en.sp),msV (own14 m true),.bool ((Mt.rightE m.ts == 0) && (rightX m.en.sp == 0) && inB m.cmd 0 4 && inB m.en.pri 0 65535)])∧Below w.heap.size w w':=by
  obtain ⟨W1,hW1,s1,f0,f1,hY,HV⟩:=rb_set m w
  have HL:Hid (m.chk=true):=hl
  clear hl
  have HM:Hid (∀ X,Below w.heap.size w X→Calls Tryz.prog 41 #[.slice m.en.ta m.en.tl m.en.tc] X fun e w'=>e=.returned (.tuple #[.string (Mt.encodeS m.ts),.int .i64 (Mt.rightE m.ts)])∧Below X.heap.size X w'):=(show ∀ X,_ from fun X g=>by
    rw [mw.tl]
    exact Mt.rencode_any m.en.ta m.ts m.en.tc X (mw.t.below g) (by have:=mw.tn;omega) mu.t)
  have HX:Hid (∀ X,Below w.heap.size w X→Calls Tryz.prog 42 #[enV m.en] X fun e w'=>e=.returned (.tuple #[.string (encodeX m.en.sp),.int .i64 (rightX m.en.sp)])∧Below X.heap.size X w'):=(show ∀ X,_ from fun X g=>renc_any m.en X (mw.e.below g) mu.ap mu.wr mu.u)
  have HP1:Hid (∀ w,Calls Tryz.prog 21 #[.int .i64 m.en.tab,.int .i64 1] w fun e w'=>e=.returned (.string (pw m.en.tab 1))∧Below w.heap.size w w'):=(show ∀ w,_ from fun w=>r8put1 _ w)
  have z1:=pw_size m.en.tab 1
  have HP2:Hid (∀ w,Calls Tryz.prog 21 #[.int .i64 m.cmd,.int .i64 1] w fun e w'=>e=.returned (.string (pw m.cmd 1))∧Below w.heap.size w w'):=(show ∀ w,_ from fun w=>r8put1 _ w)
  have z2:=pw_size m.cmd 1
  have HP3:Hid (∀ w,Calls Tryz.prog 21 #[.int .i64 m.en.pri,.int .i64 2] w fun e w'=>e=.returned (.string (pw m.en.pri 2))∧Below w.heap.size w w'):=(show ∀ w,_ from fun w=>r8put2 _ w)
  have z3:=pw_size m.en.pri 2
  have HZ4:Hid (∀ w,Calls Tryz.prog 39 #[.int .i64 4] w fun e w'=>e=.returned (.string (zeros 4))∧Below w.heap.size w w'):=(show ∀ w,_ from fun w=>r8z4 w)
  have y4z:=zeros_size 4
  have HZ16:Hid (∀ w,Calls Tryz.prog 39 #[.int .i64 16] w fun e w'=>e=.returned (.string (zeros 16))∧Below w.heap.size w w'):=(show ∀ w,_ from fun w=>r8z16 w)
  have y16z:=zeros_size 16
  have HI0:Hid (∀ w,Calls Tryz.prog 20 #[.int .i64 m.cmd,.int .i64 0,.int .i64 4] w fun e w'=>e=.returned (.bool (inB m.cmd 0 4))∧w'=w):=(show ∀ w,_ from fun w=>r8in _ _ _ w)
  have HI1:Hid (∀ w,Calls Tryz.prog 20 #[.int .i64 m.en.pri,.int .i64 0,.int .i64 65535] w fun e w'=>e=.returned (.bool (inB m.en.pri 0 65535))∧w'=w):=(show ∀ w,_ from fun w=>r8in _ _ _ w)
  generalize pw m.en.tab 1=P1 at *
  generalize pw m.cmd 1=P2 at *
  generalize pw m.en.pri 2=P3 at *
  generalize zeros 4=Z4 at *
  generalize zeros 16=Z16 at *
  have zm:=menc_le m.ts
  have zx:=encodeX_le m.en.sp
  generalize Mt.encodeS m.ts=SM at *
  generalize encodeX m.en.sp=SX at *
  generalize Mt.rightE m.ts=E1 at *
  generalize rightX m.en.sp=E2 at *
  have e1:∀ w,(Op.stringOp .add Z16 P1).run Tryz.prog w=.ok (.string (Z16 ++ P1)) w:=cat _ _ 16 1 (by omega) (by omega) (by decide)
  have y1:=cat_sz Z16 P1 16 1 (by omega) (by omega)
  generalize Z16 ++ P1=S1 at *
  have e2:∀ w,(Op.stringOp .add S1 P2).run Tryz.prog w=.ok (.string (S1 ++ P2)) w:=cat _ _ 17 1 (by omega) (by omega) (by decide)
  have y2:=cat_sz S1 P2 17 1 (by omega) (by omega)
  generalize S1 ++ P2=S2 at *
  have e3:∀ w,(Op.stringOp .add S2 Z4).run Tryz.prog w=.ok (.string (S2 ++ Z4)) w:=cat _ _ 18 4 (by omega) (by omega) (by decide)
  have y3:=cat_sz S2 Z4 18 4 (by omega) (by omega)
  generalize S2 ++ Z4=S3 at *
  have e4:∀ w,(Op.stringOp .add S3 P3).run Tryz.prog w=.ok (.string (S3 ++ P3)) w:=cat _ _ 22 2 (by omega) (by omega) (by decide)
  have y4:=cat_sz S3 P3 22 2 (by omega) (by omega)
  generalize S3 ++ P3=S4 at *
  have e5:∀ w,(Op.stringOp .add S4 ⟨#[255,255,255,255,255,255,255,255,255,255,255,255]⟩).run Tryz.prog w=.ok (.string (S4 ++ ⟨#[255,255,255,255,255,255,255,255,255,255,255,255]⟩)) w:=cat _ _ 24 12 (by omega) (by exact Nat.le_refl _) (by decide)
  have y5:=cat_sz S4 ⟨#[255,255,255,255,255,255,255,255,255,255,255,255]⟩ 24 12 (by omega) (by exact Nat.le_refl _)
  generalize S4 ++ ⟨#[255,255,255,255,255,255,255,255,255,255,255,255]⟩=S5 at *
  have e6:∀ w,(Op.stringOp .add S5 ⟨#[0,2,0,0]⟩).run Tryz.prog w=.ok (.string (S5 ++ ⟨#[0,2,0,0]⟩)) w:=cat _ _ 36 4 (by omega) (by exact Nat.le_refl _) (by decide)
  have y6:=cat_sz S5 ⟨#[0,2,0,0]⟩ 36 4 (by omega) (by exact Nat.le_refl _)
  generalize S5 ++ ⟨#[0,2,0,0]⟩=S6 at *
  have e7:∀ w,(Op.stringOp .add S6 SM).run Tryz.prog w=.ok (.string (S6 ++ SM)) w:=cat _ _ 40 200 (by omega) (by omega) (by decide)
  have y7:=cat_sz S6 SM 40 200 (by omega) (by omega)
  generalize S6 ++ SM=S7 at *
  have e8:∀ w,(Op.stringOp .add S7 SX).run Tryz.prog w=.ok (.string (S7 ++ SX)) w:=cat _ _ 240 6048 (by omega) (by omega) (by decide)
  have y8:=cat_sz S7 SX 240 6048 (by omega) (by omega)
  generalize S7 ++ SX=S8 at *
  clear z1 z2 z3 y4z y16z zm zx y1 y2 y3 y4 y5 y6 y7 y8 mw mu
  rcases (show (E1 == 0)=false∨((E1 == 0)=true∧(E2 == 0)=false)∨((E1 == 0)=true∧(E2 == 0)=true∧inB m.cmd 0 4=false)∨((E1 == 0)=true∧(E2 == 0)=true∧inB m.cmd 0 4=true) by cases (E1 == 0) <;> cases (E2 == 0) <;> cases inB m.cmd 0 4 <;> simp) with q0 | ⟨q0,q1⟩ | ⟨q0,q1,q2⟩ | ⟨q0,q1,q2⟩
  all_goals
    try rw [q0]
    try rw [q1]
    try rw [q2] at HI0 ⊢
    simp only [Bool.true_and,Bool.false_and,Bool.and_false]
    try clear q2
    go_enter Tryz.func19,Tryz.ntmps19
    go_wp2_with (first | (refine build_R rfl (.tmp 24) (.tmp 26) rfl m.kind m.xid rfl rfl ?_) | (refine store_R rfl (.tmp 5) (.tmp 27) rfl (w.heap.size + 2) (own0 m) rfl rfl hY ?_;intro V bV tV oV;obtain ⟨U0,U1,E0,E1,⟨a0_0,a0_1,a0_2,a0_3⟩,⟨a1_0,a1_1,a1_2⟩,R⟩:=start14a true HL.out (HV.out V bV tV oV);have hE4:=R.e4;have hT4:=R.t4;clear bV tV oV HV hY hW1 f0 f1 s1) | (refine load_E rfl (.tmp 164) rfl w.heap.size 4 m.en rfl hE4 ?_) | (refine store_E rfl (.tmp 166) (.tmp 165) rfl (w.heap.size + 2) 4 m.en rfl rfl hT4 ?_;intro U2 hU2;have R2:=R.ent hU2;have hE5:=R2.e4;clear hU2) | (refine load_E rfl (.tmp 167) rfl w.heap.size 4 m.en rfl hE5 ?_) | (refine store_E rfl (.tmp 9) (.tmp 168) rfl U2.heap.size 0 m.en rfl rfl (there_new _ _ _) ?_;intro XE hXE;obtain ⟨RE,BE,zE,zU⟩:=R2.entX hXE;have t2:=range_at BE 2 _ rfl;clear hXE))
    clear E0 E1 a0_0 a0_1 a0_2 a0_3 a1_0 a1_1 a1_2 hE4 hT4 hE5 R R2 t2
    refine (HM.out _ RE.g).mono ?_
    rintro x w1 ⟨rfl,g1⟩
    have R1:=RE.grow g1
    have BE1:=range_block BE (g1.block _ zE)
    have zE1:=Nat.lt_of_lt_of_le zE g1.size
    clear RE BE zE g1
    go_wp2_with (refine load_E rfl (.tmp 9) rfl U2.heap.size 0 m.en rfl BE1 ?_)
    refine (HX.out _ R1.g).mono ?_
    rintro x w2 ⟨rfl,g2⟩
    have R2:=R1.grow g2
    have BE2:=range_block BE1 (g2.block _ zE1)
    have zE2:=Nat.lt_of_lt_of_le zE1 g2.size
    clear R1 BE1 zE1 g2
    go_wp2_with fail
    refine (HZ4.out _).mono ?_
    rintro x w3 ⟨rfl,g3⟩
    have R3:=R2.grow g3
    have BE3:=range_block BE2 (g3.block _ zE2)
    have zE3:=Nat.lt_of_lt_of_le zE2 g3.size
    have r3:=R3.m 3 (.bool true) (by rw [← HL.out];rfl)
    clear R2 BE2 zE2 g3
    have hd:∀ n:GhT w3 (w.heap.size + 1),n.w.cell? ⟨U2.heap.size,0,none⟩=some (.int .i64 m.en.tab)∧n.w.cell? ⟨U2.heap.size,1,none⟩=some (.int .i64 m.en.pri):=fun n=>by
      have q:=range_block BE3 (n.h.block _ zE3 (by omega))
      exact ⟨range_at q 0 _ rfl,range_at q 1 _ rfl⟩
    go_wp2_with fail
    clear r3 BE3 zE3 zU
    have hc:∀ n:GhT w3 (w.heap.size + 1),n.w.cell? ⟨w.heap.size,2,none⟩=some (.int .i64 m.cmd):=fun n=>R3.gm 2 _ rfl n
    have HO:Hid (∀ u,(∃ n:GhT w3 (w.heap.size + 1),u=n.w)→Bm u (w.heap.size + 2) (own14 m true)):=(show ∀ u,_ from R3.holes)
    have HBU:Hid (w.heap.size + 1 < w3.heap.size):=(show _ < _ by have:=R3.z;omega)
    refine wp_region_R [_,_,_,_,_,_,_,_,_,_,_,_,_,_,_,_,_,_,_,_,_,_,_,_,_,_,_,_,_,_,_,_,_,_,_,_,_,_,_,_,_] [_] _ 23 3 206 5 (w.heap.size + 1) (w.heap.size + 2) (own14 m true) _ (by kernel_rfl) (by kernel_rfl) (by kernel_rfl) rfl rfl rfl (by decide) rfl rfl (by kernel_rfl) rfl rfl rfl rfl (show 206 < 349 by decide) R3.t1 R3.b2 (by have:=R3.z;omega) (by omega) ?_
    dsimp only [List.cons_append,List.nil_append,repOp]
    repeat (first
      | (go_big_quiet_want;refine quiet_R (.tmp 5) rfl (w.heap.size + 2) (own14 m true) rfl HO.out ?_;go_big_quiet_on;simp only [Act.put,List.setIfInBounds_toArray,List.set_cons_succ,List.set_cons_zero])
      | go_big_quiet_step (first | (go_at_call_of 21 (Value.int IntKind.i64 m.en.tab);exact quiet_gh HBU.out (HP1.out _)) | (go_at_call_of 21 (Value.int IntKind.i64 m.cmd);exact quiet_gh HBU.out (HP2.out _)) | (go_at_call_of 21 (Value.int IntKind.i64 m.en.pri);exact quiet_gh HBU.out (HP3.out _)) | (go_at_call_of 39 (Value.int IntKind.i64 4);exact quiet_gh HBU.out (HZ4.out _)) | (go_at_call_of 39 (Value.int IntKind.i64 16);exact quiet_gh HBU.out (HZ16.out _)) | (go_at_call_of 20 (Value.int IntKind.i64 m.cmd);exact quiet_ghs (HI0.out _)) | (go_at_call_of 20 (Value.int IntKind.i64 m.en.pri);exact quiet_ghs (HI1.out _))))
    refine wpQuiet_nil ?_
    intro w' hw'
    obtain ⟨B,H⟩:=gh_end (own14 m true) R3.t1 hw'
    generalize sM w' (w.heap.size + 1) (own14 m true)=V2 at *
    have HE:Hid (Below w.heap.size w V2):=(show Below _ _ _ from R3.done H)
    clear hw' HO HBU H R3 hc hd
    go_wp2_with fail
    refine bodyPost_ret (resSMb (b:=w.heap.size + 1) (m:=own14 m true) rfl rfl B) rfl ?_
    exact ⟨rfl,HE.out⟩
end Go.Proofs.YtlcbfdiohcbpbaaGreatDoor

import Derived.Test.YtlcbfdiohcbpbaaGreatDoorRSeemP
namespace Go.Proofs.YtlcbfdiohcbpbaaGreatDoor
set_option maxRecDepth 20000
set_option maxHeartbeats 16000000
open Go.ChangeShapes Go.WideShapes Go.ChangeAt Go.RowKit
set_option linter.unusedVariables false
set_option linter.unusedSimpArgs false
theorem se_n (d:ByteArray) (w:World) (hd:8≤d.size) (hs:d.size≤65535) (k1:(numB d 1 1 == 1)=false) (k2:(numB d 1 1 == 2)=false) (k3:(numB d 1 1 == 3)=false) (k12:(numB d 1 1 == 12)=false) (k13:(numB d 1 1 == 13)=false) (k14:(numB d 1 1 == 14)=false) (k15:(numB d 1 1 == 15)=false) (k29:(numB d 1 1 == 29)=false):Calls Tryz.prog 25 #[.string d] w (SeM d w):=by
 have HM:Hid (seM d=msg0 (numB d 1 1) (numB d 4 4)):=(show _=_ by
  simp only [beq_iff_eq,beq_eq_false_iff_ne] at *
  unfold seM
  simp [*])
 have hS0:d.size≤100000:=by omega
 have hSz:(sB d).size≤65535:=by unfold sB;rw [ByteArray.size_extract];omega
 have hS:(sB d).size≤100000:=by omega
 have hsl:∀ w,(Instr.slice 9 (.string d) (some (.int .i64 8)) none none).run Tryz.prog w=.ok (.string (sB d)) w:=fun w=>slice_l d 8 (by omega) (by omega) w
 obtain ⟨W0,hW0⟩:∃ W0,rx w ms0=W0:=⟨_,rfl⟩
 have t0:W0.there w.heap.size 0 26:=hW0 ▸ there_new w (msC ms0) 42
 have s0:w.heap.size < W0.heap.size:=by rw [← hW0];simp
 have g0:Below w.heap.size w W0:=by rw [← hW0];go_grown
 have HW0:Hid (w.alloc (.cells #[.int .i64 0,.int .i64 0,.int .i64 0,.bool false,.int .i64 0,.int .i64 0,.slice none 0 0,.slice none 0 0,.slice none 0 0,.bool false,.int .u64 0,.int .u64 0,.int .i64 0,.int .i64 0,.int .i64 0,.int .i64 0,.slice none 0 0,.int .i64 0,.int .i64 0,.int .i64 0,.int .i64 0,.int .i64 0,.int .i64 0,.bool false,.slice none 0 0,.string ⟨#[]⟩] 42)=W0):=hW0
 have HA1:Hid (Calls Tryz.prog 24 #[.string d,.int .i64 1,.int .i64 1] W0 fun e w'=>e=.returned (.int .i64 (numB d 1 1))∧Below W0.heap.size W0 w'):=(show Calls _ _ _ _ _ from r8num d 1 1 W0 hS0 (by omega) (by omega))
 have HA2:Hid (∀ w,Calls Tryz.prog 24 #[.string d,.int .i64 4,.int .i64 4] w fun e w'=>e=.returned (.int .i64 (numB d 4 4))∧Below w.heap.size w w'):=(show ∀ w,_ from fun w=>r8num d 4 4 w hS0 (by omega) (by omega))
 clear hW0 hS0
 generalize numB d 1 1=K at *
 generalize numB d 4 4=X at *
 generalize sB d=S at *
 go_enter Tryz.func25,Tryz.ntmps25
 go_wp2_with fail
 rw [HW0.out]
 refine HA1.out.mono ?_
 rintro x w1 ⟨rfl,g1⟩
 go_wp2_with fail
 refine (HA2.out _).mono ?_
 rintro x w2 ⟨rfl,g2⟩
 have g12:=btr g1 g2 (Nat.le_refl _)
 have t2:=there_block t0 (g12.block _ s0)
 have z2:=Nat.lt_of_lt_of_le s0 g12.size
 have G2:=btr g0 g12 (Nat.le_refl _)
 have hY:(w2.alloc (.cells (msC ms0) 42)).there w2.heap.size 0 26:=there_new w2 (msC ms0) 42
 have HV:Hid (∀ V,Bm V w2.heap.size ({ ms0 with kind:=K,xid:=X }:Ms)→V.there w2.heap.size 0 26→Only w2.heap.size (w2.alloc (.cells (msC ms0) 42)) V→SQ w w2.heap.size ({ ms0 with kind:=K,xid:=X }:Ms) V):=(show ∀ V,_ from fun V b t o=>SQ.start t2 z2 G2 b t o)
 clear g1 g2 g12 t2 z2 G2 t0 s0 g0 HA2
 go_wp2_with (first | (refine build_R rfl (.tmp 12) (.tmp 14) rfl K X rfl rfl ?_) | (refine store_R rfl (.tmp 3) (.tmp 15) rfl w2.heap.size ({ ms0 with kind:=K,xid:=X }:Ms) rfl rfl hY ?_;intro V bV tV oV;have Q:=HV.out V bV tV oV;have r0:=Q.o 0 _ rfl;clear bV tV oV HV hY) | (refine load_R rfl (.tmp 3) rfl w2.heap.size ({ ms0 with kind:=K,xid:=X }:Ms) rfl Q.bm ?_) | (refine store_R rfl (.tmp 2) (.tmp 133) rfl w.heap.size ({ ms0 with kind:=K,xid:=X }:Ms) rfl rfl Q.t0 ?_;intro VF bF tF oF))
 have HK:((∀ V',Keeps w.heap.size VF V'→MW V' ({ ms0 with kind:=K,xid:=X }:Ms))∧MU ({ ms0 with kind:=K,xid:=X }:Ms))∧Below w.heap.size w VF:=⟨kp2 (fun V' kV=>mwu V' rfl rfl rfl rfl rfl rfl (show (0:Nat)≤100000 by decide)),oF.belowK (Nat.le_refl _) Q.g⟩
 obtain ⟨⟨mw,mu⟩,gF⟩:=HK
 refine bodyPost_ret (resR (b:=w.heap.size) (m:=({ ms0 with kind:=K,xid:=X }:Ms)) rfl rfl bF) rfl ?_
 exact ⟨({ ms0 with kind:=K,xid:=X }:Ms),rfl,(show _=_ by rw [HM.out];rfl),mw,mu,gF⟩
theorem se_1 (d:ByteArray) (w:World) (hd:8≤d.size) (hs:d.size≤65535)  (k1:(numB d 1 1 == 1)=true):Calls Tryz.prog 25 #[.string d] w (SeM d w):=by
 have HM:Hid (seM d={ msg0 (numB d 1 1) (numB d 4 4) with typ:=numB (sB d) 0 2,cod:=numB (sB d) 2 2,dat:=(sB d).extract 4 (sB d).size }):=(show _=_ by
  simp only [beq_iff_eq,beq_eq_false_iff_ne] at *
  unfold seM
  simp [*])
 have hS0:d.size≤100000:=by omega
 have hSz:(sB d).size≤65535:=by unfold sB;rw [ByteArray.size_extract];omega
 have hS:(sB d).size≤100000:=by omega
 have hsl:∀ w,(Instr.slice 9 (.string d) (some (.int .i64 8)) none none).run Tryz.prog w=.ok (.string (sB d)) w:=fun w=>slice_l d 8 (by omega) (by omega) w
 obtain ⟨W0,hW0⟩:∃ W0,rx w ms0=W0:=⟨_,rfl⟩
 have t0:W0.there w.heap.size 0 26:=hW0 ▸ there_new w (msC ms0) 42
 have s0:w.heap.size < W0.heap.size:=by rw [← hW0];simp
 have g0:Below w.heap.size w W0:=by rw [← hW0];go_grown
 have HW0:Hid (w.alloc (.cells #[.int .i64 0,.int .i64 0,.int .i64 0,.bool false,.int .i64 0,.int .i64 0,.slice none 0 0,.slice none 0 0,.slice none 0 0,.bool false,.int .u64 0,.int .u64 0,.int .i64 0,.int .i64 0,.int .i64 0,.int .i64 0,.slice none 0 0,.int .i64 0,.int .i64 0,.int .i64 0,.int .i64 0,.int .i64 0,.int .i64 0,.bool false,.slice none 0 0,.string ⟨#[]⟩] 42)=W0):=hW0
 have HA1:Hid (Calls Tryz.prog 24 #[.string d,.int .i64 1,.int .i64 1] W0 fun e w'=>e=.returned (.int .i64 (numB d 1 1))∧Below W0.heap.size W0 w'):=(show Calls _ _ _ _ _ from r8num d 1 1 W0 hS0 (by omega) (by omega))
 have HA2:Hid (∀ w,Calls Tryz.prog 24 #[.string d,.int .i64 4,.int .i64 4] w fun e w'=>e=.returned (.int .i64 (numB d 4 4))∧Below w.heap.size w w'):=(show ∀ w,_ from fun w=>r8num d 4 4 w hS0 (by omega) (by omega))
 have HN0_2:Hid (∀ w,Calls Tryz.prog 24 #[.string (sB d),.int .i64 0,.int .i64 2] w fun e w'=>e=.returned (.int .i64 (numB (sB d) 0 2))∧Below w.heap.size w w'):=(show ∀ w,_ from fun w=>r8num (sB d) 0 2 w hS (by omega) (by omega))
 have HN2_2:Hid (∀ w,Calls Tryz.prog 24 #[.string (sB d),.int .i64 2,.int .i64 2] w fun e w'=>e=.returned (.int .i64 (numB (sB d) 2 2))∧Below w.heap.size w w'):=(show ∀ w,_ from fun w=>r8num (sB d) 2 2 w hS (by omega) (by omega))
 have HB4:Hid (∀ w,Calls Tryz.prog 57 #[.string (sB d),.int .i64 4] w fun e w'=>e=.returned (.string ((sB d).extract 4 (sB d).size))∧w'=w):=(show ∀ w,_ from fun w=>r8behind (sB d) 4 w (by omega))
 have hD:((sB d).extract 4 (sB d).size).size≤100000:=by rw [ByteArray.size_extract];omega
 clear hW0 hS0
 generalize numB d 1 1=K at *
 generalize numB d 4 4=X at *
 generalize numB (sB d) 0 2=N1 at *
 generalize numB (sB d) 2 2=N2 at *
 generalize (sB d).extract 4 (sB d).size=DT at *
 generalize sB d=S at *
 go_enter Tryz.func25,Tryz.ntmps25
 go_wp2_with fail
 rw [HW0.out]
 refine HA1.out.mono ?_
 rintro x w1 ⟨rfl,g1⟩
 go_wp2_with fail
 refine (HA2.out _).mono ?_
 rintro x w2 ⟨rfl,g2⟩
 have g12:=btr g1 g2 (Nat.le_refl _)
 have t2:=there_block t0 (g12.block _ s0)
 have z2:=Nat.lt_of_lt_of_le s0 g12.size
 have G2:=btr g0 g12 (Nat.le_refl _)
 have hY:(w2.alloc (.cells (msC ms0) 42)).there w2.heap.size 0 26:=there_new w2 (msC ms0) 42
 have HV:Hid (∀ V,Bm V w2.heap.size ({ ms0 with kind:=K,xid:=X }:Ms)→V.there w2.heap.size 0 26→Only w2.heap.size (w2.alloc (.cells (msC ms0) 42)) V→SQ w w2.heap.size ({ ms0 with kind:=K,xid:=X }:Ms) V):=(show ∀ V,_ from fun V b t o=>SQ.start t2 z2 G2 b t o)
 clear g1 g2 g12 t2 z2 G2 t0 s0 g0 HA2
 go_wp2_with (first | (refine build_R rfl (.tmp 12) (.tmp 14) rfl K X rfl rfl ?_) | (refine store_R rfl (.tmp 3) (.tmp 15) rfl w2.heap.size ({ ms0 with kind:=K,xid:=X }:Ms) rfl rfl hY ?_;intro V bV tV oV;have Q:=HV.out V bV tV oV;have r0:=Q.o 0 _ rfl;clear bV tV oV HV hY))
 refine (HN0_2.out _).mono ?_
 rintro x u1 ⟨rfl,gu1⟩
 have Q1:=Q.grow gu1
 have pu2:=Q1.o 20 _ rfl
 have fu2:=Q1.f 20 (by decide)
 have Q2:=Q1.one 20 (.int .i64 N1) ({ ms0 with kind:=K,xid:=X,typ:=N1 }:Ms) (by decide) rfl
 obtain ⟨u2,hu2⟩:∃ U,u1.setCell ⟨w2.heap.size,20,none⟩ (.int .i64 N1)=U:=⟨_,rfl⟩
 rw [hu2] at Q2
 go_wp2_with fail
 refine (HN2_2.out _).mono ?_
 rintro x u3 ⟨rfl,gu3⟩
 have Q3:=Q2.grow gu3
 have pu4:=Q3.o 21 _ rfl
 have fu4:=Q3.f 21 (by decide)
 have Q4:=Q3.one 21 (.int .i64 N2) ({ ms0 with kind:=K,xid:=X,typ:=N1,cod:=N2 }:Ms) (by decide) rfl
 obtain ⟨u4,hu4⟩:∃ U,u3.setCell ⟨w2.heap.size,21,none⟩ (.int .i64 N2)=U:=⟨_,rfl⟩
 rw [hu4] at Q4
 go_wp2_with fail
 refine (HB4.out _).mono ?_
 rintro x ub ⟨rfl,zb⟩
 obtain rfl:u4=ub:=zb.symm
 have pu5:=Q4.o 25 _ rfl
 have fu5:=Q4.f 25 (by decide)
 have Q5:=Q4.one 25 (.string DT) ({ ms0 with kind:=K,xid:=X,typ:=N1,cod:=N2,dat:=DT }:Ms) (by decide) rfl
 obtain ⟨u5,hu5⟩:∃ U,u4.setCell ⟨w2.heap.size,25,none⟩ (.string DT)=U:=⟨_,rfl⟩
 rw [hu5] at Q5
 have B9:=Q5.bm
 have T9:=Q5.t0
 have HK:Hid (∀ VF,Only w.heap.size u5 VF→((∀ V',Keeps w.heap.size VF V'→MW V' ({ ms0 with kind:=K,xid:=X,typ:=N1,cod:=N2,dat:=DT }:Ms))∧MU ({ ms0 with kind:=K,xid:=X,typ:=N1,cod:=N2,dat:=DT }:Ms))∧Below w.heap.size w VF):=(show ∀ VF,_ from fun VF oF=>⟨kp2 (fun V' kV=>mwu V' rfl rfl rfl rfl rfl rfl hD),oF.belowK (Nat.le_refl _) Q5.g⟩)
 go_wp2_with (first | (refine load_R rfl (.tmp 3) rfl w2.heap.size ({ ms0 with kind:=K,xid:=X,typ:=N1,cod:=N2,dat:=DT }:Ms) rfl B9 ?_) | (refine store_R rfl (.tmp 2) (.tmp 133) rfl w.heap.size ({ ms0 with kind:=K,xid:=X,typ:=N1,cod:=N2,dat:=DT }:Ms) rfl rfl T9 ?_;intro VF bF tF oF))
 obtain ⟨⟨mw,mu⟩,gF⟩:=HK.out VF oF
 refine bodyPost_ret (resR (b:=w.heap.size) (m:=({ ms0 with kind:=K,xid:=X,typ:=N1,cod:=N2,dat:=DT }:Ms)) rfl rfl bF) rfl ?_
 exact ⟨({ ms0 with kind:=K,xid:=X,typ:=N1,cod:=N2,dat:=DT }:Ms),rfl,(show _=_ by rw [HM.out];rfl),mw,mu,gF⟩
theorem se_2 (d:ByteArray) (w:World) (hd:8≤d.size) (hs:d.size≤65535) (k1:(numB d 1 1 == 1)=false) (k2:(numB d 1 1 == 2)=true):Calls Tryz.prog 25 #[.string d] w (SeM d w):=by
 have HM:Hid (seM d={ msg0 (numB d 1 1) (numB d 4 4) with dat:=sB d }):=(show _=_ by
  simp only [beq_iff_eq,beq_eq_false_iff_ne] at *
  unfold seM
  simp [*])
 have hS0:d.size≤100000:=by omega
 have hSz:(sB d).size≤65535:=by unfold sB;rw [ByteArray.size_extract];omega
 have hS:(sB d).size≤100000:=by omega
 have hsl:∀ w,(Instr.slice 9 (.string d) (some (.int .i64 8)) none none).run Tryz.prog w=.ok (.string (sB d)) w:=fun w=>slice_l d 8 (by omega) (by omega) w
 obtain ⟨W0,hW0⟩:∃ W0,rx w ms0=W0:=⟨_,rfl⟩
 have t0:W0.there w.heap.size 0 26:=hW0 ▸ there_new w (msC ms0) 42
 have s0:w.heap.size < W0.heap.size:=by rw [← hW0];simp
 have g0:Below w.heap.size w W0:=by rw [← hW0];go_grown
 have HW0:Hid (w.alloc (.cells #[.int .i64 0,.int .i64 0,.int .i64 0,.bool false,.int .i64 0,.int .i64 0,.slice none 0 0,.slice none 0 0,.slice none 0 0,.bool false,.int .u64 0,.int .u64 0,.int .i64 0,.int .i64 0,.int .i64 0,.int .i64 0,.slice none 0 0,.int .i64 0,.int .i64 0,.int .i64 0,.int .i64 0,.int .i64 0,.int .i64 0,.bool false,.slice none 0 0,.string ⟨#[]⟩] 42)=W0):=hW0
 have HA1:Hid (Calls Tryz.prog 24 #[.string d,.int .i64 1,.int .i64 1] W0 fun e w'=>e=.returned (.int .i64 (numB d 1 1))∧Below W0.heap.size W0 w'):=(show Calls _ _ _ _ _ from r8num d 1 1 W0 hS0 (by omega) (by omega))
 have HA2:Hid (∀ w,Calls Tryz.prog 24 #[.string d,.int .i64 4,.int .i64 4] w fun e w'=>e=.returned (.int .i64 (numB d 4 4))∧Below w.heap.size w w'):=(show ∀ w,_ from fun w=>r8num d 4 4 w hS0 (by omega) (by omega))
 clear hW0 hS0
 generalize numB d 1 1=K at *
 generalize numB d 4 4=X at *
 generalize sB d=S at *
 go_enter Tryz.func25,Tryz.ntmps25
 go_wp2_with fail
 rw [HW0.out]
 refine HA1.out.mono ?_
 rintro x w1 ⟨rfl,g1⟩
 go_wp2_with fail
 refine (HA2.out _).mono ?_
 rintro x w2 ⟨rfl,g2⟩
 have g12:=btr g1 g2 (Nat.le_refl _)
 have t2:=there_block t0 (g12.block _ s0)
 have z2:=Nat.lt_of_lt_of_le s0 g12.size
 have G2:=btr g0 g12 (Nat.le_refl _)
 have hY:(w2.alloc (.cells (msC ms0) 42)).there w2.heap.size 0 26:=there_new w2 (msC ms0) 42
 have HV:Hid (∀ V,Bm V w2.heap.size ({ ms0 with kind:=K,xid:=X }:Ms)→V.there w2.heap.size 0 26→Only w2.heap.size (w2.alloc (.cells (msC ms0) 42)) V→SQ w w2.heap.size ({ ms0 with kind:=K,xid:=X }:Ms) V):=(show ∀ V,_ from fun V b t o=>SQ.start t2 z2 G2 b t o)
 clear g1 g2 g12 t2 z2 G2 t0 s0 g0 HA2
 go_wp2_with (first | (refine build_R rfl (.tmp 12) (.tmp 14) rfl K X rfl rfl ?_) | (refine store_R rfl (.tmp 3) (.tmp 15) rfl w2.heap.size ({ ms0 with kind:=K,xid:=X }:Ms) rfl rfl hY ?_;intro V bV tV oV;have Q:=HV.out V bV tV oV;have r0:=Q.o 0 _ rfl;have pu1:=Q.o 25 _ rfl;have fu1:=Q.f 25 (by decide);have Q1:=Q.one 25 (.string S) ({ ms0 with kind:=K,xid:=X,dat:=S }:Ms) (by decide) rfl;obtain ⟨u1,hu1⟩:∃ U,V.setCell ⟨w2.heap.size,25,none⟩ (.string S)=U:=⟨_,rfl⟩;rw [hu1] at Q1;have B9:=Q1.bm;have T9:=Q1.t0;clear bV tV oV HV hY) | (refine load_R rfl (.tmp 3) rfl w2.heap.size ({ ms0 with kind:=K,xid:=X,dat:=S }:Ms) rfl B9 ?_) | (refine store_R rfl (.tmp 2) (.tmp 133) rfl w.heap.size ({ ms0 with kind:=K,xid:=X,dat:=S }:Ms) rfl rfl T9 ?_;intro VF bF tF oF))
 have HK:((∀ V',Keeps w.heap.size VF V'→MW V' ({ ms0 with kind:=K,xid:=X,dat:=S }:Ms))∧MU ({ ms0 with kind:=K,xid:=X,dat:=S }:Ms))∧Below w.heap.size w VF:=⟨kp2 (fun V' kV=>mwu V' rfl rfl rfl rfl rfl rfl hS),oF.belowK (Nat.le_refl _) Q1.g⟩
 obtain ⟨⟨mw,mu⟩,gF⟩:=HK
 refine bodyPost_ret (resR (b:=w.heap.size) (m:=({ ms0 with kind:=K,xid:=X,dat:=S }:Ms)) rfl rfl bF) rfl ?_
 exact ⟨({ ms0 with kind:=K,xid:=X,dat:=S }:Ms),rfl,(show _=_ by rw [HM.out];rfl),mw,mu,gF⟩
theorem se_3 (d:ByteArray) (w:World) (hd:8≤d.size) (hs:d.size≤65535) (k1:(numB d 1 1 == 1)=false) (k2:(numB d 1 1 == 2)=false) (k3:(numB d 1 1 == 3)=true):Calls Tryz.prog 25 #[.string d] w (SeM d w):=by
 have HM:Hid (seM d={ msg0 (numB d 1 1) (numB d 4 4) with dat:=sB d }):=(show _=_ by
  simp only [beq_iff_eq,beq_eq_false_iff_ne] at *
  unfold seM
  simp [*])
 have hS0:d.size≤100000:=by omega
 have hSz:(sB d).size≤65535:=by unfold sB;rw [ByteArray.size_extract];omega
 have hS:(sB d).size≤100000:=by omega
 have hsl:∀ w,(Instr.slice 9 (.string d) (some (.int .i64 8)) none none).run Tryz.prog w=.ok (.string (sB d)) w:=fun w=>slice_l d 8 (by omega) (by omega) w
 obtain ⟨W0,hW0⟩:∃ W0,rx w ms0=W0:=⟨_,rfl⟩
 have t0:W0.there w.heap.size 0 26:=hW0 ▸ there_new w (msC ms0) 42
 have s0:w.heap.size < W0.heap.size:=by rw [← hW0];simp
 have g0:Below w.heap.size w W0:=by rw [← hW0];go_grown
 have HW0:Hid (w.alloc (.cells #[.int .i64 0,.int .i64 0,.int .i64 0,.bool false,.int .i64 0,.int .i64 0,.slice none 0 0,.slice none 0 0,.slice none 0 0,.bool false,.int .u64 0,.int .u64 0,.int .i64 0,.int .i64 0,.int .i64 0,.int .i64 0,.slice none 0 0,.int .i64 0,.int .i64 0,.int .i64 0,.int .i64 0,.int .i64 0,.int .i64 0,.bool false,.slice none 0 0,.string ⟨#[]⟩] 42)=W0):=hW0
 have HA1:Hid (Calls Tryz.prog 24 #[.string d,.int .i64 1,.int .i64 1] W0 fun e w'=>e=.returned (.int .i64 (numB d 1 1))∧Below W0.heap.size W0 w'):=(show Calls _ _ _ _ _ from r8num d 1 1 W0 hS0 (by omega) (by omega))
 have HA2:Hid (∀ w,Calls Tryz.prog 24 #[.string d,.int .i64 4,.int .i64 4] w fun e w'=>e=.returned (.int .i64 (numB d 4 4))∧Below w.heap.size w w'):=(show ∀ w,_ from fun w=>r8num d 4 4 w hS0 (by omega) (by omega))
 clear hW0 hS0
 generalize numB d 1 1=K at *
 generalize numB d 4 4=X at *
 generalize sB d=S at *
 go_enter Tryz.func25,Tryz.ntmps25
 go_wp2_with fail
 rw [HW0.out]
 refine HA1.out.mono ?_
 rintro x w1 ⟨rfl,g1⟩
 go_wp2_with fail
 refine (HA2.out _).mono ?_
 rintro x w2 ⟨rfl,g2⟩
 have g12:=btr g1 g2 (Nat.le_refl _)
 have t2:=there_block t0 (g12.block _ s0)
 have z2:=Nat.lt_of_lt_of_le s0 g12.size
 have G2:=btr g0 g12 (Nat.le_refl _)
 have hY:(w2.alloc (.cells (msC ms0) 42)).there w2.heap.size 0 26:=there_new w2 (msC ms0) 42
 have HV:Hid (∀ V,Bm V w2.heap.size ({ ms0 with kind:=K,xid:=X }:Ms)→V.there w2.heap.size 0 26→Only w2.heap.size (w2.alloc (.cells (msC ms0) 42)) V→SQ w w2.heap.size ({ ms0 with kind:=K,xid:=X }:Ms) V):=(show ∀ V,_ from fun V b t o=>SQ.start t2 z2 G2 b t o)
 clear g1 g2 g12 t2 z2 G2 t0 s0 g0 HA2
 go_wp2_with (first | (refine build_R rfl (.tmp 12) (.tmp 14) rfl K X rfl rfl ?_) | (refine store_R rfl (.tmp 3) (.tmp 15) rfl w2.heap.size ({ ms0 with kind:=K,xid:=X }:Ms) rfl rfl hY ?_;intro V bV tV oV;have Q:=HV.out V bV tV oV;have r0:=Q.o 0 _ rfl;have pu1:=Q.o 25 _ rfl;have fu1:=Q.f 25 (by decide);have Q1:=Q.one 25 (.string S) ({ ms0 with kind:=K,xid:=X,dat:=S }:Ms) (by decide) rfl;obtain ⟨u1,hu1⟩:∃ U,V.setCell ⟨w2.heap.size,25,none⟩ (.string S)=U:=⟨_,rfl⟩;rw [hu1] at Q1;have B9:=Q1.bm;have T9:=Q1.t0;clear bV tV oV HV hY) | (refine load_R rfl (.tmp 3) rfl w2.heap.size ({ ms0 with kind:=K,xid:=X,dat:=S }:Ms) rfl B9 ?_) | (refine store_R rfl (.tmp 2) (.tmp 133) rfl w.heap.size ({ ms0 with kind:=K,xid:=X,dat:=S }:Ms) rfl rfl T9 ?_;intro VF bF tF oF))
 have HK:((∀ V',Keeps w.heap.size VF V'→MW V' ({ ms0 with kind:=K,xid:=X,dat:=S }:Ms))∧MU ({ ms0 with kind:=K,xid:=X,dat:=S }:Ms))∧Below w.heap.size w VF:=⟨kp2 (fun V' kV=>mwu V' rfl rfl rfl rfl rfl rfl hS),oF.belowK (Nat.le_refl _) Q1.g⟩
 obtain ⟨⟨mw,mu⟩,gF⟩:=HK
 refine bodyPost_ret (resR (b:=w.heap.size) (m:=({ ms0 with kind:=K,xid:=X,dat:=S }:Ms)) rfl rfl bF) rfl ?_
 exact ⟨({ ms0 with kind:=K,xid:=X,dat:=S }:Ms),rfl,(show _=_ by rw [HM.out];rfl),mw,mu,gF⟩
theorem se_12 (d:ByteArray) (w:World) (hd:8≤d.size) (hs:d.size≤65535) (k1:(numB d 1 1 == 1)=false) (k2:(numB d 1 1 == 2)=false) (k3:(numB d 1 1 == 3)=false) (k12:(numB d 1 1 == 12)=true):Calls Tryz.prog 25 #[.string d] w (SeM d w):=by
 have HM:Hid (seM d={ msg0 (numB d 1 1) (numB d 4 4) with prt:=numB (sB d) 8 4,live:=(numB (sB d) 44 4 == 0) }):=(show _=_ by
  simp only [beq_iff_eq,beq_eq_false_iff_ne] at *
  unfold seM
  simp [*])
 have hS0:d.size≤100000:=by omega
 have hSz:(sB d).size≤65535:=by unfold sB;rw [ByteArray.size_extract];omega
 have hS:(sB d).size≤100000:=by omega
 have hsl:∀ w,(Instr.slice 9 (.string d) (some (.int .i64 8)) none none).run Tryz.prog w=.ok (.string (sB d)) w:=fun w=>slice_l d 8 (by omega) (by omega) w
 obtain ⟨W0,hW0⟩:∃ W0,rx w ms0=W0:=⟨_,rfl⟩
 have t0:W0.there w.heap.size 0 26:=hW0 ▸ there_new w (msC ms0) 42
 have s0:w.heap.size < W0.heap.size:=by rw [← hW0];simp
 have g0:Below w.heap.size w W0:=by rw [← hW0];go_grown
 have HW0:Hid (w.alloc (.cells #[.int .i64 0,.int .i64 0,.int .i64 0,.bool false,.int .i64 0,.int .i64 0,.slice none 0 0,.slice none 0 0,.slice none 0 0,.bool false,.int .u64 0,.int .u64 0,.int .i64 0,.int .i64 0,.int .i64 0,.int .i64 0,.slice none 0 0,.int .i64 0,.int .i64 0,.int .i64 0,.int .i64 0,.int .i64 0,.int .i64 0,.bool false,.slice none 0 0,.string ⟨#[]⟩] 42)=W0):=hW0
 have HA1:Hid (Calls Tryz.prog 24 #[.string d,.int .i64 1,.int .i64 1] W0 fun e w'=>e=.returned (.int .i64 (numB d 1 1))∧Below W0.heap.size W0 w'):=(show Calls _ _ _ _ _ from r8num d 1 1 W0 hS0 (by omega) (by omega))
 have HA2:Hid (∀ w,Calls Tryz.prog 24 #[.string d,.int .i64 4,.int .i64 4] w fun e w'=>e=.returned (.int .i64 (numB d 4 4))∧Below w.heap.size w w'):=(show ∀ w,_ from fun w=>r8num d 4 4 w hS0 (by omega) (by omega))
 have HN8_4:Hid (∀ w,Calls Tryz.prog 24 #[.string (sB d),.int .i64 8,.int .i64 4] w fun e w'=>e=.returned (.int .i64 (numB (sB d) 8 4))∧Below w.heap.size w w'):=(show ∀ w,_ from fun w=>r8num (sB d) 8 4 w hS (by omega) (by omega))
 have HN44_4:Hid (∀ w,Calls Tryz.prog 24 #[.string (sB d),.int .i64 44,.int .i64 4] w fun e w'=>e=.returned (.int .i64 (numB (sB d) 44 4))∧Below w.heap.size w w'):=(show ∀ w,_ from fun w=>r8num (sB d) 44 4 w hS (by omega) (by omega))
 clear hW0 hS0
 generalize numB d 1 1=K at *
 generalize numB d 4 4=X at *
 generalize numB (sB d) 8 4=N1 at *
 generalize numB (sB d) 44 4=N2 at *
 generalize sB d=S at *
 go_enter Tryz.func25,Tryz.ntmps25
 go_wp2_with fail
 rw [HW0.out]
 refine HA1.out.mono ?_
 rintro x w1 ⟨rfl,g1⟩
 go_wp2_with fail
 refine (HA2.out _).mono ?_
 rintro x w2 ⟨rfl,g2⟩
 have g12:=btr g1 g2 (Nat.le_refl _)
 have t2:=there_block t0 (g12.block _ s0)
 have z2:=Nat.lt_of_lt_of_le s0 g12.size
 have G2:=btr g0 g12 (Nat.le_refl _)
 have hY:(w2.alloc (.cells (msC ms0) 42)).there w2.heap.size 0 26:=there_new w2 (msC ms0) 42
 have HV:Hid (∀ V,Bm V w2.heap.size ({ ms0 with kind:=K,xid:=X }:Ms)→V.there w2.heap.size 0 26→Only w2.heap.size (w2.alloc (.cells (msC ms0) 42)) V→SQ w w2.heap.size ({ ms0 with kind:=K,xid:=X }:Ms) V):=(show ∀ V,_ from fun V b t o=>SQ.start t2 z2 G2 b t o)
 clear g1 g2 g12 t2 z2 G2 t0 s0 g0 HA2
 go_wp2_with (first | (refine build_R rfl (.tmp 12) (.tmp 14) rfl K X rfl rfl ?_) | (refine store_R rfl (.tmp 3) (.tmp 15) rfl w2.heap.size ({ ms0 with kind:=K,xid:=X }:Ms) rfl rfl hY ?_;intro V bV tV oV;have Q:=HV.out V bV tV oV;have r0:=Q.o 0 _ rfl;clear bV tV oV HV hY))
 refine (HN8_4.out _).mono ?_
 rintro x u1 ⟨rfl,gu1⟩
 have Q1:=Q.grow gu1
 have pu2:=Q1.o 22 _ rfl
 have fu2:=Q1.f 22 (by decide)
 have Q2:=Q1.one 22 (.int .i64 N1) ({ ms0 with kind:=K,xid:=X,prt:=N1 }:Ms) (by decide) rfl
 obtain ⟨u2,hu2⟩:∃ U,u1.setCell ⟨w2.heap.size,22,none⟩ (.int .i64 N1)=U:=⟨_,rfl⟩
 rw [hu2] at Q2
 go_wp2_with fail
 refine (HN44_4.out _).mono ?_
 rintro x u3 ⟨rfl,gu3⟩
 have Q3:=Q2.grow gu3
 have pu4:=Q3.o 23 _ rfl
 have fu4:=Q3.f 23 (by decide)
 have Q4:=Q3.one 23 (.bool (N2 == 0)) ({ ms0 with kind:=K,xid:=X,prt:=N1,live:=(N2 == 0) }:Ms) (by decide) rfl
 obtain ⟨u4,hu4⟩:∃ U,u3.setCell ⟨w2.heap.size,23,none⟩ (.bool (N2 == 0))=U:=⟨_,rfl⟩
 rw [hu4] at Q4
 have B9:=Q4.bm
 have T9:=Q4.t0
 have HK:Hid (∀ VF,Only w.heap.size u4 VF→((∀ V',Keeps w.heap.size VF V'→MW V' ({ ms0 with kind:=K,xid:=X,prt:=N1,live:=(N2 == 0) }:Ms))∧MU ({ ms0 with kind:=K,xid:=X,prt:=N1,live:=(N2 == 0) }:Ms))∧Below w.heap.size w VF):=(show ∀ VF,_ from fun VF oF=>⟨kp2 (fun V' kV=>mwu V' rfl rfl rfl rfl rfl rfl (show (0:Nat)≤100000 by decide)),oF.belowK (Nat.le_refl _) Q4.g⟩)
 go_wp2_with (first | (refine load_R rfl (.tmp 3) rfl w2.heap.size ({ ms0 with kind:=K,xid:=X,prt:=N1,live:=(N2 == 0) }:Ms) rfl B9 ?_) | (refine store_R rfl (.tmp 2) (.tmp 133) rfl w.heap.size ({ ms0 with kind:=K,xid:=X,prt:=N1,live:=(N2 == 0) }:Ms) rfl rfl T9 ?_;intro VF bF tF oF))
 obtain ⟨⟨mw,mu⟩,gF⟩:=HK.out VF oF
 refine bodyPost_ret (resR (b:=w.heap.size) (m:=({ ms0 with kind:=K,xid:=X,prt:=N1,live:=(N2 == 0) }:Ms)) rfl rfl bF) rfl ?_
 exact ⟨({ ms0 with kind:=K,xid:=X,prt:=N1,live:=(N2 == 0) }:Ms),rfl,(show _=_ by rw [HM.out];rfl),mw,mu,gF⟩
theorem se_29 (d:ByteArray) (w:World) (hd:8≤d.size) (hs:d.size≤65535) (k1:(numB d 1 1 == 1)=false) (k2:(numB d 1 1 == 2)=false) (k3:(numB d 1 1 == 3)=false) (k12:(numB d 1 1 == 12)=false) (k13:(numB d 1 1 == 13)=false) (k14:(numB d 1 1 == 14)=false) (k15:(numB d 1 1 == 15)=false) (k29:(numB d 1 1 == 29)=true):Calls Tryz.prog 25 #[.string d] w (SeM d w):=by
 have HM:Hid (seM d={ msg0 (numB d 1 1) (numB d 4 4) with cmd:=numB (sB d) 0 2,mid:=numB (sB d) 4 4,mra:=numB (sB d) 12 4,mbu:=numB (sB d) 16 4 }):=(show _=_ by
  simp only [beq_iff_eq,beq_eq_false_iff_ne] at *
  unfold seM
  simp [*])
 have hS0:d.size≤100000:=by omega
 have hSz:(sB d).size≤65535:=by unfold sB;rw [ByteArray.size_extract];omega
 have hS:(sB d).size≤100000:=by omega
 have hsl:∀ w,(Instr.slice 9 (.string d) (some (.int .i64 8)) none none).run Tryz.prog w=.ok (.string (sB d)) w:=fun w=>slice_l d 8 (by omega) (by omega) w
 obtain ⟨W0,hW0⟩:∃ W0,rx w ms0=W0:=⟨_,rfl⟩
 have t0:W0.there w.heap.size 0 26:=hW0 ▸ there_new w (msC ms0) 42
 have s0:w.heap.size < W0.heap.size:=by rw [← hW0];simp
 have g0:Below w.heap.size w W0:=by rw [← hW0];go_grown
 have HW0:Hid (w.alloc (.cells #[.int .i64 0,.int .i64 0,.int .i64 0,.bool false,.int .i64 0,.int .i64 0,.slice none 0 0,.slice none 0 0,.slice none 0 0,.bool false,.int .u64 0,.int .u64 0,.int .i64 0,.int .i64 0,.int .i64 0,.int .i64 0,.slice none 0 0,.int .i64 0,.int .i64 0,.int .i64 0,.int .i64 0,.int .i64 0,.int .i64 0,.bool false,.slice none 0 0,.string ⟨#[]⟩] 42)=W0):=hW0
 have HA1:Hid (Calls Tryz.prog 24 #[.string d,.int .i64 1,.int .i64 1] W0 fun e w'=>e=.returned (.int .i64 (numB d 1 1))∧Below W0.heap.size W0 w'):=(show Calls _ _ _ _ _ from r8num d 1 1 W0 hS0 (by omega) (by omega))
 have HA2:Hid (∀ w,Calls Tryz.prog 24 #[.string d,.int .i64 4,.int .i64 4] w fun e w'=>e=.returned (.int .i64 (numB d 4 4))∧Below w.heap.size w w'):=(show ∀ w,_ from fun w=>r8num d 4 4 w hS0 (by omega) (by omega))
 have HN0_2:Hid (∀ w,Calls Tryz.prog 24 #[.string (sB d),.int .i64 0,.int .i64 2] w fun e w'=>e=.returned (.int .i64 (numB (sB d) 0 2))∧Below w.heap.size w w'):=(show ∀ w,_ from fun w=>r8num (sB d) 0 2 w hS (by omega) (by omega))
 have HN4_4:Hid (∀ w,Calls Tryz.prog 24 #[.string (sB d),.int .i64 4,.int .i64 4] w fun e w'=>e=.returned (.int .i64 (numB (sB d) 4 4))∧Below w.heap.size w w'):=(show ∀ w,_ from fun w=>r8num (sB d) 4 4 w hS (by omega) (by omega))
 have HN12_4:Hid (∀ w,Calls Tryz.prog 24 #[.string (sB d),.int .i64 12,.int .i64 4] w fun e w'=>e=.returned (.int .i64 (numB (sB d) 12 4))∧Below w.heap.size w w'):=(show ∀ w,_ from fun w=>r8num (sB d) 12 4 w hS (by omega) (by omega))
 have HN16_4:Hid (∀ w,Calls Tryz.prog 24 #[.string (sB d),.int .i64 16,.int .i64 4] w fun e w'=>e=.returned (.int .i64 (numB (sB d) 16 4))∧Below w.heap.size w w'):=(show ∀ w,_ from fun w=>r8num (sB d) 16 4 w hS (by omega) (by omega))
 clear hW0 hS0
 generalize numB d 1 1=K at *
 generalize numB d 4 4=X at *
 generalize numB (sB d) 0 2=N1 at *
 generalize numB (sB d) 4 4=N2 at *
 generalize numB (sB d) 12 4=N3 at *
 generalize numB (sB d) 16 4=N4 at *
 generalize sB d=S at *
 go_enter Tryz.func25,Tryz.ntmps25
 go_wp2_with fail
 rw [HW0.out]
 refine HA1.out.mono ?_
 rintro x w1 ⟨rfl,g1⟩
 go_wp2_with fail
 refine (HA2.out _).mono ?_
 rintro x w2 ⟨rfl,g2⟩
 have g12:=btr g1 g2 (Nat.le_refl _)
 have t2:=there_block t0 (g12.block _ s0)
 have z2:=Nat.lt_of_lt_of_le s0 g12.size
 have G2:=btr g0 g12 (Nat.le_refl _)
 have hY:(w2.alloc (.cells (msC ms0) 42)).there w2.heap.size 0 26:=there_new w2 (msC ms0) 42
 have HV:Hid (∀ V,Bm V w2.heap.size ({ ms0 with kind:=K,xid:=X }:Ms)→V.there w2.heap.size 0 26→Only w2.heap.size (w2.alloc (.cells (msC ms0) 42)) V→SQ w w2.heap.size ({ ms0 with kind:=K,xid:=X }:Ms) V):=(show ∀ V,_ from fun V b t o=>SQ.start t2 z2 G2 b t o)
 clear g1 g2 g12 t2 z2 G2 t0 s0 g0 HA2
 go_wp2_with (first | (refine build_R rfl (.tmp 12) (.tmp 14) rfl K X rfl rfl ?_) | (refine store_R rfl (.tmp 3) (.tmp 15) rfl w2.heap.size ({ ms0 with kind:=K,xid:=X }:Ms) rfl rfl hY ?_;intro V bV tV oV;have Q:=HV.out V bV tV oV;have r0:=Q.o 0 _ rfl;clear bV tV oV HV hY))
 refine (HN0_2.out _).mono ?_
 rintro x u1 ⟨rfl,gu1⟩
 have Q1:=Q.grow gu1
 have pu2:=Q1.o 2 _ rfl
 have fu2:=Q1.f 2 (by decide)
 have Q2:=Q1.one 2 (.int .i64 N1) ({ ms0 with kind:=K,xid:=X,cmd:=N1 }:Ms) (by decide) rfl
 obtain ⟨u2,hu2⟩:∃ U,u1.setCell ⟨w2.heap.size,2,none⟩ (.int .i64 N1)=U:=⟨_,rfl⟩
 rw [hu2] at Q2
 go_wp2_with fail
 refine (HN4_4.out _).mono ?_
 rintro x u3 ⟨rfl,gu3⟩
 have Q3:=Q2.grow gu3
 go_wp2_with fail
 refine (HN12_4.out _).mono ?_
 rintro x u4 ⟨rfl,gu4⟩
 have Q4:=Q3.grow gu4
 go_wp2_with fail
 refine (HN16_4.out _).mono ?_
 rintro x u5 ⟨rfl,gu5⟩
 have Q5:=Q4.grow gu5
 have pu6:=Q5.o 17 _ rfl
 have fu6:=Q5.f 17 (by decide)
 have Q6:=Q5.one 17 (.int .i64 N2) ({ ms0 with kind:=K,xid:=X,cmd:=N1,mid:=N2 }:Ms) (by decide) rfl
 obtain ⟨u6,hu6⟩:∃ U,u5.setCell ⟨w2.heap.size,17,none⟩ (.int .i64 N2)=U:=⟨_,rfl⟩
 rw [hu6] at Q6
 have pu7:=Q6.o 18 _ rfl
 have fu7:=Q6.f 18 (by decide)
 have Q7:=Q6.one 18 (.int .i64 N3) ({ ms0 with kind:=K,xid:=X,cmd:=N1,mid:=N2,mra:=N3 }:Ms) (by decide) rfl
 obtain ⟨u7,hu7⟩:∃ U,u6.setCell ⟨w2.heap.size,18,none⟩ (.int .i64 N3)=U:=⟨_,rfl⟩
 rw [hu7] at Q7
 have pu8:=Q7.o 19 _ rfl
 have fu8:=Q7.f 19 (by decide)
 have Q8:=Q7.one 19 (.int .i64 N4) ({ ms0 with kind:=K,xid:=X,cmd:=N1,mid:=N2,mra:=N3,mbu:=N4 }:Ms) (by decide) rfl
 obtain ⟨u8,hu8⟩:∃ U,u7.setCell ⟨w2.heap.size,19,none⟩ (.int .i64 N4)=U:=⟨_,rfl⟩
 rw [hu8] at Q8
 have B9:=Q8.bm
 have T9:=Q8.t0
 have HK:Hid (∀ VF,Only w.heap.size u8 VF→((∀ V',Keeps w.heap.size VF V'→MW V' ({ ms0 with kind:=K,xid:=X,cmd:=N1,mid:=N2,mra:=N3,mbu:=N4 }:Ms))∧MU ({ ms0 with kind:=K,xid:=X,cmd:=N1,mid:=N2,mra:=N3,mbu:=N4 }:Ms))∧Below w.heap.size w VF):=(show ∀ VF,_ from fun VF oF=>⟨kp2 (fun V' kV=>mwu V' rfl rfl rfl rfl rfl rfl (show (0:Nat)≤100000 by decide)),oF.belowK (Nat.le_refl _) Q8.g⟩)
 go_wp2_with (first | (refine load_R rfl (.tmp 3) rfl w2.heap.size ({ ms0 with kind:=K,xid:=X,cmd:=N1,mid:=N2,mra:=N3,mbu:=N4 }:Ms) rfl B9 ?_) | (refine store_R rfl (.tmp 2) (.tmp 133) rfl w.heap.size ({ ms0 with kind:=K,xid:=X,cmd:=N1,mid:=N2,mra:=N3,mbu:=N4 }:Ms) rfl rfl T9 ?_;intro VF bF tF oF))
 obtain ⟨⟨mw,mu⟩,gF⟩:=HK.out VF oF
 refine bodyPost_ret (resR (b:=w.heap.size) (m:=({ ms0 with kind:=K,xid:=X,cmd:=N1,mid:=N2,mra:=N3,mbu:=N4 }:Ms)) rfl rfl bF) rfl ?_
 exact ⟨({ ms0 with kind:=K,xid:=X,cmd:=N1,mid:=N2,mra:=N3,mbu:=N4 }:Ms),rfl,(show _=_ by rw [HM.out];rfl),mw,mu,gF⟩
end Go.Proofs.YtlcbfdiohcbpbaaGreatDoor

import Derived.Test.YtlcbfdiohcbpbaaGreatDoorRSeemP
namespace Go.Proofs.YtlcbfdiohcbpbaaGreatDoor
set_option maxRecDepth 20000
set_option maxHeartbeats 16000000
open Go.ChangeShapes Go.WideShapes Go.ChangeAt Go.RowKit
set_option linter.unusedVariables false
set_option linter.unusedSimpArgs false
theorem se_13 (d:ByteArray) (w:World) (hd:8≤d.size) (hs:d.size≤65535) (k1:(numB d 1 1 == 1)=false) (k2:(numB d 1 1 == 2)=false) (k3:(numB d 1 1 == 3)=false) (k12:(numB d 1 1 == 12)=false) (k13:(numB d 1 1 == 13)=true):Calls Tryz.prog 25 #[.string d] w (SeM d w):=by
 have HM:Hid (seM d={ msg0 (numB d 1 1) (numB d 4 4) with prt:=numB (sB d) 4 4,la:=actsV (partB (sB d) 16 (s13 (sB d))),dat:=(sB d).extract (16 + numB (sB d) 8 2).toNat (sB d).size }):=(show _=_ by
  simp only [beq_iff_eq,beq_eq_false_iff_ne] at *
  unfold seM
  simp [*])
 have hS0:d.size≤100000:=by omega
 have hSz:(sB d).size≤65535:=by unfold sB;rw [ByteArray.size_extract];omega
 have hS:(sB d).size≤100000:=by omega
 have hsl:∀ w,(Instr.slice 9 (.string d) (some (.int .i64 8)) none none).run Tryz.prog w=.ok (.string (sB d)) w:=fun w=>slice_l d 8 (by omega) (by omega) w
 obtain ⟨W0,hW0⟩:∃ W0,rx w ms0=W0:=⟨_,rfl⟩
 have t0:W0.there w.heap.size 0 26:=hW0 ▸ there_new w (msC ms0) 42
 have s0:w.heap.size < W0.heap.size:=by rw [← hW0];simp
 have g0:Below w.heap.size w W0:=by rw [← hW0];go_grown
 have HW0:Hid (w.alloc (.cells #[.int .i64 0,.int .i64 0,.int .i64 0,.bool false,.int .i64 0,.int .i64 0,.slice none 0 0,.slice none 0 0,.slice none 0 0,.bool false,.int .u64 0,.int .u64 0,.int .i64 0,.int .i64 0,.int .i64 0,.int .i64 0,.slice none 0 0,.int .i64 0,.int .i64 0,.int .i64 0,.int .i64 0,.int .i64 0,.int .i64 0,.bool false,.slice none 0 0,.string ⟨#[]⟩] 42)=W0):=hW0
 have HA1:Hid (Calls Tryz.prog 24 #[.string d,.int .i64 1,.int .i64 1] W0 fun e w'=>e=.returned (.int .i64 (numB d 1 1))∧Below W0.heap.size W0 w'):=(show Calls _ _ _ _ _ from r8num d 1 1 W0 hS0 (by omega) (by omega))
 have HA2:Hid (∀ w,Calls Tryz.prog 24 #[.string d,.int .i64 4,.int .i64 4] w fun e w'=>e=.returned (.int .i64 (numB d 4 4))∧Below w.heap.size w w'):=(show ∀ w,_ from fun w=>r8num d 4 4 w hS0 (by omega) (by omega))
 have HN4_4:Hid (∀ w,Calls Tryz.prog 24 #[.string (sB d),.int .i64 4,.int .i64 4] w fun e w'=>e=.returned (.int .i64 (numB (sB d) 4 4))∧Below w.heap.size w w'):=(show ∀ w,_ from fun w=>r8num (sB d) 4 4 w hS (by omega) (by omega))
 have HN8_2:Hid (∀ w,Calls Tryz.prog 24 #[.string (sB d),.int .i64 8,.int .i64 2] w fun e w'=>e=.returned (.int .i64 (numB (sB d) 8 2))∧Below w.heap.size w w'):=(show ∀ w,_ from fun w=>r8num (sB d) 8 2 w hS (by omega) (by omega))
 obtain ⟨m0,m1⟩:=numB_rng (sB d) 8 2 (by omega)
 have m2:numB (sB d) 8 2 < 65536:=by simpa using (numB_lt (sB d) 8 2 (by omega)).2
 have HP:Hid (∀ w,Calls Tryz.prog 56 #[.string (sB d),.int .i64 16,.int .i64 (min (numB (sB d) 8 2) (max 0 (((sB d).size:Int) - 16)))] w fun e w'=>e=.returned (.string (partB (sB d) 16 (s13 (sB d))))∧Below w.heap.size w w'):=(show ∀ w,_ from fun w=>by
  have e:(min (numB (sB d) 8 2) (max 0 (((sB d).size:Int) - 16)))=((s13 (sB d):Nat):Int):=by unfold s13;omega
  rw [e]
  exact r8part (sB d) 16 (s13 (sB d)) w hS (by omega) (by unfold s13;omega))
 have hAz:(partB (sB d) 16 (s13 (sB d))).size≤maxLen:=by rw [partB_size];unfold s13 maxLen;omega
 have HDc:Hid (∀ w1,Calls Tryz.prog 58 #[.string (partB (sB d) 16 (s13 (sB d)))] w1 fun x w'=>∃ ad cap E,x=.returned (.tuple #[.slice ad (actsV (partB (sB d) 16 (s13 (sB d)))).length cap,.int .i64 E])∧Hid (TsF w1.heap.size w' ad (actsV (partB (sB d) 16 (s13 (sB d)))))∧Below w1.heap.size w1 w'):=(show ∀ w1,_ from fun w1=>(rdec_any _ w1 hAz).mono fun _ _ ⟨ad,cap,E,h1,_,h2,h3⟩=>⟨ad,cap,E,h1,(show TsF _ _ _ _ from h2),h3⟩)
 have HFw:Hid ((actsV (partB (sB d) 16 (s13 (sB d)))).length≤1000∧AWs (actsV (partB (sB d) 16 (s13 (sB d))))):=(show _∧_ from ⟨decV_few _,acts_aw _⟩)
 have HB4:Hid (∀ w,Calls Tryz.prog 57 #[.string (sB d),.int .i64 (16 + numB (sB d) 8 2)] w fun e w'=>e=.returned (.string ((sB d).extract (16 + numB (sB d) 8 2).toNat (sB d).size))∧w'=w):=(show ∀ w,_ from fun w=>r8behind (sB d) (16 + numB (sB d) 8 2) w (by omega))
 have hD:((sB d).extract (16 + numB (sB d) 8 2).toNat (sB d).size).size≤100000:=by rw [ByteArray.size_extract];omega
 clear hAz
 clear hW0 hS0
 generalize numB d 1 1=K at *
 generalize numB d 4 4=X at *
 generalize actsV (partB (sB d) 16 (s13 (sB d)))=AL at *
 generalize partB (sB d) 16 (s13 (sB d))=PA at *
 generalize (sB d).extract (16 + numB (sB d) 8 2).toNat (sB d).size=DT at *
 generalize numB (sB d) 4 4=N1 at *
 generalize numB (sB d) 8 2=N2 at *
 generalize sB d=S at *
 go_enter Tryz.func25,Tryz.ntmps25
 go_wp2_with fail
 rw [HW0.out]
 refine HA1.out.mono ?_
 rintro x w1 ⟨rfl,g1⟩
 go_wp2_with fail
 refine (HA2.out _).mono ?_
 rintro x w2 ⟨rfl,g2⟩
 have g12:=btr g1 g2 (Nat.le_refl _)
 have t2:=there_block t0 (g12.block _ s0)
 have z2:=Nat.lt_of_lt_of_le s0 g12.size
 have G2:=btr g0 g12 (Nat.le_refl _)
 have hY:(w2.alloc (.cells (msC ms0) 42)).there w2.heap.size 0 26:=there_new w2 (msC ms0) 42
 have HV:Hid (∀ V,Bm V w2.heap.size ({ ms0 with kind:=K,xid:=X }:Ms)→V.there w2.heap.size 0 26→Only w2.heap.size (w2.alloc (.cells (msC ms0) 42)) V→SQ w w2.heap.size ({ ms0 with kind:=K,xid:=X }:Ms) V):=(show ∀ V,_ from fun V b t o=>SQ.start t2 z2 G2 b t o)
 clear g1 g2 g12 t2 z2 G2 t0 s0 g0 HA2
 go_wp2_with (first | (refine build_R rfl (.tmp 12) (.tmp 14) rfl K X rfl rfl ?_) | (refine store_R rfl (.tmp 3) (.tmp 15) rfl w2.heap.size ({ ms0 with kind:=K,xid:=X }:Ms) rfl rfl hY ?_;intro V bV tV oV;have Q:=HV.out V bV tV oV;have r0:=Q.o 0 _ rfl;clear bV tV oV HV hY))
 refine (HN4_4.out _).mono ?_
 rintro x u1 ⟨rfl,gu1⟩
 have Q1:=Q.grow gu1
 have pu2:=Q1.o 22 _ rfl
 have fu2:=Q1.f 22 (by decide)
 have Q2:=Q1.one 22 (.int .i64 N1) ({ ms0 with kind:=K,xid:=X,prt:=N1 }:Ms) (by decide) rfl
 obtain ⟨u2,hu2⟩:∃ U,u1.setCell ⟨w2.heap.size,22,none⟩ (.int .i64 N1)=U:=⟨_,rfl⟩
 rw [hu2] at Q2
 go_wp2_with fail
 refine (HN8_2.out _).mono ?_
 rintro x u3 ⟨rfl,gu3⟩
 have Q3:=Q2.grow gu3
 go_wp2_with fail
 refine (HP.out _).mono ?_
 rintro x u4 ⟨rfl,gu4⟩
 have Q4:=Q3.grow gu4
 go_wp2_with fail
 refine (HDc.out _).mono ?_
 rintro x u5 ⟨ad,cap,E,rfl,HT,gu5⟩
 have Q5:=Q4.grow gu5
 have pu6:=Q5.o 24 _ rfl
 have fu6:=Q5.f 24 (by decide)
 have Q6:=Q5.one 24 (.slice ad AL.length cap) ({ ms0 with kind:=K,xid:=X,prt:=N1,aa:=ad,la:=AL,ca:=cap }:Ms) (by decide) rfl
 obtain ⟨u6,hu6⟩:∃ U,u5.setCell ⟨w2.heap.size,24,none⟩ (.slice ad AL.length cap)=U:=⟨_,rfl⟩
 rw [hu6] at Q6
 have K6:Keeps u4.heap.size u5 u6:=hu6 ▸ Keeps.only ((Only.refl _ u5).setCell 24 _) Q4.zb
 go_wp2_with fail
 refine (HB4.out _).mono ?_
 rintro x ub ⟨rfl,zb⟩
 obtain rfl:u6=ub:=zb.symm
 have pu7:=Q6.o 25 _ rfl
 have fu7:=Q6.f 25 (by decide)
 have Q7:=Q6.one 25 (.string DT) ({ ms0 with kind:=K,xid:=X,prt:=N1,aa:=ad,la:=AL,ca:=cap,dat:=DT }:Ms) (by decide) rfl
 obtain ⟨u7,hu7⟩:∃ U,u6.setCell ⟨w2.heap.size,25,none⟩ (.string DT)=U:=⟨_,rfl⟩
 rw [hu7] at Q7
 have K7:Keeps u4.heap.size u5 u7:=K6.trans (hu7 ▸ Keeps.only ((Only.refl _ u6).setCell 25 _) Q4.zb)
 have B9:=Q7.bm
 have T9:=Q7.t0
 have HK:Hid (∀ VF,Only w.heap.size u7 VF→((∀ V',Keeps w.heap.size VF V'→MW V' ({ ms0 with kind:=K,xid:=X,prt:=N1,aa:=ad,la:=AL,ca:=cap,dat:=DT }:Ms))∧MU ({ ms0 with kind:=K,xid:=X,prt:=N1,aa:=ad,la:=AL,ca:=cap,dat:=DT }:Ms))∧Below w.heap.size w VF):=(show ∀ VF,_ from fun VF oF=>⟨kp2 (fun V' kV=>by
  have z4:w.heap.size < u4.heap.size:=Nat.lt_trans Q4.z0 Q4.zb
  have K8:=(K7.trans (Keeps.only oF z4)).trans (kV.mono (Nat.le_of_lt z4))
  exact mwa V' rfl rfl rfl rfl (HT.out.keep K8.size K8.block).ts HFw.out.1 HFw.out.2 hD),oF.belowK (Nat.le_refl _) Q7.g⟩)
 go_wp2_with (first | (refine load_R rfl (.tmp 3) rfl w2.heap.size ({ ms0 with kind:=K,xid:=X,prt:=N1,aa:=ad,la:=AL,ca:=cap,dat:=DT }:Ms) rfl B9 ?_) | (refine store_R rfl (.tmp 2) (.tmp 133) rfl w.heap.size ({ ms0 with kind:=K,xid:=X,prt:=N1,aa:=ad,la:=AL,ca:=cap,dat:=DT }:Ms) rfl rfl T9 ?_;intro VF bF tF oF))
 obtain ⟨⟨mw,mu⟩,gF⟩:=HK.out VF oF
 refine bodyPost_ret (resR (b:=w.heap.size) (m:=({ ms0 with kind:=K,xid:=X,prt:=N1,aa:=ad,la:=AL,ca:=cap,dat:=DT }:Ms)) rfl rfl bF) rfl ?_
 exact ⟨({ ms0 with kind:=K,xid:=X,prt:=N1,aa:=ad,la:=AL,ca:=cap,dat:=DT }:Ms),rfl,(show _=_ by rw [HM.out];rfl),mw,mu,gF⟩
theorem se_15 (d:ByteArray) (w:World) (hd:8≤d.size) (hs:d.size≤65535) (k1:(numB d 1 1 == 1)=false) (k2:(numB d 1 1 == 2)=false) (k3:(numB d 1 1 == 3)=false) (k12:(numB d 1 1 == 12)=false) (k13:(numB d 1 1 == 13)=false) (k14:(numB d 1 1 == 14)=false) (k15:(numB d 1 1 == 15)=true):Calls Tryz.prog 25 #[.string d] w (SeM d w):=by
 have HM:Hid (seM d={ msg0 (numB d 1 1) (numB d 4 4) with cmd:=numB (sB d) 0 2,gid:=numB (sB d) 4 4,gkd:=numB (sB d) 2 1 + 1,gb:=bksB 17 ((sB d).extract 8 (sB d).size) }):=(show _=_ by
  simp only [beq_iff_eq,beq_eq_false_iff_ne] at *
  unfold seM
  simp [*])
 have hS0:d.size≤100000:=by omega
 have hSz:(sB d).size≤65535:=by unfold sB;rw [ByteArray.size_extract];omega
 have hS:(sB d).size≤100000:=by omega
 have hsl:∀ w,(Instr.slice 9 (.string d) (some (.int .i64 8)) none none).run Tryz.prog w=.ok (.string (sB d)) w:=fun w=>slice_l d 8 (by omega) (by omega) w
 obtain ⟨W0,hW0⟩:∃ W0,rx w ms0=W0:=⟨_,rfl⟩
 have t0:W0.there w.heap.size 0 26:=hW0 ▸ there_new w (msC ms0) 42
 have s0:w.heap.size < W0.heap.size:=by rw [← hW0];simp
 have g0:Below w.heap.size w W0:=by rw [← hW0];go_grown
 have HW0:Hid (w.alloc (.cells #[.int .i64 0,.int .i64 0,.int .i64 0,.bool false,.int .i64 0,.int .i64 0,.slice none 0 0,.slice none 0 0,.slice none 0 0,.bool false,.int .u64 0,.int .u64 0,.int .i64 0,.int .i64 0,.int .i64 0,.int .i64 0,.slice none 0 0,.int .i64 0,.int .i64 0,.int .i64 0,.int .i64 0,.int .i64 0,.int .i64 0,.bool false,.slice none 0 0,.string ⟨#[]⟩] 42)=W0):=hW0
 have HA1:Hid (Calls Tryz.prog 24 #[.string d,.int .i64 1,.int .i64 1] W0 fun e w'=>e=.returned (.int .i64 (numB d 1 1))∧Below W0.heap.size W0 w'):=(show Calls _ _ _ _ _ from r8num d 1 1 W0 hS0 (by omega) (by omega))
 have HA2:Hid (∀ w,Calls Tryz.prog 24 #[.string d,.int .i64 4,.int .i64 4] w fun e w'=>e=.returned (.int .i64 (numB d 4 4))∧Below w.heap.size w w'):=(show ∀ w,_ from fun w=>r8num d 4 4 w hS0 (by omega) (by omega))
 have HN0_2:Hid (∀ w,Calls Tryz.prog 24 #[.string (sB d),.int .i64 0,.int .i64 2] w fun e w'=>e=.returned (.int .i64 (numB (sB d) 0 2))∧Below w.heap.size w w'):=(show ∀ w,_ from fun w=>r8num (sB d) 0 2 w hS (by omega) (by omega))
 have HN4_4:Hid (∀ w,Calls Tryz.prog 24 #[.string (sB d),.int .i64 4,.int .i64 4] w fun e w'=>e=.returned (.int .i64 (numB (sB d) 4 4))∧Below w.heap.size w w'):=(show ∀ w,_ from fun w=>r8num (sB d) 4 4 w hS (by omega) (by omega))
 have HN2_1:Hid (∀ w,Calls Tryz.prog 24 #[.string (sB d),.int .i64 2,.int .i64 1] w fun e w'=>e=.returned (.int .i64 (numB (sB d) 2 1))∧Below w.heap.size w w'):=(show ∀ w,_ from fun w=>r8num (sB d) 2 1 w hS (by omega) (by omega))
 obtain ⟨m0,m1⟩:=numB_rng (sB d) 2 1 (by omega)
 have HB4:Hid (∀ w,Calls Tryz.prog 57 #[.string (sB d),.int .i64 8] w fun e w'=>e=.returned (.string ((sB d).extract 8 (sB d).size))∧w'=w):=(show ∀ w,_ from fun w=>r8behind (sB d) 8 w (by omega))
 have HBk:Hid (∀ w1,Calls Tryz.prog 61 #[.string ((sB d).extract 8 (sB d).size)] w1 fun e w'=>∃ a l cap,e=.returned (.slice a l.length cap)∧Hid (l.map Bk.b3=bksB 17 ((sB d).extract 8 (sB d).size)∧BsF w1.heap.size w' a l∧l.length≤17)∧Below w1.heap.size w1 w'):=(show ∀ w1,_ from fun w1=>(rbks_any _ w1 (by rw [ByteArray.size_extract];omega)).mono fun _ _ ⟨a,l,cap,h1,h2,h3,h4,h5⟩=>⟨a,l,cap,h1,(show _∧_∧_ from ⟨h2,h3,h4⟩),h5⟩)
 have HAw:Hid (∀ x ∈ bksB 17 ((sB d).extract 8 (sB d).size),AWs x.2.2):=(show ∀ x ∈ bksB 17 ((sB d).extract 8 (sB d).size),_ from bksB_aw 17 _)
 clear hW0 hS0
 generalize numB d 1 1=K at *
 generalize numB d 4 4=X at *
 generalize bksB 17 ((sB d).extract 8 (sB d).size)=BL at *
 generalize (sB d).extract 8 (sB d).size=DT at *
 generalize numB (sB d) 0 2=N1 at *
 generalize numB (sB d) 4 4=N2 at *
 generalize numB (sB d) 2 1=N3 at *
 generalize sB d=S at *
 go_enter Tryz.func25,Tryz.ntmps25
 go_wp2_with fail
 rw [HW0.out]
 refine HA1.out.mono ?_
 rintro x w1 ⟨rfl,g1⟩
 go_wp2_with fail
 refine (HA2.out _).mono ?_
 rintro x w2 ⟨rfl,g2⟩
 have g12:=btr g1 g2 (Nat.le_refl _)
 have t2:=there_block t0 (g12.block _ s0)
 have z2:=Nat.lt_of_lt_of_le s0 g12.size
 have G2:=btr g0 g12 (Nat.le_refl _)
 have hY:(w2.alloc (.cells (msC ms0) 42)).there w2.heap.size 0 26:=there_new w2 (msC ms0) 42
 have HV:Hid (∀ V,Bm V w2.heap.size ({ ms0 with kind:=K,xid:=X }:Ms)→V.there w2.heap.size 0 26→Only w2.heap.size (w2.alloc (.cells (msC ms0) 42)) V→SQ w w2.heap.size ({ ms0 with kind:=K,xid:=X }:Ms) V):=(show ∀ V,_ from fun V b t o=>SQ.start t2 z2 G2 b t o)
 clear g1 g2 g12 t2 z2 G2 t0 s0 g0 HA2
 go_wp2_with (first | (refine build_R rfl (.tmp 12) (.tmp 14) rfl K X rfl rfl ?_) | (refine store_R rfl (.tmp 3) (.tmp 15) rfl w2.heap.size ({ ms0 with kind:=K,xid:=X }:Ms) rfl rfl hY ?_;intro V bV tV oV;have Q:=HV.out V bV tV oV;have r0:=Q.o 0 _ rfl;clear bV tV oV HV hY))
 refine (HN0_2.out _).mono ?_
 rintro x u1 ⟨rfl,gu1⟩
 have Q1:=Q.grow gu1
 have pu2:=Q1.o 2 _ rfl
 have fu2:=Q1.f 2 (by decide)
 have Q2:=Q1.one 2 (.int .i64 N1) ({ ms0 with kind:=K,xid:=X,cmd:=N1 }:Ms) (by decide) rfl
 obtain ⟨u2,hu2⟩:∃ U,u1.setCell ⟨w2.heap.size,2,none⟩ (.int .i64 N1)=U:=⟨_,rfl⟩
 rw [hu2] at Q2
 go_wp2_with fail
 refine (HN4_4.out _).mono ?_
 rintro x u3 ⟨rfl,gu3⟩
 have Q3:=Q2.grow gu3
 go_wp2_with fail
 refine (HN2_1.out _).mono ?_
 rintro x u4 ⟨rfl,gu4⟩
 have Q4:=Q3.grow gu4
 go_wp2_with fail
 refine (HB4.out _).mono ?_
 rintro x ub ⟨rfl,zb⟩
 obtain rfl:u4=ub:=zb.symm
 go_wp2_with fail
 refine (HBk.out _).mono ?_
 rintro x u5 ⟨ad,l,cap,rfl,HL,gu5⟩
 have Q5:=Q4.grow gu5
 have pu6:=Q5.o 14 _ rfl
 have fu6:=Q5.f 14 (by decide)
 have Q6:=Q5.one 14 (.int .i64 N2) ({ ms0 with kind:=K,xid:=X,cmd:=N1,gid:=N2 }:Ms) (by decide) rfl
 obtain ⟨u6,hu6⟩:∃ U,u5.setCell ⟨w2.heap.size,14,none⟩ (.int .i64 N2)=U:=⟨_,rfl⟩
 rw [hu6] at Q6
 have pu7:=Q6.o 15 _ rfl
 have fu7:=Q6.f 15 (by decide)
 have Q7:=Q6.one 15 (.int .i64 (N3 + 1)) ({ ms0 with kind:=K,xid:=X,cmd:=N1,gid:=N2,gkd:=N3 + 1 }:Ms) (by decide) rfl
 obtain ⟨u7,hu7⟩:∃ U,u6.setCell ⟨w2.heap.size,15,none⟩ (.int .i64 (N3 + 1))=U:=⟨_,rfl⟩
 rw [hu7] at Q7
 have pu8:=Q7.o 16 _ rfl
 have fu8:=Q7.f 16 (by decide)
 have Q8:=Q7.one 16 (.slice ad l.length cap) ({ ms0 with kind:=K,xid:=X,cmd:=N1,gid:=N2,gkd:=N3 + 1,ga:=ad,gb:=l,gc:=cap }:Ms) (by decide) rfl
 obtain ⟨u8,hu8⟩:∃ U,u7.setCell ⟨w2.heap.size,16,none⟩ (.slice ad l.length cap)=U:=⟨_,rfl⟩
 rw [hu8] at Q8
 have K7:Keeps u4.heap.size u5 u8:=((hu6 ▸ Keeps.only ((Only.refl _ u5).setCell 14 _) Q4.zb:Keeps u4.heap.size u5 u6).trans (hu7 ▸ Keeps.only ((Only.refl _ u6).setCell 15 _) Q4.zb)).trans (hu8 ▸ Keeps.only ((Only.refl _ u7).setCell 16 _) Q4.zb)
 have B9:=Q8.bm
 have T9:=Q8.t0
 have HK:Hid (∀ VF,Only w.heap.size u8 VF→((∀ V',Keeps w.heap.size VF V'→MW V' ({ ms0 with kind:=K,xid:=X,cmd:=N1,gid:=N2,gkd:=N3 + 1,ga:=ad,gb:=l,gc:=cap }:Ms))∧MU ({ ms0 with kind:=K,xid:=X,cmd:=N1,gid:=N2,gkd:=N3 + 1,ga:=ad,gb:=l,gc:=cap }:Ms))∧Below w.heap.size w VF):=(show ∀ VF,_ from fun VF oF=>⟨kp2 (fun V' kV=>by
  have z4:w.heap.size < u4.heap.size:=Nat.lt_trans Q4.z0 Q4.zb
  have K8:=(K7.trans (Keeps.only oF z4)).trans (kV.mono (Nat.le_of_lt z4))
  exact mwg V' rfl rfl (HL.out.2.1.keep K8.size K8.block).bs (Nat.le_trans HL.out.2.2 (by decide)) (fun x hx=>HAw.out x.b3 (HL.out.1 ▸ List.mem_map_of_mem hx)) rfl rfl (show (0:Nat)≤100000 by decide)),oF.belowK (Nat.le_refl _) Q8.g⟩)
 go_wp2_with (first | (refine load_R rfl (.tmp 3) rfl w2.heap.size ({ ms0 with kind:=K,xid:=X,cmd:=N1,gid:=N2,gkd:=N3 + 1,ga:=ad,gb:=l,gc:=cap }:Ms) rfl B9 ?_) | (refine store_R rfl (.tmp 2) (.tmp 133) rfl w.heap.size ({ ms0 with kind:=K,xid:=X,cmd:=N1,gid:=N2,gkd:=N3 + 1,ga:=ad,gb:=l,gc:=cap }:Ms) rfl rfl T9 ?_;intro VF bF tF oF))
 obtain ⟨⟨mw,mu⟩,gF⟩:=HK.out VF oF
 refine bodyPost_ret (resR (b:=w.heap.size) (m:=({ ms0 with kind:=K,xid:=X,cmd:=N1,gid:=N2,gkd:=N3 + 1,ga:=ad,gb:=l,gc:=cap }:Ms)) rfl rfl bF) rfl ?_
 exact ⟨({ ms0 with kind:=K,xid:=X,cmd:=N1,gid:=N2,gkd:=N3 + 1,ga:=ad,gb:=l,gc:=cap }:Ms),rfl,(show _=_ by rw [HM.out,← HL.out.1];rfl),mw,mu,gF⟩
end Go.Proofs.YtlcbfdiohcbpbaaGreatDoor

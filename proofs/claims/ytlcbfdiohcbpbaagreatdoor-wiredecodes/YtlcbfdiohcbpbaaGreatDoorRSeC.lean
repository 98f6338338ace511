import Derived.Test.YtlcbfdiohcbpbaaGreatDoorRSeemP
namespace Go.Proofs.YtlcbfdiohcbpbaaGreatDoor
set_option maxRecDepth 20000
set_option maxHeartbeats 16000000
open Go.ChangeShapes Go.WideShapes Go.ChangeAt Go.RowKit
set_option linter.unusedVariables false
set_option linter.unusedSimpArgs false
theorem se_14 (d:ByteArray) (w:World) (hd:8≤d.size) (hs:d.size≤65535) (k1:(numB d 1 1 == 1)=false) (k2:(numB d 1 1 == 2)=false) (k3:(numB d 1 1 == 3)=false) (k12:(numB d 1 1 == 12)=false) (k13:(numB d 1 1 == 13)=false) (k14:(numB d 1 1 == 14)=true):Calls Tryz.prog 25 #[.string d] w (SeM d w):=by
 have HM:Hid (seM d={ msg0 (numB d 1 1) (numB d 4 4) with cmd:=numB (sB d) 17 1,chk:=(numB (sB d) 36 2 == 2),pri:=numB (sB d) 22 2,ts:=flTs (f14 (sB d)),sp:=(decX (numB (sB d) 16 1) ((sB d).extract (40 + flN (f14 (sB d))).toNat (sB d).size)).1 }):=(show _=_ by
  simp only [beq_iff_eq,beq_eq_false_iff_ne] at *
  unfold seM
  simp [*])
 have hS0:d.size≤100000:=by omega
 have hSz:(sB d).size≤65535:=by unfold sB;rw [ByteArray.size_extract];omega
 have hS:(sB d).size≤100000:=by omega
 have hsl:∀ w,(Instr.slice 9 (.string d) (some (.int .i64 8)) none none).run Tryz.prog w=.ok (.string (sB d)) w:=fun w=>slice_l d 8 (by omega) (by omega) w
 obtain ⟨W0,hW0⟩:∃ W0,rx w ms0=W0:=⟨_,rfl⟩
 have t0:W0.there w.heap.size 0 26:=hW0 ▸ there_new w (msC ms0) 42
 have s0:w.heap.size < W0.heap.size:=by rw [← hW0];simp
 have g0:Below w.heap.size w W0:=by rw [← hW0];go_grown
 have HW0:Hid (w.alloc (.cells #[.int .i64 0,.int .i64 0,.int .i64 0,.bool false,.int .i64 0,.int .i64 0,.slice none 0 0,.slice none 0 0,.slice none 0 0,.bool false,.int .u64 0,.int .u64 0,.int .i64 0,.int .i64 0,.int .i64 0,.int .i64 0,.slice none 0 0,.int .i64 0,.int .i64 0,.int .i64 0,.int .i64 0,.int .i64 0,.int .i64 0,.bool false,.slice none 0 0,.string ⟨#[]⟩] 42)=W0):=hW0
 have HA1:Hid (Calls Tryz.prog 24 #[.string d,.int .i64 1,.int .i64 1] W0 fun e w'=>e=.returned (.int .i64 (numB d 1 1))∧Below W0.heap.size W0 w'):=(show Calls _ _ _ _ _ from r8num d 1 1 W0 hS0 (by omega) (by omega))
 have HA2:Hid (∀ w,Calls Tryz.prog 24 #[.string d,.int .i64 4,.int .i64 4] w fun e w'=>e=.returned (.int .i64 (numB d 4 4))∧Below w.heap.size w w'):=(show ∀ w,_ from fun w=>r8num d 4 4 w hS0 (by omega) (by omega))
 have HN17_1:Hid (∀ w,Calls Tryz.prog 24 #[.string (sB d),.int .i64 17,.int .i64 1] w fun e w'=>e=.returned (.int .i64 (numB (sB d) 17 1))∧Below w.heap.size w w'):=(show ∀ w,_ from fun w=>r8num (sB d) 17 1 w hS (by omega) (by omega))
 have HN36_2:Hid (∀ w,Calls Tryz.prog 24 #[.string (sB d),.int .i64 36,.int .i64 2] w fun e w'=>e=.returned (.int .i64 (numB (sB d) 36 2))∧Below w.heap.size w w'):=(show ∀ w,_ from fun w=>r8num (sB d) 36 2 w hS (by omega) (by omega))
 have HN16_1:Hid (∀ w,Calls Tryz.prog 24 #[.string (sB d),.int .i64 16,.int .i64 1] w fun e w'=>e=.returned (.int .i64 (numB (sB d) 16 1))∧Below w.heap.size w w'):=(show ∀ w,_ from fun w=>r8num (sB d) 16 1 w hS (by omega) (by omega))
 have HN22_2:Hid (∀ w,Calls Tryz.prog 24 #[.string (sB d),.int .i64 22,.int .i64 2] w fun e w'=>e=.returned (.int .i64 (numB (sB d) 22 2))∧Below w.heap.size w w'):=(show ∀ w,_ from fun w=>r8num (sB d) 22 2 w hS (by omega) (by omega))
 have HB4:Hid (∀ w,Calls Tryz.prog 57 #[.string (sB d),.int .i64 40] w fun e w'=>e=.returned (.string (f14 (sB d)))∧w'=w):=(show ∀ w,_ from fun w=>r8behind (sB d) 40 w (by omega))
 have hfz:(f14 (sB d)).size≤100000:=by unfold f14;rw [ByteArray.size_extract];omega
 obtain ⟨l0,l1⟩:=flN_le (f14 (sB d))
 have HT5:Hid (∀ w1,Calls Tryz.prog 59 #[.string (f14 (sB d))] w1 fun e w'=>∃ a cap,e=.returned (.tuple #[.slice a (flTs (f14 (sB d))).length cap,.int .i64 (flN (f14 (sB d))),.int .i64 (flE (f14 (sB d)))])∧Hid ((flTs (f14 (sB d))).length≤cap∧Mt.TsF w1.heap.size w' a (flTs (f14 (sB d))))∧Below w1.heap.size w1 w'):=(show ∀ w1,_ from fun w1=>(rdec5 _ w1 hfz).mono fun _ _ ⟨a,cap,h1,h2,h3,h4⟩=>⟨a,cap,h1,(show _∧_ from ⟨h2,h3⟩),h4⟩)
 have HB5:Hid (∀ w,Calls Tryz.prog 57 #[.string (sB d),.int .i64 (40 + flN (f14 (sB d)))] w fun e w'=>e=.returned (.string ((sB d).extract (40 + flN (f14 (sB d))).toNat (sB d).size))∧w'=w):=(show ∀ w,_ from fun w=>r8behind (sB d) (40 + flN (f14 (sB d))) w (by omega))
 have HX7:Hid (∀ w1,Calls Tryz.prog 60 #[.int .i64 (numB (sB d) 16 1),.string ((sB d).extract (40 + flN (f14 (sB d))).toNat (sB d).size)] w1 fun e w'=>∃ y:En,e=.returned (.tuple #[enV y,.int .i64 (decX (numB (sB d) 16 1) ((sB d).extract (40 + flN (f14 (sB d))).toNat (sB d).size)).2])∧Hid (y.sp=(decX (numB (sB d) 16 1) ((sB d).extract (40 + flN (f14 (sB d))).toNat (sB d).size)).1∧EF w1.heap.size w' y∧SOk y.sp)∧Below w1.heap.size w1 w'):=(show ∀ w1,_ from fun w1=>(rdecX_any _ _ w1 (by rw [ByteArray.size_extract];unfold maxLen;omega)).mono fun _ _ ⟨y,h1,h2,_,h3,h4,h5⟩=>⟨y,h1,(show _∧_∧_ from ⟨h2,h3,h4⟩),h5⟩)
 have HFt:Hid ((flTs (f14 (sB d))).length≤1000∧Mt.TWs (flTs (f14 (sB d)))):=(show _∧_ from ⟨flTs_few _,flTs_w _⟩)
 have HAw:Hid (AWs (decX (numB (sB d) 16 1) ((sB d).extract (40 + flN (f14 (sB d))).toNat (sB d).size)).1.la∧AWs (decX (numB (sB d) 16 1) ((sB d).extract (40 + flN (f14 (sB d))).toNat (sB d).size)).1.lw):=(show _∧_ from decX_aw _ _)
 clear hW0 hS0
 generalize numB d 1 1=K at *
 generalize numB d 4 4=X at *
 generalize (decX (numB (sB d) 16 1) ((sB d).extract (40 + flN (f14 (sB d))).toNat (sB d).size)).2=EX at *
 generalize (decX (numB (sB d) 16 1) ((sB d).extract (40 + flN (f14 (sB d))).toNat (sB d).size)).1=SP at *
 generalize (sB d).extract (40 + flN (f14 (sB d))).toNat (sB d).size=DT at *
 generalize flTs (f14 (sB d))=TS at *
 generalize flE (f14 (sB d))=ET at *
 generalize flN (f14 (sB d))=NT at *
 generalize f14 (sB d)=FT at *
 generalize numB (sB d) 17 1=N1 at *
 generalize numB (sB d) 36 2=N2 at *
 generalize numB (sB d) 16 1=N3 at *
 generalize numB (sB d) 22 2=N4 at *
 generalize sB d=S at *
 go_enter Tryz.func25,Tryz.ntmps25
 go_wp2_with fail
 rw [HW0.out]
 refine HA1.out.mono ?_
 rintro x w1 ⟨rfl,g1⟩
 go_wp2_with fail
 refine (HA2.out _).mono ?_
 rintro x w2 ⟨rfl,g2⟩
 have g12:=btr g1 g2 (Nat.le_refl _)
 have t2:=there_block t0 (g12.block _ s0)
 have z2:=Nat.lt_of_lt_of_le s0 g12.size
 have G2:=btr g0 g12 (Nat.le_refl _)
 have hY:(w2.alloc (.cells (msC ms0) 42)).there w2.heap.size 0 26:=there_new w2 (msC ms0) 42
 have HV:Hid (∀ V,Bm V w2.heap.size ({ ms0 with kind:=K,xid:=X }:Ms)→V.there w2.heap.size 0 26→Only w2.heap.size (w2.alloc (.cells (msC ms0) 42)) V→SQ w w2.heap.size ({ ms0 with kind:=K,xid:=X }:Ms) V):=(show ∀ V,_ from fun V b t o=>SQ.start t2 z2 G2 b t o)
 clear g1 g2 g12 t2 z2 G2 t0 s0 g0 HA2
 go_wp2_with (first | (refine build_R rfl (.tmp 12) (.tmp 14) rfl K X rfl rfl ?_) | (refine store_R rfl (.tmp 3) (.tmp 15) rfl w2.heap.size ({ ms0 with kind:=K,xid:=X }:Ms) rfl rfl hY ?_;intro V bV tV oV;have Q:=HV.out V bV tV oV;have r0:=Q.o 0 _ rfl;clear bV tV oV HV hY))
 refine (HN17_1.out _).mono ?_
 rintro x u1 ⟨rfl,gu1⟩
 have Q1:=Q.grow gu1
 have pu2:=Q1.o 2 _ rfl
 have fu2:=Q1.f 2 (by decide)
 have Q2:=Q1.one 2 (.int .i64 N1) ({ ms0 with kind:=K,xid:=X,cmd:=N1 }:Ms) (by decide) rfl
 obtain ⟨u2,hu2⟩:∃ U,u1.setCell ⟨w2.heap.size,2,none⟩ (.int .i64 N1)=U:=⟨_,rfl⟩
 rw [hu2] at Q2
 go_wp2_with fail
 refine (HN36_2.out _).mono ?_
 rintro x u3 ⟨rfl,gu3⟩
 have Q3:=Q2.grow gu3
 have pu4:=Q3.o 3 _ rfl
 have fu4:=Q3.f 3 (by decide)
 have Q4:=Q3.one 3 (.bool (N2 == 2)) ({ ms0 with kind:=K,xid:=X,cmd:=N1,chk:=(N2 == 2) }:Ms) (by decide) rfl
 obtain ⟨u4,hu4⟩:∃ U,u3.setCell ⟨w2.heap.size,3,none⟩ (.bool (N2 == 2))=U:=⟨_,rfl⟩
 rw [hu4] at Q4
 go_wp2_with fail
 refine (HB4.out _).mono ?_
 rintro x ub ⟨rfl,zb⟩
 obtain rfl:u4=ub:=zb.symm
 go_wp2_with fail
 refine (HT5.out _).mono ?_
 rintro x u5 ⟨at_,ct,rfl,HT,gu5⟩
 have Q5:=Q4.grow gu5
 go_wp2_with fail
 refine (HN16_1.out _).mono ?_
 rintro x u6 ⟨rfl,gu6⟩
 have Q6:=Q5.grow gu6
 have KT6:Keeps u4.heap.size u5 u6:=Keeps.grow gu6
 go_wp2_with fail
 refine (HB5.out _).mono ?_
 rintro x ub ⟨rfl,zb⟩
 obtain rfl:u6=ub:=zb.symm
 go_wp2_with fail
 refine (HX7.out _).mono ?_
 rintro x u7 ⟨y,rfl,HY,gu7⟩
 have Q7:=Q6.grow gu7
 have KT7:Keeps u4.heap.size u5 u7:=KT6.trans (Keeps.grow gu7)
 obtain ⟨XE,hXE⟩:∃ XE,(u7.alloc (.cells (enC en0) 26)).setCells u7.heap.size 0 (enC y).toList=XE:=⟨_,rfl⟩
 have gE:Below u7.heap.size u7 XE:=by
  rw [← hXE]
  exact (only_cells _ _ _ _ _ (Only.refl _ _):Only u7.heap.size (u7.alloc (.cells (enC en0) 26)) _).belowK (Nat.le_refl _) (by go_grown)
 have rE:XE.rangeAt u7.heap.size 0 (enC y).toList:=by rw [← hXE];exact World.rangeAt_setCells_same _ _ 0 _ (there_new u7 (enC en0) _)
 have QE:=Q7.grow gE
 have hT4:=QE.t4 4 10 (by decide)
 have QF:=QE.many 4 (enC y).toList ({ ms0 with kind:=K,xid:=X,cmd:=N1,chk:=(N2 == 2),en:=y,ts:=TS }:Ms) (show 4 + 10≤26 by decide) rfl
 have oUF:Only w2.heap.size XE (XE.setCells w2.heap.size 4 (enC y).toList):=only_cells _ _ _ _ _ (Only.refl _ _)
 obtain ⟨UF,hUF⟩:∃ UF,XE.setCells w2.heap.size 4 (enC y).toList=UF:=⟨_,rfl⟩
 rw [hUF] at QF oUF
 have KTF:Keeps u4.heap.size u5 UF:=(KT7.trans (Keeps.grow gE)).trans (Keeps.only oUF Q4.zb)
 have KYF:Keeps u6.heap.size u7 UF:=(Keeps.grow gE).trans (Keeps.only oUF Q6.zb)
 go_wp2_with (first | (refine store_E rfl (.tmp 9) (.tmp 94) rfl u7.heap.size 0 y rfl rfl (there_new _ _ _) ?_;intro XE' hX';obtain rfl:XE=XE':=hXE.symm.trans hX') | (refine load_E rfl (.tmp 9) rfl u7.heap.size 0 y rfl rE ?_) | (refine store_E rfl (.tmp 97) (.tmp 96) rfl w2.heap.size 4 y rfl rfl hT4 ?_;intro UF' hF';obtain rfl:UF=UF':=hUF.symm.trans hF'))
 refine (HN22_2.out _).mono ?_
 rintro x u8 ⟨rfl,gu8⟩
 have Q8:=QF.grow gu8
 have p1:=Q8.o 5 _ rfl
 have f1:=Q8.f 5 (by decide)
 have QG:=Q8.one 5 (.int .i64 N4) ({ ms0 with kind:=K,xid:=X,cmd:=N1,chk:=(N2 == 2),en:={ y with pri:=N4 },ts:=TS }:Ms) (by decide) rfl
 obtain ⟨UG,hUG⟩:∃ U,u8.setCell ⟨w2.heap.size,5,none⟩ (.int .i64 N4)=U:=⟨_,rfl⟩
 rw [hUG] at QG
 have p2:=QG.o 6 _ rfl
 have f2:=QG.f 6 (by decide)
 have QH:=QG.one 6 (.slice at_ TS.length ct) ({ ms0 with kind:=K,xid:=X,cmd:=N1,chk:=(N2 == 2),en:={ y with pri:=N4,ta:=at_,tl:=TS.length,tc:=ct },ts:=TS }:Ms) (by decide) rfl
 obtain ⟨UH,hUH⟩:∃ U,UG.setCell ⟨w2.heap.size,6,none⟩ (.slice at_ TS.length ct)=U:=⟨_,rfl⟩
 rw [hUH] at QH
 have KGH:Keeps u4.heap.size u8 UH:=(hUG ▸ Keeps.only ((Only.refl _ u8).setCell 5 _) Q4.zb:Keeps u4.heap.size u8 UG).trans (hUH ▸ Keeps.only ((Only.refl _ UG).setCell 6 _) Q4.zb)
 have KGY:Keeps u6.heap.size u8 UH:=(hUG ▸ Keeps.only ((Only.refl _ u8).setCell 5 _) Q6.zb:Keeps u6.heap.size u8 UG).trans (hUH ▸ Keeps.only ((Only.refl _ UG).setCell 6 _) Q6.zb)
 have KTH:=(KTF.trans (Keeps.grow gu8)).trans KGH
 have KYH:=(KYF.trans (Keeps.grow gu8)).trans KGY
 have B9:=QH.bm
 have T9:=QH.t0
 have HK:Hid (∀ VF,Only w.heap.size UH VF→((∀ V',Keeps w.heap.size VF V'→MW V' ({ ms0 with kind:=K,xid:=X,cmd:=N1,chk:=(N2 == 2),en:={ y with pri:=N4,ta:=at_,tl:=TS.length,tc:=ct },ts:=TS }:Ms))∧MU ({ ms0 with kind:=K,xid:=X,cmd:=N1,chk:=(N2 == 2),en:={ y with pri:=N4,ta:=at_,tl:=TS.length,tc:=ct },ts:=TS }:Ms))∧Below w.heap.size w VF):=(show ∀ VF,_ from fun VF oF=>⟨kp2 (fun V' kV=>by
  have z4:w.heap.size < u4.heap.size:=Nat.lt_trans Q4.z0 Q4.zb
  have z6:w.heap.size < u6.heap.size:=Nat.lt_trans Q6.z0 Q6.zb
  have K8:=(KTH.trans (Keeps.only oF z4)).trans (kV.mono (Nat.le_of_lt z4))
  have K9:=(KYH.trans (Keeps.only oF z6)).trans (kV.mono (Nat.le_of_lt z6))
  have oy:=HY.out.2.2
  have ay:AWs y.la∧AWs y.lw:=by
   have h:=HAw.out
   rw [← HY.out.1] at h
   exact h
  exact mwf V' ⟨(HY.out.2.1.a.keep K9.size K9.block).ts,(HY.out.2.1.w.keep K9.size K9.block).ts,HY.out.2.1.na,HY.out.2.1.nw⟩ (HT.out.2.keep K8.size K8.block).ts rfl HFt.out.1 HT.out.1 ⟨oy.t0,oy.t1,oy.k0,oy.k1⟩ HFt.out.2 ay.1 ay.2 rfl rfl rfl rfl (show (0:Nat)≤100000 by decide)),oF.belowK (Nat.le_refl _) QH.g⟩)
 go_wp2_with (first | (refine load_R rfl (.tmp 3) rfl w2.heap.size ({ ms0 with kind:=K,xid:=X,cmd:=N1,chk:=(N2 == 2),en:={ y with pri:=N4,ta:=at_,tl:=TS.length,tc:=ct },ts:=TS }:Ms) rfl B9 ?_) | (refine store_R rfl (.tmp 2) (.tmp 133) rfl w.heap.size ({ ms0 with kind:=K,xid:=X,cmd:=N1,chk:=(N2 == 2),en:={ y with pri:=N4,ta:=at_,tl:=TS.length,tc:=ct },ts:=TS }:Ms) rfl rfl T9 ?_;intro VF bF tF oF))
 obtain ⟨⟨mw,mu⟩,gF⟩:=HK.out VF oF
 refine bodyPost_ret (resR (b:=w.heap.size) (m:=({ ms0 with kind:=K,xid:=X,cmd:=N1,chk:=(N2 == 2),en:={ y with pri:=N4,ta:=at_,tl:=TS.length,tc:=ct },ts:=TS }:Ms)) rfl rfl bF) rfl ?_
 exact ⟨({ ms0 with kind:=K,xid:=X,cmd:=N1,chk:=(N2 == 2),en:={ y with pri:=N4,ta:=at_,tl:=TS.length,tc:=ct },ts:=TS }:Ms),rfl,(show _=_ by rw [HM.out,← HY.out.1];rfl),mw,mu,gF⟩
end Go.Proofs.YtlcbfdiohcbpbaaGreatDoor

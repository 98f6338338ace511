import Derived.Test.YtlcbfdiohcbpbaaGreatDoorRBodyP
import Derived.Test.YtlcbfdiohcbpbaaGreatDoorRGr
namespace Go.Proofs.YtlcbfdiohcbpbaaGreatDoor
set_option maxRecDepth 20000
set_option maxHeartbeats 16000000
open Go.ChangeShapes Go.WideShapes Go.ChangeAt Go.RowKit
set_option linter.unusedVariables false
set_option linter.unusedSimpArgs false
def own15 (m:Ms):Ms:={ own0 m with cmd:=m.cmd,gid:=m.gid,gkd:=m.gkd,ga:=m.ga,gb:=m.gb,gc:=m.gc }
theorem start15 {w V:World} {m:Ms} (h:RW w m (own0 m) V):∃ U0 U1 U2 U3,V.setCell ⟨w.heap.size + 2,2,none⟩ (.int .i64 m.cmd)=U0∧U0.setCell ⟨w.heap.size + 2,14,none⟩ (.int .i64 m.gid)=U1∧U1.setCell ⟨w.heap.size + 2,15,none⟩ (.int .i64 m.gkd)=U2∧U2.setCell ⟨w.heap.size + 2,16,none⟩ (.slice m.ga m.gb.length m.gc)=U3∧(V.cell? ⟨w.heap.size,0,none⟩=some (.int .i64 m.kind)∧V.cell? ⟨w.heap.size,2,none⟩=some (.int .i64 m.cmd)∧V.cell? ⟨w.heap.size + 2,2,none⟩=some (.int .i64 0)∧V.frozen? ⟨w.heap.size + 2,2,none⟩=false)∧(U0.cell? ⟨w.heap.size,14,none⟩=some (.int .i64 m.gid)∧U0.cell? ⟨w.heap.size,15,none⟩=some (.int .i64 m.gkd)∧U0.cell? ⟨w.heap.size,16,none⟩=some (.slice m.ga m.gb.length m.gc)∧U0.cell? ⟨w.heap.size + 2,14,none⟩=some (.int .i64 0)∧U0.frozen? ⟨w.heap.size + 2,14,none⟩=false)∧(U1.cell? ⟨w.heap.size + 2,15,none⟩=some (.int .i64 0)∧U1.frozen? ⟨w.heap.size + 2,15,none⟩=false)∧(U2.cell? ⟨w.heap.size + 2,16,none⟩=some (.slice none 0 0)∧U2.frozen? ⟨w.heap.size + 2,16,none⟩=false)∧RW w m (own15 m) U3:=by
 have h1:=h.one 2 (.int .i64 m.cmd) { own0 m with cmd:=m.cmd } (by decide) rfl
 have h2:=h1.one 14 (.int .i64 m.gid) { own0 m with cmd:=m.cmd,gid:=m.gid } (by decide) rfl
 have h3:=h2.one 15 (.int .i64 m.gkd) { own0 m with cmd:=m.cmd,gid:=m.gid,gkd:=m.gkd } (by decide) rfl
 have h4:=h3.one 16 (.slice m.ga m.gb.length m.gc) (own15 m) (by decide) rfl
 exact ⟨_,_,_,_,rfl,rfl,rfl,rfl,⟨h.m 0 _ rfl,h.m 2 _ rfl,h.o 2 _ rfl,h.f 2 (by decide)⟩,⟨h1.m 14 _ rfl,h1.m 15 _ rfl,h1.m 16 _ rfl,h1.o 14 _ rfl,h1.f 14 (by decide)⟩,⟨h2.o 15 _ rfl,h2.f 15 (by decide)⟩,⟨h3.o 16 _ rfl,h3.f 16 (by decide)⟩,h4⟩
theorem grpX {w:World} {m o:Ms} {U:World} (R:RW w m o U):∃ XG,U.alloc (.cells #[.int .i64 m.gid,.int .i64 m.gkd,.slice m.ga m.gb.length m.gc] 29)=XG∧(XG.cell? ⟨U.heap.size,0,none⟩=some (.int .i64 m.gid)∧XG.cell? ⟨U.heap.size,1,none⟩=some (.int .i64 m.gkd)∧XG.cell? ⟨U.heap.size,2,none⟩=some (.slice m.ga m.gb.length m.gc))∧RW w m o XG∧U.heap.size < XG.heap.size:=by
 refine ⟨_,rfl,⟨by simp,by simp,by simp⟩,R.grow (by go_grown),by simp⟩
theorem bks_few (l:List B3) (h:l.length≤16):(bksS l).size≤8448:=by
 have:=bks_le l
 omega
theorem bk_as {b:B3} (h:bkB b=true) (O:ByteArray):O ++ pw (16 + ((encodeS b.2.2).size:Int)) 2 ++ pw b.2.1 2 ++ (if b.1=0 then ⟨#[255,255,255,255]⟩ else pw b.1 4) ++ ⟨#[255,255,255,255]⟩ ++ zeros 4 ++ encodeS b.2.2=O ++ bkS b:=by
 unfold bkB at h
 simp only [Bool.and_eq_true,inB_iff,decide_eq_true_eq] at h
 obtain ⟨⟨⟨⟨h1,h2⟩,h3,h4⟩,h5⟩,h6⟩:=h
 have hz:=encS_le b.2.2
 have e:(if b.1=0 then (⟨#[255,255,255,255]⟩:ByteArray) else pw b.1 4)=pb (wat b.1) 4:=by
  unfold wat
  by_cases h:b.1=0
  ·rw [if_pos h,if_pos h];decide +kernel
  ·rw [if_neg h,if_neg h];exact pw_eq _ _ h1 (by omega)
 rw [e,pw_eq _ _ (by omega) (by omega),pw_eq _ _ h3 (by omega)]
 unfold bkS
 simp only [ap_assoc]
 rfl
theorem rb15_f (m:Ms) (w:World) (mw:MW w m) (mu:MU m) (k0:(m.kind == 0)=false) (k20:(m.kind == 20)=false) (k21:(m.kind == 21)=false) (k1:(m.kind == 1)=false) (k2:(m.kind == 2)=false) (k3:(m.kind == 3)=false) (k12:(m.kind == 12)=false) (k13:(m.kind == 13)=false) (k14:(m.kind == 14)=false) (k15:(m.kind == 15)=true) (hg:grB m.gid m.gkd (m.gb.map Bk.b3)=false) :
    Calls Tryz.prog 19 #[msV m] w fun e w'=>e=.returned (.tuple #[.string (⟨#[]⟩),msV (own15 m),.bool false])∧Below w.heap.size w w':=by
  obtain ⟨W1,hW1,s1,f0,f1,hY,HV⟩:=rb_set m w
  have HGR:Hid (∀ X,Below w.heap.size w X→Calls Tryz.prog 43 #[.agg #[.int .i64 m.gid,.int .i64 m.gkd,.slice m.ga m.gb.length m.gc]] X fun e w'=>e=.returned (.bool false)∧Below X.heap.size X w'):=(show ∀ X,_ from fun X g=>hg ▸ rgr_any m.gid m.gkd m.ga m.gb m.gc X (mw.g.below g) mu.g mw.gn)
  clear hg mw mu
  go_enter Tryz.func19,Tryz.ntmps19
  go_wp2_with (first | (refine build_R rfl (.tmp 24) (.tmp 26) rfl m.kind m.xid rfl rfl ?_) | (refine store_R rfl (.tmp 5) (.tmp 27) rfl (w.heap.size + 2) (own0 m) rfl rfl hY ?_;intro V bV tV oV;obtain ⟨U0,U1,U2,U3,E0,E1,E2,E3,⟨a0_0,a0_1,a0_2,a0_3⟩,⟨a1_0,a1_1,a1_2,a1_3,a1_4⟩,⟨a2_0,a2_1⟩,⟨a3_0,a3_1⟩,R⟩:=start15 (HV.out V bV tV oV);obtain ⟨XG,hXG,⟨x0,x1,x2⟩,RG,zG⟩:=grpX R;have m1:=R.m 14 _ rfl;have m2:=R.m 15 _ rfl;have m3:=R.m 16 _ rfl;clear bV tV oV HV hY hW1 f0 f1 s1))
  clear E0 E1 E2 E3 a0_0 a0_1 a0_2 a0_3 a1_0 a1_1 a1_2 a1_3 a1_4 a2_0 a2_1 a3_0 a3_1 m1 m2 m3 hXG R
  refine (HGR.out _ RG.g).mono ?_
  rintro x w1 ⟨rfl,g1⟩
  have R1:=RG.grow g1
  clear RG g1 x0 x1 x2 zG
  go_wp2_with fail
  have HO:Hid (∀ u,(∃ n:GhT w1 (w.heap.size + 1),u=n.w)→Bm u (w.heap.size + 2) (own15 m)):=(show ∀ u,_ from R1.holes)
  have HBU:Hid (w.heap.size + 1 < w1.heap.size):=(show _ < _ by have:=R1.z;omega)
  refine wp_region_R [_,_] [_] _ 0 3 236 5 (w.heap.size + 1) (w.heap.size + 2) (own15 m) _ (by kernel_rfl) (by kernel_rfl) (by kernel_rfl) rfl rfl rfl (by decide) rfl rfl (by kernel_rfl) rfl rfl rfl rfl (show 236 < 349 by decide) R1.t1 R1.b2 (by have:=R1.z;omega) (by omega) ?_
  dsimp only [List.cons_append,List.nil_append,repOp]
  repeat (first
    | (go_big_quiet_want;refine quiet_R (.tmp 5) rfl (w.heap.size + 2) (own15 m) rfl HO.out ?_;go_big_quiet_on;simp only [Act.put,List.setIfInBounds_toArray,List.set_cons_succ,List.set_cons_zero])
    | go_big_quiet_step (first | fail))
  refine wpQuiet_nil ?_
  intro w' hw'
  obtain ⟨B,H⟩:=gh_end (own15 m) R1.t1 hw'
  generalize sM w' (w.heap.size + 1) (own15 m)=V2 at *
  have HE:Hid (Below w.heap.size w V2):=(show Below _ _ _ from R1.done H)
  clear hw' HO HBU H R1
  go_wp2_with fail
  refine bodyPost_ret (resSMb (b:=w.heap.size + 1) (m:=own15 m) rfl rfl B) rfl ?_
  exact ⟨rfl,HE.out⟩
theorem rb15_t (m:Ms) (w:World) (mw:MW w m) (mu:MU m) (k0:(m.kind == 0)=false) (k20:(m.kind == 20)=false) (k21:(m.kind == 21)=false) (k1:(m.kind == 1)=false) (k2:(m.kind == 2)=false) (k3:(m.kind == 3)=false) (k12:(m.kind == 12)=false) (k13:(m.kind == 13)=false) (k14:(m.kind == 14)=false) (k15:(m.kind == 15)=true) (hg:grB m.gid m.gkd (m.gb.map Bk.b3)=true) :
    Calls Tryz.prog 19 #[msV m] w fun e w'=>e=.returned (.tuple #[.string (pw m.cmd 2 ++ pw (m.gkd - 1) 1 ++ ⟨#[0]⟩ ++ pw m.gid 4 ++ bksS (m.gb.map Bk.b3)),msV (own15 m),.bool (inB m.cmd 0 2)])∧Below w.heap.size w w':=by
  obtain ⟨W1,hW1,s1,f0,f1,hY,HV⟩:=rb_set m w
  have HGR:Hid (∀ X,Below w.heap.size w X→Calls Tryz.prog 43 #[.agg #[.int .i64 m.gid,.int .i64 m.gkd,.slice m.ga m.gb.length m.gc]] X fun e w'=>e=.returned (.bool true)∧Below X.heap.size X w'):=(show ∀ X,_ from fun X g=>hg ▸ rgr_any m.gid m.gkd m.ga m.gb m.gc X (mw.g.below g) mu.g mw.gn)
  obtain ⟨g16,i0,i1,k0',k1',hall⟩:=grB_few hg
  rw [List.length_map] at g16
  have HAll:Hid (∀ x ∈ m.gb,bkB x.b3=true):=(show ∀ x ∈ m.gb,_ from fun x hx=>hall _ (List.mem_map_of_mem hx))
  have HBs:Hid (∀ X,Below w.heap.size w X→Bs X m.ga m.gb):=(show ∀ X,_ from fun X g=>mw.g.below g)
  have HUs:Hid (∀ b ∈ m.gb,AWs b.l):=(show ∀ b ∈ m.gb,AWs b.l from mu.g)
  have HA:Hid (∀ (x:Bk) w,BW w x→AWs x.l→Calls Tryz.prog 40 #[.slice x.a x.l.length x.c,.int .i64 8] w fun e w'=>e=.returned (.tuple #[.string (encodeS x.l),.bool (mostA x.l 8)])∧Below w.heap.size w w'):=(show ∀ x w,_ from fun x w hb ha=>r8acts x.a x.l x.c 8 w hb.t hb.n ha)
  have HPa:Hid (∀ n w,Calls Tryz.prog 21 #[.int .i64 n,.int .i64 2] w fun e w'=>e=.returned (.string (pw n 2))∧Below w.heap.size w w'):=(show ∀ n w,_ from fun n w=>r8put2 n w)
  have HPb:Hid (∀ n w,Calls Tryz.prog 21 #[.int .i64 n,.int .i64 4] w fun e w'=>e=.returned (.string (pw n 4))∧Below w.heap.size w w'):=(show ∀ n w,_ from fun n w=>r8put4 n w)
  have HZ4:Hid (∀ w,Calls Tryz.prog 39 #[.int .i64 4] w fun e w'=>e=.returned (.string (zeros 4))∧Below w.heap.size w w'):=(show ∀ w,_ from fun w=>r8z4 w)
  have HP1:Hid (∀ w,Calls Tryz.prog 21 #[.int .i64 m.cmd,.int .i64 2] w fun e w'=>e=.returned (.string (pw m.cmd 2))∧Below w.heap.size w w'):=(show ∀ w,_ from fun w=>r8put2 _ w)
  have HP2:Hid (∀ w,Calls Tryz.prog 21 #[.int .i64 (m.gkd - 1),.int .i64 1] w fun e w'=>e=.returned (.string (pw (m.gkd - 1) 1))∧Below w.heap.size w w'):=(show ∀ w,_ from fun w=>r8put1 _ w)
  have HP3:Hid (∀ w,Calls Tryz.prog 21 #[.int .i64 m.gid,.int .i64 4] w fun e w'=>e=.returned (.string (pw m.gid 4))∧Below w.heap.size w w'):=(show ∀ w,_ from fun w=>r8put4 _ w)
  have HI0:Hid (∀ w,Calls Tryz.prog 20 #[.int .i64 m.cmd,.int .i64 0,.int .i64 2] w fun e w'=>e=.returned (.bool (inB m.cmd 0 2))∧w'=w):=(show ∀ w,_ from fun w=>r8in _ _ _ w)
  have z1:=pw_size m.cmd 2
  have z2:=pw_size (m.gkd - 1) 1
  have z3:=pw_size m.gid 4
  generalize pw m.cmd 2=P1 at *
  generalize pw (m.gkd - 1) 1=P2 at *
  generalize pw m.gid 4=P3 at *
  have e1:∀ w,(Op.stringOp .add P1 P2).run Tryz.prog w=.ok (.string (P1 ++ P2)) w:=cat _ _ 2 1 (by omega) (by omega) (by decide)
  have y1:=cat_sz P1 P2 2 1 (by omega) (by omega)
  generalize P1 ++ P2=S1 at *
  have e2:∀ w,(Op.stringOp .add S1 ⟨#[0]⟩).run Tryz.prog w=.ok (.string (S1 ++ ⟨#[0]⟩)) w:=cat _ _ 3 1 (by omega) (by exact Nat.le_refl _) (by decide)
  have y2:=cat_sz S1 ⟨#[0]⟩ 3 1 (by omega) (by exact Nat.le_refl _)
  generalize S1 ++ ⟨#[0]⟩=S2 at *
  have e3:∀ w,(Op.stringOp .add S2 P3).run Tryz.prog w=.ok (.string (S2 ++ P3)) w:=cat _ _ 4 4 (by omega) (by omega) (by decide)
  have y3:=cat_sz S2 P3 4 4 (by omega) (by omega)
  generalize S2 ++ P3=S3 at *
  have HS3:Hid (S3.size≤8):=(show _≤_ by omega)
  have H16:Hid (m.gb.length≤16):=g16
  have hlen:(m.gb.length:Int)≤16:=by omega
  clear z1 z2 z3 y1 y2 y3 hg hall i0 i1 mw mu
  go_enter Tryz.func19,Tryz.ntmps19
  go_wp2_with (first | (refine build_R rfl (.tmp 24) (.tmp 26) rfl m.kind m.xid rfl rfl ?_) | (refine store_R rfl (.tmp 5) (.tmp 27) rfl (w.heap.size + 2) (own0 m) rfl rfl hY ?_;intro V bV tV oV;obtain ⟨U0,U1,U2,U3,E0,E1,E2,E3,⟨a0_0,a0_1,a0_2,a0_3⟩,⟨a1_0,a1_1,a1_2,a1_3,a1_4⟩,⟨a2_0,a2_1⟩,⟨a3_0,a3_1⟩,R⟩:=start15 (HV.out V bV tV oV);obtain ⟨XG,hXG,⟨x0,x1,x2⟩,RG,zG⟩:=grpX R;have m1:=R.m 14 _ rfl;have m2:=R.m 15 _ rfl;have m3:=R.m 16 _ rfl;clear bV tV oV HV hY hW1 f0 f1 s1))
  clear E0 E1 E2 E3 a0_0 a0_1 a0_2 a0_3 a1_0 a1_1 a1_2 a1_3 a1_4 a2_0 a2_1 a3_0 a3_1 m1 m2 m3 hXG R
  refine (HGR.out _ RG.g).mono ?_
  rintro x w1 ⟨rfl,g1⟩
  have R1:=RG.grow g1
  have X2:∀ X,Below w1.heap.size w1 X→X.cell? ⟨U3.heap.size,2,none⟩=some (.slice m.ga m.gb.length m.gc):=fun X g=>(World.cell?_of_block (w:=XG) ((g.block _ (Nat.lt_of_lt_of_le zG g1.size)).trans (g1.block _ zG))).trans x2
  have HX2:Hid (∀ X,Below w1.heap.size w1 X→X.cell? ⟨U3.heap.size,2,none⟩=some (.slice m.ga m.gb.length m.gc)):=(show ∀ X,_ from X2)
  have hc:∀ n:GrT w1,n.w.cell? ⟨U3.heap.size,0,none⟩=some (.int .i64 m.gid)∧n.w.cell? ⟨U3.heap.size,1,none⟩=some (.int .i64 m.gkd)∧n.w.cell? ⟨w.heap.size,2,none⟩=some (.int .i64 m.cmd):=fun n=>by
    have q:=(n.h.block _ (Nat.lt_of_lt_of_le zG g1.size)).trans (g1.block _ zG)
    exact ⟨(World.cell?_of_block (w:=XG) q).trans x0,(World.cell?_of_block (w:=XG) q).trans x1,(R1.grow n.h).m 2 _ rfl⟩
  clear RG g1 x0 x1 x2 zG X2
  go_wp2_with fail
  refine wp_region_grow (by kernel_rfl) (by kernel_rfl) ?_
  repeat (go_big_quiet_step (first | (go_at_call_of 21 (Value.int IntKind.i64 2);exact quiet_gr (HP1.out _)) | (go_at_call_of 21 (Value.int IntKind.i64 1);exact quiet_gr (HP2.out _)) | (go_at_call_of 21 (Value.int IntKind.i64 4);exact quiet_gr (HP3.out _))))
  refine wpQuiet_nil ?_
  rintro w2 hw'
  have g2:=gr_elim hw'
  clear hw' hc
  go_wp2_with fail
  go_loopw [17,18] (fun o i wr=>∃ k:Nat,k≤m.gb.length∧o=.string (S3 ++ bksS ((m.gb.take k).map Bk.b3))∧i=.int .i64 k∧Below w1.heap.size w1 wr) (fun _ i _=>m.gb.length - (intOf i).toNat)
  case atStart=>exact ⟨0,Nat.zero_le _,by simp [bksS,ap_e],rfl,g2⟩
  case round =>
    obtain ⟨k,hk,rfl,rfl,hbel⟩:=hrel
    have x2:=HX2.out _ hbel
    have HO:Hid ((S3 ++ bksS ((m.gb.take k).map Bk.b3)).size≤9000):=(show _≤_ by
      have q1:=bks_few ((m.gb.take k).map Bk.b3) (by have:=H16.out;simp;omega)
      have q2:=HS3.out
      rw [ByteArray.size_append];omega)
    by_cases hlt:k < m.gb.length
    · have hT:=HBs.out _ (btr R1.g hbel (Nat.le_refl _))
      obtain ⟨g,o,hga,hg,hcc⟩:=hT.at hlt
      rw [hga] at x2
      obtain ⟨c0,c1,c2⟩:=hcc k hlt
      have hW:=hT.1 m.gb[k] (List.getElem_mem hlt)
      have HB:Hid (bkB m.gb[k].b3=true):=(show _=_ from HAll.out _ (List.getElem_mem hlt))
      have HU:Hid (AWs m.gb[k].l):=(show AWs _ from HUs.out _ (List.getElem_mem hlt))
      have HN:Hid (bksS ((m.gb.take (k + 1)).map Bk.b3)=bksS ((m.gb.take k).map Bk.b3) ++ bkS m.gb[k].b3):=(show _=_ from bks_snoc _ _ hlt)
      clear hcc hT hga HX2 HBs HAll HUs
      obtain ⟨O,hO⟩:∃ O,S3 ++ bksS ((m.gb.take k).map Bk.b3)=O:=⟨_,rfl⟩
      rw [hO] at HO ⊢
      have HOe:Hid (S3 ++ bksS ((m.gb.take k).map Bk.b3)=O):=hO
      clear hO
      have hO:=HO.out
      generalize m.gb[k]=X at *
      obtain ⟨XB,hXB⟩:∃ XB,bx wr X=XB:=⟨_,rfl⟩
      have GB:Below wr.heap.size wr XB:=by rw [← hXB];go_grown
      have zB:wr.heap.size < XB.heap.size:=by rw [← hXB];simp
      have CB:Cb XB wr.heap.size 0 X:=hXB ▸ Cb.new wr X
      have HCB:Hid (∀ Y,Below XB.heap.size XB Y→Y.cell? ⟨wr.heap.size,0,none⟩=some (.int .i64 X.wa)∧Y.cell? ⟨wr.heap.size,1,none⟩=some (.int .i64 X.we)∧Below w1.heap.size w1 Y):=(show ∀ Y,_ from fun Y gY=>by
        obtain ⟨q0,q1,_⟩:=CB.below (B:=XB.heap.size) zB gY
        exact ⟨q0,q1,btr (btr hbel GB (Nat.le_refl _)) gY (Nat.le_refl _)⟩)
      have HXB:Hid (wr.alloc (.cells #[.int .i64 X.wa,.int .i64 X.we,.slice X.a X.l.length X.c] 53)=XB):=hXB
      have HAk:Hid (Calls Tryz.prog 40 #[.slice X.a X.l.length X.c,.int .i64 8] XB fun e w'=>e=.returned (.tuple #[.string (encodeS X.l),.bool (mostA X.l 8)])∧Below XB.heap.size XB w'):=(show Calls _ _ _ _ _ from HA.out X XB (hW.below GB) HU.out)
      have HAS:Hid (O ++ pw (16 + ((encodeS X.l).size:Int)) 2 ++ pw X.we 2 ++ (if X.wa=0 then ⟨#[255,255,255,255]⟩ else pw X.wa 4) ++ ⟨#[255,255,255,255]⟩ ++ zeros 4 ++ encodeS X.l=O ++ bkS X.b3):=(show _=_ from bk_as HB.out O)
      have HQ1:Hid (∀ w,Calls Tryz.prog 21 #[.int .i64 (16 + ((encodeS X.l).size:Int)),.int .i64 2] w fun e w'=>e=.returned (.string (pw (16 + ((encodeS X.l).size:Int)) 2))∧Below w.heap.size w w'):=(show ∀ w,_ from fun w=>HPa.out _ w)
      have HQ2:Hid (∀ w,Calls Tryz.prog 21 #[.int .i64 X.we,.int .i64 2] w fun e w'=>e=.returned (.string (pw X.we 2))∧Below w.heap.size w w'):=(show ∀ w,_ from fun w=>HPa.out _ w)
      have HQ3:Hid (∀ w,Calls Tryz.prog 21 #[.int .i64 X.wa,.int .i64 4] w fun e w'=>e=.returned (.string (pw X.wa 4))∧Below w.heap.size w w'):=(show ∀ w,_ from fun w=>HPb.out _ w)
      have hz:=encS_le X.l
      have v1:=pw_size (16 + ((encodeS X.l).size:Int)) 2
      have v2:=pw_size X.we 2
      have v3:=pw_size X.wa 4
      have v4:=zeros_size 4
      clear hXB GB zB CB hW
      generalize pw (16 + ((encodeS X.l).size:Int)) 2=Q1 at *
      generalize pw X.we 2=Q2 at *
      generalize pw X.wa 4=Q3 at *
      generalize zeros 4=Z4 at *
      generalize mostA X.l 8=MA at *
      generalize encodeS X.l=SA at *
      by_cases hw0:X.wa=0
      · rw [if_pos hw0] at HAS
        have k0w:(X.wa == 0)=true:=by simp [hw0]
        clear hw0
        clear HPa HPb
        have e1:∀ w,(Op.stringOp .add O Q1).run Tryz.prog w=.ok (.string (O ++ Q1)) w:=cat _ _ 9000 2 (by omega) (by omega) (by decide)
        have y1:=cat_sz O Q1 9000 2 (by omega) (by omega)
        generalize O ++ Q1=T1 at *
        have e2:∀ w,(Op.stringOp .add T1 Q2).run Tryz.prog w=.ok (.string (T1 ++ Q2)) w:=cat _ _ 9002 2 (by omega) (by omega) (by decide)
        have y2:=cat_sz T1 Q2 9002 2 (by omega) (by omega)
        generalize T1 ++ Q2=T2 at *
        have e3:∀ w,(Op.stringOp .add T2 ⟨#[255,255,255,255]⟩).run Tryz.prog w=.ok (.string (T2 ++ ⟨#[255,255,255,255]⟩)) w:=cat _ _ 9004 4 (by omega) (by exact Nat.le_refl _) (by decide)
        have y3:=cat_sz T2 ⟨#[255,255,255,255]⟩ 9004 4 (by omega) (by exact Nat.le_refl _)
        generalize T2 ++ ⟨#[255,255,255,255]⟩=T3 at *
        have e4:∀ w,(Op.stringOp .add T3 ⟨#[255,255,255,255]⟩).run Tryz.prog w=.ok (.string (T3 ++ ⟨#[255,255,255,255]⟩)) w:=cat _ _ 9008 4 (by omega) (by exact Nat.le_refl _) (by decide)
        have y4:=cat_sz T3 ⟨#[255,255,255,255]⟩ 9008 4 (by omega) (by exact Nat.le_refl _)
        generalize T3 ++ ⟨#[255,255,255,255]⟩=T4 at *
        have e5:∀ w,(Op.stringOp .add T4 Z4).run Tryz.prog w=.ok (.string (T4 ++ Z4)) w:=cat _ _ 9012 4 (by omega) (by omega) (by decide)
        have y5:=cat_sz T4 Z4 9012 4 (by omega) (by omega)
        generalize T4 ++ Z4=T5 at *
        have e6:∀ w,(Op.stringOp .add T5 SA).run Tryz.prog w=.ok (.string (T5 ++ SA)) w:=cat _ _ 9016 512 (by omega) (by omega) (by decide)
        have y6:=cat_sz T5 SA 9016 512 (by omega) (by omega)
        generalize T5 ++ SA=T6 at *
        go_wp2_with fail
        rw [HXB.out]
        refine HAk.out.mono ?_
        rintro r u1 ⟨rfl,h1⟩
        obtain ⟨d0,d1,b1⟩:=HCB.out _ h1
        go_wp2_with fail
        refine (HQ3.out _).mono ?_
        rintro r u2 ⟨rfl,h2⟩
        have h3:=btr h1 h2 (Nat.le_refl _)
        obtain ⟨d0',d1',b2⟩:=HCB.out _ h3
        have hc:∀ n:GrT u2,n.w.cell? ⟨wr.heap.size,1,none⟩=some (.int .i64 X.we):=fun n=>(HCB.out _ (btr h3 n.h (Nat.le_refl _))).2.1
        clear d0 d1 b1 h1 h2 h3 c0 c1 c2 x2
        go_wp2_with fail
        refine wp_region_grow (by kernel_rfl) (by kernel_rfl) ?_
        repeat (go_big_quiet_step (first | (go_at_call_of 21 (Value.int IntKind.i64 X.we);exact quiet_gr (HQ2.out _)) | (go_at_call 21;exact quiet_gr (HQ1.out _)) | (go_at_call 39;exact quiet_gr (HZ4.out _))))
        refine wpQuiet_nil ?_
        rintro u3 hw'
        have g3:=gr_elim hw'
        have b3:=btr b2 g3 (Nat.le_refl _)
        clear hw' hc g3 b2 d0' d1'
        go_wp2_with fail
        go_roundw
        case rel=>exact ⟨k + 1,by omega,(show _=_ by rw [HN.out,← ap_assoc,HOe.out,← HAS.out]),by go_num,b3⟩
        case measure=>simp [intOf];omega
      · rw [if_neg hw0] at HAS
        have k0w:(X.wa == 0)=false:=by simp [hw0]
        clear hw0
        clear HPa HPb
        have e1:∀ w,(Op.stringOp .add O Q1).run Tryz.prog w=.ok (.string (O ++ Q1)) w:=cat _ _ 9000 2 (by omega) (by omega) (by decide)
        have y1:=cat_sz O Q1 9000 2 (by omega) (by omega)
        generalize O ++ Q1=T1 at *
        have e2:∀ w,(Op.stringOp .add T1 Q2).run Tryz.prog w=.ok (.string (T1 ++ Q2)) w:=cat _ _ 9002 2 (by omega) (by omega) (by decide)
        have y2:=cat_sz T1 Q2 9002 2 (by omega) (by omega)
        generalize T1 ++ Q2=T2 at *
        have e3:∀ w,(Op.stringOp .add T2 Q3).run Tryz.prog w=.ok (.string (T2 ++ Q3)) w:=cat _ _ 9004 4 (by omega) (by omega) (by decide)
        have y3:=cat_sz T2 Q3 9004 4 (by omega) (by omega)
        generalize T2 ++ Q3=T3 at *
        have e4:∀ w,(Op.stringOp .add T3 ⟨#[255,255,255,255]⟩).run Tryz.prog w=.ok (.string (T3 ++ ⟨#[255,255,255,255]⟩)) w:=cat _ _ 9008 4 (by omega) (by exact Nat.le_refl _) (by decide)
        have y4:=cat_sz T3 ⟨#[255,255,255,255]⟩ 9008 4 (by omega) (by exact Nat.le_refl _)
        generalize T3 ++ ⟨#[255,255,255,255]⟩=T4 at *
        have e5:∀ w,(Op.stringOp .add T4 Z4).run Tryz.prog w=.ok (.string (T4 ++ Z4)) w:=cat _ _ 9012 4 (by omega) (by omega) (by decide)
        have y5:=cat_sz T4 Z4 9012 4 (by omega) (by omega)
        generalize T4 ++ Z4=T5 at *
        have e6:∀ w,(Op.stringOp .add T5 SA).run Tryz.prog w=.ok (.string (T5 ++ SA)) w:=cat _ _ 9016 512 (by omega) (by omega) (by decide)
        have y6:=cat_sz T5 SA 9016 512 (by omega) (by omega)
        generalize T5 ++ SA=T6 at *
        go_wp2_with fail
        rw [HXB.out]
        refine HAk.out.mono ?_
        rintro r u1 ⟨rfl,h1⟩
        obtain ⟨d0,d1,b1⟩:=HCB.out _ h1
        go_wp2_with fail
        refine (HQ3.out _).mono ?_
        rintro r u2 ⟨rfl,h2⟩
        have h3:=btr h1 h2 (Nat.le_refl _)
        obtain ⟨d0',d1',b2⟩:=HCB.out _ h3
        have hc:∀ n:GrT u2,n.w.cell? ⟨wr.heap.size,1,none⟩=some (.int .i64 X.we):=fun n=>(HCB.out _ (btr h3 n.h (Nat.le_refl _))).2.1
        clear d0 d1 b1 h1 h2 h3 c0 c1 c2 x2
        go_wp2_with fail
        refine wp_region_grow (by kernel_rfl) (by kernel_rfl) ?_
        repeat (go_big_quiet_step (first | (go_at_call_of 21 (Value.int IntKind.i64 X.we);exact quiet_gr (HQ2.out _)) | (go_at_call 21;exact quiet_gr (HQ1.out _)) | (go_at_call 39;exact quiet_gr (HZ4.out _))))
        refine wpQuiet_nil ?_
        rintro u3 hw'
        have g3:=gr_elim hw'
        have b3:=btr b2 g3 (Nat.le_refl _)
        clear hw' hc g3 b2 d0' d1'
        go_wp2_with fail
        go_roundw
        case rel=>exact ⟨k + 1,by omega,(show _=_ by rw [HN.out,← ap_assoc,HOe.out,← HAS.out]),by go_num,b3⟩
        case measure=>simp [intOf];omega
    · have hk':k=m.gb.length:=by omega
      subst hk'
      have R3:=R1.grow hbel
      rw [List.take_length]
      clear HO HX2 HBs HAll HUs
      obtain ⟨O,hO⟩:∃ O,S3 ++ bksS (m.gb.map Bk.b3)=O:=⟨_,rfl⟩
      rw [hO]
      have HOe:Hid (S3 ++ bksS (m.gb.map Bk.b3)=O):=hO
      clear hO
      go_wp2_with fail
      have hc:∀ n:GhT wr (w.heap.size + 1),n.w.cell? ⟨w.heap.size,2,none⟩=some (.int .i64 m.cmd):=fun n=>R3.gm 2 _ rfl n
      have HO:Hid (∀ u,(∃ n:GhT wr (w.heap.size + 1),u=n.w)→Bm u (w.heap.size + 2) (own15 m)):=(show ∀ u,_ from R3.holes)
      have HBU:Hid (w.heap.size + 1 < wr.heap.size):=(show _ < _ by have:=R3.z;omega)
      refine wp_region_R [_,_,_,_,_,_] [_] _ 1 3 292 5 (w.heap.size + 1) (w.heap.size + 2) (own15 m) _ (by kernel_rfl) (by kernel_rfl) (by kernel_rfl) rfl rfl rfl (by decide) rfl rfl (by kernel_rfl) rfl rfl rfl rfl (show 292 < 349 by decide) R3.t1 R3.b2 (by have:=R3.z;omega) (by omega) ?_
      dsimp only [List.cons_append,List.nil_append,repOp]
      repeat (first
        | (go_big_quiet_want;refine quiet_R (.tmp 5) rfl (w.heap.size + 2) (own15 m) rfl HO.out ?_;go_big_quiet_on;simp only [Act.put,List.setIfInBounds_toArray,List.set_cons_succ,List.set_cons_zero])
        | go_big_quiet_step (first | (go_at_call 20;exact quiet_ghs (HI0.out _))))
      refine wpQuiet_nil ?_
      intro w' hw'
      obtain ⟨B,H⟩:=gh_end (own15 m) R3.t1 hw'
      generalize sM w' (w.heap.size + 1) (own15 m)=V2 at *
      have HE:Hid (Below w.heap.size w V2):=(show Below _ _ _ from R3.done H)
      clear hw' HO HBU H R3 hc
      go_wp2_with fail
      refine bodyPost_ret (resSMb (b:=w.heap.size + 1) (m:=own15 m) rfl rfl B) rfl ?_
      exact ⟨by rw [HOe.out];rfl,HE.out⟩
end Go.Proofs.YtlcbfdiohcbpbaaGreatDoor

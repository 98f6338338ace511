import Derived.Test.YtlcbfdiohcbpbaaGreatDoorRBA
import Derived.Test.YtlcbfdiohcbpbaaGreatDoorZS5
import Derived.Test.YtlcbfdiohcbpbaaGreatDoorZW2
namespace Go.Proofs.YtlcbfdiohcbpbaaGreatDoor
set_option maxRecDepth 20000
set_option maxHeartbeats 16000000
open Go.ChangeShapes Go.WideShapes Go.ChangeAt Go.RowKit
set_option linter.unusedVariables false
set_option linter.unusedSimpArgs false
theorem s_ent (p:Int) (l:List Mt.T) (s:Sp):sEnt p l s 0 [] sp0=noEnt p l s:=by
 unfold sEnt noEnt sSp noSp sp0
 have e1:Mt.sameB l []=(l.length == 0):=by cases l <;> simp [Mt.sameB]
 have e2:∀ k:List A,sameB k []=(k.length == 0):=fun k=>by cases k <;> simp [sameB]
 have e3:∀ b:Bool,(b == false) = !b:=fun b=>by cases b <;> rfl
 rw [e1,e2,e2,e3]
theorem s_grp (i k:Int) (l:List B3):sGrp i k l 0 0 []=noGrp i k l:=by
 unfold sGrp noGrp
 cases l <;> simp [sBks]
theorem s_la (l:List A):sameB l []=(l.length == 0):=by cases l <;> simp [sameB]
theorem s_b (b:Bool):(b == false) = !b:=by cases b <;> rfl
theorem s_dat (d:ByteArray):(d.toList == (⟨#[]⟩:ByteArray).toList)=(d.size == 0):=by
 have e:(⟨#[]⟩:ByteArray).toList=[]:=by rw [ByteArray.toList_eq]
 rw [e,ByteArray.toList_eq]
 by_cases h:d.size=0
 ·rw [empty_of h];rfl
 ·have hl:d.data.toList≠[]:=fun hn=>h (by have:=congrArg List.length hn;simpa using this)
  rw [beq_eq_false_iff_ne.2 hl,beq_eq_false_iff_ne.2 h]
theorem s_met (a b c:Int):sMet a b c 0 0 0=noMet a b c:=rfl
theorem s_ent1 (p:Int) (l:List Mt.T) (s:Sp):sEnt p l s p l s=true:=by
 have:=sameM_refl ⟨0,0,0,false,p,l,s,0,0,[],0,0,0,0,0,0,false,[],⟨#[]⟩⟩
 unfold sameM at this
 simp only [Bool.and_eq_true] at this
 exact this.1.1.1.1.1.1.1.1.2
theorem s_grp1 (i k:Int) (l:List B3):sGrp i k l i k l=true:=by unfold sGrp;simp [sBks_refl]
theorem s_met1 (a b c:Int):sMet a b c a b c=true:=by unfold sMet;simp
theorem same_own (m:Ms):sameM m.msg (ownS m).msg=bareB m.msg:=by
 rcases kinds m.kind with k | k | k | k | k | k | k | k | k | k | k | k
 case inr.inr.inr.inr.inr.inr.inr.inr.inr.inr.inr =>
  obtain ⟨k0,k1,k2,k3,k12,k13,k14,k15,k20,k21,k29⟩:=k
  have e:ownS m=own0 m:=by
   simp only [beq_eq_false_iff_ne] at k0 k1 k2 k3 k12 k13 k14 k15 k20 k21 k29
   unfold ownS;simp [k1,k2,k3,k12,k13,k14,k15,k29]
  rw [e]
  simp only [sameM,bareB,Ms.msg,own0,ms0,en0_sp,show en0.pri=0 from rfl,List.map_nil,s_ent,s_grp,s_met,s_la,s_b,s_dat,beq_self_eq_true,Bool.true_and,Bool.false_or,k1,k2,k3,k12,k13,k14,k15,k29]
 ·have e:ownS m=own0 m:=by unfold ownS;simp [k]
  rw [e]
  simp only [sameM,bareB,Ms.msg,own0,own1,own2,own12,own13,own14,own15,own29,ms0,en0_sp,show en0.pri=0 from rfl,List.map_nil,s_ent,s_grp,s_met,s_la,s_b,s_dat,s_ent1,s_grp1,s_met1,sameB_refl,beq_self_eq_true,Bool.true_and,Bool.and_true,k]
  simp
 ·have e:ownS m=own1 m:=by unfold ownS;simp [k]
  rw [e]
  simp only [sameM,bareB,Ms.msg,own0,own1,own2,own12,own13,own14,own15,own29,ms0,en0_sp,show en0.pri=0 from rfl,List.map_nil,s_ent,s_grp,s_met,s_la,s_b,s_dat,s_ent1,s_grp1,s_met1,sameB_refl,beq_self_eq_true,Bool.true_and,Bool.and_true,k]
  simp
 ·have e:ownS m=own2 m:=by unfold ownS;simp [k]
  rw [e]
  simp only [sameM,bareB,Ms.msg,own0,own1,own2,own12,own13,own14,own15,own29,ms0,en0_sp,show en0.pri=0 from rfl,List.map_nil,s_ent,s_grp,s_met,s_la,s_b,s_dat,s_ent1,s_grp1,s_met1,sameB_refl,beq_self_eq_true,Bool.true_and,Bool.and_true,k]
  simp
 ·have e:ownS m=own2 m:=by unfold ownS;simp [k]
  rw [e]
  simp only [sameM,bareB,Ms.msg,own0,own1,own2,own12,own13,own14,own15,own29,ms0,en0_sp,show en0.pri=0 from rfl,List.map_nil,s_ent,s_grp,s_met,s_la,s_b,s_dat,s_ent1,s_grp1,s_met1,sameB_refl,beq_self_eq_true,Bool.true_and,Bool.and_true,k]
  simp
 ·have e:ownS m=own12 m m.live:=by unfold ownS;simp [k]
  rw [e]
  simp only [sameM,bareB,Ms.msg,own0,own1,own2,own12,own13,own14,own15,own29,ms0,en0_sp,show en0.pri=0 from rfl,List.map_nil,s_ent,s_grp,s_met,s_la,s_b,s_dat,s_ent1,s_grp1,s_met1,sameB_refl,beq_self_eq_true,Bool.true_and,Bool.and_true,k]
  simp
 ·have e:ownS m=own13 m:=by unfold ownS;simp [k]
  rw [e]
  simp only [sameM,bareB,Ms.msg,own0,own1,own2,own12,own13,own14,own15,own29,ms0,en0_sp,show en0.pri=0 from rfl,List.map_nil,s_ent,s_grp,s_met,s_la,s_b,s_dat,s_ent1,s_grp1,s_met1,sameB_refl,beq_self_eq_true,Bool.true_and,Bool.and_true,k]
  simp
 ·have e:ownS m=own14 m m.chk:=by unfold ownS;simp [k]
  rw [e]
  simp only [sameM,bareB,Ms.msg,own0,own1,own2,own12,own13,own14,own15,own29,ms0,en0_sp,show en0.pri=0 from rfl,List.map_nil,s_ent,s_grp,s_met,s_la,s_b,s_dat,s_ent1,s_grp1,s_met1,sameB_refl,beq_self_eq_true,Bool.true_and,Bool.and_true,k]
  simp
 ·have e:ownS m=own15 m:=by unfold ownS;simp [k]
  rw [e]
  simp only [sameM,bareB,Ms.msg,own0,own1,own2,own12,own13,own14,own15,own29,ms0,en0_sp,show en0.pri=0 from rfl,List.map_nil,s_ent,s_grp,s_met,s_la,s_b,s_dat,s_ent1,s_grp1,s_met1,sameB_refl,beq_self_eq_true,Bool.true_and,Bool.and_true,k]
  simp
 ·have e:ownS m=own0 m:=by unfold ownS;simp [k]
  rw [e]
  simp only [sameM,bareB,Ms.msg,own0,own1,own2,own12,own13,own14,own15,own29,ms0,en0_sp,show en0.pri=0 from rfl,List.map_nil,s_ent,s_grp,s_met,s_la,s_b,s_dat,s_ent1,s_grp1,s_met1,sameB_refl,beq_self_eq_true,Bool.true_and,Bool.and_true,k]
  simp
 ·have e:ownS m=own0 m:=by unfold ownS;simp [k]
  rw [e]
  simp only [sameM,bareB,Ms.msg,own0,own1,own2,own12,own13,own14,own15,own29,ms0,en0_sp,show en0.pri=0 from rfl,List.map_nil,s_ent,s_grp,s_met,s_la,s_b,s_dat,s_ent1,s_grp1,s_met1,sameB_refl,beq_self_eq_true,Bool.true_and,Bool.and_true,k]
  simp
 ·have e:ownS m=own29 m:=by unfold ownS;simp [k]
  rw [e]
  simp only [sameM,bareB,Ms.msg,own0,own1,own2,own12,own13,own14,own15,own29,ms0,en0_sp,show en0.pri=0 from rfl,List.map_nil,s_ent,s_grp,s_met,s_la,s_b,s_dat,s_ent1,s_grp1,s_met1,sameB_refl,beq_self_eq_true,Bool.true_and,Bool.and_true,k]
  simp
theorem ownS_w {m:Ms} {w:World} (h:MW w m):MW w (ownS m):=by
 have h0:=ms0_w w
 unfold ownS
 split
 ·exact ⟨h0.e,h0.t,h0.tl,h0.tn,h0.tc,h0.g,h0.gn,h0.a,h0.an,h.d⟩
 split
 ·exact ⟨h0.e,h0.t,h0.tl,h0.tn,h0.tc,h0.g,h0.gn,h0.a,h0.an,h.d⟩
 split
 ·exact ⟨h0.e,h0.t,h0.tl,h0.tn,h0.tc,h0.g,h0.gn,h0.a,h0.an,h0.d⟩
 split
 ·exact ⟨h0.e,h0.t,h0.tl,h0.tn,h0.tc,h0.g,h0.gn,h.a,h.an,h.d⟩
 split
 ·exact ⟨h.e,h.t,h.tl,h.tn,h.tc,h0.g,h0.gn,h0.a,h0.an,h0.d⟩
 split
 ·exact ⟨h0.e,h0.t,h0.tl,h0.tn,h0.tc,h.g,h.gn,h0.a,h0.an,h0.d⟩
 split
 ·exact ⟨h0.e,h0.t,h0.tl,h0.tn,h0.tc,h0.g,h0.gn,h0.a,h0.an,h0.d⟩
 ·exact ⟨h0.e,h0.t,h0.tl,h0.tn,h0.tc,h0.g,h0.gn,h0.a,h0.an,h0.d⟩
theorem err_of {m:Ms} (h:rightM m.msg=false):encM m.msg=⟨#[]⟩∧errM m.msg=1:=by
 constructor
 ·unfold encM;rw [h];rfl
 ·unfold errM;rw [h];rfl
theorem renc8_f (m:Ms) (w:World) (mw:MW w m) (mu:MU m) (ho:ownB m.msg=false):Calls Tryz.prog 11 #[msV m] w fun e w'=>e=.returned (.tuple #[.string (encM m.msg),.int .i64 (errM m.msg)])∧Below w.heap.size w w':=by
 obtain ⟨W1,hW1⟩:∃ W1,rx w m=W1:=⟨_,rfl⟩
 have b1:Bm W1 w.heap.size m:=hW1 ▸ Bm.rnew w m
 have G1:Below w.heap.size w W1:=by rw [← hW1];go_grown
 have z1:w.heap.size < W1.heap.size:=by rw [← hW1];simp
 have HL:Hid (Bm (rx w m) w.heap.size m):=Bm.rnew w m
 have HB:Hid (∀ w1,Below W1.heap.size W1 w1→Bm w1 w.heap.size m∧w.heap.size < w1.heap.size∧Below w.heap.size w w1∧MW w1 m∧MW w1 (ownS m)):=(show ∀ w1,_ from fun w1 g=>⟨b1.below z1 g,Nat.lt_of_lt_of_le z1 g.size,btr G1 g (Nat.le_refl _),mw.below (btr G1 g (Nat.le_refl _)),ownS_w (mw.below (btr G1 g (Nat.le_refl _)))⟩)
 have HW1:Hid (w.alloc (.cells #[.int .i64 m.kind,.int .i64 m.xid,.int .i64 m.cmd,.bool m.chk,.int .i64 m.en.tab,.int .i64 m.en.pri,.slice m.en.ta m.en.tl m.en.tc,.slice m.en.aa m.en.la.length m.en.ca,.slice m.en.aw m.en.lw.length m.en.cw,.bool m.en.clr,.int .u64 m.en.mt,.int .u64 m.en.mm,.int .i64 m.en.met,.int .i64 m.en.go,.int .i64 m.gid,.int .i64 m.gkd,.slice m.ga m.gb.length m.gc,.int .i64 m.mid,.int .i64 m.mra,.int .i64 m.mbu,.int .i64 m.typ,.int .i64 m.cod,.int .i64 m.prt,.bool m.live,.slice m.aa m.la.length m.ca,.string m.dat] 42)=W1):=hW1
 have HBo:Hid (Calls Tryz.prog 19 #[msV m] W1 fun e w'=>∃ s,e=.returned (.tuple #[.string s,msV (ownS m),.bool false])∧Hid (false=true→s=bodyM m.msg)∧Below W1.heap.size W1 w'):=(show Calls _ _ _ _ _ from (rbody_any m W1 (mw.below G1) mu).mono fun _ _ ⟨s,h1,h2,h3⟩=>⟨s,by rw [ho] at h1;exact h1,(show _→_ from fun _=>by contradiction),h3⟩)
 obtain ⟨e1,e2⟩:=err_of (m:=m) (show (inB m.xid 0 4294967295 && ownB m.msg && bareB m.msg)=false by rw [ho];simp)
 rw [e1,e2]
 clear e1 e2
 clear hW1 b1 G1 z1 mw mu ho
 go_enter Tryz.func11,Tryz.ntmps11
 go_wp2_with (refine load_Rg rfl (.tmp 1) rfl w.heap.size m rfl HL.out ?_)
 rw [HW1.out]
 refine HBo.out.mono ?_
 rintro r w1 ⟨s,rfl,HSS,g1⟩
 have HZ:Hid (∀ V,Only w1.heap.size (w1.alloc (.cells #[.int .i64 0,.int .i64 0,.int .i64 0,.bool false,.int .i64 0,.int .i64 0,.slice none 0 0,.slice none 0 0,.slice none 0 0,.bool false,.int .u64 0,.int .u64 0,.int .i64 0,.int .i64 0,.int .i64 0,.int .i64 0,.slice none 0 0,.int .i64 0,.int .i64 0,.int .i64 0,.int .i64 0,.int .i64 0,.int .i64 0,.bool false,.slice none 0 0,.string ⟨#[]⟩] 42)) V→Below W1.heap.size W1 V∧w1.heap.size < V.heap.size):=(show ∀ V,_ from fun V o=>by
  have gA:Below w1.heap.size w1 (w1.alloc (.cells #[.int .i64 0,.int .i64 0,.int .i64 0,.bool false,.int .i64 0,.int .i64 0,.slice none 0 0,.slice none 0 0,.slice none 0 0,.bool false,.int .u64 0,.int .u64 0,.int .i64 0,.int .i64 0,.int .i64 0,.int .i64 0,.slice none 0 0,.int .i64 0,.int .i64 0,.int .i64 0,.int .i64 0,.int .i64 0,.int .i64 0,.bool false,.slice none 0 0,.string ⟨#[]⟩] 42)):=by go_grown
  exact ⟨btr g1 (o.belowK (Nat.le_refl _) gA) (Nat.le_refl _),by rw [o.size];simp⟩)
 clear g1
 go_wp2_with (refine store_R rfl (.tmp 5) (.tmp 11) rfl w1.heap.size (ownS m) rfl rfl (there_new _ _ _) ?_;intro V bV tV oV;obtain ⟨g2,zV⟩:=HZ.out _ oV;obtain ⟨b2,y2,G2,mw2,mo2⟩:=HB.out _ g2;have c1:=b2 1 _ rfl;rw [Nat.zero_add] at c1;clear oV tV)
 go_ret2
 exact ⟨rfl,G2⟩
theorem renc8_tf (m:Ms) (w:World) (mw:MW w m) (mu:MU m) (ho:ownB m.msg=true) (hx:inB m.xid 0 4294967295=false):Calls Tryz.prog 11 #[msV m] w fun e w'=>e=.returned (.tuple #[.string (encM m.msg),.int .i64 (errM m.msg)])∧Below w.heap.size w w':=by
 obtain ⟨W1,hW1⟩:∃ W1,rx w m=W1:=⟨_,rfl⟩
 have b1:Bm W1 w.heap.size m:=hW1 ▸ Bm.rnew w m
 have G1:Below w.heap.size w W1:=by rw [← hW1];go_grown
 have z1:w.heap.size < W1.heap.size:=by rw [← hW1];simp
 have HL:Hid (Bm (rx w m) w.heap.size m):=Bm.rnew w m
 have HB:Hid (∀ w1,Below W1.heap.size W1 w1→Bm w1 w.heap.size m∧w.heap.size < w1.heap.size∧Below w.heap.size w w1∧MW w1 m∧MW w1 (ownS m)):=(show ∀ w1,_ from fun w1 g=>⟨b1.below z1 g,Nat.lt_of_lt_of_le z1 g.size,btr G1 g (Nat.le_refl _),mw.below (btr G1 g (Nat.le_refl _)),ownS_w (mw.below (btr G1 g (Nat.le_refl _)))⟩)
 have HW1:Hid (w.alloc (.cells #[.int .i64 m.kind,.int .i64 m.xid,.int .i64 m.cmd,.bool m.chk,.int .i64 m.en.tab,.int .i64 m.en.pri,.slice m.en.ta m.en.tl m.en.tc,.slice m.en.aa m.en.la.length m.en.ca,.slice m.en.aw m.en.lw.length m.en.cw,.bool m.en.clr,.int .u64 m.en.mt,.int .u64 m.en.mm,.int .i64 m.en.met,.int .i64 m.en.go,.int .i64 m.gid,.int .i64 m.gkd,.slice m.ga m.gb.length m.gc,.int .i64 m.mid,.int .i64 m.mra,.int .i64 m.mbu,.int .i64 m.typ,.int .i64 m.cod,.int .i64 m.prt,.bool m.live,.slice m.aa m.la.length m.ca,.string m.dat] 42)=W1):=hW1
 have HBo:Hid (Calls Tryz.prog 19 #[msV m] W1 fun e w'=>∃ s,e=.returned (.tuple #[.string s,msV (ownS m),.bool true])∧Hid (true=true→s=bodyM m.msg)∧Below W1.heap.size W1 w'):=(show Calls _ _ _ _ _ from (rbody_any m W1 (mw.below G1) mu).mono fun _ _ ⟨s,h1,h2,h3⟩=>⟨s,by rw [ho] at h1;exact h1,(show _→_ from fun _=>h2 ho),h3⟩)
 have HI:Hid (∀ w,Calls Tryz.prog 20 #[.int .i64 m.xid,.int .i64 0,.int .i64 4294967295] w fun e w'=>e=.returned (.bool false)∧w'=w):=(show ∀ w,_ from fun w=>hx ▸ r8in _ _ _ w)
 obtain ⟨e1,e2⟩:=err_of (m:=m) (show (inB m.xid 0 4294967295 && ownB m.msg && bareB m.msg)=false by rw [hx];rfl)
 rw [e1,e2]
 clear e1 e2
 clear hW1 b1 G1 z1 mw mu ho hx
 go_enter Tryz.func11,Tryz.ntmps11
 go_wp2_with (refine load_Rg rfl (.tmp 1) rfl w.heap.size m rfl HL.out ?_)
 rw [HW1.out]
 refine HBo.out.mono ?_
 rintro r w1 ⟨s,rfl,HSS,g1⟩
 have HZ:Hid (∀ V,Only w1.heap.size (w1.alloc (.cells #[.int .i64 0,.int .i64 0,.int .i64 0,.bool false,.int .i64 0,.int .i64 0,.slice none 0 0,.slice none 0 0,.slice none 0 0,.bool false,.int .u64 0,.int .u64 0,.int .i64 0,.int .i64 0,.int .i64 0,.int .i64 0,.slice none 0 0,.int .i64 0,.int .i64 0,.int .i64 0,.int .i64 0,.int .i64 0,.int .i64 0,.bool false,.slice none 0 0,.string ⟨#[]⟩] 42)) V→Below W1.heap.size W1 V∧w1.heap.size < V.heap.size):=(show ∀ V,_ from fun V o=>by
  have gA:Below w1.heap.size w1 (w1.alloc (.cells #[.int .i64 0,.int .i64 0,.int .i64 0,.bool false,.int .i64 0,.int .i64 0,.slice none 0 0,.slice none 0 0,.slice none 0 0,.bool false,.int .u64 0,.int .u64 0,.int .i64 0,.int .i64 0,.int .i64 0,.int .i64 0,.slice none 0 0,.int .i64 0,.int .i64 0,.int .i64 0,.int .i64 0,.int .i64 0,.int .i64 0,.bool false,.slice none 0 0,.string ⟨#[]⟩] 42)):=by go_grown
  exact ⟨btr g1 (o.belowK (Nat.le_refl _) gA) (Nat.le_refl _),by rw [o.size];simp⟩)
 clear g1
 go_wp2_with (refine store_R rfl (.tmp 5) (.tmp 11) rfl w1.heap.size (ownS m) rfl rfl (there_new _ _ _) ?_;intro V bV tV oV;obtain ⟨g2,zV⟩:=HZ.out _ oV;obtain ⟨b2,y2,G2,mw2,mo2⟩:=HB.out _ g2;have c1:=b2 1 _ rfl;rw [Nat.zero_add] at c1;clear oV tV)
 refine (HI.out _).mono ?_
 rintro r w3 ⟨rfl,z⟩
 obtain rfl:V=w3:=z.symm
 go_wp2_with fail
 go_ret2
 exact ⟨rfl,G2⟩
theorem renc8_ttf (m:Ms) (w:World) (mw:MW w m) (mu:MU m) (ho:ownB m.msg=true) (hx:inB m.xid 0 4294967295=true) (hb:bareB m.msg=false):Calls Tryz.prog 11 #[msV m] w fun e w'=>e=.returned (.tuple #[.string (encM m.msg),.int .i64 (errM m.msg)])∧Below w.heap.size w w':=by
 obtain ⟨W1,hW1⟩:∃ W1,rx w m=W1:=⟨_,rfl⟩
 have b1:Bm W1 w.heap.size m:=hW1 ▸ Bm.rnew w m
 have G1:Below w.heap.size w W1:=by rw [← hW1];go_grown
 have z1:w.heap.size < W1.heap.size:=by rw [← hW1];simp
 have HL:Hid (Bm (rx w m) w.heap.size m):=Bm.rnew w m
 have HB:Hid (∀ w1,Below W1.heap.size W1 w1→Bm w1 w.heap.size m∧w.heap.size < w1.heap.size∧Below w.heap.size w w1∧MW w1 m∧MW w1 (ownS m)):=(show ∀ w1,_ from fun w1 g=>⟨b1.below z1 g,Nat.lt_of_lt_of_le z1 g.size,btr G1 g (Nat.le_refl _),mw.below (btr G1 g (Nat.le_refl _)),ownS_w (mw.below (btr G1 g (Nat.le_refl _)))⟩)
 have HW1:Hid (w.alloc (.cells #[.int .i64 m.kind,.int .i64 m.xid,.int .i64 m.cmd,.bool m.chk,.int .i64 m.en.tab,.int .i64 m.en.pri,.slice m.en.ta m.en.tl m.en.tc,.slice m.en.aa m.en.la.length m.en.ca,.slice m.en.aw m.en.lw.length m.en.cw,.bool m.en.clr,.int .u64 m.en.mt,.int .u64 m.en.mm,.int .i64 m.en.met,.int .i64 m.en.go,.int .i64 m.gid,.int .i64 m.gkd,.slice m.ga m.gb.length m.gc,.int .i64 m.mid,.int .i64 m.mra,.int .i64 m.mbu,.int .i64 m.typ,.int .i64 m.cod,.int .i64 m.prt,.bool m.live,.slice m.aa m.la.length m.ca,.string m.dat] 42)=W1):=hW1
 have HBo:Hid (Calls Tryz.prog 19 #[msV m] W1 fun e w'=>∃ s,e=.returned (.tuple #[.string s,msV (ownS m),.bool true])∧Hid (true=true→s=bodyM m.msg)∧Below W1.heap.size W1 w'):=(show Calls _ _ _ _ _ from (rbody_any m W1 (mw.below G1) mu).mono fun _ _ ⟨s,h1,h2,h3⟩=>⟨s,by rw [ho] at h1;exact h1,(show _→_ from fun _=>h2 ho),h3⟩)
 have HI:Hid (∀ w,Calls Tryz.prog 20 #[.int .i64 m.xid,.int .i64 0,.int .i64 4294967295] w fun e w'=>e=.returned (.bool true)∧w'=w):=(show ∀ w,_ from fun w=>hx ▸ r8in _ _ _ w)
 have HS:Hid (∀ w1,MW w1 m→MW w1 (ownS m)→Calls Tryz.prog 15 #[msV m,msV (ownS m)] w1 fun e w'=>e=.returned (.bool false)∧Below w1.heap.size w1 w'):=(show ∀ w1,_ from fun w1 h1 h2=>by
  have:=same_M m (ownS m) w1 h1 h2
  rwa [same_own,hb] at this)
 obtain ⟨e1,e2⟩:=err_of (m:=m) (show (inB m.xid 0 4294967295 && ownB m.msg && bareB m.msg)=false by rw [hb];simp)
 rw [e1,e2]
 clear e1 e2
 clear hW1 b1 G1 z1 mw mu ho hx hb
 go_enter Tryz.func11,Tryz.ntmps11
 go_wp2_with (refine load_Rg rfl (.tmp 1) rfl w.heap.size m rfl HL.out ?_)
 rw [HW1.out]
 refine HBo.out.mono ?_
 rintro r w1 ⟨s,rfl,HSS,g1⟩
 have HZ:Hid (∀ V,Only w1.heap.size (w1.alloc (.cells #[.int .i64 0,.int .i64 0,.int .i64 0,.bool false,.int .i64 0,.int .i64 0,.slice none 0 0,.slice none 0 0,.slice none 0 0,.bool false,.int .u64 0,.int .u64 0,.int .i64 0,.int .i64 0,.int .i64 0,.int .i64 0,.slice none 0 0,.int .i64 0,.int .i64 0,.int .i64 0,.int .i64 0,.int .i64 0,.int .i64 0,.bool false,.slice none 0 0,.string ⟨#[]⟩] 42)) V→Below W1.heap.size W1 V∧w1.heap.size < V.heap.size):=(show ∀ V,_ from fun V o=>by
  have gA:Below w1.heap.size w1 (w1.alloc (.cells #[.int .i64 0,.int .i64 0,.int .i64 0,.bool false,.int .i64 0,.int .i64 0,.slice none 0 0,.slice none 0 0,.slice none 0 0,.bool false,.int .u64 0,.int .u64 0,.int .i64 0,.int .i64 0,.int .i64 0,.int .i64 0,.slice none 0 0,.int .i64 0,.int .i64 0,.int .i64 0,.int .i64 0,.int .i64 0,.int .i64 0,.bool false,.slice none 0 0,.string ⟨#[]⟩] 42)):=by go_grown
  exact ⟨btr g1 (o.belowK (Nat.le_refl _) gA) (Nat.le_refl _),by rw [o.size];simp⟩)
 clear g1
 go_wp2_with (refine store_R rfl (.tmp 5) (.tmp 11) rfl w1.heap.size (ownS m) rfl rfl (there_new _ _ _) ?_;intro V bV tV oV;obtain ⟨g2,zV⟩:=HZ.out _ oV;obtain ⟨b2,y2,G2,mw2,mo2⟩:=HB.out _ g2;have c1:=b2 1 _ rfl;rw [Nat.zero_add] at c1;clear oV tV)
 refine (HI.out _).mono ?_
 rintro r w3 ⟨rfl,z⟩
 obtain rfl:V=w3:=z.symm
 go_wp2_with (first | (refine load_Rg rfl (.tmp 1) rfl w.heap.size m rfl b2 ?_) | (refine load_Rg rfl (.tmp 5) rfl w1.heap.size (ownS m) rfl bV ?_))
 refine (HS.out _ mw2 mo2).mono ?_
 rintro r w4 ⟨rfl,g4⟩
 have G4:=btr G2 g4 (Nat.le_refl _)
 go_wp2_with fail
 go_ret2
 exact ⟨rfl,G4⟩
theorem renc8_ttt (m:Ms) (w:World) (mw:MW w m) (mu:MU m) (ho:ownB m.msg=true) (hx:inB m.xid 0 4294967295=true) (hb:bareB m.msg=true):Calls Tryz.prog 11 #[msV m] w fun e w'=>e=.returned (.tuple #[.string (encM m.msg),.int .i64 (errM m.msg)])∧Below w.heap.size w w':=by
 obtain ⟨W1,hW1⟩:∃ W1,rx w m=W1:=⟨_,rfl⟩
 have b1:Bm W1 w.heap.size m:=hW1 ▸ Bm.rnew w m
 have G1:Below w.heap.size w W1:=by rw [← hW1];go_grown
 have z1:w.heap.size < W1.heap.size:=by rw [← hW1];simp
 have HL:Hid (Bm (rx w m) w.heap.size m):=Bm.rnew w m
 have HB:Hid (∀ w1,Below W1.heap.size W1 w1→Bm w1 w.heap.size m∧w.heap.size < w1.heap.size∧Below w.heap.size w w1∧MW w1 m∧MW w1 (ownS m)):=(show ∀ w1,_ from fun w1 g=>⟨b1.below z1 g,Nat.lt_of_lt_of_le z1 g.size,btr G1 g (Nat.le_refl _),mw.below (btr G1 g (Nat.le_refl _)),ownS_w (mw.below (btr G1 g (Nat.le_refl _)))⟩)
 have HW1:Hid (w.alloc (.cells #[.int .i64 m.kind,.int .i64 m.xid,.int .i64 m.cmd,.bool m.chk,.int .i64 m.en.tab,.int .i64 m.en.pri,.slice m.en.ta m.en.tl m.en.tc,.slice m.en.aa m.en.la.length m.en.ca,.slice m.en.aw m.en.lw.length m.en.cw,.bool m.en.clr,.int .u64 m.en.mt,.int .u64 m.en.mm,.int .i64 m.en.met,.int .i64 m.en.go,.int .i64 m.gid,.int .i64 m.gkd,.slice m.ga m.gb.length m.gc,.int .i64 m.mid,.int .i64 m.mra,.int .i64 m.mbu,.int .i64 m.typ,.int .i64 m.cod,.int .i64 m.prt,.bool m.live,.slice m.aa m.la.length m.ca,.string m.dat] 42)=W1):=hW1
 have HBo:Hid (Calls Tryz.prog 19 #[msV m] W1 fun e w'=>∃ s,e=.returned (.tuple #[.string s,msV (ownS m),.bool true])∧Hid (true=true→s=bodyM m.msg)∧Below W1.heap.size W1 w'):=(show Calls _ _ _ _ _ from (rbody_any m W1 (mw.below G1) mu).mono fun _ _ ⟨s,h1,h2,h3⟩=>⟨s,by rw [ho] at h1;exact h1,(show _→_ from fun _=>h2 ho),h3⟩)
 have HI:Hid (∀ w,Calls Tryz.prog 20 #[.int .i64 m.xid,.int .i64 0,.int .i64 4294967295] w fun e w'=>e=.returned (.bool true)∧w'=w):=(show ∀ w,_ from fun w=>hx ▸ r8in _ _ _ w)
 have HS:Hid (∀ w1,MW w1 m→MW w1 (ownS m)→Calls Tryz.prog 15 #[msV m,msV (ownS m)] w1 fun e w'=>e=.returned (.bool true)∧Below w1.heap.size w1 w'):=(show ∀ w1,_ from fun w1 h1 h2=>by
  have:=same_M m (ownS m) w1 h1 h2
  rwa [same_own,hb] at this)
 have hr:rightM m.msg=true:=(show (inB m.xid 0 4294967295 && ownB m.msg && bareB m.msg)=true by rw [hx,ho,hb];rfl)
 have e1:encM m.msg=allM m.msg:=by unfold encM;rw [if_pos hr]
 have e2:errM m.msg=0:=by unfold errM;rw [if_pos hr]
 rw [e1,e2]
 obtain ⟨k0,k1⟩:=own_kind ho
 have hz:=body_le ho
 obtain ⟨x0,x1⟩:=inB_iff.1 hx
 have HR:Hid (∀ s,s=bodyM m.msg→⟨#[4]⟩ ++ pw m.kind 1 ++ pw (8 + (s.size:Int)) 2 ++ pw m.xid 4 ++ s=allM m.msg∧s.size≤9000):=(show ∀ s,_ from fun s hs=>by
  subst hs
  refine ⟨?_,hz⟩
  have e4:pb 4 1=⟨#[4]⟩:=by decide +kernel
  rw [pw_eq _ _ (show 0≤m.kind from k0) (show m.kind < _ by have:m.msg.kind=m.kind:=rfl;omega),pw_eq _ _ (by omega) (by omega),pw_eq _ _ x0 (by omega)]
  unfold allM
  rw [e4]
  rfl)
 have HP1:Hid (∀ w,Calls Tryz.prog 21 #[.int .i64 m.kind,.int .i64 1] w fun e w'=>e=.returned (.string (pw m.kind 1))∧Below w.heap.size w w'):=(show ∀ w,_ from fun w=>r8put1 _ w)
 have HP2:Hid (∀ n w,Calls Tryz.prog 21 #[.int .i64 n,.int .i64 2] w fun e w'=>e=.returned (.string (pw n 2))∧Below w.heap.size w w'):=(show ∀ n w,_ from fun n w=>r8put2 _ w)
 have HP3:Hid (∀ w,Calls Tryz.prog 21 #[.int .i64 m.xid,.int .i64 4] w fun e w'=>e=.returned (.string (pw m.xid 4))∧Below w.heap.size w w'):=(show ∀ w,_ from fun w=>r8put4 _ w)
 clear e1 e2 hr k0 k1 hz x0 x1
 clear hW1 b1 G1 z1 mw mu ho hx hb
 go_enter Tryz.func11,Tryz.ntmps11
 go_wp2_with (refine load_Rg rfl (.tmp 1) rfl w.heap.size m rfl HL.out ?_)
 rw [HW1.out]
 refine HBo.out.mono ?_
 rintro r w1 ⟨s,rfl,HSS,g1⟩
 have HZ:Hid (∀ V,Only w1.heap.size (w1.alloc (.cells #[.int .i64 0,.int .i64 0,.int .i64 0,.bool false,.int .i64 0,.int .i64 0,.slice none 0 0,.slice none 0 0,.slice none 0 0,.bool false,.int .u64 0,.int .u64 0,.int .i64 0,.int .i64 0,.int .i64 0,.int .i64 0,.slice none 0 0,.int .i64 0,.int .i64 0,.int .i64 0,.int .i64 0,.int .i64 0,.int .i64 0,.bool false,.slice none 0 0,.string ⟨#[]⟩] 42)) V→Below W1.heap.size W1 V∧w1.heap.size < V.heap.size):=(show ∀ V,_ from fun V o=>by
  have gA:Below w1.heap.size w1 (w1.alloc (.cells #[.int .i64 0,.int .i64 0,.int .i64 0,.bool false,.int .i64 0,.int .i64 0,.slice none 0 0,.slice none 0 0,.slice none 0 0,.bool false,.int .u64 0,.int .u64 0,.int .i64 0,.int .i64 0,.int .i64 0,.int .i64 0,.slice none 0 0,.int .i64 0,.int .i64 0,.int .i64 0,.int .i64 0,.int .i64 0,.int .i64 0,.bool false,.slice none 0 0,.string ⟨#[]⟩] 42)):=by go_grown
  exact ⟨btr g1 (o.belowK (Nat.le_refl _) gA) (Nat.le_refl _),by rw [o.size];simp⟩)
 clear g1
 go_wp2_with (refine store_R rfl (.tmp 5) (.tmp 11) rfl w1.heap.size (ownS m) rfl rfl (there_new _ _ _) ?_;intro V bV tV oV;obtain ⟨g2,zV⟩:=HZ.out _ oV;obtain ⟨b2,y2,G2,mw2,mo2⟩:=HB.out _ g2;have c1:=b2 1 _ rfl;rw [Nat.zero_add] at c1;clear oV tV)
 refine (HI.out _).mono ?_
 rintro r w3 ⟨rfl,z⟩
 obtain rfl:V=w3:=z.symm
 go_wp2_with (first | (refine load_Rg rfl (.tmp 1) rfl w.heap.size m rfl b2 ?_) | (refine load_Rg rfl (.tmp 5) rfl w1.heap.size (ownS m) rfl bV ?_))
 refine (HS.out _ mw2 mo2).mono ?_
 rintro r w4 ⟨rfl,g4⟩
 have G4:=btr G2 g4 (Nat.le_refl _)
 obtain ⟨hR,hz⟩:=HR.out s (HSS.out (by first | trivial | rfl))
 have B4:=b2.below y2 g4
 have z4:w.heap.size < w4.heap.size:=Nat.lt_of_lt_of_le y2 g4.size
 have hc:∀ n:GrT w4,n.w.cell? ⟨w.heap.size,0,none⟩=some (.int .i64 m.kind)∧n.w.cell? ⟨w.heap.size,1,none⟩=some (.int .i64 m.xid):=fun n=>by
  have q:=Bm.gr B4 z4 n
  exact ⟨by have:=q 0 _ rfl;rwa [Nat.zero_add] at this,by have:=q 1 _ rfl;rwa [Nat.zero_add] at this⟩
 have HPx:Hid (∀ w,Calls Tryz.prog 21 #[.int .i64 (8 + (s.size:Int)),.int .i64 2] w fun e w'=>e=.returned (.string (pw (8 + (s.size:Int)) 2))∧Below w.heap.size w w'):=(show ∀ w,_ from fun w=>HP2.out _ w)
 have v1:=pw_size m.kind 1
 have v2:=pw_size (8 + (s.size:Int)) 2
 have v3:=pw_size m.xid 4
 have HRR:Hid (⟨#[4]⟩ ++ pw m.kind 1 ++ pw (8 + (s.size:Int)) 2 ++ pw m.xid 4 ++ s=allM m.msg):=hR
 clear hR B4 z4 HSS HP2 HR HZ bV zV g2 b2 y2 mw2 mo2 c1
 generalize pw m.kind 1=P1 at *
 generalize pw (8 + (s.size:Int)) 2=P2 at *
 generalize pw m.xid 4=P3 at *
 have e1:∀ w,(Op.stringOp .add ⟨#[4]⟩ P1).run Tryz.prog w=.ok (.string (⟨#[4]⟩ ++ P1)) w:=cat _ _ 1 1 (by exact Nat.le_refl _) (by omega) (by decide)
 have y1:=cat_sz ⟨#[4]⟩ P1 1 1 (by exact Nat.le_refl _) (by omega)
 generalize ⟨#[4]⟩ ++ P1=S1 at *
 have e2:∀ w,(Op.stringOp .add S1 P2).run Tryz.prog w=.ok (.string (S1 ++ P2)) w:=cat _ _ 2 2 (by omega) (by omega) (by decide)
 have y2:=cat_sz S1 P2 2 2 (by omega) (by omega)
 generalize S1 ++ P2=S2 at *
 have e3:∀ w,(Op.stringOp .add S2 P3).run Tryz.prog w=.ok (.string (S2 ++ P3)) w:=cat _ _ 4 4 (by omega) (by omega) (by decide)
 have y3:=cat_sz S2 P3 4 4 (by omega) (by omega)
 generalize S2 ++ P3=S3 at *
 have e4:∀ w,(Op.stringOp .add S3 s).run Tryz.prog w=.ok (.string (S3 ++ s)) w:=cat _ _ 8 9000 (by omega) (by omega) (by decide)
 generalize S3 ++ s=S4 at *
 clear y1 y2 y3 v1 v2 v3
 go_wp2_with fail
 refine wp_region_grow (by kernel_rfl) (by kernel_rfl) ?_
 repeat (go_big_quiet_step (first | (go_at_call_of 21 (Value.int IntKind.i64 1);exact quiet_gr (HP1.out _)) | (go_at_call_of 21 (Value.int IntKind.i64 2);exact quiet_gr (HPx.out _)) | (go_at_call_of 21 (Value.int IntKind.i64 4);exact quiet_gr (HP3.out _))))
 refine wpQuiet_nil ?_
 rintro w5 hw'
 have g5:=gr_elim hw'
 clear hw' hc
 go_wp2_with fail
 go_ret2
 exact ⟨by rw [← HRR.out];rfl,btr G4 g5 (Nat.le_refl _)⟩
theorem rencode_M (m:Ms) (w:World) (mw:MW w m) (mu:MU m):Calls Tryz.prog 11 #[msV m] w fun e w'=>e=.returned (.tuple #[.string (encM m.msg),.int .i64 (errM m.msg)])∧Below w.heap.size w w':=by
  have e:rightM m.msg=(inB m.xid 0 4294967295 && ownB m.msg && bareB m.msg):=rfl
  cases ho:ownB m.msg with
  | false=>exact renc8_f m w mw mu ho
  | true =>
    cases hx:inB m.xid 0 4294967295 with
    | false=>exact renc8_tf m w mw mu ho hx
    | true =>
      cases hb:bareB m.msg with
      | false=>exact renc8_ttf m w mw mu ho hx hb
      | true=>exact renc8_ttt m w mw mu ho hx hb
end Go.Proofs.YtlcbfdiohcbpbaaGreatDoor

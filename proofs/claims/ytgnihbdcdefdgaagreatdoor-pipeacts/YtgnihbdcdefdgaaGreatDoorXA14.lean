import Derived.Test.YtgnihbdcdefdgaaGreatDoorXA13
set_option maxRecDepth 20000
set_option maxHeartbeats 16000000
set_option linter.unusedSimpArgs false
set_option linter.unusedVariables false
open Go.ChangeShapes Go.WideShapes Go.ChangeAt Go.RowKit
open Go.Proofs.Tryz
namespace Go.Proofs.YtgnihbdcdefdgaaGreatDoor
def rclashB (x y:Fp):Bool:=((y.tab==x.tab)&&(y.pri==x.pri))&&Mt.meetsB y.lt x.lt
def AddRel (room:Int) (L:List Fp) (x:Fp) (chk:Bool) (E:Int) (L':List Fp):Prop :=
 (wrongE x≠0∧E=wrongE x∧L'=L)∨(wrongE x=0∧(chk&&L.any (rclashB x))=true∧E=28∧L'=L) ∨
 (wrongE x=0∧(chk&&L.any (rclashB x))=false∧((∃ i,∃ h:i<L.length,alikeB x (L[i]'h)=true∧E=0∧L'=L.set i x) ∨
   ((∀ y∈L,alikeB x y=false)∧((room≤(L.filter (inT x.tab)).length∧E=27∧L'=L)∨(¬ room≤(L.filter (inT x.tab)).length∧E=0∧L'=insL L x)))))
theorem radd_any (base:Nat) (r:Nat) (S:Nat→Prop) (room:Int) (L:List Fp) (x:Fe) (chk:Bool) (w:World) (h:Rs base w r S room L) (hx:FW w x) (hv:VF x.p) (hi:∀ b,InF x b→b<base) (hn:L.length≤900) :
 Calls prog 32 #[.pointer (some ⟨r,0,none⟩),feV x,.bool chk] w fun e w'=>∃ E L',e=.returned (.int .i64 E)∧AddRel room L x.p chk E L'∧∃ S',Rs base w' r S' room L'∧Kept S w w'∧∀ b,S' b→S b∨w.heap.size≤b:=by
 have HX:Hid (Be (fx w x) w.heap.size 0 x):=Be.new w x;have g0:Below w.heap.size w (fx w x):=by go_grown
 have HWr:Hid (Calls prog 62 #[feV x] (fx w x) fun e w'=>e=.returned (.int .i64 (wrongE x.p))∧Below (fx w x).heap.size (fx w x) w'):=rwrong_any x _ (hx.below g0) hv;have HRs:Hid (Rs base w r S room L):=h;have HNo:Hid (∀ W,Below w.heap.size w W→∃ S',Rs base W r S' room L∧Kept S w W∧∀ b,S' b→S b∨w.heap.size≤b):=(show ∀ W,_ from fun W g=>⟨S,HRs.out.below g,Kept.of_below g,fun b hb=>.inl hb⟩)
 by_cases hw0:wrongE x.p=0
 ·have HW0:Hid (wrongE x.p=0):=hw0;rw[hw0]at HWr;obtain⟨v,l,hR,hL⟩:=h;obtain⟨a,cap,hvv,hform⟩:=OwnE.form2 hR.row;subst hvv;have HR:Hid (Rm base w r S room (.slice a l.length cap) l):=hR;have HF:Hid (a=none∧l=[]∧cap=0∨∃ g,a=some ⟨g,0,none⟩∧base≤g∧g<w.heap.size∧l.length≤cap∧cap≤maxLen):=hform;have HLe:Hid (l.map Fe.p=L):=hL;have hln:l.length≤900:=by rw[← hL,List.length_map]at hn;exact hn
  have hcl:=hR.cl;have hcr:=hR.cr;have hrl:=hR.lt r hR.sr;have HXW:Hid (FW w x∧∀ b,InF x b→b<base):=(show _∧_ from⟨hx,hi⟩)
  clear hx hv hi hn hw0 hR hform hL;go_enter func32,ntmps32;go_wp2_with (refine load_E rfl (.tmp 4) rfl w.heap.size 0 x rfl HX.out ?_);refine HWr.out.mono ?_;rintro e w1 ⟨rfl,g1⟩;have HG1:Hid (Below w.heap.size w w1):=btr g0 g1 (Nat.le_refl _);have HX1:Hid (Be w1 w.heap.size 0 x):=HX.out.below (by simp) g1;have z1:=g1.size;simp at z1;clear g1;go_wp2_with fail;go_loopw [8,9,10] (fun s8 i _ wr=>∃ (k:Nat) (pl:Int),k≤l.length∧s8=.int .i64 pl∧i=.int .i64 k∧Hid ((pl = -1∧∀ j (hj:j<l.length),j<k→alikeB x.p l[j].p=false)∨∃ i,∃ hi:i<l.length,i<k∧pl=i∧alikeB x.p l[i].p=true)∧Hid (∀ j (hj:j<l.length),j<k→(chk&&rclashB x.p l[j].p)=false)∧Hid (Below w1.heap.size w1 wr)) (fun _ i _ _=>l.length-(intOf i).toNat);case atStart=>exact⟨0,-1,Nat.zero_le _,rfl,rfl,(show _∨_ from .inl ⟨rfl,fun j _ hj=>absurd hj (Nat.not_lt_zero _)⟩),(show ∀ j,_ from fun j _ hj=>absurd hj (Nat.not_lt_zero _)),Below.refl _ _⟩
  case round =>
   obtain⟨k,pl,hk,rfl,rfl,HPl,HCl,HB1⟩:=hrel;have HGr:Hid (Below w.heap.size w wr):=btr HG1.out HB1.out (by omega);have zr:=HB1.out.size;have c0:wr.cell? ⟨r,0,none⟩=some (.slice a l.length cap):=(HGr.out.cell (p:=⟨r,0,none⟩) hrl).trans hcl;have HXr:Hid (Be wr w.heap.size 0 x):=HX1.out.below (by omega) HB1.out;by_cases hlt:k<l.length
   ·obtain⟨gb,rfl,hgb0,hgb,hnc,_⟩:∃ g,a=some ⟨g,0,none⟩∧base≤g∧g<w.heap.size∧l.length≤cap∧cap≤maxLen:=by
     rcases HF.out with⟨_,h,_⟩|h
     ·subst h;cases hlt
     ·exact h
    have HYb:Hid (Be wr gb (k*10) l[k]):=(OwnE.be rfl HR.out.row k hlt).below hgb HGr.out;have HYw:Hid (FW wr l[k]):=(HR.out.en _ (List.getElem_mem _)).1.below HGr.out;have HXw:Hid (FW wr x):=HXW.out.1.below HGr.out;have HPn:Hid (∀ b,alikeB x.p l[k].p=b→(if b=true then (k:Int) else pl)=(if b=true then (k:Int) else pl)∧(((if b=true then (k:Int) else pl) = -1∧∀ j (hj:j<l.length),j<k+1→alikeB x.p l[j].p=false)∨∃ i,∃ hi:i<l.length,i<k+1∧(if b=true then (k:Int) else pl)=i∧alikeB x.p l[i].p=true)):=(show ∀ b,_ from fun b hb=>⟨rfl,by
     cases b with
     | true=>exact .inr ⟨k,hlt,by omega,by simp,hb⟩
     | false =>
       rcases HPl.out with⟨h1,h2⟩|⟨i,h1,h2,h3,h4⟩
       ·refine .inl ⟨by simpa using h1,fun j hj hjk => ?_⟩;by_cases e:j=k
        ·subst e;exact hb
        ·exact h2 j hj (by omega)
       ·exact .inr ⟨i,h1,by omega,by simpa using h3,h4⟩⟩)
    have HCn:Hid ((chk&&rclashB x.p l[k].p)=false→∀ j (hj:j<l.length),j<k+1→(chk&&rclashB x.p l[j].p)=false):=(show _→∀ j,_ from fun hb j hj hjk=>by
     by_cases e:j=k
     ·subst e;exact hb
     ·exact HCl.out j hj (by omega))
    have HCy:Hid (rclashB x.p l[k].p=true→chk=true→AddRel room L x.p chk 28 L):=(show _→_→_ from fun h1 h2=>.inr (.inl ⟨HW0.out,by
     rw[h2,Bool.true_and,List.any_eq_true,← HLe.out];exact⟨l[k].p,List.mem_map.2 ⟨_,List.getElem_mem _,rfl⟩,h1⟩,rfl,rfl⟩))
    have hrc:rclashB x.p l[k].p=(((l[k].p.tab==x.p.tab)&&(l[k].p.pri==x.p.pri))&&Mt.meetsB l[k].p.lt x.p.lt):=rfl;generalize l[k]=Y at *
    have hways:(chk=false∨(chk=true∧(Y.p.tab==x.p.tab)=false)∨(chk=true∧(Y.p.tab==x.p.tab)=true∧(Y.p.pri==x.p.pri)=false))∨(chk=true∧(Y.p.tab==x.p.tab)=true∧(Y.p.pri==x.p.pri)=true):=by
     cases chk<;>cases (Y.p.tab==x.p.tab)<;>cases (Y.p.pri==x.p.pri)<;>simp
    rcases hways with hw3|⟨hch,hta,hpr⟩
    ·have hcf:(chk&&rclashB x.p Y.p)=false:=by
      rw[hrc];rcases hw3 with h1|⟨h1,h2⟩|⟨h1,h2,h3⟩<;>simp[*]
     have HCf:=HCn.out hcf;have HCf2:Hid _:=HCf;clear HCf hcf hrc HCy HCn;rcases hw3 with h1|⟨h1,h2⟩|⟨h1,h2,h3⟩
     all_goals
      subst h1
      go_wp2_with (first
       | (refine load_E rfl (.tmp 32) rfl gb (k*10) Y (by simp[Act.eval,Act.put]) HYb.out ?_)
       | (refine store_E rfl (.tmp 10) (.tmp 33) rfl wr.heap.size 0 Y rfl rfl (there_new wr zeroE 76) ?_;intro V hV bV tV oV;clear hV;have HBV:Hid (Be V wr.heap.size 0 Y):=bV;have HGV:Hid (Below wr.heap.size wr V):=oV.below (Nat.le_refl _) (show Below wr.heap.size wr (wr.alloc (.cells zeroE 76))by go_grown);have zV:V.heap.size=wr.heap.size+1:=(by rw[oV.size];simp);obtain⟨d0,d1,d2,_⟩:=bV.cs;obtain⟨e0,e1,e2,_⟩:=(HXr.out.below (by omega) HGV.out).cs;have HXV:Hid (Be V w.heap.size 0 x):=HXr.out.below (by omega) HGV.out;clear bV tV oV)
       | (refine load_E rfl (.tmp 4) rfl w.heap.size 0 x rfl HXV.out ?_)
       | (refine load_E rfl (.tmp 10) rfl wr.heap.size 0 Y rfl HBV.out ?_))
      refine(alike_any x Y V (HXw.out.below HGV.out) (HYw.out.below HGV.out)).mono ?_;rintro e w5 ⟨rfl,g5⟩;have HB5:Hid (Below w1.heap.size w1 w5):=btr (btr HB1.out HGV.out (Nat.le_refl _)) g5 (by have:=HB1.out.size;omega);clear g5 d0 d1 d2 e0 e1 e2;cases hal:alikeB x.p Y.p with
      | true =>
        have HP2:=(HPn.out true hal).2;have HP3:Hid _:=HP2;clear HP2;go_wp2_with fail;go_roundw;case rel=>exact⟨k+1,(k:Int),by omega,rfl,by go_num,(show _∨_ from by simpa using HP3.out),HCf2,HB5⟩
        case measure=>simp[intOf];omega
      | false =>
        have HP2:=(HPn.out false hal).2;have HP3:Hid _:=HP2;clear HP2;go_wp2_with fail;go_roundw;case rel=>exact⟨k+1,pl,by omega,rfl,by go_num,(show _∨_ from by simpa using HP3.out),HCf2,HB5⟩
        case measure=>simp[intOf];omega
    ·have HMe:Hid (∀ w1,FW w1 Y→FW w1 x→Calls prog 63 #[.slice Y.ta Y.p.lt.length Y.tc,.slice x.ta x.p.lt.length x.tc] w1 fun e w'=>e=.returned (.bool (Mt.meetsB Y.p.lt x.p.lt))∧Below w1.heap.size w1 w'):=(show ∀ w1,_ from fun w1 h1 h2=>Mt.rmeets_any _ _ _ _ _ _ w1 h1.t (by have:=h1.nt;omega) h2.t (by have:=h2.nt;omega))
     rw[hta,hpr]at hrc;simp only[Bool.true_and]at hrc;have HRc:Hid (rclashB x.p Y.p=Mt.meetsB Y.p.lt x.p.lt):=hrc;clear hrc;subst hch
     go_wp2_with (first
      | (refine load_E rfl (.tmp 32) rfl gb (k*10) Y (by simp[Act.eval,Act.put]) HYb.out ?_)
      | (refine store_E rfl (.tmp 10) (.tmp 33) rfl wr.heap.size 0 Y rfl rfl (there_new wr zeroE 76) ?_;intro V hV bV tV oV;clear hV;have HBV:Hid (Be V wr.heap.size 0 Y):=bV;have HGV:Hid (Below wr.heap.size wr V):=oV.below (Nat.le_refl _) (show Below wr.heap.size wr (wr.alloc (.cells zeroE 76))by go_grown);have zV:V.heap.size=wr.heap.size+1:=(by rw[oV.size];simp);obtain⟨d0,d1,d2,_⟩:=bV.cs;obtain⟨e0,e1,e2,_⟩:=(HXr.out.below (by omega) HGV.out).cs;have HXV:Hid (Be V w.heap.size 0 x):=HXr.out.below (by omega) HGV.out;clear bV tV oV))
     refine(HMe.out V (HYw.out.below HGV.out) (HXw.out.below HGV.out)).mono ?_;rintro e w4 ⟨rfl,g4⟩;have HG4:Hid (Below wr.heap.size wr w4):=btr HGV.out g4 (Nat.le_refl _);have HX4:Hid (Be w4 w.heap.size 0 x):=HXr.out.below (by omega) HG4.out;have HY4:Hid (Be w4 wr.heap.size 0 Y):=HBV.out.below (by omega) g4;clear g4 d0 d1 d2 e0 e1 e2;cases hme:Mt.meetsB Y.p.lt x.p.lt with
     | true =>
       have HAr:Hid (AddRel room L x.p true 28 L):=HCy.out (by rw[HRc.out,hme]) trivial;have HG5:Hid (Below w.heap.size w w4):=btr HGr.out HG4.out (Nat.le_refl _);go_wp2_with fail;go_ret;exact⟨28,L,rfl,HAr.out,HNo.out _ HG5.out⟩
     | false =>
       have HCf2:Hid (∀ j (hj:j<l.length),j<k+1→(true&&rclashB x.p l[j].p)=false):=HCn.out (by rw[HRc.out,hme];rfl)
       go_wp2_with (first
        | (refine load_E rfl (.tmp 4) rfl w.heap.size 0 x rfl HX4.out ?_)
        | (refine load_E rfl (.tmp 10) rfl wr.heap.size 0 Y rfl HY4.out ?_))
       refine(alike_any x Y w4 (HXw.out.below HG4.out) (HYw.out.below HG4.out)).mono ?_;rintro e w5 ⟨rfl,g5⟩;have HB5:Hid (Below w1.heap.size w1 w5):=btr (btr HB1.out HG4.out (Nat.le_refl _)) g5 (by have:=HB1.out.size;omega);clear g5;cases hal:alikeB x.p Y.p with
       | true =>
         have HP2:=(HPn.out true hal).2;have HP3:Hid _:=HP2;clear HP2;go_wp2_with fail;go_roundw;case rel=>exact⟨k+1,(k:Int),by omega,rfl,by go_num,(show _∨_ from by simpa using HP3.out),HCf2,HB5⟩
         case measure=>simp[intOf];omega
       | false =>
         have HP2:=(HPn.out false hal).2;have HP3:Hid _:=HP2;clear HP2;go_wp2_with fail;go_roundw;case rel=>exact⟨k+1,pl,by omega,rfl,by go_num,(show _∨_ from by simpa using HP3.out),HCf2,HB5⟩
         case measure=>simp[intOf];omega
   ·
    have hk':k=l.length:=by omega
    subst hk';have HCe:Hid ((chk&&L.any (rclashB x.p))=false):=(show _=_ by
     rw[← HLe.out];cases hch:chk with
     | false=>rfl
     | true =>
       rw[Bool.true_and,Bool.eq_false_iff];intro h;obtain⟨y,hy,hc⟩:=List.any_eq_true.1 h;obtain⟨z,hz,rfl⟩:=List.mem_map.1 hy;obtain⟨j,hj,rfl⟩:=List.mem_iff_getElem.1 hz;have:=HCl.out j hj hj;rw[hch,Bool.true_and,hc]at this;cases this)
    have c1:wr.cell? ⟨r,1,none⟩=some (.int .i64 room):=(HGr.out.cell (p:=⟨r,1,none⟩) hrl).trans hcr;rcases HPl.out with⟨rfl,hno⟩|⟨i,hil,_,rfl,hal⟩
    ·have HNa:Hid (∀ y∈L,alikeB x.p y=false):=(show ∀ y∈L,_ from fun y hy=>by
      rw[← HLe.out]at hy;obtain⟨z,hz,rfl⟩:=List.mem_map.1 hy;obtain⟨j,hj,rfl⟩:=List.mem_iff_getElem.1 hz;exact hno j hj hj)
     have HGd:Hid (Below w.heap.size w wr.drew):=btr HGr.out (show Below wr.heap.size wr wr.drew by go_grown) (by omega);have hlm:L.filter (inT x.p.tab)=(l.filter fun y=>inT x.p.tab y.p).map Fe.p:=by rw[← HLe.out,List.filter_map];rfl
     have HAl:Hid ((room≤(l.filter fun y=>inT x.p.tab y.p).length→AddRel room L x.p chk 27 L)∧(¬ room≤(l.filter fun y=>inT x.p.tab y.p).length→AddRel room L x.p chk 0 (insL L x.p))):=(show _∧_ from
      ⟨fun h1=>.inr (.inr ⟨HW0.out,HCe.out,.inr ⟨HNa.out,.inl ⟨by rw[hlm,List.length_map];exact h1,rfl,rfl⟩⟩⟩),fun h1=>.inr (.inr ⟨HW0.out,HCe.out,.inr ⟨HNa.out,.inr ⟨by rw[hlm,List.length_map];exact h1,rfl,rfl⟩⟩⟩)⟩)
     have HLs:Hid (Calls prog 65 #[.pointer (some ⟨r,0,none⟩),.int .i64 x.p.tab] wr.drew fun e w'=>∃ v',e=.returned v'∧OwnE wr.drew.heap.size w' v' (l.filter fun y=>inT x.p.tab y.p)∧Below wr.drew.heap.size wr.drew w'):=rlist_of base r S room _ l x.p.tab wr.drew (HR.out.below HGd.out) (by omega);have HXd:Hid (∀ W,Below wr.drew.heap.size wr.drew W→Be W w.heap.size 0 x):=(show ∀ W,_ from fun W g=>(HXr.out.below (w:=wr) (by omega) (show Below wr.heap.size wr wr.drew by go_grown)).below (by show _<wr.heap.size;omega) g)
     have HKs:Hid (∀ W,Below wr.drew.heap.size wr.drew W→W.cell? ⟨w.heap.size,0,none⟩=some (.int .i64 x.p.tab)∧W.cell? ⟨r,1,none⟩=some (.int .i64 room)):=(show ∀ W,_ from fun W g=>⟨HXd.out W g 0 _ rfl,(g.cell (p:=⟨r,1,none⟩) (show r<wr.heap.size by omega)).trans c1⟩)
     have HBd:Hid (Below wr.drew.heap.size wr.drew wr.drew):=Below.refl _ _;clear HCe HNa hlm HCl HPl HWr hno hk hlt;have b0:wr.cell? ⟨w.heap.size,0,none⟩=some (.int .i64 x.p.tab):=HXr.out 0 _ rfl;have hml:(l.filter fun y=>inT x.p.tab y.p).length≤900:=Nat.le_trans (List.length_filter_le _ _) hln;generalize (l.filter fun y=>inT x.p.tab y.p)=m at *
     obtain⟨nm,hnm⟩:∃ n,n=m.length:=⟨_,rfl⟩
     rw[← hnm]at HAl hml;have HNm:Hid (nm=m.length):=hnm;clear hnm;by_cases hfull:room≤nm
     ·have HA:Hid (AddRel room L x.p chk 27 L):=HAl.out.1 hfull;clear HAl;go_wp2_with fail;go_region_with (go_at_call 65;refine HLs.out.mono ?_;rintro e w2 ⟨v',rfl,hov,g2⟩;obtain⟨a2,cap2,hv2,hf2⟩:=OwnE.form2 hov;rw[← HNm.out]at hv2;subst hv2;have HB2:Hid (Below wr.drew.heap.size wr.drew w2):=g2;have k2:w2.cell? ⟨r,1,none⟩=some (.int .i64 room):=(HKs.out _ g2).2;clear hov hf2 g2)
      all_goals
       go_wp2_with fail;go_ret;exact⟨27,L,rfl,HA.out,HNo.out _ (btr HGd.out HB2.out (Nat.le_refl _))⟩
     ·have HA:Hid (AddRel room L x.p chk 0 (insL L x.p)):=HAl.out.2 hfull;clear HAl;go_wp2_with fail;go_region_with (go_at_call 65;refine HLs.out.mono ?_;rintro e w2 ⟨v',rfl,hov,g2⟩;obtain⟨a2,cap2,hv2,hf2⟩:=OwnE.form2 hov;rw[← HNm.out]at hv2;subst hv2;have HB2:Hid (Below wr.drew.heap.size wr.drew w2):=g2;have k2:w2.cell? ⟨r,1,none⟩=some (.int .i64 room):=(HKs.out _ g2).2;clear hov hf2 g2)
      all_goals
       have HG2:Hid (Below w.heap.size w w2):=btr HGd.out HB2.out (Nat.le_refl _);have z2:wr.heap.size≤w2.heap.size:=HB2.out.size;have HX2:Hid (Be w2 w.heap.size 0 x):=HXd.out _ HB2.out;clear HB2 HXd HKs HLs HNm k2 b0 c0 c1 HBd;go_wp2_with fail;go_loopw [11] (fun i wq=>∃ k:Nat,k≤l.length∧i=.int .i64 k∧Hid (∀ j (hj:j<l.length),j<k→x.p.pri≤l[j].p.pri)∧Hid (Below w2.heap.size w2 wq)) (fun i _=>l.length-(intOf i).toNat);case atStart=>exact⟨0,Nat.zero_le _,rfl,(show ∀ j,_ from fun j _ hj=>absurd hj (Nat.not_lt_zero _)),Below.refl _ _⟩
       case round =>
        obtain⟨k,hk,rfl,HP,HBq⟩:=hrel;have HGq:Hid (Below w.heap.size w wr):=btr HG2.out HBq.out (Nat.le_refl _);have zq:=HBq.out.size;have c0:wr.cell? ⟨r,0,none⟩=some (.slice a l.length cap):=(HGq.out.cell (p:=⟨r,0,none⟩) hrl).trans hcl;have cb:wr.cell? ⟨w.heap.size,1,none⟩=some (.int .i64 x.p.pri):=HX2.out.below (by omega) HBq.out 1 _ rfl;by_cases hgo:∃ hl:k<l.length,¬ l[k].p.pri<x.p.pri
        ·obtain⟨hlt,hge⟩:=hgo;obtain⟨gb,rfl,hgb0,hgb,hnc,hcm⟩:∃ g,a=some ⟨g,0,none⟩∧base≤g∧g<w.heap.size∧l.length≤cap∧cap≤maxLen:=by
          rcases HF.out with⟨_,h,_⟩|h
          ·subst h;cases hlt
          ·exact h
         have HP2:Hid (∀ j (hj:j<l.length),j<k+1→x.p.pri≤l[j].p.pri):=(show ∀ j,_ from fun j hj hjk=>by
          by_cases e:j=k
          ·subst e;omega
          ·exact HP.out j hj (by omega))
         have y1:wr.cell? ⟨gb,k*10+1,none⟩=some (.int .i64 l[k].p.pri):=(OwnE.be rfl HR.out.row k hlt).below hgb HGq.out 1 _ rfl;have hge2:x.p.pri≤l[k].p.pri:=by omega
         clear HP;generalize l[k].p.pri=py at *
         go_wp2_with fail;go_quiet (fail);go_wp2_with fail;go_roundw;case rel=>exact⟨k+1,by omega,by go_num,HP2,bdr HBq.out _⟩
         case measure=>simp[intOf];omega
        ·
         have HE:Hid (endV x.p.pri L=k):=(show _=_ by
          rw[← HLe.out];by_cases hlt:k<l.length
          ·refine endV_at x.p.pri _ k (by simpa using hlt) (fun j hj hjk=>by have:=HP.out j (by simpa using hj) hjk;rw[List.getElem_map];omega) ?_;rw[List.getElem_map];by_cases h:l[k].p.pri<x.p.pri
           ·exact h
           ·exact absurd ⟨hlt,h⟩ hgo
          ·have hkl:k=l.length:=by omega
           rw[endV_none x.p.pri _ (fun j hj=>by have:=HP.out j (by simpa using hj) (by rw[hkl];simpa using hj);rw[List.getElem_map];omega),List.length_map,hkl])
         clear HP;by_cases hlt:k<l.length
         ·obtain⟨gb,rfl,hgb0,hgb,hnc,hcm⟩:∃ g,a=some ⟨g,0,none⟩∧base≤g∧g<w.heap.size∧l.length≤cap∧cap≤maxLen:=by
           rcases HF.out with⟨_,h,_⟩|h
           ·subst h;cases hlt
           ·exact h
          have y1:wr.cell? ⟨gb,k*10+1,none⟩=some (.int .i64 l[k].p.pri):=(OwnE.be rfl HR.out.row k hlt).below hgb HGq.out 1 _ rfl;have hge2 : ¬ x.p.pri≤l[k].p.pri:=by
           by_cases h:l[k].p.pri<x.p.pri
           ·omega
           ·exact absurd ⟨hlt,h⟩ hgo
          clear hgo;generalize l[k].p.pri=py at *
          have hck : ¬ (cap=k):=by omega
          have hkc:k≤cap:=by omega
          go_wp2_with fail;go_quiet (fail);obtain⟨U,hU⟩:∃ U,wr.drewN nq=U:=⟨_,rfl⟩
          rw[hU];have HGU:Hid (Below w.heap.size w U):=(show Below _ _ _ by rw[← hU];exact bdr HGq.out nq)
          have HXU:Hid (Be U w.heap.size 0 x):=(show Be _ _ _ _ by have hb:Be wr w.heap.size 0 x:=HX2.out.below (by omega) HBq.out;rw[← hU];exact hb)
          have zU:w.heap.size+1≤U.heap.size:=by rw[← hU];show _≤wr.heap.size;omega
          have HRU:Hid (Rm base U r S room (.slice (some ⟨gb,0,none⟩) l.length cap) l):=HR.out.below HGU.out;have cU:U.cell? ⟨r,0,none⟩=some (.slice (some ⟨gb,0,none⟩) l.length cap):=HRU.out.cl;clear hU c0 cb
          go_wp2_with (first
           | (at_builtin;refine wpList_appE rfl (.tmp 101) (.tmp 107) rfl U.heap.size (.slice none 0 0) 0 [] rfl (World.ownsRow_nil _ _ _ _) (some ⟨gb,0,none⟩) k cap (l.take k) (by first|(rw[List.length_take];omega)|simp) (by simp[Act.eval,Act.put]) (.inr ⟨gb,0,rfl,row_take rfl HRU.out.row k⟩) (by first|(rw[List.length_take];omega)|simp) (Nat.le_refl _) ?_;intro v3 w3 h3 b3;have HO3:Hid (w3.ownsRow U.heap.size 76 10 v3 k (flatE (l.take k))):=(show World.ownsRow _ _ _ _ _ _ _ by simpa using h3);have g3:Below U.heap.size U w3:=⟨b3.os,b3.tape,b3.output,b3.size,fun q hq=>b3.block q hq (by simp[Value.ownBlock])⟩;have HG3:Hid (Below U.heap.size U w3):=g3;have z3:=g3.size;have HX3:Hid (Be w3 w.heap.size 0 x):=HXU.out.below (by omega) g3;have HO4:Hid ((w3.alloc (.cells (feC x) 76)).ownsRow U.heap.size 76 10 v3 k (flatE (l.take k))):=own_below HO3.out (by go_grown);have HN4:Hid ((w3.alloc (.cells (feC x) 76)).heap[w3.heap.size]? = some (.cells (feC x) 76 (0,0))):=heap_alloc_new w3 _;have HG4:Hid (Below U.heap.size U (w3.alloc (.cells (feC x) 76))):=btr g3 (by go_grown) (Nat.le_refl _);clear h3 b3 g3)
           | (refine load_E rfl (.tmp 4) rfl w.heap.size 0 x rfl HX3.out ?_)
           | (at_builtin;refine wpList_appE rfl (.tmp 109) (.tmp 111) rfl U.heap.size v3 k (flatE (l.take k)) rfl HO4.out (some ⟨w3.heap.size,0,none⟩) 1 1 [x] rfl rfl (.inr ⟨_,_,rfl,fun j u hj=>(by have hq:=news_one HN4.out j u hj;rw[addP]at hq;exact hq)⟩) (by simp<;>omega) (by simp<;>omega) ?_;intro v5 w5 h5 b5;have HO5:Hid (w5.ownsRow U.heap.size 76 10 v5 (k+1) (flatE (l.take k++[x]))):=(show World.ownsRow _ _ _ _ _ _ _ by rw[flatE_append];exact h5);have g5:Below U.heap.size U w5:=HG4.out.grown b5 (by simp<;>omega) (fun q hq=>(HO4.out.lt q hq).1);have HG5:Hid (Below U.heap.size U w5):=g5;have z5:=g5.size;have HR5:Hid (Rm base w5 r S room (.slice (some ⟨gb,0,none⟩) l.length cap) l):=HRU.out.below g5;have c5:w5.cell? ⟨r,0,none⟩=some (.slice (some ⟨gb,0,none⟩) l.length cap):=HR5.out.cl;clear h5 b5 g5)
           | (at_builtin;refine wpList_appE rfl (.tmp 114) (.tmp 120) rfl U.heap.size v5 (k+1) (flatE (l.take k++[x])) rfl HO5.out (some ⟨gb,k*10,none⟩) (l.length-k) (cap-k) (l.drop k) (by simp) (by simp[Act.eval,Act.put]) (.inr ⟨gb,k*10,rfl,row_cells rfl HR5.out.row k hk⟩) (by first|(rw[List.length_drop];omega)|simp) (by omega) ?_;intro v6 w6 h6 b6;have h6':OwnE U.heap.size w6 v6 (l.take k++[x]++l.drop k):=(show World.ownsRow _ _ _ _ _ _ _ by rw[flatE_append,show(l.take k++[x]++l.drop k).length=k+1+(l.length-k)by simp<;>omega];exact h6);obtain⟨a6,cap6,hv6,hf6⟩:=OwnE.form2 h6';obtain⟨n6,hn6⟩:∃ n,n=(l.take k++[x]++l.drop k).length:=⟨_,rfl⟩;rw[← hn6]at hv6;subst hv6;have g6:Below w.heap.size w w6:=btr HGU.out (HG5.out.grown b6 (by omega) (fun q hq=>(HO5.out.lt q hq).1)) (Nat.le_refl _);have HG6:Hid (Below w.heap.size w w6):=g6;have HO6:Hid (n6=(l.take k++[x]++l.drop k).length∧OwnE U.heap.size w6 (.slice a6 n6 cap6) (l.take k++[x]++l.drop k)):=(show _∧_ from⟨hn6,h6'⟩);have d1:w6.cell? ⟨r,0,none⟩=some (.slice (some ⟨gb,0,none⟩) l.length cap):=(g6.cell (p:=⟨r,0,none⟩) hrl).trans hcl;have d2:w6.frozen? ⟨r,0,none⟩=false:=(World.frozen?_of_block (w:=w) (g6.block r hrl)).trans (HR.out.fz 0);clear h6 h6' b6 hf6 hn6 g6))
          go_ret;refine⟨0,insL L x.p,rfl,HA.out,?_⟩;exact radd_fin HR.out HG6.out (by omega) HO6.out.1 HO6.out.2 (fun y hy=>by
           simp only[List.mem_append,List.mem_singleton]at hy;rcases hy with(hy|hy)|hy
           ·exact HR.out.en y (List.mem_of_mem_take hy)
           ·rw[hy];exact HXW.out
           ·exact HR.out.en y (List.mem_of_mem_drop hy)) 0 _ (ins_map _ x _ L HLe.out HE.out)
         ·clear hgo;have hkl:k=l.length:=by omega
          subst hkl;rcases HF.out with⟨rfl,hl0,rfl⟩|⟨gb,rfl,hgb0,hgb,hnc,hcm⟩
          ·subst hl0;simp only[List.length_nil]at *
           go_wp2_with fail;go_quiet (fail);obtain⟨U,hU⟩:∃ U,wr.drewN nq=U:=⟨_,rfl⟩
           rw[hU];have HGU:Hid (Below w.heap.size w U):=(show Below _ _ _ by rw[← hU];exact bdr HGq.out nq)
           have HXU:Hid (Be U w.heap.size 0 x):=(show Be _ _ _ _ by have hb:Be wr w.heap.size 0 x:=HX2.out.below (by omega) HBq.out;rw[← hU];exact hb)
           have zU:w.heap.size+1≤U.heap.size:=by rw[← hU];show _≤wr.heap.size;omega
           have HRU:Hid (Rm base U r S room (.slice none 0 0) ([]:List Fe)):=HR.out.below HGU.out;have cU:U.cell? ⟨r,0,none⟩=some (.slice none 0 0):=HRU.out.cl;clear hU c0 cb
           go_wp2_with (first
            | (at_builtin;refine wpList_appE rfl (.tmp 101) (.tmp 107) rfl U.heap.size (.slice none 0 0) 0 [] rfl (World.ownsRow_nil _ _ _ _) none 0 0 (([]:List Fe).take 0) (by first|(rw[List.length_take];omega)|simp) (by simp[Act.eval,Act.put]) (.inl rfl) (by first|(rw[List.length_take];omega)|simp) (Nat.le_refl _) ?_;intro v3 w3 h3 b3;have HO3:Hid (w3.ownsRow U.heap.size 76 10 v3 0 (flatE (([]:List Fe).take 0))):=(show World.ownsRow _ _ _ _ _ _ _ by simpa using h3);have g3:Below U.heap.size U w3:=⟨b3.os,b3.tape,b3.output,b3.size,fun q hq=>b3.block q hq (by simp[Value.ownBlock])⟩;have HG3:Hid (Below U.heap.size U w3):=g3;have z3:=g3.size;have HX3:Hid (Be w3 w.heap.size 0 x):=HXU.out.below (by omega) g3;have HO4:Hid ((w3.alloc (.cells (feC x) 76)).ownsRow U.heap.size 76 10 v3 0 (flatE (([]:List Fe).take 0))):=own_below HO3.out (by go_grown);have HN4:Hid ((w3.alloc (.cells (feC x) 76)).heap[w3.heap.size]? = some (.cells (feC x) 76 (0,0))):=heap_alloc_new w3 _;have HG4:Hid (Below U.heap.size U (w3.alloc (.cells (feC x) 76))):=btr g3 (by go_grown) (Nat.le_refl _);clear h3 b3 g3)
            | (refine load_E rfl (.tmp 4) rfl w.heap.size 0 x rfl HX3.out ?_)
            | (at_builtin;refine wpList_appE rfl (.tmp 109) (.tmp 111) rfl U.heap.size v3 0 (flatE (([]:List Fe).take 0)) rfl HO4.out (some ⟨w3.heap.size,0,none⟩) 1 1 [x] rfl rfl (.inr ⟨_,_,rfl,fun j u hj=>(by have hq:=news_one HN4.out j u hj;rw[addP]at hq;exact hq)⟩) (by simp<;>omega) (by simp<;>omega) ?_;intro v5 w5 h5 b5;have HO5:Hid (w5.ownsRow U.heap.size 76 10 v5 (0+1) (flatE (([]:List Fe).take 0++[x]))):=(show World.ownsRow _ _ _ _ _ _ _ by rw[flatE_append];exact h5);have g5:Below U.heap.size U w5:=HG4.out.grown b5 (by simp<;>omega) (fun q hq=>(HO4.out.lt q hq).1);have HG5:Hid (Below U.heap.size U w5):=g5;have z5:=g5.size;have HR5:Hid (Rm base w5 r S room (.slice none 0 0) ([]:List Fe)):=HRU.out.below g5;have c5:w5.cell? ⟨r,0,none⟩=some (.slice none 0 0):=HR5.out.cl;clear h5 b5 g5)
            | (at_builtin;refine wpList_appE rfl (.tmp 114) (.tmp 120) rfl U.heap.size v5 (0+1) (flatE (([]:List Fe).take 0++[x])) rfl HO5.out none 0 0 (([]:List Fe).drop 0) (by simp) (by simp[Act.eval,Act.put]) (.inl rfl) (by first|(rw[List.length_drop];omega)|simp) (by omega) ?_;intro v6 w6 h6 b6;have h6':OwnE U.heap.size w6 v6 (([]:List Fe).take 0++[x]++([]:List Fe).drop 0):=(show World.ownsRow _ _ _ _ _ _ _ by rw[flatE_append,show(([]:List Fe).take 0++[x]++([]:List Fe).drop 0).length=0+1+0 by simp<;>omega];exact h6);obtain⟨a6,cap6,hv6,hf6⟩:=OwnE.form2 h6';obtain⟨n6,hn6⟩:∃ n,n=(([]:List Fe).take 0++[x]++([]:List Fe).drop 0).length:=⟨_,rfl⟩;rw[← hn6]at hv6;subst hv6;have g6:Below w.heap.size w w6:=btr HGU.out (HG5.out.grown b6 (by omega) (fun q hq=>(HO5.out.lt q hq).1)) (Nat.le_refl _);have HG6:Hid (Below w.heap.size w w6):=g6;have HO6:Hid (n6=(([]:List Fe).take 0++[x]++([]:List Fe).drop 0).length∧OwnE U.heap.size w6 (.slice a6 n6 cap6) (([]:List Fe).take 0++[x]++([]:List Fe).drop 0)):=(show _∧_ from⟨hn6,h6'⟩);have d1:w6.cell? ⟨r,0,none⟩=some (.slice none 0 0):=(g6.cell (p:=⟨r,0,none⟩) hrl).trans hcl;have d2:w6.frozen? ⟨r,0,none⟩=false:=(World.frozen?_of_block (w:=w) (g6.block r hrl)).trans (HR.out.fz 0);clear h6 h6' b6 hf6 hn6 g6))
           go_ret;refine⟨0,insL L x.p,rfl,HA.out,?_⟩;exact radd_fin HR.out HG6.out (by omega) HO6.out.1 HO6.out.2 (fun y hy=>by
            simp only[List.mem_append,List.mem_singleton]at hy;rcases hy with(hy|hy)|hy
            ·exact HR.out.en y (List.mem_of_mem_take hy)
            ·rw[hy];exact HXW.out
            ·exact HR.out.en y (List.mem_of_mem_drop hy)) 0 _ (ins_map _ x _ L HLe.out HE.out)
          ·by_cases hck:cap=l.length
           ·subst hck;go_wp2_with fail;go_quiet (fail);obtain⟨U,hU⟩:∃ U,wr.drewN nq=U:=⟨_,rfl⟩
            rw[hU];have HGU:Hid (Below w.heap.size w U):=(show Below _ _ _ by rw[← hU];exact bdr HGq.out nq)
            have HXU:Hid (Be U w.heap.size 0 x):=(show Be _ _ _ _ by have hb:Be wr w.heap.size 0 x:=HX2.out.below (by omega) HBq.out;rw[← hU];exact hb)
            have zU:w.heap.size+1≤U.heap.size:=by rw[← hU];show _≤wr.heap.size;omega
            have HRU:Hid (Rm base U r S room (.slice (some ⟨gb,0,none⟩) l.length l.length) l):=HR.out.below HGU.out;have cU:U.cell? ⟨r,0,none⟩=some (.slice (some ⟨gb,0,none⟩) l.length l.length):=HRU.out.cl;clear hU c0 cb
            go_wp2_with (first
             | (at_builtin;refine wpList_appE rfl (.tmp 101) (.tmp 107) rfl U.heap.size (.slice none 0 0) 0 [] rfl (World.ownsRow_nil _ _ _ _) (some ⟨gb,0,none⟩) l.length l.length (l.take l.length) (by first|(rw[List.length_take];omega)|simp) (by simp[Act.eval,Act.put]) (.inr ⟨gb,0,rfl,row_take rfl HRU.out.row l.length⟩) (by first|(rw[List.length_take];omega)|simp) (Nat.le_refl _) ?_;intro v3 w3 h3 b3;have HO3:Hid (w3.ownsRow U.heap.size 76 10 v3 l.length (flatE (l.take l.length))):=(show World.ownsRow _ _ _ _ _ _ _ by simpa using h3);have g3:Below U.heap.size U w3:=⟨b3.os,b3.tape,b3.output,b3.size,fun q hq=>b3.block q hq (by simp[Value.ownBlock])⟩;have HG3:Hid (Below U.heap.size U w3):=g3;have z3:=g3.size;have HX3:Hid (Be w3 w.heap.size 0 x):=HXU.out.below (by omega) g3;have HO4:Hid ((w3.alloc (.cells (feC x) 76)).ownsRow U.heap.size 76 10 v3 l.length (flatE (l.take l.length))):=own_below HO3.out (by go_grown);have HN4:Hid ((w3.alloc (.cells (feC x) 76)).heap[w3.heap.size]? = some (.cells (feC x) 76 (0,0))):=heap_alloc_new w3 _;have HG4:Hid (Below U.heap.size U (w3.alloc (.cells (feC x) 76))):=btr g3 (by go_grown) (Nat.le_refl _);clear h3 b3 g3)
             | (refine load_E rfl (.tmp 4) rfl w.heap.size 0 x rfl HX3.out ?_)
             | (at_builtin;refine wpList_appE rfl (.tmp 109) (.tmp 111) rfl U.heap.size v3 l.length (flatE (l.take l.length)) rfl HO4.out (some ⟨w3.heap.size,0,none⟩) 1 1 [x] rfl rfl (.inr ⟨_,_,rfl,fun j u hj=>(by have hq:=news_one HN4.out j u hj;rw[addP]at hq;exact hq)⟩) (by simp<;>omega) (by simp<;>omega) ?_;intro v5 w5 h5 b5;have HO5:Hid (w5.ownsRow U.heap.size 76 10 v5 (l.length+1) (flatE (l.take l.length++[x]))):=(show World.ownsRow _ _ _ _ _ _ _ by rw[flatE_append];exact h5);have g5:Below U.heap.size U w5:=HG4.out.grown b5 (by simp<;>omega) (fun q hq=>(HO4.out.lt q hq).1);have HG5:Hid (Below U.heap.size U w5):=g5;have z5:=g5.size;have HR5:Hid (Rm base w5 r S room (.slice (some ⟨gb,0,none⟩) l.length l.length) l):=HRU.out.below g5;have c5:w5.cell? ⟨r,0,none⟩=some (.slice (some ⟨gb,0,none⟩) l.length l.length):=HR5.out.cl;clear h5 b5 g5)
             | (at_builtin;refine wpList_appE rfl (.tmp 114) (.tmp 120) rfl U.heap.size v5 (l.length+1) (flatE (l.take l.length++[x])) rfl HO5.out (some ⟨gb,0,none⟩) 0 0 (l.drop l.length) (by simp) (by simp[Act.eval,Act.put]) (.inl List.drop_length) (by first|(rw[List.length_drop];omega)|simp) (by omega) ?_;intro v6 w6 h6 b6;have h6':OwnE U.heap.size w6 v6 (l.take l.length++[x]++l.drop l.length):=(show World.ownsRow _ _ _ _ _ _ _ by rw[flatE_append,show(l.take l.length++[x]++l.drop l.length).length=l.length+1+0 by simp<;>omega];exact h6);obtain⟨a6,cap6,hv6,hf6⟩:=OwnE.form2 h6';obtain⟨n6,hn6⟩:∃ n,n=(l.take l.length++[x]++l.drop l.length).length:=⟨_,rfl⟩;rw[← hn6]at hv6;subst hv6;have g6:Below w.heap.size w w6:=btr HGU.out (HG5.out.grown b6 (by omega) (fun q hq=>(HO5.out.lt q hq).1)) (Nat.le_refl _);have HG6:Hid (Below w.heap.size w w6):=g6;have HO6:Hid (n6=(l.take l.length++[x]++l.drop l.length).length∧OwnE U.heap.size w6 (.slice a6 n6 cap6) (l.take l.length++[x]++l.drop l.length)):=(show _∧_ from⟨hn6,h6'⟩);have d1:w6.cell? ⟨r,0,none⟩=some (.slice (some ⟨gb,0,none⟩) l.length l.length):=(g6.cell (p:=⟨r,0,none⟩) hrl).trans hcl;have d2:w6.frozen? ⟨r,0,none⟩=false:=(World.frozen?_of_block (w:=w) (g6.block r hrl)).trans (HR.out.fz 0);clear h6 h6' b6 hf6 hn6 g6))
            go_ret;refine⟨0,insL L x.p,rfl,HA.out,?_⟩;exact radd_fin HR.out HG6.out (by omega) HO6.out.1 HO6.out.2 (fun y hy=>by
             simp only[List.mem_append,List.mem_singleton]at hy;rcases hy with(hy|hy)|hy
             ·exact HR.out.en y (List.mem_of_mem_take hy)
             ·rw[hy];exact HXW.out
             ·exact HR.out.en y (List.mem_of_mem_drop hy)) 0 _ (ins_map _ x _ L HLe.out HE.out)
           ·have hkc:l.length≤cap:=by omega
            go_wp2_with fail;go_quiet (fail);obtain⟨U,hU⟩:∃ U,wr.drewN nq=U:=⟨_,rfl⟩
            rw[hU];have HGU:Hid (Below w.heap.size w U):=(show Below _ _ _ by rw[← hU];exact bdr HGq.out nq)
            have HXU:Hid (Be U w.heap.size 0 x):=(show Be _ _ _ _ by have hb:Be wr w.heap.size 0 x:=HX2.out.below (by omega) HBq.out;rw[← hU];exact hb)
            have zU:w.heap.size+1≤U.heap.size:=by rw[← hU];show _≤wr.heap.size;omega
            have HRU:Hid (Rm base U r S room (.slice (some ⟨gb,0,none⟩) l.length cap) l):=HR.out.below HGU.out;have cU:U.cell? ⟨r,0,none⟩=some (.slice (some ⟨gb,0,none⟩) l.length cap):=HRU.out.cl;clear hU c0 cb
            go_wp2_with (first
             | (at_builtin;refine wpList_appE rfl (.tmp 101) (.tmp 107) rfl U.heap.size (.slice none 0 0) 0 [] rfl (World.ownsRow_nil _ _ _ _) (some ⟨gb,0,none⟩) l.length cap (l.take l.length) (by first|(rw[List.length_take];omega)|simp) (by simp[Act.eval,Act.put]) (.inr ⟨gb,0,rfl,row_take rfl HRU.out.row l.length⟩) (by first|(rw[List.length_take];omega)|simp) (Nat.le_refl _) ?_;intro v3 w3 h3 b3;have HO3:Hid (w3.ownsRow U.heap.size 76 10 v3 l.length (flatE (l.take l.length))):=(show World.ownsRow _ _ _ _ _ _ _ by simpa using h3);have g3:Below U.heap.size U w3:=⟨b3.os,b3.tape,b3.output,b3.size,fun q hq=>b3.block q hq (by simp[Value.ownBlock])⟩;have HG3:Hid (Below U.heap.size U w3):=g3;have z3:=g3.size;have HX3:Hid (Be w3 w.heap.size 0 x):=HXU.out.below (by omega) g3;have HO4:Hid ((w3.alloc (.cells (feC x) 76)).ownsRow U.heap.size 76 10 v3 l.length (flatE (l.take l.length))):=own_below HO3.out (by go_grown);have HN4:Hid ((w3.alloc (.cells (feC x) 76)).heap[w3.heap.size]? = some (.cells (feC x) 76 (0,0))):=heap_alloc_new w3 _;have HG4:Hid (Below U.heap.size U (w3.alloc (.cells (feC x) 76))):=btr g3 (by go_grown) (Nat.le_refl _);clear h3 b3 g3)
             | (refine load_E rfl (.tmp 4) rfl w.heap.size 0 x rfl HX3.out ?_)
             | (at_builtin;refine wpList_appE rfl (.tmp 109) (.tmp 111) rfl U.heap.size v3 l.length (flatE (l.take l.length)) rfl HO4.out (some ⟨w3.heap.size,0,none⟩) 1 1 [x] rfl rfl (.inr ⟨_,_,rfl,fun j u hj=>(by have hq:=news_one HN4.out j u hj;rw[addP]at hq;exact hq)⟩) (by simp<;>omega) (by simp<;>omega) ?_;intro v5 w5 h5 b5;have HO5:Hid (w5.ownsRow U.heap.size 76 10 v5 (l.length+1) (flatE (l.take l.length++[x]))):=(show World.ownsRow _ _ _ _ _ _ _ by rw[flatE_append];exact h5);have g5:Below U.heap.size U w5:=HG4.out.grown b5 (by simp<;>omega) (fun q hq=>(HO4.out.lt q hq).1);have HG5:Hid (Below U.heap.size U w5):=g5;have z5:=g5.size;have HR5:Hid (Rm base w5 r S room (.slice (some ⟨gb,0,none⟩) l.length cap) l):=HRU.out.below g5;have c5:w5.cell? ⟨r,0,none⟩=some (.slice (some ⟨gb,0,none⟩) l.length cap):=HR5.out.cl;clear h5 b5 g5)
             | (at_builtin;refine wpList_appE rfl (.tmp 114) (.tmp 120) rfl U.heap.size v5 (l.length+1) (flatE (l.take l.length++[x])) rfl HO5.out (some ⟨gb,l.length*10,none⟩) 0 (cap-l.length) (l.drop l.length) (by simp) (by simp[Act.eval,Act.put]) (.inl List.drop_length) (by first|(rw[List.length_drop];omega)|simp) (by omega) ?_;intro v6 w6 h6 b6;have h6':OwnE U.heap.size w6 v6 (l.take l.length++[x]++l.drop l.length):=(show World.ownsRow _ _ _ _ _ _ _ by rw[flatE_append,show(l.take l.length++[x]++l.drop l.length).length=l.length+1+0 by simp<;>omega];exact h6);obtain⟨a6,cap6,hv6,hf6⟩:=OwnE.form2 h6';obtain⟨n6,hn6⟩:∃ n,n=(l.take l.length++[x]++l.drop l.length).length:=⟨_,rfl⟩;rw[← hn6]at hv6;subst hv6;have g6:Below w.heap.size w w6:=btr HGU.out (HG5.out.grown b6 (by omega) (fun q hq=>(HO5.out.lt q hq).1)) (Nat.le_refl _);have HG6:Hid (Below w.heap.size w w6):=g6;have HO6:Hid (n6=(l.take l.length++[x]++l.drop l.length).length∧OwnE U.heap.size w6 (.slice a6 n6 cap6) (l.take l.length++[x]++l.drop l.length)):=(show _∧_ from⟨hn6,h6'⟩);have d1:w6.cell? ⟨r,0,none⟩=some (.slice (some ⟨gb,0,none⟩) l.length cap):=(g6.cell (p:=⟨r,0,none⟩) hrl).trans hcl;have d2:w6.frozen? ⟨r,0,none⟩=false:=(World.frozen?_of_block (w:=w) (g6.block r hrl)).trans (HR.out.fz 0);clear h6 h6' b6 hf6 hn6 g6))
            go_ret;refine⟨0,insL L x.p,rfl,HA.out,?_⟩;exact radd_fin HR.out HG6.out (by omega) HO6.out.1 HO6.out.2 (fun y hy=>by
             simp only[List.mem_append,List.mem_singleton]at hy;rcases hy with(hy|hy)|hy
             ·exact HR.out.en y (List.mem_of_mem_take hy)
             ·rw[hy];exact HXW.out
             ·exact HR.out.en y (List.mem_of_mem_drop hy)) 0 _ (ins_map _ x _ L HLe.out HE.out)
    ·obtain⟨gb,rfl,hgb0,hgb,hnc,hcm⟩:∃ g,a=some ⟨g,0,none⟩∧base≤g∧g<w.heap.size∧l.length≤cap∧cap≤maxLen:=by
      rcases HF.out with⟨_,h,_⟩|h
      ·subst h;cases hil
      ·exact h
     have HAr:Hid (AddRel room L x.p chk 0 (L.set i x.p)):=(show AddRel _ _ _ _ _ _ from .inr (.inr ⟨HW0.out,HCe.out,.inl ⟨i,by rw[← HLe.out,List.length_map];exact hil,by rw[← hal];congr 1;subst HLe;simp,rfl,rfl⟩⟩))
     have hi0 : ¬ ((i:Int)<0):=by omega
     have hi1:(i:Int)≥0:=by omega
     have HSr:Hid (∀ W,Be W w.heap.size 0 x→W.cell? ⟨r,0,none⟩=some (.slice (some ⟨gb,0,none⟩) l.length cap)→SR w.heap.size r gb l.length cap x W):=(show ∀ W,_ from fun W hB hc=>sr_of hB hc)
     have HXd:Hid (Be wr.drew w.heap.size 0 x):=HXr.out.below (w:=wr) (by omega) (show Below wr.heap.size wr wr.drew by go_grown);have c0d:wr.drew.cell? ⟨r,0,none⟩=some (.slice (some ⟨gb,0,none⟩) l.length cap):=c0;have HGd:Hid (Below w.heap.size w wr.drew):=btr HGr.out (show Below wr.heap.size wr wr.drew by go_grown) (by omega);have HRd:Hid (Rm base wr.drew r S room (.slice (some ⟨gb,0,none⟩) l.length cap) l):=HR.out.below HGd.out;have HTh:Hid (wr.drew.there gb (i*10) 10):=OwnE.there rfl HRd.out.row i hil;have HSv:Hid (∀ V,V=wr.drew.setCells gb (i*10) (feC x).toList→Be V w.heap.size 0 x∧V.cell? ⟨r,0,none⟩=some (.slice (some ⟨gb,0,none⟩) l.length cap)):=(show ∀ V,_ from fun V hV=>by
      have o:Only gb wr.drew V:=by rw[hV];exact only_cells gb _ _ _ _ (Only.refl gb wr.drew)
      exact⟨range_block (w:=wr.drew) HXd.out (o.block _ (by omega)),(World.cell?_of_block (w:=wr.drew) (o.block r (fun e=>(HRd.out.so gb rfl).2 e.symm))).trans HRd.out.cl⟩)
     have HSe:Hid (∀ V,V=wr.drew.setCells gb (i*10) (feC x).toList→Rs base V r S room (L.set i x.p)∧Kept S w V):=(show ∀ V,_ from fun V hV=>by
      have h1:=HRd.out.set i hil x ⟨HXW.out.1.below HGd.out,HXW.out.2⟩;subst hV;refine⟨⟨_,_,h1.1,by rw[← HLe.out,List.map_set]⟩,(Kept.of_below HGd.out).trans h1.2 (fun k hk=>.inl hk)⟩)
     clear HPl HF HR hcl hcr HWr HNo HRs;go_wp2_with fail;refine wp_region_held_drew (S:=fun W=>Be W w.heap.size 0 x∧W.cell? ⟨r,0,none⟩=some (.slice (some ⟨gb,0,none⟩) l.length cap)) (by kernel_rfl) ⟨HXd.out,c0d⟩ (fun hHeld => ?_);refine wpAnyH_take (i:=0) (oi:={ dst:=some 62,op:=Op.move (Operand.tmp 0),type:=38,pos:=_,after:=#[],guard:=none }) (v := ?_) rfl (by kernel_rfl) (by kernel_rfl) (by kernel_rfl) (fun _ _ _ h=>h) (Or.inl ⟨by rfl,?_⟩) (by assumption) ?_;rotate_left 1
     focus (intro W hSw;(try dsimp only at hSw);(try obtain⟨hSw1,hSw2⟩:=hSw);go_simp;(try with_reducible rfl))
     try simp only[Act.put,List.setIfInBounds_toArray,List.set_cons_zero,List.set_cons_succ]
     refine wpAnyH_take (i:=1) (oi:={ dst:=some 63,op:=Op.nilCheck (Operand.tmp 62),type:=0,pos:=_,after:=#[{ on:=0,ground:=Ground.data }],guard:=none }) (v := ?_) rfl (by kernel_rfl) (by kernel_rfl) (by kernel_rfl) (fun _ _ _ h=>h) (Or.inl ⟨by rfl,?_⟩) (by assumption) ?_;rotate_left 1
     focus (intro W hSw;(try dsimp only at hSw);(try obtain⟨hSw1,hSw2⟩:=hSw);go_simp;(try with_reducible rfl))
     try simp only[Act.put,List.setIfInBounds_toArray,List.set_cons_zero,List.set_cons_succ]
     refine wpAnyH_take (i:=2) (oi:={ dst:=some 64,op:=Op.fieldAddr 143 (Operand.tmp 63) 0,type:=0,pos:=_,after:=#[{ on:=1,ground:=Ground.data }],guard:=none }) (v := ?_) rfl (by kernel_rfl) (by kernel_rfl) (by kernel_rfl) (fun _ _ _ h=>h) (Or.inl ⟨by rfl,?_⟩) (by assumption) ?_;rotate_left 1
     focus (intro W hSw;(try dsimp only at hSw);(try obtain⟨hSw1,hSw2⟩:=hSw);go_simp;(try with_reducible rfl))
     try simp only[Act.put,List.setIfInBounds_toArray,List.set_cons_zero,List.set_cons_succ]
     refine wpAnyH_take (i:=3) (oi:={ dst:=some 65,op:=Op.load 22 (Operand.tmp 64),type:=22,pos:=_,after:=#[{ on:=2,ground:=Ground.data }],guard:=none }) (v := ?_) rfl (by kernel_rfl) (by kernel_rfl) (by kernel_rfl) (fun _ _ _ h=>h) (Or.inl ⟨by rfl,?_⟩) (by assumption) ?_;rotate_left 1
     focus (intro W hSw;(try dsimp only at hSw);(try obtain⟨hSw1,hSw2⟩:=hSw);go_simp;(try with_reducible rfl))
     try simp only[Act.put,List.setIfInBounds_toArray,List.set_cons_zero,List.set_cons_succ]
     refine wpAnyH_take (i:=4) (oi:={ dst:=some 66,op:=Op.move (Operand.tmp 8),type:=3,pos:=_,after:=#[],guard:=none }) (v := ?_) rfl (by kernel_rfl) (by kernel_rfl) (by kernel_rfl) (fun _ _ _ h=>h) (Or.inl ⟨by rfl,?_⟩) (by assumption) ?_;rotate_left 1
     focus (intro W hSw;(try dsimp only at hSw);(try obtain⟨hSw1,hSw2⟩:=hSw);go_simp;(try with_reducible rfl))
     try simp only[Act.put,List.setIfInBounds_toArray,List.set_cons_zero,List.set_cons_succ]
     refine wpAnyH_take (i:=5) (oi:={ dst:=some 67,op:=Op.load 76 (Operand.tmp 4),type:=76,pos:=_,after:=#[],guard:=none }) (v:=feV x) rfl (by kernel_rfl) (by kernel_rfl) (by kernel_rfl) (fun _ _ _ h=>h) (yieldsIf_load_mid (by rfl) 76 (.tmp 4) rfl w.heap.size 0 rfl (feC x).toList _ (fun W hW=>hW.1) underlying76 rfl (infoE x)) (by assumption) ?_;try simp only[Act.put,List.setIfInBounds_toArray,List.set_cons_zero,List.set_cons_succ]
     refine wpAnyH_take (i:=6) (oi:={ dst:=some 68,op:=Op.indexAddr 22 (Operand.tmp 65) (Operand.tmp 66),type:=0,pos:=_,after:=#[{ on:=3,ground:=Ground.data },{ on:=4,ground:=Ground.data },{ on:=0,ground:=Ground.phase },{ on:=1,ground:=Ground.phase },{ on:=2,ground:=Ground.phase },{ on:=3,ground:=Ground.phase },{ on:=4,ground:=Ground.phase },{ on:=5,ground:=Ground.phase }],guard:=none }) (v := ?_) rfl (by kernel_rfl) (by kernel_rfl) (by kernel_rfl) (fun _ _ _ h=>h) (Or.inl ⟨by rfl,?_⟩) (by assumption) ?_;rotate_left 1
     focus (intro W hSw;(try dsimp only at hSw);(try obtain⟨hSw1,hSw2⟩:=hSw);go_simp;(try with_reducible rfl))
     try simp only[Act.put,List.setIfInBounds_toArray,List.set_cons_zero,List.set_cons_succ]
     refine wpAnyH_ready (rs:=[7]) (by kernel_rfl) (by simp) ?_;refine AllReadyH.cons rfl (fun K hK => ?_) AllReadyH.nil;refine step_store_E rfl (.tmp 68) (.tmp 67) rfl gb (i*10) x (by simp[Act.eval]) rfl HTh.out ?_;intro V hV;refine hK.out _ _ (HSv.out V hV) (fun hHeld => ?_);have HVR:=HSe.out V hV;have HVr:Hid _:=HVR;clear HVR hHeld hK HSe HSv hV HTh HXd c0d HSr c0 c1 hi0 hi1;refine wpAnyH_done (by kernel_rfl) ?_ _;simp only[Act.put];go_wp2_with fail;go_ret;exact⟨0,L.set i x.p,rfl,HAr.out,S,HVr.out.1,HVr.out.2,fun b hb=>.inl hb⟩
 ·have hn2:(wrongE x.p != 0)=true:=by simp[hw0]
  have HAr:Hid (AddRel room L x.p chk (wrongE x.p) L):=(show AddRel _ _ _ _ _ _ from .inl ⟨hw0,rfl,rfl⟩)
  clear h hx hv hi hw0;generalize wrongE x.p=E at *
  go_enter func32,ntmps32;go_wp2_with (refine load_E rfl (.tmp 4) rfl w.heap.size 0 x rfl HX.out ?_);refine HWr.out.mono ?_;rintro e w1 ⟨rfl,g1⟩;have HG1:Hid (Below w.heap.size w w1):=btr g0 g1 (Nat.le_refl _);clear g1;go_wp2_with fail;go_ret;exact⟨E,L,rfl,HAr.out,HNo.out _ HG1.out⟩
end Go.Proofs.YtgnihbdcdefdgaaGreatDoor

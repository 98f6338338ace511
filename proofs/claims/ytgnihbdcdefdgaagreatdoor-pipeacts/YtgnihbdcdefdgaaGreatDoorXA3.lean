import Derived.Test.YtgnihbdcdefdgaaGreatDoorXA2
import Derived.Test.YtgnihbdcdefdgaaGreatDoorX22
set_option maxRecDepth 20000
set_option maxHeartbeats 16000000
set_option linter.unusedVariables false
open Go.ChangeShapes Go.WideShapes Go.ChangeAt Go.RowKit
open Go.Proofs.Tryz
namespace Go.Proofs.YtgnihbdcdefdgaaGreatDoor
namespace Gp
theorem head_n {id k:Int} {n:Nat} (h1:inB id 1 65535=true) (h2:inB k 1 4=true):headB id k n=(!(decide (16<(n:Int))) && !(k==3&&((n:Int) != 1))):=by
 unfold headB;rw[h1,h2,Bool.true_and,Bool.true_and];unfold fewV mostV inB;by_cases h3:k=3
 ·subst h3;simp only[if_true];by_cases hn:n=1
  ·subst hn;rfl
  ·by_cases h16:16<(n:Int)
   ·have : ¬ (n:Int)≤1:=by omega
    simp[h16,this]
   ·by_cases h0:1≤(n:Int)
    ·have : ¬ (n:Int)≤1:=by omega
     have h5 : ¬ (n:Int)=1:=by omega
     simp[this,h5]
    ·have h5 : ¬ (n:Int)=1:=by omega
     simp[h0,h5]
 ·have hb:(k==3)=false:=by simpa using h3
  rw[if_neg h3,if_neg h3,hb];by_cases h16:16<(n:Int)
  ·have : ¬ (n:Int)≤16:=by omega
   simp[h16,this]
  ·have:(n:Int)≤16:=by omega
   simp[h16,this]
theorem bk_n (k:Int) (b:B3):bkB k b=(!(decide (8<(b.2.2.length:Int)))&&inB b.1 0 16&&inB b.2.1 0 65535 && !(k==4&&b.1==0)):=by
 unfold bkB lwV inB;by_cases h4:k=4
 ·subst h4;simp only[if_true];by_cases h8:(b.2.2.length:Int)≤8
  ·have h8' : ¬ 8<(b.2.2.length:Int):=by omega
   by_cases h0:b.1=0
   ·simp[h8',h0]
   ·by_cases h1:0≤b.1
    ·have:1≤b.1:=by omega
     simp[h8,h8',h0,h1,this]
    ·have : ¬ 1≤b.1:=by omega
     simp[h1,this]
  ·have h8':8<(b.2.2.length:Int):=by omega
   simp[h8,h8']
 ·have hb:(k==4)=false:=by simpa using h4
  rw[if_neg h4,hb];by_cases h8:(b.2.2.length:Int)≤8
  ·have h8' : ¬ 8<(b.2.2.length:Int):=by omega
   simp[h8,h8']
  ·have h8':8<(b.2.2.length:Int):=by omega
   simp[h8,h8']
theorem rE_head {id k:Int} {l:List B3} (h:headB id k l.length=false):rightE (id,k,l)=24:=by
 unfold rightE formB;simp[h]
theorem rE_form {id k:Int} {l:List B3} (h:l.all (bkB k)=false):rightE (id,k,l)=24:=by
 unfold rightE formB;rw[if_neg (by rw[h,Bool.and_false];simp)]
theorem rE_acts {id k:Int} {l:List B3} (h1:headB id k l.length=true) (h2:l.all (bkB k)=true) (b:Bool) (h3:actsB l=b):rightE (id,k,l)=if b=true then 0 else 22:=by
 unfold rightE formB;rw[if_pos (by simp[h1,h2]),h3]
theorem rright_g (g:Gr) (w:World) (hT:Bs w g.a g.l) (hn:Sm g.l) (hU:∀ b∈g.l,AWs b.l):Calls prog 66 #[gV g] w fun e w'=>e=.returned (.int .i64 (rightE g.p))∧Below w.heap.size w w':=by
 obtain⟨id,kd,ga,l,gc⟩:=g;simp only at hT hn hU;have HW:Hid (∀ n lo hi w,Calls prog 102 #[.int .i64 n,.int .i64 lo,.int .i64 hi] w fun e w'=>e=.returned (.bool (inB n lo hi))∧w'=w):=(show ∀ n lo hi w,_ from in_any)
 have HR:Hid (∀ (a:A) w,AW a→Calls prog 103 #[tV a] w fun e w'=>e=.returned (.bool (rightB a))∧Below w.heap.size w w'):=(show ∀ (a:A) w,_ from fun a w h=>rright_any a w h)
 obtain⟨V,hV⟩:∃ V,w.alloc (.cells #[.int .i64 id,.int .i64 kd,.slice ga l.length gc] 81)=V:=⟨_,rfl⟩
 have GV:Below w.heap.size w V:=by rw[← hV];go_grown
 have zV:w.heap.size<V.heap.size:=by rw[← hV];simp
 have cV:Cg V w.heap.size 0 ⟨id,kd,ga,l,gc⟩:=by rw[← hV];exact Cg.new w ⟨id,kd,ga,l,gc⟩
 have TV:Bs V ga l:=hT.below GV;have HV:Hid (w.alloc (.cells #[.int .i64 id,.int .i64 kd,.slice ga l.length gc] 81)=V):=hV;have HX:Hid (∀ w',Below V.heap.size V w'→w'.cell? ⟨w.heap.size,1,none⟩=some (.int .i64 kd)∧w'.cell? ⟨w.heap.size,2,none⟩=some (.slice ga l.length gc)∧w.heap.size<w'.heap.size∧Bs w' ga l∧Below w.heap.size w w'):=(show ∀ w',_ from fun w' k=>⟨(cV.below zV k).2.1,(cV.below zV k).2.2,Nat.lt_of_lt_of_le zV k.size,TV.below k,btr GV k (Nat.le_refl _)⟩)
 have HN:Hid (l.length≤100∧∀ b∈l,b.l.length≤100):=(show _∧_ from⟨hn.n,hn.a⟩)
 have HU:Hid (∀ b∈l,AWs b.l):=hU;have HGV:Hid (Below w.heap.size w V):=GV;obtain⟨c1,c2,z1,_,_⟩:=HX.out V (Below.refl _ _);have c0:V.cell? ⟨w.heap.size,0,none⟩=some (.int .i64 id):=cV.1;have HLen:Hid ((l.map Bk.b3).length=l.length):=List.length_map _;show Calls prog 66 #[.agg #[.int .i64 id,.int .i64 kd,.slice ga l.length gc]] w fun e w'=>e=.returned (.int .i64 (rightE (id,kd,l.map Bk.b3)))∧Below w.heap.size w w';have HH:Hid (headB id kd l.length=false→rightE (id,kd,l.map Bk.b3)=24):=(show _→_ from fun h=>rE_head (by rw[HLen.out];exact h))
 have HFm:Hid ((l.all fun x=>bkB kd x.b3)=false→rightE (id,kd,l.map Bk.b3)=24):=(show _→_ from fun h=>rE_form (by rw[map_all];exact h))
 have HAc:Hid (headB id kd l.length=true→(l.all fun x=>bkB kd x.b3)=true→∀ b,(l.all fun x=>allB x.l)=b→rightE (id,kd,l.map Bk.b3)=if b=true then 0 else 22):=(show _→_→∀ b,_ from fun h1 h2 b h3=>rE_acts (by rw[HLen.out];exact h1) (by rw[map_all];exact h2) b (by unfold actsB;rw[map_all];exact h3))
 generalize rightE (id,kd,l.map Bk.b3)=RE at *
 clear hT hn hU hV GV zV cV TV HLen;cases h1:inB id 1 65535 with
 | false =>
   have HE:Hid (RE=24):=HH.out (by unfold headB;rw[h1];rfl);go_enter func66,ntmps66;go_wp2_with (go_at_call 102;refine(HW.out _ _ _ _).mono ?_;rintro e w' ⟨rfl,rfl⟩);rw[HV.out];go_ret;exact⟨by rw[HE.out];rfl,HGV.out⟩
 | true =>
   cases h2:inB kd 1 4 with
   | false =>
     have HE:Hid (RE=24):=HH.out (by unfold headB;rw[h1,h2];rfl);go_enter func66,ntmps66;go_wp2_with (go_at_call 102;refine(HW.out _ _ _ _).mono ?_;rintro e w' ⟨rfl,rfl⟩);rw[HV.out];go_ret;exact⟨by rw[HE.out];rfl,HGV.out⟩
   | true =>
     have hhd:=head_n (n:=l.length) h1 h2;cases h3:decide (16<(l.length:Int))with
     | true =>
       have HE:Hid (RE=24):=HH.out (by rw[hhd,h3];rfl);go_enter func66,ntmps66;go_wp2_with (go_at_call 102;refine(HW.out _ _ _ _).mono ?_;rintro e w' ⟨rfl,rfl⟩);rw[HV.out];go_ret;exact⟨by rw[HE.out];rfl,HGV.out⟩
     | false =>
       by_cases h4:kd=3∧l.length≠1
       ·have h4b:(kd==3)=true:=by simp[h4.1]
        have h4c:((l.length:Int) != 1)=true:=by simp;omega
        have HE:Hid (RE=24):=HH.out (by rw[hhd,h3,h4b,h4c];rfl);clear h4;go_enter func66,ntmps66;go_wp2_with (go_at_call 102;refine(HW.out _ _ _ _).mono ?_;rintro e w' ⟨rfl,rfl⟩);rw[HV.out];go_ret;exact⟨by rw[HE.out];rfl,HGV.out⟩
       ·have HHd:Hid (headB id kd l.length=true):=(show _=_ by
         rw[hhd,h3];by_cases hk:kd=3
         ·have:l.length=1:=Decidable.byContradiction fun hne=>h4 ⟨hk,hne⟩;simp[this]
         ·have:(kd==3)=false:=by simpa using hk
          simp[this])
        have hk3:(kd==3)=false∨((kd==3)=true∧((l.length:Int) != 1)=false):=by
         by_cases hk:kd=3
         ·right;have:l.length=1:=Decidable.byContradiction fun hne=>h4 ⟨hk,hne⟩;exact⟨by simp[hk],by simp[this]⟩
         ·left;simpa using hk
        clear h4 hhd;rcases hk3 with hk3|⟨hk3,hk4⟩
        all_goals
         go_enter func66,ntmps66;go_wp2_with (go_at_call 102;refine(HW.out _ _ _ _).mono ?_;rintro e w' ⟨rfl,rfl⟩);rw[HV.out];clear c0 c1 c2 z1;go_loopw [3] (fun v wr=>∃ q:Nat,q≤l.length∧v=.int .i64 q∧Hid (∀ i (hi:i<l.length),i<q→bkB kd l[i].b3=true)∧Below V.heap.size V wr) (fun v _=>l.length-(intOf v).toNat);case atStart=>exact⟨0,Nat.zero_le _,rfl,(show ∀ i (hi:i<l.length),_ from fun i _ h=>by omega),Below.refl _ _⟩
         case round =>
          obtain⟨q,hq,rfl,HP,hbel⟩:=hrel;obtain⟨hn1,hn2⟩:=HN.out;obtain⟨c1,c2,z1,hBs,hw⟩:=HX.out _ hbel;by_cases hlt:q<l.length
          ·obtain⟨b,o,rfl,hb,hc⟩:=hBs.at hlt;obtain⟨d0,d1,d2⟩:=hc q hlt;have HNx:Hid (bkB kd l[q].b3=true→∀ i (hi:i<l.length),i<q+1→bkB kd l[i].b3=true):=(show _→_ from fun h=>all_step (f:=fun x:Bk=>bkB kd x.b3) hlt HP.out h)
           have HS:Hid (bkB kd l[q].b3=false→RE=24):=(show _→_ from fun h=>HFm.out (all_stop (f:=fun x:Bk=>bkB kd x.b3) hlt h))
           have HBk:Hid (bkB kd l[q].b3=(!(decide (8<(l[q].l.length:Int)))&&inB l[q].wa 0 16&&inB l[q].we 0 65535 && !(kd==4&&l[q].wa==0))):=bk_n kd l[q].b3;have HBa:Hid (∀ o:Obj,Below V.heap.size V (wr.alloc o)∧Below w.heap.size w (wr.alloc o)):=(show ∀ o:Obj,_ from fun o=>⟨btr hbel (by go_grown) (Nat.le_refl _),btr hw (by go_grown) (Nat.le_refl _)⟩)
           clear hc hBs HP hw hbel hn2;generalize l[q]=X at *
           obtain⟨wa,we,xa,xl,xc⟩:=X;simp only at d0 d1 d2 HNx HS HBk;cases e1:decide (8<(xl.length:Int))with
           | true =>
             have HE:Hid (RE=24):=HS.out (by rw[HBk.out,e1];rfl);go_wp2_with (go_at_call 102;refine(HW.out _ _ _ _).mono ?_;rintro e w' ⟨rfl,rfl⟩);go_ret;exact⟨by rw[HE.out];rfl,(HBa.out _).2⟩
           | false =>
             cases e2:inB wa 0 16 with
             | false =>
               have HE:Hid (RE=24):=HS.out (by rw[HBk.out,e1,e2];rfl);go_wp2_with (go_at_call 102;refine(HW.out _ _ _ _).mono ?_;rintro e w' ⟨rfl,rfl⟩);go_ret;exact⟨by rw[HE.out];rfl,(HBa.out _).2⟩
             | true =>
               cases e3:inB we 0 65535 with
               | false =>
                 have HE:Hid (RE=24):=HS.out (by rw[HBk.out,e1,e2,e3];rfl);go_wp2_with (go_at_call 102;refine(HW.out _ _ _ _).mono ?_;rintro e w' ⟨rfl,rfl⟩);go_ret;exact⟨by rw[HE.out];rfl,(HBa.out _).2⟩
               | true =>
                 cases e4:(kd==4)with
                 | false =>
                   have HN':Hid (∀ i (hi:i<l.length),i<q+1→bkB kd l[i].b3=true):=HNx.out (by rw[HBk.out,e1,e2,e3,e4];rfl);clear HNx HS HBk;go_wp2_with (go_at_call 102;refine(HW.out _ _ _ _).mono ?_;rintro e w' ⟨rfl,rfl⟩);go_roundw;case rel=>exact⟨q+1,by omega,by go_num,HN',(HBa.out _).1⟩
                   case measure=>simp[intOf];omega
                 | true =>
                   cases e5:(wa==0)with
                   | true =>
                     have HE:Hid (RE=24):=HS.out (by rw[HBk.out,e1,e2,e3,e4,e5];rfl);go_wp2_with (go_at_call 102;refine(HW.out _ _ _ _).mono ?_;rintro e w' ⟨rfl,rfl⟩);go_ret;exact⟨by rw[HE.out];rfl,(HBa.out _).2⟩
                   | false =>
                     have HN':Hid (∀ i (hi:i<l.length),i<q+1→bkB kd l[i].b3=true):=HNx.out (by rw[HBk.out,e1,e2,e3,e4,e5];rfl);clear HNx HS HBk;go_wp2_with (go_at_call 102;refine(HW.out _ _ _ _).mono ?_;rintro e w' ⟨rfl,rfl⟩);go_roundw;case rel=>exact⟨q+1,by omega,by go_num,HN',(HBa.out _).1⟩
                     case measure=>simp[intOf];omega
          ·have e:q=l.length:=by omega
           subst e;have HAll:Hid (∀ b,(l.all fun x=>allB x.l)=b→RE=if b=true then 0 else 22):=(show ∀ b,_ from HAc.out HHd.out (all_end (f:=fun x:Bk=>bkB kd x.b3) HP.out))
           have HBl:Hid (Below V.heap.size V wr):=hbel;clear HP hBs hw hbel;go_wp2_with fail;clear c1 c2 z1;go_loopw [5] (fun v wr=>∃ q:Nat,q≤l.length∧v=.int .i64 q∧Hid (∀ i (hi:i<l.length),i<q→allB l[i].l=true)∧Below V.heap.size V wr) (fun v _=>l.length-(intOf v).toNat);case atStart=>exact⟨0,Nat.zero_le _,rfl,(show ∀ i (hi:i<l.length),_ from fun i _ h=>by omega),HBl.out⟩
           case round =>
            obtain⟨q,hq,rfl,HP,hbel⟩:=hrel;obtain⟨c1,c2,z1,hBs,hw⟩:=HX.out _ hbel;by_cases hlt:q<l.length
            ·have hxm:=List.getElem_mem hlt;have HNx:Hid (allB l[q].l=true→∀ i (hi:i<l.length),i<q+1→allB l[i].l=true):=(show _→_ from fun h=>all_step (f:=fun x:Bk=>allB x.l) hlt HP.out h)
             have HS:Hid (allB l[q].l=false→RE=22):=(show _→_ from fun h=>HAll.out false (all_stop (f:=fun x:Bk=>allB x.l) hlt h))
             have hn4:=hn2 _ hxm;have HUq:Hid (AWs l[q].l):=HU.out _ hxm;have HCq:Hid (∀ w',Below V.heap.size V w'→∃ b o,ga=some ⟨b,o,none⟩∧b<w'.heap.size∧w'.cell? ⟨b,o+q*3+2,none⟩=some (.slice l[q].a l[q].l.length l[q].c)∧Ts w' l[q].a l[q].l):=(show ∀ w',_ from fun w' k=>by
              obtain⟨b,o,e,hb,hc⟩:=(HX.out w' k).2.2.2.1.at hlt;exact⟨b,o,e,hb,(hc q hlt).2.2,(HX.out w' k).2.2.2.1.1 _ hxm⟩)
             have HAl:Hid (allB l[q].l=l[q].l.all rightB):=(show _=_ from rfl)
             have HBq:Hid (Below V.heap.size V wr):=hbel;clear hBs hw HP hxm hbel;generalize l[q]=X at *
             obtain⟨wa,we,xa,xl,xc⟩:=X;simp only at hn4 HNx HS HUq HCq HAl;go_wp2_with fail;clear c1 c2 z1;go_loopw [6] (fun v wr=>∃ j:Nat,j≤xl.length∧v=.int .i64 j∧Hid (∀ i (hi:i<xl.length),i<j→rightB xl[i]=true)∧Below V.heap.size V wr) (fun v _=>xl.length-(intOf v).toNat);case atStart=>exact⟨0,Nat.zero_le _,rfl,(show ∀ i (hi:i<xl.length),_ from fun i _ h=>by omega),HBq.out⟩
             case round =>
              obtain⟨j,hj,rfl,HPj,hbj⟩:=hrel;obtain⟨c1,c2,z1,_,hw⟩:=HX.out _ hbj;obtain⟨gb,go,rfl,hgb,hgc,hTs⟩:=HCq.out _ hbj;by_cases hjt:j<xl.length
              ·obtain⟨b2,o2,rfl,hb2,hc2⟩:=hTs.at hjt;obtain⟨f0,f1,f2⟩:=hc2 j hjt;have hym:=List.getElem_mem hjt;have HRj:Hid (Calls prog 103 #[tV xl[j]] wr fun e w'=>e=.returned (.bool (rightB xl[j]))∧Below wr.heap.size wr w'):=HR.out xl[j] wr (HUq.out _ hym);have HNj:Hid (rightB xl[j]=true→∀ i (hi:i<xl.length),i<j+1→rightB xl[i]=true):=(show _→_ from fun h=>all_step (f:=rightB) hjt HPj.out h)
               have HSj:Hid (rightB xl[j]=false→RE=22):=(show _→_ from fun h=>HS.out (by rw[HAl.out];exact all_stop (f:=rightB) hjt h))
               have HBj:Hid (Below V.heap.size V wr):=hbj;clear hc2 hTs HPj hym hbj hw;generalize rightB xl[j]=R at *
               generalize xl[j]=Y at *
               go_wp2_with fail;refine HRj.out.mono ?_;rintro e w2 ⟨rfl,g2⟩;have hb2':=btr HBj.out g2 (Nat.le_refl _);have hw2:=(HX.out _ hb2').2.2.2.2;clear g2;cases R with
               | false =>
                 have HE:Hid (RE=22):=HSj.out rfl;go_wp2_with fail;go_ret;exact⟨by rw[HE.out];rfl,hw2⟩
               | true =>
                 have HN':Hid (∀ i (hi:i<xl.length),i<j+1→rightB xl[i]=true):=HNj.out rfl;go_wp2_with fail;go_roundw;case rel=>exact⟨j+1,by omega,by go_num,HN',hb2'⟩
                 case measure=>simp[intOf];omega
              ·have e:j=xl.length:=by omega
               subst e;have HN':Hid (∀ i (hi:i<l.length),i<q+1→allB l[i].l=true):=HNx.out (by rw[HAl.out];exact all_end (f:=rightB) HPj.out);clear HPj hTs hw;go_wp2_with fail;go_roundw;case rel=>exact⟨q+1,by omega,by go_num,HN',hbj⟩
               case measure=>simp[intOf];omega
            ·have e:q=l.length:=by omega
             subst e;have HE:Hid (RE=0):=HAll.out true (all_end (f:=fun x:Bk=>allB x.l) HP.out);clear HP hBs;go_wp2_with fail;go_ret;exact⟨by rw[HE.out];rfl,hw⟩
theorem no_has {S:List Gr} {x:Int} (h:∀ i (hi:i<S.length),i<S.length→S[i].id≠x):hasP S x=false:=by
 cases hh:hasP S x with
 | false=>rfl
 | true =>
   obtain⟨z,hz,e⟩:=hasP_iff.1 hh;obtain⟨i,hi,rfl⟩:=List.getElem_of_mem hz;exact absurd e (h i hi hi)
structure RT (W:World) (rb:Nat) (room:Int) (v:Value) (L:List Gr) (wr:World):Prop where
 c0:wr.cell? ⟨rb,0,none⟩=some v
 c1:wr.cell? ⟨rb,1,none⟩=some (.int .i64 room)
 f0:wr.frozen? ⟨rb,0,none⟩=false
 lt:rb<wr.heap.size
 ge:W.heap.size≤rb
 row:wr.ownsRow W.heap.size 81 3 v L.length (flatG L)
 ap:v.ownBlock≠some rb
 grp:∀ g∈L,Bs W g.a g.l∧Sm g.l∧rightE g.p=0
 srt:SrtG L
 bel:Below W.heap.size W wr
theorem RT.below {W:World} {rb:Nat} {room:Int} {v:Value} {L:List Gr} {wr w2:World} (h:RT W rb room v L wr) (k:Below wr.heap.size wr w2):RT W rb room v L w2 :=
 ⟨(k.cell (p:=⟨rb,0,none⟩) h.lt).trans h.c0,(k.cell (p:=⟨rb,1,none⟩) h.lt).trans h.c1,(k.frozen (p:=⟨rb,0,none⟩) h.lt).trans h.f0,Nat.lt_of_lt_of_le h.lt k.size,h.ge,own_below h.row k,h.ap,h.grp,h.srt,btr h.bel k (Nat.le_refl _)⟩
theorem RT.slice {W:World} {rb:Nat} {room:Int} {v:Value} {L:List Gr} {wr:World} (h:RT W rb room v L wr):∃ a c,v=.slice a L.length c∧L.length≤c∧c≤9223372036854775807∧(L=[]∨∃ g,a=some ⟨g,0,none⟩∧g<wr.heap.size∧∀ i (h:i<L.length),Cg wr g (i*3) L[i]):=by
 rcases h.row.2 with⟨e,h0⟩|⟨g,cap,cur,e,hbg,hbb,hnc,hcm,_⟩
 ·have e2:L=[]:=List.length_eq_zero_iff.1 h0;subst e2;exact⟨none,0,e,Nat.le_refl _,by omega,.inl rfl⟩
 ·have hr:=h.row;rw[e]at hr;exact⟨_,_,e,hnc,by unfold maxLen at hcm;omega,.inr ⟨g,rfl,(Array.getElem?_eq_some_iff.1 hbb).1,fun i hi=>rowG_cells rfl hr i hi⟩⟩
def AtR (L:List Gr) (i m:Int):Prop:=(m = -1∧hasP L i=false)∨∃ k:Nat,m=k∧∃ h:k<L.length,L[k].id=i
theorem AtR.neg {L:List Gr} {i m:Int} (h:AtR L i m):decide (m<0) = !hasP L i:=by
 rcases h with⟨rfl,hf⟩|⟨k,rfl,hk,e⟩
 ·rw[hf];rfl
 ·rw[hasP_iff.2 ⟨_,List.getElem_mem hk,e⟩];have : ¬ ((k:Int)<0):=by omega
  simp[this]
theorem AtR.pos {L:List Gr} {i m:Int} (h:AtR L i m):decide (0≤m)=hasP L i:=by
 rcases h with⟨rfl,hf⟩|⟨k,rfl,hk,e⟩
 ·rw[hf];rfl
 ·rw[hasP_iff.2 ⟨_,List.getElem_mem hk,e⟩];simp
theorem rat_any {W:World} {rb:Nat} {room:Int} {v:Value} {L:List Gr} (i:Int) (w:World) (h:RT W rb room v L w) (hL:L.length≤64):Calls prog 67 #[ptr rb,.int .i64 i] w fun e w'=>∃ m,e=.returned (.int .i64 m)∧AtR L i m∧w'=w:=by
 have c0:=h.c0;have lt:=h.lt;obtain⟨a,c,rfl,hlc,hc2,hcs⟩:=h.slice;have HC:Hid (L=[]∨∃ g,a=some ⟨g,0,none⟩∧g<w.heap.size∧∀ i (h:i<L.length),Cg w g (i*3) L[i]):=hcs;have HL:Hid (L.length≤64):=hL;clear h hcs;go_enter func67,ntmps67;go_wp2_with fail;go_loopw [5] (fun v wr=>∃ q:Nat,q≤L.length∧v=.int .i64 q∧Hid (∀ j (hj:j<L.length),j<q→L[j].id≠i)∧wr=w) (fun v _=>L.length-(intOf v).toNat);case atStart=>exact⟨0,Nat.zero_le _,rfl,(show ∀ j (hj:j<L.length),_ from fun j _ h=>by omega),rfl⟩
 case round =>
  obtain⟨q,hq,rfl,HP,rfl⟩:=hrel;by_cases hlt:q<L.length
  ·obtain⟨b,rfl,hb,hcs⟩:∃ g,a=some ⟨g,0,none⟩∧g<wr.heap.size∧∀ i (h:i<L.length),Cg wr g (i*3) L[i]:=by
    rcases HC.out with e|h
    ·subst e;cases hlt
    ·exact h
   have d0:=(hcs q hlt).1;have HS:Hid (L[q].id=i→AtR L i q):=(show _→_ from fun h=>.inr ⟨q,rfl,hlt,h⟩)
   have HN:Hid (L[q].id≠i→∀ j (hj:j<L.length),j<q+1→L[j].id≠i):=(show _→_ from fun h j hj hlt'=>by
    by_cases e:j=q
    ·subst e;exact h
    ·exact HP.out j hj (by omega))
   clear HP HC hcs;generalize L[q].id=Y at *
   cases hEq:(Y==i)with
   | true =>
     have HE:Hid (AtR L i q):=HS.out (by simpa using hEq);go_wp2_with fail;go_ret;exact⟨_,rfl,HE.out,rfl⟩
   | false =>
     have HN':Hid (∀ j (hj:j<L.length),j<q+1→L[j].id≠i):=HN.out (by simpa using hEq);go_wp2_with fail;go_roundw;case rel=>exact⟨q+1,by omega,by go_num,HN',trivial⟩
     case measure=>simp[intOf];omega
  ·have e:q=L.length:=by omega
   subst e;have HE:Hid (AtR L i (-1)):=(show AtR _ _ _ from .inl ⟨rfl,no_has HP.out⟩)
   clear HP;go_wp2_with fail;go_ret;exact⟨_,rfl,HE.out,rfl⟩
theorem rthere_any {W:World} {rb:Nat} {room:Int} {v:Value} {L:List Gr} (g:Gr) (w:World) (h:RT W rb room v L w) (hL:L.length≤64) (hT:Bs w g.a g.l) (hS:Sm g.l) (hok:rightE g.p=0):Calls prog 68 #[ptr rb,gV g] w fun e w'=>e=.returned (.bool (leadsAll L (g.l.map Bk.b3)))∧Below w.heap.size w w':=by
 have HLd:Hid (∀ w1,Below w.heap.size w w1→Calls prog 104 #[gV g] w1 fun e w'=>∃ v,e=.returned v∧OwnI w1.heap.size w' v (rawL (g.l.map Bk.b3))∧(rawL (g.l.map Bk.b3)).length≤10000∧Below w1.heap.size w1 w'):=(show ∀ w1,_ from fun w1 k=>rleads_any g w1 (hT.below k) hS (LO_of hok))
 have HAt:Hid (∀ (i:Int) w1,Below w.heap.size w w1→Calls prog 67 #[ptr rb,.int .i64 i] w1 fun e w'=>∃ m,e=.returned (.int .i64 m)∧decide (m<0) = !hasP L i∧w'=w1):=(show ∀ (i:Int) w1,_ from fun i w1 k=>by
  refine(rat_any i w1 (h.below k) hL).mono ?_;rintro e w' ⟨m,rfl,h1,h2⟩;exact⟨m,rfl,h1.neg,h2⟩)
 obtain⟨V,hV⟩:∃ V,gx w g=V:=⟨_,rfl⟩
 have GV:Below w.heap.size w V:=by rw[← hV];go_grown
 have hc:=Cg.new w g;rw[hV]at hc;obtain⟨k0,k1,k2⟩:=hc;rw[Nat.zero_add]at k1 k2;have HV:Hid (w.alloc (.cells #[.int .i64 g.id,.int .i64 g.kd,.slice g.a g.l.length g.c] 81)=V):=hV;have HLA:Hid (leadsAll L (g.l.map Bk.b3)=(rawL (g.l.map Bk.b3)).all (hasP L)):=(show _=_ from rfl)
 generalize leadsAll L (g.l.map Bk.b3)=LA at *
 clear h hL hT hS hok hV;go_enter func68,ntmps68;go_wp2_with fail;rw[HV.out];refine(HLd.out V GV).mono ?_;rintro e w1 ⟨v1,rfl,ho,hn,g1⟩;have G1:Below w.heap.size w w1:=btr GV g1 (Nat.le_refl _);generalize rawL (g.l.map Bk.b3)=zs at *
 obtain⟨a,c,e⟩:=own_len_eq ho;subst e;have HO:Hid (OwnI V.heap.size w1 (.slice a zs.length c) zs):=ho;clear ho k0 k1 k2 g1;go_wp2_with fail;go_loopw [6] (fun v wr=>∃ q:Nat,q≤zs.length∧v=.int .i64 q∧Hid (∀ j (hj:j<zs.length),j<q→hasP L zs[j]=true)∧wr=w1) (fun v _=>zs.length-(intOf v).toNat);case atStart=>exact⟨0,Nat.zero_le _,rfl,(show ∀ j (hj:j<zs.length),_ from fun j _ h=>by omega),rfl⟩
 case round =>
  obtain⟨q,hq,rfl,HP,rfl⟩:=hrel;by_cases hlt:q<zs.length
  ·obtain⟨b,cap,e,hb,hcap,hcell⟩:=own_at HO.out hlt;cases e;have HNx:Hid (hasP L zs[q]=true→∀ i (hi:i<zs.length),i<q+1→hasP L zs[i]=true):=(show _→_ from fun h=>all_step (f:=hasP L) hlt HP.out h)
   have HS:Hid (hasP L zs[q]=false→LA=false):=(show _→_ from fun h=>by rw[HLA.out];exact all_stop (f:=hasP L) hlt h)
   have HAq:Hid (Calls prog 67 #[ptr rb,.int .i64 zs[q]] wr fun e w'=>∃ m,e=.returned (.int .i64 m)∧decide (m<0) = !hasP L zs[q]∧w'=wr):=HAt.out _ wr G1;clear HP HO;generalize hasP L zs[q]=R at *
   generalize zs[q]=X at *
   go_wp2_with fail;refine HAq.out.mono ?_;rintro e w2 ⟨m,rfl,hm,rfl⟩;cases R with
   | false =>
     have hm':decide (m<0)=true:=hm;have HF:Hid (LA=false):=HS.out rfl;clear hm;go_wp2_with fail;go_ret;exact⟨by rw[HF.out];rfl,G1⟩
   | true =>
     have hm':decide (m<0)=false:=hm;have HN':Hid (∀ i (hi:i<zs.length),i<q+1→hasP L zs[i]=true):=HNx.out rfl;clear hm;go_wp2_with fail;go_roundw;case rel=>exact⟨q+1,by omega,by go_num,HN',trivial⟩
     case measure=>simp[intOf];omega
  ·have e:q=zs.length:=by omega
   subst e;have HE:Hid (LA=true):=(show _=_ by rw[HLA.out];exact all_end (f:=hasP L) HP.out)
   clear HP;go_wp2_with fail;go_ret;exact⟨by rw[HE.out];rfl,G1⟩
end Gp
end Go.Proofs.YtgnihbdcdefdgaaGreatDoor

import Derived.Test.YtgnihbdcdefdgaaGreatDoorXA10
import Derived.Test.YtgnihbdcdefdgaaGreatDoorXA11
set_option maxRecDepth 20000
set_option maxHeartbeats 16000000
set_option linter.unusedSimpArgs false
set_option linter.unusedVariables false
open Go.ChangeShapes Go.WideShapes Go.ChangeAt Go.RowKit
open Go.Proofs.Tryz
namespace Go.Proofs.YtgnihbdcdefdgaaGreatDoor
namespace Mt
theorem rrightGo_at (l:List T) (k:Nat) (h:k<l.length):rrightGo (l.take k) (l.drop k)=if rbehindE l[k] (l.take k)=0 then rrightGo (l.take (k+1)) (l.drop (k+1)) else rbehindE l[k] (l.take k):=by
 rw[List.drop_eq_getElem_cons h,rrightGo,take_snoc_get l k h]
def r7 (t:T) (l:List T):Bool:=decide (l≠[]∧t.1≤lastF l)
def r12 (f:Int) (l:List T):Bool:=(decide (5≤f)&&decide (f≤7))&&(!(wholeV l 4).isSome||((wholeV l 4).getD 0 != 2048))
def r15 (f:Int) (l:List T):Bool:=decide (8≤f)&&(!(wholeV l 7).isSome||(((wholeV l 7).getD 0 != 6)&&((wholeV l 7).getD 0 != 17)))
def F12 (a b c d:Bool):Bool:=(a&&b)&&(!c||d)
def F15 (a c d e:Bool):Bool:=a&&(!c||(d&&e))
theorem r_stand (f:Int) (l:List T):rstandB f l=(!r12 f l && !r15 f l):=by
 unfold rstandB r12 r15;by_cases h1:5≤f∧f≤7
 ·rw[if_pos h1];have h8 : ¬ 8≤f:=by omega
  cases hw:wholeV l 4 with
  | none=>simp[h1.1,h1.2,h8]
  | some v=>by_cases hv:v=2048<;>simp[h1.1,h1.2,h8,hv]
 ·rw[if_neg h1];have hx:(decide (5≤f)&&decide (f≤7))=false:=by
   rw[Bool.and_eq_false_iff,decide_eq_false_iff_not,decide_eq_false_iff_not];omega
  rw[hx];by_cases h8:8≤f
  ·rw[if_pos h8];cases hw:wholeV l 7 with
   | none=>simp[h8]
   | some v =>
     by_cases h6:v=6<;>by_cases h17:v=17<;>simp[h8,h6,h17]
  ·rw[if_neg h8];simp[h8]
theorem r_behind (t:T) (l:List T) (h:(wdV t.1==0)=false):rbehindE t l=if r7 t l=true then 21 else if rfitB t=false then 21 else if r12 t.1 l=true then 21 else if r15 t.1 l=true then 21 else 0:=by
 have h0 : ¬ wdV t.1=0:=by simpa using h
 unfold rbehindE;rw[if_neg h0,r_stand];by_cases h7:l≠[]∧t.1≤lastF l
 ·have e7:r7 t l=true:=by unfold r7;exact decide_eq_true h7
  rw[if_pos (.inl h7),if_pos e7]
 ·have e7 : ¬ r7 t l=true:=by unfold r7;rw[decide_eq_true_iff];exact h7
  rw[if_neg e7];cases hf:rfitB t with
  | false=>rw[if_pos (.inr (.inl rfl)),if_pos rfl]
  | true =>
    rw[if_neg (show ¬ true=false by decide)];cases r12 t.1 l<;>cases r15 t.1 l<;>simp[h7]
theorem rright_any (a:Option Addr) (l:List T) (cap:Nat) (w:World) (h:Ts w a l) (hl:l.length≤100000) :
 Calls prog 101 #[.slice a l.length cap] w fun e w'=>e=.returned (.int .i64 (rrightGo [] l))∧Below w.heap.size w w':=by
 have HH:Hid (∀ f k w,k≤l.length→Ts w a l→Calls prog 144 #[.slice a l.length cap,.int .i64 f,.int .i64 k] w fun e w'=>e=.returned (.tuple #[.int .u64 ((wholeV (l.take k) f).getD 0),.bool (wholeV (l.take k) f).isSome])∧Below w.heap.size w w'):=fun f k w hk h=>rwhole_any a l cap f k w h hl hk;have HW:Hid (∀ f w,Calls prog 142 #[.int .i64 f] w fun e w'=>e=.returned (.int .i64 (wdV f))∧Below w.heap.size w w'):=fun f w=>rwidth_any f w;have HA:Hid (∀ f w,Calls prog 143 #[.int .i64 f] w fun e w'=>e=.returned (.int .u64 (grV f))∧Below w.heap.size w w'):=fun f w=>rall_any f w;generalize hR:rrightGo [] l=R;go_enter func101,ntmps101;go_wp2_with fail;go_loopw [3] (fun i wr=>∃ k:Nat,k≤l.length∧i=.int .i64 k∧rrightGo (l.take k) (l.drop k)=R∧Below w.heap.size w wr) (fun i _=>l.length-(intOf i).toNat);case atStart=>exact⟨0,by omega,rfl,hR,Below.refl _ _⟩
 case round =>
  obtain⟨k,hk,rfl,hr,hbel⟩:=hrel;by_cases hlt:k<l.length
  ·have hT:=h.below hbel;obtain⟨g,o,rfl,hg,hcs⟩:=hT.at hlt;have hc:=hcs k hlt;have hr':=rrightGo_at l k hlt;rw[hr]at hr';clear hr hR;obtain⟨c0,c1,c2⟩:=hc;have hB:∀ X,Below (tx wr l[k]).heap.size (tx wr l[k]) X→Below w.heap.size w X:=fun X g=>btr (hbel.alloc hbel.size _) g (Nat.le_refl _);have hC:∀ X,Below (tx wr l[k]).heap.size (tx wr l[k]) X→C3 X wr.heap.size 0 l[k]∧wr.heap.size<X.heap.size:=fun X g=>⟨(C3.new wr l[k]).below (by simp) g,Nat.lt_of_lt_of_le (by simp) g.size⟩
   have hS:∀ X,Below (tx wr l[k]).heap.size (tx wr l[k]) X→Ts X (some ⟨g,o,none⟩) l:=fun X g=>(hT.alloc _).below g;replace hB:Hid _:=hB;replace hC:Hid _:=hC;replace hS:Hid _:=hS;cases hb:(wdV l[k].1==0)with
   | true =>
     have h0:wdV l[k].1=0:=by simpa using hb
     have HY:Hid (R=20):=(show _=_ by
      have:rbehindE l[k] (l.take k)=20:=by unfold rbehindE;rw[if_pos h0]
      rw[hr',this,if_neg (by decide)])
     clear hr' h0;go_wp2_with fail;refine(HW.out _ _).mono ?_;rintro x w1 ⟨rfl,g1⟩;go_wp2_with fail;go_ret;exact⟨by rw[HY.out];rfl,hB.out _ g1⟩
   | false =>
     have hbe:=r_behind l[k] (l.take k) hb;generalize rbehindE l[k] (l.take k)=e at *
     have HR0:Hid _:=hr';have hr2:Hid _:=hbe;clear hr' hbe;have hz:k=0∨∃ j,k=j+1:=by
      cases k with
      | zero=>exact .inl rfl
      | succ j=>exact .inr ⟨j,rfl⟩
     rcases hz with rfl|⟨j,rfl⟩
     ·have e7:r7 l[0] (l.take 0)=false:=by unfold r7;simp
      simp only[Nat.zero_mul,Nat.add_zero]at c0 c1 c2;go_wp2_with fail;refine(HW.out _ _).mono ?_;rintro x w1 ⟨rfl,g1⟩;obtain⟨k1,s1⟩:=hC.out _ g1;have q:=C3.gr k1 s1;have q0:=fun n=>(q n).1;clear q;obtain⟨d0,d1,d2⟩:=k1;have hr3:Hid _:=(show _ from by have:=hr2.out;rw[if_neg (by rw[e7];decide)]at this;exact this)
      clear hr2 e7;go_wp2_with fail;refine wp_region_grow (by kernel_rfl) (by kernel_rfl) ?_;repeat (go_big_quiet_step (fail))
      refine wpQuiet_nil ?_;rintro w2 hw';have g2:=btr g1 (gr_elim hw') (Nat.le_refl _);clear hw' q0 d0 d1 d2;obtain⟨k2,s2⟩:=hC.out _ g2;have q:=C3.gr k2 s2;have q0:=fun n=>(q n).1;have q1:=fun n=>(q n).2.1;have q2:=fun n=>(q n).2.2;clear q;obtain⟨d0,d1,d2⟩:=k2;cases m0:(l[0].2.2==0)with
      | true =>
        have HF:rfitB l[0]=false:=by unfold rfitB;simp[m0]
        have HY:Hid (R=21):=(show _=_ by have:=hr3.out;rw[if_pos HF]at this;rw[HR0.out,this,if_neg (by decide)])
        clear hr3 HF;go_wp2_with fail;refine wp_region_grow (by kernel_rfl) (by kernel_rfl) ?_;repeat (go_big_quiet_step (first|(go_at_call 143;exact quiet_gr (HA.out _ _))))
        refine wpQuiet_nil ?_;rintro w3 hw';have g3:=btr g2 (gr_elim hw') (Nat.le_refl _);clear hw';go_wp2_with fail;go_ret;exact⟨by rw[HY.out];rfl,hB.out _ g3⟩
      | false =>
        cases m1:(bits .and .u64 l[0].2.2 (grV l[0].1) != l[0].2.2)with
        | true =>
          have m1':(bits .and .u64 l[0].2.2 (grV l[0].1)==l[0].2.2)=false:=by simpa using m1
          have HF:rfitB l[0]=false:=by unfold rfitB;simp[m1']
          have HY:Hid (R=21):=(show _=_ by have:=hr3.out;rw[if_pos HF]at this;rw[HR0.out,this,if_neg (by decide)])
          clear hr3 HF;go_wp2_with fail;refine wp_region_grow (by kernel_rfl) (by kernel_rfl) ?_;repeat (go_big_quiet_step (first|(go_at_call 143;exact quiet_gr (HA.out _ _))))
          refine wpQuiet_nil ?_;rintro w3 hw';have g3:=btr g2 (gr_elim hw') (Nat.le_refl _);clear hw';go_wp2_with fail;go_ret;exact⟨by rw[HY.out];rfl,hB.out _ g3⟩
        | false =>
          cases m2:(bits .and .u64 l[0].2.1 l[0].2.2 != l[0].2.1)with
          | true =>
            have m2':(bits .and .u64 l[0].2.1 l[0].2.2==l[0].2.1)=false:=by simpa using m2
            have HF:rfitB l[0]=false:=by unfold rfitB;simp[m2']
            have HY:Hid (R=21):=(show _=_ by have:=hr3.out;rw[if_pos HF]at this;rw[HR0.out,this,if_neg (by decide)])
            clear hr3 HF;go_wp2_with fail;refine wp_region_grow (by kernel_rfl) (by kernel_rfl) ?_;repeat (go_big_quiet_step (first|(go_at_call 143;exact quiet_gr (HA.out _ _))))
            refine wpQuiet_nil ?_;rintro w3 hw';have g3:=btr g2 (gr_elim hw') (Nat.le_refl _);clear hw';go_wp2_with fail;go_ret;exact⟨by rw[HY.out];rfl,hB.out _ g3⟩
          | false =>
            have m1':(bits .and .u64 l[0].2.2 (grV l[0].1)==l[0].2.2)=true:=by simpa using m1
            have m2':(bits .and .u64 l[0].2.1 l[0].2.2==l[0].2.1)=true:=by simpa using m2
            have HF:rfitB l[0]=true:=by unfold rfitB;rw[m0,m1',m2'];rfl
            have hr4:Hid _:=(show _ from by have:=hr3.out;rw[if_neg (by rw[HF];decide)]at this;exact this)
            clear hr3 HF m1' m2';go_wp2_with fail;refine wp_region_grow (by kernel_rfl) (by kernel_rfl) ?_;repeat (go_big_quiet_step (first|(go_at_call 143;exact quiet_gr (HA.out _ _))))
            refine wpQuiet_nil ?_;rintro w3 hw';have g3:=btr g2 (gr_elim hw') (Nat.le_refl _);clear hw' q0 q1 q2 d0 d1 d2 m0 m1 m2;go_wp2_with fail;refine(HH.out 4 0 _ hk (hS.out _ g3)).mono ?_;rintro x w4 ⟨rfl,g4'⟩;have g4:=btr g3 g4' (Nat.le_refl _);clear g4';obtain⟨k4,s4⟩:=hC.out _ g4;obtain⟨d0,d1,d2⟩:=k4;have e12:r12 l[0].1 (l.take 0)=F12 (decide (5≤l[0].1)) (decide (l[0].1≤7)) (wholeV (l.take 0) 4).isSome ((wholeV (l.take 0) 4).getD 0 != 2048):=rfl;have e15:r15 l[0].1 (l.take 0)=F15 (decide (8≤l[0].1)) (wholeV (l.take 0) 7).isSome ((wholeV (l.take 0) 7).getD 0 != 6) ((wholeV (l.take 0) 7).getD 0 != 17):=rfl;generalize (wholeV (l.take 0) 4).isSome=i4 at *
            generalize (wholeV (l.take 0) 4).getD 0=v4 at *
            have HE12:Hid _:=e12;have HE15:Hid _:=e15;clear e12 e15;by_cases p5:5≤l[0].1
            ·by_cases p7:l[0].1≤7
             ·have a5:decide (5≤l[0].1)=true:=decide_eq_true p5;have a7:decide (l[0].1≤7)=true:=decide_eq_true p7;have a8:decide (8≤l[0].1)=false:=decide_eq_false (by omega);have n8 : ¬ 8≤l[0].1:=by omega
              cases i4
              ·have e12:r12 l[0].1 (l.take 0)=true:=HE12.out.trans (by rw[a5,a7];rfl);have HY:Hid (R=21):=(show _=_ by have:=hr4.out;rw[if_pos e12]at this;rw[HR0.out,this,if_neg (by decide)])
               clear e12;go_wp2_with fail;go_ret;exact⟨by rw[HY.out];rfl,hB.out _ g4⟩
              ·cases a4:(v4 != 2048)
               ·have e12:r12 l[0].1 (l.take 0)=false:=HE12.out.trans (by rw[a5,a7,a4];rfl);have hr5:Hid _:=(show _ from by have:=hr4.out;rw[if_neg (by rw[e12];decide)]at this;exact this)
                clear e12 HE12;go_wp2_with fail;refine(HH.out 7 0 _ hk (hS.out _ g4)).mono ?_;rintro x w5 ⟨rfl,g5'⟩;have g5:=btr g4 g5' (Nat.le_refl _);clear g5';have k5:=(hC.out _ g5).1;clear d0 d1 d2;obtain⟨d0,d1,d2⟩:=k5;have e15:r15 l[0].1 (l.take 0)=false:=HE15.out.trans (by rw[a8];rfl);have hr6:Hid (rrightGo (l.take (0+1)) (l.drop (0+1))=R):=(show _=_ by have:=hr5.out;rw[if_neg (by rw[e15];decide)]at this;have h2:=HR0.out;rw[this,if_pos rfl]at h2;exact h2.symm)
                clear e15;go_wp2_with fail;go_roundw;case rel=>exact⟨0+1,by omega,by go_num,hr6.out,hB.out _ g5⟩
                case measure=>simp[intOf];omega
               ·have e12:r12 l[0].1 (l.take 0)=true:=HE12.out.trans (by rw[a5,a7,a4];rfl);have HY:Hid (R=21):=(show _=_ by have:=hr4.out;rw[if_pos e12]at this;rw[HR0.out,this,if_neg (by decide)])
                clear e12;go_wp2_with fail;go_ret;exact⟨by rw[HY.out];rfl,hB.out _ g4⟩
             ·have a5:decide (5≤l[0].1)=true:=decide_eq_true p5;have a7:decide (l[0].1≤7)=false:=decide_eq_false p7;have a8:decide (8≤l[0].1)=true:=decide_eq_true (by omega);have n8:8≤l[0].1:=by omega
              have e12:r12 l[0].1 (l.take 0)=false:=HE12.out.trans (by rw[a5,a7];rfl);have hr5:Hid _:=(show _ from by have:=hr4.out;rw[if_neg (by rw[e12];decide)]at this;exact this)
              clear e12 HE12;go_wp2_with fail;refine(HH.out 7 0 _ hk (hS.out _ g4)).mono ?_;rintro x w5 ⟨rfl,g5'⟩;have g5:=btr g4 g5' (Nat.le_refl _);clear g5';have k5:=(hC.out _ g5).1;clear d0 d1 d2;obtain⟨d0,d1,d2⟩:=k5;generalize (wholeV (l.take 0) 7).isSome=i7 at *
              generalize (wholeV (l.take 0) 7).getD 0=v7 at *
              cases i7
              ·have e15:r15 l[0].1 (l.take 0)=true:=HE15.out.trans (by rw[a8];rfl);have HY:Hid (R=21):=(show _=_ by have:=hr5.out;rw[if_pos e15]at this;rw[HR0.out,this,if_neg (by decide)])
               clear e15;go_wp2_with fail;go_ret;exact⟨by rw[HY.out];rfl,hB.out _ g5⟩
              ·cases a6:(v7 != 6)
               ·have e15:r15 l[0].1 (l.take 0)=false:=HE15.out.trans (by rw[a8,a6];rfl);have hr6:Hid (rrightGo (l.take (0+1)) (l.drop (0+1))=R):=(show _=_ by have:=hr5.out;rw[if_neg (by rw[e15];decide)]at this;have h2:=HR0.out;rw[this,if_pos rfl]at h2;exact h2.symm)
                clear e15;go_wp2_with fail;go_roundw;case rel=>exact⟨0+1,by omega,by go_num,hr6.out,hB.out _ g5⟩
                case measure=>simp[intOf];omega
               ·cases a17:(v7 != 17)
                ·have e15:r15 l[0].1 (l.take 0)=false:=HE15.out.trans (by rw[a8,a6,a17];rfl);have hr6:Hid (rrightGo (l.take (0+1)) (l.drop (0+1))=R):=(show _=_ by have:=hr5.out;rw[if_neg (by rw[e15];decide)]at this;have h2:=HR0.out;rw[this,if_pos rfl]at h2;exact h2.symm)
                 clear e15;go_wp2_with fail;go_roundw;case rel=>exact⟨0+1,by omega,by go_num,hr6.out,hB.out _ g5⟩
                 case measure=>simp[intOf];omega
                ·have e15:r15 l[0].1 (l.take 0)=true:=HE15.out.trans (by rw[a8,a6,a17];rfl);have HY:Hid (R=21):=(show _=_ by have:=hr5.out;rw[if_pos e15]at this;rw[HR0.out,this,if_neg (by decide)])
                 clear e15;go_wp2_with fail;go_ret;exact⟨by rw[HY.out];rfl,hB.out _ g5⟩
            ·have a5:decide (5≤l[0].1)=false:=decide_eq_false p5;have a8:decide (8≤l[0].1)=false:=decide_eq_false (by omega);have n8 : ¬ 8≤l[0].1:=by omega
             have e12:r12 l[0].1 (l.take 0)=false:=HE12.out.trans (by rw[a5];rfl);have hr5:Hid _:=(show _ from by have:=hr4.out;rw[if_neg (by rw[e12];decide)]at this;exact this)
             clear e12 HE12;go_wp2_with fail;refine(HH.out 7 0 _ hk (hS.out _ g4)).mono ?_;rintro x w5 ⟨rfl,g5'⟩;have g5:=btr g4 g5' (Nat.le_refl _);clear g5';have k5:=(hC.out _ g5).1;clear d0 d1 d2;obtain⟨d0,d1,d2⟩:=k5;have e15:r15 l[0].1 (l.take 0)=false:=HE15.out.trans (by rw[a8];rfl);have hr6:Hid (rrightGo (l.take (0+1)) (l.drop (0+1))=R):=(show _=_ by have:=hr5.out;rw[if_neg (by rw[e15];decide)]at this;have h2:=HR0.out;rw[this,if_pos rfl]at h2;exact h2.symm)
             clear e15;go_wp2_with fail;go_roundw;case rel=>exact⟨0+1,by omega,by go_num,hr6.out,hB.out _ g5⟩
             case measure=>simp[intOf];omega
     ·have hj:j<l.length:=by omega
      have hcj:=(hcs j hj).1;have hla:lastF (l.take (j+1))=l[j].1:=by rw[take_snoc_get l j hj,lastF_snoc]
      have hlen:(l.take (j+1)).length=j+1:=by rw[List.length_take];omega
      have hne:l.take (j+1)≠[]:=by intro h0;rw[h0]at hlen;simp at hlen
      have e7:r7 l[j+1] (l.take (j+1))=decide (l[j+1].1≤l[j].1):=by unfold r7;rw[hla];simp[hne]
      clear hla hne hlen;go_wp2_with fail;refine(HW.out _ _).mono ?_;rintro x w1 ⟨rfl,g1⟩;obtain⟨k1,s1⟩:=hC.out _ g1;have q:=C3.gr k1 s1;have q0:=fun n=>(q n).1;clear q;have hgj:=Nat.lt_of_lt_of_le (Nat.lt_of_lt_of_le hg (show wr.heap.size≤(tx wr l[j+1]).heap.size by simp)) g1.size;have p0:∀ n:GrT w1,n.w.cell? ⟨g,o+j*3,none⟩=some (.int .i64 l[j].1):=fun n=>(n.h.cell (p:=⟨g,o+j*3,none⟩) hgj).trans ((g1.cell (p:=⟨g,o+j*3,none⟩) (show g<(tx wr l[j+1]).heap.size by simp;omega)).trans ((World.cell?_of_block (w:=wr) (heap_alloc_old wr _ hg)).trans hcj));obtain⟨d0,d1,d2⟩:=k1;cases h7:decide (l[j+1].1≤l[j].1)with
      | true =>
        rw[h7]at e7;have HY:Hid (R=21):=(show _=_ by have:=hr2.out;rw[if_pos e7]at this;rw[HR0.out,this,if_neg (by decide)])
        clear hr2;go_wp2_with fail;refine wp_region_grow (by kernel_rfl) (by kernel_rfl) ?_;repeat (go_big_quiet_step (fail))
        refine wpQuiet_nil ?_;rintro w2 hw';have g2:=btr g1 (gr_elim hw') (Nat.le_refl _);clear hw';go_wp2_with fail;go_ret;exact⟨by rw[HY.out];rfl,hB.out _ g2⟩
      | false =>
        rw[h7]at e7;have hr3:Hid _:=(show _ from by have:=hr2.out;rw[if_neg (by rw[e7];decide)]at this;exact this)
        clear hr2 e7;go_wp2_with fail;refine wp_region_grow (by kernel_rfl) (by kernel_rfl) ?_;repeat (go_big_quiet_step (fail))
        refine wpQuiet_nil ?_;rintro w2 hw';have g2:=btr g1 (gr_elim hw') (Nat.le_refl _);clear hw' q0 d0 d1 d2 p0;obtain⟨k2,s2⟩:=hC.out _ g2;have q:=C3.gr k2 s2;have q0:=fun n=>(q n).1;have q1:=fun n=>(q n).2.1;have q2:=fun n=>(q n).2.2;clear q;obtain⟨d0,d1,d2⟩:=k2;cases m0:(l[j+1].2.2==0)with
        | true =>
          have HF:rfitB l[j+1]=false:=by unfold rfitB;simp[m0]
          have HY:Hid (R=21):=(show _=_ by have:=hr3.out;rw[if_pos HF]at this;rw[HR0.out,this,if_neg (by decide)])
          clear hr3 HF;go_wp2_with fail;refine wp_region_grow (by kernel_rfl) (by kernel_rfl) ?_;repeat (go_big_quiet_step (first|(go_at_call 143;exact quiet_gr (HA.out _ _))))
          refine wpQuiet_nil ?_;rintro w3 hw';have g3:=btr g2 (gr_elim hw') (Nat.le_refl _);clear hw';go_wp2_with fail;go_ret;exact⟨by rw[HY.out];rfl,hB.out _ g3⟩
        | false =>
          cases m1:(bits .and .u64 l[j+1].2.2 (grV l[j+1].1) != l[j+1].2.2)with
          | true =>
            have m1':(bits .and .u64 l[j+1].2.2 (grV l[j+1].1)==l[j+1].2.2)=false:=by simpa using m1
            have HF:rfitB l[j+1]=false:=by unfold rfitB;simp[m1']
            have HY:Hid (R=21):=(show _=_ by have:=hr3.out;rw[if_pos HF]at this;rw[HR0.out,this,if_neg (by decide)])
            clear hr3 HF;go_wp2_with fail;refine wp_region_grow (by kernel_rfl) (by kernel_rfl) ?_;repeat (go_big_quiet_step (first|(go_at_call 143;exact quiet_gr (HA.out _ _))))
            refine wpQuiet_nil ?_;rintro w3 hw';have g3:=btr g2 (gr_elim hw') (Nat.le_refl _);clear hw';go_wp2_with fail;go_ret;exact⟨by rw[HY.out];rfl,hB.out _ g3⟩
          | false =>
            cases m2:(bits .and .u64 l[j+1].2.1 l[j+1].2.2 != l[j+1].2.1)with
            | true =>
              have m2':(bits .and .u64 l[j+1].2.1 l[j+1].2.2==l[j+1].2.1)=false:=by simpa using m2
              have HF:rfitB l[j+1]=false:=by unfold rfitB;simp[m2']
              have HY:Hid (R=21):=(show _=_ by have:=hr3.out;rw[if_pos HF]at this;rw[HR0.out,this,if_neg (by decide)])
              clear hr3 HF;go_wp2_with fail;refine wp_region_grow (by kernel_rfl) (by kernel_rfl) ?_;repeat (go_big_quiet_step (first|(go_at_call 143;exact quiet_gr (HA.out _ _))))
              refine wpQuiet_nil ?_;rintro w3 hw';have g3:=btr g2 (gr_elim hw') (Nat.le_refl _);clear hw';go_wp2_with fail;go_ret;exact⟨by rw[HY.out];rfl,hB.out _ g3⟩
            | false =>
              have m1':(bits .and .u64 l[j+1].2.2 (grV l[j+1].1)==l[j+1].2.2)=true:=by simpa using m1
              have m2':(bits .and .u64 l[j+1].2.1 l[j+1].2.2==l[j+1].2.1)=true:=by simpa using m2
              have HF:rfitB l[j+1]=true:=by unfold rfitB;rw[m0,m1',m2'];rfl
              have hr4:Hid _:=(show _ from by have:=hr3.out;rw[if_neg (by rw[HF];decide)]at this;exact this)
              clear hr3 HF m1' m2';go_wp2_with fail;refine wp_region_grow (by kernel_rfl) (by kernel_rfl) ?_;repeat (go_big_quiet_step (first|(go_at_call 143;exact quiet_gr (HA.out _ _))))
              refine wpQuiet_nil ?_;rintro w3 hw';have g3:=btr g2 (gr_elim hw') (Nat.le_refl _);clear hw' q0 q1 q2 d0 d1 d2 m0 m1 m2;go_wp2_with fail;refine(HH.out 4 (j+1) _ hk (hS.out _ g3)).mono ?_;rintro x w4 ⟨rfl,g4'⟩;have g4:=btr g3 g4' (Nat.le_refl _);clear g4';obtain⟨k4,s4⟩:=hC.out _ g4;obtain⟨d0,d1,d2⟩:=k4;have e12:r12 l[j+1].1 (l.take (j+1))=F12 (decide (5≤l[j+1].1)) (decide (l[j+1].1≤7)) (wholeV (l.take (j+1)) 4).isSome ((wholeV (l.take (j+1)) 4).getD 0 != 2048):=rfl;have e15:r15 l[j+1].1 (l.take (j+1))=F15 (decide (8≤l[j+1].1)) (wholeV (l.take (j+1)) 7).isSome ((wholeV (l.take (j+1)) 7).getD 0 != 6) ((wholeV (l.take (j+1)) 7).getD 0 != 17):=rfl;generalize (wholeV (l.take (j+1)) 4).isSome=i4 at *
              generalize (wholeV (l.take (j+1)) 4).getD 0=v4 at *
              have HE12:Hid _:=e12;have HE15:Hid _:=e15;clear e12 e15;by_cases p5:5≤l[j+1].1
              ·by_cases p7:l[j+1].1≤7
               ·have a5:decide (5≤l[j+1].1)=true:=decide_eq_true p5;have a7:decide (l[j+1].1≤7)=true:=decide_eq_true p7;have a8:decide (8≤l[j+1].1)=false:=decide_eq_false (by omega);have n8 : ¬ 8≤l[j+1].1:=by omega
                cases i4
                ·have e12:r12 l[j+1].1 (l.take (j+1))=true:=HE12.out.trans (by rw[a5,a7];rfl);have HY:Hid (R=21):=(show _=_ by have:=hr4.out;rw[if_pos e12]at this;rw[HR0.out,this,if_neg (by decide)])
                 clear e12;go_wp2_with fail;go_ret;exact⟨by rw[HY.out];rfl,hB.out _ g4⟩
                ·cases a4:(v4 != 2048)
                 ·have e12:r12 l[j+1].1 (l.take (j+1))=false:=HE12.out.trans (by rw[a5,a7,a4];rfl);have hr5:Hid _:=(show _ from by have:=hr4.out;rw[if_neg (by rw[e12];decide)]at this;exact this)
                  clear e12 HE12;go_wp2_with fail;refine(HH.out 7 (j+1) _ hk (hS.out _ g4)).mono ?_;rintro x w5 ⟨rfl,g5'⟩;have g5:=btr g4 g5' (Nat.le_refl _);clear g5';have k5:=(hC.out _ g5).1;clear d0 d1 d2;obtain⟨d0,d1,d2⟩:=k5;have e15:r15 l[j+1].1 (l.take (j+1))=false:=HE15.out.trans (by rw[a8];rfl);have hr6:Hid (rrightGo (l.take ((j+1)+1)) (l.drop ((j+1)+1))=R):=(show _=_ by have:=hr5.out;rw[if_neg (by rw[e15];decide)]at this;have h2:=HR0.out;rw[this,if_pos rfl]at h2;exact h2.symm)
                  clear e15;go_wp2_with fail;go_roundw;case rel=>exact⟨(j+1)+1,by omega,by go_num,hr6.out,hB.out _ g5⟩
                  case measure=>simp[intOf];omega
                 ·have e12:r12 l[j+1].1 (l.take (j+1))=true:=HE12.out.trans (by rw[a5,a7,a4];rfl);have HY:Hid (R=21):=(show _=_ by have:=hr4.out;rw[if_pos e12]at this;rw[HR0.out,this,if_neg (by decide)])
                  clear e12;go_wp2_with fail;go_ret;exact⟨by rw[HY.out];rfl,hB.out _ g4⟩
               ·have a5:decide (5≤l[j+1].1)=true:=decide_eq_true p5;have a7:decide (l[j+1].1≤7)=false:=decide_eq_false p7;have a8:decide (8≤l[j+1].1)=true:=decide_eq_true (by omega);have n8:8≤l[j+1].1:=by omega
                have e12:r12 l[j+1].1 (l.take (j+1))=false:=HE12.out.trans (by rw[a5,a7];rfl);have hr5:Hid _:=(show _ from by have:=hr4.out;rw[if_neg (by rw[e12];decide)]at this;exact this)
                clear e12 HE12;go_wp2_with fail;refine(HH.out 7 (j+1) _ hk (hS.out _ g4)).mono ?_;rintro x w5 ⟨rfl,g5'⟩;have g5:=btr g4 g5' (Nat.le_refl _);clear g5';have k5:=(hC.out _ g5).1;clear d0 d1 d2;obtain⟨d0,d1,d2⟩:=k5;generalize (wholeV (l.take (j+1)) 7).isSome=i7 at *
                generalize (wholeV (l.take (j+1)) 7).getD 0=v7 at *
                cases i7
                ·have e15:r15 l[j+1].1 (l.take (j+1))=true:=HE15.out.trans (by rw[a8];rfl);have HY:Hid (R=21):=(show _=_ by have:=hr5.out;rw[if_pos e15]at this;rw[HR0.out,this,if_neg (by decide)])
                 clear e15;go_wp2_with fail;go_ret;exact⟨by rw[HY.out];rfl,hB.out _ g5⟩
                ·cases a6:(v7 != 6)
                 ·have e15:r15 l[j+1].1 (l.take (j+1))=false:=HE15.out.trans (by rw[a8,a6];rfl);have hr6:Hid (rrightGo (l.take ((j+1)+1)) (l.drop ((j+1)+1))=R):=(show _=_ by have:=hr5.out;rw[if_neg (by rw[e15];decide)]at this;have h2:=HR0.out;rw[this,if_pos rfl]at h2;exact h2.symm)
                  clear e15;go_wp2_with fail;go_roundw;case rel=>exact⟨(j+1)+1,by omega,by go_num,hr6.out,hB.out _ g5⟩
                  case measure=>simp[intOf];omega
                 ·cases a17:(v7 != 17)
                  ·have e15:r15 l[j+1].1 (l.take (j+1))=false:=HE15.out.trans (by rw[a8,a6,a17];rfl);have hr6:Hid (rrightGo (l.take ((j+1)+1)) (l.drop ((j+1)+1))=R):=(show _=_ by have:=hr5.out;rw[if_neg (by rw[e15];decide)]at this;have h2:=HR0.out;rw[this,if_pos rfl]at h2;exact h2.symm)
                   clear e15;go_wp2_with fail;go_roundw;case rel=>exact⟨(j+1)+1,by omega,by go_num,hr6.out,hB.out _ g5⟩
                   case measure=>simp[intOf];omega
                  ·have e15:r15 l[j+1].1 (l.take (j+1))=true:=HE15.out.trans (by rw[a8,a6,a17];rfl);have HY:Hid (R=21):=(show _=_ by have:=hr5.out;rw[if_pos e15]at this;rw[HR0.out,this,if_neg (by decide)])
                   clear e15;go_wp2_with fail;go_ret;exact⟨by rw[HY.out];rfl,hB.out _ g5⟩
              ·have a5:decide (5≤l[j+1].1)=false:=decide_eq_false p5;have a8:decide (8≤l[j+1].1)=false:=decide_eq_false (by omega);have n8 : ¬ 8≤l[j+1].1:=by omega
               have e12:r12 l[j+1].1 (l.take (j+1))=false:=HE12.out.trans (by rw[a5];rfl);have hr5:Hid _:=(show _ from by have:=hr4.out;rw[if_neg (by rw[e12];decide)]at this;exact this)
               clear e12 HE12;go_wp2_with fail;refine(HH.out 7 (j+1) _ hk (hS.out _ g4)).mono ?_;rintro x w5 ⟨rfl,g5'⟩;have g5:=btr g4 g5' (Nat.le_refl _);clear g5';have k5:=(hC.out _ g5).1;clear d0 d1 d2;obtain⟨d0,d1,d2⟩:=k5;have e15:r15 l[j+1].1 (l.take (j+1))=false:=HE15.out.trans (by rw[a8];rfl);have hr6:Hid (rrightGo (l.take ((j+1)+1)) (l.drop ((j+1)+1))=R):=(show _=_ by have:=hr5.out;rw[if_neg (by rw[e15];decide)]at this;have h2:=HR0.out;rw[this,if_pos rfl]at h2;exact h2.symm)
               clear e15;go_wp2_with fail;go_roundw;case rel=>exact⟨(j+1)+1,by omega,by go_num,hr6.out,hB.out _ g5⟩
               case measure=>simp[intOf];omega
  ·have hk':k=l.length:=by omega
   subst hk';have e:R=0:=by rw[← hr];simp[rrightGo]
   go_wp2_with fail;go_ret;exact⟨by rw[e];rfl,hbel⟩
end Mt
structure Rm (base:Nat) (w:World) (r:Nat) (S:Nat→Prop) (room:Int) (v:Value) (l:List Fe):Prop where
 cl:w.cell? ⟨r,0,none⟩=some v
 cr:w.cell? ⟨r,1,none⟩=some (.int .i64 room)
 fz:∀ o,w.frozen? ⟨r,o,none⟩=false
 row:OwnE base w v l
 sr:S r
 so:∀ g,v.ownBlock=some g→S g∧g≠r
 en:∀ x∈l,FW w x∧∀ b,InF x b→b<base
 lo:∀ b,S b→base≤b
 lt:∀ b,S b→b<w.heap.size
 r1:1≤room
 r2:room≤256
def Rs (base:Nat) (w:World) (r:Nat) (S:Nat→Prop) (room:Int) (L:List Fp):Prop:=∃ v l,Rm base w r S room v l∧l.map Fe.p=L
theorem Rm.keep {base:Nat} {w w':World} {r:Nat} {S:Nat→Prop} {room:Int} {v:Value} {l:List Fe} (h:Rm base w r S room v l) (hz:w.heap.size≤w'.heap.size) (g:∀ b,S b→w'.heap[b]? = w.heap[b]?) (g2:∀ b,b<base→b<w.heap.size→w'.heap[b]? = w.heap[b]?):Rm base w' r S room v l:=by
 have hc:∀ o,w'.cell? ⟨r,o,none⟩=w.cell? ⟨r,o,none⟩:=fun o=>World.cell?_of_block (w:=w) (g r h.sr);have hf:∀ o,w'.frozen? ⟨r,o,none⟩=w.frozen? ⟨r,o,none⟩:=fun o=>World.frozen?_of_block (w:=w) (g r h.sr);refine⟨(hc _).trans h.cl,(hc _).trans h.cr,fun o=>(hf o).trans (h.fz o),?_,h.sr,h.so,fun x hx=>⟨(h.en x hx).1.stay hz (fun b hb hlt=>g2 b ((h.en x hx).2 b hb) hlt),(h.en x hx).2⟩,h.lo,fun b hb=>Nat.lt_of_lt_of_le (h.lt b hb) hz,h.r1,h.r2⟩;have hr:=h.row;refine⟨hr.1,?_⟩;rcases hr.2 with hn|⟨g',cap,cur,hv,hb,hgg,rest⟩
 ·exact .inl hn
 ·exact .inr ⟨g',cap,cur,hv,hb,(g g' (h.so g' (by rw[hv];rfl)).1).trans hgg,rest⟩
theorem Rm.below {base:Nat} {w w':World} {r:Nat} {S:Nat→Prop} {room:Int} {v:Value} {l:List Fe} (h:Rm base w r S room v l) (g:Below w.heap.size w w'):Rm base w' r S room v l:=h.keep g.size (fun b hb=>g.block b (h.lt b hb)) (fun b _ hb=>g.block b hb)
theorem Rs.below {base:Nat} {w w':World} {r:Nat} {S:Nat→Prop} {room:Int} {L:List Fp} (h:Rs base w r S room L) (g:Below w.heap.size w w'):Rs base w' r S room L:=by
 obtain⟨v,l,h,e⟩:=h;exact⟨v,l,h.below g,e⟩
theorem Rs.kept {base:Nat} {w w':World} {r:Nat} {S T:Nat→Prop} {room:Int} {L:List Fp} (h:Rs base w r S room L) (g:Kept T w w') (hd:∀ b,S b→¬ T b) (ht:∀ b,T b→base≤b):Rs base w' r S room L:=by
 obtain⟨v,l,h,e⟩:=h;exact⟨v,l,h.keep g.size (fun b hb=>g.block b (h.lt b hb) (hd b hb)) (fun b hb hlt=>g.block b hlt (fun h'=>by have:=ht b h';omega)),e⟩
theorem Rs.lt {base:Nat} {w:World} {r:Nat} {S:Nat→Prop} {room:Int} {L:List Fp} (h:Rs base w r S room L):∀ b,S b→b<w.heap.size:=by
 obtain⟨v,l,h,e⟩:=h;exact h.lt
theorem Rs.lo {base:Nat} {w:World} {r:Nat} {S:Nat→Prop} {room:Int} {L:List Fp} (h:Rs base w r S room L):∀ b,S b→base≤b:=by
 obtain⟨v,l,h,e⟩:=h;exact h.lo
theorem rnew_no (room:Int) (w:World) (h:room<1∨256<room):Calls prog 30 #[.int .i64 room] w fun e w'=>e=.returned (.tuple #[.pointer none,.int .i64 1])∧w'=w:=by
 rcases h with h|h
 ·go_enter func30,ntmps30;go_wp2;go_ret2
  exact⟨rfl,rfl⟩
 ·have h1 : ¬ room<1:=by omega
  go_enter func30,ntmps30;go_wp2;go_ret2
  exact⟨rfl,rfl⟩
theorem rnew_yes (base:Nat) (room:Int) (w:World) (h1:1≤room) (h2:room≤256) (hb:base≤w.heap.size):Calls prog 30 #[.int .i64 room] w fun e w'=>e=.returned (.tuple #[.pointer (some ⟨w.heap.size,0,none⟩),.int .i64 0])∧Rs base w' w.heap.size (fun b=>b=w.heap.size) room []∧Below w.heap.size w w':=by
 go_enter func30,ntmps30;go_wp2;go_ret2
 exact⟨rfl,⟨.slice none 0 0,[],⟨by simp,by simp,by simp,World.ownsRow_nil _ _ _ _,rfl,fun g hg=>(by simp[Value.ownBlock]at hg),fun x hx=>(by cases hx),fun b h=>(by rw[h];exact hb),fun b h=>(by rw[h];simp),h1,h2⟩,rfl⟩,by go_grown⟩
structure VF (x:Fp):Prop where
 t:Mt.TWs x.lt
 a:AWs x.la
 w:AWs x.lw
 m0:0≤x.mt
 m1:x.mt<18446744073709551616
theorem FIn.vf {w:World} {x:Fe} (h:FIn w x):VF x.p:=⟨h.vt,h.va,h.vw,h.m0.1,h.m0.2⟩
theorem rises_nil:Mt.Rises []:=by simp[Mt.Rises]
theorem rwrong_any (x:Fe) (w:World) (hx:FW w x) (hv:VF x.p):Calls prog 62 #[feV x] w fun e w'=>e=.returned (.int .i64 (wrongE x.p))∧Below w.heap.size w w':=by
 have g0:Below w.heap.size w (fx w x):=by go_grown
 have HI:Hid (Calls prog 100 #[feV x] (fx w x) fun e w'=>e=.returned (.int .i64 (rightX x.p.sp))∧Below (fx w x).heap.size (fx w x) w'):=(show Calls _ _ _ _ _ from by
  have:=rrX_any x.en (fx w x) (hx.below g0).fb.ew (by have:=hx.na;exact this) (by have:=hx.nw;exact this) hv.a hv.w hv.m0 hv.m1;rwa [fe_en,en_sp]at this)
 have HM:Hid (∀ w1,Below w.heap.size w w1→Calls prog 101 #[.slice x.ta x.p.lt.length x.tc] w1 fun e w'=>e=.returned (.int .i64 (Mt.rightE x.p.lt))∧Below w1.heap.size w1 w'):=(show ∀ w1,_ from fun w1 g=>by
  have:=Mt.rright_any x.ta x.p.lt x.tc w1 (hx.t.below g) (by have:=hx.nt;omega);rwa [Mt.rright_eq x.p.lt [] hv.t rises_nil]at this)
 have HX:Hid (Be (fx w x) w.heap.size 0 x):=Be.new w x;have HR:Hid (wrongE x.p=if rightX x.p.sp≠0 then rightX x.p.sp else if Mt.rightE x.p.lt≠0 then Mt.rightE x.p.lt else if priB x.p.pri=true then 1 else 0):=(show _=_ from rfl)
 clear hx hv;generalize rightX x.p.sp=E1 at *
 generalize Mt.rightE x.p.lt=E2 at *
 by_cases h1:E1=0
 ·have b1:(E1 != 0)=false:=by simp[h1]
  by_cases h2:E2=0
  ·have b2:(E2 != 0)=false:=by simp[h2]
   have hc:(x.p.pri<0∧wrongE x.p=1)∨(¬ x.p.pri<0∧65535<x.p.pri∧wrongE x.p=1)∨(¬ x.p.pri<0∧¬ 65535<x.p.pri∧wrongE x.p=0):=by
    rw[HR.out,if_neg (by simpa using h1),if_neg (by simpa using h2)];by_cases hp1:x.p.pri<0
    ·exact .inl ⟨hp1,if_pos (by simp[priB,hp1])⟩
    ·by_cases hp2:65535<x.p.pri
     ·exact .inr (.inl ⟨hp1,hp2,if_pos (by simp[priB,hp2])⟩)
     ·exact .inr (.inr ⟨hp1,hp2,if_neg (by unfold priB;rw[decide_eq_false hp1,decide_eq_false hp2];decide)⟩)
   clear HR h1 h2;rcases hc with⟨hp1,h3⟩|⟨hp1,hp2,h3⟩|⟨hp1,hp2,h3⟩
   all_goals
    have HR3:Hid _:=h3;clear h3;go_enter func62,ntmps62;go_wp2_with (refine load_E rfl (.tmp 1) rfl w.heap.size 0 x rfl HX.out ?_);refine HI.out.mono ?_;rintro e w1 ⟨rfl,g1⟩;have G1:=btr g0 g1 (Nat.le_refl _);obtain⟨_,c1,c2,_⟩:=(HX.out.below (by simp) g1).cs;go_wp2_with fail;refine(HM.out w1 G1).mono ?_;rintro e w2 ⟨rfl,g2⟩;have z1:=g1.size;simp at z1;have c1':w2.cell? ⟨w.heap.size,1,none⟩=some (.int .i64 x.p.pri):=(g2.cell (p:=⟨w.heap.size,1,none⟩) (by show w.heap.size<w1.heap.size;omega)).trans c1;go_wp2_with fail;go_ret;exact⟨by rw[HR3.out];rfl,btr G1 g2 (Nat.le_refl _)⟩
  ·have b2:(E2 != 0)=true:=by simp[h2]
   have HR3:Hid (wrongE x.p=E2):=(show _=_ by rw[HR.out,if_neg (by simpa using h1),if_pos h2])
   clear HR h1 h2;go_enter func62,ntmps62;go_wp2_with (refine load_E rfl (.tmp 1) rfl w.heap.size 0 x rfl HX.out ?_);refine HI.out.mono ?_;rintro e w1 ⟨rfl,g1⟩;have G1:=btr g0 g1 (Nat.le_refl _);obtain⟨_,c1,c2,_⟩:=(HX.out.below (by simp) g1).cs;go_wp2_with fail;refine(HM.out w1 G1).mono ?_;rintro e w2 ⟨rfl,g2⟩;go_wp2_with fail;go_ret;exact⟨by rw[HR3.out];rfl,btr G1 g2 (Nat.le_refl _)⟩
 ·have b1:(E1 != 0)=true:=by simp[h1]
  have HR3:Hid (wrongE x.p=E1):=(show _=_ by rw[HR.out,if_pos h1])
  clear HR h1;go_enter func62,ntmps62;go_wp2_with (refine load_E rfl (.tmp 1) rfl w.heap.size 0 x rfl HX.out ?_);refine HI.out.mono ?_;rintro e w1 ⟨rfl,g1⟩;go_wp2_with fail;go_ret;exact⟨by rw[HR3.out];rfl,btr g0 g1 (Nat.le_refl _)⟩
def alikeB (x y:Fp):Bool:=(x.tab==y.tab)&&twinB x y
theorem alike_any (x y:Fe) (w:World) (hx:FW w x) (hy:FW w y) :
 Calls prog 64 #[feV x,feV y] w fun e w'=>e=.returned (.bool (alikeB x.p y.p))∧Below w.heap.size w w':=by
 have HS:Hid (∀ w1,Below w.heap.size w w1→Calls prog 44 #[.slice x.ta x.p.lt.length x.tc,.slice y.ta y.p.lt.length y.tc] w1 fun e w'=>e=.returned (.bool (Mt.sameB x.p.lt y.p.lt))∧Below w1.heap.size w1 w'):=(show ∀ w1,_ from fun w1 g=>Mt.rsame_any _ _ _ _ _ _ w1 (hx.t.below g) (by have:=hx.nt;omega) (hy.t.below g) (by have:=hy.nt;omega))
 clear hx hy;obtain⟨W,hW,zW,gW,bx,bY⟩:=two_boxes w x y;have HG:Hid (Below w.heap.size w W):=gW;obtain⟨c0,c1,c2,_⟩:=bx.cs;obtain⟨d0,d1,d2,_⟩:=bY.cs;clear bx bY gW;unfold alikeB twinB;cases ht:(x.p.tab==y.p.tab)with
 | false =>
   go_enter func64,ntmps64;go_wp2_with fail;go_ret;exact⟨rfl,HG.out⟩
 | true =>
   cases hp:(x.p.pri==y.p.pri)with
   | false =>
     go_enter func64,ntmps64;go_wp2_with fail;go_ret;exact⟨rfl,HG.out⟩
   | true =>
     generalize Mt.sameB x.p.lt y.p.lt=B at *
     go_enter func64,ntmps64;go_wp2_with fail;refine(HS.out W HG.out).mono ?_;rintro e w3 ⟨rfl,g3⟩;go_wp2_with fail;go_ret;exact⟨rfl,btr HG.out g3 (Nat.le_refl _)⟩
end Go.Proofs.YtgnihbdcdefdgaaGreatDoor

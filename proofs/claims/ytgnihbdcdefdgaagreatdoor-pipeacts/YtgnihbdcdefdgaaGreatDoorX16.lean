import Derived.Test.YtgnihbdcdefdgaaGreatDoorX15
import Derived.Test.YtgnihbdcdefdgaaGreatDoorX02
import Derived.Test.YtgnihbdcdefdgaaGreatDoorX09
import Derived.Deep.MidRow
import Derived.Deep.Onto
import Derived.Laws.OwnMore
set_option maxHeartbeats 8000000
set_option linter.unusedSimpArgs false
set_option linter.unusedVariables false
open Go.ChangeShapes Go.WideShapes Go.ChangeAt Go.RowKit
open Go.Proofs.Tryz
namespace Go.Proofs.YtgnihbdcdefdgaaGreatDoor
namespace Mt
theorem behind_none (t:T) (v:Value) (w:World) (h:wdV t.1=0):Calls prog 132 #[tV t,v] w fun e w'=>e=.returned (.int .i64 20)∧Below w.heap.size w w':=by
 have HW:Hid (∀ w,Calls prog 183 #[.int .i64 t.1] w fun e w'=>e=.returned (.int .i64 0)∧w'=w):=fun w=>h ▸ width_any t.1 w;clear h;go_enter func132,ntmps132;go_wp2_with fail;refine(HW.out _).mono ?_;rintro x w1 ⟨rfl,rfl⟩;go_wp2_with fail;go_ret;exact⟨rfl,by go_grown⟩
theorem behind_first_fit (t:T) (a:Option Addr) (cap:Nat) (w:World) (h:(wdV t.1==0)=false) (h2:fitB t=false) :
 Calls prog 132 #[tV t,.slice a 0 cap] w fun e w'=>e=.returned (.int .i64 21)∧Below w.heap.size w w':=by
 have HW:Hid (∀ w,Calls prog 183 #[.int .i64 t.1] w fun e w'=>e=.returned (.int .i64 (wdV t.1))∧w'=w):=fun w=>width_any t.1 w;have HF:Hid (∀ w,Calls prog 184 #[tV t] w fun e w'=>e=.returned (.bool false)∧Below w.heap.size w w'):=fun w=>h2 ▸ fits_any t w;clear h2;have q:=C3.gr (C3.new w t) (by simp);have q0:=fun n=>(q n).1;clear q;generalize wdV t.1=y at *
 go_enter func132,ntmps132;go_wp2_with fail;refine(HW.out _).mono ?_;rintro x w1 ⟨rfl,rfl⟩;go_wp2_with fail;refine wp_region_grow (by kernel_rfl) (by kernel_rfl) ?_;repeat (go_big_quiet_step (fail))
 refine wpQuiet_nil ?_;rintro w1 hw';have g1:=gr_elim hw';clear hw';have hz:=Nat.lt_of_lt_of_le (show w.heap.size<(tx w t).heap.size by simp) g1.size;have c:=(C3.new w t).below (by simp) g1;have c':=c;obtain⟨c0,c1,c2⟩:=c';go_wp2_with fail;refine(HF.out _).mono ?_;rintro x w2 ⟨rfl,g2⟩;have k:=C3.below (t:=t) c hz g2;clear c0 c1 c2 c;obtain⟨c0,c1,c2⟩:=k;have g3:Below w.heap.size w w2:=btr (btr (by go_grown) g1 (by simp)) g2 (by simp);go_wp2_with fail;go_ret;exact⟨rfl,g3⟩
theorem behind_first_std (t:T) (a:Option Addr) (cap:Nat) (w:World) (h:(wdV t.1==0)=false) (h2:fitB t=true) (b:Bool) (HS:Hid (∀ w',Below w.heap.size w w'→Calls prog 185 #[.int .i64 t.1,.slice a 0 cap] w' fun e w''=>e=.returned (.bool b)∧Below w'.heap.size w' w'')) :
 Calls prog 132 #[tV t,.slice a 0 cap] w fun e w'=>e=.returned (.int .i64 (if b=true then 0 else 21))∧Below w.heap.size w w':=by
 have HW:Hid (∀ w,Calls prog 183 #[.int .i64 t.1] w fun e w'=>e=.returned (.int .i64 (wdV t.1))∧w'=w):=fun w=>width_any t.1 w;have HF:Hid (∀ w,Calls prog 184 #[tV t] w fun e w'=>e=.returned (.bool true)∧Below w.heap.size w w'):=fun w=>h2 ▸ fits_any t w;clear h2;have q:=C3.gr (C3.new w t) (by simp);have q0:=fun n=>(q n).1;clear q;generalize wdV t.1=y at *
 cases b
 all_goals
  go_enter func132,ntmps132;go_wp2_with fail;refine(HW.out _).mono ?_;rintro x w1 ⟨rfl,rfl⟩;go_wp2_with fail;refine wp_region_grow (by kernel_rfl) (by kernel_rfl) ?_;repeat (go_big_quiet_step (fail))
  refine wpQuiet_nil ?_;rintro w1 hw';have g1:=gr_elim hw';clear hw';have hz:=Nat.lt_of_lt_of_le (show w.heap.size<(tx w t).heap.size by simp) g1.size;have c:=(C3.new w t).below (by simp) g1;have c':=c;obtain⟨c0,c1,c2⟩:=c';go_wp2_with fail;refine(HF.out _).mono ?_;rintro x w2 ⟨rfl,g2⟩;have k:=C3.below (t:=t) c hz g2;clear c0 c1 c2 c;obtain⟨c0,c1,c2⟩:=k;have g3:Below w.heap.size w w2:=btr (btr (by go_grown) g1 (by simp)) g2 (by simp);go_wp2_with fail;refine(HS.out _ g3).mono ?_;rintro x w3 ⟨rfl,g4⟩;go_wp2_with fail;go_ret;exact⟨rfl,btr g3 g4 (by simp)⟩
theorem behind_later_le (t:T) (g o k:Nat) (z:Int) (cap:Nat) (w:World) (h:(wdV t.1==0)=false) (hg:g<w.heap.size) (hk:k+1≤9223372036854775807) (hz:w.cell? ⟨g,o+k*3,none⟩=some (.int .i64 z)) (hle:decide (t.1≤z)=true) :
 Calls prog 132 #[tV t,.slice (some ⟨g,o,none⟩) (k+1) cap] w fun e w'=>e=.returned (.int .i64 21)∧Below w.heap.size w w':=by
 have HW:Hid (∀ w,Calls prog 183 #[.int .i64 t.1] w fun e w'=>e=.returned (.int .i64 (wdV t.1))∧w'=w):=fun w=>width_any t.1 w;have q:=C3.gr (C3.new w t) (by simp);have q0:=fun n=>(q n).1;clear q;have r0:∀ n:GrT (tx w t),n.w.cell? ⟨g,o+k*3,none⟩=some (.int .i64 z):=fun n=>(n.h.cell (show g<(tx w t).heap.size by simp;omega)).trans ((World.cell?_of_block (w:=w) (heap_alloc_old w _ hg)).trans hz);clear hz;generalize wdV t.1=y at *
 go_enter func132,ntmps132;go_wp2_with fail;refine(HW.out _).mono ?_;rintro x w1 ⟨rfl,rfl⟩;go_wp2_with fail;refine wp_region_grow (by kernel_rfl) (by kernel_rfl) ?_;repeat (go_big_quiet_step (fail))
 refine wpQuiet_nil ?_;rintro w1 hw';have g1:=gr_elim hw';clear hw';have hz:=Nat.lt_of_lt_of_le (show w.heap.size<(tx w t).heap.size by simp) g1.size;have c:=(C3.new w t).below (by simp) g1;have c':=c;obtain⟨c0,c1,c2⟩:=c';go_wp2_with fail;go_ret;exact⟨rfl,btr (by go_grown) g1 (by simp)⟩
theorem behind_later_fit (t:T) (g o k:Nat) (z:Int) (cap:Nat) (w:World) (h:(wdV t.1==0)=false) (hg:g<w.heap.size) (hk:k+1≤9223372036854775807) (hz:w.cell? ⟨g,o+k*3,none⟩=some (.int .i64 z)) (hle:decide (t.1≤z)=false) (h2:fitB t=false) :
 Calls prog 132 #[tV t,.slice (some ⟨g,o,none⟩) (k+1) cap] w fun e w'=>e=.returned (.int .i64 21)∧Below w.heap.size w w':=by
 have HW:Hid (∀ w,Calls prog 183 #[.int .i64 t.1] w fun e w'=>e=.returned (.int .i64 (wdV t.1))∧w'=w):=fun w=>width_any t.1 w;have HF:Hid (∀ w,Calls prog 184 #[tV t] w fun e w'=>e=.returned (.bool false)∧Below w.heap.size w w'):=fun w=>h2 ▸ fits_any t w;clear h2;have q:=C3.gr (C3.new w t) (by simp);have q0:=fun n=>(q n).1;clear q;have r0:∀ n:GrT (tx w t),n.w.cell? ⟨g,o+k*3,none⟩=some (.int .i64 z):=fun n=>(n.h.cell (show g<(tx w t).heap.size by simp;omega)).trans ((World.cell?_of_block (w:=w) (heap_alloc_old w _ hg)).trans hz);clear hz;generalize wdV t.1=y at *
 go_enter func132,ntmps132;go_wp2_with fail;refine(HW.out _).mono ?_;rintro x w1 ⟨rfl,rfl⟩;go_wp2_with fail;refine wp_region_grow (by kernel_rfl) (by kernel_rfl) ?_;repeat (go_big_quiet_step (fail))
 refine wpQuiet_nil ?_;rintro w1 hw';have g1:=gr_elim hw';clear hw';have hz:=Nat.lt_of_lt_of_le (show w.heap.size<(tx w t).heap.size by simp) g1.size;have c:=(C3.new w t).below (by simp) g1;have c':=c;obtain⟨c0,c1,c2⟩:=c';go_wp2_with fail;refine(HF.out _).mono ?_;rintro x w2 ⟨rfl,g2⟩;have k:=C3.below (t:=t) c hz g2;clear c0 c1 c2 c;obtain⟨c0,c1,c2⟩:=k;have g3:Below w.heap.size w w2:=btr (btr (by go_grown) g1 (by simp)) g2 (by simp);go_wp2_with fail;go_ret;exact⟨rfl,g3⟩
theorem behind_later_std (t:T) (g o k:Nat) (z:Int) (cap:Nat) (w:World) (h:(wdV t.1==0)=false) (hg:g<w.heap.size) (hk:k+1≤9223372036854775807) (hz:w.cell? ⟨g,o+k*3,none⟩=some (.int .i64 z)) (hle:decide (t.1≤z)=false) (h2:fitB t=true) (b:Bool) (HS:Hid (∀ w',Below w.heap.size w w'→Calls prog 185 #[.int .i64 t.1,.slice (some ⟨g,o,none⟩) (k+1) cap] w' fun e w''=>e=.returned (.bool b)∧Below w'.heap.size w' w'')) :
 Calls prog 132 #[tV t,.slice (some ⟨g,o,none⟩) (k+1) cap] w fun e w'=>e=.returned (.int .i64 (if b=true then 0 else 21))∧Below w.heap.size w w':=by
 have HW:Hid (∀ w,Calls prog 183 #[.int .i64 t.1] w fun e w'=>e=.returned (.int .i64 (wdV t.1))∧w'=w):=fun w=>width_any t.1 w;have HF:Hid (∀ w,Calls prog 184 #[tV t] w fun e w'=>e=.returned (.bool true)∧Below w.heap.size w w'):=fun w=>h2 ▸ fits_any t w;clear h2;have q:=C3.gr (C3.new w t) (by simp);have q0:=fun n=>(q n).1;clear q;have r0:∀ n:GrT (tx w t),n.w.cell? ⟨g,o+k*3,none⟩=some (.int .i64 z):=fun n=>(n.h.cell (show g<(tx w t).heap.size by simp;omega)).trans ((World.cell?_of_block (w:=w) (heap_alloc_old w _ hg)).trans hz);clear hz;generalize wdV t.1=y at *
 cases b
 all_goals
  go_enter func132,ntmps132;go_wp2_with fail;refine(HW.out _).mono ?_;rintro x w1 ⟨rfl,rfl⟩;go_wp2_with fail;refine wp_region_grow (by kernel_rfl) (by kernel_rfl) ?_;repeat (go_big_quiet_step (fail))
  refine wpQuiet_nil ?_;rintro w1 hw';have g1:=gr_elim hw';clear hw';have hz:=Nat.lt_of_lt_of_le (show w.heap.size<(tx w t).heap.size by simp) g1.size;have c:=(C3.new w t).below (by simp) g1;have c':=c;obtain⟨c0,c1,c2⟩:=c';go_wp2_with fail;refine(HF.out _).mono ?_;rintro x w2 ⟨rfl,g2⟩;have k:=C3.below (t:=t) c hz g2;clear c0 c1 c2 c;obtain⟨c0,c1,c2⟩:=k;have g3:Below w.heap.size w w2:=btr (btr (by go_grown) g1 (by simp)) g2 (by simp);go_wp2_with fail;refine(HS.out _ g3).mono ?_;rintro x w3 ⟨rfl,g4⟩;go_wp2_with fail;go_ret;exact⟨rfl,btr g3 g4 (by simp)⟩
theorem behind_any (t:T) (a:Option Addr) (l:List T) (cap:Nat) (w:World) (h:Ts w a l) (hl:l.length≤9223372036854775807) :
 Calls prog 132 #[tV t,.slice a l.length cap] w fun e w'=>e=.returned (.int .i64 (behindE t l))∧Below w.heap.size w w':=by
 unfold behindE;by_cases h0:wdV t.1=0
 ·rw[if_pos h0];exact behind_none t _ w h0
 ·rw[if_neg h0];have hb:(wdV t.1==0)=false:=by simpa using h0
  have HS:Hid (∀ w',Below w.heap.size w w'→Calls prog 185 #[.int .i64 t.1,.slice a l.length cap] w' fun e w''=>e=.returned (.bool (standB t.1 l))∧Below w'.heap.size w' w''):=fun w' g=>stand_any t.1 a l cap w' (h.below g) hl;by_cases hn:l=[]
  ·subst hn;cases hf:fitB t with
   | false=>rw[if_pos (by simp)];exact behind_first_fit t a cap w hb hf
   | true =>
     have e:(if ([]:List T)≠[]∧t.1≤lastF []∨true=false∨standB t.1 []=false then (21:Int) else 0)=if standB t.1 []=true then 0 else 21:=by
      cases standB t.1 []<;>simp
     rw[e];exact behind_first_std t a cap w hb hf _ HS
  ·have hp:0<l.length:=by cases l with
    | nil=>exact absurd rfl hn
    | cons=>simp
   obtain⟨k,hk⟩:∃ k,l.length=k+1:=⟨l.length-1,by omega⟩
   obtain⟨g,o,rfl,hg,hc⟩:=h.at hp;have hla:=lastF_get l k hk.symm;have hz:=(hc k (by omega)).1;rw[← hla]at hz;rw[hk]at hl HS ⊢;by_cases h1:t.1≤lastF l
   ·rw[if_pos (.inl ⟨hn,h1⟩)];exact behind_later_le t g o k (lastF l) cap w hb hg hl hz (by simpa using h1)
   ·cases hf:fitB t with
    | false=>rw[if_pos (by simp)];exact behind_later_fit t g o k (lastF l) cap w hb hg hl hz (by simpa using h1) hf
    | true =>
      have e:(if l≠[]∧t.1≤lastF l∨true=false∨standB t.1 l=false then (21:Int) else 0)=if standB t.1 l=true then 0 else 21:=by
       cases standB t.1 l<;>simp[h1]
      rw[e];exact behind_later_std t g o k (lastF l) cap w hb hg hl hz (by simpa using h1) hf _ HS
theorem rightGo_at (l:List T) (k:Nat) (h:k<l.length):rightGo (l.take k) (l.drop k)=if behindE l[k] (l.take k)=0 then rightGo (l.take (k+1)) (l.drop (k+1)) else behindE l[k] (l.take k):=by
 rw[List.drop_eq_getElem_cons h,rightGo,take_snoc_get l k h]
theorem right_any (a:Option Addr) (l:List T) (cap:Nat) (w:World) (h:Ts w a l) (hl:l.length≤9223372036854775807) (hc:l.length≤cap) :
 Calls prog 90 #[.slice a l.length cap] w fun e w'=>e=.returned (.int .i64 (rightE l))∧Below w.heap.size w w':=by
 have HB:Hid (∀ t k w,k≤l.length→Ts w a l→Calls prog 132 #[tV t,.slice a k cap] w fun e w'=>e=.returned (.int .i64 (behindE t (l.take k)))∧Below w.heap.size w w'):=fun t k w hk h=>by
  have hlen:(l.take k).length=k:=by rw[List.length_take];omega
  have:=behind_any t a (l.take k) cap w (h.take k) (by omega);rwa [hlen]at this
 go_enter func90,ntmps90;go_wp2_with fail;go_loopw [8] (fun i wr=>∃ k:Nat,k≤l.length∧i=.int .i64 k∧rightE l=rightGo (l.take k) (l.drop k)∧Below w.heap.size w wr) (fun i _=>l.length-(intOf i).toNat);case atStart=>exact⟨0,by omega,rfl,by simp[rightE],Below.refl _ _⟩
 case round =>
  obtain⟨k,hk,rfl,hr,hbel⟩:=hrel;by_cases hlt:k<l.length
  ·have hT:=h.below hbel;obtain⟨g,o,rfl,hg,hcs⟩:=hT.at hlt;obtain⟨c0,c1,c2⟩:=hcs k hlt;have q:=C3.gr (C3.new wr l[k]) (by simp);have q0:=fun n=>(q n).1;have q1:=fun n=>(q n).2.1;have q2:=fun n=>(q n).2.2;clear q;have hTn:∀ n:GrT (tx wr l[k]),Ts n.w (some ⟨g,o,none⟩) l:=fun n=>((hT.alloc _).below n.h)
   have HR:Hid (rightGo (l.take k) (l.drop k)=if behindE l[k] (l.take k)=0 then rightGo (l.take (k+1)) (l.drop (k+1)) else behindE l[k] (l.take k)):=rightGo_at l k hlt;have hkl:k≤cap:=by omega
   go_wp2_with fail;refine wp_region_grow (by kernel_rfl) (by kernel_rfl) ?_;repeat (go_big_quiet_step (first|(go_at_call 132;exact quiet_gr (HB.out _ _ _ hk (hTn _)))))
   refine wpQuiet_nil ?_;rintro w1 hw';have g1:=gr_elim hw';clear hw';have g2:Below w.heap.size w w1:=btr (hbel.alloc hbel.size _) g1 (Nat.le_refl _);generalize hE:behindE l[k] (l.take k)=e at *
   by_cases he:e=0
   ·subst he;have HR2:Hid (rightE l=rightGo (l.take (k+1)) (l.drop (k+1))):=(show _=_ by rw[hr,HR.out,if_pos rfl])
    go_wp2_with fail;go_roundw;case rel=>exact⟨k+1,by omega,by go_num,HR2.out,g2⟩
    case measure=>simp[intOf];omega
   ·have hne:(e != 0)=true:=by simpa using he
    have HR2:Hid (rightE l=e):=(show _=_ by rw[hr,HR.out,if_neg he])
    clear hr HR;go_wp2_with fail;go_ret;exact⟨by rw[HR2.out];rfl,g2⟩
  ·have hk':k=l.length:=by omega
   subst hk';have e:rightE l=0:=by rw[hr];simp[rightGo]
   go_wp2_with fail;go_ret;exact⟨by rw[e];rfl,hbel⟩
def takeT (s:Sn) (t:T):Bool:=(getE s t.1==0)&&(bits .and .u64 (getV s t.1) t.2.2==t.2.1)
def takesB (l:List T) (s:Sn):Bool:=l.all (takeT s)
theorem Bx.allocd {w:World} {b:Nat} {s:Sn} (h:Bx w b s) (hb:b<w.heap.size) (x:Obj):Bx (w.alloc x) b s:=h.below hb (show Below w.heap.size w (w.alloc x)by go_grown)
theorem takes_any (a:Option Addr) (l:List T) (cap:Nat) (s:Sn) (w:World) (h:Ts w a l) (hl:l.length≤100000) (hw:Wf s) :
 Calls prog 105 #[.slice a l.length cap,snV s] w fun e w'=>e=.returned (.bool (takesB l s))∧Below w.heap.size w w':=by
 have HG:Hid (∀ f w,Calls prog 145 #[snV s,.int .i64 f] w fun e w'=>e=.returned (.tuple #[.int .u64 (getV s f),.int .i64 (getE s f)])∧Below w.heap.size w w'):=fun f w=>get_any s f w hw;unfold takesB;go_enter func105,ntmps105;go_wp2;go_loopw [11] (fun i wr=>∃ k:Nat,k≤l.length∧i=.int .i64 k∧(l.take k).all (takeT s)=true∧Bx wr w.heap.size s∧w.heap.size<wr.heap.size∧Below w.heap.size w wr) (fun i _=>l.length-(intOf i).toNat);case atStart=>exact⟨0,by omega,rfl,by simp,Bx.new w s,by simp,by go_grown⟩
 case round =>
  obtain⟨k,hk,rfl,hn,hb,hsz,hbel⟩:=hrel;by_cases hlt:k<l.length
  ·have hT:=h.below hbel;obtain⟨g,o,rfl,hg,hc⟩:=hT.at hlt;obtain⟨c0,c1,c2⟩:=hc k hlt;have hb':=hb.allocd hsz (.cells (tC l[k]) 168);have hbel2:=hbel.alloc hbel.size (.cells (tC l[k]) 168);have hs:=all_snoc l (takeT s) k hlt;rw[hn,Bool.true_and]at hs;have HB:Hid (Bx (tx wr l[k]) w.heap.size s):=hb';obtain⟨h0,h1,h2,h3,h4,h5,h6,h7,h8,h9,h10,h11,h12⟩:=hb';have ht:takeT s l[k]=((getE s l[k].1==0)&&(bits .and .u64 (getV s l[k].1) l[k].2.2==l[k].2.1)):=rfl;go_wp2_with fail;refine(HG.out _ _).mono ?_;rintro x w1 ⟨rfl,g1⟩;have hsz1:w.heap.size<(tx wr l[k]).heap.size:=by simp;omega
   have hb1:=Bx.below HB.out hsz1 g1;obtain⟨d0,d1,d2⟩:=(C3.new wr l[k]).below (by simp) g1;have g2:=btr hbel2 g1 (Nat.le_refl _);have hsz2:=Nat.lt_of_lt_of_le hsz1 g1.size;clear h0 h1 h2 h3 h4 h5 h6 h7 h8 h9 h10 h11 h12;generalize getE s l[k].1=e at *
   generalize getV s l[k].1=v at *
   cases f1:(e != 0)
   ·have e0:(e==0)=true:=by simpa using f1
    cases f2:(bits .and .u64 v l[k].2.2 != l[k].2.1)
    ·have e2:(bits .and .u64 v l[k].2.2==l[k].2.1)=true:=by simpa using f2
     have HE:Hid ((l.take (k+1)).all (takeT s)=true):=(show _=_ by rw[hs,ht,e0,e2];rfl)
     clear hs ht hn e0 e2;go_wp2_with fail;go_roundw;case rel=>exact⟨k+1,by omega,by go_num,HE.out,hb1,hsz2,g2⟩
     case measure=>simp[intOf];omega
    ·have e2:(bits .and .u64 v l[k].2.2==l[k].2.1)=false:=by simpa using f2
     have HE:Hid (l.all (takeT s)=false):=(show _=_ from all_of_take l _ (k+1) (by rw[hs,ht,e0,e2];rfl))
     clear hs ht hn e0 e2;go_wp2_with fail;go_ret;exact⟨by rw[HE.out];rfl,g2⟩
   ·have e0:(e==0)=false:=by simpa using f1
    have HE:Hid (l.all (takeT s)=false):=(show _=_ from all_of_take l _ (k+1) (by rw[hs,ht,e0];rfl))
    clear hs ht hn e0;go_wp2_with fail;go_ret;exact⟨by rw[HE.out];rfl,g2⟩
  ·have hk':k=l.length:=by omega
   subst hk';rw[List.take_length]at hn;go_wp2;go_ret;exact⟨by rw[hn];rfl,hbel⟩
end Mt
structure Fp where
 tab:Int
 pri:Int
 lt:List Mt.T
 la:List A
 lw:List A
 clr:Bool
 mt:Int
 mm:Int
 met:Int
 go:Int
structure Fe where
 p:Fp
 ta:Option Addr
 tc:Nat
 aa:Option Addr
 ca:Nat
 aw:Option Addr
 cw:Nat
abbrev feC (x:Fe):Array Value:=#[.int .i64 x.p.tab,.int .i64 x.p.pri,.slice x.ta x.p.lt.length x.tc,.slice x.aa x.p.la.length x.ca,.slice x.aw x.p.lw.length x.cw,.bool x.p.clr,.int .u64 x.p.mt,.int .u64 x.p.mm,.int .i64 x.p.met,.int .i64 x.p.go]
abbrev feV (x:Fe):Value:=.agg #[.int .i64 x.p.tab,.int .i64 x.p.pri,.slice x.ta x.p.lt.length x.tc,.slice x.aa x.p.la.length x.ca,.slice x.aw x.p.lw.length x.cw,.bool x.p.clr,.int .u64 x.p.mt,.int .u64 x.p.mm,.int .i64 x.p.met,.int .i64 x.p.go]
abbrev fx (w:World) (x:Fe):World:=w.alloc (.cells (feC x) 76)
def Fe.en (x:Fe):En:=⟨x.p.tab,x.p.pri,x.ta,x.p.lt.length,x.tc,x.aa,x.p.la,x.ca,x.aw,x.p.lw,x.cw,x.p.clr,x.p.mt,x.p.mm,x.p.met,x.p.go⟩
def Fp.sp (p:Fp):Sp:=⟨p.tab,p.la,p.lw,p.clr,p.mt,p.mm,p.met,p.go⟩
theorem fe_en (x:Fe):enV x.en=feV x:=rfl
theorem en_sp (x:Fe):x.en.sp=x.p.sp:=rfl
def Be (w:World) (b o:Nat) (x:Fe):Prop:=w.rangeAt b o (feC x).toList
abbrev Ce (w:World) (b:Nat) (x:Fe):Prop :=
 w.cell? ⟨b,0,none⟩=some (.int .i64 x.p.tab)∧w.cell? ⟨b,1,none⟩=some (.int .i64 x.p.pri)∧w.cell? ⟨b,2,none⟩=some (.slice x.ta x.p.lt.length x.tc)∧w.cell? ⟨b,3,none⟩=some (.slice x.aa x.p.la.length x.ca)∧w.cell? ⟨b,4,none⟩=some (.slice x.aw x.p.lw.length x.cw)∧w.cell? ⟨b,5,none⟩=some (.bool x.p.clr)∧w.cell? ⟨b,6,none⟩=some (.int .u64 x.p.mt)∧w.cell? ⟨b,7,none⟩=some (.int .u64 x.p.mm)∧w.cell? ⟨b,8,none⟩=some (.int .i64 x.p.met)∧w.cell? ⟨b,9,none⟩=some (.int .i64 x.p.go)
theorem Be.at0 {w:World} {b:Nat} {x:Fe} (h:Be w b 0 x) (j:Nat) (v:Value) (hv:(feC x).toList[j]? = some v):w.cell? ⟨b,j,none⟩=some v:=by
 have:=h j v hv;rwa [Nat.zero_add]at this
theorem Be.cs {w:World} {b:Nat} {x:Fe} (h:Be w b 0 x):Ce w b x:=⟨h.at0 0 _ rfl,h.at0 1 _ rfl,h.at0 2 _ rfl,h.at0 3 _ rfl,h.at0 4 _ rfl,h.at0 5 _ rfl,h.at0 6 _ rfl,h.at0 7 _ rfl,h.at0 8 _ rfl,h.at0 9 _ rfl⟩
theorem range_new (w:World) (cs:Array Value) (t:TypeId):(w.alloc (.cells cs t)).rangeAt w.heap.size 0 cs.toList:=fun j v hv=>by
 rw[Nat.zero_add];simpa using hv
theorem range_block {w w':World} {b o:Nat} {cs:List Value} (h:w.rangeAt b o cs) (g:w'.heap[b]? = w.heap[b]?):w'.rangeAt b o cs:=fun j v hv=>(World.cell?_of_block (w:=w) g).trans (h j v hv)
theorem Be.new (w:World) (x:Fe):Be (fx w x) w.heap.size 0 x:=range_new w (feC x) _
theorem Be.block {w w':World} {b o:Nat} {x:Fe} (h:Be w b o x) (g:w'.heap[b]? = w.heap[b]?):Be w' b o x:=range_block h g
theorem Be.below {w w':World} {b o B:Nat} {x:Fe} (h:Be w b o x) (hb:b<B) (g:Below B w w'):Be w' b o x:=h.block (g.block b hb)
theorem Be.gr {W:World} {b o:Nat} {x:Fe} (h:Be W b o x) (hb:b<W.heap.size) (n:GrT W):Be n.w b o x:=h.below hb n.h
theorem infoE (x:Fe):(prog.info? 76).map (·.size)=some (feC x).toList.length:=by kernel_rfl
theorem hiE (x:Fe):(prog.info? 76).map (·.size)=some (feC x).size:=by kernel_rfl
theorem oneE (x:Fe):(feC x).all (·.oneCell')=true:=by simp[Value.oneCell']
theorem loadFe (w:World) (b o:Nat) (x:Fe) (h:Be w b o x):(loadVar 76 ⟨b,o,none⟩).run prog w=.ok (feV x) w:=run_loadVar_mid w b o 76 (feC x).toList _ h underlying76 rfl (infoE x)
theorem resF {fn:Func} {t:Tmp} (h:fn.results=#[.cell t 76]) {tmps:Array Value} {w:World} {b:Nat} {x:Fe} (ht:tmps.getD t undef=.pointer (some ⟨b,0,none⟩)) (hs:Be w b 0 x) :
 (results fn tmps).run prog w=.ok (feV x) w:=by
 have ht':tmps[t]?.getD undef=.pointer (some ⟨b,0,none⟩):=by simpa using ht
 simp[results,h,ht',asAddr,loadFe w b 0 x hs]
theorem resFb {fn:Func} {t u:Tmp} (h:fn.results=#[.cell t 76,.tmp u]) {tmps:Array Value} {w:World} {b:Nat} {x:Fe} (ht:tmps.getD t undef=.pointer (some ⟨b,0,none⟩)) (hs:Be w b 0 x) :
 (results fn tmps).run prog w=.ok (.tuple #[feV x,tmps.getD u undef]) w:=by
 have ht':tmps[t]?.getD undef=.pointer (some ⟨b,0,none⟩):=by simpa using ht
 simp[results,h,ht',asAddr,loadFe w b 0 x hs]
structure Only (b:Nat) (w w':World):Prop where
 os:w'.os=w.os
 tape:w'.tape=w.tape
 output:w'.output=w.output
 size:w'.heap.size=w.heap.size
 block:∀ k,k≠b→w'.heap[k]? = w.heap[k]?
theorem Only.refl (b:Nat) (w:World):Only b w w:=⟨rfl,rfl,rfl,rfl,fun _ _=>rfl⟩
theorem Only.trans {b:Nat} {w w' w'':World} (h:Only b w w') (k:Only b w' w''):Only b w w'' :=
 ⟨k.os.trans h.os,k.tape.trans h.tape,k.output.trans h.output,k.size.trans h.size,fun i hi=>(k.block i hi).trans (h.block i hi)⟩
theorem Only.setCell {b:Nat} {w w':World} (h:Only b w w') (o:Nat) (v:Value):Only b w (w'.setCell ⟨b,o,none⟩ v) :=
 ⟨h.os,h.tape,h.output,by simp[World.setCell,h.size],fun k hk=>(Below.heap_setCell _ _ _ _ hk).trans (h.block k hk)⟩
theorem Only.below {b B:Nat} {w w' a:World} (h:Only b w w') (hb:B≤b) (g:Below B a w):Below B a w' :=
 g.trans ⟨h.os,h.tape,h.output,by rw[h.size];exact Nat.le_refl _,fun k hk=>h.block k (by omega)⟩
theorem only_cells (b:Nat):∀ (vs:List Value) (o:Nat) (w w':World),Only b w w'→Only b w (w'.setCells b o vs)
 | [],_,_,_,g=>g
 | _::r,o,_,_,g=>only_cells b r (o+1) _ _ (g.setCell o _)
theorem there_new (w:World) (c:Array Value) (t:TypeId):(w.alloc (.cells c t)).there w.heap.size 0 c.size:=fun j hj=>by
 rw[Nat.zero_add];simp[hj]
theorem there_block {w w':World} {b o n:Nat} (h:w.there b o n) (g:w'.heap[b]? = w.heap[b]?):w'.there b o n:=fun j hj=>by
 rw[World.cell?_of_block (w:=w) g,World.frozen?_of_block (w:=w) g];exact h j hj
theorem there_below {w w':World} {b o n B:Nat} (h:w.there b o n) (hb:b<B) (g:Below B w w'):w'.there b o n:=there_block h (g.block b hb)
theorem load_E {ops:Array Oper} {rest:List Oper} {op:Oper} {a:Go.Act} {w:World} {Q:Exit→Go.Act→World→Prop} (hw:Region.wanted op (yielded ops a.tmps)=true) (t:Operand) (ho:op.op=.load 76 t)
 (b o:Nat) (x:Fe) (hx:a.eval t=.pointer (some ⟨b,o,none⟩)) (hB:Be w b o x)
 (h:wpList prog ops Q rest (a.put op.dst (feV x)) w):wpList prog ops Q (op::rest) a w :=
 BigFrame.wpList_want hw fun _ hK=>wp_load_mid 76 t ho b o hx (feC x).toList _ hB underlying76 rfl (infoE x) (hK _ _ h)
theorem store_E {ops:Array Oper} {rest:List Oper} {op:Oper} {a:Go.Act} {w:World} {Q:Exit→Go.Act→World→Prop} (hgd:op.guard=none) (t y:Operand) (ho:op.op=.store 76 t y)
 (b o:Nat) (x:Fe) (hx:a.eval t=.pointer (some ⟨b,o,none⟩)) (hy:a.eval y=feV x) (ht:w.there b o 10)
 (h:∀ V,V=w.setCells b o (feC x).toList→Be V b o x→V.there b o 10→Only b w V→wpList prog ops Q rest (a.put op.dst undef) V):wpList prog ops Q (op::rest) a w :=
 wpList_store_mid hgd 76 t y ho b o (feC x) hx hy ht (hiE x) (oneE x) (h _ rfl (World.rangeAt_setCells_same w b o (feC x).toList ht) (World.there_setCells ht b o _) (only_cells b _ _ _ _ (Only.refl b w)))
def InM (a:Option Addr) (l:List Mt.T) (b:Nat):Prop:=l≠[]∧∃ o,a=some ⟨b,o,none⟩
def InF (x:Fe) (b:Nat):Prop:=InM x.ta x.p.lt b∨InT x.aa x.p.la b∨InT x.aw x.p.lw b
theorem Mt.Ts.stay {w w':World} {a:Option Addr} {l:List Mt.T} (h:Mt.Ts w a l) (hz:w.heap.size≤w'.heap.size) (g:∀ b,InM a l b→b<w.heap.size→w'.heap[b]? = w.heap[b]?):Mt.Ts w' a l:=by
 by_cases he:l=[]
 ·exact .inl he
 rcases h with h|⟨b,o,ha,hb,hc⟩
 ·exact .inl h
 ·exact .inr ⟨b,o,ha,Nat.lt_of_lt_of_le hb hz,fun i hi=>(hc i hi).block (g b ⟨he,o,ha⟩ hb)⟩
theorem Mt.Ts.lt {w:World} {a:Option Addr} {l:List Mt.T} (h:Mt.Ts w a l) {b:Nat} (hb:InM a l b):b<w.heap.size:=by
 obtain⟨hn,o,rfl⟩:=hb;rcases h with h|⟨b',o',ha,hb,hc⟩
 ·exact absurd h hn
 ·cases ha;exact hb
theorem Mt.TsF.new {base:Nat} {w:World} {a:Option Addr} {l:List Mt.T} (h:Mt.TsF base w a l) {b:Nat} (hb:InM a l b):base≤b:=by
 obtain⟨hn,o,rfl⟩:=hb;rcases h with h|⟨g,ha,h0,_⟩
 ·exact absurd h hn
 ·cases ha;exact h0
structure FW (w:World) (x:Fe):Prop where
 t:Mt.Ts w x.ta x.p.lt
 a:Ts w x.aa x.p.la
 w:Ts w x.aw x.p.lw
 nt:x.p.lt.length≤1000
 na:x.p.la.length≤1000
 nw:x.p.lw.length≤1000
 ct:x.p.lt.length≤x.tc
theorem FW.below {w w':World} {x:Fe} (h:FW w x) (g:Below w.heap.size w w'):FW w' x:=⟨h.t.below g,h.a.below g,h.w.below g,h.nt,h.na,h.nw,h.ct⟩
theorem FW.stay {w w':World} {x:Fe} (h:FW w x) (hz:w.heap.size≤w'.heap.size) (g:∀ b,InF x b→b<w.heap.size→w'.heap[b]? = w.heap[b]?):FW w' x :=
 ⟨h.t.stay hz (fun b hb=>g b (.inl hb)),h.a.stay hz (fun b hb=>g b (.inr (.inl hb))),h.w.stay hz (fun b hb=>g b (.inr (.inr hb))),h.nt,h.na,h.nw,h.ct⟩
theorem FW.alloc {w:World} {x:Fe} (h:FW w x) (o:Obj):FW (w.alloc o) x:=h.below (by go_grown)
theorem FW.lt {w:World} {x:Fe} (h:FW w x) {b:Nat} (hb:InF x b):b<w.heap.size:=by
 rcases hb with hb|hb|hb
 ·exact h.t.lt hb
 ·exact h.a.lt hb
 ·exact h.w.lt hb
structure FB (w:World) (x:Fe):Prop where
 t:Mt.Ts w x.ta x.p.lt
 a:Ts w x.aa x.p.la
 w:Ts w x.aw x.p.lw
 nt:x.p.lt.length≤9223372036854775807
 na:x.p.la.length≤9223372036854775807
 nw:x.p.lw.length≤9223372036854775807
 ct:x.p.lt.length≤x.tc
theorem FB.below {w w':World} {x:Fe} (h:FB w x) (g:Below w.heap.size w w'):FB w' x:=⟨h.t.below g,h.a.below g,h.w.below g,h.nt,h.na,h.nw,h.ct⟩
theorem FB.ew {w:World} {x:Fe} (h:FB w x):EW w x.en:=⟨h.a,h.w,h.na,h.nw⟩
theorem FW.fb {w:World} {x:Fe} (h:FW w x):FB w x:=⟨h.t,h.a,h.w,Nat.le_trans h.nt (by decide),Nat.le_trans h.na (by decide),Nat.le_trans h.nw (by decide),h.ct⟩
def flatE (l:List Fe):List Value:=l.flatMap fun x=>(feC x).toList
theorem flatE_cons (x:Fe) (l:List Fe):flatE (x::l)=(feC x).toList++flatE l:=rfl
theorem flatE_length:∀ l:List Fe,(flatE l).length=l.length*10
 | []=>rfl
 | x::l=>by rw[flatE_cons,List.length_append,flatE_length l,List.length_cons];simp;omega
theorem flatE_append (l m:List Fe):flatE (l++m)=flatE l++flatE m:=by simp[flatE]
theorem flatE_at:∀ (l:List Fe) (i:Nat) (h:i<l.length) (j:Nat),j<10→(flatE l)[i*10+j]? = (feC l[i]).toList[j]?
 | x::l,0,_,j,hj=>by
   rw[flatE_cons,List.getElem?_append_left (by simp;omega)];simp
 | x::l,i+1,h,j,hj=>by
   rw[flatE_cons,List.getElem?_append_right (by simp;omega)];have ih:=flatE_at l i (by simpa using h) j hj;rw[show(i+1)*10+j-(feC x).toList.length=i*10+j by simp;omega];simpa using ih
theorem flatE_take:∀ (l:List Fe) (i:Nat),(flatE l).take (i*10)=flatE (l.take i)
 | [],i=>by simp[flatE]
 | x::l,0=>by simp[flatE]
 | x::l,i+1=>by
   rw[flatE_cons,List.take_succ_cons,flatE_cons,List.take_append,List.take_of_length_le (by simp;omega),show(i+1)*10-(feC x).toList.length=i*10 by simp;omega,flatE_take l i]
theorem flatE_drop:∀ (l:List Fe) (i:Nat),(flatE l).drop (i*10)=flatE (l.drop i)
 | [],i=>by simp[flatE]
 | x::l,0=>by simp[flatE]
 | x::l,i+1=>by
   rw[flatE_cons,List.drop_succ_cons,List.drop_append,List.drop_eq_nil_of_le (by simp;omega),show(i+1)*10-(feC x).toList.length=i*10 by simp;omega,flatE_drop l i,List.nil_append]
theorem flatE_one (l:List Fe):∀ u∈flatE l,u.oneCell'=true:=by
 intro u hu;unfold flatE at hu;rw[List.mem_flatMap]at hu;obtain⟨x,_,ht⟩:=hu;have:=oneE x;rw[Array.all_eq_true_iff_forall_mem]at this;exact this u (by simpa using ht)
theorem infoFe:(prog.info? 76).map (fun i=>(i.zero,i.size,i.bytes))=some (some (.agg #[.int .i64 0,.int .i64 0,.slice none 0 0,.slice none 0 0,.slice none 0 0,.bool false,.int .u64 0,.int .u64 0,.int .i64 0,.int .i64 0]),10,128):=by kernel_rfl
abbrev OwnE (base:Nat) (w:World) (v:Value) (l:List Fe):Prop:=w.ownsRow base 76 10 v l.length (flatE l)
theorem OwnE.be {base:Nat} {w:World} {g n cap:Nat} {l:List Fe} (hn:n=l.length) (h:w.ownsRow base 76 10 (.slice (some ⟨g,0,none⟩) n cap) n (flatE l)) (i:Nat) (hi:i<l.length):Be w g (i*10) l[i]:=by
 subst hn;intro j v hv;have hj:j<10:=by
  have:=(List.getElem?_eq_some_iff.1 hv).1;simpa using this
 rw[h.cellAt (i*10+j) (by omega),flatE_at l i hi j hj];exact hv
theorem OwnE.there {base:Nat} {w:World} {g n cap:Nat} {l:List Fe} (hn:n=l.length) (h:w.ownsRow base 76 10 (.slice (some ⟨g,0,none⟩) n cap) n (flatE l)) (i:Nat) (hi:i<l.length):w.there g (i*10) 10:=by
 have hb:=OwnE.be hn h i hi;intro j hj;refine⟨?_,h.frozenAt _⟩;obtain⟨v,hv⟩:∃ v,(feC l[i]).toList[j]? = some v:=⟨(feC l[i]).toList[j]'(by simpa using hj),List.getElem?_eq_getElem _⟩
 rw[hb j v hv];rfl
theorem OwnE.form {base:Nat} {w:World} {v:Value} {l:List Fe} (h:OwnE base w v l) (hn:l≠[]):∃ g cap,v=.slice (some ⟨g,0,none⟩) l.length cap∧base≤g∧g<w.heap.size∧l.length≤cap∧cap≤maxLen:=by
 rcases h.2 with⟨_,h'⟩|⟨g,cap,cur,rfl,hbg,hgg,hnc,hcm,_⟩
 ·exact absurd (List.length_eq_zero_iff.1 h') hn
 ·exact⟨g,cap,rfl,hbg,(h.lt g rfl).2,hnc,hcm⟩
theorem OwnE.form2 {base:Nat} {w:World} {v:Value} {l:List Fe} (h:OwnE base w v l):∃ a cap,v=.slice a l.length cap∧(a=none∧l=[]∧cap=0∨∃ g,a=some ⟨g,0,none⟩∧base≤g∧g<w.heap.size∧l.length≤cap∧cap≤maxLen):=by
 rcases h.2 with⟨rfl,h'⟩|⟨g,cap,cur,rfl,hbg,hgg,hnc,hcm,_⟩
 ·have hl:l=[]:=List.length_eq_zero_iff.1 h';subst hl;exact⟨none,0,rfl,.inl ⟨rfl,rfl,rfl⟩⟩
 ·exact⟨_,cap,rfl,.inr ⟨g,rfl,hbg,(h.lt g rfl).2,hnc,hcm⟩⟩
theorem cells_block:∀ (vs:List Value) (o:Nat) (w:World) (g:Nat) (cur:Array Value) (e:TypeId),w.heap[g]? = some (.cells cur e (0,0))→o+vs.length≤cur.size →
 ∃ cur',(w.setCells g o vs).heap[g]? = some (.cells cur' e (0,0))∧cur'.toList=cur.toList.take o++vs++cur.toList.drop (o+vs.length)
 | [],o,w,g,cur,e,h,_=>⟨cur,h,by simp⟩
 | v::r,o,w,g,cur,e,h,hs=>by
   have h1:=heap_setCell_same w g o cur e v h;obtain⟨cur',h2,h3⟩:=cells_block r (o+1) _ g _ e h1 (by simp at hs ⊢;omega);refine⟨cur',h2,?_⟩;have ho:o<cur.toList.length:=by simp at hs ⊢;omega
   rw[h3,Array.toList_setIfInBounds,List.set_eq_take_append_cons_drop,if_pos ho];have ht:(cur.toList.take o).length=o:=by rw[List.length_take];omega
   rw[List.take_append,List.take_of_length_le (by omega),ht,show o+1-o=1 by omega,List.take_succ_cons,List.take_zero,List.drop_append,List.drop_eq_nil_of_le (by omega),ht,show o+1+r.length-o=r.length+1 by omega,List.drop_succ_cons,List.drop_drop,List.nil_append];simp only[List.length_cons,List.append_assoc,List.cons_append,List.nil_append];rw[show o+1+r.length=o+(r.length+1)by omega]
theorem take_mid {α:Type} (c v:List α) (o n:Nat) (h:o+v.length≤n) (hc:n≤c.length):(c.take o++v++c.drop (o+v.length)).take n=(c.take n).take o++v++(c.take n).drop (o+v.length):=by
 have l1:(c.take o++v).length=o+v.length:=by rw[List.length_append,List.length_take];omega
 rw[List.take_append,List.take_of_length_le (l:=c.take o++v) (by omega),l1,List.take_take,Nat.min_eq_left (by omega),List.drop_take]
theorem OwnE.set {base:Nat} {w:World} {g n cap:Nat} {l:List Fe} (hn:n=l.length) (h:w.ownsRow base 76 10 (.slice (some ⟨g,0,none⟩) n cap) n (flatE l)) (i:Nat) (hi:i<l.length) (y:Fe) :
 (w.setCells g (i*10) (feC y).toList).ownsRow base 76 10 (.slice (some ⟨g,0,none⟩) n cap) n (flatE (l.set i y)):=by
 subst hn;rcases h.2 with⟨h',_⟩|⟨g',cap',cur,h',hb,hg,hnc,hcm,hcs,htake⟩
 ·simp at h'
 simp only[Value.slice.injEq,Option.some.injEq,Addr.mk.injEq,and_true,true_and]at h';obtain⟨rfl,rfl⟩:=h';obtain⟨cur',h1,h2⟩:=cells_block (feC y).toList (i*10) w g cur _ hg (by simp;omega);have hcl:cur.toList.length=cap*10:=by simpa using hcs
 refine⟨by rw[flatE_length];simp,.inr ⟨g,cap,cur',rfl,hb,h1,hnc,hcm,?_,?_⟩⟩
 ·have:=congrArg List.length h2;simp at this;rw[this];omega
 ·rw[h2,List.set_eq_take_append_cons_drop,if_pos hi,flatE_append,flatE_cons,← flatE_take,← flatE_drop,← htake];have e1:(feC y).toList.length=10:=rfl;rw[take_mid cur.toList (feC y).toList (i*10) (l.length*10) (by rw[e1];omega) (by omega),e1,show i*10+10=(i+1)*10 by omega,List.append_assoc]
end Go.Proofs.YtgnihbdcdefdgaaGreatDoor

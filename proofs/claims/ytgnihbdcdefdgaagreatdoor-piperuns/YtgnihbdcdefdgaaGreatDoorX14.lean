import Derived.Test.YtgnihbdcdefdgaaGreatDoorX01
import Derived.Test.YtgnihbdcdefdgaaGreatDoorX13
set_option maxHeartbeats 4000000
set_option maxRecDepth 20000
open Go.ChangeShapes Go.WideShapes Go.ChangeAt Go.RowKit
open Go.Proofs.Tryz
namespace Go.Proofs.YtgnihbdcdefdgaaGreatDoor
theorem bytesOf_any (f:Int) (w:World):Calls prog 237 #[.int .i64 f] w fun e w'=>e=.returned (.int .i64 (szV f))∧w'=w:=by
 have HW:Hid (∀ w,Calls prog 183 #[.int .i64 f] w fun e w'=>e=.returned (.int .i64 (wdV f))∧w'=w):=fun w=>width_any f w;have h:=szV_eq f;have hb:0≤wdV f∧wdV f≤64:=by unfold wdV;(repeat' split)<;>omega
 rw[← h];clear h;generalize wdV f=y at *
 obtain⟨b0,b1⟩:=hb;go_enter func237,ntmps237;go_wp2_with fail;refine(HW.out _).mono ?_;rintro x w1 ⟨rfl,rfl⟩;go_wp2_with fail;go_ret;exact⟨ret_int (by first|rfl|omega),rfl⟩
theorem repeat_list:∀ c:Nat,Lib.repeatL [0] c=List.replicate c (0:UInt8)
 | 0=>rfl
 | c+1=>by rw[Lib.repeatL,repeat_list c];rfl
theorem repeat_any (c:Nat) (w:World) (hc:c≤1000):Calls prog 219 #[.string ⟨#[0]⟩,.int .i64 c] w fun e w'=>e=.returned (.string (zeros c))∧Below w.heap.size w w':=by
 have:=Tryz.strings_Repeat ⟨#[0]⟩ c w (by omega) (by show 1*c≤_;omega);rw[show(⟨#[0]⟩:ByteArray).data.toList=[0]from rfl,repeat_list c]at this;exact this
abbrev setB (c:Int) (n:Nat) (v:Int):ByteArray:=pb 32768 2++pb (2*c) 1++pb (n:Int) 1++pb v n
theorem body_set (f v:Int) (n:Nat) (c:Int) (w:World) (hd:Cd w) (hn:szV f=n) (hn4:n≤8) (hc:codeV f=c) (hc0:0≤c) (hc1:c≤14) (HP:Hid (∀ w,Calls prog 217 #[.int .u64 v,.int .i64 n] w fun e w'=>e=.returned (.string (pb v n))∧Below w.heap.size w w')) :
 Calls prog 218 #[tV (5,f,v)] w fun e w'=>e=.returned (.string (setB c n v))∧Below w.heap.size w w':=by
 have HC:Hid (∀ w,Cd w→Calls prog 223 #[.int .i64 f] w fun e w'=>e=.returned (.int .i64 c)∧Below w.heap.size w w'):=(show ∀ w,_ from fun w h=>hc ▸ codeOf_any f w h)
 have HB:Hid (∀ w,Calls prog 237 #[.int .i64 f] w fun e w'=>e=.returned (.int .i64 n)∧w'=w):=(show ∀ w,_ from fun w=>hn ▸ bytesOf_any f w)
 have H1:Hid (∀ n w,0≤n→n<256→Calls prog 217 #[.int .u64 n,.int .i64 1] w fun e w'=>e=.returned (.string (pb n 1))∧Below w.heap.size w w'):=(show ∀ n w,_ from fun n w h0 h1=>mput1 n w h0 h1)
 have H2:Hid (∀ w,Calls prog 217 #[.int .u64 32768,.int .i64 2] w fun e w'=>e=.returned (.string (pb 32768 2))∧Below w.heap.size w w'):=(show ∀ w,_ from fun w=>mput2 32768 w (by omega) (by omega))
 have HD:Hid (∀ n:GrT (tx w (5,f,v)),Cd n.w):=(show ∀ n:GrT (tx w (5,f,v)),Cd n.w from fun n=>(hd.alloc _).below n.h)
 have q:=C3.gr1 w (5,f,v);have q0:=fun n=>(q n).1;have q1:=fun n=>(q n).2.1;have q2:=fun n=>(q n).2.2;have hps:=pb_size;have hw1:IntKind.u64.wrap (2*c)=2*c:=wraps_u64 _ (by omega) (by omega);have hw2:IntKind.u64.wrap (n:Int)=(n:Int):=wraps_u64 _ (by omega) (by omega);clear q hd hn hc;go_enter func218,ntmps218;go_wp2_with fail;refine(HB.out _).mono ?_;rintro x w1 ⟨rfl,rfl⟩;go_wp2_with fail;refine wp_region_grow (by kernel_rfl) (by kernel_rfl) ?_;repeat (go_big_quiet_step ((first|(go_at_call 223;exact quiet_gr (HC.out _ (HD.out _)))|(go_at_call_of 217 (Value.int IntKind.i64 2);exact quiet_gr (H2.out _))|(go_at_call_of 217 (Value.int IntKind.i64 1);exact quiet_gr (H1.out _ _ (by omega) (by omega)))|(go_at_call 217;exact quiet_gr (HP.out _)))))
 refine wpQuiet_nil ?_;rintro w1 hw';have g1:=gr_elim hw';clear q0 q1 q2 hw';go_wp2_with fail;go_ret;exact⟨rfl,btr (by go_grown) g1 (by simp)⟩
theorem write_1 (f v:Int) (B:ByteArray) (c:Nat) (w:World) (hd:Cd w) (hB:4+B.size+c=16) (HB:Hid (∀ w,Cd w→Calls prog 218 #[tV (1,f,v)] w fun e w'=>e=.returned (.string B)∧Below w.heap.size w w')) :
 Calls prog 182 #[tV (1,f,v)] w fun e w'=>e=.returned (.string (pb 0 2++pb 16 2++B++zeros c))∧Below w.heap.size w w':=by
 have HN:Hid (∀ w,Calls prog 217 #[.int .u64 0,.int .i64 2] w fun e w'=>e=.returned (.string (pb 0 2))∧Below w.heap.size w w'):=(show ∀ w,_ from fun w=>mput2 0 w (by omega) (by omega))
 have HZ:Hid (∀ w,Calls prog 217 #[.int .u64 16,.int .i64 2] w fun e w'=>e=.returned (.string (pb 16 2))∧Below w.heap.size w w'):=(show ∀ w,_ from fun w=>mput2 16 w (by omega) (by omega))
 have HR:Hid (∀ w,Calls prog 219 #[.string ⟨#[0]⟩,.int .i64 c] w fun e w'=>e=.returned (.string (zeros c))∧Below w.heap.size w w'):=(show ∀ w,_ from fun w=>repeat_any c w (by omega))
 have hps:=pb_size;have hBs:B.size≤12:=by omega
 obtain⟨ct,cfr,hk⟩:=hd.kinds;have HD:Hid (Cd w):=hd;have x0:=idk0;have hk':(tx w (1,f,v)).heap[0]? = some (.cells kindsA ct cfr):=by
  have:=((Below.refl _ w).alloc (Nat.le_refl _) (.cells (tC (1,f,v)) 95)).block 0 (by have:=hd.pos;omega);exact this.trans hk
 clear hd hk;go_enter func182,ntmps182;go_wp2_with (refine wpList_load_row rfl 265 (.global 0) rfl 0 rfl ct kindsA cfr _ hk' underlying265 rfl (by kernel_rfl) ?_);clear hk';go_loopw [7] (fun i wr=>∃ j:Int,0≤j∧j≤0∧i=.int .i64 j∧C3 wr w.heap.size 0 (1,f,v)∧w.heap.size<wr.heap.size∧Below w.heap.size w wr) (fun i _=>0-(intOf i).toNat);case atStart=>exact⟨0,by omega,by omega,rfl,C3.new w (1,f,v),by simp,by go_grown⟩
 case round =>
  obtain⟨j,hj0,hj,rfl,hc,hlt,hbel⟩:=hrel;have hj1:j=0:=by omega
  subst hj1;have c0:=hc.1;have HD2:Hid (∀ n:GrT (wr.alloc (.cells #[.int .i64 1,.int .i64 0,.int .i64 16] 264)),Cd n.w):=(show ∀ n:GrT (wr.alloc (.cells #[.int .i64 1,.int .i64 0,.int .i64 16] 264)),Cd n.w from fun n=>((HD.out.below hbel).alloc _).below n.h)
  have q:=C3.gr (W:=(wr.alloc (.cells #[.int .i64 1,.int .i64 0,.int .i64 16] 264))) (hc.below hlt ((Below.refl _ _).alloc (Nat.le_refl _) _)) (by simp;omega);have q0:=fun n=>(q n).1;have q1:=fun n=>(q n).2.1;have q2:=fun n=>(q n).2.2;have k1:∀ n:GrT (wr.alloc (.cells #[.int .i64 1,.int .i64 0,.int .i64 16] 264)),n.w.cell? ⟨wr.heap.size,1,none⟩=some (.int .i64 0):=fun n=>(n.h.cell (p:=⟨wr.heap.size,1,none⟩) (by simp)).trans (by simp);have k2:∀ n:GrT (wr.alloc (.cells #[.int .i64 1,.int .i64 0,.int .i64 16] 264)),n.w.cell? ⟨wr.heap.size,2,none⟩=some (.int .i64 16):=fun n=>(n.h.cell (p:=⟨wr.heap.size,2,none⟩) (by simp)).trans (by simp);clear q;go_wp2_with fail;refine wp_region_grow (by kernel_rfl) (by kernel_rfl) ?_;repeat (go_big_quiet_step ((first|(go_at_call 218;exact quiet_gr (HB.out _ (HD2.out _)))|(go_at_call_of 217 (Value.int IntKind.u64 0);exact quiet_gr (HN.out _))|(go_at_call_of 217 (Value.int IntKind.u64 16);exact quiet_gr (HZ.out _)))))
  refine wpQuiet_nil ?_;rintro w1 hw';have g1:=gr_elim hw';have b1:Below w.heap.size w w1:=btr (hbel.alloc hbel.size _) g1 (Nat.le_refl _);have k3:=k2 none;have k4:=(g1.cell (p:=⟨wr.heap.size,2,none⟩) (by simp)).trans k3;clear q0 q1 q2 k1 k2 k3 hw' HD2 hc hbel g1 c0;have hS:(pb 0 2++pb 16 2++B).size+c=16:=by rw[ByteArray.size_append,ByteArray.size_append,hps,hps];omega
  obtain⟨S,hS0⟩:∃ S,pb 0 2++pb 16 2++B=S:=⟨_,rfl⟩
  rw[hS0]at hS ⊢;have HS0:Hid (pb 0 2++pb 16 2++B=S):=hS0;clear hS0;have hSc:(16:Int)-(S.size:Int)=(c:Int):=by omega
  have hzs:=zeros_size c;go_wp2_with fail;refine(HR.out _).mono ?_;rintro r w2 ⟨rfl,g2⟩;go_wp2_with fail;go_ret;exact⟨by rw[HS0.out];rfl,btr b1 g2 (Nat.le_refl _)⟩
theorem write_2 (f v:Int) (B:ByteArray) (c:Nat) (w:World) (hd:Cd w) (hB:4+B.size+c=8) (HB:Hid (∀ w,Cd w→Calls prog 218 #[tV (2,f,v)] w fun e w'=>e=.returned (.string B)∧Below w.heap.size w w')) :
 Calls prog 182 #[tV (2,f,v)] w fun e w'=>e=.returned (.string (pb 22 2++pb 8 2++B++zeros c))∧Below w.heap.size w w':=by
 have HN:Hid (∀ w,Calls prog 217 #[.int .u64 22,.int .i64 2] w fun e w'=>e=.returned (.string (pb 22 2))∧Below w.heap.size w w'):=(show ∀ w,_ from fun w=>mput2 22 w (by omega) (by omega))
 have HZ:Hid (∀ w,Calls prog 217 #[.int .u64 8,.int .i64 2] w fun e w'=>e=.returned (.string (pb 8 2))∧Below w.heap.size w w'):=(show ∀ w,_ from fun w=>mput2 8 w (by omega) (by omega))
 have HR:Hid (∀ w,Calls prog 219 #[.string ⟨#[0]⟩,.int .i64 c] w fun e w'=>e=.returned (.string (zeros c))∧Below w.heap.size w w'):=(show ∀ w,_ from fun w=>repeat_any c w (by omega))
 have hps:=pb_size;have hBs:B.size≤12:=by omega
 obtain⟨ct,cfr,hk⟩:=hd.kinds;have HD:Hid (Cd w):=hd;have x0:=idk0;have x1:=idk1;have hk':(tx w (2,f,v)).heap[0]? = some (.cells kindsA ct cfr):=by
  have:=((Below.refl _ w).alloc (Nat.le_refl _) (.cells (tC (2,f,v)) 95)).block 0 (by have:=hd.pos;omega);exact this.trans hk
 clear hd hk;go_enter func182,ntmps182;go_wp2_with (refine wpList_load_row rfl 265 (.global 0) rfl 0 rfl ct kindsA cfr _ hk' underlying265 rfl (by kernel_rfl) ?_);clear hk';go_loopw [7] (fun i wr=>∃ j:Int,0≤j∧j≤1∧i=.int .i64 j∧C3 wr w.heap.size 0 (2,f,v)∧w.heap.size<wr.heap.size∧Below w.heap.size w wr) (fun i _=>1-(intOf i).toNat);case atStart=>exact⟨0,by omega,by omega,rfl,C3.new w (2,f,v),by simp,by go_grown⟩
 case round =>
  obtain⟨j,hj0,hj,rfl,hc,hlt,hbel⟩:=hrel;have hcl:j=0∨j=1:=by omega
  rcases hcl with rfl|rfl
  ·have c0:=hc.1;go_wp2_with fail;go_roundw;case rel=>exact⟨1,by omega,by omega,by go_num,hc.below hlt ((Below.refl _ _).alloc (Nat.le_refl _) _),by simp;omega,hbel.alloc hbel.size _⟩
   case measure=>simp[intOf]
  ·have c0:=hc.1;have HD2:Hid (∀ n:GrT (wr.alloc (.cells #[.int .i64 2,.int .i64 22,.int .i64 8] 264)),Cd n.w):=(show ∀ n:GrT (wr.alloc (.cells #[.int .i64 2,.int .i64 22,.int .i64 8] 264)),Cd n.w from fun n=>((HD.out.below hbel).alloc _).below n.h)
   have q:=C3.gr (W:=(wr.alloc (.cells #[.int .i64 2,.int .i64 22,.int .i64 8] 264))) (hc.below hlt ((Below.refl _ _).alloc (Nat.le_refl _) _)) (by simp;omega);have q0:=fun n=>(q n).1;have q1:=fun n=>(q n).2.1;have q2:=fun n=>(q n).2.2;have k1:∀ n:GrT (wr.alloc (.cells #[.int .i64 2,.int .i64 22,.int .i64 8] 264)),n.w.cell? ⟨wr.heap.size,1,none⟩=some (.int .i64 22):=fun n=>(n.h.cell (p:=⟨wr.heap.size,1,none⟩) (by simp)).trans (by simp);have k2:∀ n:GrT (wr.alloc (.cells #[.int .i64 2,.int .i64 22,.int .i64 8] 264)),n.w.cell? ⟨wr.heap.size,2,none⟩=some (.int .i64 8):=fun n=>(n.h.cell (p:=⟨wr.heap.size,2,none⟩) (by simp)).trans (by simp);clear q;go_wp2_with fail;refine wp_region_grow (by kernel_rfl) (by kernel_rfl) ?_;repeat (go_big_quiet_step ((first|(go_at_call 218;exact quiet_gr (HB.out _ (HD2.out _)))|(go_at_call_of 217 (Value.int IntKind.u64 22);exact quiet_gr (HN.out _))|(go_at_call_of 217 (Value.int IntKind.u64 8);exact quiet_gr (HZ.out _)))))
   refine wpQuiet_nil ?_;rintro w1 hw';have g1:=gr_elim hw';have b1:Below w.heap.size w w1:=btr (hbel.alloc hbel.size _) g1 (Nat.le_refl _);have k3:=k2 none;have k4:=(g1.cell (p:=⟨wr.heap.size,2,none⟩) (by simp)).trans k3;clear q0 q1 q2 k1 k2 k3 hw' HD2 hc hbel g1 c0;have hS:(pb 22 2++pb 8 2++B).size+c=8:=by rw[ByteArray.size_append,ByteArray.size_append,hps,hps];omega
   obtain⟨S,hS0⟩:∃ S,pb 22 2++pb 8 2++B=S:=⟨_,rfl⟩
   rw[hS0]at hS ⊢;have HS0:Hid (pb 22 2++pb 8 2++B=S):=hS0;clear hS0;have hSc:(8:Int)-(S.size:Int)=(c:Int):=by omega
   have hzs:=zeros_size c;go_wp2_with fail;refine(HR.out _).mono ?_;rintro r w2 ⟨rfl,g2⟩;go_wp2_with fail;go_ret;exact⟨by rw[HS0.out];rfl,btr b1 g2 (Nat.le_refl _)⟩
theorem write_3 (f v:Int) (B:ByteArray) (c:Nat) (w:World) (hd:Cd w) (hB:4+B.size+c=8) (HB:Hid (∀ w,Cd w→Calls prog 218 #[tV (3,f,v)] w fun e w'=>e=.returned (.string B)∧Below w.heap.size w w')) :
 Calls prog 182 #[tV (3,f,v)] w fun e w'=>e=.returned (.string (pb 17 2++pb 8 2++B++zeros c))∧Below w.heap.size w w':=by
 have HN:Hid (∀ w,Calls prog 217 #[.int .u64 17,.int .i64 2] w fun e w'=>e=.returned (.string (pb 17 2))∧Below w.heap.size w w'):=(show ∀ w,_ from fun w=>mput2 17 w (by omega) (by omega))
 have HZ:Hid (∀ w,Calls prog 217 #[.int .u64 8,.int .i64 2] w fun e w'=>e=.returned (.string (pb 8 2))∧Below w.heap.size w w'):=(show ∀ w,_ from fun w=>mput2 8 w (by omega) (by omega))
 have HR:Hid (∀ w,Calls prog 219 #[.string ⟨#[0]⟩,.int .i64 c] w fun e w'=>e=.returned (.string (zeros c))∧Below w.heap.size w w'):=(show ∀ w,_ from fun w=>repeat_any c w (by omega))
 have hps:=pb_size;have hBs:B.size≤12:=by omega
 obtain⟨ct,cfr,hk⟩:=hd.kinds;have HD:Hid (Cd w):=hd;have x0:=idk0;have x1:=idk1;have x2:=idk2;have hk':(tx w (3,f,v)).heap[0]? = some (.cells kindsA ct cfr):=by
  have:=((Below.refl _ w).alloc (Nat.le_refl _) (.cells (tC (3,f,v)) 95)).block 0 (by have:=hd.pos;omega);exact this.trans hk
 clear hd hk;go_enter func182,ntmps182;go_wp2_with (refine wpList_load_row rfl 265 (.global 0) rfl 0 rfl ct kindsA cfr _ hk' underlying265 rfl (by kernel_rfl) ?_);clear hk';go_loopw [7] (fun i wr=>∃ j:Int,0≤j∧j≤2∧i=.int .i64 j∧C3 wr w.heap.size 0 (3,f,v)∧w.heap.size<wr.heap.size∧Below w.heap.size w wr) (fun i _=>2-(intOf i).toNat);case atStart=>exact⟨0,by omega,by omega,rfl,C3.new w (3,f,v),by simp,by go_grown⟩
 case round =>
  obtain⟨j,hj0,hj,rfl,hc,hlt,hbel⟩:=hrel;have hcl:j=0∨j=1∨j=2:=by omega
  rcases hcl with rfl|rfl|rfl
  ·have c0:=hc.1;go_wp2_with fail;go_roundw;case rel=>exact⟨1,by omega,by omega,by go_num,hc.below hlt ((Below.refl _ _).alloc (Nat.le_refl _) _),by simp;omega,hbel.alloc hbel.size _⟩
   case measure=>simp[intOf]
  ·have c0:=hc.1;go_wp2_with fail;go_roundw;case rel=>exact⟨2,by omega,by omega,by go_num,hc.below hlt ((Below.refl _ _).alloc (Nat.le_refl _) _),by simp;omega,hbel.alloc hbel.size _⟩
   case measure=>simp[intOf]
  ·have c0:=hc.1;have HD2:Hid (∀ n:GrT (wr.alloc (.cells #[.int .i64 3,.int .i64 17,.int .i64 8] 264)),Cd n.w):=(show ∀ n:GrT (wr.alloc (.cells #[.int .i64 3,.int .i64 17,.int .i64 8] 264)),Cd n.w from fun n=>((HD.out.below hbel).alloc _).below n.h)
   have q:=C3.gr (W:=(wr.alloc (.cells #[.int .i64 3,.int .i64 17,.int .i64 8] 264))) (hc.below hlt ((Below.refl _ _).alloc (Nat.le_refl _) _)) (by simp;omega);have q0:=fun n=>(q n).1;have q1:=fun n=>(q n).2.1;have q2:=fun n=>(q n).2.2;have k1:∀ n:GrT (wr.alloc (.cells #[.int .i64 3,.int .i64 17,.int .i64 8] 264)),n.w.cell? ⟨wr.heap.size,1,none⟩=some (.int .i64 17):=fun n=>(n.h.cell (p:=⟨wr.heap.size,1,none⟩) (by simp)).trans (by simp);have k2:∀ n:GrT (wr.alloc (.cells #[.int .i64 3,.int .i64 17,.int .i64 8] 264)),n.w.cell? ⟨wr.heap.size,2,none⟩=some (.int .i64 8):=fun n=>(n.h.cell (p:=⟨wr.heap.size,2,none⟩) (by simp)).trans (by simp);clear q;go_wp2_with fail;refine wp_region_grow (by kernel_rfl) (by kernel_rfl) ?_;repeat (go_big_quiet_step ((first|(go_at_call 218;exact quiet_gr (HB.out _ (HD2.out _)))|(go_at_call_of 217 (Value.int IntKind.u64 17);exact quiet_gr (HN.out _))|(go_at_call_of 217 (Value.int IntKind.u64 8);exact quiet_gr (HZ.out _)))))
   refine wpQuiet_nil ?_;rintro w1 hw';have g1:=gr_elim hw';have b1:Below w.heap.size w w1:=btr (hbel.alloc hbel.size _) g1 (Nat.le_refl _);have k3:=k2 none;have k4:=(g1.cell (p:=⟨wr.heap.size,2,none⟩) (by simp)).trans k3;clear q0 q1 q2 k1 k2 k3 hw' HD2 hc hbel g1 c0;have hS:(pb 17 2++pb 8 2++B).size+c=8:=by rw[ByteArray.size_append,ByteArray.size_append,hps,hps];omega
   obtain⟨S,hS0⟩:∃ S,pb 17 2++pb 8 2++B=S:=⟨_,rfl⟩
   rw[hS0]at hS ⊢;have HS0:Hid (pb 17 2++pb 8 2++B=S):=hS0;clear hS0;have hSc:(8:Int)-(S.size:Int)=(c:Int):=by omega
   have hzs:=zeros_size c;go_wp2_with fail;refine(HR.out _).mono ?_;rintro r w2 ⟨rfl,g2⟩;go_wp2_with fail;go_ret;exact⟨by rw[HS0.out];rfl,btr b1 g2 (Nat.le_refl _)⟩
theorem write_4 (f v:Int) (B:ByteArray) (c:Nat) (w:World) (hd:Cd w) (hB:4+B.size+c=8) (HB:Hid (∀ w,Cd w→Calls prog 218 #[tV (4,f,v)] w fun e w'=>e=.returned (.string B)∧Below w.heap.size w w')) :
 Calls prog 182 #[tV (4,f,v)] w fun e w'=>e=.returned (.string (pb 18 2++pb 8 2++B++zeros c))∧Below w.heap.size w w':=by
 have HN:Hid (∀ w,Calls prog 217 #[.int .u64 18,.int .i64 2] w fun e w'=>e=.returned (.string (pb 18 2))∧Below w.heap.size w w'):=(show ∀ w,_ from fun w=>mput2 18 w (by omega) (by omega))
 have HZ:Hid (∀ w,Calls prog 217 #[.int .u64 8,.int .i64 2] w fun e w'=>e=.returned (.string (pb 8 2))∧Below w.heap.size w w'):=(show ∀ w,_ from fun w=>mput2 8 w (by omega) (by omega))
 have HR:Hid (∀ w,Calls prog 219 #[.string ⟨#[0]⟩,.int .i64 c] w fun e w'=>e=.returned (.string (zeros c))∧Below w.heap.size w w'):=(show ∀ w,_ from fun w=>repeat_any c w (by omega))
 have hps:=pb_size;have hBs:B.size≤12:=by omega
 obtain⟨ct,cfr,hk⟩:=hd.kinds;have HD:Hid (Cd w):=hd;have x0:=idk0;have x1:=idk1;have x2:=idk2;have x3:=idk3;have hk':(tx w (4,f,v)).heap[0]? = some (.cells kindsA ct cfr):=by
  have:=((Below.refl _ w).alloc (Nat.le_refl _) (.cells (tC (4,f,v)) 95)).block 0 (by have:=hd.pos;omega);exact this.trans hk
 clear hd hk;go_enter func182,ntmps182;go_wp2_with (refine wpList_load_row rfl 265 (.global 0) rfl 0 rfl ct kindsA cfr _ hk' underlying265 rfl (by kernel_rfl) ?_);clear hk';go_loopw [7] (fun i wr=>∃ j:Int,0≤j∧j≤3∧i=.int .i64 j∧C3 wr w.heap.size 0 (4,f,v)∧w.heap.size<wr.heap.size∧Below w.heap.size w wr) (fun i _=>3-(intOf i).toNat);case atStart=>exact⟨0,by omega,by omega,rfl,C3.new w (4,f,v),by simp,by go_grown⟩
 case round =>
  obtain⟨j,hj0,hj,rfl,hc,hlt,hbel⟩:=hrel;have hcl:j=0∨j=1∨j=2∨j=3:=by omega
  rcases hcl with rfl|rfl|rfl|rfl
  ·have c0:=hc.1;go_wp2_with fail;go_roundw;case rel=>exact⟨1,by omega,by omega,by go_num,hc.below hlt ((Below.refl _ _).alloc (Nat.le_refl _) _),by simp;omega,hbel.alloc hbel.size _⟩
   case measure=>simp[intOf]
  ·have c0:=hc.1;go_wp2_with fail;go_roundw;case rel=>exact⟨2,by omega,by omega,by go_num,hc.below hlt ((Below.refl _ _).alloc (Nat.le_refl _) _),by simp;omega,hbel.alloc hbel.size _⟩
   case measure=>simp[intOf]
  ·have c0:=hc.1;go_wp2_with fail;go_roundw;case rel=>exact⟨3,by omega,by omega,by go_num,hc.below hlt ((Below.refl _ _).alloc (Nat.le_refl _) _),by simp;omega,hbel.alloc hbel.size _⟩
   case measure=>simp[intOf]
  ·have c0:=hc.1;have HD2:Hid (∀ n:GrT (wr.alloc (.cells #[.int .i64 4,.int .i64 18,.int .i64 8] 264)),Cd n.w):=(show ∀ n:GrT (wr.alloc (.cells #[.int .i64 4,.int .i64 18,.int .i64 8] 264)),Cd n.w from fun n=>((HD.out.below hbel).alloc _).below n.h)
   have q:=C3.gr (W:=(wr.alloc (.cells #[.int .i64 4,.int .i64 18,.int .i64 8] 264))) (hc.below hlt ((Below.refl _ _).alloc (Nat.le_refl _) _)) (by simp;omega);have q0:=fun n=>(q n).1;have q1:=fun n=>(q n).2.1;have q2:=fun n=>(q n).2.2;have k1:∀ n:GrT (wr.alloc (.cells #[.int .i64 4,.int .i64 18,.int .i64 8] 264)),n.w.cell? ⟨wr.heap.size,1,none⟩=some (.int .i64 18):=fun n=>(n.h.cell (p:=⟨wr.heap.size,1,none⟩) (by simp)).trans (by simp);have k2:∀ n:GrT (wr.alloc (.cells #[.int .i64 4,.int .i64 18,.int .i64 8] 264)),n.w.cell? ⟨wr.heap.size,2,none⟩=some (.int .i64 8):=fun n=>(n.h.cell (p:=⟨wr.heap.size,2,none⟩) (by simp)).trans (by simp);clear q;go_wp2_with fail;refine wp_region_grow (by kernel_rfl) (by kernel_rfl) ?_;repeat (go_big_quiet_step ((first|(go_at_call 218;exact quiet_gr (HB.out _ (HD2.out _)))|(go_at_call_of 217 (Value.int IntKind.u64 18);exact quiet_gr (HN.out _))|(go_at_call_of 217 (Value.int IntKind.u64 8);exact quiet_gr (HZ.out _)))))
   refine wpQuiet_nil ?_;rintro w1 hw';have g1:=gr_elim hw';have b1:Below w.heap.size w w1:=btr (hbel.alloc hbel.size _) g1 (Nat.le_refl _);have k3:=k2 none;have k4:=(g1.cell (p:=⟨wr.heap.size,2,none⟩) (by simp)).trans k3;clear q0 q1 q2 k1 k2 k3 hw' HD2 hc hbel g1 c0;have hS:(pb 18 2++pb 8 2++B).size+c=8:=by rw[ByteArray.size_append,ByteArray.size_append,hps,hps];omega
   obtain⟨S,hS0⟩:∃ S,pb 18 2++pb 8 2++B=S:=⟨_,rfl⟩
   rw[hS0]at hS ⊢;have HS0:Hid (pb 18 2++pb 8 2++B=S):=hS0;clear hS0;have hSc:(8:Int)-(S.size:Int)=(c:Int):=by omega
   have hzs:=zeros_size c;go_wp2_with fail;refine(HR.out _).mono ?_;rintro r w2 ⟨rfl,g2⟩;go_wp2_with fail;go_ret;exact⟨by rw[HS0.out];rfl,btr b1 g2 (Nat.le_refl _)⟩
theorem write_5 (f v:Int) (B:ByteArray) (c:Nat) (w:World) (hd:Cd w) (hB:4+B.size+c=16) (HB:Hid (∀ w,Cd w→Calls prog 218 #[tV (5,f,v)] w fun e w'=>e=.returned (.string B)∧Below w.heap.size w w')) :
 Calls prog 182 #[tV (5,f,v)] w fun e w'=>e=.returned (.string (pb 25 2++pb 16 2++B++zeros c))∧Below w.heap.size w w':=by
 have HN:Hid (∀ w,Calls prog 217 #[.int .u64 25,.int .i64 2] w fun e w'=>e=.returned (.string (pb 25 2))∧Below w.heap.size w w'):=(show ∀ w,_ from fun w=>mput2 25 w (by omega) (by omega))
 have HZ:Hid (∀ w,Calls prog 217 #[.int .u64 16,.int .i64 2] w fun e w'=>e=.returned (.string (pb 16 2))∧Below w.heap.size w w'):=(show ∀ w,_ from fun w=>mput2 16 w (by omega) (by omega))
 have HR:Hid (∀ w,Calls prog 219 #[.string ⟨#[0]⟩,.int .i64 c] w fun e w'=>e=.returned (.string (zeros c))∧Below w.heap.size w w'):=(show ∀ w,_ from fun w=>repeat_any c w (by omega))
 have hps:=pb_size;have hBs:B.size≤12:=by omega
 obtain⟨ct,cfr,hk⟩:=hd.kinds;have HD:Hid (Cd w):=hd;have x0:=idk0;have x1:=idk1;have x2:=idk2;have x3:=idk3;have x4:=idk4;have hk':(tx w (5,f,v)).heap[0]? = some (.cells kindsA ct cfr):=by
  have:=((Below.refl _ w).alloc (Nat.le_refl _) (.cells (tC (5,f,v)) 95)).block 0 (by have:=hd.pos;omega);exact this.trans hk
 clear hd hk;go_enter func182,ntmps182;go_wp2_with (refine wpList_load_row rfl 265 (.global 0) rfl 0 rfl ct kindsA cfr _ hk' underlying265 rfl (by kernel_rfl) ?_);clear hk';go_loopw [7] (fun i wr=>∃ j:Int,0≤j∧j≤4∧i=.int .i64 j∧C3 wr w.heap.size 0 (5,f,v)∧w.heap.size<wr.heap.size∧Below w.heap.size w wr) (fun i _=>4-(intOf i).toNat);case atStart=>exact⟨0,by omega,by omega,rfl,C3.new w (5,f,v),by simp,by go_grown⟩
 case round =>
  obtain⟨j,hj0,hj,rfl,hc,hlt,hbel⟩:=hrel;have hcl:j=0∨j=1∨j=2∨j=3∨j=4:=by omega
  rcases hcl with rfl|rfl|rfl|rfl|rfl
  ·have c0:=hc.1;go_wp2_with fail;go_roundw;case rel=>exact⟨1,by omega,by omega,by go_num,hc.below hlt ((Below.refl _ _).alloc (Nat.le_refl _) _),by simp;omega,hbel.alloc hbel.size _⟩
   case measure=>simp[intOf]
  ·have c0:=hc.1;go_wp2_with fail;go_roundw;case rel=>exact⟨2,by omega,by omega,by go_num,hc.below hlt ((Below.refl _ _).alloc (Nat.le_refl _) _),by simp;omega,hbel.alloc hbel.size _⟩
   case measure=>simp[intOf]
  ·have c0:=hc.1;go_wp2_with fail;go_roundw;case rel=>exact⟨3,by omega,by omega,by go_num,hc.below hlt ((Below.refl _ _).alloc (Nat.le_refl _) _),by simp;omega,hbel.alloc hbel.size _⟩
   case measure=>simp[intOf]
  ·have c0:=hc.1;go_wp2_with fail;go_roundw;case rel=>exact⟨4,by omega,by omega,by go_num,hc.below hlt ((Below.refl _ _).alloc (Nat.le_refl _) _),by simp;omega,hbel.alloc hbel.size _⟩
   case measure=>simp[intOf]
  ·have c0:=hc.1;have HD2:Hid (∀ n:GrT (wr.alloc (.cells #[.int .i64 5,.int .i64 25,.int .i64 16] 264)),Cd n.w):=(show ∀ n:GrT (wr.alloc (.cells #[.int .i64 5,.int .i64 25,.int .i64 16] 264)),Cd n.w from fun n=>((HD.out.below hbel).alloc _).below n.h)
   have q:=C3.gr (W:=(wr.alloc (.cells #[.int .i64 5,.int .i64 25,.int .i64 16] 264))) (hc.below hlt ((Below.refl _ _).alloc (Nat.le_refl _) _)) (by simp;omega);have q0:=fun n=>(q n).1;have q1:=fun n=>(q n).2.1;have q2:=fun n=>(q n).2.2;have k1:∀ n:GrT (wr.alloc (.cells #[.int .i64 5,.int .i64 25,.int .i64 16] 264)),n.w.cell? ⟨wr.heap.size,1,none⟩=some (.int .i64 25):=fun n=>(n.h.cell (p:=⟨wr.heap.size,1,none⟩) (by simp)).trans (by simp);have k2:∀ n:GrT (wr.alloc (.cells #[.int .i64 5,.int .i64 25,.int .i64 16] 264)),n.w.cell? ⟨wr.heap.size,2,none⟩=some (.int .i64 16):=fun n=>(n.h.cell (p:=⟨wr.heap.size,2,none⟩) (by simp)).trans (by simp);clear q;go_wp2_with fail;refine wp_region_grow (by kernel_rfl) (by kernel_rfl) ?_;repeat (go_big_quiet_step ((first|(go_at_call 218;exact quiet_gr (HB.out _ (HD2.out _)))|(go_at_call_of 217 (Value.int IntKind.u64 25);exact quiet_gr (HN.out _))|(go_at_call_of 217 (Value.int IntKind.u64 16);exact quiet_gr (HZ.out _)))))
   refine wpQuiet_nil ?_;rintro w1 hw';have g1:=gr_elim hw';have b1:Below w.heap.size w w1:=btr (hbel.alloc hbel.size _) g1 (Nat.le_refl _);have k3:=k2 none;have k4:=(g1.cell (p:=⟨wr.heap.size,2,none⟩) (by simp)).trans k3;clear q0 q1 q2 k1 k2 k3 hw' HD2 hc hbel g1 c0;have hS:(pb 25 2++pb 16 2++B).size+c=16:=by rw[ByteArray.size_append,ByteArray.size_append,hps,hps];omega
   obtain⟨S,hS0⟩:∃ S,pb 25 2++pb 16 2++B=S:=⟨_,rfl⟩
   rw[hS0]at hS ⊢;have HS0:Hid (pb 25 2++pb 16 2++B=S):=hS0;clear hS0;have hSc:(16:Int)-(S.size:Int)=(c:Int):=by omega
   have hzs:=zeros_size c;go_wp2_with fail;refine(HR.out _).mono ?_;rintro r w2 ⟨rfl,g2⟩;go_wp2_with fail;go_ret;exact⟨by rw[HS0.out];rfl,btr b1 g2 (Nat.le_refl _)⟩
theorem body_1 (f v:Int) (w:World) (h0:0≤v) (h1:v<4294967296):Calls prog 218 #[tV (1,f,v)] w fun e w'=>e=.returned (.string (pb v 4++pb 65535 2))∧Below w.heap.size w w':=by
 have H4:Hid (∀ w,Calls prog 217 #[.int .u64 v,.int .i64 4] w fun e w'=>e=.returned (.string (pb v 4))∧Below w.heap.size w w'):=(show ∀ w,_ from fun w=>mput4 v w h0 h1)
 have H2:Hid (∀ w,Calls prog 217 #[.int .u64 65535,.int .i64 2] w fun e w'=>e=.returned (.string (pb 65535 2))∧Below w.heap.size w w'):=(show ∀ w,_ from fun w=>mput2 65535 w (by omega) (by omega))
 have hps:=pb_size;go_enter func218,ntmps218;go_wp2_with fail;refine(H4.out _).mono ?_;rintro x w1 ⟨rfl,g1⟩;go_wp2_with fail;refine(H2.out _).mono ?_;rintro x w2 ⟨rfl,g2⟩;go_wp2_with fail;go_ret;exact⟨rfl,btr (btr (by go_grown) g1 (by simp)) g2 (Nat.le_refl _)⟩
theorem body_2 (f v:Int) (w:World) (h0:0≤v) (h1:v<4294967296):Calls prog 218 #[tV (2,f,v)] w fun e w'=>e=.returned (.string (pb v 4))∧Below w.heap.size w w':=by
 have H4:Hid (∀ w,Calls prog 217 #[.int .u64 v,.int .i64 4] w fun e w'=>e=.returned (.string (pb v 4))∧Below w.heap.size w w'):=(show ∀ w,_ from fun w=>mput4 v w h0 h1)
 go_enter func218,ntmps218;go_wp2_with fail;refine(H4.out _).mono ?_;rintro x w1 ⟨rfl,g1⟩;go_wp2_with fail;go_ret;exact⟨rfl,btr (by go_grown) g1 (by simp)⟩
theorem body_3 (f v:Int) (w:World):Calls prog 218 #[tV (3,f,v)] w fun e w'=>e=.returned (.string (pb 33024 2))∧Below w.heap.size w w':=by
 have H2:Hid (∀ w,Calls prog 217 #[.int .u64 33024,.int .i64 2] w fun e w'=>e=.returned (.string (pb 33024 2))∧Below w.heap.size w w'):=(show ∀ w,_ from fun w=>mput2 33024 w (by omega) (by omega))
 go_enter func218,ntmps218;go_wp2_with fail;refine(H2.out _).mono ?_;rintro x w1 ⟨rfl,g1⟩;go_wp2_with fail;go_ret;exact⟨rfl,btr (by go_grown) g1 (by simp)⟩
theorem body_4 (f v:Int) (w:World):Calls prog 218 #[tV (4,f,v)] w fun e w'=>e=.returned (.string ⟨#[]⟩)∧Below w.heap.size w w':=by
 go_enter func218,ntmps218;go_wp2;go_ret;exact⟨rfl,by go_grown⟩
theorem write_any (a:A) (w:World) (hd:Cd w) (h:rightB a=true):Calls prog 182 #[tV a] w fun e w'=>e=.returned (.string (writeV a))∧Below w.heap.size w w':=by
 have hp:=pb_size;rcases right_cases h with⟨h1,h2,h3,h4⟩|⟨h1,h2,h3,h4⟩|⟨h1,h2,h3⟩|⟨h1,h2,h3⟩|⟨h1,h2,h3,h4⟩
 ·obtain⟨k,f,v⟩:=a;simp only at h1 h2 h3 h4;subst h1;have e:writeV (1,f,v)=pb 0 2++pb 16 2++(pb v 4++pb 65535 2)++zeros 6:=by simp[writeV,bodyV,knV,ksV,ByteArray.size_append,hp]
  rw[e];exact write_1 f v _ 6 w hd (by rw[ByteArray.size_append,hp,hp]) (show ∀ w,_ from fun w _=>body_1 f v w (by omega) (by omega))
 ·obtain⟨k,f,v⟩:=a;simp only at h1 h2 h3 h4;subst h1;have e:writeV (2,f,v)=pb 22 2++pb 8 2++pb v 4++zeros 0:=by simp[writeV,bodyV,knV,ksV,hp]
  rw[e];exact write_2 f v _ 0 w hd (by rw[hp]) (show ∀ w,_ from fun w _=>body_2 f v w (by omega) (by omega))
 ·obtain⟨k,f,v⟩:=a;simp only at h1;subst h1;have e:writeV (3,f,v)=pb 17 2++pb 8 2++pb 33024 2++zeros 2:=by simp[writeV,bodyV,knV,ksV,hp]
  rw[e];exact write_3 f v _ 2 w hd (by rw[hp]) (show ∀ w,_ from fun w _=>body_3 f v w)
 ·obtain⟨k,f,v⟩:=a;simp only at h1;subst h1;have e0:(⟨#[]⟩:ByteArray).size=0:=rfl;have e:writeV (4,f,v)=pb 18 2++pb 8 2++⟨#[]⟩++zeros 4:=by simp[writeV,bodyV,knV,ksV,e0]
  rw[e];exact write_4 f v _ 4 w hd (by rw[e0]) (show ∀ w,_ from fun w _=>body_4 f v w)
 ·obtain⟨k,f,v⟩:=a;simp only at h1 h2 h3 h4;subst h1;have hf : ¬ (f<1∨9<f):=by omega
  have hv0:0≤v:=by unfold leastV at h3;split at h3<;>omega
  have hsz:=szV_le f;have hs4:szV f≤4:=by rcases h2 with rfl|rfl|rfl|rfl|rfl<;>decide
  have hc:0≤codeV f∧codeV f≤14:=by unfold codeV;(repeat' split)<;>omega
  have e:writeV (5,f,v)=pb 25 2++pb 16 2++setB (codeV f) (szV f) v++zeros (8-szV f):=by
   simp only[writeV,bodyV,knV,ksV];simp[ByteArray.size_append,hp];congr 1;omega
  rw[e];exact write_5 f v _ (8-szV f) w hd (by simp only[ByteArray.size_append,hp];omega) (show ∀ w,_ from fun w hd'=>body_set f v (szV f) (codeV f) w hd' rfl hsz rfl hc.1 hc.2 (show ∀ w,_ from fun w=>mput_any v f w hf hv0 h4))
theorem all_snoc (l:List A) (k:Nat) (h:k<l.length):allB (l.take (k+1))=(allB (l.take k)&&rightB l[k]):=by
 unfold allB;rw[take_snoc_get l k h,List.all_append,List.all_cons,List.all_nil,Bool.and_true]
theorem allRight_any (a:Option Addr) (l:List A) (cap:Nat) (w:World) (h:Ts w a l) (hl:l.length≤9223372036854775807) (hd:Cd w) :
 Calls prog 181 #[.slice a l.length cap] w fun e w'=>e=.returned (.bool (allB l))∧Below w.heap.size w w':=by
 have HR:Hid (∀ x w,Cd w→Calls prog 140 #[tV x] w fun e w'=>e=.returned (.bool (rightB x))∧Below w.heap.size w w'):=(show ∀ x w,_ from fun x w h=>right_any x w h)
 have HD:Hid (Cd w):=hd;clear hd;go_enter func181,ntmps181;go_wp2_with fail;go_loopw [7] (fun i wr=>∃ k:Nat,k≤l.length∧i=.int .i64 k∧allB (l.take k)=true∧Below w.heap.size w wr) (fun i _=>l.length-(intOf i).toNat);case atStart=>exact⟨0,Nat.zero_le _,rfl,by simp[allB],Below.refl _ _⟩
 case round =>
  obtain⟨k,hk,rfl,ha,hbel⟩:=hrel;by_cases hlt:k<l.length
  ·have hT:=h.below hbel;obtain⟨g,o,rfl,hg,hc⟩:=hT.at hlt;obtain⟨c0,c1,c2⟩:=hc k hlt;have hs:=all_snoc l k hlt;rw[ha,Bool.true_and]at hs;have HE:Hid (rightB l[k]=false→allB l=false):=(show rightB l[k]=false→allB l=false from fun hf=>by
    unfold allB;rw[List.all_eq_false];exact⟨l[k],List.getElem_mem hlt,by simp[hf]⟩)
   have HS:Hid (allB (l.take (k+1))=rightB l[k]):=hs;have HDr:=HD.out.below hbel;clear hs ha hc hT;generalize l[k]=X at *
   cases hb:rightB X with
   | true =>
     go_wp2_with fail;refine(HR.out _ _ (HDr.alloc _)).mono ?_;rintro r w1 ⟨rfl,g1⟩;rw[hb];have b1:Below w.heap.size w w1:=btr (hbel.alloc hbel.size _) g1 (Nat.le_refl _);go_wp2_with fail;go_roundw;case rel=>exact⟨k+1,by omega,by go_num,by rw[HS.out,hb],b1⟩
     case measure=>simp[intOf];omega
   | false =>
     go_wp2_with fail;refine(HR.out _ _ (HDr.alloc _)).mono ?_;rintro r w1 ⟨rfl,g1⟩;rw[hb];have b1:Below w.heap.size w w1:=btr (hbel.alloc hbel.size _) g1 (Nat.le_refl _);go_wp2_with fail;go_ret;exact⟨by rw[HE.out hb];rfl,b1⟩
  ·have hk':k=l.length:=by omega
   subst hk';rw[List.take_length]at ha;go_wp2_with fail;go_ret;exact⟨by rw[ha];rfl,hbel⟩
theorem encL_append (l m:List A):encL (l++m)=encL l++encL m:=by
 induction l with
 | nil=>apply ba_ext;simp[encL]
 | cons x t ih =>
   show writeV x++encL (t++m)=writeV x++encL t++encL m;rw[ih,ap_assoc]
theorem encL_one (x:A):encL [x]=writeV x:=by apply ba_ext;simp[encL]
theorem encL_snoc (l:List A) (k:Nat) (h:k<l.length):encL (l.take (k+1))=encL (l.take k)++writeV l[k]:=by
 rw[take_snoc_get l k h,encL_append,encL_one]
theorem write_size {a:A} (h:rightB a=true):(writeV a).size≤16:=by
 rw[encS_len1 a h];unfold ksV;split<;>omega
theorem all_get {l:List A} (h:allB l=true) {k:Nat} (hk:k<l.length):rightB l[k]=true:=by
 unfold allB at h;rw[List.all_eq_true]at h;exact h _ (List.getElem_mem hk)
theorem encode_any (a:Option Addr) (l:List A) (cap:Nat) (w:World) (h:Ts w a l) (hl:l.length≤9223372036854775807) (hd:Cd w) :
 Calls prog 130 #[.slice a l.length cap] w fun e w'=>e=.returned (.tuple #[.string (encodeS l),.int .i64 (encodeE l)])∧Below w.heap.size w w':=by
 have HA:Hid (Calls prog 181 #[.slice a l.length cap] w fun e w'=>e=.returned (.bool (allB l))∧Below w.heap.size w w'):=allRight_any a l cap w h hl hd;have HW:Hid (∀ x w,Cd w→rightB x=true→Calls prog 182 #[tV x] w fun e w'=>e=.returned (.string (writeV x))∧Below w.heap.size w w'):=(show ∀ x w,_ from fun x w h1 h2=>write_any x w h1 h2)
 have HD:Hid (Cd w):=hd;clear hd;cases hb:allB l with
 | false =>
   have e1:encodeE l=22:=by unfold encodeE;rw[hb];simp
   have e2:encodeS l=⟨#[]⟩:=by unfold encodeS;rw[e1];simp
   rw[e1,e2];rw[hb]at HA;go_enter func130,ntmps130;go_wp2_with fail;refine HA.out.mono ?_;rintro r w1 ⟨rfl,g1⟩;go_wp2_with fail;go_ret2
   exact⟨rfl,g1⟩
 | true =>
   rw[hb]at HA;by_cases h32:l.length≤32
   ·have e1:encodeE l=0:=by unfold encodeE;rw[hb];simp[h32]
    have e2:encodeS l=encL l:=by unfold encodeS;rw[e1];simp
    rw[e1,e2];have z1 : ¬ (32:Int)<(l.length:Int):=by omega
    have HB:Hid (allB l=true):=hb;clear e1 e2 hb;go_enter func130,ntmps130;go_wp2_with fail;refine HA.out.mono ?_;rintro r w1 ⟨rfl,g1⟩;go_wp2_with fail;go_loopw [4,17] (fun v i wr=>∃ (k:Nat) (s:ByteArray),k≤l.length∧i=.int .i64 k∧v=.string s∧Hid (s=encL (l.take k))∧s.size≤16*k∧Below w.heap.size w wr) (fun _ i _=>l.length-(intOf i).toNat);case atStart=>exact⟨0,⟨#[]⟩,Nat.zero_le _,rfl,rfl,(show _=_ from rfl),by simp[ByteArray.size],g1⟩
    case round =>
     obtain⟨k,s,hk,rfl,rfl,HS,hsz,hbel⟩:=hrel;by_cases hlt:k<l.length
     ·have hT:=h.below hbel;obtain⟨g,o,rfl,hg,hc⟩:=hT.at hlt;obtain⟨c0,c1,c2⟩:=hc k hlt;have HN:Hid (encL (l.take (k+1))=encL (l.take k)++writeV l[k]):=encL_snoc l k hlt;have hr:=all_get HB.out hlt;have hws:=write_size hr;have HDr:=HD.out.below hbel;have HRX:Hid (rightB l[k]=true):=hr;clear hc hT hr;generalize l[k]=X at *
      go_wp2_with fail;refine(HW.out _ _ (HDr.alloc _) HRX.out).mono ?_;rintro r w2 ⟨rfl,g2⟩;have b2:Below w.heap.size w w2:=btr (hbel.alloc hbel.size _) g2 (Nat.le_refl _);go_wp2_with fail;go_roundw;case rel=>exact⟨k+1,s++writeV X,by omega,by go_num,rfl,(show _=_ by rw[HN.out,HS.out]),by rw[ByteArray.size_append];omega,b2⟩
      case measure=>simp[intOf];omega
     ·have hk':k=l.length:=by omega
      subst hk';have e:=HS.out;rw[List.take_length]at e;subst e;go_wp2_with fail;go_ret2
      exact⟨rfl,hbel⟩
   ·have e1:encodeE l=44:=by unfold encodeE;rw[hb];simp[h32]
    have e2:encodeS l=⟨#[]⟩:=by unfold encodeS;rw[e1];simp
    rw[e1,e2];have z1:(32:Int)<(l.length:Int):=by omega
    clear e1 e2 hb;go_enter func130,ntmps130;go_wp2_with fail;refine HA.out.mono ?_;rintro r w1 ⟨rfl,g1⟩;go_wp2_with fail;go_ret2
    exact⟨rfl,g1⟩
end Go.Proofs.YtgnihbdcdefdgaaGreatDoor

import Derived.Test.YtgnihbdcdefdgaaGreatDoorX11
import Derived.Test.YtgnihbdcdefdgaaGreatDoorX12
set_option maxRecDepth 20000
set_option maxHeartbeats 4000000
open Go.ChangeShapes Go.WideShapes Go.ChangeAt Go.RowKit
open Go.Proofs.Tryz
namespace Go.Proofs.YtgnihbdcdefdgaaGreatDoor
namespace Fr
theorem pieces_at:∀ (k:Nat) (n:Int) (j:Nat),j<k→(pieces n k)[j]? = some (n/2 ^ (8*(k-1-j)) % 256)
 | 0,_,_,h=>absurd h (Nat.not_lt_zero _)
 | k+1,n,j,h=>by
   by_cases hj:j<k
   ·rw[pieces,List.getElem?_append_left (by rw[pieces_length];exact hj),pieces_at k (n/256) j hj];have e:k+1-1-j=(k-1-j)+1:=by omega
    rw[e,Int.ediv_ediv_of_nonneg (by omega)];have e2:8*(k-1-j+1)=8+8*(k-1-j):=by omega
    rw[e2,Int.pow_add];rfl
   ·have:j=k:=by omega
    subst this;rw[pieces,List.getElem?_append_right (by rw[pieces_length];exact Nat.le_refl _),pieces_length];simp
theorem pieces_take (k:Nat) (n:Int) (j:Nat) (h:j<k):(pieces n k).take (j+1)=(pieces n k).take j++[n/2 ^ (8*(k-1-j)) % 256]:=by
 rw[List.take_add_one,pieces_at k n j h];rfl
theorem cv_own (w:World) (base:Nat) (v:Value) (k:Nat) (xs:List Int) (hk:1≤k) (h:w.ownsRow base 5 1 v k (xs.map (Value.int .u8))) :
 ∃ g cap,v=.slice (some ⟨g,0,none⟩) k cap∧(convert 254 9 (.slice (some ⟨g,0,none⟩) k cap)).run prog w=.ok (.string (strOfNums xs)) w:=by
 have hl:=h.1;rcases h.2 with⟨_,h'⟩|⟨g,cap,cur,rfl,_⟩
 ·omega
 ·refine⟨g,cap,rfl,run_convert_bytes_arg w 254 5 underlying254 underlying5 g 0 k cap xs (by simpa using hl) (fun i hi => ?_) 9 underlying9⟩;rw[Nat.zero_add,h.cellAt i (by omega)];have hi':i<xs.length:=by simp at hl;omega
  simp[List.getElem?_eq_getElem hi']
theorem rput_any (n:Int) (k:Nat) (w:World) (hk1:1≤k) (hk8:k≤8) (_:0≤n) (h1:n<18446744073709551616) :
 Calls prog 161 #[.int .u64 n,.int .i64 k] w fun e w'=>e=.returned (.string (pb n k))∧Below w.heap.size w w':=by
 obtain⟨i0,hi,hz0,hz1,hz2⟩:=info_parts Tryz.info5;have H1:Hid (n<18446744073709551616):=h1;clear h1;go_enter func161,ntmps161;go_wp2
 go_loopw [5,6] (fun v i wr=>∃ j:Nat,j≤k∧i=.int .i64 ((k:Int)-1-j)∧wr.ownsRow w.heap.size 5 1 v j (((pieces n k).take j).map (Value.int .u8))∧Below w.heap.size w wr)
  (fun _ i _=>(1+intOf i).toNat)
 case atStart=>exact⟨0,Nat.zero_le _,by simp,World.ownsRow_nil _ _ _ _,Below.refl _ _⟩
 case round =>
  obtain⟨j,hj,rfl,hown,hbel⟩:=hrel;by_cases hlt:j<k
  ·go_wp2_with (at_builtin;refine wpList_append_own _ rfl _ _ 254 rfl (w.heap.size) 5 i0 (.int .u8 0) 1 1 underlying254 hi hz0 hz1 hz2 rfl (by decide) _ _ _ rfl (hown.alloc _) ⟨wr.heap.size,0,none⟩ 1 1 [.int .u8 (n/2 ^ (8*(k-1-j)) % 256)] rfl rfl ?c1 ?c2 ?c3 ?c4 ?c5 ?_);case c1 =>
    intro j u hj;match j,hj with
    | 0,hj=>simp at hj;subst hj;simp[Addr.add]
   case c2=>intro u hu;simp at hu;subst hu;rfl
   case c3=>unfold maxLen;omega
   case c4=>omega
   case c5=>have:=hbel.size;simp;omega
   ·intro v' w1 hown' hgrow _;have R1:w1.ownsRow w.heap.size 5 1 v' (j+1) (((pieces n k).take (j+1)).map (Value.int .u8)):=by
     rw[pieces_take k n j hlt];simpa using hown'
    have R2:Below w.heap.size w w1:=(hbel.alloc hbel.size _).grown hgrow (by have:=hbel.size;simp;omega) (fun q hq=>(hown.lt q hq).1);clear hown' hgrow hown hbel;go_wp2;go_roundw;case rel=>exact⟨j+1,by omega,by go_num,R1,R2⟩
    case measure=>simp[intOf];omega
  ·obtain rfl:j=k:=by omega
   rw[List.take_of_length_le (by rw[pieces_length];exact Nat.le_refl _)]at hown;obtain⟨g,cap,rfl,hcv⟩:=cv_own wr _ _ _ _ hk1 hown;clear hown;go_wp2;go_ret;exact⟨rfl,hbel⟩
theorem refRound_any (n:Nat) (w:World) (h:n<2 ^ 62) :
 Calls prog 207 #[.int .i64 n] w fun x w'=>x=.returned (.int .i64 (rnd n))∧w'=w:=by
 go_enter func207,ntmps207;go_wp2;go_loop [0] (fun v=>∃ k:Nat,(k:Int)<4611686018427387904∧rnd k=rnd n∧v=.int .i64 k) (fun v=>(intOf v).toNat);case atStart=>exact⟨n,by omega,rfl,rfl⟩
 case round =>
  obtain⟨k,hk,hr,rfl⟩:=hrel;by_cases hlt:(65536:Int)≤(k:Int)
  ·go_wp2;go_round;case rel=>exact⟨k % 65536+k/65536,by omega,by rw[rnd_step k (by omega),hr],by go_num⟩
   case measure=>simp only[intOf];omega
  ·go_wp2;go_ret;exact⟨ret_int (by rw[← hr,rnd_small k (by omega)]),rfl⟩
theorem refSum_any (s:ByteArray) (w:World) (hs:s.size≤1000000) :
 Calls prog 159 #[.string s] w fun x w'=>x=.returned (.int .i64 (sumV s.data.toList))∧w'=w:=by
 go_enter func159,ntmps159;go_wp2;go_loop [3,4] (fun n i=>∃ k:Nat,k≤s.size+1∧k % 2=0∧i=.int .i64 k∧n=.int .i64 (rnd (psum true (s.data.toList.take k)))) (fun _ i=>s.size+1-(intOf i).toNat);case atStart=>exact⟨0,Nat.zero_le _,rfl,rfl,rfl⟩
 case round =>
  obtain⟨k,hk,he,rfl,rfl⟩:=hrel;have HR:=rnd_le (psum true (s.data.toList.take k));by_cases hlt:k<s.size
  ·have HS:Hid (psum true (s.data.toList.take (k+1))=psum true (s.data.toList.take k)+256*s[k].toNat):=by
    have h:=psum_take s k hlt;rw[if_pos he]at h;exact h
   have hc:=s[k].toNat_lt;by_cases hl2:k+1<s.size
   ·have HT:Hid (psum true (s.data.toList.take (k+2))=psum true (s.data.toList.take (k+1))+s[k+1].toNat):=by
     have h:=psum_take s (k+1) hl2;rw[if_neg (by omega)]at h;exact h
    have hd:=s[k+1].toNat_lt;have E:Hid (rnd (rnd (psum true (s.data.toList.take k))+256*s[k].toNat+s[k+1].toNat)=rnd (psum true (s.data.toList.take (k+2)))):=by
     unfold Hid;rw[HT.out,HS.out,Nat.add_assoc,Nat.add_assoc,rnd_left]
    go_wp2_with fail;rw[show((rnd (psum true (List.take k s.data.toList)):Int)+256*(s[k].toNat:Int)+(s[k+1].toNat:Int))=((rnd (psum true (s.data.toList.take k))+256*s[k].toNat+s[k+1].toNat:Nat):Int)by omega];refine(refRound_any _ _ (by omega)).mono ?_;rintro x w1 ⟨rfl,rfl⟩;go_wp2_with fail;go_round;case rel=>exact⟨k+2,by omega,by omega,by go_num,by rw[E.out]⟩
    case measure=>simp[intOf];omega
   ·have E:Hid (rnd (rnd (psum true (s.data.toList.take k))+256*s[k].toNat)=rnd (psum true (s.data.toList.take (k+2)))):=by
     unfold Hid;have q:s.data.toList.take (k+2)=s.data.toList.take (k+1):=by
      rw[List.take_of_length_le (by simp;omega),List.take_of_length_le (by simp;omega)]
     rw[q,HS.out,rnd_left]
    go_wp2_with fail;rw[show((rnd (psum true (List.take k s.data.toList)):Int)+256*(s[k].toNat:Int))=((rnd (psum true (s.data.toList.take k))+256*s[k].toNat:Nat):Int)by omega];refine(refRound_any _ _ (by omega)).mono ?_;rintro x w1 ⟨rfl,rfl⟩;go_wp2_with fail;go_round;case rel=>exact⟨k+2,by omega,by omega,by go_num,by rw[E.out]⟩
    case measure=>simp[intOf];omega
  ·go_wp2;go_ret;have e:=sumV_eq s.data.toList;rw[List.take_of_length_le (by simp;omega)];exact⟨ret_int e,rfl⟩
theorem rin_any (n lo hi:Int) (w:World) :
 Calls prog 156 #[.int .i64 n,.int .i64 lo,.int .i64 hi] w fun x w'=>x=.returned (.bool (inB n lo hi))∧w'=w:=by
 unfold inB;by_cases h1:lo≤n<;>by_cases h2:n≤hi <;>
 ·go_enter func156,ntmps156;go_wp2;go_ret;simp[h1,h2]
theorem rported_any (p:Pk) (w:World) :
 Calls prog 157 #[pkV p] w fun x w'=>x=.returned (.bool (hasB p))∧Below w.heap.size w w':=by
 go_enter func157,ntmps157;go_wp2
 ·go_ret;exact⟨ret_bool (by simp[hasB, *]),by go_grown⟩
 ·go_ret;exact⟨ret_bool (by simp[hasB, *]),by go_grown⟩
theorem ret_str {a b:ByteArray} (h:a=b):Ending.returned (.string a)=.returned (.string b):=by rw[h]
theorem rp1 (n:Int) (w:World) (h0:0≤n) (h1:n<18446744073709551616):Calls prog 161 #[.int .u64 n,.int .i64 1] w fun e w'=>e=.returned (.string (pb n 1))∧Below w.heap.size w w':=rput_any n 1 w (by omega) (by omega) h0 h1
theorem rp2 (n:Int) (w:World) (h0:0≤n) (h1:n<18446744073709551616):Calls prog 161 #[.int .u64 n,.int .i64 2] w fun e w'=>e=.returned (.string (pb n 2))∧Below w.heap.size w w':=rput_any n 2 w (by omega) (by omega) h0 h1
theorem rp4 (n:Int) (w:World) (h0:0≤n) (h1:n<18446744073709551616):Calls prog 161 #[.int .u64 n,.int .i64 4] w fun e w'=>e=.returned (.string (pb n 4))∧Below w.heap.size w w':=rput_any n 4 w (by omega) (by omega) h0 h1
theorem rp6 (n:Int) (w:World) (h0:0≤n) (h1:n<18446744073709551616):Calls prog 161 #[.int .u64 n,.int .i64 6] w fun e w'=>e=.returned (.string (pb n 6))∧Below w.heap.size w w':=rput_any n 6 w (by omega) (by omega) h0 h1
theorem ap_as (a b c:ByteArray):a++b++c=a++(b++c):=by
 have e:∀ x y:ByteArray,x.data.toList=y.data.toList→x=y:=fun x y h=>by cases x;cases y;simpa using h
 apply e;simp
def headN (p:Pk) (n c:Int):ByteArray:=kBegin++pb n 2++kMark++pb p.life 1++pb p.pro 1++pb c 2++pb p.src 4++pb p.dst 4
theorem headN_eq (p:Pk) (c:Int):headN p (20+(partZ p:Int)) c=headV p c:=by unfold headN headV addrV;simp only[ap_as]
theorem headN_size (p:Pk) (n c:Int):(headN p n c).size=20:=by simp only[headN,ByteArray.size_append,pb_size,kBegin_size,kMark_size]
theorem rhead_any (p:Pk) (n c:Int) (w:World) (h:Ok p) (n0:0≤n) (n1:n≤65535) (c0:0≤c) (c1:c≤65535) :
 Calls prog 160 #[pkV p,.int .i64 n,.int .i64 c] w fun x w'=>x=.returned (.string (headN p n c))∧Below w.heap.size w w':=by
 have hz:∀ n k,(pb n k).size=k:=pb_size;have hl0:=h.life0;have hl1:=h.life1;have hp0:=h.pro0;have hp1:=h.pro1;have s0:=h.src0;have s1:=h.src1;have d0:=h.dst0;have d1:=h.dst1;clear h;go_enter func160,ntmps160;go_wp2;have hc:∀ n:GrT (bx w p),Bx n.w w.heap.size p:=fun n=>(Bx.new w p).below (by simp) n.h;refine wp_region_grow (by kernel_rfl) (by kernel_rfl) ?_
 repeat (go_big_quiet_step (first
  | (go_at_call_of 161 (Value.int IntKind.i64 2);exact quiet_gr (rp2 _ _ (by omega) (by omega)))
  | (go_at_call_of 161 (Value.int IntKind.i64 1);exact quiet_gr (rp1 _ _ (by omega) (by omega)))
  | (go_at_call_of 161 (Value.int IntKind.i64 4);exact quiet_gr (rp4 _ _ (by omega) (by omega)))))
 refine wpQuiet_nil ?_;rintro w1 hw';have g1:=gr_elim hw';clear hw';go_wp2;go_ret;exact⟨rfl,btr (by go_grown) g1 (by simp)⟩
theorem partZ_17 (p:Pk) (h:p.pro=17):(partZ p:Int)=8+(p.data.size:Int):=by unfold partZ partA;rw[if_neg (by omega),if_pos h];omega
theorem rpart_any (p:Pk) (c:Int) (w:World) (h:Ok p) (c0:0≤c) (c1:c≤65535) :
 Calls prog 158 #[pkV p,.int .i64 c] w fun x w'=>x=.returned (.string (partV p c))∧Below w.heap.size w w':=by
 have hz:∀ n k,(pb n k).size=k:=pb_size;have s0:=h.sp0;have s1:=h.sp1;have d0:=h.dp0;have d1:=h.dp1;have hd:(p.data.size:Int)≤3000:=by have:=h.sz;omega
 clear h;unfold partV;by_cases h17:p.pro=17
 ·rw[if_neg (by omega),if_pos h17,partZ_17 p h17];have b17:(p.pro==17)=true:=by simp[h17]
  clear h17;go_enter func158,ntmps158;go_wp2;have hc:∀ n:GrT (bx w p),Bx n.w w.heap.size p:=fun n=>(Bx.new w p).below (by simp) n.h;refine wp_region_grow (by kernel_rfl) (by kernel_rfl) ?_;repeat (go_big_quiet_step (first|(go_at_call 161;exact quiet_gr (rp2 _ _ (by omega) (by omega)))))
  refine wpQuiet_nil ?_;rintro w1 hw';have g1:=gr_elim hw';have HB:Hid (Bx w1 w.heap.size p):=(Bx.new w p).below (by simp) g1;have hl:w.heap.size<w1.heap.size:=Nat.lt_of_lt_of_le (by simp) g1.size;clear hw' hc;obtain⟨h0,h1,h2,h3,h4,h5,h6,h7,h8,h9,h10⟩:=HB.out;go_wp2_with fail;clear h0 h1 h2 h3 h4 h5 h6 h7 h8 h9 h10;have hc:∀ n:GrT w1,Bx n.w w.heap.size p:=fun n=>HB.out.below hl n.h;refine wp_region_grow (by kernel_rfl) (by kernel_rfl) ?_;repeat (go_big_quiet_step (first|(go_at_call 161;exact quiet_gr (rp2 _ _ (by omega) (by omega)))))
  refine wpQuiet_nil ?_;rintro w2 hw';have g2:=gr_elim hw';clear hw';go_wp2;go_ret;exact⟨rfl,btr (btr (by go_grown) g1 (by simp)) g2 (Nat.le_refl _)⟩
 have b17:(p.pro==17)=false:=by simp[h17]
 by_cases h6:p.pro=6
 ·rw[if_pos h6];have b6:(p.pro==6)=true:=by simp[h6]
  clear h17 h6;go_enter func158,ntmps158;go_wp2;have hc:∀ n:GrT (bx w p),Bx n.w w.heap.size p:=fun n=>(Bx.new w p).below (by simp) n.h;refine wp_region_grow (by kernel_rfl) (by kernel_rfl) ?_;repeat (go_big_quiet_step (first|(go_at_call 161;exact quiet_gr (rp2 _ _ (by omega) (by omega)))))
  refine wpQuiet_nil ?_;rintro w1 hw';have g1:=gr_elim hw';have HB:Hid (Bx w1 w.heap.size p):=(Bx.new w p).below (by simp) g1;have hl:w.heap.size<w1.heap.size:=Nat.lt_of_lt_of_le (by simp) g1.size;clear hw' hc;obtain⟨h0,h1,h2,h3,h4,h5,h6,h7,h8,h9,h10⟩:=HB.out;go_wp2_with fail;clear h0 h1 h2 h3 h4 h5 h6 h7 h8 h9 h10;have hc:∀ n:GrT w1,Bx n.w w.heap.size p:=fun n=>HB.out.below hl n.h;refine wp_region_grow (by kernel_rfl) (by kernel_rfl) ?_;repeat (go_big_quiet_step (first|(go_at_call 161;exact quiet_gr (rp2 _ _ (by omega) (by omega)))))
  refine wpQuiet_nil ?_;rintro w2 hw';have g2:=gr_elim hw';clear hw';go_wp2;go_ret;exact⟨rfl,btr (btr (by go_grown) g1 (by simp)) g2 (Nat.le_refl _)⟩
 ·rw[if_neg h6,if_neg h17];have b6:(p.pro==6)=false:=by simp[h6]
  clear h17 h6;go_enter func158,ntmps158;go_wp2;have hc:∀ n:GrT (bx w p),Bx n.w w.heap.size p:=fun n=>(Bx.new w p).below (by simp) n.h;refine wp_region_grow (by kernel_rfl) (by kernel_rfl) ?_;repeat (go_big_quiet_step (first|(go_at_call 161;exact quiet_gr (rp2 _ _ (by omega) (by omega)))))
  refine wpQuiet_nil ?_;rintro w1 hw';have g1:=gr_elim hw';have HB:Hid (Bx w1 w.heap.size p):=(Bx.new w p).below (by simp) g1;clear hw' hc;obtain⟨h0,h1,h2,h3,h4,h5,h6,h7,h8,h9,h10⟩:=HB.out;go_wp2;go_ret;exact⟨rfl,btr (by go_grown) g1 (by simp)⟩
theorem no_in {n:Int} (h:inB n 0 65535=false) (k:Int) (hk:k≤65535):inB n 0 k=false:=by
 cases e:inB n 0 k
 ·rfl
 ·rw[inB_iff]at e;have:inB n 0 65535=true:=inB_iff.2 ⟨e.1,by omega⟩;rw[this]at h;cases h
theorem in_zero (n:Int):inB n 0 0=(n==0):=by
 rw[Bool.eq_iff_iff,inB_iff,beq_iff_eq];omega
theorem rright_plain (p:Pk) (w:World) (hA:decide (0<p.to/281474976710656)=false) (hB:decide (0<p.fr/281474976710656)=false) (hC:(p.vl != 0)=false) :
 Calls prog 114 #[pkV p] w fun x w'=>x=.returned (.bool (inB p.ty 1536 65535&&p.ty != 33024&&insideB p))∧Below w.heap.size w w':=by
 cases hD:inB p.ty 1536 65535
 ·go_enter func114,ntmps114;go_wp2_with (first|(go_at_call 156;refine(rin_any _ _ _ _).mono ?_;rintro x w2 ⟨rfl,rfl⟩)|(go_at_call 157;refine(rported_any p _).mono ?_;rintro x w2 ⟨rfl,g2⟩;have B2:=(Bx.new w p).below (by simp) g2;obtain⟨h0,h1,h2,h3,h4,h5,h6,h7,h8,h9,h10⟩:=B2))
  all_goals
   go_ret;exact⟨ret_bool (by simp[*]),by go_grown⟩
 cases hE:(p.ty==33024)
 case true =>
  have hE':(p.ty != 33024)=false:=by simp[bne,hE]
  go_enter func114,ntmps114;go_wp2_with (first|(go_at_call 156;refine(rin_any _ _ _ _).mono ?_;rintro x w2 ⟨rfl,rfl⟩)|(go_at_call 157;refine(rported_any p _).mono ?_;rintro x w2 ⟨rfl,g2⟩;have B2:=(Bx.new w p).below (by simp) g2;obtain⟨h0,h1,h2,h3,h4,h5,h6,h7,h8,h9,h10⟩:=B2))
  all_goals
   go_ret;exact⟨ret_bool (by simp[*]),by go_grown⟩
 have hE':(p.ty != 33024)=true:=by simp[bne,hE]
 by_cases hT:p.ty=2048
 ·have bT:(p.ty != 2048)=false:=by simp[hT]
  have eI:insideB p=(inB p.life 0 255&&inB p.pro 0 255&&inB p.sp 0 (if hasB p then 65535 else 0)&&inB p.dp 0 (if hasB p then 65535 else 0)):=by unfold insideB;rw[if_pos hT]
  rw[eI];clear hT eI;cases hl:inB p.life 0 255
  ·go_enter func114,ntmps114;go_wp2_with (first|(go_at_call 156;refine(rin_any _ _ _ _).mono ?_;rintro x w2 ⟨rfl,rfl⟩)|(go_at_call 157;refine(rported_any p _).mono ?_;rintro x w2 ⟨rfl,g2⟩;have B2:=(Bx.new w p).below (by simp) g2;obtain⟨h0,h1,h2,h3,h4,h5,h6,h7,h8,h9,h10⟩:=B2))
   all_goals
    go_ret;exact⟨ret_bool (by simp[*]),by go_grown⟩
  cases hp:inB p.pro 0 255
  ·go_enter func114,ntmps114;go_wp2_with (first|(go_at_call 156;refine(rin_any _ _ _ _).mono ?_;rintro x w2 ⟨rfl,rfl⟩)|(go_at_call 157;refine(rported_any p _).mono ?_;rintro x w2 ⟨rfl,g2⟩;have B2:=(Bx.new w p).below (by simp) g2;obtain⟨h0,h1,h2,h3,h4,h5,h6,h7,h8,h9,h10⟩:=B2))
   all_goals
    go_ret;exact⟨ret_bool (by simp[*]),by go_grown⟩
  cases hs:inB p.sp 0 65535
  ·have q:=no_in hs (if hasB p=true then 65535 else 0) (by split<;>omega);rw[q];clear q;go_enter func114,ntmps114;go_wp2_with (first|(go_at_call 156;refine(rin_any _ _ _ _).mono ?_;rintro x w2 ⟨rfl,rfl⟩)|(go_at_call 157;refine(rported_any p _).mono ?_;rintro x w2 ⟨rfl,g2⟩;have B2:=(Bx.new w p).below (by simp) g2;obtain⟨h0,h1,h2,h3,h4,h5,h6,h7,h8,h9,h10⟩:=B2))
   all_goals
    go_ret;exact⟨ret_bool (by simp[*]),by go_grown⟩
  cases hd:inB p.dp 0 65535
  ·have q:=no_in hd (if hasB p=true then 65535 else 0) (by split<;>omega);rw[q];clear q;go_enter func114,ntmps114;go_wp2_with (first|(go_at_call 156;refine(rin_any _ _ _ _).mono ?_;rintro x w2 ⟨rfl,rfl⟩)|(go_at_call 157;refine(rported_any p _).mono ?_;rintro x w2 ⟨rfl,g2⟩;have B2:=(Bx.new w p).below (by simp) g2;obtain⟨h0,h1,h2,h3,h4,h5,h6,h7,h8,h9,h10⟩:=B2))
   all_goals
    go_ret;exact⟨ret_bool (by simp[*]),by go_grown⟩
  cases hh:hasB p
  ·rw[if_neg (by simp),in_zero,in_zero];go_enter func114,ntmps114;go_wp2_with (first|(go_at_call 156;refine(rin_any _ _ _ _).mono ?_;rintro x w2 ⟨rfl,rfl⟩)|(go_at_call 157;refine(rported_any p _).mono ?_;rintro x w2 ⟨rfl,g2⟩;have B2:=(Bx.new w p).below (by simp) g2;obtain⟨h0,h1,h2,h3,h4,h5,h6,h7,h8,h9,h10⟩:=B2))
   all_goals
    go_ret;exact⟨ret_bool (by simp[*]),btr (by go_grown) g2 (by simp)⟩
  ·rw[if_pos rfl,hs,hd];go_enter func114,ntmps114;go_wp2_with (first|(go_at_call 156;refine(rin_any _ _ _ _).mono ?_;rintro x w2 ⟨rfl,rfl⟩)|(go_at_call 157;refine(rported_any p _).mono ?_;rintro x w2 ⟨rfl,g2⟩;have B2:=(Bx.new w p).below (by simp) g2;obtain⟨h0,h1,h2,h3,h4,h5,h6,h7,h8,h9,h10⟩:=B2))
   all_goals
    go_ret;exact⟨ret_bool (by simp[*]),btr (by go_grown) g2 (by simp)⟩
 ·have bT:(p.ty != 2048)=true:=by simp[hT]
  have eI:insideB p=(p.src==0&&p.dst==0&&p.life==0&&p.pro==0&&p.sp==0&&p.dp==0):=by unfold insideB;rw[if_neg hT]
  rw[eI];clear hT eI;go_enter func114,ntmps114;go_wp2_with (first|(go_at_call 156;refine(rin_any _ _ _ _).mono ?_;rintro x w2 ⟨rfl,rfl⟩)|(go_at_call 157;refine(rported_any p _).mono ?_;rintro x w2 ⟨rfl,g2⟩;have B2:=(Bx.new w p).below (by simp) g2;obtain⟨h0,h1,h2,h3,h4,h5,h6,h7,h8,h9,h10⟩:=B2))
  all_goals
   go_ret;exact⟨ret_bool (by simp[*]),by go_grown⟩
theorem rright_tag (p:Pk) (w:World) (hA:decide (0<p.to/281474976710656)=false) (hB:decide (0<p.fr/281474976710656)=false) (hC:(p.vl != 0)=true) (hV:inB p.vl 4096 8191=true) :
 Calls prog 114 #[pkV p] w fun x w'=>x=.returned (.bool (inB p.ty 1536 65535&&p.ty != 33024&&insideB p))∧Below w.heap.size w w':=by
 cases hD:inB p.ty 1536 65535
 ·go_enter func114,ntmps114;go_wp2_with (first|(go_at_call 156;refine(rin_any _ _ _ _).mono ?_;rintro x w2 ⟨rfl,rfl⟩)|(go_at_call 157;refine(rported_any p _).mono ?_;rintro x w2 ⟨rfl,g2⟩;have B2:=(Bx.new w p).below (by simp) g2;obtain⟨h0,h1,h2,h3,h4,h5,h6,h7,h8,h9,h10⟩:=B2))
  all_goals
   go_ret;exact⟨ret_bool (by simp[*]),by go_grown⟩
 cases hE:(p.ty==33024)
 case true =>
  have hE':(p.ty != 33024)=false:=by simp[bne,hE]
  go_enter func114,ntmps114;go_wp2_with (first|(go_at_call 156;refine(rin_any _ _ _ _).mono ?_;rintro x w2 ⟨rfl,rfl⟩)|(go_at_call 157;refine(rported_any p _).mono ?_;rintro x w2 ⟨rfl,g2⟩;have B2:=(Bx.new w p).below (by simp) g2;obtain⟨h0,h1,h2,h3,h4,h5,h6,h7,h8,h9,h10⟩:=B2))
  all_goals
   go_ret;exact⟨ret_bool (by simp[*]),by go_grown⟩
 have hE':(p.ty != 33024)=true:=by simp[bne,hE]
 by_cases hT:p.ty=2048
 ·have bT:(p.ty != 2048)=false:=by simp[hT]
  have eI:insideB p=(inB p.life 0 255&&inB p.pro 0 255&&inB p.sp 0 (if hasB p then 65535 else 0)&&inB p.dp 0 (if hasB p then 65535 else 0)):=by unfold insideB;rw[if_pos hT]
  rw[eI];clear hT eI;cases hl:inB p.life 0 255
  ·go_enter func114,ntmps114;go_wp2_with (first|(go_at_call 156;refine(rin_any _ _ _ _).mono ?_;rintro x w2 ⟨rfl,rfl⟩)|(go_at_call 157;refine(rported_any p _).mono ?_;rintro x w2 ⟨rfl,g2⟩;have B2:=(Bx.new w p).below (by simp) g2;obtain⟨h0,h1,h2,h3,h4,h5,h6,h7,h8,h9,h10⟩:=B2))
   all_goals
    go_ret;exact⟨ret_bool (by simp[*]),by go_grown⟩
  cases hp:inB p.pro 0 255
  ·go_enter func114,ntmps114;go_wp2_with (first|(go_at_call 156;refine(rin_any _ _ _ _).mono ?_;rintro x w2 ⟨rfl,rfl⟩)|(go_at_call 157;refine(rported_any p _).mono ?_;rintro x w2 ⟨rfl,g2⟩;have B2:=(Bx.new w p).below (by simp) g2;obtain⟨h0,h1,h2,h3,h4,h5,h6,h7,h8,h9,h10⟩:=B2))
   all_goals
    go_ret;exact⟨ret_bool (by simp[*]),by go_grown⟩
  cases hs:inB p.sp 0 65535
  ·have q:=no_in hs (if hasB p=true then 65535 else 0) (by split<;>omega);rw[q];clear q;go_enter func114,ntmps114;go_wp2_with (first|(go_at_call 156;refine(rin_any _ _ _ _).mono ?_;rintro x w2 ⟨rfl,rfl⟩)|(go_at_call 157;refine(rported_any p _).mono ?_;rintro x w2 ⟨rfl,g2⟩;have B2:=(Bx.new w p).below (by simp) g2;obtain⟨h0,h1,h2,h3,h4,h5,h6,h7,h8,h9,h10⟩:=B2))
   all_goals
    go_ret;exact⟨ret_bool (by simp[*]),by go_grown⟩
  cases hd:inB p.dp 0 65535
  ·have q:=no_in hd (if hasB p=true then 65535 else 0) (by split<;>omega);rw[q];clear q;go_enter func114,ntmps114;go_wp2_with (first|(go_at_call 156;refine(rin_any _ _ _ _).mono ?_;rintro x w2 ⟨rfl,rfl⟩)|(go_at_call 157;refine(rported_any p _).mono ?_;rintro x w2 ⟨rfl,g2⟩;have B2:=(Bx.new w p).below (by simp) g2;obtain⟨h0,h1,h2,h3,h4,h5,h6,h7,h8,h9,h10⟩:=B2))
   all_goals
    go_ret;exact⟨ret_bool (by simp[*]),by go_grown⟩
  cases hh:hasB p
  ·rw[if_neg (by simp),in_zero,in_zero];go_enter func114,ntmps114;go_wp2_with (first|(go_at_call 156;refine(rin_any _ _ _ _).mono ?_;rintro x w2 ⟨rfl,rfl⟩)|(go_at_call 157;refine(rported_any p _).mono ?_;rintro x w2 ⟨rfl,g2⟩;have B2:=(Bx.new w p).below (by simp) g2;obtain⟨h0,h1,h2,h3,h4,h5,h6,h7,h8,h9,h10⟩:=B2))
   all_goals
    go_ret;exact⟨ret_bool (by simp[*]),btr (by go_grown) g2 (by simp)⟩
  ·rw[if_pos rfl,hs,hd];go_enter func114,ntmps114;go_wp2_with (first|(go_at_call 156;refine(rin_any _ _ _ _).mono ?_;rintro x w2 ⟨rfl,rfl⟩)|(go_at_call 157;refine(rported_any p _).mono ?_;rintro x w2 ⟨rfl,g2⟩;have B2:=(Bx.new w p).below (by simp) g2;obtain⟨h0,h1,h2,h3,h4,h5,h6,h7,h8,h9,h10⟩:=B2))
   all_goals
    go_ret;exact⟨ret_bool (by simp[*]),btr (by go_grown) g2 (by simp)⟩
 ·have bT:(p.ty != 2048)=true:=by simp[hT]
  have eI:insideB p=(p.src==0&&p.dst==0&&p.life==0&&p.pro==0&&p.sp==0&&p.dp==0):=by unfold insideB;rw[if_neg hT]
  rw[eI];clear hT eI;go_enter func114,ntmps114;go_wp2_with (first|(go_at_call 156;refine(rin_any _ _ _ _).mono ?_;rintro x w2 ⟨rfl,rfl⟩)|(go_at_call 157;refine(rported_any p _).mono ?_;rintro x w2 ⟨rfl,g2⟩;have B2:=(Bx.new w p).below (by simp) g2;obtain⟨h0,h1,h2,h3,h4,h5,h6,h7,h8,h9,h10⟩:=B2))
  all_goals
   go_ret;exact⟨ret_bool (by simp[*]),by go_grown⟩
theorem rright_any (p:Pk) (w:World) (h:Wf p) :
 Calls prog 114 #[pkV p] w fun x w'=>x=.returned (.bool (rightB p))∧Below w.heap.size w w':=by
 have t0:=h.to0;have f0:=h.fr0;unfold rightB;cases hA:(p.to/281474976710656==0)
 ·have hA':decide (0<p.to/281474976710656)=true:=by simp at hA ⊢;omega
  clear hA t0 f0 h;go_enter func114,ntmps114;go_wp2_with (first|(go_at_call 156;refine(rin_any _ _ _ _).mono ?_;rintro x w2 ⟨rfl,rfl⟩)|(go_at_call 157;refine(rported_any p _).mono ?_;rintro x w2 ⟨rfl,g2⟩;have B2:=(Bx.new w p).below (by simp) g2;obtain⟨h0,h1,h2,h3,h4,h5,h6,h7,h8,h9,h10⟩:=B2))
  all_goals
   go_ret;exact⟨ret_bool (by simp),by go_grown⟩
 have hA':decide (0<p.to/281474976710656)=false:=by simp at hA ⊢;omega
 cases hB:(p.fr/281474976710656==0)
 ·have hB':decide (0<p.fr/281474976710656)=true:=by simp at hB ⊢;omega
  clear hA hB t0 f0 h;go_enter func114,ntmps114;go_wp2_with (first|(go_at_call 156;refine(rin_any _ _ _ _).mono ?_;rintro x w2 ⟨rfl,rfl⟩)|(go_at_call 157;refine(rported_any p _).mono ?_;rintro x w2 ⟨rfl,g2⟩;have B2:=(Bx.new w p).below (by simp) g2;obtain⟨h0,h1,h2,h3,h4,h5,h6,h7,h8,h9,h10⟩:=B2))
  all_goals
   go_ret;exact⟨ret_bool (by simp),by go_grown⟩
 have hB':decide (0<p.fr/281474976710656)=false:=by simp at hB ⊢;omega
 by_cases hC:p.vl=0
 ·have e:(p.vl==0||inB p.vl 4096 8191)=true:=by simp[hC]
  rw[e];simp only[Bool.and_self,Bool.true_and];exact rright_plain p w hA' hB' (by simp[hC])
 ·have bC:(p.vl != 0)=true:=by simp[hC]
  have e:(p.vl==0)=false:=by simp[hC]
  rw[e];cases hV:inB p.vl 4096 8191
  ·clear hA hB hC t0 f0 h e;go_enter func114,ntmps114;go_wp2_with (first|(go_at_call 156;refine(rin_any _ _ _ _).mono ?_;rintro x w2 ⟨rfl,rfl⟩)|(go_at_call 157;refine(rported_any p _).mono ?_;rintro x w2 ⟨rfl,g2⟩;have B2:=(Bx.new w p).below (by simp) g2;obtain⟨h0,h1,h2,h3,h4,h5,h6,h7,h8,h9,h10⟩:=B2))
   all_goals
    go_ret;exact⟨ret_bool (by simp),by go_grown⟩
  ·simp only[Bool.and_self,Bool.true_and,Bool.or_true];exact rright_tag p w hA' hB' bC hV
theorem ret_two {a b c d:Int} (h:a=c) (k:b=d):Ending.returned (.tuple #[.int .i64 a,.int .i64 b])=.returned (.tuple #[.int .i64 c,.int .i64 d]):=by rw[h,k]
def pseudoN (p:Pk):ByteArray:=pb p.src 4++pb p.dst 4++(⟨#[0]⟩:ByteArray)++pb p.pro 1++pb (partZ p:Int) 2++partV p 0
theorem pseudoN_eq (p:Pk) (h0:0≤p.pro) (h1:p.pro≤255):pseudoN p=pseudoV p:=by
 have e:∀ x y:ByteArray,x.data.toList=y.data.toList→x=y:=fun x y h=>by cases x;cases y;simpa using h
 have q:pb p.pro 2=(⟨#[0]⟩:ByteArray)++pb p.pro 1:=by
  have d:p.pro/256=0:=by omega
  apply e;simp[pb,strOfNums,pieces,d]
 unfold pseudoN pseudoV addrV;rw[q];simp only[ap_as]
def rsumB (p:Pk):Nat:=fixV p (sumV (pseudoV p).data.toList)
theorem rsums_any (p:Pk) (w:World) (h:Ok p) :
 Calls prog 115 #[pkV p] w fun x w'=>x=.returned (.tuple #[.int .i64 (headSumV p),.int .i64 (rsumB p)])∧Below w.heap.size w w':=by
 have hz:∀ n k,(pb n k).size=k:=pb_size;have HO:Hid (Ok p):=h;have hp0:=h.pro0;have hp1:=h.pro1;have s0:=h.src0;have s1:=h.src1;have d0:=h.dst0;have d1:=h.dst1;have hq:(partZ p:Int)≤3020:=by have:=h.sz;have:=partA_le p;unfold partZ;omega
 have hps:=partV_size p 0;have hpi:((partV p 0).size:Int)=(partZ p:Int):=by rw[hps]
 have H35:Hid (∀ w,Calls prog 159 #[.string (headN p (20+(partZ p:Int)) 0)] w fun x w'=>x=.returned (.int .i64 (headSumV p))∧w'=w):=by
  unfold Hid;intro w;have:=refSum_any (headV p 0) w (by rw[headV_size];omega);rw[headN_eq];exact this
 unfold rsumB fixV;have hN:=sumV_le (pseudoV p).data.toList;have H36:∀ w,Calls prog 159 #[.string (pseudoN p)] w fun x w'=>x=.returned (.int .i64 (sumV (pseudoV p).data.toList))∧w'=w:=by
  intro w;have:=refSum_any (pseudoV p) w (by rw[pseudoV_size];omega);rw[pseudoN_eq p hp0 hp1];exact this
 generalize sumV (pseudoV p).data.toList=N at *
 have HS:Hid (∀ w,Calls prog 159 #[.string (pseudoN p)] w fun x w'=>x=.returned (.int .i64 N)∧w'=w):=H36;clear H36 h;go_enter func115,ntmps115;go_wp2_with fail;refine(rpart_any p 0 _ HO.out (by omega) (by omega)).mono ?_;rintro x w1 ⟨rfl,g1⟩;have B1:=(Bx.new w p).below (by simp) g1;have L1:w.heap.size<w1.heap.size:=Nat.lt_of_lt_of_le (by simp) g1.size;have G1:Below w.heap.size w w1:=btr (by go_grown) g1 (by simp);clear g1;have HB1:Hid (Bx w1 w.heap.size p):=B1;obtain⟨h0,h1,h2,h3,h4,h5,h6,h7,h8,h9,h10⟩:=B1;go_wp2_with fail;refine(rhead_any p _ 0 _ HO.out (by omega) (by omega) (by omega) (by omega)).mono ?_;rintro x w2 ⟨rfl,g2⟩;have B2:=HB1.out.below L1 g2;have L2:w.heap.size<w2.heap.size:=Nat.lt_of_lt_of_le L1 g2.size;have G2:=btr G1 g2 (Nat.le_refl _);clear g2 h0 h1 h2 h3 h4 h5 h6 h7 h8 h9 h10;go_wp2_with fail;refine(H35.out _).mono ?_;rintro x w3 ⟨rfl,rfl⟩;have HB2:Hid (Bx w3 w.heap.size p):=B2;obtain⟨h0,h1,h2,h3,h4,h5,h6,h7,h8,h9,h10⟩:=B2;go_wp2_with fail;clear h0 h1 h2 h3 h4 h5 h6 h7 h8 h9 h10;have hc:∀ n:GrT w3,Bx n.w w.heap.size p:=fun n=>HB2.out.below L2 n.h;refine wp_region_grow (by kernel_rfl) (by kernel_rfl) ?_
 repeat (go_big_quiet_step (first
  | (go_at_call_of 161 (Value.int IntKind.i64 2);exact quiet_gr (rp2 _ _ (by omega) (by omega)))
  | (go_at_call_of 161 (Value.int IntKind.i64 1);exact quiet_gr (rp1 _ _ (by omega) (by omega)))
  | (go_at_call_of 161 (Value.int IntKind.i64 4);exact quiet_gr (rp4 _ _ (by omega) (by omega)))
  | (go_at_call 159;exact quiet_gs (HS.out _))))
 refine wpQuiet_nil ?_;rintro w4 hw';have g4:=gr_elim hw';have B4:=HB2.out.below L2 g4;clear hw' hc;obtain⟨h0,h1,h2,h3,h4,h5,h6,h7,h8,h9,h10⟩:=B4;clear hz hps hpi;go_wp2
 all_goals
  go_ret2
  exact⟨ret_two rfl (by simp_all),btr G2 g4 (Nat.le_refl _)⟩
def outerN (p:Pk):ByteArray :=
 (if p.vl=0 then pb p.to 6++pb p.fr 6 else pb p.to 6++pb p.fr 6++(⟨#[129,0]⟩:ByteArray)++pb (p.vl-4096) 2)++pb p.ty 2
theorem outerN_eq (p:Pk):outerN p=outerV p:=by
 have e:∀ x y:ByteArray,x.data.toList=y.data.toList→x=y:=fun x y h=>by cases x;cases y;simpa using h
 have f1:pb 33024 2=(⟨#[129,0]⟩:ByteArray):=by apply e;rfl
 unfold outerN outerV;split
 ·rfl
 ·rw[f1];simp only[ap_as]
theorem rwith_any (p:Pk) (a b:Int) (w:World) (h:Ok p) (a0:0≤a) (a1:a≤65535) (b0:0≤b) (b1:b≤65535) :
 Calls prog 116 #[pkV p,.int .i64 a,.int .i64 b] w fun x w'=>x=.returned (.string (writeV p a b))∧Below w.heap.size w w':=by
 have hz:∀ n k,(pb n k).size=k:=pb_size;have hhs:=headN_size p (20+(partZ p:Int)) a;have hps:=partV_size p b;have hpi:((partV p b).size:Int)=(partZ p:Int):=by rw[hps]
 have HO:Hid (Ok p):=h;have t0:=h.to0;have t1:=h.to1;have f0:=h.fr0;have f1:=h.fr1;have y0:=h.ty0;have y1:=h.ty1;have hd:(p.data.size:Int)≤3000:=by have:=h.sz;omega
 have hq:(partZ p:Int)≤3020:=by have:=h.sz;have:=partA_le p;unfold partZ;omega
 have HV:=h.vl;clear h;unfold writeV;rw[← outerN_eq];unfold outerN;by_cases hv:p.vl=0
 ·have bv:(p.vl != 0)=false:=by simp[hv]
  rw[if_pos hv];clear hv HV;by_cases ht:p.ty=2048
  ·have bt:(p.ty != 2048)=false:=by simp[ht]
   rw[if_pos ht];clear ht;go_enter func116,ntmps116;go_wp2;have hc:∀ n:GrT (bx w p),Bx n.w w.heap.size p:=fun n=>(Bx.new w p).below (by simp) n.h;refine wp_region_grow (by kernel_rfl) (by kernel_rfl) ?_;repeat (go_big_quiet_step (first|(go_at_call 161;exact quiet_gr (rp6 _ _ (by omega) (by omega)))))
   refine wpQuiet_nil ?_;rintro w1 hw';have g1:=gr_elim hw';have B1:=(Bx.new w p).below (by simp) g1;have L1:w.heap.size<w1.heap.size:=Nat.lt_of_lt_of_le (by simp) g1.size;have G1:Below w.heap.size w w1:=btr (by go_grown) g1 (by simp);clear hw' hc g1;obtain⟨h0,h1,h2,h3,h4,h5,h6,h7,h8,h9,h10⟩:=id B1;go_wp2_with fail;refine(rp2 _ _ (by omega) (by omega)).mono ?_;rintro x w2 ⟨rfl,g2⟩;have B2:=B1.below L1 g2;have L2:w.heap.size<w2.heap.size:=Nat.lt_of_lt_of_le L1 g2.size;have G2:=btr G1 g2 (Nat.le_refl _);clear g2 B1 L1 h0 h1 h2 h3 h4 h5 h6 h7 h8 h9 h10;obtain⟨h0,h1,h2,h3,h4,h5,h6,h7,h8,h9,h10⟩:=id B2;go_wp2_with fail;refine(rpart_any p b _ HO.out b0 b1).mono ?_;rintro x w3 ⟨rfl,g3⟩;have B3:=B2.below L2 g3;have L3:w.heap.size<w3.heap.size:=Nat.lt_of_lt_of_le L2 g3.size;have G3:=btr G2 g3 (Nat.le_refl _);clear g3 B2 L2 h0 h1 h2 h3 h4 h5 h6 h7 h8 h9 h10;obtain⟨h0,h1,h2,h3,h4,h5,h6,h7,h8,h9,h10⟩:=id B3;go_wp2_with fail;refine(rhead_any p _ a _ HO.out (by omega) (by omega) a0 a1).mono ?_;rintro x w4 ⟨rfl,g4⟩;have B4:=B3.below L3 g4;have L4:w.heap.size<w4.heap.size:=Nat.lt_of_lt_of_le L3 g4.size;have G4:=btr G3 g4 (Nat.le_refl _);clear g4 B3 L3 h0 h1 h2 h3 h4 h5 h6 h7 h8 h9 h10;go_wp2_with fail;go_ret;exact⟨ret_str (by rw[← headN_eq]),G4⟩
  ·have bt:(p.ty != 2048)=true:=by simp[ht]
   rw[if_neg ht];clear ht;go_enter func116,ntmps116;go_wp2;have hc:∀ n:GrT (bx w p),Bx n.w w.heap.size p:=fun n=>(Bx.new w p).below (by simp) n.h;refine wp_region_grow (by kernel_rfl) (by kernel_rfl) ?_;repeat (go_big_quiet_step (first|(go_at_call 161;exact quiet_gr (rp6 _ _ (by omega) (by omega)))))
   refine wpQuiet_nil ?_;rintro w1 hw';have g1:=gr_elim hw';have B1:=(Bx.new w p).below (by simp) g1;have L1:w.heap.size<w1.heap.size:=Nat.lt_of_lt_of_le (by simp) g1.size;have G1:Below w.heap.size w w1:=btr (by go_grown) g1 (by simp);clear hw' hc g1;obtain⟨h0,h1,h2,h3,h4,h5,h6,h7,h8,h9,h10⟩:=id B1;go_wp2_with fail;refine(rp2 _ _ (by omega) (by omega)).mono ?_;rintro x w2 ⟨rfl,g2⟩;have B2:=B1.below L1 g2;have L2:w.heap.size<w2.heap.size:=Nat.lt_of_lt_of_le L1 g2.size;have G2:=btr G1 g2 (Nat.le_refl _);clear g2 B1 L1 h0 h1 h2 h3 h4 h5 h6 h7 h8 h9 h10;obtain⟨h0,h1,h2,h3,h4,h5,h6,h7,h8,h9,h10⟩:=id B2;go_wp2_with fail;go_ret;exact⟨rfl,G2⟩
 ·have bv:(p.vl != 0)=true:=by simp[hv]
  have v0:4096≤p.vl:=by omega
  have v1:p.vl≤8191:=by omega
  rw[if_neg hv];clear hv HV;by_cases ht:p.ty=2048
  ·have bt:(p.ty != 2048)=false:=by simp[ht]
   rw[if_pos ht];clear ht;go_enter func116,ntmps116;go_wp2;have hc:∀ n:GrT (bx w p),Bx n.w w.heap.size p:=fun n=>(Bx.new w p).below (by simp) n.h;refine wp_region_grow (by kernel_rfl) (by kernel_rfl) ?_;repeat (go_big_quiet_step (first|(go_at_call 161;exact quiet_gr (rp6 _ _ (by omega) (by omega)))))
   refine wpQuiet_nil ?_;rintro w1 hw';have g1:=gr_elim hw';have B1:=(Bx.new w p).below (by simp) g1;have L1:w.heap.size<w1.heap.size:=Nat.lt_of_lt_of_le (by simp) g1.size;have G1:Below w.heap.size w w1:=btr (by go_grown) g1 (by simp);clear hw' hc g1;obtain⟨h0,h1,h2,h3,h4,h5,h6,h7,h8,h9,h10⟩:=id B1;go_wp2_with fail;refine(rp2 _ _ (by omega) (by omega)).mono ?_;rintro x w2 ⟨rfl,g2⟩;have B2:=B1.below L1 g2;have L2:w.heap.size<w2.heap.size:=Nat.lt_of_lt_of_le L1 g2.size;have G2:=btr G1 g2 (Nat.le_refl _);clear g2 B1 L1 h0 h1 h2 h3 h4 h5 h6 h7 h8 h9 h10;obtain⟨h0,h1,h2,h3,h4,h5,h6,h7,h8,h9,h10⟩:=id B2;go_wp2_with fail;refine(rp2 _ _ (by omega) (by omega)).mono ?_;rintro x w3 ⟨rfl,g3⟩;have B3:=B2.below L2 g3;have L3:w.heap.size<w3.heap.size:=Nat.lt_of_lt_of_le L2 g3.size;have G3:=btr G2 g3 (Nat.le_refl _);clear g3 B2 L2 h0 h1 h2 h3 h4 h5 h6 h7 h8 h9 h10;obtain⟨h0,h1,h2,h3,h4,h5,h6,h7,h8,h9,h10⟩:=id B3;go_wp2_with fail;refine(rpart_any p b _ HO.out b0 b1).mono ?_;rintro x w4 ⟨rfl,g4⟩;have B4:=B3.below L3 g4;have L4:w.heap.size<w4.heap.size:=Nat.lt_of_lt_of_le L3 g4.size;have G4:=btr G3 g4 (Nat.le_refl _);clear g4 B3 L3 h0 h1 h2 h3 h4 h5 h6 h7 h8 h9 h10;obtain⟨h0,h1,h2,h3,h4,h5,h6,h7,h8,h9,h10⟩:=id B4;go_wp2_with fail;refine(rhead_any p _ a _ HO.out (by omega) (by omega) a0 a1).mono ?_;rintro x w5 ⟨rfl,g5⟩;have B5:=B4.below L4 g5;have L5:w.heap.size<w5.heap.size:=Nat.lt_of_lt_of_le L4 g5.size;have G5:=btr G4 g5 (Nat.le_refl _);clear g5 B4 L4 h0 h1 h2 h3 h4 h5 h6 h7 h8 h9 h10;go_wp2_with fail;go_ret;exact⟨ret_str (by rw[← headN_eq]),G5⟩
  ·have bt:(p.ty != 2048)=true:=by simp[ht]
   rw[if_neg ht];clear ht;go_enter func116,ntmps116;go_wp2;have hc:∀ n:GrT (bx w p),Bx n.w w.heap.size p:=fun n=>(Bx.new w p).below (by simp) n.h;refine wp_region_grow (by kernel_rfl) (by kernel_rfl) ?_;repeat (go_big_quiet_step (first|(go_at_call 161;exact quiet_gr (rp6 _ _ (by omega) (by omega)))))
   refine wpQuiet_nil ?_;rintro w1 hw';have g1:=gr_elim hw';have B1:=(Bx.new w p).below (by simp) g1;have L1:w.heap.size<w1.heap.size:=Nat.lt_of_lt_of_le (by simp) g1.size;have G1:Below w.heap.size w w1:=btr (by go_grown) g1 (by simp);clear hw' hc g1;obtain⟨h0,h1,h2,h3,h4,h5,h6,h7,h8,h9,h10⟩:=id B1;go_wp2_with fail;refine(rp2 _ _ (by omega) (by omega)).mono ?_;rintro x w2 ⟨rfl,g2⟩;have B2:=B1.below L1 g2;have L2:w.heap.size<w2.heap.size:=Nat.lt_of_lt_of_le L1 g2.size;have G2:=btr G1 g2 (Nat.le_refl _);clear g2 B1 L1 h0 h1 h2 h3 h4 h5 h6 h7 h8 h9 h10;obtain⟨h0,h1,h2,h3,h4,h5,h6,h7,h8,h9,h10⟩:=id B2;go_wp2_with fail;refine(rp2 _ _ (by omega) (by omega)).mono ?_;rintro x w3 ⟨rfl,g3⟩;have B3:=B2.below L2 g3;have L3:w.heap.size<w3.heap.size:=Nat.lt_of_lt_of_le L2 g3.size;have G3:=btr G2 g3 (Nat.le_refl _);clear g3 B2 L2 h0 h1 h2 h3 h4 h5 h6 h7 h8 h9 h10;obtain⟨h0,h1,h2,h3,h4,h5,h6,h7,h8,h9,h10⟩:=id B3;go_wp2_with fail;go_ret;exact⟨rfl,G3⟩
theorem rsumB_le (p:Pk):rsumB p≤65535:=fixV_le _ _ (sumV_le _)
theorem write_sums (p:Pk):writeV p (headSumV p) (rsumB p)=writeV p (sumA p) (sumB p):=by
 unfold writeV;by_cases ht:p.ty=2048
 ·rw[if_pos ht,if_pos ht];have e1:sumA p=headSumV p:=if_pos ht;have e2:sumB p=partSumV p:=if_pos ht;rw[e1,e2];by_cases hh:hasB p=true
  ·have e3:partSumV p=rsumB p:=if_pos hh;rw[e3]
  ·have e4:∀ c,partV p c=p.data:=fun c=>by
    unfold hasB at hh;simp at hh;unfold partV;rw[if_neg hh.1,if_neg hh.2]
   rw[e4,e4]
 ·rw[if_neg ht,if_neg ht]
theorem rbytes_ok (p:Pk) (a b:Int) (s:ByteArray) (w:World) (hd:(p.data.size:Int)≤1500) (hs:(s.size:Int)≤1500) (H1:Hid (∀ w,Calls prog 114 #[pkV p] w fun x w'=>x=.returned (.bool true)∧Below w.heap.size w w')) (H2:Hid (∀ w,Calls prog 115 #[pkV p] w fun x w'=>x=.returned (.tuple #[.int .i64 a,.int .i64 b])∧Below w.heap.size w w')) (H3:Hid (∀ w,Calls prog 116 #[pkV p,.int .i64 a,.int .i64 b] w fun x w'=>x=.returned (.string s)∧Below w.heap.size w w')) :
 Calls prog 74 #[pkV p] w fun x w'=>x=.returned (.tuple #[.string s,.int .i64 0])∧Below w.heap.size w w':=by
 go_enter func74,ntmps74;go_wp2_with fail;refine(H1.out _).mono ?_;rintro x w1 ⟨rfl,g1⟩;have B1:=(Bx.new w p).below (by simp) g1;have L1:w.heap.size<w1.heap.size:=Nat.lt_of_lt_of_le (by simp) g1.size;have G1:Below w.heap.size w w1:=btr (by go_grown) g1 (by simp);obtain⟨h0,h1,h2,h3,h4,h5,h6,h7,h8,h9,h10⟩:=id B1;go_wp2_with fail;refine(H2.out _).mono ?_;rintro x w2 ⟨rfl,g2⟩;have B2:=B1.below L1 g2;have G2:=btr G1 g2 (Nat.le_refl _);clear h0 h1 h2 h3 h4 h5 h6 h7 h8 h9 h10 g1 g2 B1;obtain⟨h0,h1,h2,h3,h4,h5,h6,h7,h8,h9,h10⟩:=B2;go_wp2_with fail;refine(H3.out _).mono ?_;rintro x w3 ⟨rfl,g3⟩;go_wp2_with fail;go_ret2
 exact⟨rfl,btr G2 g3 (Nat.le_refl _)⟩
theorem rbytes_long (p:Pk) (a b:Int) (s:ByteArray) (w:World) (hd:(p.data.size:Int)≤1500) (hs:(1500:Int)<(s.size:Int)) (H1:Hid (∀ w,Calls prog 114 #[pkV p] w fun x w'=>x=.returned (.bool true)∧Below w.heap.size w w')) (H2:Hid (∀ w,Calls prog 115 #[pkV p] w fun x w'=>x=.returned (.tuple #[.int .i64 a,.int .i64 b])∧Below w.heap.size w w')) (H3:Hid (∀ w,Calls prog 116 #[pkV p,.int .i64 a,.int .i64 b] w fun x w'=>x=.returned (.string s)∧Below w.heap.size w w')) :
 Calls prog 74 #[pkV p] w fun x w'=>x=.returned (.tuple #[.string ⟨#[]⟩,.int .i64 44])∧Below w.heap.size w w':=by
 go_enter func74,ntmps74;go_wp2_with fail;refine(H1.out _).mono ?_;rintro x w1 ⟨rfl,g1⟩;have B1:=(Bx.new w p).below (by simp) g1;have L1:w.heap.size<w1.heap.size:=Nat.lt_of_lt_of_le (by simp) g1.size;have G1:Below w.heap.size w w1:=btr (by go_grown) g1 (by simp);obtain⟨h0,h1,h2,h3,h4,h5,h6,h7,h8,h9,h10⟩:=id B1;go_wp2_with fail;refine(H2.out _).mono ?_;rintro x w2 ⟨rfl,g2⟩;have B2:=B1.below L1 g2;have G2:=btr G1 g2 (Nat.le_refl _);clear h0 h1 h2 h3 h4 h5 h6 h7 h8 h9 h10 g1 g2 B1;obtain⟨h0,h1,h2,h3,h4,h5,h6,h7,h8,h9,h10⟩:=B2;go_wp2_with fail;refine(H3.out _).mono ?_;rintro x w3 ⟨rfl,g3⟩;go_wp2_with fail;go_ret2
 exact⟨rfl,btr G2 g3 (Nat.le_refl _)⟩
theorem rbytes_big (p:Pk) (w:World) (hd:(1500:Int)<(p.data.size:Int)) (H1:Hid (∀ w,Calls prog 114 #[pkV p] w fun x w'=>x=.returned (.bool true)∧Below w.heap.size w w')) :
 Calls prog 74 #[pkV p] w fun x w'=>x=.returned (.tuple #[.string ⟨#[]⟩,.int .i64 44])∧Below w.heap.size w w':=by
 go_enter func74,ntmps74;go_wp2_with fail;refine(H1.out _).mono ?_;rintro x w1 ⟨rfl,g1⟩;have B1:=(Bx.new w p).below (by simp) g1;obtain⟨h0,h1,h2,h3,h4,h5,h6,h7,h8,h9,h10⟩:=id B1;go_wp2_with fail;go_ret2
 exact⟨rfl,btr (by go_grown) g1 (by simp)⟩
theorem rbytes_no (p:Pk) (w:World) (H1:Hid (∀ w,Calls prog 114 #[pkV p] w fun x w'=>x=.returned (.bool false)∧Below w.heap.size w w')) :
 Calls prog 74 #[pkV p] w fun x w'=>x=.returned (.tuple #[.string ⟨#[]⟩,.int .i64 1])∧Below w.heap.size w w':=by
 go_enter func74,ntmps74;go_wp2_with fail;refine(H1.out _).mono ?_;rintro x w1 ⟨rfl,g1⟩;go_wp2_with fail;go_ret2
 exact⟨rfl,btr (by go_grown) g1 (by simp)⟩
theorem rbytes_any (p:Pk) (w:World) (h:Wf p) (hs:p.data.size≤3000) :
 Calls prog 74 #[pkV p] w fun x w'=>x=.returned (.tuple #[.string (bytesS p),.int .i64 (bytesE p)])∧Below w.heap.size w w':=by
 have H1:=fun w=>rright_any p w h;unfold bytesS bytesE;cases hr:rightB p
 ·rw[hr]at H1;rw[if_neg (by simp),if_neg (by simp)];exact rbytes_no p w H1
 rw[hr]at H1;rw[if_pos rfl];have ho:Ok p:=Ok.of_right h hr hs;have ha:=rsumB_le p;have hb:headSumV p≤65535:=sumV_le _;have hz:=writeV_size p (headSumV p) (rsumB p) (right_pro h hr);have H2:=fun w=>rsums_any p w ho;have H3:=fun w=>rwith_any p (headSumV p) (rsumB p) w ho (by omega) (by omega) (by omega) (by omega);by_cases hg:aheadV p+p.data.size≤1500
 ·rw[if_pos ⟨rfl,hg⟩,if_pos hg,← write_sums];exact rbytes_ok p _ _ _ w (by omega) (by rw[hz];omega) H1 H2 H3
 rw[if_neg (fun x=>hg x.2),if_neg hg];by_cases hd:p.data.size≤1500
 ·exact rbytes_long p _ _ _ w (by omega) (by rw[hz];omega) H1 H2 H3
 ·exact rbytes_big p w (by omega) H1
end Fr
end Go.Proofs.YtgnihbdcdefdgaaGreatDoor

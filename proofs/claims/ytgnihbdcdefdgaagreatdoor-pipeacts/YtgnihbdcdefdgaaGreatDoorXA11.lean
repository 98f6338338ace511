import Derived.Test.YtgnihbdcdefdgaaGreatDoorXA10
import Derived.Test.YtgnihbdcdefdgaaGreatDoorX01
import Derived.Deep.RegionHeld
import Derived.Test.YtgnihbdcdefdgaaGreatDoorXA2
import Derived.Test.YtgnihbdcdefdgaaGreatDoorX14
import Derived.Test.YtgnihbdcdefdgaaGreatDoorX15
set_option maxHeartbeats 16000000
set_option maxRecDepth 20000
set_option linter.unusedSimpArgs false
open Go.ChangeShapes Go.WideShapes Go.ChangeAt Go.RowKit
open Go.Proofs.Tryz
namespace Go.Proofs.YtgnihbdcdefdgaaGreatDoor
abbrev SW (W:World) (b:Nat) (t:A) (w:World):Prop:=(w.cell? ⟨b,0,none⟩=some (.int .i64 t.1)∧w.cell? ⟨b,1,none⟩=some (.int .i64 t.2.1)∧w.cell? ⟨b,2,none⟩=some (.int .u64 t.2.2))∧Below W.heap.size W w
theorem SW.of {W:World} {b:Nat} {t:A} (h:C3 W b 0 t) (hb:b<W.heap.size) {w:World} (g:Below W.heap.size W w):SW W b t w:=⟨C3.below h hb g,g⟩
theorem SW.drew {W:World} {b:Nat} {t:A} (h:C3 W b 0 t) (hb:b<W.heap.size):SW W b t W.drew:=SW.of h hb (Below.refl _ W).drew
theorem SW.alloc {W:World} {b:Nat} {t:A} (hb:b<W.heap.size) {w:World} (s:SW W b t w) (o:Obj):SW W b t (w.alloc o):=by
 obtain⟨c,g⟩:=s;exact⟨C3.below (t:=t) (o:=0) c (Nat.lt_of_lt_of_le hb g.size) (show Below w.heap.size w (w.alloc o)by go_grown),btr g (by go_grown) (Nat.le_refl _)⟩
theorem SW.call {W:World} {b:Nat} {t:A} (hb:b<W.heap.size) {w w':World} (s:SW W b t w) (k:Below w.heap.size w w'):SW W b t w':=by
 obtain⟨c,g⟩:=s;exact⟨C3.below (t:=t) (o:=0) c (Nat.lt_of_lt_of_le hb g.size) k,btr g k (Nat.le_refl _)⟩
structure Two (w:World) (n:Nat) (a b:Value):Prop where
 l:n<w.heap.size
 c0:w.cell? ⟨n,0,none⟩=some a
 c1:w.cell? ⟨n,1,none⟩=some b
theorem Two.new (X:World) (a b:Value):Two (X.alloc (.cells #[a,b] 5)) X.heap.size a b:=⟨by simp,by simp,by simp⟩
theorem Two.keep {w w':World} {n:Nat} {a b:Value} (h:Two w n a b) (g:Below w.heap.size w w'):Two w' n a b :=
 ⟨Nat.lt_of_lt_of_le h.l g.size,(g.cell (p:=⟨n,0,none⟩) h.l).trans h.c0,(g.cell (p:=⟨n,1,none⟩) h.l).trans h.c1⟩
theorem cvTwo (w:World) (n:Nat) (x y:Int) (h:Two w n (.int .u8 x) (.int .u8 y)):(convert 254 9 (.slice (some ⟨n,0,none⟩) 2 2)).run prog w=.ok (.string (strOfNums [x,y])) w:=by
 refine run_convert_bytes_arg w 254 5 underlying254 underlying5 n 0 2 2 [x,y] rfl (fun i hi => ?_) 9 underlying9;match i,hi with
 | 0,_=>simpa using h.c0
 | 1,_=>simpa using h.c1
theorem pb1 (n:Int) (h0:0≤n) (h1:n<256):pb n 1=strOfNums [n]:=by
 unfold pb;simp only[pieces,List.nil_append];rw[Int.emod_eq_of_lt h0 h1]
theorem str_two (a b:Int):strOfNums [a,b]=strOfNums [a]++strOfNums [b]:=by apply ba_ext;simp[strOfNums]
theorem cat (a b:ByteArray) (x y:Nat) (ha:a.size≤x) (hb:b.size≤y) (h:x+y≤9223372036854775807) (w:World):(Op.stringOp .add a b).run prog w=.ok (.string (a++b)) w:=run_string_add_sum w a b (by omega)
theorem cat_sz (a b:ByteArray) (x y:Nat) (ha:a.size≤x) (hb:b.size≤y):(a++b).size≤x+y:=by rw[ByteArray.size_append];omega
theorem rcode_any (f:Int) (w:World):Calls prog 224 #[.int .i64 f] w fun e w'=>e=.returned (.int .i64 (codeV f))∧w'=w:=by
 rcases code_cases f with rfl|rfl|rfl|rfl|rfl|⟨b1,b2,b3,b4,b5,hc⟩
 case inr.inr.inr.inr.inr =>
  rw[hc];have d1:(f==3)=false:=by simp at b1 ⊢;omega
  have d2:(f==5)=false:=by simp at b2 ⊢;omega
  have d3:(f==6)=false:=by simp at b3 ⊢;omega
  have d4:(f==8)=false:=by simp at b4 ⊢;omega
  have d5:(f==9)=false:=by simp at b5 ⊢;omega
  clear b1 b2 b3 b4 b5 hc;go_enter func224,ntmps224;go_wp2;go_ret;exact⟨rfl,rfl⟩
 all_goals
  go_enter func224,ntmps224;go_wp2;go_ret;exact⟨rfl,rfl⟩
def rszV (f:Int):Nat:=if f=5∨f=6 then 4 else 2
theorem rsize_any (f:Int) (w:World):Calls prog 225 #[.int .i64 f] w fun e w'=>e=.returned (.int .i64 (rszV f))∧w'=w:=by
 unfold rszV;cases h5:(f==5)with
 | true =>
   have e:f=5:=by simpa using h5
   rw[if_pos (.inl e)];clear e;go_enter func225,ntmps225;go_wp2;go_ret;exact⟨rfl,rfl⟩
 | false =>
   cases h6:(f==6)with
   | true =>
     have e:f=6:=by simpa using h6
     rw[if_pos (.inr e)];clear e;go_enter func225,ntmps225;go_wp2;go_ret;exact⟨rfl,rfl⟩
   | false =>
     have e5 : ¬ f=5:=by simpa using h5
     have e6 : ¬ f=6:=by simpa using h6
     rw[if_neg (by omega)];clear e5 e6;go_enter func225,ntmps225;go_wp2;go_ret;exact⟨rfl,rfl⟩
theorem balloc {a w:World} (h:Below a.heap.size a w) (o:Obj):Below a.heap.size a (w.alloc o):=h.alloc h.size o
theorem cvZ (k:Nat) (w:World):(convert 254 9 (.slice (some ⟨w.heap.size,0,none⟩) k k)).run prog (w.alloc (.cells (List.replicate k (Value.int .u8 0)).toArray 5))=.ok (.string (zeros k)) (w.alloc (.cells (List.replicate k (Value.int .u8 0)).toArray 5)):=by
 have:=cvAny k (List.replicate k 0) (by simp) w;have e:strOfNums (List.replicate k 0)=zeros k:=by
  apply ba_ext;simp[strOfNums,zeros]
 rw[List.map_replicate,e]at this;exact this
theorem rbytes_set (f v:Int) (c:Int) (n k:Nat) (w:World) (hc:codeV f=c) (hc0:0≤c) (hc1:c≤14) (hn:rszV f=n) (hnk:n+k=8) (hn1:1≤n) (hv0:0≤v) (hv1:v<18446744073709551616) :
 Calls prog 191 #[tV (5,f,v)] w fun e w'=>e=.returned (.string (⟨#[0,25,0,16,128,0]⟩++strOfNums [2*c,(n:Int)]++pb v n++zeros k))∧Below w.heap.size w w':=by
 have HC:Hid (∀ w,Calls prog 224 #[.int .i64 f] w fun e w'=>e=.returned (.int .i64 c)∧Below w.heap.size w w'):=(show ∀ w,_ from fun w=>hc ▸ (rcode_any f w).mono fun _ _ ⟨a,b⟩=>⟨a,b ▸ Below.refl _ _⟩)
 have HS:Hid (∀ w,Calls prog 225 #[.int .i64 f] w fun e w'=>e=.returned (.int .i64 n)∧Below w.heap.size w w'):=(show ∀ w,_ from fun w=>hn ▸ (rsize_any f w).mono fun _ _ ⟨a,b⟩=>⟨a,b ▸ Below.refl _ _⟩)
 have HP:Hid (∀ w,Calls prog 161 #[.int .u64 v,.int .i64 n] w fun e w'=>e=.returned (.string (pb v n))∧Below w.heap.size w w'):=(show ∀ w,_ from fun w=>rput_any v n w hn1 (by omega) hv0 hv1)
 have hw1:IntKind.i64.wrap (2*c)=2*c:=by rw[IntKind.wrap_i64];omega
 have hw2:IntKind.u8.wrap (2*c)=2*c:=by rw[IntKind.wrap_u8];omega
 have hw3:IntKind.u8.wrap (n:Int)=(n:Int):=by rw[IntKind.wrap_u8];omega
 have hcv:=cv2;have z1:(strOfNums [2*c,(n:Int)]).size=2:=by rw[strOfNums_size];simp
 have z0:(⟨#[0,25,0,16,128,0]⟩:ByteArray).size=6:=rfl;have z2:((⟨#[0,25,0,16,128,0]⟩:ByteArray)++strOfNums [2*c,(n:Int)]).size≤8:=cat_sz _ _ 6 2 (by omega) (by omega);have z3:(pb v n).size=n:=pb_size _ _;have e1:∀ w,(Op.stringOp .add ⟨#[0,25,0,16,128,0]⟩ (strOfNums [2*c,(n:Int)])).run prog w=.ok (.string (⟨#[0,25,0,16,128,0]⟩++strOfNums [2*c,(n:Int)])) w:=cat _ _ 6 2 (by omega) (by omega) (by decide);have e2:∀ w,(Op.stringOp .add (⟨#[0,25,0,16,128,0]⟩++strOfNums [2*c,(n:Int)]) (pb v n)).run prog w=.ok (.string (⟨#[0,25,0,16,128,0]⟩++strOfNums [2*c,(n:Int)]++pb v n)) w:=cat _ _ 8 8 z2 (by omega) (by decide);have HZ:Hid ((⟨#[0,25,0,16,128,0]⟩++strOfNums [2*c,(n:Int)]++pb v n).size+k=16):=(show _=_ by rw[ByteArray.size_append,ByteArray.size_append,z0,z1,z3];omega)
 have k2:=C3.new w (5,f,v);have s2:w.heap.size<(tx w (5,f,v)).heap.size:=by simp
 have hSB:Hid (∀ X,SW (tx w (5,f,v)) w.heap.size (5,f,v) X→Below w.heap.size w X):=(show ∀ X,_ from fun X q=>btr (by go_grown) q.2 (by simp))
 have hm:=fun w=>mkAny k w (by omega);have hcz:=cvZ k;simp only[List.toArray_replicate]at hcz hm;have hcz1:∀ (w:World) (o:Obj),(convert 254 9 (.slice (some ⟨w.heap.size+1,0,none⟩) k k)).run prog ((w.alloc o).alloc (.cells (Array.replicate k (Value.int .u8 0)) 5))=.ok (.string (zeros k)) ((w.alloc o).alloc (.cells (Array.replicate k (Value.int .u8 0)) 5)):=fun w o=>by have:=hcz (w.alloc o);simpa using this
 clear hc hn z0 z1 z2 z3;go_enter func191,ntmps191;go_wp2_with fail
 go_region_held (SW (tx w (5,f,v)) w.heap.size (5,f,v)) (first|exact SW.drew k2 s2|exact SW.alloc s2 (by assumption) _|exact SW.call s2 (by assumption) (by assumption)|assumption)
  (first|(go_at_call 224;refine(HC.out _).mono ?_;rintro x w' ⟨rfl,gX⟩;first|(have tw:=Two.keep (by assumption) gX;have ce:=cvTwo _ _ _ _ tw)|(have tw:=Two.keep (Two.new _ _ _) gX;have ce:=cvTwo _ _ _ _ tw)|skip)|(go_at_call 225;refine(HS.out _).mono ?_;rintro x w' ⟨rfl,gX⟩;first|(have tw:=Two.keep (by assumption) gX;have ce:=cvTwo _ _ _ _ tw)|(have tw:=Two.keep (Two.new _ _ _) gX;have ce:=cvTwo _ _ _ _ tw)|skip)|(go_at_call 161;refine(HP.out _).mono ?_;rintro x w' ⟨rfl,gX⟩;first|(have tw:=Two.keep (by assumption) gX;have ce:=cvTwo _ _ _ _ tw)|(have tw:=Two.keep (Two.new _ _ _) gX;have ce:=cvTwo _ _ _ _ tw)|skip))
 all_goals
  obtain⟨S,hS⟩:∃ S,(⟨#[0,25,0,16,128,0]⟩:ByteArray)++strOfNums [2*c,(n:Int)]++pb v n=S:=⟨_,rfl⟩
  rw[hS]at HZ ⊢;have hSz:=HZ.out;have hSk:(16:Int)-(S.size:Int)=(k:Int):=by omega
  have HSE:Hid ((⟨#[0,25,0,16,128,0]⟩:ByteArray)++strOfNums [2*c,(n:Int)]++pb v n=S):=hS;have hzs:=zeros_size k;clear hS HZ;go_wp2_with fail
  first
   | (go_ret;exact⟨by rw[HSE.out];rfl,balloc (hSB.out _ (by assumption)) _⟩)
   | (go_ret;exact⟨by rw[HSE.out];rfl,balloc (balloc (hSB.out _ (by assumption)) _) _⟩)
theorem pb_cut (n:Int) (h0:0≤n) (h1:n<256) (m:Int) (g0:0≤m) (g1:m<256):strOfNums [n,m]=pb n 1++pb m 1:=by rw[pb1 n h0 h1,pb1 m g0 g1,str_two]
theorem rbytes_any (a:A) (w:World) (h:rightB a=true) (hw:AW a):Calls prog 191 #[tV a] w fun e w'=>e=.returned (.string (writeV a))∧Below w.heap.size w w':=by
 have hp:=pb_size;rcases right_cases h with⟨h1,h2,h3,h4⟩|⟨h1,h2,h3,h4⟩|⟨h1,h2,h3⟩|⟨h1,h2,h3⟩|⟨h1,h2,h3,h4⟩
 ·obtain⟨k,f,v⟩:=a;simp only at h1 h2 h3 h4;subst h1;have e:writeV (1,f,v)=⟨#[0,0,0,16]⟩++pb v 4++⟨#[255,255,0,0,0,0,0,0]⟩:=by
   have e1:writeV (1,f,v)=pb 0 2++pb 16 2++(pb v 4++pb 65535 2)++zeros 6:=by simp[writeV,bodyV,knV,ksV,ByteArray.size_append,hp]
   have e2:pb 0 2++pb 16 2=⟨#[0,0,0,16]⟩:=by decide +kernel
   have e3:pb 65535 2++zeros 6=⟨#[255,255,0,0,0,0,0,0]⟩:=by decide +kernel
   rw[e1,e2,← e3];simp only[ap_assoc]
  have HP:Hid (∀ w,Calls prog 161 #[.int .u64 v,.int .i64 4] w fun e w'=>e=.returned (.string (pb v 4))∧Below w.heap.size w w'):=(show ∀ w,_ from fun w=>rput_any v 4 w (by omega) (by omega) hw.v0 hw.v1)
  have hz:=hp v 4;rw[e];clear e h h2 h3 h4 hw hp;generalize pb v 4=B at *
  go_enter func191,ntmps191;go_wp2_with fail;refine(HP.out _).mono ?_;rintro x w1 ⟨rfl,g1⟩;go_wp2_with fail;go_ret;exact⟨rfl,btr (by go_grown) g1 (by simp)⟩
 ·obtain⟨k,f,v⟩:=a;simp only at h1 h2 h3 h4;subst h1;have e:writeV (2,f,v)=⟨#[0,22,0,8]⟩++pb v 4:=by
   have e1:writeV (2,f,v)=pb 22 2++pb 8 2++pb v 4++zeros 0:=by simp[writeV,bodyV,knV,ksV,hp]
   have e2:pb 22 2++pb 8 2=⟨#[0,22,0,8]⟩:=by decide +kernel
   rw[e1,e2];apply ba_ext;simp[zeros]
  have HP:Hid (∀ w,Calls prog 161 #[.int .u64 v,.int .i64 4] w fun e w'=>e=.returned (.string (pb v 4))∧Below w.heap.size w w'):=(show ∀ w,_ from fun w=>rput_any v 4 w (by omega) (by omega) hw.v0 hw.v1)
  have hz:=hp v 4;rw[e];clear e h h2 h3 h4 hw hp;generalize pb v 4=B at *
  go_enter func191,ntmps191;go_wp2_with fail;refine(HP.out _).mono ?_;rintro x w1 ⟨rfl,g1⟩;go_wp2_with fail;go_ret;exact⟨rfl,btr (by go_grown) g1 (by simp)⟩
 ·obtain⟨k,f,v⟩:=a;simp only at h1;subst h1;have e:writeV (3,f,v)=⟨#[0,17,0,8,129,0,0,0]⟩:=by
   have e1:writeV (3,f,v)=pb 17 2++pb 8 2++pb 33024 2++zeros 2:=by simp[writeV,bodyV,knV,ksV,hp]
   rw[e1];decide +kernel
  rw[e];clear e h h2 h3 hw hp;go_enter func191,ntmps191;go_wp2;go_ret;exact⟨rfl,by go_grown⟩
 ·obtain⟨k,f,v⟩:=a;simp only at h1;subst h1;have e0:(⟨#[]⟩:ByteArray).size=0:=rfl;have e:writeV (4,f,v)=⟨#[0,18,0,8,0,0,0,0]⟩:=by
   have e1:writeV (4,f,v)=pb 18 2++pb 8 2++⟨#[]⟩++zeros 4:=by simp[writeV,bodyV,knV,ksV,e0]
   rw[e1];decide +kernel
  rw[e];clear e h h2 h3 hw hp e0;go_enter func191,ntmps191;go_wp2;go_ret;exact⟨rfl,by go_grown⟩
 ·obtain⟨k,f,v⟩:=a;simp only at h1 h2 h3 h4;subst h1;have hsz:szV f=rszV f:=by rcases h2 with rfl|rfl|rfl|rfl|rfl<;>decide
  have hs4:2≤rszV f∧rszV f≤4:=by unfold rszV;split<;>omega
  have hc:0≤codeV f∧codeV f≤14:=by unfold codeV;(repeat' split)<;>omega
  have e:writeV (5,f,v)=⟨#[0,25,0,16,128,0]⟩++strOfNums [2*codeV f,(rszV f:Int)]++pb v (rszV f)++zeros (8-rszV f):=by
   have e2:pb 25 2++pb 16 2++pb 32768 2=⟨#[0,25,0,16,128,0]⟩:=by decide +kernel
   rw[pb_cut _ (by omega) (by omega) _ (by omega) (by omega),← e2];simp only[writeV,bodyV,knV,ksV,hsz];simp[ByteArray.size_append,hp];simp only[ap_assoc];congr 7;omega
  rw[e];exact rbytes_set f v (codeV f) (rszV f) (8-rszV f) w rfl hc.1 hc.2 rfl (by omega) (by omega) hw.v0 hw.v1
theorem rencode_any (a:Option Addr) (l:List A) (cap:Nat) (w:World) (h:Ts w a l) (hl:l.length≤1000) (hW:AWs l) :
 Calls prog 141 #[.slice a l.length cap] w fun e w'=>e=.returned (.tuple #[.string (encodeS l),.int .i64 (encodeE l)])∧Below w.heap.size w w':=by
 have HR:Hid (∀ x w,AW x→Calls prog 103 #[tV x] w fun e w'=>e=.returned (.bool (rightB x))∧Below w.heap.size w w'):=(show ∀ x w,_ from fun x w h=>rright_any x w h)
 have HW:Hid (∀ x w,rightB x=true→AW x→Calls prog 191 #[tV x] w fun e w'=>e=.returned (.string (writeV x))∧Below w.heap.size w w'):=(show ∀ x w,_ from fun x w h1 h2=>rbytes_any x w h1 h2)
 have HWs:Hid (AWs l):=hW;clear hW;go_enter func141,ntmps141;go_wp2_with fail;go_loopw [4] (fun i wr=>∃ k:Nat,k≤l.length∧i=.int .i64 k∧Hid (allB (l.take k)=true)∧Below w.heap.size w wr) (fun i _=>l.length-(intOf i).toNat);case atStart=>exact⟨0,Nat.zero_le _,rfl,(show _=_ by simp[allB]),Below.refl _ _⟩
 case round =>
  obtain⟨k,hk,rfl,HA,hbel⟩:=hrel;by_cases hlt:k<l.length
  ·have hT:=h.below hbel;obtain⟨g,o,rfl,hg,hc⟩:=hT.at hlt;obtain⟨c0,c1,c2⟩:=hc k hlt;have hs:=all_snoc l k hlt;rw[HA.out,Bool.true_and]at hs;have HE:Hid (rightB l[k]=false→encodeE l=22∧encodeS l=⟨#[]⟩):=(show rightB l[k]=false→_ from fun hf=>by
    have e0:allB l=false:=by
     unfold allB;rw[List.all_eq_false];exact⟨l[k],List.getElem_mem hlt,by simp[hf]⟩
    have e1:encodeE l=22:=by unfold encodeE;rw[e0];simp
    exact⟨e1,by unfold encodeS;rw[e1];simp⟩)
   have HS:Hid (allB (l.take (k+1))=rightB l[k]):=hs;have HX:Hid (AW l[k]):=HWs.out _ (List.getElem_mem hlt);clear hs hc hT;generalize l[k]=X at *
   cases hb:rightB X with
   | true =>
     go_wp2_with fail;refine(HR.out _ _ HX.out).mono ?_;rintro r w1 ⟨rfl,g1⟩;rw[hb];have b1:Below w.heap.size w w1:=btr hbel g1 (Nat.le_refl _);go_wp2_with fail;go_roundw;case rel=>exact⟨k+1,by omega,by go_num,(show _=_ by rw[HS.out,hb]),b1⟩
     case measure=>simp[intOf];omega
   | false =>
     go_wp2_with fail;refine(HR.out _ _ HX.out).mono ?_;rintro r w1 ⟨rfl,g1⟩;rw[hb];have b1:Below w.heap.size w w1:=btr hbel g1 (Nat.le_refl _);go_wp2_with fail;go_ret2
     obtain⟨q1,q2⟩:=HE.out hb;exact⟨by rw[q1,q2];rfl,b1⟩
  ·have hk':k=l.length:=by omega
   subst hk';have hB:=HA.out;rw[List.take_length]at hB;have HB:Hid (allB l=true):=hB;clear hB HA;by_cases h32:l.length≤32
   ·have HE:Hid (encodeE l=0∧encodeS l=encL l):=(show _∧_ by
     have e1:encodeE l=0:=by unfold encodeE;rw[HB.out];simp[h32]
     exact⟨e1,by unfold encodeS;rw[e1];simp⟩)
    have z1 : ¬ (32:Int)<(l.length:Int):=by omega
    go_wp2_with fail;go_loopw [5,6] (fun v i wr=>∃ (k:Nat) (s:ByteArray),k≤l.length∧i=.int .i64 k∧v=.string s∧Hid (s=encL (l.take k))∧s.size≤16*k∧Below w.heap.size w wr) (fun _ i _=>l.length-(intOf i).toNat);case atStart=>exact⟨0,⟨#[]⟩,Nat.zero_le _,rfl,rfl,(show _=_ from rfl),by simp[ByteArray.size],hbel⟩
    case round =>
     clear hbel;obtain⟨k,s,hk,rfl,rfl,HS,hsz,hbel⟩:=hrel;by_cases hlt:k<l.length
     ·have hT:=h.below hbel;obtain⟨g,o,rfl,hg,hc⟩:=hT.at hlt;obtain⟨c0,c1,c2⟩:=hc k hlt;have HN:Hid (encL (l.take (k+1))=encL (l.take k)++writeV l[k]):=encL_snoc l k hlt;have hr:=all_get HB.out hlt;have hws:=write_size hr;have HRX:Hid (rightB l[k]=true):=hr;have HX:Hid (AW l[k]):=HWs.out _ (List.getElem_mem hlt);clear hc hT hr;generalize l[k]=X at *
      go_wp2_with fail;refine(HW.out _ _ HRX.out HX.out).mono ?_;rintro r w2 ⟨rfl,g2⟩;have b2:Below w.heap.size w w2:=btr hbel g2 (Nat.le_refl _);go_wp2_with fail;go_roundw;case rel=>exact⟨k+1,s++writeV X,by omega,by go_num,rfl,(show _=_ by rw[HN.out,HS.out]),by rw[ByteArray.size_append];omega,b2⟩
      case measure=>simp[intOf];omega
     ·have hk':k=l.length:=by omega
      subst hk';have e:=HS.out;rw[List.take_length]at e;subst e;go_wp2_with fail;go_ret2
      exact⟨by rw[HE.out.1,HE.out.2];rfl,hbel⟩
   ·have HE:Hid (encodeE l=44∧encodeS l=⟨#[]⟩):=(show _∧_ by
     have e1:encodeE l=44:=by unfold encodeE;rw[HB.out];simp[h32]
     exact⟨e1,by unfold encodeS;rw[e1];simp⟩)
    have z1:(32:Int)<(l.length:Int):=by omega
    go_wp2_with fail;go_ret2
    exact⟨by rw[HE.out.1,HE.out.2];rfl,hbel⟩
theorem rrX_any (x:En) (w:World) (h:EW w x) (na:x.la.length≤1000) (nw:x.lw.length≤1000) (va:AWs x.la) (vw:AWs x.lw) (t0:0≤x.mt) (t1:x.mt<18446744073709551616):Calls prog 100 #[enV x] w fun e w'=>e=.returned (.int .i64 (rightX x.sp))∧Below w.heap.size w w':=by
 have H1:Hid (Calls prog 141 #[.slice x.aa x.la.length x.ca] (ex w x) fun e w'=>e=.returned (.tuple #[.string (encodeS x.la),.int .i64 (encodeE x.la)])∧Below (w.heap.size+1) (ex w x) w'):=(show Calls _ _ _ _ _ from by
  have:=rencode_any x.aa x.la x.ca (ex w x) (h.a.alloc _) na va;simpa using this)
 have H2:Hid (∀ w1,Below (w.heap.size+1) (ex w x) w1→Calls prog 141 #[.slice x.aw x.lw.length x.cw] w1 fun e w'=>e=.returned (.tuple #[.string (encodeS x.lw),.int .i64 (encodeE x.lw)])∧Below w1.heap.size w1 w'):=(show ∀ w1,_ from fun w1 g=>by
  have g':Below (ex w x).heap.size (ex w x) w1:=by simpa using g
  exact rencode_any x.aw x.lw x.cw w1 ((h.w.alloc _).below g') nw vw)
 have HB:Hid (∀ w1,Below (w.heap.size+1) (ex w x) w1→Bn w1 w.heap.size x):=(show ∀ w1,_ from fun w1 g=>(Bn.new w x).below (by omega) g)
 have HC:Hid (∀ w1,Below (w.heap.size+1) (ex w x) w1→Below w.heap.size w w1):=(show ∀ w1,_ from fun w1 g=>(show Below w.heap.size w (ex w x)by go_grown).trans (g.mono (by omega)))
 have HR:Hid (rightX x.sp=if tabB x.tab=false then 26 else if encodeE x.la≠0 then encodeE x.la else if encodeE x.lw≠0 then encodeE x.lw
  else if metB x.met=true then 25 else if bits .andNot .u64 x.mt x.mm≠0 then 23 else if goB x.tab x.go=false then 23 else 0):=(show _=_ from rfl)
 have HM:Hid (bits .andNot .u64 x.mt x.mm=0↔bits .and .u64 x.mt x.mm=x.mt):=not_iff x.mt x.mm t0 t1;clear h va vw t0 t1;cases ht:tabB x.tab with
 | false =>
   rw[HR.out,if_pos ht];have ht':(x.tab<0)∨¬ (x.tab<0)∧(7<x.tab):=by unfold tabB at ht;simp at ht;omega
   clear HR ht;rcases ht' with ht'|⟨ht',ht2⟩
   all_goals
    go_enter func100,ntmps100;go_wp2_with fail;go_ret;exact⟨rfl,by go_grown⟩
 | true =>
   rw[HR.out,if_neg (by rw[ht];decide)];have k1 : ¬ (x.tab<0):=by unfold tabB at ht;simp at ht;omega
   have k2 : ¬ (7<x.tab):=by unfold tabB at ht;simp at ht;omega
   clear HR ht;by_cases ha:encodeE x.la=0
   ·rw[if_neg (by simpa using ha)];rw[ha]at H1;by_cases hw:encodeE x.lw=0
    ·rw[if_neg (by simpa using hw)];rw[hw]at H2;clear ha hw;generalize encodeS x.la=S1 at *
     generalize encodeS x.lw=S2 at *
     cases hm:metB x.met with
     | true =>
       rw[if_pos rfl];have hm':(x.met<0)∨¬ (x.met<0)∧(16<x.met):=by unfold metB at hm;simp at hm;omega
       clear hm;rcases hm' with hm'|⟨hm',hm2⟩
       all_goals
        go_enter func100,ntmps100;go_wp2_with fail;refine H1.out.mono ?_;rintro r w1 ⟨rfl,g1⟩;obtain⟨c0,c1,c2,c3,c4,c5,c6,c7,c8,c9⟩:=HB.out _ g1;go_wp2_with fail;refine(H2.out _ g1).mono ?_;rintro r w2 ⟨rfl,g2'⟩;have g2:Below (w.heap.size+1) (ex w x) w2:=btr g1 g2' (by simp);clear c0 c1 c2 c3 c4 c5 c6 c7 c8 c9 g1 g2';obtain⟨c0,c1,c2,c3,c4,c5,c6,c7,c8,c9⟩:=HB.out _ g2;go_wp2_with fail;go_ret;exact⟨rfl,HC.out _ g2⟩
     | false =>
       rw[if_neg (by decide)];have hm1 : ¬ (x.met<0):=by unfold metB at hm;simp at hm;omega
       have hm2 : ¬ (16<x.met):=by unfold metB at hm;simp at hm;omega
       clear hm;by_cases hb:bits .andNot .u64 x.mt x.mm=0
       ·rw[if_neg (by simpa using hb)];have hb':(bits .and .u64 x.mt x.mm != x.mt)=false:=by simpa using HM.out.1 hb
        clear hb HM;have hg:(goB x.tab x.go=true∧((x.go != 0)=false∨(x.go != 0)=true∧¬ (x.go≤x.tab)∧¬ (7<x.go)))∨(goB x.tab x.go=false∧(x.go != 0)=true∧(x.go≤x.tab∨¬ (x.go≤x.tab)∧7<x.go)):=by
         unfold goB tabB;simp;omega
        rcases hg with⟨hg,h0|⟨h0,h1,h2⟩⟩|⟨hg,h0,h1|⟨h1,h2⟩⟩
        ·rw[if_neg (by rw[hg];decide)];clear hg;go_enter func100,ntmps100;go_wp2_with fail;refine H1.out.mono ?_;rintro r w1 ⟨rfl,g1⟩;obtain⟨c0,c1,c2,c3,c4,c5,c6,c7,c8,c9⟩:=HB.out _ g1;go_wp2_with fail;refine(H2.out _ g1).mono ?_;rintro r w2 ⟨rfl,g2'⟩;have g2:Below (w.heap.size+1) (ex w x) w2:=btr g1 g2' (by simp);clear c0 c1 c2 c3 c4 c5 c6 c7 c8 c9 g1 g2';obtain⟨c0,c1,c2,c3,c4,c5,c6,c7,c8,c9⟩:=HB.out _ g2;go_wp2_with fail;go_ret;exact⟨rfl,HC.out _ g2⟩
        ·rw[if_neg (by rw[hg];decide)];clear hg;go_enter func100,ntmps100;go_wp2_with fail;refine H1.out.mono ?_;rintro r w1 ⟨rfl,g1⟩;obtain⟨c0,c1,c2,c3,c4,c5,c6,c7,c8,c9⟩:=HB.out _ g1;go_wp2_with fail;refine(H2.out _ g1).mono ?_;rintro r w2 ⟨rfl,g2'⟩;have g2:Below (w.heap.size+1) (ex w x) w2:=btr g1 g2' (by simp);clear c0 c1 c2 c3 c4 c5 c6 c7 c8 c9 g1 g2';obtain⟨c0,c1,c2,c3,c4,c5,c6,c7,c8,c9⟩:=HB.out _ g2;go_wp2_with fail;go_ret;exact⟨rfl,HC.out _ g2⟩
        ·rw[if_pos hg];clear hg;go_enter func100,ntmps100;go_wp2_with fail;refine H1.out.mono ?_;rintro r w1 ⟨rfl,g1⟩;obtain⟨c0,c1,c2,c3,c4,c5,c6,c7,c8,c9⟩:=HB.out _ g1;go_wp2_with fail;refine(H2.out _ g1).mono ?_;rintro r w2 ⟨rfl,g2'⟩;have g2:Below (w.heap.size+1) (ex w x) w2:=btr g1 g2' (by simp);clear c0 c1 c2 c3 c4 c5 c6 c7 c8 c9 g1 g2';obtain⟨c0,c1,c2,c3,c4,c5,c6,c7,c8,c9⟩:=HB.out _ g2;go_wp2_with fail;go_ret;exact⟨rfl,HC.out _ g2⟩
        ·rw[if_pos hg];clear hg;go_enter func100,ntmps100;go_wp2_with fail;refine H1.out.mono ?_;rintro r w1 ⟨rfl,g1⟩;obtain⟨c0,c1,c2,c3,c4,c5,c6,c7,c8,c9⟩:=HB.out _ g1;go_wp2_with fail;refine(H2.out _ g1).mono ?_;rintro r w2 ⟨rfl,g2'⟩;have g2:Below (w.heap.size+1) (ex w x) w2:=btr g1 g2' (by simp);clear c0 c1 c2 c3 c4 c5 c6 c7 c8 c9 g1 g2';obtain⟨c0,c1,c2,c3,c4,c5,c6,c7,c8,c9⟩:=HB.out _ g2;go_wp2_with fail;go_ret;exact⟨rfl,HC.out _ g2⟩
       ·rw[if_pos (by simpa using hb)];have hb':(bits .and .u64 x.mt x.mm != x.mt)=true:=by
         rw[bne_iff_ne];exact fun e=>hb (HM.out.2 e)
        clear hb HM;go_enter func100,ntmps100;go_wp2_with fail;refine H1.out.mono ?_;rintro r w1 ⟨rfl,g1⟩;obtain⟨c0,c1,c2,c3,c4,c5,c6,c7,c8,c9⟩:=HB.out _ g1;go_wp2_with fail;refine(H2.out _ g1).mono ?_;rintro r w2 ⟨rfl,g2'⟩;have g2:Below (w.heap.size+1) (ex w x) w2:=btr g1 g2' (by simp);clear c0 c1 c2 c3 c4 c5 c6 c7 c8 c9 g1 g2';obtain⟨c0,c1,c2,c3,c4,c5,c6,c7,c8,c9⟩:=HB.out _ g2;go_wp2_with fail;go_ret;exact⟨rfl,HC.out _ g2⟩
    ·rw[if_pos (by simpa using hw)];have hw':(encodeE x.lw != 0)=true:=by simpa using hw
     clear ha hw;generalize encodeS x.la=S1 at *
     generalize encodeS x.lw=S2 at *
     generalize encodeE x.lw=E2 at *
     go_enter func100,ntmps100;go_wp2_with fail;refine H1.out.mono ?_;rintro r w1 ⟨rfl,g1⟩;obtain⟨c0,c1,c2,c3,c4,c5,c6,c7,c8,c9⟩:=HB.out _ g1;go_wp2_with fail;refine(H2.out _ g1).mono ?_;rintro r w2 ⟨rfl,g2'⟩;have g2:Below (w.heap.size+1) (ex w x) w2:=btr g1 g2' (by simp);clear c0 c1 c2 c3 c4 c5 c6 c7 c8 c9 g1 g2';obtain⟨c0,c1,c2,c3,c4,c5,c6,c7,c8,c9⟩:=HB.out _ g2;go_wp2_with fail;go_ret;exact⟨rfl,HC.out _ g2⟩
   ·rw[if_pos (by simpa using ha)];have ha':(encodeE x.la != 0)=true:=by simpa using ha
    clear ha;generalize encodeS x.la=S1 at *
    generalize encodeE x.la=E1 at *
    go_enter func100,ntmps100;go_wp2_with fail;refine H1.out.mono ?_;rintro r w1 ⟨rfl,g1⟩;go_wp2_with fail;go_ret;exact⟨rfl,HC.out _ g1⟩
end Go.Proofs.YtgnihbdcdefdgaaGreatDoor

import Derived.WalkKit
import Derived.Laws.BitsLemmas
import Derived.Laws.BytesArg
import Derived.Test.YtgnihbdcdefdgaaGreatDoorRows
import Derived.ProofKit
import Derived.OpenShut
import Derived.Handy
import Derived.BigQuiet
import Derived.Deep.RegionWith
import Derived.Laws.ResultCell
import Derived.Laws.StructEq
set_option maxRecDepth 20000
set_option maxHeartbeats 4000000
open Go.ChangeShapes Go.WideShapes Go.ChangeAt Go.RowKit
open Go.Proofs.Tryz
namespace Go.Proofs.YtgnihbdcdefdgaaGreatDoor
abbrev A:=Int × Int × Int
structure AW (a:A):Prop where
 f0 : -9223372036854775808≤a.2.1
 f1:a.2.1<9223372036854775808
 v0:0≤a.2.2
 v1:a.2.2<18446744073709551616
abbrev AWs (l:List A):Prop:=∀ a∈l,AW a
theorem wrap_u (n:Int):IntKind.u64.wrap n=n % 18446744073709551616:=by simp[IntKind.wrap,IntKind.bits,IntKind.signed]
theorem wrap_nat (b:BitVec 64):IntKind.u64.wrap (b.toNat:Int)=(b.toNat:Int):=by rw[wrap_u];have:=b.isLt;omega
abbrev bv (x:Int):BitVec 64:=BitVec.ofInt 64 x
theorem bv_nat (b:BitVec 64):bv (b.toNat:Int)=b:=by
 apply BitVec.eq_of_toNat_eq;rw[BitVec.toNat_ofInt];have:=b.isLt;omega
theorem nat_bv (x:Int) (h0:0≤x) (h1:x<18446744073709551616):((bv x).toNat:Int)=x:=by
 rw[BitVec.toNat_ofInt];omega
theorem u_and (x y:Int):bits .and .u64 x y=((bv x &&& bv y).toNat:Int):=wrap_nat _
theorem u_xor (x y:Int):bits .xor .u64 x y=((bv x ^^^ bv y).toNat:Int):=wrap_nat _
theorem u_not (x y:Int):bits .andNot .u64 x y=((bv x &&& ~~~bv y).toNat:Int):=wrap_nat _
theorem nat_inj {a b:BitVec 64} (h:(a.toNat:Int)=(b.toNat:Int)):a=b:=BitVec.eq_of_toNat_eq (by omega)
theorem and_iff (x y z:Int) (h0:0≤z) (h1:z<18446744073709551616):bits .and .u64 x y=z↔bv x &&& bv y=bv z:=by
 rw[u_and];constructor
 ·intro h;apply nat_inj;rw[h,nat_bv z h0 h1]
 ·intro h;rw[h,nat_bv z h0 h1]
theorem bv_ext {a b:BitVec 64} (h:∀ i,a.getLsbD i=b.getLsbD i):a=b:=BitVec.eq_of_getLsbD_eq fun i _=>h i
theorem bit_of {a b:BitVec 64} (h:a=b) (i:Nat):a.getLsbD i=b.getLsbD i:=by rw[h]
theorem not_iff (v m:Int) (h0:0≤v) (h1:v<18446744073709551616):bits .andNot .u64 v m=0↔bits .and .u64 v m=v:=by
 rw[and_iff v m v h0 h1,u_not];constructor
 ·intro h;have h':bv v &&& ~~~bv m=0#64:=BitVec.eq_of_toNat_eq (by simpa using h);apply bv_ext;intro i;have:=bit_of h' i;by_cases hi:i<64
  ·simp[hi]at this ⊢;exact this
  ·rw[BitVec.getLsbD_of_ge _ _ (by omega),BitVec.getLsbD_of_ge _ _ (by omega)]
 ·intro h;have h':bv v &&& ~~~bv m=0#64:=by
   apply bv_ext;intro i;have:=bit_of h i;by_cases hi:i<64
   ·simp[hi]at this ⊢;exact this
   ·rw[BitVec.getLsbD_of_ge _ _ (by omega),BitVec.getLsbD_of_ge _ _ (by omega)]
  rw[h'];rfl
theorem wraps_u64 (n:Int) (h₀:0≤n) (h₁:n<2 ^ 64):IntKind.u64.wrap n=n:=by rw[wrap_u];omega
theorem and_u (j:Nat) (hj:j≤64) (a:Int) (h0:0≤a) (h1:a<2 ^ 64):bits .and .u64 a (2 ^ j-1)=a % 2 ^ j:=bits_mask .u64 64 (by decide) wraps_u64 j hj a h0 h1
def pieces (n:Int):Nat→List Int
 | 0=>[]
 | k+1=>pieces (n/256) k++[n % 256]
theorem pieces_length:∀ (k:Nat) (n:Int),(pieces n k).length=k
 | 0,_=>rfl
 | k+1,n=>by simp[pieces,pieces_length k]
def pb (n:Int) (k:Nat):ByteArray:=strOfNums (pieces n k)
theorem pb_size (n:Int) (k:Nat):(pb n k).size=k:=by unfold pb;rw[strOfNums_size,pieces_length]
theorem ba_ext {a b:ByteArray} (h:a.data.toList=b.data.toList):a=b:=by
 cases a;cases b;simpa using h
theorem ap_assoc (a b c:ByteArray):a++b++c=a++(b++c):=by apply ba_ext;simp
abbrev tV (t:A):Value:=.agg #[.int .i64 t.1,.int .i64 t.2.1,.int .u64 t.2.2]
abbrev tC (t:A):Array Value:=#[.int .i64 t.1,.int .i64 t.2.1,.int .u64 t.2.2]
abbrev tx (w:World) (t:A):World:=w.alloc (.cells (tC t) 95)
abbrev C3 (w:World) (b o:Nat) (t:A):Prop:=w.cell? ⟨b,o,none⟩=some (.int .i64 t.1)∧w.cell? ⟨b,o+1,none⟩=some (.int .i64 t.2.1)∧w.cell? ⟨b,o+2,none⟩=some (.int .u64 t.2.2)
theorem C3.new (w:World) (t:A):C3 (tx w t) w.heap.size 0 t:=by unfold C3 tx;simp
theorem C3.block {w w':World} {b o:Nat} {t:A} (h:C3 w b o t) (g:w'.heap[b]? = w.heap[b]?):C3 w' b o t:=by
 obtain⟨h0,h1,h2⟩:=h;have e:∀ o,w'.cell? ⟨b,o,none⟩=w.cell? ⟨b,o,none⟩:=fun o=>World.cell?_of_block (w:=w) g;exact⟨(e _).trans h0,(e _).trans h1,(e _).trans h2⟩
theorem C3.below {w w':World} {b o B:Nat} {t:A} (h:C3 w b o t) (hb:b<B) (g:Below B w w'):C3 w' b o t:=h.block (g.block b hb)
def Ts (w:World) (a:Option Addr) (l:List A):Prop :=
 l=[]∨∃ g o,a=some ⟨g,o,none⟩∧g<w.heap.size∧∀ i (h:i<l.length),C3 w g (o+i*3) l[i]
theorem Ts.below {w w':World} {a:Option Addr} {l:List A} (h:Ts w a l) (g:Below w.heap.size w w'):Ts w' a l:=by
 rcases h with h|⟨b,o,ha,hb,hc⟩
 ·exact .inl h
 ·exact .inr ⟨b,o,ha,Nat.lt_of_lt_of_le hb g.size,fun i hi=>(hc i hi).below hb g⟩
theorem Ts.take {w:World} {a:Option Addr} {l:List A} (h:Ts w a l) (k:Nat):Ts w a (l.take k):=by
 rcases h with rfl|⟨b,o,ha,hb,hc⟩
 ·exact .inl (by simp)
 ·exact .inr ⟨b,o,ha,hb,fun i hi=>by
   have hi':i<l.length:=by rw[List.length_take]at hi;omega
   rw[List.getElem_take];exact hc i hi'⟩
theorem Ts.at {w:World} {a:Option Addr} {l:List A} (h:Ts w a l) {k:Nat} (hk:k<l.length):∃ g o,a=some ⟨g,o,none⟩∧g<w.heap.size∧∀ i (h:i<l.length),C3 w g (o+i*3) l[i]:=by
 rcases h with rfl|h
 ·cases hk
 ·exact h
theorem Ts.alloc {w:World} {a:Option Addr} {l:List A} (h:Ts w a l) (o:Obj):Ts (w.alloc o) a l:=h.below (by go_grown)
theorem take_snoc_get (l:List A) (k:Nat) (h:k<l.length):l.take (k+1)=l.take k++[l[k]]:=List.take_succ_eq_append_getElem h
structure GrS (W:World) where
 w:World
 h:Below W.heap.size W w
abbrev GrT (W:World):Type:=Option (GrS W)
def GrT.w {W:World}:GrT W→World
 | none=>W
 | some g=>g.w
theorem GrT.h {W:World}:(n:GrT W)→Below W.heap.size W n.w
 | none=>Below.refl _ _
 | some g=>g.h
theorem gr_elim {W w':World} (h:∃ n:GrT W,w'=n.w):Below W.heap.size W w':=by
 obtain⟨n,rfl⟩:=h;exact n.h
theorem wp_region_grow {P:Program} {id:Nat} {Q:Exit→Act→World→Prop} {a:Act} {w:World} {l:List Oper} (hm:P.follows .mixedOrders=true) (hB:Region.lexB .any l.toArray=true)
 (h:wpQuiet P l.toArray (fun w'=>∃ n:GrT w,w'=n.w) (fun a'=>∀ w',(∃ n:GrT w,w'=n.w)→Q .normal a' w') l a):(Code.region id l.toArray true).wp P Q a w :=
 wp_region_quiet (C:=fun w'=>∃ n:GrT w,w'=n.w) hm hB ⟨some ⟨_,(Below.refl _ w).drew⟩,rfl⟩ (by simpa using h)
theorem btr {a b c:World} {k:Nat} (h:Below k a b) (g:Below b.heap.size b c) (hk:k≤a.heap.size):Below k a c:=h.trans (g.mono (Nat.le_trans hk h.size))
theorem quiet_gr {P:Program} {f:FuncId} {args:Array Value} {W:World} {n:GrT W} {v:Value}
 (h:Calls P f args n.w fun e w'=>e=.returned v∧Below n.w.heap.size n.w w'):Calls P f args n.w fun e w''=>e=.returned v∧∃ m:GrT W,w''=m.w :=
 h.mono fun _ w' ⟨he,hm⟩=>⟨he,some ⟨w',btr n.h hm (Nat.le_refl _)⟩,rfl⟩
theorem quiet_gs {P:Program} {f:FuncId} {args:Array Value} {W:World} {n:GrT W} {v:Value}
 (h:Calls P f args n.w fun e w'=>e=.returned v∧w'=n.w):Calls P f args n.w fun e w''=>e=.returned v∧∃ m:GrT W,w''=m.w :=
 h.mono fun _ _ ⟨he,hm⟩=>⟨he,n,hm⟩
theorem bdr {B:Nat} {a w:World} (h:Below B a w) (n:Nat):Below B a (w.drewN n):=h.trans ⟨rfl,rfl,rfl,Nat.le_refl _,fun _ _=>rfl⟩
theorem C3.gr {W:World} {b o:Nat} {t:A} (h:C3 W b o t) (hb:b<W.heap.size) (n:GrT W):C3 n.w b o t:=h.below hb n.h
theorem Ts.gr {W:World} {a:Option Addr} {l:List A} (h:Ts W a l) (n:GrT W):Ts n.w a l:=h.below n.h
theorem ret_bool {a b:Bool} (h:a=b):Ending.returned (.bool a)=Ending.returned (.bool b):=by rw[h]
theorem ret_int {k:IntKind} {a b:Int} (h:a=b):Ending.returned (.int k a)=Ending.returned (.int k b):=by rw[h]
theorem cls9 {f:Int} (h : ¬ (f<1∨9<f)):f=1∨f=2∨f=3∨f=4∨f=5∨f=6∨f=7∨f=8∨f=9:=by omega
def wdV (f:Int):Int:=if f=2 then 64 else if f=1∨f=5∨f=6 then 32 else if f=4∨f=8∨f=9 then 16 else if f=3 then 13 else if f=7 then 8 else 0
def grV (f:Int):Int:=if f=2 then 18446744073709551615 else if f=1∨f=5∨f=6 then 4294967295 else if f=4∨f=8∨f=9 then 65535 else if f=3 then 8191 else if f=7 then 255 else 0
theorem none_of {f:Int} (h:f<1∨9<f):(f==1)=false∧(f==2)=false∧(f==3)=false∧(f==4)=false∧(f==5)=false∧(f==6)=false∧(f==7)=false∧(f==8)=false∧(f==9)=false:=by
 refine⟨?_,?_,?_,?_,?_,?_,?_,?_,?_⟩<;>(rw[beq_eq_false_iff_ne];omega)
theorem wdV_none {f:Int} (h:f<1∨9<f):wdV f=0:=by unfold wdV;repeat (rw[if_neg (by omega)])
theorem grV_none {f:Int} (h:f<1∨9<f):grV f=0:=by unfold grV;repeat (rw[if_neg (by omega)])
theorem grV_lt (f:Int):0≤grV f∧grV f<18446744073709551616:=by unfold grV;(repeat' split)<;>omega
theorem and_gr (f a:Int) (hf : ¬ (f<1∨9<f)) (h0:0≤a) (h1:a<18446744073709551616):bits .and .u64 a (grV f)=a % (grV f+1):=by
 rcases cls9 hf with rfl|rfl|rfl|rfl|rfl|rfl|rfl|rfl|rfl
 ·exact and_u 32 (by decide) a h0 h1
 ·exact and_u 64 (by decide) a h0 h1
 ·exact and_u 13 (by decide) a h0 h1
 ·exact and_u 16 (by decide) a h0 h1
 ·exact and_u 32 (by decide) a h0 h1
 ·exact and_u 32 (by decide) a h0 h1
 ·exact and_u 8 (by decide) a h0 h1
 ·exact and_u 16 (by decide) a h0 h1
 ·exact and_u 16 (by decide) a h0 h1
def szV (f:Int):Nat:=if f=2 then 8 else if f=1∨f=5∨f=6 then 4 else if f=4∨f=8∨f=9∨f=3 then 2 else if f=7 then 1 else 0
theorem szV_eq (f:Int):(wdV f+7)/8=(szV f:Int):=by
 by_cases h:f<1∨9<f
 ·rw[wdV_none h];unfold szV;repeat (rw[if_neg (by omega)])
  rfl
 ·rcases cls9 h with rfl|rfl|rfl|rfl|rfl|rfl|rfl|rfl|rfl<;>rfl
theorem szV_le (f:Int):szV f≤8:=by unfold szV;(repeat' split)<;>omega
theorem gr_pow {f:Int} (h : ¬ (f<1∨9<f)):grV f<256 ^ szV f:=by
 rcases cls9 h with rfl|rfl|rfl|rfl|rfl|rfl|rfl|rfl|rfl<;>decide
def zeros (n:Nat):ByteArray:=⟨(List.replicate n (0:UInt8)).toArray⟩
theorem zeros_size (n:Nat):(zeros n).size=n:=by simp[zeros,ByteArray.size]
def codeV (f:Int):Int:=if f=3 then 6 else if f=5 then 11 else if f=6 then 12 else if f=8 then 13 else if f=9 then 14 else 0
def leastV (f:Int):Int:=if f=3 then 4096 else 0
def rightB (a:A):Bool :=
 if a.1=1∨a.1=2 then a.2.1==0&&(decide (1≤a.2.2)&&decide (a.2.2≤4294967295))
 else if a.1=3∨a.1=4 then a.2.1==0&&a.2.2==0
 else if a.1=5 then !(codeV a.2.1==0)&&(decide (leastV a.2.1≤a.2.2)&&decide (a.2.2≤grV a.2.1)) else false
def knV (k:Int):Int:=if k=1 then 0 else if k=2 then 22 else if k=3 then 17 else if k=4 then 18 else 25
def ksV (k:Int):Nat:=if k=1∨k=5 then 16 else 8
def bodyV (a:A):ByteArray :=
 if a.1=1 then pb a.2.2 4++pb 65535 2 else if a.1=2 then pb a.2.2 4 else if a.1=3 then pb 33024 2
 else if a.1=5 then pb 32768 2++pb (2*codeV a.2.1) 1++pb (szV a.2.1:Int) 1++pb a.2.2 (szV a.2.1) else ⟨#[]⟩
def writeV (a:A):ByteArray:=pb (knV a.1) 2++pb (ksV a.1:Int) 2++bodyV a++zeros (ksV a.1-4-(bodyV a).size)
theorem right_cases {a:A} (h:rightB a=true):(a.1=1∧a.2.1=0∧1≤a.2.2∧a.2.2≤4294967295)∨(a.1=2∧a.2.1=0∧1≤a.2.2∧a.2.2≤4294967295)∨(a.1=3∧a.2.1=0∧a.2.2=0)∨(a.1=4∧a.2.1=0∧a.2.2=0) ∨
 (a.1=5∧(a.2.1=3∨a.2.1=5∨a.2.1=6∨a.2.1=8∨a.2.1=9)∧leastV a.2.1≤a.2.2∧a.2.2≤grV a.2.1):=by
 unfold rightB at h;split at h
 ·next hk =>
  simp only[Bool.and_eq_true,beq_iff_eq,decide_eq_true_eq]at h;omega
 ·split at h
  ·next hk =>
   simp only[Bool.and_eq_true,beq_iff_eq]at h;omega
  ·split at h
   ·next hk =>
    simp only[Bool.and_eq_true,Bool.not_eq_true',beq_eq_false_iff_ne,decide_eq_true_eq]at h;obtain⟨h1,h2,h3⟩:=h;refine .inr (.inr (.inr (.inr ⟨hk,?_,h2,h3⟩)));unfold codeV at h1;revert h1;(repeat' split)<;>omega
   ·cases h
theorem encS_len1 (a:A) (h:rightB a=true):(writeV a).size=ksV a.1:=by
 have p:=pb_size;unfold writeV bodyV;rcases right_cases h with⟨h1,h2,h3,h4⟩|⟨h1,h2,h3,h4⟩|⟨h1,h2,h3⟩|⟨h1,h2,h3⟩|⟨h1,h2,h3,h4⟩
 ·simp[h1,ByteArray.size_append,p,zeros_size,ksV]
 ·simp[h1,ByteArray.size_append,p,zeros_size,ksV]
 ·simp[h1,ByteArray.size_append,p,zeros_size,ksV]
 ·have e0:(⟨#[]⟩:ByteArray).size=0:=rfl;simp[h1,ByteArray.size_append,p,zeros_size,ksV,e0]
 ·have:=szV_le a.2.1;simp[h1,ByteArray.size_append,p,zeros_size,ksV];omega
def encL (l:List A):ByteArray:=l.foldr (fun a s=>writeV a++s) ⟨#[]⟩
def allB (l:List A):Bool:=l.all rightB
def encodeE (l:List A):Int:=if allB l=true then (if l.length≤32 then 0 else 44) else 22
def encodeS (l:List A):ByteArray:=if encodeE l=0 then encL l else ⟨#[]⟩
theorem kind_cases (k:Int):k=1∨k=2∨k=3∨k=4∨k=5∨((k==1)=false∧(k==2)=false∧(k==3)=false∧(k==4)=false∧(k==5)=false):=by
 by_cases h1:k=1
 ·exact .inl h1
 by_cases h2:k=2
 ·exact .inr (.inl h2)
 by_cases h3:k=3
 ·exact .inr (.inr (.inl h3))
 by_cases h4:k=4
 ·exact .inr (.inr (.inr (.inl h4)))
 by_cases h5:k=5
 ·exact .inr (.inr (.inr (.inr (.inl h5))))
 exact .inr (.inr (.inr (.inr (.inr ⟨by simpa using h1,by simpa using h2,by simpa using h3,by simpa using h4,by simpa using h5⟩))))
abbrev kindsA:Array Value:=#[.int .i64 1,.int .i64 0,.int .i64 16,.int .i64 2,.int .i64 22,.int .i64 8,.int .i64 3,.int .i64 17,.int .i64 8,.int .i64 4,.int .i64 18,.int .i64 8,.int .i64 5,.int .i64 25,.int .i64 16]
abbrev codesA:Array Value:=#[.int .i64 3,.int .i64 6,.int .i64 5,.int .i64 11,.int .i64 6,.int .i64 12,.int .i64 8,.int .i64 13,.int .i64 9,.int .i64 14]
structure Cd (w:World):Prop where
 kinds:∃ t fr,w.heap[0]? = some (.cells kindsA t fr)
 codes:∃ t fr,w.heap[1]? = some (.cells codesA t fr)
theorem Cd.pos {w:World} (h:Cd w):1<w.heap.size:=by
 obtain⟨t,fr,h⟩:=h.codes;by_cases hz:1<w.heap.size
 ·exact hz
 ·rw[Array.getElem?_eq_none (by omega)]at h;cases h
theorem Cd.below {w w':World} (h:Cd w) (g:Below w.heap.size w w'):Cd w':=by
 have hp:=h.pos;have hb0:=g.block 0 (by omega);have hb1:=g.block 1 hp;obtain⟨⟨t,fr,h0⟩,⟨t1,fr1,h1⟩⟩:=h;exact⟨⟨t,fr,hb0.trans h0⟩,⟨t1,fr1,hb1.trans h1⟩⟩
theorem Cd.alloc {w:World} (h:Cd w) (o:Obj):Cd (w.alloc o):=h.below (by go_grown)
theorem idxK (cs:List Value) (i:Int) (h0:0≤i) (h1:i<5) (w:World):(Instr.index 265 (.agg cs.toArray) (.int .i64 i)).run prog w=.ok (.agg ((cs.drop (i.toNat*3)).take 3).toArray) w:=by
 have hn:0≤i∧i<((5:Nat):Int):=by omega
 have hu:prog.underlying 265=some (.array 5 264):=underlying265;have e:cs.toArray.extract (i.toNat*3) (i.toNat*3+3)=((cs.drop (i.toNat*3)).take 3).toArray:=by
  apply Array.toList_inj.1;simp[List.extract_eq_take_drop]
 rw[← e];clear e;simp[Instr.index,run_underlying hu,asIntOf,hn,go_sem];intro h;omega
theorem idxC (cs:List Value) (i:Int) (h0:0≤i) (h1:i<5) (w:World):(Instr.index 289 (.agg cs.toArray) (.int .i64 i)).run prog w=.ok (.agg ((cs.drop (i.toNat*2)).take 2).toArray) w:=by
 have hn:0≤i∧i<((5:Nat):Int):=by omega
 have hu:prog.underlying 289=some (.array 5 288):=underlying289;have e:cs.toArray.extract (i.toNat*2) (i.toNat*2+2)=((cs.drop (i.toNat*2)).take 2).toArray:=by
  apply Array.toList_inj.1;simp[List.extract_eq_take_drop]
 rw[← e];clear e;simp[Instr.index,run_underlying hu,asIntOf,hn,go_sem];intro h;omega
theorem idk0 (w:World):(Instr.index 265 (.agg kindsA) (.int .i64 0)).run prog w=.ok (.agg #[.int .i64 1,.int .i64 0,.int .i64 16]) w:=idxK _ 0 (by omega) (by omega) w
theorem idk1 (w:World):(Instr.index 265 (.agg kindsA) (.int .i64 1)).run prog w=.ok (.agg #[.int .i64 2,.int .i64 22,.int .i64 8]) w:=idxK _ 1 (by omega) (by omega) w
theorem idk2 (w:World):(Instr.index 265 (.agg kindsA) (.int .i64 2)).run prog w=.ok (.agg #[.int .i64 3,.int .i64 17,.int .i64 8]) w:=idxK _ 2 (by omega) (by omega) w
theorem idk3 (w:World):(Instr.index 265 (.agg kindsA) (.int .i64 3)).run prog w=.ok (.agg #[.int .i64 4,.int .i64 18,.int .i64 8]) w:=idxK _ 3 (by omega) (by omega) w
theorem idk4 (w:World):(Instr.index 265 (.agg kindsA) (.int .i64 4)).run prog w=.ok (.agg #[.int .i64 5,.int .i64 25,.int .i64 16]) w:=idxK _ 4 (by omega) (by omega) w
theorem idc0 (w:World):(Instr.index 289 (.agg codesA) (.int .i64 0)).run prog w=.ok (.agg #[.int .i64 3,.int .i64 6]) w:=idxC _ 0 (by omega) (by omega) w
theorem idc1 (w:World):(Instr.index 289 (.agg codesA) (.int .i64 1)).run prog w=.ok (.agg #[.int .i64 5,.int .i64 11]) w:=idxC _ 1 (by omega) (by omega) w
theorem idc2 (w:World):(Instr.index 289 (.agg codesA) (.int .i64 2)).run prog w=.ok (.agg #[.int .i64 6,.int .i64 12]) w:=idxC _ 2 (by omega) (by omega) w
theorem idc3 (w:World):(Instr.index 289 (.agg codesA) (.int .i64 3)).run prog w=.ok (.agg #[.int .i64 8,.int .i64 13]) w:=idxC _ 3 (by omega) (by omega) w
theorem idc4 (w:World):(Instr.index 289 (.agg codesA) (.int .i64 4)).run prog w=.ok (.agg #[.int .i64 9,.int .i64 14]) w:=idxC _ 4 (by omega) (by omega) w
theorem code_cases (f:Int):f=3∨f=5∨f=6∨f=8∨f=9∨(((3:Int)==f)=false∧((5:Int)==f)=false∧((6:Int)==f)=false∧((8:Int)==f)=false∧((9:Int)==f)=false∧codeV f=0):=by
 by_cases h1:f=3
 ·exact .inl h1
 by_cases h2:f=5
 ·exact .inr (.inl h2)
 by_cases h3:f=6
 ·exact .inr (.inr (.inl h3))
 by_cases h4:f=8
 ·exact .inr (.inr (.inr (.inl h4)))
 by_cases h5:f=9
 ·exact .inr (.inr (.inr (.inr (.inl h5))))
 refine .inr (.inr (.inr (.inr (.inr ⟨?_,?_,?_,?_,?_,?_⟩))))
 ·simp;omega
 ·simp;omega
 ·simp;omega
 ·simp;omega
 ·simp;omega
 ·unfold codeV;simp[h1,h2,h3,h4,h5]
theorem codeOf_any (f:Int) (w:World) (hd:Cd w) :
 Calls prog 223 #[.int .i64 f] w fun e w'=>e=.returned (.int .i64 (codeV f))∧Below w.heap.size w w':=by
 obtain⟨ct,cfr,hd⟩:=hd.codes;have x0:=idc0;have x1:=idc1;have x2:=idc2;have x3:=idc3;have x4:=idc4;rcases code_cases f with rfl|rfl|rfl|rfl|rfl|⟨b1,b2,b3,b4,b5,hc⟩
 case inr.inr.inr.inr.inr =>
  rw[hc];go_enter func223,ntmps223;go_wp2_with (refine wpList_load_row rfl 289 (.global 1) rfl 1 rfl ct codesA cfr _ hd underlying289 rfl (by kernel_rfl) ?_);clear hd;go_rounds 6;go_ret;exact⟨rfl,by go_grown⟩
 all_goals
  go_enter func223,ntmps223;go_wp2_with (refine wpList_load_row rfl 289 (.global 1) rfl 1 rfl ct codesA cfr _ hd underlying289 rfl (by kernel_rfl) ?_);clear hd;go_rounds 6;go_ret;exact⟨rfl,by go_grown⟩
theorem width_any (f:Int) (w:World):Calls prog 183 #[.int .i64 f] w fun e w'=>e=.returned (.int .i64 (wdV f))∧w'=w:=by
 by_cases h:f<1∨9<f
 ·obtain⟨b1,b2,b3,b4,b5,b6,b7,b8,b9⟩:=none_of h;rw[wdV_none h];clear h;go_enter func183,ntmps183;go_wp2;go_ret;exact⟨rfl,rfl⟩
 ·rcases cls9 h with rfl|rfl|rfl|rfl|rfl|rfl|rfl|rfl|rfl
  all_goals
   clear h;go_enter func183,ntmps183;go_wp2;go_ret;exact⟨rfl,rfl⟩
theorem greatest_any (f:Int) (w:World):Calls prog 190 #[.int .i64 f] w fun e w'=>e=.returned (.int .u64 (grV f))∧w'=w:=by
 by_cases h:f<1∨9<f
 ·have hw:=width_any f;rw[wdV_none h]at hw;rw[grV_none h];clear h;go_enter func190,ntmps190;go_wp2_with fail;refine(hw _).mono ?_;rintro x w1 ⟨rfl,rfl⟩;go_wp2_with fail;go_ret;exact⟨rfl,rfl⟩
 ·rcases cls9 h with rfl|rfl|rfl|rfl|rfl|rfl|rfl|rfl|rfl
  all_goals
   clear h;go_enter func190,ntmps190;go_wp2_with fail;refine(width_any _ _).mono ?_;rintro x w1 ⟨rfl,rfl⟩;simp only[show wdV 1=32 from rfl,show wdV 2=64 from rfl,show wdV 3=13 from rfl,show wdV 4=16 from rfl,show wdV 5=32 from rfl,show wdV 6=32 from rfl,show wdV 7=8 from rfl,show wdV 8=16 from rfl,show wdV 9=16 from rfl];go_wp2_with fail;go_ret;exact⟨rfl,rfl⟩
theorem least_any (f:Int) (w:World):Calls prog 189 #[.int .i64 f] w fun e w'=>e=.returned (.int .u64 (leastV f))∧w'=w:=by
 unfold leastV;by_cases h:f=3
 ·subst h;go_enter func189,ntmps189;go_wp2;go_ret;exact⟨rfl,rfl⟩
 ·have hb:(f==3)=false:=by simp[h]
  rw[if_neg h];clear h;go_enter func189,ntmps189;go_wp2;go_ret;exact⟨rfl,rfl⟩
theorem maySet_any (f:Int) (w:World) (hd:Cd w):Calls prog 188 #[.int .i64 f] w fun e w'=>e=.returned (.bool (!(codeV f==0)))∧Below w.heap.size w w':=by
 have HC:Hid (Calls prog 223 #[.int .i64 f] w fun e w'=>e=.returned (.int .i64 (codeV f))∧Below w.heap.size w w'):=codeOf_any f w hd;generalize codeV f=c at *
 go_enter func188,ntmps188;go_wp2_with fail;refine HC.out.mono ?_;rintro x w1 ⟨rfl,g1⟩;go_wp2_with fail;go_ret;exact⟨rfl,g1⟩
theorem C3.gr1 (w:World) (t:A) (n:GrT (tx w t)):C3 n.w w.heap.size 0 t:=C3.gr (C3.new w t) (by simp) n
theorem right_five (f v:Int) (w:World) (hd:Cd w) :
 Calls prog 140 #[tV (5,f,v)] w fun e w'=>e=.returned (.bool (rightB (5,f,v)))∧Below w.heap.size w w':=by
 have HM:Hid (∀ w,Cd w→Calls prog 188 #[.int .i64 f] w fun e w'=>e=.returned (.bool (!(codeV f==0)))∧Below w.heap.size w w'):=(show ∀ w,_ from fun w h=>maySet_any f w h)
 have HL:Hid (∀ w,Calls prog 189 #[.int .i64 f] w fun e w'=>e=.returned (.int .u64 (leastV f))∧w'=w):=(show ∀ w,_ from fun w=>least_any f w)
 have HG:Hid (∀ w,Calls prog 190 #[.int .i64 f] w fun e w'=>e=.returned (.int .u64 (grV f))∧w'=w):=(show ∀ w,_ from fun w=>greatest_any f w)
 have HD:Hid (∀ n:GrT (tx w (5,f,v)),Cd n.w):=(show ∀ n:GrT (tx w (5,f,v)),Cd n.w from fun n=>(hd.alloc _).below n.h)
 have q:=C3.gr1 w (5,f,v);have q0:=fun n=>(q n).1;have q1:=fun n=>(q n).2.1;have q2:=fun n=>(q n).2.2;have hR:rightB (5,f,v)=(!(codeV f==0)&&(decide (leastV f≤v)&&decide (v≤grV f))):=by simp[rightB]
 rw[hR];clear q hd hR;generalize grV f=G at *
 generalize leastV f=L at *
 cases hc:(codeV f==0)with
 | true =>
   rw[hc]at HM;simp only[Bool.not_true,Bool.false_and]at HM ⊢;go_enter func140,ntmps140;go_wp2_with fail;refine wp_region_grow (by kernel_rfl) (by kernel_rfl) ?_;repeat (go_big_quiet_step ((first|(go_at_call 188;exact quiet_gr (HM.out _ (HD.out _)))|(go_at_call 189;exact quiet_gs (HL.out _))|(go_at_call 190;exact quiet_gs (HG.out _)))))
   refine wpQuiet_nil ?_;rintro w1 hw';have g1:=gr_elim hw';clear q0 q1 q2 hw';go_wp2_with fail;go_ret;exact⟨rfl,btr (by go_grown) g1 (by simp)⟩
 | false =>
   rw[hc]at HM;simp only[Bool.not_false,Bool.true_and]at HM ⊢;by_cases h1:L≤v
   ·have d1:decide (L≤v)=true:=decide_eq_true h1;rw[d1,Bool.true_and];go_enter func140,ntmps140;go_wp2_with fail;refine wp_region_grow (by kernel_rfl) (by kernel_rfl) ?_;repeat (go_big_quiet_step ((first|(go_at_call 188;exact quiet_gr (HM.out _ (HD.out _)))|(go_at_call 189;exact quiet_gs (HL.out _))|(go_at_call 190;exact quiet_gs (HG.out _)))))
    refine wpQuiet_nil ?_;rintro w1 hw';have g1:=gr_elim hw';clear q0 q1 q2 hw';go_wp2_with fail;go_ret;exact⟨rfl,btr (by go_grown) g1 (by simp)⟩
   ·have d1:decide (L≤v)=false:=decide_eq_false h1;rw[d1,Bool.false_and];go_enter func140,ntmps140;go_wp2_with fail;refine wp_region_grow (by kernel_rfl) (by kernel_rfl) ?_;repeat (go_big_quiet_step ((first|(go_at_call 188;exact quiet_gr (HM.out _ (HD.out _)))|(go_at_call 189;exact quiet_gs (HL.out _))|(go_at_call 190;exact quiet_gs (HG.out _)))))
    refine wpQuiet_nil ?_;rintro w1 hw';have g1:=gr_elim hw';clear q0 q1 q2 hw';go_wp2_with fail;go_ret;exact⟨rfl,btr (by go_grown) g1 (by simp)⟩
theorem right_any (a:A) (w:World) (hd:Cd w) :
 Calls prog 140 #[tV a] w fun e w'=>e=.returned (.bool (rightB a))∧Below w.heap.size w w':=by
 obtain⟨k,f,v⟩:=a;rcases kind_cases k with rfl|rfl|rfl|rfl|rfl|⟨b1,b2,b3,b4,b5⟩
 ·clear hd;have hR:rightB (1,f,v)=(f==0&&(decide (1≤v)&&decide (v≤4294967295))):=by simp[rightB]
  rw[hR];clear hR;cases hf:(f==0)
  ·go_enter func140,ntmps140;go_wp2;go_ret;exact⟨rfl,by go_grown⟩
  ·cases d1:decide (1≤v)
   ·go_enter func140,ntmps140;go_wp2;go_ret;exact⟨rfl,by go_grown⟩
   ·cases d2:decide (v≤4294967295) <;>
    ·go_enter func140,ntmps140;go_wp2;go_ret;exact⟨rfl,by go_grown⟩
 ·clear hd;have hR:rightB (2,f,v)=(f==0&&(decide (1≤v)&&decide (v≤4294967295))):=by simp[rightB]
  rw[hR];clear hR;cases hf:(f==0)
  ·go_enter func140,ntmps140;go_wp2;go_ret;exact⟨rfl,by go_grown⟩
  ·cases d1:decide (1≤v)
   ·go_enter func140,ntmps140;go_wp2;go_ret;exact⟨rfl,by go_grown⟩
   ·cases d2:decide (v≤4294967295) <;>
    ·go_enter func140,ntmps140;go_wp2;go_ret;exact⟨rfl,by go_grown⟩
 ·clear hd;have hR:rightB (3,f,v)=(f==0&&v==0):=by simp[rightB]
  rw[hR];clear hR;cases hf:(f==0)<;>cases hv:(v==0) <;>
  ·go_enter func140,ntmps140;go_wp2;go_ret;exact⟨rfl,by go_grown⟩
 ·clear hd;have hR:rightB (4,f,v)=(f==0&&v==0):=by simp[rightB]
  rw[hR];clear hR;cases hf:(f==0)<;>cases hv:(v==0) <;>
  ·go_enter func140,ntmps140;go_wp2;go_ret;exact⟨rfl,by go_grown⟩
 ·exact right_five f v w hd
 ·clear hd;have hR:rightB (k,f,v)=false:=by
   simp at b1 b2 b3 b4 b5;simp[rightB,b1,b2,b3,b4,b5]
  rw[hR];clear hR;go_enter func140,ntmps140;go_wp2;go_ret;exact⟨rfl,by go_grown⟩
end Go.Proofs.YtgnihbdcdefdgaaGreatDoor

import Derived.Test.YtgnihbdcdefdgaaGreatDoorX10
import Derived.BigQuiet
import Derived.Deep.RegionWith
import Derived.Laws.ResultCell
set_option maxHeartbeats 1000000
open Go.ChangeShapes Go.WideShapes Go.ChangeAt Go.RowKit
open Go.Proofs.Tryz
namespace Go.Proofs.YtgnihbdcdefdgaaGreatDoor
namespace Fr
structure Pk where
 to:Int
 fr:Int
 vl:Int
 ty:Int
 src:Int
 dst:Int
 life:Int
 pro:Int
 sp:Int
 dp:Int
 data:ByteArray
abbrev pkV (p:Pk):Value:=.agg #[.int .u64 p.to,.int .u64 p.fr,.int .i64 p.vl,.int .i64 p.ty,.int .u32 p.src,.int .u32 p.dst,.int .i64 p.life,.int .i64 p.pro,.int .i64 p.sp,.int .i64 p.dp,.string p.data]
abbrev pkC (p:Pk):Array Value:=#[.int .u64 p.to,.int .u64 p.fr,.int .i64 p.vl,.int .i64 p.ty,.int .u32 p.src,.int .u32 p.dst,.int .i64 p.life,.int .i64 p.pro,.int .i64 p.sp,.int .i64 p.dp,.string p.data]
abbrev bx (w:World) (p:Pk):World:=w.alloc (.cells (pkC p) 47)
abbrev Bx (w:World) (b:Nat) (p:Pk):Prop :=
 w.cell? ⟨b,0,none⟩=some (.int .u64 p.to)∧w.cell? ⟨b,1,none⟩=some (.int .u64 p.fr)∧w.cell? ⟨b,2,none⟩=some (.int .i64 p.vl)∧w.cell? ⟨b,3,none⟩=some (.int .i64 p.ty) ∧
 w.cell? ⟨b,4,none⟩=some (.int .u32 p.src)∧w.cell? ⟨b,5,none⟩=some (.int .u32 p.dst)∧w.cell? ⟨b,6,none⟩=some (.int .i64 p.life)∧w.cell? ⟨b,7,none⟩=some (.int .i64 p.pro) ∧
 w.cell? ⟨b,8,none⟩=some (.int .i64 p.sp)∧w.cell? ⟨b,9,none⟩=some (.int .i64 p.dp)∧w.cell? ⟨b,10,none⟩=some (.string p.data)
theorem Bx.new (w:World) (p:Pk):Bx (bx w p) w.heap.size p:=by unfold Bx bx;simp
theorem Bx.below {w w':World} {b B:Nat} {p:Pk} (h:Bx w b p) (hb:b<B) (g:Below B w w'):Bx w' b p:=by
 obtain⟨h0,h1,h2,h3,h4,h5,h6,h7,h8,h9,h10⟩:=h;exact⟨(g.cell hb).trans h0,(g.cell hb).trans h1,(g.cell hb).trans h2,(g.cell hb).trans h3,(g.cell hb).trans h4,(g.cell hb).trans h5,(g.cell hb).trans h6,(g.cell hb).trans h7,(g.cell hb).trans h8,(g.cell hb).trans h9,(g.cell hb).trans h10⟩
theorem put1 (n:Int) (w:World) (h0:0≤n) (h1:n<256):Calls prog 198 #[.int .u64 n,.int .i64 1] w fun e w'=>e=.returned (.string (pb n 1))∧Below w.heap.size w w':=by
 go_enter func198,ntmps198;go_wp2_with fail;refine(put_1 n _ h0 h1).mono ?_;rintro x w1 ⟨rfl,g⟩;go_wp2_with fail;go_ret;exact⟨rfl,g⟩
theorem put2 (n:Int) (w:World) (h0:0≤n) (h1:n<65536):Calls prog 198 #[.int .u64 n,.int .i64 2] w fun e w'=>e=.returned (.string (pb n 2))∧Below w.heap.size w w':=by
 go_enter func198,ntmps198;go_wp2_with fail;refine(put_2 n _ h0 h1).mono ?_;rintro x w1 ⟨rfl,g⟩;go_wp2_with fail;go_ret;exact⟨rfl,g⟩
theorem put4 (n:Int) (w:World) (h0:0≤n) (h1:n<4294967296):Calls prog 198 #[.int .u64 n,.int .i64 4] w fun e w'=>e=.returned (.string (pb n 4))∧Below w.heap.size w w':=by
 go_enter func198,ntmps198;go_wp2_with fail;refine(put_4 n _ h0 h1).mono ?_;rintro x w1 ⟨rfl,g⟩;go_wp2_with fail;go_ret;exact⟨rfl,g⟩
theorem put6 (n:Int) (w:World) (h0:0≤n) (h1:n<281474976710656):Calls prog 198 #[.int .u64 n,.int .i64 6] w fun e w'=>e=.returned (.string (pb n 6))∧Below w.heap.size w w':=by
 go_enter func198,ntmps198;go_wp2_with fail;refine(put_6 n _ h0 h1).mono ?_;rintro x w1 ⟨rfl,g⟩;go_wp2_with fail;go_ret;exact⟨rfl,g⟩
theorem two_any (n:Int) (w:World) (h0:0≤n) (h1:n<65536):Calls prog 199 #[.int .i64 n] w fun e w'=>e=.returned (.string (pb n 2))∧Below w.heap.size w w':=by
 go_enter func199,ntmps199;go_wp2_with fail;refine(put2 n _ h0 h1).mono ?_;rintro x w1 ⟨rfl,g⟩;go_wp2_with fail;go_ret;exact⟨rfl,g⟩
theorem one_any (n:Int) (w:World) (h0:0≤n) (h1:n<256):Calls prog 229 #[.int .i64 n] w fun e w'=>e=.returned (.string (pb n 1))∧Below w.heap.size w w':=by
 go_enter func229,ntmps229;go_wp2_with fail;refine(put1 n _ h0 h1).mono ?_;rintro x w1 ⟨rfl,g⟩;go_wp2_with fail;go_ret;exact⟨rfl,g⟩
def inB (n lo hi:Int):Bool:=decide (lo≤n)&&decide (n≤hi)
def hasB (p:Pk):Bool:=p.pro==6||p.pro==17
def insideB (p:Pk):Bool :=
 if p.ty=2048 then inB p.life 0 255&&inB p.pro 0 255&&inB p.sp 0 (if hasB p then 65535 else 0)&&inB p.dp 0 (if hasB p then 65535 else 0)
 else p.src==0&&p.dst==0&&p.life==0&&p.pro==0&&p.sp==0&&p.dp==0
def rightB (p:Pk):Bool :=
 p.to/281474976710656==0&&p.fr/281474976710656==0&&(p.vl==0||inB p.vl 4096 8191)&&inB p.ty 1536 65535&&p.ty != 33024&&insideB p
def partA (p:Pk):Nat:=if p.pro=6 then 20 else if p.pro=17 then 8 else 0
def partZ (p:Pk):Nat:=partA p+p.data.size
def aheadV (p:Pk):Nat:=14+partA p+(if p.vl=0 then 0 else 4)+(if p.ty=2048 then 20 else 0)
abbrev kBegin:ByteArray:=⟨#[69,0]⟩
abbrev kMark:ByteArray:=⟨#[0,0,0,0]⟩
abbrev kTcp:ByteArray:=⟨#[0,0,0,0,0,0,0,0,80,16,255,255]⟩
abbrev kEnd:ByteArray:=⟨#[0,0]⟩
def addrV (p:Pk):ByteArray:=pb p.src 4++pb p.dst 4
def portsV (p:Pk):ByteArray:=pb p.sp 2++pb p.dp 2
def headV (p:Pk) (c:Int):ByteArray:=kBegin++pb (20+(partZ p:Int)) 2++kMark++pb p.life 1++pb p.pro 1++pb c 2++addrV p
def partV (p:Pk) (c:Int):ByteArray :=
 if p.pro=6 then portsV p++kTcp++pb c 2++kEnd++p.data
 else if p.pro=17 then portsV p++pb (partZ p:Int) 2++pb c 2++p.data
 else p.data
def pseudoV (p:Pk):ByteArray:=addrV p++pb p.pro 2++pb (partZ p:Int) 2++partV p 0
def fixV (p:Pk) (n:Nat):Nat:=if p.pro=17∧n=0 then 65535 else n
def partSumV (p:Pk):Nat:=if hasB p=true then fixV p (sumV (pseudoV p).data.toList) else 0
def headSumV (p:Pk):Nat:=sumV (headV p 0).data.toList
def sumA (p:Pk):Nat:=if p.ty=2048 then headSumV p else 0
def sumB (p:Pk):Nat:=if p.ty=2048 then partSumV p else 0
def outerV (p:Pk):ByteArray :=
 (if p.vl=0 then pb p.to 6++pb p.fr 6 else (pb p.to 6++pb p.fr 6)++(pb 33024 2++pb (p.vl-4096) 2))++pb p.ty 2
def writeV (p:Pk) (a b:Int):ByteArray :=
 if p.ty=2048 then outerV p++headV p a++partV p b else outerV p++p.data
abbrev noBytes:ByteArray:=⟨#[]⟩
def bytesS (p:Pk):ByteArray:=if rightB p=true∧aheadV p+p.data.size≤1500 then writeV p (sumA p) (sumB p) else noBytes
def bytesE (p:Pk):Int:=if rightB p=true then (if aheadV p+p.data.size≤1500 then 0 else 44) else 1
structure Wf (p:Pk):Prop where
 to0:0≤p.to
 to1:p.to<18446744073709551616
 fr0:0≤p.fr
 fr1:p.fr<18446744073709551616
 src0:0≤p.src
 src1:p.src<4294967296
 dst0:0≤p.dst
 dst1:p.dst<4294967296
structure Ok (p:Pk):Prop where
 to0:0≤p.to
 to1:p.to<281474976710656
 fr0:0≤p.fr
 fr1:p.fr<281474976710656
 vl:p.vl=0∨(4096≤p.vl∧p.vl≤8191)
 ty0:1536≤p.ty
 ty1:p.ty≤65535
 tyn:p.ty≠33024
 src0:0≤p.src
 src1:p.src<4294967296
 dst0:0≤p.dst
 dst1:p.dst<4294967296
 life0:0≤p.life
 life1:p.life≤255
 pro0:0≤p.pro
 pro1:p.pro≤255
 sp0:0≤p.sp
 sp1:p.sp≤65535
 dp0:0≤p.dp
 dp1:p.dp≤65535
 sz:p.data.size≤3000
theorem inB_iff {n lo hi:Int}:inB n lo hi=true↔lo≤n∧n≤hi:=by simp[inB]
theorem right_iff (p:Pk) (h:Wf p):rightB p=true ↔
 p.to<281474976710656∧p.fr<281474976710656∧(p.vl=0∨(4096≤p.vl∧p.vl≤8191))∧(1536≤p.ty∧p.ty≤65535)∧p.ty≠33024 ∧
 (if p.ty=2048 then (0≤p.life∧p.life≤255)∧(0≤p.pro∧p.pro≤255)∧(0≤p.sp∧p.sp≤(if hasB p then 65535 else 0))∧(0≤p.dp∧p.dp≤(if hasB p then 65535 else 0))
  else p.src=0∧p.dst=0∧p.life=0∧p.pro=0∧p.sp=0∧p.dp=0):=by
 have e1:p.to/281474976710656=0↔p.to<281474976710656:=by have:=h.to0;omega
 have e2:p.fr/281474976710656=0↔p.fr<281474976710656:=by have:=h.fr0;omega
 unfold rightB insideB;split<;>simp[inB_iff,e1,e2,and_assoc]
theorem Ok.of_right {p:Pk} (h:Wf p) (hr:rightB p=true) (hs:p.data.size≤3000):Ok p:=by
 obtain⟨a,b,c,⟨d,d'⟩,e,f⟩:=(right_iff p h).1 hr;obtain⟨t0,t1,f0,f1,s0,s1,d0,d1⟩:=h;split at f
 ·obtain⟨⟨l0,l1⟩,⟨p0,p1⟩,⟨q0,q1⟩,r0,r1⟩:=f;have:(if hasB p=true then (65535:Int) else 0)≤65535:=by split<;>omega
  constructor<;>first|assumption|omega
 ·obtain⟨f1,f2,f3,f4,f5,f6⟩:=f;constructor<;>first|assumption|omega
theorem partA_le (p:Pk):partA p≤20:=by unfold partA;split<;>(try split)<;>omega
theorem aheadV_le (p:Pk):aheadV p≤58:=by have:=partA_le p;unfold aheadV;split<;>split<;>omega
theorem sumV_le (l:List UInt8):sumV l≤65535:=by unfold sumV;omega
theorem fixV_le (p:Pk) (n:Nat) (h:n≤65535):fixV p n≤65535:=by unfold fixV;split<;>omega
theorem partSumV_le (p:Pk):partSumV p≤65535:=by
 unfold partSumV;split
 ·exact fixV_le _ _ (sumV_le _)
 ·omega
theorem sumA_le (p:Pk):sumA p≤65535:=by
 unfold sumA;split
 ·exact sumV_le _
 ·omega
theorem sumB_le (p:Pk):sumB p≤65535:=by
 unfold sumB;split
 ·exact partSumV_le _
 ·omega
theorem addrV_size (p:Pk):(addrV p).size=8:=by simp[addrV,pb_size]
theorem portsV_size (p:Pk):(portsV p).size=4:=by simp[portsV,pb_size]
theorem kBegin_size:kBegin.size=2:=rfl
theorem kMark_size:kMark.size=4:=rfl
theorem kTcp_size:kTcp.size=12:=rfl
theorem kEnd_size:kEnd.size=2:=rfl
theorem headV_size (p:Pk) (c:Int):(headV p c).size=20:=by simp only[headV,ByteArray.size_append,pb_size,addrV_size,kBegin_size,kMark_size]
theorem partV_size (p:Pk) (c:Int):(partV p c).size=partZ p:=by
 unfold partV partZ partA;split
 ·simp only[ByteArray.size_append,pb_size,portsV_size,kTcp_size,kEnd_size]
 ·split
  ·simp only[ByteArray.size_append,pb_size,portsV_size]
  ·omega
theorem outerV_size (p:Pk):(outerV p).size=14+(if p.vl=0 then 0 else 4):=by
 unfold outerV;split<;>simp[ByteArray.size_append,pb_size]
theorem pseudoV_size (p:Pk):(pseudoV p).size=12+partZ p:=by
 simp only[pseudoV,ByteArray.size_append,pb_size,addrV_size,partV_size]
theorem writeV_size (p:Pk) (a b:Int) (h:p.ty=2048∨p.pro=0):(writeV p a b).size=aheadV p+p.data.size:=by
 unfold writeV aheadV;split
 ·simp only[ByteArray.size_append,outerV_size,headV_size,partV_size,partZ];omega
 ·have:partA p=0:=by unfold partA;simp[show p.pro=0 by omega]
  simp only[ByteArray.size_append,outerV_size];omega
theorem right_pro {p:Pk} (h:Wf p) (hr:rightB p=true):p.ty=2048∨p.pro=0:=by
 obtain⟨_,_,_,_,_,f⟩:=(right_iff p h).1 hr;split at f
 ·left;assumption
 ·right;exact f.2.2.2.1
theorem within_any (n lo hi:Int) (w:World) :
 Calls prog 195 #[.int .i64 n,.int .i64 lo,.int .i64 hi] w fun x w'=>x=.returned (.bool (inB n lo hi))∧w'=w:=by
 unfold inB;by_cases h1:lo≤n<;>by_cases h2:n≤hi <;>
 ·go_enter func195,ntmps195;go_wp2;go_ret;simp[h1,h2]
theorem hasPorts_any (p:Pk) (w:World) :
 Calls prog 226 #[pkV p] w fun x w'=>x=.returned (.bool (hasB p))∧Below w.heap.size w w':=by
 go_enter func226,ntmps226;go_wp2
 ·go_ret;exact⟨ret_bool (by simp[hasB, *]),by go_grown⟩
 ·go_ret;exact⟨ret_bool (by simp[hasB, *]),by go_grown⟩
theorem partAhead_any (p:Pk) (w:World) :
 Calls prog 197 #[pkV p] w fun x w'=>x=.returned (.int .i64 (partA p))∧Below w.heap.size w w':=by
 go_enter func197,ntmps197;go_wp2
 all_goals
  go_ret;exact⟨ret_int (by simp_all [partA]),by go_grown⟩
theorem ahead_any (p:Pk) (w:World) :
 Calls prog 147 #[pkV p] w fun x w'=>x=.returned (.int .i64 (aheadV p))∧Below w.heap.size w w':=by
 have hp:=partA_le p;go_enter func147,ntmps147;go_wp2_with fail;refine(partAhead_any p _).mono ?_;rintro x w1 ⟨rfl,g1⟩;have hc:=(Bx.new w p).below (by simp) g1;obtain⟨h0,h1,h2,h3,h4,h5,h6,h7,h8,h9,h10⟩:=hc;go_wp2_with fail
 all_goals
  go_ret;exact⟨ret_int (by clear g1;simp_all [aheadV]<;>omega),btr (by go_grown) g1 (by simp)⟩
theorem partSize_any (p:Pk) (w:World) (hs:p.data.size≤3000) :
 Calls prog 228 #[pkV p] w fun x w'=>x=.returned (.int .i64 (partZ p))∧Below w.heap.size w w':=by
 have hp:=partA_le p;have hs':(p.data.size:Int)≤3000:=by omega
 go_enter func228,ntmps228;go_wp2;have hc:∀ n:GrT (bx w p),Bx n.w w.heap.size p:=fun n=>(Bx.new w p).below (by simp) n.h;refine wp_region_grow (by kernel_rfl) (by kernel_rfl) ?_;repeat (go_big_quiet_step (first|(go_at_call 197;exact quiet_gr (partAhead_any p _))))
 refine wpQuiet_nil ?_;rintro w1 hw';have g1:=gr_elim hw';clear hw';go_wp2;go_ret;exact⟨ret_int (by simp[partZ]),btr (by go_grown) g1 (by simp)⟩
theorem rightInside_any (p:Pk) (w:World) :
 Calls prog 196 #[pkV p] w fun x w'=>x=.returned (.bool (insideB p))∧Below w.heap.size w w':=by
 by_cases ht:p.ty=2048
 ·have HT:Hid (insideB p=(inB p.life 0 255&&inB p.pro 0 255&&inB p.sp 0 (if hasB p then 65535 else 0)&&inB p.dp 0 (if hasB p then 65535 else 0))):=by
   unfold Hid insideB;rw[if_pos ht]
  have hb:(p.ty != 2048)=false:=by simp[ht]
  rw[HT.out];clear ht HT;go_enter func196,ntmps196;go_wp2_with fail;refine(hasPorts_any p _).mono ?_;rintro x w1 ⟨rfl,g1⟩;have hc:=(Bx.new w p).below (by simp) g1;obtain⟨h0,h1,h2,h3,h4,h5,h6,h7,h8,h9,h10⟩:=hc;cases hh:hasB p
  all_goals
   go_wp2_with (first|(go_at_call 195;refine(within_any _ _ _ _).mono ?_;rintro x w2 ⟨rfl,rfl⟩))
   all_goals
    go_ret;exact⟨ret_bool (by simp[*]),btr (by go_grown) g1 (by simp)⟩
 ·have HT:Hid (insideB p=(p.src==0&&p.dst==0&&p.life==0&&p.pro==0&&p.sp==0&&p.dp==0)):=by
   unfold Hid insideB;rw[if_neg ht]
  have hb:(p.ty != 2048)=true:=by simp[ht]
  rw[HT.out];clear ht HT;go_enter func196,ntmps196;go_wp2
  all_goals
   go_ret;exact⟨ret_bool (by simp[*]),by go_grown⟩
theorem rightP_any (p:Pk) (w:World) :
 Calls prog 146 #[pkV p] w fun x w'=>x=.returned (.bool (rightB p))∧Below w.heap.size w w':=by
 unfold rightB;cases hA:(p.to/281474976710656==0)
 ·go_enter func146,ntmps146;go_wp2_with  (first|(go_at_call 195;refine(within_any _ _ _ _).mono ?_;rintro x w2 ⟨rfl,rfl⟩)|(go_at_call 196;refine(rightInside_any p _).mono ?_;rintro x w2 ⟨rfl,g2⟩));go_ret;exact⟨ret_bool (by simp),by go_grown⟩
 cases hB:(p.fr/281474976710656==0)
 ·go_enter func146,ntmps146;go_wp2_with  (first|(go_at_call 195;refine(within_any _ _ _ _).mono ?_;rintro x w2 ⟨rfl,rfl⟩)|(go_at_call 196;refine(rightInside_any p _).mono ?_;rintro x w2 ⟨rfl,g2⟩));go_ret;exact⟨ret_bool (by simp),by go_grown⟩
 cases hC:(p.vl==0)
 ·cases hV:inB p.vl 4096 8191
  ·go_enter func146,ntmps146;go_wp2_with (first|(go_at_call 195;refine(within_any _ _ _ _).mono ?_;rintro x w2 ⟨rfl,rfl⟩)|(go_at_call 196;refine(rightInside_any p _).mono ?_;rintro x w2 ⟨rfl,g2⟩));go_ret;exact⟨ret_bool (by simp),by go_grown⟩
  cases hD:inB p.ty 1536 65535
  ·go_enter func146,ntmps146;go_wp2_with (first|(go_at_call 195;refine(within_any _ _ _ _).mono ?_;rintro x w2 ⟨rfl,rfl⟩)|(go_at_call 196;refine(rightInside_any p _).mono ?_;rintro x w2 ⟨rfl,g2⟩));go_ret;exact⟨ret_bool (by simp),by go_grown⟩
  cases hE:(p.ty != 33024)
  ·go_enter func146,ntmps146;go_wp2_with (first|(go_at_call 195;refine(within_any _ _ _ _).mono ?_;rintro x w2 ⟨rfl,rfl⟩)|(go_at_call 196;refine(rightInside_any p _).mono ?_;rintro x w2 ⟨rfl,g2⟩));go_ret;exact⟨ret_bool (by simp),by go_grown⟩
  go_enter func146,ntmps146;go_wp2_with (first|(go_at_call 195;refine(within_any _ _ _ _).mono ?_;rintro x w2 ⟨rfl,rfl⟩)|(go_at_call 196;refine(rightInside_any p _).mono ?_;rintro x w2 ⟨rfl,g2⟩));go_ret;exact⟨ret_bool (by simp),btr (by go_grown) g2 (by simp)⟩
 cases hD:inB p.ty 1536 65535
 ·go_enter func146,ntmps146;go_wp2_with (first|(go_at_call 195;refine(within_any _ _ _ _).mono ?_;rintro x w2 ⟨rfl,rfl⟩)|(go_at_call 196;refine(rightInside_any p _).mono ?_;rintro x w2 ⟨rfl,g2⟩));go_ret;exact⟨ret_bool (by simp),by go_grown⟩
 cases hE:(p.ty != 33024)
 ·go_enter func146,ntmps146;go_wp2_with (first|(go_at_call 195;refine(within_any _ _ _ _).mono ?_;rintro x w2 ⟨rfl,rfl⟩)|(go_at_call 196;refine(rightInside_any p _).mono ?_;rintro x w2 ⟨rfl,g2⟩));go_ret;exact⟨ret_bool (by simp),by go_grown⟩
 go_enter func146,ntmps146;go_wp2_with (first|(go_at_call 195;refine(within_any _ _ _ _).mono ?_;rintro x w2 ⟨rfl,rfl⟩)|(go_at_call 196;refine(rightInside_any p _).mono ?_;rintro x w2 ⟨rfl,g2⟩));go_ret;exact⟨ret_bool (by simp),btr (by go_grown) g2 (by simp)⟩
theorem addresses_any (p:Pk) (w:World) (h:Ok p) :
 Calls prog 230 #[pkV p] w fun x w'=>x=.returned (.string (addrV p))∧Below w.heap.size w w':=by
 have hz:∀ n k,(pb n k).size=k:=pb_size;obtain⟨_,_,_,_,_,_,_,_,s0,s1,d0,d1,_⟩:=h;go_enter func230,ntmps230;go_wp2;have hc:∀ n:GrT (bx w p),Bx n.w w.heap.size p:=fun n=>(Bx.new w p).below (by simp) n.h;refine wp_region_grow (by kernel_rfl) (by kernel_rfl) ?_;repeat (go_big_quiet_step (first|(go_at_call 198;exact quiet_gr (put4 _ _ (by assumption) (by assumption)))))
 refine wpQuiet_nil ?_;rintro w1 hw';have g1:=gr_elim hw';clear hw';go_wp2;go_ret;exact⟨rfl,btr (by go_grown) g1 (by simp)⟩
theorem ports_any (p:Pk) (w:World) (h:Ok p) :
 Calls prog 231 #[pkV p] w fun x w'=>x=.returned (.string (portsV p))∧Below w.heap.size w w':=by
 have hz:∀ n k,(pb n k).size=k:=pb_size;obtain⟨_,_,_,_,_,_,_,_,_,_,_,_,_,_,_,_,s0,s1,d0,d1,_⟩:=h;go_enter func231,ntmps231;go_wp2;have hc:∀ n:GrT (bx w p),Bx n.w w.heap.size p:=fun n=>(Bx.new w p).below (by simp) n.h;refine wp_region_grow (by kernel_rfl) (by kernel_rfl) ?_;repeat (go_big_quiet_step (first|(go_at_call 199;exact quiet_gr (two_any _ _ (by omega) (by omega)))))
 refine wpQuiet_nil ?_;rintro w1 hw';have g1:=gr_elim hw';clear hw';go_wp2;go_ret;exact⟨rfl,btr (by go_grown) g1 (by simp)⟩
theorem head_any (p:Pk) (c:Int) (w:World) (h:Ok p) (c0:0≤c) (c1:c≤65535) :
 Calls prog 200 #[pkV p,.int .i64 c] w fun x w'=>x=.returned (.string (headV p c))∧Below w.heap.size w w':=by
 have hz:∀ n k,(pb n k).size=k:=pb_size;have ha:=addrV_size p;have HO:Hid (Ok p):=h;have hl0:=h.life0;have hl1:=h.life1;have hp0:=h.pro0;have hp1:=h.pro1;have hq:(partZ p:Int)≤3020:=by have:=h.sz;have:=partA_le p;unfold partZ;omega
 clear h;go_enter func200,ntmps200;go_wp2;have hc:∀ n:GrT (bx w p),Bx n.w w.heap.size p:=fun n=>(Bx.new w p).below (by simp) n.h;refine wp_region_grow (by kernel_rfl) (by kernel_rfl) ?_
 repeat (go_big_quiet_step (first
  | (go_at_call 228;exact quiet_gr (partSize_any p _ HO.out.sz))
  | (go_at_call 199;exact quiet_gr (two_any _ _ (by omega) (by omega)))
  | (go_at_call 229;exact quiet_gr (one_any _ _ (by omega) (by omega)))
  | (go_at_call 230;exact quiet_gr (addresses_any p _ HO.out))))
 refine wpQuiet_nil ?_;rintro w1 hw';have g1:=gr_elim hw';clear hw';go_wp2;go_ret;exact⟨rfl,btr (by go_grown) g1 (by simp)⟩
theorem part_any (p:Pk) (c:Int) (w:World) (h:Ok p) (c0:0≤c) (c1:c≤65535) :
 Calls prog 201 #[pkV p,.int .i64 c] w fun x w'=>x=.returned (.string (partV p c))∧Below w.heap.size w w':=by
 have hz:∀ n k,(pb n k).size=k:=pb_size;have ha:=portsV_size p;have hd:(p.data.size:Int)≤3000:=by have:=h.sz;omega
 have HO:Hid (Ok p):=h;have hq:(partZ p:Int)≤3020:=by have:=h.sz;have:=partA_le p;unfold partZ;omega
 clear h;unfold partV;by_cases h6:p.pro=6
 ·have b6:(p.pro==6)=true:=by simp[h6]
  rw[if_pos h6];clear h6;go_enter func201,ntmps201;go_wp2_with fail;have hc:∀ n:GrT (bx w p),Bx n.w w.heap.size p:=fun n=>(Bx.new w p).below (by simp) n.h;refine wp_region_grow (by kernel_rfl) (by kernel_rfl) ?_
  repeat (go_big_quiet_step (first
   | (go_at_call 231;exact quiet_gr (ports_any p _ HO.out))
   | (go_at_call 199;exact quiet_gr (two_any _ _ (by omega) (by omega)))))
  refine wpQuiet_nil ?_;rintro w1 hw';have g1:=gr_elim hw';clear hw';go_wp2;go_ret;exact⟨rfl,btr (by go_grown) g1 (by simp)⟩
 have b6:(p.pro==6)=false:=by simp[h6]
 rw[if_neg h6];clear h6;by_cases h17:p.pro=17
 ·have b17:(p.pro==17)=true:=by simp[h17]
  rw[if_pos h17];clear h17;go_enter func201,ntmps201;go_wp2_with fail;have hc:∀ n:GrT (bx w p),Bx n.w w.heap.size p:=fun n=>(Bx.new w p).below (by simp) n.h;refine wp_region_grow (by kernel_rfl) (by kernel_rfl) ?_
  repeat (go_big_quiet_step (first
   | (go_at_call 231;exact quiet_gr (ports_any p _ HO.out))
   | (go_at_call 228;exact quiet_gr (partSize_any p _ HO.out.sz))
   | (go_at_call 199;exact quiet_gr (two_any _ _ (by omega) (by omega)))))
  refine wpQuiet_nil ?_;rintro w1 hw';have g1:=gr_elim hw';clear hw';go_wp2;go_ret;exact⟨rfl,btr (by go_grown) g1 (by simp)⟩
 ·have b17:(p.pro==17)=false:=by simp[h17]
  rw[if_neg h17];clear h17;go_enter func201,ntmps201;go_wp2;go_ret;exact⟨rfl,by go_grown⟩
theorem partSum_any (p:Pk) (w:World) (h:Ok p) :
 Calls prog 203 #[pkV p] w fun x w'=>x=.returned (.int .i64 (partSumV p))∧Below w.heap.size w w':=by
 have hz:∀ n k,(pb n k).size=k:=pb_size;have ha:=addrV_size p;have hpv:=partV_size p 0;have HO:Hid (Ok p):=h;have hp0:=h.pro0;have hp1:=h.pro1;have hq:(partZ p:Int)≤3020:=by have:=h.sz;have:=partA_le p;unfold partZ;omega
 have HQ:Hid ((pseudoV p).size≤1000000):=by unfold Hid;rw[pseudoV_size];omega
 clear h;unfold partSumV;cases hh:hasB p
 ·go_enter func203,ntmps203;go_wp2_with fail;refine(hasPorts_any p _).mono ?_;rintro x w1 ⟨rfl,g1⟩;go_wp2_with fail;go_ret;exact⟨rfl,btr (by go_grown) g1 (by simp)⟩
 ·rw[if_pos rfl];unfold fixV;have HS:∀ w,Calls prog 202 #[.string (addrV p++pb p.pro 2++pb (partZ p:Int) 2++partV p 0)] w fun x w'=>x=.returned (.int .i64 (sumV (pseudoV p).data.toList))∧w'=w:=fun w=>sum_any (pseudoV p) w HQ.out;have hN:=sumV_le (pseudoV p).data.toList;generalize sumV (pseudoV p).data.toList=N at HS hN ⊢;have hS:Hid (∀ w,Calls prog 202 #[.string (addrV p++pb p.pro 2++pb (partZ p:Int) 2++partV p 0)] w fun x w'=>x=.returned (.int .i64 N)∧w'=w):=HS;clear HS;go_enter func203,ntmps203;go_wp2_with fail;refine(hasPorts_any p _).mono ?_;rintro x w1 ⟨rfl,g1⟩;have hb:=(Bx.new w p).below (by simp) g1;go_wp2_with fail;have hc:∀ n:GrT w1,Bx n.w w.heap.size p:=fun n=>hb.below (Nat.lt_of_lt_of_le (by simp) g1.size) n.h;refine wp_region_grow (by kernel_rfl) (by kernel_rfl) ?_
  repeat (go_big_quiet_step (first
   | (go_at_call 230;exact quiet_gr (addresses_any p _ HO.out))
   | (go_at_call 228;exact quiet_gr (partSize_any p _ HO.out.sz))
   | (go_at_call 201;exact quiet_gr (part_any p 0 _ HO.out (by omega) (by omega)))
   | (go_at_call 202;exact quiet_gs (hS.out _))
   | (go_at_call 199;exact quiet_gr (two_any _ _ (by omega) (by omega)))))
  refine wpQuiet_nil ?_;rintro w2 hw';have g2:=gr_elim hw';clear hw';have hb2:Bx w2 w.heap.size p:=hc (some ⟨_,g2⟩);obtain⟨h0,h1,h2,h3,h4,h5,h6,h7,h8,h9,h10⟩:=hb2;clear hc;clear hz ha hpv;go_wp2
  all_goals
   go_ret;exact⟨ret_int (by simp_all),btr (btr (by go_grown) g1 (by simp)) g2 (by simp)⟩
abbrev Sx (w:World) (b:Nat) (x y:Int):Prop:=w.cell? ⟨b,0,none⟩=some (.int .i64 x)∧w.cell? ⟨b,1,none⟩=some (.int .i64 y)
theorem Sx.below {w w':World} {b B:Nat} {x y:Int} (h:Sx w b x y) (hb:b<B) (g:Below B w w'):Sx w' b x y:=⟨(g.cell hb).trans h.1,(g.cell hb).trans h.2⟩
theorem load40 (w:World) (b:Nat) (x y:Int) (h:Sx w b x y):(loadVar 216 ⟨b,0,none⟩).run prog w=.ok (.agg #[.int .i64 x,.int .i64 y]) w:=by
 obtain⟨h0,h1⟩:=h;simp[go_sem, *]
theorem res40 {fn:Func} {t:Tmp} (h:fn.results=#[.cell t 216]) {tmps:Array Value} {w:World} {b:Nat} {x y:Int} (ht:tmps.getD t undef=.pointer (some ⟨b,0,none⟩)) (hs:Sx w b x y) :
 (results fn tmps).run prog w=.ok (.agg #[.int .i64 x,.int .i64 y]) w:=by
 have ht':tmps[t]?.getD undef=.pointer (some ⟨b,0,none⟩):=by simpa using ht
 simp[results,h,ht',asAddr,load40 w b x y hs]
abbrev Rx (w:World) (b:Nat):Prop:=w.cell? ⟨b,0,none⟩=some (.int .i64 0)∧w.cell? ⟨b,1,none⟩=some (.int .i64 0)∧w.frozen? ⟨b,0,none⟩=false∧w.frozen? ⟨b,1,none⟩=false
theorem Rx.below {w w':World} {b B:Nat} (h:Rx w b) (hb:b<B) (g:Below B w w'):Rx w' b:=⟨(g.cell hb).trans h.1,(g.cell hb).trans h.2.1,(g.frozen hb).trans h.2.2.1,(g.frozen hb).trans h.2.2.2⟩
theorem sumsOf_any (p:Pk) (w:World) (h:Ok p) :
 Calls prog 149 #[pkV p] w fun x w'=>x=.returned (.agg #[.int .i64 (sumA p),.int .i64 (sumB p)])∧Below w.heap.size w w':=by
 have HO:Hid (Ok p):=h;clear h;unfold sumA sumB;by_cases ht:p.ty=2048
 ·have bt:(p.ty != 2048)=false:=by simp[ht]
  rw[if_pos ht,if_pos ht];clear ht;have hS:Hid (∀ w,Calls prog 202 #[.string (headV p 0)] w fun x w'=>x=.returned (.int .i64 (headSumV p))∧w'=w):=fun w=>sum_any (headV p 0) w (by rw[headV_size];omega);have gb:Below (bx w p).heap.size (bx w p) ((bx w p).alloc (.cells #[.int .i64 0,.int .i64 0] 216)):=by go_grown
  have hb:Bx ((bx w p).alloc (.cells #[.int .i64 0,.int .i64 0] 216)) w.heap.size p:=(Bx.new w p).below (by simp[bx]) gb;have hr:Rx ((bx w p).alloc (.cells #[.int .i64 0,.int .i64 0] 216)) (w.heap.size+1):=by unfold Rx bx;simp
  go_enter func149,ntmps149;go_wp2_with fail;have hbd:Bx ((bx w p).alloc (.cells #[.int .i64 0,.int .i64 0] 216)).drew w.heap.size p:=hb;have hrd:Rx ((bx w p).alloc (.cells #[.int .i64 0,.int .i64 0] 216)).drew (w.heap.size+1):=hr
  go_region_with (first
   | (go_at_call 200;refine(head_any p 0 _ HO.out (by omega) (by omega)).mono ?_;rintro x w1 ⟨rfl,g1⟩;have hb1:=hbd.below (by simp<;>omega) g1;obtain⟨i0,i1,i2,i3,i4,i5,i6,i7,i8,i9,i10⟩:=hb1;have r1:=hrd.below (by simp<;>omega) g1;obtain⟨j0,j1,j2,j3⟩:=id r1)
   | (go_at_call 202;refine(hS.out _).mono ?_;rintro x w2 ⟨rfl,rfl⟩)
   | (go_at_call 203;refine(partSum_any p _ HO.out).mono ?_;rintro x w3 ⟨rfl,g3⟩;have r2:=Rx.below ⟨j0,j1,j2,j3⟩ (Nat.lt_of_lt_of_le (by simp<;>omega) g1.size) g3;obtain⟨k0,k1,k2,k3⟩:=r2))
  all_goals
   go_wp2;refine bodyPost_ret (res40 (b:=w.heap.size+1) (x:=headSumV p) (y:=partSumV p) rfl rfl ?_) rfl ?_
   ·exact⟨(World.cell?_setCell_other _ _ _ _ (by simp)).trans (World.cell?_setCell_same _ _ _ k0),World.cell?_setCell_same _ _ _ ((World.cell?_setCell_other _ _ _ _ (by simp)).trans k1)⟩
   ·exact⟨rfl,((btr (btr (by go_grown) g1 (by simp<;>omega)) g3 (by simp<;>omega)).setCell (by simp) _).setCell (by simp) _⟩
 ·have bt:(p.ty != 2048)=true:=by simp[ht]
  rw[if_neg ht,if_neg ht];clear ht;go_enter func149,ntmps149;go_wp2;refine bodyPost_ret (res40 (b:=w.heap.size+1) (x:=0) (y:=0) rfl rfl (by unfold Sx;simp)) rfl ?_;exact⟨rfl,by go_grown⟩
end Fr
end Go.Proofs.YtgnihbdcdefdgaaGreatDoor

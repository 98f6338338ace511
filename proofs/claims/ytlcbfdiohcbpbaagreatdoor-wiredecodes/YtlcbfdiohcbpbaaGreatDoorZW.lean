import Derived.Test.YtlcbfdiohcbpbaaGreatDoorZA2
import Derived.Test.YtlcbfdiohcbpbaaGreatDoorZB
import Derived.Test.YtlcbfdiohcbpbaaGreatDoorShelf
import Derived.Test.YtlcbfdiohcbpbaaGreatDoorZA3
import Derived.Deep.MidRow
namespace Go.Proofs.YtlcbfdiohcbpbaaGreatDoor
set_option maxHeartbeats 8000000
set_option maxRecDepth 20000
abbrev B3:=Int × Int × List A
structure Msg where
 kind:Int
 xid:Int
 cmd:Int
 chk:Bool
 pri:Int
 ts:List Mt.T
 sp:Sp
 gid:Int
 gkd:Int
 gb:List B3
 mid:Int
 mra:Int
 mbu:Int
 typ:Int
 cod:Int
 prt:Int
 live:Bool
 la:List A
 dat:ByteArray
def inB (n lo hi:Int):Bool:=decide (lo≤n) && decide (n≤hi)
theorem inB_iff {n lo hi:Int}:inB n lo hi=true↔lo≤n∧n≤hi:=by simp [inB]
def okA (l:List A):Bool:=encodeE l == 0
def bkB (b:B3):Bool:=inB b.1 0 65535 && inB b.2.1 0 65535 && decide (b.2.2.length≤8) && okA b.2.2
def grB (gid gkd:Int) (gb:List B3):Bool:=inB gid 1 65535 && inB gkd 1 4 && decide (gb.length≤16) && gb.all bkB
def entB (pri:Int) (ts:List Mt.T) (sp:Sp):Bool:=inB pri 0 65535 && (Mt.rightE ts == 0) && (rightX sp == 0)
def meB (a b c:Int):Bool:=inB a 1 16 && inB b 0 4294967295 && inB c 0 4294967295
def ownB (m:Msg):Bool :=
 if m.kind=0∨m.kind=20∨m.kind=21 then true
 else if m.kind=1 then inB m.typ 0 65535 && inB m.cod 0 65535 && decide (m.dat.size≤64)
 else if m.kind=2∨m.kind=3 then decide (m.dat.size≤1000)
 else if m.kind=12 then inB m.prt 1 16
 else if m.kind=13 then inB m.prt 0 16 && okA m.la && decide (m.dat.size≤1500)
 else if m.kind=14 then inB m.cmd 0 4 && entB m.pri m.ts m.sp
 else if m.kind=15 then inB m.cmd 0 2 && grB m.gid m.gkd m.gb
 else if m.kind=29 then inB m.cmd 0 2 && meB m.mid m.mra m.mbu
 else false
def noSp (s:Sp):Bool:=s.tab == 0 && s.la.length == 0 && s.lw.length == 0 && !s.clr && s.mt == 0 && s.mm == 0 && s.met == 0 && s.go == 0
def noEnt (pri:Int) (ts:List Mt.T) (s:Sp):Bool:=pri == 0 && ts.length == 0 && noSp s
def noGrp (gid gkd:Int) (gb:List B3):Bool:=gid == 0 && gkd == 0 && gb.length == 0
def noMet (a b c:Int):Bool:=a == 0 && b == 0 && c == 0
def bareB (m:Msg):Bool :=
 (m.kind == 14 || m.kind == 15 || m.kind == 29 || m.cmd == 0) && (m.kind == 14 || !m.chk) && (m.kind == 14 || noEnt m.pri m.ts m.sp) && (m.kind == 15 || noGrp m.gid m.gkd m.gb) &&
 (m.kind == 29 || noMet m.mid m.mra m.mbu) && (m.kind == 1 || m.typ == 0) && (m.kind == 1 || m.cod == 0) && (m.kind == 12 || m.kind == 13 || m.prt == 0) && (m.kind == 12 || !m.live) &&
 (m.kind == 13 || m.la.length == 0) && (m.kind == 1 || m.kind == 2 || m.kind == 3 || m.kind == 13 || m.dat.size == 0)
def rightM (m:Msg):Bool:=inB m.xid 0 4294967295 && ownB m && bareB m
def gap1:ByteArray:=⟨#[0]⟩
def gap2:ByteArray:=⟨#[0,0]⟩
def ff4:ByteArray:=⟨#[255,255,255,255]⟩
def ff12:ByteArray:=⟨#[255,255,255,255,255,255,255,255,255,255,255,255]⟩
def wat (n:Int):Int:=if n=0 then 4294967295 else n
def bkS (b:B3):ByteArray:=pb (16 + ((encodeS b.2.2).size:Int)) 2 ++ pb b.2.1 2 ++ pb (wat b.1) 4 ++ ff4 ++ gap4 ++ encodeS b.2.2
def bksS (l:List B3):ByteArray:=l.foldr (fun b s=>bkS b ++ s) ⟨#[]⟩
def dwn (b:Bool):Int:=if b then 0 else 1
def flg (b:Bool):Int:=if b then 2 else 0
def portS (p:Int) (b:Bool):ByteArray:=pb 2 1 ++ gap3 ++ gap4 ++ pb p 4 ++ zeros 32 ++ pb (dwn b) 4 ++ zeros 24
def packS (p:Int) (l:List A) (d:ByteArray):ByteArray:=ff4 ++ pb p 4 ++ pb ((encodeS l).size:Int) 2 ++ gap4 ++ gap2 ++ encodeS l ++ d
def flowS (cmd:Int) (chk:Bool) (pri:Int) (ts:List Mt.T) (s:Sp):ByteArray:=zeros 16 ++ pb s.tab 1 ++ pb cmd 1 ++ gap4 ++ pb pri 2 ++ ff12 ++ pb (flg chk) 2 ++ gap2 ++ Mt.encodeS ts ++ encodeX s
def grpS (cmd gid gkd:Int) (gb:List B3):ByteArray:=pb cmd 2 ++ pb (gkd - 1) 1 ++ gap1 ++ pb gid 4 ++ bksS gb
def metS (cmd a b c:Int):ByteArray:=pb cmd 2 ++ pb 5 2 ++ pb a 4 ++ pb 65552 4 ++ pb b 4 ++ pb c 4 ++ gap4
def bodyM (m:Msg):ByteArray :=
 if m.kind=1 then pb m.typ 2 ++ pb m.cod 2 ++ m.dat
 else if m.kind=2∨m.kind=3 then m.dat
 else if m.kind=12 then portS m.prt m.live
 else if m.kind=13 then packS m.prt m.la m.dat
 else if m.kind=14 then flowS m.cmd m.chk m.pri m.ts m.sp
 else if m.kind=15 then grpS m.cmd m.gid m.gkd m.gb
 else if m.kind=29 then metS m.cmd m.mid m.mra m.mbu
 else ⟨#[]⟩
def allM (m:Msg):ByteArray:=pb 4 1 ++ pb m.kind 1 ++ pb (8 + ((bodyM m).size:Int)) 2 ++ pb m.xid 4 ++ bodyM m
def encM (m:Msg):ByteArray:=if rightM m=true then allM m else ⟨#[]⟩
def errM (m:Msg):Int:=if rightM m=true then 0 else 1
structure KF (k:Int) (b0 b1 b2 b3 b12 b13 b14 b15 b20 b21 b29:Bool):Prop where
 k0:(k == 0)=b0
 k1:(k == 1)=b1
 k2:(k == 2)=b2
 k3:(k == 3)=b3
 k12:(k == 12)=b12
 k13:(k == 13)=b13
 k14:(k == 14)=b14
 k15:(k == 15)=b15
 k20:(k == 20)=b20
 k21:(k == 21)=b21
 k29:(k == 29)=b29
theorem kinds (k:Int):k=0∨k=1∨k=2∨k=3∨k=12∨k=13∨k=14∨k=15∨k=20∨k=21∨k=29∨KF k false false false false false false false false false false false:=by
 by_cases h0:k=0
 ·exact .inl h0
 by_cases h1:k=1
 ·exact .inr (.inl h1)
 by_cases h2:k=2
 ·exact .inr (.inr (.inl h2))
 by_cases h3:k=3
 ·exact .inr (.inr (.inr (.inl h3)))
 by_cases h12:k=12
 ·exact .inr (.inr (.inr (.inr (.inl h12))))
 by_cases h13:k=13
 ·exact .inr (.inr (.inr (.inr (.inr (.inl h13)))))
 by_cases h14:k=14
 ·exact .inr (.inr (.inr (.inr (.inr (.inr (.inl h14))))))
 by_cases h15:k=15
 ·exact .inr (.inr (.inr (.inr (.inr (.inr (.inr (.inl h15)))))))
 by_cases h20:k=20
 ·exact .inr (.inr (.inr (.inr (.inr (.inr (.inr (.inr (.inl h20))))))))
 by_cases h21:k=21
 ·exact .inr (.inr (.inr (.inr (.inr (.inr (.inr (.inr (.inr (.inl h21)))))))))
 by_cases h29:k=29
 ·exact .inr (.inr (.inr (.inr (.inr (.inr (.inr (.inr (.inr (.inr (.inl h29))))))))))
 ·refine .inr (.inr (.inr (.inr (.inr (.inr (.inr (.inr (.inr (.inr (.inr ⟨?_,?_,?_,?_,?_,?_,?_,?_,?_,?_,?_⟩)))))))))) <;> (rw [beq_eq_false_iff_ne];assumption)
theorem okA_few {l:List A} (h:okA l=true):allB l=true∧l.length≤32∧encodeS l=encL l:=by
 have h0:encodeE l=0:=by simpa [okA] using h
 have h1:encodeS l=encL l:=by unfold encodeS;rw [if_pos h0]
 unfold encodeE at h0
 split at h0
 ·next ha =>
  split at h0
  ·next hl=>exact ⟨ha,hl,h1⟩
  ·cases h0
 ·cases h0
theorem encS_le (l:List A):(encodeS l).size≤512:=by
  unfold encodeS
  split
  · next h =>
    obtain ⟨ha,hl,_⟩:=okA_few (l:=l) (by simp [okA,h])
    have:∀ l:List A,allB l=true→(encL l).size≤16 * l.length:=by
      intro l
      induction l with
      | nil=>intro _;exact Nat.zero_le _
      | cons a l ih =>
        intro h
        simp only [allB,List.all_cons,Bool.and_eq_true] at h
        have h1:=write_size h.1
        have h2:=ih h.2
        simp only [encL,List.foldr_cons,ByteArray.size_append,List.length_cons] at h2 ⊢
        omega
    have:=this l ha
    omega
  · exact Nat.zero_le _
theorem menc_le (l:List Mt.T):(Mt.encodeS l).size≤200:=by
 unfold Mt.encodeS
 split
 ·next h =>
  have h1:=Mt.body_right l h
  have h2:=Mt.encS_size l
  have h3:=Mt.padV_lt (4 + (Mt.bodyGo [] l).size)
  omega
 ·exact Nat.zero_le _
theorem encodeX_le (s:Sp):(encodeX s).size≤6048:=by
 unfold encodeX
 split
 ·exact encX_size s
 ·exact Nat.zero_le _
theorem ff4_size:ff4.size=4:=rfl
theorem ff12_size:ff12.size=12:=rfl
theorem gap1_size:gap1.size=1:=rfl
theorem gap2_size:gap2.size=2:=rfl
theorem gap3_size:gap3.size=3:=rfl
theorem gap4_size:gap4.size=4:=rfl
theorem bkS_size (b:B3):(bkS b).size=16 + (encodeS b.2.2).size:=by
 unfold bkS;simp only [ByteArray.size_append,pb_size,ff4_size,gap4_size]
theorem bkS_le (b:B3):(bkS b).size≤528:=by rw [bkS_size];have:=encS_le b.2.2;omega
theorem bks_le:∀ l:List B3,(bksS l).size≤528 * l.length
  | []=>Nat.zero_le _
  | b :: l=>by
    have h1:=bkS_le b
    have h2:=bks_le l
    simp only [bksS,List.foldr_cons,ByteArray.size_append,List.length_cons] at h2 ⊢
    omega
theorem bks_append (l m:List B3):bksS (l ++ m)=bksS l ++ bksS m:=by
  induction l with
  | nil=>exact (e_ap _).symm
  | cons b l ih =>
    show bkS b ++ bksS (l ++ m)=bkS b ++ bksS l ++ bksS m
    rw [ih,ap_assoc]
theorem bks_one (b:B3):bksS [b]=bkS b:=ap_e _
theorem grB_few {a b:Int} {l:List B3} (h:grB a b l=true):l.length≤16∧1≤a∧a≤65535∧1≤b∧b≤4∧∀ x ∈ l,bkB x=true:=by
 unfold grB at h
 simp only [Bool.and_eq_true,inB_iff,decide_eq_true_eq,List.all_eq_true] at h
 obtain ⟨⟨⟨⟨h1,h2⟩,h3,h4⟩,h5⟩,h6⟩:=h
 exact ⟨h5,h1,h2,h3,h4,h6⟩
open Go.ChangeShapes Go.WideShapes Go.ChangeAt Go.RowKit
structure Bk where
 wa:Int
 we:Int
 a:Option Addr
 l:List A
 c:Nat
def Bk.b3 (b:Bk):B3:=(b.wa,b.we,b.l)
abbrev bkV (b:Bk):Value:=.agg #[.int .i64 b.wa,.int .i64 b.we,.slice b.a b.l.length b.c]
abbrev bkC (b:Bk):Array Value:=#[.int .i64 b.wa,.int .i64 b.we,.slice b.a b.l.length b.c]
abbrev bx (w:World) (b:Bk):World:=w.alloc (.cells (bkC b) 53)
abbrev Cb (w:World) (g o:Nat) (b:Bk):Prop:=w.cell? ⟨g,o,none⟩=some (.int .i64 b.wa)∧w.cell? ⟨g,o + 1,none⟩=some (.int .i64 b.we)∧w.cell? ⟨g,o + 2,none⟩=some (.slice b.a b.l.length b.c)
theorem Cb.new (w:World) (t:Bk):Cb (bx w t) w.heap.size 0 t:=by unfold Cb bx;simp
theorem Cb.block {w w':World} {b o:Nat} {t:Bk} (h:Cb w b o t) (g:w'.heap[b]? = w.heap[b]?):Cb w' b o t:=by
 obtain ⟨h0,h1,h2⟩:=h
 have e:∀ o,w'.cell? ⟨b,o,none⟩=w.cell? ⟨b,o,none⟩:=fun o=>World.cell?_of_block (w:=w) g
 exact ⟨(e _).trans h0,(e _).trans h1,(e _).trans h2⟩
theorem Cb.below {w w':World} {b o B:Nat} {t:Bk} (h:Cb w b o t) (hb:b < B) (g:Below B w w'):Cb w' b o t:=h.block (g.block b hb)
theorem Cb.gr {W:World} {b o:Nat} {t:Bk} (h:Cb W b o t) (hb:b < W.heap.size) (n:GrT W):Cb n.w b o t:=h.below hb n.h
structure BW (w:World) (b:Bk):Prop where
 t:Ts w b.a b.l
 n:b.l.length≤1000
theorem BW.below {w w':World} {b:Bk} (h:BW w b) (g:Below w.heap.size w w'):BW w' b:=⟨h.t.below g,h.n⟩
def Bs (w:World) (a:Option Addr) (l:List Bk):Prop :=
 (∀ b ∈ l,BW w b)∧(l=[]∨∃ g o,a=some ⟨g,o,none⟩∧g < w.heap.size∧∀ i (h:i < l.length),Cb w g (o + i * 3) l[i])
theorem Bs.below {w w':World} {a:Option Addr} {l:List Bk} (h:Bs w a l) (g:Below w.heap.size w w'):Bs w' a l:=by
 refine ⟨fun b hb=>(h.1 b hb).below g,?_⟩
 rcases h.2 with h | ⟨b,o,ha,hb,hc⟩
 ·exact .inl h
 ·exact .inr ⟨b,o,ha,Nat.lt_of_lt_of_le hb g.size,fun i hi=>(hc i hi).below hb g⟩
theorem Bs.at {w:World} {a:Option Addr} {l:List Bk} (h:Bs w a l) {k:Nat} (hk:k < l.length):∃ g o,a=some ⟨g,o,none⟩∧g < w.heap.size∧∀ i (h:i < l.length),Cb w g (o + i * 3) l[i]:=by
 rcases h.2 with rfl | h
 ·cases hk
 ·exact h
theorem Bs.alloc {w:World} {a:Option Addr} {l:List Bk} (h:Bs w a l) (o:Obj):Bs (w.alloc o) a l:=h.below (by go_grown)
structure Ms where
 kind:Int
 xid:Int
 cmd:Int
 chk:Bool
 en:En
 ts:List Mt.T
 gid:Int
 gkd:Int
 ga:Option Addr
 gb:List Bk
 gc:Nat
 mid:Int
 mra:Int
 mbu:Int
 typ:Int
 cod:Int
 prt:Int
 live:Bool
 aa:Option Addr
 la:List A
 ca:Nat
 dat:ByteArray
def Ms.msg (m:Ms):Msg:=⟨m.kind,m.xid,m.cmd,m.chk,m.en.pri,m.ts,m.en.sp,m.gid,m.gkd,m.gb.map Bk.b3,m.mid,m.mra,m.mbu,m.typ,m.cod,m.prt,m.live,m.la,m.dat⟩
abbrev msV (m:Ms):Value:=.agg #[.int .i64 m.kind,.int .i64 m.xid,.int .i64 m.cmd,.bool m.chk,.int .i64 m.en.tab,.int .i64 m.en.pri,.slice m.en.ta m.en.tl m.en.tc,.slice m.en.aa m.en.la.length m.en.ca,.slice m.en.aw m.en.lw.length m.en.cw,.bool m.en.clr,.int .u64 m.en.mt,.int .u64 m.en.mm,.int .i64 m.en.met,.int .i64 m.en.go,.int .i64 m.gid,.int .i64 m.gkd,.slice m.ga m.gb.length m.gc,.int .i64 m.mid,.int .i64 m.mra,.int .i64 m.mbu,.int .i64 m.typ,.int .i64 m.cod,.int .i64 m.prt,.bool m.live,.slice m.aa m.la.length m.ca,.string m.dat]
abbrev msC (m:Ms):Array Value:=#[.int .i64 m.kind,.int .i64 m.xid,.int .i64 m.cmd,.bool m.chk,.int .i64 m.en.tab,.int .i64 m.en.pri,.slice m.en.ta m.en.tl m.en.tc,.slice m.en.aa m.en.la.length m.en.ca,.slice m.en.aw m.en.lw.length m.en.cw,.bool m.en.clr,.int .u64 m.en.mt,.int .u64 m.en.mm,.int .i64 m.en.met,.int .i64 m.en.go,.int .i64 m.gid,.int .i64 m.gkd,.slice m.ga m.gb.length m.gc,.int .i64 m.mid,.int .i64 m.mra,.int .i64 m.mbu,.int .i64 m.typ,.int .i64 m.cod,.int .i64 m.prt,.bool m.live,.slice m.aa m.la.length m.ca,.string m.dat]
abbrev mx (w:World) (m:Ms):World:=w.alloc (.cells (msC m) 33)
abbrev rx (w:World) (m:Ms):World:=w.alloc (.cells (msC m) 42)
theorem range_new (w:World) (cs:Array Value) (t:TypeId):(w.alloc (.cells cs t)).rangeAt w.heap.size 0 cs.toList:=fun j v hv=>by
 rw [Nat.zero_add]
 simpa using hv
theorem range_block {w w':World} {b o:Nat} {cs:List Value} (h:w.rangeAt b o cs) (g:w'.heap[b]? = w.heap[b]?):w'.rangeAt b o cs:=fun j v hv=>(World.cell?_of_block (w:=w) g).trans (h j v hv)
def Bm (w:World) (b:Nat) (m:Ms):Prop:=w.rangeAt b 0 (msC m).toList
abbrev Cm (w:World) (b:Nat) (m:Ms):Prop :=
 w.cell? ⟨b,0,none⟩=some (.int .i64 m.kind)∧w.cell? ⟨b,1,none⟩=some (.int .i64 m.xid)∧w.cell? ⟨b,2,none⟩=some (.int .i64 m.cmd)∧w.cell? ⟨b,3,none⟩=some (.bool m.chk)∧w.cell? ⟨b,4,none⟩=some (.int .i64 m.en.tab)∧w.cell? ⟨b,5,none⟩=some (.int .i64 m.en.pri)∧w.cell? ⟨b,6,none⟩=some (.slice m.en.ta m.en.tl m.en.tc)∧w.cell? ⟨b,7,none⟩=some (.slice m.en.aa m.en.la.length m.en.ca)∧w.cell? ⟨b,8,none⟩=some (.slice m.en.aw m.en.lw.length m.en.cw)∧w.cell? ⟨b,9,none⟩=some (.bool m.en.clr)∧w.cell? ⟨b,10,none⟩=some (.int .u64 m.en.mt)∧w.cell? ⟨b,11,none⟩=some (.int .u64 m.en.mm)∧w.cell? ⟨b,12,none⟩=some (.int .i64 m.en.met)∧w.cell? ⟨b,13,none⟩=some (.int .i64 m.en.go)∧w.cell? ⟨b,14,none⟩=some (.int .i64 m.gid)∧w.cell? ⟨b,15,none⟩=some (.int .i64 m.gkd)∧w.cell? ⟨b,16,none⟩=some (.slice m.ga m.gb.length m.gc)∧w.cell? ⟨b,17,none⟩=some (.int .i64 m.mid)∧w.cell? ⟨b,18,none⟩=some (.int .i64 m.mra)∧w.cell? ⟨b,19,none⟩=some (.int .i64 m.mbu)∧w.cell? ⟨b,20,none⟩=some (.int .i64 m.typ)∧w.cell? ⟨b,21,none⟩=some (.int .i64 m.cod)∧w.cell? ⟨b,22,none⟩=some (.int .i64 m.prt)∧w.cell? ⟨b,23,none⟩=some (.bool m.live)∧w.cell? ⟨b,24,none⟩=some (.slice m.aa m.la.length m.ca)∧w.cell? ⟨b,25,none⟩=some (.string m.dat)
theorem Bm.cs {w:World} {b:Nat} {m:Ms} (h:Bm w b m):Cm w b m:=⟨h 0 _ rfl,h 1 _ rfl,h 2 _ rfl,h 3 _ rfl,h 4 _ rfl,h 5 _ rfl,h 6 _ rfl,h 7 _ rfl,h 8 _ rfl,h 9 _ rfl,h 10 _ rfl,h 11 _ rfl,h 12 _ rfl,h 13 _ rfl,h 14 _ rfl,h 15 _ rfl,h 16 _ rfl,h 17 _ rfl,h 18 _ rfl,h 19 _ rfl,h 20 _ rfl,h 21 _ rfl,h 22 _ rfl,h 23 _ rfl,h 24 _ rfl,h 25 _ rfl⟩
theorem Bm.new (w:World) (m:Ms):Bm (mx w m) w.heap.size m:=range_new w (msC m) _
theorem Bm.rnew (w:World) (m:Ms):Bm (rx w m) w.heap.size m:=range_new w (msC m) _
theorem Bm.block {w w':World} {b:Nat} {m:Ms} (h:Bm w b m) (g:w'.heap[b]? = w.heap[b]?):Bm w' b m:=range_block h g
theorem Bm.below {w w':World} {b B:Nat} {m:Ms} (h:Bm w b m) (hb:b < B) (g:Below B w w'):Bm w' b m:=h.block (g.block b hb)
theorem Bm.gr {W:World} {b:Nat} {m:Ms} (h:Bm W b m) (hb:b < W.heap.size) (n:GrT W):Bm n.w b m:=h.below hb n.h
theorem infoM (m:Ms):(Tryz.prog.info? 33).map (·.size)=some (msC m).toList.length:=by kernel_rfl
theorem loadM (w:World) (b:Nat) (m:Ms) (h:Bm w b m):(loadVar 33 ⟨b,0,none⟩).run Tryz.prog w=.ok (msV m) w:=run_loadVar_mid w b 0 33 (msC m).toList _ h Tryz.underlying33 rfl (infoM m)
theorem resM {fn:Func} {t:Tmp} (h:fn.results=#[.cell t 33]) {tmps:Array Value} {w:World} {b:Nat} {m:Ms} (ht:tmps.getD t undef=.pointer (some ⟨b,0,none⟩)) (hs:Bm w b m) :
    (results fn tmps).run Tryz.prog w=.ok (msV m) w:=by
  have ht':tmps[t]?.getD undef=.pointer (some ⟨b,0,none⟩):=by simpa using ht
  simp [results,h,ht',asAddr,loadM w b m hs]
theorem resMee {fn:Func} {t u v:Tmp} (h:fn.results=#[.cell t 33,.tmp u,.tmp v]) {tmps:Array Value} {w:World} {b:Nat} {m:Ms} (ht:tmps.getD t undef=.pointer (some ⟨b,0,none⟩)) (hs:Bm w b m) :
    (results fn tmps).run Tryz.prog w=.ok (.tuple #[msV m,tmps.getD u undef,tmps.getD v undef]) w:=by
  have ht':tmps[t]?.getD undef=.pointer (some ⟨b,0,none⟩):=by simpa using ht
  simp [results,h,ht',asAddr,loadM w b m hs]
theorem infoR (m:Ms):(Tryz.prog.info? 42).map (·.size)=some (msC m).toList.length:=by kernel_rfl
theorem loadR (w:World) (b:Nat) (m:Ms) (h:Bm w b m):(loadVar 42 ⟨b,0,none⟩).run Tryz.prog w=.ok (msV m) w:=run_loadVar_mid w b 0 42 (msC m).toList _ h Tryz.underlying42 rfl (infoR m)
theorem resR {fn:Func} {t:Tmp} (h:fn.results=#[.cell t 42]) {tmps:Array Value} {w:World} {b:Nat} {m:Ms} (ht:tmps.getD t undef=.pointer (some ⟨b,0,none⟩)) (hs:Bm w b m) :
    (results fn tmps).run Tryz.prog w=.ok (msV m) w:=by
  have ht':tmps[t]?.getD undef=.pointer (some ⟨b,0,none⟩):=by simpa using ht
  simp [results,h,ht',asAddr,loadR w b m hs]
theorem resRee {fn:Func} {t u v:Tmp} (h:fn.results=#[.cell t 42,.tmp u,.tmp v]) {tmps:Array Value} {w:World} {b:Nat} {m:Ms} (ht:tmps.getD t undef=.pointer (some ⟨b,0,none⟩)) (hs:Bm w b m) :
    (results fn tmps).run Tryz.prog w=.ok (.tuple #[msV m,tmps.getD u undef,tmps.getD v undef]) w:=by
  have ht':tmps[t]?.getD undef=.pointer (some ⟨b,0,none⟩):=by simpa using ht
  simp [results,h,ht',asAddr,loadR w b m hs]
structure MW (w:World) (m:Ms):Prop where
 e:EW w m.en
 t:Mt.Ts w m.en.ta m.ts
 tl:m.en.tl=m.ts.length
 tn:m.ts.length≤1000
 tc:m.ts.length≤m.en.tc
 g:Bs w m.ga m.gb
 gn:m.gb.length≤100000
 a:Ts w m.aa m.la
 an:m.la.length≤1000
 d:m.dat.size≤100000
theorem MW.below {w w':World} {m:Ms} (h:MW w m) (g:Below w.heap.size w w'):MW w' m:=⟨h.e.below g,h.t.below g,h.tl,h.tn,h.tc,h.g.below g,h.gn,h.a.below g,h.an,h.d⟩
theorem MW.alloc {w:World} {m:Ms} (h:MW w m) (o:Obj):MW (w.alloc o) m:=h.below (by go_grown)
structure MU (m:Ms):Prop where
 u:EU m.en
 t:Mt.TWs m.ts
 ap:AWs m.en.la
 wr:AWs m.en.lw
 a:AWs m.la
 g:∀ b ∈ m.gb,AWs b.l
structure Ct (w:World):Prop where
 a:Cd w
 m:Mt.Cd w
theorem Ct.below {w w':World} (h:Ct w) (g:Below w.heap.size w w'):Ct w':=⟨h.a.below g,h.m.below g⟩
theorem Ct.alloc {w:World} (h:Ct w) (o:Obj):Ct (w.alloc o):=h.below (by go_grown)
def ms0:Ms:=⟨0,0,0,false,en0,[],0,0,none,[],0,0,0,0,0,0,0,false,none,[],0,⟨#[]⟩⟩
theorem ms0_w (w:World):MW w ms0:=⟨en0_w w,.inl rfl,rfl,by decide,by decide,⟨by simp [ms0],.inl rfl⟩,by decide,.inl rfl,by decide,by decide⟩
theorem within_any (n lo hi:Int) (w:World):Calls Tryz.prog 29 #[.int .i64 n,.int .i64 lo,.int .i64 hi] w fun e w'=>e=.returned (.bool (inB n lo hi))∧w'=w:=by
 unfold inB
 by_cases h1:lo≤n <;> by_cases h2:n≤hi <;>
 ·go_enter Tryz.func29,Tryz.ntmps29
  go_wp2
  go_ret
  simp [h1,h2]
theorem within_h (n lo hi:Int):Hid (∀ w,Calls Tryz.prog 29 #[.int .i64 n,.int .i64 lo,.int .i64 hi] w fun e w'=>e=.returned (.bool (inB n lo hi))∧w'=w):=by
 intro w
 exact within_any n lo hi w
theorem wput1 (n:Int) (w:World) (h0:0≤n) (h1:n < 256):Calls Tryz.prog 18 #[.int .i64 n,.int .i64 1] w fun e w'=>e=.returned (.string (pb n 1))∧Below w.heap.size w w':=by
 have hw:IntKind.u64.wrap n=n:=wraps_u64 _ h0 (by omega)
 go_enter Tryz.func18,Tryz.ntmps18
 go_wp2_with fail
 refine (put_1 n _ h0 h1).mono ?_
 rintro x w1 ⟨rfl,g⟩
 go_wp2_with fail
 go_ret
 exact ⟨rfl,g⟩
theorem wput2 (n:Int) (w:World) (h0:0≤n) (h1:n < 65536):Calls Tryz.prog 18 #[.int .i64 n,.int .i64 2] w fun e w'=>e=.returned (.string (pb n 2))∧Below w.heap.size w w':=by
 have hw:IntKind.u64.wrap n=n:=wraps_u64 _ h0 (by omega)
 go_enter Tryz.func18,Tryz.ntmps18
 go_wp2_with fail
 refine (put_2 n _ h0 h1).mono ?_
 rintro x w1 ⟨rfl,g⟩
 go_wp2_with fail
 go_ret
 exact ⟨rfl,g⟩
theorem wput4 (n:Int) (w:World) (h0:0≤n) (h1:n < 4294967296):Calls Tryz.prog 18 #[.int .i64 n,.int .i64 4] w fun e w'=>e=.returned (.string (pb n 4))∧Below w.heap.size w w':=by
 have hw:IntKind.u64.wrap n=n:=wraps_u64 _ h0 (by omega)
 go_enter Tryz.func18,Tryz.ntmps18
 go_wp2_with fail
 refine (put_4 n _ h0 h1).mono ?_
 rintro x w1 ⟨rfl,g⟩
 go_wp2_with fail
 go_ret
 exact ⟨rfl,g⟩
theorem wactions_any (a:Option Addr) (l:List A) (cap:Nat) (w:World) (h:Ts w a l) (hl:l.length≤1000) (hd:Cd w):Calls Tryz.prog 71 #[.slice a l.length cap] w fun e w'=>e=.returned (.string (encodeS l))∧Below w.heap.size w w':=by
 have HE:Hid (Calls Tryz.prog 95 #[.slice a l.length cap] w fun e w'=>e=.returned (.tuple #[.string (encodeS l),.int .i64 (encodeE l)])∧Below w.heap.size w w'):=encode_any a l cap w h hl hd
 clear h hd
 generalize encodeS l=S at *
 generalize encodeE l=E at *
 go_enter Tryz.func71,Tryz.ntmps71
 go_wp2_with fail
 refine HE.out.mono ?_
 rintro x w1 ⟨rfl,g⟩
 go_wp2_with fail
 go_ret
 exact ⟨rfl,g⟩
theorem rightA_any (a:Option Addr) (l:List A) (cap:Nat) (w:World) (h:Ts w a l) (hl:l.length≤1000) (hd:Cd w):Calls Tryz.prog 64 #[.slice a l.length cap] w fun e w'=>e=.returned (.bool (okA l))∧Below w.heap.size w w':=by
  have HE:Hid (Calls Tryz.prog 95 #[.slice a l.length cap] w fun e w'=>e=.returned (.tuple #[.string (encodeS l),.int .i64 (encodeE l)])∧Below w.heap.size w w'):=encode_any a l cap w h hl hd
  unfold okA
  clear h hd
  generalize encodeS l=S at *
  generalize encodeE l=E at *
  cases hE:E == 0 with
  | true =>
    go_enter Tryz.func64,Tryz.ntmps64
    go_wp2_with fail
    refine HE.out.mono ?_
    rintro x w1 ⟨rfl,g⟩
    go_wp2_with fail
    go_ret
    exact ⟨rfl,g⟩
  | false =>
    go_enter Tryz.func64,Tryz.ntmps64
    go_wp2_with fail
    refine HE.out.mono ?_
    rintro x w1 ⟨rfl,g⟩
    go_wp2_with fail
    go_ret
    exact ⟨rfl,g⟩
theorem rightMet_any (a b c:Int) (w:World):Calls Tryz.prog 67 #[.agg #[.int .i64 a,.int .i64 b,.int .i64 c]] w fun e w'=>e=.returned (.bool (meB a b c))∧Below w.heap.size w w':=by
  have H1:=within_h a 1 16
  have H2:=within_h b 0 4294967295
  have H3:=within_h c 0 4294967295
  unfold meB
  cases h1:inB a 1 16 with
  | false =>
    rw [h1] at H1
    clear h1 H2 H3
    go_enter Tryz.func67,Tryz.ntmps67
    go_wp2_with fail
    refine (H1.out _).mono ?_
    rintro x w1 ⟨rfl,rfl⟩
    go_wp2_with fail
    go_ret
    exact ⟨rfl,by go_grown⟩
  | true =>
    rw [h1] at H1
    cases h2:inB b 0 4294967295 with
    | false =>
      rw [h2] at H2
      clear h1 h2 H3
      go_enter Tryz.func67,Tryz.ntmps67
      go_wp2_with fail
      refine (H1.out _).mono ?_
      rintro x w1 ⟨rfl,rfl⟩
      go_wp2_with fail
      refine (H2.out _).mono ?_
      rintro x w1 ⟨rfl,rfl⟩
      go_wp2_with fail
      go_ret
      exact ⟨rfl,by go_grown⟩
    | true =>
      rw [h2] at H2
      generalize inB c 0 4294967295=B at *
      clear h1 h2
      go_enter Tryz.func67,Tryz.ntmps67
      go_wp2_with fail
      refine (H1.out _).mono ?_
      rintro x w1 ⟨rfl,rfl⟩
      go_wp2_with fail
      refine (H2.out _).mono ?_
      rintro x w1 ⟨rfl,rfl⟩
      go_wp2_with fail
      refine (H3.out _).mono ?_
      rintro x w1 ⟨rfl,rfl⟩
      go_wp2_with fail
      go_ret
      exact ⟨rfl,by go_grown⟩
theorem rightBk_any (b:Bk) (w:World) (h:BW w b) (hd:Cd w):Calls Tryz.prog 98 #[bkV b] w fun e w'=>e=.returned (.bool (bkB b.b3))∧Below w.heap.size w w':=by
  have H1:=within_h b.wa 0 65535
  have H2:=within_h b.we 0 65535
  have H3:Hid (Calls Tryz.prog 64 #[.slice b.a b.l.length b.c] (bx w b) fun e w'=>e=.returned (.bool (okA b.l))∧Below (bx w b).heap.size (bx w b) w'):=rightA_any b.a b.l b.c (bx w b) (h.t.alloc _) h.n (hd.alloc _)
  show Calls _ _ _ _ fun e w'=>e=.returned (.bool (inB b.wa 0 65535 && inB b.we 0 65535 && decide (b.l.length≤8) && okA b.l))∧_
  have hn:=h.n
  clear h hd
  cases h1:inB b.wa 0 65535 with
  | false =>
    rw [h1] at H1
    clear h1 H2 H3
    go_enter Tryz.func98,Tryz.ntmps98
    go_wp2_with fail
    refine (H1.out _).mono ?_
    rintro x w1 ⟨rfl,rfl⟩
    go_wp2_with fail
    go_ret
    exact ⟨rfl,by go_grown⟩
  | true =>
    rw [h1] at H1
    cases h2:inB b.we 0 65535 with
    | false =>
      rw [h2] at H2
      clear h1 h2 H3
      go_enter Tryz.func98,Tryz.ntmps98
      go_wp2_with fail
      refine (H1.out _).mono ?_
      rintro x w1 ⟨rfl,rfl⟩
      go_wp2_with fail
      refine (H2.out _).mono ?_
      rintro x w1 ⟨rfl,rfl⟩
      go_wp2_with fail
      go_ret
      exact ⟨rfl,by go_grown⟩
    | true =>
      rw [h2] at H2
      clear h1 h2
      by_cases h8:b.l.length≤8
      · have h8':(b.l.length:Int)≤8:=by omega
        have e8:decide (b.l.length≤8)=true:=by simpa using h8
        rw [e8]
        clear h8 e8
        generalize okA b.l=B at *
        go_enter Tryz.func98,Tryz.ntmps98
        go_wp2_with fail
        refine (H1.out _).mono ?_
        rintro x w1 ⟨rfl,rfl⟩
        go_wp2_with fail
        refine (H2.out _).mono ?_
        rintro x w1 ⟨rfl,rfl⟩
        go_wp2_with fail
        refine H3.out.mono ?_
        rintro x w1 ⟨rfl,g⟩
        go_wp2_with fail
        go_ret
        exact ⟨rfl,btr (by go_grown) g (by simp)⟩
      · have h8' : ¬ ((b.l.length:Int)≤8):=by omega
        have e8:decide (b.l.length≤8)=false:=by simpa using h8
        rw [e8]
        clear h8 e8 H3
        go_enter Tryz.func98,Tryz.ntmps98
        go_wp2_with fail
        refine (H1.out _).mono ?_
        rintro x w1 ⟨rfl,rfl⟩
        go_wp2_with fail
        refine (H2.out _).mono ?_
        rintro x w1 ⟨rfl,rfl⟩
        go_wp2_with fail
        go_ret
        exact ⟨rfl,by go_grown⟩
theorem rightEnt_any (x:En) (ts:List Mt.T) (w:World) (h:EW w x) (hm:Mt.Ts w x.ta ts) (htl:x.tl=ts.length) (hn:ts.length≤1000) (hc:ts.length≤x.tc) (hd:Cd w) :
    Calls Tryz.prog 65 #[enV x] w fun e w'=>e=.returned (.bool (entB x.pri ts x.sp))∧Below w.heap.size w w':=by
  have H1:=within_h x.pri 0 65535
  have H2:Hid (Calls Tryz.prog 96 #[.slice x.ta x.tl x.tc] (ex w x) fun e w'=>e=.returned (.int .i64 (Mt.rightE ts))∧Below (ex w x).heap.size (ex w x) w'):=(show Calls _ _ _ _ _ from by
    rw [htl]
    exact Mt.right_any x.ta ts x.tc (ex w x) (hm.alloc _) (by omega) hc)
  have H3:Hid (∀ w1,Below (ex w x).heap.size (ex w x) w1→Calls Tryz.prog 97 #[enV x] w1 fun e w'=>e=.returned (.int .i64 (rightX x.sp))∧Below w1.heap.size w1 w'):=(show ∀ w1,_ from fun w1 g=>rightX_any x w1 ((h.alloc _).below g) ((hd.alloc _).below g))
  have HB:Hid (∀ w1,Below (ex w x).heap.size (ex w x) w1→Bn w1 w.heap.size x):=(show ∀ w1,_ from fun w1 g=>(Bn.new w x).below (by simp) g)
  unfold entB
  clear h hm htl hn hc hd
  cases h1:inB x.pri 0 65535 with
  | false =>
    rw [h1] at H1
    clear h1 H2 H3
    go_enter Tryz.func65,Tryz.ntmps65
    go_wp2_with fail
    refine (H1.out _).mono ?_
    rintro x w1 ⟨rfl,rfl⟩
    go_wp2_with fail
    go_ret
    exact ⟨rfl,by go_grown⟩
  | true =>
    rw [h1] at H1
    generalize Mt.rightE ts=E at *
    cases h2:E == 0 with
    | false =>
      clear h1 H3
      go_enter Tryz.func65,Tryz.ntmps65
      go_wp2_with fail
      refine (H1.out _).mono ?_
      rintro x w1 ⟨rfl,rfl⟩
      go_wp2_with fail
      refine H2.out.mono ?_
      rintro x w1 ⟨rfl,g1⟩
      go_wp2_with fail
      go_ret
      exact ⟨rfl,btr (by go_grown) g1 (by simp)⟩
    | true =>
      clear h1
      generalize rightX x.sp=R at *
      cases h3:R == 0
      all_goals
        go_enter Tryz.func65,Tryz.ntmps65
        go_wp2_with fail
        refine (H1.out _).mono ?_
        rintro x w1 ⟨rfl,rfl⟩
        go_wp2_with fail
        refine H2.out.mono ?_
        rintro x w1 ⟨rfl,g1⟩
        obtain ⟨c0,c1,c2,c3,c4,c5,c6,c7,c8,c9⟩:=HB.out _ g1
        go_wp2_with fail
        refine (H3.out _ g1).mono ?_
        rintro x w2 ⟨rfl,g2⟩
        have b2:=btr g1 g2 (by simp)
        clear c0 c1 c2 c3 c4 c5 c6 c7 c8 c9 g1 g2
        go_wp2_with fail
        go_ret
        exact ⟨rfl,btr (by go_grown) b2 (by simp)⟩
def fits (n k:Int):Prop:=(k=1∧0≤n∧n < 256)∨(k=2∧0≤n∧n < 65536)∨(k=4∧0≤n∧n < 4294967296)
def pbI (n k:Int):ByteArray:=pb n k.toNat
theorem pbI_size (n k:Int):(pbI n k).size=k.toNat:=pb_size _ _
theorem wput_i (n k:Int) (w:World) (h:fits n k):Calls Tryz.prog 18 #[.int .i64 n,.int .i64 k] w fun e w'=>e=.returned (.string (pbI n k))∧Below w.heap.size w w':=by
 rcases h with ⟨rfl,h0,h1⟩ | ⟨rfl,h0,h1⟩ | ⟨rfl,h0,h1⟩
 ·exact wput1 n w h0 h1
 ·exact wput2 n w h0 h1
 ·exact wput4 n w h0 h1
theorem wput_h:Hid (∀ n k w,fits n k→Calls Tryz.prog 18 #[.int .i64 n,.int .i64 k] w fun e w'=>e=.returned (.string (pbI n k))∧Below w.heap.size w w'):=by
 intro n k w h
 exact wput_i n k w h
theorem rep_list (x:List UInt8):∀ c:Nat,Lib.repeatL x c=(List.replicate c x).flatten
 | 0=>rfl
 | c + 1=>by rw [Lib.repeatL,rep_list x c,List.replicate_succ,List.flatten_cons]
theorem rep_0 (c:Nat) (w:World) (hc:c≤100):Calls Tryz.prog 70 #[.string ⟨#[0]⟩,.int .i64 (c:Int)] w fun e w'=>e=.returned (.string (zeros c))∧Below w.heap.size w w':=by
 have h:=Tryz.strings_Repeat ⟨#[0]⟩ c w (by omega) (by show 1 * c≤_;omega)
 have e:(⟨(Lib.repeatL (⟨#[0]⟩:ByteArray).data.toList c).toArray⟩:ByteArray)=zeros c:=by
  rw [rep_list]
  unfold zeros
  congr 2
  show (List.replicate c [(0:UInt8)]).flatten=_
  induction c with
  | zero=>rfl
  | succ c ih=>rw [List.replicate_succ,List.flatten_cons,ih (by omega) (Tryz.strings_Repeat ⟨#[0]⟩ c w (by omega) (by show 1 * c≤_;omega)),List.replicate_succ];rfl
 rwa [e] at h
theorem rep_32 (w:World):Calls Tryz.prog 70 #[.string ⟨#[0]⟩,.int .i64 32] w fun e w'=>e=.returned (.string (zeros 32))∧Below w.heap.size w w':=rep_0 32 w (by decide)
theorem rep_24 (w:World):Calls Tryz.prog 70 #[.string ⟨#[0]⟩,.int .i64 24] w fun e w'=>e=.returned (.string (zeros 24))∧Below w.heap.size w w':=rep_0 24 w (by decide)
theorem rep_16 (w:World):Calls Tryz.prog 70 #[.string ⟨#[0,0,0,0]⟩,.int .i64 4] w fun e w'=>e=.returned (.string (zeros 16))∧Below w.heap.size w w':=by
 have h:=Tryz.strings_Repeat ⟨#[0,0,0,0]⟩ 4 w (by omega) (by decide)
 rwa [show (⟨(Lib.repeatL (⟨#[0,0,0,0]⟩:ByteArray).data.toList 4).toArray⟩:ByteArray)=zeros 16 by decide +kernel] at h
theorem rep_12 (w:World):Calls Tryz.prog 70 #[.string ⟨#[255,255,255,255]⟩,.int .i64 3] w fun e w'=>e=.returned (.string ff12)∧Below w.heap.size w w':=by
 have h:=Tryz.strings_Repeat ⟨#[255,255,255,255]⟩ 3 w (by omega) (by decide)
 rwa [show (⟨(Lib.repeatL (⟨#[255,255,255,255]⟩:ByteArray).data.toList 3).toArray⟩:ByteArray)=ff12 by decide +kernel] at h
theorem sl_1 (w:World):(Instr.slice 9 (.string ⟨#[0,0,0,0]⟩) (some (.int .i64 1)) none none).run Tryz.prog w=.ok (.string ⟨#[0,0,0]⟩) w:=by
 simp [go_sem]
 decide +kernel
theorem sl_2 (w:World):(Instr.slice 9 (.string ⟨#[0,0,0,0]⟩) (some (.int .i64 2)) none none).run Tryz.prog w=.ok (.string ⟨#[0,0]⟩) w:=by
 simp [go_sem]
 decide +kernel
theorem sl_3 (w:World):(Instr.slice 9 (.string ⟨#[0,0,0,0]⟩) (some (.int .i64 3)) none none).run Tryz.prog w=.ok (.string ⟨#[0]⟩) w:=by
 simp [go_sem]
 decide +kernel
theorem portS_any (p:Int) (b:Bool) (w:World) (h0:0≤p) (h1:p < 4294967296):Calls Tryz.prog 33 #[.int .i64 p,.bool b] w fun e w'=>e=.returned (.string (portS p b))∧Below w.heap.size w w':=by
 have HP:=wput_h
 have HR1:Hid (∀ w,Calls Tryz.prog 70 #[.string ⟨#[0]⟩,.int .i64 32] w fun e w'=>e=.returned (.string (zeros 32))∧Below w.heap.size w w'):=(show ∀ w,_ from rep_32)
 have HR2:Hid (∀ w,Calls Tryz.prog 70 #[.string ⟨#[0]⟩,.int .i64 24] w fun e w'=>e=.returned (.string (zeros 24))∧Below w.heap.size w w'):=(show ∀ w,_ from rep_24)
 have hps:=pbI_size
 have hz:=zeros_size
 have hsl:=sl_1
 cases b
 all_goals
  go_enter Tryz.func33,Tryz.ntmps33
  go_wp2_with fail
  refine wp_region_grow (by kernel_rfl) (by kernel_rfl) ?_
  repeat (go_big_quiet_step ((first | (go_at_call 18;exact quiet_gr (HP.out _ _ _ (by unfold fits;omega))) | (go_at_call_of 70 (Value.int IntKind.i64 32);exact quiet_gr (HR1.out _)) | (go_at_call_of 70 (Value.int IntKind.i64 24);exact quiet_gr (HR2.out _)))))
  refine wpQuiet_nil ?_
  rintro w3 hw'
  have g3:=gr_elim hw'
  clear hw'
  go_wp2_with fail
  go_ret
  exact ⟨rfl,g3⟩
theorem metS_any (cmd a b c:Int) (w:World) (hc:inB cmd 0 2=true) (hm:meB a b c=true):Calls Tryz.prog 37 #[.int .i64 cmd,.agg #[.int .i64 a,.int .i64 b,.int .i64 c]] w fun e w'=>e=.returned (.string (metS cmd a b c))∧Below w.heap.size w w':=by
 have HP:=wput_h
 have hps:=pbI_size
 simp only [meB,Bool.and_eq_true,inB_iff] at hc hm
 obtain ⟨c0,c1⟩:=hc
 obtain ⟨⟨⟨a0,a1⟩,b0,b1⟩,d0,d1⟩:=hm
 obtain ⟨W1,hW1⟩:∃ W1,w.alloc (.cells #[.int .i64 a,.int .i64 b,.int .i64 c] 31)=W1:=⟨_,rfl⟩
 have q0:∀ n:GrT W1,n.w.cell? ⟨w.heap.size,0,none⟩=some (.int .i64 a):=fun n=>(n.h.cell (p:=⟨w.heap.size,0,none⟩) (by rw [← hW1];simp)).trans (by rw [← hW1];simp)
 have q1:∀ n:GrT W1,n.w.cell? ⟨w.heap.size,1,none⟩=some (.int .i64 b):=fun n=>(n.h.cell (p:=⟨w.heap.size,1,none⟩) (by rw [← hW1];simp)).trans (by rw [← hW1];simp)
 have q2:∀ n:GrT W1,n.w.cell? ⟨w.heap.size,2,none⟩=some (.int .i64 c):=fun n=>(n.h.cell (p:=⟨w.heap.size,2,none⟩) (by rw [← hW1];simp)).trans (by rw [← hW1];simp)
 have G1:Below w.heap.size w W1:=by rw [← hW1];go_grown
 have HW1:Hid (w.alloc (.cells #[.int .i64 a,.int .i64 b,.int .i64 c] 31)=W1):=hW1
 clear hW1
 go_enter Tryz.func37,Tryz.ntmps37
 go_wp2_with fail
 rw [HW1.out]
 refine wp_region_grow (by kernel_rfl) (by kernel_rfl) ?_
 repeat (go_big_quiet_step ((first | (go_at_call 18;exact quiet_gr (HP.out _ _ _ (by unfold fits;omega))))))
 refine wpQuiet_nil ?_
 rintro w3 hw'
 have g3:=gr_elim hw'
 clear hw' q0 q1 q2
 go_wp2_with fail
 go_ret
 exact ⟨rfl,btr G1 g3 (Nat.le_refl _)⟩
theorem bkS_any (b:Bk) (w:World) (h:BW w b) (hd:Cd w) (hb:bkB b.b3=true):Calls Tryz.prog 74 #[bkV b] w fun e w'=>e=.returned (.string (bkS b.b3))∧Below w.heap.size w w':=by
 have HP:=wput_h
 have hps:=pbI_size
 have HA:Hid (Calls Tryz.prog 71 #[.slice b.a b.l.length b.c] (bx w b) fun e w'=>e=.returned (.string (encodeS b.l))∧Below (bx w b).heap.size (bx w b) w'):=wactions_any b.a b.l b.c (bx w b) (h.t.alloc _) h.n (hd.alloc _)
 have HC:Hid (∀ w1,Below (bx w b).heap.size (bx w b) w1→Cb w1 w.heap.size 0 b∧w.heap.size < w1.heap.size):=(show ∀ w1,_ from fun w1 g=>⟨(Cb.new w b).below (by simp) g,Nat.lt_of_lt_of_le (by simp) g.size⟩)
 simp only [bkB,Bk.b3,Bool.and_eq_true,inB_iff] at hb
 obtain ⟨⟨⟨⟨a0,a1⟩,b0,b1⟩,_⟩,_⟩:=hb
 have hz:=encS_le b.l
 have hR:Hid (bkS b.b3=pb (16 + ((encodeS b.l).size:Int)) 2 ++ pb b.we 2 ++ pb (wat b.wa) 4 ++ ⟨#[255,255,255,255]⟩ ++ ⟨#[0,0,0,0]⟩ ++ encodeS b.l):=(show _=_ from rfl)
 clear h hd
 generalize encodeS b.l=S at *
 by_cases hw:b.wa=0
 ·have hb:(b.wa == 0)=true:=by simpa using hw
  have e:wat b.wa=4294967295:=by unfold wat;rw [if_pos hw]
  rw [hR.out,e]
  clear hw e hR
  go_enter Tryz.func74,Tryz.ntmps74
  go_wp2_with fail
  refine HA.out.mono ?_
  rintro x w1 ⟨rfl,g1⟩
  obtain ⟨q,hq⟩:=HC.out _ g1
  have q1:=fun n=>(Cb.gr q hq n).2.1
  clear q hq
  go_wp2_with fail
  refine wp_region_grow (by kernel_rfl) (by kernel_rfl) ?_
  repeat (go_big_quiet_step ((first | (go_at_call 18;exact quiet_gr (HP.out _ _ _ (by unfold fits;omega))))))
  refine wpQuiet_nil ?_
  rintro w3 hw'
  have g3:=gr_elim hw'
  clear hw' q1
  go_wp2_with fail
  go_ret
  exact ⟨rfl,btr (by go_grown) (btr g1 g3 (Nat.le_refl _)) (by simp)⟩
 ·have hb:(b.wa == 0)=false:=by simpa using hw
  have e:wat b.wa=b.wa:=by unfold wat;rw [if_neg hw]
  rw [hR.out,e]
  clear hw e hR
  go_enter Tryz.func74,Tryz.ntmps74
  go_wp2_with fail
  refine HA.out.mono ?_
  rintro x w1 ⟨rfl,g1⟩
  obtain ⟨q,hq⟩:=HC.out _ g1
  have q1:=fun n=>(Cb.gr q hq n).2.1
  clear q hq
  go_wp2_with fail
  refine wp_region_grow (by kernel_rfl) (by kernel_rfl) ?_
  repeat (go_big_quiet_step ((first | (go_at_call 18;exact quiet_gr (HP.out _ _ _ (by unfold fits;omega))))))
  refine wpQuiet_nil ?_
  rintro w3 hw'
  have g3:=gr_elim hw'
  clear hw' q1
  go_wp2_with fail
  go_ret
  exact ⟨rfl,btr (by go_grown) (btr g1 g3 (Nat.le_refl _)) (by simp)⟩
set_option linter.unusedSimpArgs false
theorem isE (d:ByteArray):d.toList.isEmpty=(d.size == 0):=by
 rw [ByteArray.toList_eq]
 obtain ⟨⟨l⟩⟩:=d
 cases l <;> simp [ByteArray.size]
theorem cast_eq0 (n:Nat):((n:Int) == 0)=(n == 0):=by cases n <;> simp <;> omega
theorem noEnt_any (x:En) (ts:List Mt.T) (w:World) (htl:x.tl=ts.length) :
    Calls Tryz.prog 68 #[enV x] w fun e w'=>e=.returned (.bool (noEnt x.pri ts x.sp))∧Below w.heap.size w w':=by
  obtain ⟨R,hR⟩:∃ R,noEnt x.pri ts x.sp=R:=⟨_,rfl⟩
  rw [hR]
  have HR:Hid (noEnt x.pri ts x.sp=R):=hR
  have HT:Hid (x.tl=ts.length):=htl
  clear hR htl
  go_enter Tryz.func68,Tryz.ntmps68
  go_wp2
  all_goals
    go_ret
    refine ⟨ret_bool ?_,by go_grown⟩
    rw [← HR.out]
    have e:ts.length=x.tl:=HT.out.symm
    simp [noEnt,noSp,En.sp,e, *]
theorem noGrp_any (gid gkd:Int) (ga:Option Addr) (l:List Bk) (gc:Nat) (w:World) :
    Calls Tryz.prog 69 #[.agg #[.int .i64 gid,.int .i64 gkd,.slice ga l.length gc]] w fun e w'=>e=.returned (.bool (noGrp gid gkd (l.map Bk.b3)))∧Below w.heap.size w w':=by
  obtain ⟨R,hR⟩:∃ R,noGrp gid gkd (l.map Bk.b3)=R:=⟨_,rfl⟩
  rw [hR]
  have HR:Hid (noGrp gid gkd (l.map Bk.b3)=R):=hR
  clear hR
  go_enter Tryz.func69,Tryz.ntmps69
  go_wp2
  all_goals
    go_ret
    refine ⟨ret_bool ?_,by go_grown⟩
    rw [← HR.out]
    simp [noGrp,cast_eq0, *]
def emptyM (m:Msg):Bool:=m.cmd == 0 && !m.chk && noEnt m.pri m.ts m.sp && noGrp m.gid m.gkd m.gb && noMet m.mid m.mra m.mbu && m.typ == 0 && m.cod == 0 && m.prt == 0 && !m.live && m.la.length == 0 && m.dat.size == 0
theorem eqM0 (a b c:Int) (w:World):(binOp .eql 31 (.agg #[.int .i64 a,.int .i64 b,.int .i64 c]) (.agg #[.int .i64 0,.int .i64 0,.int .i64 0])).run Tryz.prog w=.ok (.bool (noMet a b c)) w:=by
 have u3:=Tryz.underlying3
 have a3:=Tryz.isAgg3
 have z3:=Tryz.sizeOf3
 have hS:Tryz.prog.underlying 31=some (.struct (Tryz.prog.fieldsOf 31)):=by kernel_rfl
 have hp:Tryz.prog.stoodInHeld 31=false:=by kernel_rfl
 rw [run_eql_struct,show (10000:Nat)=9999 + 1 from rfl,run_equalIn_agg w 9999 31 _ _ hS hp]
 simp only [Program.fieldsOf,Tryz.underlying31]
 go_simp
 unfold noMet
 by_cases h1:a=0 <;> by_cases h2:b=0 <;> by_cases h3:c=0 <;> simp [h1,h2,h3]
theorem guM0 (op:BinOp) (x y:Operand) (u v:Array Value) (w:World):(eqGuard op 31 x y (.agg u) (.agg v)).run Tryz.prog w=.ok () w:=run_eqGuard_agg w op 31 x y _ _ (by kernel_rfl)
theorem empty_any (m:Ms) (w:World) (h:MW w m):Calls Tryz.prog 31 #[msV m] w fun e w'=>e=.returned (.bool (emptyM m.msg))∧Below w.heap.size w w':=by
 have HE:Hid (∀ w,Calls Tryz.prog 68 #[enV m.en] w fun e w'=>e=.returned (.bool (noEnt m.en.pri m.ts m.en.sp))∧Below w.heap.size w w'):=(show ∀ w,_ from fun w=>noEnt_any m.en m.ts w h.tl)
 have HG:Hid (∀ w,Calls Tryz.prog 69 #[.agg #[.int .i64 m.gid,.int .i64 m.gkd,.slice m.ga m.gb.length m.gc]] w fun e w'=>e=.returned (.bool (noGrp m.gid m.gkd (m.gb.map Bk.b3)))∧Below w.heap.size w w'):=(show ∀ w,_ from fun w=>noGrp_any m.gid m.gkd m.ga m.gb m.gc w)
 have hq:=eqM0 m.mid m.mra m.mbu
 have hg:=guM0
 have HR:Hid (emptyM m.msg=(m.cmd == 0 && !m.chk && noEnt m.en.pri m.ts m.en.sp && noGrp m.gid m.gkd (m.gb.map Bk.b3) && noMet m.mid m.mra m.mbu && m.typ == 0 && m.cod == 0 && m.prt == 0 && !m.live && m.la.length == 0 && m.dat.size == 0)):=(show _=_ from rfl)
 have HB:Hid (∀ w1,Below (mx w m).heap.size (mx w m) w1→Bm w1 w.heap.size m):=(show ∀ w1,_ from fun w1 g=>(Bm.new w m).below (by simp) g)
 rw [HR.out]
 clear h HR
 generalize noEnt m.en.pri m.ts m.en.sp=B1 at *
 generalize noGrp m.gid m.gkd (m.gb.map Bk.b3)=B2 at *
 generalize noMet m.mid m.mra m.mbu=B3 at *
 obtain ⟨R,hR⟩:∃ R,(m.cmd == 0 && !m.chk && B1 && B2 && B3 && m.typ == 0 && m.cod == 0 && m.prt == 0 && !m.live && m.la.length == 0 && m.dat.size == 0)=R:=⟨_,rfl⟩
 rw [hR]
 have HR:Hid ((m.cmd == 0 && !m.chk && B1 && B2 && B3 && m.typ == 0 && m.cod == 0 && m.prt == 0 && !m.live && m.la.length == 0 && m.dat.size == 0)=R):=hR
 clear hR
 go_enter Tryz.func31,Tryz.ntmps31
 go_wp2_with fail
 all_goals try (go_ret;refine ⟨ret_bool ?_,by go_grown⟩;rw [← HR.out];simp [*];done)
 refine (HE.out _).mono ?_
 rintro r w1 ⟨rfl,g1⟩
 have c14:w1.cell? ⟨w.heap.size,14,none⟩=some (.int .i64 m.gid):=(g1.cell (p:=⟨w.heap.size,14,none⟩) (by simp)).trans (by simp)
 have c15:w1.cell? ⟨w.heap.size,15,none⟩=some (.int .i64 m.gkd):=(g1.cell (p:=⟨w.heap.size,15,none⟩) (by simp)).trans (by simp)
 have c16:w1.cell? ⟨w.heap.size,16,none⟩=some (.slice m.ga m.gb.length m.gc):=(g1.cell (p:=⟨w.heap.size,16,none⟩) (by simp)).trans (by simp)
 have c17:w1.cell? ⟨w.heap.size,17,none⟩=some (.int .i64 m.mid):=(g1.cell (p:=⟨w.heap.size,17,none⟩) (by simp)).trans (by simp)
 have c18:w1.cell? ⟨w.heap.size,18,none⟩=some (.int .i64 m.mra):=(g1.cell (p:=⟨w.heap.size,18,none⟩) (by simp)).trans (by simp)
 have c19:w1.cell? ⟨w.heap.size,19,none⟩=some (.int .i64 m.mbu):=(g1.cell (p:=⟨w.heap.size,19,none⟩) (by simp)).trans (by simp)
 have c20:w1.cell? ⟨w.heap.size,20,none⟩=some (.int .i64 m.typ):=(g1.cell (p:=⟨w.heap.size,20,none⟩) (by simp)).trans (by simp)
 have c21:w1.cell? ⟨w.heap.size,21,none⟩=some (.int .i64 m.cod):=(g1.cell (p:=⟨w.heap.size,21,none⟩) (by simp)).trans (by simp)
 have c22:w1.cell? ⟨w.heap.size,22,none⟩=some (.int .i64 m.prt):=(g1.cell (p:=⟨w.heap.size,22,none⟩) (by simp)).trans (by simp)
 have c23:w1.cell? ⟨w.heap.size,23,none⟩=some (.bool m.live):=(g1.cell (p:=⟨w.heap.size,23,none⟩) (by simp)).trans (by simp)
 have c24:w1.cell? ⟨w.heap.size,24,none⟩=some (.slice m.aa m.la.length m.ca):=(g1.cell (p:=⟨w.heap.size,24,none⟩) (by simp)).trans (by simp)
 have c25:w1.cell? ⟨w.heap.size,25,none⟩=some (.string m.dat):=(g1.cell (p:=⟨w.heap.size,25,none⟩) (by simp)).trans (by simp)
 have G1:Below w.heap.size w w1:=btr (by go_grown) g1 (Nat.le_refl _)
 have z1:w.heap.size < w1.heap.size:=Nat.lt_of_lt_of_le (by simp) g1.size
 clear g1
 go_wp2_with fail
 all_goals try (go_ret;refine ⟨ret_bool ?_,G1⟩;rw [← HR.out];simp [*];done)
 refine (HG.out _).mono ?_
 rintro r w2 ⟨rfl,g2⟩
 have d14:w2.cell? ⟨w.heap.size,14,none⟩=some (.int .i64 m.gid):=(g2.cell (p:=⟨w.heap.size,14,none⟩) z1).trans c14
 have d15:w2.cell? ⟨w.heap.size,15,none⟩=some (.int .i64 m.gkd):=(g2.cell (p:=⟨w.heap.size,15,none⟩) z1).trans c15
 have d16:w2.cell? ⟨w.heap.size,16,none⟩=some (.slice m.ga m.gb.length m.gc):=(g2.cell (p:=⟨w.heap.size,16,none⟩) z1).trans c16
 have d17:w2.cell? ⟨w.heap.size,17,none⟩=some (.int .i64 m.mid):=(g2.cell (p:=⟨w.heap.size,17,none⟩) z1).trans c17
 have d18:w2.cell? ⟨w.heap.size,18,none⟩=some (.int .i64 m.mra):=(g2.cell (p:=⟨w.heap.size,18,none⟩) z1).trans c18
 have d19:w2.cell? ⟨w.heap.size,19,none⟩=some (.int .i64 m.mbu):=(g2.cell (p:=⟨w.heap.size,19,none⟩) z1).trans c19
 have d20:w2.cell? ⟨w.heap.size,20,none⟩=some (.int .i64 m.typ):=(g2.cell (p:=⟨w.heap.size,20,none⟩) z1).trans c20
 have d21:w2.cell? ⟨w.heap.size,21,none⟩=some (.int .i64 m.cod):=(g2.cell (p:=⟨w.heap.size,21,none⟩) z1).trans c21
 have d22:w2.cell? ⟨w.heap.size,22,none⟩=some (.int .i64 m.prt):=(g2.cell (p:=⟨w.heap.size,22,none⟩) z1).trans c22
 have d23:w2.cell? ⟨w.heap.size,23,none⟩=some (.bool m.live):=(g2.cell (p:=⟨w.heap.size,23,none⟩) z1).trans c23
 have d24:w2.cell? ⟨w.heap.size,24,none⟩=some (.slice m.aa m.la.length m.ca):=(g2.cell (p:=⟨w.heap.size,24,none⟩) z1).trans c24
 have d25:w2.cell? ⟨w.heap.size,25,none⟩=some (.string m.dat):=(g2.cell (p:=⟨w.heap.size,25,none⟩) z1).trans c25
 have G2:Below w.heap.size w w2:=btr G1 g2 (Nat.le_refl _)
 clear c14 c15 c16 c17 c18 c19 c20 c21 c22 c23 c24 c25 g2
 go_wp2_with fail
 all_goals try (go_ret;refine ⟨ret_bool ?_,G2⟩;rw [← HR.out];simp [cast_eq0, *];done)
 go_ret
 refine ⟨ret_bool ?_,G2⟩
 rw [← HR.out]
 simp [cast_eq0,isE, *]
abbrev gx (w:World) (gid gkd:Int) (ga:Option Addr) (n gc:Nat):World:=w.alloc (.cells #[.int .i64 gid,.int .i64 gkd,.slice ga n gc] 29)
theorem bk_snoc (l:List Bk) (k:Nat) (h:k < l.length):((l.take (k + 1)).map Bk.b3).all bkB=(((l.take k).map Bk.b3).all bkB && bkB l[k].b3):=by
 rw [List.take_succ_eq_append_getElem h,List.map_append,List.all_append];simp
theorem bks_snoc (l:List Bk) (k:Nat) (h:k < l.length):bksS ((l.take (k + 1)).map Bk.b3)=bksS ((l.take k).map Bk.b3) ++ bkS l[k].b3:=by
 rw [List.take_succ_eq_append_getElem h,List.map_append,bks_append]
 exact congrArg _ (bks_one _)
theorem rightG_any (gid gkd:Int) (ga:Option Addr) (l:List Bk) (gc:Nat) (w:World) (h:Bs w ga l) (hd:Cd w) :
    Calls Tryz.prog 66 #[.agg #[.int .i64 gid,.int .i64 gkd,.slice ga l.length gc]] w fun e w'=>e=.returned (.bool (grB gid gkd (l.map Bk.b3)))∧Below w.heap.size w w':=by
  have H1:=within_h gid 1 65535
  have H2:=within_h gkd 1 4
  have HR:Hid (∀ x w,BW w x→Cd w→Calls Tryz.prog 98 #[bkV x] w fun e w'=>e=.returned (.bool (bkB x.b3))∧Below w.heap.size w w'):=(show ∀ x w,_ from fun x w h hd=>rightBk_any x w h hd)
  have HD:Hid (Cd w):=hd
  have HG:Hid (grB gid gkd (l.map Bk.b3)=(inB gid 1 65535 && inB gkd 1 4 && decide (l.length≤16) && (l.map Bk.b3).all bkB)):=(show _=_ by unfold grB;rw [List.length_map])
  rw [HG.out]
  clear hd HG
  cases h1:inB gid 1 65535 with
  | false =>
    rw [h1] at H1
    clear h1 H2 HR HD h
    go_enter Tryz.func66,Tryz.ntmps66
    go_wp2_with fail
    refine (H1.out _).mono ?_
    rintro x w1 ⟨rfl,rfl⟩
    go_wp2_with fail
    go_ret
    exact ⟨rfl,by go_grown⟩
  | true =>
    rw [h1] at H1
    cases h2:inB gkd 1 4 with
    | false =>
      rw [h2] at H2
      clear h1 h2 HR HD h
      go_enter Tryz.func66,Tryz.ntmps66
      go_wp2_with fail
      refine (H1.out _).mono ?_
      rintro x w1 ⟨rfl,rfl⟩
      go_wp2_with fail
      refine (H2.out _).mono ?_
      rintro x w1 ⟨rfl,rfl⟩
      go_wp2_with fail
      go_ret
      exact ⟨rfl,by go_grown⟩
    | true =>
      rw [h2] at H2
      clear h1 h2
      by_cases h16:l.length≤16
      · have e16:decide (l.length≤16)=true:=by simpa using h16
        have z16 : ¬ ((l.length:Int) > 16):=by omega
        rw [e16]
        clear e16
        go_enter Tryz.func66,Tryz.ntmps66
        go_wp2_with fail
        refine (H1.out _).mono ?_
        rintro x w1 ⟨rfl,rfl⟩
        go_wp2_with fail
        refine (H2.out _).mono ?_
        rintro x w1 ⟨rfl,rfl⟩
        go_wp2_with fail
        go_loopw [24] (fun i wr=>∃ k:Nat,k≤l.length∧i=.int .i64 k∧((l.take k).map Bk.b3).all bkB=true∧Below w.heap.size w wr) (fun i _=>l.length - (intOf i).toNat)
        case atStart=>exact ⟨0,Nat.zero_le _,rfl,by simp,by go_grown⟩
        case round =>
          obtain ⟨k,hk,rfl,ha,hbel⟩:=hrel
          by_cases hlt:k < l.length
          · have hT:=h.below hbel
            obtain ⟨g,o,rfl,hg,hc⟩:=hT.at hlt
            obtain ⟨c0,c1,c2⟩:=hc k hlt
            have hW:=hT.1 l[k] (List.getElem_mem hlt)
            have hs:=bk_snoc l k hlt
            rw [ha,Bool.true_and] at hs
            have HE:Hid (bkB l[k].b3=false→(l.map Bk.b3).all bkB=false):=(show bkB l[k].b3=false→(l.map Bk.b3).all bkB=false from fun hf=>by
              rw [List.all_eq_false]
              exact ⟨l[k].b3,List.mem_map_of_mem (List.getElem_mem hlt),by simp [hf]⟩)
            have HS:Hid (((l.take (k + 1)).map Bk.b3).all bkB=bkB l[k].b3):=hs
            have HDr:=HD.out.below hbel
            have HWr:Hid (∀ o:Obj,BW (wr.alloc o) l[k]):=(show ∀ o:Obj,BW (wr.alloc o) l[k] from fun o=>hW.below (by go_grown))
            clear hs ha hc hT hW
            generalize l[k]=X at *
            cases hb:bkB X.b3 with
            | true =>
              go_wp2_with fail
              refine (HR.out _ _ (HWr.out _) (HDr.alloc _)).mono ?_
              rintro r w1 ⟨rfl,g1⟩
              rw [hb]
              have b1:Below w.heap.size w w1:=btr (hbel.alloc hbel.size _) g1 (Nat.le_refl _)
              go_wp2_with fail
              go_roundw
              case rel=>exact ⟨k + 1,by omega,by go_num,by rw [HS.out,hb],b1⟩
              case measure=>simp [intOf];omega
            | false =>
              go_wp2_with fail
              refine (HR.out _ _ (HWr.out _) (HDr.alloc _)).mono ?_
              rintro r w1 ⟨rfl,g1⟩
              rw [hb]
              have b1:Below w.heap.size w w1:=btr (hbel.alloc hbel.size _) g1 (Nat.le_refl _)
              go_wp2_with fail
              go_ret
              exact ⟨by rw [HE.out hb];rfl,b1⟩
          · have hk':k=l.length:=by omega
            subst hk'
            rw [List.take_length] at ha
            go_wp2_with fail
            go_ret
            exact ⟨by rw [ha];rfl,hbel⟩
      · have e16:decide (l.length≤16)=false:=by simpa using h16
        have z16:(l.length:Int) > 16:=by omega
        rw [e16]
        clear e16 HR HD h
        go_enter Tryz.func66,Tryz.ntmps66
        go_wp2_with fail
        refine (H1.out _).mono ?_
        rintro x w1 ⟨rfl,rfl⟩
        go_wp2_with fail
        refine (H2.out _).mono ?_
        rintro x w1 ⟨rfl,rfl⟩
        go_wp2_with fail
        go_ret
        exact ⟨rfl,by go_grown⟩
theorem grpS_any (cmd gid gkd:Int) (ga:Option Addr) (l:List Bk) (gc:Nat) (w:World) (h:Bs w ga l) (hd:Cd w) (hc:inB cmd 0 2=true) (hg:grB gid gkd (l.map Bk.b3)=true) :
    Calls Tryz.prog 36 #[.int .i64 cmd,.agg #[.int .i64 gid,.int .i64 gkd,.slice ga l.length gc]] w fun e w'=>e=.returned (.string (grpS cmd gid gkd (l.map Bk.b3)))∧Below w.heap.size w w':=by
  have HP:=wput_h
  have hps:=pbI_size
  have hsl:=sl_3
  have HB:Hid (∀ x w,BW w x→Cd w→bkB x.b3=true→Calls Tryz.prog 74 #[bkV x] w fun e w'=>e=.returned (.string (bkS x.b3))∧Below w.heap.size w w'):=(show ∀ x w,_ from fun x w h hd hb=>bkS_any x w h hd hb)
  have HD:Hid (Cd w):=hd
  obtain ⟨g16,i0,i1,k0,k1,hall⟩:=grB_few hg
  rw [List.length_map] at g16
  have HAll:Hid (∀ x ∈ l,bkB x.b3=true):=(show ∀ x ∈ l,_ from fun x hx=>hall _ (List.mem_map_of_mem hx))
  obtain ⟨c0,c1⟩:=inB_iff.1 hc
  clear hg hall hc hd
  obtain ⟨W1,hW1⟩:∃ W1,gx w gid gkd ga l.length gc=W1:=⟨_,rfl⟩
  have p0:W1.cell? ⟨w.heap.size,0,none⟩=some (.int .i64 gid):=by rw [← hW1];simp
  have p1:W1.cell? ⟨w.heap.size,1,none⟩=some (.int .i64 gkd):=by rw [← hW1];simp
  have p2:W1.cell? ⟨w.heap.size,2,none⟩=some (.slice ga l.length gc):=by rw [← hW1];simp
  have z1:w.heap.size < W1.heap.size:=by rw [← hW1];simp
  have q0:∀ n:GrT W1,n.w.cell? ⟨w.heap.size,0,none⟩=some (.int .i64 gid):=fun n=>(n.h.cell (p:=⟨w.heap.size,0,none⟩) z1).trans p0
  have q1:∀ n:GrT W1,n.w.cell? ⟨w.heap.size,1,none⟩=some (.int .i64 gkd):=fun n=>(n.h.cell (p:=⟨w.heap.size,1,none⟩) z1).trans p1
  have HQ2:Hid (∀ w',Below W1.heap.size W1 w'→w'.cell? ⟨w.heap.size,2,none⟩=some (.slice ga l.length gc)):=(show ∀ w',_ from fun w' g=>(g.cell (p:=⟨w.heap.size,2,none⟩) z1).trans p2)
  have G1:Below w.heap.size w W1:=by rw [← hW1];go_grown
  have HW1:Hid (w.alloc (.cells #[.int .i64 gid,.int .i64 gkd,.slice ga l.length gc] 29)=W1):=hW1
  have HN:Hid (∀ k,∀ h:k < l.length,bksS ((l.take (k + 1)).map Bk.b3)=bksS ((l.take k).map Bk.b3) ++ bkS l[k].b3):=(show ∀ k,∀ h:k < l.length,_ from fun k h=>bks_snoc l k h)
  have HH:Hid (∀ d,grpS cmd gid gkd d=pb cmd 2 ++ pb (gkd - 1) 1 ++ ⟨#[0]⟩ ++ pb gid 4 ++ bksS d):=(show ∀ d,_ from fun d=>rfl)
  rw [HH.out]
  obtain ⟨H,hH⟩:∃ H,pb cmd 2 ++ pb (gkd - 1) 1 ++ ⟨#[0]⟩ ++ pb gid 4=H:=⟨_,rfl⟩
  rw [hH]
  have hHs:H.size=8:=by rw [← hH];simp only [ByteArray.size_append,pb_size];rfl
  have HHH:Hid (pbI cmd 2 ++ pbI (gkd - 1) 1 ++ ⟨#[0]⟩ ++ pbI gid 4=H):=hH
  clear hW1 p0 p1 p2 hH
  go_enter Tryz.func36,Tryz.ntmps36
  go_wp2_with fail
  rw [HW1.out]
  refine wp_region_grow (by kernel_rfl) (by kernel_rfl) ?_
  repeat (go_big_quiet_step ((first | (go_at_call 18;exact quiet_gr (HP.out _ _ _ (by unfold fits;omega))))))
  refine wpQuiet_nil ?_
  rintro w3 hw'
  have g3:=gr_elim hw'
  have B3:=btr G1 g3 (Nat.le_refl _)
  have q2:=HQ2.out _ g3
  clear hw' q0 q1
  rw [HHH.out]
  go_wp2_with fail
  go_loopw [5,24] (fun v i wr=>∃ (k:Nat) (s:ByteArray),k≤l.length∧i=.int .i64 k∧v=.string s∧Hid (s=H ++ bksS ((l.take k).map Bk.b3))∧s.size≤8 + 528 * k∧Below w.heap.size w wr) (fun _ i _=>l.length - (intOf i).toNat)
  case atStart =>
    exact ⟨0,H,Nat.zero_le _,rfl,rfl,(show _=_ from (ap_e H).symm),by omega,B3⟩
  case round =>
    obtain ⟨k,s,hk,rfl,rfl,HS,hsz,hbel⟩:=hrel
    by_cases hlt:k < l.length
    · have hT:=h.below hbel
      obtain ⟨g,o,rfl,hg,hc⟩:=hT.at hlt
      obtain ⟨c0,c1,c2⟩:=hc k hlt
      have hW:=hT.1 l[k] (List.getElem_mem hlt)
      have HNk:Hid (bksS ((l.take (k + 1)).map Bk.b3)=bksS ((l.take k).map Bk.b3) ++ bkS l[k].b3):=HN.out k hlt
      have hws:=bkS_le l[k].b3
      have HDr:=HD.out.below hbel
      have HRX:Hid (bkB l[k].b3=true):=HAll.out _ (List.getElem_mem hlt)
      have HWr:Hid (∀ o:Obj,BW (wr.alloc o) l[k]):=(show ∀ o:Obj,BW (wr.alloc o) l[k] from fun o=>hW.below (by go_grown))
      clear hc hT hW
      generalize l[k]=X at *
      go_wp2_with fail
      refine (HB.out _ _ (HWr.out _) (HDr.alloc _) HRX.out).mono ?_
      rintro r w2 ⟨rfl,g2⟩
      have b2:Below w.heap.size w w2:=btr (hbel.alloc hbel.size _) g2 (Nat.le_refl _)
      go_wp2_with fail
      go_roundw
      case rel=>exact ⟨k + 1,s ++ bkS X.b3,by omega,by go_num,rfl,(show _=_ by rw [HNk.out,HS.out,ap_assoc]),by rw [ByteArray.size_append];omega,b2⟩
      case measure=>simp [intOf];omega
    · have hk':k=l.length:=by omega
      subst hk'
      have e:=HS.out
      rw [List.take_length] at e
      subst e
      go_wp2_with fail
      go_ret
      exact ⟨rfl,hbel⟩
set_option linter.unusedVariables false
theorem within_all:Hid (∀ n lo hi w,Calls Tryz.prog 29 #[.int .i64 n,.int .i64 lo,.int .i64 hi] w fun e w'=>e=.returned (.bool (inB n lo hi))∧w'=w):=by
 intro n lo hi w
 exact within_any n lo hi w
theorem own_0 (m:Ms) (w:World) (h:MW w m) (hd:Ct w) (hk:m.kind=0):Calls Tryz.prog 30 #[msV m] w fun e w'=>e=.returned (.bool (ownB m.msg))∧Below w.heap.size w w':=by
 have e:ownB m.msg=true:=by
  simp [ownB,Ms.msg,hk]
 have k0:(m.kind == 0)=true:=by rw [hk];rfl
 clear hk
 rw [e]
 clear e
 clear h hd
 have HW:=within_all
 go_enter Tryz.func30,Tryz.ntmps30
 go_wp2_with fail
 go_ret
 exact ⟨rfl,by go_grown⟩
theorem own_20 (m:Ms) (w:World) (h:MW w m) (hd:Ct w) (hk:m.kind=20):Calls Tryz.prog 30 #[msV m] w fun e w'=>e=.returned (.bool (ownB m.msg))∧Below w.heap.size w w':=by
 have e:ownB m.msg=true:=by
  simp [ownB,Ms.msg,hk]
 have k0:(m.kind == 0)=false:=by rw [hk];rfl
 have k20:(m.kind == 20)=true:=by rw [hk];rfl
 clear hk
 rw [e]
 clear e
 clear h hd
 have HW:=within_all
 go_enter Tryz.func30,Tryz.ntmps30
 go_wp2_with fail
 go_ret
 exact ⟨rfl,by go_grown⟩
theorem own_21 (m:Ms) (w:World) (h:MW w m) (hd:Ct w) (hk:m.kind=21):Calls Tryz.prog 30 #[msV m] w fun e w'=>e=.returned (.bool (ownB m.msg))∧Below w.heap.size w w':=by
 have e:ownB m.msg=true:=by
  simp [ownB,Ms.msg,hk]
 have k0:(m.kind == 0)=false:=by rw [hk];rfl
 have k20:(m.kind == 20)=false:=by rw [hk];rfl
 have k21:(m.kind == 21)=true:=by rw [hk];rfl
 clear hk
 rw [e]
 clear e
 clear h hd
 have HW:=within_all
 go_enter Tryz.func30,Tryz.ntmps30
 go_wp2_with fail
 go_ret
 exact ⟨rfl,by go_grown⟩
theorem own_1 (m:Ms) (w:World) (h:MW w m) (hd:Ct w) (hk:m.kind=1):Calls Tryz.prog 30 #[msV m] w fun e w'=>e=.returned (.bool (ownB m.msg))∧Below w.heap.size w w':=by
 have e:ownB m.msg=(inB m.typ 0 65535 && inB m.cod 0 65535 && decide (m.dat.size≤64)):=by
  simp [ownB,Ms.msg,hk]
 have k0:(m.kind == 0)=false:=by rw [hk];rfl
 have k20:(m.kind == 20)=false:=by rw [hk];rfl
 have k21:(m.kind == 21)=false:=by rw [hk];rfl
 have k1:(m.kind == 1)=true:=by rw [hk];rfl
 clear hk
 rw [e]
 clear e
 clear h hd
 obtain ⟨R,hR⟩:∃ R,(inB m.typ 0 65535 && inB m.cod 0 65535 && decide (m.dat.size≤64))=R:=⟨_,rfl⟩
 rw [hR]
 have HR:Hid ((inB m.typ 0 65535 && inB m.cod 0 65535 && decide (m.dat.size≤64))=R):=hR
 clear hR
 have HW:=within_all
 go_enter Tryz.func30,Tryz.ntmps30
 go_wp2_with (first | (go_at_call 29;refine (HW.out _ _ _ _).mono ?_;rintro r w1 ⟨rfl,rfl⟩))
 all_goals
  go_ret
  refine ⟨ret_bool ?_,by go_grown⟩
  rw [← HR.out]
  try (simp [*] <;> omega)
theorem own_2 (m:Ms) (w:World) (h:MW w m) (hd:Ct w) (hk:m.kind=2):Calls Tryz.prog 30 #[msV m] w fun e w'=>e=.returned (.bool (ownB m.msg))∧Below w.heap.size w w':=by
 have e:ownB m.msg=decide (m.dat.size≤1000):=by
  simp [ownB,Ms.msg,hk]
 have k0:(m.kind == 0)=false:=by rw [hk];rfl
 have k20:(m.kind == 20)=false:=by rw [hk];rfl
 have k21:(m.kind == 21)=false:=by rw [hk];rfl
 have k1:(m.kind == 1)=false:=by rw [hk];rfl
 have k2:(m.kind == 2)=true:=by rw [hk];rfl
 clear hk
 rw [e]
 clear e
 clear h hd
 obtain ⟨R,hR⟩:∃ R,decide (m.dat.size≤1000)=R:=⟨_,rfl⟩
 rw [hR]
 have HR:Hid (decide (m.dat.size≤1000)=R):=hR
 clear hR
 have HW:=within_all
 go_enter Tryz.func30,Tryz.ntmps30
 go_wp2_with (first | (go_at_call 29;refine (HW.out _ _ _ _).mono ?_;rintro r w1 ⟨rfl,rfl⟩))
 all_goals
  go_ret
  refine ⟨ret_bool ?_,by go_grown⟩
  rw [← HR.out]
  try (simp [*] <;> omega)
theorem own_3 (m:Ms) (w:World) (h:MW w m) (hd:Ct w) (hk:m.kind=3):Calls Tryz.prog 30 #[msV m] w fun e w'=>e=.returned (.bool (ownB m.msg))∧Below w.heap.size w w':=by
 have e:ownB m.msg=decide (m.dat.size≤1000):=by
  simp [ownB,Ms.msg,hk]
 have k0:(m.kind == 0)=false:=by rw [hk];rfl
 have k20:(m.kind == 20)=false:=by rw [hk];rfl
 have k21:(m.kind == 21)=false:=by rw [hk];rfl
 have k1:(m.kind == 1)=false:=by rw [hk];rfl
 have k2:(m.kind == 2)=false:=by rw [hk];rfl
 have k3:(m.kind == 3)=true:=by rw [hk];rfl
 clear hk
 rw [e]
 clear e
 clear h hd
 obtain ⟨R,hR⟩:∃ R,decide (m.dat.size≤1000)=R:=⟨_,rfl⟩
 rw [hR]
 have HR:Hid (decide (m.dat.size≤1000)=R):=hR
 clear hR
 have HW:=within_all
 go_enter Tryz.func30,Tryz.ntmps30
 go_wp2_with (first | (go_at_call 29;refine (HW.out _ _ _ _).mono ?_;rintro r w1 ⟨rfl,rfl⟩))
 all_goals
  go_ret
  refine ⟨ret_bool ?_,by go_grown⟩
  rw [← HR.out]
  try (simp [*] <;> omega)
theorem own_12 (m:Ms) (w:World) (h:MW w m) (hd:Ct w) (hk:m.kind=12):Calls Tryz.prog 30 #[msV m] w fun e w'=>e=.returned (.bool (ownB m.msg))∧Below w.heap.size w w':=by
 have e:ownB m.msg=inB m.prt 1 16:=by
  simp [ownB,Ms.msg,hk]
 have k0:(m.kind == 0)=false:=by rw [hk];rfl
 have k20:(m.kind == 20)=false:=by rw [hk];rfl
 have k21:(m.kind == 21)=false:=by rw [hk];rfl
 have k1:(m.kind == 1)=false:=by rw [hk];rfl
 have k2:(m.kind == 2)=false:=by rw [hk];rfl
 have k3:(m.kind == 3)=false:=by rw [hk];rfl
 have k12:(m.kind == 12)=true:=by rw [hk];rfl
 clear hk
 rw [e]
 clear e
 clear h hd
 obtain ⟨R,hR⟩:∃ R,inB m.prt 1 16=R:=⟨_,rfl⟩
 rw [hR]
 have HR:Hid (inB m.prt 1 16=R):=hR
 clear hR
 have HW:=within_all
 go_enter Tryz.func30,Tryz.ntmps30
 go_wp2_with (first | (go_at_call 29;refine (HW.out _ _ _ _).mono ?_;rintro r w1 ⟨rfl,rfl⟩))
 all_goals
  go_ret
  refine ⟨ret_bool ?_,by go_grown⟩
  rw [← HR.out]
  try (simp [*] <;> omega)
theorem own_13 (m:Ms) (w:World) (h:MW w m) (hd:Ct w) (hk:m.kind=13):Calls Tryz.prog 30 #[msV m] w fun e w'=>e=.returned (.bool (ownB m.msg))∧Below w.heap.size w w':=by
 have e:ownB m.msg=(inB m.prt 0 16 && okA m.la && decide (m.dat.size≤1500)):=by
  simp [ownB,Ms.msg,hk]
 have k0:(m.kind == 0)=false:=by rw [hk];rfl
 have k20:(m.kind == 20)=false:=by rw [hk];rfl
 have k21:(m.kind == 21)=false:=by rw [hk];rfl
 have k1:(m.kind == 1)=false:=by rw [hk];rfl
 have k2:(m.kind == 2)=false:=by rw [hk];rfl
 have k3:(m.kind == 3)=false:=by rw [hk];rfl
 have k12:(m.kind == 12)=false:=by rw [hk];rfl
 have k13:(m.kind == 13)=true:=by rw [hk];rfl
 clear hk
 rw [e]
 clear e
 have HC:Hid (∀ w1,Below w.heap.size w w1→Calls Tryz.prog 64 #[.slice m.aa m.la.length m.ca] w1 fun e w'=>e=.returned (.bool (okA m.la))∧Below w1.heap.size w1 w'):=(show ∀ w1,_ from fun w1 g=>rightA_any m.aa m.la m.ca _ (h.a.below g) h.an (hd.a.below g))
 generalize okA m.la=B at *
 clear h hd
 obtain ⟨R,hR⟩:∃ R,(inB m.prt 0 16 && B && decide (m.dat.size≤1500))=R:=⟨_,rfl⟩
 rw [hR]
 have HR:Hid ((inB m.prt 0 16 && B && decide (m.dat.size≤1500))=R):=hR
 clear hR
 have HW:=within_all
 go_enter Tryz.func30,Tryz.ntmps30
 go_wp2_with (first | (go_at_call 29;refine (HW.out _ _ _ _).mono ?_;rintro r w1 ⟨rfl,rfl⟩))
 all_goals try (go_ret;refine ⟨ret_bool ?_,by go_grown⟩;rw [← HR.out];simp [*];done)
 refine (HC.out _ (by go_grown)).mono ?_
 rintro r w1 ⟨rfl,g1⟩
 have c25:w1.cell? ⟨w.heap.size,25,none⟩=some (.string m.dat):=(g1.cell (p:=⟨w.heap.size,25,none⟩) (by simp)).trans (by simp)
 have G1:Below w.heap.size w w1:=btr (by go_grown) g1 (Nat.le_refl _)
 clear g1
 go_wp2_with fail
 all_goals
  go_ret
  refine ⟨ret_bool ?_,G1⟩
  rw [← HR.out]
  try (simp [*] <;> omega)
theorem own_14 (m:Ms) (w:World) (h:MW w m) (hd:Ct w) (hk:m.kind=14):Calls Tryz.prog 30 #[msV m] w fun e w'=>e=.returned (.bool (ownB m.msg))∧Below w.heap.size w w':=by
 have e:ownB m.msg=(inB m.cmd 0 4 && entB m.en.pri m.ts m.en.sp):=by
  simp [ownB,Ms.msg,hk]
 have k0:(m.kind == 0)=false:=by rw [hk];rfl
 have k20:(m.kind == 20)=false:=by rw [hk];rfl
 have k21:(m.kind == 21)=false:=by rw [hk];rfl
 have k1:(m.kind == 1)=false:=by rw [hk];rfl
 have k2:(m.kind == 2)=false:=by rw [hk];rfl
 have k3:(m.kind == 3)=false:=by rw [hk];rfl
 have k12:(m.kind == 12)=false:=by rw [hk];rfl
 have k13:(m.kind == 13)=false:=by rw [hk];rfl
 have k14:(m.kind == 14)=true:=by rw [hk];rfl
 clear hk
 rw [e]
 clear e
 have HC:Hid (∀ w1,Below w.heap.size w w1→Calls Tryz.prog 65 #[enV m.en] w1 fun e w'=>e=.returned (.bool (entB m.en.pri m.ts m.en.sp))∧Below w1.heap.size w1 w'):=(show ∀ w1,_ from fun w1 g=>rightEnt_any m.en m.ts _ (h.e.below g) (h.t.below g) h.tl h.tn h.tc (hd.a.below g))
 generalize entB m.en.pri m.ts m.en.sp=B at *
 clear h hd
 obtain ⟨R,hR⟩:∃ R,(inB m.cmd 0 4 && B)=R:=⟨_,rfl⟩
 rw [hR]
 have HR:Hid ((inB m.cmd 0 4 && B)=R):=hR
 clear hR
 have HW:=within_all
 go_enter Tryz.func30,Tryz.ntmps30
 go_wp2_with (first | (go_at_call 29;refine (HW.out _ _ _ _).mono ?_;rintro r w1 ⟨rfl,rfl⟩))
 all_goals try (go_ret;refine ⟨ret_bool ?_,by go_grown⟩;rw [← HR.out];simp [*];done)
 refine (HC.out _ (by go_grown)).mono ?_
 rintro r w1 ⟨rfl,g1⟩
 have G1:Below w.heap.size w w1:=btr (by go_grown) g1 (Nat.le_refl _)
 clear g1
 go_wp2_with fail
 all_goals
  go_ret
  refine ⟨ret_bool ?_,G1⟩
  rw [← HR.out]
  try (simp [*] <;> omega)
theorem own_15 (m:Ms) (w:World) (h:MW w m) (hd:Ct w) (hk:m.kind=15):Calls Tryz.prog 30 #[msV m] w fun e w'=>e=.returned (.bool (ownB m.msg))∧Below w.heap.size w w':=by
 have e:ownB m.msg=(inB m.cmd 0 2 && grB m.gid m.gkd (m.gb.map Bk.b3)):=by
  simp [ownB,Ms.msg,hk]
 have k0:(m.kind == 0)=false:=by rw [hk];rfl
 have k20:(m.kind == 20)=false:=by rw [hk];rfl
 have k21:(m.kind == 21)=false:=by rw [hk];rfl
 have k1:(m.kind == 1)=false:=by rw [hk];rfl
 have k2:(m.kind == 2)=false:=by rw [hk];rfl
 have k3:(m.kind == 3)=false:=by rw [hk];rfl
 have k12:(m.kind == 12)=false:=by rw [hk];rfl
 have k13:(m.kind == 13)=false:=by rw [hk];rfl
 have k14:(m.kind == 14)=false:=by rw [hk];rfl
 have k15:(m.kind == 15)=true:=by rw [hk];rfl
 clear hk
 rw [e]
 clear e
 have HC:Hid (∀ w1,Below w.heap.size w w1→Calls Tryz.prog 66 #[.agg #[.int .i64 m.gid,.int .i64 m.gkd,.slice m.ga m.gb.length m.gc]] w1 fun e w'=>e=.returned (.bool (grB m.gid m.gkd (m.gb.map Bk.b3)))∧Below w1.heap.size w1 w'):=(show ∀ w1,_ from fun w1 g=>rightG_any m.gid m.gkd m.ga m.gb m.gc _ (h.g.below g) (hd.a.below g))
 generalize grB m.gid m.gkd (m.gb.map Bk.b3)=B at *
 clear h hd
 obtain ⟨R,hR⟩:∃ R,(inB m.cmd 0 2 && B)=R:=⟨_,rfl⟩
 rw [hR]
 have HR:Hid ((inB m.cmd 0 2 && B)=R):=hR
 clear hR
 have HW:=within_all
 go_enter Tryz.func30,Tryz.ntmps30
 go_wp2_with (first | (go_at_call 29;refine (HW.out _ _ _ _).mono ?_;rintro r w1 ⟨rfl,rfl⟩))
 all_goals try (go_ret;refine ⟨ret_bool ?_,by go_grown⟩;rw [← HR.out];simp [*];done)
 refine (HC.out _ (by go_grown)).mono ?_
 rintro r w1 ⟨rfl,g1⟩
 have G1:Below w.heap.size w w1:=btr (by go_grown) g1 (Nat.le_refl _)
 clear g1
 go_wp2_with fail
 all_goals
  go_ret
  refine ⟨ret_bool ?_,G1⟩
  rw [← HR.out]
  try (simp [*] <;> omega)
theorem own_29 (m:Ms) (w:World) (h:MW w m) (hd:Ct w) (hk:m.kind=29):Calls Tryz.prog 30 #[msV m] w fun e w'=>e=.returned (.bool (ownB m.msg))∧Below w.heap.size w w':=by
 have e:ownB m.msg=(inB m.cmd 0 2 && meB m.mid m.mra m.mbu):=by
  simp [ownB,Ms.msg,hk]
 have k0:(m.kind == 0)=false:=by rw [hk];rfl
 have k20:(m.kind == 20)=false:=by rw [hk];rfl
 have k21:(m.kind == 21)=false:=by rw [hk];rfl
 have k1:(m.kind == 1)=false:=by rw [hk];rfl
 have k2:(m.kind == 2)=false:=by rw [hk];rfl
 have k3:(m.kind == 3)=false:=by rw [hk];rfl
 have k12:(m.kind == 12)=false:=by rw [hk];rfl
 have k13:(m.kind == 13)=false:=by rw [hk];rfl
 have k14:(m.kind == 14)=false:=by rw [hk];rfl
 have k15:(m.kind == 15)=false:=by rw [hk];rfl
 have k29:(m.kind == 29)=true:=by rw [hk];rfl
 clear hk
 rw [e]
 clear e
 have HC:Hid (∀ w1,Below w.heap.size w w1→Calls Tryz.prog 67 #[.agg #[.int .i64 m.mid,.int .i64 m.mra,.int .i64 m.mbu]] w1 fun e w'=>e=.returned (.bool (meB m.mid m.mra m.mbu))∧Below w1.heap.size w1 w'):=(show ∀ w1,_ from fun w1 g=>rightMet_any m.mid m.mra m.mbu _)
 generalize meB m.mid m.mra m.mbu=B at *
 clear h hd
 obtain ⟨R,hR⟩:∃ R,(inB m.cmd 0 2 && B)=R:=⟨_,rfl⟩
 rw [hR]
 have HR:Hid ((inB m.cmd 0 2 && B)=R):=hR
 clear hR
 have HW:=within_all
 go_enter Tryz.func30,Tryz.ntmps30
 go_wp2_with (first | (go_at_call 29;refine (HW.out _ _ _ _).mono ?_;rintro r w1 ⟨rfl,rfl⟩))
 all_goals try (go_ret;refine ⟨ret_bool ?_,by go_grown⟩;rw [← HR.out];simp [*];done)
 refine (HC.out _ (by go_grown)).mono ?_
 rintro r w1 ⟨rfl,g1⟩
 have G1:Below w.heap.size w w1:=btr (by go_grown) g1 (Nat.le_refl _)
 clear g1
 go_wp2_with fail
 all_goals
  go_ret
  refine ⟨ret_bool ?_,G1⟩
  rw [← HR.out]
  try (simp [*] <;> omega)
theorem own_n (m:Ms) (w:World) (h:MW w m) (hd:Ct w) (K:KF m.kind false false false false false false false false false false false):Calls Tryz.prog 30 #[msV m] w fun e w'=>e=.returned (.bool (ownB m.msg))∧Below w.heap.size w w':=by
 have e:ownB m.msg=false:=by
  obtain ⟨k0,k1,k2,k3,k12,k13,k14,k15,k20,k21,k29⟩:=K
  simp only [beq_eq_false_iff_ne] at k0 k1 k2 k3 k12 k13 k14 k15 k20 k21 k29
  simp [ownB,Ms.msg, *]
 obtain ⟨k0,k1,k2,k3,k12,k13,k14,k15,k20,k21,k29⟩:=K
 rw [e]
 clear e
 clear h hd
 have HW:=within_all
 go_enter Tryz.func30,Tryz.ntmps30
 go_wp2_with fail
 go_ret
 exact ⟨rfl,by go_grown⟩
theorem own_any (m:Ms) (w:World) (h:MW w m) (hd:Ct w):Calls Tryz.prog 30 #[msV m] w fun e w'=>e=.returned (.bool (ownB m.msg))∧Below w.heap.size w w':=by
 rcases kinds m.kind with k | k | k | k | k | k | k | k | k | k | k | k
 ·exact own_0 m w h hd k
 ·exact own_1 m w h hd k
 ·exact own_2 m w h hd k
 ·exact own_3 m w h hd k
 ·exact own_12 m w h hd k
 ·exact own_13 m w h hd k
 ·exact own_14 m w h hd k
 ·exact own_15 m w h hd k
 ·exact own_20 m w h hd k
 ·exact own_21 m w h hd k
 ·exact own_29 m w h hd k
 ·exact own_n m w h hd k
theorem there_new (w:World) (c:Array Value) (t:TypeId):(w.alloc (.cells c t)).there w.heap.size 0 c.size:=fun j hj=>by
 rw [Nat.zero_add]
 simp [hj]
theorem there_two (w:World) (c1 c2:Array Value) (t1 t2:TypeId):((w.alloc (.cells c1 t1)).alloc (.cells c2 t2)).there (w.heap.size + 1) 0 c2.size:=by
 have h:=there_new (w.alloc (.cells c1 t1)) c2 t2
 simpa using h
theorem range_two (w:World) (c1 c2:Array Value) (t1 t2:TypeId):((w.alloc (.cells c1 t1)).alloc (.cells c2 t2)).rangeAt w.heap.size 0 c1.toList :=
 range_block (range_new w c1 t1) (heap_alloc_old _ _ (by simp))
theorem there_block {w w':World} {b o n:Nat} (h:w.there b o n) (g:w'.heap[b]? = w.heap[b]?):w'.there b o n:=fun j hj=>by
 rw [World.cell?_of_block (w:=w) g,World.frozen?_of_block (w:=w) g]
 exact h j hj
theorem hiM (m:Ms):(Tryz.prog.info? 33).map (·.size)=some (msC m).size:=by kernel_rfl
theorem hiR (m:Ms):(Tryz.prog.info? 42).map (·.size)=some (msC m).size:=by kernel_rfl
theorem oneM (m:Ms):(msC m).all (·.oneCell')=true:=by simp [Value.oneCell']
abbrev sM (w:World) (b:Nat) (m:Ms):World:=w.setCells b 0 (msC m).toList
theorem only_cells (b:Nat):∀ (vs:List Value) (o:Nat) (w w':World),Only b w w'→Only b w (w'.setCells b o vs)
 | [],_,_,_,g=>g
 | _ :: r,o,_,_,g=>only_cells b r (o + 1) _ _ (g.setCell o _)
theorem only_sM (w:World) (b:Nat) (m:Ms):Only b w (sM w b m):=only_cells b _ _ _ _ (Only.refl b w)
theorem bm_set {w:World} {b:Nat} (m:Ms) (h:w.there b 0 26):Bm (sM w b m) b m:=World.rangeAt_setCells_same w b 0 (msC m).toList h
theorem Only.trans {b:Nat} {x y z:World} (h:Only b x y) (g:Only b y z):Only b x z:=⟨g.os.trans h.os,g.tape.trans h.tape,g.output.trans h.output,g.size.trans h.size,fun k hk=>(g.block k hk).trans (h.block k hk)⟩
theorem Only.belowK {b k:Nat} {w w' a:World} (h:Only b w w') (hb:k≤b) (g:Below k a w):Below k a w' :=
 g.trans ⟨h.os,h.tape,h.output,by rw [h.size];exact Nat.le_refl _,fun j hj=>h.block j (by omega)⟩
theorem load_M {ops:Array Oper} {rest:List Oper} {op:Oper} {a:Go.Act} {w:World} {Q:Exit→Go.Act→World→Prop} (hgd:op.guard=none) (x:Operand) (ho:op.op=.load 33 x)
    (b:Nat) (m:Ms) (hx:a.eval x=.pointer (some ⟨b,0,none⟩)) (hB:Bm w b m)
    (h:wpList Tryz.prog ops Q rest (a.put op.dst (msV m)) w):wpList Tryz.prog ops Q (op :: rest) a w :=
  wpList_load_mid hgd 33 x ho b 0 hx (msC m).toList _ hB Tryz.underlying33 rfl (infoM m) h
theorem store_M {ops:Array Oper} {rest:List Oper} {op:Oper} {a:Go.Act} {w:World} {Q:Exit→Go.Act→World→Prop} (hgd:op.guard=none) (x y:Operand) (ho:op.op=.store 33 x y)
    (b:Nat) (m:Ms) (hx:a.eval x=.pointer (some ⟨b,0,none⟩)) (hy:a.eval y=msV m) (ht:w.there b 0 26)
    (h:∀ V,Bm V b m→V.there b 0 26→Only b w V→wpList Tryz.prog ops Q rest (a.put op.dst undef) V):wpList Tryz.prog ops Q (op :: rest) a w :=
  wpList_store_mid hgd 33 x y ho b 0 (msC m) hx hy ht (hiM m) (oneM m) (h _ (bm_set m ht) (World.there_setCells ht b 0 _) (only_sM w b m))
theorem load_R {ops:Array Oper} {rest:List Oper} {op:Oper} {a:Go.Act} {w:World} {Q:Exit→Go.Act→World→Prop} (hgd:op.guard=none) (x:Operand) (ho:op.op=.load 42 x)
    (b:Nat) (m:Ms) (hx:a.eval x=.pointer (some ⟨b,0,none⟩)) (hB:Bm w b m)
    (h:wpList Tryz.prog ops Q rest (a.put op.dst (msV m)) w):wpList Tryz.prog ops Q (op :: rest) a w :=
  wpList_load_mid hgd 42 x ho b 0 hx (msC m).toList _ hB Tryz.underlying42 rfl (infoR m) h
theorem store_R {ops:Array Oper} {rest:List Oper} {op:Oper} {a:Go.Act} {w:World} {Q:Exit→Go.Act→World→Prop} (hgd:op.guard=none) (x y:Operand) (ho:op.op=.store 42 x y)
    (b:Nat) (m:Ms) (hx:a.eval x=.pointer (some ⟨b,0,none⟩)) (hy:a.eval y=msV m) (ht:w.there b 0 26)
    (h:∀ V,Bm V b m→V.there b 0 26→Only b w V→wpList Tryz.prog ops Q rest (a.put op.dst undef) V):wpList Tryz.prog ops Q (op :: rest) a w :=
  wpList_store_mid hgd 42 x y ho b 0 (msC m) hx hy ht (hiR m) (oneM m) (h _ (bm_set m ht) (World.there_setCells ht b 0 _) (only_sM w b m))
theorem load_Mg {ops:Array Oper} {rest:List Oper} {op:Oper} {a:Go.Act} {w:World} {Q:Exit→Go.Act→World→Prop} (hw:Region.wanted op (yielded ops a.tmps)=true) (x:Operand) (ho:op.op=.load 33 x)
    (b:Nat) (m:Ms) (hx:a.eval x=.pointer (some ⟨b,0,none⟩)) (hB:Bm w b m)
    (h:wpList Tryz.prog ops Q rest (a.put op.dst (msV m)) w):wpList Tryz.prog ops Q (op :: rest) a w :=
  BigFrame.wpList_want hw fun _ hK=>wp_load_mid 33 x ho b 0 hx (msC m).toList _ hB Tryz.underlying33 rfl (infoM m) (hK _ _ h)
theorem load_Rg {ops:Array Oper} {rest:List Oper} {op:Oper} {a:Go.Act} {w:World} {Q:Exit→Go.Act→World→Prop} (hw:Region.wanted op (yielded ops a.tmps)=true) (x:Operand) (ho:op.op=.load 42 x)
    (b:Nat) (m:Ms) (hx:a.eval x=.pointer (some ⟨b,0,none⟩)) (hB:Bm w b m)
    (h:wpList Tryz.prog ops Q rest (a.put op.dst (msV m)) w):wpList Tryz.prog ops Q (op :: rest) a w :=
  BigFrame.wpList_want hw fun _ hK=>wp_load_mid 42 x ho b 0 hx (msC m).toList _ hB Tryz.underlying42 rfl (infoR m) (hK _ _ h)
theorem packS_any (m:Ms) (w:World) (h:MW w m) (hd:Cd w) (hp:inB m.prt 0 16=true) (hs:m.dat.size≤1500) :
    Calls Tryz.prog 34 #[msV m] w fun e w'=>e=.returned (.string (packS m.prt m.la m.dat))∧Below w.heap.size w w':=by
  have HP:=wput_h
  have hps:=pbI_size
  have hsl:=sl_2
  have HA:Hid (Calls Tryz.prog 71 #[.slice m.aa m.la.length m.ca] (mx w m) fun e w'=>e=.returned (.string (encodeS m.la))∧Below (mx w m).heap.size (mx w m) w'):=wactions_any m.aa m.la m.ca (mx w m) (h.a.alloc _) h.an (hd.alloc _)
  have HC:Hid (∀ w1,Below (mx w m).heap.size (mx w m) w1→Bm w1 w.heap.size m∧w.heap.size < w1.heap.size):=(show ∀ w1,_ from fun w1 g=>⟨(Bm.new w m).below (by simp) g,Nat.lt_of_lt_of_le (by simp) g.size⟩)
  obtain ⟨p0,p1⟩:=inB_iff.1 hp
  have hz:=encS_le m.la
  have hR:Hid (packS m.prt m.la m.dat=⟨#[255,255,255,255]⟩ ++ pb m.prt 4 ++ pb ((encodeS m.la).size:Int) 2 ++ ⟨#[0,0,0,0]⟩ ++ ⟨#[0,0]⟩ ++ encodeS m.la ++ m.dat):=(show _=_ from rfl)
  clear h hd hp
  generalize encodeS m.la=S at *
  rw [hR.out]
  clear hR
  go_enter Tryz.func34,Tryz.ntmps34
  go_wp2_with fail
  refine HA.out.mono ?_
  rintro x w1 ⟨rfl,g1⟩
  obtain ⟨q,hq⟩:=HC.out _ g1
  have q22:∀ n:GrT w1,n.w.cell? ⟨w.heap.size,22,none⟩=some (.int .i64 m.prt):=fun n=>(Bm.gr q hq n) 22 _ rfl
  have q25:∀ n:GrT w1,n.w.cell? ⟨w.heap.size,25,none⟩=some (.string m.dat):=fun n=>(Bm.gr q hq n) 25 _ rfl
  clear q hq
  go_wp2_with fail
  refine wp_region_grow (by kernel_rfl) (by kernel_rfl) ?_
  repeat (go_big_quiet_step ((first | (go_at_call 18;exact quiet_gr (HP.out _ _ _ (by unfold fits;omega))))))
  refine wpQuiet_nil ?_
  rintro w3 hw'
  have g3:=gr_elim hw'
  clear hw' q22 q25
  go_wp2_with fail
  go_ret
  exact ⟨rfl,btr (by go_grown) (btr g1 g3 (Nat.le_refl _)) (by simp)⟩
theorem flowS_any (m:Ms) (w:World) (h:MW w m) (u:EU m.en) (tw:Mt.TWs m.ts) (hd:Ct w) (hc:inB m.cmd 0 4=true) (he:entB m.en.pri m.ts m.en.sp=true) :
    Calls Tryz.prog 35 #[msV m] w fun e w'=>e=.returned (.string (flowS m.cmd m.chk m.en.pri m.ts m.en.sp))∧Below w.heap.size w w':=by
  have HP:=wput_h
  have hps:=pbI_size
  have hzz:=zeros_size
  have hsl:=sl_2
  have HR1:Hid (∀ w,Calls Tryz.prog 70 #[.string ⟨#[0,0,0,0]⟩,.int .i64 4] w fun e w'=>e=.returned (.string (zeros 16))∧Below w.heap.size w w'):=(show ∀ w,_ from rep_16)
  have HR2:Hid (∀ w,Calls Tryz.prog 70 #[.string ⟨#[255,255,255,255]⟩,.int .i64 3] w fun e w'=>e=.returned (.string ff12)∧Below w.heap.size w w'):=(show ∀ w,_ from rep_12)
  have W2e:∃ W2,ex (mx w m) m.en=W2:=⟨_,rfl⟩
  obtain ⟨W2,hW2⟩:=W2e
  have G2:Below w.heap.size w W2:=by rw [← hW2];go_grown
  have z2:W2.heap.size=w.heap.size + 2:=by rw [← hW2];simp
  have HM:Hid (Calls Tryz.prog 72 #[.slice m.en.ta m.en.tl m.en.tc] W2 fun e w'=>e=.returned (.tuple #[.string (Mt.encodeS m.ts),.int .i64 (Mt.rightE m.ts)])∧Below W2.heap.size W2 w'):=(show Calls _ _ _ _ _ from by
    rw [h.tl]
    exact Mt.encode_any m.en.ta m.ts m.en.tc W2 (h.t.below G2) (by have:=h.tn;omega) h.tc (hd.m.below G2) tw)
  have HI:Hid (∀ w1,Below W2.heap.size W2 w1→Calls Tryz.prog 73 #[enV m.en] w1 fun e w'=>e=.returned (.tuple #[.string (encodeX m.en.sp),.int .i64 (rightX m.en.sp)])∧Below w1.heap.size w1 w'):=(show ∀ w1,_ from fun w1 g=>encodeX_any m.en w1 ((h.e.below G2).below g) u ((hd.a.below G2).below g))
  have B1:Bm W2 w.heap.size m:=by rw [← hW2];exact (Bm.new w m).below (B:=w.heap.size + 1) (by omega) (by go_grown)
  have B2:Bn W2 (w.heap.size + 1) m.en:=by
    rw [← hW2]
    have:=Bn.new (mx w m) m.en
    simpa using this
  have HB1:Hid (∀ w1,Below W2.heap.size W2 w1→Bm w1 w.heap.size m∧Bn w1 (w.heap.size + 1) m.en∧w.heap.size + 1 < w1.heap.size):=(show ∀ w1,_ from fun w1 g=>⟨B1.below (by omega) g,B2.below (by omega) g,by have:=g.size;omega⟩)
  have B2':Hid (Bn W2 (w.heap.size + 1) m.en):=B2
  simp only [entB,Bool.and_eq_true,inB_iff,beq_iff_eq] at he
  obtain ⟨⟨⟨p0,p1⟩,_⟩,hrx⟩:=he
  have ht:0≤m.en.tab∧m.en.tab < 8:=by
    unfold rightX at hrx
    split at hrx
    · cases hrx
    · next ht =>
      have:tabB m.en.tab=true:=by simpa [En.sp] using ht
      simpa [tabB] using this
  obtain ⟨t0,t1⟩:=ht
  obtain ⟨c0,c1⟩:=inB_iff.1 hc
  have hz1:=menc_le m.ts
  have hz2:=encodeX_le m.en.sp
  have hR:Hid (flowS m.cmd m.chk m.en.pri m.ts m.en.sp=zeros 16 ++ pb m.en.tab 1 ++ pb m.cmd 1 ++ ⟨#[0,0,0,0]⟩ ++ pb m.en.pri 2 ++ ff12 ++ pb (flg m.chk) 2 ++ ⟨#[0,0]⟩ ++ Mt.encodeS m.ts ++ encodeX m.en.sp):=(show _=_ from rfl)
  have h12:ff12.size=12:=rfl
  have HW2:Hid (ex (mx w m) m.en=W2):=hW2
  rw [hR.out]
  clear h hd hc hrx hW2 B1 B2 u tw hR
  generalize Mt.encodeS m.ts=S1 at *
  generalize Mt.rightE m.ts=E1 at *
  generalize encodeX m.en.sp=S2 at *
  generalize rightX m.en.sp=E2 at *
  generalize ff12=FF at *
  obtain ⟨FL,hFL⟩:∃ FL,flg m.chk=FL:=⟨_,rfl⟩
  rw [hFL]
  have HLT:Hid (m.chk=true→FL=2):=(show m.chk=true→FL=2 from fun h=>by rw [← hFL,h];rfl)
  have HLF:Hid (m.chk=false→FL=0):=(show m.chk=false→FL=0 from fun h=>by rw [← hFL,h];rfl)
  have HWT:Hid (m.chk=true→(w.alloc (.cells #[.int .i64 m.kind,.int .i64 m.xid,.int .i64 m.cmd,.bool true,.int .i64 m.en.tab,.int .i64 m.en.pri,.slice m.en.ta m.en.tl m.en.tc,.slice m.en.aa m.en.la.length m.en.ca,.slice m.en.aw m.en.lw.length m.en.cw,.bool m.en.clr,.int .u64 m.en.mt,.int .u64 m.en.mm,.int .i64 m.en.met,.int .i64 m.en.go,.int .i64 m.gid,.int .i64 m.gkd,.slice m.ga m.gb.length m.gc,.int .i64 m.mid,.int .i64 m.mra,.int .i64 m.mbu,.int .i64 m.typ,.int .i64 m.cod,.int .i64 m.prt,.bool m.live,.slice m.aa m.la.length m.ca,.string m.dat] 33)).alloc (.cells (enC m.en) 26)=W2):=(show m.chk=true→_ from fun h=>by rw [← h];exact HW2.out)
  have HWF:Hid (m.chk=false→(w.alloc (.cells #[.int .i64 m.kind,.int .i64 m.xid,.int .i64 m.cmd,.bool false,.int .i64 m.en.tab,.int .i64 m.en.pri,.slice m.en.ta m.en.tl m.en.tc,.slice m.en.aa m.en.la.length m.en.ca,.slice m.en.aw m.en.lw.length m.en.cw,.bool m.en.clr,.int .u64 m.en.mt,.int .u64 m.en.mm,.int .i64 m.en.met,.int .i64 m.en.go,.int .i64 m.gid,.int .i64 m.gkd,.slice m.ga m.gb.length m.gc,.int .i64 m.mid,.int .i64 m.mra,.int .i64 m.mbu,.int .i64 m.typ,.int .i64 m.cod,.int .i64 m.prt,.bool m.live,.slice m.aa m.la.length m.ca,.string m.dat] 33)).alloc (.cells (enC m.en) 26)=W2):=(show m.chk=false→_ from fun h=>by rw [← h];exact HW2.out)
  clear hFL HW2
  go_enter Tryz.func35,Tryz.ntmps35
  go_wp2_with fail
  all_goals
    first | (have HK:Hid (FL=2):=HLT.out ‹m.chk=true›) | (have HK:Hid (FL=0):=HLF.out ‹m.chk=false›)
    first | rw [HWT.out ‹m.chk=true›] | rw [HWF.out ‹m.chk=false›]
    first | clear ‹m.chk=true› | clear ‹m.chk=false›
    clear HWT HWF HLT HLF
    refine HM.out.mono ?_
    rintro x w1 ⟨rfl,g1⟩
    obtain ⟨_,b1,_⟩:=HB1.out _ g1
    obtain ⟨d0,d1,d2,d3,d4,d5,d6,d7,d8,d9⟩:=b1
    go_wp2_with fail
    refine (HI.out _ g1).mono ?_
    rintro x w3 ⟨rfl,g3⟩
    have b3:=btr g1 g3 (Nat.le_refl _)
    clear d0 d1 d2 d3 d4 d5 d6 d7 d8 d9
    obtain ⟨q,r,hq⟩:=HB1.out _ b3
    have q2:∀ n:GrT w3,n.w.cell? ⟨w.heap.size,2,none⟩=some (.int .i64 m.cmd):=fun n=>(Bm.gr q (by omega) n) 2 _ rfl
    have r0:∀ n:GrT w3,n.w.cell? ⟨w.heap.size + 1,0,none⟩=some (.int .i64 m.en.tab):=fun n=>(Bn.gr r hq n).1
    have r1:∀ n:GrT w3,n.w.cell? ⟨w.heap.size + 1,1,none⟩=some (.int .i64 m.en.pri):=fun n=>(Bn.gr r hq n).2.1
    clear q r hq
    go_wp2_with fail
    refine wp_region_grow (by kernel_rfl) (by kernel_rfl) ?_
    repeat (go_big_quiet_step ((first | (go_at_call 18;exact quiet_gr (HP.out _ _ _ (by unfold fits;omega))) | (go_at_call_of 70 (Value.int IntKind.i64 4);exact quiet_gr (HR1.out _)) | (go_at_call_of 70 (Value.int IntKind.i64 3);exact quiet_gr (HR2.out _)))))
    refine wpQuiet_nil ?_
    rintro w4 hw'
    have g4:=gr_elim hw'
    clear hw' q2 r0 r1
    go_wp2_with fail
    go_ret
    exact ⟨by rw [HK.out];rfl,btr G2 (btr b3 g4 (Nat.le_refl _)) (Nat.le_refl _)⟩
end Go.Proofs.YtlcbfdiohcbpbaaGreatDoor

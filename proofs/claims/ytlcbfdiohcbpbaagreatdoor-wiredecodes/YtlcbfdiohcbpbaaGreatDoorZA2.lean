import Derived.Test.YtlcbfdiohcbpbaaGreatDoorZA1
import Derived.Test.YtlcbfdiohcbpbaaGreatDoorZA3
import Derived.Deep.MidRow
namespace Go.Proofs.YtlcbfdiohcbpbaaGreatDoor
set_option maxHeartbeats 16000000
set_option maxRecDepth 20000
open Go.ChangeShapes Go.WideShapes Go.ChangeAt Go.RowKit
structure Sp where
 tab:Int
 la:List A
 lw:List A
 clr:Bool
 mt:Int
 mm:Int
 met:Int
 go:Int
structure En where
 tab:Int
 pri:Int
 ta:Option Addr
 tl:Nat
 tc:Nat
 aa:Option Addr
 la:List A
 ca:Nat
 aw:Option Addr
 lw:List A
 cw:Nat
 clr:Bool
 mt:Int
 mm:Int
 met:Int
 go:Int
def En.sp (x:En):Sp:=⟨x.tab,x.la,x.lw,x.clr,x.mt,x.mm,x.met,x.go⟩
abbrev enV (x:En):Value:=.agg #[.int .i64 x.tab,.int .i64 x.pri,.slice x.ta x.tl x.tc,.slice x.aa x.la.length x.ca,.slice x.aw x.lw.length x.cw,.bool x.clr,.int .u64 x.mt,.int .u64 x.mm,.int .i64 x.met,.int .i64 x.go]
abbrev enC (x:En):Array Value:=#[.int .i64 x.tab,.int .i64 x.pri,.slice x.ta x.tl x.tc,.slice x.aa x.la.length x.ca,.slice x.aw x.lw.length x.cw,.bool x.clr,.int .u64 x.mt,.int .u64 x.mm,.int .i64 x.met,.int .i64 x.go]
abbrev ex (w:World) (x:En):World:=w.alloc (.cells (enC x) 26)
abbrev Bn (w:World) (b:Nat) (x:En):Prop :=
 w.cell? ⟨b,0,none⟩=some (.int .i64 x.tab)∧w.cell? ⟨b,1,none⟩=some (.int .i64 x.pri)∧w.cell? ⟨b,2,none⟩=some (.slice x.ta x.tl x.tc)∧w.cell? ⟨b,3,none⟩=some (.slice x.aa x.la.length x.ca)∧w.cell? ⟨b,4,none⟩=some (.slice x.aw x.lw.length x.cw)∧w.cell? ⟨b,5,none⟩=some (.bool x.clr)∧w.cell? ⟨b,6,none⟩=some (.int .u64 x.mt)∧w.cell? ⟨b,7,none⟩=some (.int .u64 x.mm)∧w.cell? ⟨b,8,none⟩=some (.int .i64 x.met)∧w.cell? ⟨b,9,none⟩=some (.int .i64 x.go)
theorem Bn.new (w:World) (x:En):Bn (ex w x) w.heap.size x:=by unfold Bn ex;simp
theorem Bn.block {w w':World} {b:Nat} {x:En} (h:Bn w b x) (g:w'.heap[b]? = w.heap[b]?):Bn w' b x:=by
 obtain ⟨h0,h1,h2,h3,h4,h5,h6,h7,h8,h9⟩:=h
 have e:∀ o,w'.cell? ⟨b,o,none⟩=w.cell? ⟨b,o,none⟩:=fun o=>World.cell?_of_block (w:=w) g
 exact ⟨(e _).trans h0,(e _).trans h1,(e _).trans h2,(e _).trans h3,(e _).trans h4,(e _).trans h5,(e _).trans h6,(e _).trans h7,(e _).trans h8,(e _).trans h9⟩
theorem Bn.below {w w':World} {b B:Nat} {x:En} (h:Bn w b x) (hb:b < B) (g:Below B w w'):Bn w' b x:=h.block (g.block b hb)
theorem Bn.gr {W:World} {b:Nat} {x:En} (h:Bn W b x) (hb:b < W.heap.size) (n:GrT W):Bn n.w b x:=h.below hb n.h
theorem loadE (w:World) (b:Nat) (x:En) (h:Bn w b x):(loadVar 26 ⟨b,0,none⟩).run Tryz.prog w=.ok (enV x) w:=by
 obtain ⟨h0,h1,h2,h3,h4,h5,h6,h7,h8,h9⟩:=h
 simp [go_sem, *]
theorem resE {fn:Func} {t:Tmp} (h:fn.results=#[.cell t 26]) {tmps:Array Value} {w:World} {b:Nat} {x:En} (ht:tmps.getD t undef=.pointer (some ⟨b,0,none⟩)) (hs:Bn w b x) :
    (results fn tmps).run Tryz.prog w=.ok (enV x) w:=by
  have ht':tmps[t]?.getD undef=.pointer (some ⟨b,0,none⟩):=by simpa using ht
  simp [results,h,ht',asAddr,loadE w b x hs]
theorem resEe {fn:Func} {t u:Tmp} (h:fn.results=#[.cell t 26,.tmp u]) {tmps:Array Value} {w:World} {b:Nat} {x:En} (ht:tmps.getD t undef=.pointer (some ⟨b,0,none⟩)) (hs:Bn w b x) :
    (results fn tmps).run Tryz.prog w=.ok (.tuple #[enV x,tmps.getD u undef]) w:=by
  have ht':tmps[t]?.getD undef=.pointer (some ⟨b,0,none⟩):=by simpa using ht
  simp [results,h,ht',asAddr,loadE w b x hs]
structure EW (w:World) (x:En):Prop where
 a:Ts w x.aa x.la
 w:Ts w x.aw x.lw
 na:x.la.length≤1000
 nw:x.lw.length≤1000
theorem EW.below {w w':World} {x:En} (h:EW w x) (g:Below w.heap.size w w'):EW w' x:=⟨h.a.below g,h.w.below g,h.na,h.nw⟩
theorem EW.alloc {w:World} {x:En} (h:EW w x) (o:Obj):EW (w.alloc o) x:=h.below (by go_grown)
def tabB (n:Int):Bool:=decide (0≤n) && decide (n < 8)
def goB (f t:Int):Bool:=t == 0 || (decide (f < t) && tabB t)
def metB (n:Int):Bool:=decide (n < 0) || decide (16 < n)
def rightX (s:Sp):Int :=
 if tabB s.tab=false then 26 else if encodeE s.la≠0 then encodeE s.la else if encodeE s.lw≠0 then encodeE s.lw
 else if metB s.met=true then 25 else if bits .andNot .u64 s.mt s.mm≠0 then 23 else if goB s.tab s.go=false then 23 else 0
theorem isTable_any (n:Int) (w:World):Calls Tryz.prog 116 #[.int .i64 n] w fun e w'=>e=.returned (.bool (tabB n))∧w'=w:=by
 unfold tabB
 by_cases h1:0≤n <;> by_cases h2:n < 8 <;>
 ·go_enter Tryz.func116,Tryz.ntmps116
  go_wp2
  go_ret
  simp [h1,h2]
theorem mayGo_any (f t:Int) (w:World):Calls Tryz.prog 123 #[.int .i64 f,.int .i64 t] w fun e w'=>e=.returned (.bool (goB f t))∧w'=w:=by
  have HT:Hid (∀ w,Calls Tryz.prog 116 #[.int .i64 t] w fun e w'=>e=.returned (.bool (tabB t))∧w'=w):=(show ∀ w,_ from fun w=>isTable_any t w)
  unfold goB
  cases h0:(t == 0) with
  | true =>
    go_enter Tryz.func123,Tryz.ntmps123
    go_wp2_with fail
    go_ret
    exact ⟨rfl,rfl⟩
  | false =>
    cases h1:decide (f < t) with
    | false =>
      go_enter Tryz.func123,Tryz.ntmps123
      go_wp2_with fail
      go_ret
      exact ⟨rfl,rfl⟩
    | true =>
      generalize tabB t=B at *
      go_enter Tryz.func123,Tryz.ntmps123
      go_wp2_with fail
      refine (HT.out _).mono ?_
      rintro r w1 ⟨rfl,rfl⟩
      go_wp2_with fail
      go_ret
      exact ⟨rfl,rfl⟩
theorem rightX_any (x:En) (w:World) (h:EW w x) (hd:Cd w):Calls Tryz.prog 97 #[enV x] w fun e w'=>e=.returned (.int .i64 (rightX x.sp))∧Below w.heap.size w w':=by
  have HT:Hid (∀ w,Calls Tryz.prog 116 #[.int .i64 x.tab] w fun e w'=>e=.returned (.bool (tabB x.tab))∧w'=w):=(show ∀ w,_ from fun w=>isTable_any _ w)
  have HG:Hid (∀ w,Calls Tryz.prog 123 #[.int .i64 x.tab,.int .i64 x.go] w fun e w'=>e=.returned (.bool (goB x.tab x.go))∧w'=w):=(show ∀ w,_ from fun w=>mayGo_any _ _ w)
  have H1:Hid (Calls Tryz.prog 95 #[.slice x.aa x.la.length x.ca] (ex w x) fun e w'=>e=.returned (.tuple #[.string (encodeS x.la),.int .i64 (encodeE x.la)])∧Below (w.heap.size + 1) (ex w x) w'):=(show Calls _ _ _ _ _ from by
    have:=encode_any x.aa x.la x.ca (ex w x) (h.a.alloc _) h.na (hd.alloc _)
    simpa using this)
  have H2:Hid (∀ w1,Below (w.heap.size + 1) (ex w x) w1→Calls Tryz.prog 95 #[.slice x.aw x.lw.length x.cw] w1 fun e w'=>e=.returned (.tuple #[.string (encodeS x.lw),.int .i64 (encodeE x.lw)])∧Below w1.heap.size w1 w'):=(show ∀ w1,_ from fun w1 g=>by
    have g':Below (ex w x).heap.size (ex w x) w1:=by simpa using g
    exact encode_any x.aw x.lw x.cw w1 ((h.w.alloc _).below g') h.nw ((hd.alloc _).below g'))
  have HB:Hid (∀ w1,Below (w.heap.size + 1) (ex w x) w1→Bn w1 w.heap.size x):=(show ∀ w1,_ from fun w1 g=>(Bn.new w x).below (by omega) g)
  have HC:Hid (∀ w1,Below (w.heap.size + 1) (ex w x) w1→Below w.heap.size w w1):=(show ∀ w1,_ from fun w1 g=>(show Below w.heap.size w (ex w x) by go_grown).trans (g.mono (by omega)))
  have HR:Hid (rightX x.sp=if tabB x.tab=false then 26 else if encodeE x.la≠0 then encodeE x.la else if encodeE x.lw≠0 then encodeE x.lw
    else if metB x.met=true then 25 else if bits .andNot .u64 x.mt x.mm≠0 then 23 else if goB x.tab x.go=false then 23 else 0):=(show _=_ from rfl)
  clear h hd
  cases ht:tabB x.tab with
  | false =>
    rw [HR.out,if_pos ht]
    rw [ht] at HT
    clear HR
    go_enter Tryz.func97,Tryz.ntmps97
    go_wp2_with fail
    refine (HT.out _).mono ?_
    rintro r w1 ⟨rfl,rfl⟩
    go_wp2_with fail
    go_ret
    exact ⟨rfl,by go_grown⟩
  | true =>
    rw [HR.out,if_neg (by rw [ht];decide)]
    rw [ht] at HT
    clear HR ht
    by_cases ha:encodeE x.la=0
    · rw [if_neg (by simpa using ha)]
      by_cases hw:encodeE x.lw=0
      · rw [if_neg (by simpa using hw)]
        rw [ha] at H1
        rw [hw] at H2
        clear ha hw
        generalize encodeS x.la=S1 at *
        generalize encodeS x.lw=S2 at *
        cases hm:metB x.met with
        | true =>
          rw [if_pos rfl]
          have hm':(x.met < 0)∨¬ (x.met < 0)∧(16 < x.met):=by unfold metB at hm;simp at hm;omega
          clear hm
          rcases hm' with hm' | ⟨hm',hm2⟩
          all_goals
            go_enter Tryz.func97,Tryz.ntmps97
            go_wp2_with fail
            refine (HT.out _).mono ?_
            rintro r w1 ⟨rfl,rfl⟩
            go_wp2_with fail
            refine H1.out.mono ?_
            rintro r w1 ⟨rfl,g1⟩
            obtain ⟨c0,c1,c2,c3,c4,c5,c6,c7,c8,c9⟩:=HB.out _ g1
            go_wp2_with fail
            refine (H2.out _ g1).mono ?_
            rintro r w2 ⟨rfl,g2'⟩
            have g2:Below (w.heap.size + 1) (ex w x) w2:=btr g1 g2' (by simp)
            clear c0 c1 c2 c3 c4 c5 c6 c7 c8 c9 g1 g2'
            obtain ⟨c0,c1,c2,c3,c4,c5,c6,c7,c8,c9⟩:=HB.out _ g2
            go_wp2_with fail
            go_ret
            exact ⟨rfl,HC.out _ g2⟩
        | false =>
          rw [if_neg (by decide)]
          have hm1 : ¬ (x.met < 0):=by unfold metB at hm;simp at hm;omega
          have hm2 : ¬ (16 < x.met):=by unfold metB at hm;simp at hm;omega
          clear hm
          by_cases hb:bits .andNot .u64 x.mt x.mm=0
          · rw [if_neg (by simpa using hb)]
            have hb':(bits .andNot .u64 x.mt x.mm != 0)=false:=by simpa using hb
            clear hb
            cases hg:goB x.tab x.go with
            | false =>
              rw [if_pos rfl]
              rw [hg] at HG
              clear hg
              go_enter Tryz.func97,Tryz.ntmps97
              go_wp2_with fail
              refine (HT.out _).mono ?_
              rintro r w1 ⟨rfl,rfl⟩
              go_wp2_with fail
              refine H1.out.mono ?_
              rintro r w1 ⟨rfl,g1⟩
              obtain ⟨c0,c1,c2,c3,c4,c5,c6,c7,c8,c9⟩:=HB.out _ g1
              go_wp2_with fail
              refine (H2.out _ g1).mono ?_
              rintro r w2 ⟨rfl,g2'⟩
              have g2:Below (w.heap.size + 1) (ex w x) w2:=btr g1 g2' (by simp)
              clear c0 c1 c2 c3 c4 c5 c6 c7 c8 c9 g1 g2'
              obtain ⟨c0,c1,c2,c3,c4,c5,c6,c7,c8,c9⟩:=HB.out _ g2
              go_wp2_with fail
              refine (HG.out _).mono ?_
              rintro r w1 ⟨rfl,rfl⟩
              go_wp2_with fail
              go_ret
              exact ⟨rfl,HC.out _ g2⟩
            | true =>
              rw [if_neg (by decide)]
              rw [hg] at HG
              clear hg
              go_enter Tryz.func97,Tryz.ntmps97
              go_wp2_with fail
              refine (HT.out _).mono ?_
              rintro r w1 ⟨rfl,rfl⟩
              go_wp2_with fail
              refine H1.out.mono ?_
              rintro r w1 ⟨rfl,g1⟩
              obtain ⟨c0,c1,c2,c3,c4,c5,c6,c7,c8,c9⟩:=HB.out _ g1
              go_wp2_with fail
              refine (H2.out _ g1).mono ?_
              rintro r w2 ⟨rfl,g2'⟩
              have g2:Below (w.heap.size + 1) (ex w x) w2:=btr g1 g2' (by simp)
              clear c0 c1 c2 c3 c4 c5 c6 c7 c8 c9 g1 g2'
              obtain ⟨c0,c1,c2,c3,c4,c5,c6,c7,c8,c9⟩:=HB.out _ g2
              go_wp2_with fail
              refine (HG.out _).mono ?_
              rintro r w1 ⟨rfl,rfl⟩
              go_wp2_with fail
              go_ret
              exact ⟨rfl,HC.out _ g2⟩
          · rw [if_pos (by simpa using hb)]
            have hb':(bits .andNot .u64 x.mt x.mm != 0)=true:=by simpa using hb
            clear hb
            go_enter Tryz.func97,Tryz.ntmps97
            go_wp2_with fail
            refine (HT.out _).mono ?_
            rintro r w1 ⟨rfl,rfl⟩
            go_wp2_with fail
            refine H1.out.mono ?_
            rintro r w1 ⟨rfl,g1⟩
            obtain ⟨c0,c1,c2,c3,c4,c5,c6,c7,c8,c9⟩:=HB.out _ g1
            go_wp2_with fail
            refine (H2.out _ g1).mono ?_
            rintro r w2 ⟨rfl,g2'⟩
            have g2:Below (w.heap.size + 1) (ex w x) w2:=btr g1 g2' (by simp)
            clear c0 c1 c2 c3 c4 c5 c6 c7 c8 c9 g1 g2'
            obtain ⟨c0,c1,c2,c3,c4,c5,c6,c7,c8,c9⟩:=HB.out _ g2
            go_wp2_with fail
            go_ret
            exact ⟨rfl,HC.out _ g2⟩
      · rw [if_pos (by simpa using hw)]
        have hw':(encodeE x.lw != 0)=true:=by simpa using hw
        rw [ha] at H1
        clear ha hw
        generalize encodeS x.la=S1 at *
        generalize encodeS x.lw=S2 at *
        generalize encodeE x.lw=E2 at *
        go_enter Tryz.func97,Tryz.ntmps97
        go_wp2_with fail
        refine (HT.out _).mono ?_
        rintro r w1 ⟨rfl,rfl⟩
        go_wp2_with fail
        refine H1.out.mono ?_
        rintro r w1 ⟨rfl,g1⟩
        obtain ⟨c0,c1,c2,c3,c4,c5,c6,c7,c8,c9⟩:=HB.out _ g1
        go_wp2_with fail
        refine (H2.out _ g1).mono ?_
        rintro r w2 ⟨rfl,g2'⟩
        have g2:Below (w.heap.size + 1) (ex w x) w2:=btr g1 g2' (by simp)
        go_wp2_with fail
        go_ret
        exact ⟨rfl,HC.out _ g2⟩
    · rw [if_pos (by simpa using ha)]
      have ha':(encodeE x.la != 0)=true:=by simpa using ha
      clear ha
      generalize encodeS x.la=S1 at *
      generalize encodeE x.la=E1 at *
      go_enter Tryz.func97,Tryz.ntmps97
      go_wp2_with fail
      refine (HT.out _).mono ?_
      rintro r w1 ⟨rfl,rfl⟩
      go_wp2_with fail
      refine H1.out.mono ?_
      rintro r w1 ⟨rfl,g1⟩
      go_wp2_with fail
      go_ret
      exact ⟨rfl,HC.out _ g1⟩
def hasX (p:Int) (s:Sp):Bool :=
 if p=6 then s.met != 0 else if p=4 then decide (0 < s.la.length) else if p=5 then s.clr else if p=3 then decide (0 < s.lw.length) else if p=2 then s.mm != 0 else if p=1 then s.go != 0 else false
def gap4:ByteArray:=⟨#[0,0,0,0]⟩
def gap3:ByteArray:=⟨#[0,0,0]⟩
def bodyX (p:Int) (s:Sp):ByteArray :=
 if p=6 then pb s.met 4 else if p=4 then gap4 ++ encodeS s.la else if p=5 then gap4 else if p=3 then gap4 ++ encodeS s.lw else if p=2 then gap4 ++ pb s.mt 8 ++ pb s.mm 8 else if p=1 then pb s.go 1 ++ gap3 else ⟨#[]⟩
def partX (p:Int) (s:Sp):ByteArray:=if hasX p s=true then pb p 2 ++ pb (4 + ((bodyX p s).size:Int)) 2 ++ bodyX p s else ⟨#[]⟩
structure SOk (s:Sp):Prop where
 m0:0≤s.met
 m1:s.met < 4294967296
 g0:0≤s.go
 g1:s.go < 256
 t0:0≤s.mt
 t1:s.mt < 18446744073709551616
 k0:0≤s.mm
 k1:s.mm < 18446744073709551616
theorem part_cases (p:Int):p=6∨p=4∨p=5∨p=3∨p=2∨p=1∨((p == 6)=false∧(p == 4)=false∧(p == 5)=false∧(p == 3)=false∧(p == 2)=false∧(p == 1)=false∧∀ s,hasX p s=false):=by
 by_cases h1:p=6
 ·exact .inl h1
 by_cases h2:p=4
 ·exact .inr (.inl h2)
 by_cases h3:p=5
 ·exact .inr (.inr (.inl h3))
 by_cases h4:p=3
 ·exact .inr (.inr (.inr (.inl h4)))
 by_cases h5:p=2
 ·exact .inr (.inr (.inr (.inr (.inl h5))))
 by_cases h6:p=1
 ·exact .inr (.inr (.inr (.inr (.inr (.inl h6)))))
 refine .inr (.inr (.inr (.inr (.inr (.inr ⟨by simpa using h1,by simpa using h2,by simpa using h3,by simpa using h4,by simpa using h5,by simpa using h6,fun s => ?_⟩)))))
 unfold hasX
 rw [if_neg h1,if_neg h2,if_neg h3,if_neg h4,if_neg h5,if_neg h6]
theorem enc_long (l:List A):(encodeS l).size≤1000:=by
  unfold encodeS
  split
  · next h =>
    have hall:allB l=true:=by
      unfold encodeE at h
      split at h
      · assumption
      · cases h
    have h32:l.length≤32:=by
      unfold encodeE at h
      rw [hall] at h
      simp at h
      omega
    have:∀ m:List A,allB m=true→(encL m).size≤16 * m.length:=fun m=>by
      induction m with
      | nil=>intro _;simp [encL,ByteArray.size]
      | cons x t ih =>
        intro hm
        unfold allB at hm
        rw [List.all_cons,Bool.and_eq_true] at hm
        have h1:=write_size hm.1
        have h2:=ih hm.2
        show (writeV x ++ encL t).size≤_
        rw [ByteArray.size_append,List.length_cons]
        omega
    have:=this l hall
    omega
  · exact Nat.zero_le _
theorem body_size (p:Int) (s:Sp):(bodyX p s).size≤1004:=by
 have h1:=enc_long s.la
 have h2:=enc_long s.lw
 have p1:=pb_size
 have z4:gap4.size=4:=rfl
 have z3:gap3.size=3:=rfl
 have z0:(⟨#[]⟩:ByteArray).size=0:=rfl
 unfold bodyX
 (repeat' split) <;> simp only [ByteArray.size_append,p1,z4,z3,z0] <;> omega
theorem iput1 (n:Int) (w:World) (h0:0≤n) (h1:n < 256):Calls Tryz.prog 134 #[.int .u64 n,.int .i64 1] w fun e w'=>e=.returned (.string (pb n 1))∧Below w.heap.size w w':=by
 go_enter Tryz.func134,Tryz.ntmps134
 go_wp2_with fail
 refine (put_1 n _ h0 h1).mono ?_
 rintro x w1 ⟨rfl,g⟩
 go_wp2_with fail
 go_ret
 exact ⟨rfl,g⟩
theorem iput2 (n:Int) (w:World) (h0:0≤n) (h1:n < 65536):Calls Tryz.prog 134 #[.int .u64 n,.int .i64 2] w fun e w'=>e=.returned (.string (pb n 2))∧Below w.heap.size w w':=by
 go_enter Tryz.func134,Tryz.ntmps134
 go_wp2_with fail
 refine (put_2 n _ h0 h1).mono ?_
 rintro x w1 ⟨rfl,g⟩
 go_wp2_with fail
 go_ret
 exact ⟨rfl,g⟩
theorem iput4 (n:Int) (w:World) (h0:0≤n) (h1:n < 4294967296):Calls Tryz.prog 134 #[.int .u64 n,.int .i64 4] w fun e w'=>e=.returned (.string (pb n 4))∧Below w.heap.size w w':=by
 go_enter Tryz.func134,Tryz.ntmps134
 go_wp2_with fail
 refine (put_4 n _ h0 h1).mono ?_
 rintro x w1 ⟨rfl,g⟩
 go_wp2_with fail
 go_ret
 exact ⟨rfl,g⟩
theorem iput8 (n:Int) (w:World) (h0:0≤n) (h1:n < 18446744073709551616):Calls Tryz.prog 134 #[.int .u64 n,.int .i64 8] w fun e w'=>e=.returned (.string (pb n 8))∧Below w.heap.size w w':=by
 go_enter Tryz.func134,Tryz.ntmps134
 go_wp2_with fail
 refine (put_8 n _ h0 h1).mono ?_
 rintro x w1 ⟨rfl,g⟩
 go_wp2_with fail
 go_ret
 exact ⟨rfl,g⟩
theorem actions_any (a:Option Addr) (l:List A) (cap:Nat) (w:World) (h:Ts w a l) (hl:l.length≤1000) (hd:Cd w):Calls Tryz.prog 150 #[.slice a l.length cap] w fun e w'=>e=.returned (.string (encodeS l))∧Below w.heap.size w w':=by
 have HE:Hid (Calls Tryz.prog 95 #[.slice a l.length cap] w fun e w'=>e=.returned (.tuple #[.string (encodeS l),.int .i64 (encodeE l)])∧Below w.heap.size w w'):=encode_any a l cap w h hl hd
 clear h hd
 generalize encodeS l=S at *
 generalize encodeE l=E at *
 go_enter Tryz.func150,Tryz.ntmps150
 go_wp2_with fail
 refine HE.out.mono ?_
 rintro x w1 ⟨rfl,g⟩
 go_wp2_with fail
 go_ret
 exact ⟨rfl,g⟩
theorem hasX_any (p:Int) (x:En) (w:World):Calls Tryz.prog 132 #[.int .i64 p,enV x] w fun e w'=>e=.returned (.bool (hasX p x.sp))∧Below w.heap.size w w':=by
 rcases part_cases p with rfl | rfl | rfl | rfl | rfl | rfl | ⟨b1,b2,b3,b4,b5,b6,hn⟩
 ·rw [show hasX 6 x.sp=(x.met != 0) from rfl]
  go_enter Tryz.func132,Tryz.ntmps132
  go_wp2_with fail
  go_ret
  exact ⟨rfl,by go_grown⟩
 ·rw [show hasX 4 x.sp=decide (0 < x.la.length) from rfl]
  go_enter Tryz.func132,Tryz.ntmps132
  go_wp2_with fail
  go_ret
  exact ⟨rfl,by go_grown⟩
 ·rw [show hasX 5 x.sp=x.clr from rfl]
  go_enter Tryz.func132,Tryz.ntmps132
  go_wp2_with fail
  go_ret
  exact ⟨rfl,by go_grown⟩
 ·rw [show hasX 3 x.sp=decide (0 < x.lw.length) from rfl]
  go_enter Tryz.func132,Tryz.ntmps132
  go_wp2_with fail
  go_ret
  exact ⟨rfl,by go_grown⟩
 ·rw [show hasX 2 x.sp=(x.mm != 0) from rfl]
  go_enter Tryz.func132,Tryz.ntmps132
  go_wp2_with fail
  go_ret
  exact ⟨rfl,by go_grown⟩
 ·rw [show hasX 1 x.sp=(x.go != 0) from rfl]
  go_enter Tryz.func132,Tryz.ntmps132
  go_wp2_with fail
  go_ret
  exact ⟨rfl,by go_grown⟩
 ·rw [hn]
  clear hn
  go_enter Tryz.func132,Tryz.ntmps132
  go_wp2_with fail
  go_ret
  exact ⟨rfl,by go_grown⟩
theorem bodyX_6 (x:En) (w:World) (o:SOk x.sp):Calls Tryz.prog 133 #[.int .i64 6,enV x] w fun e w'=>e=.returned (.string (pb x.met 4))∧Below w.heap.size w w':=by
 have HP:Hid (∀ w,Calls Tryz.prog 134 #[.int .u64 x.met,.int .i64 4] w fun e w'=>e=.returned (.string (pb x.met 4))∧Below w.heap.size w w'):=(show ∀ w,_ from fun w=>iput4 x.met w o.m0 o.m1)
 have h0:0≤x.met:=o.m0
 have h1:x.met < 4294967296:=o.m1
 have hw:IntKind.u64.wrap x.met=x.met:=wraps_u64 _ h0 (by omega)
 clear o
 go_enter Tryz.func133,Tryz.ntmps133
 go_wp2_with fail
 refine (HP.out _).mono ?_
 rintro r w1 ⟨rfl,g1⟩
 go_wp2_with fail
 go_ret
 exact ⟨rfl,btr (by go_grown) g1 (by simp)⟩
theorem bodyX_4 (x:En) (w:World) (h:EW w x) (hd:Cd w):Calls Tryz.prog 133 #[.int .i64 4,enV x] w fun e w'=>e=.returned (.string (gap4 ++ encodeS x.la))∧Below w.heap.size w w':=by
 have HP:Hid (Calls Tryz.prog 150 #[.slice x.aa x.la.length x.ca] (ex w x) fun e w'=>e=.returned (.string (encodeS x.la))∧Below (ex w x).heap.size (ex w x) w'):=actions_any _ _ _ _ (h.a.alloc _) h.na (hd.alloc _)
 have hz:=enc_long x.la
 unfold gap4
 clear h hd
 generalize encodeS x.la=S at *
 go_enter Tryz.func133,Tryz.ntmps133
 go_wp2_with fail
 refine HP.out.mono ?_
 rintro r w1 ⟨rfl,g1⟩
 go_wp2_with fail
 go_ret
 exact ⟨rfl,btr (by go_grown) g1 (by simp)⟩
theorem bodyX_5 (x:En) (w:World):Calls Tryz.prog 133 #[.int .i64 5,enV x] w fun e w'=>e=.returned (.string gap4)∧Below w.heap.size w w':=by
 unfold gap4
 go_enter Tryz.func133,Tryz.ntmps133
 go_wp2_with fail
 go_ret
 exact ⟨rfl,by go_grown⟩
theorem bodyX_3 (x:En) (w:World) (h:EW w x) (hd:Cd w):Calls Tryz.prog 133 #[.int .i64 3,enV x] w fun e w'=>e=.returned (.string (gap4 ++ encodeS x.lw))∧Below w.heap.size w w':=by
 have HP:Hid (Calls Tryz.prog 150 #[.slice x.aw x.lw.length x.cw] (ex w x) fun e w'=>e=.returned (.string (encodeS x.lw))∧Below (ex w x).heap.size (ex w x) w'):=actions_any _ _ _ _ (h.w.alloc _) h.nw (hd.alloc _)
 have hz:=enc_long x.lw
 unfold gap4
 clear h hd
 generalize encodeS x.lw=S at *
 go_enter Tryz.func133,Tryz.ntmps133
 go_wp2_with fail
 refine HP.out.mono ?_
 rintro r w1 ⟨rfl,g1⟩
 go_wp2_with fail
 go_ret
 exact ⟨rfl,btr (by go_grown) g1 (by simp)⟩
theorem bodyX_2 (x:En) (w:World) (o:SOk x.sp):Calls Tryz.prog 133 #[.int .i64 2,enV x] w fun e w'=>e=.returned (.string (gap4 ++ pb x.mt 8 ++ pb x.mm 8))∧Below w.heap.size w w':=by
 have H1:Hid (∀ w,Calls Tryz.prog 134 #[.int .u64 x.mt,.int .i64 8] w fun e w'=>e=.returned (.string (pb x.mt 8))∧Below w.heap.size w w'):=(show ∀ w,_ from fun w=>iput8 x.mt w o.t0 o.t1)
 have H2:Hid (∀ w,Calls Tryz.prog 134 #[.int .u64 x.mm,.int .i64 8] w fun e w'=>e=.returned (.string (pb x.mm 8))∧Below w.heap.size w w'):=(show ∀ w,_ from fun w=>iput8 x.mm w o.k0 o.k1)
 have q:=Bn.gr (Bn.new w x) (by simp)
 have q6:=fun n=>(q n).2.2.2.2.2.2.1
 have q7:=fun n=>(q n).2.2.2.2.2.2.2.1
 have hps:=pb_size
 clear o q
 unfold gap4
 go_enter Tryz.func133,Tryz.ntmps133
 go_wp2_with fail
 refine wp_region_grow (by kernel_rfl) (by kernel_rfl) ?_
 repeat (go_big_quiet_step ((first | (go_at_call_of 134 (Value.int IntKind.u64 x.mt);exact quiet_gr (H1.out _)) | (go_at_call_of 134 (Value.int IntKind.u64 x.mm);exact quiet_gr (H2.out _)))))
 refine wpQuiet_nil ?_
 rintro w3 hw'
 have g3:=gr_elim hw'
 clear q6 q7 hw'
 go_wp2_with fail
 go_ret
 exact ⟨rfl,btr (by go_grown) g3 (by simp)⟩
theorem bodyX_1 (x:En) (w:World) (o:SOk x.sp):Calls Tryz.prog 133 #[.int .i64 1,enV x] w fun e w'=>e=.returned (.string (pb x.go 1 ++ gap3))∧Below w.heap.size w w':=by
 have H1:Hid (∀ w,Calls Tryz.prog 134 #[.int .u64 x.go,.int .i64 1] w fun e w'=>e=.returned (.string (pb x.go 1))∧Below w.heap.size w w'):=(show ∀ w,_ from fun w=>iput1 x.go w o.g0 o.g1)
 have q:=Bn.gr (Bn.new w x) (by simp)
 have q9:=fun n=>(q n).2.2.2.2.2.2.2.2.2
 have hps:=pb_size
 have h0:0≤x.go:=o.g0
 have h1:x.go < 256:=o.g1
 have hw:IntKind.u64.wrap x.go=x.go:=wraps_u64 _ h0 (by omega)
 have hsl:∀ w,(Instr.slice 9 (.string ⟨#[0,0,0,0]⟩) (some (.int .i64 1)) none none).run Tryz.prog w=.ok (.string ⟨#[0,0,0]⟩) w:=fun w=>by
  simp [go_sem]
  decide +kernel
 clear o q
 unfold gap3
 go_enter Tryz.func133,Tryz.ntmps133
 go_wp2_with fail
 refine wp_region_grow (by kernel_rfl) (by kernel_rfl) ?_
 repeat (go_big_quiet_step ((first | (go_at_call 134;exact quiet_gr (H1.out _)))))
 refine wpQuiet_nil ?_
 rintro w3 hw'
 have g3:=gr_elim hw'
 clear q9 hw'
 go_wp2_with fail
 go_ret
 exact ⟨rfl,btr (by go_grown) g3 (by simp)⟩
theorem bodyX_any (p:Int) (x:En) (w:World) (h:EW w x) (o:SOk x.sp) (hd:Cd w) (hp:hasX p x.sp=true):Calls Tryz.prog 133 #[.int .i64 p,enV x] w fun e w'=>e=.returned (.string (bodyX p x.sp))∧Below w.heap.size w w':=by
 rcases part_cases p with rfl | rfl | rfl | rfl | rfl | rfl | ⟨b1,b2,b3,b4,b5,b6,hn⟩
 ·exact bodyX_6 x w o
 ·exact bodyX_4 x w h hd
 ·exact bodyX_5 x w
 ·exact bodyX_3 x w h hd
 ·exact bodyX_2 x w o
 ·exact bodyX_1 x w o
 ·rw [hn] at hp;cases hp
theorem has_range {p:Int} {s:Sp} (hp:hasX p s=true):1≤p∧p≤6:=by
 rcases part_cases p with rfl | rfl | rfl | rfl | rfl | rfl | ⟨b1,b2,b3,b4,b5,b6,hn⟩
 case inr.inr.inr.inr.inr.inr=>rw [hn] at hp;cases hp
 all_goals omega
theorem writeX_any (p:Int) (x:En) (w:World) (h:EW w x) (o:SOk x.sp) (hd:Cd w):Calls Tryz.prog 108 #[.int .i64 p,enV x] w fun e w'=>e=.returned (.string (partX p x.sp))∧Below w.heap.size w w':=by
  have HH:Hid (∀ w,Calls Tryz.prog 132 #[.int .i64 p,enV x] w fun e w'=>e=.returned (.bool (hasX p x.sp))∧Below w.heap.size w w'):=(show ∀ w,_ from fun w=>hasX_any p x w)
  cases hb:hasX p x.sp with
  | false =>
    have e:partX p x.sp=⟨#[]⟩:=by unfold partX;rw [if_neg (by rw [hb];decide)]
    rw [e]
    rw [hb] at HH
    clear h o hd hb e
    go_enter Tryz.func108,Tryz.ntmps108
    go_wp2_with fail
    refine (HH.out _).mono ?_
    rintro r w1 ⟨rfl,g1⟩
    go_wp2_with fail
    go_ret
    exact ⟨rfl,btr (by go_grown) g1 (by simp)⟩
  | true =>
    have e:partX p x.sp=pb p 2 ++ pb (4 + ((bodyX p x.sp).size:Int)) 2 ++ bodyX p x.sp:=by unfold partX;rw [if_pos hb]
    rw [e]
    obtain ⟨p0,p1⟩:=has_range hb
    have HB:Hid (∀ w1,Below (ex w x).heap.size (ex w x) w1→Calls Tryz.prog 133 #[.int .i64 p,enV x] w1 fun e w'=>e=.returned (.string (bodyX p x.sp))∧Below w1.heap.size w1 w'):=(show ∀ w1,_ from fun w1 g=>bodyX_any p x w1 ((h.alloc _).below g) o ((hd.alloc _).below g) hb)
    have HC:Hid (∀ w1,Below (ex w x).heap.size (ex w x) w1→Bn w1 w.heap.size x):=(show ∀ w1,_ from fun w1 g=>(Bn.new w x).below (by simp) g)
    have hz:=body_size p x.sp
    rw [hb] at HH
    clear h o hd hb e
    generalize bodyX p x.sp=B at *
    have H1:Hid (∀ w,Calls Tryz.prog 134 #[.int .u64 p,.int .i64 2] w fun e w'=>e=.returned (.string (pb p 2))∧Below w.heap.size w w'):=(show ∀ w,_ from fun w=>iput2 p w (by omega) (by omega))
    have H2:Hid (∀ w,Calls Tryz.prog 134 #[.int .u64 (4 + (B.size:Int)),.int .i64 2] w fun e w'=>e=.returned (.string (pb (4 + (B.size:Int)) 2))∧Below w.heap.size w w'):=(show ∀ w,_ from fun w=>iput2 _ w (by omega) (by omega))
    have hps:=pb_size
    have hw:IntKind.u64.wrap p=p:=wraps_u64 _ (by omega) (by omega)
    have hw2:IntKind.u64.wrap (4 + (B.size:Int))=4 + (B.size:Int):=wraps_u64 _ (by omega) (by omega)
    go_enter Tryz.func108,Tryz.ntmps108
    go_wp2_with fail
    refine (HH.out _).mono ?_
    rintro r w1 ⟨rfl,g1⟩
    obtain ⟨c0,c1,c2,c3,c4,c5,c6,c7,c8,c9⟩:=HC.out _ g1
    go_wp2_with fail
    refine (HB.out _ g1).mono ?_
    rintro r w2 ⟨rfl,g2⟩
    have b2:=btr g1 g2 (by simp)
    clear g1 g2 c0 c1 c2 c3 c4 c5 c6 c7 c8 c9
    go_wp2_with fail
    refine (H1.out _).mono ?_
    rintro r w3 ⟨rfl,g3⟩
    have b3:=btr b2 g3 (by simp)
    clear g3 b2
    go_wp2_with fail
    refine (H2.out _).mono ?_
    rintro r w4 ⟨rfl,g4⟩
    have b4:=btr b3 g4 (by simp)
    clear g4 b3
    go_wp2_with fail
    go_ret
    exact ⟨rfl,btr (by go_grown) b4 (by simp)⟩
def ordV:Nat→Int
 | 0=>6
 | 1=>4
 | 2=>5
 | 3=>3
 | 4=>2
 | 5=>1
 | _=>0
def encTo (s:Sp):Nat→ByteArray
 | 0=>⟨#[]⟩
 | k + 1=>encTo s k ++ partX (ordV k) s
def encX (s:Sp):ByteArray:=encTo s 6
def encodeX (s:Sp):ByteArray:=if rightX s=0 then encX s else ⟨#[]⟩
theorem part_size (p:Int) (s:Sp):(partX p s).size≤1008:=by
 have h1:=body_size p s
 unfold partX
 split
 ·simp only [ByteArray.size_append,pb_size];omega
 ·exact Nat.zero_le _
theorem encTo_size (s:Sp):∀ k,(encTo s k).size≤1008 * k
  | 0=>Nat.zero_le _
  | k + 1=>by
    have h1:=part_size (ordV k) s
    have h2:=encTo_size s k
    rw [encTo,ByteArray.size_append]
    omega
theorem encX_size (s:Sp):(encX s).size≤6048:=encTo_size s 6
structure EU (x:En):Prop where
 t0:0≤x.mt
 t1:x.mt < 18446744073709551616
 k0:0≤x.mm
 k1:x.mm < 18446744073709551616
theorem right_ok {x:En} (u:EU x) (h:rightX x.sp=0):SOk x.sp:=by
 have hk:metB x.met=false∧goB x.tab x.go=true∧tabB x.tab=true:=by
  unfold rightX En.sp at h
  simp only at h
  split at h
  ·cases h
  ·next ht =>
   split at h
   ·next h'=>exact absurd h h'
   ·split at h
    ·next h'=>exact absurd h h'
    ·split at h
     ·cases h
     ·next hm =>
      split at h
      ·cases h
      ·split at h
       ·cases h
       ·next hg=>exact ⟨by simpa using hm,by simpa using hg,by simpa using ht⟩
 obtain ⟨hm,hg,ht⟩:=hk
 unfold metB at hm
 unfold goB tabB at hg
 simp at hm hg
 exact ⟨show 0≤x.met by omega,show x.met < _ by omega,show 0≤x.go by omega,show x.go < _ by omega,u.t0,u.t1,u.k0,u.k1⟩
theorem idxO (j:Nat) (h:j < 6) (w:World):(Instr.index 150 (.agg orderA) (.int .i64 (j:Int))).run Tryz.prog w=.ok (.int .i64 (ordV j)) w:=by
 have hu:Tryz.prog.underlying 150=some (.array 6 3):=Tryz.underlying150
 match j,h with
 | 0,_=>simp [Instr.index,run_underlying hu,asIntOf,go_sem,ordV]
 | 1,_=>simp [Instr.index,run_underlying hu,asIntOf,go_sem,ordV]
 | 2,_=>simp [Instr.index,run_underlying hu,asIntOf,go_sem,ordV]
 | 3,_=>simp [Instr.index,run_underlying hu,asIntOf,go_sem,ordV]
 | 4,_=>simp [Instr.index,run_underlying hu,asIntOf,go_sem,ordV]
 | 5,_=>simp [Instr.index,run_underlying hu,asIntOf,go_sem,ordV]
theorem encodeX_any (x:En) (w:World) (h:EW w x) (u:EU x) (hd:Cd w):Calls Tryz.prog 73 #[enV x] w fun e w'=>e=.returned (.tuple #[.string (encodeX x.sp),.int .i64 (rightX x.sp)])∧Below w.heap.size w w':=by
 have HR:Hid (Calls Tryz.prog 97 #[enV x] (ex w x) fun e w'=>e=.returned (.int .i64 (rightX x.sp))∧Below (ex w x).heap.size (ex w x) w'):=rightX_any x (ex w x) (h.alloc _) (hd.alloc _)
 by_cases hr:rightX x.sp=0
 ·have e:encodeX x.sp=encX x.sp:=by unfold encodeX;rw [if_pos hr]
  rw [e,hr]
  rw [hr] at HR
  have HW:Hid (∀ p w1,Below (ex w x).heap.size (ex w x) w1→Calls Tryz.prog 108 #[.int .i64 p,enV x] w1 fun e w'=>e=.returned (.string (partX p x.sp))∧Below w1.heap.size w1 w'):=(show ∀ p w1,_ from fun p w1 g=>writeX_any p x w1 ((h.alloc _).below g) (right_ok u hr) ((hd.alloc _).below g))
  have HC:Hid (∀ w1,Below (ex w x).heap.size (ex w x) w1→Bn w1 w.heap.size x):=(show ∀ w1,_ from fun w1 g=>(Bn.new w x).below (by simp) g)
  have HD:Hid (Cd (ex w x)):=hd.alloc _
  clear e hr h u hd
  have HX:Hid (∀ k,encTo x.sp (k + 1)=encTo x.sp k ++ partX (ordV k) x.sp):=(show ∀ k,_ from fun k=>rfl)
  have HZ:Hid (∀ k,(encTo x.sp k).size≤1008 * k):=(show ∀ k,_ from encTo_size x.sp)
  have HY:Hid (∀ p,(partX p x.sp).size≤1008):=(show ∀ p,_ from fun p=>part_size p x.sp)
  go_enter Tryz.func73,Tryz.ntmps73
  go_wp2_with fail
  refine HR.out.mono ?_
  rintro r w1 ⟨rfl,g1⟩
  obtain ⟨ct,cfr,ho⟩:=(HD.out.below g1).order
  go_wp2_with (refine wpList_load_row rfl 150 (.global 0) rfl 0 rfl ct orderA cfr _ ho Tryz.underlying150 rfl (by kernel_rfl) ?_)
  clear ho
  go_loopw [5,14] (fun v i wr=>∃ (k:Nat) (s:ByteArray),k≤6∧i=.int .i64 k∧v=.string s∧Hid (s=encTo x.sp k)∧s.size≤1008 * k∧Below (ex w x).heap.size (ex w x) wr) (fun _ i _=>6 - (intOf i).toNat)
  case atStart=>exact ⟨0,⟨#[]⟩,Nat.zero_le _,rfl,rfl,(show _=_ from rfl),Nat.zero_le _,g1⟩
  case round =>
   obtain ⟨k,s,hk,rfl,rfl,HS,hsz,hbel⟩:=hrel
   by_cases hlt:k < 6
   ·have hx:=idxO k hlt
    have HN:Hid (encTo x.sp (k + 1)=encTo x.sp k ++ partX (ordV k) x.sp):=HX.out k
    have hps:=HY.out (ordV k)
    have HWk:Hid (Calls Tryz.prog 108 #[.int .i64 (ordV k),enV x] wr fun e w'=>e=.returned (.string (partX (ordV k) x.sp))∧Below wr.heap.size wr w'):=HW.out (ordV k) wr hbel
    generalize ordV k=P at *
    generalize partX P x.sp=B at *
    obtain ⟨c0,c1,c2,c3,c4,c5,c6,c7,c8,c9⟩:=HC.out _ hbel
    go_wp2_with fail
    refine HWk.out.mono ?_
    rintro r w2 ⟨rfl,g2⟩
    have b2:=btr hbel g2 (Nat.le_refl _)
    clear c0 c1 c2 c3 c4 c5 c6 c7 c8 c9
    go_wp2_with fail
    go_roundw
    case rel=>exact ⟨k + 1,s ++ B,by omega,by go_num,rfl,(show _=_ by rw [HN.out,HS.out]),by rw [ByteArray.size_append];omega,b2⟩
    case measure=>simp [intOf];omega
   ·have hk':k=6:=by omega
    subst hk'
    have e:=HS.out
    subst e
    go_wp2_with fail
    go_ret2
    exact ⟨rfl,btr (by go_grown) hbel (by simp)⟩
 ·have e:encodeX x.sp=⟨#[]⟩:=by unfold encodeX;rw [if_neg hr]
  rw [e]
  have hb:(rightX x.sp != 0)=true:=by simpa using hr
  clear e hr h u hd
  generalize rightX x.sp=R at *
  go_enter Tryz.func73,Tryz.ntmps73
  go_wp2_with fail
  refine HR.out.mono ?_
  rintro r w1 ⟨rfl,g1⟩
  go_wp2_with fail
  go_ret2
  exact ⟨rfl,btr (by go_grown) g1 (by simp)⟩
abbrev Wn (w:World) (b:Nat) (x:En):Prop:=Bn w b x∧∀ i,w.frozen? ⟨b,i,none⟩=false
theorem Wn.block {w w':World} {b:Nat} {x:En} (h:Wn w b x) (g:w'.heap[b]? = w.heap[b]?):Wn w' b x :=
 ⟨h.1.block g,fun i=>(World.frozen?_of_block (w:=w) g).trans (h.2 i)⟩
theorem Wn.below {w w':World} {b B:Nat} {x:En} (h:Wn w b x) (hb:b < B) (g:Below B w w'):Wn w' b x:=h.block (g.block b hb)
theorem Wn.new (w:World) (x:En):Wn (ex w x) w.heap.size x:=by unfold Wn Bn ex;simp
theorem Wn.alloc {w:World} {b:Nat} {x:En} (h:Wn w b x) (hb:b < w.heap.size) (o:Obj):Wn (w.alloc o) b x:=h.below (B:=w.heap.size) hb ((Below.refl _ _).alloc (Nat.le_refl _) o)
theorem Wn.out {w:World} {b c o:Nat} {x:En} {v:Value} (h:Wn w b x) (hbc:b≠c):Wn (w.setCell ⟨c,o,none⟩ v) b x:=h.block (Below.heap_setCell _ _ _ _ hbc)
theorem Wn.set3 {w:World} {b:Nat} {x:En} (h:Wn w b x) (a:Option Addr) (l:List A) (c:Nat):Wn (w.setCell ⟨b,3,none⟩ (.slice a l.length c)) b { x with aa:=a,la:=l,ca:=c }:=by
 obtain ⟨⟨h0,h1,h2,h3,h4,h5,h6,h7,h8,h9⟩,hf⟩:=h
 exact ⟨⟨(World.cell?_setCell_other _ _ _ _ (by simp)).trans h0,(World.cell?_setCell_other _ _ _ _ (by simp)).trans h1,(World.cell?_setCell_other _ _ _ _ (by simp)).trans h2,World.cell?_setCell_same _ _ _ h3,(World.cell?_setCell_other _ _ _ _ (by simp)).trans h4,(World.cell?_setCell_other _ _ _ _ (by simp)).trans h5,(World.cell?_setCell_other _ _ _ _ (by simp)).trans h6,(World.cell?_setCell_other _ _ _ _ (by simp)).trans h7,(World.cell?_setCell_other _ _ _ _ (by simp)).trans h8,(World.cell?_setCell_other _ _ _ _ (by simp)).trans h9⟩,fun i=>by simp [hf]⟩
theorem Wn.set4 {w:World} {b:Nat} {x:En} (h:Wn w b x) (a:Option Addr) (l:List A) (c:Nat):Wn (w.setCell ⟨b,4,none⟩ (.slice a l.length c)) b { x with aw:=a,lw:=l,cw:=c }:=by
 obtain ⟨⟨h0,h1,h2,h3,h4,h5,h6,h7,h8,h9⟩,hf⟩:=h
 exact ⟨⟨(World.cell?_setCell_other _ _ _ _ (by simp)).trans h0,(World.cell?_setCell_other _ _ _ _ (by simp)).trans h1,(World.cell?_setCell_other _ _ _ _ (by simp)).trans h2,(World.cell?_setCell_other _ _ _ _ (by simp)).trans h3,World.cell?_setCell_same _ _ _ h4,(World.cell?_setCell_other _ _ _ _ (by simp)).trans h5,(World.cell?_setCell_other _ _ _ _ (by simp)).trans h6,(World.cell?_setCell_other _ _ _ _ (by simp)).trans h7,(World.cell?_setCell_other _ _ _ _ (by simp)).trans h8,(World.cell?_setCell_other _ _ _ _ (by simp)).trans h9⟩,fun i=>by simp [hf]⟩
theorem Wn.set5 {w:World} {b:Nat} {x:En} (h:Wn w b x) (v:Bool):Wn (w.setCell ⟨b,5,none⟩ (.bool v)) b { x with clr:=v }:=by
 obtain ⟨⟨h0,h1,h2,h3,h4,h5,h6,h7,h8,h9⟩,hf⟩:=h
 exact ⟨⟨(World.cell?_setCell_other _ _ _ _ (by simp)).trans h0,(World.cell?_setCell_other _ _ _ _ (by simp)).trans h1,(World.cell?_setCell_other _ _ _ _ (by simp)).trans h2,(World.cell?_setCell_other _ _ _ _ (by simp)).trans h3,(World.cell?_setCell_other _ _ _ _ (by simp)).trans h4,World.cell?_setCell_same _ _ _ h5,(World.cell?_setCell_other _ _ _ _ (by simp)).trans h6,(World.cell?_setCell_other _ _ _ _ (by simp)).trans h7,(World.cell?_setCell_other _ _ _ _ (by simp)).trans h8,(World.cell?_setCell_other _ _ _ _ (by simp)).trans h9⟩,fun i=>by simp [hf]⟩
theorem Wn.set6 {w:World} {b:Nat} {x:En} (h:Wn w b x) (v:Int):Wn (w.setCell ⟨b,6,none⟩ (.int .u64 v)) b { x with mt:=v }:=by
 obtain ⟨⟨h0,h1,h2,h3,h4,h5,h6,h7,h8,h9⟩,hf⟩:=h
 exact ⟨⟨(World.cell?_setCell_other _ _ _ _ (by simp)).trans h0,(World.cell?_setCell_other _ _ _ _ (by simp)).trans h1,(World.cell?_setCell_other _ _ _ _ (by simp)).trans h2,(World.cell?_setCell_other _ _ _ _ (by simp)).trans h3,(World.cell?_setCell_other _ _ _ _ (by simp)).trans h4,(World.cell?_setCell_other _ _ _ _ (by simp)).trans h5,World.cell?_setCell_same _ _ _ h6,(World.cell?_setCell_other _ _ _ _ (by simp)).trans h7,(World.cell?_setCell_other _ _ _ _ (by simp)).trans h8,(World.cell?_setCell_other _ _ _ _ (by simp)).trans h9⟩,fun i=>by simp [hf]⟩
theorem Wn.set7 {w:World} {b:Nat} {x:En} (h:Wn w b x) (v:Int):Wn (w.setCell ⟨b,7,none⟩ (.int .u64 v)) b { x with mm:=v }:=by
 obtain ⟨⟨h0,h1,h2,h3,h4,h5,h6,h7,h8,h9⟩,hf⟩:=h
 exact ⟨⟨(World.cell?_setCell_other _ _ _ _ (by simp)).trans h0,(World.cell?_setCell_other _ _ _ _ (by simp)).trans h1,(World.cell?_setCell_other _ _ _ _ (by simp)).trans h2,(World.cell?_setCell_other _ _ _ _ (by simp)).trans h3,(World.cell?_setCell_other _ _ _ _ (by simp)).trans h4,(World.cell?_setCell_other _ _ _ _ (by simp)).trans h5,(World.cell?_setCell_other _ _ _ _ (by simp)).trans h6,World.cell?_setCell_same _ _ _ h7,(World.cell?_setCell_other _ _ _ _ (by simp)).trans h8,(World.cell?_setCell_other _ _ _ _ (by simp)).trans h9⟩,fun i=>by simp [hf]⟩
theorem Wn.set8 {w:World} {b:Nat} {x:En} (h:Wn w b x) (v:Int):Wn (w.setCell ⟨b,8,none⟩ (.int .i64 v)) b { x with met:=v }:=by
 obtain ⟨⟨h0,h1,h2,h3,h4,h5,h6,h7,h8,h9⟩,hf⟩:=h
 exact ⟨⟨(World.cell?_setCell_other _ _ _ _ (by simp)).trans h0,(World.cell?_setCell_other _ _ _ _ (by simp)).trans h1,(World.cell?_setCell_other _ _ _ _ (by simp)).trans h2,(World.cell?_setCell_other _ _ _ _ (by simp)).trans h3,(World.cell?_setCell_other _ _ _ _ (by simp)).trans h4,(World.cell?_setCell_other _ _ _ _ (by simp)).trans h5,(World.cell?_setCell_other _ _ _ _ (by simp)).trans h6,(World.cell?_setCell_other _ _ _ _ (by simp)).trans h7,World.cell?_setCell_same _ _ _ h8,(World.cell?_setCell_other _ _ _ _ (by simp)).trans h9⟩,fun i=>by simp [hf]⟩
theorem Wn.set9 {w:World} {b:Nat} {x:En} (h:Wn w b x) (v:Int):Wn (w.setCell ⟨b,9,none⟩ (.int .i64 v)) b { x with go:=v }:=by
 obtain ⟨⟨h0,h1,h2,h3,h4,h5,h6,h7,h8,h9⟩,hf⟩:=h
 exact ⟨⟨(World.cell?_setCell_other _ _ _ _ (by simp)).trans h0,(World.cell?_setCell_other _ _ _ _ (by simp)).trans h1,(World.cell?_setCell_other _ _ _ _ (by simp)).trans h2,(World.cell?_setCell_other _ _ _ _ (by simp)).trans h3,(World.cell?_setCell_other _ _ _ _ (by simp)).trans h4,(World.cell?_setCell_other _ _ _ _ (by simp)).trans h5,(World.cell?_setCell_other _ _ _ _ (by simp)).trans h6,(World.cell?_setCell_other _ _ _ _ (by simp)).trans h7,(World.cell?_setCell_other _ _ _ _ (by simp)).trans h8,World.cell?_setCell_same _ _ _ h9⟩,fun i=>by simp [hf]⟩
theorem hiE (x:En):(Tryz.prog.info? 26).map (·.size)=some (enC x).size:=by kernel_rfl
theorem oneE (x:En):(enC x).all (·.oneCell')=true:=by simp [Value.oneCell']
theorem wn_there {w:World} {b:Nat} {x:En} (h:Wn w b x):w.there b 0 10:=by
 intro j hj
 obtain ⟨⟨h0,h1,h2,h3,h4,h5,h6,h7,h8,h9⟩,hf⟩:=h
 refine ⟨?_,hf _⟩
 match j,hj with
 | 0,_=>simp [h0]
 | 1,_=>simp [h1]
 | 2,_=>simp [h2]
 | 3,_=>simp [h3]
 | 4,_=>simp [h4]
 | 5,_=>simp [h5]
 | 6,_=>simp [h6]
 | 7,_=>simp [h7]
 | 8,_=>simp [h8]
 | 9,_=>simp [h9]
abbrev sE (w:World) (b:Nat) (x:En):World:=w.setCells b 0 (enC x).toList
theorem wn_set {w:World} {b:Nat} {y:En} (h:Wn w b y) (x:En):Wn (sE w b x) b x:=by
 have r:=World.rangeAt_setCells_same w b 0 (enC x).toList (wn_there h)
 exact ⟨⟨r 0 _ rfl,r 1 _ rfl,r 2 _ rfl,r 3 _ rfl,r 4 _ rfl,r 5 _ rfl,r 6 _ rfl,r 7 _ rfl,r 8 _ rfl,r 9 _ rfl⟩,fun i=>by rw [World.frozen?_setCells];exact h.2 i⟩
theorem bn_out {w:World} {b c:Nat} {y:En} (h:Bn w b y) (x:En) (hbc:b≠c):Bn (sE w c x) b y:=by
 obtain ⟨h0,h1,h2,h3,h4,h5,h6,h7,h8,h9⟩:=h
 have q:∀ p,(sE w c x).cell? ⟨b,p,none⟩=w.cell? ⟨b,p,none⟩:=fun p=>World.cell?_setCells_out c _ 0 w _ (fun e=>absurd e hbc)
 exact ⟨(q _).trans h0,(q _).trans h1,(q _).trans h2,(q _).trans h3,(q _).trans h4,(q _).trans h5,(q _).trans h6,(q _).trans h7,(q _).trans h8,(q _).trans h9⟩
theorem wn_out {w:World} {b c:Nat} {y:En} (h:Wn w b y) (x:En) (hbc:b≠c):Wn (sE w c x) b y :=
 ⟨bn_out h.1 x hbc,fun i=>by rw [World.frozen?_setCells];exact h.2 i⟩
theorem below_cells {a:World} {k c:Nat} (hk:k≤c):∀ (vs:List Value) (o:Nat) (w:World),Below k a w→Below k a (w.setCells c o vs)
 | [],_,_,g=>g
 | _ :: r,o,_,g=>below_cells hk r (o + 1) _ (g.setCell hk _)
theorem below_sE {a w:World} {k c:Nat} (x:En) (g:Below k a w) (hk:k≤c):Below k a (sE w c x):=below_cells hk _ _ _ g
def en0:En:=⟨0,0,none,0,0,none,[],0,none,[],0,false,0,0,0,0⟩
def sp0:Sp:=⟨0,[],[],false,0,0,0,0⟩
theorem en0_sp:en0.sp=sp0:=rfl
theorem en0_w (w:World):EW w en0:=⟨.inl rfl,.inl rfl,by decide,by decide⟩
def rs4 (d:ByteArray):RS:=⟨d.extract 4 d.size,0⟩
def decL (d:ByteArray):List A:=(decR (d.extract 8 d.size)).1
def readX (p:Int) (d:ByteArray) (s:Sp):Sp :=
 if p=6 then { s with met:=(rs4 d).num 4 } else if p=4 then { s with la:=decL d } else if p=5 then { s with clr:=true } else if p=3 then { s with lw:=decL d }
 else if p=2 then { s with mt:=((rs4 d).skip 4).num 8,mm:=(((rs4 d).skip 4).skip 8).num 8 } else if p=1 then { s with go:=(rs4 d).num 1 } else s
def placeX (p:Int):Int:=if p=6 then 1 else if p=4 then 2 else if p=5 then 3 else if p=3 then 4 else if p=2 then 5 else if p=1 then 6 else 0
theorem decR_few (d:ByteArray):(decR d).1.length≤32:=by
 by_cases h:(decR d).2=0
 ·have h1:=(enc_dec d h).1
  unfold encodeE at h1
  split at h1
  ·split at h1
   ·assumption
   ·cases h1
  ·cases h1
 ·rw [decR_bad d h];exact Nat.zero_le _
structure EF (B:Nat) (w:World) (x:En):Prop where
 a:TsF B w x.aa x.la
 w:TsF B w x.aw x.lw
 na:x.la.length≤1000
 nw:x.lw.length≤1000
theorem EF.ew {B:Nat} {w:World} {x:En} (h:EF B w x):EW w x:=⟨h.a.ts,h.w.ts,h.na,h.nw⟩
theorem TsF.below {B:Nat} {w w':World} {a:Option Addr} {l:List A} (h:TsF B w a l) (g:Below w.heap.size w w'):TsF B w' a l:=h.keep g.size (fun k _ hk=>g.block k hk)
theorem TsF.mono {B C:Nat} {w:World} {a:Option Addr} {l:List A} (h:TsF B w a l) (hc:C≤B):TsF C w a l:=by
 rcases h with h | ⟨g,ha,h0,h1⟩
 ·exact .inl h
 ·exact .inr ⟨g,ha,by omega,h1⟩
theorem EF.below {B:Nat} {w w':World} {x:En} (h:EF B w x) (g:Below w.heap.size w w'):EF B w' x:=⟨h.a.below g,h.w.below g,h.na,h.nw⟩
abbrev twoE (w:World) (x:En):World:=(ex w x).alloc (.cells (enC en0) 26)
theorem Wn.two0 (w:World) (x:En):Wn (twoE w x) w.heap.size x:=(Wn.new w x).alloc (by simp) _
theorem Wn.two1 (w:World) (x:En):Wn (twoE w x) (w.heap.size + 1) en0:=by have:=Wn.new (ex w x) en0;simpa using this
theorem rd_two (s:ByteArray) (x:En) (w:World):Calls Tryz.prog 45 #[.string s] (twoE w x) fun r w'=>r=.returned (.pointer (some ⟨w.heap.size + 2,0,none⟩))∧Rd w' (w.heap.size + 2) s 0∧Wn w' w.heap.size x∧Wn w' (w.heap.size + 1) en0∧Below w.heap.size w w'∧w'.heap.size=w.heap.size + 3:=by
 refine (rd_any s (twoE w x)).mono ?_
 rintro r w' ⟨rfl,h1,h2,h3⟩
 have e:(twoE w x).heap.size=w.heap.size + 2:=by simp
 rw [e] at h1 h2 h3
 refine ⟨by rw [e],h1,(Wn.two0 w x).below (by omega) h2,(Wn.two1 w x).below (by omega) h2,?_,h3⟩
 exact (show Below w.heap.size w (twoE w x) by go_grown).trans (h2.mono (by omega))
theorem below_sE_block {w:World} {c g:Nat} (x:En) (h:g≠c):(sE w c x).heap[g]? = w.heap[g]?:=by
 have:∀ (vs:List Value) (o:Nat) (w:World),(w.setCells c o vs).heap[g]? = w.heap[g]?:=by
  intro vs
  induction vs with
  | nil=>intro o w;rfl
  | cons v r ih=>intro o w;exact (ih (o + 1) _).trans (Below.heap_setCell _ _ _ _ h)
 exact this _ _ _
theorem readX_6 (d:ByteArray) (x:En) (w:World) (h:EW w x) (hd:Cd w) (hs:d.size≤maxLen) (h8:8≤d.size) :
    Calls Tryz.prog 138 #[.int .i64 6,.string d,enV x] w fun e w'=>∃ y:En,e=.returned (enV y)∧y.sp=readX 6 d x.sp∧(y.pri=x.pri∧y.ta=x.ta∧y.tl=x.tl∧y.tc=x.tc)∧EW w' y∧(∀ B,B≤w.heap.size→EF B w x→EF B w' y)∧Below w.heap.size w w':=by
  have hR:Hid (∀ s,readX 6 d s={ s with met:=(rs4 d).num 4 }):=(show ∀ s,_ from fun s=>rfl)
  have hz:(rs4 d).s.size≤maxLen:=by
    show (d.extract 4 d.size).size≤_
    rw [ByteArray.size_extract];omega
  have HRd:Hid (Calls Tryz.prog 45 #[.string (d.extract 4 d.size)] (twoE w x) fun r w'=>r=.returned (.pointer (some ⟨w.heap.size + 2,0,none⟩))∧Rd w' (w.heap.size + 2) (rs4 d).s (rs4 d).e∧Wn w' w.heap.size x∧Wn w' (w.heap.size + 1) en0∧Below w.heap.size w w'∧w'.heap.size=w.heap.size + 3):=rd_two (d.extract 4 d.size) x w
  have HEW:Hid (EW w x):=h
  have HD:Hid (Cd w):=hd
  skip
  generalize rs4 d=R at *
  clear h hd hs
  have n0:0≤(R).num 4∧(R).num 4 < 4294967296:=by simpa using RS.num_lt (R) 4 (by omega)
  have z0:(R).s.size≤maxLen:=hz
  go_enter Tryz.func138,Tryz.ntmps138
  go_wp2_with fail
  refine HRd.out.mono ?_
  rintro r w1 ⟨rfl,r0,d0,e0,G0,s0⟩
  have s0':w.heap.size + 3≤w1.heap.size:=by omega
  clear s0
  go_wp2_with fail
  refine (numR (w.heap.size + 2) (R) 4 _ z0 r0).mono ?_
  rintro r u0 ⟨rfl,r1,o0⟩
  have d1:=d0.block (o0.block _ (by omega))
  have e1:=e0.block (o0.block _ (by omega))
  have G1:Below w.heap.size w u0:=o0.below (by omega) G0
  have s1':w.heap.size + 3≤u0.heap.size:=by rw [o0.size];exact s0'
  clear o0 d0 e0 G0 s0' r0
  obtain ⟨N0,hN0⟩:∃ N,(R).num 4=N:=⟨_,rfl⟩
  rw [hN0] at n0
  rw [hN0]
  have HN0:Hid ((R).num 4=N0):=hN0
  have p0:0≤N0:=n0.1
  have q0:N0 < 4294967296:=n0.2
  clear n0 hN0
  have d2:=d1.set8 N0
  have e2:=e1.out (c:=w.heap.size) (o:=8) (v:=.int .i64 N0) (by omega)
  have G2:Below w.heap.size w (u0.setCell ⟨w.heap.size,8,none⟩ (.int .i64 N0)):=G1.setCell (Nat.le_refl _) _
  have s2':w.heap.size + 3≤(u0.setCell ⟨w.heap.size,8,none⟩ (.int .i64 N0)).heap.size:=by simpa [World.setCell] using s1'
  have dd1:=d1
  obtain ⟨⟨c0,c1,c2,c3,c4,c5,c6,c7,c8,c9⟩,cf⟩:=dd1
  clear e1 G1 s1'
  obtain ⟨V,hV⟩:∃ V,((u0.setCell ⟨w.heap.size,8,none⟩ (.int .i64 N0))).setCells (w.heap.size + 1) 0 (enC { x with met:=N0 }).toList=V:=⟨_,rfl⟩
  have HT:Hid (((u0.setCell ⟨w.heap.size,8,none⟩ (.int .i64 N0))).there (w.heap.size + 1) 0 (enC { x with met:=N0 }).size):=(show World.there _ _ _ _ from wn_there e2)
  have F1:Wn V (w.heap.size + 1) { x with met:=N0 }:=hV ▸ wn_set e2 { x with met:=N0 }
  have GV:Below w.heap.size w V:=hV ▸ below_sE { x with met:=N0 } G2 (by omega)
  have HW:Hid (((u0.setCell ⟨w.heap.size,8,none⟩ (.int .i64 N0))).setCells (w.heap.size + 1) 0 (enC { x with met:=N0 }).toList=V):=hV
  clear e2 hV G2 s2'
  go_wp2_with (refine wpList_store_mid rfl 26 (.tmp 6) _ rfl (w.heap.size + 1) 0 (enC { x with met:=N0 }) rfl rfl HT.out (hiE { x with met:=N0 }) (oneE { x with met:=N0 }) ?_;rw [HW.out])
  refine bodyPost_ret (resE (b:=w.heap.size + 1) (x:={ x with met:=N0 }) rfl rfl F1.1) rfl ?_
  exact ⟨{ x with met:=N0 },rfl,(show _=_ by rw [hR.out];rw [HN0.out];rfl),⟨rfl,rfl,rfl,rfl⟩,⟨(HEW.out.below GV).a,(HEW.out.below GV).w,HEW.out.na,HEW.out.nw⟩,fun B hB f=>⟨f.a.below GV,f.w.below GV,f.na,f.nw⟩,GV⟩
theorem readX_4 (d:ByteArray) (x:En) (w:World) (h:EW w x) (hd:Cd w) (hs:d.size≤maxLen) (h8:8≤d.size) :
    Calls Tryz.prog 138 #[.int .i64 4,.string d,enV x] w fun e w'=>∃ y:En,e=.returned (enV y)∧y.sp=readX 4 d x.sp∧(y.pri=x.pri∧y.ta=x.ta∧y.tl=x.tl∧y.tc=x.tc)∧EW w' y∧(∀ B,B≤w.heap.size→EF B w x→EF B w' y)∧Below w.heap.size w w':=by
  have hR:Hid (∀ s,readX 4 d s={ s with la:=decL d }):=(show ∀ s,_ from fun s=>rfl)
  have hz:(rs4 d).s.size≤maxLen:=by
    show (d.extract 4 d.size).size≤_
    rw [ByteArray.size_extract];omega
  have HRd:Hid (Calls Tryz.prog 45 #[.string (d.extract 4 d.size)] (twoE w x) fun r w'=>r=.returned (.pointer (some ⟨w.heap.size + 2,0,none⟩))∧Rd w' (w.heap.size + 2) (rs4 d).s (rs4 d).e∧Wn w' w.heap.size x∧Wn w' (w.heap.size + 1) en0∧Below w.heap.size w w'∧w'.heap.size=w.heap.size + 3):=rd_two (d.extract 4 d.size) x w
  have HEW:Hid (EW w x):=h
  have HD:Hid (Cd w):=hd
  have HDec:Hid (∀ w,Cd w→Calls Tryz.prog 113 #[.string (d.extract 8 d.size)] w fun z w'=>∃ ad cap,z=.returned (.tuple #[.slice ad (decL d).length cap,.int .i64 (decR (d.extract 8 d.size)).2])∧TsF w.heap.size w' ad (decL d)∧Below w.heap.size w w'):=(show ∀ w,_ from fun w hd=>dec_any _ w (by rw [ByteArray.size_extract];omega) hd)
  have HFew:Hid ((decL d).length≤32):=(show _≤_ from decR_few _)
  generalize decL d=DL at *
  generalize (decR (d.extract 8 d.size)).2=DE at *
  generalize rs4 d=R at *
  clear h hd hs
  go_enter Tryz.func138,Tryz.ntmps138
  go_wp2_with fail
  refine HRd.out.mono ?_
  rintro r w1 ⟨rfl,r0,d0,e0,G0,s0⟩
  have s0':w.heap.size + 3≤w1.heap.size:=by omega
  clear s0
  go_wp2_with fail
  refine (HDec.out _ (HD.out.below G0)).mono ?_
  rintro r u0 ⟨ad,cp,rfl,tf,gd⟩
  have d1:=d0.below (by omega) gd
  have e1:=e0.below (by omega) gd
  have G1:Below w.heap.size w u0:=btr G0 gd (by omega)
  have s1':w.heap.size + 3≤u0.heap.size:=by have:=gd.size;omega
  have HTF:Hid (TsF (w.heap.size + 2) u0 ad DL):=(show TsF _ _ _ _ from by
    rcases tf with t | ⟨g,ha,hb,hg,hc⟩
    · exact .inl t
    · exact .inr ⟨g,ha,by omega,hg,hc⟩)
  clear gd d0 e0 G0 s0' tf r0
  have d2:=d1.set3 ad DL cp
  have e2:=e1.out (c:=w.heap.size) (o:=3) (v:=.slice ad DL.length cp) (by omega)
  have G2:Below w.heap.size w (u0.setCell ⟨w.heap.size,3,none⟩ (.slice ad DL.length cp)):=G1.setCell (Nat.le_refl _) _
  have s2':w.heap.size + 3≤(u0.setCell ⟨w.heap.size,3,none⟩ (.slice ad DL.length cp)).heap.size:=by simpa [World.setCell] using s1'
  have dd1:=d1
  obtain ⟨⟨c0,c1,c2,c3,c4,c5,c6,c7,c8,c9⟩,cf⟩:=dd1
  clear e1 G1 s1'
  obtain ⟨V,hV⟩:∃ V,((u0.setCell ⟨w.heap.size,3,none⟩ (.slice ad DL.length cp))).setCells (w.heap.size + 1) 0 (enC { x with aa:=ad,la:=DL,ca:=cp }).toList=V:=⟨_,rfl⟩
  have HT:Hid (((u0.setCell ⟨w.heap.size,3,none⟩ (.slice ad DL.length cp))).there (w.heap.size + 1) 0 (enC { x with aa:=ad,la:=DL,ca:=cp }).size):=(show World.there _ _ _ _ from wn_there e2)
  have F1:Wn V (w.heap.size + 1) { x with aa:=ad,la:=DL,ca:=cp }:=hV ▸ wn_set e2 { x with aa:=ad,la:=DL,ca:=cp }
  have GV:Below w.heap.size w V:=hV ▸ below_sE { x with aa:=ad,la:=DL,ca:=cp } G2 (by omega)
  have HTV:Hid (TsF (w.heap.size + 2) V ad DL):=(show TsF _ _ _ _ from by
    have t1:TsF (w.heap.size + 2) (u0.setCell ⟨w.heap.size,3,none⟩ (.slice ad DL.length cp)) ad DL:=HTF.out.keep (by simp [World.setCell]) (fun g hg _=>Below.heap_setCell _ _ _ _ (show g≠w.heap.size by omega))
    have t2:TsF (w.heap.size + 2) V ad DL:=t1.keep (by rw [← hV];exact (below_sE { x with aa:=ad,la:=DL,ca:=cp } (Below.refl 0 _) (Nat.zero_le _)).size) (fun g hg _=>by rw [← hV];exact (below_sE_block { x with aa:=ad,la:=DL,ca:=cp } (by omega)))
    exact t2)
  have HW:Hid (((u0.setCell ⟨w.heap.size,3,none⟩ (.slice ad DL.length cp))).setCells (w.heap.size + 1) 0 (enC { x with aa:=ad,la:=DL,ca:=cp }).toList=V):=hV
  clear e2 hV G2 s2'
  go_wp2_with (refine wpList_store_mid rfl 26 (.tmp 6) _ rfl (w.heap.size + 1) 0 (enC { x with aa:=ad,la:=DL,ca:=cp }) rfl rfl HT.out (hiE { x with aa:=ad,la:=DL,ca:=cp }) (oneE { x with aa:=ad,la:=DL,ca:=cp }) ?_;rw [HW.out])
  refine bodyPost_ret (resE (b:=w.heap.size + 1) (x:={ x with aa:=ad,la:=DL,ca:=cp }) rfl rfl F1.1) rfl ?_
  exact ⟨{ x with aa:=ad,la:=DL,ca:=cp },rfl,(show _=_ by rw [hR.out];rfl),⟨rfl,rfl,rfl,rfl⟩,⟨HTV.out.ts,(HEW.out.below GV).w,Nat.le_trans HFew.out (by decide),HEW.out.nw⟩,fun B hB f=>⟨HTV.out.mono (by omega),f.w.below GV,Nat.le_trans HFew.out (by decide),f.nw⟩,GV⟩
theorem readX_5 (d:ByteArray) (x:En) (w:World) (h:EW w x) (hd:Cd w) (hs:d.size≤maxLen) (h8:8≤d.size) :
    Calls Tryz.prog 138 #[.int .i64 5,.string d,enV x] w fun e w'=>∃ y:En,e=.returned (enV y)∧y.sp=readX 5 d x.sp∧(y.pri=x.pri∧y.ta=x.ta∧y.tl=x.tl∧y.tc=x.tc)∧EW w' y∧(∀ B,B≤w.heap.size→EF B w x→EF B w' y)∧Below w.heap.size w w':=by
  have hR:Hid (∀ s,readX 5 d s={ s with clr:=true }):=(show ∀ s,_ from fun s=>rfl)
  have hz:(rs4 d).s.size≤maxLen:=by
    show (d.extract 4 d.size).size≤_
    rw [ByteArray.size_extract];omega
  have HRd:Hid (Calls Tryz.prog 45 #[.string (d.extract 4 d.size)] (twoE w x) fun r w'=>r=.returned (.pointer (some ⟨w.heap.size + 2,0,none⟩))∧Rd w' (w.heap.size + 2) (rs4 d).s (rs4 d).e∧Wn w' w.heap.size x∧Wn w' (w.heap.size + 1) en0∧Below w.heap.size w w'∧w'.heap.size=w.heap.size + 3):=rd_two (d.extract 4 d.size) x w
  have HEW:Hid (EW w x):=h
  have HD:Hid (Cd w):=hd
  skip
  generalize rs4 d=R at *
  clear h hd hs
  go_enter Tryz.func138,Tryz.ntmps138
  go_wp2_with fail
  refine HRd.out.mono ?_
  rintro r w1 ⟨rfl,r0,d0,e0,G0,s0⟩
  have s0':w.heap.size + 3≤w1.heap.size:=by omega
  clear s0
  have d1:=d0.set5 true
  have e1:=e0.out (c:=w.heap.size) (o:=5) (v:=.bool true) (by omega)
  have G1:Below w.heap.size w (w1.setCell ⟨w.heap.size,5,none⟩ (.bool true)):=G0.setCell (Nat.le_refl _) _
  have s1':w.heap.size + 3≤(w1.setCell ⟨w.heap.size,5,none⟩ (.bool true)).heap.size:=by simpa [World.setCell] using s0'
  have dd0:=d0
  obtain ⟨⟨c0,c1,c2,c3,c4,c5,c6,c7,c8,c9⟩,cf⟩:=dd0
  clear e0 G0 s0'
  obtain ⟨V,hV⟩:∃ V,((w1.setCell ⟨w.heap.size,5,none⟩ (.bool true))).setCells (w.heap.size + 1) 0 (enC { x with clr:=true }).toList=V:=⟨_,rfl⟩
  have HT:Hid (((w1.setCell ⟨w.heap.size,5,none⟩ (.bool true))).there (w.heap.size + 1) 0 (enC { x with clr:=true }).size):=(show World.there _ _ _ _ from wn_there e1)
  have F1:Wn V (w.heap.size + 1) { x with clr:=true }:=hV ▸ wn_set e1 { x with clr:=true }
  have GV:Below w.heap.size w V:=hV ▸ below_sE { x with clr:=true } G1 (by omega)
  have HW:Hid (((w1.setCell ⟨w.heap.size,5,none⟩ (.bool true))).setCells (w.heap.size + 1) 0 (enC { x with clr:=true }).toList=V):=hV
  clear e1 hV G1 s1'
  go_wp2_with (refine wpList_store_mid rfl 26 (.tmp 6) _ rfl (w.heap.size + 1) 0 (enC { x with clr:=true }) rfl rfl HT.out (hiE { x with clr:=true }) (oneE { x with clr:=true }) ?_;rw [HW.out])
  refine bodyPost_ret (resE (b:=w.heap.size + 1) (x:={ x with clr:=true }) rfl rfl F1.1) rfl ?_
  exact ⟨{ x with clr:=true },rfl,(show _=_ by rw [hR.out];rfl),⟨rfl,rfl,rfl,rfl⟩,⟨(HEW.out.below GV).a,(HEW.out.below GV).w,HEW.out.na,HEW.out.nw⟩,fun B hB f=>⟨f.a.below GV,f.w.below GV,f.na,f.nw⟩,GV⟩
theorem readX_3 (d:ByteArray) (x:En) (w:World) (h:EW w x) (hd:Cd w) (hs:d.size≤maxLen) (h8:8≤d.size) :
    Calls Tryz.prog 138 #[.int .i64 3,.string d,enV x] w fun e w'=>∃ y:En,e=.returned (enV y)∧y.sp=readX 3 d x.sp∧(y.pri=x.pri∧y.ta=x.ta∧y.tl=x.tl∧y.tc=x.tc)∧EW w' y∧(∀ B,B≤w.heap.size→EF B w x→EF B w' y)∧Below w.heap.size w w':=by
  have hR:Hid (∀ s,readX 3 d s={ s with lw:=decL d }):=(show ∀ s,_ from fun s=>rfl)
  have hz:(rs4 d).s.size≤maxLen:=by
    show (d.extract 4 d.size).size≤_
    rw [ByteArray.size_extract];omega
  have HRd:Hid (Calls Tryz.prog 45 #[.string (d.extract 4 d.size)] (twoE w x) fun r w'=>r=.returned (.pointer (some ⟨w.heap.size + 2,0,none⟩))∧Rd w' (w.heap.size + 2) (rs4 d).s (rs4 d).e∧Wn w' w.heap.size x∧Wn w' (w.heap.size + 1) en0∧Below w.heap.size w w'∧w'.heap.size=w.heap.size + 3):=rd_two (d.extract 4 d.size) x w
  have HEW:Hid (EW w x):=h
  have HD:Hid (Cd w):=hd
  have HDec:Hid (∀ w,Cd w→Calls Tryz.prog 113 #[.string (d.extract 8 d.size)] w fun z w'=>∃ ad cap,z=.returned (.tuple #[.slice ad (decL d).length cap,.int .i64 (decR (d.extract 8 d.size)).2])∧TsF w.heap.size w' ad (decL d)∧Below w.heap.size w w'):=(show ∀ w,_ from fun w hd=>dec_any _ w (by rw [ByteArray.size_extract];omega) hd)
  have HFew:Hid ((decL d).length≤32):=(show _≤_ from decR_few _)
  generalize decL d=DL at *
  generalize (decR (d.extract 8 d.size)).2=DE at *
  generalize rs4 d=R at *
  clear h hd hs
  go_enter Tryz.func138,Tryz.ntmps138
  go_wp2_with fail
  refine HRd.out.mono ?_
  rintro r w1 ⟨rfl,r0,d0,e0,G0,s0⟩
  have s0':w.heap.size + 3≤w1.heap.size:=by omega
  clear s0
  go_wp2_with fail
  refine (HDec.out _ (HD.out.below G0)).mono ?_
  rintro r u0 ⟨ad,cp,rfl,tf,gd⟩
  have d1:=d0.below (by omega) gd
  have e1:=e0.below (by omega) gd
  have G1:Below w.heap.size w u0:=btr G0 gd (by omega)
  have s1':w.heap.size + 3≤u0.heap.size:=by have:=gd.size;omega
  have HTF:Hid (TsF (w.heap.size + 2) u0 ad DL):=(show TsF _ _ _ _ from by
    rcases tf with t | ⟨g,ha,hb,hg,hc⟩
    · exact .inl t
    · exact .inr ⟨g,ha,by omega,hg,hc⟩)
  clear gd d0 e0 G0 s0' tf r0
  have d2:=d1.set4 ad DL cp
  have e2:=e1.out (c:=w.heap.size) (o:=4) (v:=.slice ad DL.length cp) (by omega)
  have G2:Below w.heap.size w (u0.setCell ⟨w.heap.size,4,none⟩ (.slice ad DL.length cp)):=G1.setCell (Nat.le_refl _) _
  have s2':w.heap.size + 3≤(u0.setCell ⟨w.heap.size,4,none⟩ (.slice ad DL.length cp)).heap.size:=by simpa [World.setCell] using s1'
  have dd1:=d1
  obtain ⟨⟨c0,c1,c2,c3,c4,c5,c6,c7,c8,c9⟩,cf⟩:=dd1
  clear e1 G1 s1'
  obtain ⟨V,hV⟩:∃ V,((u0.setCell ⟨w.heap.size,4,none⟩ (.slice ad DL.length cp))).setCells (w.heap.size + 1) 0 (enC { x with aw:=ad,lw:=DL,cw:=cp }).toList=V:=⟨_,rfl⟩
  have HT:Hid (((u0.setCell ⟨w.heap.size,4,none⟩ (.slice ad DL.length cp))).there (w.heap.size + 1) 0 (enC { x with aw:=ad,lw:=DL,cw:=cp }).size):=(show World.there _ _ _ _ from wn_there e2)
  have F1:Wn V (w.heap.size + 1) { x with aw:=ad,lw:=DL,cw:=cp }:=hV ▸ wn_set e2 { x with aw:=ad,lw:=DL,cw:=cp }
  have GV:Below w.heap.size w V:=hV ▸ below_sE { x with aw:=ad,lw:=DL,cw:=cp } G2 (by omega)
  have HTV:Hid (TsF (w.heap.size + 2) V ad DL):=(show TsF _ _ _ _ from by
    have t1:TsF (w.heap.size + 2) (u0.setCell ⟨w.heap.size,4,none⟩ (.slice ad DL.length cp)) ad DL:=HTF.out.keep (by simp [World.setCell]) (fun g hg _=>Below.heap_setCell _ _ _ _ (show g≠w.heap.size by omega))
    have t2:TsF (w.heap.size + 2) V ad DL:=t1.keep (by rw [← hV];exact (below_sE { x with aw:=ad,lw:=DL,cw:=cp } (Below.refl 0 _) (Nat.zero_le _)).size) (fun g hg _=>by rw [← hV];exact (below_sE_block { x with aw:=ad,lw:=DL,cw:=cp } (by omega)))
    exact t2)
  have HW:Hid (((u0.setCell ⟨w.heap.size,4,none⟩ (.slice ad DL.length cp))).setCells (w.heap.size + 1) 0 (enC { x with aw:=ad,lw:=DL,cw:=cp }).toList=V):=hV
  clear e2 hV G2 s2'
  go_wp2_with (refine wpList_store_mid rfl 26 (.tmp 6) _ rfl (w.heap.size + 1) 0 (enC { x with aw:=ad,lw:=DL,cw:=cp }) rfl rfl HT.out (hiE { x with aw:=ad,lw:=DL,cw:=cp }) (oneE { x with aw:=ad,lw:=DL,cw:=cp }) ?_;rw [HW.out])
  refine bodyPost_ret (resE (b:=w.heap.size + 1) (x:={ x with aw:=ad,lw:=DL,cw:=cp }) rfl rfl F1.1) rfl ?_
  exact ⟨{ x with aw:=ad,lw:=DL,cw:=cp },rfl,(show _=_ by rw [hR.out];rfl),⟨rfl,rfl,rfl,rfl⟩,⟨(HEW.out.below GV).a,HTV.out.ts,HEW.out.na,Nat.le_trans HFew.out (by decide)⟩,fun B hB f=>⟨f.a.below GV,HTV.out.mono (by omega),f.na,Nat.le_trans HFew.out (by decide)⟩,GV⟩
theorem readX_2 (d:ByteArray) (x:En) (w:World) (h:EW w x) (hd:Cd w) (hs:d.size≤maxLen) (h8:8≤d.size) :
    Calls Tryz.prog 138 #[.int .i64 2,.string d,enV x] w fun e w'=>∃ y:En,e=.returned (enV y)∧y.sp=readX 2 d x.sp∧(y.pri=x.pri∧y.ta=x.ta∧y.tl=x.tl∧y.tc=x.tc)∧EW w' y∧(∀ B,B≤w.heap.size→EF B w x→EF B w' y)∧Below w.heap.size w w':=by
  have hR:Hid (∀ s,readX 2 d s={ s with mt:=((rs4 d).skip 4).num 8,mm:=(((rs4 d).skip 4).skip 8).num 8 }):=(show ∀ s,_ from fun s=>rfl)
  have hz:(rs4 d).s.size≤maxLen:=by
    show (d.extract 4 d.size).size≤_
    rw [ByteArray.size_extract];omega
  have HRd:Hid (Calls Tryz.prog 45 #[.string (d.extract 4 d.size)] (twoE w x) fun r w'=>r=.returned (.pointer (some ⟨w.heap.size + 2,0,none⟩))∧Rd w' (w.heap.size + 2) (rs4 d).s (rs4 d).e∧Wn w' w.heap.size x∧Wn w' (w.heap.size + 1) en0∧Below w.heap.size w w'∧w'.heap.size=w.heap.size + 3):=rd_two (d.extract 4 d.size) x w
  have HEW:Hid (EW w x):=h
  have HD:Hid (Cd w):=hd
  skip
  generalize rs4 d=R at *
  clear h hd hs
  have n0:0≤(R).num 4∧(R).num 4 < 4294967296:=by simpa using RS.num_lt (R) 4 (by omega)
  have z0:(R).s.size≤maxLen:=hz
  have n1:0≤((R).skip 4).num 8∧((R).skip 4).num 8 < 18446744073709551616:=by simpa using RS.num_lt ((R).skip 4) 8 (by omega)
  have z1:((R).skip 4).s.size≤maxLen:=Nat.le_trans (RS.skip_size _ _) z0
  have n2:0≤(((R).skip 4).skip 8).num 8∧(((R).skip 4).skip 8).num 8 < 18446744073709551616:=by simpa using RS.num_lt (((R).skip 4).skip 8) 8 (by omega)
  have z2:(((R).skip 4).skip 8).s.size≤maxLen:=Nat.le_trans (RS.skip_size _ _) z1
  go_enter Tryz.func138,Tryz.ntmps138
  go_wp2_with fail
  refine HRd.out.mono ?_
  rintro r w1 ⟨rfl,r0,d0,e0,G0,s0⟩
  have s0':w.heap.size + 3≤w1.heap.size:=by omega
  clear s0
  go_wp2_with fail
  refine (numR (w.heap.size + 2) (R) 4 _ z0 r0).mono ?_
  rintro r u0 ⟨rfl,r1,o0⟩
  have d1:=d0.block (o0.block _ (by omega))
  have e1:=e0.block (o0.block _ (by omega))
  have G1:Below w.heap.size w u0:=o0.below (by omega) G0
  have s1':w.heap.size + 3≤u0.heap.size:=by rw [o0.size];exact s0'
  clear o0 d0 e0 G0 s0' r0
  obtain ⟨N0,hN0⟩:∃ N,(R).num 4=N:=⟨_,rfl⟩
  rw [hN0] at n0
  rw [hN0]
  have HN0:Hid ((R).num 4=N0):=hN0
  have p0:0≤N0:=n0.1
  have q0:N0 < 4294967296:=n0.2
  clear n0 hN0
  go_wp2_with fail
  refine (numR (w.heap.size + 2) ((R).skip 4) 8 _ z1 r1).mono ?_
  rintro r u1 ⟨rfl,r2,o1⟩
  have d2:=d1.block (o1.block _ (by omega))
  have e2:=e1.block (o1.block _ (by omega))
  have G2:Below w.heap.size w u1:=o1.below (by omega) G1
  have s2':w.heap.size + 3≤u1.heap.size:=by rw [o1.size];exact s1'
  clear o1 d1 e1 G1 s1' r1
  obtain ⟨N1,hN1⟩:∃ N,((R).skip 4).num 8=N:=⟨_,rfl⟩
  rw [hN1] at n1
  rw [hN1]
  have HN1:Hid (((R).skip 4).num 8=N1):=hN1
  have p1:0≤N1:=n1.1
  have q1:N1 < 18446744073709551616:=n1.2
  clear n1 hN1
  have d3:=d2.set6 N1
  have e3:=e2.out (c:=w.heap.size) (o:=6) (v:=.int .u64 N1) (by omega)
  have G3:Below w.heap.size w (u1.setCell ⟨w.heap.size,6,none⟩ (.int .u64 N1)):=G2.setCell (Nat.le_refl _) _
  have s3':w.heap.size + 3≤(u1.setCell ⟨w.heap.size,6,none⟩ (.int .u64 N1)).heap.size:=by simpa [World.setCell] using s2'
  have r3:=r2.set (c:=w.heap.size) (by omega) 6 (.int .u64 N1)
  have dd2:=d2
  obtain ⟨⟨c0,c1,c2,c3,c4,c5,c6,c7,c8,c9⟩,cf⟩:=dd2
  clear e2 G2 s2' r2
  go_wp2_with fail
  refine (numR (w.heap.size + 2) (((R).skip 4).skip 8) 8 _ z2 r3).mono ?_
  rintro r u3 ⟨rfl,r4,o3⟩
  have d4:=d3.block (o3.block _ (by omega))
  have e4:=e3.block (o3.block _ (by omega))
  have G4:Below w.heap.size w u3:=o3.below (by omega) G3
  have s4':w.heap.size + 3≤u3.heap.size:=by rw [o3.size];exact s3'
  clear o3 d3 e3 G3 s3' r3
  obtain ⟨N2,hN2⟩:∃ N,(((R).skip 4).skip 8).num 8=N:=⟨_,rfl⟩
  rw [hN2] at n2
  rw [hN2]
  have HN2:Hid ((((R).skip 4).skip 8).num 8=N2):=hN2
  have p2:0≤N2:=n2.1
  have q2:N2 < 18446744073709551616:=n2.2
  clear n2 hN2
  have d5:=d4.set7 N2
  have e5:=e4.out (c:=w.heap.size) (o:=7) (v:=.int .u64 N2) (by omega)
  have G5:Below w.heap.size w (u3.setCell ⟨w.heap.size,7,none⟩ (.int .u64 N2)):=G4.setCell (Nat.le_refl _) _
  have s5':w.heap.size + 3≤(u3.setCell ⟨w.heap.size,7,none⟩ (.int .u64 N2)).heap.size:=by simpa [World.setCell] using s4'
  have dd4:=d4
  obtain ⟨⟨c0,c1,c2,c3,c4,c5,c6,c7,c8,c9⟩,cf⟩:=dd4
  clear e4 G4 s4'
  obtain ⟨V,hV⟩:∃ V,((u3.setCell ⟨w.heap.size,7,none⟩ (.int .u64 N2))).setCells (w.heap.size + 1) 0 (enC { x with mt:=N1,mm:=N2 }).toList=V:=⟨_,rfl⟩
  have HT:Hid (((u3.setCell ⟨w.heap.size,7,none⟩ (.int .u64 N2))).there (w.heap.size + 1) 0 (enC { x with mt:=N1,mm:=N2 }).size):=(show World.there _ _ _ _ from wn_there e5)
  have F1:Wn V (w.heap.size + 1) { x with mt:=N1,mm:=N2 }:=hV ▸ wn_set e5 { x with mt:=N1,mm:=N2 }
  have GV:Below w.heap.size w V:=hV ▸ below_sE { x with mt:=N1,mm:=N2 } G5 (by omega)
  have HW:Hid (((u3.setCell ⟨w.heap.size,7,none⟩ (.int .u64 N2))).setCells (w.heap.size + 1) 0 (enC { x with mt:=N1,mm:=N2 }).toList=V):=hV
  clear e5 hV G5 s5'
  go_wp2_with (refine wpList_store_mid rfl 26 (.tmp 6) _ rfl (w.heap.size + 1) 0 (enC { x with mt:=N1,mm:=N2 }) rfl rfl HT.out (hiE { x with mt:=N1,mm:=N2 }) (oneE { x with mt:=N1,mm:=N2 }) ?_;rw [HW.out])
  refine bodyPost_ret (resE (b:=w.heap.size + 1) (x:={ x with mt:=N1,mm:=N2 }) rfl rfl F1.1) rfl ?_
  exact ⟨{ x with mt:=N1,mm:=N2 },rfl,(show _=_ by rw [hR.out];rw [HN1.out] ;rw [HN2.out];rfl),⟨rfl,rfl,rfl,rfl⟩,⟨(HEW.out.below GV).a,(HEW.out.below GV).w,HEW.out.na,HEW.out.nw⟩,fun B hB f=>⟨f.a.below GV,f.w.below GV,f.na,f.nw⟩,GV⟩
theorem readX_1 (d:ByteArray) (x:En) (w:World) (h:EW w x) (hd:Cd w) (hs:d.size≤maxLen) (h8:8≤d.size) :
    Calls Tryz.prog 138 #[.int .i64 1,.string d,enV x] w fun e w'=>∃ y:En,e=.returned (enV y)∧y.sp=readX 1 d x.sp∧(y.pri=x.pri∧y.ta=x.ta∧y.tl=x.tl∧y.tc=x.tc)∧EW w' y∧(∀ B,B≤w.heap.size→EF B w x→EF B w' y)∧Below w.heap.size w w':=by
  have hR:Hid (∀ s,readX 1 d s={ s with go:=(rs4 d).num 1 }):=(show ∀ s,_ from fun s=>rfl)
  have hz:(rs4 d).s.size≤maxLen:=by
    show (d.extract 4 d.size).size≤_
    rw [ByteArray.size_extract];omega
  have HRd:Hid (Calls Tryz.prog 45 #[.string (d.extract 4 d.size)] (twoE w x) fun r w'=>r=.returned (.pointer (some ⟨w.heap.size + 2,0,none⟩))∧Rd w' (w.heap.size + 2) (rs4 d).s (rs4 d).e∧Wn w' w.heap.size x∧Wn w' (w.heap.size + 1) en0∧Below w.heap.size w w'∧w'.heap.size=w.heap.size + 3):=rd_two (d.extract 4 d.size) x w
  have HEW:Hid (EW w x):=h
  have HD:Hid (Cd w):=hd
  skip
  generalize rs4 d=R at *
  clear h hd hs
  have n0:0≤(R).num 1∧(R).num 1 < 256:=by simpa using RS.num_lt (R) 1 (by omega)
  have z0:(R).s.size≤maxLen:=hz
  go_enter Tryz.func138,Tryz.ntmps138
  go_wp2_with fail
  refine HRd.out.mono ?_
  rintro r w1 ⟨rfl,r0,d0,e0,G0,s0⟩
  have s0':w.heap.size + 3≤w1.heap.size:=by omega
  clear s0
  go_wp2_with fail
  refine (numR (w.heap.size + 2) (R) 1 _ z0 r0).mono ?_
  rintro r u0 ⟨rfl,r1,o0⟩
  have d1:=d0.block (o0.block _ (by omega))
  have e1:=e0.block (o0.block _ (by omega))
  have G1:Below w.heap.size w u0:=o0.below (by omega) G0
  have s1':w.heap.size + 3≤u0.heap.size:=by rw [o0.size];exact s0'
  clear o0 d0 e0 G0 s0' r0
  obtain ⟨N0,hN0⟩:∃ N,(R).num 1=N:=⟨_,rfl⟩
  rw [hN0] at n0
  rw [hN0]
  have HN0:Hid ((R).num 1=N0):=hN0
  have p0:0≤N0:=n0.1
  have q0:N0 < 256:=n0.2
  clear n0 hN0
  have d2:=d1.set9 N0
  have e2:=e1.out (c:=w.heap.size) (o:=9) (v:=.int .i64 N0) (by omega)
  have G2:Below w.heap.size w (u0.setCell ⟨w.heap.size,9,none⟩ (.int .i64 N0)):=G1.setCell (Nat.le_refl _) _
  have s2':w.heap.size + 3≤(u0.setCell ⟨w.heap.size,9,none⟩ (.int .i64 N0)).heap.size:=by simpa [World.setCell] using s1'
  have dd1:=d1
  obtain ⟨⟨c0,c1,c2,c3,c4,c5,c6,c7,c8,c9⟩,cf⟩:=dd1
  clear e1 G1 s1'
  obtain ⟨V,hV⟩:∃ V,((u0.setCell ⟨w.heap.size,9,none⟩ (.int .i64 N0))).setCells (w.heap.size + 1) 0 (enC { x with go:=N0 }).toList=V:=⟨_,rfl⟩
  have HT:Hid (((u0.setCell ⟨w.heap.size,9,none⟩ (.int .i64 N0))).there (w.heap.size + 1) 0 (enC { x with go:=N0 }).size):=(show World.there _ _ _ _ from wn_there e2)
  have F1:Wn V (w.heap.size + 1) { x with go:=N0 }:=hV ▸ wn_set e2 { x with go:=N0 }
  have GV:Below w.heap.size w V:=hV ▸ below_sE { x with go:=N0 } G2 (by omega)
  have HW:Hid (((u0.setCell ⟨w.heap.size,9,none⟩ (.int .i64 N0))).setCells (w.heap.size + 1) 0 (enC { x with go:=N0 }).toList=V):=hV
  clear e2 hV G2 s2'
  go_wp2_with (refine wpList_store_mid rfl 26 (.tmp 6) _ rfl (w.heap.size + 1) 0 (enC { x with go:=N0 }) rfl rfl HT.out (hiE { x with go:=N0 }) (oneE { x with go:=N0 }) ?_;rw [HW.out])
  refine bodyPost_ret (resE (b:=w.heap.size + 1) (x:={ x with go:=N0 }) rfl rfl F1.1) rfl ?_
  exact ⟨{ x with go:=N0 },rfl,(show _=_ by rw [hR.out];rw [HN0.out];rfl),⟨rfl,rfl,rfl,rfl⟩,⟨(HEW.out.below GV).a,(HEW.out.below GV).w,HEW.out.na,HEW.out.nw⟩,fun B hB f=>⟨f.a.below GV,f.w.below GV,f.na,f.nw⟩,GV⟩
theorem readX_n (p:Int) (b1:(p == 6)=false) (b2:(p == 4)=false) (b3:(p == 5)=false) (b4:(p == 3)=false) (b5:(p == 2)=false) (b6:(p == 1)=false) (d:ByteArray) (x:En) (w:World) (h:EW w x) (hd:Cd w) (hs:d.size≤maxLen) (h8:8≤d.size) :
    Calls Tryz.prog 138 #[.int .i64 p,.string d,enV x] w fun e w'=>∃ y:En,e=.returned (enV y)∧y.sp=readX p d x.sp∧(y.pri=x.pri∧y.ta=x.ta∧y.tl=x.tl∧y.tc=x.tc)∧EW w' y∧(∀ B,B≤w.heap.size→EF B w x→EF B w' y)∧Below w.heap.size w w':=by
  have hR:Hid (∀ s,readX p d s=s):=(show ∀ s,_ from fun s=>by
    simp at b1 b2 b3 b4 b5 b6
    simp [readX,b1,b2,b3,b4,b5,b6])
  have hz:(rs4 d).s.size≤maxLen:=by
    show (d.extract 4 d.size).size≤_
    rw [ByteArray.size_extract];omega
  have HRd:Hid (Calls Tryz.prog 45 #[.string (d.extract 4 d.size)] (twoE w x) fun r w'=>r=.returned (.pointer (some ⟨w.heap.size + 2,0,none⟩))∧Rd w' (w.heap.size + 2) (rs4 d).s (rs4 d).e∧Wn w' w.heap.size x∧Wn w' (w.heap.size + 1) en0∧Below w.heap.size w w'∧w'.heap.size=w.heap.size + 3):=rd_two (d.extract 4 d.size) x w
  have HEW:Hid (EW w x):=h
  have HD:Hid (Cd w):=hd
  skip
  generalize rs4 d=R at *
  clear h hd hs
  go_enter Tryz.func138,Tryz.ntmps138
  go_wp2_with fail
  refine HRd.out.mono ?_
  rintro r w1 ⟨rfl,r0,d0,e0,G0,s0⟩
  have s0':w.heap.size + 3≤w1.heap.size:=by omega
  clear s0
  obtain ⟨V,hV⟩:∃ V,(w1).setCells (w.heap.size + 1) 0 (enC x).toList=V:=⟨_,rfl⟩
  have HT:Hid ((w1).there (w.heap.size + 1) 0 (enC x).size):=(show World.there _ _ _ _ from wn_there e0)
  have F1:Wn V (w.heap.size + 1) x:=hV ▸ wn_set e0 x
  have GV:Below w.heap.size w V:=hV ▸ below_sE x G0 (by omega)
  have HW:Hid ((w1).setCells (w.heap.size + 1) 0 (enC x).toList=V):=hV
  clear e0 hV G0 s0'
  obtain ⟨⟨c0,c1,c2,c3,c4,c5,c6,c7,c8,c9⟩,cf⟩:=d0
  go_wp2_with (refine wpList_store_mid rfl 26 (.tmp 6) _ rfl (w.heap.size + 1) 0 (enC x) rfl rfl HT.out (hiE x) (oneE x) ?_;rw [HW.out])
  refine bodyPost_ret (resE (b:=w.heap.size + 1) (x:=x) rfl rfl F1.1) rfl ?_
  exact ⟨x,rfl,(show _=_ by rw [hR.out]),⟨rfl,rfl,rfl,rfl⟩,⟨(HEW.out.below GV).a,(HEW.out.below GV).w,HEW.out.na,HEW.out.nw⟩,fun B hB f=>⟨f.a.below GV,f.w.below GV,f.na,f.nw⟩,GV⟩
theorem readX_any (p:Int) (d:ByteArray) (x:En) (w:World) (h:EW w x) (hd:Cd w) (hs:d.size≤maxLen) (h8:8≤d.size) :
    Calls Tryz.prog 138 #[.int .i64 p,.string d,enV x] w fun e w'=>∃ y:En,e=.returned (enV y)∧y.sp=readX p d x.sp∧(y.pri=x.pri∧y.ta=x.ta∧y.tl=x.tl∧y.tc=x.tc)∧EW w' y∧(∀ B,B≤w.heap.size→EF B w x→EF B w' y)∧Below w.heap.size w w':=by
  rcases part_cases p with rfl | rfl | rfl | rfl | rfl | rfl | ⟨b1,b2,b3,b4,b5,b6,_⟩
  · exact readX_6 d x w h hd hs h8
  · exact readX_4 d x w h hd hs h8
  · exact readX_5 d x w h hd hs h8
  · exact readX_3 d x w h hd hs h8
  · exact readX_2 d x w h hd hs h8
  · exact readX_1 d x w h hd hs h8
  · exact readX_n p b1 b2 b3 b4 b5 b6 d x w h hd hs h8
theorem readX_ok (p:Int) (d:ByteArray) {s:Sp} (o:SOk s):SOk (readX p d s):=by
 have n4:0≤(rs4 d).num 4∧(rs4 d).num 4 < 4294967296:=by simpa using RS.num_lt (rs4 d) 4 (by omega)
 have n1:0≤(rs4 d).num 1∧(rs4 d).num 1 < 256:=by simpa using RS.num_lt (rs4 d) 1 (by omega)
 have n8:0≤((rs4 d).skip 4).num 8∧((rs4 d).skip 4).num 8 < 18446744073709551616:=by simpa using RS.num_lt ((rs4 d).skip 4) 8 (by omega)
 have m8:0≤(((rs4 d).skip 4).skip 8).num 8∧(((rs4 d).skip 4).skip 8).num 8 < 18446744073709551616:=by simpa using RS.num_lt (((rs4 d).skip 4).skip 8) 8 (by omega)
 obtain ⟨m0,m1,g0,g1,t0,t1,k0,k1⟩:=o
 unfold readX
 generalize (((rs4 d).skip 4).skip 8).num 8=v1 at *
 generalize ((rs4 d).skip 4).num 8=v2 at *
 generalize (rs4 d).num 4=v3 at *
 generalize (rs4 d).num 1=v4 at *
 split
 ·exact ⟨n4.1,n4.2,g0,g1,t0,t1,k0,k1⟩
 split
 ·exact ⟨m0,m1,g0,g1,t0,t1,k0,k1⟩
 split
 ·exact ⟨m0,m1,g0,g1,t0,t1,k0,k1⟩
 split
 ·exact ⟨m0,m1,g0,g1,t0,t1,k0,k1⟩
 split
 ·exact ⟨m0,m1,g0,g1,n8.1,n8.2,m8.1,m8.2⟩
 split
 ·exact ⟨m0,m1,n1.1,n1.2,t0,t1,k0,k1⟩
 ·exact ⟨m0,m1,g0,g1,t0,t1,k0,k1⟩
theorem place_n {p:Int} (b1:(p == 6)=false) (b2:(p == 4)=false) (b3:(p == 5)=false) (b4:(p == 3)=false) (b5:(p == 2)=false) (b6:(p == 1)=false):placeX p=0:=by
 simp at b1 b2 b3 b4 b5 b6
 simp [placeX,b1,b2,b3,b4,b5,b6]
theorem placeX_any (p:Int) (w:World) (hd:Cd w):Calls Tryz.prog 139 #[.int .i64 p] w fun e w'=>e=.returned (.int .i64 (placeX p))∧Below w.heap.size w w':=by
 obtain ⟨ct,cfr,hd⟩:=hd.order
 have x0:∀ w,(Instr.index 150 (.agg orderA) (.int .i64 0)).run Tryz.prog w=.ok (.int .i64 6) w:=idxO 0 (by omega)
 have x1:∀ w,(Instr.index 150 (.agg orderA) (.int .i64 1)).run Tryz.prog w=.ok (.int .i64 4) w:=idxO 1 (by omega)
 have x2:∀ w,(Instr.index 150 (.agg orderA) (.int .i64 2)).run Tryz.prog w=.ok (.int .i64 5) w:=idxO 2 (by omega)
 have x3:∀ w,(Instr.index 150 (.agg orderA) (.int .i64 3)).run Tryz.prog w=.ok (.int .i64 3) w:=idxO 3 (by omega)
 have x4:∀ w,(Instr.index 150 (.agg orderA) (.int .i64 4)).run Tryz.prog w=.ok (.int .i64 2) w:=idxO 4 (by omega)
 have x5:∀ w,(Instr.index 150 (.agg orderA) (.int .i64 5)).run Tryz.prog w=.ok (.int .i64 1) w:=idxO 5 (by omega)
 rcases part_cases p with rfl | rfl | rfl | rfl | rfl | rfl | ⟨b1,b2,b3,b4,b5,b6,_⟩
 case inr.inr.inr.inr.inr.inr =>
  rw [place_n b1 b2 b3 b4 b5 b6]
  have a1:((6:Int) == p)=false:=by simp at b1 ⊢;omega
  have a2:((4:Int) == p)=false:=by simp at b2 ⊢;omega
  have a3:((5:Int) == p)=false:=by simp at b3 ⊢;omega
  have a4:((3:Int) == p)=false:=by simp at b4 ⊢;omega
  have a5:((2:Int) == p)=false:=by simp at b5 ⊢;omega
  have a6:((1:Int) == p)=false:=by simp at b6 ⊢;omega
  clear b1 b2 b3 b4 b5 b6
  go_enter Tryz.func139,Tryz.ntmps139
  go_wp2_with (refine wpList_load_row rfl 150 (.global 0) rfl 0 rfl ct orderA cfr _ hd Tryz.underlying150 rfl (by kernel_rfl) ?_)
  clear hd
  go_rounds 7
  go_ret
  exact ⟨rfl,by go_grown⟩
 all_goals
  go_enter Tryz.func139,Tryz.ntmps139
  go_wp2_with (refine wpList_load_row rfl 150 (.global 0) rfl 0 rfl ct orderA cfr _ hd Tryz.underlying150 rfl (by kernel_rfl) ?_)
  clear hd
  go_rounds 7
  go_ret
  exact ⟨rfl,by go_grown⟩
def fszE (d:ByteArray):Int:=if d.size < 4 then 10 else if (d.size:Int) < sizeV d then 10 else if sizeV d < 8 then 11 else 0
def fszZ (d:ByteArray):Int:=if fszE d=0 then sizeV d else 0
theorem fsz_any (d:ByteArray) (w:World) (hs:d.size≤maxLen):Calls Tryz.prog 137 #[.string d] w fun e w'=>e=.returned (.tuple #[.int .i64 (fszZ d),.int .i64 (fszE d)])∧Below w.heap.size w w':=by
 by_cases h:d.size < 4
 ·have e1:fszE d=10:=by unfold fszE;rw [if_pos h]
  have e2:fszZ d=0:=by unfold fszZ;rw [e1];rfl
  rw [e1,e2]
  have h':(d.size:Int) < 4:=by omega
  clear h e1 e2
  go_enter Tryz.func137,Tryz.ntmps137
  go_wp2_with fail
  go_ret2
  exact ⟨rfl,Below.refl _ _⟩
 ·have h' : ¬ ((d.size:Int) < 4):=by omega
  obtain ⟨z0,z1⟩:=sizeV_range d
  have hx:(d.extract 2 4).size≤maxLen:=by rw [ByteArray.size_extract];omega
  have hsl:∀ w,(Instr.slice 9 (.string d) (some (.int .i64 2)) (some (.int .i64 4)) none).run Tryz.prog w=.ok (.string (d.extract 2 4)) w:=fun w=>slice_lh d 2 4 (by omega) (by omega) (by omega) w
  have HR:Hid (Calls Tryz.prog 45 #[.string (d.extract 2 4)] w fun x w'=>x=.returned (.pointer (some ⟨w.heap.size,0,none⟩))∧Rd w' w.heap.size (d.extract 2 4) 0∧Below w.heap.size w w'∧w'.heap.size=w.heap.size + 1):=rd_any (d.extract 2 4) w
  have HN:Hid (∀ w1 b,Rd w1 b (d.extract 2 4) 0→Calls Tryz.prog 46 #[.pointer (some ⟨b,0,none⟩),.int .i64 2] w1 fun x w'=>x=.returned (.int .u64 (sizeV d))∧Only b w1 w'):=(show ∀ w1 b,_ from fun w1 b r=>by
   refine (numR b ⟨d.extract 2 4,0⟩ 2 w1 hx r).mono ?_
   rintro x w' ⟨rfl,_,o⟩
   exact ⟨rfl,o⟩)
  have HE:Hid (fszE d=if (d.size:Int) < sizeV d then 10 else if sizeV d < 8 then 11 else 0):=(show _=_ by unfold fszE;rw [if_neg h])
  have HZ:Hid (fszZ d=if fszE d=0 then sizeV d else 0):=(show _=_ from rfl)
  clear hs h hx
  generalize d.extract 2 4=X at *
  generalize fszE d=FE at *
  generalize fszZ d=FZ at *
  generalize sizeV d=Z at *
  by_cases h2:(d.size:Int) < Z
  ·have e1:=HE.out
   rw [if_pos h2] at e1
   have e2:=HZ.out
   rw [if_neg (by omega)] at e2
   subst e1 e2
   clear HE HZ
   go_enter Tryz.func137,Tryz.ntmps137
   go_wp2_with fail
   refine HR.out.mono ?_
   rintro x w1 ⟨rfl,r1,g1,s1⟩
   go_wp2_with fail
   refine (HN.out _ _ r1).mono ?_
   rintro x w2 ⟨rfl,o2⟩
   have G2:Below w.heap.size w w2:=o2.below (Nat.le_refl _) g1
   go_wp2_with fail
   go_ret2
   exact ⟨rfl,G2⟩
  ·by_cases h3:Z < 8
   ·have e1:=HE.out
    rw [if_neg h2,if_pos h3] at e1
    have e2:=HZ.out
    rw [if_neg (by omega)] at e2
    subst e1 e2
    clear HE HZ
    go_enter Tryz.func137,Tryz.ntmps137
    go_wp2_with fail
    refine HR.out.mono ?_
    rintro x w1 ⟨rfl,r1,g1,s1⟩
    go_wp2_with fail
    refine (HN.out _ _ r1).mono ?_
    rintro x w2 ⟨rfl,o2⟩
    have G2:Below w.heap.size w w2:=o2.below (Nat.le_refl _) g1
    go_wp2_with fail
    go_ret2
    exact ⟨rfl,G2⟩
   ·have e1:=HE.out
    rw [if_neg h2,if_neg h3] at e1
    have e2:=HZ.out
    rw [if_pos e1] at e2
    subst e1 e2
    clear HE HZ
    go_enter Tryz.func137,Tryz.ntmps137
    go_wp2_with fail
    refine HR.out.mono ?_
    rintro x w1 ⟨rfl,r1,g1,s1⟩
    go_wp2_with fail
    refine (HN.out _ _ r1).mono ?_
    rintro x w2 ⟨rfl,o2⟩
    have G2:Below w.heap.size w w2:=o2.below (Nat.le_refl _) g1
    go_wp2_with fail
    go_ret2
    exact ⟨rfl,G2⟩
def num2 (d:ByteArray):Int:=(⟨d,0⟩:RS).num 2
theorem num2_range (d:ByteArray):0≤num2 d∧num2 d < 65536:=by simpa [num2] using RS.num_lt (⟨d,0⟩:RS) 2 (by omega)
def cutX (d:ByteArray):ByteArray:=d.extract 0 (fszZ d).toNat
def restX (d:ByteArray):ByteArray:=d.extract (fszZ d).toNat d.size
def nextX (d:ByteArray) (s:Sp):Sp:=readX (num2 d) (cutX d) s
def raGo:Nat→ByteArray→Sp→Int→Sp × Int
  | 0,_,s,_=>(s,0)
  | n + 1,d,s,last =>
    if d.size=0 then (s,0) else if fszE d=0 then
      (if partX (num2 d) (nextX d s)=cutX d then (if placeX (num2 d)≤last then (sp0,23) else raGo n (restX d) (nextX d s) (placeX (num2 d))) else (sp0,11))
    else (sp0,fszE d)
structure Fsz (d:ByteArray):Prop where
 four:4≤d.size
 len:8≤sizeV d
 le:sizeV d≤d.size
 z:fszZ d=sizeV d
theorem fsz_of {d:ByteArray} (h:fszE d=0):Fsz d:=by
 have hZ:fszZ d=sizeV d:=by unfold fszZ;rw [if_pos h]
 unfold fszE at h
 split at h
 ·cases h
 ·split at h
  ·cases h
  ·split at h
   ·cases h
   ·exact ⟨by omega,by omega,by omega,hZ⟩
theorem cut_size {d:ByteArray} (h:fszE d=0):((cutX d).size:Int)=sizeV d:=by
 have f:=fsz_of h
 have h1:=f.len
 have h2:=f.le
 unfold cutX
 rw [ByteArray.size_extract,f.z]
 omega
theorem rest_size {d:ByteArray} (h:fszE d=0):(restX d).size < d.size:=by
 have f:=fsz_of h
 have h1:=f.len
 have h2:=f.le
 unfold restX
 rw [ByteArray.size_extract,f.z]
 omega
theorem cut_rest {d:ByteArray} (h:fszE d=0):d=cutX d ++ restX d:=by
 have f:=fsz_of h
 have h1:=f.len
 have h2:=f.le
 exact cut_append d _ (by rw [f.z];omega)
theorem raGo_fuel:∀ (n:Nat) (d:ByteArray) (s:Sp) (last:Int),d.size≤n→raGo n d s last=raGo d.size d s last:=by
  intro n
  induction n using Nat.strongRecOn with
  | ind n ih =>
    intro d s last hn
    match n,hn with
    | 0,hn=>rw [show d.size=0 by omega]
    | n + 1,hn =>
      by_cases hd:d.size=0
      · rw [hd,raGo,raGo,if_pos hd]
      · obtain ⟨m,hm⟩:∃ m,d.size=m + 1:=⟨d.size - 1,by omega⟩
        rw [hm,raGo,raGo]
        by_cases he:fszE d=0
        · have hr:=rest_size he
          rw [ih n (by omega) (restX d) _ _ (by omega)]
          rw [ih m (by omega) (restX d) _ _ (by omega)]
        · simp only [if_neg he,if_neg hd]
theorem raGo_end {d:ByteArray} (s:Sp) (last:Int) (h:d.size=0):raGo d.size d s last=(s,0):=by rw [h,raGo]
theorem raGo_un {d:ByteArray} (s:Sp) (last:Int) (h : ¬ d.size=0):raGo d.size d s last=if fszE d=0 then
      (if partX (num2 d) (nextX d s)=cutX d then (if placeX (num2 d)≤last then (sp0,23) else raGo (restX d).size (restX d) (nextX d s) (placeX (num2 d))) else (sp0,11))
    else (sp0,fszE d):=by
  obtain ⟨m,hm⟩:∃ m,d.size=m + 1:=⟨d.size - 1,by omega⟩
  rw [hm,raGo,if_neg h]
  by_cases he:fszE d=0
  · have hr:=rest_size he
    rw [raGo_fuel m (restX d) _ _ (by omega)]
  · simp only [if_neg he]
def spT (t:Int):Sp:=⟨t,[],[],false,0,0,0,0⟩
def raR (t:Int) (d:ByteArray):Sp × Int:=raGo d.size d (spT t) 0
def decX (t:Int) (d:ByteArray):Sp × Int :=
 if tabB t=false then (sp0,26) else if (raR t d).2≠0 then (sp0,(raR t d).2) else if rightX (raR t d).1≠0 then (sp0,rightX (raR t d).1) else ((raR t d).1,0)
theorem e_ap (t:ByteArray):(⟨#[]⟩:ByteArray) ++ t=t:=by apply ba_ext;simp
theorem ap_e (t:ByteArray):t ++ (⟨#[]⟩:ByteArray)=t:=by apply ba_ext;simp
theorem empty_of {d:ByteArray} (h:d.size=0):d=⟨#[]⟩:=by
 obtain ⟨a⟩:=d
 have:a.size=0:=h
 rw [Array.eq_empty_of_size_eq_zero this]
def upTo (s:Sp) (k:Nat):Sp :=
 ⟨s.tab,if 1 < k then s.la else [],if 3 < k then s.lw else [],if 2 < k then s.clr else false,if 4 < k then s.mt else 0,if 4 < k then s.mm else 0,if 0 < k then s.met else 0,if 5 < k then s.go else 0⟩
theorem upTo_6 (s:Sp):upTo s 6=s:=rfl
def encFr (s:Sp):Nat→ByteArray
 | 0=>⟨#[]⟩
 | n + 1=>partX (ordV (5 - n)) s ++ encFr s n
theorem encFr_six (s:Sp):encFr s 6=encX s:=by
 simp only [encFr,encX,encTo,ap_e,e_ap,ap_assoc]
theorem has_some {p:Int} {s:Sp} (h:hasX p s=true):partX p s=pb p 2 ++ (pb (4 + ((bodyX p s).size:Int)) 2 ++ bodyX p s):=by
 unfold partX;rw [if_pos h,ap_assoc]
theorem has_none {p:Int} {s:Sp} (h:hasX p s=false):partX p s=⟨#[]⟩:=by
 unfold partX;rw [if_neg (by rw [h];decide)]
theorem body_four (p:Int) (s:Sp) (h:hasX p s=true):4≤(bodyX p s).size:=by
 have h1:=pb_size
 have z4:gap4.size=4:=rfl
 have z3:gap3.size=3:=rfl
 rcases part_cases p with rfl | rfl | rfl | rfl | rfl | rfl | ⟨_,_,_,_,_,_,hn⟩
 case inr.inr.inr.inr.inr.inr=>rw [hn] at h;cases h
 all_goals
  simp [bodyX,ByteArray.size_append,h1,z4,z3]
theorem size_of (p z:Int) (r:ByteArray) (h0:0≤z) (h1:z≤65535):sizeV (pb p 2 ++ (pb z 2 ++ r))=z:=by
 unfold sizeV
 rw [ext_mid _ _ _ (pb_size _ _) (pb_size _ _)]
 have:=num2_ap z ⟨#[]⟩ h0 h1
 rwa [ap_e] at this
structure IsFirst (d C R:ByteArray) (p:Int):Prop where
 e:fszE d=0
 n:num2 d=p
 c:cutX d=C
 r:restX d=R
theorem is_first {p:Int} {s:Sp} (h:hasX p s=true) (R:ByteArray):IsFirst (partX p s ++ R) (partX p s) R p:=by
 obtain ⟨p0,p1⟩:=has_range h
 have b1:=body_size p s
 have b2:=body_four p s h
 have e:=has_some h
 have hz:(partX p s).size=4 + (bodyX p s).size:=by rw [e];simp only [ByteArray.size_append,pb_size];omega
 have hs:sizeV (partX p s ++ R)=4 + ((bodyX p s).size:Int):=by
  rw [e,ap_assoc,ap_assoc]
  exact size_of _ _ _ (by omega) (by omega)
 have hd:(partX p s ++ R).size=4 + (bodyX p s).size + R.size:=by rw [ByteArray.size_append,hz]
 have hE:fszE (partX p s ++ R)=0:=by
  unfold fszE
  rw [if_neg (by omega),if_neg (by omega),if_neg (by omega)]
 have hZ:(fszZ (partX p s ++ R)).toNat=(partX p s).size:=by unfold fszZ;rw [if_pos hE];omega
 refine ⟨hE,?_,?_,?_⟩
 ·unfold num2
  rw [e,ap_assoc]
  exact num2_ap _ _ (by omega) (by omega)
 ·unfold cutX;rw [hZ,extract_left]
 ·unfold restX;rw [hZ,extract_right]
theorem ext_from (x t:ByteArray) (k:Nat) (h:x.size=k):(x ++ t).extract k (x ++ t).size=t:=ext_right x t k h
theorem rs4_part {p:Int} {s:Sp} (h:hasX p s=true):rs4 (partX p s)=⟨bodyX p s,0⟩:=by
 have e:=has_some h
 rw [← ap_assoc] at e
 unfold rs4
 rw [e,ext_from _ _ 4 (by simp only [ByteArray.size_append,pb_size])]
theorem from8_part {p:Int} {s:Sp} (h:hasX p s=true) (l:ByteArray) (hb:bodyX p s=gap4 ++ l):(partX p s).extract 8 (partX p s).size=l:=by
 have e:=has_some h
 rw [hb,← ap_assoc,← ap_assoc] at e
 rw [e]
 exact ext_from _ _ 8 (by simp only [ByteArray.size_append,pb_size];rfl)
theorem gap_skip (t:ByteArray):(⟨gap4 ++ t,0⟩:RS).skip 4=⟨t,0⟩:=skip_ap gap4 t 4 rfl (by decide)
structure Fine (s:Sp):Prop where
 ok:SOk s
 ra:encodeE s.la=0
 rw:encodeE s.lw=0
 va:∀ a ∈ s.la,0≤a.2.2
 vw:∀ a ∈ s.lw,0≤a.2.2
 mt:s.mm=0→s.mt=0
theorem read_part (k:Nat) (hk:k < 6) {s:Sp} (f:Fine s) (h:hasX (ordV k) s=true):readX (ordV k) (partX (ordV k) s) (upTo s k)=upTo s (k + 1):=by
  have o:=f.ok
  match k,hk with
  | 0,_ =>
    have e:=rs4_part h
    have n:(rs4 (partX 6 s)).num 4=s.met:=by
      rw [show rs4 (partX 6 s)=⟨pb s.met 4,0⟩ from e]
      have:=num4_ap s.met ⟨#[]⟩ o.m0 o.m1
      rwa [ap_e] at this
    show ({ upTo s 0 with met:=(rs4 (partX 6 s)).num 4 }:Sp)=_
    rw [n];rfl
  | 1,_ =>
    have e:decL (partX 4 s)=s.la:=by
      have h':hasX 4 s=true:=h
      unfold decL
      rw [from8_part h' (encodeS s.la) rfl,dec_enc s.la f.ra f.va]
    show ({ upTo s 1 with la:=decL (partX 4 s) }:Sp)=_
    rw [e];rfl
  | 2,_ =>
    have hc:s.clr=true:=h
    show ({ upTo s 2 with clr:=true }:Sp)=_
    simp [upTo,hc]
  | 3,_ =>
    have e:decL (partX 3 s)=s.lw:=by
      have h':hasX 3 s=true:=h
      unfold decL
      rw [from8_part h' (encodeS s.lw) rfl,dec_enc s.lw f.rw f.vw]
    show ({ upTo s 3 with lw:=decL (partX 3 s) }:Sp)=_
    rw [e];rfl
  | 4,_ =>
    have e:rs4 (partX 2 s)=⟨gap4 ++ (pb s.mt 8 ++ pb s.mm 8),0⟩:=by
      rw [show rs4 (partX 2 s)=⟨gap4 ++ pb s.mt 8 ++ pb s.mm 8,0⟩ from rs4_part h,ap_assoc]
    have n1:((rs4 (partX 2 s)).skip 4).num 8=s.mt:=by
      rw [e,gap_skip]
      exact num_ap s.mt (pb s.mm 8) 8 (by omega) (by decide) o.t0 (by have:=o.t1;omega)
    have n2:(((rs4 (partX 2 s)).skip 4).skip 8).num 8=s.mm:=by
      rw [e,gap_skip]
      have e2:(⟨pb s.mt 8 ++ pb s.mm 8,0⟩:RS).skip 8=⟨pb s.mm 8,0⟩:=skip_ap _ _ 8 (pb_size _ _) (by decide)
      rw [e2]
      have:=num_ap s.mm ⟨#[]⟩ 8 (by omega) (by decide) o.k0 (by have:=o.k1;omega)
      rwa [ap_e] at this
    show ({ upTo s 4 with mt:=((rs4 (partX 2 s)).skip 4).num 8,mm:=(((rs4 (partX 2 s)).skip 4).skip 8).num 8 }:Sp)=_
    rw [n1,n2];rfl
  | 5,_ =>
    have n:(rs4 (partX 1 s)).num 1=s.go:=by
      rw [show rs4 (partX 1 s)=⟨pb s.go 1 ++ gap3,0⟩ from rs4_part h]
      exact num1_ap s.go gap3 o.g0 (by have:=o.g1;omega)
    show ({ upTo s 5 with go:=(rs4 (partX 1 s)).num 1 }:Sp)=_
    rw [n];rfl
theorem skip_part (k:Nat) (hk:k < 6) {s:Sp} (f:Fine s) (h:hasX (ordV k) s=false):upTo s k=upTo s (k + 1):=by
  match k,hk with
  | 0,_ =>
    have e:s.met=0:=by have:(s.met != 0)=false:=h;simpa using this
    simp [upTo,e]
  | 1,_ =>
    have e:s.la=[]:=by have:decide (0 < s.la.length)=false:=h;simpa using this
    simp [upTo,e]
  | 2,_ =>
    have e:s.clr=false:=h
    simp [upTo,e]
  | 3,_ =>
    have e:s.lw=[]:=by have:decide (0 < s.lw.length)=false:=h;simpa using this
    simp [upTo,e]
  | 4,_ =>
    have e:s.mm=0:=by have:(s.mm != 0)=false:=h;simpa using this
    simp [upTo,e,f.mt e]
  | 5,_ =>
    have e:s.go=0:=by have:(s.go != 0)=false:=h;simpa using this
    simp [upTo,e]
theorem part_same (k:Nat) (hk:k < 6) (s:Sp):partX (ordV k) (upTo s (k + 1))=partX (ordV k) s:=by
 match k,hk with
 | 0,_=>rfl
 | 1,_=>rfl
 | 2,_=>rfl
 | 3,_=>rfl
 | 4,_=>rfl
 | 5,_=>rfl
theorem place_ord (k:Nat) (hk:k < 6):placeX (ordV k)=(k:Int) + 1:=by
 match k,hk with
 | 0,_=>rfl
 | 1,_=>rfl
 | 2,_=>rfl
 | 3,_=>rfl
 | 4,_=>rfl
 | 5,_=>rfl
theorem ra_enc {s:Sp} (f:Fine s):∀ (n:Nat),n≤6→∀ last:Int,last≤6 - (n:Int)→raGo (encFr s n).size (encFr s n) (upTo s (6 - n)) last=(s,0)
  | 0,_,last,_=>by
    rw [raGo_end _ _ (show (encFr s 0).size=0 from rfl)]
    rw [show 6 - 0=6 from rfl,upTo_6]
  | n + 1,hn,last,hl=>by
    have ek:6 - (n + 1)=5 - n:=by omega
    have ek1:5 - n + 1=6 - n:=by omega
    rw [ek]
    cases hb:hasX (ordV (5 - n)) s with
    | false =>
      have e:encFr s (n + 1)=encFr s n:=by rw [encFr,has_none hb,e_ap]
      rw [e,skip_part (5 - n) (by omega) f hb,ek1]
      exact ra_enc f n (by omega) last (by omega)
    | true =>
      have fi:=is_first hb (encFr s n)
      have hz : ¬ (partX (ordV (5 - n)) s ++ encFr s n).size=0:=by
        rw [ByteArray.size_append,has_some hb]
        simp only [ByteArray.size_append,pb_size]
        omega
      rw [encFr,raGo_un _ _ hz,if_pos fi.e]
      unfold nextX
      rw [fi.n,fi.c,fi.r,read_part (5 - n) (by omega) f hb,if_pos (part_same (5 - n) (by omega) s),place_ord (5 - n) (by omega),if_neg (by omega),ek1]
      exact ra_enc f n (by omega) _ (by omega)
theorem decX_enc {s:Sp} (f:Fine s) (h:rightX s=0):decX s.tab (encX s)=(s,0):=by
 have e:raR s.tab (encX s)=(s,0):=by
  have:=ra_enc f 6 (by omega) 0 (by omega)
  rwa [encFr_six] at this
 have ht:tabB s.tab=true:=by
  cases hb:tabB s.tab with
  | true=>rfl
  | false=>unfold rightX at h;rw [if_pos hb] at h;cases h
 unfold decX
 rw [e,if_neg (by rw [ht];decide),if_neg (by simp),if_neg (by simpa using h)]
theorem part_other {p:Int} {C:ByteArray} {s:Sp} (j:Nat) (hj:j < 6) (hne:ordV j≠p):partX (ordV j) (readX p C s)=partX (ordV j) s∧hasX (ordV j) (readX p C s)=hasX (ordV j) s:=by
 rcases part_cases p with rfl | rfl | rfl | rfl | rfl | rfl | ⟨b1,b2,b3,b4,b5,b6,_⟩
 case inr.inr.inr.inr.inr.inr =>
  have:readX p C s=s:=by
   simp at b1 b2 b3 b4 b5 b6
   simp [readX,b1,b2,b3,b4,b5,b6]
  rw [this]
  exact ⟨rfl,rfl⟩
 ·rw [show readX 6 C s={ s with met:=(rs4 C).num 4 } from rfl]
  generalize (rs4 C).num 4=v0
  match j,hj with
  | 0,_=>first | exact absurd rfl hne | exact ⟨rfl,rfl⟩
  | 1,_=>first | exact absurd rfl hne | exact ⟨rfl,rfl⟩
  | 2,_=>first | exact absurd rfl hne | exact ⟨rfl,rfl⟩
  | 3,_=>first | exact absurd rfl hne | exact ⟨rfl,rfl⟩
  | 4,_=>first | exact absurd rfl hne | exact ⟨rfl,rfl⟩
  | 5,_=>first | exact absurd rfl hne | exact ⟨rfl,rfl⟩
 ·rw [show readX 4 C s={ s with la:=decL C } from rfl]
  generalize decL C=v0
  match j,hj with
  | 0,_=>first | exact absurd rfl hne | exact ⟨rfl,rfl⟩
  | 1,_=>first | exact absurd rfl hne | exact ⟨rfl,rfl⟩
  | 2,_=>first | exact absurd rfl hne | exact ⟨rfl,rfl⟩
  | 3,_=>first | exact absurd rfl hne | exact ⟨rfl,rfl⟩
  | 4,_=>first | exact absurd rfl hne | exact ⟨rfl,rfl⟩
  | 5,_=>first | exact absurd rfl hne | exact ⟨rfl,rfl⟩
 ·rw [show readX 5 C s={ s with clr:=true } from rfl]
  match j,hj with
  | 0,_=>first | exact absurd rfl hne | exact ⟨rfl,rfl⟩
  | 1,_=>first | exact absurd rfl hne | exact ⟨rfl,rfl⟩
  | 2,_=>first | exact absurd rfl hne | exact ⟨rfl,rfl⟩
  | 3,_=>first | exact absurd rfl hne | exact ⟨rfl,rfl⟩
  | 4,_=>first | exact absurd rfl hne | exact ⟨rfl,rfl⟩
  | 5,_=>first | exact absurd rfl hne | exact ⟨rfl,rfl⟩
 ·rw [show readX 3 C s={ s with lw:=decL C } from rfl]
  generalize decL C=v0
  match j,hj with
  | 0,_=>first | exact absurd rfl hne | exact ⟨rfl,rfl⟩
  | 1,_=>first | exact absurd rfl hne | exact ⟨rfl,rfl⟩
  | 2,_=>first | exact absurd rfl hne | exact ⟨rfl,rfl⟩
  | 3,_=>first | exact absurd rfl hne | exact ⟨rfl,rfl⟩
  | 4,_=>first | exact absurd rfl hne | exact ⟨rfl,rfl⟩
  | 5,_=>first | exact absurd rfl hne | exact ⟨rfl,rfl⟩
 ·rw [show readX 2 C s={ s with mt:=((rs4 C).skip 4).num 8,mm:=(((rs4 C).skip 4).skip 8).num 8 } from rfl]
  generalize (((rs4 C).skip 4).skip 8).num 8=v0
  generalize ((rs4 C).skip 4).num 8=v1
  match j,hj with
  | 0,_=>first | exact absurd rfl hne | exact ⟨rfl,rfl⟩
  | 1,_=>first | exact absurd rfl hne | exact ⟨rfl,rfl⟩
  | 2,_=>first | exact absurd rfl hne | exact ⟨rfl,rfl⟩
  | 3,_=>first | exact absurd rfl hne | exact ⟨rfl,rfl⟩
  | 4,_=>first | exact absurd rfl hne | exact ⟨rfl,rfl⟩
  | 5,_=>first | exact absurd rfl hne | exact ⟨rfl,rfl⟩
 ·rw [show readX 1 C s={ s with go:=(rs4 C).num 1 } from rfl]
  generalize (rs4 C).num 1=v0
  match j,hj with
  | 0,_=>first | exact absurd rfl hne | exact ⟨rfl,rfl⟩
  | 1,_=>first | exact absurd rfl hne | exact ⟨rfl,rfl⟩
  | 2,_=>first | exact absurd rfl hne | exact ⟨rfl,rfl⟩
  | 3,_=>first | exact absurd rfl hne | exact ⟨rfl,rfl⟩
  | 4,_=>first | exact absurd rfl hne | exact ⟨rfl,rfl⟩
  | 5,_=>first | exact absurd rfl hne | exact ⟨rfl,rfl⟩
theorem ord_of {p:Int} (h:1≤p∧p≤6):∃ k,k < 6∧ordV k=p∧placeX p=(k:Int) + 1:=by
 have:p=6∨p=4∨p=5∨p=3∨p=2∨p=1:=by omega
 rcases this with rfl | rfl | rfl | rfl | rfl | rfl
 ·exact ⟨0,by omega,rfl,rfl⟩
 ·exact ⟨1,by omega,rfl,rfl⟩
 ·exact ⟨2,by omega,rfl,rfl⟩
 ·exact ⟨3,by omega,rfl,rfl⟩
 ·exact ⟨4,by omega,rfl,rfl⟩
 ·exact ⟨5,by omega,rfl,rfl⟩
theorem ord_inj {i j:Nat} (hi:i < 6) (hj:j < 6) (h:ordV i=ordV j):i=j:=by
 have a:=place_ord i hi
 have b:=place_ord j hj
 rw [h] at a
 omega
theorem enc_skip {s:Sp}:∀ (n k:Nat),k + n≤6→(∀ j,k≤j→j < k + n→hasX (ordV j) s=false)→encTo s (k + n)=encTo s k
  | 0,_,_,_=>rfl
  | n + 1,k,hk,h=>by
    show encTo s (k + n) ++ partX (ordV (k + n)) s=encTo s k
    rw [has_none (h (k + n) (by omega) (by omega)),ap_e]
    exact enc_skip n k (by omega) (fun j h1 h2=>h j h1 (by omega))
theorem enc_same {s s':Sp}:∀ (k:Nat),(∀ j,j < k→partX (ordV j) s'=partX (ordV j) s)→encTo s' k=encTo s k
  | 0,_=>rfl
  | k + 1,h=>by
    show encTo s' k ++ _=encTo s k ++ _
    rw [h k (by omega),enc_same k (fun j hj=>h j (by omega))]
theorem read_tab (p:Int) (C:ByteArray) (s:Sp):(readX p C s).tab=s.tab:=by
 unfold readX
 (repeat' split) <;> rfl
theorem ra_is:∀ (n:Nat) (d:ByteArray) (s:Sp) (k:Nat),d.size≤n→k≤6→(∀ j,k≤j→j < 6→hasX (ordV j) s=false)→(raGo d.size d s (k:Int)).2=0 →
    encX (raGo d.size d s (k:Int)).1=encTo s k ++ d∧(raGo d.size d s (k:Int)).1.tab=s.tab:=by
  intro n
  induction n with
  | zero =>
    intro d s k hn hk hs _
    have hd:d.size=0:=by omega
    rw [raGo_end _ _ hd]
    have e:d=⟨#[]⟩:=empty_of hd
    refine ⟨?_,rfl⟩
    rw [e,ap_e]
    have:=enc_skip (s:=s) (6 - k) k (by omega) (fun j h1 h2=>hs j h1 (by omega))
    rwa [show k + (6 - k)=6 by omega] at this
  | succ n ih =>
    intro d s k hn hk hs h0
    by_cases hd:d.size=0
    · exact (by
        rw [raGo_end _ _ hd]
        have e:d=⟨#[]⟩:=empty_of hd
        refine ⟨?_,rfl⟩
        rw [e,ap_e]
        have:=enc_skip (s:=s) (6 - k) k (by omega) (fun j h1 h2=>hs j h1 (by omega))
        rwa [show k + (6 - k)=6 by omega] at this)
    · rw [raGo_un _ _ hd] at h0 ⊢
      by_cases hE:fszE d=0
      · rw [if_pos hE] at h0 ⊢
        by_cases hP:partX (num2 d) (nextX d s)=cutX d
        · rw [if_pos hP] at h0 ⊢
          by_cases hL:placeX (num2 d)≤(k:Int)
          · rw [if_pos hL] at h0;cases h0
          · rw [if_neg hL] at h0 ⊢
            have hc:=cut_size hE
            have fz:=(fsz_of hE).len
            have hb:hasX (num2 d) (nextX d s)=true:=by
              cases hb:hasX (num2 d) (nextX d s) with
              | true=>rfl
              | false =>
                rw [has_none hb] at hP
                rw [← hP] at hc
                have:(⟨#[]⟩:ByteArray).size=0:=rfl
                omega
            obtain ⟨q,hq,e1,e2⟩:=ord_of (has_range hb)
            have hkq:k≤q:=by omega
            have oth:∀ j,j < 6→j≠q→partX (ordV j) (nextX d s)=partX (ordV j) s∧hasX (ordV j) (nextX d s)=hasX (ordV j) s:=fun j hj hjq =>
              part_other j hj (fun h=>hjq (ord_inj hj hq (h.trans e1.symm)))
            have hr:=rest_size hE
            rw [e2] at h0 ⊢
            rw [show (q:Int) + 1=((q + 1:Nat):Int) by omega] at h0 ⊢
            obtain ⟨i1,i2⟩:=ih (restX d) (nextX d s) (q + 1) (by omega) (by omega) (fun j h1 h2=>by rw [(oth j h2 (by omega)).2];exact hs j (by omega) h2) h0
            refine ⟨?_,i2.trans (read_tab _ _ _)⟩
            rw [i1]
            have e3:encTo (nextX d s) q=encTo s q:=enc_same q (fun j hj=>(oth j (by omega) (by omega)).1)
            have e4:encTo s q=encTo s k:=by
              have:=enc_skip (s:=s) (q - k) k (by omega) (fun j h1 h2=>hs j h1 (by omega))
              rwa [show k + (q - k)=q by omega] at this
            show encTo (nextX d s) q ++ partX (ordV q) (nextX d s) ++ restX d=_
            rw [e1,hP,e3,e4,ap_assoc,← cut_rest hE]
        · rw [if_neg hP] at h0;cases h0
      · rw [if_neg hE] at h0
        exact absurd h0 hE
theorem encX_dec (t:Int) (d:ByteArray) (h:(decX t d).2=0):rightX (decX t d).1=0∧encX (decX t d).1=d∧(decX t d).1.tab=t:=by
 unfold decX at h ⊢
 split at h
 ·cases h
 ·next h1 =>
  rw [if_neg h1]
  split at h
  ·next h2=>exact absurd h h2
  ·next h2 =>
   rw [if_neg h2]
   split at h
   ·next h3=>exact absurd h h3
   ·next h3 =>
    rw [if_neg h3]
    have h2':(raGo d.size d (spT t) ((0:Nat):Int)).2=0:=by simpa [raR] using h2
    obtain ⟨i1,i2⟩:=ra_is d.size d (spT t) 0 (Nat.le_refl _) (by omega) (fun j _ hj=>by
     match j,hj with
     | 0,_=>rfl
     | 1,_=>rfl
     | 2,_=>rfl
     | 3,_=>rfl
     | 4,_=>rfl
     | 5,_=>rfl) h2'
    exact ⟨by simpa using h3,i1.trans (e_ap d),i2⟩
theorem decX_bad (t:Int) (d:ByteArray) (h:(decX t d).2≠0):(decX t d).1=sp0:=by
 unfold decX at h ⊢
 split
 ·rfl
 ·next h1 =>
  rw [if_neg h1] at h
  split
  ·rfl
  ·next h2 =>
   rw [if_neg h2] at h
   split
   ·rfl
   ·next h3=>rw [if_neg h3] at h;exact absurd rfl h
theorem en0_ok:SOk en0.sp:=⟨by decide,by decide,by decide,by decide,by decide,by decide,by decide,by decide⟩
theorem en0_f (B:Nat) (w:World):EF B w en0:=⟨.inl rfl,.inl rfl,by decide,by decide⟩
def enT (t:Int):En:=⟨t,0,none,0,0,none,[],0,none,[],0,false,0,0,0,0⟩
abbrev twoR (w:World) (t:Int):World:=(ex w en0).alloc (.cells (enC (enT t)) 26)
theorem Wn.twoR0 (w:World) (t:Int):Wn (twoR w t) w.heap.size en0:=(Wn.new w en0).alloc (by simp) _
theorem Wn.twoR1 (w:World) (t:Int):Wn (twoR w t) (w.heap.size + 1) (enT t):=by have:=Wn.new (ex w en0) (enT t);simpa using this
theorem eqS (a:ByteArray):(!a.toList == a.toList)=false:=by simp
theorem ra_any (t:Int) (d:ByteArray) (w:World) (hs:d.size≤maxLen) (hd:Cd w) :
    Calls Tryz.prog 117 #[.int .i64 t,.string d] w fun e w'=>∃ y:En,e=.returned (.tuple #[enV y,.int .i64 (raR t d).2])∧y.sp=(raR t d).1∧(y.pri=0∧y.ta=none∧y.tl=0∧y.tc=0)∧EF w.heap.size w' y∧SOk y.sp∧Below w.heap.size w w':=by
  have HF:Hid (∀ (D:ByteArray) w,D.size≤maxLen→Calls Tryz.prog 137 #[.string D] w fun e w'=>e=.returned (.tuple #[.int .i64 (fszZ D),.int .i64 (fszE D)])∧Below w.heap.size w w'):=(show ∀ (D:ByteArray) w,_ from fun D w h=>fsz_any D w h)
  have HN:Hid (∀ (D:ByteArray) w1 b,D.size≤maxLen→Rd w1 b D 0→Calls Tryz.prog 46 #[.pointer (some ⟨b,0,none⟩),.int .i64 2] w1 fun x w'=>x=.returned (.int .u64 (num2 D))∧Only b w1 w'):=(show ∀ (D:ByteArray) w1 b,_ from fun D w1 b hx r=>by
    refine (numR b ⟨D,0⟩ 2 w1 hx r).mono ?_
    rintro x w' ⟨rfl,_,o⟩
    exact ⟨rfl,o⟩)
  have HRead:Hid (∀ (p:Int) (D:ByteArray) (x:En) (w:World),EW w x→Cd w→D.size≤maxLen→8≤D.size→Calls Tryz.prog 138 #[.int .i64 p,.string D,enV x] w fun e w'=>∃ y:En,e=.returned (enV y)∧y.sp=readX p D x.sp∧(y.pri=x.pri∧y.ta=x.ta∧y.tl=x.tl∧y.tc=x.tc)∧EW w' y∧(∀ B,B≤w.heap.size→EF B w x→EF B w' y)∧Below w.heap.size w w'):=(show ∀ (p:Int) (D:ByteArray) (x:En) (w:World),_ from fun p D x w a b c d=>readX_any p D x w a b c d)
  have HWr:Hid (∀ (p:Int) (x:En) (w:World),EW w x→SOk x.sp→Cd w→Calls Tryz.prog 108 #[.int .i64 p,enV x] w fun e w'=>e=.returned (.string (partX p x.sp))∧Below w.heap.size w w'):=(show ∀ (p:Int) (x:En) (w:World),_ from fun p x w a b c=>writeX_any p x w a b c)
  have HPl:Hid (∀ (p:Int) (w:World),Cd w→Calls Tryz.prog 139 #[.int .i64 p] w fun e w'=>e=.returned (.int .i64 (placeX p))∧Below w.heap.size w w'):=(show ∀ (p:Int) (w:World),_ from fun p w a=>placeX_any p w a)
  have HD:Hid (Cd w):=hd
  obtain ⟨Z,hZ⟩:∃ Z,raR t d=Z:=⟨_,rfl⟩
  have HZ:Hid (raGo d.size d (spT t) 0=Z):=hZ
  rw [hZ]
  clear hd hZ
  go_enter Tryz.func117,Tryz.ntmps117
  go_wp2_with fail
  go_loopw [1,7] (fun dv lv wr=>∃ (D:ByteArray) (x:En) (last:Int),dv=.string D∧lv=.int .i64 last∧D.size≤d.size∧Hid (raGo D.size D x.sp last=Z)∧Wn wr w.heap.size en0∧Wn wr (w.heap.size + 1) x∧Hid (EF (w.heap.size + 2) wr x)∧Hid (SOk x.sp)∧Hid (x.pri=0∧x.ta=none∧x.tl=0∧x.tc=0)∧w.heap.size + 2≤wr.heap.size∧Below w.heap.size w wr) (fun dv _ _=>szOf dv)
  case atStart =>
    exact ⟨d,enT t,0,rfl,rfl,Nat.le_refl _,HZ.out,by have:=Wn.twoR0 w t;first | exact this | simpa [enT,en0] using this,by have:=Wn.twoR1 w t;first | exact this | simpa [enT] using this,(show EF _ _ _ from ⟨.inl rfl,.inl rfl,by simp [enT],by simp [enT]⟩),(show SOk _ from ⟨by show (0:Int)≤0;omega,by show (0:Int) < _;omega,by show (0:Int)≤0;omega,by show (0:Int) < _;omega,by show (0:Int)≤0;omega,by show (0:Int) < _;omega,by show (0:Int)≤0;omega,by show (0:Int) < _;omega⟩),(show _∧_∧_∧_ from ⟨rfl,rfl,rfl,rfl⟩),by simp,by go_grown⟩
  case round =>
    obtain ⟨D,x,last,rfl,rfl,hle,HG,e0,d0,HEF,HOk,HPr,hsz,hbel⟩:=hrel
    by_cases hD:D.size=0
    · have he:D.toList.isEmpty=true:=by
        rw [ByteArray.toList_eq]
        have:D.data.toList.length=0:=by simpa using hD
        rw [List.length_eq_zero_iff.1 this]
        rfl
      have HO:Hid (Z=(x.sp,0)):=(show _=_ by rw [← HG.out,raGo_end _ _ hD])
      clear HG hD
      obtain ⟨V,hV⟩:∃ V,wr.setCells w.heap.size 0 (enC x).toList=V:=⟨_,rfl⟩
      have HT:Hid (wr.there w.heap.size 0 (enC x).size):=(show World.there _ _ _ _ from wn_there e0)
      have F1:Wn V w.heap.size x:=hV ▸ wn_set e0 x
      have GV:Below w.heap.size w V:=hV ▸ below_sE x hbel (Nat.le_refl _)
      have HEV:Hid (EF w.heap.size V x):=(show EF _ _ _ from by
        have f:EF (w.heap.size + 2) V x:=hV ▸ ⟨HEF.out.a.keep (below_sE x (Below.refl 0 _) (Nat.zero_le _)).size (fun g hg _=>below_sE_block x (by omega)),HEF.out.w.keep (below_sE x (Below.refl 0 _) (Nat.zero_le _)).size (fun g hg _=>below_sE_block x (by omega)),HEF.out.na,HEF.out.nw⟩
        exact ⟨f.a.mono (by omega),f.w.mono (by omega),f.na,f.nw⟩)
      have HW:Hid (wr.setCells w.heap.size 0 (enC x).toList=V):=hV
      clear hV e0
      obtain ⟨⟨c0,c1,c2,c3,c4,c5,c6,c7,c8,c9⟩,cf⟩:=d0
      go_wp2_with (refine wpList_store_mid rfl 26 (.tmp 4) _ rfl w.heap.size 0 (enC x) rfl rfl HT.out (hiE x) (oneE x) ?_;rw [HW.out])
      refine bodyPost_ret (resEe (b:=w.heap.size) (x:=x) rfl rfl F1.1) rfl ?_
      exact ⟨x,by rw [HO.out];rfl,by rw [HO.out],HPr.out,HEV.out,HOk.out,GV⟩
    · have he:D.toList.isEmpty=false:=by
        rw [ByteArray.toList_eq]
        have h1:D.data.toList.length≠0:=by simpa using hD
        cases h:D.data.toList with
        | nil=>rw [h] at h1;exact absurd rfl h1
        | cons _ _=>rfl
      have HU:Hid (Z=if fszE D=0 then (if partX (num2 D) (nextX D x.sp)=cutX D then (if placeX (num2 D)≤last then (sp0,23) else raGo (restX D).size (restX D) (nextX D x.sp) (placeX (num2 D))) else (sp0,11)) else (sp0,fszE D)):=(show _=_ by rw [← HG.out,raGo_un _ _ hD])
      clear HG hD
      have hDm:D.size≤maxLen:=by omega
      go_wp2_with fail
      refine (HF.out D _ hDm).mono ?_
      rintro r w1 ⟨rfl,g1⟩
      have e1:=e0.below (by omega) g1
      have d1:=d0.below (by omega) g1
      have HEF1:Hid (EF (w.heap.size + 2) w1 x):=HEF.out.below g1
      have G1:Below w.heap.size w w1:=btr hbel g1 (by omega)
      have s1:w.heap.size + 2≤w1.heap.size:=by have:=g1.size;omega
      clear g1 e0 d0 HEF hsz hbel
      by_cases hE:fszE D=0
      · have f:=fsz_of hE
        have hz1:=f.len
        have hz2:=f.le
        have hz3:=f.z
        have hcs:=cut_size hE
        have hrs:=rest_size hE
        have HU2:=HU.out
        rw [if_pos hE] at HU2
        obtain ⟨n0,n1⟩:=num2_range D
        have hcut:D.extract 0 (fszZ D).toNat=cutX D:=rfl
        have hrest:D.extract (fszZ D).toNat D.size=restX D:=rfl
        have hsh:∀ w,(Instr.slice 9 (.string D) none (some (.int .i64 (fszZ D))) none).run Tryz.prog w=.ok (.string (cutX D)) w:=fun w=>slice_h D _ (by omega) (by omega) w
        have hsl:∀ w,(Instr.slice 9 (.string D) (some (.int .i64 (fszZ D))) none none).run Tryz.prog w=.ok (.string (restX D)) w:=fun w=>slice_l D _ (by omega) (by omega) w
        have HNX:Hid (nextX D x.sp=readX (num2 D) (cutX D) x.sp):=(show _=_ from rfl)
        have HU3:Hid (Z=if partX (num2 D) (nextX D x.sp)=cutX D then (if placeX (num2 D)≤last then (sp0,23) else raGo (restX D).size (restX D) (nextX D x.sp) (placeX (num2 D))) else (sp0,11)):=HU2
        have HNum:Hid (∀ w1 b,Rd w1 b D 0→Calls Tryz.prog 46 #[.pointer (some ⟨b,0,none⟩),.int .i64 2] w1 fun x w'=>x=.returned (.int .u64 (num2 D))∧Only b w1 w'):=(show ∀ w1 b,_ from fun w1 b r=>HN.out D w1 b hDm r)
        rw [hE]
        clear HU HU2 hE f hcut hrest hz3
        generalize fszZ D=z at *
        generalize num2 D=p at *
        have hc8:8≤(cutX D).size:=by omega
        have hcm:(cutX D).size≤maxLen:=by omega
        have hrm:(restX D).size < D.size:=hrs
        clear hrs hcs hz1 hz2
        generalize cutX D=C at *
        generalize restX D=D' at *
        generalize nextX D x.sp=s' at *
        go_wp2_with fail
        refine (rd_any D _).mono ?_
        rintro r w2 ⟨rfl,r2,g2,z2⟩
        go_wp2_with fail
        refine (HNum.out _ _ r2).mono ?_
        rintro r w3 ⟨rfl,o3⟩
        have K13:Below w1.heap.size w1 w3:=o3.below (Nat.le_refl _) g2
        have e3:=e1.below (by omega) K13
        have d3:=d1.below (by omega) K13
        have HEF3:Hid (EF (w.heap.size + 2) w3 x):=HEF1.out.below K13
        have G3:Below w.heap.size w w3:=btr G1 K13 (by omega)
        have s3:w.heap.size + 2≤w3.heap.size:=by have:=K13.size;omega
        obtain ⟨b,hb⟩:∃ b,w1.heap.size=b:=⟨_,rfl⟩
        rw [hb]
        clear r2 g2 z2 o3 K13 e1 d1 HEF1 G1 s1 hb
        have d3':=d3
        obtain ⟨⟨c0,c1,c2,c3,c4,c5,c6,c7,c8,c9⟩,cf⟩:=d3'
        go_wp2_with fail
        have HRd3:Hid (Calls Tryz.prog 138 #[.int .i64 p,.string C,enV x] w3.drew fun e w'=>∃ y:En,e=.returned (enV y)∧Wn w' (w.heap.size + 1) x∧Hid (y.sp=s')∧Hid (y.pri=0∧y.ta=none∧y.tl=0∧y.tc=0)∧Hid (EF (w.heap.size + 2) w' y)∧Hid (SOk y.sp)∧Hid (Wn w' w.heap.size en0)∧Hid (Below w.heap.size w w')∧Hid (w.heap.size + 2≤w'.heap.size)):=(show Calls _ _ _ _ _ from by
          have k3:Below w3.heap.size w3 w3.drew:=(Below.refl _ w3).drew
          refine (HRead.out p C x _ (HEF3.out.below k3).ew ((HD.out.below G3).below k3) hcm hc8).mono ?_
          rintro r w4 ⟨y,rfl,hy1,hy2,hy3,hy4,g4⟩
          have k4:Below w3.heap.size w3 w4:=k3.trans g4
          obtain ⟨p1,p2,p3,p4⟩:=HPr.out
          refine ⟨y,rfl,d3.below (by omega) k4,(show _=_ by rw [hy1,HNX.out]),(show _∧_∧_∧_ from ⟨by rw [hy2.1,p1],by rw [hy2.2.1,p2],by rw [hy2.2.2.1,p3],by rw [hy2.2.2.2,p4]⟩),(show EF _ _ _ from hy4 _ s3 (HEF3.out.below k3)),(show SOk _ from by rw [hy1];exact readX_ok p C HOk.out),(show Wn _ _ _ from e3.below (by omega) k4),(show Below _ _ _ from btr G3 k4 (by omega)),(show _≤_ from by have:=k4.size;omega)⟩)
        clear e3 HEF3 G3
        go_region_with (first | (go_at_call 138;refine HRd3.out.mono ?_;rintro r w4 ⟨y,rfl,⟨⟨b0,b1,b2,b3,b4,b5,b6,b7,b8,b9⟩,bf⟩,HY1,HY2,HY3,HY4,HY5,HY6,HY7⟩))
        obtain ⟨V,hV⟩:∃ V,((((((((((w4.setCell ⟨w.heap.size + 1,0,none⟩ (Value.int IntKind.i64 y.tab)).setCell ⟨w.heap.size + 1,1,none⟩ (Value.int IntKind.i64 y.pri)).setCell ⟨w.heap.size + 1,2,none⟩ (Value.slice y.ta y.tl y.tc)).setCell ⟨w.heap.size + 1,3,none⟩ (Value.slice y.aa y.la.length y.ca)).setCell ⟨w.heap.size + 1,4,none⟩ (Value.slice y.aw y.lw.length y.cw)).setCell ⟨w.heap.size + 1,5,none⟩ (Value.bool y.clr)).setCell ⟨w.heap.size + 1,6,none⟩ (Value.int IntKind.u64 y.mt)).setCell ⟨w.heap.size + 1,7,none⟩ (Value.int IntKind.u64 y.mm)).setCell ⟨w.heap.size + 1,8,none⟩ (Value.int IntKind.i64 y.met)).setCell ⟨w.heap.size + 1,9,none⟩ (Value.int IntKind.i64 y.go))=V:=⟨_,rfl⟩
        rw [hV]
        have d4:Wn w4 (w.heap.size + 1) x:=⟨⟨b0,b1,b2,b3,b4,b5,b6,b7,b8,b9⟩,bf⟩
        have dV:Wn V (w.heap.size + 1) y:=by rw [← hV];exact wn_set d4 y
        have eV:Wn V w.heap.size en0:=by rw [← hV];exact wn_out HY5.out y (by omega)
        have GV:Below w.heap.size w V:=by rw [← hV];exact below_sE y HY6.out (by omega)
        have zV:w4.heap.size≤V.heap.size:=by rw [← hV];exact (below_sE y (Below.refl 0 w4) (Nat.zero_le (w.heap.size + 1))).size
        have kV:∀ g,w.heap.size + 2≤g→g < w4.heap.size→V.heap[g]? = w4.heap[g]?:=fun g hg _=>by rw [← hV];exact below_sE_block y (by omega)
        have HEFV:Hid (EF (w.heap.size + 2) V y):=(show EF _ _ _ from ⟨HY3.out.a.keep zV kV,HY3.out.w.keep zV kV,HY3.out.na,HY3.out.nw⟩)
        have sV:w.heap.size + 2≤V.heap.size:=by have:=HY7.out;omega
        clear hV d4 kV zV b0 b1 b2 b3 b4 b5 b6 b7 b8 b9 bf HY3 HY5 HY6 HY7 HRd3 c0 c1 c2 c3 c4 c5 c6 c7 c8 c9 cf d3 s3
        have q:=Bn.gr dV.1 (by omega)
        have q0:=fun n=>(q n).1
        have q1:=fun n=>(q n).2.1
        have q2:=fun n=>(q n).2.2.1
        have q3:=fun n=>(q n).2.2.2.1
        have q4:=fun n=>(q n).2.2.2.2.1
        have q5:=fun n=>(q n).2.2.2.2.2.1
        have q6:=fun n=>(q n).2.2.2.2.2.2.1
        have q7:=fun n=>(q n).2.2.2.2.2.2.2.1
        have q8:=fun n=>(q n).2.2.2.2.2.2.2.2.1
        have q9:=fun n=>(q n).2.2.2.2.2.2.2.2.2
        clear q
        by_cases hP:partX p s'=C
        · have HU4:Hid (Z=if placeX p≤last then (sp0,23) else raGo D'.size D' s' (placeX p)):=(show _=_ by rw [HU3.out,if_pos hP])
          have hq:=eqS C
          have HPl2:Hid (∀ w,Cd w→Calls Tryz.prog 139 #[.int .i64 p] w fun e w'=>e=.returned (.int .i64 (placeX p))∧Below w.heap.size w w'):=(show ∀ w,_ from fun w h=>HPl.out p w h)
          have HWrV:Hid (∀ n:GrT V,Calls Tryz.prog 108 #[.int .i64 p,enV y] n.w fun e w'=>e=.returned (.string C)∧Below n.w.heap.size n.w w'):=(show ∀ n:GrT V,_ from fun n=>by
            have:=HWr.out p y n.w (HEFV.out.below n.h).ew HY4.out ((HD.out.below GV).below n.h)
            rwa [HY1.out,hP] at this)
          go_wp2_with fail
          refine wp_region_grow (by kernel_rfl) (by kernel_rfl) ?_
          repeat (go_big_quiet_step (first | (go_at_call 108;exact quiet_gr (HWrV.out _))))
          refine wpQuiet_nil ?_
          rintro w5 hw'
          have g5:=gr_elim hw'
          have e5:=eV.below (by omega) g5
          have d5:=dV.below (by omega) g5
          have HEF5:Hid (EF (w.heap.size + 2) w5 y):=HEFV.out.below g5
          have G5:Below w.heap.size w w5:=btr GV g5 (by omega)
          have s5:w.heap.size + 2≤w5.heap.size:=by have:=g5.size;omega
          clear q0 q1 q2 q3 q4 q5 q6 q7 q8 q9 hw' g5 eV dV GV sV
          clear hP HU3
          generalize placeX p=pl at *
          go_wp2_with fail
          refine (HPl2.out _ (HD.out.below G5)).mono ?_
          rintro r w6 ⟨rfl,g6⟩
          have e6:=e5.below (by omega) g6
          have d6:=d5.below (by omega) g6
          have HEF6:Hid (EF (w.heap.size + 2) w6 y):=HEF5.out.below g6
          have G6:Below w.heap.size w w6:=btr G5 g6 (by omega)
          have s6:w.heap.size + 2≤w6.heap.size:=by have:=g6.size;omega
          clear g6 e5 d5 HEF5 G5 s5
          by_cases hL:pl≤last
          · have HO:Hid (Z=(sp0,23)):=(show _=_ by rw [HU4.out,if_pos hL])
            clear HU4
            obtain ⟨V0,hV0⟩:∃ V,(w6).setCells w.heap.size 0 (enC en0).toList=V:=⟨_,rfl⟩
            have HT0:Hid ((w6).there w.heap.size 0 (enC en0).size):=(show World.there _ _ _ _ from wn_there e6)
            have F0:Wn V0 w.heap.size en0:=hV0 ▸ wn_set e6 en0
            have GV0:Below w.heap.size w V0:=hV0 ▸ below_sE en0 G6 (Nat.le_refl _)
            have HW0:Hid ((w6).setCells w.heap.size 0 (enC en0).toList=V0):=hV0
            clear hV0 e6 G6
            go_wp2_with (refine wpList_store_mid rfl 26 (.tmp 4) _ rfl w.heap.size 0 (enC en0) rfl rfl HT0.out (hiE en0) (oneE en0) ?_;rw [HW0.out])
            refine bodyPost_ret (resEe (b:=w.heap.size) (x:=en0) rfl rfl F0.1) rfl ?_
            exact ⟨en0,by rw [HO.out];rfl,by rw [HO.out];rfl,⟨rfl,rfl,rfl,rfl⟩,en0_f _ _,en0_ok,GV0⟩
          · have HU5:Hid (raGo D'.size D' s' pl=Z):=(show _=_ by rw [HU4.out,if_neg hL])
            clear HU4
            go_wp2_with fail
            refine (HPl2.out _ (HD.out.below G6)).mono ?_
            rintro r w7 ⟨rfl,g7⟩
            have e7:=e6.below (by omega) g7
            have d7:=d6.below (by omega) g7
            have HEF7:Hid (EF (w.heap.size + 2) w7 y):=HEF6.out.below g7
            have G7:Below w.heap.size w w7:=btr G6 g7 (by omega)
            have s7:w.heap.size + 2≤w7.heap.size:=by have:=g7.size;omega
            clear g7 e6 d6 HEF6 G6 s6
            go_wp2_with fail
            go_roundw
            case rel=>exact ⟨D',y,pl,rfl,rfl,by omega,(show _=_ by rw [HY1.out];exact HU5.out),e7,d7,HEF7,HY4,HY2,s7,G7⟩
            case measure=>simpa [szOf] using hrm
        · have HO:Hid (Z=(sp0,11)):=(show _=_ by rw [HU3.out,if_neg hP])
          have hq:=str_ne hP
          obtain ⟨S,hS⟩:∃ S,partX p s'=S:=⟨_,rfl⟩
          rw [hS] at hq
          have HWrV:Hid (∀ n:GrT V,Calls Tryz.prog 108 #[.int .i64 p,enV y] n.w fun e w'=>e=.returned (.string S)∧Below n.w.heap.size n.w w'):=(show ∀ n:GrT V,_ from fun n=>by
            have:=HWr.out p y n.w (HEFV.out.below n.h).ew HY4.out ((HD.out.below GV).below n.h)
            rwa [HY1.out,hS] at this)
          go_wp2_with fail
          refine wp_region_grow (by kernel_rfl) (by kernel_rfl) ?_
          repeat (go_big_quiet_step (first | (go_at_call 108;exact quiet_gr (HWrV.out _))))
          refine wpQuiet_nil ?_
          rintro w5 hw'
          have g5:=gr_elim hw'
          have e5:=eV.below (by omega) g5
          have d5:=dV.below (by omega) g5
          have HEF5:Hid (EF (w.heap.size + 2) w5 y):=HEFV.out.below g5
          have G5:Below w.heap.size w w5:=btr GV g5 (by omega)
          have s5:w.heap.size + 2≤w5.heap.size:=by have:=g5.size;omega
          clear q0 q1 q2 q3 q4 q5 q6 q7 q8 q9 hw' g5 eV dV GV sV
          clear hP HU3
          obtain ⟨V0,hV0⟩:∃ V,(w5).setCells w.heap.size 0 (enC en0).toList=V:=⟨_,rfl⟩
          have HT0:Hid ((w5).there w.heap.size 0 (enC en0).size):=(show World.there _ _ _ _ from wn_there e5)
          have F0:Wn V0 w.heap.size en0:=hV0 ▸ wn_set e5 en0
          have GV0:Below w.heap.size w V0:=hV0 ▸ below_sE en0 G5 (Nat.le_refl _)
          have HW0:Hid ((w5).setCells w.heap.size 0 (enC en0).toList=V0):=hV0
          clear hV0 e5 G5
          go_wp2_with (refine wpList_store_mid rfl 26 (.tmp 4) _ rfl w.heap.size 0 (enC en0) rfl rfl HT0.out (hiE en0) (oneE en0) ?_;rw [HW0.out])
          refine bodyPost_ret (resEe (b:=w.heap.size) (x:=en0) rfl rfl F0.1) rfl ?_
          exact ⟨en0,by rw [HO.out];rfl,by rw [HO.out];rfl,⟨rfl,rfl,rfl,rfl⟩,en0_f _ _,en0_ok,GV0⟩
      · have hEb:(fszE D != 0)=true:=by simpa using hE
        have HO:Hid (Z=(sp0,fszE D)):=(show _=_ by rw [HU.out,if_neg hE])
        clear HU hE
        generalize fszE D=E at *
        obtain ⟨V0,hV0⟩:∃ V,(w1).setCells w.heap.size 0 (enC en0).toList=V:=⟨_,rfl⟩
        have HT0:Hid ((w1).there w.heap.size 0 (enC en0).size):=(show World.there _ _ _ _ from wn_there e1)
        have F0:Wn V0 w.heap.size en0:=hV0 ▸ wn_set e1 en0
        have GV0:Below w.heap.size w V0:=hV0 ▸ below_sE en0 G1 (Nat.le_refl _)
        have HW0:Hid ((w1).setCells w.heap.size 0 (enC en0).toList=V0):=hV0
        clear hV0 e1 G1
        go_wp2_with (refine wpList_store_mid rfl 26 (.tmp 4) _ rfl w.heap.size 0 (enC en0) rfl rfl HT0.out (hiE en0) (oneE en0) ?_;rw [HW0.out])
        refine bodyPost_ret (resEe (b:=w.heap.size) (x:=en0) rfl rfl F0.1) rfl ?_
        exact ⟨en0,by rw [HO.out];rfl,by rw [HO.out];rfl,⟨rfl,rfl,rfl,rfl⟩,en0_f _ _,en0_ok,GV0⟩
theorem decX_any (t:Int) (d:ByteArray) (w:World) (hs:d.size≤maxLen) (hd:Cd w) :
    Calls Tryz.prog 86 #[.int .i64 t,.string d] w fun e w'=>∃ y:En,e=.returned (.tuple #[enV y,.int .i64 (decX t d).2])∧y.sp=(decX t d).1∧(y.pri=0∧y.ta=none∧y.tl=0∧y.tc=0)∧EF w.heap.size w' y∧SOk y.sp∧Below w.heap.size w w':=by
  have HT:Hid (∀ w,Calls Tryz.prog 116 #[.int .i64 t] w fun e w'=>e=.returned (.bool (tabB t))∧w'=w):=(show ∀ w,_ from fun w=>isTable_any t w)
  have HRA:Hid (Calls Tryz.prog 117 #[.int .i64 t,.string d] (ex w en0) fun e w'=>∃ y:En,e=.returned (.tuple #[enV y,.int .i64 (raR t d).2])∧Hid (y.sp=(raR t d).1)∧Hid (y.pri=0∧y.ta=none∧y.tl=0∧y.tc=0)∧Hid (EF (w.heap.size + 1) w' y)∧Hid (SOk y.sp)∧Wn w' w.heap.size en0∧Below w.heap.size w w'∧w.heap.size + 1≤w'.heap.size):=(show Calls _ _ _ _ _ from by
    refine (ra_any t d (ex w en0) hs (hd.alloc _)).mono ?_
    rintro r w1 ⟨y,rfl,h1,h2,h3,h4,g⟩
    have e:(ex w en0).heap.size=w.heap.size + 1:=by simp
    rw [e] at h3 g
    exact ⟨y,rfl,(show _=_ from h1),(show _∧_ from h2),(show EF _ _ _ from h3),(show SOk _ from h4),(Wn.new w en0).below (by omega) g,(show Below w.heap.size w (ex w en0) by go_grown).trans (g.mono (by omega)),by have:=g.size;simp at this;omega⟩)
  have HR:Hid (∀ (x:En) (w:World),EW w x→Cd w→Calls Tryz.prog 97 #[enV x] w fun e w'=>e=.returned (.int .i64 (rightX x.sp))∧Below w.heap.size w w'):=(show ∀ (x:En) (w:World),_ from fun x w a b=>rightX_any x w a b)
  have HD:Hid (Cd w):=hd
  obtain ⟨Z,hZ⟩:∃ Z,decX t d=Z:=⟨_,rfl⟩
  have HZ:Hid (Z=if tabB t=false then (sp0,26) else if (raR t d).2≠0 then (sp0,(raR t d).2) else if rightX (raR t d).1≠0 then (sp0,rightX (raR t d).1) else ((raR t d).1,0)):=(show _=_ by rw [← hZ];rfl)
  rw [hZ]
  clear hd hZ hs
  cases ht:tabB t with
  | false =>
    have HO:Hid (Z=(sp0,26)):=(show _=_ by rw [HZ.out,if_pos ht])
    rw [ht] at HT
    clear HZ HRA
    go_enter Tryz.func86,Tryz.ntmps86
    go_wp2_with fail
    refine (HT.out _).mono ?_
    rintro r w1 ⟨rfl,rfl⟩
    go_wp2_with fail
    refine bodyPost_ret (resEe (b:=w.heap.size) (x:=en0) rfl rfl (Bn.new w en0)) rfl ?_
    exact ⟨en0,by rw [HO.out];rfl,by rw [HO.out];rfl,⟨rfl,rfl,rfl,rfl⟩,en0_f _ _,en0_ok,by go_grown⟩
  | true =>
    have HU:Hid (Z=if (raR t d).2≠0 then (sp0,(raR t d).2) else if rightX (raR t d).1≠0 then (sp0,rightX (raR t d).1) else ((raR t d).1,0)):=(show _=_ by rw [HZ.out,if_neg (by rw [ht];decide)])
    rw [ht] at HT
    clear HZ ht
    generalize raR t d=RR at *
    obtain ⟨s,E⟩:=RR
    simp only at HRA HU
    go_enter Tryz.func86,Tryz.ntmps86
    go_wp2_with fail
    refine (HT.out _).mono ?_
    rintro r w1 ⟨rfl,rfl⟩
    go_wp2_with fail
    refine HRA.out.mono ?_
    rintro r w1 ⟨y,rfl,HY1,HY2,HY3,HY4,e1,G1,s1⟩
    have e2:Wn (ex w1 y) w.heap.size en0:=e1.alloc (by omega) _
    have d2:=Wn.new w1 y
    have G2:Below w.heap.size w (ex w1 y):=G1.alloc (by omega) _
    have HF2:Hid (EF (w.heap.size + 1) (ex w1 y) y):=(show EF _ _ _ from HY3.out.below (by go_grown))
    clear e1 G1
    by_cases hE:E=0
    · have hEb:(E == 0)=true:=by simpa using hE
      have HU2:Hid (Z=if rightX s≠0 then (sp0,rightX s) else (s,0)):=(show _=_ by rw [HU.out,if_neg (by simpa using hE)])
      have HRy:Hid (Calls Tryz.prog 97 #[enV y] (ex w1 y) fun e w'=>e=.returned (.int .i64 (rightX s))∧Below (ex w1 y).heap.size (ex w1 y) w'):=(show Calls _ _ _ _ _ from by
        have:=HR.out y (ex w1 y) HF2.out.ew (HD.out.below G2)
        rwa [HY1.out] at this)
      clear HU hE
      generalize rightX s=R at *
      go_wp2_with fail
      refine HRy.out.mono ?_
      rintro r w3 ⟨rfl,g3⟩
      have e3:=e2.below (by first | (simp;done) | (simp;omega)) g3
      have d3:=d2.below (by simp) g3
      have HF3:Hid (EF (w.heap.size + 1) w3 y):=(show EF _ _ _ from HF2.out.below g3)
      have G3:Below w.heap.size w w3:=btr G2 g3 (by first | (simp;done) | (simp;omega))
      clear g3 e2 d2 HF2 G2
      by_cases hR:R=0
      · have hRb:(R != 0)=false:=by simpa using hR
        have HO:Hid (Z=(s,0)):=(show _=_ by rw [HU2.out,if_neg (by simpa using hR)])
        clear HU2 hR
        obtain ⟨V,hV⟩:∃ V,w3.setCells w.heap.size 0 (enC y).toList=V:=⟨_,rfl⟩
        have HTy:Hid (w3.there w.heap.size 0 (enC y).size):=(show World.there _ _ _ _ from wn_there e3)
        have F1:Wn V w.heap.size y:=hV ▸ wn_set e3 y
        have GV:Below w.heap.size w V:=hV ▸ below_sE y G3 (Nat.le_refl _)
        have HEV:Hid (EF w.heap.size V y):=(show EF _ _ _ from by
          have f:EF (w.heap.size + 1) V y:=hV ▸ ⟨HF3.out.a.keep (below_sE y (Below.refl 0 _) (Nat.zero_le _)).size (fun g hg _=>below_sE_block y (by omega)),HF3.out.w.keep (below_sE y (Below.refl 0 _) (Nat.zero_le _)).size (fun g hg _=>below_sE_block y (by omega)),HF3.out.na,HF3.out.nw⟩
          exact ⟨f.a.mono (by omega),f.w.mono (by omega),f.na,f.nw⟩)
        have HWy:Hid (w3.setCells w.heap.size 0 (enC y).toList=V):=hV
        clear hV e3
        obtain ⟨⟨c0,c1,c2,c3,c4,c5,c6,c7,c8,c9⟩,cf⟩:=d3
        go_wp2_with (refine wpList_store_mid rfl 26 (.tmp 4) _ rfl w.heap.size 0 (enC y) rfl rfl HTy.out (hiE y) (oneE y) ?_;rw [HWy.out])
        refine bodyPost_ret (resEe (b:=w.heap.size) (x:=y) rfl rfl F1.1) rfl ?_
        exact ⟨y,by rw [HO.out];rfl,by rw [HO.out];exact HY1.out,HY2.out,HEV.out,HY4.out,GV⟩
      · have hRb:(R != 0)=true:=by simpa using hR
        have HO:Hid (Z=(sp0,R)):=(show _=_ by rw [HU2.out,if_pos (by simpa using hR)])
        clear HU2 hR
        obtain ⟨V0,hV0⟩:∃ V,w3.setCells w.heap.size 0 (enC en0).toList=V:=⟨_,rfl⟩
        have HT0:Hid (w3.there w.heap.size 0 (enC en0).size):=(show World.there _ _ _ _ from wn_there e3)
        have F0:Wn V0 w.heap.size en0:=hV0 ▸ wn_set e3 en0
        have GV0:Below w.heap.size w V0:=hV0 ▸ below_sE en0 G3 (Nat.le_refl _)
        have HW0:Hid (w3.setCells w.heap.size 0 (enC en0).toList=V0):=hV0
        clear hV0 e3 G3
        go_wp2_with (refine wpList_store_mid rfl 26 (.tmp 4) _ rfl w.heap.size 0 (enC en0) rfl rfl HT0.out (hiE en0) (oneE en0) ?_;rw [HW0.out])
        refine bodyPost_ret (resEe (b:=w.heap.size) (x:=en0) rfl rfl F0.1) rfl ?_
        exact ⟨en0,by rw [HO.out];rfl,by rw [HO.out];rfl,⟨rfl,rfl,rfl,rfl⟩,en0_f _ _,en0_ok,GV0⟩
    · have hEb:(E == 0)=false:=by simpa using hE
      have hEn:(E != 0)=true:=by simpa using hE
      have HO:Hid (Z=(sp0,E)):=(show _=_ by rw [HU.out,if_pos (by simpa using hE)])
      clear HU hE
      obtain ⟨V0,hV0⟩:∃ V,(ex w1 y).setCells w.heap.size 0 (enC en0).toList=V:=⟨_,rfl⟩
      have HT0:Hid ((ex w1 y).there w.heap.size 0 (enC en0).size):=(show World.there _ _ _ _ from wn_there e2)
      have F0:Wn V0 w.heap.size en0:=hV0 ▸ wn_set e2 en0
      have GV0:Below w.heap.size w V0:=hV0 ▸ below_sE en0 G2 (Nat.le_refl _)
      have HW0:Hid ((ex w1 y).setCells w.heap.size 0 (enC en0).toList=V0):=hV0
      clear hV0 e2 G2
      go_wp2_with (refine wpList_store_mid rfl 26 (.tmp 4) _ rfl w.heap.size 0 (enC en0) rfl rfl HT0.out (hiE en0) (oneE en0) ?_;rw [HW0.out])
      refine bodyPost_ret (resEe (b:=w.heap.size) (x:=en0) rfl rfl F0.1) rfl ?_
      exact ⟨en0,by rw [HO.out];rfl,by rw [HO.out];rfl,⟨rfl,rfl,rfl,rfl⟩,en0_f _ _,en0_ok,GV0⟩
end Go.Proofs.YtlcbfdiohcbpbaaGreatDoor

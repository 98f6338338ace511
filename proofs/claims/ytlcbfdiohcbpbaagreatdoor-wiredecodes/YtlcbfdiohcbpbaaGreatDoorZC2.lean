import Derived.Test.YtlcbfdiohcbpbaaGreatDoorZC1
import Derived.Test.YtlcbfdiohcbpbaaGreatDoorZA2
import Derived.Test.YtlcbfdiohcbpbaaGreatDoorZS
namespace Go.Proofs.YtlcbfdiohcbpbaaGreatDoor
set_option maxHeartbeats 80000000
set_option maxRecDepth 20000
open Go.ChangeShapes Go.WideShapes Go.ChangeAt Go.RowKit
theorem rrX_any (x:En) (w:World) (h:EW w x) (va:AWs x.la) (vw:AWs x.lw) (t0:0≤x.mt) (t1:x.mt < 18446744073709551616):Calls Tryz.prog 79 #[enV x] w fun e w'=>e=.returned (.int .i64 (rightX x.sp))∧Below w.heap.size w w':=by
  have H1:Hid (Calls Tryz.prog 76 #[.slice x.aa x.la.length x.ca] (ex w x) fun e w'=>e=.returned (.tuple #[.string (encodeS x.la),.int .i64 (encodeE x.la)])∧Below (w.heap.size + 1) (ex w x) w'):=(show Calls _ _ _ _ _ from by
    have:=rencode_any x.aa x.la x.ca (ex w x) (h.a.alloc _) h.na va
    simpa using this)
  have H2:Hid (∀ w1,Below (w.heap.size + 1) (ex w x) w1→Calls Tryz.prog 76 #[.slice x.aw x.lw.length x.cw] w1 fun e w'=>e=.returned (.tuple #[.string (encodeS x.lw),.int .i64 (encodeE x.lw)])∧Below w1.heap.size w1 w'):=(show ∀ w1,_ from fun w1 g=>by
    have g':Below (ex w x).heap.size (ex w x) w1:=by simpa using g
    exact rencode_any x.aw x.lw x.cw w1 ((h.w.alloc _).below g') h.nw vw)
  have HB:Hid (∀ w1,Below (w.heap.size + 1) (ex w x) w1→Bn w1 w.heap.size x):=(show ∀ w1,_ from fun w1 g=>(Bn.new w x).below (by omega) g)
  have HC:Hid (∀ w1,Below (w.heap.size + 1) (ex w x) w1→Below w.heap.size w w1):=(show ∀ w1,_ from fun w1 g=>(show Below w.heap.size w (ex w x) by go_grown).trans (g.mono (by omega)))
  have HR:Hid (rightX x.sp=if tabB x.tab=false then 26 else if encodeE x.la≠0 then encodeE x.la else if encodeE x.lw≠0 then encodeE x.lw
    else if metB x.met=true then 25 else if bits .andNot .u64 x.mt x.mm≠0 then 23 else if goB x.tab x.go=false then 23 else 0):=(show _=_ from rfl)
  have HM:Hid (bits .andNot .u64 x.mt x.mm=0↔bits .and .u64 x.mt x.mm=x.mt):=not_iff x.mt x.mm t0 t1
  clear h va vw t0 t1
  cases ht:tabB x.tab with
  | false =>
    rw [HR.out,if_pos ht]
    have ht':(x.tab < 0)∨¬ (x.tab < 0)∧(7 < x.tab):=by unfold tabB at ht;simp at ht;omega
    clear HR ht
    rcases ht' with ht' | ⟨ht',ht2⟩
    all_goals
      go_enter Tryz.func79,Tryz.ntmps79
      go_wp2_with fail
      go_ret
      exact ⟨rfl,by go_grown⟩
  | true =>
    rw [HR.out,if_neg (by rw [ht];decide)]
    have k1 : ¬ (x.tab < 0):=by unfold tabB at ht;simp at ht;omega
    have k2 : ¬ (7 < x.tab):=by unfold tabB at ht;simp at ht;omega
    clear HR ht
    by_cases ha:encodeE x.la=0
    · rw [if_neg (by simpa using ha)]
      rw [ha] at H1
      by_cases hw:encodeE x.lw=0
      · rw [if_neg (by simpa using hw)]
        rw [hw] at H2
        clear ha hw
        generalize encodeS x.la=S1 at *
        generalize encodeS x.lw=S2 at *
        cases hm:metB x.met with
        | true =>
          rw [if_pos rfl]
          have hm':(x.met < 0)∨¬ (x.met < 0)∧(16 < x.met):=by unfold metB at hm;simp at hm;omega
          clear hm
          rcases hm' with hm' | ⟨hm',hm2⟩
          all_goals
            go_enter Tryz.func79,Tryz.ntmps79
            go_wp2_with fail
            refine H1.out.mono ?_
            rintro r w1 ⟨rfl,g1⟩
            obtain ⟨c0,c1,c2,c3,c4,c5,c6,c7,c8,c9⟩:=HB.out _ g1
            go_wp2_with fail
            refine (H2.out _ g1).mono ?_
            rintro r w2 ⟨rfl,g2'⟩
            have g2:Below (w.heap.size + 1) (ex w x) w2:=btr g1 g2' (by simp)
            clear c0 c1 c2 c3 c4 c5 c6 c7 c8 c9 g1 g2'
            obtain ⟨c0,c1,c2,c3,c4,c5,c6,c7,c8,c9⟩:=HB.out _ g2
            go_wp2_with fail
            go_ret
            exact ⟨rfl,HC.out _ g2⟩
        | false =>
          rw [if_neg (by decide)]
          have hm1 : ¬ (x.met < 0):=by unfold metB at hm;simp at hm;omega
          have hm2 : ¬ (16 < x.met):=by unfold metB at hm;simp at hm;omega
          clear hm
          by_cases hb:bits .andNot .u64 x.mt x.mm=0
          · rw [if_neg (by simpa using hb)]
            have hb':(bits .and .u64 x.mt x.mm != x.mt)=false:=by simpa using HM.out.1 hb
            clear hb HM
            have hg:(goB x.tab x.go=true∧((x.go != 0)=false∨(x.go != 0)=true∧¬ (x.go≤x.tab)∧¬ (7 < x.go)))∨(goB x.tab x.go=false∧(x.go != 0)=true∧(x.go≤x.tab∨¬ (x.go≤x.tab)∧7 < x.go)):=by
              unfold goB tabB
              simp
              omega
            rcases hg with ⟨hg,h0 | ⟨h0,h1,h2⟩⟩ | ⟨hg,h0,h1 | ⟨h1,h2⟩⟩
            · rw [if_neg (by rw [hg];decide)]
              clear hg
              go_enter Tryz.func79,Tryz.ntmps79
              go_wp2_with fail
              refine H1.out.mono ?_
              rintro r w1 ⟨rfl,g1⟩
              obtain ⟨c0,c1,c2,c3,c4,c5,c6,c7,c8,c9⟩:=HB.out _ g1
              go_wp2_with fail
              refine (H2.out _ g1).mono ?_
              rintro r w2 ⟨rfl,g2'⟩
              have g2:Below (w.heap.size + 1) (ex w x) w2:=btr g1 g2' (by simp)
              clear c0 c1 c2 c3 c4 c5 c6 c7 c8 c9 g1 g2'
              obtain ⟨c0,c1,c2,c3,c4,c5,c6,c7,c8,c9⟩:=HB.out _ g2
              go_wp2_with fail
              go_ret
              exact ⟨rfl,HC.out _ g2⟩
            · rw [if_neg (by rw [hg];decide)]
              clear hg
              go_enter Tryz.func79,Tryz.ntmps79
              go_wp2_with fail
              refine H1.out.mono ?_
              rintro r w1 ⟨rfl,g1⟩
              obtain ⟨c0,c1,c2,c3,c4,c5,c6,c7,c8,c9⟩:=HB.out _ g1
              go_wp2_with fail
              refine (H2.out _ g1).mono ?_
              rintro r w2 ⟨rfl,g2'⟩
              have g2:Below (w.heap.size + 1) (ex w x) w2:=btr g1 g2' (by simp)
              clear c0 c1 c2 c3 c4 c5 c6 c7 c8 c9 g1 g2'
              obtain ⟨c0,c1,c2,c3,c4,c5,c6,c7,c8,c9⟩:=HB.out _ g2
              go_wp2_with fail
              go_ret
              exact ⟨rfl,HC.out _ g2⟩
            · rw [if_pos hg]
              clear hg
              go_enter Tryz.func79,Tryz.ntmps79
              go_wp2_with fail
              refine H1.out.mono ?_
              rintro r w1 ⟨rfl,g1⟩
              obtain ⟨c0,c1,c2,c3,c4,c5,c6,c7,c8,c9⟩:=HB.out _ g1
              go_wp2_with fail
              refine (H2.out _ g1).mono ?_
              rintro r w2 ⟨rfl,g2'⟩
              have g2:Below (w.heap.size + 1) (ex w x) w2:=btr g1 g2' (by simp)
              clear c0 c1 c2 c3 c4 c5 c6 c7 c8 c9 g1 g2'
              obtain ⟨c0,c1,c2,c3,c4,c5,c6,c7,c8,c9⟩:=HB.out _ g2
              go_wp2_with fail
              go_ret
              exact ⟨rfl,HC.out _ g2⟩
            · rw [if_pos hg]
              clear hg
              go_enter Tryz.func79,Tryz.ntmps79
              go_wp2_with fail
              refine H1.out.mono ?_
              rintro r w1 ⟨rfl,g1⟩
              obtain ⟨c0,c1,c2,c3,c4,c5,c6,c7,c8,c9⟩:=HB.out _ g1
              go_wp2_with fail
              refine (H2.out _ g1).mono ?_
              rintro r w2 ⟨rfl,g2'⟩
              have g2:Below (w.heap.size + 1) (ex w x) w2:=btr g1 g2' (by simp)
              clear c0 c1 c2 c3 c4 c5 c6 c7 c8 c9 g1 g2'
              obtain ⟨c0,c1,c2,c3,c4,c5,c6,c7,c8,c9⟩:=HB.out _ g2
              go_wp2_with fail
              go_ret
              exact ⟨rfl,HC.out _ g2⟩
          · rw [if_pos (by simpa using hb)]
            have hb':(bits .and .u64 x.mt x.mm != x.mt)=true:=by
              rw [bne_iff_ne]
              exact fun e=>hb (HM.out.2 e)
            clear hb HM
            go_enter Tryz.func79,Tryz.ntmps79
            go_wp2_with fail
            refine H1.out.mono ?_
            rintro r w1 ⟨rfl,g1⟩
            obtain ⟨c0,c1,c2,c3,c4,c5,c6,c7,c8,c9⟩:=HB.out _ g1
            go_wp2_with fail
            refine (H2.out _ g1).mono ?_
            rintro r w2 ⟨rfl,g2'⟩
            have g2:Below (w.heap.size + 1) (ex w x) w2:=btr g1 g2' (by simp)
            clear c0 c1 c2 c3 c4 c5 c6 c7 c8 c9 g1 g2'
            obtain ⟨c0,c1,c2,c3,c4,c5,c6,c7,c8,c9⟩:=HB.out _ g2
            go_wp2_with fail
            go_ret
            exact ⟨rfl,HC.out _ g2⟩
      · rw [if_pos (by simpa using hw)]
        have hw':(encodeE x.lw != 0)=true:=by simpa using hw
        clear ha hw
        generalize encodeS x.la=S1 at *
        generalize encodeS x.lw=S2 at *
        generalize encodeE x.lw=E2 at *
        go_enter Tryz.func79,Tryz.ntmps79
        go_wp2_with fail
        refine H1.out.mono ?_
        rintro r w1 ⟨rfl,g1⟩
        obtain ⟨c0,c1,c2,c3,c4,c5,c6,c7,c8,c9⟩:=HB.out _ g1
        go_wp2_with fail
        refine (H2.out _ g1).mono ?_
        rintro r w2 ⟨rfl,g2'⟩
        have g2:Below (w.heap.size + 1) (ex w x) w2:=btr g1 g2' (by simp)
        clear c0 c1 c2 c3 c4 c5 c6 c7 c8 c9 g1 g2'
        obtain ⟨c0,c1,c2,c3,c4,c5,c6,c7,c8,c9⟩:=HB.out _ g2
        go_wp2_with fail
        go_ret
        exact ⟨rfl,HC.out _ g2⟩
    · rw [if_pos (by simpa using ha)]
      have ha':(encodeE x.la != 0)=true:=by simpa using ha
      clear ha
      generalize encodeS x.la=S1 at *
      generalize encodeE x.la=E1 at *
      go_enter Tryz.func79,Tryz.ntmps79
      go_wp2_with fail
      refine H1.out.mono ?_
      rintro r w1 ⟨rfl,g1⟩
      go_wp2_with fail
      go_ret
      exact ⟨rfl,HC.out _ g1⟩
def listX (k:ByteArray) (l:List A):ByteArray:=if l.length=0 then ⟨#[]⟩ else k ++ pb (8 + ((encodeS l).size:Int)) 2 ++ gap4 ++ encodeS l
theorem list_size (k:ByteArray) (l:List A) (hk:k.size=2):(listX k l).size≤1008:=by
 have:=enc_long l
 unfold listX
 split
 ·exact Nat.zero_le _
 ·simp only [ByteArray.size_append,pb_size,hk]
  have:gap4.size=4:=rfl
  omega
theorem list_any (k:ByteArray) (hk:k.size=2) (a:Option Addr) (l:List A) (cap:Nat) (w:World) (h:Ts w a l) (hl:l.length≤1000) (hW:AWs l) :
    Calls Tryz.prog 80 #[.string k,.slice a l.length cap] w fun e w'=>e=.returned (.string (listX k l))∧Below w.heap.size w w':=by
  have HE:Hid (Calls Tryz.prog 76 #[.slice a l.length cap] w fun e w'=>e=.returned (.tuple #[.string (encodeS l),.int .i64 (encodeE l)])∧Below w.heap.size w w'):=rencode_any a l cap w h hl hW
  clear h hW
  by_cases h0:l.length=0
  · have e:listX k l=⟨#[]⟩:=by unfold listX;rw [if_pos h0]
    rw [e]
    have hb:((l.length:Int) == 0)=true:=by simp [h0]
    clear e HE
    generalize l.length=n at *
    subst h0
    go_enter Tryz.func80,Tryz.ntmps80
    go_wp2_with fail
    go_ret
    exact ⟨rfl,Below.refl _ _⟩
  · have e:listX k l=k ++ pb (8 + ((encodeS l).size:Int)) 2 ++ gap4 ++ encodeS l:=by unfold listX;rw [if_neg h0]
    rw [e]
    have hz:=enc_long l
    have hb:((l.length:Int) == 0)=false:=by rw [beq_eq_false_iff_ne];omega
    clear e hl
    generalize encodeS l=S at *
    generalize encodeE l=E at *
    generalize l.length=n at *
    have HP:Hid (∀ w,Calls Tryz.prog 44 #[.int .u64 (8 + (S.size:Int)),.int .i64 2] w fun e w'=>e=.returned (.string (pb (8 + (S.size:Int)) 2))∧Below w.heap.size w w'):=(show ∀ w,_ from fun w=>rput_any _ 2 w (by omega) (by omega) (by omega) (by omega))
    have hw2:IntKind.u64.wrap (8 + (S.size:Int))=8 + (S.size:Int):=wraps_u64 _ (by omega) (by omega)
    have hps:=pb_size (8 + (S.size:Int)) 2
    unfold gap4
    go_enter Tryz.func80,Tryz.ntmps80
    go_wp2_with fail
    refine HE.out.mono ?_
    rintro r w1 ⟨rfl,g1⟩
    go_wp2_with fail
    refine (HP.out _).mono ?_
    rintro r w2 ⟨rfl,g2⟩
    go_wp2_with fail
    go_ret
    exact ⟨rfl,btr g1 g2 (Nat.le_refl _)⟩
set_option linter.unusedSimpArgs false
def g8:ByteArray:=⟨#[0,5,0,8,0,0,0,0]⟩
theorem p6_on {s:Sp} (h:(s.met != 0)=true):partX 6 s=⟨#[0,6,0,8]⟩ ++ pb s.met 4:=by
 have hb:hasX 6 s=true:=h
 rw [has_some hb]
 show pb 6 2 ++ (pb (4 + ((pb s.met 4).size:Int)) 2 ++ pb s.met 4)=_
 rw [pb_size,show pb 6 2=⟨#[0,6]⟩ by decide +kernel,show pb (4 + ((4:Nat):Int)) 2=⟨#[0,8]⟩ by decide +kernel,← ap_assoc]
 rfl
theorem p6_off {s:Sp} (h:(s.met != 0)=false):partX 6 s=⟨#[]⟩:=has_none (p:=6) h
theorem list_part (p:Int) (l:List A) (b:ByteArray) (hp:pb p 2=b):(if decide (0 < l.length)=true then pb p 2 ++ pb (4 + ((gap4 ++ encodeS l).size:Int)) 2 ++ (gap4 ++ encodeS l) else ⟨#[]⟩)=listX b l:=by
 unfold listX
 by_cases h:l.length=0
 ·rw [if_pos h,if_neg (by simp [h])]
 ·rw [if_neg h,if_pos (by simp;omega),hp,ByteArray.size_append,show gap4.size=4 from rfl,show (4:Int) + ((4 + (encodeS l).size:Nat):Int)=8 + ((encodeS l).size:Int) by omega,← ap_assoc]
theorem p4_eq (s:Sp):partX 4 s=listX ⟨#[0,4]⟩ s.la:=list_part 4 s.la _ (by decide +kernel)
theorem p3_eq (s:Sp):partX 3 s=listX ⟨#[0,3]⟩ s.lw:=list_part 3 s.lw _ (by decide +kernel)
theorem p5_on {s:Sp} (h:s.clr=true):partX 5 s=⟨#[0,5,0,8,0,0,0,0]⟩:=by
 have hb:hasX 5 s=true:=h
 rw [has_some hb]
 show pb 5 2 ++ (pb (4 + (gap4.size:Int)) 2 ++ gap4)=_
 decide +kernel
theorem p5_off {s:Sp} (h:s.clr=false):partX 5 s=⟨#[]⟩:=has_none (p:=5) h
theorem p2_on {s:Sp} (h:(s.mm != 0)=true):partX 2 s=⟨#[0,2,0,24,0,0,0,0]⟩ ++ pb s.mt 8 ++ pb s.mm 8:=by
 have hb:hasX 2 s=true:=h
 rw [has_some hb]
 show pb 2 2 ++ (pb (4 + ((gap4 ++ pb s.mt 8 ++ pb s.mm 8).size:Int)) 2 ++ (gap4 ++ pb s.mt 8 ++ pb s.mm 8))=_
 rw [ByteArray.size_append,ByteArray.size_append,pb_size,pb_size,show gap4.size=4 from rfl,show pb 2 2=⟨#[0,2]⟩ by decide +kernel,show pb (4 + ((4 + 8 + 8:Nat):Int)) 2=⟨#[0,24]⟩ by decide +kernel]
 rw [show (⟨#[0,2,0,24,0,0,0,0]⟩:ByteArray)=⟨#[0,2]⟩ ++ (⟨#[0,24]⟩ ++ gap4) by decide +kernel]
 simp only [ap_assoc]
theorem p2_off {s:Sp} (h:(s.mm != 0)=false):partX 2 s=⟨#[]⟩:=has_none (p:=2) h
theorem p1_on {s:Sp} (h:(s.go != 0)=true) (h0:0≤s.go) (h1:s.go < 256):partX 1 s=⟨#[0,1,0,8]⟩ ++ strOfNums [s.go] ++ ⟨#[0,0,0]⟩:=by
 have hb:hasX 1 s=true:=h
 rw [has_some hb]
 show pb 1 2 ++ (pb (4 + ((pb s.go 1 ++ gap3).size:Int)) 2 ++ (pb s.go 1 ++ gap3))=_
 rw [ByteArray.size_append,pb_size,show gap3.size=3 from rfl,show pb 1 2=⟨#[0,1]⟩ by decide +kernel,show pb (4 + ((1 + 3:Nat):Int)) 2=⟨#[0,8]⟩ by decide +kernel,pb1 _ h0 h1]
 rw [show (⟨#[0,1,0,8]⟩:ByteArray)=⟨#[0,1]⟩ ++ ⟨#[0,8]⟩ by decide +kernel]
 simp only [ap_assoc]
 rfl
theorem p1_off {s:Sp} (h:(s.go != 0)=false):partX 1 s=⟨#[]⟩:=has_none (p:=1) h
theorem encX_parts (s:Sp):encX s=partX 6 s ++ partX 4 s ++ partX 5 s ++ partX 3 s ++ partX 2 s ++ partX 1 s:=by
 simp only [encX,encTo,e_ap]
 rfl
theorem renc_good (x:En) (w:World) (h:EW w x) (va:AWs x.la) (vw:AWs x.lw) (u:EU x) (hr:rightX x.sp=0) :
    Calls Tryz.prog 42 #[enV x] w fun e w'=>e=.returned (.tuple #[.string (encX x.sp),.int .i64 0])∧Below w.heap.size w w':=by
  have o:=right_ok u hr
  have HR:Hid (Calls Tryz.prog 79 #[enV x] (ex w x) fun e w'=>e=.returned (.int .i64 0)∧Below (ex w x).heap.size (ex w x) w'):=(show Calls _ _ _ _ _ from by
    have:=rrX_any x (ex w x) (h.alloc _) va vw u.t0 u.t1
    rwa [hr] at this)
  have H4:Hid (∀ w1,Below (ex w x).heap.size (ex w x) w1→Calls Tryz.prog 80 #[.string ⟨#[0,4]⟩,.slice x.aa x.la.length x.ca] w1 fun e w'=>e=.returned (.string (listX ⟨#[0,4]⟩ x.la))∧Below w1.heap.size w1 w'):=(show ∀ w1,_ from fun w1 g=>list_any _ rfl _ _ _ w1 ((h.a.alloc _).below g) h.na va)
  have H3:Hid (∀ w1,Below (ex w x).heap.size (ex w x) w1→Calls Tryz.prog 80 #[.string ⟨#[0,3]⟩,.slice x.aw x.lw.length x.cw] w1 fun e w'=>e=.returned (.string (listX ⟨#[0,3]⟩ x.lw))∧Below w1.heap.size w1 w'):=(show ∀ w1,_ from fun w1 g=>list_any _ rfl _ _ _ w1 ((h.w.alloc _).below g) h.nw vw)
  have HC:Hid (∀ w1,Below (ex w x).heap.size (ex w x) w1→Bn w1 w.heap.size x):=(show ∀ w1,_ from fun w1 g=>(Bn.new w x).below (by simp) g)
  have z4:=list_size ⟨#[0,4]⟩ x.la rfl
  have z3:=list_size ⟨#[0,3]⟩ x.lw rfl
  have EX:Hid (encX x.sp=partX 6 x.sp ++ listX ⟨#[0,4]⟩ x.la ++ partX 5 x.sp ++ listX ⟨#[0,3]⟩ x.lw ++ partX 2 x.sp ++ partX 1 x.sp):=(show _=_ by rw [encX_parts,p4_eq,p3_eq];rfl)
  have E6:Hid (partX 6 x.sp=if (x.met != 0)=true then ⟨#[0,6,0,8]⟩ ++ pb x.met 4 else ⟨#[]⟩):=(show _=_ by
    split
    · next b=>exact p6_on (s:=x.sp) b
    · next b=>exact p6_off (s:=x.sp) (Bool.eq_false_iff.2 b))
  have E5:Hid (partX 5 x.sp=if x.clr=true then ⟨#[0,5,0,8,0,0,0,0]⟩ else ⟨#[]⟩):=(show _=_ by
    split
    · next b=>exact p5_on (s:=x.sp) b
    · next b=>exact p5_off (s:=x.sp) (Bool.eq_false_iff.2 b))
  have E2:Hid (partX 2 x.sp=if (x.mm != 0)=true then ⟨#[0,2,0,24,0,0,0,0]⟩ ++ pb x.mt 8 ++ pb x.mm 8 else ⟨#[]⟩):=(show _=_ by
    split
    · next b=>exact p2_on (s:=x.sp) b
    · next b=>exact p2_off (s:=x.sp) (Bool.eq_false_iff.2 b))
  have E1:Hid (partX 1 x.sp=if (x.go != 0)=true then ⟨#[0,1,0,8]⟩ ++ strOfNums [x.go] ++ ⟨#[0,0,0]⟩ else ⟨#[]⟩):=(show _=_ by
    split
    · next b=>exact p1_on (s:=x.sp) b o.g0 o.g1
    · next b=>exact p1_off (s:=x.sp) (Bool.eq_false_iff.2 b))
  have HP6:Hid (∀ w,Calls Tryz.prog 44 #[.int .u64 x.met,.int .i64 4] w fun e w'=>e=.returned (.string (pb x.met 4))∧Below w.heap.size w w'):=(show ∀ w,_ from fun w=>rput_any x.met 4 w (by omega) (by omega) o.m0 (Int.lt_trans o.m1 (by omega)))
  have hw6:IntKind.u64.wrap x.met=x.met:=wraps_u64 _ o.m0 (Int.lt_trans o.m1 (by omega))
  have k6:0≤x.met:=o.m0
  have k6':x.met < 4294967296:=o.m1
  have HPt:Hid (∀ w,Calls Tryz.prog 44 #[.int .u64 x.mt,.int .i64 8] w fun e w'=>e=.returned (.string (pb x.mt 8))∧Below w.heap.size w w'):=(show ∀ w,_ from fun w=>rput_any x.mt 8 w (by omega) (by omega) u.t0 u.t1)
  have HPm:Hid (∀ w,Calls Tryz.prog 44 #[.int .u64 x.mm,.int .i64 8] w fun e w'=>e=.returned (.string (pb x.mm 8))∧Below w.heap.size w w'):=(show ∀ w,_ from fun w=>rput_any x.mm 8 w (by omega) (by omega) u.k0 u.k1)
  have hcv:=cv1
  have hw1:IntKind.u8.wrap x.go=x.go:=by rw [IntKind.wrap_u8];have h0:0≤x.go:=o.g0;have h1:x.go < 256:=o.g1;omega
  have k1:0≤x.go:=o.g0
  have k1':x.go < 256:=o.g1
  have zg:(strOfNums [x.go]).size=1:=by rw [strOfNums_size];rfl
  have hps:=pb_size
  clear h va vw u hr o
  generalize listX ⟨#[0,4]⟩ x.la=L4 at *
  generalize listX ⟨#[0,3]⟩ x.lw=L3 at *
  cases b6:(x.met != 0) <;> cases b5:x.clr <;> cases b2:(x.mm != 0) <;> cases b1:(x.go != 0)
  all_goals
    have B5:Hid (x.clr=_):=b5
    rw [b6] at E6
    rw [b5] at E5
    rw [b2] at E2
    rw [b1] at E1
    clear b5
    go_enter Tryz.func42,Tryz.ntmps42
    go_wp2_with fail
    refine HR.out.mono ?_
    rintro r w1 ⟨rfl,g1⟩
    obtain ⟨c0,c1,c2,c3,c4,c5,c6,c7,c8,c9⟩:=HC.out _ g1
    rw [B5.out] at c5
    go_wp2_with fail
    first
      | (go_at_call 44
         refine (HP6.out _).mono ?_
         rintro r w2 ⟨rfl,g2'⟩
         have g2:=btr g1 g2' (by simp)
         clear c0 c1 c2 c3 c4 c5 c6 c7 c8 c9 g1 g2'
         obtain ⟨c0,c1,c2,c3,c4,c5,c6,c7,c8,c9⟩:=HC.out _ g2
         rw [B5.out] at c5
         go_wp2_with fail)
      | (have g2:=g1
         clear g1)
    refine (H4.out _ g2).mono ?_
    rintro r w3 ⟨rfl,g3'⟩
    have g3:=btr g2 g3' (by simp)
    clear c0 c1 c2 c3 c4 c5 c6 c7 c8 c9 g2 g3'
    obtain ⟨c0,c1,c2,c3,c4,c5,c6,c7,c8,c9⟩:=HC.out _ g3
    rw [B5.out] at c5
    go_wp2_with fail
    refine (H3.out _ g3).mono ?_
    rintro r w4 ⟨rfl,g4'⟩
    have g4:=btr g3 g4' (by simp)
    clear c0 c1 c2 c3 c4 c5 c6 c7 c8 c9 g3 g4'
    obtain ⟨c0,c1,c2,c3,c4,c5,c6,c7,c8,c9⟩:=HC.out _ g4
    rw [B5.out] at c5
    have szw:w.heap.size < w4.heap.size:=by have:=g4.size;simp at this;omega
    have q:=Bn.gr (HC.out _ g4) szw
    have q6:=fun n=>(q n).2.2.2.2.2.2.1
    have q7:=fun n=>(q n).2.2.2.2.2.2.2.1
    clear q
    go_wp2_with fail
    first
      | (refine wp_region_grow (by kernel_rfl) (by kernel_rfl) ?_
         repeat (go_big_quiet_step (first | (go_at_call_of 44 (Value.int IntKind.u64 x.mt);exact quiet_gr (HPt.out _)) | (go_at_call_of 44 (Value.int IntKind.u64 x.mm);exact quiet_gr (HPm.out _))))
         refine wpQuiet_nil ?_
         rintro w5 hw'
         have g5':=gr_elim hw'
         have g5:=btr g4 g5' (by simp)
         clear q6 q7 hw' szw
         clear c0 c1 c2 c3 c4 c5 c6 c7 c8 c9 g4 g5'
         obtain ⟨c0,c1,c2,c3,c4,c5,c6,c7,c8,c9⟩:=HC.out _ g5
         rw [B5.out] at c5
         go_wp2_with fail)
      | (have g5:=g4
         clear g4)
    go_ret2
    have hB:=btr (show Below w.heap.size w (ex w x) by go_grown) g5 (by simp)
    refine ⟨?_,by first | exact hB | exact hB.alloc (by have:=hB.size;omega) _⟩
    rw [EX.out,E6.out,E5.out,E2.out,E1.out]
    simp only [ap_assoc,e_ap,ap_e,if_true,if_false,Bool.false_eq_true]
    rfl
theorem renc_any (x:En) (w:World) (h:EW w x) (va:AWs x.la) (vw:AWs x.lw) (u:EU x) :
    Calls Tryz.prog 42 #[enV x] w fun e w'=>e=.returned (.tuple #[.string (encodeX x.sp),.int .i64 (rightX x.sp)])∧Below w.heap.size w w':=by
  by_cases hr:rightX x.sp=0
  · have e:encodeX x.sp=encX x.sp:=by unfold encodeX;rw [if_pos hr]
    rw [e,hr]
    exact renc_good x w h va vw u hr
  · have e:encodeX x.sp=⟨#[]⟩:=by unfold encodeX;rw [if_neg hr]
    rw [e]
    have HR:Hid (Calls Tryz.prog 79 #[enV x] (ex w x) fun e w'=>e=.returned (.int .i64 (rightX x.sp))∧Below (ex w x).heap.size (ex w x) w'):=rrX_any x (ex w x) (h.alloc _) va vw u.t0 u.t1
    have hb:(rightX x.sp != 0)=true:=by simpa using hr
    clear e hr h va vw u
    generalize rightX x.sp=R at *
    go_enter Tryz.func42,Tryz.ntmps42
    go_wp2_with fail
    refine HR.out.mono ?_
    rintro r w1 ⟨rfl,g1⟩
    go_wp2_with fail
    go_ret2
    exact ⟨rfl,btr (by go_grown) g1 (by simp)⟩
end Go.Proofs.YtlcbfdiohcbpbaaGreatDoor

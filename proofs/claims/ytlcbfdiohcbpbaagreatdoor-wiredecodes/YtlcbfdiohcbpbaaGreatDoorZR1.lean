import Derived.Test.YtlcbfdiohcbpbaaGreatDoorZW2
import Derived.Test.YtlcbfdiohcbpbaaGreatDoorZA2
import Derived.Laws.AppendOwn
import Derived.Laws.OwnMore
import Derived.Deep.RegionWith
import Derived.Deep.RegionLaw
namespace Go.Proofs.YtlcbfdiohcbpbaaGreatDoor
set_option maxHeartbeats 16000000
set_option maxRecDepth 20000
open Go.ChangeShapes Go.WideShapes Go.ChangeAt Go.RowKit
set_option linter.unusedVariables false
def RS.all (r:RS):ByteArray:=r.bytes r.s.size
def RS.end_ (r:RS):RS:=r.jump r.s.size
structure Grb (b:Nat) (w w':World):Prop where
 os:w'.os=w.os
 tape:w'.tape=w.tape
 output:w'.output=w.output
 size:w.heap.size≤w'.heap.size
 block:∀ k,k < w.heap.size→k≠b→w'.heap[k]? = w.heap[k]?
theorem Grb.refl (b:Nat) (w:World):Grb b w w:=⟨rfl,rfl,rfl,Nat.le_refl _,fun _ _ _=>rfl⟩
theorem Grb.trans {b:Nat} {x y z:World} (h:Grb b x y) (g:Grb b y z):Grb b x z :=
 ⟨g.os.trans h.os,g.tape.trans h.tape,g.output.trans h.output,Nat.le_trans h.size g.size,fun k hk hb=>(g.block k (Nat.lt_of_lt_of_le hk h.size) hb).trans (h.block k hk hb)⟩
theorem Grb.only {b:Nat} {w w':World} (h:Only b w w'):Grb b w w':=⟨h.os,h.tape,h.output,Nat.le_of_eq h.size.symm,fun k _ hb=>h.block k hb⟩
theorem Grb.ofBelow {b:Nat} {w w':World} (h:Below w.heap.size w w'):Grb b w w':=⟨h.os,h.tape,h.output,h.size,fun k hk _=>h.block k hk⟩
theorem Grb.below {b k:Nat} {a w w':World} (h:Grb b w w') (g:Below k a w) (hb:k≤b) (hk:k≤w.heap.size):Below k a w' :=
 g.trans ⟨h.os,h.tape,h.output,h.size,fun j hj=>h.block j (by omega) (by omega)⟩
theorem Grb.onlyNew {b c:Nat} {x y z:World} (h:Grb b x y) (g:Only c y z) (hc:x.heap.size≤c):Grb b x z :=
 ⟨g.os.trans h.os,g.tape.trans h.tape,g.output.trans h.output,by rw [g.size];exact h.size,fun k hk hb=>(g.block k (by omega)).trans (h.block k hk hb)⟩
theorem Grb.cd {b:Nat} {w w':World} (h:Grb b w w') (hd:Ct w) (hb:4 < b):Ct w':=by
 have hp:=hd.a.pos
 refine ⟨⟨?_,?_,?_⟩,?_⟩
 ·obtain ⟨t,f,e⟩:=hd.a.kinds
  exact ⟨t,f,(h.block _ (by omega) (by omega)).trans e⟩
 ·obtain ⟨t,f,e⟩:=hd.a.codes
  exact ⟨t,f,(h.block _ (by omega) (by omega)).trans e⟩
 ·obtain ⟨t,f,e⟩:=hd.a.order
  exact ⟨t,f,(h.block _ (by omega) (by omega)).trans e⟩
 ·obtain ⟨t,f,e⟩:=hd.m
  exact ⟨t,f,(h.block _ (by omega) (by omega)).trans e⟩
theorem bytesR (b:Nat) (r:RS) (n:Int) (w:World) (h:Rd w b r.s r.e) :
    Calls Tryz.prog 47 #[.pointer (some ⟨b,0,none⟩),.int .i64 n] w fun x w'=>x=.returned (.string (r.bytes n))∧Rd w' b (r.jump n).s (r.jump n).e∧Only b w w':=by
  have HT:Hid (Calls Tryz.prog 82 #[.pointer (some ⟨b,0,none⟩),.int .i64 n,.bool (decide (0≤n))] w fun x w'=>x=.returned (.string (r.bytes n))∧Rd w' b (r.jump n).s (r.jump n).e∧Only b w w'):=take_any b r.s r.e n (decide (0≤n)) w (by simp) h
  clear h
  by_cases h0:0≤n
  · have e:decide (0≤n)=true:=by simpa using h0
    rw [e] at HT
    go_enter Tryz.func47,Tryz.ntmps47
    go_wp2_with fail
    refine HT.out.mono ?_
    rintro x w1 ⟨rfl,r1,o1⟩
    go_wp2_with fail
    go_ret
    exact ⟨rfl,r1,o1⟩
  · have e:decide (0≤n)=false:=by simpa using h0
    rw [e] at HT
    go_enter Tryz.func47,Tryz.ntmps47
    go_wp2_with fail
    refine HT.out.mono ?_
    rintro x w1 ⟨rfl,r1,o1⟩
    go_wp2_with fail
    go_ret
    exact ⟨rfl,r1,o1⟩
theorem leftR (b:Nat) (r:RS) (w:World) (h:Rd w b r.s r.e) :
    Calls Tryz.prog 83 #[.pointer (some ⟨b,0,none⟩)] w fun x w'=>x=.returned (.int .i64 r.s.size)∧w'=w:=by
  obtain ⟨c0,c1,f0,f1⟩:=h
  go_enter Tryz.func83,Tryz.ntmps83
  go_wp2
  go_ret
  exact ⟨rfl,rfl⟩
theorem numberR (b:Nat) (r:RS) (k:Nat) (w:World) (hk:k≤4) (hs:r.s.size≤maxLen) (h:Rd w b r.s r.e) :
    Calls Tryz.prog 48 #[.pointer (some ⟨b,0,none⟩),.int .i64 (k:Int)] w fun x w'=>x=.returned (.int .i64 (r.num k))∧Rd w' b (r.skip k).s (r.skip k).e∧Only b w w':=by
  have HN:Hid (Calls Tryz.prog 46 #[.pointer (some ⟨b,0,none⟩),.int .i64 (k:Int)] w fun x w'=>x=.returned (.int .u64 (r.num k))∧Rd w' b (r.skip k).s (r.skip k).e∧Only b w w'):=numR b r k w hs h
  obtain ⟨n0,n1⟩:=RS.num_lt r k (by omega)
  have n2:r.num k < 4294967296:=by
    have h2:=Nat.pow_le_pow_right (show 0 < 256 by decide) hk
    have h3:=Int.ofNat_le.mpr h2
    rw [Int.natCast_pow,Int.natCast_pow] at h3
    exact Int.lt_of_lt_of_le n1 h3
  clear n1 h
  generalize r.num k=V at *
  go_enter Tryz.func48,Tryz.ntmps48
  go_wp2_with fail
  refine HN.out.mono ?_
  rintro x w1 ⟨rfl,r1,o1⟩
  go_wp2_with fail
  go_ret
  exact ⟨rfl,r1,o1⟩
theorem n1R (b:Nat) (r:RS) (w:World) (hs:r.s.size≤maxLen) (h:Rd w b r.s r.e) :
  Calls Tryz.prog 48 #[.pointer (some ⟨b,0,none⟩),.int .i64 1] w fun x w'=>x=.returned (.int .i64 (r.num 1))∧Rd w' b (r.skip 1).s (r.skip 1).e∧Only b w w':=numberR b r 1 w (by omega) hs h
theorem n2R (b:Nat) (r:RS) (w:World) (hs:r.s.size≤maxLen) (h:Rd w b r.s r.e) :
  Calls Tryz.prog 48 #[.pointer (some ⟨b,0,none⟩),.int .i64 2] w fun x w'=>x=.returned (.int .i64 (r.num 2))∧Rd w' b (r.skip 2).s (r.skip 2).e∧Only b w w':=numberR b r 2 w (by omega) hs h
theorem n4R (b:Nat) (r:RS) (w:World) (hs:r.s.size≤maxLen) (h:Rd w b r.s r.e) :
  Calls Tryz.prog 48 #[.pointer (some ⟨b,0,none⟩),.int .i64 4] w fun x w'=>x=.returned (.int .i64 (r.num 4))∧Rd w' b (r.skip 4).s (r.skip 4).e∧Only b w w':=numberR b r 4 w (by omega) hs h
theorem restAll (b:Nat) (r:RS) (w:World) (h:Rd w b r.s r.e) :
    Calls Tryz.prog 49 #[.pointer (some ⟨b,0,none⟩)] w fun x w'=>x=.returned (.string r.all)∧Rd w' b r.end_.s r.end_.e∧Only b w w':=by
  have HL:Hid (Calls Tryz.prog 83 #[.pointer (some ⟨b,0,none⟩)] w fun x w'=>x=.returned (.int .i64 r.s.size)∧w'=w):=leftR b r w h
  have HB:Hid (Calls Tryz.prog 47 #[.pointer (some ⟨b,0,none⟩),.int .i64 r.s.size] w fun x w'=>x=.returned (.string r.all)∧Rd w' b r.end_.s r.end_.e∧Only b w w'):=bytesR b r r.s.size w h
  clear h
  go_enter Tryz.func49,Tryz.ntmps49
  go_wp2_with fail
  refine HL.out.mono ?_
  rintro x w1 ⟨rfl,rfl⟩
  go_wp2_with fail
  refine HB.out.mono ?_
  rintro x w2 ⟨rfl,r2,o2⟩
  go_wp2_with fail
  go_ret
  exact ⟨rfl,r2,o2⟩
def actsV (d:ByteArray):List A:=(decR d).1
theorem bytes_le (r:RS) (n:Int):(r.bytes n).size≤r.s.size:=takeV_size _ _ _ _
theorem wreadA_any (b:Nat) (r:RS) (n:Int) (w:World) (hs:r.s.size≤maxLen) (hb:b < w.heap.size) (hb4:4 < b) (hd:Ct w) (h:Rd w b r.s r.e) :
    Calls Tryz.prog 84 #[.pointer (some ⟨b,0,none⟩),.int .i64 n] w fun x w'=>∃ a cap,x=.returned (.slice a (actsV (r.bytes n)).length cap)∧TsF w.heap.size w' a (actsV (r.bytes n))∧Rd w' b (r.jump n).s (r.jump n).e∧Grb b w w':=by
  have HB:Hid (Calls Tryz.prog 47 #[.pointer (some ⟨b,0,none⟩),.int .i64 n] w fun x w'=>x=.returned (.string (r.bytes n))∧Rd w' b (r.jump n).s (r.jump n).e∧Only b w w'):=bytesR b r n w h
  have HD:Hid (∀ w1,Ct w1→Calls Tryz.prog 113 #[.string (r.bytes n)] w1 fun x w'=>∃ ad cap,x=.returned (.tuple #[.slice ad (actsV (r.bytes n)).length cap,.int .i64 (decR (r.bytes n)).2])∧Hid (TsF w1.heap.size w' ad (actsV (r.bytes n)))∧Below w1.heap.size w1 w'):=(show ∀ w1,_ from fun w1 hc=>(dec_any (r.bytes n) w1 (Nat.le_trans (bytes_le r n) hs) hc.a).mono fun _ _ ⟨ad,cap,h1,h2,h3⟩=>⟨ad,cap,h1,(show TsF _ _ _ _ from h2),h3⟩)
  have HC:Hid (∀ w1,Only b w w1→Ct w1):=(show ∀ w1,_ from fun w1 o=>(Grb.only o).cd hd hb4)
  clear h hd
  generalize (decR (r.bytes n)).2=E at *
  generalize actsV (r.bytes n)=L at *
  generalize r.bytes n=D at *
  go_enter Tryz.func84,Tryz.ntmps84
  go_wp2_with fail
  refine HB.out.mono ?_
  rintro x w1 ⟨rfl,r1,o1⟩
  go_wp2_with fail
  refine (HD.out _ (HC.out _ o1)).mono ?_
  rintro x w2 ⟨ad,cap,rfl,HT,g2⟩
  have R2:=r1.below (by rw [o1.size];exact hb) g2
  have K2:=(Grb.only o1).trans (Grb.ofBelow (b:=b) g2)
  have HT2:Hid (TsF w.heap.size w2 ad L):=(show TsF _ _ _ _ from HT.out.mono (by rw [o1.size];exact Nat.le_refl _))
  clear g2 o1 r1 HT
  go_wp2_with fail
  go_ret
  exact ⟨ad,cap,rfl,HT2.out,R2,K2⟩
theorem readPort_any (b:Nat) (r:RS) (w:World) (hs:r.s.size≤maxLen) (h:Rd w b r.s r.e) :
    Calls Tryz.prog 50 #[.pointer (some ⟨b,0,none⟩)] w fun x w'=>x=.returned (.tuple #[.int .i64 ((r.jump 8).num 4),.bool ((((r.jump 8).skip 4).jump 32).num 4 == 0)])∧Only b w w':=by
  have z1:=Nat.le_trans (RS.jump_size r 8) hs
  have z2:=Nat.le_trans (RS.skip_size (r.jump 8) 4) z1
  have z3:=Nat.le_trans (RS.jump_size ((r.jump 8).skip 4) 32) z2
  have H1:Hid (∀ w,Rd w b r.s r.e→_):=(show ∀ w,Rd w b r.s r.e→_ from fun w h=>bytesR b r 8 w h)
  have H2:Hid (∀ w,Rd w b (r.jump 8).s (r.jump 8).e→_):=(show ∀ w,Rd w b (r.jump 8).s (r.jump 8).e→_ from fun w h=>n4R b (r.jump 8) w z1 h)
  have H3:Hid (∀ w,Rd w b ((r.jump 8).skip 4).s ((r.jump 8).skip 4).e→_):=(show ∀ w,Rd w b ((r.jump 8).skip 4).s ((r.jump 8).skip 4).e→_ from fun w h=>bytesR b ((r.jump 8).skip 4) 32 w h)
  have H4:Hid (∀ w,Rd w b (((r.jump 8).skip 4).jump 32).s (((r.jump 8).skip 4).jump 32).e→_):=(show ∀ w,Rd w b (((r.jump 8).skip 4).jump 32).s (((r.jump 8).skip 4).jump 32).e→_ from fun w h=>n4R b (((r.jump 8).skip 4).jump 32) w z3 h)
  clear z1 z2 z3
  generalize (((r.jump 8).skip 4).jump 32).num 4=V4 at *
  generalize (r.jump 8).num 4=V2 at *
  cases hv:V4 == 0
  all_goals
    go_enter Tryz.func50,Tryz.ntmps50
    go_wp2_with fail
    refine (H1.out _ h).mono ?_
    rintro x w1 ⟨rfl,r1,o1⟩
    go_wp2_with fail
    refine (H2.out _ r1).mono ?_
    rintro x w2 ⟨rfl,r2,o2⟩
    go_wp2_with fail
    refine (H3.out _ r2).mono ?_
    rintro x w3 ⟨rfl,r3,o3⟩
    go_wp2_with fail
    refine (H4.out _ r3).mono ?_
    rintro x w4 ⟨rfl,r4,o4⟩
    go_wp2_with fail
    go_ret2
    exact ⟨rfl,((o1.trans o2).trans o3).trans o4⟩
def pkR (r:RS):RS:=((((r.jump 4).skip 4).skip 2).jump 6)
def pkN (r:RS):Int:=((r.jump 4).skip 4).num 2
def pkA (r:RS):List A:=actsV ((pkR r).bytes (pkN r))
def pkD (r:RS):ByteArray:=((pkR r).jump (pkN r)).all
theorem readPk_any (b:Nat) (r:RS) (w:World) (hs:r.s.size≤maxLen) (hb:b < w.heap.size) (hb4:4 < b) (hd:Ct w) (h:Rd w b r.s r.e) :
    Calls Tryz.prog 51 #[.pointer (some ⟨b,0,none⟩)] w fun x w'=>∃ a cap,x=.returned (.tuple #[.int .i64 ((r.jump 4).num 4),.slice a (pkA r).length cap,.string (pkD r)])∧TsF w.heap.size w' a (pkA r)∧Grb b w w':=by
  have z1:=Nat.le_trans (RS.jump_size r 4) hs
  have z2:=Nat.le_trans (RS.skip_size (r.jump 4) 4) z1
  have z3:=Nat.le_trans (RS.skip_size ((r.jump 4).skip 4) 2) z2
  have z4:(pkR r).s.size≤maxLen:=Nat.le_trans (RS.jump_size (((r.jump 4).skip 4).skip 2) 6) z3
  have H1:Hid (∀ w,Rd w b r.s r.e→_):=(show ∀ w,Rd w b r.s r.e→_ from fun w h=>bytesR b r 4 w h)
  have H2:Hid (∀ w,Rd w b (r.jump 4).s (r.jump 4).e→_):=(show ∀ w,Rd w b (r.jump 4).s (r.jump 4).e→_ from fun w h=>n4R b (r.jump 4) w z1 h)
  have H3:Hid (∀ w,Rd w b ((r.jump 4).skip 4).s ((r.jump 4).skip 4).e→Calls Tryz.prog 48 #[.pointer (some ⟨b,0,none⟩),.int .i64 2] w fun x w'=>x=.returned (.int .i64 (pkN r))∧Rd w' b (((r.jump 4).skip 4).skip 2).s (((r.jump 4).skip 4).skip 2).e∧Only b w w'):=(show ∀ w,Rd w b ((r.jump 4).skip 4).s ((r.jump 4).skip 4).e→_ from fun w h=>n2R b ((r.jump 4).skip 4) w z2 h)
  have H4:Hid (∀ w,Rd w b (((r.jump 4).skip 4).skip 2).s (((r.jump 4).skip 4).skip 2).e→Calls Tryz.prog 47 #[.pointer (some ⟨b,0,none⟩),.int .i64 6] w fun x w'=>x=.returned (.string ((((r.jump 4).skip 4).skip 2).bytes 6))∧Rd w' b (pkR r).s (pkR r).e∧Only b w w'):=(show ∀ w,Rd w b (((r.jump 4).skip 4).skip 2).s (((r.jump 4).skip 4).skip 2).e→_ from fun w h=>bytesR b (((r.jump 4).skip 4).skip 2) 6 w h)
  have H5:Hid (∀ w1,Only b w w1→Rd w1 b (pkR r).s (pkR r).e→Calls Tryz.prog 84 #[.pointer (some ⟨b,0,none⟩),.int .i64 (pkN r)] w1 fun x w'=>∃ a cap,x=.returned (.slice a (pkA r).length cap)∧Hid (TsF w.heap.size w' a (pkA r))∧Rd w' b ((pkR r).jump (pkN r)).s ((pkR r).jump (pkN r)).e∧Grb b w w'):=(show ∀ w1,_ from fun w1 o h=>(wreadA_any b (pkR r) (pkN r) w1 z4 (by rw [o.size];exact hb) hb4 ((Grb.only o).cd hd hb4) h).mono fun _ _ ⟨a,c,h1,h2,h3,h4⟩=>⟨a,c,h1,(show TsF _ _ _ _ from o.size ▸ h2),h3,(Grb.only o).trans h4⟩)
  have H6:Hid (∀ w1,Rd w1 b ((pkR r).jump (pkN r)).s ((pkR r).jump (pkN r)).e→Calls Tryz.prog 49 #[.pointer (some ⟨b,0,none⟩)] w1 fun x w'=>x=.returned (.string (pkD r))∧Only b w1 w'):=(show ∀ w1,_ from fun w1 h=>(restAll b ((pkR r).jump (pkN r)) w1 h).mono fun _ _ ⟨h1,_,h3⟩=>⟨h1,h3⟩)
  have HT:Hid (∀ w1 w2 a,TsF w.heap.size w1 a (pkA r)→Only b w1 w2→TsF w.heap.size w2 a (pkA r)):=(show ∀ w1 w2 a,_ from fun w1 w2 a t o=>t.keep (Nat.le_of_eq o.size.symm) (fun g hg _=>o.block g (by omega)))
  clear z1 z2 z3 z4 hd
  generalize pkA r=L at *
  generalize pkD r=D at *
  generalize pkN r=N at *
  generalize pkR r=R at *
  go_enter Tryz.func51,Tryz.ntmps51
  go_wp2_with fail
  refine (H1.out _ h).mono ?_
  rintro x w1 ⟨rfl,r1,o1⟩
  go_wp2_with fail
  refine (H2.out _ r1).mono ?_
  rintro x w2 ⟨rfl,r2,o2⟩
  go_wp2_with fail
  refine (H3.out _ r2).mono ?_
  rintro x w3 ⟨rfl,r3,o3⟩
  go_wp2_with fail
  refine (H4.out _ r3).mono ?_
  rintro x w4 ⟨rfl,r4,o4⟩
  have O4:=((o1.trans o2).trans o3).trans o4
  go_wp2_with fail
  refine (H5.out _ O4 r4).mono ?_
  rintro x w5 ⟨a,cap,rfl,T5,r5,g5⟩
  go_wp2_with fail
  refine (H6.out _ r5).mono ?_
  rintro x w6 ⟨rfl,o6⟩
  have T6:=HT.out _ _ _ T5.out o6
  go_wp2_with fail
  go_ret3
  exact ⟨a,cap,rfl,T6,g5.trans (Grb.only o6)⟩
structure Q3 (w:World) (c:Nat) (x y z:Value):Prop where
 c0:w.cell? ⟨c,0,none⟩=some x
 c1:w.cell? ⟨c,1,none⟩=some y
 c2:w.cell? ⟨c,2,none⟩=some z
 f:∀ i,w.frozen? ⟨c,i,none⟩=false
theorem Q3.block {w w':World} {c:Nat} {x y z:Value} (h:Q3 w c x y z) (g:w'.heap[c]? = w.heap[c]?):Q3 w' c x y z :=
 ⟨(World.cell?_of_block (w:=w) g).trans h.c0,(World.cell?_of_block (w:=w) g).trans h.c1,(World.cell?_of_block (w:=w) g).trans h.c2,fun i=>(World.frozen?_of_block (w:=w) g).trans (h.f i)⟩
theorem Q3.new (w:World) (x y z:Value) (t:TypeId):Q3 (w.alloc (.cells #[x,y,z] t)) w.heap.size x y z:=⟨by simp,by simp,by simp,by simp⟩
theorem Q3.set {w:World} {c:Nat} {x y z:Value} (h:Q3 w c x y z) (u v:Value):Q3 ((w.setCell ⟨c,1,none⟩ u).setCell ⟨c,2,none⟩ v) c x u v:=by
 obtain ⟨c0,c1,c2,f⟩:=h
 have e1:(w.setCell ⟨c,1,none⟩ u).cell? ⟨c,2,none⟩=some z:=(World.cell?_setCell_other _ _ _ _ (by simp)).trans c2
 exact ⟨(World.cell?_setCell_other _ _ _ _ (by simp)).trans ((World.cell?_setCell_other _ _ _ _ (by simp)).trans c0),(World.cell?_setCell_other _ _ _ _ (by simp)).trans (World.cell?_setCell_same _ _ _ c1),World.cell?_setCell_same _ _ _ e1,fun i=>by simp [f]⟩
theorem Q3.there {w:World} {c:Nat} {x y z:Value} (h:Q3 w c x y z):w.there c 0 3:=fun j hj=>by
 refine ⟨?_,h.f _⟩
 match j,hj with
 | 0,_=>simp [h.c0]
 | 1,_=>simp [h.c1]
 | 2,_=>simp [h.c2]
theorem Q3.all {w:World} {c:Nat} {x y z:Value} (h:Q3 w c x y z) (u v t:Value):Q3 (w.setCells c 0 [u,v,t]) c u v t:=by
 have r:=World.rangeAt_setCells_same w c 0 [u,v,t] h.there
 exact ⟨r 0 _ rfl,r 1 _ rfl,r 2 _ rfl,fun i=>by rw [World.frozen?_setCells];exact h.f i⟩
theorem Grb.set {b c:Nat} {x y:World} (h:Grb b x y) (hc:x.heap.size≤c) (o:Nat) (v:Value):Grb b x (y.setCell ⟨c,o,none⟩ v) :=
 h.onlyNew ((Only.refl c y).setCell o v) hc
theorem Grb.sets {b c:Nat} {x y:World} (h:Grb b x y) (hc:x.heap.size≤c) (o:Nat) (vs:List Value):Grb b x (y.setCells c o vs) :=
 h.onlyNew (only_cells c vs o y y (Only.refl c y)) hc
theorem Grb.alloc {b:Nat} {x y:World} (h:Grb b x y) (o:Obj):Grb b x (y.alloc o):=h.trans (Grb.ofBelow (by go_grown))
theorem Grb.drew {b:Nat} {x y:World} (h:Grb b x y):Grb b x y.drew:=⟨h.os,h.tape,h.output,h.size,h.block⟩
def mtR (r:RS):RS:=(((r.skip 2).jump 2).skip 4).jump 4
def mtV (r:RS):Int × Int × Int × Int:=(r.num 2,((r.skip 2).jump 2).num 4,(mtR r).num 4,((mtR r).skip 4).num 4)
theorem resTm {fn:Func} {t u:Tmp} (h:fn.results=#[.tmp u,.cell t 31]) {tmps:Array Value} {w:World} {b:Nat} {x y z:Int} (ht:tmps.getD t undef=.pointer (some ⟨b,0,none⟩)) (hs:Q3 w b (.int .i64 x) (.int .i64 y) (.int .i64 z)) :
    (results fn tmps).run Tryz.prog w=.ok (.tuple #[tmps.getD u undef,.agg #[.int .i64 x,.int .i64 y,.int .i64 z]]) w:=by
  have ht':tmps[t]?.getD undef=.pointer (some ⟨b,0,none⟩):=by simpa using ht
  have hl:(loadVar 31 ⟨b,0,none⟩).run Tryz.prog w=.ok (.agg #[.int .i64 x,.int .i64 y,.int .i64 z]) w:=by
    obtain ⟨c0,c1,c2,_⟩:=hs
    simp [go_sem, *]
  simp [results,h,ht',asAddr,hl]
theorem readMt_any (b:Nat) (r:RS) (w:World) (hs:r.s.size≤maxLen) (hb:b < w.heap.size) (h:Rd w b r.s r.e) :
    Calls Tryz.prog 54 #[.pointer (some ⟨b,0,none⟩)] w fun x w'=>x=.returned (.tuple #[.int .i64 (mtV r).1,.agg #[.int .i64 (mtV r).2.1,.int .i64 (mtV r).2.2.1,.int .i64 (mtV r).2.2.2]])∧Grb b w w':=by
  have z1:=Nat.le_trans (RS.skip_size r 2) hs
  have z2:=Nat.le_trans (RS.jump_size (r.skip 2) 2) z1
  have z3:=Nat.le_trans (RS.skip_size ((r.skip 2).jump 2) 4) z2
  have z4:(mtR r).s.size≤maxLen:=Nat.le_trans (RS.jump_size (((r.skip 2).jump 2).skip 4) 4) z3
  have z5:=Nat.le_trans (RS.skip_size (mtR r) 4) z4
  have H1:Hid (∀ w,Rd w b r.s r.e→_):=(show ∀ w,Rd w b r.s r.e→_ from fun w h=>n2R b r w hs h)
  have H2:Hid (∀ w,Rd w b (r.skip 2).s (r.skip 2).e→_):=(show ∀ w,Rd w b (r.skip 2).s (r.skip 2).e→_ from fun w h=>bytesR b (r.skip 2) 2 w h)
  have H3:Hid (∀ w,Rd w b ((r.skip 2).jump 2).s ((r.skip 2).jump 2).e→_):=(show ∀ w,Rd w b ((r.skip 2).jump 2).s ((r.skip 2).jump 2).e→_ from fun w h=>n4R b ((r.skip 2).jump 2) w z2 h)
  have H4:Hid (∀ w,Rd w b (((r.skip 2).jump 2).skip 4).s (((r.skip 2).jump 2).skip 4).e→Calls Tryz.prog 47 #[.pointer (some ⟨b,0,none⟩),.int .i64 4] w fun x w'=>x=.returned (.string ((((r.skip 2).jump 2).skip 4).bytes 4))∧Rd w' b (mtR r).s (mtR r).e∧Only b w w'):=(show ∀ w,Rd w b (((r.skip 2).jump 2).skip 4).s (((r.skip 2).jump 2).skip 4).e→_ from fun w h=>bytesR b (((r.skip 2).jump 2).skip 4) 4 w h)
  have H5:Hid (∀ w,Rd w b (mtR r).s (mtR r).e→_):=(show ∀ w,Rd w b (mtR r).s (mtR r).e→_ from fun w h=>n4R b (mtR r) w z4 h)
  have H6:Hid (∀ w,Rd w b ((mtR r).skip 4).s ((mtR r).skip 4).e→_):=(show ∀ w,Rd w b ((mtR r).skip 4).s ((mtR r).skip 4).e→_ from fun w h=>n4R b ((mtR r).skip 4) w z5 h)
  clear z1 z2 z3 z4 z5
  have HV:Hid (mtV r=(r.num 2,((r.skip 2).jump 2).num 4,(mtR r).num 4,((mtR r).skip 4).num 4)):=(show _=_ from rfl)
  rw [HV.out]
  clear HV
  have q0:=Q3.new w (.int .i64 0) (.int .i64 0) (.int .i64 0) 31
  have h0:Rd (w.alloc (.cells #[.int .i64 0,.int .i64 0,.int .i64 0] 31)) b r.s r.e:=h.below hb (by go_grown)
  have g0:Grb b w (w.alloc (.cells #[.int .i64 0,.int .i64 0,.int .i64 0] 31)):=(Grb.refl b w).alloc _
  have n0:w.heap.size≠b:=by omega
  have s0:(w.alloc (.cells #[.int .i64 0,.int .i64 0,.int .i64 0] 31)).heap.size=w.heap.size + 1:=by simp
  generalize (r.num 2)=V1 at *
  generalize ((r.skip 2).jump 2).num 4=V2 at *
  generalize ((mtR r).skip 4).num 4=V4 at *
  generalize (mtR r).num 4=V3 at *
  obtain ⟨W0,hW0⟩:∃ W0,w.alloc (.cells #[.int .i64 0,.int .i64 0,.int .i64 0] 31)=W0:=⟨_,rfl⟩
  rw [hW0] at q0 h0 g0 s0
  have HW0:Hid (w.alloc (.cells #[.int .i64 0,.int .i64 0,.int .i64 0] 31)=W0):=hW0
  clear hW0
  go_enter Tryz.func54,Tryz.ntmps54
  go_wp2_with fail
  rw [HW0.out]
  refine (H1.out _ h0).mono ?_
  rintro x w1 ⟨rfl,r1,o1⟩
  go_wp2_with fail
  refine (H2.out _ r1).mono ?_
  rintro x w2 ⟨rfl,r2,o2⟩
  go_wp2_with fail
  refine (H3.out _ r2).mono ?_
  rintro x w3 ⟨rfl,r3,o3⟩
  have O3:=(o1.trans o2).trans o3
  have q3:Q3 w3 w.heap.size (.int .i64 0) (.int .i64 0) (.int .i64 0):=q0.block (O3.block _ n0)
  have g3:=g0.trans (Grb.only O3)
  have s3:w3.heap.size=w.heap.size + 1:=O3.size.trans s0
  have p3:=Q3.new w3 (.int .i64 V2) (.int .i64 0) (.int .i64 0) 31
  rw [s3] at p3
  have q3':Q3 (w3.alloc (.cells #[.int .i64 V2,.int .i64 0,.int .i64 0] 31)) w.heap.size (.int .i64 0) (.int .i64 0) (.int .i64 0):=q3.block (heap_alloc_old _ _ (by omega))
  have g3':Grb b w (w3.alloc (.cells #[.int .i64 V2,.int .i64 0,.int .i64 0] 31)):=g3.alloc _
  have r3':Rd (w3.alloc (.cells #[.int .i64 V2,.int .i64 0,.int .i64 0] 31)) b (((r.skip 2).jump 2).skip 4).s (((r.skip 2).jump 2).skip 4).e:=r3.below (by omega) (by go_grown)
  obtain ⟨W3,hW3⟩:∃ W3,w3.alloc (.cells #[.int .i64 V2,.int .i64 0,.int .i64 0] 31)=W3:=⟨_,rfl⟩
  rw [hW3] at p3 q3' g3' r3'
  have HW3:Hid (w3.alloc (.cells #[.int .i64 V2,.int .i64 0,.int .i64 0] 31)=W3):=hW3
  clear hW3 o1 o2 o3 O3 q0 h0 g0 s0 q3 g3 r1 r2 r3
  go_wp2_with fail
  rw [HW3.out]
  refine (H4.out _ r3').mono ?_
  rintro x w4 ⟨rfl,r4,o4⟩
  go_wp2_with fail
  refine (H5.out _ r4).mono ?_
  rintro x w5 ⟨rfl,r5,o5⟩
  go_wp2_with fail
  refine (H6.out _ r5).mono ?_
  rintro x w6 ⟨rfl,r6,o6⟩
  have O6:=(o4.trans o5).trans o6
  have n1:w.heap.size + 1≠b:=by omega
  have p6:=p3.block (O6.block _ n1)
  have q6:=q3'.block (O6.block _ n0)
  have g6:=g3'.trans (Grb.only O6)
  clear o4 o5 o6 O6 r4 r5 r6 p3 q3' g3' r3'
  have p7:=p6.set (.int .i64 V3) (.int .i64 V4)
  have q7:Q3 ((w6.setCell ⟨w.heap.size + 1,1,none⟩ (.int .i64 V3)).setCell ⟨w.heap.size + 1,2,none⟩ (.int .i64 V4)) w.heap.size (.int .i64 0) (.int .i64 0) (.int .i64 0):=q6.block ((Below.heap_setCell _ _ _ _ (show w.heap.size≠w.heap.size + 1 by omega)).trans (Below.heap_setCell _ _ _ _ (show w.heap.size≠w.heap.size + 1 by omega)))
  have g7:Grb b w ((w6.setCell ⟨w.heap.size + 1,1,none⟩ (.int .i64 V3)).setCell ⟨w.heap.size + 1,2,none⟩ (.int .i64 V4)):=(g6.set (by omega) _ _).set (by omega) _ _
  obtain ⟨W7,hW7⟩:∃ W7,(w6.setCell ⟨w.heap.size + 1,1,none⟩ (.int .i64 V3)).setCell ⟨w.heap.size + 1,2,none⟩ (.int .i64 V4)=W7:=⟨_,rfl⟩
  rw [hW7] at p7 q7 g7
  have HW7:Hid ((w6.setCell ⟨w.heap.size + 1,1,none⟩ (.int .i64 V3)).setCell ⟨w.heap.size + 1,2,none⟩ (.int .i64 V4)=W7):=hW7
  obtain ⟨c0,c1,c2,cf⟩:=p6
  clear hW7 q6 g6
  go_wp2_with fail
  rw [HW7.out]
  clear c0 c1 c2 cf
  have HF:Hid (Q3 (W7.setCells w.heap.size 0 [.int .i64 V2,.int .i64 V3,.int .i64 V4]).drew w.heap.size (.int .i64 V2) (.int .i64 V3) (.int .i64 V4)):=(q7.all _ _ _).block rfl
  have HK:Hid (Grb b w (W7.setCells w.heap.size 0 [.int .i64 V2,.int .i64 V3,.int .i64 V4]).drew):=(show Grb _ _ _ from (g7.sets (Nat.le_refl _) _ _).drew)
  obtain ⟨W8,hW8⟩:∃ W8,(W7.setCells w.heap.size 0 [.int .i64 V2,.int .i64 V3,.int .i64 V4]).drew=W8:=⟨_,rfl⟩
  rw [hW8] at HF HK
  have HW8:Hid ((((W7.setCell ⟨w.heap.size,0,none⟩ (.int .i64 V2)).setCell ⟨w.heap.size,1,none⟩ (.int .i64 V3)).setCell ⟨w.heap.size,2,none⟩ (.int .i64 V4)).drew=W8):=hW8
  clear hW8
  obtain ⟨c0,c1,c2,cf⟩:=p7
  obtain ⟨d0,d1,d2,df⟩:=q7
  go_region
  rw [HW8.out]
  clear c0 c1 c2 cf d0 d1 d2 df
  go_wp2_with fail
  refine bodyPost_ret (resTm (b:=w.heap.size) rfl rfl HF.out) rfl ?_
  exact ⟨rfl,HK.out⟩
def bkR (r:RS):RS:=(((r.skip 2).skip 2).skip 4).jump 8
def wat' (n:Int):Int:=if n=4294967295 then 0 else n
def bkOfR (r:RS):B3:=(wat' (((r.skip 2).skip 2).num 4),(r.skip 2).num 2,actsV ((bkR r).bytes (r.num 2 - 16)))
def bkRest (r:RS):RS:=(bkR r).jump (r.num 2 - 16)
theorem resBk {fn:Func} {t:Tmp} (h:fn.results=#[.cell t 53]) {tmps:Array Value} {w:World} {b:Nat} {k:Bk} (ht:tmps.getD t undef=.pointer (some ⟨b,0,none⟩)) (hs:Q3 w b (.int .i64 k.wa) (.int .i64 k.we) (.slice k.a k.l.length k.c)) :
    (results fn tmps).run Tryz.prog w=.ok (bkV k) w:=by
  have ht':tmps[t]?.getD undef=.pointer (some ⟨b,0,none⟩):=by simpa using ht
  have hl:(loadVar 53 ⟨b,0,none⟩).run Tryz.prog w=.ok (bkV k) w:=by
    obtain ⟨c0,c1,c2,_⟩:=hs
    simp [go_sem, *]
  simp [results,h,ht',asAddr,hl]
theorem Q3.set0 {w:World} {c:Nat} {x y z:Value} (h:Q3 w c x y z) (u:Value):Q3 (w.setCell ⟨c,0,none⟩ u) c u y z:=by
 obtain ⟨c0,c1,c2,f⟩:=h
 exact ⟨World.cell?_setCell_same _ _ _ c0,(World.cell?_setCell_other _ _ _ _ (by simp)).trans c1,(World.cell?_setCell_other _ _ _ _ (by simp)).trans c2,fun i=>by simp [f]⟩
theorem Q3.set2 {w:World} {c:Nat} {x y z:Value} (h:Q3 w c x y z) (u:Value):Q3 (w.setCell ⟨c,2,none⟩ u) c x y u:=by
 obtain ⟨c0,c1,c2,f⟩:=h
 exact ⟨(World.cell?_setCell_other _ _ _ _ (by simp)).trans c0,(World.cell?_setCell_other _ _ _ _ (by simp)).trans c1,World.cell?_setCell_same _ _ _ c2,fun i=>by simp [f]⟩
theorem readBk_any (b:Nat) (r:RS) (w:World) (hs:r.s.size≤maxLen) (hb:b < w.heap.size) (hb4:4 < b) (hd:Ct w) (h:Rd w b r.s r.e) :
    Calls Tryz.prog 87 #[.pointer (some ⟨b,0,none⟩)] w fun x w'=>∃ k:Bk,x=.returned (bkV k)∧k.b3=bkOfR r∧TsF w.heap.size w' k.a k.l∧Rd w' b (bkRest r).s (bkRest r).e∧Grb b w w':=by
  have z1:=Nat.le_trans (RS.skip_size r 2) hs
  have z2:=Nat.le_trans (RS.skip_size (r.skip 2) 2) z1
  have z3:=Nat.le_trans (RS.skip_size ((r.skip 2).skip 2) 4) z2
  have z4:(bkR r).s.size≤maxLen:=Nat.le_trans (RS.jump_size (((r.skip 2).skip 2).skip 4) 8) z3
  have y1:0≤r.num 2∧r.num 2 < 65536:=by simpa using RS.num_lt r 2 (by omega)
  have H1:Hid (∀ w,Rd w b r.s r.e→_):=(show ∀ w,Rd w b r.s r.e→_ from fun w h=>n2R b r w hs h)
  have H2:Hid (∀ w,Rd w b (r.skip 2).s (r.skip 2).e→_):=(show ∀ w,Rd w b (r.skip 2).s (r.skip 2).e→_ from fun w h=>n2R b (r.skip 2) w z1 h)
  have H3:Hid (∀ w,Rd w b ((r.skip 2).skip 2).s ((r.skip 2).skip 2).e→_):=(show ∀ w,Rd w b ((r.skip 2).skip 2).s ((r.skip 2).skip 2).e→_ from fun w h=>n4R b ((r.skip 2).skip 2) w z2 h)
  have H4:Hid (∀ w,Rd w b (((r.skip 2).skip 2).skip 4).s (((r.skip 2).skip 2).skip 4).e→Calls Tryz.prog 47 #[.pointer (some ⟨b,0,none⟩),.int .i64 8] w fun x w'=>x=.returned (.string ((((r.skip 2).skip 2).skip 4).bytes 8))∧Rd w' b (bkR r).s (bkR r).e∧Only b w w'):=(show ∀ w,Rd w b (((r.skip 2).skip 2).skip 4).s (((r.skip 2).skip 2).skip 4).e→_ from fun w h=>bytesR b (((r.skip 2).skip 2).skip 4) 8 w h)
  have H5:Hid (∀ w1,Grb b w w1→Rd w1 b (bkR r).s (bkR r).e→Calls Tryz.prog 84 #[.pointer (some ⟨b,0,none⟩),.int .i64 (r.num 2 - 16)] w1 fun x w'=>∃ a cap,x=.returned (.slice a (actsV ((bkR r).bytes (r.num 2 - 16))).length cap)∧Hid (TsF w1.heap.size w' a (actsV ((bkR r).bytes (r.num 2 - 16))))∧Rd w' b (bkRest r).s (bkRest r).e∧Grb b w1 w'):=(show ∀ w1,_ from fun w1 g h=>(wreadA_any b (bkR r) (r.num 2 - 16) w1 z4 (Nat.lt_of_lt_of_le hb g.size) hb4 (g.cd hd hb4) h).mono fun _ _ ⟨a,c,h1,h2,h3,h4⟩=>⟨a,c,h1,(show TsF _ _ _ _ from h2),h3,h4⟩)
  have HV:Hid (bkOfR r=(wat' (((r.skip 2).skip 2).num 4),(r.skip 2).num 2,actsV ((bkR r).bytes (r.num 2 - 16)))):=(show _=_ from rfl)
  rw [HV.out]
  clear z1 z2 z3 z4 HV hd
  generalize actsV ((bkR r).bytes (r.num 2 - 16))=L at *
  generalize ((r.skip 2).skip 2).num 4=V3 at *
  generalize (r.skip 2).num 2=V2 at *
  generalize r.num 2=V1 at *
  obtain ⟨y10,y11⟩:=y1
  obtain ⟨V4,hV4⟩:∃ V4,wat' V3=V4:=⟨_,rfl⟩
  rw [hV4]
  have q0:=Q3.new w (.int .i64 0) (.int .i64 0) (.slice none 0 0) 53
  have h0:Rd (w.alloc (.cells #[.int .i64 0,.int .i64 0,.slice none 0 0] 53)) b r.s r.e:=h.below hb (by go_grown)
  have g0:Grb b w (w.alloc (.cells #[.int .i64 0,.int .i64 0,.slice none 0 0] 53)):=(Grb.refl b w).alloc _
  have n0:w.heap.size≠b:=by omega
  have n1:w.heap.size + 1≠b:=by omega
  have s0:(w.alloc (.cells #[.int .i64 0,.int .i64 0,.slice none 0 0] 53)).heap.size=w.heap.size + 1:=by simp
  obtain ⟨W0,hW0⟩:∃ W0,w.alloc (.cells #[.int .i64 0,.int .i64 0,.slice none 0 0] 53)=W0:=⟨_,rfl⟩
  rw [hW0] at q0 h0 g0 s0
  have HW0:Hid (w.alloc (.cells #[.int .i64 0,.int .i64 0,.slice none 0 0] 53)=W0):=hW0
  clear hW0
  have HK:Hid (wat' V3=V4):=hV4
  clear hV4
  by_cases c3:V3=4294967295
  · have c3':(V3 == 4294967295)=true:=by simpa using c3
    have e4:V4=0:=by rw [← HK.out];unfold wat';rw [if_pos c3]
    subst e4
    clear c3
    go_enter Tryz.func87,Tryz.ntmps87
    go_wp2_with fail
    rw [HW0.out]
    refine (H1.out _ h0).mono ?_
    rintro x w1 ⟨rfl,r1,o1⟩
    go_wp2_with fail
    refine (H2.out _ r1).mono ?_
    rintro x w2 ⟨rfl,r2,o2⟩
    go_wp2_with fail
    refine (H3.out _ r2).mono ?_
    rintro x w3 ⟨rfl,r3,o3⟩
    have O3:=(o1.trans o2).trans o3
    have s3:w3.heap.size=w.heap.size + 1:=O3.size.trans s0
    have q3:=(q0.block (O3.block _ n0)).block (heap_alloc_old w3 (.cells #[.int .i64 0,.int .i64 V2,.slice none 0 0] 53) (by omega))
    have g3:=(g0.trans (Grb.only O3)).alloc (.cells #[.int .i64 0,.int .i64 V2,.slice none 0 0] 53)
    have p3:=Q3.new w3 (.int .i64 0) (.int .i64 V2) (.slice none 0 0) 53
    have r3':=r3.below (by omega) (show Below w3.heap.size w3 (w3.alloc (.cells #[.int .i64 0,.int .i64 V2,.slice none 0 0] 53)) by go_grown)
    rw [s3] at p3
    have s3':(w3.alloc (.cells #[.int .i64 0,.int .i64 V2,.slice none 0 0] 53)).heap.size=w.heap.size + 2:=by simp;omega
    obtain ⟨W3,hW3⟩:∃ W3,w3.alloc (.cells #[.int .i64 0,.int .i64 V2,.slice none 0 0] 53)=W3:=⟨_,rfl⟩
    rw [hW3] at q3 g3 p3 r3' s3'
    have HW3:Hid (w3.alloc (.cells #[.int .i64 0,.int .i64 V2,.slice none 0 0] 53)=W3):=hW3
    clear o1 o2 o3 O3 q0 h0 g0 s0 r1 r2 r3 hW3
    go_wp2_with fail
    rw [HW3.out]
    refine (H4.out _ r3').mono ?_
    rintro x w4 ⟨rfl,r4,o4⟩
    have g4:=g3.trans (Grb.only o4)
    have s4:w4.heap.size=w.heap.size + 2:=o4.size.trans s3'
    go_wp2_with fail
    refine (H5.out _ g4 r4).mono ?_
    rintro x w5 ⟨a,cap,rfl,T5,r5,g5⟩
    have p5:=(p3.block (o4.block _ n1)).block (g5.block _ (by omega) n1)
    have q5:=(q3.block (o4.block _ n0)).block (g5.block _ (by omega) n0)
    have K5:=g4.trans g5
    have HT:Hid (TsF (w.heap.size + 2) w5 a L):=(show TsF _ _ _ _ from s4 ▸ T5.out)
    have HR5:Hid (Rd w5 b (bkRest r).s (bkRest r).e):=r5
    clear p3 q3 g3 r3' s3' o4 g4 g5 T5 r4 r5 s4
    have q6:Q3 (w5.setCell ⟨w.heap.size + 1,2,none⟩ (.slice a L.length cap)) w.heap.size (.int .i64 0) (.int .i64 0) (.slice none 0 0):=q5.block (Below.heap_setCell _ _ _ _ (show w.heap.size≠w.heap.size + 1 by omega))
    have HO:Hid (∀ g,w.heap.size + 2≤g→((w5.setCell ⟨w.heap.size + 1,2,none⟩ (.slice a L.length cap)).setCells w.heap.size 0 [.int .i64 0,.int .i64 V2,.slice a L.length cap]).heap[g]? = w5.heap[g]?):=(show ∀ g,_ from fun g hg=>(((only_cells w.heap.size [.int .i64 0,.int .i64 V2,.slice a L.length cap] 0 _ _ (Only.refl _ _))).block g (by omega)).trans (Below.heap_setCell _ _ _ _ (show g≠w.heap.size + 1 by omega)))
    have HOb:Hid (((w5.setCell ⟨w.heap.size + 1,2,none⟩ (.slice a L.length cap)).setCells w.heap.size 0 [.int .i64 0,.int .i64 V2,.slice a L.length cap]).heap[b]? = w5.heap[b]?):=(show _=_ from (((only_cells w.heap.size [.int .i64 0,.int .i64 V2,.slice a L.length cap] 0 _ _ (Only.refl _ _))).block b (by omega)).trans (Below.heap_setCell _ _ _ _ (show b≠w.heap.size + 1 by omega)))
    have HF:Hid (Q3 ((w5.setCell ⟨w.heap.size + 1,2,none⟩ (.slice a L.length cap)).setCells w.heap.size 0 [.int .i64 0,.int .i64 V2,.slice a L.length cap]) w.heap.size (.int .i64 0) (.int .i64 V2) (.slice a L.length cap)):=q6.all _ _ _
    have HG:Hid (Grb b w ((w5.setCell ⟨w.heap.size + 1,2,none⟩ (.slice a L.length cap)).setCells w.heap.size 0 [.int .i64 0,.int .i64 V2,.slice a L.length cap])):=(show Grb _ _ _ from (K5.set (by omega) _ _).sets (Nat.le_refl _) _ _)
    have HZ:Hid (w5.heap.size≤((w5.setCell ⟨w.heap.size + 1,2,none⟩ (.slice a L.length cap)).setCells w.heap.size 0 [.int .i64 0,.int .i64 V2,.slice a L.length cap]).heap.size):=(show _≤_ from Nat.le_of_eq (((only_cells w.heap.size [.int .i64 0,.int .i64 V2,.slice a L.length cap] 0 _ _ (Only.refl _ _))).size.trans ((Only.refl (w.heap.size + 1) w5).setCell 2 _).size).symm)
    clear q6 K5
    obtain ⟨c0,c1,c2,cf⟩:=p5
    obtain ⟨d0,d1,d2,df⟩:=q5
    obtain ⟨W8,hW8⟩:∃ W8,(w5.setCell ⟨w.heap.size + 1,2,none⟩ (.slice a L.length cap)).setCells w.heap.size 0 [.int .i64 0,.int .i64 V2,.slice a L.length cap]=W8:=⟨_,rfl⟩
    rw [hW8] at HO HOb HF HG HZ
    have HW8:Hid ((((w5.setCell ⟨w.heap.size + 1,2,none⟩ (.slice a L.length cap)).setCell ⟨w.heap.size,0,none⟩ (.int .i64 0)).setCell ⟨w.heap.size,1,none⟩ (.int .i64 V2)).setCell ⟨w.heap.size,2,none⟩ (.slice a L.length cap)=W8):=hW8
    clear hW8
    go_wp2_with fail
    rw [HW8.out]
    clear c0 c1 c2 cf d0 d1 d2 df
    refine bodyPost_ret (resBk (b:=w.heap.size) (k:=⟨0,V2,a,L,cap⟩) rfl rfl HF.out) rfl ?_
    exact ⟨⟨0,V2,a,L,cap⟩,rfl,rfl,(HT.out.keep HZ.out (fun g hg _=>HO.out g hg)).mono (by omega),⟨(World.cell?_of_block HOb.out).trans HR5.out.c0,(World.cell?_of_block HOb.out).trans HR5.out.c1,(World.frozen?_of_block HOb.out).trans HR5.out.f0,(World.frozen?_of_block HOb.out).trans HR5.out.f1⟩,HG.out⟩
  · have c3':(V3 == 4294967295)=false:=by simpa using c3
    have e4:V4=V3:=by rw [← HK.out];unfold wat';rw [if_neg c3]
    subst e4
    clear c3 HK
    go_enter Tryz.func87,Tryz.ntmps87
    go_wp2_with fail
    rw [HW0.out]
    refine (H1.out _ h0).mono ?_
    rintro x w1 ⟨rfl,r1,o1⟩
    go_wp2_with fail
    refine (H2.out _ r1).mono ?_
    rintro x w2 ⟨rfl,r2,o2⟩
    go_wp2_with fail
    refine (H3.out _ r2).mono ?_
    rintro x w3 ⟨rfl,r3,o3⟩
    have O3:=(o1.trans o2).trans o3
    have s3:w3.heap.size=w.heap.size + 1:=O3.size.trans s0
    have q3:=(q0.block (O3.block _ n0)).block (heap_alloc_old w3 (.cells #[.int .i64 V4,.int .i64 V2,.slice none 0 0] 53) (by omega))
    have g3:=(g0.trans (Grb.only O3)).alloc (.cells #[.int .i64 V4,.int .i64 V2,.slice none 0 0] 53)
    have p3:=Q3.new w3 (.int .i64 V4) (.int .i64 V2) (.slice none 0 0) 53
    have r3':=r3.below (by omega) (show Below w3.heap.size w3 (w3.alloc (.cells #[.int .i64 V4,.int .i64 V2,.slice none 0 0] 53)) by go_grown)
    rw [s3] at p3
    have s3':(w3.alloc (.cells #[.int .i64 V4,.int .i64 V2,.slice none 0 0] 53)).heap.size=w.heap.size + 2:=by simp;omega
    obtain ⟨W3,hW3⟩:∃ W3,w3.alloc (.cells #[.int .i64 V4,.int .i64 V2,.slice none 0 0] 53)=W3:=⟨_,rfl⟩
    rw [hW3] at q3 g3 p3 r3' s3'
    have HW3:Hid (w3.alloc (.cells #[.int .i64 V4,.int .i64 V2,.slice none 0 0] 53)=W3):=hW3
    clear o1 o2 o3 O3 q0 h0 g0 s0 r1 r2 r3 hW3
    go_wp2_with fail
    rw [HW3.out]
    refine (H4.out _ r3').mono ?_
    rintro x w4 ⟨rfl,r4,o4⟩
    have g4:=g3.trans (Grb.only o4)
    have s4:w4.heap.size=w.heap.size + 2:=o4.size.trans s3'
    go_wp2_with fail
    refine (H5.out _ g4 r4).mono ?_
    rintro x w5 ⟨a,cap,rfl,T5,r5,g5⟩
    have p5:=(p3.block (o4.block _ n1)).block (g5.block _ (by omega) n1)
    have q5:=(q3.block (o4.block _ n0)).block (g5.block _ (by omega) n0)
    have K5:=g4.trans g5
    have HT:Hid (TsF (w.heap.size + 2) w5 a L):=(show TsF _ _ _ _ from s4 ▸ T5.out)
    have HR5:Hid (Rd w5 b (bkRest r).s (bkRest r).e):=r5
    clear p3 q3 g3 r3' s3' o4 g4 g5 T5 r4 r5 s4
    have q6:Q3 (w5.setCell ⟨w.heap.size + 1,2,none⟩ (.slice a L.length cap)) w.heap.size (.int .i64 0) (.int .i64 0) (.slice none 0 0):=q5.block (Below.heap_setCell _ _ _ _ (show w.heap.size≠w.heap.size + 1 by omega))
    have HO:Hid (∀ g,w.heap.size + 2≤g→((w5.setCell ⟨w.heap.size + 1,2,none⟩ (.slice a L.length cap)).setCells w.heap.size 0 [.int .i64 V4,.int .i64 V2,.slice a L.length cap]).heap[g]? = w5.heap[g]?):=(show ∀ g,_ from fun g hg=>(((only_cells w.heap.size [.int .i64 V4,.int .i64 V2,.slice a L.length cap] 0 _ _ (Only.refl _ _))).block g (by omega)).trans (Below.heap_setCell _ _ _ _ (show g≠w.heap.size + 1 by omega)))
    have HOb:Hid (((w5.setCell ⟨w.heap.size + 1,2,none⟩ (.slice a L.length cap)).setCells w.heap.size 0 [.int .i64 V4,.int .i64 V2,.slice a L.length cap]).heap[b]? = w5.heap[b]?):=(show _=_ from (((only_cells w.heap.size [.int .i64 V4,.int .i64 V2,.slice a L.length cap] 0 _ _ (Only.refl _ _))).block b (by omega)).trans (Below.heap_setCell _ _ _ _ (show b≠w.heap.size + 1 by omega)))
    have HF:Hid (Q3 ((w5.setCell ⟨w.heap.size + 1,2,none⟩ (.slice a L.length cap)).setCells w.heap.size 0 [.int .i64 V4,.int .i64 V2,.slice a L.length cap]) w.heap.size (.int .i64 V4) (.int .i64 V2) (.slice a L.length cap)):=q6.all _ _ _
    have HG:Hid (Grb b w ((w5.setCell ⟨w.heap.size + 1,2,none⟩ (.slice a L.length cap)).setCells w.heap.size 0 [.int .i64 V4,.int .i64 V2,.slice a L.length cap])):=(show Grb _ _ _ from (K5.set (by omega) _ _).sets (Nat.le_refl _) _ _)
    have HZ:Hid (w5.heap.size≤((w5.setCell ⟨w.heap.size + 1,2,none⟩ (.slice a L.length cap)).setCells w.heap.size 0 [.int .i64 V4,.int .i64 V2,.slice a L.length cap]).heap.size):=(show _≤_ from Nat.le_of_eq (((only_cells w.heap.size [.int .i64 V4,.int .i64 V2,.slice a L.length cap] 0 _ _ (Only.refl _ _))).size.trans ((Only.refl (w.heap.size + 1) w5).setCell 2 _).size).symm)
    clear q6 K5
    obtain ⟨c0,c1,c2,cf⟩:=p5
    obtain ⟨d0,d1,d2,df⟩:=q5
    obtain ⟨W8,hW8⟩:∃ W8,(w5.setCell ⟨w.heap.size + 1,2,none⟩ (.slice a L.length cap)).setCells w.heap.size 0 [.int .i64 V4,.int .i64 V2,.slice a L.length cap]=W8:=⟨_,rfl⟩
    rw [hW8] at HO HOb HF HG HZ
    have HW8:Hid ((((w5.setCell ⟨w.heap.size + 1,2,none⟩ (.slice a L.length cap)).setCell ⟨w.heap.size,0,none⟩ (.int .i64 V4)).setCell ⟨w.heap.size,1,none⟩ (.int .i64 V2)).setCell ⟨w.heap.size,2,none⟩ (.slice a L.length cap)=W8):=hW8
    clear hW8
    go_wp2_with fail
    rw [HW8.out]
    clear c0 c1 c2 cf d0 d1 d2 df
    refine bodyPost_ret (resBk (b:=w.heap.size) (k:=⟨V4,V2,a,L,cap⟩) rfl rfl HF.out) rfl ?_
    exact ⟨⟨V4,V2,a,L,cap⟩,rfl,rfl,(HT.out.keep HZ.out (fun g hg _=>HO.out g hg)).mono (by omega),⟨(World.cell?_of_block HOb.out).trans HR5.out.c0,(World.cell?_of_block HOb.out).trans HR5.out.c1,(World.frozen?_of_block HOb.out).trans HR5.out.f0,(World.frozen?_of_block HOb.out).trans HR5.out.f1⟩,HG.out⟩
def bksR:Nat→RS→List B3
 | 0,_=>[]
 | n + 1,r=>if 0 < r.s.size then bkOfR r :: bksR n (bkRest r) else []
def RJ (r:RS):Prop:=r.e≠0→r.s.size=0
theorem noB0:noB.size=0:=rfl
theorem RJ.skip {r:RS} (h:RJ r) (n:Int):RJ (r.skip n):=by
 unfold RJ RS.skip takeS takeE
 intro he
 by_cases e0:r.e=0
 ·simp only [e0,if_true] at he ⊢
  by_cases hm:szB n=true∧n≤r.s.size
  ·rw [if_pos hm.1,if_pos hm.2] at he
   exact absurd rfl he
  ·rw [if_neg hm];rfl
 ·simp only [e0,if_false]
  exact h e0
theorem RJ.jump {r:RS} (h:RJ r) (n:Int):RJ (r.jump n):=by
 unfold RJ RS.jump takeS takeE
 intro he
 by_cases e0:r.e=0
 ·simp only [e0,if_true] at he ⊢
  by_cases hm:decide (0≤n)=true∧n≤r.s.size
  ·rw [if_pos hm.1,if_pos hm.2] at he
   exact absurd rfl he
  ·rw [if_neg hm];rfl
 ·simp only [e0,if_false]
  exact h e0
theorem skip2_less {r:RS} (h:RJ r) (hp:0 < r.s.size):(r.skip 2).s.size < r.s.size:=by
 have he:r.e=0:=Decidable.byContradiction fun e=>by have:=h e;omega
 unfold RS.skip takeS
 simp only [he,if_true]
 by_cases hm:szB 2=true∧(2:Int)≤r.s.size
 ·rw [if_pos hm,ByteArray.size_extract]
  have:=hm.2
  omega
 ·rw [if_neg hm,noB0];exact hp
theorem bkRest_less {r:RS} (h:RJ r) (hp:0 < r.s.size):(bkRest r).s.size < r.s.size :=
 Nat.lt_of_le_of_lt (Nat.le_trans (RS.jump_size _ _) (Nat.le_trans (RS.jump_size _ _) (Nat.le_trans (RS.skip_size _ _) (RS.skip_size _ _)))) (skip2_less h hp)
theorem RJ.rest {r:RS} (h:RJ r):RJ (bkRest r):=((((h.skip 2).skip 2).skip 4).jump 8).jump _
theorem bksR_fuel:∀ (k:Nat) (r:RS),RJ r→r.s.size≤k→bksR k r=bksR r.s.size r:=by
  intro k
  induction k using Nat.strongRecOn with
  | ind k ih =>
    intro r hr hk
    cases hs:r.s.size with
    | zero =>
      cases k with
      | zero=>rfl
      | succ k=>simp [bksR,hs]
    | succ m =>
      cases k with
      | zero=>omega
      | succ k =>
        have hp:0 < r.s.size:=by omega
        have hl:=bkRest_less hr hp
        rw [bksR,bksR,if_pos hp,if_pos hp,ih k (by omega) (bkRest r) hr.rest (by omega),← ih m (by omega) (bkRest r) hr.rest (by omega)]
theorem bksR_step {r:RS} (hr:RJ r) (hp:0 < r.s.size):bksR r.s.size r=bkOfR r :: bksR (bkRest r).s.size (bkRest r):=by
 obtain ⟨m,hm⟩:∃ m,r.s.size=m + 1:=⟨r.s.size - 1,by omega⟩
 have hl:=bkRest_less hr hp
 have e:bksR r.s.size r=bksR (m + 1) r:=by rw [hm]
 rw [e,bksR,if_pos hp,bksR_fuel m (bkRest r) hr.rest (by omega)]
theorem bksR_len:∀ (k:Nat) (r:RS),(bksR k r).length≤k
  | 0,_=>by simp [bksR]
  | k + 1,r=>by
    unfold bksR
    split
    · rw [List.length_cons];have:=bksR_len k (bkRest r);omega
    · simp
def flatB (l:List Bk):List Value:=l.flatMap fun t=>[.int .i64 t.wa,.int .i64 t.we,.slice t.a t.l.length t.c]
theorem flatB_snoc (l:List Bk) (t:Bk):flatB (l ++ [t])=flatB l ++ [.int .i64 t.wa,.int .i64 t.we,.slice t.a t.l.length t.c]:=by simp [flatB]
theorem flatB_at:∀ (l:List Bk) (i:Nat) (h:i < l.length),(flatB l)[i * 3]? = some (.int .i64 l[i].wa)∧(flatB l)[i * 3 + 1]? = some (.int .i64 l[i].we)∧(flatB l)[i * 3 + 2]? = some (.slice l[i].a l[i].l.length l[i].c)
  | t :: l,0,_=>by simp [flatB]
  | t :: l,i + 1,h=>by
    have ih:=flatB_at l i (by simpa using h)
    unfold flatB at ih ⊢
    rw [List.flatMap_cons,show (i + 1) * 3=i * 3 + 3 by omega]
    simpa using ih
theorem infoBk:(Tryz.prog.info? 53).map (fun i=>(i.zero,i.size,i.bytes))=some (some (.agg #[.int .i64 0,.int .i64 0,.slice none 0 0]),3,40):=by kernel_rfl
structure BO (base:Nat) (w:World) (v:Value) (l:List Bk):Prop where
 row:w.ownsRow base 53 3 v l.length (flatB l)
 acts:∀ x ∈ l,TsF base w x.a x.l∧x.l.length≤1000
 nil:l=[]→v=.slice none 0 0
theorem BO.bs {base:Nat} {w:World} {v:Value} {l:List Bk} (h:BO base w v l):∃ a cap,v=.slice a l.length cap∧Bs w a l:=by
 have hb:∀ b ∈ l,BW w b:=fun b hb=>⟨(h.acts b hb).1.ts,(h.acts b hb).2⟩
 rcases h.row.2 with ⟨rfl,h'⟩ | ⟨g,cap,cur,rfl,hbg,_,hnc,_⟩
 ·have hl:l=[]:=List.length_eq_zero_iff.1 h'
  subst hl
  exact ⟨none,0,rfl,hb,.inl rfl⟩
 ·have hlt:=(h.row.lt g rfl).2
  refine ⟨some ⟨g,0,none⟩,cap,rfl,hb,.inr ⟨g,0,rfl,hlt,fun i hi => ?_⟩⟩
  obtain ⟨x0,x1,x2⟩:=flatB_at l i hi
  refine ⟨?_,?_,?_⟩
  ·rw [show 0 + i * 3=i * 3 by omega,h.row.cellAt (i * 3) (by omega)];exact x0
  ·rw [show 0 + i * 3 + 1=i * 3 + 1 by omega,h.row.cellAt (i * 3 + 1) (by omega)];exact x1
  ·rw [show 0 + i * 3 + 2=i * 3 + 2 by omega,h.row.cellAt (i * 3 + 2) (by omega)];exact x2
theorem acts_apart {base B:Nat} {w:World} {v:Value} {l:List Bk} (h:w.ownsRow base 53 3 v l.length (flatB l)) (hn:l=[]→v=.slice none 0 0) {a:Option Addr} {k:List A} (t:TsF B w a k) {g:Nat} (ha:a=some ⟨g,0,none⟩) (hk:k≠[]):v.ownBlock≠some g:=by
 intro e
 rcases t with t | ⟨g',ha',_,_,hc⟩
 ·exact hk t
 ·rw [ha] at ha'
  cases ha'
  have hk0:0 < k.length:=List.length_pos_iff.2 hk
  have c2:=(hc 0 hk0).2.2
  rcases h.2 with ⟨rfl,h'⟩ | ⟨g2,cap,cur,rfl,_⟩
  ·cases e
  ·have e2:g2=g:=by simpa [Value.ownBlock] using e
   subst e2
   by_cases h0:l.length=0
   ·have:=hn (List.length_eq_zero_iff.1 h0)
    cases this
   ·obtain ⟨_,_,x2⟩:=flatB_at l 0 (by omega)
    have c:=h.cellAt (0 * 3 + 2) (by omega)
    rw [x2] at c
    have e3:w.cell? ⟨g2,0 * 3 + 2,none⟩=some (.int .u64 k[0].2.2):=c2
    rw [e3] at c
    cases c
def BsF (base:Nat) (w:World) (a:Option Addr) (l:List Bk):Prop :=
 (∀ x ∈ l,TsF base w x.a x.l∧x.l.length≤1000)∧(l=[]∨∃ g,a=some ⟨g,0,none⟩∧base≤g∧g < w.heap.size∧∀ i (h:i < l.length),Cb w g (i * 3) l[i])
theorem BsF.bs {base:Nat} {w:World} {a:Option Addr} {l:List Bk} (h:BsF base w a l):Bs w a l:=by
 refine ⟨fun x hx=>⟨(h.1 x hx).1.ts,(h.1 x hx).2⟩,?_⟩
 rcases h.2 with e | ⟨g,ha,_,hg,hc⟩
 ·exact .inl e
 ·exact .inr ⟨g,0,ha,hg,fun i hi=>by rw [Nat.zero_add];exact hc i hi⟩
theorem BsF.keep {base:Nat} {w w':World} {a:Option Addr} {l:List Bk} (h:BsF base w a l) (hz:w.heap.size≤w'.heap.size) (hb:∀ g,base≤g→g < w.heap.size→w'.heap[g]? = w.heap[g]?):BsF base w' a l:=by
 refine ⟨fun x hx=>⟨(h.1 x hx).1.keep hz hb,(h.1 x hx).2⟩,?_⟩
 rcases h.2 with e | ⟨g,ha,h0,hg,hc⟩
 ·exact .inl e
 ·exact .inr ⟨g,ha,h0,Nat.lt_of_lt_of_le hg hz,fun i hi=>(hc i hi).block (hb g h0 hg)⟩
theorem BsF.mono {B C:Nat} {w:World} {a:Option Addr} {l:List Bk} (h:BsF B w a l) (hc:C≤B):BsF C w a l:=by
 refine ⟨fun x hx=>⟨(h.1 x hx).1.mono hc,(h.1 x hx).2⟩,?_⟩
 rcases h.2 with e | ⟨g,ha,h0,h1⟩
 ·exact .inl e
 ·exact .inr ⟨g,ha,by omega,h1⟩
theorem BO.bsf {base:Nat} {w:World} {v:Value} {l:List Bk} (h:BO base w v l):∃ a cap,v=.slice a l.length cap∧BsF base w a l:=by
 rcases h.row.2 with ⟨rfl,h'⟩ | ⟨g,cap,cur,rfl,hbg,_,hnc,_⟩
 ·have hl:l=[]:=List.length_eq_zero_iff.1 h'
  subst hl
  exact ⟨none,0,rfl,h.acts,.inl rfl⟩
 ·have hlt:=(h.row.lt g rfl).2
  refine ⟨some ⟨g,0,none⟩,cap,rfl,h.acts,.inr ⟨g,rfl,hbg,hlt,fun i hi => ?_⟩⟩
  obtain ⟨x0,x1,x2⟩:=flatB_at l i hi
  refine ⟨?_,?_,?_⟩
  ·rw [h.row.cellAt (i * 3) (by omega)];exact x0
  ·rw [h.row.cellAt (i * 3 + 1) (by omega)];exact x1
  ·rw [h.row.cellAt (i * 3 + 2) (by omega)];exact x2
theorem BO.grb {base b:Nat} {w w':World} {v:Value} {l:List Bk} (h:BO base w v l) (g:Grb b w w') (hb:b < base):BO base w' v l:=by
 refine ⟨h.row.kept (row:=some b) ⟨g.os,g.tape,g.output,g.size,fun k hk hne=>g.block k hk (fun e=>hne (by rw [e]))⟩ ?_,fun x hx=>⟨(h.acts x hx).1.keep g.size (fun k hk hw=>g.block k hw (by omega)),(h.acts x hx).2⟩,h.nil⟩
 cases hv:v.ownBlock with
 | none=>exact .inl rfl
 | some q=>right;intro hq;have:=(h.row.lt q hv).1;cases hq;omega
theorem BO.snoc {base:Nat} {w w':World} {v v':Value} {l:List Bk} {x:Bk} (h:BO base w v l) (hx:TsF base w x.a x.l) (hn:x.l.length≤1000) (hr:w'.ownsRow base 53 3 v' (l.length + 1) (flatB l ++ [.int .i64 x.wa,.int .i64 x.we,.slice x.a x.l.length x.c])) (hg:w.grownBy w' v.ownBlock):BO base w' v' (l ++ [x]):=by
 have keep:∀ (a:Option Addr) (k:List A),TsF base w a k→TsF base w' a k:=fun a k t=>by
  by_cases hk:k=[]
  ·exact .inl hk
  ·have t0:=t
   rcases t with t | ⟨g,ha,h0,h1,hc⟩
   ·exact absurd t hk
   ·have hne:=acts_apart h.row h.nil t0 ha hk
    exact .inr ⟨g,ha,h0,Nat.lt_of_lt_of_le h1 hg.size,fun i hi=>(hc i hi).block (hg.block g h1 (fun e=>hne e.symm))⟩
 refine ⟨by rw [flatB_snoc,List.length_append];exact hr,fun y hy => ?_,fun e=>by simp at e⟩
 rcases List.mem_append.1 hy with hy | hy
 ·exact ⟨keep _ _ (h.acts y hy).1,(h.acts y hy).2⟩
 ·simp at hy
  subst hy
  exact ⟨keep _ _ hx,hn⟩
theorem step_call {P:Program} {ops:Array Oper} {o:Oper} {a:Go.Act} {w:World} {K:Go.Act→World→Prop} {Q:Exit→Go.Act→World→Prop} {E:Prop} (hg:o.guard=none) (f:FuncId) (vals:Array Value)
    (hrun:(execOp a.eval o).run P w=.ok (.enter f vals) w) (hC:Calls P f vals w fun e w'=>∃ v,e=.returned v∧K (a.put o.dst v) w') :
    if Region.wanted o (yielded ops a.tmps)=true then Oper.wp P o a w K Q else E:=by
  have hw:Region.wanted o (yielded ops a.tmps)=true:=by simp [Region.wanted,hg]
  rw [if_pos hw]
  unfold Oper.wp
  rw [hrun,Oper.upon_enter]
  exact hC.mono fun e w' ⟨v,he,hk⟩=>by subst he;exact hk
theorem step_append_own {P:Program} {ops:Array Oper} {o:Oper} {a:Go.Act} {w:World} {K:Go.Act→World→Prop} {Q:Exit→Go.Act→World→Prop} {E:Prop} (hg:o.guard=none) (s x:Operand) (t:TypeId)
    (ho:o.op=.call { callee:=.builtin .append,args:=#[s,x],argTypes:=#[t,t] })
    (base:Nat) (e:TypeId) (i:TypeInfo) (z:Value) (size bytes:Nat) (ht:P.underlying t=some (.slice e)) (hi:P.info? e=some i) (hz:i.zero=some z)
    (hsize:i.size=size) (hby:i.bytes=bytes) (hzs:z.cells.size=size) (hsz:0 < size)
    (v:Value) (n:Nat) (xs:List Value) (hs:a.eval s=v) (hown:w.ownsRow base e size v n xs)
    (ad:Addr) (m c:Nat) (news:List Value) (hx:a.eval x=.slice (some ad) m c) (hl:news.length=m * size) (hnews:∀ j u,news[j]? = some u→w.cell? (ad.add j)=some u) (h1:∀ u ∈ news,u.oneCell'=true)
    (h63:n + m≤maxLen) (hbytes:(n + m) * bytes≤140737488355328) (hbase:base≤w.heap.size)
    (h:∀ v' w',w'.ownsRow base e size v' (n + m) (xs ++ news)→w.grownBy w' v.ownBlock→K (a.put o.dst v') w') :
    if Region.wanted o (yielded ops a.tmps)=true then Oper.wp P o a w K Q else E:=by
  have hw:Region.wanted o (yielded ops a.tmps)=true:=by simp [Region.wanted,hg]
  rw [if_pos hw]
  exact wp_append_own w s x t ho base e i z size bytes ht hi hz hsize hby hzs hsz v n xs hs hown ad m c news hx hl hnews h1 h63 hbytes hbase (fun v' w' h2 h3 _=>h v' w' h2 h3)
def gpK (r:RS):Int:=(r.skip 2).num 1 + 1
def gpI (r:RS):Int:=(((r.skip 2).skip 1).jump 1).num 4
def gpR (r:RS):RS:=(((r.skip 2).skip 1).jump 1).skip 4
def gpB (r:RS):List B3:=bksR (gpR r).s.size (gpR r)
theorem decV_few (d:ByteArray):(actsV d).length≤1000:=Nat.le_trans (decR_few d) (by decide)
theorem resGp {fn:Func} {t u:Tmp} (h:fn.results=#[.tmp u,.cell t 29]) {tmps:Array Value} {w:World} {b:Nat} {x y:Int} {z:Option Addr} {n c:Nat} (ht:tmps.getD t undef=.pointer (some ⟨b,0,none⟩)) (hs:Q3 w b (.int .i64 x) (.int .i64 y) (.slice z n c)) :
    (results fn tmps).run Tryz.prog w=.ok (.tuple #[tmps.getD u undef,.agg #[.int .i64 x,.int .i64 y,.slice z n c]]) w:=by
  have ht':tmps[t]?.getD undef=.pointer (some ⟨b,0,none⟩):=by simpa using ht
  have hl:(loadVar 29 ⟨b,0,none⟩).run Tryz.prog w=.ok (.agg #[.int .i64 x,.int .i64 y,.slice z n c]) w:=by
    obtain ⟨c0,c1,c2,_⟩:=hs
    simp [go_sem, *]
  simp [results,h,ht',asAddr,hl]
theorem own_sl {w:World} {base:Nat} {e:TypeId} {size:Nat} {v:Value} {n:Nat} {xs:List Value} (h:w.ownsRow base e size v n xs):∃ a cap,v=.slice a n cap:=by
 rcases h.2 with ⟨rfl,h'⟩ | ⟨g,cap,cur,rfl,_⟩
 ·exact ⟨none,0,by rw [h']⟩
 ·exact ⟨_,cap,rfl⟩
theorem cells_new3 (w:World) (x y z:Value) (t:TypeId):∀ j u,[x,y,z][j]? = some u→(w.alloc (.cells #[x,y,z] t)).cell? ((⟨w.heap.size,0,none⟩:Addr).add j)=some u:=by
 intro j u hj
 match j,hj with
 | 0,hj=>simp at hj;subst hj;simp [Addr.add]
 | 1,hj=>simp at hj;subst hj;simp [Addr.add]
 | 2,hj=>simp at hj;subst hj;simp [Addr.add]
theorem one3 (x y:Int) (k:Bk):∀ u ∈ ([.int .i64 k.wa,.int .i64 k.we,.slice k.a k.l.length k.c]:List Value),u.oneCell'=true:=by
 intro u hu
 simp at hu
 rcases hu with rfl | rfl | rfl <;> rfl
theorem readG_any (b:Nat) (r:RS) (w:World) (hs:r.s.size≤65535) (hj:RJ r) (hb:b < w.heap.size) (hb4:4 < b) (hd:Ct w) (h:Rd w b r.s r.e) :
    Calls Tryz.prog 53 #[.pointer (some ⟨b,0,none⟩)] w fun x w'=>∃ a l cap,x=.returned (.tuple #[.int .i64 (r.num 2),.agg #[.int .i64 (gpI r),.int .i64 (gpK r),.slice a l.length cap]])∧l.map Bk.b3=gpB r∧BsF w.heap.size w' a l∧l.length≤100000∧Grb b w w':=by
  have hs':r.s.size≤maxLen:=by unfold maxLen;omega
  have z1:=Nat.le_trans (RS.skip_size r 2) hs'
  have z2:=Nat.le_trans (RS.skip_size (r.skip 2) 1) z1
  have z3:=Nat.le_trans (RS.jump_size ((r.skip 2).skip 1) 1) z2
  have z4:(gpR r).s.size≤65535:=Nat.le_trans (RS.skip_size _ _) (Nat.le_trans (RS.jump_size _ _) (Nat.le_trans (RS.skip_size _ _) (Nat.le_trans (RS.skip_size _ _) hs)))
  have hj4:RJ (gpR r):=(((hj.skip 2).skip 1).jump 1).skip 4
  have y1:0≤(r.skip 2).num 1∧(r.skip 2).num 1 < 256:=by simpa using RS.num_lt (r.skip 2) 1 (by omega)
  have H1:Hid (∀ w,Rd w b r.s r.e→_):=(show ∀ w,Rd w b r.s r.e→_ from fun w h=>n2R b r w hs' h)
  have H2:Hid (∀ w,Rd w b (r.skip 2).s (r.skip 2).e→_):=(show ∀ w,Rd w b (r.skip 2).s (r.skip 2).e→_ from fun w h=>n1R b (r.skip 2) w z1 h)
  have H3:Hid (∀ w,Rd w b ((r.skip 2).skip 1).s ((r.skip 2).skip 1).e→_):=(show ∀ w,Rd w b ((r.skip 2).skip 1).s ((r.skip 2).skip 1).e→_ from fun w h=>bytesR b ((r.skip 2).skip 1) 1 w h)
  have H4:Hid (∀ w,Rd w b (((r.skip 2).skip 1).jump 1).s (((r.skip 2).skip 1).jump 1).e→Calls Tryz.prog 48 #[.pointer (some ⟨b,0,none⟩),.int .i64 4] w fun x w'=>x=.returned (.int .i64 (gpI r))∧Rd w' b (gpR r).s (gpR r).e∧Only b w w'):=(show ∀ w,Rd w b (((r.skip 2).skip 1).jump 1).s (((r.skip 2).skip 1).jump 1).e→_ from fun w h=>n4R b (((r.skip 2).skip 1).jump 1) w z3 h)
  have HBk:Hid (∀ (q:RS) w1,q.s.size≤65535→Grb b w w1→Rd w1 b q.s q.e→Calls Tryz.prog 87 #[.pointer (some ⟨b,0,none⟩)] w1 fun x w'=>∃ k:Bk,x=.returned (bkV k)∧Hid (k.b3=bkOfR q∧TsF w1.heap.size w' k.a k.l∧Rd w' b (bkRest q).s (bkRest q).e∧Grb b w1 w')):=(show ∀ (q:RS) w1,_ from fun q w1 hq g h=>(readBk_any b q w1 (by unfold maxLen;omega) (Nat.lt_of_lt_of_le hb g.size) hb4 (g.cd hd hb4) h).mono fun _ _ ⟨k,h1,h2⟩=>⟨k,h1,h2⟩)
  have HK:Hid (gpK r=(r.skip 2).num 1 + 1):=(show _=_ from rfl)
  rw [HK.out]
  obtain ⟨y10,y11⟩:=y1
  clear z1 z2 z3 hd HK hs'
  have n0:w.heap.size≠b:=by omega
  have n1:w.heap.size + 1≠b:=by omega
  have q0:=Q3.new w (.int .i64 0) (.int .i64 0) (.slice none 0 0) 29
  have h0:Rd (w.alloc (.cells #[.int .i64 0,.int .i64 0,.slice none 0 0] 29)) b r.s r.e:=h.below hb (by go_grown)
  have g0:Grb b w (w.alloc (.cells #[.int .i64 0,.int .i64 0,.slice none 0 0] 29)):=(Grb.refl b w).alloc _
  have s0:(w.alloc (.cells #[.int .i64 0,.int .i64 0,.slice none 0 0] 29)).heap.size=w.heap.size + 1:=by simp
  obtain ⟨W0,hW0⟩:∃ W0,w.alloc (.cells #[.int .i64 0,.int .i64 0,.slice none 0 0] 29)=W0:=⟨_,rfl⟩
  rw [hW0] at q0 h0 g0 s0
  have HW0:Hid (w.alloc (.cells #[.int .i64 0,.int .i64 0,.slice none 0 0] 29)=W0):=hW0
  clear hW0
  have HL:Hid (gpB r=bksR (gpR r).s.size (gpR r)):=(show _=_ from rfl)
  have HLl:Hid ((gpB r).length≤65535):=(show _≤_ from Nat.le_trans (bksR_len _ _) z4)
  generalize gpB r=L at *
  generalize gpI r=VI at *
  generalize (r.skip 2).num 1=VK at *
  generalize r.num 2=VC at *
  generalize gpR r=R4 at *
  obtain ⟨i0,hi,hz0,hz1,hz2⟩:=info_parts infoBk
  go_enter Tryz.func53,Tryz.ntmps53
  go_wp2_with fail
  rw [HW0.out]
  refine (H1.out _ h0).mono ?_
  rintro x w1 ⟨rfl,r1,o1⟩
  go_wp2_with fail
  refine (H2.out _ r1).mono ?_
  rintro x w2 ⟨rfl,r2,o2⟩
  have O2:=o1.trans o2
  have s2:w2.heap.size=w.heap.size + 1:=O2.size.trans s0
  have q2:=(q0.block (O2.block _ n0)).block (heap_alloc_old w2 (.cells #[.int .i64 0,.int .i64 (VK + 1),.slice none 0 0] 29) (by omega))
  have g2:=(g0.trans (Grb.only O2)).alloc (.cells #[.int .i64 0,.int .i64 (VK + 1),.slice none 0 0] 29)
  have p2:=Q3.new w2 (.int .i64 0) (.int .i64 (VK + 1)) (.slice none 0 0) 29
  have r2':=r2.below (by omega) (show Below w2.heap.size w2 (w2.alloc (.cells #[.int .i64 0,.int .i64 (VK + 1),.slice none 0 0] 29)) by go_grown)
  rw [s2] at p2
  have s2':(w2.alloc (.cells #[.int .i64 0,.int .i64 (VK + 1),.slice none 0 0] 29)).heap.size=w.heap.size + 2:=by simp;omega
  obtain ⟨W2,hW2⟩:∃ W2,w2.alloc (.cells #[.int .i64 0,.int .i64 (VK + 1),.slice none 0 0] 29)=W2:=⟨_,rfl⟩
  rw [hW2] at q2 g2 p2 r2' s2'
  have HW2:Hid (w2.alloc (.cells #[.int .i64 0,.int .i64 (VK + 1),.slice none 0 0] 29)=W2):=hW2
  clear o1 o2 O2 q0 h0 g0 s0 r1 r2 hW2
  go_wp2_with fail
  rw [HW2.out]
  refine (H3.out _ r2').mono ?_
  rintro x w3 ⟨rfl,r3,o3⟩
  go_wp2_with fail
  refine (H4.out _ r3).mono ?_
  rintro x w4 ⟨rfl,r4,o4⟩
  have O4:=o3.trans o4
  have p4:=p2.block (O4.block _ n1)
  have q4:=q2.block (O4.block _ n0)
  have g4:=g2.trans (Grb.only O4)
  have s4:w4.heap.size=w.heap.size + 2:=O4.size.trans s2'
  clear o3 o4 O4 p2 q2 g2 s2' r3 r2'
  have p5:=p4.set0 (.int .i64 VI)
  have q5:=q4.block (Below.heap_setCell w4 ⟨w.heap.size + 1,0,none⟩ (.int .i64 VI) w.heap.size (show w.heap.size≠w.heap.size + 1 by omega))
  have g5:Grb b w (w4.setCell ⟨w.heap.size + 1,0,none⟩ (.int .i64 VI)):=g4.set (by omega) _ _
  have r5:Rd (w4.setCell ⟨w.heap.size + 1,0,none⟩ (.int .i64 VI)) b R4.s R4.e:=r4.only ((Only.refl (w.heap.size + 1) w4).setCell 0 _) (by omega)
  have s5:(w4.setCell ⟨w.heap.size + 1,0,none⟩ (.int .i64 VI)).heap.size=w.heap.size + 2:=by rw [((Only.refl (w.heap.size + 1) w4).setCell 0 _).size];exact s4
  obtain ⟨W5,hW5⟩:∃ W5,w4.setCell ⟨w.heap.size + 1,0,none⟩ (.int .i64 VI)=W5:=⟨_,rfl⟩
  rw [hW5] at p5 q5 g5 r5 s5
  have HW5:Hid (w4.setCell ⟨w.heap.size + 1,0,none⟩ (.int .i64 VI)=W5):=hW5
  clear hW5 q4 g4 r4
  obtain ⟨c0,c1,c2,cf⟩:=p4
  go_wp2_with fail
  rw [HW5.out]
  clear c0 c1 c2 cf
  go_loopw [20] (fun _ wr=>∃ (l:List Bk) (q:RS) (v:Value),Hid (L=l.map Bk.b3 ++ bksR q.s.size q)∧RJ q∧q.s.size≤65535∧Rd wr b q.s q.e∧Hid (Q3 wr (w.heap.size + 1) (.int .i64 VI) (.int .i64 (VK + 1)) v)∧Hid (Q3 wr w.heap.size (.int .i64 0) (.int .i64 0) (.slice none 0 0))∧Hid (BO (w.heap.size + 2) wr v l)∧w.heap.size + 2≤wr.heap.size∧Hid (Grb b w wr))
    (fun _ wr=>match wr.cell? ⟨b,0,none⟩ with | some (.string q)=>q.size | _=>0)
  case atStart=>exact ⟨[],R4,.slice none 0 0,(show _=_ by rw [HL.out];rfl),hj4,z4,r5,p5,q5,⟨World.ownsRow_nil _ _ _ _,by simp,fun _=>rfl⟩,by omega,g5⟩
  case round =>
    obtain ⟨l,q,v,HLq,hjq,hqs,hrd,HP,HQ,HBO,hwz,HGr⟩:=hrel
    have hrd0:=hrd.c0
    by_cases hp:0 < q.s.size
    · have hp':(q.s.size:Int) > 0:=by omega
      have HN:Hid (L=(l.map Bk.b3 ++ [bkOfR q]) ++ bksR (bkRest q).s.size (bkRest q)):=(show _=_ by rw [HLq.out,bksR_step hjq hp];simp)
      have hlt:=bkRest_less hjq hp
      go_wp2_with fail
      refine (leftR b q _ hrd).mono ?_
      rintro x w6 ⟨rfl,rfl⟩
      obtain ⟨c0,c1,c2,cf⟩:=HP.out
      go_wp2_with fail
      have hrdD:Rd w6.drew b q.s q.e:=⟨hrd.c0,hrd.c1,hrd.f0,hrd.f1⟩
      have HGo:Hid (∀ u,Grb b w6.drew u→Grb b w6 u):=(show ∀ u,_ from fun u g=>⟨g.os,g.tape,g.output,g.size,g.block⟩)
      have HGd:Hid (Grb b w w6.drew):=(show Grb _ _ _ from HGr.out.drew)
      have hll:l.length + 1≤65535:=by
        have:=congrArg List.length HN.out
        simp at this
        have:=HLl.out
        omega
      go_region_law (first
        | (refine step_call rfl 87 #[.pointer (some ⟨b,0,none⟩)] ?hrun ?_
           case hrun=>go_simp
           refine Calls.mono (HBk.out q _ hqs HGd.out hrdD) ?_
           rintro x w7 ⟨k,rfl,HX⟩
           refine ⟨_,rfl,?_⟩
           have p7:Q3 w7 (w.heap.size + 1) (.int .i64 VI) (.int .i64 (VK + 1)) v:=HP.out.block (HX.out.2.2.2.block (w.heap.size + 1) (show w.heap.size + 1 < w6.heap.size by omega) n1)
           have HB7:Hid (BO (w.heap.size + 2) w7 v l):=(show BO _ _ _ _ from HBO.out.grb (b:=b) (HGo.out _ HX.out.2.2.2) (by omega))
           have z7:w.heap.size + 2≤w7.heap.size:=Nat.le_trans hwz (HX.out.2.2.2.size)
           have z7':w.heap.size + 1 < w7.heap.size:=by omega
           have HP7:Hid (Q3 w7 (w.heap.size + 1) (.int .i64 VI) (.int .i64 (VK + 1)) v):=p7
           obtain ⟨e0,e1,e2,ef⟩:=p7)
        | (refine step_append_own rfl (.tmp 21) (.tmp 24) 27 rfl (w.heap.size + 2) 53 i0 (.agg #[.int .i64 0,.int .i64 0,.slice none 0 0]) 3 40 Tryz.underlying27 hi hz0 hz1 hz2 rfl (by decide) v l.length (flatB l) rfl (HB7.out.row.alloc _) ⟨w7.heap.size,0,none⟩ 1 1 [.int .i64 k.wa,.int .i64 k.we,.slice k.a k.l.length k.c] rfl rfl (cells_new3 _ _ _ _ _) (one3 0 0 k) (by unfold maxLen;omega) (by omega) (by simp;omega) ?_
           intro v' w8 hown' hgrow
           obtain ⟨a8,cap8,rfl⟩:=own_sl hown'
           have hrow:=fun q hq=>(HB7.out.row.lt q hq).1
           have p8:Q3 w8 (w.heap.size + 1) (.int .i64 VI) (.int .i64 (VK + 1)) v:=(HP7.out.block (heap_alloc_old w7 _ (show w.heap.size + 1 < w7.heap.size by omega))).block (hgrow.block (w.heap.size + 1) (by simp;omega) (fun h=>by have:=hrow _ h.symm;omega))
           have HP8:Hid (Q3 w8 (w.heap.size + 1) (.int .i64 VI) (.int .i64 (VK + 1)) v):=p8
           obtain ⟨i0',i1',i2',if'⟩:=p8))
      all_goals
        obtain ⟨hk3,hkt,hkr,hkg⟩:=HX.out
        have hkg':Grb b w6 w7:=HGo.out _ hkg
        have hkn:k.l.length≤1000:=by
          have e:k.l=actsV ((bkR q).bytes (q.num 2 - 16)):=congrArg (fun z:B3=>z.2.2) hk3
          rw [e];exact decV_few _
        have hrow':=fun q hq=>(HB7.out.row.lt q hq).1
        obtain ⟨o7,ho7⟩:∃ o,o=Obj.cells #[.int .i64 k.wa,.int .i64 k.we,.slice k.a k.l.length k.c] 53:=⟨_,rfl⟩
        rw [← ho7] at hgrow
        have hz7:(w7.alloc o7).heap.size=w7.heap.size + 1:=by simp
        have B7:BO (w.heap.size + 2) (w7.alloc o7) v l:=HB7.out.grb (b:=b) (Grb.ofBelow (by go_grown)) (by omega)
        have T7:TsF (w.heap.size + 2) (w7.alloc o7) k.a k.l:=(hkt.mono hwz).below (by go_grown)
        have B8:BO (w.heap.size + 2) w8 (.slice a8 (l.length + 1) cap8) (l ++ [k]):=B7.snoc T7 hkn hown' hgrow
        have keep:∀ c,c < w.heap.size + 2→w8.heap[c]? = w7.heap[c]?:=fun c hc=>(hgrow.block c (by omega) (fun h=>by have:=hrow' _ h.symm;omega)).trans (heap_alloc_old w7 _ (by omega))
        have O9:Only (w.heap.size + 1) w8 (w8.setCell ⟨w.heap.size + 1,2,none⟩ (.slice a8 (l.length + 1) cap8)):=(Only.refl _ w8).setCell 2 _
        have P9:=HP8.out.set2 (.slice a8 (l.length + 1) cap8)
        have Q9:Q3 (w8.setCell ⟨w.heap.size + 1,2,none⟩ (.slice a8 (l.length + 1) cap8)) w.heap.size (.int .i64 0) (.int .i64 0) (.slice none 0 0):=HQ.out.block (((O9.block _ (by omega)).trans (keep _ (by omega))).trans (hkg'.block _ (by omega) n0))
        have R9:Rd (w8.setCell ⟨w.heap.size + 1,2,none⟩ (.slice a8 (l.length + 1) cap8)) b (bkRest q).s (bkRest q).e:=by
          have e:=(O9.block b (by omega)).trans (keep b (by omega))
          exact ⟨(World.cell?_of_block e).trans hkr.c0,(World.cell?_of_block e).trans hkr.c1,(World.frozen?_of_block e).trans hkr.f0,(World.frozen?_of_block e).trans hkr.f1⟩
        have B9:BO (w.heap.size + 2) (w8.setCell ⟨w.heap.size + 1,2,none⟩ (.slice a8 (l.length + 1) cap8)) (.slice a8 (l.length + 1) cap8) (l ++ [k]):=B8.grb (Grb.only O9) (by omega)
        have S8:w.heap.size + 2≤w8.heap.size:=Nat.le_trans (by omega) hgrow.size
        have G8:Grb b w w8:=⟨hgrow.os.trans ((HGr.out.trans hkg').os),hgrow.tape.trans ((HGr.out.trans hkg').tape),hgrow.output.trans ((HGr.out.trans hkg').output),by omega,fun c hc hb'=>(keep c (by omega)).trans ((HGr.out.trans hkg').block c hc hb')⟩
        have G9:=G8.set (c:=w.heap.size + 1) (by omega) 2 (.slice a8 (l.length + 1) cap8)
        have S9:w.heap.size + 2≤(w8.setCell ⟨w.heap.size + 1,2,none⟩ (.slice a8 (l.length + 1) cap8)).heap.size:=by rw [O9.size];exact S8
        have L9:L=(l ++ [k]).map Bk.b3 ++ bksR (bkRest q).s.size (bkRest q):=by rw [HN.out,List.map_append,List.map_cons,List.map_nil,hk3]
        have m9:=R9.c0
        go_wp2_with fail
        go_roundw
        case rel=>exact ⟨l ++ [k],bkRest q,.slice a8 (l.length + 1) cap8,L9,hjq.rest,by omega,R9,P9,Q9,B9,S9,G9⟩
        case measure =>
          simp only [m9,hrd0]
          exact hlt
    · have hz:q.s.size=0:=by omega
      have hp' : ¬ ((q.s.size:Int) > 0):=by omega
      have HLe:Hid (l.map Bk.b3=L):=(show _=_ by rw [HLq.out,hz];simp [bksR])
      obtain ⟨a,cap,rfl,hF⟩:=HBO.out.bsf
      have hll:l.length≤100000:=by
        have:=congrArg List.length HLe.out
        simp at this
        have:=HLl.out
        omega
      go_wp2_with fail
      refine (leftR b q _ hrd).mono ?_
      rintro x w6 ⟨rfl,rfl⟩
      have O9:=only_cells w.heap.size [.int .i64 VI,.int .i64 (VK + 1),.slice a l.length cap] 0 w6 w6 (Only.refl _ _)
      have HF9:Hid (Q3 (w6.setCells w.heap.size 0 [.int .i64 VI,.int .i64 (VK + 1),.slice a l.length cap]).drew w.heap.size (.int .i64 VI) (.int .i64 (VK + 1)) (.slice a l.length cap)):=(HQ.out.all _ _ _).block rfl
      have HG9:Hid (Grb b w (w6.setCells w.heap.size 0 [.int .i64 VI,.int .i64 (VK + 1),.slice a l.length cap]).drew):=(show Grb _ _ _ from (HGr.out.onlyNew O9 (Nat.le_refl _)).drew)
      have HB9:Hid (BsF (w.heap.size + 2) (w6.setCells w.heap.size 0 [.int .i64 VI,.int .i64 (VK + 1),.slice a l.length cap]).drew a l):=(show BsF _ _ _ _ from hF.keep (Nat.le_of_eq O9.size.symm) (fun g hg _=>O9.block g (by omega)))
      obtain ⟨W9,hW9⟩:∃ W9,(w6.setCells w.heap.size 0 [.int .i64 VI,.int .i64 (VK + 1),.slice a l.length cap]).drew=W9:=⟨_,rfl⟩
      rw [hW9] at HF9 HG9 HB9
      have HW9:Hid ((((w6.setCell ⟨w.heap.size,0,none⟩ (.int .i64 VI)).setCell ⟨w.heap.size,1,none⟩ (.int .i64 (VK + 1))).setCell ⟨w.heap.size,2,none⟩ (.slice a l.length cap)).drew=W9):=hW9
      clear hW9 O9
      obtain ⟨c0,c1,c2,cf⟩:=HP.out
      obtain ⟨d0,d1,d2,df⟩:=HQ.out
      go_wp2_with fail
      go_region
      rw [HW9.out]
      clear c0 c1 c2 cf d0 d1 d2 df
      go_wp2_with fail
      refine bodyPost_ret (resGp (b:=w.heap.size) rfl rfl HF9.out) rfl ?_
      exact ⟨a,l,cap,rfl,HLe.out,HB9.out.mono (by omega),hll,HG9.out⟩
def flT (r:RS):Int:=(r.jump 16).num 1
def flC (r:RS):Int:=((r.jump 16).skip 1).num 1
def flR4 (r:RS):RS:=(((r.jump 16).skip 1).skip 1).jump 4
def flP (r:RS):Int:=(flR4 r).num 2
def flR6 (r:RS):RS:=((flR4 r).skip 2).jump 12
def flK (r:RS):Bool:=(flR6 r).num 2 == 2
def flR8 (r:RS):RS:=((flR6 r).skip 2).jump 2
def flL (r:RS):ByteArray:=(flR8 r).all
def okF (d:ByteArray):Bool:=decide (4≤d.size) && decide (Mt.padV (Mt.saidV d)≤(d.size:Int)) && decide (4≤Mt.saidV d) && decide (Mt.rightE (Mt.testsOf d)=0) && decide (Mt.encS (Mt.testsOf d)=d.extract 0 (Mt.padV (Mt.saidV d)).toNat)
theorem okF_iff (d:ByteArray):okF d=true↔Mt.wholeOk d:=by
 unfold okF Mt.wholeOk
 simp only [Bool.and_eq_true,decide_eq_true_eq,and_assoc]
def flTs (d:ByteArray):List Mt.T:=if okF d=true then Mt.testsOf d else []
def flN (d:ByteArray):Int:=if okF d=true then Mt.padV (Mt.saidV d) else 0
def flE (d:ByteArray):Int:=if okF d=true then 0 else Mt.decE d
theorem flN_le (d:ByteArray):0≤flN d∧flN d≤d.size:=by
 unfold flN
 split
 ·next h =>
  have:=(okF_iff d).1 h
  obtain ⟨_,h2,h3,_⟩:=this
  have:=Mt.padV_ge (Mt.saidV d)
  omega
 ·omega
theorem flTs_few (d:ByteArray):(flTs d).length≤1000:=by
 unfold flTs
 split
 ·next h =>
  obtain ⟨_,_,_,h4,_⟩:=(okF_iff d).1 h
  have:=Mt.right_short _ h4
  omega
 ·exact Nat.zero_le _
theorem flTs_w (d:ByteArray):Mt.TWs (flTs d):=by
 unfold flTs
 split
 ·exact Mt.readN_w _ _
 ·intro t ht;cases ht
theorem mdec_any (d:ByteArray) (w:World) (hs:d.size≤100000) (hd:Mt.Cd w) :
    Calls Tryz.prog 85 #[.string d] w fun e w'=>∃ a cap,e=.returned (.tuple #[.slice a (flTs d).length cap,.int .i64 (flN d),.int .i64 (flE d)])∧(flTs d).length≤cap∧Mt.TsF w.heap.size w' a (flTs d)∧Below w.heap.size w w':=by
  unfold flTs flN flE
  cases h:okF d with
  | true =>
    simp only [if_true]
    exact Mt.dec_yes d w hs hd ((okF_iff d).1 h)
  | false =>
    have hn : ¬ Mt.wholeOk d:=fun g=>by rw [(okF_iff d).2 g] at h;cases h
    refine (Mt.dec_nope d w hs hd hn).mono ?_
    rintro e w' ⟨rfl,g⟩
    exact ⟨none,0,by simp,by simp,.inl (by simp),g⟩
theorem resFl {fn:Func} {t u v:Tmp} (h:fn.results=#[.tmp u,.tmp v,.cell t 26]) {tmps:Array Value} {w:World} {b:Nat} {x:En} (ht:tmps.getD t undef=.pointer (some ⟨b,0,none⟩)) (hs:Bn w b x) :
    (results fn tmps).run Tryz.prog w=.ok (.tuple #[tmps.getD u undef,tmps.getD v undef,enV x]) w:=by
  have ht':tmps[t]?.getD undef=.pointer (some ⟨b,0,none⟩):=by simpa using ht
  simp [results,h,ht',asAddr,loadE w b x hs]
theorem readF_any (b:Nat) (r:RS) (w:World) (hs:r.s.size≤65535) (hb:b < w.heap.size) (hb4:4 < b) (hd:Ct w) (h:Rd w b r.s r.e) :
    Calls Tryz.prog 52 #[.pointer (some ⟨b,0,none⟩)] w fun x w'=>∃ y:En,x=.returned (.tuple #[.int .i64 (flC r),.bool (flK r),enV y])∧y.sp=(decX (flT r) ((flL r).extract (flN (flL r)).toNat (flL r).size)).1∧y.pri=flP r∧y.tl=(flTs (flL r)).length∧(flTs (flL r)).length≤y.tc∧Mt.TsF w.heap.size w' y.ta (flTs (flL r))∧EF w.heap.size w' y∧SOk y.sp∧Grb b w w':=by
  have hs':r.s.size≤maxLen:=by unfold maxLen;omega
  have z1:=Nat.le_trans (RS.jump_size r 16) hs'
  have z2:=Nat.le_trans (RS.skip_size (r.jump 16) 1) z1
  have z3:=Nat.le_trans (RS.skip_size ((r.jump 16).skip 1) 1) z2
  have z4:(flR4 r).s.size≤maxLen:=Nat.le_trans (RS.jump_size _ _) z3
  have z6:(flR6 r).s.size≤maxLen:=Nat.le_trans (RS.jump_size _ _) (Nat.le_trans (RS.skip_size _ _) z4)
  have z8:(flL r).size≤65535:=Nat.le_trans (bytes_le _ _) (Nat.le_trans (RS.jump_size _ _) (Nat.le_trans (RS.skip_size _ _) (Nat.le_trans (RS.jump_size _ _) (Nat.le_trans (RS.skip_size _ _) (Nat.le_trans (RS.jump_size _ _) (Nat.le_trans (RS.skip_size _ _) (Nat.le_trans (RS.skip_size _ _) (Nat.le_trans (RS.jump_size _ _) hs))))))))
  have H1:Hid (∀ w,Rd w b r.s r.e→_):=(show ∀ w,Rd w b r.s r.e→_ from fun w h=>bytesR b r 16 w h)
  have H2:Hid (∀ w,Rd w b (r.jump 16).s (r.jump 16).e→Calls Tryz.prog 48 #[.pointer (some ⟨b,0,none⟩),.int .i64 1] w fun x w'=>x=.returned (.int .i64 (flT r))∧Rd w' b ((r.jump 16).skip 1).s ((r.jump 16).skip 1).e∧Only b w w'):=(show ∀ w,Rd w b (r.jump 16).s (r.jump 16).e→_ from fun w h=>n1R b (r.jump 16) w z1 h)
  have H3:Hid (∀ w,Rd w b ((r.jump 16).skip 1).s ((r.jump 16).skip 1).e→Calls Tryz.prog 48 #[.pointer (some ⟨b,0,none⟩),.int .i64 1] w fun x w'=>x=.returned (.int .i64 (flC r))∧Rd w' b (((r.jump 16).skip 1).skip 1).s (((r.jump 16).skip 1).skip 1).e∧Only b w w'):=(show ∀ w,Rd w b ((r.jump 16).skip 1).s ((r.jump 16).skip 1).e→_ from fun w h=>n1R b ((r.jump 16).skip 1) w z2 h)
  have H4:Hid (∀ w,Rd w b (((r.jump 16).skip 1).skip 1).s (((r.jump 16).skip 1).skip 1).e→Calls Tryz.prog 47 #[.pointer (some ⟨b,0,none⟩),.int .i64 4] w fun x w'=>x=.returned (.string ((((r.jump 16).skip 1).skip 1).bytes 4))∧Rd w' b (flR4 r).s (flR4 r).e∧Only b w w'):=(show ∀ w,Rd w b (((r.jump 16).skip 1).skip 1).s (((r.jump 16).skip 1).skip 1).e→_ from fun w h=>bytesR b (((r.jump 16).skip 1).skip 1) 4 w h)
  have H5:Hid (∀ w,Rd w b (flR4 r).s (flR4 r).e→Calls Tryz.prog 48 #[.pointer (some ⟨b,0,none⟩),.int .i64 2] w fun x w'=>x=.returned (.int .i64 (flP r))∧Rd w' b ((flR4 r).skip 2).s ((flR4 r).skip 2).e∧Only b w w'):=(show ∀ w,Rd w b (flR4 r).s (flR4 r).e→_ from fun w h=>n2R b (flR4 r) w z4 h)
  have H6:Hid (∀ w,Rd w b ((flR4 r).skip 2).s ((flR4 r).skip 2).e→Calls Tryz.prog 47 #[.pointer (some ⟨b,0,none⟩),.int .i64 12] w fun x w'=>x=.returned (.string (((flR4 r).skip 2).bytes 12))∧Rd w' b (flR6 r).s (flR6 r).e∧Only b w w'):=(show ∀ w,Rd w b ((flR4 r).skip 2).s ((flR4 r).skip 2).e→_ from fun w h=>bytesR b ((flR4 r).skip 2) 12 w h)
  have H7:Hid (∀ w,Rd w b (flR6 r).s (flR6 r).e→Calls Tryz.prog 48 #[.pointer (some ⟨b,0,none⟩),.int .i64 2] w fun x w'=>x=.returned (.int .i64 ((flR6 r).num 2))∧Rd w' b ((flR6 r).skip 2).s ((flR6 r).skip 2).e∧Only b w w'):=(show ∀ w,Rd w b (flR6 r).s (flR6 r).e→_ from fun w h=>n2R b (flR6 r) w z6 h)
  have H8:Hid (∀ w,Rd w b ((flR6 r).skip 2).s ((flR6 r).skip 2).e→Calls Tryz.prog 47 #[.pointer (some ⟨b,0,none⟩),.int .i64 2] w fun x w'=>x=.returned (.string (((flR6 r).skip 2).bytes 2))∧Rd w' b (flR8 r).s (flR8 r).e∧Only b w w'):=(show ∀ w,Rd w b ((flR6 r).skip 2).s ((flR6 r).skip 2).e→_ from fun w h=>bytesR b ((flR6 r).skip 2) 2 w h)
  have H9:Hid (∀ w,Rd w b (flR8 r).s (flR8 r).e→Calls Tryz.prog 49 #[.pointer (some ⟨b,0,none⟩)] w fun x w'=>x=.returned (.string (flL r))∧Only b w w'):=(show ∀ w,Rd w b (flR8 r).s (flR8 r).e→_ from fun w h=>(restAll b (flR8 r) w h).mono fun _ _ ⟨h1,_,h3⟩=>⟨h1,h3⟩)
  obtain ⟨f0,f1⟩:=flN_le (flL r)
  have HM:Hid (∀ w1,Grb b w w1→Calls Tryz.prog 85 #[.string (flL r)] w1 fun e w'=>∃ a cap,e=.returned (.tuple #[.slice a (flTs (flL r)).length cap,.int .i64 (flN (flL r)),.int .i64 (flE (flL r))])∧Hid ((flTs (flL r)).length≤cap∧Mt.TsF w1.heap.size w' a (flTs (flL r)))∧Below w1.heap.size w1 w'):=(show ∀ w1,_ from fun w1 g=>(mdec_any (flL r) w1 (by omega) (g.cd hd hb4).m).mono fun _ _ ⟨a,c,h1,h2,h3,h4⟩=>⟨a,c,h1,⟨h2,h3⟩,h4⟩)
  have HI:Hid (∀ w1,Grb b w w1→Calls Tryz.prog 86 #[.int .i64 (flT r),.string ((flL r).extract (flN (flL r)).toNat (flL r).size)] w1 fun e w'=>∃ y:En,e=.returned (.tuple #[enV y,.int .i64 (decX (flT r) ((flL r).extract (flN (flL r)).toNat (flL r).size)).2])∧Hid (y.sp=(decX (flT r) ((flL r).extract (flN (flL r)).toNat (flL r).size)).1∧EF w1.heap.size w' y∧SOk y.sp)∧Below w1.heap.size w1 w'):=(show ∀ w1,_ from fun w1 g=>(decX_any (flT r) _ w1 (by rw [ByteArray.size_extract];unfold maxLen;omega) (g.cd hd hb4).a).mono fun _ _ ⟨y,h1,h2,_,h4,h5,h6⟩=>⟨y,h1,⟨h2,h4,h5⟩,h6⟩)
  have hsl:∀ w,(Instr.slice 9 (.string (flL r)) (some (.int .i64 (flN (flL r)))) none none).run Tryz.prog w=.ok (.string ((flL r).extract (flN (flL r)).toNat (flL r).size)) w:=fun w=>slice_l (flL r) _ f0 f1 w
  have HK:Hid (flK r=((flR6 r).num 2 == 2)):=(show _=_ from rfl)
  rw [HK.out]
  clear z1 z2 z3 z4 z6 z8 hd HK hs'
  generalize (decX (flT r) ((flL r).extract (flN (flL r)).toNat (flL r).size)).1=SP at *
  generalize (decX (flT r) ((flL r).extract (flN (flL r)).toNat (flL r).size)).2=SE at *
  generalize ((flL r).extract (flN (flL r)).toNat (flL r).size)=D2 at *
  generalize flTs (flL r)=TS at *
  generalize flN (flL r)=FN at *
  generalize flE (flL r)=FE at *
  generalize flL r=D at *
  generalize flT r=VT at *
  generalize flC r=VC at *
  generalize flP r=VP at *
  generalize (flR6 r).num 2=VK at *
  generalize flR8 r=R8 at *
  have n0:w.heap.size≠b:=by omega
  have q0:Wn (ex w en0) w.heap.size en0:=Wn.new w en0
  have h0:Rd (ex w en0) b r.s r.e:=h.below hb (by go_grown)
  have g0:Grb b w (ex w en0):=(Grb.refl b w).alloc _
  obtain ⟨W0,hW0⟩:∃ W0,ex w en0=W0:=⟨_,rfl⟩
  have s0:W0.heap.size=w.heap.size + 1:=by rw [← hW0];simp
  rw [hW0] at q0 h0 g0
  have HW0:Hid (w.alloc (.cells #[.int .i64 0,.int .i64 0,.slice none 0 0,.slice none 0 0,.slice none 0 0,.bool false,.int .u64 0,.int .u64 0,.int .i64 0,.int .i64 0] 26)=W0):=hW0
  clear hW0
  cases hk:VK == 2
  all_goals
    go_enter Tryz.func52,Tryz.ntmps52
    go_wp2_with fail
    rw [HW0.out]
    refine (H1.out _ h0).mono ?_
    rintro x w1 ⟨rfl,r1,o1⟩
    go_wp2_with fail
    refine (H2.out _ r1).mono ?_
    rintro x w2 ⟨rfl,r2,o2⟩
    go_wp2_with fail
    refine (H3.out _ r2).mono ?_
    rintro x w3 ⟨rfl,r3,o3⟩
    go_wp2_with fail
    refine (H4.out _ r3).mono ?_
    rintro x w4 ⟨rfl,r4,o4⟩
    go_wp2_with fail
    refine (H5.out _ r4).mono ?_
    rintro x w5 ⟨rfl,r5,o5⟩
    go_wp2_with fail
    refine (H6.out _ r5).mono ?_
    rintro x w6 ⟨rfl,r6,o6⟩
    go_wp2_with fail
    refine (H7.out _ r6).mono ?_
    rintro x w7 ⟨rfl,r7,o7⟩
    go_wp2_with fail
    refine (H8.out _ r7).mono ?_
    rintro x w8 ⟨rfl,r8,o8⟩
    go_wp2_with fail
    refine (H9.out _ r8).mono ?_
    rintro x w9 ⟨rfl,o9⟩
    have O9:=(((((((o1.trans o2).trans o3).trans o4).trans o5).trans o6).trans o7).trans o8).trans o9
    have G9:=g0.trans (Grb.only O9)
    have Q9:=q0.block (O9.block _ n0)
    have S9:w9.heap.size=w.heap.size + 1:=O9.size.trans s0
    clear o1 o2 o3 o4 o5 o6 o7 o8 o9 r1 r2 r3 r4 r5 r6 r7 r8 O9
    go_wp2_with fail
    refine (HM.out _ G9).mono ?_
    rintro x u1 ⟨ta,tc,rfl,HT,m1⟩
    have G10:=G9.trans (Grb.ofBelow (b:=b) m1)
    have Q10:=Q9.below (by omega) m1
    have S10:w.heap.size + 1≤u1.heap.size:=by have:=m1.size;omega
    go_wp2_with fail
    refine (HI.out _ G10).mono ?_
    rintro x u2 ⟨y,rfl,HY,m2⟩
    have G11:=G10.trans (Grb.ofBelow (b:=b) m2)
    have Q11:=Q10.below (by omega) m2
    have S11:w.heap.size + 1≤u2.heap.size:=by have:=m2.size;omega
    have HT2:Hid (TS.length≤tc∧Mt.TsF (w.heap.size + 1) u2 ta TS):=⟨HT.out.1,(HT.out.2.mono (by omega)).below m2⟩
    have HY2:Hid (y.sp=SP∧EF (w.heap.size + 1) u2 y∧SOk y.sp):=⟨HY.out.1,⟨HY.out.2.1.a.mono (by omega),HY.out.2.1.w.mono (by omega),HY.out.2.1.na,HY.out.2.1.nw⟩,HY.out.2.2⟩
    clear G9 G10 Q9 Q10 m1 m2 HT HY
    have B12:Bn (u2.alloc (.cells #[.int .i64 y.tab,.int .i64 VP,.slice ta TS.length tc,.slice y.aa y.la.length y.ca,.slice y.aw y.lw.length y.cw,.bool y.clr,.int .u64 y.mt,.int .u64 y.mm,.int .i64 y.met,.int .i64 y.go] 26)) u2.heap.size ({ y with pri:=VP,ta:=ta,tl:=TS.length,tc:=tc }:En):=Bn.new u2 ({ y with pri:=VP,ta:=ta,tl:=TS.length,tc:=tc }:En)
    have Q12:Wn (u2.alloc (.cells #[.int .i64 y.tab,.int .i64 VP,.slice ta TS.length tc,.slice y.aa y.la.length y.ca,.slice y.aw y.lw.length y.cw,.bool y.clr,.int .u64 y.mt,.int .u64 y.mm,.int .i64 y.met,.int .i64 y.go] 26)) w.heap.size en0:=Q11.block (heap_alloc_old _ _ (by omega))
    have G12:Grb b w (u2.alloc (.cells #[.int .i64 y.tab,.int .i64 VP,.slice ta TS.length tc,.slice y.aa y.la.length y.ca,.slice y.aw y.lw.length y.cw,.bool y.clr,.int .u64 y.mt,.int .u64 y.mm,.int .i64 y.met,.int .i64 y.go] 26)):=G11.alloc _
    have T12:Hid (TS.length≤tc∧Mt.TsF (w.heap.size + 1) (u2.alloc (.cells #[.int .i64 y.tab,.int .i64 VP,.slice ta TS.length tc,.slice y.aa y.la.length y.ca,.slice y.aw y.lw.length y.cw,.bool y.clr,.int .u64 y.mt,.int .u64 y.mm,.int .i64 y.met,.int .i64 y.go] 26)) ta TS):=⟨HT2.out.1,HT2.out.2.below (by go_grown)⟩
    have E12:Hid (EF (w.heap.size + 1) (u2.alloc (.cells #[.int .i64 y.tab,.int .i64 VP,.slice ta TS.length tc,.slice y.aa y.la.length y.ca,.slice y.aw y.lw.length y.cw,.bool y.clr,.int .u64 y.mt,.int .u64 y.mm,.int .i64 y.met,.int .i64 y.go] 26)) y):=(show EF _ _ _ from HY2.out.2.1.below (by go_grown))
    obtain ⟨W12,hW12⟩:∃ W12,u2.alloc (.cells #[.int .i64 y.tab,.int .i64 VP,.slice ta TS.length tc,.slice y.aa y.la.length y.ca,.slice y.aw y.lw.length y.cw,.bool y.clr,.int .u64 y.mt,.int .u64 y.mm,.int .i64 y.met,.int .i64 y.go] 26)=W12:=⟨_,rfl⟩
    rw [hW12] at B12 Q12 G12 T12 E12
    have HW12:Hid (u2.alloc (.cells #[.int .i64 y.tab,.int .i64 VP,.slice ta TS.length tc,.slice y.aa y.la.length y.ca,.slice y.aw y.lw.length y.cw,.bool y.clr,.int .u64 y.mt,.int .u64 y.mm,.int .i64 y.met,.int .i64 y.go] 26)=W12):=hW12
    clear hW12 Q11 G11 HT2
    have O13:Only w.heap.size W12 (sE W12 w.heap.size ({ y with pri:=VP,ta:=ta,tl:=TS.length,tc:=tc }:En)):=only_cells w.heap.size (enC ({ y with pri:=VP,ta:=ta,tl:=TS.length,tc:=tc }:En)).toList 0 W12 W12 (Only.refl w.heap.size W12)
    have F13:Bn (sE W12 w.heap.size ({ y with pri:=VP,ta:=ta,tl:=TS.length,tc:=tc }:En)) w.heap.size ({ y with pri:=VP,ta:=ta,tl:=TS.length,tc:=tc }:En):=(wn_set Q12 ({ y with pri:=VP,ta:=ta,tl:=TS.length,tc:=tc }:En)).1
    obtain ⟨V,hV⟩:∃ V,sE W12 w.heap.size ({ y with pri:=VP,ta:=ta,tl:=TS.length,tc:=tc }:En)=V:=⟨_,rfl⟩
    rw [hV] at O13 F13
    have HV:Hid (((((((((((W12.setCell ⟨w.heap.size,0,none⟩ (.int .i64 y.tab)).setCell ⟨w.heap.size,1,none⟩ (.int .i64 VP)).setCell ⟨w.heap.size,2,none⟩ (.slice ta TS.length tc)).setCell ⟨w.heap.size,3,none⟩ (.slice y.aa y.la.length y.ca)).setCell ⟨w.heap.size,4,none⟩ (.slice y.aw y.lw.length y.cw)).setCell ⟨w.heap.size,5,none⟩ (.bool y.clr)).setCell ⟨w.heap.size,6,none⟩ (.int .u64 y.mt)).setCell ⟨w.heap.size,7,none⟩ (.int .u64 y.mm)).setCell ⟨w.heap.size,8,none⟩ (.int .i64 y.met)).setCell ⟨w.heap.size,9,none⟩ (.int .i64 y.go))=V):=hV
    clear hV
    have HF:Hid (Bn V.drew w.heap.size ({ y with pri:=VP,ta:=ta,tl:=TS.length,tc:=tc }:En)):=(show Bn _ _ _ from F13.block rfl)
    have HG:Hid (Grb b w V.drew):=(show Grb _ _ _ from (G12.onlyNew O13 (Nat.le_refl _)).drew)
    have HT:Hid (Mt.TsF (w.heap.size + 1) V.drew ta TS):=(show Mt.TsF _ _ _ _ from T12.out.2.keep (Nat.le_of_eq O13.size.symm) (fun g hg _=>O13.block g (by omega)))
    have HE:Hid (EF (w.heap.size + 1) V.drew ({ y with pri:=VP,ta:=ta,tl:=TS.length,tc:=tc }:En)):=(show EF _ _ _ from ⟨E12.out.a.keep (Nat.le_of_eq O13.size.symm) (fun g hg _=>O13.block g (by omega)),E12.out.w.keep (Nat.le_of_eq O13.size.symm) (fun g hg _=>O13.block g (by omega)),E12.out.na,E12.out.nw⟩)
    clear F13
    clear O13 G12 E12
    obtain ⟨c0,c1,c2,c3,c4,c5,c6,c7,c8,c9⟩:=B12
    obtain ⟨⟨d0,d1,d2,d3,d4,d5,d6,d7,d8,d9⟩,df⟩:=Q12
    go_wp2_with fail
    rw [HW12.out]
    go_region
    rw [HV.out]
    clear c0 c1 c2 c3 c4 c5 c6 c7 c8 c9 d0 d1 d2 d3 d4 d5 d6 d7 d8 d9 df
    go_wp2_with fail
    refine bodyPost_ret (resFl (b:=w.heap.size) (x:=({ y with pri:=VP,ta:=ta,tl:=TS.length,tc:=tc }:En)) rfl rfl HF.out) rfl ?_
    exact ⟨({ y with pri:=VP,ta:=ta,tl:=TS.length,tc:=tc }:En),rfl,HY2.out.1,rfl,rfl,T12.out.1,HT.out.mono (by omega),⟨HE.out.a.mono (by omega),HE.out.w.mono (by omega),HE.out.na,HE.out.nw⟩,HY2.out.2.2,HG.out⟩
set_option linter.unusedSimpArgs false
def hdK (d:ByteArray):Int:=((⟨d,0⟩:RS).jump 1).num 1
def hdX (d:ByteArray):Int:=((((⟨d,0⟩:RS).jump 1).skip 1).jump 2).num 4
def hdR (d:ByteArray):RS:=((((⟨d,0⟩:RS).jump 1).skip 1).jump 2).skip 4
def msg0 (k x:Int):Msg:=⟨k,x,0,false,0,[],sp0,0,0,[],0,0,0,0,0,0,false,[],⟨#[]⟩⟩
def readM (d:ByteArray):Msg :=
 if hdK d=1 then { msg0 (hdK d) (hdX d) with typ:=(hdR d).num 2,cod:=((hdR d).skip 2).num 2,dat:=(((hdR d).skip 2).skip 2).all }
 else if hdK d=2∨hdK d=3 then { msg0 (hdK d) (hdX d) with dat:=(hdR d).all }
 else if hdK d=12 then { msg0 (hdK d) (hdX d) with prt:=((hdR d).jump 8).num 4,live:=(((((hdR d).jump 8).skip 4).jump 32).num 4 == 0) }
 else if hdK d=13 then { msg0 (hdK d) (hdX d) with prt:=((hdR d).jump 4).num 4,la:=pkA (hdR d),dat:=pkD (hdR d) }
 else if hdK d=14 then { msg0 (hdK d) (hdX d) with cmd:=flC (hdR d),chk:=flK (hdR d),pri:=flP (hdR d),ts:=flTs (flL (hdR d)),sp:=(decX (flT (hdR d)) ((flL (hdR d)).extract (flN (flL (hdR d))).toNat (flL (hdR d)).size)).1 }
 else if hdK d=15 then { msg0 (hdK d) (hdX d) with cmd:=(hdR d).num 2,gid:=gpI (hdR d),gkd:=gpK (hdR d),gb:=gpB (hdR d) }
 else if hdK d=29 then { msg0 (hdK d) (hdX d) with cmd:=(mtV (hdR d)).1,mid:=(mtV (hdR d)).2.1,mra:=(mtV (hdR d)).2.2.1,mbu:=(mtV (hdR d)).2.2.2 }
 else msg0 (hdK d) (hdX d)
theorem aw_right {a:A} (h:rightB a=true):AW a:=by
 rcases right_cases h with ⟨h1,h2,h3,h4⟩ | ⟨h1,h2,h3,h4⟩ | ⟨h1,h2,h3⟩ | ⟨h1,h2,h3⟩ | ⟨h1,h2,h3,h4⟩
 ·exact ⟨by omega,by omega,by omega,by omega⟩
 ·exact ⟨by omega,by omega,by omega,by omega⟩
 ·exact ⟨by omega,by omega,by omega,by omega⟩
 ·exact ⟨by omega,by omega,by omega,by omega⟩
 ·have:=grV_lt a.2.1
  have:0≤leastV a.2.1:=by unfold leastV;split <;> omega
  exact ⟨by omega,by omega,by omega,by omega⟩
theorem aws_of {l:List A} (h:encodeE l=0):AWs l:=fun a ha=>by
 obtain ⟨h1,_,_⟩:=okA_few (l:=l) (by simp [okA,h])
 unfold allB at h1
 exact aw_right (List.all_eq_true.1 h1 a ha)
theorem acts_aw (d:ByteArray):AWs (actsV d):=by
 unfold actsV
 by_cases h:(decR d).2=0
 ·exact aws_of (enc_dec d h).1
 ·rw [decR_bad d h];intro a ha;cases ha
theorem rightX_lists {s:Sp} (h:rightX s=0):encodeE s.la=0∧encodeE s.lw=0:=by
 unfold rightX at h
 split at h
 ·cases h
 ·split at h
  ·next h'=>exact absurd h h'
  ·next h1 =>
   split at h
   ·next h'=>exact absurd h h'
   ·next h2=>exact ⟨by simpa using h1,by simpa using h2⟩
theorem decX_aw (t:Int) (d:ByteArray):AWs (decX t d).1.la∧AWs (decX t d).1.lw:=by
 by_cases h:(decX t d).2=0
 ·obtain ⟨h1,_,_⟩:=encX_dec t d h
  obtain ⟨h2,h3⟩:=rightX_lists h1
  exact ⟨aws_of h2,aws_of h3⟩
 ·rw [decX_bad t d h]
  exact ⟨(fun a ha=>by cases ha),(fun a ha=>by cases ha)⟩
theorem bm_set1 {w:World} {b:Nat} {m:Ms} (h:Bm w b m) (k:Nat) (v:Value) (m':Ms) (hk:k < 26) (e:(msC m').toList=(msC m).toList.set k v):Bm (w.setCell ⟨b,k,none⟩ v) b m':=fun j u hu=>by
 rw [e,List.getElem?_set] at hu
 by_cases hj:k=j
 ·subst hj
  rw [if_pos rfl,if_pos (show k < (msC m).toList.length from hk)] at hu
  obtain ⟨x,hx⟩:∃ x,(msC m).toList[k]? = some x:=⟨_,List.getElem?_eq_getElem (show k < (msC m).toList.length from hk)⟩
  have:=h k x hx
  rw [Nat.zero_add] at this ⊢
  cases hu
  exact World.cell?_setCell_same _ _ _ this
 ·rw [if_neg hj] at hu
  have:=h j u hu
  rw [Nat.zero_add] at this ⊢
  exact (World.cell?_setCell_other _ _ _ _ (by simp [hj])).trans this
theorem there_set1 {w:World} {b c n:Nat} (h:w.there b 0 n) (k:Nat) (v:Value):(w.setCell ⟨c,k,none⟩ v).there b 0 n:=World.there_setCells h c k [v]
theorem bm_mid {w:World} {b:Nat} {m:Ms} (h:Bm w b m) (ht:w.there b 0 26) (k:Nat) (vs:List Value) (m':Ms) (hk:k + vs.length≤26) (e:(msC m').toList=(msC m).toList.take k ++ (vs ++ (msC m).toList.drop (k + vs.length))):Bm (w.setCells b k vs) b m':=fun j u hu=>by
 have hl:(msC m).toList.length=26:=rfl
 have ht':w.there b k vs.length:=fun i hi=>by have:=ht (k + i) (by omega);rwa [Nat.zero_add] at this
 rw [e] at hu
 by_cases h1:j < k
 ·rw [List.getElem?_append_left (by simp;omega),List.getElem?_take_of_lt h1] at hu
  have:=h j u hu
  rw [World.cell?_setCells_out b vs k w _ (fun _ _=>.inl (by show 0 + j < k;omega))]
  exact this
 ·rw [List.getElem?_append_right (by simp;omega)] at hu
  have e1:(List.take k (msC m).toList).length=k:=by simp;omega
  rw [e1] at hu
  by_cases h2:j - k < vs.length
  ·rw [List.getElem?_append_left h2] at hu
   have:=World.rangeAt_setCells_same w b k vs ht' (j - k) u hu
   rwa [show k + (j - k)=0 + j by omega] at this
  ·rw [List.getElem?_append_right (by omega),List.getElem?_drop] at hu
   have e2:k + vs.length + (j - k - vs.length)=j:=by omega
   rw [e2] at hu
   rw [World.cell?_setCells_out b vs k w _ (fun _ _=>.inr (by show k + vs.length≤0 + j;omega))]
   exact h j u hu
end Go.Proofs.YtlcbfdiohcbpbaaGreatDoor

import Derived.Test.YtgnihbdcdefdgaaGreatDoorX11
import Derived.Test.YtgnihbdcdefdgaaGreatDoorRows
import Derived.WalkKit
import Derived.ProofKit
import Derived.OpenShut
import Derived.Handy
import Derived.Deep.QuietTactic
import Derived.BigQuiet
import Derived.Test.YtgnihbdcdefdgaaGreatDoorX04
import Derived.Test.YtgnihbdcdefdgaaGreatDoorX08
import Derived.Test.YtgnihbdcdefdgaaGreatDoorX10
import Derived.Deep.MidRow
import Derived.Laws.AppendOwn
import Derived.Laws.OwnMore
set_option maxHeartbeats 2000000
set_option linter.unusedSimpArgs false
set_option linter.unusedVariables false
open Go.ChangeShapes Go.WideShapes Go.ChangeAt Go.RowKit
open Go.Proofs.Tryz
namespace Go.Proofs.YtgnihbdcdefdgaaGreatDoor
namespace Fr
structure At (w:World) (p:Pk) (a b:Int) (w1:World):Prop where
 pk:Bx w1 w.heap.size p
 sm:Sx w1 (w.heap.size+1) a b
 gr:Below w.heap.size w w1
 lt:w.heap.size+1<w1.heap.size
theorem At.next {w:World} {p:Pk} {a b:Int} {w1 w2:World} (h:At w p a b w1) (g:Below w1.heap.size w1 w2):At w p a b w2 :=
 have h':=h.lt
 ⟨h.pk.below (by omega) g,h.sm.below h' g,btr h.gr g (Nat.le_refl _),Nat.lt_of_lt_of_le h' g.size⟩
theorem At.new (w:World) (p:Pk) (a b:Int):At w p a b ((bx w p).alloc (.cells #[.int .i64 a,.int .i64 b] 216)) :=
 have gb:Below (bx w p).heap.size (bx w p) ((bx w p).alloc (.cells #[.int .i64 a,.int .i64 b] 216)):=by go_grown
 ⟨(Bx.new w p).below (by simp[bx]) gb,by unfold Sx bx;simp,by go_grown,by simp[bx]⟩
theorem write_any (p:Pk) (a b:Int) (w:World) (h:Ok p) (a0:0≤a) (a1:a≤65535) (b0:0≤b) (b1:b≤65535) :
 Calls prog 148 #[pkV p,.agg #[.int .i64 a,.int .i64 b]] w fun x w'=>x=.returned (.string (writeV p a b))∧Below w.heap.size w w':=by
 have hz:∀ n k,(pb n k).size=k:=pb_size;have hhs:=headV_size p a;have hps:=partV_size p b;have HO:Hid (Ok p):=h;have t0:=h.to0;have t1:=h.to1;have f0:=h.fr0;have f1:=h.fr1;have y0:=h.ty0;have y1:=h.ty1;have hd:(p.data.size:Int)≤3000:=by have:=h.sz;omega
 have hq:(partZ p:Int)≤3020:=by have:=h.sz;have:=partA_le p;unfold partZ;omega
 have HV:=h.vl;clear h;have HA:Hid (At w p a b ((bx w p).alloc (.cells #[.int .i64 a,.int .i64 b] 216))):=At.new w p a b;unfold writeV outerV;by_cases hv:p.vl=0
 ·have bv:(p.vl != 0)=false:=by simp[hv]
  rw[if_pos hv];clear hv HV;by_cases ht:p.ty=2048
  ·have bt:(p.ty != 2048)=false:=by simp[ht]
   rw[if_pos ht];clear ht;go_enter func148,ntmps148;go_wp2_with fail;have hc:∀ n:GrT ((bx w p).alloc (.cells #[.int .i64 a,.int .i64 b] 216)),Bx n.w w.heap.size p:=fun n=>(HA.out.next n.h).pk;refine wp_region_grow (by kernel_rfl) (by kernel_rfl) ?_;repeat (go_big_quiet_step (first|(go_at_call 198;exact quiet_gr (put6 _ _ (by assumption) (by assumption)))))
   refine wpQuiet_nil ?_;rintro w1 hw';have gw1:=gr_elim hw';clear hw';have Hw1:=HA.out.next gw1;clear hc gw1;obtain⟨h0,h1,h2,h3,h4,h5,h6,h7,h8,h9,h10⟩:=Hw1.pk;go_wp2_with fail;refine(two_any _ _ (by omega) (by omega)).mono ?_;rintro x w2 ⟨rfl,g2⟩;have Hw2:=Hw1.next g2;clear g2 h0 h1 h2 h3 h4 h5 h6 h7 h8 h9 h10;obtain⟨h0,h1,h2,h3,h4,h5,h6,h7,h8,h9,h10⟩:=Hw2.pk;go_wp2_with fail;clear h0 h1 h2 h3 h4 h5 h6 h7 h8 h9 h10;have hc:∀ n:GrT w2,Bx n.w w.heap.size p:=fun n=>(Hw2.next n.h).pk;have hs:∀ n:GrT w2,Sx n.w (w.heap.size+1) a b:=fun n=>(Hw2.next n.h).sm;refine wp_region_grow (by kernel_rfl) (by kernel_rfl) ?_;repeat (go_big_quiet_step (first|(go_at_call 200;exact quiet_gr (head_any p a _ HO.out a0 a1))|(go_at_call 201;exact quiet_gr (part_any p b _ HO.out b0 b1))))
   refine wpQuiet_nil ?_;rintro w4 hw';have gw4:=gr_elim hw';clear hw';have Hw4:=Hw2.next gw4;clear hc gw4;go_wp2;go_ret;exact⟨rfl,Hw4.gr⟩
  ·have bt:(p.ty != 2048)=true:=by simp[ht]
   rw[if_neg ht];clear ht;go_enter func148,ntmps148;go_wp2_with fail;have hc:∀ n:GrT ((bx w p).alloc (.cells #[.int .i64 a,.int .i64 b] 216)),Bx n.w w.heap.size p:=fun n=>(HA.out.next n.h).pk;refine wp_region_grow (by kernel_rfl) (by kernel_rfl) ?_;repeat (go_big_quiet_step (first|(go_at_call 198;exact quiet_gr (put6 _ _ (by assumption) (by assumption)))))
   refine wpQuiet_nil ?_;rintro w1 hw';have gw1:=gr_elim hw';clear hw';have Hw1:=HA.out.next gw1;clear hc gw1;obtain⟨h0,h1,h2,h3,h4,h5,h6,h7,h8,h9,h10⟩:=Hw1.pk;go_wp2_with fail;refine(two_any _ _ (by omega) (by omega)).mono ?_;rintro x w2 ⟨rfl,g2⟩;have Hw2:=Hw1.next g2;clear g2 h0 h1 h2 h3 h4 h5 h6 h7 h8 h9 h10;obtain⟨h0,h1,h2,h3,h4,h5,h6,h7,h8,h9,h10⟩:=Hw2.pk;go_wp2;go_ret;exact⟨rfl,Hw2.gr⟩
 ·have bv:(p.vl != 0)=true:=by simp[hv]
  have v0:4096≤p.vl:=by omega
  have v1:p.vl≤8191:=by omega
  rw[if_neg hv];clear hv HV;by_cases ht:p.ty=2048
  ·have bt:(p.ty != 2048)=false:=by simp[ht]
   rw[if_pos ht];clear ht;go_enter func148,ntmps148;go_wp2_with fail;have hc:∀ n:GrT ((bx w p).alloc (.cells #[.int .i64 a,.int .i64 b] 216)),Bx n.w w.heap.size p:=fun n=>(HA.out.next n.h).pk;refine wp_region_grow (by kernel_rfl) (by kernel_rfl) ?_;repeat (go_big_quiet_step (first|(go_at_call 198;exact quiet_gr (put6 _ _ (by assumption) (by assumption)))))
   refine wpQuiet_nil ?_;rintro w1 hw';have gw1:=gr_elim hw';clear hw';have Hw1:=HA.out.next gw1;clear hc gw1;obtain⟨h0,h1,h2,h3,h4,h5,h6,h7,h8,h9,h10⟩:=Hw1.pk;go_wp2_with fail;clear h0 h1 h2 h3 h4 h5 h6 h7 h8 h9 h10;have hc:∀ n:GrT w1,Bx n.w w.heap.size p:=fun n=>(Hw1.next n.h).pk;refine wp_region_grow (by kernel_rfl) (by kernel_rfl) ?_;repeat (go_big_quiet_step (first|(go_at_call 199;exact quiet_gr (two_any _ _ (by omega) (by omega)))))
   refine wpQuiet_nil ?_;rintro w3 hw';have gw3:=gr_elim hw';clear hw';have Hw3:=Hw1.next gw3;clear hc gw3;obtain⟨h0,h1,h2,h3,h4,h5,h6,h7,h8,h9,h10⟩:=Hw3.pk;go_wp2_with fail;refine(two_any _ _ (by omega) (by omega)).mono ?_;rintro x w2 ⟨rfl,g2⟩;have Hw2:=Hw3.next g2;clear g2 h0 h1 h2 h3 h4 h5 h6 h7 h8 h9 h10;obtain⟨h0,h1,h2,h3,h4,h5,h6,h7,h8,h9,h10⟩:=Hw2.pk;go_wp2_with fail;clear h0 h1 h2 h3 h4 h5 h6 h7 h8 h9 h10;have hc:∀ n:GrT w2,Bx n.w w.heap.size p:=fun n=>(Hw2.next n.h).pk;have hs:∀ n:GrT w2,Sx n.w (w.heap.size+1) a b:=fun n=>(Hw2.next n.h).sm;refine wp_region_grow (by kernel_rfl) (by kernel_rfl) ?_;repeat (go_big_quiet_step (first|(go_at_call 200;exact quiet_gr (head_any p a _ HO.out a0 a1))|(go_at_call 201;exact quiet_gr (part_any p b _ HO.out b0 b1))))
   refine wpQuiet_nil ?_;rintro w4 hw';have gw4:=gr_elim hw';clear hw';have Hw4:=Hw2.next gw4;clear hc gw4;go_wp2;go_ret;exact⟨rfl,Hw4.gr⟩
  ·have bt:(p.ty != 2048)=true:=by simp[ht]
   rw[if_neg ht];clear ht;go_enter func148,ntmps148;go_wp2_with fail;have hc:∀ n:GrT ((bx w p).alloc (.cells #[.int .i64 a,.int .i64 b] 216)),Bx n.w w.heap.size p:=fun n=>(HA.out.next n.h).pk;refine wp_region_grow (by kernel_rfl) (by kernel_rfl) ?_;repeat (go_big_quiet_step (first|(go_at_call 198;exact quiet_gr (put6 _ _ (by assumption) (by assumption)))))
   refine wpQuiet_nil ?_;rintro w1 hw';have gw1:=gr_elim hw';clear hw';have Hw1:=HA.out.next gw1;clear hc gw1;obtain⟨h0,h1,h2,h3,h4,h5,h6,h7,h8,h9,h10⟩:=Hw1.pk;go_wp2_with fail;clear h0 h1 h2 h3 h4 h5 h6 h7 h8 h9 h10;have hc:∀ n:GrT w1,Bx n.w w.heap.size p:=fun n=>(Hw1.next n.h).pk;refine wp_region_grow (by kernel_rfl) (by kernel_rfl) ?_;repeat (go_big_quiet_step (first|(go_at_call 199;exact quiet_gr (two_any _ _ (by omega) (by omega)))))
   refine wpQuiet_nil ?_;rintro w3 hw';have gw3:=gr_elim hw';clear hw';have Hw3:=Hw1.next gw3;clear hc gw3;obtain⟨h0,h1,h2,h3,h4,h5,h6,h7,h8,h9,h10⟩:=Hw3.pk;go_wp2_with fail;refine(two_any _ _ (by omega) (by omega)).mono ?_;rintro x w2 ⟨rfl,g2⟩;have Hw2:=Hw3.next g2;clear g2 h0 h1 h2 h3 h4 h5 h6 h7 h8 h9 h10;obtain⟨h0,h1,h2,h3,h4,h5,h6,h7,h8,h9,h10⟩:=Hw2.pk;go_wp2;go_ret;exact⟨rfl,Hw2.gr⟩
theorem bytesP_any (p:Pk) (w:World) (h:Wf p) (hs:p.data.size≤3000) :
 Calls prog 106 #[pkV p] w fun x w'=>x=.returned (.tuple #[.string (bytesS p),.int .i64 (bytesE p)])∧Below w.heap.size w w':=by
 unfold bytesS bytesE;have hal:=aheadV_le p;have HW:Hid (Wf p):=h;clear h;cases hr:rightB p
 ·rw[if_neg (by simp),if_neg (by simp)];go_enter func106,ntmps106;go_wp2_with fail;refine(rightP_any p _).mono ?_;rintro x w1 ⟨rfl,g1⟩;go_wp2_with fail;go_ret2
  exact⟨rfl,btr (by go_grown) g1 (by simp)⟩
 ·have HO:Hid (Ok p):=Ok.of_right HW.out hr hs;rw[if_pos rfl];have hs':(p.data.size:Int)≤3000:=by omega
  by_cases hg:aheadV p+p.data.size≤1500
  ·rw[if_pos ⟨rfl,hg⟩,if_pos hg];have hg' : ¬ (1500:Int)-(aheadV p:Int)<(p.data.size:Int):=by omega
   go_enter func106,ntmps106;go_wp2_with fail;refine(rightP_any p _).mono ?_;rintro x w1 ⟨rfl,g1⟩;have hb:=(Bx.new w p).below (by simp) g1;have hl:w.heap.size<w1.heap.size:=Nat.lt_of_lt_of_le (by simp) g1.size;have gw:Below w.heap.size w w1:=btr (by go_grown) g1 (by simp);clear g1;have HB:Hid (Bx w1 w.heap.size p):=hb;obtain⟨h0,h1,h2,h3,h4,h5,h6,h7,h8,h9,h10⟩:=hb;go_wp2_with fail;clear h0 h1 h2 h3 h4 h5 h6 h7 h8 h9 h10;have hc:∀ n:GrT w1,Bx n.w w.heap.size p:=fun n=>HB.out.below hl n.h;refine wp_region_grow (by kernel_rfl) (by kernel_rfl) ?_;repeat (go_big_quiet_step (first|(go_at_call 147;exact quiet_gr (ahead_any p _))))
   refine wpQuiet_nil ?_;rintro w2 hw';have g2:=gr_elim hw';clear hw';have hb2:Bx w2 w.heap.size p:=hc (some ⟨_,g2⟩);have HB2:Hid (Bx w2 w.heap.size p):=hb2;have hl2:w.heap.size<w2.heap.size:=Nat.lt_of_lt_of_le hl g2.size;clear hc hb2;go_wp2_with fail;have hc:∀ n:GrT w2,Bx n.w w.heap.size p:=fun n=>HB2.out.below hl2 n.h;refine wp_region_grow (by kernel_rfl) (by kernel_rfl) ?_;have hA:=sumA_le p;have hB:=sumB_le p;repeat (go_big_quiet_step (first|(go_at_call 149;exact quiet_gr (sumsOf_any p _ HO.out))|(go_at_call 148;exact quiet_gr (write_any p _ _ _ HO.out (by omega) (by omega) (by omega) (by omega)))))
   refine wpQuiet_nil ?_;rintro w3 hw';have g3:=gr_elim hw';clear hw';go_wp2;go_ret2
   exact⟨rfl,btr (btr gw g2 (Nat.le_refl _)) g3 (Nat.le_refl _)⟩
  ·rw[if_neg (fun x=>hg x.2),if_neg hg];have hg':(1500:Int)-(aheadV p:Int)<(p.data.size:Int):=by omega
   go_enter func106,ntmps106;go_wp2_with fail;refine(rightP_any p _).mono ?_;rintro x w1 ⟨rfl,g1⟩;have hb:=(Bx.new w p).below (by simp) g1;have hl:w.heap.size<w1.heap.size:=Nat.lt_of_lt_of_le (by simp) g1.size;have gw:Below w.heap.size w w1:=btr (by go_grown) g1 (by simp);clear g1;have HB:Hid (Bx w1 w.heap.size p):=hb;obtain⟨h0,h1,h2,h3,h4,h5,h6,h7,h8,h9,h10⟩:=hb;go_wp2_with fail;clear h0 h1 h2 h3 h4 h5 h6 h7 h8 h9 h10;have hc:∀ n:GrT w1,Bx n.w w.heap.size p:=fun n=>HB.out.below hl n.h;refine wp_region_grow (by kernel_rfl) (by kernel_rfl) ?_;repeat (go_big_quiet_step (first|(go_at_call 147;exact quiet_gr (ahead_any p _))))
   refine wpQuiet_nil ?_;rintro w2 hw';have g2:=gr_elim hw';clear hw';clear hc;go_wp2_with fail;go_ret2
   exact⟨rfl,btr gw g2 (Nat.le_refl _)⟩
end Fr
namespace Me
structure Bk (w:World) (b:Nat) (r m l:Int):Prop where
 c0:w.cell? ⟨b,0,none⟩=some (.int .i64 r)
 c1:w.cell? ⟨b,1,none⟩=some (.int .i64 m)
 c2:w.cell? ⟨b,2,none⟩=some (.int .i64 l)
 f2:w.frozen? ⟨b,2,none⟩=false
structure Only (b:Nat) (w w':World):Prop where
 os:w'.os=w.os
 tape:w'.tape=w.tape
 output:w'.output=w.output
 size:w'.heap.size=w.heap.size
 block:∀ k,k≠b→w'.heap[k]? = w.heap[k]?
theorem Only.refl (b:Nat) (w:World):Only b w w:=⟨rfl,rfl,rfl,rfl,fun _ _=>rfl⟩
theorem Only.drew {b:Nat} {w w':World} (h:Only b w w'):Only b w w'.drew:=⟨h.os,h.tape,h.output,h.size,h.block⟩
theorem Only.trans {b:Nat} {w w' w'':World} (h:Only b w w') (k:Only b w' w''):Only b w w'' :=
 ⟨k.os.trans h.os,k.tape.trans h.tape,k.output.trans h.output,k.size.trans h.size,fun i hi=>(k.block i hi).trans (h.block i hi)⟩
theorem Only.setCell {b:Nat} {w w':World} (h:Only b w w') (o:Nat) (v:Value):Only b w (w'.setCell ⟨b,o,none⟩ v) :=
 ⟨h.os,h.tape,h.output,by simp[World.setCell,h.size],fun k hk=>(Below.heap_setCell _ _ _ _ hk).trans (h.block k hk)⟩
theorem Only.below {b:Nat} {w w' a:World} (h:Only b w w') (hb:a.heap.size≤b) (g:Below a.heap.size a w):Below a.heap.size a w' :=
 g.trans ⟨h.os,h.tape,h.output,by rw[h.size];exact Nat.le_refl _,fun k hk=>h.block k (by omega)⟩
theorem Bk.only {b c:Nat} {w w':World} {r m l:Int} (k:Bk w c r m l) (h:Only b w w') (hne:c≠b):Bk w' c r m l :=
 ⟨(World.cell?_of_block (w:=w) (h.block c hne)).trans k.c0,(World.cell?_of_block (w:=w) (h.block c hne)).trans k.c1,
  (World.cell?_of_block (w:=w) (h.block c hne)).trans k.c2,(World.frozen?_of_block (w:=w) (h.block c hne)).trans k.f2⟩
theorem Bk.drew {w:World} {b:Nat} {r m l:Int} (k:Bk w b r m l):Bk w.drew b r m l:=⟨k.c0,k.c1,k.c2,k.f2⟩
theorem Bk.below {B b:Nat} {w w':World} {r m l:Int} (k:Bk w b r m l) (h:Below B w w') (hb:b<B):Bk w' b r m l :=
 ⟨(h.cell (p:=⟨b,_,none⟩) hb).trans k.c0,(h.cell (p:=⟨b,_,none⟩) hb).trans k.c1,(h.cell (p:=⟨b,_,none⟩) hb).trans k.c2,(h.frozen (p:=⟨b,_,none⟩) hb).trans k.f2⟩
theorem Bk.new (w:World) (r m l:Int) (T:TypeId):Bk (w.alloc (.cells #[.int .i64 r,.int .i64 m,.int .i64 l] T)) w.heap.size r m l :=
 ⟨by simp,by simp,by simp,by simp⟩
theorem Bk.set {w:World} {b:Nat} {r m l:Int} (k:Bk w b r m l) (n:Int):Bk (w.setCell ⟨b,2,none⟩ (.int .i64 n)) b r m n:=by
 obtain⟨c0,c1,c2,f2⟩:=k;exact⟨(World.cell?_setCell_other _ _ _ _ (by simp)).trans c0,(World.cell?_setCell_other _ _ _ _ (by simp)).trans c1,World.cell?_setCell_same _ _ _ c2,by simp[f2]⟩
structure Fit (r m l:Int):Prop where
 r0:0≤r
 r1:r≤4294967295
 l0:0≤l
 lm:l≤m
 m1:m≤4294967295
def tickL (r m l t:Int):Int:=if t<0 then l else if m≤l+r*t then m else l+r*t
def takeL (l n:Int):Int:=if 0≤n∧n≤l then l-n else l
def takB (l n:Int):Bool:=decide (0≤n)&&decide (n≤l)
def argE (n:Int):Int:=if n<0 then 1 else 0
def filB (r m l t:Int):Bool:=decide (0<r)&&decide ((m-l)/r<t)
theorem Fit.tick {r m l:Int} (f:Fit r m l) (t:Int):Fit r m (tickL r m l t):=by
 obtain⟨a,b,c,d,e⟩:=f;unfold tickL;split
 ·exact⟨a,b,c,d,e⟩
 ·rename_i h;have:=Int.mul_nonneg a (by omega:0≤t);split
  ·exact⟨a,b,by omega,by omega,e⟩
  ·exact⟨a,b,by omega,by omega,e⟩
theorem Fit.take {r m l:Int} (f:Fit r m l) (n:Int):Fit r m (takeL l n):=by
 obtain⟨a,b,c,d,e⟩:=f;unfold takeL;split<;>exact⟨a,b,by omega,by omega,e⟩
theorem fil_no {r m l t:Int} (f:Fit r m l) (ht:0≤t) (h:filB r m l t=false):0≤r*t∧r*t≤m-l∧tickL r m l t=l+r*t:=by
 obtain⟨a,b,c,d,e⟩:=f;have h0:=Int.mul_nonneg a ht;have h1:r*t≤m-l:=by
  unfold filB at h;by_cases hr:0<r
  ·simp only[hr,decide_true,Bool.true_and,decide_eq_false_iff_not]at h;have h2 : ¬ (m-l<t*r):=fun x=>h ((Int.ediv_lt_iff_lt_mul hr).mpr x);have h3:t*r=r*t:=Int.mul_comm t r;omega
  ·have hz:r=0:=by omega
   subst hz;simp;omega
 refine⟨h0,h1,?_⟩;unfold tickL;rw[if_neg (by omega)];split
 ·omega
 ·rfl
def mayB (n:Int):Bool:=decide (0≤n)&&decide (n≤4294967295)
theorem mayBe_any (n:Int) (w:World) :
 Calls prog 61 #[.int .i64 n] w fun x w'=>x=.returned (.bool (mayB n))∧w'=w:=by
 unfold mayB;by_cases h1:0≤n<;>by_cases h2:n≤4294967295 <;>
 ·simp only[h1,h2,decide_true,decide_false,Bool.and_true,Bool.and_false];go_enter func61,ntmps61;go_wp2;go_ret;exact⟨rfl,rfl⟩
theorem new_no (r m:Int) (w:World) (h:(mayB r&&mayB m)=false) :
 Calls prog 29 #[.int .i64 r,.int .i64 m] w fun x w'=>x=.returned (.tuple #[.pointer none,.int .i64 1])∧w'=w:=by
 cases h1:mayB r
 ·clear h;go_enter func29,ntmps29;go_wp2_with (go_at_call 61;refine(mayBe_any _ _).mono ?_;rintro x w' ⟨rfl,rfl⟩);go_ret2
  exact⟨rfl,rfl⟩
 ·have h2:mayB m=false:=by simpa [h1]using h
  clear h;go_enter func29,ntmps29;go_wp2_with (go_at_call 61;refine(mayBe_any _ _).mono ?_;rintro x w' ⟨rfl,rfl⟩);go_ret2
  exact⟨rfl,rfl⟩
theorem new_yes (r m:Int) (w:World) (h1:mayB r=true) (h2:mayB m=true) :
 Calls prog 29 #[.int .i64 r,.int .i64 m] w fun x w'=>x=.returned (.tuple #[.pointer (some ⟨w.heap.size,0,none⟩),.int .i64 0])∧w'=w.alloc (.cells #[.int .i64 r,.int .i64 m,.int .i64 m] 116):=by
 go_enter func29,ntmps29;go_wp2_with (go_at_call 61;refine(mayBe_any _ _).mono ?_;rintro x w' ⟨rfl,rfl⟩);go_ret2
 exact⟨rfl,rfl⟩
theorem mayB_fit {r m:Int} (h1:mayB r=true) (h2:mayB m=true):Fit r m m:=by
 unfold mayB at h1 h2;simp only[Bool.and_eq_true,decide_eq_true_eq]at h1 h2;exact⟨h1.1,h1.2,h2.1,Int.le_refl _,h2.2⟩
theorem take_any (b:Nat) (r m l n:Int) (w:World) (k:Bk w b r m l) (f:Fit r m l) :
 Calls prog 107 #[.pointer (some ⟨b,0,none⟩),.int .i64 n] w fun x w'=>x=.returned (.tuple #[.bool (takB l n),.int .i64 (argE n)])∧Bk w' b r m (takeL l n)∧Only b w w':=by
 have K:=k;obtain⟨c0,c1,c2,fz⟩:=k;obtain⟨f1,f2,f3,f4,f5⟩:=f;by_cases hn:n<0
 ·have e1:argE n=1:=if_pos hn;have e2:takeL l n=l:=if_neg (by omega);have e3:takB l n=false:=by unfold takB;simp;omega
  rw[e1,e2,e3];clear e1 e2 e3;go_enter func107,ntmps107;go_wp2;go_ret2
  exact⟨rfl,K,Only.refl _ _⟩
 ·have e1:argE n=0:=if_neg hn;rw[e1];clear e1;by_cases hl:n≤l
  ·have e2:takeL l n=l-n:=if_pos ⟨by omega,hl⟩;have e3:takB l n=true:=by unfold takB;simp;omega
   rw[e2,e3];clear e2 e3;go_enter func107,ntmps107;go_wp2;go_ret2
   exact⟨rfl,K.set _,(Only.refl _ _).setCell _ _⟩
  ·have e2:takeL l n=l:=if_neg (by omega);have e3:takB l n=false:=by unfold takB;simp;omega
   rw[e2,e3];clear e2 e3;go_enter func107,ntmps107;go_wp2;go_ret2
   exact⟨rfl,K,Only.refl _ _⟩
theorem left_any (b:Nat) (r m l:Int) (w:World) (k:Bk w b r m l) :
 Calls prog 17 #[.pointer (some ⟨b,0,none⟩)] w fun x w'=>x=.returned (.int .i64 l)∧w'=w:=by
 obtain⟨c0,c1,c2,fz⟩:=k;go_enter func17,ntmps17;go_wp2;go_ret;exact⟨rfl,rfl⟩
theorem left_nil (w:World):Calls prog 17 #[.pointer none] w fun x w'=>x=.returned (.int .i64 0)∧w'=w:=by
 go_enter func17,ntmps17;go_wp2;go_ret;exact⟨rfl,rfl⟩
end Me
def Mt.Sn.pk (s:Mt.Sn):Fr.Pk:=⟨s.to,s.fr,s.vl,s.ty,s.src,s.dst,s.life,s.pro,s.sp,s.dp,s.data⟩
theorem pk_val (s:Mt.Sn):Fr.pkV s.pk=Mt.pkV s:=rfl
abbrev Ot:=Int × Fr.Pk
abbrev B3:=Gp.B3
abbrev G3:=Int × Int × List B3
def portB (live:List Bool) (p:Int):Bool:=decide (1≤p)&&(decide (p<(live.length:Int))&&live.getD p.toNat false)
def portV (s:Mt.Sn) (n:Int):Int:=if n=4294967288 then s.inp else IntKind.i64.wrap n
def leaveV (live:List Bool) (s:Mt.Sn) (n:Int) (O:List Ot):List Ot :=
 if n≠4294967288∧IntKind.i64.wrap n=s.inp then O
 else if portB live (portV s n)=true∧O.length<64 then O++[(portV s n,s.pk)] else O
theorem leave_len {live:List Bool} {s:Mt.Sn} {n:Int} {O:List Ot} (h:O.length≤64):(leaveV live s n O).length≤64:=by
 unfold leaveV;split
 ·exact h
 ·split
  ·rename_i h1;rw[List.length_append];simp;omega
  ·exact h
abbrev St:=List Ot × Nat
def doV (live:List Bool) (thr:Mt.Sn→Int→St→St):List A→Mt.Sn→St→St
 | [],_,σ=>σ
 | a::l,s,σ=>if a.1=2 then thr s a.2.2 σ else if a.1=1 then doV live thr l s (leaveV live s a.2.2 σ.1,σ.2) else doV live thr l (Fd.changeV s a) σ
def bksV (dov:List A→St→St):List B3→St→St
 | [],σ=>σ
 | b::l,σ=>if σ.2=256 then σ else bksV dov l (dov (Sr.mergeV b.2.2) (σ.1,σ.2+1))
def appV (live:List Bool) (thr:Mt.Sn→Int→St→St):List A→Mt.Sn→St→Mt.Sn × St
 | [],s,σ=>(s,σ)
 | a::l,s,σ=>if a.1=1 then appV live thr l s (leaveV live s a.2.2 σ.1,σ.2) else if a.1=2 then appV live thr l s (thr s a.2.2 σ) else appV live thr l (Fd.changeV s a) σ
abbrev otC (o:Ot):List Value:=[.int .i64 o.1,.int .u64 o.2.to,.int .u64 o.2.fr,.int .i64 o.2.vl,.int .i64 o.2.ty,.int .u32 o.2.src,.int .u32 o.2.dst,.int .i64 o.2.life,.int .i64 o.2.pro,.int .i64 o.2.sp,.int .i64 o.2.dp,.string o.2.data]
def flatO (l:List Ot):List Value:=l.flatMap otC
theorem flatO_cons (x:Ot) (l:List Ot):flatO (x::l)=otC x++flatO l:=rfl
theorem flatO_append (l m:List Ot):flatO (l++m)=flatO l++flatO m:=by simp[flatO]
abbrev OwnO (base:Nat) (w:World) (v:Value) (l:List Ot):Prop:=w.ownsRow base 70 12 v l.length (flatO l)
structure Tp where
 f:Option Addr
 g:Option Addr
 ma:Option Addr
 mn:Nat
 mc:Nat
 la:Option Addr
 ln:Nat
 lc:Nat
 pick:Int
structure Kpt (S:Nat→Prop) (w w':World):Prop where
 os:w'.os=w.os
 tape:w'.tape=w.tape
 output:w'.output=w.output
 size:w.heap.size≤w'.heap.size
 block:∀ b,b<w.heap.size→¬ S b→w'.heap[b]? = w.heap[b]?
theorem Kpt.of_below {S:Nat→Prop} {w w':World} (g:Below w.heap.size w w'):Kpt S w w':=⟨g.os,g.tape,g.output,g.size,fun b hb _=>g.block b hb⟩
theorem Kpt.trans {S S':Nat→Prop} {w a b:World} (h:Kpt S w a) (g:Kpt S' a b) (hs:∀ k,S' k→S k∨w.heap.size≤k):Kpt S w b :=
 ⟨g.os.trans h.os,g.tape.trans h.tape,g.output.trans h.output,Nat.le_trans h.size g.size,fun k hk hn=>(g.block k (Nat.lt_of_lt_of_le hk h.size) (fun h'=>by
   rcases hs k h' with h2|h2
   ·exact hn h2
   ·omega)).trans (h.block k hk hn)⟩
theorem Kpt.below {S:Nat→Prop} {w w':World} {B:Nat} (h:Kpt S w w') (hB:B≤w.heap.size) (hs:∀ k,S k→B≤k):Below B w w' :=
 ⟨h.os,h.tape,h.output,h.size,fun k hk=>h.block k (by omega) (fun h'=>by have:=hs k h';omega)⟩
structure Tr (w:World) (t:Nat) (p:Tp) (v:Value) (O:List Ot) (nb:Nat):Prop where
 c0:w.cell? ⟨t,0,none⟩=some (.pointer p.f)
 c1:w.cell? ⟨t,1,none⟩=some (.pointer p.g)
 c2:w.cell? ⟨t,2,none⟩=some (.slice p.ma p.mn p.mc)
 c3:w.cell? ⟨t,3,none⟩=some (.slice p.la p.ln p.lc)
 c4:w.cell? ⟨t,4,none⟩=some (.int .i64 p.pick)
 c5:w.cell? ⟨t,5,none⟩=some v
 c6:w.cell? ⟨t,6,none⟩=some (.int .i64 nb)
 fz:∀ o,w.frozen? ⟨t,o,none⟩=false
 lt:t<w.heap.size
 row:OwnO (t+1) w v O
 no:O.length≤64
 nn:nb≤256
structure Eff (t:Nat) (v:Value) (w:World) (v':Value) (w':World):Prop where
 kpt:Kpt (fun b=>b=t∨v.ownBlock=some b) w w'
 own:v'.ownBlock=v.ownBlock∨∀ g,v'.ownBlock=some g→w.heap.size≤g
theorem Eff.of_below {t:Nat} {v:Value} {w w':World} (g:Below w.heap.size w w'):Eff t v w v w':=⟨Kpt.of_below g,.inl rfl⟩
theorem Eff.refl (t:Nat) (v:Value) (w:World):Eff t v w v w:=Eff.of_below (Below.refl _ _)
theorem Eff.trans {t:Nat} {v v1 v2:Value} {w w1 w2:World} (h:Eff t v w v1 w1) (k:Eff t v1 w1 v2 w2):Eff t v w v2 w2:=by
 refine⟨h.kpt.trans k.kpt (fun b hb => ?_),?_⟩
 ·rcases hb with rfl|hb
  ·exact .inl (.inl rfl)
  ·rcases h.own with e|e
   ·exact .inl (.inr (by rw[← e];exact hb))
   ·exact .inr (e b hb)
 ·rcases k.own with e|e
  ·rw[e];exact h.own
  ·exact .inr (fun g hg=>Nat.le_trans h.kpt.size (e g hg))
theorem Eff.size {t:Nat} {v v':Value} {w w':World} (h:Eff t v w v' w'):w.heap.size≤w'.heap.size:=h.kpt.size
theorem Eff.block {t:Nat} {v v':Value} {w w':World} (h:Eff t v w v' w') {b:Nat} (hb:b<w.heap.size) (ht:b≠t) (hv:v.ownBlock≠some b):w'.heap[b]? = w.heap[b]? :=
 h.kpt.block b hb (fun hs=>hs.elim ht hv)
theorem Eff.apart {t:Nat} {v v':Value} {w w':World} (h:Eff t v w v' w') {b:Nat} (hb:b<w.heap.size) (hv:v.ownBlock≠some b):v'.ownBlock≠some b:=by
 rcases h.own with e|e
 ·rw[e];exact hv
 ·intro hg;have:=e b hg;omega
theorem own_at {base:Nat} {w:World} {v:Value} {l:List Ot} (h:OwnO base w v l) {g:Nat} (hg:v.ownBlock=some g):base≤g∧g<w.heap.size:=h.lt g hg
theorem Tr.own {w:World} {t:Nat} {p:Tp} {v:Value} {O:List Ot} {nb:Nat} (h:Tr w t p v O nb) {g:Nat} (hg:v.ownBlock=some g):t<g∧g<w.heap.size:=own_at h.row hg
theorem Eff.below {t:Nat} {p:Tp} {v v':Value} {O:List Ot} {nb:Nat} {w w':World} (h:Eff t v w v' w') (T:Tr w t p v O nb):Below t w w' :=
 h.kpt.below (Nat.le_of_lt T.lt) (fun k hk=>by
  rcases hk with rfl|hk
  ·exact Nat.le_refl _
  ·exact Nat.le_of_lt (T.own hk).1)
theorem own_block {base:Nat} {w w':World} {v:Value} {l:List Ot} (h:OwnO base w v l) (g:∀ b,v.ownBlock=some b→w'.heap[b]? = w.heap[b]?):OwnO base w' v l:=by
 refine⟨h.1,?_⟩;rcases h.2 with hn|⟨g',cap,cur,hv,hb,hgg,rest⟩
 ·exact .inl hn
 ·exact .inr ⟨g',cap,cur,hv,hb,(g g' (by rw[hv];rfl)).trans hgg,rest⟩
theorem Tr.stay {w w':World} {t:Nat} {p:Tp} {v:Value} {O:List Ot} {nb:Nat} (h:Tr w t p v O nb) (hz:w.heap.size≤w'.heap.size) (hb:w'.heap[t]? = w.heap[t]?) (hv:∀ b,v.ownBlock=some b→w'.heap[b]? = w.heap[b]?):Tr w' t p v O nb:=by
 have e:∀ o,w'.cell? ⟨t,o,none⟩=w.cell? ⟨t,o,none⟩:=fun o=>World.cell?_of_block (w:=w) hb;exact⟨(e _).trans h.c0,(e _).trans h.c1,(e _).trans h.c2,(e _).trans h.c3,(e _).trans h.c4,(e _).trans h.c5,(e _).trans h.c6,fun o=>(World.frozen?_of_block (w:=w) hb).trans (h.fz o),Nat.lt_of_lt_of_le h.lt hz,own_block h.row hv,h.no,h.nn⟩
theorem Tr.below {w w':World} {t:Nat} {p:Tp} {v:Value} {O:List Ot} {nb:Nat} (h:Tr w t p v O nb) (g:Below w.heap.size w w'):Tr w' t p v O nb :=
 h.stay g.size (g.block t h.lt) (fun b hb=>g.block b (h.own hb).2)
theorem Tr.form {w:World} {t:Nat} {p:Tp} {v:Value} {O:List Ot} {nb:Nat} (h:Tr w t p v O nb):∃ a cap,v=.slice a O.length cap:=by
 rcases h.row.2 with⟨rfl,h'⟩|⟨g,cap,cur,rfl,_⟩
 ·exact⟨none,0,by rw[h']⟩
 ·exact⟨_,cap,rfl⟩
end Go.Proofs.YtgnihbdcdefdgaaGreatDoor

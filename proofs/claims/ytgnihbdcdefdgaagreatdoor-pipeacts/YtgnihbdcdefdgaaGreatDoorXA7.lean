import Derived.Test.YtgnihbdcdefdgaaGreatDoorX04
import Derived.Test.YtgnihbdcdefdgaaGreatDoorXA6
import Derived.Deep.MidRow
import Derived.Test.YtgnihbdcdefdgaaGreatDoorX25
import Derived.Test.YtgnihbdcdefdgaaGreatDoorXA1
import Derived.Test.YtgnihbdcdefdgaaGreatDoorXA4
import Derived.Test.YtgnihbdcdefdgaaGreatDoorXA5
set_option maxHeartbeats 16000000
set_option maxRecDepth 20000
set_option linter.unusedSimpArgs false
set_option linter.unusedVariables false
open Go.ChangeShapes Go.WideShapes Go.ChangeAt Go.RowKit
open Go.Proofs.Tryz
namespace Go.Proofs.YtgnihbdcdefdgaaGreatDoor
namespace Fd
open Mt
abbrev four (w:World) (s:Sn) (a:A):World:=(((rx w s).alloc (.cells (tC a) 95)).alloc (.cells (snC sn0) 56)).alloc (.cells (snC s) 56)
theorem al1 {w:World} {b:Nat} {s:Sn} (h:Bx w b s) (hb:b<w.heap.size) (o:Obj):Bx (w.alloc o) b s:=h.below (B:=w.heap.size) hb ((Below.refl _ _).alloc (Nat.le_refl _) o)
theorem al2 {w:World} {b:Nat} {s:Sn} (h:Bw w b s) (hb:b<w.heap.size) (o:Obj):Bw (w.alloc o) b s:=h.below (B:=w.heap.size) hb ((Below.refl _ _).alloc (Nat.le_refl _) o)
theorem Bx.four0 (w:World) (s:Sn) (a:A):Bx (four w s a) w.heap.size s:=al1 (al1 (al1 (Bx.newr w s) (by simp) _) (by first|(simp;done)|(simp;omega)) _) (by first|(simp;done)|(simp;omega)) _
theorem Bw.four2 (w:World) (s:Sn) (a:A):Bw (four w s a) (w.heap.size+2) sn0:=by
 have h:=Bw.newr ((rx w s).alloc (.cells (tC a) 95)) sn0;have e:((rx w s).alloc (.cells (tC a) 95)).heap.size=w.heap.size+2:=by simp
 rw[e]at h;exact al2 h (by simp) _
theorem Bw.four3 (w:World) (s:Sn) (a:A):Bw (four w s a) (w.heap.size+3) s:=by
 have h:=Bw.newr (((rx w s).alloc (.cells (tC a) 95)).alloc (.cells (snC sn0) 56)) s;have e:(((rx w s).alloc (.cells (tC a) 95)).alloc (.cells (snC sn0) 56)).heap.size=w.heap.size+3:=by simp
 rw[e]at h;exact h
theorem hi13 (t:Sn):(prog.info? 56).map (·.size)=some (snC t).size:=by kernel_rfl
theorem one13 (t:Sn):(snC t).all (·.oneCell')=true:=by simp[Value.oneCell']
theorem bw_there {w:World} {b:Nat} {s:Sn} (h:Bw w b s):w.there b 0 13:=by
 intro j hj;obtain⟨⟨h0,h1,h2,h3,h4,h5,h6,h7,h8,h9,h10,h11,h12⟩,hf⟩:=h;refine⟨?_,hf _⟩;match j,hj with
 | 0,_=>simp[h0]
 | 1,_=>simp[h1]
 | 2,_=>simp[h2]
 | 3,_=>simp[h3]
 | 4,_=>simp[h4]
 | 5,_=>simp[h5]
 | 6,_=>simp[h6]
 | 7,_=>simp[h7]
 | 8,_=>simp[h8]
 | 9,_=>simp[h9]
 | 10,_=>simp[h10]
 | 11,_=>simp[h11]
 | 12,_=>simp[h12]
theorem bx_set {w:World} {b:Nat} {s:Sn} (h:Bw w b s) (t:Sn):Bx (w.setCells b 0 (snC t).toList) b t:=by
 have r:=World.rangeAt_setCells_same w b 0 (snC t).toList (bw_there h);exact⟨r 0 _ rfl,r 1 _ rfl,r 2 _ rfl,r 3 _ rfl,r 4 _ rfl,r 5 _ rfl,r 6 _ rfl,r 7 _ rfl,r 8 _ rfl,r 9 _ rfl,r 10 _ rfl,r 11 _ rfl,r 12 _ rfl⟩
theorem bx_out {w:World} {b c:Nat} {s:Sn} (h:Bx w b s) (t:Sn) (hbc:b≠c):Bx (w.setCells c 0 (snC t).toList) b s:=by
 obtain⟨h0,h1,h2,h3,h4,h5,h6,h7,h8,h9,h10,h11,h12⟩:=h;have q:∀ p,(w.setCells c 0 (snC t).toList).cell? ⟨b,p,none⟩=w.cell? ⟨b,p,none⟩:=fun p=>World.cell?_setCells_out c _ 0 w _ (fun e=>absurd e hbc);exact⟨(q _).trans h0,(q _).trans h1,(q _).trans h2,(q _).trans h3,(q _).trans h4,(q _).trans h5,(q _).trans h6,(q _).trans h7,(q _).trans h8,(q _).trans h9,(q _).trans h10,(q _).trans h11,(q _).trans h12⟩
theorem bw_set {w:World} {b c:Nat} {s:Sn} (h:Bw w b s) (t:Sn) (hbc:b≠c):Bw (w.setCells c 0 (snC t).toList) b s :=
 ⟨bx_out h.1 t hbc,fun i=>by rw[World.frozen?_setCells];exact h.2 i⟩
theorem below_cells {a:World} {k c:Nat} (hk:k≤c):∀ (vs:List Value) (o:Nat) (w:World),Below k a w→Below k a (w.setCells c o vs)
 | [],_,_,g=>g
 | _::r,o,_,g=>below_cells hk r (o+1) _ (g.setCell hk _)
theorem below_set {a w:World} {k c:Nat} (t:Sn) (g:Below k a w) (hk:k≤c):Below k a (w.setCells c 0 (snC t).toList):=below_cells hk _ _ _ g
theorem rch_3g (f v:Int) (s t:Sn) (e:Int) (w:World) (he:(e != 0)=false) (HH:Hid (∀ w,Calls prog 119 #[snV s,.int .u64 0] w fun x w'=>x=.returned (.tuple #[snV t,.int .i64 e])∧Below w.heap.size w w')) :
 Calls prog 78 #[snV s,tV (3,f,v)] w fun x w'=>x=.returned (snV t)∧Below w.heap.size w w':=by
 go_enter func78,ntmps78;go_wp2_with fail;refine(HH.out _).mono ?_;rintro x w1 ⟨rfl,g1⟩;have A0:=(Bx.four0 w s (3,f,v)).below (by first|(simp;done)|(simp;omega)) g1;have D2:=(Bw.four2 w s (3,f,v)).below (by first|(simp;done)|(simp;omega)) g1;have D3:=(Bw.four3 w s (3,f,v)).below (by simp) g1;have G1:Below w.heap.size w w1:=btr (by go_grown) g1 (by first|(simp;done)|(simp;omega));have L1:w.heap.size+4≤w1.heap.size:=by have:=g1.size;simp at this;omega
 clear g1;obtain⟨w2,hw2⟩:∃ w2,w1.setCells (w.heap.size+3) 0 (snC t).toList=w2:=⟨_,rfl⟩
 have ht:w1.there (w.heap.size+3) 0 (snC t).size:=bw_there D3;have F3:Bx w2 (w.heap.size+3) t:=hw2 ▸ bx_set D3 t;have F2:Bw w2 (w.heap.size+2) sn0:=hw2 ▸ bw_set D2 t (by omega);have F0:Bx w2 w.heap.size s:=hw2 ▸ bx_out A0 t (by omega);have G2:Below w.heap.size w w2:=hw2 ▸ below_set t G1 (by omega);have HT:Hid (w1.there (w.heap.size+3) 0 (snC t).size):=ht;have HW:Hid (w1.setCells (w.heap.size+3) 0 (snC t).toList=w2):=hw2;clear A0 D2 D3 ht hw2 G1;have E2:=F2;obtain⟨⟨c0,c1,c2,c3,c4,c5,c6,c7,c8,c9,c10,c11,c12⟩,cf⟩:=F2;obtain⟨d0,d1,d2,d3,d4,d5,d6,d7,d8,d9,d10,d11,d12⟩:=F3;obtain⟨a0,a1,a2,a3,a4,a5,a6,a7,a8,a9,a10,a11,a12⟩:=F0;go_wp2_with (refine wpList_store_mid rfl 56 (.tmp 5) _ rfl (w.heap.size+3) 0 (snC t) rfl rfl HT.out (hi13 t) (one13 t) ?_;rw[HW.out]);refine bodyPost_ret (res32 (b:=w.heap.size+2) (s:=t) rfl rfl (E2.setAll t).1) rfl ?_;exact⟨rfl,below_setAll t G2 (by omega)⟩
theorem rch_3b (f v:Int) (s t:Sn) (e:Int) (w:World) (he:(e != 0)=true) (HH:Hid (∀ w,Calls prog 119 #[snV s,.int .u64 0] w fun x w'=>x=.returned (.tuple #[snV t,.int .i64 e])∧Below w.heap.size w w')) :
 Calls prog 78 #[snV s,tV (3,f,v)] w fun x w'=>x=.returned (snV s)∧Below w.heap.size w w':=by
 go_enter func78,ntmps78;go_wp2_with fail;refine(HH.out _).mono ?_;rintro x w1 ⟨rfl,g1⟩;have A0:=(Bx.four0 w s (3,f,v)).below (by first|(simp;done)|(simp;omega)) g1;have D2:=(Bw.four2 w s (3,f,v)).below (by first|(simp;done)|(simp;omega)) g1;have D3:=(Bw.four3 w s (3,f,v)).below (by simp) g1;have G1:Below w.heap.size w w1:=btr (by go_grown) g1 (by first|(simp;done)|(simp;omega));have L1:w.heap.size+4≤w1.heap.size:=by have:=g1.size;simp at this;omega
 clear g1;obtain⟨w2,hw2⟩:∃ w2,w1.setCells (w.heap.size+3) 0 (snC t).toList=w2:=⟨_,rfl⟩
 have ht:w1.there (w.heap.size+3) 0 (snC t).size:=bw_there D3;have F3:Bx w2 (w.heap.size+3) t:=hw2 ▸ bx_set D3 t;have F2:Bw w2 (w.heap.size+2) sn0:=hw2 ▸ bw_set D2 t (by omega);have F0:Bx w2 w.heap.size s:=hw2 ▸ bx_out A0 t (by omega);have G2:Below w.heap.size w w2:=hw2 ▸ below_set t G1 (by omega);have HT:Hid (w1.there (w.heap.size+3) 0 (snC t).size):=ht;have HW:Hid (w1.setCells (w.heap.size+3) 0 (snC t).toList=w2):=hw2;clear A0 D2 D3 ht hw2 G1;have E2:=F2;obtain⟨⟨c0,c1,c2,c3,c4,c5,c6,c7,c8,c9,c10,c11,c12⟩,cf⟩:=F2;obtain⟨d0,d1,d2,d3,d4,d5,d6,d7,d8,d9,d10,d11,d12⟩:=F3;obtain⟨a0,a1,a2,a3,a4,a5,a6,a7,a8,a9,a10,a11,a12⟩:=F0;go_wp2_with (refine wpList_store_mid rfl 56 (.tmp 5) _ rfl (w.heap.size+3) 0 (snC t) rfl rfl HT.out (hi13 t) (one13 t) ?_;rw[HW.out]);refine bodyPost_ret (res32 (b:=w.heap.size+2) (s:=s) rfl rfl (E2.setAll s).1) rfl ?_;exact⟨rfl,below_setAll s G2 (by omega)⟩
theorem rch_4g (f v:Int) (s t:Sn) (e:Int) (w:World) (he:(e != 0)=false) (HH:Hid (∀ w,Calls prog 120 #[snV s] w fun x w'=>x=.returned (.tuple #[snV t,.int .i64 e])∧Below w.heap.size w w')) :
 Calls prog 78 #[snV s,tV (4,f,v)] w fun x w'=>x=.returned (snV t)∧Below w.heap.size w w':=by
 go_enter func78,ntmps78;go_wp2_with fail;refine(HH.out _).mono ?_;rintro x w1 ⟨rfl,g1⟩;have A0:=(Bx.four0 w s (4,f,v)).below (by first|(simp;done)|(simp;omega)) g1;have D2:=(Bw.four2 w s (4,f,v)).below (by first|(simp;done)|(simp;omega)) g1;have D3:=(Bw.four3 w s (4,f,v)).below (by simp) g1;have G1:Below w.heap.size w w1:=btr (by go_grown) g1 (by first|(simp;done)|(simp;omega));have L1:w.heap.size+4≤w1.heap.size:=by have:=g1.size;simp at this;omega
 clear g1;obtain⟨w2,hw2⟩:∃ w2,w1.setCells (w.heap.size+3) 0 (snC t).toList=w2:=⟨_,rfl⟩
 have ht:w1.there (w.heap.size+3) 0 (snC t).size:=bw_there D3;have F3:Bx w2 (w.heap.size+3) t:=hw2 ▸ bx_set D3 t;have F2:Bw w2 (w.heap.size+2) sn0:=hw2 ▸ bw_set D2 t (by omega);have F0:Bx w2 w.heap.size s:=hw2 ▸ bx_out A0 t (by omega);have G2:Below w.heap.size w w2:=hw2 ▸ below_set t G1 (by omega);have HT:Hid (w1.there (w.heap.size+3) 0 (snC t).size):=ht;have HW:Hid (w1.setCells (w.heap.size+3) 0 (snC t).toList=w2):=hw2;clear A0 D2 D3 ht hw2 G1;have E2:=F2;obtain⟨⟨c0,c1,c2,c3,c4,c5,c6,c7,c8,c9,c10,c11,c12⟩,cf⟩:=F2;obtain⟨d0,d1,d2,d3,d4,d5,d6,d7,d8,d9,d10,d11,d12⟩:=F3;obtain⟨a0,a1,a2,a3,a4,a5,a6,a7,a8,a9,a10,a11,a12⟩:=F0;go_wp2_with (refine wpList_store_mid rfl 56 (.tmp 5) _ rfl (w.heap.size+3) 0 (snC t) rfl rfl HT.out (hi13 t) (one13 t) ?_;rw[HW.out]);refine bodyPost_ret (res32 (b:=w.heap.size+2) (s:=t) rfl rfl (E2.setAll t).1) rfl ?_;exact⟨rfl,below_setAll t G2 (by omega)⟩
theorem rch_4b (f v:Int) (s t:Sn) (e:Int) (w:World) (he:(e != 0)=true) (HH:Hid (∀ w,Calls prog 120 #[snV s] w fun x w'=>x=.returned (.tuple #[snV t,.int .i64 e])∧Below w.heap.size w w')) :
 Calls prog 78 #[snV s,tV (4,f,v)] w fun x w'=>x=.returned (snV s)∧Below w.heap.size w w':=by
 go_enter func78,ntmps78;go_wp2_with fail;refine(HH.out _).mono ?_;rintro x w1 ⟨rfl,g1⟩;have A0:=(Bx.four0 w s (4,f,v)).below (by first|(simp;done)|(simp;omega)) g1;have D2:=(Bw.four2 w s (4,f,v)).below (by first|(simp;done)|(simp;omega)) g1;have D3:=(Bw.four3 w s (4,f,v)).below (by simp) g1;have G1:Below w.heap.size w w1:=btr (by go_grown) g1 (by first|(simp;done)|(simp;omega));have L1:w.heap.size+4≤w1.heap.size:=by have:=g1.size;simp at this;omega
 clear g1;obtain⟨w2,hw2⟩:∃ w2,w1.setCells (w.heap.size+3) 0 (snC t).toList=w2:=⟨_,rfl⟩
 have ht:w1.there (w.heap.size+3) 0 (snC t).size:=bw_there D3;have F3:Bx w2 (w.heap.size+3) t:=hw2 ▸ bx_set D3 t;have F2:Bw w2 (w.heap.size+2) sn0:=hw2 ▸ bw_set D2 t (by omega);have F0:Bx w2 w.heap.size s:=hw2 ▸ bx_out A0 t (by omega);have G2:Below w.heap.size w w2:=hw2 ▸ below_set t G1 (by omega);have HT:Hid (w1.there (w.heap.size+3) 0 (snC t).size):=ht;have HW:Hid (w1.setCells (w.heap.size+3) 0 (snC t).toList=w2):=hw2;clear A0 D2 D3 ht hw2 G1;have E2:=F2;obtain⟨⟨c0,c1,c2,c3,c4,c5,c6,c7,c8,c9,c10,c11,c12⟩,cf⟩:=F2;obtain⟨d0,d1,d2,d3,d4,d5,d6,d7,d8,d9,d10,d11,d12⟩:=F3;obtain⟨a0,a1,a2,a3,a4,a5,a6,a7,a8,a9,a10,a11,a12⟩:=F0;go_wp2_with (refine wpList_store_mid rfl 56 (.tmp 5) _ rfl (w.heap.size+3) 0 (snC t) rfl rfl HT.out (hi13 t) (one13 t) ?_;rw[HW.out]);refine bodyPost_ret (res32 (b:=w.heap.size+2) (s:=s) rfl rfl (E2.setAll s).1) rfl ?_;exact⟨rfl,below_setAll s G2 (by omega)⟩
theorem rch_5g (f v:Int) (s t:Sn) (e:Int) (w:World) (he:(e != 0)=false) (HH:Hid (∀ w,Calls prog 121 #[snV s,.int .i64 f,.int .u64 v] w fun x w'=>x=.returned (.tuple #[snV t,.int .i64 e])∧Below w.heap.size w w')) :
 Calls prog 78 #[snV s,tV (5,f,v)] w fun x w'=>x=.returned (snV t)∧Below w.heap.size w w':=by
 go_enter func78,ntmps78;go_wp2_with fail;refine(HH.out _).mono ?_;rintro x w1 ⟨rfl,g1⟩;have A0:=(Bx.four0 w s (5,f,v)).below (by first|(simp;done)|(simp;omega)) g1;have D2:=(Bw.four2 w s (5,f,v)).below (by first|(simp;done)|(simp;omega)) g1;have D3:=(Bw.four3 w s (5,f,v)).below (by simp) g1;have G1:Below w.heap.size w w1:=btr (by go_grown) g1 (by first|(simp;done)|(simp;omega));have L1:w.heap.size+4≤w1.heap.size:=by have:=g1.size;simp at this;omega
 clear g1;obtain⟨w2,hw2⟩:∃ w2,w1.setCells (w.heap.size+3) 0 (snC t).toList=w2:=⟨_,rfl⟩
 have ht:w1.there (w.heap.size+3) 0 (snC t).size:=bw_there D3;have F3:Bx w2 (w.heap.size+3) t:=hw2 ▸ bx_set D3 t;have F2:Bw w2 (w.heap.size+2) sn0:=hw2 ▸ bw_set D2 t (by omega);have F0:Bx w2 w.heap.size s:=hw2 ▸ bx_out A0 t (by omega);have G2:Below w.heap.size w w2:=hw2 ▸ below_set t G1 (by omega);have HT:Hid (w1.there (w.heap.size+3) 0 (snC t).size):=ht;have HW:Hid (w1.setCells (w.heap.size+3) 0 (snC t).toList=w2):=hw2;clear A0 D2 D3 ht hw2 G1;have E2:=F2;obtain⟨⟨c0,c1,c2,c3,c4,c5,c6,c7,c8,c9,c10,c11,c12⟩,cf⟩:=F2;obtain⟨d0,d1,d2,d3,d4,d5,d6,d7,d8,d9,d10,d11,d12⟩:=F3;obtain⟨a0,a1,a2,a3,a4,a5,a6,a7,a8,a9,a10,a11,a12⟩:=F0;go_wp2_with (refine wpList_store_mid rfl 56 (.tmp 5) _ rfl (w.heap.size+3) 0 (snC t) rfl rfl HT.out (hi13 t) (one13 t) ?_;rw[HW.out]);refine bodyPost_ret (res32 (b:=w.heap.size+2) (s:=t) rfl rfl (E2.setAll t).1) rfl ?_;exact⟨rfl,below_setAll t G2 (by omega)⟩
theorem rch_5b (f v:Int) (s t:Sn) (e:Int) (w:World) (he:(e != 0)=true) (HH:Hid (∀ w,Calls prog 121 #[snV s,.int .i64 f,.int .u64 v] w fun x w'=>x=.returned (.tuple #[snV t,.int .i64 e])∧Below w.heap.size w w')) :
 Calls prog 78 #[snV s,tV (5,f,v)] w fun x w'=>x=.returned (snV s)∧Below w.heap.size w w':=by
 go_enter func78,ntmps78;go_wp2_with fail;refine(HH.out _).mono ?_;rintro x w1 ⟨rfl,g1⟩;have A0:=(Bx.four0 w s (5,f,v)).below (by first|(simp;done)|(simp;omega)) g1;have D2:=(Bw.four2 w s (5,f,v)).below (by first|(simp;done)|(simp;omega)) g1;have D3:=(Bw.four3 w s (5,f,v)).below (by simp) g1;have G1:Below w.heap.size w w1:=btr (by go_grown) g1 (by first|(simp;done)|(simp;omega));have L1:w.heap.size+4≤w1.heap.size:=by have:=g1.size;simp at this;omega
 clear g1;obtain⟨w2,hw2⟩:∃ w2,w1.setCells (w.heap.size+3) 0 (snC t).toList=w2:=⟨_,rfl⟩
 have ht:w1.there (w.heap.size+3) 0 (snC t).size:=bw_there D3;have F3:Bx w2 (w.heap.size+3) t:=hw2 ▸ bx_set D3 t;have F2:Bw w2 (w.heap.size+2) sn0:=hw2 ▸ bw_set D2 t (by omega);have F0:Bx w2 w.heap.size s:=hw2 ▸ bx_out A0 t (by omega);have G2:Below w.heap.size w w2:=hw2 ▸ below_set t G1 (by omega);have HT:Hid (w1.there (w.heap.size+3) 0 (snC t).size):=ht;have HW:Hid (w1.setCells (w.heap.size+3) 0 (snC t).toList=w2):=hw2;clear A0 D2 D3 ht hw2 G1;have E2:=F2;obtain⟨⟨c0,c1,c2,c3,c4,c5,c6,c7,c8,c9,c10,c11,c12⟩,cf⟩:=F2;obtain⟨d0,d1,d2,d3,d4,d5,d6,d7,d8,d9,d10,d11,d12⟩:=F3;obtain⟨a0,a1,a2,a3,a4,a5,a6,a7,a8,a9,a10,a11,a12⟩:=F0;go_wp2_with (refine wpList_store_mid rfl 56 (.tmp 5) _ rfl (w.heap.size+3) 0 (snC t) rfl rfl HT.out (hi13 t) (one13 t) ?_;rw[HW.out]);refine bodyPost_ret (res32 (b:=w.heap.size+2) (s:=s) rfl rfl (E2.setAll s).1) rfl ?_;exact⟨rfl,below_setAll s G2 (by omega)⟩
theorem Bx.rthird (w:World) (s:Sn) (a:A):Bx ((((rx w s).alloc (.cells (tC a) 95)).alloc (.cells (snC s) 56)).alloc (.cells (snC s) 56)) (w.heap.size+2) s:=by
 have h:=Bx.newr ((rx w s).alloc (.cells (tC a) 95)) s;have e:((rx w s).alloc (.cells (tC a) 95)).heap.size=w.heap.size+2:=by simp
 rw[e]at h;exact al1 h (by simp) _
theorem rch_n (k f v:Int) (s:Sn) (w:World) (b3:(k==3)=false) (b4:(k==4)=false) (b5:(k==5)=false) :
 Calls prog 78 #[snV s,tV (k,f,v)] w fun x w'=>x=.returned (snV s)∧Below w.heap.size w w':=by
 go_enter func78,ntmps78;go_wp2;refine bodyPost_ret (res32 (b:=w.heap.size+2) (s:=s) rfl rfl (Bx.rthird w s (k,f,v))) rfl ?_;exact⟨rfl,by go_grown⟩
theorem rchg_any (s:Sn) (a:A) (w:World) (hw:AW a):Calls prog 78 #[snV s,tV a] w fun x w'=>x=.returned (snV (changeV s a))∧Below w.heap.size w w':=by
 obtain⟨k,f,v⟩:=a;unfold changeV;by_cases h3:k=3
 ·subst h3;have e1:chE s (3,f,v)=pushE s 0:=rfl;have e2:chS s (3,f,v)=pushS s 0:=rfl;rw[e1,e2];by_cases h:pushE s 0=0
  ·rw[if_pos h];exact rch_3g f v s (pushS s 0) (pushE s 0) w (by simp[h]) (show ∀ w,_ from fun w=>rpush_any s 0 w (Int.le_refl _))
  ·rw[if_neg h];exact rch_3b f v s (pushS s 0) (pushE s 0) w (by simpa using h) (show ∀ w,_ from fun w=>rpush_any s 0 w (Int.le_refl _))
 ·by_cases h4:k=4
  ·subst h4;have e1:chE s (4,f,v)=popE s:=rfl;have e2:chS s (4,f,v)=popS s:=rfl;rw[e1,e2];by_cases h:popE s=0
   ·rw[if_pos h];exact rch_4g f v s (popS s) (popE s) w (by simp[h]) (show ∀ w,_ from fun w=>rpop_any s w)
   ·rw[if_neg h];exact rch_4b f v s (popS s) (popE s) w (by simpa using h) (show ∀ w,_ from fun w=>rpop_any s w)
  ·by_cases h5:k=5
   ·subst h5;have e1:chE s (5,f,v)=putE s f v:=rfl;have e2:chS s (5,f,v)=putS s f v:=rfl;rw[e1,e2];by_cases h:putE s f v=0
    ·rw[if_pos h];exact rch_5g f v s (putS s f v) (putE s f v) w (by simp[h]) (show ∀ w,_ from fun w=>rfput_any s f v w hw.v0 hw.v1)
    ·rw[if_neg h];exact rch_5b f v s (putS s f v) (putE s f v) w (by simpa using h) (show ∀ w,_ from fun w=>rfput_any s f v w hw.v0 hw.v1)
   ·have e1:chS s (k,f,v)=s:=by simp[chS,h3,h4,h5]
    rw[e1];have:=rch_n k f v s w (by simp[h3]) (by simp[h4]) (by simp[h5]);split<;>exact this
end Fd
def sz0:Mt.Sn:=⟨0,0,0,0,0,0,0,0,0,0,0,0,⟨#[]⟩⟩
abbrev szC:Array Value:=#[.int .i64 0,.int .u64 0,.int .u64 0,.int .u64 0,.int .i64 0,.int .i64 0,.int .u32 0,.int .u32 0,.int .i64 0,.int .i64 0,.int .i64 0,.int .i64 0,.string ⟨#[]⟩]
theorem sb_drew {Y:World} {b:Nat} {s:Mt.Sn} (h:Sb Y b s):Sb Y.drew b s:=h.block rfl
theorem own_drew {Y:World} {n:Nat} {v:Value} {O:List Ot} (h:OwnO n Y v O):OwnO n Y.drew v O:=own_block h (fun _ _=>rfl)
theorem below_drew {w Y:World} {n:Nat} (h:Below n w Y) (hn:n≤Y.heap.size):Below n w Y.drew:=h.trans ((Below.refl _ _).drew.mono hn)
theorem act_sb {X:World} {b:Nat} {s:Mt.Sn} (h:X.there b 0 13):Sb (X.setCells b 0 (Mt.snC s).toList).drew b s :=
 sb_drew ⟨World.rangeAt_setCells_same X b 0 (Mt.snC s).toList h,World.there_setCells h b 0 _⟩
theorem act_end {w X:World} {t b:Nat} {p:Tp} {v:Value} {σ:St} {s:Mt.Sn} (T:Tr X t p v σ.1 σ.2) (g:Below w.heap.size w X) (h1:w.heap.size≤b) (h2:b<t):OwnO w.heap.size (X.setCells b 0 (Mt.snC s).toList).drew v σ.1∧σ.1.length≤64∧Below w.heap.size w (X.setCells b 0 (Mt.snC s).toList).drew:=by
 have o:=only_cells b (Mt.snC s).toList 0 X X (Only.refl b X);generalize X.setCells b 0 (Mt.snC s).toList=Y at *
 exact⟨own_drew (own_base (own_block T.row (fun k hk=>o.block k (by have:=(T.own hk).1;omega))) (by omega)),T.no,below_drew (o.below h1 g) (by rw[o.size];exact g.size)⟩
theorem act_any (t0:Nat) (p:Tp) (tb mb:Nat) (rG:Int) (L:List Gp.Gr) (live:List Bool) (s:Mt.Sn) (a:Option Addr) (l:List A) (cap:Nat) (w:World)
 (G:Ge t0 w p tb mb rG L live) (hl:t0≤w.heap.size) (hT:Ts w a l) (hW:AWs l) (hn:l.length≤1000) :
 Calls prog 19 #[ptV p,Mt.snV s,.slice a l.length cap,.int .i64 p.pick] w fun e w'=>∃ v',e=.returned (.tuple #[v',Mt.snV (actV (L.map Gp.Gr.p) live p.pick l s).2])∧OwnO w.heap.size w' v' (actV (L.map Gp.Gr.p) live p.pick l s).1∧(actV (L.map Gp.Gr.p) live p.pick l s).1.length≤64∧Below w.heap.size w w':=by
 obtain⟨W4,hW4⟩:∃ W4,(((w.alloc (.cells (ptC p) 33)).alloc (.cells (Mt.snC s) 49)).alloc (.cells (Mt.snC sz0) 49)).alloc (.cells (trC p) 104)=W4:=⟨_,rfl⟩
 have g4:Below w.heap.size w W4:=by rw[← hW4];go_grown
 have T4:Tr W4 (w.heap.size+1+1+1) p (.slice none 0 0) [] 0:=by
  have:=Tr.new (((w.alloc (.cells (ptC p) 33)).alloc (.cells (Mt.snC s) 49)).alloc (.cells (Mt.snC sz0) 49)) p;rw[hW4]at this;simpa using this
 have z4:W4.heap.size=w.heap.size+4:=by rw[← hW4];simp
 have S1:Sb W4 (w.heap.size+1) s:=by
  have h:=Sb.new (w.alloc (.cells (ptC p) 33)) s;have e:(w.alloc (.cells (ptC p) 33)).heap.size=w.heap.size+1:=by simp
  rw[e]at h;rw[← hW4];exact(h.block (heap_alloc_old _ _ (by simp))).block (heap_alloc_old _ _ (by simp))
 have S2:Sb W4 (w.heap.size+1+1) sz0:=by
  have h:=Sb.new ((w.alloc (.cells (ptC p) 33)).alloc (.cells (Mt.snC s) 49)) sz0;have e:((w.alloc (.cells (ptC p) 33)).alloc (.cells (Mt.snC s) 49)).heap.size=w.heap.size+1+1:=by simp
  rw[e]at h;rw[← hW4];exact h.block (heap_alloc_old _ _ (by simp))
 obtain⟨R,hR⟩:∃ R,R=appV live (thrV (L.map Gp.Gr.p) live p.pick 8) l s ([],0):=⟨_,rfl⟩
 have HAp:Hid _:=apply_any (w.heap.size+1+1+1) p tb mb rG L live _ (thr_top (w.heap.size+1+1+1) p tb mb rG L live) a l cap s (.slice none 0 0) ([],0) W4 T4 ((G.low (g4.mono hl)).up (by omega)) (hT.below g4) (fun b hb=>⟨by have:=hT.lt hb;omega,by simp[Value.ownBlock]⟩) hW hn;rw[← hR]at HAp;have HRu:Hid (actV (L.map Gp.Gr.p) live p.pick l s=(R.2.1,R.1)):=(show _=_ by rw[hR];rfl)
 rw[HRu.out];have HW4:Hid ((((w.alloc (.cells (ptC p) 33)).alloc (.cells (Mt.snC s) 49)).alloc (.cells szC 49)).alloc (.cells (trC p) 104)=W4):=hW4;have Hg4:Hid (Below w.heap.size w W4∧Tr W4 (w.heap.size+1+1+1) p (.slice none 0 0) [] 0):=(show _∧_ from⟨g4,T4⟩)
 have HS1:Hid (Sb W4 (w.heap.size+1) s∧Sb W4 (w.heap.size+1+1) sz0):=(show _∧_ from⟨S1,S2⟩)
 obtain⟨s2,σ2⟩:=R;simp only at HAp ⊢;clear G hT hW T4 g4 hR hW4 S1 S2 HRu;go_enter func19,ntmps19;go_wp2_with fail;rw[HW4.out];refine Calls.mono HAp.out ?_;rintro e w5 ⟨rfl,v5,T5,E5⟩;have HT5:Hid (Tr w5 (w.heap.size+1+1+1) p v5 σ2.1 σ2.2):=T5;have z5:=E5.size;have HS5:Hid (Sb w5 (w.heap.size+1) s∧Sb w5 (w.heap.size+1+1) sz0):=(show _∧_ from⟨HS1.out.1.block (E5.block (by omega) (by omega) (by simp[Value.ownBlock])),HS1.out.2.block (E5.block (by omega) (by omega) (by simp[Value.ownBlock]))⟩)
 have HE5:Hid (Below w.heap.size w w5):=Hg4.out.1.trans ((E5.below Hg4.out.2).mono (by omega));have hv1:Hid (∀ b,v5.ownBlock=some b→w.heap.size+3<b):=(show ∀ b,_ from fun b hb=>by have:=(T5.own hb).1;omega)
 clear T5 E5 HAp HS1 Hg4;go_wp2_with (refine store_Sb rfl (.tmp 5) (.tmp 16) rfl (w.heap.size+1) s2 rfl rfl HS5.out.1.t ?_;intro X hX oX;have HX:Hid (Sb X (w.heap.size+1) s2):=hX;have HOX:Hid (Only (w.heap.size+1) w5 X):=oX;clear hX oX);have HTX:Hid (Tr X (w.heap.size+1+1+1) p v5 σ2.1 σ2.2):=HT5.out.only HOX.out (by omega) (fun e=>by have:=hv1.out _ e;omega);have HS6:Hid (Sb X (w.heap.size+1+1) sz0):=HS5.out.2.block (HOX.out.block _ (by omega));have HBX:Hid (Below w.heap.size w X):=HOX.out.below (by omega) HE5.out;have c5:=HTX.out.c5;have zX:w.heap.size+4≤X.heap.size:=by rw[HOX.out.size];omega
 obtain⟨b0,b1,b2,b3,b4,b5,b6,b7,b8,b9,b10,b11,b12⟩:=HX.out.bx;obtain⟨d0,d1,d2,d3,d4,d5,d6,d7,d8,d9,d10,d11,d12⟩:=HS6.out.bx;have fz:=HS6.out.fz;have f0:=fz 0 (by decide);have f1:=fz 1 (by decide);have f2:=fz 2 (by decide);have f3:=fz 3 (by decide);have f4:=fz 4 (by decide);have f5:=fz 5 (by decide);have f6:=fz 6 (by decide);have f7:=fz 7 (by decide);have f8:=fz 8 (by decide);have f9:=fz 9 (by decide);have f10:=fz 10 (by decide);have f11:=fz 11 (by decide);have f12:=fz 12 (by decide);clear fz;have Hth:Hid (X.there (w.heap.size+1+1) 0 13):=HS6.out.t;go_region
 all_goals
  clear b0 b1 b2 b3 b4 b5 b6 b7 b8 b9 b10 b11 b12 d0 d1 d2 d3 d4 d5 d6 d7 d8 d9 d10 d11 d12 f0 f1 f2 f3 f4 f5 f6 f7 f8 f9 f10 f11 f12;go_wp2_with fail;(try simp only[Exit.inBlock,Exit.then])
  refine bodyPost_ret (v:=.tuple #[v5,Mt.snV s2]) (resVb (fn:=Tryz.f19) (t:=9) (u:=8) (w:=(X.setCells (w.heap.size+1+1) 0 (Mt.snC s2).toList).drew) (b:=w.heap.size+1+1) (x:=s2) rfl rfl (act_sb Hth.out)) rfl ?_;exact⟨v5,rfl,act_end (s:=s2) (b:=w.heap.size+1+1) HTX.out HBX.out (by omega) (by omega)⟩
namespace Dc
structure Gd (t:Nat) (w:World) (p:Tp) (W0:World) (rb:Nat) (rG:Int) (rv:Value) (L:List Gp.Gr) (live:List Bool):Prop where
 pg:p.g=some ⟨rb,0,none⟩
 tbl:Gp.RT W0 rb rG rv L w
 l1:rb<t
 l2:∀ b,rv.ownBlock=some b→b<t
 l3:W0.heap.size≤t
 nl:L.length≤64
 gc:∀ g∈L,g.l.length≤g.c∧g.c≤9223372036854775807
 ln:p.ln=live.length
 lv:Gp.Ls w p.la live
 lt:live≠[]→∀ g o,p.la=some ⟨g,o,none⟩→g<t
 le:live.length≤1000
 pl : -9223372036854775808≤p.pick
 ph:p.pick≤9223372036854775807
theorem row_block {base e size n:Nat} {w w':World} {v:Value} {xs:List Value} (h:w.ownsRow base e size v n xs) (g:∀ b,v.ownBlock=some b→w'.heap[b]? = w.heap[b]?):w'.ownsRow base e size v n xs:=by
 refine⟨h.1,?_⟩;rcases h.2 with hn|⟨g',cap,cur,hv,hb,hgg,rest⟩
 ·exact .inl hn
 ·exact .inr ⟨g',cap,cur,hv,hb,(g g' (by rw[hv];rfl)).trans hgg,rest⟩
theorem Gd.low {t:Nat} {w w':World} {p:Tp} {W0:World} {rb:Nat} {rG:Int} {rv:Value} {L:List Gp.Gr} {live:List Bool} (h:Gd t w p W0 rb rG rv L live) (k:Below t w w'):Gd t w' p W0 rb rG rv L live:=by
 have hb:=k.block rb h.l1;refine⟨h.pg,⟨(World.cell?_of_block (w:=w) hb).trans h.tbl.c0,(World.cell?_of_block (w:=w) hb).trans h.tbl.c1,(World.frozen?_of_block (w:=w) hb).trans h.tbl.f0,Nat.lt_of_lt_of_le h.tbl.lt k.size,h.tbl.ge,row_block h.tbl.row (fun b hb=>k.block b (h.l2 b hb)),h.tbl.ap,h.tbl.grp,h.tbl.srt,h.tbl.bel.trans (k.mono h.l3)⟩,h.l1,h.l2,h.l3,h.nl,h.gc,h.ln,?_,h.lt,h.le,h.pl,h.ph⟩;by_cases he:live=[]
 ·exact .inl he
 ·rcases h.lv with e|⟨g,o,ha,hg,hc⟩
  ·exact .inl e
  ·exact .inr ⟨g,o,ha,Nat.lt_of_lt_of_le hg k.size,fun i hi=>(World.cell?_of_block (w:=w) (k.block g (h.lt he g o ha))).trans (hc i hi)⟩
abbrev Lft (t:Nat) (p:Tp) (v:Value) (w:World) (σ:St) (e:Ending) (w':World):Prop:=e=.returned (.tuple #[])∧∃ v',Tr w' t p v' σ.1 σ.2∧Eff t v w v' w'
def ThrC (t:Nat) (p:Tp) (W0:World) (rb:Nat) (rG:Int) (rv:Value) (L:List Gp.Gr) (live:List Bool) (d:Int) (thr:Mt.Sn→Int→St→St):Prop :=
 ∀ (s:Mt.Sn) (id:Int) (v:Value) (σ:St) (w:World),Tr w t p v σ.1 σ.2→Gd t w p W0 rb rG rv L live →
   Calls prog 76 #[.pointer (some ⟨t,0,none⟩),Mt.snV s,.int .i64 id,.int .i64 d] w (Lft t p v w (thr s id σ))
theorem st_end {w w1:World} {b:Nat} {s s2:Mt.Sn} (h:Sb w1 b s) (g:Below w.heap.size w w1) (hb:w.heap.size≤b):Sb (w1.setCells b 0 (Mt.snC s2).toList) b s2∧Below w.heap.size w (w1.setCells b 0 (Mt.snC s2).toList)∧(w1.setCells b 0 (Mt.snC s2).toList).heap.size=w1.heap.size:=by
 have o:=only_cells b (Mt.snC s2).toList 0 w1 w1 (Only.refl b w1);exact⟨⟨World.rangeAt_setCells_same w1 b 0 (Mt.snC s2).toList h.t,World.there_setCells h.t b 0 _⟩,o.below hb g,o.size⟩
theorem set_any (t:Nat) (p:Tp) (W0:World) (rb:Nat) (rG:Int) (rv:Value) (L:List Gp.Gr) (live:List Bool) (d:Int) (thr:Mt.Sn→Int→St→St) (HT:Hid (ThrC t p W0 rb rG rv L live d thr))
 (a:Option Addr) (l:List A) (cap:Nat) (s:Mt.Sn) (v:Value) (σ:St) (w:World) (T:Tr w t p v σ.1 σ.2) (G:Gd t w p W0 rb rG rv L live) (hL:Ts w a l) (hW:AWs l) (hl:l.length≤1000) :
 Calls prog 40 #[.pointer (some ⟨t,0,none⟩),Mt.snV s,.slice a l.length cap,.int .i64 d] w (Lft t p v w (dsetV live thr l s σ)):=by
 have htl:=T.lt;have HTw:Hid (Tr w t p v σ.1 σ.2):=T;have HG:Hid (Gd t w p W0 rb rG rv L live):=G;have HL:Hid (Ts w a l∧AWs l):=(show _∧_ from⟨hL,hW⟩)
 have HS0:Hid (Sb (w.alloc (.cells (Mt.snC s) 56)) w.heap.size s):=Sb.newr w s;have Hg0:Hid (Below w.heap.size w (w.alloc (.cells (Mt.snC s) 56))):=(show Below _ _ _ by go_grown)
 have HR:Hid (dsetV live thr l s σ=if (dfoldV l (s,0,0)).2.1≠0 then thr (dfoldV l (s,0,0)).1 (dfoldV l (s,0,0)).2.1 σ else if (dfoldV l (s,0,0)).2.2≠0 then (dleaveV live (dfoldV l (s,0,0)).1 (dfoldV l (s,0,0)).2.2 σ.1,σ.2) else σ):=(show _=_ from rfl)
 obtain⟨R,hR⟩:∃ R,R=dsetV live thr l s σ:=⟨_,rfl⟩
 rw[← hR];rw[← hR]at HR;clear T G hL hW hR;go_enter func40,ntmps40;go_wp2_with fail
 go_loopw [8,9,10] (fun v8 v9 i wr=>∃ (k:Nat) (s':Mt.Sn) (i' p':Int),k≤l.length∧i=.int .i64 k∧v8=.int .i64 p'∧v9=.int .i64 i'∧Hid (dfoldV l (s,0,0)=dfoldV (l.drop k) (s',i',p'))∧Hid (Sb wr w.heap.size s')∧Hid (Below w.heap.size w wr)∧w.heap.size+1≤wr.heap.size)
  (fun _ _ i _=>(l.length-(intOf i).toNat))
 case atStart=>exact⟨0,s,0,0,Nat.zero_le _,rfl,rfl,rfl,(show _=_ from rfl),HS0,Hg0,by simp⟩
 case round =>
  clear HS0 Hg0;obtain⟨k,s',i',p',hk,rfl,rfl,rfl,HF,HS,HB,hz⟩:=hrel;by_cases hlt:k<l.length
  ·obtain⟨g,o,ha,hg,hc⟩:=(HL.out.1.below HB.out).at hlt;obtain⟨c0,c1,c2⟩:=hc k hlt;have hdrop:l.drop k=l[k]::l.drop (k+1):=List.drop_eq_getElem_cons hlt;have hAW:AW l[k]:=HL.out.2 _ (List.getElem_mem hlt);have HF2:Hid (dfoldV l (s,0,0)=dfoldV (l[k]::l.drop (k+1)) (s',i',p')):=(show _=_ by rw[HF.out,hdrop])
   have hltI:(k:Int)<(l.length:Int):=by omega
   generalize l[k]=x at *
   obtain⟨x1,x2,x3⟩:=x;subst ha;have hw:=conv_run x3;clear hdrop hc HF HR;simp only at c0 c1 c2;by_cases h2:x1=2
   ·subst h2;have HF3:Hid (dfoldV l (s,0,0)=dfoldV (l.drop (k+1)) (s',IntKind.i64.wrap x3,p')):=(show _=_ by rw[HF2.out];rfl)
    clear HF2;generalize IntKind.i64.wrap x3=y at *
    go_wp2_with fail;go_roundw;case rel=>exact⟨k+1,s',y,p',by omega,by go_num,rfl,rfl,HF3,HS,HB,hz⟩
    case measure=>simp[intOf];omega
   ·by_cases h1:x1=1
    ·subst h1;have HF3:Hid (dfoldV l (s,0,0)=dfoldV (l.drop (k+1)) (s',i',IntKind.i64.wrap x3)):=(show _=_ by rw[HF2.out];rfl)
     clear HF2;generalize IntKind.i64.wrap x3=y at *
     go_wp2_with fail;go_roundw;case rel=>exact⟨k+1,s',i',y,by omega,by go_num,rfl,rfl,HF3,HS,HB,hz⟩
     case measure=>simp[intOf];omega
    ·have b2:(x1==2)=false:=by simp[h2]
     have b1:(x1==1)=false:=by simp[h1]
     have HF3:Hid (dfoldV l (s,0,0)=dfoldV (l.drop (k+1)) (Fd.changeV s' (x1,x2,x3),i',p')):=(show _=_ by rw[HF2.out];show(if x1=2 then _ else if x1=1 then _ else _)=_;rw[if_neg h2,if_neg h1])
     clear HF2 h1 h2 hw;have HC:Hid (∀ W,Below wr.heap.size wr W→Calls prog 78 #[Mt.snV s',.agg #[.int .i64 x1,.int .i64 x2,.int .u64 x3]] W fun x w'=>x=.returned (Mt.snV (Fd.changeV s' (x1,x2,x3)))∧Below W.heap.size W w'):=(show ∀ W,_ from fun W _=>Fd.rchg_any s' (x1,x2,x3) W hAW)
     generalize Fd.changeV s' (x1,x2,x3)=s2 at *
     obtain⟨b0,b1',b2',b3,b4,b5,b6,b7,b8,b9,b10,b11,b12⟩:=HS.out.bx;clear hAW;have zr:w.heap.size<wr.heap.size:=by omega
     go_wp2_with fail
     go_region_law (
      refine step_call rfl 78 #[Mt.snV s',.agg #[.int .i64 x1,.int .i64 x2,.int .u64 x3]] ?hrun ?_;case hrun=>go_simp
      refine Calls.mono (HC.out _ (by go_grown)) ?_;rintro e w1 ⟨rfl,g1⟩;refine⟨_,rfl,?_⟩;have HB1:Hid (Below w.heap.size w w1):=btr (HB.out.trans ((show Below wr.heap.size wr _ by go_grown).mono (by omega))) g1 (by have:=HB.out.size;omega);have HS1:Hid (Sb w1 w.heap.size s'):=HS.out.block ((g1.block w.heap.size (by simp;omega)).trans (by rfl));have hz1:w.heap.size+1≤w1.heap.size:=Nat.le_trans hz (Nat.le_trans (by simp) g1.size);clear b0 b1' b2' b3 b4 b5 b6 b7 b8 b9 b10 b11 b12 g1;obtain⟨b0,b1',b2',b3,b4,b5,b6,b7,b8,b9,b10,b11,b12⟩:=HS1.out.bx;have f0:=HS1.out.fz 0 (by decide);have f1:=HS1.out.fz 1 (by decide);have f2:=HS1.out.fz 2 (by decide);have f3:=HS1.out.fz 3 (by decide);have f4:=HS1.out.fz 4 (by decide);have f5:=HS1.out.fz 5 (by decide);have f6:=HS1.out.fz 6 (by decide);have f7:=HS1.out.fz 7 (by decide);have f8:=HS1.out.fz 8 (by decide);have f9:=HS1.out.fz 9 (by decide);have f10:=HS1.out.fz 10 (by decide);have f11:=HS1.out.fz 11 (by decide);have f12:=HS1.out.fz 12 (by decide))
     all_goals
      obtain⟨X,hX⟩:∃ X,w1.setCells w.heap.size 0 (Mt.snC s2).toList=X:=⟨_,rfl⟩
      have he:=st_end (s2:=s2) HS1.out HB1.out (Nat.le_refl _);rw[hX]at he;have HS2:Hid (Sb X w.heap.size s2):=he.1;have HB2:Hid (Below w.heap.size w X):=he.2.1;have hz2:w.heap.size+1≤X.heap.size:=by rw[he.2.2];exact hz1
      clear he b0 b1' b2' b3 b4 b5 b6 b7 b8 b9 b10 b11 b12 f0 f1 f2 f3 f4 f5 f6 f7 f8 f9 f10 f11 f12;change Exit.inBlock 2 _ Exit.normal _ (w1.setCells w.heap.size 0 (Mt.snC s2).toList);rw[hX];clear hX;go_wp2_with fail;go_roundw;case rel=>exact⟨k+1,s2,i',p',by omega,by go_num,rfl,rfl,HF3,HS2,HB2,hz2⟩
      case measure=>simp[intOf];omega
  ·have hk':k=l.length:=by omega
   have hkI : ¬ (k:Int)<(l.length:Int):=by omega
   have hF:dfoldV l (s,0,0)=(s',i',p'):=by rw[HF.out,hk',List.drop_length];rfl
   have HR2:Hid (R=if i'≠0 then thr s' i' σ else if p'≠0 then (dleaveV live s' p' σ.1,σ.2) else σ):=(show _=_ by rw[HR.out,hF])
   have HTr:Hid (Tr wr t p v σ.1 σ.2):=HTw.out.below HB.out;have HGr:Hid (Gd t wr p W0 rb rG rv L live):=HG.out.low (HB.out.mono (Nat.le_of_lt htl));clear HR HF hF;by_cases h1:i'=0
   ·subst h1;by_cases h2:p'=0
    ·subst h2;have HR3:Hid (R=σ):=(show _=_ by rw[HR2.out];simp)
     clear HR2;go_wp2_with fail;first|go_end0|((try simp only[Exit.inBlock,Exit.then]);refine bodyPost_ret (results_none rfl _ _ _) rfl ?_)
     rw[HR3.out];exact⟨rfl,v,HTr.out,Eff.of_below HB.out⟩
    ·have b2:(p' != 0)=true:=by simp[h2]
     have HR3:Hid (R=(dleaveV live s' p' σ.1,σ.2)):=(show _=_ by rw[HR2.out];simp[h2])
     clear HR2 h2;have HLv:Hid _:=leave_any t p v σ.1 σ.2 live s' p' wr HTr.out HGr.out.ln HGr.out.lv HGr.out.le;go_wp2_with (refine load_Rb rfl (.tmp 5) rfl w.heap.size s' rfl HS.out ?_);refine Calls.mono HLv.out ?_;rintro e w1 ⟨rfl,v2,T2,E2⟩;have HT2:Hid (Tr w1 t p v2 (dleaveV live s' p' σ.1) σ.2∧Eff t v w v2 w1):=(show _∧_ from⟨T2,(Eff.of_below HB.out).trans E2⟩)
     clear T2 E2 HLv;go_wp2_with fail;first|go_end0|((try simp only[Exit.inBlock,Exit.then]);refine bodyPost_ret (results_none rfl _ _ _) rfl ?_)
     rw[HR3.out];exact⟨rfl,v2,HT2.out.1,HT2.out.2⟩
   ·have b1:(i' != 0)=true:=by simp[h1]
    have HR3:Hid (R=thr s' i' σ):=(show _=_ by rw[HR2.out];simp[h1])
    clear HR2 h1;have HTh:Hid _:=HT.out s' i' v σ wr HTr.out HGr.out;go_wp2_with (refine load_Rb rfl (.tmp 5) rfl w.heap.size s' rfl HS.out ?_);refine Calls.mono HTh.out ?_;rintro e w1 ⟨rfl,v2,T2,E2⟩;have HT2:Hid (Tr w1 t p v2 (thr s' i' σ).1 (thr s' i' σ).2∧Eff t v w v2 w1):=(show _∧_ from⟨T2,(Eff.of_below HB.out).trans E2⟩)
    clear T2 E2 HTh;go_wp2_with fail;first|go_end0|((try simp only[Exit.inBlock,Exit.then]);refine bodyPost_ret (results_none rfl _ _ _) rfl ?_)
    rw[HR3.out];exact⟨rfl,v2,HT2.out.1,HT2.out.2⟩
end Dc
end Go.Proofs.YtgnihbdcdefdgaaGreatDoor

import Derived.Test.YtgnihbdcdefdgaaGreatDoorX03
set_option maxHeartbeats 4000000
open Go.ChangeShapes Go.WideShapes Go.ChangeAt Go.RowKit
open Go.Proofs.Tryz
namespace Go.Proofs.YtgnihbdcdefdgaaGreatDoor
namespace Fd
open Mt
abbrev rx (w:World) (s:Sn):World:=w.alloc (.cells (snC s) 56)
theorem Bx.newr (w:World) (s:Sn):Bx (rx w s) w.heap.size s:=by unfold Bx rx;simp
abbrev twr (w:World) (s:Sn):World:=(rx w s).alloc (.cells (snC sn0) 56)
theorem Bw.twr0 (w:World) (s:Sn):Bw (twr w s) w.heap.size s:=by unfold Bw Bx;simp
theorem Bw.twr (w:World) (s:Sn):Bw (twr w s) (w.heap.size+1) sn0:=by unfold Bw Bx;simp
theorem Bw.newr (w:World) (s:Sn):Bw (rx w s) w.heap.size s:=by unfold Bw Bx rx;simp
theorem load32 (w:World) (b:Nat) (s:Sn) (h:Bx w b s):(loadVar 56 ⟨b,0,none⟩).run prog w=.ok (snV s) w:=by
 obtain⟨h0,h1,h2,h3,h4,h5,h6,h7,h8,h9,h10,h11,h12⟩:=h;simp[go_sem, *]
theorem res32 {fn:Func} {t:Tmp} (h:fn.results=#[.cell t 56]) {tmps:Array Value} {w:World} {b:Nat} {s:Sn} (ht:tmps.getD t undef=.pointer (some ⟨b,0,none⟩)) (hs:Bx w b s) :
 (results fn tmps).run prog w=.ok (snV s) w:=by
 have ht':tmps[t]?.getD undef=.pointer (some ⟨b,0,none⟩):=by simpa using ht
 simp[results,h,ht',asAddr,load32 w b s hs]
theorem res32e {fn:Func} {t u:Tmp} (h:fn.results=#[.cell t 56,.tmp u]) {tmps:Array Value} {w:World} {b:Nat} {s:Sn} (ht:tmps.getD t undef=.pointer (some ⟨b,0,none⟩)) (hs:Bx w b s) :
 (results fn tmps).run prog w=.ok (.tuple #[snV s,tmps.getD u undef]) w:=by
 have ht':tmps[t]?.getD undef=.pointer (some ⟨b,0,none⟩):=by simpa using ht
 simp[results,h,ht',asAddr,load32 w b s hs]
theorem plain_any (s:Sn) (w:World):Calls prog 16 #[snV s] w fun e w'=>e=.returned (snV s)∧Below w.heap.size w w':=by
 go_enter func16,ntmps16;go_wp2;refine bodyPost_ret (res32 (b:=w.heap.size+1) (s:=s) rfl rfl (by unfold Bx;simp)) rfl ?_;exact⟨rfl,by go_grown⟩
theorem rwidth_any (f:Int) (w:World):Calls prog 142 #[.int .i64 f] w fun e w'=>e=.returned (.int .i64 (wdV f))∧Below w.heap.size w w':=by
 by_cases h:f<1∨9<f
 ·rw[wdV_none h];rcases h with h|h
  ·go_enter func142,ntmps142;go_wp2;go_ret;exact⟨rfl,by go_grown⟩
  ·go_enter func142,ntmps142;go_wp2;go_ret;exact⟨rfl,by go_grown⟩
 ·rcases cls9 h with rfl|rfl|rfl|rfl|rfl|rfl|rfl|rfl|rfl
  all_goals
   clear h;go_enter func142,ntmps142;go_wp2;go_ret;exact⟨rfl,by go_grown⟩
theorem rhas_any (s:Sn) (f:Int) (w:World):Calls prog 154 #[snV s,.int .i64 f] w fun e w'=>e=.returned (.bool (hasB s f))∧Below w.heap.size w w':=by
 by_cases h:f<1∨9<f
 ·rw[hasB_none s h];rcases h with h|h
  ·go_enter func154,ntmps154;go_wp2;go_ret;exact⟨rfl,by go_grown⟩
  ·go_enter func154,ntmps154;go_wp2;go_ret;exact⟨rfl,by go_grown⟩
 ·rcases cls9 h with rfl|rfl|rfl|rfl|rfl|rfl|rfl|rfl|rfl
  all_goals
   clear h;go_enter func154,ntmps154;go_wp2
   all_goals
    go_ret;exact⟨ret_bool (by simp_all [hasB]),by go_grown⟩
theorem rlow_any (f v:Int) (w:World) (hf : ¬ (f<1∨9<f)) (h0:0≤v) (h1:v<18446744073709551616):Calls prog 155 #[.int .u64 v,.int .i64 (wdV f)] w fun e w'=>e=.returned (.int .u64 (v % (grV f+1)))∧w'=w:=by
 have ha:=and_gr f v hf h0 h1;by_cases h2:f=2
 ·subst h2;have e:v % (grV 2+1)=v:=by simp only[show grV 2=18446744073709551615 from rfl];omega
  rw[e];clear ha hf;simp only[show wdV 2=64 from rfl];go_enter func155,ntmps155;go_wp2;go_ret;exact⟨rfl,rfl⟩
 ·rw[← ha];rcases cls9 hf with rfl|rfl|rfl|rfl|rfl|rfl|rfl|rfl|rfl;case inr.inl=>exact absurd rfl h2
  all_goals
   clear hf ha h2;simp only[show wdV 1=32 from rfl,show wdV 3=13 from rfl,show wdV 4=16 from rfl,show wdV 5=32 from rfl,show wdV 6=32 from rfl,show wdV 7=8 from rfl,show wdV 8=16 from rfl,show wdV 9=16 from rfl];go_enter func155,ntmps155;go_wp2;go_ret;exact⟨rfl,rfl⟩
theorem rput_a1 (s:Sn) (v:Int) (w:World)  : Calls prog 121 #[snV s,.int .i64 1,.int .u64 v] w fun e w'=>e=.returned (.tuple #[snV sn0,.int .i64 20])∧Below w.heap.size w w':=by
 go_enter func121,ntmps121;go_wp2_with fail;refine bodyPost_ret (res32e (b:=w.heap.size+1) (s:=sn0) rfl rfl (by unfold Bx sn0;simp)) rfl ?_;exact⟨rfl,by go_grown⟩
theorem rput_a4 (s:Sn) (v:Int) (w:World)  : Calls prog 121 #[snV s,.int .i64 4,.int .u64 v] w fun e w'=>e=.returned (.tuple #[snV sn0,.int .i64 20])∧Below w.heap.size w w':=by
 go_enter func121,ntmps121;go_wp2_with fail;refine bodyPost_ret (res32e (b:=w.heap.size+1) (s:=sn0) rfl rfl (by unfold Bx sn0;simp)) rfl ?_;exact⟨rfl,by go_grown⟩
theorem rput_a7 (s:Sn) (v:Int) (w:World)  : Calls prog 121 #[snV s,.int .i64 7,.int .u64 v] w fun e w'=>e=.returned (.tuple #[snV sn0,.int .i64 20])∧Below w.heap.size w w':=by
 go_enter func121,ntmps121;go_wp2_with fail;refine bodyPost_ret (res32e (b:=w.heap.size+1) (s:=sn0) rfl rfl (by unfold Bx sn0;simp)) rfl ?_;exact⟨rfl,by go_grown⟩
theorem rput_a2 (s:Sn) (f v:Int) (w:World) (n1:(f==1)=false) (n4:(f==4)=false) (n7:(f==7)=false) (HH:Hid (∀ w,Calls prog 154 #[snV s,.int .i64 f] w fun e w'=>e=.returned (.bool false)∧Below w.heap.size w w')):Calls prog 121 #[snV s,.int .i64 f,.int .u64 v] w fun e w'=>e=.returned (.tuple #[snV sn0,.int .i64 20])∧Below w.heap.size w w':=by
 go_enter func121,ntmps121;go_wp2_with fail;refine(HH.out _).mono ?_;rintro x w1 ⟨rfl,g1⟩;have A1:=(Bw.twr0 w s).below (by simp<;>omega) g1;have B1:=(Bw.twr w s).below (by simp) g1;have G1:Below w.heap.size w w1:=btr (by go_grown) g1 (by simp);have L1:w.heap.size+2≤w1.heap.size:=by have:=g1.size;simp at this;omega
 clear g1;have D1:=B1;obtain⟨⟨c0,c1,c2,c3,c4,c5,c6,c7,c8,c9,c10,c11,c12⟩,cf⟩:=B1;clear A1;go_wp2_with fail;refine bodyPost_ret (res32e (b:=w.heap.size+1) (s:=sn0) rfl rfl (D1.setAll sn0).1) rfl ?_;exact⟨rfl,below_setAll sn0 G1 (by omega)⟩
theorem rput_b1 (s:Sn) (f v:Int) (w:World) (n1:(f==1)=false) (n4:(f==4)=false) (n7:(f==7)=false) (HH:Hid (∀ w,Calls prog 154 #[snV s,.int .i64 f] w fun e w'=>e=.returned (.bool true)∧Below w.heap.size w w')) (k g:Int) (HX:Hid (∀ w,Calls prog 142 #[.int .i64 f] w fun e w'=>e=.returned (.int .i64 k)∧Below w.heap.size w w')) (HL:Hid (∀ w,Calls prog 155 #[.int .u64 v,.int .i64 k] w fun e w'=>e=.returned (.int .u64 g)∧w'=w)) (hv:(g != v)=true):Calls prog 121 #[snV s,.int .i64 f,.int .u64 v] w fun e w'=>e=.returned (.tuple #[snV sn0,.int .i64 1])∧Below w.heap.size w w':=by
 go_enter func121,ntmps121;go_wp2_with fail;refine(HH.out _).mono ?_;rintro x w1 ⟨rfl,g1⟩;have A1:=(Bw.twr0 w s).below (by simp<;>omega) g1;have B1:=(Bw.twr w s).below (by simp) g1;have G1:Below w.heap.size w w1:=btr (by go_grown) g1 (by simp);have L1:w.heap.size+2≤w1.heap.size:=by have:=g1.size;simp at this;omega
 clear g1;go_wp2_with fail;refine(HX.out _).mono ?_;rintro x w2 ⟨rfl,g2⟩;have A2:=A1.below (by omega) g2;have B2:=B1.below (by omega) g2;have G2:Below w.heap.size w w2:=btr G1 g2 (Nat.le_refl _);have L2:w.heap.size+2≤w2.heap.size:=Nat.le_trans L1 g2.size;clear g2 A1 B1 G1 L1;have D1:=B2;have E1:=A2;obtain⟨⟨c0,c1,c2,c3,c4,c5,c6,c7,c8,c9,c10,c11,c12⟩,cf⟩:=B2;obtain⟨⟨a0,a1,a2,a3,a4,a5,a6,a7,a8,a9,a10,a11,a12⟩,af⟩:=A2;go_wp2_with fail;refine(HL.out _).mono ?_;rintro x w3 ⟨rfl,rfl⟩;go_wp2_with fail;refine bodyPost_ret (res32e (b:=w.heap.size+1) (s:=sn0) rfl rfl (D1.setAll sn0).1) rfl ?_;exact⟨rfl,below_setAll sn0 G2 (by omega)⟩
theorem rput_b2 (s:Sn) (v:Int) (w:World) (HH:Hid (∀ w,Calls prog 154 #[snV s,.int .i64 3] w fun e w'=>e=.returned (.bool true)∧Below w.heap.size w w')) (k g:Int) (HX:Hid (∀ w,Calls prog 142 #[.int .i64 3] w fun e w'=>e=.returned (.int .i64 k)∧Below w.heap.size w w')) (HL:Hid (∀ w,Calls prog 155 #[.int .u64 v,.int .i64 k] w fun e w'=>e=.returned (.int .u64 g)∧w'=w)) (hv:(g != v)=false) (h4:v<4096):Calls prog 121 #[snV s,.int .i64 3,.int .u64 v] w fun e w'=>e=.returned (.tuple #[snV sn0,.int .i64 1])∧Below w.heap.size w w':=by
 go_enter func121,ntmps121;go_wp2_with fail;refine(HH.out _).mono ?_;rintro x w1 ⟨rfl,g1⟩;have A1:=(Bw.twr0 w s).below (by simp<;>omega) g1;have B1:=(Bw.twr w s).below (by simp) g1;have G1:Below w.heap.size w w1:=btr (by go_grown) g1 (by simp);have L1:w.heap.size+2≤w1.heap.size:=by have:=g1.size;simp at this;omega
 clear g1;go_wp2_with fail;refine(HX.out _).mono ?_;rintro x w2 ⟨rfl,g2⟩;have A2:=A1.below (by omega) g2;have B2:=B1.below (by omega) g2;have G2:Below w.heap.size w w2:=btr G1 g2 (Nat.le_refl _);have L2:w.heap.size+2≤w2.heap.size:=Nat.le_trans L1 g2.size;clear g2 A1 B1 G1 L1;have D1:=B2;have E1:=A2;obtain⟨⟨c0,c1,c2,c3,c4,c5,c6,c7,c8,c9,c10,c11,c12⟩,cf⟩:=B2;obtain⟨⟨a0,a1,a2,a3,a4,a5,a6,a7,a8,a9,a10,a11,a12⟩,af⟩:=A2;go_wp2_with fail;refine(HL.out _).mono ?_;rintro x w3 ⟨rfl,rfl⟩;go_wp2_with fail;refine bodyPost_ret (res32e (b:=w.heap.size+1) (s:=sn0) rfl rfl (D1.setAll sn0).1) rfl ?_;exact⟨rfl,below_setAll sn0 G2 (by omega)⟩
theorem rput_c (s:Sn) (v:Int) (w:World) (HH:Hid (∀ w,Calls prog 154 #[snV s,.int .i64 3] w fun e w'=>e=.returned (.bool true)∧Below w.heap.size w w')) (k g:Int) (HX:Hid (∀ w,Calls prog 142 #[.int .i64 3] w fun e w'=>e=.returned (.int .i64 k)∧Below w.heap.size w w')) (HL:Hid (∀ w,Calls prog 155 #[.int .u64 v,.int .i64 k] w fun e w'=>e=.returned (.int .u64 g)∧w'=w)) (hv:(g != v)=false) (h4:4096≤v) (bl:(s.vl==0)=true):Calls prog 121 #[snV s,.int .i64 3,.int .u64 v] w fun e w'=>e=.returned (.tuple #[snV sn0,.int .i64 31])∧Below w.heap.size w w':=by
 go_enter func121,ntmps121;go_wp2_with fail;refine(HH.out _).mono ?_;rintro x w1 ⟨rfl,g1⟩;have A1:=(Bw.twr0 w s).below (by simp<;>omega) g1;have B1:=(Bw.twr w s).below (by simp) g1;have G1:Below w.heap.size w w1:=btr (by go_grown) g1 (by simp);have L1:w.heap.size+2≤w1.heap.size:=by have:=g1.size;simp at this;omega
 clear g1;go_wp2_with fail;refine(HX.out _).mono ?_;rintro x w2 ⟨rfl,g2⟩;have A2:=A1.below (by omega) g2;have B2:=B1.below (by omega) g2;have G2:Below w.heap.size w w2:=btr G1 g2 (Nat.le_refl _);have L2:w.heap.size+2≤w2.heap.size:=Nat.le_trans L1 g2.size;clear g2 A1 B1 G1 L1;have D1:=B2;have E1:=A2;obtain⟨⟨c0,c1,c2,c3,c4,c5,c6,c7,c8,c9,c10,c11,c12⟩,cf⟩:=B2;obtain⟨⟨a0,a1,a2,a3,a4,a5,a6,a7,a8,a9,a10,a11,a12⟩,af⟩:=A2;go_wp2_with fail;refine(HL.out _).mono ?_;rintro x w3 ⟨rfl,rfl⟩;go_wp2_with fail;refine bodyPost_ret (res32e (b:=w.heap.size+1) (s:=sn0) rfl rfl (D1.setAll sn0).1) rfl ?_;exact⟨rfl,below_setAll sn0 G2 (by omega)⟩
theorem rput_d2 (s:Sn) (v:Int) (w:World) (HH:Hid (∀ w,Calls prog 154 #[snV s,.int .i64 2] w fun e w'=>e=.returned (.bool true)∧Below w.heap.size w w')) (k g:Int) (HX:Hid (∀ w,Calls prog 142 #[.int .i64 2] w fun e w'=>e=.returned (.int .i64 k)∧Below w.heap.size w w')) (HL:Hid (∀ w,Calls prog 155 #[.int .u64 v,.int .i64 k] w fun e w'=>e=.returned (.int .u64 g)∧w'=w)) (hv:(g != v)=false):Calls prog 121 #[snV s,.int .i64 2,.int .u64 v] w fun e w'=>e=.returned (.tuple #[snV { s with mt:=v },.int .i64 0])∧Below w.heap.size w w':=by
 go_enter func121,ntmps121;go_wp2_with fail;refine(HH.out _).mono ?_;rintro x w1 ⟨rfl,g1⟩;have A1:=(Bw.twr0 w s).below (by simp<;>omega) g1;have B1:=(Bw.twr w s).below (by simp) g1;have G1:Below w.heap.size w w1:=btr (by go_grown) g1 (by simp);have L1:w.heap.size+2≤w1.heap.size:=by have:=g1.size;simp at this;omega
 clear g1;go_wp2_with fail;refine(HX.out _).mono ?_;rintro x w2 ⟨rfl,g2⟩;have A2:=A1.below (by omega) g2;have B2:=B1.below (by omega) g2;have G2:Below w.heap.size w w2:=btr G1 g2 (Nat.le_refl _);have L2:w.heap.size+2≤w2.heap.size:=Nat.le_trans L1 g2.size;clear g2 A1 B1 G1 L1;have D1:=B2;have E1:=A2;obtain⟨⟨c0,c1,c2,c3,c4,c5,c6,c7,c8,c9,c10,c11,c12⟩,cf⟩:=B2;obtain⟨⟨a0,a1,a2,a3,a4,a5,a6,a7,a8,a9,a10,a11,a12⟩,af⟩:=A2;go_wp2_with fail;refine(HL.out _).mono ?_;rintro x w3 ⟨rfl,rfl⟩;go_wp2_with fail;have D2:Bw (w3.setCell ⟨w.heap.size,1,none⟩ (.int .u64 v)) (w.heap.size+1) sn0:=D1.block (Below.heap_setCell _ _ _ _ (show w.heap.size+1≠w.heap.size by omega));refine bodyPost_ret (res32e (b:=w.heap.size+1) (s:={ s with mt:=v }) rfl rfl (D2.setAll { s with mt:=v }).1) rfl ?_;exact⟨rfl,below_setAll { s with mt:=v } (G2.setCell (Nat.le_refl _) _) (by omega)⟩
theorem rput_d3 (s:Sn) (v:Int) (w:World) (HH:Hid (∀ w,Calls prog 154 #[snV s,.int .i64 3] w fun e w'=>e=.returned (.bool true)∧Below w.heap.size w w')) (k g:Int) (HX:Hid (∀ w,Calls prog 142 #[.int .i64 3] w fun e w'=>e=.returned (.int .i64 k)∧Below w.heap.size w w')) (HL:Hid (∀ w,Calls prog 155 #[.int .u64 v,.int .i64 k] w fun e w'=>e=.returned (.int .u64 g)∧w'=w)) (hv:(g != v)=false) (h0:0≤v) (h1:v≤8191) (h4:4096≤v) (bl:(s.vl==0)=false):Calls prog 121 #[snV s,.int .i64 3,.int .u64 v] w fun e w'=>e=.returned (.tuple #[snV { s with vl:=v },.int .i64 0])∧Below w.heap.size w w':=by
 have ew:=wr_i v h0 (by omega);clear h1;go_enter func121,ntmps121;go_wp2_with fail;refine(HH.out _).mono ?_;rintro x w1 ⟨rfl,g1⟩;have A1:=(Bw.twr0 w s).below (by simp<;>omega) g1;have B1:=(Bw.twr w s).below (by simp) g1;have G1:Below w.heap.size w w1:=btr (by go_grown) g1 (by simp);have L1:w.heap.size+2≤w1.heap.size:=by have:=g1.size;simp at this;omega
 clear g1;go_wp2_with fail;refine(HX.out _).mono ?_;rintro x w2 ⟨rfl,g2⟩;have A2:=A1.below (by omega) g2;have B2:=B1.below (by omega) g2;have G2:Below w.heap.size w w2:=btr G1 g2 (Nat.le_refl _);have L2:w.heap.size+2≤w2.heap.size:=Nat.le_trans L1 g2.size;clear g2 A1 B1 G1 L1;have D1:=B2;have E1:=A2;obtain⟨⟨c0,c1,c2,c3,c4,c5,c6,c7,c8,c9,c10,c11,c12⟩,cf⟩:=B2;obtain⟨⟨a0,a1,a2,a3,a4,a5,a6,a7,a8,a9,a10,a11,a12⟩,af⟩:=A2;go_wp2_with fail;refine(HL.out _).mono ?_;rintro x w3 ⟨rfl,rfl⟩;go_wp2_with fail;have D2:Bw (w3.setCell ⟨w.heap.size,4,none⟩ (.int .i64 v)) (w.heap.size+1) sn0:=D1.block (Below.heap_setCell _ _ _ _ (show w.heap.size+1≠w.heap.size by omega));refine bodyPost_ret (res32e (b:=w.heap.size+1) (s:={ s with vl:=v }) rfl rfl (D2.setAll { s with vl:=v }).1) rfl ?_;exact⟨rfl,below_setAll { s with vl:=v } (G2.setCell (Nat.le_refl _) _) (by omega)⟩
theorem rput_d5 (s:Sn) (v:Int) (w:World) (HH:Hid (∀ w,Calls prog 154 #[snV s,.int .i64 5] w fun e w'=>e=.returned (.bool true)∧Below w.heap.size w w')) (k g:Int) (HX:Hid (∀ w,Calls prog 142 #[.int .i64 5] w fun e w'=>e=.returned (.int .i64 k)∧Below w.heap.size w w')) (HL:Hid (∀ w,Calls prog 155 #[.int .u64 v,.int .i64 k] w fun e w'=>e=.returned (.int .u64 g)∧w'=w)) (hv:(g != v)=false) (h0:0≤v) (h1:v≤4294967295):Calls prog 121 #[snV s,.int .i64 5,.int .u64 v] w fun e w'=>e=.returned (.tuple #[snV { s with src:=v },.int .i64 0])∧Below w.heap.size w w':=by
 have ew:=wr_u v h0 h1;clear h1;go_enter func121,ntmps121;go_wp2_with fail;refine(HH.out _).mono ?_;rintro x w1 ⟨rfl,g1⟩;have A1:=(Bw.twr0 w s).below (by simp<;>omega) g1;have B1:=(Bw.twr w s).below (by simp) g1;have G1:Below w.heap.size w w1:=btr (by go_grown) g1 (by simp);have L1:w.heap.size+2≤w1.heap.size:=by have:=g1.size;simp at this;omega
 clear g1;go_wp2_with fail;refine(HX.out _).mono ?_;rintro x w2 ⟨rfl,g2⟩;have A2:=A1.below (by omega) g2;have B2:=B1.below (by omega) g2;have G2:Below w.heap.size w w2:=btr G1 g2 (Nat.le_refl _);have L2:w.heap.size+2≤w2.heap.size:=Nat.le_trans L1 g2.size;clear g2 A1 B1 G1 L1;have D1:=B2;have E1:=A2;obtain⟨⟨c0,c1,c2,c3,c4,c5,c6,c7,c8,c9,c10,c11,c12⟩,cf⟩:=B2;obtain⟨⟨a0,a1,a2,a3,a4,a5,a6,a7,a8,a9,a10,a11,a12⟩,af⟩:=A2;go_wp2_with fail;refine(HL.out _).mono ?_;rintro x w3 ⟨rfl,rfl⟩;go_wp2_with fail;have D2:Bw (w3.setCell ⟨w.heap.size,6,none⟩ (.int .u32 v)) (w.heap.size+1) sn0:=D1.block (Below.heap_setCell _ _ _ _ (show w.heap.size+1≠w.heap.size by omega));refine bodyPost_ret (res32e (b:=w.heap.size+1) (s:={ s with src:=v }) rfl rfl (D2.setAll { s with src:=v }).1) rfl ?_;exact⟨rfl,below_setAll { s with src:=v } (G2.setCell (Nat.le_refl _) _) (by omega)⟩
theorem rput_d6 (s:Sn) (v:Int) (w:World) (HH:Hid (∀ w,Calls prog 154 #[snV s,.int .i64 6] w fun e w'=>e=.returned (.bool true)∧Below w.heap.size w w')) (k g:Int) (HX:Hid (∀ w,Calls prog 142 #[.int .i64 6] w fun e w'=>e=.returned (.int .i64 k)∧Below w.heap.size w w')) (HL:Hid (∀ w,Calls prog 155 #[.int .u64 v,.int .i64 k] w fun e w'=>e=.returned (.int .u64 g)∧w'=w)) (hv:(g != v)=false) (h0:0≤v) (h1:v≤4294967295):Calls prog 121 #[snV s,.int .i64 6,.int .u64 v] w fun e w'=>e=.returned (.tuple #[snV { s with dst:=v },.int .i64 0])∧Below w.heap.size w w':=by
 have ew:=wr_u v h0 h1;clear h1;go_enter func121,ntmps121;go_wp2_with fail;refine(HH.out _).mono ?_;rintro x w1 ⟨rfl,g1⟩;have A1:=(Bw.twr0 w s).below (by simp<;>omega) g1;have B1:=(Bw.twr w s).below (by simp) g1;have G1:Below w.heap.size w w1:=btr (by go_grown) g1 (by simp);have L1:w.heap.size+2≤w1.heap.size:=by have:=g1.size;simp at this;omega
 clear g1;go_wp2_with fail;refine(HX.out _).mono ?_;rintro x w2 ⟨rfl,g2⟩;have A2:=A1.below (by omega) g2;have B2:=B1.below (by omega) g2;have G2:Below w.heap.size w w2:=btr G1 g2 (Nat.le_refl _);have L2:w.heap.size+2≤w2.heap.size:=Nat.le_trans L1 g2.size;clear g2 A1 B1 G1 L1;have D1:=B2;have E1:=A2;obtain⟨⟨c0,c1,c2,c3,c4,c5,c6,c7,c8,c9,c10,c11,c12⟩,cf⟩:=B2;obtain⟨⟨a0,a1,a2,a3,a4,a5,a6,a7,a8,a9,a10,a11,a12⟩,af⟩:=A2;go_wp2_with fail;refine(HL.out _).mono ?_;rintro x w3 ⟨rfl,rfl⟩;go_wp2_with fail;have D2:Bw (w3.setCell ⟨w.heap.size,7,none⟩ (.int .u32 v)) (w.heap.size+1) sn0:=D1.block (Below.heap_setCell _ _ _ _ (show w.heap.size+1≠w.heap.size by omega));refine bodyPost_ret (res32e (b:=w.heap.size+1) (s:={ s with dst:=v }) rfl rfl (D2.setAll { s with dst:=v }).1) rfl ?_;exact⟨rfl,below_setAll { s with dst:=v } (G2.setCell (Nat.le_refl _) _) (by omega)⟩
theorem rput_d8 (s:Sn) (v:Int) (w:World) (HH:Hid (∀ w,Calls prog 154 #[snV s,.int .i64 8] w fun e w'=>e=.returned (.bool true)∧Below w.heap.size w w')) (k g:Int) (HX:Hid (∀ w,Calls prog 142 #[.int .i64 8] w fun e w'=>e=.returned (.int .i64 k)∧Below w.heap.size w w')) (HL:Hid (∀ w,Calls prog 155 #[.int .u64 v,.int .i64 k] w fun e w'=>e=.returned (.int .u64 g)∧w'=w)) (hv:(g != v)=false) (h0:0≤v) (h1:v≤65535):Calls prog 121 #[snV s,.int .i64 8,.int .u64 v] w fun e w'=>e=.returned (.tuple #[snV { s with sp:=v },.int .i64 0])∧Below w.heap.size w w':=by
 have ew:=wr_i v h0 h1;clear h1;go_enter func121,ntmps121;go_wp2_with fail;refine(HH.out _).mono ?_;rintro x w1 ⟨rfl,g1⟩;have A1:=(Bw.twr0 w s).below (by simp<;>omega) g1;have B1:=(Bw.twr w s).below (by simp) g1;have G1:Below w.heap.size w w1:=btr (by go_grown) g1 (by simp);have L1:w.heap.size+2≤w1.heap.size:=by have:=g1.size;simp at this;omega
 clear g1;go_wp2_with fail;refine(HX.out _).mono ?_;rintro x w2 ⟨rfl,g2⟩;have A2:=A1.below (by omega) g2;have B2:=B1.below (by omega) g2;have G2:Below w.heap.size w w2:=btr G1 g2 (Nat.le_refl _);have L2:w.heap.size+2≤w2.heap.size:=Nat.le_trans L1 g2.size;clear g2 A1 B1 G1 L1;have D1:=B2;have E1:=A2;obtain⟨⟨c0,c1,c2,c3,c4,c5,c6,c7,c8,c9,c10,c11,c12⟩,cf⟩:=B2;obtain⟨⟨a0,a1,a2,a3,a4,a5,a6,a7,a8,a9,a10,a11,a12⟩,af⟩:=A2;go_wp2_with fail;refine(HL.out _).mono ?_;rintro x w3 ⟨rfl,rfl⟩;go_wp2_with fail;have D2:Bw (w3.setCell ⟨w.heap.size,10,none⟩ (.int .i64 v)) (w.heap.size+1) sn0:=D1.block (Below.heap_setCell _ _ _ _ (show w.heap.size+1≠w.heap.size by omega));refine bodyPost_ret (res32e (b:=w.heap.size+1) (s:={ s with sp:=v }) rfl rfl (D2.setAll { s with sp:=v }).1) rfl ?_;exact⟨rfl,below_setAll { s with sp:=v } (G2.setCell (Nat.le_refl _) _) (by omega)⟩
theorem rput_d9 (s:Sn) (v:Int) (w:World) (HH:Hid (∀ w,Calls prog 154 #[snV s,.int .i64 9] w fun e w'=>e=.returned (.bool true)∧Below w.heap.size w w')) (k g:Int) (HX:Hid (∀ w,Calls prog 142 #[.int .i64 9] w fun e w'=>e=.returned (.int .i64 k)∧Below w.heap.size w w')) (HL:Hid (∀ w,Calls prog 155 #[.int .u64 v,.int .i64 k] w fun e w'=>e=.returned (.int .u64 g)∧w'=w)) (hv:(g != v)=false) (h0:0≤v) (h1:v≤65535):Calls prog 121 #[snV s,.int .i64 9,.int .u64 v] w fun e w'=>e=.returned (.tuple #[snV { s with dp:=v },.int .i64 0])∧Below w.heap.size w w':=by
 have ew:=wr_i v h0 h1;clear h1;go_enter func121,ntmps121;go_wp2_with fail;refine(HH.out _).mono ?_;rintro x w1 ⟨rfl,g1⟩;have A1:=(Bw.twr0 w s).below (by simp<;>omega) g1;have B1:=(Bw.twr w s).below (by simp) g1;have G1:Below w.heap.size w w1:=btr (by go_grown) g1 (by simp);have L1:w.heap.size+2≤w1.heap.size:=by have:=g1.size;simp at this;omega
 clear g1;go_wp2_with fail;refine(HX.out _).mono ?_;rintro x w2 ⟨rfl,g2⟩;have A2:=A1.below (by omega) g2;have B2:=B1.below (by omega) g2;have G2:Below w.heap.size w w2:=btr G1 g2 (Nat.le_refl _);have L2:w.heap.size+2≤w2.heap.size:=Nat.le_trans L1 g2.size;clear g2 A1 B1 G1 L1;have D1:=B2;have E1:=A2;obtain⟨⟨c0,c1,c2,c3,c4,c5,c6,c7,c8,c9,c10,c11,c12⟩,cf⟩:=B2;obtain⟨⟨a0,a1,a2,a3,a4,a5,a6,a7,a8,a9,a10,a11,a12⟩,af⟩:=A2;go_wp2_with fail;refine(HL.out _).mono ?_;rintro x w3 ⟨rfl,rfl⟩;go_wp2_with fail;have D2:Bw (w3.setCell ⟨w.heap.size,11,none⟩ (.int .i64 v)) (w.heap.size+1) sn0:=D1.block (Below.heap_setCell _ _ _ _ (show w.heap.size+1≠w.heap.size by omega));refine bodyPost_ret (res32e (b:=w.heap.size+1) (s:={ s with dp:=v }) rfl rfl (D2.setAll { s with dp:=v }).1) rfl ?_;exact⟨rfl,below_setAll { s with dp:=v } (G2.setCell (Nat.le_refl _) _) (by omega)⟩
theorem low_gt (f v:Int) (hf : ¬ (f<1∨9<f)) (h0:0≤v):(v % (grV f+1) != v)=decide (v>grV f):=by
 have hg:0≤grV f:=by rcases cls9 hf with rfl|rfl|rfl|rfl|rfl|rfl|rfl|rfl|rfl<;>decide
 by_cases h:v>grV f
 ·have:=Int.emod_lt_of_pos v (show 0<grV f+1 by omega);simp[h];omega
 ·have e:v % (grV f+1)=v:=Int.emod_eq_of_lt h0 (by omega);rw[e];simp[h]
theorem rfput_any (s:Sn) (f v:Int) (w:World) (h0:0≤v) (h1:v<18446744073709551616):Calls prog 121 #[snV s,.int .i64 f,.int .u64 v] w fun e w'=>e=.returned (.tuple #[snV (putS s f v),.int .i64 (putE s f v)])∧Below w.heap.size w w':=by
 have hh:=rhas_any s f;have hx:=rwidth_any f;unfold putS;by_cases c1:mayB f=true
 ·have n1:(f==1)=false:=by simp[mayB]at c1;simp[c1]
  have n4:(f==4)=false:=by simp[mayB]at c1;simp[c1]
  have n7:(f==7)=false:=by simp[mayB]at c1;simp[c1]
  by_cases c2:hasB s f=true
  ·rw[c2]at hh;have hf:=has_field c2;have hl:=fun w=>rlow_any f v w hf h0 h1;have hd:=low_gt f v hf h0;have e:putE s f v=(if v>grV f∨(f=3∧v<4096) then 1 else if f=3∧s.vl=0 then 31 else 0):=if_pos ⟨c1,c2⟩;by_cases c3:v>grV f
   ·rw[if_pos (Or.inl c3)]at e;rw[e,if_neg (by decide)];exact rput_b1 s f v w n1 n4 n7 hh _ _ hx hl (hd.trans (by simp[c3]))
   ·have hv:(v % (grV f+1) != v)=false:=hd.trans (by simp[c3]);clear hd;by_cases c4:f=3
    ·subst c4;by_cases c5:v<4096
     ·rw[if_pos (Or.inr ⟨rfl,c5⟩)]at e;rw[e,if_neg (by decide)];exact rput_b2 s v w hh _ _ hx hl hv c5
     ·rw[if_neg (by omega)]at e;by_cases c6:s.vl=0
      ·rw[if_pos ⟨rfl,c6⟩]at e;rw[e,if_neg (by decide)];exact rput_c s v w hh _ _ hx hl hv (by omega) (by simp[c6])
      ·rw[if_neg (fun x=>c6 x.2)]at e;rw[e,if_pos rfl];exact rput_d3 s v w hh _ _ hx hl hv h0 (by have:grV 3=8191:=rfl;omega) (by omega) (by simp[c6])
    ·rw[if_neg (by omega),if_neg (fun x=>c4 x.1)]at e;rw[e,if_pos rfl];rcases may_six c1 hf with rfl|rfl|rfl|rfl|rfl|rfl
     ·exact rput_d2 s v w hh _ _ hx hl hv
     ·exact absurd rfl c4
     ·exact rput_d5 s v w hh _ _ hx hl hv h0 (by have:grV 5=4294967295:=rfl;omega)
     ·exact rput_d6 s v w hh _ _ hx hl hv h0 (by have:grV 6=4294967295:=rfl;omega)
     ·exact rput_d8 s v w hh _ _ hx hl hv h0 (by have:grV 8=65535:=rfl;omega)
     ·exact rput_d9 s v w hh _ _ hx hl hv h0 (by have:grV 9=65535:=rfl;omega)
  ·have e:putE s f v=20:=if_neg (fun x=>c2 x.2);rw[e,if_neg (by decide)];rw[Bool.eq_false_iff.mpr c2]at hh;exact rput_a2 s f v w n1 n4 n7 hh
 ·have e:putE s f v=20:=if_neg (fun x=>c1 x.1);rw[e,if_neg (by decide)];have h:f=1∨f=4∨f=7:=by simp[mayB]at c1;omega
  rcases h with rfl|rfl|rfl
  ·exact rput_a1 s v w
  ·exact rput_a4 s v w
  ·exact rput_a7 s v w
theorem rpush_a (s:Sn) (n:Int) (w:World) (bl:(s.vl != 0)=true):Calls prog 119 #[snV s,.int .u64 n] w fun e w'=>e=.returned (.tuple #[snV sn0,.int .i64 29])∧Below w.heap.size w w':=by
 go_enter func119,ntmps119;go_wp2_with fail;refine bodyPost_ret (res32e (b:=w.heap.size+1) (s:=sn0) rfl rfl (by unfold Bx sn0;simp)) rfl ?_;exact⟨rfl,by go_grown⟩
theorem rpush_b (s:Sn) (n:Int) (w:World) (bl:(s.vl != 0)=false) (hn:n>4095):Calls prog 119 #[snV s,.int .u64 n] w fun e w'=>e=.returned (.tuple #[snV sn0,.int .i64 1])∧Below w.heap.size w w':=by
 go_enter func119,ntmps119;go_wp2_with fail;refine bodyPost_ret (res32e (b:=w.heap.size+1) (s:=sn0) rfl rfl (by unfold Bx sn0;simp)) rfl ?_;exact⟨rfl,by go_grown⟩
theorem rpush_c (s:Sn) (n:Int) (w:World) (bl:(s.vl != 0)=false) (h0:0≤n) (hn:n≤4095) :
 Calls prog 119 #[snV s,.int .u64 n] w fun e w'=>e=.returned (.tuple #[snV { s with vl:=4096+n },.int .i64 0])∧Below w.heap.size w w':=by
 go_enter func119,ntmps119;go_wp2_with fail;refine bodyPost_ret (res32e (b:=w.heap.size+1) (s:={ s with vl:=4096+n }) rfl rfl (by unfold Bx;simp)) rfl ?_;exact⟨rfl,by go_grown⟩
theorem rpush_any (s:Sn) (n:Int) (w:World) (h0:0≤n):Calls prog 119 #[snV s,.int .u64 n] w fun e w'=>e=.returned (.tuple #[snV (pushS s n),.int .i64 (pushE s n)])∧Below w.heap.size w w':=by
 unfold pushS;by_cases c1:s.vl=0
 ·have e:pushE s n=(if n>4095 then 1 else 0):=if_pos c1;by_cases c2:n>4095
  ·rw[if_pos c2]at e;rw[e,if_neg (by decide)];exact rpush_b s n w (by simp[c1]) c2
  ·rw[if_neg c2]at e;rw[e,if_pos rfl];exact rpush_c s n w (by simp[c1]) h0 (by omega)
 ·have e:pushE s n=29:=if_neg c1;rw[e,if_neg (by decide)];exact rpush_a s n w (by simp[c1])
theorem rpop_a (s:Sn) (w:World) (bl:(s.vl==0)=true):Calls prog 120 #[snV s] w fun e w'=>e=.returned (.tuple #[snV sn0,.int .i64 31])∧Below w.heap.size w w':=by
 go_enter func120,ntmps120;go_wp2_with fail;refine bodyPost_ret (res32e (b:=w.heap.size+1) (s:=sn0) rfl rfl (by unfold Bx sn0;simp)) rfl ?_;exact⟨rfl,by go_grown⟩
theorem rpop_b (s:Sn) (w:World) (bl:(s.vl==0)=false):Calls prog 120 #[snV s] w fun e w'=>e=.returned (.tuple #[snV { s with vl:=0 },.int .i64 0])∧Below w.heap.size w w':=by
 go_enter func120,ntmps120;go_wp2_with fail;refine bodyPost_ret (res32e (b:=w.heap.size+1) (s:={ s with vl:=0 }) rfl rfl (by unfold Bx;simp)) rfl ?_;exact⟨rfl,by go_grown⟩
theorem rpop_any (s:Sn) (w:World):Calls prog 120 #[snV s] w fun e w'=>e=.returned (.tuple #[snV (popS s),.int .i64 (popE s)])∧Below w.heap.size w w':=by
 unfold popS popE;by_cases c1:s.vl=0
 ·rw[if_pos c1,if_pos c1];exact rpop_a s w (by simp[c1])
 ·rw[if_neg c1,if_neg c1];exact rpop_b s w (by simp[c1])
end Fd
end Go.Proofs.YtgnihbdcdefdgaaGreatDoor

import Derived.Test.YtgnihbdcdefdgaaGreatDoorX31
import Derived.Test.YtgnihbdcdefdgaaGreatDoorXS1
import Derived.Test.YtgnihbdcdefdgaaGreatDoorXA16
import Derived.Test.YtgnihbdcdefdgaaGreatDoorXA10
set_option maxRecDepth 20000
set_option maxHeartbeats 16000000
set_option linter.unusedSimpArgs false
set_option linter.unusedVariables false
open Go.ChangeShapes Go.WideShapes Go.ChangeAt Go.RowKit
open Go.Proofs.Tryz
namespace Go.Proofs.YtgnihbdcdefdgaaGreatDoor
theorem alloc_lt (w:World) (o:Obj):w.heap.size<(w.alloc o).heap.size:=by simp
theorem Rr.kept' {w w':World} {a:Option Addr} {O:List Ot} (h:Rr w a O) (g:Below w.heap.size w w'):Rr w' a O :=
 ⟨fun k hk=>by obtain⟨b,ha,hb⟩:=h.at' k hk;exact⟨b,ha,Nat.lt_of_lt_of_le hb g.size⟩,fun b ha k hk j hj=>by
   obtain⟨b',ha',hb⟩:=h.at' k hk;rw[ha]at ha';cases ha';exact(World.cell?_of_block (w:=w) (g.block b hb)).trans (h.c b ha k hk j hj)⟩
theorem step_callw {P:Program} {ops:Array Oper} {o:Oper} {a:Go.Act} {w:World} {K:Go.Act→World→Prop} {Q:Exit→Go.Act→World→Prop} {E:Prop} (hw:Region.wanted o (yielded ops a.tmps)=true) (f:FuncId) (vals:Array Value)
 (hrun:(execOp a.eval o).run P w=.ok (.enter f vals) w) (hC:Calls P f vals w fun e w'=>∃ v,e=.returned v∧K (a.put o.dst v) w') :
 if Region.wanted o (yielded ops a.tmps)=true then Oper.wp P o a w K Q else E:=by
 rw[if_pos hw];unfold Oper.wp;rw[hrun,Oper.upon_enter];exact hC.mono fun e w' ⟨v,he,hk⟩=>by subst he;exact hk
structure AfS (X4:World) (R1:List Ot) (u:Mt.Sn) (c:Nat) (v':Value) (X:World):Prop where
 bel:Below X4.heap.size X4 X
 sb:Sb X c u
 own:OwnR X4.heap.size X v' R1
theorem af_set {X4 w7:World} {R1:List Ot} {u:Mt.Sn} {c base:Nat} {v':Value} (own:OwnR base w7 v' R1) (hb:c<base) (hX:X4.heap.size≤c) (bel:Below X4.heap.size X4 w7) (th:w7.there c 0 13):AfS X4 R1 u c v' (w7.setCells c 0 (Mt.snC u).toList):=by
 have o:=only_cells c (Mt.snC u).toList 0 w7 w7 (Only.refl c w7);exact⟨o.below hX bel,⟨World.rangeAt_setCells_same w7 c 0 (Mt.snC u).toList th,World.there_setCells th c 0 _⟩,Dc.own_baseR (Dc.own_block own (fun k hk=>o.block k (by have:=(own.lt k hk).1;omega))) (by omega)⟩
theorem af_last {X4 w7:World} {R1:List Ot} {u:Mt.Sn} {base:Nat} {v':Value} (own:OwnR base w7 v' R1) (bel:Below X4.heap.size X4 w7) (hb:X4.heap.size≤base):AfS X4 R1 u w7.heap.size v' (w7.alloc (.cells (Mt.snC u) 56)) :=
 ⟨btr bel (by go_grown) (Nat.le_refl _),Sb.newr w7 u,Dc.own_baseR (Dc.own_block own (fun k hk=>heap_alloc_old _ _ (own.lt k hk).2)) hb⟩
theorem th_first {X4 W w5:World} (g:Below W.heap.size W w5) (hW:W.heap=(X4.alloc (.cells szC 56)).heap):w5.there X4.heap.size 0 13 :=
 there_block (there_new X4 szC 56) ((g.block X4.heap.size (by rw[hW];exact alloc_lt X4 _)).trans (by rw[hW]))
theorem acts_walk (ea:Option Addr) (el:List Fe) (ec:Nat) (ga:Option Addr) (gl:List Gp.Gr) (gc:Nat) (ma:Option Addr) (ml:List (Int × Int)) (mc:Nat) (la:Option Addr) (live:List Bool) (lc:Nat) (s:Mt.Sn) (aa:Option Addr) (l:List A) (ac:Nat) (w:World) (I:Mi w ea el ga gl ma ml la live)
 (hs:Mt.Wf s) (hf:Fr.Wf s.pk) (hz:s.data.size≤maxLen) (hT:Ts w aa l) (hA:AWs l) (hl:l.length≤9223372036854775807) :
 Calls prog 4 #[mdV ea el.length ec ga gl.length gc ma ml.length mc la live.length lc,Mt.snV s,.slice aa l.length ac] w fun e w'=>e=.returned (.bool true)∧Below w.heap.size w w':=by
 obtain⟨V,hV⟩:∃ V,(w.alloc (.cells (mdC ea el.length ec ga gl.length gc ma ml.length mc la live.length lc) 27)).alloc (.cells (Mt.snC s) 49)=V:=⟨_,rfl⟩
 have gV:Below w.heap.size w V:=by rw[← hV];go_grown
 have HP:Hid _:=parts_any ea el ec ga gl gc ma ml mc la live lc (l.length:Int) V (I.below gV);have HI:Hid (Mi w ea el ga gl ma ml la live):=I;have HV:Hid ((w.alloc (.cells (mdC ea el.length ec ga gl.length gc ma ml.length mc la live.length lc) 27)).alloc (.cells (Mt.snC s) 49)=V):=hV;have HgV:Hid (Below w.heap.size w V):=gV;have Hlv:Hid (∀ g o,la=some ⟨g,o,none⟩→live≠[]→g<w.heap.size):=(show ∀ g o,_ from fun g o e hn=>by
  rcases I.l with h|⟨g',o',h,hg,_⟩
  ·exact absurd h hn
  ·rw[e]at h;cases h;exact hg)
 have HW:Hid (Ts w aa l∧AWs l):=(show _∧_ from⟨hT,hA⟩)
 clear I gV hV hT hA hs hf hz;go_enter func4,ntmps4;go_wp2_with fail;rw[HV.out];refine Calls.mono HP.out ?_;rintro e w1 ⟨p,rfl,hpt⟩;obtain⟨X,hX⟩:∃ X,w1.alloc (.cells (ptC p) 33)=X:=⟨_,rfl⟩
 obtain⟨hpick,f,S,tb,mb,L,MB,lo,Q,hLw⟩:=Lw.of HV.out (HI.out.below HgV.out) hpt (allFP_right _) hX (by omega) (by omega);have HLw:Hid _:=hLw;have HX:Hid (w1.alloc (.cells (ptC p) 33)=X):=hX;have hFw:=few_any ea el ec ga gl gc ma ml mc la live lc X (HI.out.below hLw.bel);have HFw:Hid _:=hFw;have Hpk:Hid (p.pick=(l.length:Int)):=hpick;have c0:=hLw.c0;have c1:=hLw.c1;have c2:=hLw.c2;have c3:=hLw.c3;obtain⟨B,hB⟩:∃ B,B=fewM el gl ml live:=⟨_,rfl⟩
 rw[← hB]at HFw;have HB:Hid (B=fewM el gl ml live):=hB;have HA:Hid (∀ W,Below X.heap.size X W→Calls prog 10 #[] W fun e w'=>e=.returned (.bool true)∧Below W.heap.size W w'):=(show ∀ W,_ from fun W g=>awake_any W ((HI.out.cd.below hLw.bel).below g))
 clear hLw hFw hpt hpick HP HV HgV hB;go_wp2_with fail;refine Calls.mono HFw.out ?_;rintro e w2 ⟨rfl,g2⟩;have Hg2:Hid (Below X.heap.size X w2):=g2;clear g2 c0 c1 c2 c3 HFw;cases B
 ·go_wp2_with fail;refine Calls.mono (HA.out w2 Hg2.out) ?_;rintro e w3 ⟨rfl,g3⟩;go_wp2_with fail;go_ret;exact⟨rfl,btr (btr HLw.out.bel Hg2.out (Nat.le_refl _)) g3 (Nat.le_refl _)⟩
 ·by_cases hbig:(40:Int)<(l.length:Int)
  ·go_wp2_with fail;refine Calls.mono (HA.out w2 Hg2.out) ?_;rintro e w3 ⟨rfl,g3⟩;go_wp2_with fail;go_ret;exact⟨rfl,btr (btr HLw.out.bel Hg2.out (Nat.le_refl _)) g3 (Nat.le_refl _)⟩
  ·have hFw:Dc.Fw el gl ml live:=Dc.few_parts HB.out.symm;have hln:live.length≤1000:=by have:=hFw.ln;omega
   have hl40:l.length≤40:=by omega
   have L2:=HLw.out.kpt (Kpt.of_below Hg2.out) (HLw.out.mo.low (Hg2.out.mono (Nat.le_of_lt HLw.out.l2))) HLw.out.ms Hlv.out;have HL2:Hid _:=L2;have hact:=act_any lo p tb mb 64 L live s aa l ac w2 (L2.ev hln).ge (by have:=L2.l1;have:=L2.l2;omega) (HW.out.1.below L2.bel) HW.out.2 (by omega);rw[Hpk.out,L2.gg]at hact;obtain⟨R,hR⟩:∃ R,R=actV (Gp.allGP (gl.map Gp.Gr.p)) live (l.length:Int) l s:=⟨_,rfl⟩
   rw[← hR]at hact;have HR:Hid (R=actV (Gp.allGP (gl.map Gp.Gr.p)) live (l.length:Int) l s):=hR;have HAc:Hid _:=hact;have HFw:Hid (Dc.Fw el gl ml live∧∀ g∈Gp.allGP (gl.map Gp.Gr.p),Gp.rightE g=0):=(show _∧_ from⟨hFw,L2.gr⟩)
   have q0:w2.cell? ⟨w1.heap.size,0,none⟩=some (.pointer p.f):=by have:=L2.pc 0 _ rfl;rwa [Nat.zero_add]at this
   have q1:w2.cell? ⟨w1.heap.size,1,none⟩=some (.pointer p.g):=by have:=L2.pc 1 _ rfl;rwa [Nat.zero_add]at this
   have q2:w2.cell? ⟨w1.heap.size,2,none⟩=some (.slice p.ma p.mn p.mc):=by have:=L2.pc 2 _ rfl;rwa [Nat.zero_add]at this
   have q3:w2.cell? ⟨w1.heap.size,3,none⟩=some (.slice p.la p.ln p.lc):=by have:=L2.pc 3 _ rfl;rwa [Nat.zero_add]at this
   have HA2:Hid (∀ W,Below w.heap.size w W→Calls prog 10 #[] W fun e w'=>e=.returned (.bool true)∧Below W.heap.size W w'):=(show ∀ W,_ from fun W g=>awake_any W (HI.out.cd.below g))
   obtain⟨R1,u⟩:=R;simp only at HAc;clear L2 hact hR HA HLw Hg2 hFw HX hX;go_wp2_with (refine load_Sb rfl (.tmp 4) rfl (w.heap.size+1) s rfl HL2.out.sb ?_);refine Calls.mono HAc.out ?_;rintro e w3 ⟨v3,rfl,O3,n3,g3⟩;have L3:=HL2.out.kpt (Kpt.of_below g3) (HL2.out.mo.low (g3.mono (Nat.le_of_lt HL2.out.l2))) HL2.out.ms Hlv.out;obtain⟨a3,cap3,rfl⟩:=own_sl O3;have HO3:Hid (OwnO w2.heap.size w3 (.slice a3 R1.length cap3) R1∧R1.length≤64):=(show _∧_ from⟨O3,n3⟩)
   have HL3:Hid _:=L3;clear L3 O3 n3 g3 HL2 HAc q0 q1 q2 q3;go_wp2_with (refine store_Sb rfl (.tmp 10) (.tmp 42) rfl w3.heap.size u rfl rfl (there_new w3 szC 49) ?_;intro X4 hX4 oX4;have HX4:Hid (Sb X4 w3.heap.size u):=hX4;have HOX4:Hid (Only w3.heap.size (w3.alloc (.cells szC 49)) X4):=oX4;clear hX4 oX4);have hgX:Below w3.heap.size w3 X4:=HOX4.out.below (Nat.le_refl _) (by go_grown);have L4:=HL3.out.kpt (Kpt.of_below hgX) (HL3.out.mo.low (hgX.mono (Nat.le_of_lt HL3.out.l2))) HL3.out.ms Hlv.out;have HL4:Hid _:=L4;have HO4:Hid (OwnO w2.heap.size X4 (.slice a3 R1.length cap3) R1):=own_block HO3.out.1 (fun b hb=>hgX.block b (HO3.out.1.lt b hb).2);have hwX:w.heap.size<X4.heap.size∧w.heap.size+1<X4.heap.size:=by have:=L4.l0;have:=L4.l1;have:=L4.l2;omega
   have HBox:Hid (∀ W,Below X4.heap.size X4 W→(W.cell? ⟨w.heap.size,0,none⟩=some (.slice ea el.length ec)∧W.cell? ⟨w.heap.size,1,none⟩=some (.slice ga gl.length gc)∧W.cell? ⟨w.heap.size,2,none⟩=some (.slice ma ml.length mc)∧W.cell? ⟨w.heap.size,3,none⟩=some (.slice la live.length lc))∧Mt.Bx W (w.heap.size+1) s):=(show ∀ W,_ from fun W g=>by
    have e:∀ o,W.cell? ⟨w.heap.size,o,none⟩=X4.cell? ⟨w.heap.size,o,none⟩:=fun o=>g.cell (p:=⟨w.heap.size,o,none⟩) hwX.1;exact⟨⟨(e _).trans L4.c0,(e _).trans L4.c1,(e _).trans L4.c2,(e _).trans L4.c3⟩,(L4.sb.block (g.block _ hwX.2)).bx⟩)
   have HPl:Hid (∀ W,Below X4.heap.size X4 W→Calls prog 11 #[mdV ea el.length ec ga gl.length gc ma ml.length mc la live.length lc] W fun e w'=>∃ p',e=.returned (ptV p')∧Hid (Below W.heap.size W w'∧∀ Y,Below w'.heap.size w' Y→Calls prog 20 #[ptV p',Mt.snV s,.slice aa l.length ac,.int .i64 (l.length:Int)] Y fun e w''=>∃ v',e=.returned (.tuple #[v',Mt.snV u])∧Hid (OwnR Y.heap.size w'' v' R1∧Below Y.heap.size Y w''))):=(show ∀ W,_ from fun W g=>by
    have gW:Below w.heap.size w W:=btr L4.bel g (Nat.le_refl _);refine(Dc.plain_any ea el ec ga gl gc ma ml mc la live lc (l.length:Int) W W (HI.out.below gW) (Below.refl _ _) HFw.out.1).mono ?_;rintro e w' ⟨p',rfl,f',S',rb,rv,L',MB',lo',Q',⟨_,D⟩,hG',hsub,_,pla,pln,plc,ppk⟩;refine⟨p',rfl,(show _∧_ from⟨D.bel,fun Y gY => ?_⟩)⟩;have hact:=Dc.act_any w'.heap.size p' W rb 64 rv L' live s aa l ac Y (Dc.Gd.low (w:=w') ⟨D.pg,D.tbl,Nat.lt_of_lt_of_le D.l1 D.lo.2,fun b hb=>Nat.lt_of_lt_of_le (D.l2 b hb) D.lo.2,D.bel.size,by have:=congrArg List.length hG';rw[List.length_map]at this;rw[this];exact Gp.allGP_len _,fun g hg=>⟨(HI.out.gi g (hsub g hg)).cl,(HI.out.gi g (hsub g hg)).cm⟩,pln,by rw[pla];exact(HI.out.l.below gW).below D.bel,fun hn g o e=>by have:=Hlv.out g o (by rw[← pla];exact e) hn;have:=gW.size;have:=D.bel.size;omega,hln,by rw[ppk];omega,by rw[ppk];omega⟩ gY) gY.size (((HW.out.1.below gW).below D.bel).below gY) HW.out.2 (by omega) (by rw[hG'];exact HFw.out.2);rw[ppk,hG',← HR.out]at hact;exact hact.mono fun e w'' ⟨v',h1,h2,_,h4⟩=>⟨v',h1,(show _∧_ from⟨h2,h4⟩)⟩)
   have HPn:Hid (∀ W,Calls prog 16 #[Mt.snV s] W fun e w'=>e=.returned (Mt.snV s)∧Below W.heap.size W w'):=(show ∀ W,_ from fun W=>Mt.plain_any s W)
   obtain⟨K0,hK0⟩:∃ K0:Go.Act→World→Prop,K0=fun a' X=>∃ c p' v',a'=({ tmps:=#[mdV ea el.length ec ga gl.length gc ma ml.length mc la live.length lc,Mt.snV s,.slice aa l.length ac,.pointer (some ⟨w.heap.size,0,none⟩),.pointer (some ⟨w.heap.size+1,0,none⟩),undef,.bool false,.pointer (some ⟨w1.heap.size,0,none⟩),.bool true,.slice a3 R1.length cap3,.pointer (some ⟨w3.heap.size,0,none⟩),v',.pointer (some ⟨c,0,none⟩),.tuple #[ptV p,.bool true],.agg #[.slice ea el.length ec,.slice ga gl.length gc,.slice ma ml.length mc,.slice la live.length lc],.tuple #[ptV p,.bool true],ptV p,.bool true,.bool true,.bool false,.bool false,.agg #[.slice ea el.length ec,.slice ga gl.length gc,.slice ma ml.length mc,.slice la live.length lc],.bool true,.bool false,.bool false,.bool false,.slice aa l.length ac,.int .i64 l.length,.bool (decide ((40:Int)<(l.length:Int))),.bool (decide ((40:Int)<(l.length:Int))),undef,undef,undef,undef,.tuple #[.slice a3 R1.length cap3,Mt.snV u],ptV p,Mt.snV s,.slice aa l.length ac,.slice aa l.length ac,.int .i64 l.length,.tuple #[.slice a3 R1.length cap3,Mt.snV u],.slice a3 R1.length cap3,Mt.snV u,.tuple #[v',Mt.snV u],.agg #[.slice ea el.length ec,.slice ga gl.length gc,.slice ma ml.length mc,.slice la live.length lc],ptV p',Mt.snV s,Mt.snV s,.slice aa l.length ac,.slice aa l.length ac,.int .i64 l.length,.tuple #[v',Mt.snV u],v',Mt.snV u,undef,undef,undef,undef,undef,undef,undef,undef,undef,undef,undef,undef,undef],defers:=[] }:Go.Act)∧Hid (AfS X4 R1 u c v' X):=⟨_,rfl⟩
   have HQ0:Hid (∀ c p' v' X,AfS X4 R1 u c v' X→K0 { tmps:=#[mdV ea el.length ec ga gl.length gc ma ml.length mc la live.length lc,Mt.snV s,.slice aa l.length ac,.pointer (some ⟨w.heap.size,0,none⟩),.pointer (some ⟨w.heap.size+1,0,none⟩),undef,.bool false,.pointer (some ⟨w1.heap.size,0,none⟩),.bool true,.slice a3 R1.length cap3,.pointer (some ⟨w3.heap.size,0,none⟩),v',.pointer (some ⟨c,0,none⟩),.tuple #[ptV p,.bool true],.agg #[.slice ea el.length ec,.slice ga gl.length gc,.slice ma ml.length mc,.slice la live.length lc],.tuple #[ptV p,.bool true],ptV p,.bool true,.bool true,.bool false,.bool false,.agg #[.slice ea el.length ec,.slice ga gl.length gc,.slice ma ml.length mc,.slice la live.length lc],.bool true,.bool false,.bool false,.bool false,.slice aa l.length ac,.int .i64 l.length,.bool (decide ((40:Int)<(l.length:Int))),.bool (decide ((40:Int)<(l.length:Int))),undef,undef,undef,undef,.tuple #[.slice a3 R1.length cap3,Mt.snV u],ptV p,Mt.snV s,.slice aa l.length ac,.slice aa l.length ac,.int .i64 l.length,.tuple #[.slice a3 R1.length cap3,Mt.snV u],.slice a3 R1.length cap3,Mt.snV u,.tuple #[v',Mt.snV u],.agg #[.slice ea el.length ec,.slice ga gl.length gc,.slice ma ml.length mc,.slice la live.length lc],ptV p',Mt.snV s,Mt.snV s,.slice aa l.length ac,.slice aa l.length ac,.int .i64 l.length,.tuple #[v',Mt.snV u],v',Mt.snV u,undef,undef,undef,undef,undef,undef,undef,undef,undef,undef,undef,undef,undef],defers:=[] } X):=(show ∀ c p' v' X,_ from fun c p' v' X h=>by rw[hK0];exact⟨c,p',v',rfl,h⟩)
   have HQ1:Hid (∀ a' X,K0 a' X→∃ c p' v',a'=({ tmps:=#[mdV ea el.length ec ga gl.length gc ma ml.length mc la live.length lc,Mt.snV s,.slice aa l.length ac,.pointer (some ⟨w.heap.size,0,none⟩),.pointer (some ⟨w.heap.size+1,0,none⟩),undef,.bool false,.pointer (some ⟨w1.heap.size,0,none⟩),.bool true,.slice a3 R1.length cap3,.pointer (some ⟨w3.heap.size,0,none⟩),v',.pointer (some ⟨c,0,none⟩),.tuple #[ptV p,.bool true],.agg #[.slice ea el.length ec,.slice ga gl.length gc,.slice ma ml.length mc,.slice la live.length lc],.tuple #[ptV p,.bool true],ptV p,.bool true,.bool true,.bool false,.bool false,.agg #[.slice ea el.length ec,.slice ga gl.length gc,.slice ma ml.length mc,.slice la live.length lc],.bool true,.bool false,.bool false,.bool false,.slice aa l.length ac,.int .i64 l.length,.bool (decide ((40:Int)<(l.length:Int))),.bool (decide ((40:Int)<(l.length:Int))),undef,undef,undef,undef,.tuple #[.slice a3 R1.length cap3,Mt.snV u],ptV p,Mt.snV s,.slice aa l.length ac,.slice aa l.length ac,.int .i64 l.length,.tuple #[.slice a3 R1.length cap3,Mt.snV u],.slice a3 R1.length cap3,Mt.snV u,.tuple #[v',Mt.snV u],.agg #[.slice ea el.length ec,.slice ga gl.length gc,.slice ma ml.length mc,.slice la live.length lc],ptV p',Mt.snV s,Mt.snV s,.slice aa l.length ac,.slice aa l.length ac,.int .i64 l.length,.tuple #[v',Mt.snV u],v',Mt.snV u,undef,undef,undef,undef,undef,undef,undef,undef,undef,undef,undef,undef,undef],defers:=[] }:Go.Act)∧Hid (AfS X4 R1 u c v' X)):=(show ∀ a' X,_ from fun a' X h=>by rw[hK0]at h;exact h)
   clear hK0 L4 hgX HL3;refine Code.wp_mono (Q:=Exit.then K0 (fun _ _ _=>False)) ?hq ?hreg;case hreg =>
    obtain⟨⟨c0,c1,c2,c3⟩,b0,b1,b2,b3,b4,b5,b6,b7,b8,b9,b10,b11,b12⟩:=HBox.out X4 (Below.refl _ _);obtain⟨hwX0,hwX1⟩:=hwX
    go_region_law (first
     | (refine step_call rfl 11 #[mdV ea el.length ec ga gl.length gc ma ml.length mc la live.length lc] ?hrun ?_
        case hrun=>go_simp
        refine Calls.mono (HPl.out _ (by go_grown)) ?_;rintro e w5 ⟨p',rfl,HY5⟩;refine⟨_,rfl,?_⟩;have qz5:=fun(o:Nat) (h:X4.heap.size<_)=>HY5.out.1.cell (p:=⟨X4.heap.size,o,none⟩) h;have qf5:=fun(o:Nat) (h:X4.heap.size<_)=>HY5.out.1.frozen (p:=⟨X4.heap.size,o,none⟩) h;have Hg5:Hid (Below X4.heap.size X4 w5):=(show Below _ _ _ from btr (by go_grown) HY5.out.1 (by first|exact Nat.le_refl _|(simp;done)))
        (try (have qd5:X4.heap.size<w5.heap.size:=Nat.lt_of_lt_of_le (alloc_lt X4 _) HY5.out.1.size))
        have hw50:w.heap.size<w5.heap.size:=Nat.lt_of_lt_of_le hwX0 Hg5.out.size;have hw51:w.heap.size+1<w5.heap.size:=Nat.lt_of_lt_of_le hwX1 Hg5.out.size;clear c0 c1 c2 c3 b0 b1 b2 b3 b4 b5 b6 b7 b8 b9 b10 b11 b12;obtain⟨⟨c0,c1,c2,c3⟩,b0,b1,b2,b3,b4,b5,b6,b7,b8,b9,b10,b11,b12⟩:=HBox.out w5 Hg5.out)
     | (refine step_call rfl 16 #[Mt.snV s] ?hrun ?_
        case hrun=>go_simp
        refine Calls.mono (HPn.out _) ?_;rintro e w6 ⟨rfl,g6⟩;refine⟨_,rfl,?_⟩;have qz6:=fun(b o:Nat) (h:b<_)=>g6.cell (p:=⟨b,o,none⟩) h;have qf6:=fun(b o:Nat) (h:b<_)=>g6.frozen (p:=⟨b,o,none⟩) h;(try (have qd6':w5.heap.size<w6.heap.size:=Nat.lt_of_lt_of_le (alloc_lt w5 _) g6.size))
        have Hg6:Hid (Below w5.heap.size w5 w6):=(show Below _ _ _ from btr (by go_grown) g6 (by first|exact Nat.le_refl _|(simp;done)))
        (try (have qd6:X4.heap.size<w6.heap.size:=Nat.lt_of_lt_of_le qd5 Hg6.out.size)))
     | (refine step_call rfl 20 #[ptV p',Mt.snV s,.slice aa l.length ac,.int .i64 (l.length:Int)] ?hrun ?_
        case hrun=>go_simp
        refine Calls.mono (HY5.out.2 _ (btr Hg6.out (by go_grown) (Nat.le_refl _))) ?_;rintro e w7 ⟨v',rfl,HY7⟩;refine⟨_,rfl,?_⟩;have Hg7:Hid (Below w6.heap.size w6 w7):=(show Below _ _ _ from btr (by go_grown) HY7.out.2 (by first|exact Nat.le_refl _|(simp;done)))
        have qz7:=fun(b o:Nat) (h:b<_)=>HY7.out.2.cell (p:=⟨b,o,none⟩) h;have qf7:=fun(b o:Nat) (h:b<_)=>HY7.out.2.frozen (p:=⟨b,o,none⟩) h))
    all_goals
     have Hb7:Below X4.heap.size X4 w7:=btr (btr Hg5.out Hg6.out (Nat.le_refl _)) Hg7.out (Nat.le_refl _);have h56:w5.heap.size≤w6.heap.size:=Hg6.out.size;have h45:X4.heap.size≤w5.heap.size:=Hg5.out.size;clear qz5 qf5 qz6 qf6 qz7 qf7 c0 c1 c2 c3 b0 b1 b2 b3 b4 b5 b6 b7 b8 b9 b10 b11 b12;first
     | exact HQ0.out w7.heap.size p' v' _ (af_last HY7.out.1 Hb7 (show X4.heap.size≤w6.heap.size from Nat.le_trans h45 h56))
     | exact HQ0.out w6.heap.size p' v' _ (af_set HY7.out.1 (alloc_lt w6 _) (Nat.le_trans h45 h56) Hb7 (there_below (there_new w6 szC _) (alloc_lt w6 _) HY7.out.2))
     | exact HQ0.out w5.heap.size p' v' _ (af_set HY7.out.1 qd6' h45 Hb7 (there_below (there_below (there_new w5 szC _) (alloc_lt w5 _) g6) qd6' Hg7.out))
     | exact HQ0.out X4.heap.size p' v' _ (af_set HY7.out.1 qd6 (Nat.le_refl _) Hb7 (there_below (there_below (th_first HY5.out.1 rfl) qd5 Hg6.out) qd6 Hg7.out))
   case hq =>
    intro e a' X hQ;cases e<;>first|exact False.elim hQ|skip
    obtain⟨c,p',v',rfl,HAf⟩:=HQ1.out a' X hQ;clear hQ HQ0 HQ1 HPl HPn HBox K0;have hown:=HAf.out.own;obtain⟨a9,cap9,hv9⟩:=own_sl hown;subst hv9;have hcl:c<X.heap.size:=by
     exact World.block_lt_of_cell? X ⟨c,0,none⟩ (HAf.out.sb.at 0 _ rfl)
    have h4X:X4.heap.size≤X.heap.size:=HAf.out.bel.size;have hw3:w3.heap.size<X4.heap.size:=by rw[HOX4.out.size];simp
    have hSu:Sb X w3.heap.size u:=HX4.out.block (HAf.out.bel.block _ hw3);have HBx:Hid (∀ W,Below X.heap.size X W→Mt.Bx W w3.heap.size u∧Mt.Bx W c u):=(show ∀ W,_ from fun W g=>⟨(hSu.block (g.block _ (by omega))).bx,(HAf.out.sb.block (g.block _ hcl)).bx⟩)
    have hOX:OwnO w2.heap.size X (.slice a3 R1.length cap3) R1:=own_block HO4.out (fun b hb=>HAf.out.bel.block b (HO4.out.lt b hb).2);have HOu:Hid (∀ W,Below X.heap.size X W→Calls prog 13 #[.slice a3 R1.length cap3] W fun e w'=>∃ a5 c5,e=.returned (.slice a5 R1.length c5)∧Hid (Rr w' a5 R1∧Below W.heap.size W w')):=(show ∀ W,_ from fun W g=>by
     refine(outs_any a3 cap3 R1 w2.heap.size W (own_block hOX (fun b hb=>g.block b (hOX.lt b hb).2)) HO3.out.2).mono ?_;rintro e w' ⟨v5,rfl,h1,h2⟩;obtain⟨a5,c5,rfl⟩:=own_sl h1;exact⟨a5,c5,rfl,(show _∧_ from⟨Rr.of h1,h2⟩)⟩)
    have HRX:Hid (Rr X a9 R1):=Rr.of hown;have HSm:Hid (∀ W a5 c5,Below X.heap.size X W→Rr W a5 R1→Calls prog 12 #[.slice a5 R1.length c5,.slice a9 R1.length cap9] W fun e w'=>e=.returned (.bool true)∧Below W.heap.size W w'):=(show ∀ W a5 c5,_ from fun W a5 c5 g h=>same_eq a5 c5 a9 cap9 R1 W h (HRX.out.kept' g) HO3.out.2)
    have HPu:Hid (∀ W,Calls prog 16 #[Mt.snV u] W fun e w'=>e=.returned (Mt.snV u)∧Below W.heap.size W w'):=(show ∀ W,_ from fun W=>Mt.plain_any u W)
    have HbX:Hid (Below w.heap.size w X):=btr HL4.out.bel HAf.out.bel (Nat.le_refl _);clear hown hSu hOX HO3 HO4 HX4 HOX4 HFw HR HI Hlv HW HB;go_wp2_with fail
    go_region_law (first
     | (refine step_call rfl 13 #[.slice a3 R1.length cap3] ?hrun ?_
        case hrun=>go_simp
        refine Calls.mono (HOu.out _ (by go_grown)) ?_;rintro e w5 ⟨a5,c5,rfl,HY5⟩;refine⟨_,rfl,?_⟩;have Hg5:Hid (Below X.heap.size X w5):=(show Below _ _ _ from btr (by go_grown) HY5.out.2 (Nat.le_refl _)))
     | (refine step_call rfl 12 #[.slice a5 R1.length c5,.slice a9 R1.length cap9] ?hrun ?_
        case hrun=>go_simp
        refine Calls.mono (HSm.out _ a5 c5 Hg5.out HY5.out.1) ?_;rintro e w6 ⟨rfl,g6⟩;refine⟨_,rfl,?_⟩;have Hg6:Hid (Below X.heap.size X w6):=(show Below _ _ _ from btr Hg5.out g6 (Nat.le_refl _))
        obtain⟨⟨b0,b1,b2,b3,b4,b5,b6,b7,b8,b9,b10,b11,b12⟩,d0,d1,d2,d3,d4,d5,d6,d7,d8,d9,d10,d11,d12⟩:=HBx.out w6 Hg6.out)
     | (refine step_callw rfl 16 #[Mt.snV u] ?hrun ?_
        case hrun=>go_simp
        refine Calls.mono (HPu.out _) ?_;rintro e w7 ⟨rfl,g7⟩;refine⟨_,rfl,?_⟩;have Hg7:Hid (Below X.heap.size X w7):=(show Below _ _ _ from btr Hg6.out g7 (Nat.le_refl _))
        clear b0 b1 b2 b3 b4 b5 b6 b7 b8 b9 b10 b11 b12 d0 d1 d2 d3 d4 d5 d6 d7 d8 d9 d10 d11 d12;obtain⟨_,d0,d1,d2,d3,d4,d5,d6,d7,d8,d9,d10,d11,d12⟩:=HBx.out w7 Hg7.out)
     | (refine step_callw rfl 10 #[] ?hrun ?_
        case hrun=>go_simp
        refine Calls.mono (HA2.out _ (btr HbX.out Hg7.out (Nat.le_refl _))) ?_;rintro e w8 ⟨rfl,g8⟩;refine⟨_,rfl,?_⟩;have Hg8:Hid (Below w.heap.size w w8):=(show Below _ _ _ from btr (btr HbX.out Hg7.out (Nat.le_refl _)) g8 (Nat.le_refl _))))
    all_goals
     clear d0 d1 d2 d3 d4 d5 d6 d7 d8 d9 d10 d11 d12;go_wp2_with fail;go_ret;exact⟨rfl,Hg8.out⟩
end Go.Proofs.YtgnihbdcdefdgaaGreatDoor

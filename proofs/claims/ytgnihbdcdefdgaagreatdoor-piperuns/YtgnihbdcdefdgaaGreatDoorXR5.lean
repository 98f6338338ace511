import Derived.Test.YtgnihbdcdefdgaaGreatDoorXR4
import Derived.Deep.RegionHeld
set_option maxRecDepth 20000
set_option maxHeartbeats 16000000
set_option linter.unusedSimpArgs false
set_option linter.unusedVariables false
open Go.ChangeShapes Go.WideShapes Go.ChangeAt Go.RowKit
open Go.Proofs.Tryz
namespace Go.Proofs.YtgnihbdcdefdgaaGreatDoor
theorem Rn.of {w V w1 X w2 w3 Y:World} {ea:Option Addr} {el:List Fe} {ga:Option Addr} {gl:List Gp.Gr} {ma:Option Addr} {ml:List (Int × Int)} {la:Option Addr} {live:List Bool} {lc:Nat} {n:Int} {p p':Tp}
 (I:Mi w ea el ga gl ma ml la live) (n0 : -9223372036854775808≤n) (n1:n≤9223372036854775807) (hF:Dc.Fw el gl ml live) (gV:Below w.heap.size w V)
 (h:PtR V w1 (allFP (el.map Fe.p)) (Gp.allGP (gl.map Gp.Gr.p)) (ml.map mkM) la live.length lc n p) (hX:w1.alloc (.cells (ptC p) 33)=X) (g2:Below X.heap.size X w2)
 (hD:Dc.DtR w w2 w3 (allFP (el.map Fe.p)) (Gp.allGP (gl.map Gp.Gr.p)) gl (ml.map mkM) la live.length lc n p') (hY:w3.alloc (.cells (ptC p') 42)=Y) :
 ∃ (Z:Rx) (Q Q':Mq),Rc w Z∧Rn w Z Q Q' Y∧Q'.ms=Q.ms∧Z.p=p∧Z.p'=p'∧Z.vb=w1.heap.size∧Z.vd=w3.heap.size∧Z.n=n:=by
 obtain⟨f,S,tb,mb,L,MB,lo,Q,hPt,hL,hQ,pla,pln,plc,ppk⟩:=h;obtain⟨f',S',rb,rv,L',MB',lo',Q',⟨g3,D⟩,hG',hsub,hQ',pla',pln',plc',ppk'⟩:=hD;have gX:Below w1.heap.size w1 X:=by rw[← hX];go_grown
 have zX:X.heap.size=w1.heap.size+1:=by rw[← hX];simp
 have gY:Below w3.heap.size w3 Y:=by rw[← hY];go_grown
 have zY:Y.heap.size=w3.heap.size+1:=by rw[← hY];simp
 have hlo:=hPt.lo;have hlo':=D.lo;have zV:=gV.size;have z1:=hPt.bel.size;have z2:=g2.size;have z3:=g3.size;have hP:=allFP_right (el.map Fe.p);have b12:Below w1.heap.size w1 w2:=gX.trans (g2.mono (by omega));have b1Y:Below w1.heap.size w1 Y:=(b12.trans (g3.mono (by omega))).trans (gY.mono (by omega));have hlv:live≠[]→∀ g o,la=some ⟨g,o,none⟩→g<w.heap.size:=fun hn g o e=>by
  rcases I.l with h|⟨g',o',h,hg,_⟩
  ·exact absurd h hn
  ·rw[e]at h;cases h;exact hg
 have hln:live.length≤1000:=by have:=hF.ln;omega
 have hgr:∀ g∈Gp.allGP (gl.map Gp.Gr.p),Gp.rightE g=0:=fun g hg=>by
  rw[← hL]at hg;obtain⟨x,hx,rfl⟩:=List.mem_map.1 hg;exact(hPt.tbl.grp x hx).ok
 have bw:Below w.heap.size w Y:=D.bel.trans (gY.mono D.bel.size);have E0:Ev lo lo w1 p f S 256 (allFP (el.map Fe.p)) tb mb 64 L live MB:=hPt.ev hP (by rw[pla];exact I.l.below gV) pln hln (by rw[ppk];exact n0) (by rw[ppk];exact n1);refine⟨⟨lo,w1.heap.size,w2.heap.size,lo',w3.heap.size,p,p',f,S,allFP (el.map Fe.p),tb,mb,L,live,MB,f',S',rb,rv,L',MB',Gp.allGP (gl.map Gp.Gr.p),n⟩,Q,Q',⟨by show w.heap.size≤lo;omega,hlo.2,by show w1.heap.size<w2.heap.size;omega,hlo'.1,hlo'.2,fun b hb=>D.mo.bd b hb,fun b hb=>(D.fb b hb).1,D.rn,D.vn,fun hn g o e=>hlv hn g o (by rw[← pla'];exact e),hL,hG',hgr,hP,ppk,ppk'⟩,⟨bw,?_,?_,E0.low (b1Y.mono hlo.2),?_,?_,(D.mo.low gY).top gY.size,by show w3.heap.size<_;omega⟩,by rw[hQ,hQ'],rfl,rfl,rfl,rfl,rfl⟩
 ·have r:X.rangeAt w1.heap.size 0 (ptC p).toList:=by rw[← hX];exact range_new w1 _ _
  exact range_block r (((gY.block w1.heap.size (by omega)).trans (g3.block w1.heap.size (by omega))).trans (g2.block w1.heap.size (by omega)))
 ·rw[← hY];exact range_new w3 _ _
 ·exact hPt.mo.low b1Y
 ·have G0:Dc.Gd lo' w3 p' w rb 64 rv L' live:=⟨D.pg,D.tbl,D.l1,D.l2,by omega,by have:=congrArg List.length hG';rw[List.length_map]at this;rw[this];exact Gp.allGP_len _,fun g hg=>⟨(I.gi g (hsub g hg)).cl,(I.gi g (hsub g hg)).cm⟩,pln',by rw[pla'];exact I.l.below D.bel,fun hn g o e=>by have:=hlv hn g o (by rw[← pla'];exact e);omega,hln,by rw[ppk'];omega,by rw[ppk'];omega⟩
  exact(show Dc.Ed lo' lo' w3 p' w f' S' (allFP (el.map Fe.p)) rb 64 rv L' live MB' from⟨D.pf,D.fs,fun b hb=>(D.fb b hb).2,fun u _=>hP u,G0,Nat.le_refl _,fun b hb=>(D.mo.bd b hb).1⟩).low (gY.mono hlo'.2)
abbrev Sx (vb vd:Nat) (p p':Tp) (g o:Nat) (s:Mt.Sn) (W:World):Prop :=
 (W.cell? ⟨vb,0,none⟩=some (.pointer p.f)∧W.cell? ⟨vb,1,none⟩=some (.pointer p.g)∧W.cell? ⟨vb,2,none⟩=some (.slice p.ma p.mn p.mc)∧W.cell? ⟨vb,3,none⟩=some (.slice p.la p.ln p.lc)) ∧
 (W.cell? ⟨vd,0,none⟩=some (.pointer p'.f)∧W.cell? ⟨vd,1,none⟩=some (.pointer p'.g)∧W.cell? ⟨vd,2,none⟩=some (.slice p'.ma p'.mn p'.mc)∧W.cell? ⟨vd,3,none⟩=some (.slice p'.la p'.ln p'.lc)) ∧
 (W.cell? ⟨g,o,none⟩=some (.int .i64 s.inp)∧W.cell? ⟨g,o+1,none⟩=some (.int .u64 s.mt)∧W.cell? ⟨g,o+2,none⟩=some (.int .u64 s.to)∧W.cell? ⟨g,o+3,none⟩=some (.int .u64 s.fr)∧W.cell? ⟨g,o+4,none⟩=some (.int .i64 s.vl)∧W.cell? ⟨g,o+5,none⟩=some (.int .i64 s.ty)∧W.cell? ⟨g,o+6,none⟩=some (.int .u32 s.src)∧W.cell? ⟨g,o+7,none⟩=some (.int .u32 s.dst)∧W.cell? ⟨g,o+8,none⟩=some (.int .i64 s.life)∧W.cell? ⟨g,o+9,none⟩=some (.int .i64 s.pro)∧W.cell? ⟨g,o+10,none⟩=some (.int .i64 s.sp)∧W.cell? ⟨g,o+11,none⟩=some (.int .i64 s.dp)∧W.cell? ⟨g,o+12,none⟩=some (.string s.data))
theorem Sx.of {vb vd:Nat} {p p':Tp} {g o:Nat} {s:Mt.Sn} {W:World} (h1:W.rangeAt vb 0 (ptC p).toList) (h2:W.rangeAt vd 0 (ptC p').toList) (h3:W.rangeAt g o (Mt.snC s).toList):Sx vb vd p p' g o s W :=
 ⟨⟨h1 0 _ rfl,h1 1 _ rfl,h1 2 _ rfl,h1 3 _ rfl⟩,⟨h2 0 _ rfl,h2 1 _ rfl,h2 2 _ rfl,h2 3 _ rfl⟩,h3 0 _ rfl,h3 1 _ rfl,h3 2 _ rfl,h3 3 _ rfl,h3 4 _ rfl,h3 5 _ rfl,h3 6 _ rfl,h3 7 _ rfl,h3 8 _ rfl,h3 9 _ rfl,h3 10 _ rfl,h3 11 _ rfl,h3 12 _ rfl⟩
abbrev Sy (vb vd g1 o1 g2 o2:Nat) (a:Option Addr) (n c:Nat) (a':Option Addr) (c':Nat) (u v:Value) (W:World):Prop :=
 W.cell? ⟨vb,2,none⟩=some (.slice a n c)∧W.cell? ⟨vd,2,none⟩=some (.slice a' n c')∧W.cell? ⟨g1,o1,none⟩=some u∧W.cell? ⟨g2,o2,none⟩=some v
theorem runs_walk (ea:Option Addr) (el:List Fe) (ec:Nat) (ga:Option Addr) (gl:List Gp.Gr) (gc:Nat) (ma:Option Addr) (ml:List (Int × Int)) (mc:Nat) (la:Option Addr) (live:List Bool) (lc:Nat) (sa:Option Addr) (l:List Mt.Sn) (sc:Nat) (n:Int) (w:World) (I:Mi w ea el ga gl ma ml la live)
 (hl:Sl w sa l) (hs:∀ s∈l,Mt.Wf s∧Fr.Wf s.pk) (hn:l.length≤9223372036854775807) (n0 : -9223372036854775808≤n) (n1:n≤9223372036854775807) :
 Calls prog 3 #[mdV ea el.length ec ga gl.length gc ma ml.length mc la live.length lc,.slice sa l.length sc,.int .i64 n] w fun e w'=>e=.returned (.bool true)∧Below w.heap.size w w':=by
 obtain⟨V,hV⟩:∃ V,w.alloc (.cells (mdC ea el.length ec ga gl.length gc ma ml.length mc la live.length lc) 27)=V:=⟨_,rfl⟩
 have gV:Below w.heap.size w V:=by rw[← hV];go_grown
 have zV:V.heap.size=w.heap.size+1:=by rw[← hV];simp
 have hc:V.rangeAt w.heap.size 0 (mdC ea el.length ec ga gl.length gc ma ml.length mc la live.length lc).toList:=by rw[← hV];exact range_new w _ _
 have HC:Hid (∀ W,Below V.heap.size V W→W.cell? ⟨w.heap.size,0,none⟩=some (.slice ea el.length ec)∧W.cell? ⟨w.heap.size,1,none⟩=some (.slice ga gl.length gc)∧W.cell? ⟨w.heap.size,2,none⟩=some (.slice ma ml.length mc)∧W.cell? ⟨w.heap.size,3,none⟩=some (.slice la live.length lc)):=(show ∀ W,_ from fun W g=>by
  have ec':∀ o v,(mdC ea el.length ec ga gl.length gc ma ml.length mc la live.length lc).toList[o]? = some v→W.cell? ⟨w.heap.size,o,none⟩=some v:=fun o v hv=>by
   rw[World.cell?_of_block (w:=V) (g.block w.heap.size (by omega))];have:=hc o v hv;rwa [Nat.zero_add]at this
  exact⟨ec' 0 _ rfl,ec' 1 _ rfl,ec' 2 _ rfl,ec' 3 _ rfl⟩)
 have HP:Hid _:=parts_any ea el ec ga gl gc ma ml mc la live lc n V (I.below gV);have HI:Hid (Mi w ea el ga gl ma ml la live):=I;have HV:Hid (w.alloc (.cells (mdC ea el.length ec ga gl.length gc ma ml.length mc la live.length lc) 27)=V):=hV;have HgV:Hid (Below w.heap.size w V):=gV;have HS:Hid (Sl w sa l∧∀ s∈l,Mt.Wf s∧Fr.Wf s.pk):=(show _∧_ from⟨hl,hs⟩)
 have HA2:Hid (∀ W,Below w.heap.size w W→Calls prog 10 #[] W fun e w'=>e=.returned (.bool true)∧Below W.heap.size W w'):=(show ∀ W,_ from fun W g=>awake_any W (HI.out.cd.below g))
 have hlI:(l.length:Int)≤9223372036854775807:=by omega
 clear I gV hV hl hs hc zV hn;go_enter func3,ntmps3;go_wp2_with fail;rw[HV.out];refine Calls.mono HP.out ?_;rintro e w1 ⟨p,rfl,hpt⟩;obtain⟨X,hX⟩:∃ X,w1.alloc (.cells (ptC p) 33)=X:=⟨_,rfl⟩
 have HX:Hid (w1.alloc (.cells (ptC p) 33)=X):=hX;have g1:Below V.heap.size V X:=by
  obtain⟨_,_,_,_,_,_,_,_,hPt,_⟩:=hpt;exact btr hPt.bel (by rw[← hX];go_grown) (Nat.le_refl _)
 have Hpt:Hid _:=hpt;have bX:Below w.heap.size w X:=HgV.out.trans (g1.mono HgV.out.size);have HbX:Hid (Below w.heap.size w X∧Below V.heap.size V X):=(show _∧_ from⟨bX,g1⟩)
 have hFw:=few_any ea el ec ga gl gc ma ml mc la live lc X (HI.out.below bX);have HFw:Hid _:=hFw;obtain⟨c0,c1,c2,c3⟩:=HC.out X g1;obtain⟨B,hB⟩:∃ B,B=fewM el gl ml live:=⟨_,rfl⟩
 rw[← hB]at HFw;have HB:Hid (B=fewM el gl ml live):=hB;clear hFw hpt HP HV hB g1 bX;go_wp2_with fail;refine Calls.mono HFw.out ?_;rintro e w2 ⟨rfl,g2⟩;have Hg2:Hid (Below X.heap.size X w2):=g2;have b2:Below w.heap.size w w2:=btr HbX.out.1 g2 (Nat.le_refl _);have Hb2:Hid (Below w.heap.size w w2):=b2;clear c0 c1 c2 c3 HFw;obtain⟨c0,c1,c2,c3⟩:=HC.out w2 (btr HbX.out.2 g2 (Nat.le_refl _));clear g2 b2 HC;cases B
 ·go_wp2_with fail;refine Calls.mono (HA2.out w2 Hb2.out) ?_;rintro e w3 ⟨rfl,g3⟩;go_wp2_with fail;go_ret;exact⟨rfl,btr Hb2.out g3 (Nat.le_refl _)⟩
 ·have HFf:Hid (Dc.Fw el gl ml live):=Dc.few_parts HB.out.symm;have HPl:Hid _:=Dc.plain_any ea el ec ga gl gc ma ml mc la live lc n w w2 HI.out Hb2.out HFf.out;go_wp2_with fail;refine Calls.mono HPl.out ?_;rintro e w3 ⟨p',rfl,hD⟩;obtain⟨Y,hY⟩:∃ Y,w3.alloc (.cells (ptC p') 42)=Y:=⟨_,rfl⟩
  obtain⟨Z,Q0,Q0',hC,hR,hq,z1,z2,z3,z4,z5⟩:=Rn.of HI.out n0 n1 HFf.out HgV.out Hpt.out HX.out Hg2.out hD hY;have HCz:Hid (Rc w Z):=hC;have HR0:Hid (Rn w Z Q0 Q0' Y∧Q0'.ms=Q0.ms):=(show _∧_ from⟨hR,hq⟩)
  have Hz:Hid (Z.p=p∧Z.p'=p'∧Z.vb=w1.heap.size∧Z.vd=w3.heap.size∧Z.n=n):=(show _∧_ from⟨z1,z2,z3,z4,z5⟩)
  clear hC hR hq z1 z2 z3 z4 z5 hD HPl Hpt HX hX HFf HbX Hg2 HgV HB;go_wp2_with fail;go_loopw [10] (fun i wr=>∃ (k:Nat) (Q Q':Mq),k≤l.length∧i=.int .i64 k∧Hid (Rn w Z Q Q' wr∧Q'.ms=Q.ms)) (fun i _=>10-(intOf i).toNat);case atStart=>exact⟨0,Q0,Q0',Nat.zero_le _,rfl,HR0⟩
  case round =>
   clear HR0 c0 c1 c2 c3 hY;obtain⟨k,Q,Q',hk,rfl,HRk⟩:=hrel;by_cases hlt:k<l.length∧k<10
   ·obtain⟨h1,h2⟩:=hlt;have h1I:(k:Int)<(l.length:Int):=by omega
    have h2I:(k:Int)<10:=by omega
    obtain⟨g,o,ha,hg,hcl⟩:∃ g o,sa=some ⟨g,o,none⟩∧g<w.heap.size∧∀ i (h:i<l.length),w.rangeAt g (o+i*13) (Mt.snC l[i]).toList:=by
     rcases HS.out.1 with e|h
     ·rw[e]at h1;cases h1
     ·exact h
    have hck:=hcl k h1;have hsk:=HS.out.2 l[k] (List.getElem_mem h1);generalize l[k]=s at hck hsk;have HPk:Hid (∀ W,Below w.heap.size w W→W.rangeAt g (o+k*13) (Mt.snC s).toList):=(show ∀ W,_ from fun W gW=>range_block hck (gW.block g hg))
    subst ha;have cd:wr.cell? ⟨g,o+k*13+2+10,none⟩=some (.string s.data):=HPk.out wr HRk.out.1.bel 12 _ rfl;have Hsk:Hid (Mt.Wf s∧Fr.Wf s.pk):=hsk;clear hcl hck hg hsk;by_cases hbig:(1500:Int)<(s.data.size:Int)
    ·go_wp2_with fail;refine Calls.mono (HA2.out wr HRk.out.1.bel) ?_;rintro e w4 ⟨rfl,g4⟩;go_wp2_with fail;go_ret;exact⟨rfl,btr HRk.out.1.bel g4 (Nat.le_refl _)⟩
    ·have HSw:Hid (Sw s):=(show Sw s from⟨Hsk.out.1,Hsk.out.2,by omega⟩)
     obtain⟨e1,e2,e3,e4,e5⟩:=Hz.out;obtain⟨R,hR⟩:∃ R,R=runV Z.P Z.G Z.live Z.n s Q.ms:=⟨_,rfl⟩
     have HRun:Hid (∀ W,Rn w Z Q Q' W→Calls prog 14 #[ptV p,Mt.snV s,.int .i64 n] W fun e W'=>∃ a c,e=.returned (.slice a R.1.length c)∧Hid (S3 w Z Q' R a c W')):=(show ∀ W,_ from fun W h=>by
      have:=Rn.run1 HCz.out h s HSw.out hR;rwa [e1,e5]at this)
     have HOut:Hid (∀ W a c,S3 w Z Q' R a c W→Calls prog 13 #[.slice a R.1.length c] W fun e W'=>∃ a c,e=.returned (.slice a R.1.length c)∧Hid (S4 w Z Q' R a c W')):=(show ∀ W a c,_ from fun W a c h=>Rn.outs HCz.out h)
     have HPln:Hid (∀ W a c,S4 w Z Q' R a c W→Calls prog 16 #[Mt.snV s] W fun e W'=>e=.returned (Mt.snV s)∧Hid (S4 w Z Q' R a c W')):=(show ∀ W a c,_ from fun W a c h=>(Mt.plain_any s W).mono fun e W' ⟨h1,h2⟩=>⟨h1,(show S4 _ _ _ _ _ _ _ from Rn.plain HCz.out h h2)⟩)
     have HRun2:Hid (∀ W a c,S4 w Z Q' R a c W→Calls prog 15 #[ptV p',Mt.snV s,.int .i64 n] W fun e W'=>∃ a' c',e=.returned (.slice a' R.1.length c')∧Hid (S6 w Z R a c a' c' W')):=(show ∀ W a c,_ from fun W a c h=>by
      have:=Rn.run2 HCz.out h s HSw.out (by rw[HRk.out.2];exact hR);rwa [e2,e5]at this)
     have HSam:Hid (∀ W a c a' c',S6 w Z R a c a' c' W→Calls prog 12 #[.slice a R.1.length c,.slice a' R.1.length c'] W fun e W'=>e=.returned (.bool true)∧Hid (S7 w Z R W')):=(show ∀ W a c a' c',_ from fun W a c a' c' h=>Rn.same HCz.out h)
     have HSx:Hid (∀ W Q1 Q2,Rn w Z Q1 Q2 W→Sx w1.heap.size w3.heap.size p p' g (o+k*13) s W):=(show ∀ W Q1 Q2,_ from fun W Q1 Q2 h=>Sx.of (e1 ▸ e3 ▸ h.pc) (e2 ▸ e4 ▸ h.pd) (HPk.out W h.bel))
     generalize R.1.length=N at *
     have hRd:Rn w Z Q Q' wr.drew:=HRk.out.1.grow HCz.out (by go_grown);have HRd:Hid (Rn w Z Q Q' wr.drew):=hRd;have hS0:Sx w1.heap.size w3.heap.size p p' g (o+k*13) s wr.drew:=HSx.out _ _ _ hRd;have HS0:Hid (Sx w1.heap.size w3.heap.size p p' g (o+k*13) s wr.drew):=hS0;clear hR e1 e2 e3 e4 e5 hS0 hRd HSw Hsk;go_wp2_with fail
     go_region_held (Sx w1.heap.size w3.heap.size p p' g (o+k*13) s) (first|exact HS0.out|assumption) (first
      | (go_at_call 14;refine(HRun.out _ HRd.out).mono ?_;rintro e w4 ⟨a4,c4,rfl,HY4⟩;have hS4:Sx w1.heap.size w3.heap.size p p' g (o+k*13) s w4:=(by obtain⟨Q1,_,_,_,h⟩:=HY4.out;exact HSx.out _ _ _ h))
      | (go_at_call 13;refine(HOut.out _ _ _ HY4.out).mono ?_;rintro e w5 ⟨a5,c5,rfl,HY5⟩;have hS5:Sx w1.heap.size w3.heap.size p p' g (o+k*13) s w5:=(by obtain⟨Q1,_,_,_,h⟩:=HY5.out;exact HSx.out _ _ _ h))
      | (go_at_call 16;refine(HPln.out _ _ _ HY5.out).mono ?_;rintro e w6 ⟨rfl,HY6⟩;have hS6:Sx w1.heap.size w3.heap.size p p' g (o+k*13) s w6:=(by obtain⟨Q1,_,_,_,h⟩:=HY6.out;exact HSx.out _ _ _ h))
      | (go_at_call 15;refine(HRun2.out _ _ _ HY6.out).mono ?_;rintro e w7 ⟨a7,c7,rfl,HY7⟩;have hS7:Sx w1.heap.size w3.heap.size p p' g (o+k*13) s w7:=(by obtain⟨Q1,Q2,_,_,_,_,_,h⟩:=HY7.out;exact HSx.out _ _ _ h))
      | (go_at_call 12;refine(HSam.out _ _ _ _ _ HY7.out).mono ?_;rintro e w8 ⟨rfl,HY8⟩;have hS8:Sx w1.heap.size w3.heap.size p p' g (o+k*13) s w8:=(by obtain⟨Q1,Q2,_,_,h⟩:=HY8.out;exact HSx.out _ _ _ h)))
     clear HRun HOut HPln HRun2 HSam HSx HRd HS0 HPk HY4 HY5 HY6 HY7 hS4 hS5 hS6 hS7 hS8 cd hbig;go_wp2_with fail;go_loopw [11] (fun j wr=>∃ (m:Nat) (Q1 Q2:Mq),1≤m∧m≤p.mn+1∧j=.int .i64 m∧Hid (Rn w Z Q1 Q2 wr∧Q2.ms=Q1.ms)) (fun j _=>p.mn-(intOf j).toNat);case atStart=>obtain⟨Q1,Q2,m1,m2,h⟩:=HY8.out;exact⟨1,Q1,Q2,Nat.le_refl _,by omega,rfl,(show _∧_ from⟨h,m2.trans m1.symm⟩)⟩
     case round =>
      clear HY8;obtain⟨m,Q1,Q2,hm1,hm2,rfl,HM⟩:=hrel;obtain⟨e1,e2,e3,e4,e5⟩:=Hz.out;have hpc:wr.rangeAt w1.heap.size 0 (ptC p).toList:=e1 ▸ e3 ▸ HM.out.1.pc;have hpd:wr.rangeAt w3.heap.size 0 (ptC p').toList:=e2 ▸ e4 ▸ HM.out.1.pd;have pc2:wr.cell? ⟨w1.heap.size,2,none⟩=some (.slice p.ma p.mn p.mc):=hpc 2 _ rfl;have pd2:wr.cell? ⟨w3.heap.size,2,none⟩=some (.slice p'.ma p'.mn p'.mc):=hpd 2 _ rfl;obtain⟨hl1,hl2⟩:=HM.out.1.len HM.out.2;rw[e1]at hl1;rw[e2]at hl2;have hml:Q1.length≤9223372036854775807:=HM.out.1.mo.ml;by_cases hlt2:m<Q1.length
      ·have hmI:(m:Int)<(Q1.length:Int):=by omega
       obtain⟨g1,o1,x1,V1,a1,hc1,HL1⟩:∃ g1 o1 x1 V1,p.ma=some ⟨g1,o1,none⟩∧wr.cell? ⟨g1,o1+m,none⟩=some (mqP x1)∧Hid (Q1.ms[m]? = some (x1.map Prod.snd)∧V1=lftV (x1.map Prod.snd)∧Calls prog 17 #[mqP x1] wr.drew fun e w'=>e=.returned (.int .i64 V1)∧w'=wr.drew):=by
        have M:=HM.out.1.mo;rcases M.ma with e|⟨g1,o1,a1,_,_,hc⟩
        ·rw[e]at hlt2;cases hlt2
        ·refine⟨g1,o1,Q1[m],_,by rw[← e1];exact a1,hc m hlt2,(show _∧_ from⟨?_,rfl,pleft_any _ _ (fun y hy=>((HM.out.1.grow HCz.out (by go_grown):Rn w Z Q1 Q2 wr.drew).mo.bk m hlt2 y hy).1)⟩)⟩;unfold Mq.ms;simp[hlt2]
       have hlq:m<Q2.length:=by
        have:=congrArg List.length HM.out.2;unfold Mq.ms at this;simp at this;omega
       obtain⟨g2,o2,x2,a2,hc2,HL2⟩:∃ g2 o2 x2,p'.ma=some ⟨g2,o2,none⟩∧wr.cell? ⟨g2,o2+m,none⟩=some (mqP x2)∧Hid (Calls prog 18 #[mqP x2] wr.drew fun e w'=>e=.returned (.int .i64 V1)∧w'=wr.drew):=by
        have M:=HM.out.1.md;rcases M.ma with e|⟨g1,o1,a1,_,_,hc⟩
        ·rw[e]at hlq;cases hlq
        ·refine⟨g1,o1,Q2[m],by rw[← e2];exact a1,hc m hlq,(show Calls _ _ _ _ _ from ?_)⟩;have hv:V1=lftV (Q2[m].map Prod.snd):=by
          have h:=HL1.out.1;rw[← HM.out.2]at h;unfold Mq.ms at h;simp only[List.getElem?_map,List.getElem?_eq_getElem hlq,Option.map_some,Option.some.injEq]at h;rw[HL1.out.2.1,← h]
         rw[hv];exact lleft_any _ _ (fun y hy=>((HM.out.1.grow HCz.out (by go_grown):Rn w Z Q1 Q2 wr.drew).md.bk m hlq y hy).1)
       rw[a1,hl1]at pc2;rw[a2,hl2]at pd2;have HSy:Hid (Sy w1.heap.size w3.heap.size g1 (o1+m) g2 (o2+m) (some ⟨g1,o1,none⟩) Q1.length p.mc (some ⟨g2,o2,none⟩) p'.mc (mqP x1) (mqP x2) wr.drew):=(show _∧_ from⟨pc2,pd2,hc1,hc2⟩)
       have HMd:Hid (Rn w Z Q1 Q2 wr.drew∧Q2.ms=Q1.ms):=(show _∧_ from⟨HM.out.1.grow HCz.out (by go_grown),HM.out.2⟩)
       have Hl1:Hid (p.mn=Q1.length):=hl1;clear e1 e2 e3 e4 e5 hpc hpd hl1 hl2 HM a1 a2;go_wp2_with fail;clear pc2 pd2 hc1 hc2
       go_region_held (Sy w1.heap.size w3.heap.size g1 (o1+m) g2 (o2+m) (some ⟨g1,o1,none⟩) Q1.length p.mc (some ⟨g2,o2,none⟩) p'.mc (mqP x1) (mqP x2)) (first|exact HSy.out|assumption) (first
        | (go_at_call 17;refine HL1.out.2.2.mono ?_;rintro e w9 ⟨rfl,rfl⟩)
        | (go_at_call 18;refine HL2.out.mono ?_;rintro e w9 ⟨rfl,rfl⟩))
       go_wp2_with fail;go_roundw;case rel=>exact⟨m+1,Q1,Q2,by omega,by have:=Hl1.out;omega,by go_num,HMd⟩
       case measure=>have:=Hl1.out;simp[intOf];omega
      ·have hmI : ¬ (m:Int)<(Q1.length:Int):=by omega
       rw[hl1]at pc2;clear e1 e2 e3 e4 e5 hpc hpd hl1 hl2 pd2;go_wp2_with fail;go_roundw;case rel=>exact⟨k+1,Q1,Q2,h1,by go_num,HM⟩
       case measure=>simp[intOf];omega
   ·by_cases h1:k<l.length
    ·have h1I:(k:Int)<(l.length:Int):=by omega
     have h2I : ¬ (k:Int)<10:=by omega
     go_wp2_with fail;refine Calls.mono (HA2.out wr HRk.out.1.bel) ?_;rintro e w4 ⟨rfl,g4⟩;go_wp2_with fail;go_ret;exact⟨rfl,btr HRk.out.1.bel g4 (Nat.le_refl _)⟩
    ·have h1I : ¬ (k:Int)<(l.length:Int):=by omega
     go_wp2_with fail;refine Calls.mono (HA2.out wr HRk.out.1.bel) ?_;rintro e w4 ⟨rfl,g4⟩;go_wp2_with fail;go_ret;exact⟨rfl,btr HRk.out.1.bel g4 (Nat.le_refl _)⟩
end Go.Proofs.YtgnihbdcdefdgaaGreatDoor

import Derived.Test.YtgnihbdcdefdgaaGreatDoorXA7
import Derived.Test.YtgnihbdcdefdgaaGreatDoorXA8
import Derived.Test.YtgnihbdcdefdgaaGreatDoorX24
set_option maxRecDepth 20000
set_option maxHeartbeats 16000000
set_option linter.unusedSimpArgs false
set_option linter.unusedVariables false
open Go.ChangeShapes Go.WideShapes Go.ChangeAt Go.RowKit
open Go.Proofs.Tryz
namespace Go.Proofs.YtgnihbdcdefdgaaGreatDoor
namespace Dc
theorem Tr.bump {w:World} {t:Nat} {p:Tp} {v:Value} {O:List Ot} {nb:Nat} (h:Tr w t p v O nb) (hn:nb<256):Tr (w.setCell ⟨t,6,none⟩ (.int .i64 ((nb:Int)+1))) t p v O (nb+1)∧Eff t v w v (w.setCell ⟨t,6,none⟩ (.int .i64 ((nb:Int)+1))):=by
 have o6:∀ o,o≠6→(w.setCell ⟨t,6,none⟩ (.int .i64 ((nb:Int)+1))).cell? ⟨t,o,none⟩=w.cell? ⟨t,o,none⟩:=fun o ho=>World.cell?_setCell_other _ _ _ _ (by simp[ho]);have hz:(w.setCell ⟨t,6,none⟩ (.int .i64 ((nb:Int)+1))).heap.size=w.heap.size:=by simp[World.setCell]
 have fb:∀ b,b≠t→(w.setCell ⟨t,6,none⟩ (.int .i64 ((nb:Int)+1))).heap[b]? = w.heap[b]?:=fun b hb=>Below.heap_setCell _ _ _ _ hb;refine⟨⟨(o6 _ (by decide)).trans h.c0,(o6 _ (by decide)).trans h.c1,(o6 _ (by decide)).trans h.c2,(o6 _ (by decide)).trans h.c3,(o6 _ (by decide)).trans h.c4,(o6 _ (by decide)).trans h.c5,?_,fun o=>(World.frozen?_setCell _ _ _ _).trans (h.fz o),by rw[hz];exact h.lt,own_block h.row (fun b hb=>fb b (by have:=(h.own hb).1;omega)),h.no,by omega⟩,⟨⟨rfl,rfl,rfl,by rw[hz];exact Nat.le_refl _,fun b _ hs=>fb b (fun e=>hs (.inl e))⟩,.inl rfl⟩⟩;rw[World.cell?_setCell_same _ _ _ h.c6];simp
theorem dthrV_succ (G:List G3) (live:List Bool) (pick:Int) (k:Nat) (s:Mt.Sn) (id:Int) (σ:St):dthrV G live pick (k+1) s id σ=match getV G id with
 | none=>σ
 | some g=>dbksV (fun l=>dsetV live (dthrV G live pick k) l s) (chooseV g.2.1 g.2.2 live pick) σ:=rfl
theorem thr_zero (t:Nat) (p:Tp) (W0:World) (rb:Nat) (rG:Int) (rv:Value) (L:List Gp.Gr) (live:List Bool) (G:List G3) (pick:Int):ThrC t p W0 rb rG rv L live 8 (dthrV G live pick 0):=by
 intro s id v σ w T hG;obtain⟨V,hV⟩:∃ V,w.alloc (.cells (Mt.snC s) 56)=V:=⟨_,rfl⟩
 have g0:Below w.heap.size w V:=by rw[← hV];go_grown
 have HV:Hid (w.alloc (.cells (Mt.snC s) 56)=V):=hV;have HGt:Hid _:=Gp.rget_any id V (hG.tbl.below g0) hG.nl;have c1:=T.c1;rw[hG.pg]at c1;have htl:=T.lt;have HT:Hid (Tr w t p v σ.1 σ.2∧Below w.heap.size w V):=(show _∧_ from⟨T,g0⟩)
 clear T hG g0 hV;go_enter func76,ntmps76;go_wp2_with fail;rw[HV.out];refine Calls.mono HGt.out ?_;rintro e w1 ⟨g',er,rfl,hor,g1⟩;have HG1:Hid (Below w.heap.size w w1):=btr HT.out.2 g1 (Nat.le_refl _);obtain⟨gi,gk,ga,gl,gc⟩:=g';clear g1 hor;go_wp2_with fail;(try simp only[Exit.inBlock,Exit.then])
 refine bodyPost_ret (results_none rfl _ _ _) rfl ?_;have g:Below w.heap.size w (w1.alloc (.cells #[.int .i64 gi,.int .i64 gk,.slice ga gl.length gc] 81)):=btr HG1.out (by go_grown) (Nat.le_refl _);exact⟨rfl,v,HT.out.1.below g,Eff.of_below g⟩
abbrev SKd (b c o:Nat) (s:Mt.Sn) (a:Option Addr) (n m:Nat) (w:World):Prop:=Mt.Bx w b s∧w.cell? ⟨c,o,none⟩=some (.slice a n m)
theorem thr_succ (t:Nat) (p:Tp) (W0:World) (rb:Nat) (rG:Int) (rv:Value) (L:List Gp.Gr) (live:List Bool) (n:Nat) (d:Int) (hd:0≤d) (hd8:d<8)
 (HD:Hid (∀ (a:Option Addr) (l:List A) (cap:Nat) (s:Mt.Sn) (v:Value) (σ:St) (w:World),Tr w t p v σ.1 σ.2→Gd t w p W0 rb rG rv L live→Ts w a l→AWs l→l.length≤1000 →
   Calls prog 40 #[.pointer (some ⟨t,0,none⟩),Mt.snV s,.slice a l.length cap,.int .i64 (d+1)] w (Lft t p v w (dsetV live (dthrV (L.map Gp.Gr.p) live p.pick n) l s σ)))) :
 ThrC t p W0 rb rG rv L live d (dthrV (L.map Gp.Gr.p) live p.pick (n+1)):=by
 intro s id v σ w T hG;obtain⟨R,hR⟩:∃ R:St,R=dthrV (L.map Gp.Gr.p) live p.pick (n+1) s id σ:=⟨_,rfl⟩
 rw[← hR];have HR:Hid (R=dthrV (L.map Gp.Gr.p) live p.pick (n+1) s id σ):=hR;clear hR;have htl:=T.lt;have HTw:Hid (Tr w t p v σ.1 σ.2):=T;have HG:Hid (Gd t w p W0 rb rG rv L live):=hG;have hv0:v.ownBlock≠some w.heap.size:=fun e=>by have:=(T.own e).2;omega
 obtain⟨V,hV⟩:∃ V,w.alloc (.cells (Mt.snC s) 56)=V:=⟨_,rfl⟩
 have g0:Below w.heap.size w V:=by rw[← hV];go_grown
 have T0:Tr V t p v σ.1 σ.2:=T.below g0;have S0:Sb V w.heap.size s:=by rw[← hV];exact Sb.newr w s
 have z0:w.heap.size+1≤V.heap.size:=by rw[← hV];simp
 have HV:Hid (w.alloc (.cells (Mt.snC s) 56)=V):=hV;have HGt:Hid _:=Gp.rget_any id V (hG.tbl.below g0) hG.nl;have c1:=T.c1;rw[hG.pg]at c1;have b8 : ¬ 8≤d:=by omega
 have HT0:Hid (Tr V t p v σ.1 σ.2):=T0;have HS0:Hid (Sb V w.heap.size s):=S0;have Hg0:Hid (Below w.heap.size w V):=g0;clear T hG hV T0 S0 g0;go_enter func76,ntmps76;go_wp2_with fail;rw[HV.out];refine Calls.mono HGt.out ?_;rintro e w1 ⟨g',er,rfl,hor,g1⟩;have HT1:Hid (Tr w1 t p v σ.1 σ.2):=HT0.out.below g1;have HS1:Hid (Sb w1 w.heap.size s):=HS0.out.below (by omega) g1;have Hg1:Hid (Below w.heap.size w w1):=btr Hg0.out g1 (Nat.le_refl _);have z1:w.heap.size+1≤w1.heap.size:=Nat.le_trans z0 g1.size;rcases hor with⟨hp,rfl,rfl⟩|⟨hgL,hgi,rfl⟩
 ·have HR2:Hid (R=σ):=(show _=_ by rw[HR.out,dthrV_succ,get_none hp])
  clear g1 hp HR c1;go_wp2_with fail;(try simp only[Exit.inBlock,Exit.then])
  refine bodyPost_ret (results_none rfl _ _ _) rfl ?_;rw[HR2.out];have g:Below w.heap.size w (w1.alloc (.cells (Gp.gC Gp.gr0) 81)):=btr Hg1.out (by go_grown) (Nat.le_refl _);exact⟨rfl,v,HTw.out.below g,Eff.of_below g⟩
 ·have HR2:Hid (R=dbksV (fun l=>dsetV live (dthrV (L.map Gp.Gr.p) live p.pick n) l s) (chooseV g'.p.2.1 g'.p.2.2 live p.pick) σ):=(show _=_ by rw[HR.out,dthrV_succ,get_some HG.out.tbl.srt hgL hgi])
  obtain⟨hbW,hsm,hok⟩:=HG.out.tbl.grp g' hgL;obtain⟨hcl,hcm⟩:=HG.out.gc g' hgL;have hwe:∀ b∈g'.l,b.we≤1099511627776:=fun b hb=>by
   have:=(right_bks hok b.b3 (List.mem_map.2 ⟨b,hb,rfl⟩)).2.1;have e:b.b3.2.1=b.we:=rfl;omega
  obtain⟨gi,gk,ga,gl,gc⟩:=g';have e1:(Gp.Gr.p ⟨gi,gk,ga,gl,gc⟩).2.1=gk:=rfl;have e2:(Gp.Gr.p ⟨gi,gk,ga,gl,gc⟩).2.2=gl.map Gp.Bk.b3:=rfl;rw[e1,e2]at HR2;have hck:∀ b∈gl,b.l.length≤8∧AWs b.l:=fun b hb=>⟨(right_bks hok b.b3 (List.mem_map.2 ⟨b,hb,rfl⟩)).1,aws_right (right_bks hok b.b3 (List.mem_map.2 ⟨b,hb,rfl⟩)).2.2⟩
  simp only at hbW hsm hwe hcl hcm;have hgW:∀ gb o',ga=some ⟨gb,o',none⟩→gl≠[]→gb<W0.heap.size:=fun gb o' e hne=>by
   rcases hbW.2 with h|⟨g,o,h,hg,_⟩
   ·exact absurd h hne
   ·rw[e]at h;cases h;exact hg
  obtain⟨U,hU⟩:∃ U,w1.alloc (.cells #[.int .i64 gi,.int .i64 gk,.slice ga gl.length gc] 81)=U:=⟨_,rfl⟩
  have gU:Below w1.heap.size w1 U:=by rw[← hU];go_grown
  have HTU:Hid (Tr U t p v σ.1 σ.2):=HT1.out.below gU;have HSU:Hid (Sb U w.heap.size s):=HS1.out.below (by omega) gU;have HgU:Hid (Below w.heap.size w U):=btr Hg1.out gU (Nat.le_refl _);have HGU:Hid (Gd t U p W0 rb rG rv L live):=HG.out.low (HgU.out.mono (Nat.le_of_lt htl));have HCh:Hid (∀ W,Below U.heap.size U W→Calls prog 118 #[.agg #[.int .i64 gi,.int .i64 gk,.slice ga gl.length gc],.slice p.la p.ln p.lc,.int .i64 p.pick] W fun e w'=>∃ a' c' r,e=.returned (.slice a' r.length c')∧Hid (r.map Gp.Bk.b3=chooseV gk (gl.map Gp.Bk.b3) live p.pick∧Gp.Rs w' a' r∧(∀ b∈r,b∈gl)∧Gp.Wi ga a'∧Below W.heap.size W w')):=(show ∀ W,_ from fun W hW=>by
   rw[HGU.out.ln];refine(Gp.rchoose_any ⟨gi,gk,ga,gl,gc⟩ p.la live p.lc p.pick W ⟨hbW.below (HGU.out.tbl.bel.trans (hW.mono HGU.out.tbl.bel.size)),hsm,hwe,HGU.out.lv.below hW,HGU.out.le⟩ hcl hcm HGU.out.pl HGU.out.ph).mono ?_;rintro e w' ⟨a',c',rfl,h1,h2,h3⟩;refine⟨a',c',Gp.refL gk gl live p.pick,rfl,(show _∧_ from⟨?_,h1,fun b hb => ?_,h2,h3⟩)⟩
   ·rw[← Gp.choose_ref hwe,choose_b3]
   ·rw[← Gp.choose_ref hwe]at hb;exact Gp.chooseL_mem hb)
  have hcg:Gp.Cg U w1.heap.size 0 ⟨gi,gk,ga,gl,gc⟩:=by rw[← hU];exact Gp.Cg.new w1 ⟨gi,gk,ga,gl,gc⟩
  have HSG:Hid (SG w1.heap.size t gi gk ga gl.length gc p U):=(show SG _ _ _ _ _ _ _ _ _ from⟨hcg.1,by simpa using hcg.2.1,by simpa using hcg.2.2,HTU.out.c3,HTU.out.c4⟩)
  have zU:w.heap.size+1≤U.heap.size:=Nat.le_trans z1 gU.size;have HtU:Hid (t<U.heap.size):=HTU.out.lt;have zU1:w1.heap.size<U.heap.size:=by rw[← hU];simp
  have HkU:Hid (∀ w2,Below U.heap.size U w2→SG w1.heap.size t gi gk ga gl.length gc p w2):=(show ∀ w2,_ from fun w2 g=>by
   obtain⟨k0,k1,k2,k3,k4⟩:=HSG.out;have e:∀ b o,b<U.heap.size→w2.cell? ⟨b,o,none⟩=U.cell? ⟨b,o,none⟩:=fun b o h=>g.cell (p:=⟨b,o,none⟩) h;exact⟨(e _ _ zU1).trans k0,(e _ _ zU1).trans k1,(e _ _ zU1).trans k2,(e _ _ HtU.out).trans k3,(e _ _ HtU.out).trans k4⟩)
  have hgn:gl.length≤100:=hsm.n;have HW:Hid (Gp.Bs W0 ga gl∧(∀ b∈gl,b.l.length≤8∧AWs b.l)∧∀ gb o',ga=some ⟨gb,o',none⟩→gl≠[]→gb<W0.heap.size):=(show _∧_ from⟨hbW,hck,hgW⟩)
  clear hsm hwe g1 hok hgL hgi HR e1 e2 gU hcg hbW hck hgW hcl hcm c1;go_wp2_with fail;go_region_held (SG w1.heap.size t gi gk ga gl.length gc p) (first|exact HSG.out|exact HS2.out|assumption) ((go_at_call 118;refine(HCh.out _ (Below.refl _ _).drew).mono ?_;rintro e w2 ⟨a',c',r,rfl,HX⟩;have Hg2:Hid (Below U.heap.size U w2):=btr ((Below.refl _ _).drew) HX.out.2.2.2.2 (Nat.le_refl _);have HS2:Hid (SG w1.heap.size t gi gk ga gl.length gc p w2):=HkU.out _ Hg2.out));obtain⟨hrm,hrs,hsub,hwi,_⟩:=HX.out;have HT2:Hid (Tr w2 t p v σ.1 σ.2):=HTU.out.below Hg2.out;have HSb2:Hid (Sb w2 w.heap.size s):=HSU.out.below (by omega) Hg2.out;have HE2:Hid (Eff t v w v w2):=Eff.of_below (btr HgU.out Hg2.out (Nat.le_refl _));have z2:U.heap.size≤w2.heap.size:=Hg2.out.size;have HB2:Hid (Gp.Rs w2 a' r∧(∀ b∈r,b∈gl)∧Gp.Wi ga a'):=(show _∧_ from⟨hrs,hsub,hwi⟩)
  have HR3:Hid (R=dbksV (fun l=>dsetV live (dthrV (L.map Gp.Gr.p) live p.pick n) l s) (r.map Gp.Bk.b3) σ):=(show _=_ by rw[HR2.out,hrm])
  have hrn:r.length≤100:=by
   have h1:=congrArg List.length hrm;have h2:=chooseV_len gk (gl.map Gp.Bk.b3) live p.pick;simp only[List.length_map]at h1 h2;omega
  clear hrm hrs hsub hwi HX HR2 HCh HkU HSG HS2 hU;rename_i hHeld;clear hHeld;generalize hDO:(fun l=>dsetV live (dthrV (L.map Gp.Gr.p) live p.pick n) l s)=DO at HR3;have HDO:Hid (∀ l σ,DO l σ=dsetV live (dthrV (L.map Gp.Gr.p) live p.pick n) l s σ):=(show ∀ l σ,_ from fun l σ=>by rw[← hDO])
  clear hDO;go_wp2_with fail
  go_loopw [11] (fun i wr=>∃ (k:Nat) (v':Value) (σ':St),k≤r.length∧i=.int .i64 k∧Hid (R=dbksV DO ((r.drop k).map Gp.Bk.b3) σ')∧Hid (Tr wr t p v' σ'.1 σ'.2)∧Hid (Eff t v w2 v' wr))
   (fun i _=>(r.length-(intOf i).toNat))
  case atStart=>exact⟨0,v,σ,Nat.zero_le _,rfl,HR3,HT2,Eff.refl _ _ _⟩
  case round =>
   clear HR3;obtain⟨k,v',σ',hk,rfl,HRk,HTr,HE⟩:=hrel;by_cases hlt:k<r.length
   ·have HGr:Hid (Gd t wr p W0 rb rG rv L live):=HG.out.low (eff_below (HE2.out.trans HE.out) HTw.out);have hBt:Below t w2 wr:=eff_below HE.out HT2.out;have hmem:=HB2.out.2.1 r[k] (List.getElem_mem hlt);obtain⟨g2,o2,ha,hg,hc⟩:∃ g o,a'=some ⟨g,o,none⟩∧g<w2.heap.size∧∀ i (h:i<r.length),Gp.Cb w2 g (o+i*3) r[i]:=by
     rcases HB2.out.1 with h|h
     ·rw[h]at hlt;cases hlt
     ·exact h
    obtain⟨o',hga⟩:=HB2.out.2.2 g2 o2 ha;have hg2:g2<W0.heap.size:=HW.out.2.2 g2 o' hga (fun e=>by rw[e]at hmem;cases hmem);have hgt:g2<t:=Nat.lt_of_lt_of_le hg2 HGr.out.l3;obtain⟨_,_,c2'⟩:=hc k hlt;have c2:wr.cell? ⟨g2,o2+k*3+2,none⟩=some (.slice r[k].a r[k].l.length r[k].c):=(World.cell?_of_block (w:=w2) (hBt.block g2 hgt)).trans c2';have hTk:=HW.out.1.1 r[k] hmem;have hbk:=HW.out.2.1 r[k] hmem;have hdrop:r.drop k=r[k]::r.drop (k+1):=List.drop_eq_getElem_cons hlt;have HR4:Hid (R=dbksV DO (r[k].b3::(r.drop (k+1)).map Gp.Bk.b3) σ'):=(show _=_ by rw[HRk.out,hdrop];rfl)
    have hltI:(k:Int)<(r.length:Int):=by omega
    have Hk1:Hid (k+1≤r.length):=hlt;clear c2' hc hmem hga;generalize r[k]=x at *
    obtain⟨xw,xe,xa,xl,xc⟩:=x;subst ha;simp only at hbk hTk c2;obtain⟨a5,cap5,hv5⟩:=HTr.out.form;have e5:=HTr.out.c5;rw[hv5]at e5;have e6:=HTr.out.c6;have f6:=HTr.out.fz 6;have zr:w2.heap.size≤wr.heap.size:=HE.out.size;have hn:=HTr.out.nn;have htr:=HTr.out.lt;clear hdrop HRk hBt;by_cases h64:64≤σ'.1.length
    ·have b64:64≤((σ'.1.length:Nat):Int):=by omega
     have HR5:Hid (R=σ'):=(show _=_ by rw[HR4.out];exact if_pos (.inl h64))
     clear HR4;go_wp2_with fail;(try simp only[Exit.inBlock,Exit.then])
     refine bodyPost_ret (results_none rfl _ _ _) rfl ?_;rw[HR5.out];exact⟨rfl,v',HTr.out,HE2.out.trans HE.out⟩
    ·have b64 : ¬ 64≤((σ'.1.length:Nat):Int):=by omega
     by_cases h256:256≤σ'.2
     ·have b256:256≤((σ'.2:Nat):Int):=by omega
      have HR5:Hid (R=σ'):=(show _=_ by rw[HR4.out];exact if_pos (.inr h256))
      clear HR4;go_wp2_with fail;(try simp only[Exit.inBlock,Exit.then])
      refine bodyPost_ret (results_none rfl _ _ _) rfl ?_;rw[HR5.out];exact⟨rfl,v',HTr.out,HE2.out.trans HE.out⟩
     ·have b256 : ¬ 256≤((σ'.2:Nat):Int):=by omega
      have HR5:Hid (R=dbksV DO ((r.drop (k+1)).map Gp.Bk.b3) (DO (Sr.mergeV xl) (σ'.1,σ'.2+1))):=(show _=_ by rw[HR4.out];exact if_neg (by omega))
      have hn':σ'.2<256:=by omega
      obtain⟨Y,hY⟩:∃ Y,wr.setCell ⟨t,6,none⟩ (.int .i64 ((σ'.2:Int)+1))=Y:=⟨_,rfl⟩
      have hbump:=HTr.out.bump hn';rw[hY]at hbump;have HTY:Hid (Tr Y t p v' σ'.1 (σ'.2+1)):=hbump.1;have HEY:Hid (Eff t v w2 v' Y):=HE.out.trans hbump.2;have HGY:Hid (Gd t Y p W0 rb rG rv L live):=HG.out.low (eff_below (HE2.out.trans HEY.out) HTw.out);have zY:wr.heap.size≤Y.heap.size:=hbump.2.size;clear HR4 h256 hbump;have HvY:Hid (v'.ownBlock≠some w.heap.size):=HEY.out.apart (by omega) (fun e=>by have:=(HTw.out.own e).2;omega);have HSK:Hid (SKd w.heap.size g2 (o2+k*3+2) s xa xl.length xc Y):=(show SKd _ _ _ _ _ _ _ _ from⟨(HSb2.out.block (HEY.out.block (by omega) (by omega) (fun e=>by have:=(HTw.out.own e).2;omega))).bx,by
       rw[← hY,World.cell?_setCell_other _ _ _ _ (by simp<;>omega)];exact c2⟩)
      have HkZ:Hid (∀ w5 v6 w6,Below Y.heap.size Y w5→Eff t v' w5 v6 w6→SKd w.heap.size g2 (o2+k*3+2) s xa xl.length xc w6):=(show ∀ w5 v6 w6,_ from fun w5 v6 w6 g h=>by
       have e1:w6.heap[w.heap.size]? = Y.heap[w.heap.size]?:=(h.block (by have:=g.size;omega) (by omega) HvY.out).trans (g.block _ (by omega));have e2:w6.heap[g2]? = Y.heap[g2]?:=(h.block (by have:=g.size;omega) (by omega) (fun e=>by have:=(HTr.out.own e).1;omega)).trans (g.block _ (by omega));exact⟨HSK.out.1.block e1,(World.cell?_of_block (w:=Y) e2).trans HSK.out.2⟩)
      have HkY:Hid (∀ w5,Below Y.heap.size Y w5→SKd w.heap.size g2 (o2+k*3+2) s xa xl.length xc w5):=(show ∀ w5,_ from fun w5 g=>HkZ.out w5 v' w5 g (Eff.refl _ _ _))
      have hTY:Ts Y xa xl:=hTk.below HGY.out.tbl.bel;have HMg:Hid (∀ W,Below Y.heap.size Y W→Calls prog 39 #[.slice none 0 0,.slice xa xl.length xc] W fun e w'=>∃ a' c',e=.returned (.slice a' (Sr.mergeV xl).length c')∧Hid (Ts w' a' (Sr.mergeV xl)∧Below W.heap.size W w')):=(show ∀ W,_ from fun W g=>by
       refine(Sr.rmerge_any none xa [] xl 0 xc W (.inl rfl) (hTY.below g) (fun _ h=>by cases h) hbk.2 (by have:=hbk.1;simp;omega)).mono ?_;rintro e w' ⟨a',c',h1,h2,h3⟩;exact⟨a',c',h1,(show _∧_ from⟨h2,h3⟩)⟩)
      have hMl:(Sr.mergeV xl).length≤1000:=Nat.le_trans (merge_len xl) (by omega);have hMa:AWs (Sr.mergeV xl):=Sr.merge_aws hbk.2;have HDo:Hid (∀ a' c' w5,Below Y.heap.size Y w5→Ts w5 a' (Sr.mergeV xl)→Calls prog 40 #[.pointer (some ⟨t,0,none⟩),Mt.snV s,.slice a' (Sr.mergeV xl).length c',.int .i64 (IntKind.i64.wrap (d+1))] w5 (Lft t p v' w5 (DO (Sr.mergeV xl) (σ'.1,σ'.2+1)))):=(show ∀ a' c' w5,_ from fun a' c' w5 g hT=>by
       rw[HDO.out,show IntKind.i64.wrap (d+1)=d+1 by rw[IntKind.wrap_i64];omega];exact HD.out a' (Sr.mergeV xl) c' s v' (σ'.1,σ'.2+1) w5 (HTY.out.below g) (HGY.out.low (g.mono (Nat.le_of_lt HTY.out.lt))) hT hMa hMl)
      generalize Sr.mergeV xl=M at *
      clear hbk hTk hTY hMl hMa;have HMd:Hid _:=HMg.out Y.drew ((Below.refl Y.heap.size Y).drew);go_wp2_with fail
      go_region_held (SKd w.heap.size g2 (o2+k*3+2) s xa xl.length xc) (first|exact HSK.out|exact HS5.out|exact HS6.out|assumption)
       (first
       | (go_at_call 39;refine Calls.mono HMd.out ?_;rintro e w5 ⟨a5,c5,rfl,HX⟩;have Hg5:Hid (Below Y.heap.size Y w5):=btr ((Below.refl _ _).drew) HX.out.2 (Nat.le_refl _);have HS5:Hid (SKd w.heap.size g2 (o2+k*3+2) s xa xl.length xc w5):=HkY.out _ Hg5.out)
       | (go_at_call 40;refine(HDo.out a5 c5 w5 Hg5.out HX.out.1).mono ?_;rintro e w6 ⟨rfl,v6,T6,E6⟩;have HT6:Hid (Tr w6 t p v6 (DO M (σ'.1,σ'.2+1)).1 (DO M (σ'.1,σ'.2+1)).2):=T6;have HE6:Hid (Eff t v' w5 v6 w6):=E6;clear T6 E6;have HS6:Hid (SKd w.heap.size g2 (o2+k*3+2) s xa xl.length xc w6):=HkZ.out _ _ _ Hg5.out HE6.out))
      go_wp2_with fail;go_roundw;case rel=>exact⟨k+1,v6,DO M (σ'.1,σ'.2+1),Hk1.out,by go_num,HR5,HT6,(HEY.out.trans (Eff.of_below Hg5.out)).trans HE6.out⟩
      case measure=>have:=Hk1.out;simp[intOf];omega
   ·have hk':k=r.length:=by omega
    have HR4:Hid (R=σ'):=(show _=_ by rw[HRk.out,hk',List.drop_length];rfl)
    clear HRk;go_wp2_with fail;go_end0;rw[HR4.out];exact⟨rfl,v',HTr.out,HE2.out.trans HE.out⟩
theorem thr_all (t:Nat) (p:Tp) (W0:World) (rb:Nat) (rG:Int) (rv:Value) (L:List Gp.Gr) (live:List Bool):∀ n:Nat,n≤8→ThrC t p W0 rb rG rv L live (8-(n:Int)) (dthrV (L.map Gp.Gr.p) live p.pick n)
 | 0,_=>thr_zero t p W0 rb rG rv L live _ _
 | n+1,h=>by
   have ih:=thr_all t p W0 rb rG rv L live n (by omega);have e:(8:Int)-((n+1:Nat):Int)+1=8-(n:Int):=by omega
   refine thr_succ t p W0 rb rG rv L live n _ (by omega) (by omega) ?_;rw[e];exact(show ∀ (a:Option Addr) (l:List A) (cap:Nat) (s:Mt.Sn) (v:Value) (σ:St) (w:World),_ from fun a l cap s v σ w hT hG hL hW hl=>set_any t p W0 rb rG rv L live _ _ ih a l cap s v σ w hT hG hL hW hl)
theorem thr_top (t:Nat) (p:Tp) (W0:World) (rb:Nat) (rG:Int) (rv:Value) (L:List Gp.Gr) (live:List Bool):ThrC t p W0 rb rG rv L live 0 (dthrV (L.map Gp.Gr.p) live p.pick 8):=thr_all t p W0 rb rG rv L live 8 (Nat.le_refl _)
theorem st_only {w1:World} {b:Nat} {s s2:Mt.Sn} (h:Sb w1 b s):Sb (w1.setCells b 0 (Mt.snC s2).toList) b s2∧Only b w1 (w1.setCells b 0 (Mt.snC s2).toList) :=
 ⟨⟨World.rangeAt_setCells_same w1 b 0 (Mt.snC s2).toList h.t,World.there_setCells h.t b 0 _⟩,only_cells b (Mt.snC s2).toList 0 w1 w1 (Only.refl b w1)⟩
theorem acts_any (t:Nat) (p:Tp) (W0:World) (rb:Nat) (rG:Int) (rv:Value) (L:List Gp.Gr) (live:List Bool) (thr:Mt.Sn→Int→St→St) (HT:Hid (ThrC t p W0 rb rG rv L live 0 thr))
 (a:Option Addr) (l:List A) (cap:Nat) (s:Mt.Sn) (v:Value) (σ:St) (w:World) (T:Tr w t p v σ.1 σ.2) (G:Gd t w p W0 rb rG rv L live) (hL:Ts w a l) (hA:Apt t v a l) (hW:AWs l) (hl:l.length≤1000) :
 Calls prog 38 #[.pointer (some ⟨t,0,none⟩),Mt.snV s,.slice a l.length cap] w fun e w'=>e=.returned (Mt.snV (dactsV live thr l s σ).1)∧∃ v',Tr w' t p v' (dactsV live thr l s σ).2.1 (dactsV live thr l s σ).2.2∧Eff t v w v' w':=by
 have htl:=T.lt;have HTw:Hid (Tr w t p v σ.1 σ.2):=T;have HG:Hid (Gd t w p W0 rb rG rv L live):=G;have HL:Hid (Ts w a l∧Apt t v a l∧AWs l):=(show _∧_ from⟨hL,hA,hW⟩)
 have hv0:v.ownBlock≠some w.heap.size∧v.ownBlock≠some (w.heap.size+1):=⟨fun e=>by have:=(T.own e).2;omega,fun e=>by have:=(T.own e).2;omega⟩
 obtain⟨V,hV⟩:∃ V,(w.alloc (.cells (Mt.snC s) 56)).alloc (.cells szC 56)=V:=⟨_,rfl⟩
 have g0:Below w.heap.size w V:=by rw[← hV];go_grown
 have T0:Tr V t p v σ.1 σ.2:=T.below g0;have S0:Sb V w.heap.size s∧Sb V (w.heap.size+1) sz0:=by
  rw[← hV];refine⟨(Sb.newr w s).block (heap_alloc_old _ _ (by simp)),?_⟩;have h:=Sb.newr (w.alloc (.cells (Mt.snC s) 56)) sz0;have e:(w.alloc (.cells (Mt.snC s) 56)).heap.size=w.heap.size+1:=by simp
  rw[e]at h;exact h
 have z0:w.heap.size+2≤V.heap.size:=by rw[← hV];simp
 have E0:Eff t v w v V:=Eff.of_below g0;have HV:Hid ((w.alloc (.cells (Mt.snC s) 56)).alloc (.cells #[.int .i64 0,.int .u64 0,.int .u64 0,.int .u64 0,.int .i64 0,.int .i64 0,.int .u32 0,.int .u32 0,.int .i64 0,.int .i64 0,.int .i64 0,.int .i64 0,.string ⟨#[]⟩] 56)=V):=hV;clear T G hL hA hW hV g0;go_enter func38,ntmps38;go_wp2_with fail;rw[HV.out]
 go_loopw [7] (fun i wr=>∃ (k:Nat) (s':Mt.Sn) (v':Value) (σ':St),k≤l.length∧i=.int .i64 k∧Hid (dactsV live thr l s σ=dactsV live thr (l.drop k) s' σ')∧Hid (Sb wr w.heap.size s'∧Sb wr (w.heap.size+1) sz0)∧Hid (Tr wr t p v' σ'.1 σ'.2)∧Hid (Eff t v w v' wr)∧Hid (v'.ownBlock≠some w.heap.size∧v'.ownBlock≠some (w.heap.size+1))∧w.heap.size+2≤wr.heap.size)
  (fun i _=>(l.length-(intOf i).toNat))
 case atStart=>exact⟨0,s,v,σ,Nat.zero_le _,rfl,(show _=_ from rfl),S0,T0,E0,hv0,z0⟩
 case round =>
  clear S0 T0 E0 z0 hv0;obtain⟨k,s',v',σ',hk,rfl,HR,HS,HTr,HE,Hv,hz⟩:=hrel;by_cases hlt:k<l.length
  ·have hTs:=(HL.out.1.eff HE.out HL.out.2.1)
   obtain⟨g,o,ha,hg,hc⟩:=hTs.at hlt;obtain⟨c0,c1,c2⟩:=hc k hlt;have hdrop:l.drop k=l[k]::l.drop (k+1):=List.drop_eq_getElem_cons hlt;have hAW:AW l[k]:=HL.out.2.2 _ (List.getElem_mem hlt);have HR2:Hid (dactsV live thr l s σ=dactsV live thr (l[k]::l.drop (k+1)) s' σ'):=(show _=_ by rw[HR.out,hdrop])
   have hltI:(k:Int)<(l.length:Int):=by omega
   have HGr:Hid (Gd t wr p W0 rb rG rv L live):=HG.out.low (eff_below HE.out HTw.out);have hzr:w.heap.size<wr.heap.size∧w.heap.size+1<wr.heap.size:=⟨by omega,by omega⟩
   generalize l[k]=x at *
   obtain⟨x1,x2,x3⟩:=x;subst ha;obtain⟨b0,b1',b2',b3,b4,b5,b6,b7,b8,b9,b10,b11,b12⟩:=HS.out.1.bx;have hw:=conv_run x3;clear hdrop hc hTs HR;simp only at c0 c1 c2;have HN:Hid (∀ (W w1:World) (v2:Value) (σ2:St),Below wr.heap.size wr W→Eff t v' W v2 w1→Tr w1 t p v2 σ2.1 σ2.2→(Sb w1 w.heap.size s'∧Sb w1 (w.heap.size+1) sz0)∧Eff t v w v2 w1∧(v2.ownBlock≠some w.heap.size∧v2.ownBlock≠some (w.heap.size+1))∧w.heap.size+2≤w1.heap.size):=(show ∀ (W w1:World) (v2:Value) (σ2:St),_ from fun W w1 v2 σ2 gW E T=>by
    have zW:=gW.size;have E1:Eff t v' wr v2 w1:=(Eff.of_below gW).trans E;exact⟨⟨HS.out.1.block (E1.block (by omega) (by omega) Hv.out.1),HS.out.2.block (E1.block (by omega) (by omega) Hv.out.2)⟩,HE.out.trans E1,⟨E1.apart (by omega) Hv.out.1,E1.apart (by omega) Hv.out.2⟩,Nat.le_trans hz E1.size⟩)
   by_cases h2:x1=2
   ·subst h2;have HR3:Hid (dactsV live thr l s σ=dactsV live thr (l.drop (k+1)) s' (thr s' (IntKind.i64.wrap x3) σ')):=(show _=_ by rw[HR2.out];rfl)
    clear HR2;generalize IntKind.i64.wrap x3=y at *
    have HTh:Hid (∀ W,Below wr.heap.size wr W→Calls prog 76 #[.pointer (some ⟨t,0,none⟩),Mt.snV s',.int .i64 y,.int .i64 0] W (Lft t p v' W (thr s' y σ'))):=(show ∀ W,_ from fun W gW=>HT.out s' y v' σ' W (HTr.out.below gW) (HGr.out.low (gW.mono (Nat.le_of_lt HTr.out.lt))))
    generalize thr s' y σ'=σ2 at *
    go_wp2_with fail
    go_region_law (
     refine step_call rfl 76 #[.pointer (some ⟨t,0,none⟩),Mt.snV s',.int .i64 y,.int .i64 0] ?hrun ?_;case hrun=>go_simp
     refine Calls.mono (HTh.out _ (by go_grown)) ?_;rintro e w1 ⟨rfl,v2,T2,E2⟩;refine⟨_,rfl,?_⟩;have HT1:Hid (Tr w1 t p v2 σ2.1 σ2.2):=T2;have HN1:Hid _:=HN.out _ w1 v2 σ2 (by go_grown) E2 T2;clear T2 E2)
    all_goals
     clear b0 b1' b2' b3 b4 b5 b6 b7 b8 b9 b10 b11 b12 c0 c1 c2 hw;have HS1:Hid (Sb w1 w.heap.size s'∧Sb w1 (w.heap.size+1) sz0):=HN1.out.1;have HE1:Hid (Eff t v w v2 w1):=HN1.out.2.1;have Hv1:Hid (v2.ownBlock≠some w.heap.size∧v2.ownBlock≠some (w.heap.size+1)):=HN1.out.2.2.1;have hz1:=HN1.out.2.2.2;go_wp2_with fail;go_roundw;case rel=>exact⟨k+1,s',v2,σ2,by omega,by go_num,HR3,HS1,HT1,HE1,Hv1,hz1⟩
     case measure=>simp[intOf];omega
   ·by_cases h1:x1=1
    ·subst h1;have HR3:Hid (dactsV live thr l s σ=dactsV live thr (l.drop (k+1)) s' (dleaveV live s' (IntKind.i64.wrap x3) σ'.1,σ'.2)):=(show _=_ by rw[HR2.out];rfl)
     clear HR2;generalize IntKind.i64.wrap x3=y at *
     have HLv:Hid (∀ W,Below wr.heap.size wr W→Calls prog 77 #[.pointer (some ⟨t,0,none⟩),Mt.snV s',.int .i64 y] W fun e w'=>e=.returned (.tuple #[])∧∃ v2,Tr w' t p v2 (dleaveV live s' y σ'.1) σ'.2∧Eff t v' W v2 w'):=(show ∀ W,_ from fun W gW=>leave_any t p v' σ'.1 σ'.2 live s' y W (HTr.out.below gW) HGr.out.ln (HGr.out.lv.below gW) HGr.out.le)
     generalize dleaveV live s' y σ'.1=O2 at *
     go_wp2_with fail
     go_region_law (
      refine step_call rfl 77 #[.pointer (some ⟨t,0,none⟩),Mt.snV s',.int .i64 y] ?hrun ?_;case hrun=>go_simp
      refine Calls.mono (HLv.out _ (by go_grown)) ?_;rintro e w1 ⟨rfl,v2,T2,E2⟩;refine⟨_,rfl,?_⟩;have HT1:Hid (Tr w1 t p v2 O2 σ'.2):=T2;have HN1:Hid _:=HN.out _ w1 v2 (O2,σ'.2) (by go_grown) E2 T2;clear T2 E2)
     all_goals
      clear b0 b1' b2' b3 b4 b5 b6 b7 b8 b9 b10 b11 b12 c0 c1 c2 hw;have HS1:Hid (Sb w1 w.heap.size s'∧Sb w1 (w.heap.size+1) sz0):=HN1.out.1;have HE1:Hid (Eff t v w v2 w1):=HN1.out.2.1;have Hv1:Hid (v2.ownBlock≠some w.heap.size∧v2.ownBlock≠some (w.heap.size+1)):=HN1.out.2.2.1;have hz1:=HN1.out.2.2.2;go_wp2_with fail;go_roundw;case rel=>exact⟨k+1,s',v2,(O2,σ'.2),by omega,by go_num,HR3,HS1,HT1,HE1,Hv1,hz1⟩
      case measure=>simp[intOf];omega
    ·have q2:(x1==2)=false:=by simp[h2]
     have q1:(x1==1)=false:=by simp[h1]
     have HR3:Hid (dactsV live thr l s σ=dactsV live thr (l.drop (k+1)) (Fd.changeV s' (x1,x2,x3)) σ'):=(show _=_ by rw[HR2.out];show(if x1=2 then _ else if x1=1 then _ else _)=_;rw[if_neg h2,if_neg h1])
     clear HR2 h1 h2 hw;have HC:Hid (∀ W,Below wr.heap.size wr W→Calls prog 78 #[Mt.snV s',.agg #[.int .i64 x1,.int .i64 x2,.int .u64 x3]] W fun x w'=>x=.returned (Mt.snV (Fd.changeV s' (x1,x2,x3)))∧Below W.heap.size W w'):=(show ∀ W,_ from fun W _=>Fd.rchg_any s' (x1,x2,x3) W hAW)
     generalize Fd.changeV s' (x1,x2,x3)=s2 at *
     clear hAW;go_wp2_with fail
     go_region_law (
      refine step_call rfl 78 #[Mt.snV s',.agg #[.int .i64 x1,.int .i64 x2,.int .u64 x3]] ?hrun ?_;case hrun=>go_simp
      refine Calls.mono (HC.out _ (by go_grown)) ?_;rintro e w1 ⟨rfl,g1⟩;refine⟨_,rfl,?_⟩;have HN1:Hid _:=HN.out _ w1 v' σ' (by go_grown) (Eff.of_below g1) ((HTr.out.below (by go_grown)).below g1);have HT1:Hid (Tr w1 t p v' σ'.1 σ'.2):=(HTr.out.below (by go_grown)).below g1;clear b0 b1' b2' b3 b4 b5 b6 b7 b8 b9 b10 b11 b12 g1;obtain⟨b0,b1',b2',b3,b4,b5,b6,b7,b8,b9,b10,b11,b12⟩:=HN1.out.1.1.bx;have f0:=HN1.out.1.1.fz 0 (by decide);have f1:=HN1.out.1.1.fz 1 (by decide);have f2:=HN1.out.1.1.fz 2 (by decide);have f3:=HN1.out.1.1.fz 3 (by decide);have f4:=HN1.out.1.1.fz 4 (by decide);have f5:=HN1.out.1.1.fz 5 (by decide);have f6:=HN1.out.1.1.fz 6 (by decide);have f7:=HN1.out.1.1.fz 7 (by decide);have f8:=HN1.out.1.1.fz 8 (by decide);have f9:=HN1.out.1.1.fz 9 (by decide);have f10:=HN1.out.1.1.fz 10 (by decide);have f11:=HN1.out.1.1.fz 11 (by decide);have f12:=HN1.out.1.1.fz 12 (by decide))
     all_goals
      obtain⟨X,hX⟩:∃ X,w1.setCells w.heap.size 0 (Mt.snC s2).toList=X:=⟨_,rfl⟩
      have he:=st_only (s2:=s2) HN1.out.1.1;rw[hX]at he;have hv1:=HN1.out.2.2.1;have HS2:Hid (Sb X w.heap.size s2∧Sb X (w.heap.size+1) sz0):=(show _∧_ from⟨he.1,HN1.out.1.2.block (he.2.block _ (by omega))⟩)
      have HT2:Hid (Tr X t p v' σ'.1 σ'.2):=HT1.out.only he.2 (by omega) hv1.1;have HE2:Hid (Eff t v w v' X):=HN1.out.2.1.only he.2 (Nat.le_refl _);have hz2:w.heap.size+2≤X.heap.size:=by rw[he.2.size];exact HN1.out.2.2.2
      clear he hv1 b0 b1' b2' b3 b4 b5 b6 b7 b8 b9 b10 b11 b12 f0 f1 f2 f3 f4 f5 f6 f7 f8 f9 f10 f11 f12 c0 c1 c2;change Exit.inBlock 2 _ Exit.normal _ (w1.setCells w.heap.size 0 (Mt.snC s2).toList);rw[hX];clear hX;go_wp2_with fail;go_roundw;case rel=>exact⟨k+1,s2,v',σ',by omega,by go_num,HR3,HS2,HT2,HE2,Hv,hz2⟩
      case measure=>simp[intOf];omega
  ·have hk':k=l.length:=by omega
   have hkI : ¬ (k:Int)<(l.length:Int):=by omega
   have HR3:Hid (dactsV live thr l s σ=(s',σ')):=(show _=_ by rw[HR.out,hk',List.drop_length];rfl)
   clear HR;go_wp2_with (first|refine load_Rb rfl (.tmp 4) rfl w.heap.size s' rfl HS.out.1 ?_|(refine store_Rb rfl (.tmp 6) (.tmp 47) rfl (w.heap.size+1) s' rfl rfl HS.out.2.t ?_;intro X hX oX));(try simp only[Exit.inBlock,Exit.then])
   refine bodyPost_ret (v:=Mt.snV s') (resRb rfl rfl hX) rfl ?_;rw[HR3.out];exact⟨rfl,v',HTr.out.only oX (by omega) Hv.out.2,HE.out.only oX (by omega)⟩
theorem Tr.new (w:World) (p:Tp):Tr (w.alloc (.cells (trC p) 108)) w.heap.size p (.slice none 0 0) [] 0 :=
 ⟨by simp,by simp,by simp,by simp,by simp,by simp,by simp,by simp,by simp,World.ownsRow_nil _ _ _ _,by simp,by simp⟩
theorem own_drewR {Y:World} {n:Nat} {v:Value} {O:List Ot} (h:OwnR n Y v O):OwnR n Y.drew v O:=own_block h (fun _ _=>rfl)
theorem own_baseR {b b2:Nat} {w:World} {v:Value} {l:List Ot} (h:OwnR b w v l) (hb:b2≤b):OwnR b2 w v l:=by
 refine⟨h.1,?_⟩;rcases h.2 with hn|⟨g',cap,cur,hv,hb',rest⟩
 ·exact .inl hn
 ·exact .inr ⟨g',cap,cur,hv,by omega,rest⟩
theorem act_end {w X:World} {t b:Nat} {p:Tp} {v:Value} {σ:St} {s:Mt.Sn} (T:Tr X t p v σ.1 σ.2) (g:Below w.heap.size w X) (h1:w.heap.size≤b) (h2:b<t):OwnR w.heap.size (X.setCells b 0 (Mt.snC s).toList).drew v σ.1∧σ.1.length≤64∧Below w.heap.size w (X.setCells b 0 (Mt.snC s).toList).drew:=by
 have o:=only_cells b (Mt.snC s).toList 0 X X (Only.refl b X);generalize X.setCells b 0 (Mt.snC s).toList=Y at *
 exact⟨own_drewR (own_baseR (own_block T.row (fun k hk=>o.block k (by have:=(T.own hk).1;omega))) (by omega)),T.no,below_drew (o.below h1 g) (by rw[o.size];exact g.size)⟩
theorem Gd.up {t t2:Nat} {w:World} {p:Tp} {W0:World} {rb:Nat} {rG:Int} {rv:Value} {L:List Gp.Gr} {live:List Bool} (h:Gd t w p W0 rb rG rv L live) (hl:t≤t2):Gd t2 w p W0 rb rG rv L live :=
 ⟨h.pg,h.tbl,Nat.lt_of_lt_of_le h.l1 hl,fun b hb=>Nat.lt_of_lt_of_le (h.l2 b hb) hl,Nat.le_trans h.l3 hl,h.nl,h.gc,h.ln,h.lv,fun hn g o e=>Nat.lt_of_lt_of_le (h.lt hn g o e) hl,h.le,h.pl,h.ph⟩
theorem act_any (t0:Nat) (p:Tp) (W0:World) (rb:Nat) (rG:Int) (rv:Value) (L:List Gp.Gr) (live:List Bool) (s:Mt.Sn) (a:Option Addr) (l:List A) (cap:Nat) (w:World)
 (G:Gd t0 w p W0 rb rG rv L live) (hl:t0≤w.heap.size) (hT:Ts w a l) (hW:AWs l) (hn:l.length≤1000) (hG:∀ g∈L.map Gp.Gr.p,Gp.rightE g=0) :
 Calls prog 20 #[ptV p,Mt.snV s,.slice a l.length cap,.int .i64 p.pick] w fun e w'=>∃ v',e=.returned (.tuple #[v',Mt.snV (actV (L.map Gp.Gr.p) live p.pick l s).2])∧OwnR w.heap.size w' v' (actV (L.map Gp.Gr.p) live p.pick l s).1∧(actV (L.map Gp.Gr.p) live p.pick l s).1.length≤64∧Below w.heap.size w w':=by
 obtain⟨W4,hW4⟩:∃ W4,(((w.alloc (.cells (ptC p) 42)).alloc (.cells (Mt.snC s) 56)).alloc (.cells szC 56)).alloc (.cells (trC p) 108)=W4:=⟨_,rfl⟩
 have g4:Below w.heap.size w W4:=by rw[← hW4];go_grown
 have T4:Tr W4 (w.heap.size+1+1+1) p (.slice none 0 0) [] 0:=by
  have:=Tr.new (((w.alloc (.cells (ptC p) 42)).alloc (.cells (Mt.snC s) 56)).alloc (.cells szC 56)) p;rw[hW4]at this;simpa using this
 have z4:W4.heap.size=w.heap.size+4:=by rw[← hW4];simp
 have S1:Sb W4 (w.heap.size+1) s:=by
  have h:=Sb.newr (w.alloc (.cells (ptC p) 42)) s;have e:(w.alloc (.cells (ptC p) 42)).heap.size=w.heap.size+1:=by simp
  rw[e]at h;rw[← hW4];exact(h.block (heap_alloc_old _ _ (by simp))).block (heap_alloc_old _ _ (by simp))
 have S2:Sb W4 (w.heap.size+1+1) sz0:=by
  have h:=Sb.newr ((w.alloc (.cells (ptC p) 42)).alloc (.cells (Mt.snC s) 56)) sz0;have e:((w.alloc (.cells (ptC p) 42)).alloc (.cells (Mt.snC s) 56)).heap.size=w.heap.size+1+1:=by simp
  rw[e]at h;rw[← hW4];exact h.block (heap_alloc_old _ _ (by simp))
 obtain⟨R,hR⟩:∃ R,R=dactsV live (dthrV (L.map Gp.Gr.p) live p.pick 8) l s ([],0):=⟨_,rfl⟩
 have HAp:Hid _:=acts_any (w.heap.size+1+1+1) p W0 rb rG rv L live _ (thr_top (w.heap.size+1+1+1) p W0 rb rG rv L live) a l cap s (.slice none 0 0) ([],0) W4 T4 ((G.low (g4.mono hl)).up (by omega)) (hT.below g4) (fun b hb=>⟨by have:=hT.lt hb;omega,by simp[Value.ownBlock]⟩) hW hn;rw[← hR]at HAp;have HRu:Hid (actV (L.map Gp.Gr.p) live p.pick l s=(R.2.1,R.1)):=(show _=_ by rw[hR];exact(act_d hG l s hW).symm)
 rw[HRu.out];have HW4:Hid ((((w.alloc (.cells (ptC p) 42)).alloc (.cells (Mt.snC s) 56)).alloc (.cells szC 56)).alloc (.cells (trC p) 108)=W4):=hW4;have Hg4:Hid (Below w.heap.size w W4∧Tr W4 (w.heap.size+1+1+1) p (.slice none 0 0) [] 0):=(show _∧_ from⟨g4,T4⟩)
 have HS1:Hid (Sb W4 (w.heap.size+1) s∧Sb W4 (w.heap.size+1+1) sz0):=(show _∧_ from⟨S1,S2⟩)
 obtain⟨s2,σ2⟩:=R;simp only at HAp ⊢;clear G hT hW T4 g4 hR hW4 S1 S2 HRu hG;go_enter func20,ntmps20;go_wp2_with fail;rw[HW4.out];refine Calls.mono HAp.out ?_;rintro e w5 ⟨rfl,v5,T5,E5⟩;have HT5:Hid (Tr w5 (w.heap.size+1+1+1) p v5 σ2.1 σ2.2):=T5;have z5:=E5.size;have HS5:Hid (Sb w5 (w.heap.size+1) s∧Sb w5 (w.heap.size+1+1) sz0):=(show _∧_ from⟨HS1.out.1.block (E5.block (by omega) (by omega) (by simp[Value.ownBlock])),HS1.out.2.block (E5.block (by omega) (by omega) (by simp[Value.ownBlock]))⟩)
 have HE5:Hid (Below w.heap.size w w5):=Hg4.out.1.trans ((eff_below E5 Hg4.out.2).mono (by omega));have hv1:Hid (∀ b,v5.ownBlock=some b→w.heap.size+3<b):=(show ∀ b,_ from fun b hb=>by have:=(T5.own hb).1;omega)
 clear T5 E5 HAp HS1 Hg4;go_wp2_with (refine store_Rb rfl (.tmp 5) (.tmp 18) rfl (w.heap.size+1) s2 rfl rfl HS5.out.1.t ?_;intro X hX oX;have HX:Hid (Sb X (w.heap.size+1) s2):=hX;have HOX:Hid (Only (w.heap.size+1) w5 X):=oX;clear hX oX);have HTX:Hid (Tr X (w.heap.size+1+1+1) p v5 σ2.1 σ2.2):=HT5.out.only HOX.out (by omega) (fun e=>by have:=hv1.out _ e;omega);have HS6:Hid (Sb X (w.heap.size+1+1) sz0):=HS5.out.2.block (HOX.out.block _ (by omega));have HBX:Hid (Below w.heap.size w X):=HOX.out.below (by omega) HE5.out;have c5:=HTX.out.c5;have zX:w.heap.size+4≤X.heap.size:=by rw[HOX.out.size];omega
 obtain⟨b0,b1,b2,b3,b4,b5,b6,b7,b8,b9,b10,b11,b12⟩:=HX.out.bx;obtain⟨d0,d1,d2,d3,d4,d5,d6,d7,d8,d9,d10,d11,d12⟩:=HS6.out.bx;have fz:=HS6.out.fz;have f0:=fz 0 (by decide);have f1:=fz 1 (by decide);have f2:=fz 2 (by decide);have f3:=fz 3 (by decide);have f4:=fz 4 (by decide);have f5:=fz 5 (by decide);have f6:=fz 6 (by decide);have f7:=fz 7 (by decide);have f8:=fz 8 (by decide);have f9:=fz 9 (by decide);have f10:=fz 10 (by decide);have f11:=fz 11 (by decide);have f12:=fz 12 (by decide);clear fz;have Hth:Hid (X.there (w.heap.size+1+1) 0 13):=HS6.out.t;go_region
 all_goals
  clear b0 b1 b2 b3 b4 b5 b6 b7 b8 b9 b10 b11 b12 d0 d1 d2 d3 d4 d5 d6 d7 d8 d9 d10 d11 d12 f0 f1 f2 f3 f4 f5 f6 f7 f8 f9 f10 f11 f12;go_wp2_with fail;(try simp only[Exit.inBlock,Exit.then])
  refine bodyPost_ret (v:=.tuple #[v5,Mt.snV s2]) (resWb (fn:=Tryz.f20) (t:=9) (u:=8) (w:=(X.setCells (w.heap.size+1+1) 0 (Mt.snC s2).toList).drew) (b:=w.heap.size+1+1) (x:=s2) rfl rfl (act_sb Hth.out)) rfl ?_;exact⟨v5,rfl,act_end (s:=s2) (b:=w.heap.size+1+1) HTX.out HBX.out (by omega) (by omega)⟩
end Dc
end Go.Proofs.YtgnihbdcdefdgaaGreatDoor

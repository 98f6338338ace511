import Derived.Test.YtgnihbdcdefdgaaGreatDoorX23
import Derived.Deep.RegionWith
import Derived.Deep.RegionHeld
import Derived.Test.YtgnihbdcdefdgaaGreatDoorX12
import Derived.OpenShut
set_option maxHeartbeats 8000000
set_option maxRecDepth 20000
set_option linter.unusedSimpArgs false
set_option linter.unusedVariables false
open Go.ChangeShapes Go.WideShapes Go.ChangeAt Go.RowKit
open Go.Proofs.Tryz
namespace Go.Proofs.YtgnihbdcdefdgaaGreatDoor
theorem thr_zero (t:Nat) (p:Tp) (tb mb:Nat) (room:Int) (L:List Gp.Gr) (live:List Bool) (G:List G3) (pick:Int):ThrC t p tb mb room L live 8 (thrV G live pick 0):=by
 intro s id v σ w T hG h0 h1;have HT:Hid (Tr w t p v σ.1 σ.2):=T;clear T hG;go_enter func83,ntmps83;go_wp2_with fail;(try simp only[Exit.inBlock,Exit.then])
 refine bodyPost_ret (results_none rfl _ _ _) rfl ?_;have g:Below w.heap.size w (w.alloc (.cells (Mt.snC s) 49)):=by go_grown
 exact⟨rfl,v,HT.out.below g,Eff.of_below g⟩
theorem merge_len (l:List A):(Sr.mergeV l).length≤l.length:=by
 unfold Sr.mergeV;exact Nat.le_trans (Sr.lastOf_len _) (by rw[Sr.isort_len];exact Sr.known_len l)
theorem mrg_any (a b:Option Addr) (l m:List A) (ca cb:Nat) (w:World) (ha:Ts w a l) (hb:Ts w b m) (hla:AWs l) (hlb:AWs m) (hl:l.length+m.length≤1000) :
 Calls prog 71 #[.slice a l.length ca,.slice b m.length cb] w fun e w'=>∃ a' c',e=.returned (.slice a' (Sr.mergeV (l++m)).length c')∧Hid (Ts w' a' (Sr.mergeV (l++m))∧(∀ b,InT a' (Sr.mergeV (l++m)) b→w.heap.size≤b)∧Below w.heap.size w w'):=by
 refine(Sr.merge_any a b l m ca cb w ha hb hla hlb hl).mono ?_;rintro e w' ⟨v,rfl,ho,g⟩;obtain⟨a',c',rfl,_,ht,hf⟩:=Sr.own_ts ho;refine⟨a',c',rfl,(show _∧_ from⟨ht,fun b hb => ?_,g⟩)⟩;obtain⟨hn,o,rfl⟩:=hb;rcases hf with h|⟨g',h1,h2,_⟩
 ·exact absurd h hn
 ·cases h1;exact h2
theorem Tr.bump {w:World} {t:Nat} {p:Tp} {v:Value} {O:List Ot} {nb:Nat} (h:Tr w t p v O nb) (hn:nb<256):Tr (w.setCell ⟨t,6,none⟩ (.int .i64 ((nb:Int)+1))) t p v O (nb+1)∧Eff t v w v (w.setCell ⟨t,6,none⟩ (.int .i64 ((nb:Int)+1))):=by
 have o6:∀ o,o≠6→(w.setCell ⟨t,6,none⟩ (.int .i64 ((nb:Int)+1))).cell? ⟨t,o,none⟩=w.cell? ⟨t,o,none⟩:=fun o ho=>World.cell?_setCell_other _ _ _ _ (by simp[ho]);have hz:(w.setCell ⟨t,6,none⟩ (.int .i64 ((nb:Int)+1))).heap.size=w.heap.size:=by simp[World.setCell]
 have fb:∀ b,b≠t→(w.setCell ⟨t,6,none⟩ (.int .i64 ((nb:Int)+1))).heap[b]? = w.heap[b]?:=fun b hb=>Below.heap_setCell _ _ _ _ hb;refine⟨⟨(o6 _ (by decide)).trans h.c0,(o6 _ (by decide)).trans h.c1,(o6 _ (by decide)).trans h.c2,(o6 _ (by decide)).trans h.c3,(o6 _ (by decide)).trans h.c4,(o6 _ (by decide)).trans h.c5,?_,fun o=>(World.frozen?_setCell _ _ _ _).trans (h.fz o),by rw[hz];exact h.lt,own_block h.row (fun b hb=>fb b (by have:=(h.own hb).1;omega)),h.no,by omega⟩,⟨⟨rfl,rfl,rfl,by rw[hz];exact Nat.le_refl _,fun b _ hs=>fb b (fun e=>hs (.inl e))⟩,.inl rfl⟩⟩;rw[World.cell?_setCell_same _ _ _ h.c6];simp
abbrev SG (b t:Nat) (gi gk:Int) (ga:Option Addr) (gn gc:Nat) (p:Tp) (w:World):Prop :=
 w.cell? ⟨b,0,none⟩=some (.int .i64 gi)∧w.cell? ⟨b,1,none⟩=some (.int .i64 gk)∧w.cell? ⟨b,2,none⟩=some (.slice ga gn gc)∧w.cell? ⟨t,3,none⟩=some (.slice p.la p.ln p.lc)∧w.cell? ⟨t,4,none⟩=some (.int .i64 p.pick)
abbrev SK (b c:Nat) (s:Mt.Sn) (a:Option Addr) (n m:Nat) (w:World):Prop:=Mt.Bx w b s∧w.cell? ⟨c,2,none⟩=some (.slice a n m)
theorem conv_at (n q:Int) (h:IntKind.i64.wrap n=q):(convert 44 3 (.int .u64 n)).run prog=fun w=>.ok (.int .i64 q) w:=by rw[← h];exact conv_run n
theorem wrap_lo (n:Int) : -9223372036854775808≤IntKind.i64.wrap n∧IntKind.i64.wrap n≤9223372036854775807:=by rw[IntKind.wrap_i64];omega
theorem thr_succ (t:Nat) (p:Tp) (tb mb:Nat) (room:Int) (L:List Gp.Gr) (live:List Bool) (n:Nat) (d:Int) (hd:0≤d) (hd8:d<8)
 (HD:Hid (∀ (a:Option Addr) (l:List A) (cap:Nat) (s:Mt.Sn) (v:Value) (σ:St) (w:World),Tr w t p v σ.1 σ.2→Ge t w p tb mb room L live→Ts w a l→Apt t v a l→AWs l→l.length≤1000 →
   Calls prog 72 #[.pointer (some ⟨t,0,none⟩),Mt.snV s,.slice a l.length cap,.int .i64 (d+1)] w (Lft t p v w (doV live (thrV (L.map Gp.Gr.p) live p.pick n) l s σ)))) :
 ThrC t p tb mb room L live d (thrV (L.map Gp.Gr.p) live p.pick (n+1)):=by
 intro s id v σ w T hG h0 h1;obtain⟨R,hR⟩:∃ R:St,R=thrV (L.map Gp.Gr.p) live p.pick (n+1) s id σ:=⟨_,rfl⟩
 rw[← hR];obtain⟨q,hq⟩:∃ q,q=IntKind.i64.wrap id:=⟨_,rfl⟩
 have hw:=conv_at id q hq.symm;have hqb:=wrap_lo id;have HR:Hid (R=thrV (L.map Gp.Gr.p) live p.pick (n+1) s id σ∧q=IntKind.i64.wrap id):=(show _∧_ from⟨hR,hq⟩)
 clear hR;rw[← hq]at hqb;have htl:=T.lt;have HTw:Hid (Tr w t p v σ.1 σ.2):=T;have HG:Hid (Ge t w p tb mb room L live):=hG;have hv0:v.ownBlock≠some w.heap.size:=fun e=>by have:=(T.own e).2;omega
 obtain⟨V,hV⟩:∃ V,w.alloc (.cells (Mt.snC s) 49)=V:=⟨_,rfl⟩
 have g0:Below w.heap.size w V:=by rw[← hV];go_grown
 have T0:Tr V t p v σ.1 σ.2:=T.below g0;have S0:Sb V w.heap.size s:=by rw[← hV];exact Sb.new w s
 have z0:w.heap.size+1≤V.heap.size:=by rw[← hV];simp
 have G0:Ge t V p tb mb room L live:=hG.low ((Eff.of_below (t:=t) (v:=v) g0).below T);have HV:Hid (w.alloc (.cells (Mt.snC s) 49)=V):=hV;have HGet:=Gp.get_any q V G0.tbl hqb.1 hqb.2;have HGt:Hid _:=HGet;have c1:=T.c1;rw[hG.pg]at c1;have b8:(d==8)=false:=by rw[beq_eq_false_iff_ne];omega
 have HT0:Hid (Tr V t p v σ.1 σ.2):=T0;have HS0:Hid (Sb V w.heap.size s):=S0;have HG0:Hid (Ge t V p tb mb room L live):=G0;have Hg0:Hid (Below w.heap.size w V):=g0;clear T hG hV T0 S0 G0 HGet hqb hq g0;go_enter func83,ntmps83;go_wp2_with fail;rw[HV.out];refine Calls.mono HGt.out ?_;rintro e w1 ⟨g',er,rfl,hor,hbs,hsm,g1⟩;have HT1:Hid (Tr w1 t p v σ.1 σ.2):=HT0.out.below g1;have HS1:Hid (Sb w1 w.heap.size s):=HS0.out.below (by omega) g1;have Hg1:Hid (Below w.heap.size w w1):=btr Hg0.out g1 (Nat.le_refl _);have z1:w.heap.size+1≤w1.heap.size:=Nat.le_trans z0 g1.size;rcases hor with⟨hp,rfl,rfl⟩|⟨g,hgL,hgi,hgp,rfl⟩
 ·have HR2:Hid (R=σ):=(show _=_ by rw[HR.out.1,thrV_succ,← HR.out.2,get_none hp])
  clear hbs hsm g1 hp HR;go_wp2_with fail;(try simp only[Exit.inBlock,Exit.then])
  refine bodyPost_ret (results_none rfl _ _ _) rfl ?_;rw[HR2.out];have g:Below w.heap.size w (w1.alloc (.cells (Gp.gC Gp.gr0) 81)):=btr Hg1.out (by go_grown) (Nat.le_refl _);exact⟨rfl,v,HTw.out.below g,Eff.of_below g⟩
 ·have HR2:Hid (R=bksV (fun l=>doV live (thrV (L.map Gp.Gr.p) live p.pick n) l s) (chooseV g.p.2.1 g.p.2.2 live p.pick) σ):=(show _=_ by rw[HR.out.1,thrV_succ,← HR.out.2,get_some HG.out.tbl.srt hgL hgi])
  have hok:=(HG.out.tbl.grp g hgL).ok;rw[← hgp]at HR2 hok;have hwe:∀ b∈g'.l,b.we≤1099511627776:=fun b hb=>by
   have:=(right_bks hok b.b3 (List.mem_map.2 ⟨b,hb,rfl⟩)).2.1;have e:b.b3.2.1=b.we:=rfl;omega
  obtain⟨gi,gk,ga,gl,gc⟩:=g';have e1:(Gp.Gr.p ⟨gi,gk,ga,gl,gc⟩).2.1=gk:=rfl;have e2:(Gp.Gr.p ⟨gi,gk,ga,gl,gc⟩).2.2=gl.map Gp.Bk.b3:=rfl;rw[e1,e2]at HR2;have hck:∀ b∈gl.map Gp.Bk.b3,b.2.2.length≤8∧AWs b.2.2:=fun b hb=>⟨(right_bks hok b hb).1,aws_right (right_bks hok b hb).2.2⟩
  simp only at hbs hsm hwe;obtain⟨U,hU⟩:∃ U,w1.alloc (.cells #[.int .i64 gi,.int .i64 gk,.slice ga gl.length gc] 81)=U:=⟨_,rfl⟩
  have gU:Below w1.heap.size w1 U:=by rw[← hU];go_grown
  have HTU:Hid (Tr U t p v σ.1 σ.2):=HT1.out.below gU;have HSU:Hid (Sb U w.heap.size s):=HS1.out.below (by omega) gU;have HgU:Hid (Below w.heap.size w U):=btr Hg1.out gU (Nat.le_refl _);have HGU:Hid (Ge t U p tb mb room L live):=HG.out.low ((Eff.of_below (t:=t) (v:=v) HgU.out).below HTw.out);have HCh:Hid (∀ W,Below U.heap.size U W→Calls prog 124 #[.agg #[.int .i64 gi,.int .i64 gk,.slice ga gl.length gc],.slice p.la p.ln p.lc,.int .i64 p.pick] W fun e w'=>∃ a' c' r,e=.returned (.slice a' r.length c')∧Hid (r.map Gp.Bk.b3=chooseV gk (gl.map Gp.Bk.b3) live p.pick∧Gp.BsF W.heap.size w' a' r∧Below W.heap.size W w')):=(show ∀ W,_ from fun W hW=>by
   have gW:=btr gU hW (Nat.le_refl _);rw[HGU.out.ln];refine(Gp.choose_any ⟨gi,gk,ga,gl,gc⟩ p.la live p.lc p.pick W ⟨hbs.below gW,hsm,hwe,HGU.out.lv.below hW,HGU.out.le⟩ HGU.out.pl HGU.out.ph).mono ?_;rintro e w' ⟨a',c',r,rfl,h1,h2,h3⟩;exact⟨a',c',r,rfl,(show _∧_ from⟨h1.trans (choose_b3 _ _ _ _),h2,h3⟩)⟩)
  have hcg:Gp.Cg U w1.heap.size 0 ⟨gi,gk,ga,gl,gc⟩:=by rw[← hU];exact Gp.Cg.new w1 ⟨gi,gk,ga,gl,gc⟩
  have HSG:Hid (SG w1.heap.size t gi gk ga gl.length gc p U):=(show SG _ _ _ _ _ _ _ _ _ from⟨hcg.1,by simpa using hcg.2.1,by simpa using hcg.2.2,HTU.out.c3,HTU.out.c4⟩)
  have zU:w.heap.size+1≤U.heap.size:=Nat.le_trans z1 gU.size;have HtU:Hid (t<U.heap.size):=HTU.out.lt;have zU1:w1.heap.size<U.heap.size:=by rw[← hU];simp
  have HkU:Hid (∀ w2,Below U.heap.size U w2→SG w1.heap.size t gi gk ga gl.length gc p w2):=(show ∀ w2,_ from fun w2 g=>by
   obtain⟨k0,k1,k2,k3,k4⟩:=HSG.out;have e:∀ b o,b<U.heap.size→w2.cell? ⟨b,o,none⟩=U.cell? ⟨b,o,none⟩:=fun b o h=>g.cell (p:=⟨b,o,none⟩) h;exact⟨(e _ _ zU1).trans k0,(e _ _ zU1).trans k1,(e _ _ zU1).trans k2,(e _ _ HtU.out).trans k3,(e _ _ HtU.out).trans k4⟩)
  have hgn:gl.length≤100:=hsm.n;clear hbs hsm hwe g1 hok hgp hgL hgi HR e1 e2 gU hcg;go_wp2_with fail;go_region_held (SG w1.heap.size t gi gk ga gl.length gc p) (first|exact HSG.out|exact HS2.out|assumption) ((go_at_call 124;refine(HCh.out _ (Below.refl _ _).drew).mono ?_;rintro e w2 ⟨a',c',r,rfl,HX⟩;have Hg2:Hid (Below U.heap.size U w2):=btr ((Below.refl _ _).drew) HX.out.2.2 (Nat.le_refl _);have HS2:Hid (SG w1.heap.size t gi gk ga gl.length gc p w2):=HkU.out _ Hg2.out));obtain⟨hrm,hbf,_⟩:=HX.out;have HT2:Hid (Tr w2 t p v σ.1 σ.2):=HTU.out.below Hg2.out;have HSb2:Hid (Sb w2 w.heap.size s):=HSU.out.below (by omega) Hg2.out;have HE2:Hid (Eff t v w v w2):=Eff.of_below (btr HgU.out Hg2.out (Nat.le_refl _));have z2:U.heap.size≤w2.heap.size:=Hg2.out.size;have HB2:Hid (Gp.BsF U.heap.size w2 a' r):=hbf;have HR3:Hid (R=bksV (fun l=>doV live (thrV (L.map Gp.Gr.p) live p.pick n) l s) (r.map Gp.Bk.b3) σ):=(show _=_ by rw[HR2.out,hrm])
  have HCk:Hid (∀ b∈r,b.l.length≤8∧AWs b.l):=(show ∀ b∈r,_ from fun b hb=>by
   have hm:b.b3∈chooseV gk (gl.map Gp.Bk.b3) live p.pick:=by rw[← hrm];exact List.mem_map.2 ⟨b,hb,rfl⟩
   exact hck _ (chooseV_mem hm))
  have HvU:Hid (∀ b,U.heap.size≤b→v.ownBlock≠some b):=(show ∀ b,_ from fun b hb e=>by have:=(HTU.out.own e).2;omega)
  have hrn:r.length≤100:=by
   have h1:=congrArg List.length hrm;have h2:=chooseV_len gk (gl.map Gp.Bk.b3) live p.pick;simp only[List.length_map]at h1 h2;omega
  clear hrm hbf HX hck HR2 HCh HkU HSG HS2 hU;rename_i hHeld;clear hHeld;generalize hDO:(fun l=>doV live (thrV (L.map Gp.Gr.p) live p.pick n) l s)=DO at HR3;have HDO:Hid (∀ l σ,DO l σ=doV live (thrV (L.map Gp.Gr.p) live p.pick n) l s σ):=(show ∀ l σ,_ from fun l σ=>by rw[← hDO])
  clear hDO;go_wp2_with fail
  go_loopw [39] (fun i wr=>∃ (k:Nat) (v':Value) (σ':St),k≤r.length∧i=.int .i64 k∧Hid (R=bksV DO ((r.drop k).map Gp.Bk.b3) σ')∧Hid (Tr wr t p v' σ'.1 σ'.2)∧Hid (Eff t v w2 v' wr))
   (fun i _=>(r.length-(intOf i).toNat))
  case atStart=>exact⟨0,v,σ,Nat.zero_le _,rfl,HR3,HT2,Eff.refl _ _ _⟩
  case round =>
   clear HT2 HR3;obtain⟨k,v',σ',hk,rfl,HRk,HTr,HE⟩:=hrel;by_cases hlt:k<r.length
   ·have hBs:Gp.Bs wr a' r:=HB2.out.b.stay HE.out.size (fun b hb hl=>HE.out.block hl (by have:=HB2.out.new hb;have:=HtU.out;omega) (HvU.out b (HB2.out.new hb)));obtain⟨g2,o2,ha,hg,hc⟩:=hBs.at hlt;obtain⟨c0,c1',c2⟩:=hc k hlt;have hTk:=HB2.out.b.1 r[k] (List.getElem_mem hlt);have hin:∀ b,InT r[k].a r[k].l b→U.heap.size≤b∧b<w2.heap.size:=fun b hb=>⟨HB2.out.new (.inr ⟨_,List.getElem_mem hlt,hb⟩),HB2.out.b.lt (.inr ⟨_,List.getElem_mem hlt,hb⟩)⟩
    have hdrop:r.drop k=r[k]::r.drop (k+1):=List.drop_eq_getElem_cons hlt;have hbk:=HCk.out r[k] (List.getElem_mem hlt);have HR4:Hid (R=bksV DO (r[k].b3::(r.drop (k+1)).map Gp.Bk.b3) σ'):=(show _=_ by rw[HRk.out,hdrop];rfl)
    have hltI:(k:Int)<(r.length:Int):=by omega
    have Hk1:Hid (k+1≤r.length):=hlt;generalize r[k]=x at *
    obtain⟨xw,xe,xa,xl,xc⟩:=x;subst ha;simp only at hbk hTk hin;obtain⟨X,hX⟩:∃ X,wr.alloc (.cells #[.int .i64 xw,.int .i64 xe,.slice xa xl.length xc] 93)=X:=⟨_,rfl⟩
    have gX:Below wr.heap.size wr X:=by rw[← hX];go_grown
    have HTX:Hid (Tr X t p v' σ'.1 σ'.2):=HTr.out.below gX;have HEX:Hid (Eff t v w2 v' X):=HE.out.trans (Eff.of_below gX);have d2:X.cell? ⟨wr.heap.size,2,none⟩=some (.slice xa xl.length xc):=by rw[← hX];simp
    have e6:=HTX.out.c6;have f6:=HTX.out.fz 6;have zr:w2.heap.size≤wr.heap.size:=HE.out.size;have zX:wr.heap.size<X.heap.size:=by rw[← hX];simp
    have hn:=HTX.out.nn;clear hdrop hc hBs HRk gX;simp only[Nat.zero_add]at c0 c1' c2;by_cases h256:σ'.2=256
    ·have b256:(((σ'.2:Nat):Int)==256)=true:=by rw[beq_iff_eq];omega
     have HR5:Hid (R=σ'):=(show _=_ by rw[HR4.out];exact if_pos h256)
     clear HR4 h256;go_wp2_with fail;(try simp only[Exit.inBlock,Exit.then])
     refine bodyPost_ret (results_none rfl _ _ _) rfl ?_;rw[HR5.out];exact⟨rfl,v',HTX.out,HE2.out.trans HEX.out⟩
    ·have b256:(((σ'.2:Nat):Int)==256)=false:=by rw[beq_eq_false_iff_ne];omega
     have HR5:Hid (R=bksV DO ((r.drop (k+1)).map Gp.Bk.b3) (DO (Sr.mergeV xl) (σ'.1,σ'.2+1))):=(show _=_ by rw[HR4.out];exact if_neg h256)
     have hn':σ'.2<256:=by omega
     obtain⟨Y,hY⟩:∃ Y,X.setCell ⟨t,6,none⟩ (.int .i64 ((σ'.2:Int)+1))=Y:=⟨_,rfl⟩
     have hbump:=HTX.out.bump hn';rw[hY]at hbump;have HTY:Hid (Tr Y t p v' σ'.1 (σ'.2+1)):=hbump.1;have HEY:Hid (Eff t v w2 v' Y):=HEX.out.trans hbump.2;have zY:X.heap.size≤Y.heap.size:=hbump.2.size;clear HR4 h256 hbump;have HSK:Hid (SK w.heap.size wr.heap.size s xa xl.length xc Y):=(show SK _ _ _ _ _ _ _ from⟨(HSb2.out.block (HEY.out.block (by omega) (by omega) (fun e=>by have:=(HT1.out.own e).2;have:=(HTw.out.own e).2;omega))).bx,by
      rw[← hY,World.cell?_setCell_other _ _ _ _ (by simp)];exact d2⟩)
     have HkZ:Hid (∀ w5 v6 w6,Below Y.heap.size Y w5→Eff t v' w5 v6 w6→SK w.heap.size wr.heap.size s xa xl.length xc w6):=(show ∀ w5 v6 w6,_ from fun w5 v6 w6 g h=>by
      have e1:w6.heap[w.heap.size]? = Y.heap[w.heap.size]?:=(h.block (by have:=g.size;omega) (by omega) (HEY.out.apart (by omega) (fun e=>by have:=(HTw.out.own e).2;omega))).trans (g.block _ (by omega));have e2:w6.heap[wr.heap.size]? = Y.heap[wr.heap.size]?:=(h.block (by have:=g.size;omega) (by have:=HTr.out.lt;omega) (fun e=>by have:=(HTr.out.own e).2;omega)).trans (g.block _ (by omega));exact⟨HSK.out.1.block e1,(World.cell?_of_block (w:=Y) e2).trans HSK.out.2⟩)
     have HkY:Hid (∀ w5,Below Y.heap.size Y w5→SK w.heap.size wr.heap.size s xa xl.length xc w5):=(show ∀ w5,_ from fun w5 g=>HkZ.out w5 v' w5 g (Eff.refl _ _ _))
     have hTY:Ts Y xa xl:=hTk.eff HEY.out (fun b hb=>⟨by have:=hin b hb;have:=HtU.out;omega,HvU.out b (hin b hb).1⟩);have HMg:Hid (∀ W,Below Y.heap.size Y W→Calls prog 71 #[.slice none 0 0,.slice xa xl.length xc] W fun e w'=>∃ a' c',e=.returned (.slice a' (Sr.mergeV xl).length c')∧Hid (Ts w' a' (Sr.mergeV xl)∧(∀ b,InT a' (Sr.mergeV xl) b→W.heap.size≤b)∧Below W.heap.size W w')):=(show ∀ W,_ from fun W g=>mrg_any none xa [] xl 0 xc W (.inl rfl) (hTY.below g) (fun _ h=>by cases h) hbk.2 (by have:=hbk.1;simp;omega))
     have hMl:(Sr.mergeV xl).length≤1000:=Nat.le_trans (merge_len xl) (by omega);have hMa:AWs (Sr.mergeV xl):=Sr.merge_aws hbk.2;have HDo:Hid (∀ a' c' w5,Below Y.heap.size Y w5→Ts w5 a' (Sr.mergeV xl)→(∀ b,InT a' (Sr.mergeV xl) b→Y.heap.size≤b)→Calls prog 72 #[.pointer (some ⟨t,0,none⟩),Mt.snV s,.slice a' (Sr.mergeV xl).length c',.int .i64 (IntKind.i64.wrap (d+1))] w5 (Lft t p v' w5 (DO (Sr.mergeV xl) (σ'.1,σ'.2+1)))):=(show ∀ a' c' w5,_ from fun a' c' w5 g hT hI=>by
      rw[HDO.out,show IntKind.i64.wrap (d+1)=d+1 by rw[IntKind.wrap_i64];omega];exact HD.out a' (Sr.mergeV xl) c' s v' (σ'.1,σ'.2+1) w5 (HTY.out.below g) (HG.out.low (((HE2.out.trans HEY.out).trans (Eff.of_below g)).below HTw.out)) hT (fun b hb=>⟨by have:=hI b hb;have:=HTY.out.lt;omega,fun e=>by have:=(HTY.out.own e).2;have:=hI b hb;omega⟩) hMa hMl)
     generalize Sr.mergeV xl=M at *
     clear hbk hTk hin hTY hMl hMa;have HMd:Hid _:=HMg.out Y.drew ((Below.refl Y.heap.size Y).drew);go_wp2_with fail
     go_region_held (SK w.heap.size wr.heap.size s xa xl.length xc) (first|exact HSK.out|exact HS5.out|exact HS6.out|assumption)
      (first
      | (go_at_call 71;refine Calls.mono HMd.out ?_;rintro e w5 ⟨a5,c5,rfl,HX⟩;have Hg5:Hid (Below Y.heap.size Y w5):=btr ((Below.refl _ _).drew) HX.out.2.2 (Nat.le_refl _);have HS5:Hid (SK w.heap.size wr.heap.size s xa xl.length xc w5):=HkY.out _ Hg5.out)
      | (go_at_call 72;refine(HDo.out a5 c5 w5 Hg5.out HX.out.1 HX.out.2.1).mono ?_;rintro e w6 ⟨rfl,v6,T6,E6⟩;have HT6:Hid (Tr w6 t p v6 (DO M (σ'.1,σ'.2+1)).1 (DO M (σ'.1,σ'.2+1)).2):=T6;have HE6:Hid (Eff t v' w5 v6 w6):=E6;clear T6 E6;have HS6:Hid (SK w.heap.size wr.heap.size s xa xl.length xc w6):=HkZ.out _ _ _ Hg5.out HE6.out))
     go_wp2_with fail;go_roundw;case rel=>exact⟨k+1,v6,DO M (σ'.1,σ'.2+1),Hk1.out,by go_num,HR5,HT6,(HEY.out.trans (Eff.of_below Hg5.out)).trans HE6.out⟩
     case measure=>have:=Hk1.out;simp[intOf];omega
   ·have hk':k=r.length:=by omega
    have HR4:Hid (R=σ'):=(show _=_ by rw[HRk.out,hk',List.drop_length];rfl)
    clear HRk;go_wp2_with fail;go_end0;rw[HR4.out];exact⟨rfl,v',HTr.out,HE2.out.trans HE.out⟩
theorem thr_all (t:Nat) (p:Tp) (tb mb:Nat) (room:Int) (L:List Gp.Gr) (live:List Bool):∀ n:Nat,n≤8→ThrC t p tb mb room L live (8-(n:Int)) (thrV (L.map Gp.Gr.p) live p.pick n)
 | 0,_=>thr_zero t p tb mb room L live _ _
 | n+1,h=>by
   have ih:=thr_all t p tb mb room L live n (by omega);have e:(8:Int)-((n+1:Nat):Int)+1=8-(n:Int):=by omega
   refine thr_succ t p tb mb room L live n _ (by omega) (by omega) ?_;rw[e];exact(show ∀ (a:Option Addr) (l:List A) (cap:Nat) (s:Mt.Sn) (v:Value) (σ:St) (w:World),_ from fun a l cap s v σ w hT hG hL hA hW hl=>do_any t p tb mb room L live _ _ ih a l cap s v σ w hT hG hL hA hW hl)
theorem thr_top (t:Nat) (p:Tp) (tb mb:Nat) (room:Int) (L:List Gp.Gr) (live:List Bool):ThrC t p tb mb room L live 0 (thrV (L.map Gp.Gr.p) live p.pick 8):=thr_all t p tb mb room L live 8 (Nat.le_refl _)
abbrev Mq:=List (Option (Nat × (Int × Int × Int)))
def Mq.ms (Q:Mq):Ms:=Q.map (Option.map Prod.snd)
def mqP (x:Option (Nat × (Int × Int × Int))):Value:=.pointer (x.map fun y=>⟨y.1,0,none⟩)
structure Mo (MB:Nat→Prop) (lo hi:Nat) (w:World) (p:Tp) (Q:Mq):Prop where
 mn:p.mn=Q.length
 ml:Q.length≤9223372036854775807
 ma:Q=[]∨∃ g o,p.ma=some ⟨g,o,none⟩∧g<hi∧(lo≤g∧¬ MB g)∧∀ i (h:i<Q.length),w.cell? ⟨g,o+i,none⟩=some (mqP Q[i])
 bk:∀ i (h:i<Q.length) y,Q[i]=some y→Me.Bk w y.1 y.2.1 y.2.2.1 y.2.2.2∧Me.Fit y.2.1 y.2.2.1 y.2.2.2∧MB y.1
 bd:∀ b,MB b→lo≤b∧b<hi
 ap:∀ i j (h1:i<Q.length) (h2:j<Q.length) y z,Q[i]=some y→Q[j]=some z→y.1=z.1→i=j
theorem Mo.low {MB:Nat→Prop} {lo hi:Nat} {w w':World} {p:Tp} {Q:Mq} (h:Mo MB lo hi w p Q) (k:Below hi w w'):Mo MB lo hi w' p Q:=by
 refine⟨h.mn,h.ml,?_,fun i hi y hy=>⟨(h.bk i hi y hy).1.below k (h.bd _ (h.bk i hi y hy).2.2).2,(h.bk i hi y hy).2⟩,h.bd,h.ap⟩;rcases h.ma with e|⟨g,o,ha,hg,hn,hc⟩
 ·exact .inl e
 ·exact .inr ⟨g,o,ha,hg,hn,fun i hi=>(World.cell?_of_block (w:=w) (k.block g hg)).trans (hc i hi)⟩
theorem fit_take {r m l n:Int} (f:Me.Fit r m l):Me.Fit r m (Me.takeL l n):=by
 obtain⟨h1,h2,h3,h4,h5⟩:=f;unfold Me.takeL;split
 ·exact⟨h1,h2,by omega,by omega,h5⟩
 ·exact⟨h1,h2,h3,h4,h5⟩
theorem Mo.take {MB:Nat→Prop} {lo hi:Nat} {w w':World} {p:Tp} {Q:Mq} (h:Mo MB lo hi w p Q) {i:Nat} (hi':i<Q.length) {b:Nat} {r m l n:Int} (hq:Q[i]=some (b,r,m,l))
 (K:Me.Bk w' b r m (Me.takeL l n)) (O:Me.Only b w w'):Mo MB lo hi w' p (Q.set i (some (b,r,m,Me.takeL l n))):=by
 have hb:=h.bk i hi' (b,r,m,l) hq;have hl:(Q.set i (some (b,r,m,Me.takeL l n))).length=Q.length:=List.length_set;refine⟨h.mn.trans hl.symm,by rw[hl];exact h.ml,?_,?_,h.bd,?_⟩
 ·rcases h.ma with e|⟨g,o,ha,hg,hn,hc⟩
  ·rw[e]at hi';cases hi'
  ·refine .inr ⟨g,o,ha,hg,hn,fun j hj => ?_⟩;have hj':j<Q.length:=by rw[hl]at hj;exact hj
   have hne:g≠b:=fun e=>hn.2 (e ▸ hb.2.2);rw[World.cell?_of_block (w:=w) (O.block g hne),hc j hj',List.getElem_set];split
   ·rename_i e;subst e;rw[hq];rfl
   ·rfl
 ·intro j hj y hy;rw[hl]at hj;rw[List.getElem_set]at hy;split at hy
  ·have e:=Option.some.inj hy;subst e;exact⟨K,fit_take hb.2.1,hb.2.2⟩
  ·rename_i hne;refine⟨(h.bk j hj y hy).1.only O (fun e=>hne ?_),(h.bk j hj y hy).2⟩;exact h.ap i j hi' hj (b,r,m,l) y hq hy e.symm
 ·intro j k h1 h2 y z hy hz e;rw[hl]at h1 h2;rw[List.getElem_set]at hy hz;split at hy
  ·rename_i e1;subst e1;split at hz
   ·rename_i e2;exact e2
   ·have:y.1=b:=by have:=Option.some.inj hy;rw[← this]
    exact h.ap i k hi' h2 (b,r,m,l) z hq hz (by rw[← e,this])
  ·split at hz
   ·rename_i e2;subst e2;have:z.1=b:=by have:=Option.some.inj hz;rw[← this]
    exact h.ap j i h1 hi' y (b,r,m,l) hy hq (by rw[e,this])
   ·exact h.ap j k h1 h2 y z hy hz e
theorem ms_len (Q:Mq):Q.ms.length=Q.length:=List.length_map ..
theorem ms_get (Q:Mq) (i:Nat) (h:i<Q.length):Q.ms.getD i none=(Q[i]).map Prod.snd:=by
 unfold Mq.ms;rw[List.getD_eq_getElem?_getD,List.getElem?_map,List.getElem?_eq_getElem h];rfl
theorem ms_set (Q:Mq) (i:Nat) (b:Nat) (x:Int × Int × Int):Mq.ms (Q.set i (some (b,x)))=Q.ms.set i (some x):=by
 unfold Mq.ms;rw[List.map_set];rfl
theorem pass_low {Q:Mq} {n:Int} {k:Int} (h:n<1∨(Q.length:Int)≤n):takV Q.ms n k=(true,Q.ms):=by
 unfold takV;rw[ms_len,if_pos h]
theorem pass_nil {Q:Mq} {i:Nat} {k:Int} (h1:1≤i) (h2:i<Q.length) (hq:Q[i]=none):takV Q.ms (i:Int) k=(true,Q.ms):=by
 unfold takV;rw[ms_len,if_neg (by omega),show((i:Int)).toNat=i by omega,ms_get Q i h2,hq];rfl
theorem pass_some {Q:Mq} {i:Nat} {k:Int} {b:Nat} {r m l:Int} (h1:1≤i) (h2:i<Q.length) (hq:Q[i]=some (b,r,m,l)):takV Q.ms (i:Int) k=(Me.takB l k,Q.ms.set i (some (r,m,Me.takeL l k))):=by
 unfold takV;rw[ms_len,if_neg (by omega),show((i:Int)).toNat=i by omega,ms_get Q i h2,hq];rfl
theorem Kpt.only {S:Nat→Prop} {w w' V:World} {b:Nat} (h:Kpt S w w') (o:Me.Only b w' V) (hb:S b):Kpt S w V :=
 ⟨o.os.trans h.os,o.tape.trans h.tape,o.output.trans h.output,by rw[o.size];exact h.size,fun k hk hs=>(o.block k (fun e=>hs (e ▸ hb))).trans (h.block k hk hs)⟩
theorem passes_any (t:Nat) (p:Tp) (v:Value) (O:List Ot) (nb:Nat) (MB:Nat→Prop) (lo:Nat) (Q:Mq) (n:Int) (q:Fr.Pk) (w:World) (T:Tr w t p v O nb) (M:Mo MB lo t w p Q) (hq:Fr.Wf q) (hs:q.data.size≤3000) :
 Calls prog 70 #[.pointer (some ⟨t,0,none⟩),.int .i64 n,Fr.pkV q] w fun e w'=>e=.returned (.bool (passV Q.ms n q).1)∧∃ Q':Mq,Q'.ms=(passV Q.ms n q).2∧Mo MB lo t w' p Q'∧Kpt MB w w':=by
 have htl:=T.lt;have c2:=T.c2;rw[M.mn]at c2;have HM:Hid (Mo MB lo t w p Q):=M;have HT:Hid (Tr w t p v O nb):=T;have hml:=M.ml;clear T M;by_cases h1:n<1
 ·have HR:Hid (passV Q.ms n q=(true,Q.ms)):=pass_low (.inl h1);rw[HR.out];go_enter func70,ntmps70;go_wp2_with fail;go_ret;have g:Below w.heap.size w (w.alloc (.cells (Fr.pkC q) 47)):=by go_grown
  exact⟨rfl,Q,rfl,HM.out.low (g.mono (Nat.le_of_lt htl)),Kpt.of_below g⟩
 ·by_cases h2:(Q.length:Int)≤n
  ·have HR:Hid (passV Q.ms n q=(true,Q.ms)):=pass_low (.inr h2);rw[HR.out];go_enter func70,ntmps70;go_wp2_with fail;go_ret;have g:Below w.heap.size w (w.alloc (.cells (Fr.pkC q) 47)):=by go_grown
   exact⟨rfl,Q,rfl,HM.out.low (g.mono (Nat.le_of_lt htl)),Kpt.of_below g⟩
  ·obtain⟨i,rfl⟩:=Int.eq_ofNat_of_zero_le (show 0≤n by omega);have hi1:1≤i:=by omega
   have hi2:i<Q.length:=by omega
   obtain⟨g,o,ha,hg,hn,hc⟩:∃ g o,p.ma=some ⟨g,o,none⟩∧g<t∧(lo≤g∧¬ MB g)∧∀ i (h:i<Q.length),w.cell? ⟨g,o+i,none⟩=some (mqP Q[i]):=by
    rcases HM.out.ma with e|h
    ·rw[e]at hi2;cases hi2
    ·exact h
   have ci:=hc i hi2;rw[ha]at c2;have hgw:g<w.heap.size:=by omega
   cases hqi:Q[i]with
   | none =>
     have HR:Hid (passV Q.ms i q=(true,Q.ms)):=pass_nil hi1 hi2 hqi;rw[HR.out];rw[hqi]at ci;have ci':w.cell? ⟨g,o+i,none⟩=some (.pointer none):=ci;clear hc ci hqi HT;go_enter func70,ntmps70;go_wp2_with fail;go_ret;have g:Below w.heap.size w (w.alloc (.cells (Fr.pkC q) 47)):=by go_grown
     exact⟨rfl,Q,rfl,HM.out.low (g.mono (Nat.le_of_lt htl)),Kpt.of_below g⟩
   | some y =>
     obtain⟨b,r,m,l⟩:=y;have HR:Hid (passV Q.ms i q=(Me.takB l (Fr.bytesS q).size,Q.ms.set i (some (r,m,Me.takeL l (Fr.bytesS q).size)))):=pass_some hi1 hi2 hqi;rw[HR.out];rw[hqi]at ci;have ci':w.cell? ⟨g,o+i,none⟩=some (.pointer (some ⟨b,0,none⟩)):=ci;have hbk:=HM.out.bk i hi2 _ hqi;have Hqi:Hid (Q[i]=some (b,r,m,l)):=hqi;have HB:Hid (∀ w,Calls prog 106 #[Fr.pkV q] w fun x w'=>x=.returned (.tuple #[.string (Fr.bytesS q),.int .i64 (Fr.bytesE q)])∧Below w.heap.size w w'):=(show ∀ w,_ from fun w=>Fr.bytesP_any q w hq hs)
     have hbt:b<t:=(HM.out.bd _ hbk.2.2).2;have Hbk:Hid (Me.Bk w b r m l∧Me.Fit r m l∧MB b):=hbk;clear hc ci hqi hbk hq;generalize Fr.bytesS q=S at *
     generalize Fr.bytesE q=E at *
     go_enter func70,ntmps70;go_wp2_with fail;refine(HB.out _).mono ?_;rintro e w1 ⟨rfl,g1⟩;have G1:Below w.heap.size w w1:=btr (by go_grown) g1 (by simp);have c21:w1.cell? ⟨t,2,none⟩=some (.slice (some ⟨g,o,none⟩) Q.length p.mc):=(G1.cell (p:=⟨t,2,none⟩) htl).trans c2;have ci1:w1.cell? ⟨g,o+i,none⟩=some (.pointer (some ⟨b,0,none⟩)):=(G1.cell (p:=⟨g,o+i,none⟩) hgw).trans ci';have HG1:Hid (Below w.heap.size w w1):=G1;have HTk:Hid _:=Me.take_any b r m l (S.size:Int) w1 (Hbk.out.1.below G1 (by omega)) Hbk.out.2.1;clear g1 G1;go_wp2_with fail;refine Calls.mono HTk.out ?_;rintro e w2 ⟨rfl,K2,O2⟩;go_wp2_with fail;go_ret;have M1:=HM.out.low (HG1.out.mono (Nat.le_of_lt htl));exact⟨rfl,_,ms_set _ _ _ _,M1.take hi2 Hqi.out K2 O2,(Kpt.of_below HG1.out).only O2 Hbk.out.2.2⟩
structure Sw (s:Mt.Sn):Prop where
 wf:Mt.Wf s
 fw:Fr.Wf s.pk
 sz:s.data.size≤3000
theorem change_ways (s:Mt.Sn) (a:A) (h:AW a):Fd.changeV s a=s∨(∃ v,Fd.changeV s a={ s with vl:=v })∨(Fd.changeV s a={ s with mt:=a.2.2 })∨(Fd.changeV s a={ s with src:=a.2.2 }∧a.2.2≤4294967295)∨(Fd.changeV s a={ s with dst:=a.2.2 }∧a.2.2≤4294967295)∨(Fd.changeV s a={ s with sp:=a.2.2 })∨(Fd.changeV s a={ s with dp:=a.2.2 }):=by
 unfold Fd.changeV;by_cases he:Fd.chE s a=0
 ·rw[if_pos he];unfold Fd.chE at he;unfold Fd.chS;by_cases h3:a.1=3
  ·rw[if_pos h3]at he ⊢;unfold Fd.pushS;rw[if_pos he];exact .inr (.inl ⟨_,rfl⟩)
  ·rw[if_neg h3]at he ⊢;by_cases h4:a.1=4
   ·rw[if_pos h4]at he ⊢;unfold Fd.popE at he;unfold Fd.popS;by_cases hv:s.vl=0
    ·rw[if_pos hv]at he;omega
    ·rw[if_neg hv];exact .inr (.inl ⟨_,rfl⟩)
   ·rw[if_neg h4]at he ⊢;by_cases h5:a.1=5
    ·rw[if_pos h5]at he ⊢;unfold Fd.putS;rw[if_pos he];have hg:a.2.2≤grV a.2.1:=by
      unfold Fd.putE at he;split at he
      ·split at he
       ·omega
       ·rename_i hn;omega
      ·omega
     unfold Fd.withV;split
     ·exact .inr (.inr (.inl rfl))
     ·split
      ·exact .inr (.inl ⟨_,rfl⟩)
      ·split
       ·rename_i e;rw[e]at hg;exact .inr (.inr (.inr (.inl ⟨rfl,hg⟩)))
       ·split
        ·rename_i e;rw[e]at hg;exact .inr (.inr (.inr (.inr (.inl ⟨rfl,hg⟩))))
        ·split
         ·exact .inr (.inr (.inr (.inr (.inr (.inl rfl)))))
         ·split
          ·exact .inr (.inr (.inr (.inr (.inr (.inr rfl)))))
          ·exact .inl rfl
    ·rw[if_neg h5];exact .inl rfl
 ·rw[if_neg he];exact .inl rfl
theorem Sw.change {s:Mt.Sn} {a:A} (h:Sw s) (ha:AW a):Sw (Fd.changeV s a):=by
 obtain⟨⟨m0,m1,a0,a1,b0,b1⟩,⟨t0,t1,f0,f1,s0,s1,d0,d1⟩,sz⟩:=h;have v0:=ha.v0;have v1:=ha.v1;rcases change_ways s a ha with e|⟨v,e⟩|e|⟨e,hv⟩|⟨e,hv⟩|e|e<;>rw[e]
 ·exact⟨⟨m0,m1,a0,a1,b0,b1⟩,⟨t0,t1,f0,f1,s0,s1,d0,d1⟩,sz⟩
 ·exact⟨⟨m0,m1,a0,a1,b0,b1⟩,⟨t0,t1,f0,f1,s0,s1,d0,d1⟩,sz⟩
 ·exact⟨⟨v0,v1,a0,a1,b0,b1⟩,⟨t0,t1,f0,f1,s0,s1,d0,d1⟩,sz⟩
 ·exact⟨⟨m0,m1,v0,by show a.2.2<_;omega,b0,b1⟩,⟨t0,t1,f0,f1,v0,by show a.2.2<_;omega,d0,d1⟩,sz⟩
 ·exact⟨⟨m0,m1,a0,a1,v0,by show a.2.2<_;omega⟩,⟨t0,t1,f0,f1,s0,s1,v0,by show a.2.2<_;omega⟩,sz⟩
 ·exact⟨⟨m0,m1,a0,a1,b0,b1⟩,⟨t0,t1,f0,f1,s0,s1,d0,d1⟩,sz⟩
 ·exact⟨⟨m0,m1,a0,a1,b0,b1⟩,⟨t0,t1,f0,f1,s0,s1,d0,d1⟩,sz⟩
theorem change_data (s:Mt.Sn) (a:A) (ha:AW a):(Fd.changeV s a).data=s.data∧(Fd.changeV s a).ty=s.ty:=by
 rcases change_ways s a ha with e|⟨v,e⟩|e|⟨e,hv⟩|⟨e,hv⟩|e|e<;>rw[e]<;>exact⟨rfl,rfl⟩
theorem Sw.app {live:List Bool} {thr:Mt.Sn→Int→St→St}:∀ (l:List A) (s:Mt.Sn) (σ:St),Sw s→AWs l→Sw (appV live thr l s σ).1
 | [],s,σ,h,_=>h
 | a::l,s,σ,h,hl=>by
   unfold appV;have ha:=hl a (List.mem_cons_self ..);have hr:AWs l:=fun x hx=>hl x (List.mem_cons_of_mem _ hx);split
   ·exact Sw.app l s _ h hr
   ·split
    ·exact Sw.app l s _ h hr
    ·exact Sw.app l _ _ (h.change ha) hr
theorem Sw.mt {s:Mt.Sn} (h:Sw s) (m:Int) (m0:0≤m) (m1:m<18446744073709551616):Sw { s with mt:=m } :=
 ⟨⟨m0,m1,h.wf.a0,h.wf.a1,h.wf.b0,h.wf.b1⟩,h.fw,h.sz⟩
end Go.Proofs.YtgnihbdcdefdgaaGreatDoor

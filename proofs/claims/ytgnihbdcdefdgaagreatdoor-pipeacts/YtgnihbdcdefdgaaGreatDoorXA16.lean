import Derived.Test.YtgnihbdcdefdgaaGreatDoorXA9
import Derived.Test.YtgnihbdcdefdgaaGreatDoorX29
import Derived.Test.YtgnihbdcdefdgaaGreatDoorX30
import Derived.Test.YtgnihbdcdefdgaaGreatDoorXA15
set_option maxHeartbeats 16000000
set_option maxRecDepth 20000
set_option linter.unusedSimpArgs false
set_option linter.unusedVariables false
open Go.ChangeShapes Go.WideShapes Go.ChangeAt Go.RowKit
open Go.Proofs.Tryz
namespace Go.Proofs.YtgnihbdcdefdgaaGreatDoor
namespace Dc
theorem rnewG (room:Int) (w:World) (h:Gp.inB room 1 64=true):Calls prog 31 #[.int .i64 room] w fun e w'=>e=.returned (.tuple #[Gp.ptr w.heap.size,.int .i64 0])∧w'=w.alloc (.cells #[.slice none 0 0,.int .i64 room] 145):=by
 obtain⟨h1,h2⟩:=Gp.in_pos h;have hb:decide (room<1)=false:=decide_eq_false (by omega);have hb2:decide (64<room)=false:=decide_eq_false (by omega);clear h h1 h2;go_enter func31,ntmps31;go_wp2_with fail;go_ret2
 exact⟨rfl,rfl⟩
structure P3 (W wr:World) (v:Value) (Q:Mq):Prop where
 row:wr.ownsRow W.heap.size 61 1 v Q.length (Q.map mqP)
 bel:Below W.heap.size W wr
 bk:∀ i (h:i<Q.length) y,Q[i]=some y→Me.Bk wr y.1 y.2.1 y.2.2.1 y.2.2.2∧Me.Fit y.2.1 y.2.2.1 y.2.2.2∧W.heap.size≤y.1∧y.1<wr.heap.size∧v.ownBlock≠some y.1
 ap:∀ i j (h1:i<Q.length) (h2:j<Q.length) y z,Q[i]=some y→Q[j]=some z→y.1=z.1→i=j
theorem P3.snoc {W wr X w':World} {v v':Value} {Q:Mq} (h:P3 W wr v Q) (q:Option (Nat × (Int × Int × Int))) (gX:Below wr.heap.size wr X) (hq:∀ y,q=some y→Me.Bk X y.1 y.2.1 y.2.2.1 y.2.2.2∧Me.Fit y.2.1 y.2.2.1 y.2.2.2∧wr.heap.size≤y.1∧y.1<X.heap.size)
 (R:w'.ownsRow W.heap.size 61 1 v' (Q.length+1) (Q.map mqP++[mqP q])) (G:X.grownBy w' v.ownBlock) (F:v'.ownBlock=v.ownBlock∨∀ g,v'.ownBlock=some g→X.heap.size≤g):P3 W w' v' (Q++[q]):=by
 have hl:(Q++[q]).length=Q.length+1:=by simp
 have hz:=gX.size;have hz2:=G.size;have own:∀ g,v.ownBlock=some g→W.heap.size≤g∧g<wr.heap.size:=fun g hg=>h.row.lt g hg;have kb:∀ b,b<wr.heap.size→v.ownBlock≠some b→w'.heap[b]? = wr.heap[b]?:=fun b hb hv=>(G.block b (by omega) (fun e=>hv e.symm)).trans (gX.block b hb);refine⟨by rw[hl,List.map_append];exact R,?_,?_,?_⟩
 ·exact h.bel.trans ⟨G.os.trans gX.os,G.tape.trans gX.tape,G.output.trans gX.output,by omega,fun b hb=>kb b (by have:=h.bel.size;omega) (fun e=>by have:=(own b e).1;omega)⟩
 ·intro i hi y hy;rcases snoc_get Q q i hi with⟨hi',e⟩|⟨hi',e⟩
  ·rw[e]at hy;obtain⟨h1,h2,h3,h4,h5⟩:=h.bk i hi' y hy;have eb:=kb y.1 h4 h5;refine⟨⟨(World.cell?_of_block (w:=wr) eb).trans h1.c0,(World.cell?_of_block (w:=wr) eb).trans h1.c1,(World.cell?_of_block (w:=wr) eb).trans h1.c2,(World.frozen?_of_block (w:=wr) eb).trans h1.f2⟩,h2,h3,by omega,?_⟩;rcases F with F|F
   ·rw[F];exact h5
   ·intro hg;have:=F _ hg;omega
  ·rw[e]at hy;obtain⟨h1,h2,h3,h4⟩:=hq y hy;have hv:v.ownBlock≠some y.1:=fun hg=>by have:=(own _ hg).2;omega
   have eb:w'.heap[y.1]? = X.heap[y.1]?:=G.block y.1 h4 (fun e=>hv e.symm);refine⟨⟨(World.cell?_of_block (w:=X) eb).trans h1.c0,(World.cell?_of_block (w:=X) eb).trans h1.c1,(World.cell?_of_block (w:=X) eb).trans h1.c2,(World.frozen?_of_block (w:=X) eb).trans h1.f2⟩,h2,by have:=h.bel.size;omega,by omega,?_⟩;rcases F with F|F
   ·rw[F];exact hv
   ·intro hg;have:=F _ hg;omega
 ·intro i j h1 h2 y z hy hz' e;rcases snoc_get Q q i h1 with⟨i',e1⟩|⟨i',e1⟩<;>rcases snoc_get Q q j h2 with⟨j',e2⟩|⟨j',e2⟩
  ·rw[e1]at hy;rw[e2]at hz';exact h.ap i j i' j' y z hy hz' e
  ·rw[e1]at hy;rw[e2]at hz';have a1:=(h.bk i i' y hy).2.2.2.1;have a2:=(hq z hz').2.2.1;omega
  ·rw[e1]at hy;rw[e2]at hz';have a1:=(h.bk j j' z hz').2.2.2.1;have a2:=(hq y hy).2.2.1;omega
  ·omega
theorem infoRb9:(prog.info? 61).map (fun i=>(i.zero,i.size,i.bytes))=some (some (.pointer none),1,8):=by kernel_rfl
theorem resPd {fn:Func} {t:Tmp} (h:fn.results=#[.cell t 42]) {tmps:Array Value} {w:World} {b:Nat} {p:Tp} (ht:tmps.getD t undef=.pointer (some ⟨b,0,none⟩))
 (h0:w.cell? ⟨b,0,none⟩=some (.pointer p.f)) (h1:w.cell? ⟨b,1,none⟩=some (.pointer p.g)) (h2:w.cell? ⟨b,2,none⟩=some (.slice p.ma p.mn p.mc)) (h3:w.cell? ⟨b,3,none⟩=some (.slice p.la p.ln p.lc)) :
 (results fn tmps).run prog w=.ok (ptV p) w:=by
 have ht':tmps[t]?.getD undef=.pointer (some ⟨b,0,none⟩):=by simpa using ht
 have hl:(loadVar 42 ⟨b,0,none⟩).run prog w=.ok (ptV p) w:=by simp[go_sem, *]
 simp[results,h,ht',asAddr,hl]
structure Fw (el:List Fe) (gl:List Gp.Gr) (ml:List (Int × Int)) (live:List Bool):Prop where
 en:el.length≤30
 gn:gl.length≤20
 mn:ml.length≤20
 ln:live.length≤50
 e:∀ x∈el,x.p.lt.length≤20∧x.p.la.length≤40∧x.p.lw.length≤40
 g:∀ x∈gl,Gp.Sm x.l
theorem few_parts {el:List Fe} {gl:List Gp.Gr} {ml:List (Int × Int)} {live:List Bool} (h:fewM el gl ml live=true):Fw el gl ml live:=by
 unfold fewM at h;simp only[Bool.and_eq_true,decide_eq_true_eq,List.all_eq_true]at h;obtain⟨⟨h1,h2,h3,h4⟩,h5,h6⟩:=h;refine⟨h1,h2,h3,h4,fun x hx => ?_,fun x hx => ?_⟩
 ·have:=h5 x hx;unfold fewE at this;simp only[Bool.and_eq_true,decide_eq_true_eq]at this;omega
 ·have:=h6 x hx;unfold fewG at this;simp only[Bool.and_eq_true,decide_eq_true_eq,List.all_eq_true]at this;obtain⟨g1,g2⟩:=this;have e:x.p.2.2=x.l.map Gp.Bk.b3:=rfl;rw[e]at g1 g2;rw[List.length_map]at g1;refine⟨by omega,fun b hb => ?_⟩;have:=g2 b.b3 (List.mem_map.2 ⟨b,hb,rfl⟩);have e2:b.b3.2.2=b.l:=rfl;rw[e2]at this;omega
theorem fw_in {w:World} {x:Fe} (h:FIn w x) (f:x.p.lt.length≤20∧x.p.la.length≤40∧x.p.lw.length≤40):FW w x:=⟨h.t,h.a,h.w,by omega,by omega,by omega,h.ct⟩
theorem add_len {room:Int} {L L':List Fp} {x:Fp} {chk:Bool} {E:Int} (h:AddRel room L x chk E L'):L'.length≤L.length+1:=by
 rcases h with⟨_,_,rfl⟩|⟨_,_,_,rfl⟩|⟨_,_,h⟩
 ·omega
 ·omega
 ·rcases h with⟨i,hi,_,_,rfl⟩|⟨_,⟨_,_,rfl⟩|⟨_,_,rfl⟩⟩
  ·rw[List.length_set];omega
  ·omega
  ·unfold insL;rw[List.length_append,List.length_cons,List.length_take,List.length_drop];omega
structure D1 (W V wr:World) (r:Nat) (S:Nat→Prop) (P:Nat→List Fp) (n:Nat) (rb:Nat) (rv:Value) (L:List Gp.Gr):Prop where
 fs:∃ LF,Rs W.heap.size wr r S 256 LF∧J P LF∧LF.length≤n
 sd:∀ b,S b→V.heap.size≤b∧b<wr.heap.size∧b≠rb∧rv.ownBlock≠some b
 tbl:Gp.RT W rb 64 rv L wr
 rl:V.heap.size≤rb
 vl:∀ b,rv.ownBlock=some b→V.heap.size≤b∧b<wr.heap.size
 bel:Below V.heap.size V wr
theorem D1.below {W V wr w':World} {r:Nat} {S:Nat→Prop} {P:Nat→List Fp} {n rb:Nat} {rv:Value} {L:List Gp.Gr} (h:D1 W V wr r S P n rb rv L) (g:Below wr.heap.size wr w'):D1 W V w' r S P n rb rv L:=by
 obtain⟨LF,h1,h2,h3⟩:=h.fs;have z:=g.size;exact⟨⟨LF,h1.below g,h2,h3⟩,fun b hb=>⟨(h.sd b hb).1,by have:=(h.sd b hb).2.1;omega,(h.sd b hb).2.2⟩,h.tbl.below g,h.rl,fun b hb=>⟨(h.vl b hb).1,by have:=(h.vl b hb).2;omega⟩,btr h.bel g (Nat.le_refl _)⟩
theorem D1.add {W V wr w':World} {r:Nat} {S S':Nat→Prop} {P:Nat→List Fp} {n rb:Nat} {x:Fp} {E:Int} {LF L':List Fp} (h:D1 W V wr r S P n rb (.slice none 0 0) []) (hJ:J P LF) (hn:LF.length≤n) (ha:AddRel 256 LF x false E L') (F:Rs W.heap.size w' r S' 256 L') (K:Kept S wr w') (hs:∀ b,S' b→S b∨wr.heap.size≤b):D1 W V w' r S' (addT 256 P x false) (n+1) rb (.slice none 0 0) []:=by
 have T:=h.tbl;have z:=K.size;have hW:=T.bel.size;have hb:=K.block rb T.lt (fun e=>(h.sd rb e).2.2.1 rfl);have hVs:=h.bel.size;have hWlo:∀ k,S k→W.heap.size≤k:=by obtain⟨LF0,h1,_⟩:=h.fs;exact h1.lo
 refine⟨⟨L',F,(hJ.add ha).2,Nat.le_trans (add_len ha) (by omega)⟩,fun b hb' => ?_,⟨(World.cell?_of_block (w:=wr) hb).trans T.c0,(World.cell?_of_block (w:=wr) hb).trans T.c1,(World.frozen?_of_block (w:=wr) hb).trans T.f0,Nat.lt_of_lt_of_le T.lt z,T.ge,row_block T.row (fun b hb'=>by cases hb'),T.ap,T.grp,T.srt,T.bel.trans (K.below hW hWlo)⟩,h.rl,fun b hb'=>(by cases hb'),h.bel.trans (K.below hVs (fun k hk=>(h.sd k hk).1))⟩;rcases hs b hb' with h1|h1
 ·have:=h.sd b h1;exact⟨this.1,by omega,this.2.2⟩
 ·exact⟨by omega,F.lt b hb',by have:=T.lt;omega,by simp[Value.ownBlock]⟩
theorem mem_insG {g x:Gp.Gr}:∀ {M:List Gp.Gr},x∈Gp.insG g M→x=g∨x∈M
 | [],h=>.inl (List.mem_singleton.1 h)
 | y::r,h=>by
   rw[Gp.insG]at h;split at h
   ·rcases List.mem_cons.1 h with h|h
    ·exact .inl h
    ·exact .inr h
   ·rcases List.mem_cons.1 h with h|h
    ·exact .inr (h ▸ List.mem_cons_self ..)
    ·rcases mem_insG h with h|h
     ·exact .inl h
     ·exact .inr (List.mem_cons_of_mem _ h)
theorem D1.put {W V wr w':World} {r:Nat} {S:Nat→Prop} {P:Nat→List Fp} {n rb:Nat} {rv rv':Value} {L L':List Gp.Gr} (h:D1 W V wr r S P n rb rv L) (T:Gp.RT W rb 64 rv' L' w') (G:wr.grownBy w' (some rb)) (hn:∀ b,rv'.ownBlock=some b→wr.heap.size≤b):D1 W V w' r S P n rb rv' L':=by
 obtain⟨LF,h1,h2,h3⟩:=h.fs;have z:=G.size;have hVs:=h.bel.size;have K:Kept (fun b=>b=rb) wr w':=⟨G.os,G.tape,G.output,G.size,fun b hb hne=>G.block b hb (fun e=>hne (Option.some.inj e))⟩
 refine⟨⟨LF,h1.kept (T:=fun b=>b=rb) K (fun b hb e=>(h.sd b hb).2.2.1 e) (fun b e=>by subst e;exact h.tbl.ge),h2,h3⟩,fun b hb => ?_,T,h.rl,fun b hb=>⟨by have:=hn b hb;omega,(T.row.lt b hb).2⟩,h.bel.trans (K.below hVs (fun k hk=>by subst hk;exact h.rl))⟩;have:=h.sd b hb;exact⟨this.1,by omega,this.2.2.1,fun e=>by have:=hn b e;omega⟩
theorem del_none {g:G3} {M:List G3} (h:Gp.addEP 64 M g=0):Gp.delP g.1 M=M:=by
 unfold Gp.delP;rw[List.filter_eq_self];intro p hp;unfold Gp.addEP at h;repeat' split at h
 all_goals first|omega|skip
 all_goals try contradiction
 rename_i h1 h2 h3 h4;simp only[Bool.not_eq_true,List.any_eq_false,decide_eq_true_eq]at h2;simp[h2 p hp]
structure Dt (w0:World) (n0:Nat) (w:World) (p:Tp) (f:Nat) (S:Nat→Prop) (P:Nat→List Fp) (rb:Nat) (rv:Value) (L:List Gp.Gr) (MB:Nat→Prop) (lo:Nat) (Q:Mq):Prop where
 pf:p.f=some ⟨f,0,none⟩
 pg:p.g=some ⟨rb,0,none⟩
 fs:∃ LF,Rs w0.heap.size w f S 256 LF∧J P LF∧LF.length≤30
 fb:∀ b,S b→n0≤b∧b<lo
 tbl:Gp.RT w0 rb 64 rv L w
 rn:n0≤rb
 vn:∀ b,rv.ownBlock=some b→n0≤b
 l1:rb<lo
 l2:∀ b,rv.ownBlock=some b→b<lo
 mo:Mo MB lo w.heap.size w p Q
 lo:n0≤lo∧lo≤w.heap.size
 bel:Below w0.heap.size w0 w
theorem dt_of {w0 w V W3 wr Z:World} {f:Nat} {S:Nat→Prop} {P:Nat→List Fp} {rb:Nat} {rv:Value} {L:List Gp.Gr} {va:Option Addr} {vc:Nat} {Q:Mq} {p:Tp} (g0:Below w0.heap.size w0 w) (gV:Below w.heap.size w V) (zV:V.heap.size=w.heap.size+2) (h2:D1 w0 V W3 f S P 30 rb rv L) (h3:P3 W3 wr (.slice va Q.length vc) Q) (o:Only (w.heap.size+1) wr Z)
 (pf:p.f=some ⟨f,0,none⟩) (pg:p.g=some ⟨rb,0,none⟩) (pa:p.ma=va) (pn:p.mn=Q.length) (hn:Q.length≤9223372036854775807) :
 Below w.heap.size w Z∧Dt w0 w.heap.size Z p f S P rb rv L (fun b=>∃ (i:Nat) (h:i<Q.length) (y:Nat × (Int × Int × Int)),Q[i]=some y∧y.1=b) W3.heap.size Q:=by
 have zz:Z.heap.size=wr.heap.size:=o.size;have z3:=h3.bel.size;have z2:=h2.bel.size;have kb:∀ b,b≠w.heap.size+1→b<W3.heap.size→Z.heap[b]? = W3.heap[b]?:=fun b h1 h4=>(o.block b (by omega)).trans (h3.bel.block b h4);have kz:∀ b,V.heap.size≤b→Z.heap[b]? = wr.heap[b]?:=fun b h1=>o.block b (by omega);have own:∀ g,(Value.slice va Q.length vc).ownBlock=some g→W3.heap.size≤g∧g<wr.heap.size:=fun g hg=>h3.row.lt g hg;have T:=h2.tbl;have hrb:=kb rb (by have:=h2.rl;omega) T.lt;have hbw:Below w.heap.size w Z:=o.below (by omega) ((gV.trans (h2.bel.mono gV.size)).trans (h3.bel.mono (by omega)));have hz0:=g0.size;have hbel:Below w0.heap.size w0 Z:=g0.trans (hbw.mono hz0);obtain⟨LF,⟨fv,fl,hF,hp⟩,hJ,hl⟩:=h2.fs;refine⟨hbw,pf,pg,⟨LF,⟨fv,fl,hF.keep (by omega) (fun b hb=>kb b (by have:=(h2.sd b hb).1;omega) (h2.sd b hb).2.1) (fun b hb hlt=>kb b (by omega) hlt),hp⟩,hJ,hl⟩,fun b hb=>⟨by have:=(h2.sd b hb).1;omega,(h2.sd b hb).2.1⟩,⟨(World.cell?_of_block (w:=W3) hrb).trans T.c0,(World.cell?_of_block (w:=W3) hrb).trans T.c1,(World.frozen?_of_block (w:=W3) hrb).trans T.f0,by have:=T.lt;omega,T.ge,row_block T.row (fun b hb=>kb b (by have:=(h2.vl b hb).1;omega) (h2.vl b hb).2),T.ap,T.grp,T.srt,hbel⟩,by have:=h2.rl;omega,fun b hb=>by have:=(h2.vl b hb).1;omega,T.lt,fun b hb=>(h2.vl b hb).2,⟨pn,hn,?_,?_,?_,h3.ap⟩,⟨by omega,by omega⟩,hbel⟩
 ·rcases h3.row.2 with⟨h1,h4⟩|⟨g,cap,cur,h1,hbg,hgg,hnc,hcm,hcs,htk⟩
  ·exact .inl (List.length_eq_zero_iff.1 h4)
  ·have hv:va=some ⟨g,0,none⟩:=by simp only[Value.slice.injEq]at h1;exact h1.1
   have ho:=own g (by rw[hv];rfl);refine .inr ⟨g,0,by rw[pa,hv],by omega,⟨ho.1,?_⟩,fun i hi => ?_⟩
   ·rintro⟨i,hi,y,hy,e⟩;have:=(h3.bk i hi y hy).2.2.2.2;rw[e,hv]at this;exact this rfl
   ·rw[Nat.zero_add,World.cell?_of_block (w:=wr) (kz g (by omega))];have hr:=h3.row;rw[hv]at hr;rw[hr.cellAt i (by omega)];simp[hi]
 ·intro i hi y hy;obtain⟨b1,b2,b3,b4,b5⟩:=h3.bk i hi y hy;have eb:=kz y.1 (by omega);exact⟨⟨(World.cell?_of_block (w:=wr) eb).trans b1.c0,(World.cell?_of_block (w:=wr) eb).trans b1.c1,(World.cell?_of_block (w:=wr) eb).trans b1.c2,(World.frozen?_of_block (w:=wr) eb).trans b1.f2⟩,b2,⟨i,hi,y,hy,rfl⟩⟩
 ·rintro b ⟨i,hi,y,hy,rfl⟩;obtain⟨b1,b2,b3,b4,b5⟩:=h3.bk i hi y hy;exact⟨b3,by omega⟩
def DtR (w0 w w':World) (P:Nat→List Fp) (G:List G3) (gl:List Gp.Gr) (M:Ms) (la:Option Addr) (ln lc:Nat) (pick:Int) (p:Tp):Prop :=
 ∃ f S rb rv L MB lo Q,(Below w.heap.size w w'∧Dt w0 w.heap.size w' p f S P rb rv L MB lo Q)∧L.map Gp.Gr.p=G∧(∀ g∈L,g∈gl)∧Mq.ms Q=M∧p.la=la∧p.ln=ln∧p.lc=lc∧p.pick=pick
theorem plain_any (ea:Option Addr) (el:List Fe) (ec:Nat) (ga:Option Addr) (gl:List Gp.Gr) (gc:Nat) (ma:Option Addr) (ml:List (Int × Int)) (mc:Nat) (la:Option Addr) (live:List Bool) (lc:Nat) (pick:Int) (w0 w:World) (I:Mi w0 ea el ga gl ma ml la live) (g0:Below w0.heap.size w0 w) (F:Fw el gl ml live) :
 Calls prog 11 #[mdV ea el.length ec ga gl.length gc ma ml.length mc la live.length lc] w fun e w'=>∃ p,e=.returned (ptV p)∧DtR w0 w w' (allFP (el.map Fe.p)) (Gp.allGP (gl.map Gp.Gr.p)) gl (ml.map mkM) la live.length lc pick p:=by
 obtain⟨V,hV⟩:∃ V,(w.alloc (.cells (mdC ea el.length ec ga gl.length gc ma ml.length mc la live.length lc) 27)).alloc (.cells #[.pointer none,.pointer none,.slice none 0 0,.slice none 0 0] 42)=V:=⟨_,rfl⟩
 have gV:Below w.heap.size w V:=by rw[← hV];go_grown
 have zV:V.heap.size=w.heap.size+2:=by rw[← hV];simp
 have HI:Hid (Mi V ea el ga gl ma ml la live):=(I.below g0).below gV;have HgV:Hid (Below w.heap.size w V):=gV;have Hg0:Hid (Below w0.heap.size w0 w):=g0;have Hg0V:Hid (Below w0.heap.size w0 V):=g0.trans (gV.mono g0.size);have hz0:=g0.size;have hc:V.cell? ⟨w.heap.size,0,none⟩=some (.slice ea el.length ec)∧V.cell? ⟨w.heap.size,1,none⟩=some (.slice ga gl.length gc)∧V.cell? ⟨w.heap.size,2,none⟩=some (.slice ma ml.length mc)∧V.cell? ⟨w.heap.size,3,none⟩=some (.slice la live.length lc):=by rw[← hV];simp
 have hr:V.cell? ⟨w.heap.size+1,0,none⟩=some (.pointer none)∧V.cell? ⟨w.heap.size+1,1,none⟩=some (.pointer none)∧V.cell? ⟨w.heap.size+1,2,none⟩=some (.slice none 0 0)∧V.cell? ⟨w.heap.size+1,3,none⟩=some (.slice none 0 0)∧∀ o,V.frozen? ⟨w.heap.size+1,o,none⟩=false:=by rw[← hV];simp
 have HC:Hid (∀ W,Below V.heap.size V W→W.cell? ⟨w.heap.size,0,none⟩=some (.slice ea el.length ec)∧W.cell? ⟨w.heap.size,1,none⟩=some (.slice ga gl.length gc)∧W.cell? ⟨w.heap.size,2,none⟩=some (.slice ma ml.length mc)∧W.cell? ⟨w.heap.size,3,none⟩=some (.slice la live.length lc)):=(show ∀ W,_ from fun W g=>by
  have e:∀ o,W.cell? ⟨w.heap.size,o,none⟩=V.cell? ⟨w.heap.size,o,none⟩:=fun o=>g.cell (p:=⟨w.heap.size,o,none⟩) (by show w.heap.size<V.heap.size;omega);rw[e,e,e,e];exact hc)
 have HRs:Hid (∀ W,Below V.heap.size V W→W.cell? ⟨w.heap.size+1,0,none⟩=some (.pointer none)∧W.cell? ⟨w.heap.size+1,1,none⟩=some (.pointer none)∧W.cell? ⟨w.heap.size+1,2,none⟩=some (.slice none 0 0)∧W.cell? ⟨w.heap.size+1,3,none⟩=some (.slice none 0 0)∧∀ o,W.frozen? ⟨w.heap.size+1,o,none⟩=false):=(show ∀ W,_ from fun W g=>by
  have e:∀ o,W.cell? ⟨w.heap.size+1,o,none⟩=V.cell? ⟨w.heap.size+1,o,none⟩:=fun o=>g.cell (p:=⟨w.heap.size+1,o,none⟩) (by show w.heap.size+1<V.heap.size;omega);have f:∀ o,W.frozen? ⟨w.heap.size+1,o,none⟩=V.frozen? ⟨w.heap.size+1,o,none⟩:=fun o=>g.frozen (p:=⟨w.heap.size+1,o,none⟩) (by show w.heap.size+1<V.heap.size;omega);rw[e,e,e,e];exact⟨hr.1,hr.2.1,hr.2.2.1,hr.2.2.2.1,fun o=>by rw[f];exact hr.2.2.2.2 o⟩)
 have HV:Hid ((w.alloc (.cells (mdC ea el.length ec ga gl.length gc ma ml.length mc la live.length lc) 27)).alloc (.cells #[.pointer none,.pointer none,.slice none 0 0,.slice none 0 0] 42)=V):=hV;have HIw:Hid (Mi w0 ea el ga gl ma ml la live∧Fw el gl ml live):=(show _∧_ from⟨I,F⟩)
 have HNf:Hid _:=rnew_yes w0.heap.size 256 V (by omega) (by omega) (by omega);have hen:(el.length:Int)≤9223372036854775807:=by have:=HI.out.en;unfold maxLen at this;omega
 have hgn:(gl.length:Int)≤9223372036854775807:=by have:=HI.out.gn;unfold maxLen at this;omega
 have hmn:(ml.length:Int)≤9223372036854775807:=by have:=HI.out.mn;omega
 have HzV:Hid (V.heap.size=w.heap.size+2):=zV;have Hz0:Hid (w0.heap.size≤w.heap.size):=hz0;clear I gV zV hc hr hV F g0 hz0;go_enter func11,ntmps11;go_wp2_with fail;rw[HV.out];refine Calls.mono HNf.out ?_;rintro e w1 ⟨rfl,F1,g1⟩;obtain⟨f,hf⟩:∃ f,f=V.heap.size:=⟨_,rfl⟩
 rw[← hf]at F1 ⊢;have Hf:Hid (f=V.heap.size):=hf;clear hf;have HNg:Hid _:=rnewG 64 w1 (by decide);have HF1:Hid (Rs w0.heap.size w1 f (fun b=>b=f) 256 []∧Below V.heap.size V w1):=(show _∧_ from⟨F1,g1⟩)
 clear F1 g1 HNf HV;go_wp2_with fail;refine Calls.mono HNg.out ?_;rintro e w2 ⟨rfl,hw2⟩;obtain⟨rb,hrb⟩:∃ rb,rb=w1.heap.size:=⟨_,rfl⟩
 have HP:Hid (D1 w0 V w2 f (fun b=>b=f) (allFP []) 0 rb (.slice none 0 0) []):=(show D1 _ _ _ _ _ _ _ _ _ _ from by
  obtain⟨F1,g1⟩:=HF1.out;have hl:=F1.lt f rfl;have hf:=Hf.out;have hz:=g1.size;have hzV:=HzV.out;have g2:Below w1.heap.size w1 w2:=by rw[hw2];go_grown
  have z2:w2.heap.size=w1.heap.size+1:=by rw[hw2];simp
  have hz0:=Hz0.out;have gw:Below w0.heap.size w0 w2:=(Hg0V.out.trans (g1.mono Hg0V.out.size)).trans (g2.mono (by omega));subst hrb;exact⟨⟨[],F1.below g2,J.nil,by simp⟩,fun b hb=>by subst hb;exact⟨by omega,by omega,by omega,by simp[Value.ownBlock]⟩,⟨by rw[hw2];simp,by rw[hw2];simp,by rw[hw2];simp,by omega,by omega,World.ownsRow_nil _ _ _ _,by simp[Value.ownBlock],fun g hg=>(by cases hg),List.Pairwise.nil,gw⟩,by omega,fun b hb=>(by cases hb),btr g1 g2 (Nat.le_refl _)⟩)
 rw[show Gp.ptr w1.heap.size=.pointer (some ⟨rb,0,none⟩)by rw[hrb]];clear hw2 HNg HF1 hrb;go_wp2_with fail;go_loopw [7] (fun i wr=>∃ (k:Nat) (S:Nat→Prop),k≤el.length∧i=.int .i64 k∧Hid (D1 w0 V wr f S (allFP ((el.take k).map Fe.p)) k rb (.slice none 0 0) [])) (fun i _=>el.length-(intOf i).toNat);case atStart=>exact⟨0,_,Nat.zero_le _,rfl,HP⟩
 case round =>
  clear HP;obtain⟨k,S,hk,rfl,HPk⟩:=hrel;obtain⟨c0,c1,c2,c3⟩:=HC.out _ HPk.out.bel;by_cases hlt:k<el.length
  ·have hltI:(k:Int)<(el.length:Int):=by omega
   obtain⟨g,o,ha,hg,hcl⟩:∃ g o,ea=some ⟨g,o,none⟩∧g<V.heap.size∧∀ i (h:i<el.length),Be V g (o+i*10) el[i]:=by
    rcases HI.out.e with e|h
    ·rw[e]at hlt;cases hlt
    ·exact h
   have HBe:Hid (Be wr g (o+k*10) el[k]):=(hcl k hlt).below hg HPk.out.bel;have hFi:FIn w0 el[k]:=HIw.out.1.ei _ (List.getElem_mem hlt);have hFW:FW w0 el[k]:=fw_in hFi (HIw.out.2.e _ (List.getElem_mem hlt));have HS:Hid (allFP ((el.take (k+1)).map Fe.p)=addT 256 (allFP ((el.take k).map Fe.p)) el[k].p false):=(show _=_ by rw[take_snoc_map Fe.p el k hlt,allFP_snoc])
   have hen30:=HIw.out.2.en;obtain⟨LF,h1,h2,h3⟩:=HPk.out.fs;have gww:Below w0.heap.size w0 wr:=Hg0V.out.trans (HPk.out.bel.mono Hg0V.out.size);have HAd:Hid _:=radd_any w0.heap.size f S 256 LF el[k] false wr h1 (hFW.below gww) hFi.vf (fun b hb=>hFW.lt hb) (by omega);have HJ:Hid (J (allFP ((el.take k).map Fe.p)) LF∧LF.length≤k):=(show _∧_ from⟨h2,h3⟩)
   have Hk1:Hid (k+1≤el.length):=hlt;generalize el[k]=x at *
   subst ha;clear hcl h1 h2 h3 hFi hFW gww;go_wp2_with (refine load_E rfl (.tmp 32) rfl g (o+k*10) x rfl HBe.out ?_);refine Calls.mono HAd.out ?_;rintro e w3 ⟨E,L',rfl,hA,S',F3,K3,hs3⟩;have HP3:Hid (D1 w0 V w3 f S' (allFP ((el.take (k+1)).map Fe.p)) (k+1) rb (.slice none 0 0) []):=(show D1 _ _ _ _ _ _ _ _ _ _ from by rw[HS.out];exact HPk.out.add HJ.out.1 HJ.out.2 hA F3 K3 hs3)
   clear F3 K3 hs3 hA;go_wp2_with fail;go_roundw;case rel=>exact⟨k+1,S',Hk1.out,by go_num,HP3⟩
   case measure=>have:=Hk1.out;simp[intOf];omega
  ·have hkl:k=el.length:=by omega
   have HP0:Hid (D1 w0 V wr f S (allFP (el.map Fe.p)) 30 rb (.slice none 0 0) []∧([]:List Gp.Gr).map Gp.Gr.p=Gp.allGP (([]:List Gp.Gr).map Gp.Gr.p)∧∀ g∈([]:List Gp.Gr),g∈gl):=(show _∧_ from by
    have h:=HPk.out;rw[hkl,List.take_length]at h;obtain⟨LF,h1,h2,h3⟩:=h.fs;have:=HIw.out.2.en;exact⟨⟨⟨LF,h1,h2,by omega⟩,h.sd,h.tbl,h.rl,h.vl,h.bel⟩,rfl,fun g hg=>by cases hg⟩)
   clear HPk;go_wp2_with fail;clear c0 c1 c2 c3 hlt hk hkl;go_loopw [8] (fun i wr=>∃ (k:Nat) (L:List Gp.Gr) (rv:Value),k≤gl.length∧i=.int .i64 k∧Hid (D1 w0 V wr f S (allFP (el.map Fe.p)) 30 rb rv L∧L.map Gp.Gr.p=Gp.allGP ((gl.take k).map Gp.Gr.p)∧∀ g∈L,g∈gl)) (fun i _=>gl.length-(intOf i).toNat);case atStart=>exact⟨0,[],_,Nat.zero_le _,rfl,HP0⟩
   case round =>
    clear HP0;obtain⟨k,L,rv,hk,rfl,HPk⟩:=hrel;obtain⟨c0,c1,c2,c3⟩:=HC.out _ HPk.out.1.bel;have hLl:L.length≤64:=by
     have:=congrArg List.length HPk.out.2.1;have h2:=Gp.allGP_len ((gl.take k).map Gp.Gr.p);simp only[List.length_map]at this;omega
    by_cases hlt:k<gl.length
    ·have hltI:(k:Int)<(gl.length:Int):=by omega
     obtain⟨g,o,ha,hg,hcl⟩:∃ g o,ga=some ⟨g,o,none⟩∧g<V.heap.size∧∀ i (h:i<gl.length),Gp.Cg V g (o+i*3) gl[i]:=by
      rcases HI.out.g with e|h
      ·rw[e]at hlt;cases hlt
      ·exact h
     obtain⟨d0,d1,d2⟩:=(hcl k hlt).below hg HPk.out.1.bel;have hGi:Gp.GIn w0 gl[k]:=HIw.out.1.gi _ (List.getElem_mem hlt);have hSm:Gp.Sm gl[k].l:=HIw.out.2.g _ (List.getElem_mem hlt);have HS:Hid (Gp.allGP ((gl.take (k+1)).map Gp.Gr.p)=Gp.addGP 64 (Gp.allGP ((gl.take k).map Gp.Gr.p)) gl[k].p):=(show _=_ by rw[take_snoc_map Gp.Gr.p gl k hlt,Gp.allGP_snoc])
     have Hk1:Hid (k+1≤gl.length):=hlt;have Hmem:Hid (gl[k]∈gl):=List.getElem_mem hlt;generalize gl[k]=x at *
     have HAd:Hid (Calls prog 33 #[.pointer (some ⟨rb,0,none⟩),Gp.gV x] wr fun e w'=>∃ er,e=.returned (.int .i64 er)∧Hid (∃ L' rv',D1 w0 V w' f S (allFP (el.map Fe.p)) 30 rb rv' L'∧L'.map Gp.Gr.p=Gp.allGP ((gl.take (k+1)).map Gp.Gr.p)∧∀ g∈L',g∈gl)):=(show Calls _ _ _ _ _ from by
      refine(Gp.radd_any x wr HPk.out.1.tbl hLl hGi.bs hSm hGi.u).mono ?_;rintro e w' ⟨rfl,h1,h2⟩;refine⟨_,rfl,?_⟩;rw[Gp.addE_p]at h1 h2;by_cases h0:Gp.addEP 64 (L.map Gp.Gr.p) x.p=0
      ·obtain⟨v',hT,hgr,hb⟩:=h2 h0;refine(show ∃ L' rv',_ from⟨Gp.insG x L,v',HPk.out.1.put hT hgr hb,?_,fun g hg => ?_⟩)
       ·rw[Gp.ins_p,HS.out,← HPk.out.2.1];unfold Gp.addGP;rw[if_pos h0,del_none h0]
       ·rcases mem_insG hg with rfl|hg
        ·exact Hmem.out
        ·exact HPk.out.2.2 g hg
      ·refine(show ∃ L' rv',_ from⟨L,rv,HPk.out.1.below (h1 h0),?_,HPk.out.2.2⟩);rw[HS.out,← HPk.out.2.1];unfold Gp.addGP;rw[if_neg h0])
     obtain⟨xi,xk,xa,xl,xc⟩:=x;subst ha;clear hcl HS hGi hSm hLl Hmem;simp only at d0 d1 d2 HAd;go_wp2_with fail;refine Calls.mono HAd.out ?_;rintro e w3 ⟨er,rfl,HY⟩;go_wp2_with fail;go_roundw;case rel=>obtain⟨L',rv',hL'⟩:=HY.out;exact⟨k+1,L',rv',Hk1.out,by go_num,hL'⟩
     case measure=>have:=Hk1.out;simp[intOf];omega
    ·have hkl:k=gl.length:=by omega
     obtain⟨W3,hW3⟩:∃ W3,W3=wr:=⟨_,rfl⟩
     have HL:Hid (D1 w0 V W3 f S (allFP (el.map Fe.p)) 30 rb rv L∧L.map Gp.Gr.p=Gp.allGP (gl.map Gp.Gr.p)∧∀ g∈L,g∈gl):=(show _∧_ from by
      have h:=HPk.out;rw[hkl,List.take_length,← hW3]at h;exact h)
     have H30:Hid (P3 W3 wr (.slice none 0 0) []∧Mq.ms []=([]:List (Int × Int)).map mkM):=(show _∧_ from⟨⟨World.ownsRow_nil _ _ _ _,by rw[hW3];exact Below.refl _ _,fun i h=>absurd h (by simp),fun i j h=>absurd h (by simp)⟩,rfl⟩)
     clear HPk hW3;go_wp2_with fail;clear c0 c1 c2 c3 hlt hk hkl hLl;go_loopw [9,10] (fun vl i wr=>∃ (k:Nat) (Q:Mq) (va:Option Addr) (vc:Nat),k≤ml.length∧vl=.slice va k vc∧i=.int .i64 k∧Q.length=k∧Hid (P3 W3 wr (.slice va k vc) Q∧Q.ms=(ml.take k).map mkM)) (fun _ i _=>ml.length-(intOf i).toNat);case atStart=>exact⟨0,[],none,0,Nat.zero_le _,rfl,rfl,rfl,H30⟩
     case round =>
      clear H30;obtain⟨k,Q,va,vc,hk,rfl,rfl,hQk,HPk⟩:=hrel;have HgW:Hid (Below V.heap.size V wr):=HL.out.1.bel.trans (HPk.out.1.bel.mono HL.out.1.bel.size);obtain⟨c0,c1,c2,c3⟩:=HC.out _ HgW.out;by_cases hlt:k<ml.length
      ·have hltI:(k:Int)<(ml.length:Int):=by omega
       obtain⟨g,o,ha,hg,hcl⟩:∃ g o,ma=some ⟨g,o,none⟩∧g<V.heap.size∧∀ i (h:i<ml.length),V.cell? ⟨g,o+i*2,none⟩=some (.int .i64 ml[i].1)∧V.cell? ⟨g,o+i*2+1,none⟩=some (.int .i64 ml[i].2):=by
        rcases HI.out.m with e|h
        ·rw[e]at hlt;cases hlt
        ·exact h
       have HS:Hid ((ml.take (k+1)).map mkM=(ml.take k).map mkM++[mkM ml[k]]):=take_snoc_map mkM ml k hlt;have Hk1:Hid (k+1≤ml.length):=hlt;obtain⟨q1,q2⟩:=hcl k hlt;have HmN:Hid (ml.length*16≤140737488355328):=HI.out.mn;generalize ml[k]=x at *
       obtain⟨r,m⟩:=x;simp only at q1 q2;subst ha;have HSM:Hid (∀ W,Below wr.heap.size wr W→SM3 w.heap.size g (o+k*2) (some ⟨g,o,none⟩) ml.length mc r m W):=(show ∀ W,_ from fun W gW=>by
        have gg:=HgW.out.trans (gW.mono HgW.out.size);have e:∀ o,W.cell? ⟨g,o,none⟩=V.cell? ⟨g,o,none⟩:=fun o=>gg.cell (p:=⟨g,o,none⟩) hg;exact⟨(HC.out W gg).2.2.1,(e _).trans q1,(e _).trans q2⟩)
       have HSM0:Hid (SM3 w.heap.size g (o+k*2) (some ⟨g,o,none⟩) ml.length mc r m wr):=HSM.out wr (Below.refl _ _);obtain⟨i0,hi0,hz0,hz1,hz2⟩:=info_parts infoRb9;have hbyt:(k+1)*8≤140737488355328:=by have:=HmN.out;have:=Hk1.out;omega
       have HQk:Hid (Q.length=k):=hQk;have HR0:Hid (wr.ownsRow W3.heap.size 61 1 (.slice va k vc) k (Q.map mqP)):=(show World.ownsRow _ _ _ _ _ _ _ by have:=HPk.out.1.row;rw[HQk.out]at this;exact this)
       have hzW:W3.heap.size≤wr.heap.size:=HPk.out.1.bel.size;clear q1 q2 hcl hQk c0 c1 c3;by_cases hmay:(Me.mayB r&&Me.mayB m)=true
       ·have hm1:Me.mayB r=true∧Me.mayB m=true:=by simpa using hmay
        have HNw:Hid (∀ W,Calls prog 34 #[.int .i64 r,.int .i64 m] W fun x w'=>x=.returned (.tuple #[.pointer (some ⟨W.heap.size,0,none⟩),.int .i64 0])∧w'=W.alloc (.cells #[.int .i64 r,.int .i64 m,.int .i64 m] 118)):=(show ∀ W,_ from fun W=>Me.rnew_yes r m W hm1.1 hm1.2)
        have HMk:Hid (mkM (r,m)=some (r,m,m)∧Me.Fit r m m):=(show _∧_ from⟨if_pos hmay,by
         have h1:=hm1.1;have h2:=hm1.2;unfold Me.mayB at h1 h2;simp at h1 h2;exact⟨h1.1,h1.2,h2.1,by omega,h2.2⟩⟩)
        clear hmay hm1;go_wp2_with fail;go_region_held (SM3 w.heap.size g (o+k*2) (some ⟨g,o,none⟩) ml.length mc r m) (first|exact HSM0.out|exact HSM.out _ (by go_grown)|assumption) ((go_at_call 34;refine(HNw.out _).mono ?_;rintro e w4 ⟨rfl,rfl⟩));obtain⟨Y,hY⟩:∃ Y,(wr.alloc (.cells #[.int .i64 r,.int .i64 m,.int .i64 m] 118)).drew=Y:=⟨_,rfl⟩
        rw[hY];have gY:Below wr.heap.size wr Y:=by rw[← hY];go_grown
        have HY:Hid (Below wr.heap.size wr Y):=gY;have HBk:Hid (Me.Bk Y wr.heap.size r m m):=(show Me.Bk _ _ _ _ _ by rw[← hY];exact(Me.Bk.new wr r m m _).drew)
        have HzY:Hid (wr.heap.size<Y.heap.size):=(show _<_ by rw[← hY];simp)
        have HRY:Hid (Y.ownsRow W3.heap.size 61 1 (.slice va k vc) k (Q.map mqP)):=(show World.ownsRow _ _ _ _ _ _ _ by rw[← hY];first|exact(HR0.out.alloc _).drew|exact HR0.out.drew|exact HR0.out)
        have hzY:wr.heap.size≤Y.heap.size:=gY.size;clear hY gY;go_wp2_with (at_builtin;refine wpList_append_own_at _ rfl (.tmp 72) (.tmp 74) 40 rfl W3.heap.size 61 i0 (.pointer none) 1 8 underlying40 hi0 hz0 hz1 hz2 rfl (by decide) (.slice va k vc) k (Q.map mqP) rfl (HRY.out.alloc _) ⟨Y.heap.size,0,none⟩ 1 1 [.pointer (some ⟨wr.heap.size,0,none⟩)] rfl rfl (cell_one_new _ _ _) (fun u hu=>by rw[List.mem_singleton.1 hu];rfl) (by unfold maxLen;omega) (by omega) (by simp;omega) ?_;intro v5 w5 hown hgrow _ hat;obtain⟨a5,c5,rfl⟩:=own_sl hown;have H5:Hid (P3 W3 w5 (.slice a5 (k+1) c5) (Q++[(some (wr.heap.size,r,m,m))])):=(HPk.out.1.snoc (some (wr.heap.size,r,m,m)) (btr HY.out (by go_grown) (Nat.le_refl _)) (fun y hy=>by cases hy;exact⟨(HBk.out.below (by go_grown) HzY.out),HMk.out.2,Nat.le_refl _,by have:=HzY.out;simp;omega⟩) (by rw[HQk.out];exact hown) hgrow (hat.imp id (fun e g hg=>by rw[hg]at e;cases e;simp)));clear hown hgrow hat);go_roundw;case rel=>exact⟨k+1,Q++[(some (wr.heap.size,r,m,m))],a5,c5,Hk1.out,rfl,by go_num,by simp[HQk.out],(show _∧_ from⟨H5.out,by rw[HS.out,← HPk.out.2,HMk.out.1];exact List.map_append ..⟩)⟩
        case measure=>have:=Hk1.out;simp[intOf];omega
       ·have hmf:(Me.mayB r&&Me.mayB m)=false:=by simpa using hmay
        have HNw:Hid (∀ W,Calls prog 34 #[.int .i64 r,.int .i64 m] W fun x w'=>x=.returned (.tuple #[.pointer none,.int .i64 1])∧w'=W):=(show ∀ W,_ from fun W=>Me.rnew_no r m W hmf)
        have HMk:Hid (mkM (r,m)=none):=(show _=_ from if_neg hmay)
        clear hmay hmf;go_wp2_with fail;go_region_held (SM3 w.heap.size g (o+k*2) (some ⟨g,o,none⟩) ml.length mc r m) (first|exact HSM0.out|exact HSM.out _ (by go_grown)|assumption) ((go_at_call 34;refine(HNw.out _).mono ?_;rintro e w4 ⟨rfl,rfl⟩));obtain⟨Y,hY⟩:∃ Y,wr.drew=Y:=⟨_,rfl⟩
        rw[hY];have gY:Below wr.heap.size wr Y:=by rw[← hY];go_grown
        have HY:Hid (Below wr.heap.size wr Y):=gY;have HRY:Hid (Y.ownsRow W3.heap.size 61 1 (.slice va k vc) k (Q.map mqP)):=(show World.ownsRow _ _ _ _ _ _ _ by rw[← hY];first|exact(HR0.out.alloc _).drew|exact HR0.out.drew|exact HR0.out)
        have hzY:wr.heap.size≤Y.heap.size:=gY.size;clear hY gY;go_wp2_with (at_builtin;refine wpList_append_own_at _ rfl (.tmp 72) (.tmp 74) 40 rfl W3.heap.size 61 i0 (.pointer none) 1 8 underlying40 hi0 hz0 hz1 hz2 rfl (by decide) (.slice va k vc) k (Q.map mqP) rfl (HRY.out.alloc _) ⟨Y.heap.size,0,none⟩ 1 1 [.pointer none] rfl rfl (cell_one_new _ _ _) (fun u hu=>by rw[List.mem_singleton.1 hu];rfl) (by unfold maxLen;omega) (by omega) (by simp;omega) ?_;intro v5 w5 hown hgrow _ hat;obtain⟨a5,c5,rfl⟩:=own_sl hown;have H5:Hid (P3 W3 w5 (.slice a5 (k+1) c5) (Q++[none])):=(HPk.out.1.snoc none (btr HY.out (by go_grown) (Nat.le_refl _)) (fun y hy=>by cases hy) (by rw[HQk.out];exact hown) hgrow (hat.imp id (fun e g hg=>by rw[hg]at e;cases e;simp)));clear hown hgrow hat);go_roundw;case rel=>exact⟨k+1,Q++[none],a5,c5,Hk1.out,rfl,by go_num,by simp[HQk.out],(show _∧_ from⟨H5.out,by rw[HS.out,← HPk.out.2,HMk.out];exact List.map_append ..⟩)⟩
        case measure=>have:=Hk1.out;simp[intOf];omega
      ·have hkl:k=ml.length:=by omega
       obtain⟨r0,r1,r2,r3,rf⟩:=HRs.out _ HgW.out;obtain⟨Z,hZ⟩:∃ Z,(((wr.setCell ⟨w.heap.size+1,0,none⟩ (.pointer (some ⟨f,0,none⟩))).setCell ⟨w.heap.size+1,1,none⟩ (.pointer (some ⟨rb,0,none⟩))).setCell ⟨w.heap.size+1,2,none⟩ (.slice va k vc)).setCell ⟨w.heap.size+1,3,none⟩ (.slice la live.length lc)=Z:=⟨_,rfl⟩
       have oZ:Only (w.heap.size+1) wr Z:=by rw[← hZ];exact((((Only.refl _ wr).setCell 0 _).setCell 1 _).setCell 2 _).setCell 3 _
       obtain⟨y0,y1,y2,y3⟩:=s4_cells r0 r1 r2 r3 hZ;have HPt:Hid (Below w.heap.size w Z∧Dt w0 w.heap.size Z ⟨some ⟨f,0,none⟩,some ⟨rb,0,none⟩,va,k,vc,la,live.length,lc,pick⟩ f S (allFP (el.map Fe.p)) rb rv L _ W3.heap.size Q)   := dt_of Hg0.out HgV.out HzV.out HL.out.1 (by have:=HPk.out.1;rw[← hQk]at this;exact this) oZ rfl rfl rfl hQk.symm (by omega);have HMs:Hid (Q.ms=ml.map mkM):=(show _=_ by have:=HPk.out.2;rw[hkl,List.take_length]at this;exact this)
       have hge : ¬ (k:Int)<(ml.length:Int):=by omega
       clear oZ HRs hkl hQk hlt hk;go_wp2_with fail;(try simp only[Exit.inBlock,Exit.then])
       refine bodyPost_ret (v:=ptV ⟨some ⟨f,0,none⟩,some ⟨rb,0,none⟩,va,k,vc,la,live.length,lc,pick⟩) (resPd (fn:=Tryz.f11) (t:=2) (b:=w.heap.size+1) (p:=⟨some ⟨f,0,none⟩,some ⟨rb,0,none⟩,va,k,vc,la,live.length,lc,pick⟩) rfl rfl y0 y1 y2 y3) rfl ?_;exact⟨_,rfl,f,S,rb,rv,L,_,_,Q,HPt.out,HL.out.2.1,HL.out.2.2,HMs.out,rfl,rfl,rfl,rfl⟩
end Dc
end Go.Proofs.YtgnihbdcdefdgaaGreatDoor

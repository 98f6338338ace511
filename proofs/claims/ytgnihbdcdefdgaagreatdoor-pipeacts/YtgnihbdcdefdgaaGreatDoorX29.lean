import Derived.Test.YtgnihbdcdefdgaaGreatDoorX25
import Derived.Test.YtgnihbdcdefdgaaGreatDoorX28
import Derived.Maps.AppendAt
import Derived.Deep.RegionHeld
set_option maxRecDepth 20000
set_option maxHeartbeats 16000000
set_option linter.unusedSimpArgs false
set_option linter.unusedVariables false
open Go.ChangeShapes Go.WideShapes Go.ChangeAt Go.RowKit
open Go.Proofs.Tryz
namespace Go.Proofs.YtgnihbdcdefdgaaGreatDoor
structure Mi (w:World) (ea:Option Addr) (el:List Fe) (ga:Option Addr) (gl:List Gp.Gr) (ma:Option Addr) (ml:List (Int × Int)) (la:Option Addr) (live:List Bool):Prop where
 e:EnAt w ea el
 ei:∀ y∈el,FIn w y
 en:el.length≤maxLen
 g:Gp.GsAt w ga gl
 gi:∀ y∈gl,Gp.GIn w y
 gn:gl.length≤maxLen
 m:TwAt w ma ml
 mn:ml.length*16≤140737488355328
 l:Gp.Ls w la live
 ln:live.length≤maxLen
 cd:Cd w
theorem EnAt.below {w w':World} {a:Option Addr} {l:List Fe} (h:EnAt w a l) (g:Below w.heap.size w w'):EnAt w' a l:=by
 rcases h with h|⟨b,o,ha,hb,hc⟩
 ·exact .inl h
 ·exact .inr ⟨b,o,ha,Nat.lt_of_lt_of_le hb g.size,fun i hi=>(hc i hi).below hb g⟩
theorem Gp.GsAt.below {w w':World} {a:Option Addr} {l:List Gp.Gr} (h:Gp.GsAt w a l) (g:Below w.heap.size w w'):Gp.GsAt w' a l:=by
 rcases h with h|⟨b,o,ha,hb,hc⟩
 ·exact .inl h
 ·exact .inr ⟨b,o,ha,Nat.lt_of_lt_of_le hb g.size,fun i hi=>(hc i hi).below hb g⟩
theorem Gp.GIn.below {w w':World} {x:Gp.Gr} (h:Gp.GIn w x) (g:Below w.heap.size w w'):Gp.GIn w' x:=⟨h.bs.below g,h.u,h.i0,h.i1,h.cl,h.cm⟩
theorem TwAt.below {w w':World} {a:Option Addr} {l:List (Int × Int)} (h:TwAt w a l) (g:Below w.heap.size w w'):TwAt w' a l:=by
 rcases h with h|⟨b,o,ha,hb,hc⟩
 ·exact .inl h
 ·exact .inr ⟨b,o,ha,Nat.lt_of_lt_of_le hb g.size,fun i hi=>⟨(World.cell?_of_block (w:=w) (g.block b hb)).trans (hc i hi).1,(World.cell?_of_block (w:=w) (g.block b hb)).trans (hc i hi).2⟩⟩
theorem Mi.below {w w':World} {ea:Option Addr} {el:List Fe} {ga:Option Addr} {gl:List Gp.Gr} {ma:Option Addr} {ml:List (Int × Int)} {la:Option Addr} {live:List Bool} (h:Mi w ea el ga gl ma ml la live) (g:Below w.heap.size w w'):Mi w' ea el ga gl ma ml la live :=
 ⟨h.e.below g,fun y hy=>(h.ei y hy).below g,h.en,h.g.below g,fun y hy=>(h.gi y hy).below g,h.gn,h.m.below g,h.mn,h.l.below g,h.ln,h.cd.below g⟩
abbrev mdV (ea:Option Addr) (en ec:Nat) (ga:Option Addr) (gn gc:Nat) (ma:Option Addr) (mn mc:Nat) (la:Option Addr) (ln lc:Nat):Value:=.agg #[.slice ea en ec,.slice ga gn gc,.slice ma mn mc,.slice la ln lc]
abbrev mdC (ea:Option Addr) (en ec:Nat) (ga:Option Addr) (gn gc:Nat) (ma:Option Addr) (mn mc:Nat) (la:Option Addr) (ln lc:Nat):Array Value:=#[.slice ea en ec,.slice ga gn gc,.slice ma mn mc,.slice la ln lc]
def mkM (x:Int × Int):Option (Int × Int × Int):=if (Me.mayB x.1&&Me.mayB x.2)=true then some (x.1,x.2,x.2) else none
structure Pt (w0 w:World) (p:Tp) (f:Nat) (S:Nat→Prop) (P:Nat→List Fp) (tb mb:Nat) (L:List Gp.Gr) (MB:Nat→Prop) (lo:Nat) (Q:Mq):Prop where
 pf:p.f=some ⟨f,0,none⟩
 pg:p.g=some ⟨tb,0,none⟩
 fs:Fs w f S 256 P
 fb:∀ b,S b→w0.heap.size≤b∧b<lo
 tbl:Gp.Tb w tb mb 64 L
 l1:w0.heap.size≤tb∧tb<lo
 l2:w0.heap.size≤mb∧mb<lo
 l3:∀ g∈L,∀ b,Gp.InB g.a g.l b→w0.heap.size≤b∧b<lo
 sd:∀ b,S b→b≠tb∧b≠mb∧∀ g∈L,¬ Gp.InB g.a g.l b
 mo:Mo MB lo w.heap.size w p Q
 lo:w0.heap.size≤lo∧lo≤w.heap.size
 bel:Below w0.heap.size w0 w
structure P1 (V wr:World) (f:Nat) (S:Nat→Prop) (P:Nat→List Fp) (tb mb:Nat):Prop where
 fs:Fs wr f S 256 P
 fb:∀ b,S b→V.heap.size≤b∧b≠tb∧b≠mb
 tbl:Gp.Tb wr tb mb 64 []
 l1:V.heap.size≤tb
 l2:V.heap.size≤mb
 bel:Below V.heap.size V wr
theorem tb_stay {w w':World} {tb mb:Nat} {room:Int} {L:List Gp.Gr} (h:Gp.Tb w tb mb room L) (hz:w.heap.size≤w'.heap.size) (h1:w'.heap[tb]? = w.heap[tb]?) (h2:w'.heap[mb]? = w.heap[mb]?) (h3:∀ g∈L,∀ b,Gp.InB g.a g.l b→w'.heap[b]? = w.heap[b]?):Gp.Tb w' tb mb room L:=by
 refine⟨(World.cell?_of_block (w:=w) h1).trans h.c0,(World.cell?_of_block (w:=w) h1).trans h.c1,Nat.lt_of_lt_of_le h.lt hz,?_,fun g hg=>⟨(h.grp g hg).bs.stay hz (fun b hb _=>h3 g hg b hb),(h.grp g hg).sm,(h.grp g hg).ok,(h.grp g hg).ne⟩,h.srt⟩;obtain⟨es,clock,q1,q2,q3,q4⟩:=h.own;exact⟨es,clock,h2.trans q1,q2,q3,q4⟩
theorem P1.add {V wr w':World} {f:Nat} {S S':Nat→Prop} {P P':Nat→List Fp} {tb mb:Nat} (h:P1 V wr f S P tb mb) (F:Fs w' f S' 256 P') (K:Kept S wr w') (hs:∀ b,S' b→S b∨wr.heap.size≤b):P1 V w' f S' P' tb mb:=by
 have ht:=h.tbl.lt;have hm:=h.tbl.mlt;have hz:=h.bel.size;refine⟨F,fun b hb => ?_,tb_stay h.tbl K.size (K.block tb ht (fun e=>(h.fb _ e).2.1 rfl)) (K.block mb hm (fun e=>(h.fb _ e).2.2 rfl)) (fun g hg=>by cases hg),h.l1,h.l2,?_⟩
 ·rcases hs b hb with h1|h1
  ·exact h.fb b h1
  ·exact⟨by omega,by omega,by omega⟩
 ·exact h.bel.trans (K.below hz (fun k hk=>(h.fb k hk).1))
structure P2 (V wr:World) (f:Nat) (S:Nat→Prop) (P:Nat→List Fp) (tb mb:Nat) (L:List Gp.Gr):Prop where
 fs:Fs wr f S 256 P
 fb:∀ b,S b→V.heap.size≤b∧b≠tb∧b≠mb
 tbl:Gp.Tb wr tb mb 64 L
 l1:V.heap.size≤tb
 l2:V.heap.size≤mb
 l3:∀ g∈L,∀ b,Gp.InB g.a g.l b→V.heap.size≤b∧¬ S b
 bel:Below V.heap.size V wr
theorem P2.below {V wr w':World} {f:Nat} {S:Nat→Prop} {P:Nat→List Fp} {tb mb:Nat} {L:List Gp.Gr} (h:P2 V wr f S P tb mb L) (g:Below wr.heap.size wr w'):P2 V w' f S P tb mb L :=
 ⟨h.fs.below g,h.fb,h.tbl.below g,h.l1,h.l2,h.l3,btr h.bel g (Nat.le_refl _)⟩
theorem mem_putG {g x:Gp.Gr} {L:List Gp.Gr} (h:x∈Gp.putG g L):x=g∨x∈L:=by
 unfold Gp.putG at h;have hi:∀ M:List Gp.Gr,x∈Gp.insG g M→x=g∨x∈M:=by
  intro M;induction M with
  | nil=>intro h;exact .inl (List.mem_singleton.1 h)
  | cons y r ih =>
    intro h;rw[Gp.insG]at h;split at h
    ·rcases List.mem_cons.1 h with h|h
     ·exact .inl h
     ·exact .inr h
    ·rcases List.mem_cons.1 h with h|h
     ·exact .inr (h ▸ List.mem_cons_self ..)
     ·rcases ih h with h|h
      ·exact .inl h
      ·exact .inr (List.mem_cons_of_mem _ h)
 rcases hi _ h with h|h
 ·exact .inl h
 ·exact .inr (List.mem_filter.1 h).1
theorem P2.add {V wr w':World} {f:Nat} {S:Nat→Prop} {P:Nat→List Fp} {tb mb:Nat} {L:List Gp.Gr} (h:P2 V wr f S P tb mb L) (g':Gp.Gr) (T:Gp.Tb w' tb mb 64 (Gp.putG g' L)) (K:wr.grownBy w' (some mb)) (hb:∀ b,Gp.InB g'.a g'.l b→wr.heap.size≤b):P2 V w' f S P tb mb (Gp.putG g' L):=by
 obtain⟨Vv,Lv,hF,hp⟩:=h.fs;refine⟨⟨Vv,Lv,hF.below K.size (fun b hS=>K.block b (hF.lt b hS) (fun e=>(h.fb b hS).2.2 (Option.some.inj e))),hp⟩,h.fb,T,h.l1,h.l2,fun g hg b hi => ?_,?_⟩
 ·rcases mem_putG hg with rfl|hg
  ·exact⟨by have:=hb b hi;have:=h.bel.size;omega,fun e=>by have:=hb b hi;have:=hF.lt b e;omega⟩
  ·exact h.l3 g hg b hi
 ·exact h.bel.trans ⟨K.os,K.tape,K.output,K.size,fun k hk=>K.block k (by have:=h.bel.size;omega) (fun e=>by have:=h.l2;have:=Option.some.inj e;omega)⟩
structure P3 (W wr:World) (v:Value) (Q:Mq):Prop where
 row:wr.ownsRow W.heap.size 58 1 v Q.length (Q.map mqP)
 bel:Below W.heap.size W wr
 bk:∀ i (h:i<Q.length) y,Q[i]=some y→Me.Bk wr y.1 y.2.1 y.2.2.1 y.2.2.2∧Me.Fit y.2.1 y.2.2.1 y.2.2.2∧W.heap.size≤y.1∧y.1<wr.heap.size∧v.ownBlock≠some y.1
 ap:∀ i j (h1:i<Q.length) (h2:j<Q.length) y z,Q[i]=some y→Q[j]=some z→y.1=z.1→i=j
theorem snoc_get {α:Type} (l:List α) (x:α) (i:Nat) (h:i<(l++[x]).length):(∃ h':i<l.length,(l++[x])[i]=l[i])∨(i=l.length∧(l++[x])[i]=x):=by
 by_cases hi:i<l.length
 ·exact .inl ⟨hi,List.getElem_append_left hi⟩
 ·have:i=l.length:=by simp at h;omega
  subst this;exact .inr ⟨rfl,by simp⟩
theorem P3.snoc {W wr X w':World} {v v':Value} {Q:Mq} (h:P3 W wr v Q) (q:Option (Nat × (Int × Int × Int))) (gX:Below wr.heap.size wr X) (hq:∀ y,q=some y→Me.Bk X y.1 y.2.1 y.2.2.1 y.2.2.2∧Me.Fit y.2.1 y.2.2.1 y.2.2.2∧wr.heap.size≤y.1∧y.1<X.heap.size)
 (R:w'.ownsRow W.heap.size 58 1 v' (Q.length+1) (Q.map mqP++[mqP q])) (G:X.grownBy w' v.ownBlock) (F:v'.ownBlock=v.ownBlock∨∀ g,v'.ownBlock=some g→X.heap.size≤g):P3 W w' v' (Q++[q]):=by
 have hl:(Q++[q]).length=Q.length+1:=by simp
 have hz:=gX.size;have hz2:=G.size;have own:∀ g,v.ownBlock=some g→W.heap.size≤g∧g<wr.heap.size:=fun g hg=>h.row.lt g hg;have kb:∀ b,b<wr.heap.size→v.ownBlock≠some b→w'.heap[b]? = wr.heap[b]?:=fun b hb hv=>(G.block b (by omega) (fun e=>hv e.symm)).trans (gX.block b hb);refine⟨by rw[hl,List.map_append];exact R,?_,?_,?_⟩
 ·exact h.bel.trans ⟨G.os.trans gX.os,G.tape.trans gX.tape,G.output.trans gX.output,by omega,fun b hb=>kb b (by have:=h.bel.size;omega) (fun e=>by have:=(own b e).1;omega)⟩
 ·intro i hi y hy;rcases snoc_get Q q i hi with⟨hi',e⟩|⟨hi',e⟩
  ·rw[e]at hy;obtain⟨h1,h2,h3,h4,h5⟩:=h.bk i hi' y hy;have eb:=kb y.1 h4 h5;refine⟨⟨(World.cell?_of_block (w:=wr) eb).trans h1.c0,(World.cell?_of_block (w:=wr) eb).trans h1.c1,(World.cell?_of_block (w:=wr) eb).trans h1.c2,(World.frozen?_of_block (w:=wr) eb).trans h1.f2⟩,h2,h3,by omega,?_⟩;rcases F with F|F
   ·rw[F];exact h5
   ·intro hg;have:=F _ hg;omega
  ·rw[e]at hy;obtain⟨h1,h2,h3,h4⟩:=hq y hy;have hv:v.ownBlock≠some y.1:=fun hg=>by have:=(own _ hg).2;omega
   have eb:w'.heap[y.1]? = X.heap[y.1]?:=G.block y.1 h4 (fun e=>hv e.symm);refine⟨⟨(World.cell?_of_block (w:=X) eb).trans h1.c0,(World.cell?_of_block (w:=X) eb).trans h1.c1,(World.cell?_of_block (w:=X) eb).trans h1.c2,(World.frozen?_of_block (w:=X) eb).trans h1.f2⟩,h2,by have:=h.bel.size;omega,by omega,?_⟩;rcases F with F|F
   ·rw[F];exact hv
   ·intro hg;have:=F _ hg;omega
 ·intro i j h1 h2 y z hy hz' e;rcases snoc_get Q q i h1 with⟨i',e1⟩|⟨i',e1⟩<;>rcases snoc_get Q q j h2 with⟨j',e2⟩|⟨j',e2⟩
  ·rw[e1]at hy;rw[e2]at hz';exact h.ap i j i' j' y z hy hz' e
  ·rw[e1]at hy;rw[e2]at hz';have a1:=(h.bk i i' y hy).2.2.2.1;have a2:=(hq z hz').2.2.1;omega
  ·rw[e1]at hy;rw[e2]at hz';have a1:=(h.bk j j' z hz').2.2.2.1;have a2:=(hq y hy).2.2.1;omega
  ·omega
abbrev SM3 (b g o:Nat) (ma:Option Addr) (mn mc:Nat) (r m:Int) (w:World):Prop:=w.cell? ⟨b,2,none⟩=some (.slice ma mn mc)∧w.cell? ⟨g,o,none⟩=some (.int .i64 r)∧w.cell? ⟨g,o+1,none⟩=some (.int .i64 m)
theorem infoPb:(prog.info? 58).map (fun i=>(i.zero,i.size,i.bytes))=some (some (.pointer none),1,8):=by kernel_rfl
theorem resP {fn:Func} {t u:Tmp} (h:fn.results=#[.cell t 33,.tmp u]) {tmps:Array Value} {w:World} {b:Nat} {p:Tp} (ht:tmps.getD t undef=.pointer (some ⟨b,0,none⟩))
 (h0:w.cell? ⟨b,0,none⟩=some (.pointer p.f)) (h1:w.cell? ⟨b,1,none⟩=some (.pointer p.g)) (h2:w.cell? ⟨b,2,none⟩=some (.slice p.ma p.mn p.mc)) (h3:w.cell? ⟨b,3,none⟩=some (.slice p.la p.ln p.lc)) :
 (results fn tmps).run prog w=.ok (.tuple #[ptV p,tmps.getD u undef]) w:=by
 have ht':tmps[t]?.getD undef=.pointer (some ⟨b,0,none⟩):=by simpa using ht
 have hl:(loadVar 33 ⟨b,0,none⟩).run prog w=.ok (ptV p) w:=by simp[go_sem, *]
 simp[results,h,ht',asAddr,hl]
theorem pt_of {w V W3 wr Z:World} {f:Nat} {S:Nat→Prop} {P:Nat→List Fp} {tb mb:Nat} {L:List Gp.Gr} {va:Option Addr} {vc:Nat} {Q:Mq} {p:Tp} (gV:Below w.heap.size w V) (zV:V.heap.size=w.heap.size+2) (h2:P2 V W3 f S P tb mb L) (h3:P3 W3 wr (.slice va Q.length vc) Q) (o:Only (w.heap.size+1) wr Z)
 (pf:p.f=some ⟨f,0,none⟩) (pg:p.g=some ⟨tb,0,none⟩) (pa:p.ma=va) (pn:p.mn=Q.length) (hn:Q.length≤9223372036854775807) :
 Pt w Z p f S P tb mb L (fun b=>∃ (i:Nat) (h:i<Q.length) (y:Nat × (Int × Int × Int)),Q[i]=some y∧y.1=b) W3.heap.size Q:=by
 have zz:Z.heap.size=wr.heap.size:=o.size;have z3:=h3.bel.size;have z2:=h2.bel.size;have kb:∀ b,V.heap.size≤b→b<W3.heap.size→Z.heap[b]? = W3.heap[b]?:=fun b h1 h4=>(o.block b (by omega)).trans (h3.bel.block b h4);have kz:∀ b,V.heap.size≤b→Z.heap[b]? = wr.heap[b]?:=fun b h1=>o.block b (by omega);have ht:=h2.tbl.lt;have hm:=h2.tbl.mlt;have hS:=h2.fs.lt;have own:∀ g,(Value.slice va Q.length vc).ownBlock=some g→W3.heap.size≤g∧g<wr.heap.size:=fun g hg=>h3.row.lt g hg;obtain⟨Vv,Lv,hF,hp⟩:=h2.fs;have hB:∀ g∈L,∀ b,Gp.InB g.a g.l b→b<W3.heap.size:=fun g hg b hb=>(h2.tbl.grp g hg).bs.lt hb;refine⟨pf,pg,⟨Vv,Lv,hF.below (by omega) (fun b hb=>kb b (h2.fb b hb).1 (hS b hb)),hp⟩,fun b hb=>⟨by have:=(h2.fb b hb).1;omega,hS b hb⟩,tb_stay h2.tbl (by omega) (kb tb h2.l1 ht) (kb mb h2.l2 hm) (fun g hg b hb=>kb b (h2.l3 g hg b hb).1 (hB g hg b hb)),⟨by have:=h2.l1;omega,ht⟩,⟨by have:=h2.l2;omega,hm⟩,fun g hg b hb=>⟨by have:=(h2.l3 g hg b hb).1;omega,hB g hg b hb⟩,fun b hb=>⟨(h2.fb b hb).2.1,(h2.fb b hb).2.2,fun g hg hi=>(h2.l3 g hg b hi).2 hb⟩,⟨pn,hn,?_,?_,?_,h3.ap⟩,⟨by omega,by omega⟩,?_⟩
 ·rcases h3.row.2 with⟨h1,h4⟩|⟨g,cap,cur,h1,hbg,hgg,hnc,hcm,hcs,htk⟩
  ·exact .inl (List.length_eq_zero_iff.1 h4)
  ·have hv:va=some ⟨g,0,none⟩:=by simp only[Value.slice.injEq]at h1;exact h1.1
   have ho:=own g (by rw[hv];rfl);refine .inr ⟨g,0,by rw[pa,hv],by omega,⟨ho.1,?_⟩,fun i hi => ?_⟩
   ·rintro⟨i,hi,y,hy,e⟩;have:=(h3.bk i hi y hy).2.2.2.2;rw[e,hv]at this;exact this rfl
   ·rw[Nat.zero_add,World.cell?_of_block (w:=wr) (kz g (by omega))];have hr:=h3.row;rw[hv]at hr;rw[hr.cellAt i (by omega)];simp[hi]
 ·intro i hi y hy;obtain⟨b1,b2,b3,b4,b5⟩:=h3.bk i hi y hy;have eb:=kz y.1 (by omega);exact⟨⟨(World.cell?_of_block (w:=wr) eb).trans b1.c0,(World.cell?_of_block (w:=wr) eb).trans b1.c1,(World.cell?_of_block (w:=wr) eb).trans b1.c2,(World.frozen?_of_block (w:=wr) eb).trans b1.f2⟩,b2,⟨i,hi,y,hy,rfl⟩⟩
 ·rintro b ⟨i,hi,y,hy,rfl⟩;obtain⟨b1,b2,b3,b4,b5⟩:=h3.bk i hi y hy;exact⟨b3,by omega⟩
 ·have g1:Below w.heap.size w wr:=(gV.trans (h2.bel.mono gV.size)).trans (h3.bel.mono (by omega));exact o.below (by omega) g1
theorem s4_cells {w:World} {b:Nat} {x y z u p q r s:Value} (h0:w.cell? ⟨b,0,none⟩=some p) (h1:w.cell? ⟨b,1,none⟩=some q) (h2:w.cell? ⟨b,2,none⟩=some r) (h3:w.cell? ⟨b,3,none⟩=some s) {Z:World}
 (hZ:(((w.setCell ⟨b,0,none⟩ x).setCell ⟨b,1,none⟩ y).setCell ⟨b,2,none⟩ z).setCell ⟨b,3,none⟩ u=Z):Z.cell? ⟨b,0,none⟩=some x∧Z.cell? ⟨b,1,none⟩=some y∧Z.cell? ⟨b,2,none⟩=some z∧Z.cell? ⟨b,3,none⟩=some u:=by
 subst hZ;refine⟨?_,?_,?_,?_⟩
 ·rw[World.cell?_setCell_other _ _ _ _ (by simp),World.cell?_setCell_other _ _ _ _ (by simp),World.cell?_setCell_other _ _ _ _ (by simp)];exact World.cell?_setCell_same _ _ _ h0
 ·rw[World.cell?_setCell_other _ _ _ _ (by simp),World.cell?_setCell_other _ _ _ _ (by simp)];exact World.cell?_setCell_same _ _ _ ((World.cell?_setCell_other _ _ _ _ (by simp)).trans h1)
 ·rw[World.cell?_setCell_other _ _ _ _ (by simp)];exact World.cell?_setCell_same _ _ _ ((World.cell?_setCell_other _ _ _ _ (by simp)).trans ((World.cell?_setCell_other _ _ _ _ (by simp)).trans h2))
 ·exact World.cell?_setCell_same _ _ _ ((World.cell?_setCell_other _ _ _ _ (by simp)).trans ((World.cell?_setCell_other _ _ _ _ (by simp)).trans ((World.cell?_setCell_other _ _ _ _ (by simp)).trans h3)))
theorem take_snoc_map {α β:Type} (h:α→β) (l:List α) (k:Nat) (hk:k<l.length):(l.take (k+1)).map h=(l.take k).map h++[h l[k]]:=by
 rw[List.take_succ_eq_append_getElem hk,List.map_append];rfl
def PtR (w w':World) (P:Nat→List Fp) (G:List G3) (M:Ms) (la:Option Addr) (ln lc:Nat) (pick:Int) (p:Tp):Prop :=
 ∃ f S tb mb L MB lo Q,Pt w w' p f S P tb mb L MB lo Q∧L.map Gp.Gr.p=G∧Mq.ms Q=M∧p.la=la∧p.ln=ln∧p.lc=lc∧p.pick=pick
theorem parts_any (ea:Option Addr) (el:List Fe) (ec:Nat) (ga:Option Addr) (gl:List Gp.Gr) (gc:Nat) (ma:Option Addr) (ml:List (Int × Int)) (mc:Nat) (la:Option Addr) (live:List Bool) (lc:Nat) (pick:Int) (w:World) (I:Mi w ea el ga gl ma ml la live) :
 Calls prog 8 #[mdV ea el.length ec ga gl.length gc ma ml.length mc la live.length lc] w fun e w'=>∃ p,e=.returned (.tuple #[ptV p,.bool true])∧PtR w w' (allFP (el.map Fe.p)) (Gp.allGP (gl.map Gp.Gr.p)) (ml.map mkM) la live.length lc pick p:=by
 obtain⟨V,hV⟩:∃ V,(w.alloc (.cells (mdC ea el.length ec ga gl.length gc ma ml.length mc la live.length lc) 27)).alloc (.cells #[.pointer none,.pointer none,.slice none 0 0,.slice none 0 0] 33)=V:=⟨_,rfl⟩
 have gV:Below w.heap.size w V:=by rw[← hV];go_grown
 have zV:V.heap.size=w.heap.size+2:=by rw[← hV];simp
 have HI:Hid (Mi V ea el ga gl ma ml la live):=I.below gV;have HgV:Hid (Below w.heap.size w V):=gV;have hc:V.cell? ⟨w.heap.size,0,none⟩=some (.slice ea el.length ec)∧V.cell? ⟨w.heap.size,1,none⟩=some (.slice ga gl.length gc)∧V.cell? ⟨w.heap.size,2,none⟩=some (.slice ma ml.length mc)∧V.cell? ⟨w.heap.size,3,none⟩=some (.slice la live.length lc):=by rw[← hV];simp
 have hr:V.cell? ⟨w.heap.size+1,0,none⟩=some (.pointer none)∧V.cell? ⟨w.heap.size+1,1,none⟩=some (.pointer none)∧V.cell? ⟨w.heap.size+1,2,none⟩=some (.slice none 0 0)∧V.cell? ⟨w.heap.size+1,3,none⟩=some (.slice none 0 0)∧∀ o,V.frozen? ⟨w.heap.size+1,o,none⟩=false:=by rw[← hV];simp
 have HC:Hid (∀ W,Below V.heap.size V W→W.cell? ⟨w.heap.size,0,none⟩=some (.slice ea el.length ec)∧W.cell? ⟨w.heap.size,1,none⟩=some (.slice ga gl.length gc)∧W.cell? ⟨w.heap.size,2,none⟩=some (.slice ma ml.length mc)∧W.cell? ⟨w.heap.size,3,none⟩=some (.slice la live.length lc)):=(show ∀ W,_ from fun W g=>by
  have e:∀ o,W.cell? ⟨w.heap.size,o,none⟩=V.cell? ⟨w.heap.size,o,none⟩:=fun o=>g.cell (p:=⟨w.heap.size,o,none⟩) (by show w.heap.size<V.heap.size;omega);rw[e,e,e,e];exact hc)
 have HRs:Hid (∀ W,Below V.heap.size V W→W.cell? ⟨w.heap.size+1,0,none⟩=some (.pointer none)∧W.cell? ⟨w.heap.size+1,1,none⟩=some (.pointer none)∧W.cell? ⟨w.heap.size+1,2,none⟩=some (.slice none 0 0)∧W.cell? ⟨w.heap.size+1,3,none⟩=some (.slice none 0 0)∧∀ o,W.frozen? ⟨w.heap.size+1,o,none⟩=false):=(show ∀ W,_ from fun W g=>by
  have e:∀ o,W.cell? ⟨w.heap.size+1,o,none⟩=V.cell? ⟨w.heap.size+1,o,none⟩:=fun o=>g.cell (p:=⟨w.heap.size+1,o,none⟩) (by show w.heap.size+1<V.heap.size;omega);have f:∀ o,W.frozen? ⟨w.heap.size+1,o,none⟩=V.frozen? ⟨w.heap.size+1,o,none⟩:=fun o=>g.frozen (p:=⟨w.heap.size+1,o,none⟩) (by show w.heap.size+1<V.heap.size;omega);rw[e,e,e,e];exact⟨hr.1,hr.2.1,hr.2.2.1,hr.2.2.2.1,fun o=>by rw[f];exact hr.2.2.2.2 o⟩)
 have HV:Hid ((w.alloc (.cells (mdC ea el.length ec ga gl.length gc ma ml.length mc la live.length lc) 27)).alloc (.cells #[.pointer none,.pointer none,.slice none 0 0,.slice none 0 0] 33)=V):=hV;have HNf:Hid _:=new_yes 256 V (by omega) (by omega) HI.out.cd;have hen:(el.length:Int)≤9223372036854775807:=by have:=HI.out.en;unfold maxLen at this;omega
 have hgn:(gl.length:Int)≤9223372036854775807:=by have:=HI.out.gn;unfold maxLen at this;omega
 have hmn:(ml.length:Int)≤9223372036854775807:=by have:=HI.out.mn;omega
 have HzV:Hid (V.heap.size=w.heap.size+2):=zV;clear I gV zV hc hr hV;go_enter func8,ntmps8;go_wp2_with fail;rw[HV.out];refine Calls.mono HNf.out ?_;rintro e w1 ⟨rfl,F1,g1⟩;obtain⟨f,hf⟩:∃ f,f=V.heap.size:=⟨_,rfl⟩
 rw[← hf]at F1 ⊢;have Hf:Hid (f=V.heap.size):=hf;clear hf;have HNg:Hid _:=Gp.new_yes 64 w1 (by decide);have HF1:Hid (Fs w1 f (fun b=>b=f) 256 (fun _=>[])∧Below V.heap.size V w1):=(show _∧_ from⟨F1,g1⟩)
 clear F1 g1 HNf HV;go_wp2_with fail;refine Calls.mono HNg.out ?_;rintro e w2 ⟨rfl,T2,g2⟩;have HP:Hid (P1 V w2 f (fun b=>b=f) (fun _=>[]) (w1.heap.size+1) w1.heap.size):=(show P1 _ _ _ _ _ _ _ from by
  obtain⟨F1,g1⟩:=HF1.out;have hl:=F1.lt f rfl;have hf:=Hf.out;have hz:=g1.size;exact⟨F1.below g2,fun b hb=>by subst hb;exact⟨by omega,by omega,by omega⟩,T2,by omega,by omega,btr g1 g2 (Nat.le_refl _)⟩)
 obtain⟨tb,htb⟩:∃ tb,tb=w1.heap.size+1:=⟨_,rfl⟩
 obtain⟨mb,hmb⟩:∃ mb,mb=w1.heap.size:=⟨_,rfl⟩
 have HP':Hid (P1 V w2 f (fun b=>b=f) (fun _=>[]) tb mb):=(show P1 _ _ _ _ _ _ _ from by rw[htb,hmb];exact HP.out)
 rw[show Gp.ptr (w1.heap.size+1)=.pointer (some ⟨tb,0,none⟩)by rw[htb]];clear T2 g2 HNg HF1 htb hmb HP;go_wp2_with fail;go_loopw [8] (fun i wr=>∃ (k:Nat) (S:Nat→Prop),k≤el.length∧i=.int .i64 k∧Hid (P1 V wr f S (allFP ((el.take k).map Fe.p)) tb mb)) (fun i _=>el.length-(intOf i).toNat);case atStart=>exact⟨0,_,Nat.zero_le _,rfl,HP'⟩
 case round =>
  clear HP';obtain⟨k,S,hk,rfl,HPk⟩:=hrel;obtain⟨c0,c1,c2,c3⟩:=HC.out _ HPk.out.bel;by_cases hlt:k<el.length
  ·have hltI:(k:Int)<(el.length:Int):=by omega
   obtain⟨g,o,ha,hg,hcl⟩:∃ g o,ea=some ⟨g,o,none⟩∧g<V.heap.size∧∀ i (h:i<el.length),Be V g (o+i*10) el[i]:=by
    rcases HI.out.e with e|h
    ·rw[e]at hlt;cases hlt
    ·exact h
   have HBe:Hid (Be wr g (o+k*10) el[k]):=(hcl k hlt).below hg HPk.out.bel;have HFi:Hid (FIn V el[k]):=HI.out.ei _ (List.getElem_mem hlt);have HS:Hid (allFP ((el.take (k+1)).map Fe.p)=addT 256 (allFP ((el.take k).map Fe.p)) el[k].p false):=(show _=_ by rw[take_snoc_map Fe.p el k hlt,allFP_snoc])
   have HAd:Hid _:=add_any f S 256 (allFP ((el.take k).map Fe.p)) el[k] false wr HPk.out.fs (HFi.out.below HPk.out.bel).fb (HI.out.cd.below HPk.out.bel);have Hk1:Hid (k+1≤el.length):=hlt;generalize el[k]=x at *
   subst ha;clear hcl;go_wp2_with (refine load_E rfl (.tmp 48) rfl g (o+k*10) x rfl HBe.out ?_);refine Calls.mono HAd.out ?_;rintro e w3 ⟨rfl,S',F3,K3,hs3⟩;have HP3:Hid (P1 V w3 f S' (allFP ((el.take (k+1)).map Fe.p)) tb mb):=(show P1 _ _ _ _ _ _ _ from by rw[HS.out];exact HPk.out.add F3 K3 hs3)
   clear F3 K3 hs3;go_wp2_with fail;go_roundw;case rel=>exact⟨k+1,S',Hk1.out,by go_num,HP3⟩
   case measure=>have:=Hk1.out;simp[intOf];omega
  ·have hkl:k=el.length:=by omega
   have HP0:Hid (P2 V wr f S (allFP (el.map Fe.p)) tb mb []∧([]:List Gp.Gr).map Gp.Gr.p=Gp.allGP (([]:List Gp.Gr).map Gp.Gr.p)):=(show _∧_ from by
    have h:=HPk.out;rw[hkl,List.take_length]at h;exact⟨⟨h.fs,h.fb,h.tbl,h.l1,h.l2,fun g hg=>(by cases hg),h.bel⟩,rfl⟩)
   clear HPk;go_wp2_with fail;clear c0 c1 c2 c3 hlt hk hkl;go_loopw [9] (fun i wr=>∃ (k:Nat) (L:List Gp.Gr),k≤gl.length∧i=.int .i64 k∧Hid (P2 V wr f S (allFP (el.map Fe.p)) tb mb L∧L.map Gp.Gr.p=Gp.allGP ((gl.take k).map Gp.Gr.p))) (fun i _=>gl.length-(intOf i).toNat);case atStart=>exact⟨0,[],Nat.zero_le _,rfl,HP0⟩
   case round =>
    clear HP0;obtain⟨k,L,hk,rfl,HPk⟩:=hrel;obtain⟨c0,c1,c2,c3⟩:=HC.out _ HPk.out.1.bel;have hLl:L.length≤64:=by
     have:=congrArg List.length HPk.out.2;have h2:=Gp.allGP_len ((gl.take k).map Gp.Gr.p);simp only[List.length_map]at this;omega
    by_cases hlt:k<gl.length
    ·have hltI:(k:Int)<(gl.length:Int):=by omega
     obtain⟨g,o,ha,hg,hcl⟩:∃ g o,ga=some ⟨g,o,none⟩∧g<V.heap.size∧∀ i (h:i<gl.length),Gp.Cg V g (o+i*3) gl[i]:=by
      rcases HI.out.g with e|h
      ·rw[e]at hlt;cases hlt
      ·exact h
     obtain⟨d0,d1,d2⟩:=(hcl k hlt).below hg HPk.out.1.bel;have HGi:Hid (Gp.GIn wr gl[k]):=(HI.out.gi _ (List.getElem_mem hlt)).below HPk.out.1.bel;have HS:Hid (Gp.allGP ((gl.take (k+1)).map Gp.Gr.p)=Gp.addGP 64 (Gp.allGP ((gl.take k).map Gp.Gr.p)) gl[k].p):=(show _=_ by rw[take_snoc_map Gp.Gr.p gl k hlt,Gp.allGP_snoc])
     have Hk1:Hid (k+1≤gl.length):=hlt;generalize gl[k]=x at *
     have HAd:Hid (Calls prog 28 #[.pointer (some ⟨tb,0,none⟩),Gp.gV x] wr fun e w'=>∃ er,e=.returned (.int .i64 er)∧Hid (∃ L',P2 V w' f S (allFP (el.map Fe.p)) tb mb L'∧L'.map Gp.Gr.p=Gp.allGP ((gl.take (k+1)).map Gp.Gr.p))):=(show Calls _ _ _ _ _ from by
      have hxn:x.l.length≤9223372036854775807:=by have:=HGi.out.cl;have:=HGi.out.cm;omega
      have hnone:∀ w',Below wr.heap.size wr w'→Gp.addEP 64 (L.map Gp.Gr.p) x.p≠0→∃ L',P2 V w' f S (allFP (el.map Fe.p)) tb mb L'∧L'.map Gp.Gr.p=Gp.allGP ((gl.take (k+1)).map Gp.Gr.p):=fun w' gb hne=>by
       refine⟨L,HPk.out.1.below gb,?_⟩;rw[HS.out,← HPk.out.2];unfold Gp.addGP;rw[if_neg hne]
      by_cases hsm:Gp.Sm x.l
      ·refine(Gp.add_any x wr HPk.out.1.tbl HGi.out.bs hsm (HI.out.cd.below HPk.out.1.bel) HGi.out.i0 HGi.out.i1 hLl).mono ?_;rintro e w' ⟨rfl,h1,h2⟩;refine⟨_,rfl,?_⟩;rw[Gp.addE_p]at h1 h2;by_cases h0:Gp.addEP 64 (L.map Gp.Gr.p) x.p=0
       ·obtain⟨g',hp,hT,hgr,_,hb⟩:=h2 h0;refine(show ∃ L',_ from⟨Gp.putG g' L,HPk.out.1.add g' hT hgr hb,?_⟩);rw[Gp.put_p,HS.out,← HPk.out.2,hp];unfold Gp.addGP;rw[if_pos h0]
       ·exact hnone w' (h1 h0) h0
      ·refine(Gp.add_big x wr HGi.out.bs hxn hsm).mono ?_;rintro e w' ⟨rfl,gb⟩;refine⟨_,rfl,hnone w' gb ?_⟩;have:=(Gp.big_right hsm).2;unfold Gp.addEP;rw[if_pos (by rw[this];decide),this];decide)
     obtain⟨xi,xk,xa,xl,xc⟩:=x;subst ha;clear hcl HS HGi hLl;simp only at d0 d1 d2 HAd;go_wp2_with fail;refine Calls.mono HAd.out ?_;rintro e w3 ⟨er,rfl,HY⟩;go_wp2_with fail;go_roundw;case rel=>obtain⟨L',hL'⟩:=HY.out;exact⟨k+1,L',Hk1.out,by go_num,hL'⟩
     case measure=>have:=Hk1.out;simp[intOf];omega
    ·have hkl:k=gl.length:=by omega
     obtain⟨W3,hW3⟩:∃ W3,W3=wr:=⟨_,rfl⟩
     have HL:Hid (P2 V W3 f S (allFP (el.map Fe.p)) tb mb L∧L.map Gp.Gr.p=Gp.allGP (gl.map Gp.Gr.p)):=(show _∧_ from by
      have h:=HPk.out;rw[hkl,List.take_length,← hW3]at h;exact h)
     have H30:Hid (P3 W3 wr (.slice none 0 0) []∧Mq.ms []=([]:List (Int × Int)).map mkM):=(show _∧_ from⟨⟨World.ownsRow_nil _ _ _ _,by rw[hW3];exact Below.refl _ _,fun i h=>absurd h (by simp),fun i j h=>absurd h (by simp)⟩,rfl⟩)
     clear HPk hW3;go_wp2_with fail;clear c0 c1 c2 c3 hlt hk hkl hLl;go_loopw [10,11] (fun vl i wr=>∃ (k:Nat) (Q:Mq) (va:Option Addr) (vc:Nat),k≤ml.length∧vl=.slice va k vc∧i=.int .i64 k∧Q.length=k∧Hid (P3 W3 wr (.slice va k vc) Q∧Q.ms=(ml.take k).map mkM)) (fun _ i _=>ml.length-(intOf i).toNat);case atStart=>exact⟨0,[],none,0,Nat.zero_le _,rfl,rfl,rfl,H30⟩
     case round =>
      clear H30;obtain⟨k,Q,va,vc,hk,rfl,rfl,hQk,HPk⟩:=hrel;have HgW:Hid (Below V.heap.size V wr):=HL.out.1.bel.trans (HPk.out.1.bel.mono HL.out.1.bel.size);obtain⟨c0,c1,c2,c3⟩:=HC.out _ HgW.out;by_cases hlt:k<ml.length
      ·have hltI:(k:Int)<(ml.length:Int):=by omega
       obtain⟨g,o,ha,hg,hcl⟩:∃ g o,ma=some ⟨g,o,none⟩∧g<V.heap.size∧∀ i (h:i<ml.length),V.cell? ⟨g,o+i*2,none⟩=some (.int .i64 ml[i].1)∧V.cell? ⟨g,o+i*2+1,none⟩=some (.int .i64 ml[i].2):=by
        rcases HI.out.m with e|h
        ·rw[e]at hlt;cases hlt
        ·exact h
       have HS:Hid ((ml.take (k+1)).map mkM=(ml.take k).map mkM++[mkM ml[k]]):=take_snoc_map mkM ml k hlt;have Hk1:Hid (k+1≤ml.length):=hlt;obtain⟨q1,q2⟩:=hcl k hlt;have HmN:Hid (ml.length*16≤140737488355328):=HI.out.mn;generalize ml[k]=x at *
       obtain⟨r,m⟩:=x;simp only at q1 q2;subst ha;have HSM:Hid (∀ W,Below wr.heap.size wr W→SM3 w.heap.size g (o+k*2) (some ⟨g,o,none⟩) ml.length mc r m W):=(show ∀ W,_ from fun W gW=>by
        have gg:=HgW.out.trans (gW.mono HgW.out.size);have e:∀ o,W.cell? ⟨g,o,none⟩=V.cell? ⟨g,o,none⟩:=fun o=>gg.cell (p:=⟨g,o,none⟩) hg;exact⟨(HC.out W gg).2.2.1,(e _).trans q1,(e _).trans q2⟩)
       have HSM0:Hid (SM3 w.heap.size g (o+k*2) (some ⟨g,o,none⟩) ml.length mc r m wr):=HSM.out wr (Below.refl _ _);obtain⟨i0,hi0,hz0,hz1,hz2⟩:=info_parts infoPb;have hbyt:(k+1)*8≤140737488355328:=by have:=HmN.out;have:=Hk1.out;omega
       have HQk:Hid (Q.length=k):=hQk;have HR0:Hid (wr.ownsRow W3.heap.size 58 1 (.slice va k vc) k (Q.map mqP)):=(show World.ownsRow _ _ _ _ _ _ _ by have:=HPk.out.1.row;rw[HQk.out]at this;exact this)
       have hzW:W3.heap.size≤wr.heap.size:=HPk.out.1.bel.size;clear q1 q2 hcl hQk c0 c1 c3;by_cases hmay:(Me.mayB r&&Me.mayB m)=true
       ·have hm1:Me.mayB r=true∧Me.mayB m=true:=by simpa using hmay
        have HNw:Hid (∀ W,Calls prog 29 #[.int .i64 r,.int .i64 m] W fun x w'=>x=.returned (.tuple #[.pointer (some ⟨W.heap.size,0,none⟩),.int .i64 0])∧w'=W.alloc (.cells #[.int .i64 r,.int .i64 m,.int .i64 m] 116)):=(show ∀ W,_ from fun W=>Me.new_yes r m W hm1.1 hm1.2)
        have HMk:Hid (mkM (r,m)=some (r,m,m)∧Me.Fit r m m):=(show _∧_ from⟨if_pos hmay,by
         have h1:=hm1.1;have h2:=hm1.2;unfold Me.mayB at h1 h2;simp at h1 h2;exact⟨h1.1,h1.2,h2.1,by omega,h2.2⟩⟩)
        clear hmay hm1;go_wp2_with fail;go_region_held (SM3 w.heap.size g (o+k*2) (some ⟨g,o,none⟩) ml.length mc r m) (first|exact HSM0.out|exact HSM.out _ (by go_grown)|assumption) ((go_at_call 29;refine(HNw.out _).mono ?_;rintro e w4 ⟨rfl,rfl⟩));obtain⟨Y,hY⟩:∃ Y,(wr.alloc (.cells #[.int .i64 r,.int .i64 m,.int .i64 m] 116)).drew=Y:=⟨_,rfl⟩
        rw[hY];have gY:Below wr.heap.size wr Y:=by rw[← hY];go_grown
        have HY:Hid (Below wr.heap.size wr Y):=gY;have HBk:Hid (Me.Bk Y wr.heap.size r m m):=(show Me.Bk _ _ _ _ _ by rw[← hY];exact(Me.Bk.new wr r m m _).drew)
        have HzY:Hid (wr.heap.size<Y.heap.size):=(show _<_ by rw[← hY];simp)
        have HRY:Hid (Y.ownsRow W3.heap.size 58 1 (.slice va k vc) k (Q.map mqP)):=(show World.ownsRow _ _ _ _ _ _ _ by rw[← hY];first|exact(HR0.out.alloc _).drew|exact HR0.out.drew|exact HR0.out)
        have hzY:wr.heap.size≤Y.heap.size:=gY.size;clear hY gY;go_wp2_with (at_builtin;refine wpList_append_own_at _ rfl (.tmp 88) (.tmp 90) 31 rfl W3.heap.size 58 i0 (.pointer none) 1 8 underlying31 hi0 hz0 hz1 hz2 rfl (by decide) (.slice va k vc) k (Q.map mqP) rfl (HRY.out.alloc _) ⟨Y.heap.size,0,none⟩ 1 1 [.pointer (some ⟨wr.heap.size,0,none⟩)] rfl rfl (cell_one_new _ _ _) (fun u hu=>by rw[List.mem_singleton.1 hu];rfl) (by unfold maxLen;omega) (by omega) (by simp;omega) ?_;intro v5 w5 hown hgrow _ hat;obtain⟨a5,c5,rfl⟩:=own_sl hown;have H5:Hid (P3 W3 w5 (.slice a5 (k+1) c5) (Q++[(some (wr.heap.size,r,m,m))])):=(HPk.out.1.snoc (some (wr.heap.size,r,m,m)) (btr HY.out (by go_grown) (Nat.le_refl _)) (fun y hy=>by cases hy;exact⟨(HBk.out.below (by go_grown) HzY.out),HMk.out.2,Nat.le_refl _,by have:=HzY.out;simp;omega⟩) (by rw[HQk.out];exact hown) hgrow (hat.imp id (fun e g hg=>by rw[hg]at e;cases e;simp)));clear hown hgrow hat);go_roundw;case rel=>exact⟨k+1,Q++[(some (wr.heap.size,r,m,m))],a5,c5,Hk1.out,rfl,by go_num,by simp[HQk.out],(show _∧_ from⟨H5.out,by rw[HS.out,← HPk.out.2,HMk.out.1];exact List.map_append ..⟩)⟩
        case measure=>have:=Hk1.out;simp[intOf];omega
       ·have hmf:(Me.mayB r&&Me.mayB m)=false:=by simpa using hmay
        have HNw:Hid (∀ W,Calls prog 29 #[.int .i64 r,.int .i64 m] W fun x w'=>x=.returned (.tuple #[.pointer none,.int .i64 1])∧w'=W):=(show ∀ W,_ from fun W=>Me.new_no r m W hmf)
        have HMk:Hid (mkM (r,m)=none):=(show _=_ from if_neg hmay)
        clear hmay hmf;go_wp2_with fail;go_region_held (SM3 w.heap.size g (o+k*2) (some ⟨g,o,none⟩) ml.length mc r m) (first|exact HSM0.out|exact HSM.out _ (by go_grown)|assumption) ((go_at_call 29;refine(HNw.out _).mono ?_;rintro e w4 ⟨rfl,rfl⟩));obtain⟨Y,hY⟩:∃ Y,wr.drew=Y:=⟨_,rfl⟩
        rw[hY];have gY:Below wr.heap.size wr Y:=by rw[← hY];go_grown
        have HY:Hid (Below wr.heap.size wr Y):=gY;have HRY:Hid (Y.ownsRow W3.heap.size 58 1 (.slice va k vc) k (Q.map mqP)):=(show World.ownsRow _ _ _ _ _ _ _ by rw[← hY];first|exact(HR0.out.alloc _).drew|exact HR0.out.drew|exact HR0.out)
        have hzY:wr.heap.size≤Y.heap.size:=gY.size;clear hY gY;go_wp2_with (at_builtin;refine wpList_append_own_at _ rfl (.tmp 88) (.tmp 90) 31 rfl W3.heap.size 58 i0 (.pointer none) 1 8 underlying31 hi0 hz0 hz1 hz2 rfl (by decide) (.slice va k vc) k (Q.map mqP) rfl (HRY.out.alloc _) ⟨Y.heap.size,0,none⟩ 1 1 [.pointer none] rfl rfl (cell_one_new _ _ _) (fun u hu=>by rw[List.mem_singleton.1 hu];rfl) (by unfold maxLen;omega) (by omega) (by simp;omega) ?_;intro v5 w5 hown hgrow _ hat;obtain⟨a5,c5,rfl⟩:=own_sl hown;have H5:Hid (P3 W3 w5 (.slice a5 (k+1) c5) (Q++[none])):=(HPk.out.1.snoc none (btr HY.out (by go_grown) (Nat.le_refl _)) (fun y hy=>by cases hy) (by rw[HQk.out];exact hown) hgrow (hat.imp id (fun e g hg=>by rw[hg]at e;cases e;simp)));clear hown hgrow hat);go_roundw;case rel=>exact⟨k+1,Q++[none],a5,c5,Hk1.out,rfl,by go_num,by simp[HQk.out],(show _∧_ from⟨H5.out,by rw[HS.out,← HPk.out.2,HMk.out];exact List.map_append ..⟩)⟩
        case measure=>have:=Hk1.out;simp[intOf];omega
      ·have hkl:k=ml.length:=by omega
       obtain⟨r0,r1,r2,r3,rf⟩:=HRs.out _ HgW.out;obtain⟨Z,hZ⟩:∃ Z,(((wr.setCell ⟨w.heap.size+1,0,none⟩ (.pointer (some ⟨f,0,none⟩))).setCell ⟨w.heap.size+1,1,none⟩ (.pointer (some ⟨tb,0,none⟩))).setCell ⟨w.heap.size+1,2,none⟩ (.slice va k vc)).setCell ⟨w.heap.size+1,3,none⟩ (.slice la live.length lc)=Z:=⟨_,rfl⟩
       have oZ:Only (w.heap.size+1) wr Z:=by rw[← hZ];exact((((Only.refl _ wr).setCell 0 _).setCell 1 _).setCell 2 _).setCell 3 _
       obtain⟨y0,y1,y2,y3⟩:=s4_cells r0 r1 r2 r3 hZ;have HPt:Hid (Pt w Z ⟨some ⟨f,0,none⟩,some ⟨tb,0,none⟩,va,k,vc,la,live.length,lc,pick⟩ f S (allFP (el.map Fe.p)) tb mb L _ W3.heap.size Q):=pt_of HgV.out HzV.out HL.out.1 (by have:=HPk.out.1;rw[← hQk]at this;exact this) oZ rfl rfl rfl hQk.symm (by omega);have HMs:Hid (Q.ms=ml.map mkM):=(show _=_ by have:=HPk.out.2;rw[hkl,List.take_length]at this;exact this)
       have hge : ¬ (k:Int)<(ml.length:Int):=by omega
       clear oZ HRs hkl hQk hlt hk;go_wp2_with fail;(try simp only[Exit.inBlock,Exit.then])
       refine bodyPost_ret (v:=.tuple #[ptV ⟨some ⟨f,0,none⟩,some ⟨tb,0,none⟩,va,k,vc,la,live.length,lc,pick⟩,.bool true]) (resP (fn:=Tryz.f8) (t:=2) (u:=3) (b:=w.heap.size+1) (p:=⟨some ⟨f,0,none⟩,some ⟨tb,0,none⟩,va,k,vc,la,live.length,lc,pick⟩) rfl rfl y0 y1 y2 y3) rfl ?_;exact⟨_,rfl,f,S,tb,mb,L,_,_,Q,HPt.out,HL.out.2,HMs.out,rfl,rfl,rfl,rfl⟩
end Go.Proofs.YtgnihbdcdefdgaaGreatDoor

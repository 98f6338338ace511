import Derived.Test.YtgnihbdcdefdgaaGreatDoorX31
import Derived.Test.YtgnihbdcdefdgaaGreatDoorXS1
import Derived.Test.YtgnihbdcdefdgaaGreatDoorXA16
import Derived.Test.YtgnihbdcdefdgaaGreatDoorXR2
import Derived.Test.YtgnihbdcdefdgaaGreatDoorXA10
set_option linter.unusedSimpArgs false
set_option linter.unusedVariables false
open Go.ChangeShapes Go.WideShapes Go.ChangeAt Go.RowKit
open Go.Proofs.Tryz
namespace Go.Proofs.YtgnihbdcdefdgaaGreatDoor
section
variable {MB:Nat→Prop} {lo hi:Nat} {w w':World} {p:Tp} {Q:Mq}
theorem Mo.stay (h:Mo MB lo hi w p Q) (k:∀ b,lo≤b→b<hi→w'.heap[b]? = w.heap[b]?):Mo MB lo hi w' p Q:=by
 refine⟨h.mn,h.ml,?_,fun i hi' y hy => ?_,h.bd,h.ap⟩
 ·rcases h.ma with e|⟨g,o,ha,hg,hn,hc⟩
  ·exact .inl e
  ·exact .inr ⟨g,o,ha,hg,hn,fun i hi'=>(World.cell?_of_block (w:=w) (k g hn.1 hg)).trans (hc i hi')⟩
 ·obtain⟨k1,k2,k3⟩:=h.bk i hi' y hy;have eb:=k y.1 (h.bd _ k3).1 (h.bd _ k3).2;exact⟨⟨(World.cell?_of_block (w:=w) eb).trans k1.c0,(World.cell?_of_block (w:=w) eb).trans k1.c1,(World.cell?_of_block (w:=w) eb).trans k1.c2,(World.frozen?_of_block (w:=w) eb).trans k1.f2⟩,k2,k3⟩
theorem Mo.top (h:Mo MB lo hi w p Q) {hi2:Nat} (hh:hi≤hi2):Mo MB lo hi2 w p Q :=
 ⟨h.mn,h.ml,h.ma.imp id (fun⟨g,o,ha,hg,hn,hc⟩=>⟨g,o,ha,Nat.lt_of_lt_of_le hg hh,hn,hc⟩),h.bk,fun b hb=>⟨(h.bd b hb).1,Nat.lt_of_lt_of_le (h.bd b hb).2 hh⟩,h.ap⟩
end
theorem own_baseO {b b2:Nat} {w:World} {v:Value} {l:List Ot} (h:OwnO b w v l) (hb:b2≤b):OwnO b2 w v l:=by
 refine⟨h.1,?_⟩;rcases h.2 with hn|⟨g',cap,cur,hv,hb',rest⟩
 ·exact .inl hn
 ·exact .inr ⟨g',cap,cur,hv,by omega,rest⟩
theorem Dc.Ed.stay {lo n0:Nat} {W W':World} {p:Tp} {W0:World} {f:Nat} {S:Nat→Prop} {P:Nat→List Fp} {rb:Nat} {rG:Int} {rv:Value} {L:List Gp.Gr} {live:List Bool} {MB:Nat→Prop} (h:Dc.Ed lo lo W p W0 f S P rb rG rv L live MB) (bel:Below W0.heap.size W0 W') (size:W.heap.size≤W'.heap.size) (k:∀ b,b<lo→b<W0.heap.size∨n0≤b→W'.heap[b]? = W.heap[b]?)
 (sn:∀ b,S b→n0≤b) (rn:n0≤rb) (vn:∀ b,rv.ownBlock=some b→n0≤b) (lv:live≠[]→∀ g o,p.la=some ⟨g,o,none⟩→g<W0.heap.size):Dc.Ed lo lo W' p W0 f S P rb rG rv L live MB:=by
 have T:=h.gd.tbl;have l3:=h.gd.l3;have hb:=k rb h.gd.l1 (.inr rn);refine⟨h.pf,?_,h.fb,h.fr,⟨h.gd.pg,⟨(World.cell?_of_block (w:=W) hb).trans T.c0,(World.cell?_of_block (w:=W) hb).trans T.c1,(World.frozen?_of_block (w:=W) hb).trans T.f0,Nat.lt_of_lt_of_le T.lt size,T.ge,Dc.row_block T.row (fun b hb=>k b (h.gd.l2 b hb) (.inr (vn b hb))),T.ap,T.grp,T.srt,bel⟩,h.gd.l1,h.gd.l2,l3,h.gd.nl,h.gd.gc,h.gd.ln,?_,h.gd.lt,h.gd.le,h.gd.pl,h.gd.ph⟩,h.lt,h.mb⟩
 ·obtain⟨LF,⟨fv,fl,hF,hp⟩,hJ,hn⟩:=h.fs;exact⟨LF,⟨fv,fl,hF.keep size (fun b hb=>k b (h.fb b hb) (.inr (sn b hb))) (fun b hb hlt=>k b (by omega) (.inl hb)),hp⟩,hJ,hn⟩
 ·by_cases he:live=[]
  ·exact .inl he
  ·rcases h.gd.lv with e|⟨g,o,ha,hg,hc⟩
   ·exact .inl e
   ·have hg':=lv he g o ha;exact .inr ⟨g,o,ha,Nat.lt_of_lt_of_le hg size,fun i hi=>(World.cell?_of_block (w:=W) (k g (by omega) (.inl hg'))).trans (hc i hi)⟩
structure Rx where
 lo:Nat
 vb:Nat
 n0:Nat
 lo':Nat
 vd:Nat
 p:Tp
 p':Tp
 f:Nat
 S:Nat→Prop
 P:Nat→List Fp
 tb:Nat
 mb:Nat
 L:List Gp.Gr
 live:List Bool
 MB:Nat→Prop
 f':Nat
 S':Nat→Prop
 rb:Nat
 rv:Value
 L':List Gp.Gr
 MB':Nat→Prop
 G:List G3
 n:Int
structure Rc (w:World) (X:Rx):Prop where
 l0:w.heap.size≤X.lo
 l1:X.lo≤X.vb
 l2:X.vb<X.n0
 l3:X.n0≤X.lo'
 l4:X.lo'≤X.vd
 mb:∀ b,X.MB' b→X.lo'≤b∧b<X.vd
 sn:∀ b,X.S' b→X.n0≤b
 rn:X.n0≤X.rb
 vn:∀ b,X.rv.ownBlock=some b→X.n0≤b
 lv:X.live≠[]→∀ g o,X.p'.la=some ⟨g,o,none⟩→g<w.heap.size
 g1:X.L.map Gp.Gr.p=X.G
 g2:X.L'.map Gp.Gr.p=X.G
 gr:∀ g∈X.G,Gp.rightE g=0
 pr:∀ u,∀ x∈X.P u,wrongE x=0
 k1:X.p.pick=X.n
 k2:X.p'.pick=X.n
structure Rn (w:World) (X:Rx) (Q Q':Mq) (W:World):Prop where
 bel:Below w.heap.size w W
 pc:W.rangeAt X.vb 0 (ptC X.p).toList
 pd:W.rangeAt X.vd 0 (ptC X.p').toList
 ev:Ev X.lo X.lo W X.p X.f X.S 256 X.P X.tb X.mb 64 X.L X.live X.MB
 mo:Mo X.MB X.lo X.vb W X.p Q
 ed:Dc.Ed X.lo' X.lo' W X.p' w X.f' X.S' X.P X.rb 64 X.rv X.L' X.live X.MB'
 md:Mo X.MB' X.lo' W.heap.size W X.p' Q'
 sz:X.vd<W.heap.size
section
variable {w:World} {X:Rx} {Q Q' Q1:Mq} {W W':World}
theorem Rn.kpt1 (h:Rn w X Q Q' W) (C:Rc w X) (k:Kpt X.MB W W') (m:Mo X.MB X.lo X.vb W' X.p Q1):Rn w X Q1 Q' W':=by
 have l0:=C.l0;have l1:=C.l1;have l2:=C.l2;have l3:=C.l3;have l4:=C.l4;have sz:=h.sz;have z:=k.size;have bd:=h.mo.bd;have bel:Below w.heap.size w W':=h.bel.trans (k.below (by omega) (fun b hb=>by have:=(bd b hb).1;omega));refine⟨bel,range_block h.pc (k.block _ (by omega) (fun e=>by have:=(bd _ e).2;omega)),range_block h.pd (k.block _ sz (fun e=>by have:=(bd _ e).2;omega)),h.ev.low (k.below (by omega) (fun b hb=>(bd b hb).1)),m,?_,?_,by omega⟩
 ·exact h.ed.stay (n0:=X.n0) bel z (fun b h1 h2=>k.block b (by omega) (fun e=>by have:=bd b e;omega)) C.sn C.rn C.vn C.lv
 ·exact(h.md.stay (fun b h1 h2=>k.block b h2 (fun e=>by have:=bd b e;omega))).top z
theorem Rn.kpt2 (h:Rn w X Q Q' W) (C:Rc w X) (k:Kpt X.MB' W W') (m:Mo X.MB' X.lo' W.heap.size W' X.p' Q1):Rn w X Q Q1 W':=by
 have l0:=C.l0;have l1:=C.l1;have l2:=C.l2;have l3:=C.l3;have l4:=C.l4;have sz:=h.sz;have z:=k.size;have bd:=C.mb;exact⟨h.bel.trans (k.below (by omega) (fun b hb=>by have:=(bd b hb).1;omega)),range_block h.pc (k.block _ (by omega) (fun e=>by have:=(bd _ e).1;omega)),range_block h.pd (k.block _ sz (fun e=>by have:=(bd _ e).2;omega)),h.ev.low (k.below (by omega) (fun b hb=>by have:=(bd b hb).1;omega)),h.mo.low (k.below (by omega) (fun b hb=>by have:=(bd b hb).1;omega)),h.ed.low (k.below (by omega) (fun b hb=>(bd b hb).1)),m.top z,by omega⟩
theorem Rn.grow (h:Rn w X Q Q' W) (C:Rc w X) (g:Below W.heap.size W W'):Rn w X Q Q' W':=h.kpt2 C (Kpt.of_below g) (h.md.low g)
theorem Rn.len (h:Rn w X Q Q' W) (e:Q'.ms=Q.ms):X.p.mn=Q.length∧X.p'.mn=Q.length:=by
 refine⟨h.mo.mn,h.md.mn.trans ?_⟩;have:=congrArg List.length e;unfold Mq.ms at this;simpa using this
end
def S3 (w:World) (X:Rx) (Q':Mq) (R:List Ot × Ms) (a:Option Addr) (c:Nat) (W:World):Prop:=∃ Q1:Mq,Q1.ms=R.2∧OwnO X.vd W (.slice a R.1.length c) R.1∧R.1.length≤64∧Rn w X Q1 Q' W
def S4 (w:World) (X:Rx) (Q':Mq) (R:List Ot × Ms) (a:Option Addr) (c:Nat) (W:World):Prop:=∃ Q1:Mq,Q1.ms=R.2∧OwnR X.vd W (.slice a R.1.length c) R.1∧R.1.length≤64∧Rn w X Q1 Q' W
def S6 (w:World) (X:Rx) (R:List Ot × Ms) (a:Option Addr) (c:Nat) (a':Option Addr) (c':Nat) (W:World):Prop:=∃ Q1 Q2:Mq,Q1.ms=R.2∧Q2.ms=R.2∧OwnR X.vd W (.slice a R.1.length c) R.1∧OwnR X.vd W (.slice a' R.1.length c') R.1∧R.1.length≤64∧Rn w X Q1 Q2 W
def S7 (w:World) (X:Rx) (R:List Ot × Ms) (W:World):Prop:=∃ Q1 Q2:Mq,Q1.ms=R.2∧Q2.ms=R.2∧Rn w X Q1 Q2 W
section
variable {w:World} {X:Rx} {Q Q':Mq} {R:List Ot × Ms}
theorem Rn.run1 (C:Rc w X) {W:World} (h:Rn w X Q Q' W) (s:Mt.Sn) (hs:Sw s) (hR:R=runV X.P X.G X.live X.n s Q.ms) :
 Calls prog 14 #[ptV X.p,Mt.snV s,.int .i64 X.n] W fun e W'=>∃ a c,e=.returned (.slice a R.1.length c)∧Hid (S3 w X Q' R a c W'):=by
 have r:=run_any X.lo X.vb X.p X.f X.S 256 X.P X.tb X.mb 64 X.L X.live X.MB s Q W (h.ev.up C.l1) h.mo (by have:=C.l1;have:=C.l2;have:=C.l3;have:=C.l4;have:=h.sz;omega) (by have:=C.l2;have:=C.l3;have:=C.l4;have:=h.sz;omega) hs;rw[C.k1,C.g1,← hR]at r;refine r.mono ?_;rintro e W' ⟨v,Q1,rfl,O,n,m,M,K⟩;obtain⟨a,c,rfl⟩:=own_sl O;exact⟨a,c,rfl,(show S3 _ _ _ _ _ _ _ from⟨Q1,m,own_baseO O (Nat.le_of_lt h.sz),n,h.kpt1 C K M⟩)⟩
theorem Rn.outs (C:Rc w X) {W:World} {a:Option Addr} {c:Nat} (h:S3 w X Q' R a c W) :
 Calls prog 13 #[.slice a R.1.length c] W fun e W'=>∃ a c,e=.returned (.slice a R.1.length c)∧Hid (S4 w X Q' R a c W'):=by
 obtain⟨Q1,m,O,n,h⟩:=h;refine(outs_any a c R.1 _ W O n).mono ?_;rintro e W' ⟨v,rfl,O',g⟩;obtain⟨a,c,rfl⟩:=own_sl O';exact⟨a,c,rfl,(show S4 _ _ _ _ _ _ _ from⟨Q1,m,Dc.own_baseR O' (Nat.le_of_lt h.sz),n,h.grow C g⟩)⟩
theorem Rn.plain (C:Rc w X) {W W':World} {a:Option Addr} {c:Nat} (h:S4 w X Q' R a c W) (g:Below W.heap.size W W'):S4 w X Q' R a c W':=by
 obtain⟨Q1,m,O,n,h⟩:=h;exact⟨Q1,m,Dc.own_block O (fun b hb=>g.block b (O.lt b hb).2),n,h.grow C g⟩
theorem Rn.run2 (C:Rc w X) {W:World} {a:Option Addr} {c:Nat} (h:S4 w X Q' R a c W) (s:Mt.Sn) (hs:Sw s) (hR:R=runV X.P X.G X.live X.n s Q'.ms) :
 Calls prog 15 #[ptV X.p',Mt.snV s,.int .i64 X.n] W fun e W'=>∃ a' c',e=.returned (.slice a' R.1.length c')∧Hid (S6 w X R a c a' c' W'):=by
 obtain⟨Q1,m,O,n,h⟩:=h;have r:=Dc.run_any X.lo' W.heap.size X.p' w X.f' X.S' X.P X.rb 64 X.rv X.L' X.live X.MB' s Q' W h.ed h.md (by have:=C.l4;have:=h.sz;omega) (Nat.le_refl _) hs (by rw[C.g2];exact C.gr) C.pr;rw[C.k2,C.g2,← hR]at r;refine r.mono ?_;rintro e W' ⟨v,Q2,rfl,O',n',m',M,K⟩;obtain⟨a',c',rfl⟩:=own_sl O';exact⟨a',c',rfl,(show S6 _ _ _ _ _ _ _ _ from⟨Q1,Q2,m,m',Dc.own_block O (fun b hb=>K.block b (O.lt b hb).2 (fun e=>by have:=(O.lt b hb).1;have:=(C.mb b e).2;omega)),Dc.own_baseR O' (Nat.le_of_lt h.sz),n,h.kpt2 C K M⟩)⟩
theorem Rn.same (C:Rc w X) {W:World} {a a':Option Addr} {c c':Nat} (h:S6 w X R a c a' c' W) :
 Calls prog 12 #[.slice a R.1.length c,.slice a' R.1.length c'] W fun e W'=>e=.returned (.bool true)∧Hid (S7 w X R W'):=by
 obtain⟨Q1,Q2,m1,m2,O1,O2,n,h⟩:=h;refine(same_eq a c a' c' R.1 W (Rr.of O1) (Rr.of O2) n).mono ?_;rintro e W' ⟨rfl,g⟩;exact⟨rfl,(show S7 _ _ _ _ from⟨Q1,Q2,m1,m2,h.grow C g⟩)⟩
end
def Sl (w:World) (a:Option Addr) (l:List Mt.Sn):Prop:=l=[]∨∃ g o,a=some ⟨g,o,none⟩∧g<w.heap.size∧∀ i (h:i<l.length),w.rangeAt g (o+i*13) (Mt.snC l[i]).toList
def lftV (x:Option (Int × Int × Int)):Int:=match x with|some y=>y.2.2|none=>0
theorem lleft_any (x:Option (Nat × (Int × Int × Int))) (W:World) (h:∀ y,x=some y→Me.Bk W y.1 y.2.1 y.2.2.1 y.2.2.2):Calls prog 18 #[mqP x] W fun e w'=>e=.returned (.int .i64 (lftV (x.map Prod.snd)))∧w'=W:=by
 rcases x with _|⟨b,r,m,l⟩
 ·unfold mqP lftV;simp only[Option.map_none];go_enter func18,ntmps18;go_wp2_with fail;go_ret;exact⟨rfl,rfl⟩
 ·obtain⟨c0,c1,c2,fz⟩:=h _ rfl;unfold mqP lftV;simp only[Option.map_some]at c0 c1 c2 ⊢;go_enter func18,ntmps18;go_wp2_with fail;go_ret;exact⟨rfl,rfl⟩
theorem pleft_any (x:Option (Nat × (Int × Int × Int))) (W:World) (h:∀ y,x=some y→Me.Bk W y.1 y.2.1 y.2.2.1 y.2.2.2):Calls prog 17 #[mqP x] W fun e w'=>e=.returned (.int .i64 (lftV (x.map Prod.snd)))∧w'=W:=by
 rcases x with _|⟨b,r,m,l⟩
 ·exact(Me.left_nil W)
 ·exact(Me.left_any b r m l W (h _ rfl))
theorem cellsSeen:prog.cellsOf 49=13:=by kernel_rfl
theorem packets_of {H:Type} {enc:TypeId × Value→H} {W:World} {a:Option Addr} {len cap fuel:Nat} {x:DataW H × List MemPlace} (hlt:∀ p∈x.2,p.block<W.heap.size)
 (h:DataW.trod enc prog W 0 (fun _=>true) true fuel 28 [.slice a len cap]=some x):∃ l:List Mt.Sn,l.length=len∧Sl W a l∧(∀ s∈l,Mt.Wf s∧Fr.Wf s.pk)∧len≤maxLen:=by
 rcases Deep.open_slice underlying28 h with⟨hcs,_⟩|⟨ad,ln,cp,m,n,D,Pl,hcs,hb,hl,hm,hmm,hx,hel⟩
 ·simp at hcs;exact⟨[],hcs.2.1.symm,.inl rfl,by simp,by unfold maxLen;omega⟩
 ·simp at hcs;obtain⟨rfl,rfl,rfl⟩:=hcs;have hm':m=cap:=by simpa using hmm
  subst hm';have:Inhabited Mt.Sn:=⟨⟨0,0,0,0,0,0,0,0,0,0,0,0,⟨#[]⟩⟩⟩
  have one:∀ i,i<len→∃ t:Mt.Sn,(∀ j v,(Mt.snC t).toList[j]? = some v→W.cell? (ad.add (i*13+j))=some v)∧Mt.Wf t∧Fr.Wf t.pk:=by
   intro i hi;obtain⟨cs',h1,h2⟩:=hel i (by omega);rw[cellsSeen]at h1;obtain⟨_,hlen,hcell⟩:=World.cells?_some h1;match cs',hlen with
   | [v0,v1,v2,v3,v4,v5,v6,v7,v8,v9,v10,v11,v12],_ =>
     obtain⟨y,hy,w1,w2,_⟩:=sn_in h2;refine⟨y,fun j v hj => ?_,w1,w2⟩;rw[← hy]at hj;have hj13:j<13:=by have:=(List.getElem?_eq_some_iff.1 hj).1;simpa using this
     have c:=hcell j hj13;rw[Deep.add_add]at c;rw[c];exact hj
  obtain⟨f,hf⟩:=Deep.choose_lt one;by_cases h0:len=0
  ·subst h0;exact⟨[],rfl,.inl rfl,by simp,by unfold maxLen;omega⟩
  ·obtain⟨g,o,spot⟩:=ad;have hsp:spot=none:=by simpa [Addr.add]using World.cell?_spot ((hf 0 (by omega)).1 0 _ rfl)
   subst hsp;have hg:g<W.heap.size:=hlt (.cell g (o+0)) (by rw[hx,cellsSeen];exact List.mem_append_left _ (by simp[MemPlace.row];omega));refine⟨(List.range len).map f,by simp,.inr ⟨g,o,rfl,hg,fun i hi => ?_⟩,?_,by unfold maxLen at hm ⊢;omega⟩
   ·have hi':i<len:=by simpa using hi
    simp only[List.getElem_map,List.getElem_range];intro j v hj;have:=(hf i hi').1 j v hj;rw[plain]at this;rwa [Nat.add_assoc]
   ·intro t ht;rw[List.mem_map]at ht;obtain⟨i,hi,rfl⟩:=ht;exact(hf i (List.mem_range.1 hi)).2
end Go.Proofs.YtgnihbdcdefdgaaGreatDoor

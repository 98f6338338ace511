import Derived.Test.YtgnihbdcdefdgaaGreatDoorX24
import Derived.Deep.RegionLaw
set_option maxRecDepth 20000
set_option maxHeartbeats 16000000
set_option linter.unusedSimpArgs false
set_option linter.unusedVariables false
open Go.ChangeShapes Go.WideShapes Go.ChangeAt Go.RowKit
open Go.Proofs.Tryz
namespace Go.Proofs.YtgnihbdcdefdgaaGreatDoor
abbrev SL (b t:Nat) (s:Mt.Sn) (f:Nat) (w:World):Prop:=Mt.Bx w b s∧w.cell? ⟨t,0,none⟩=some (.pointer (some ⟨f,0,none⟩))
abbrev zerE:Array Value:=#[.int .i64 0,.int .i64 0,.slice none 0 0,.slice none 0 0,.slice none 0 0,.bool false,.int .u64 0,.int .u64 0,.int .i64 0,.int .i64 0]
theorem step_call {P:Program} {ops:Array Oper} {o:Oper} {a:Go.Act} {w:World} {K:Go.Act→World→Prop} {Q:Exit→Go.Act→World→Prop} {E:Prop} (hg:o.guard=none) (f:FuncId) (vals:Array Value)
 (hrun:(execOp a.eval o).run P w=.ok (.enter f vals) w) (hC:Calls P f vals w fun e w'=>∃ v,e=.returned v∧K (a.put o.dst v) w') :
 if Region.wanted o (yielded ops a.tmps)=true then Oper.wp P o a w K Q else E:=by
 have hw:Region.wanted o (yielded ops a.tmps)=true:=by simp[Region.wanted,hg]
 rw[if_pos hw];unfold Oper.wp;rw[hrun,Oper.upon_enter];exact hC.mono fun e w' ⟨v,he,hk⟩=>by subst he;exact hk
abbrev fL (t f b:Nat) (fr:Int) (s:Mt.Sn) (a:Option Addr) (n cap:Nat) (B:Bool) (c:Nat) (y:Fe):Go.Act:={ tmps:=#[.pointer (some ⟨t,0,none⟩),.int .i64 fr,Mt.snV s,.slice a n cap,undef,undef,.pointer (some ⟨b,0,none⟩),undef,.pointer (some ⟨c,0,none⟩),.bool B,.tuple #[feV y,.bool B],.pointer (some ⟨t,0,none⟩),.pointer (some ⟨t,0,none⟩),.pointer (some ⟨t,0,none⟩),.pointer (some ⟨t,0,none⟩),.pointer (some ⟨f,0,none⟩),.int .i64 fr,Mt.snV s,.tuple #[feV y,.bool B],feV y,.bool B,undef,undef,undef,undef,undef,undef,undef,undef,undef,undef,undef,undef,undef,undef,undef,undef,undef,undef,undef,undef,undef,undef,undef,undef,undef,undef,undef,undef,undef,undef,undef,undef,undef,undef,undef,undef,undef,undef,undef,undef,undef,undef,undef,undef,undef,undef,undef,undef],defers:=[] }
structure LkF (V:World) (q:Fp) (c:Nat) (y:Fe) (X:World):Prop where
 be:Be X c 0 y
 yp:y.p=q
 fw:FW X y
 inn:∀ b,InF y b→V.heap.size≤b
 low:V.heap.size≤c
 lt:c<X.heap.size
 bel:Below V.heap.size V X
theorem lk_last {V w1:World} {q:Fp} {y:Fe} (hY:Hid (y.p=q∧FW w1 y∧(∀ b,InF y b→V.drew.heap.size≤b)∧Below V.drew.heap.size V.drew w1)):LkF V q w1.heap.size y (w1.alloc (.cells (feC y) 76)):=by
 obtain⟨h1,h2,h3,h4⟩:=hY.out;have hz:V.heap.size≤w1.heap.size:=h4.size;have g:Below V.heap.size V w1:=btr (Below.refl _ V).drew h4 (Nat.le_refl _);exact⟨Be.new w1 y,h1,h2.alloc _,h3,hz,by simp,btr g (by go_grown) (Nat.le_refl _)⟩
theorem lk_first {V w1:World} {q:Fp} {y:Fe} (hY:Hid (y.p=q∧FW w1 y∧(∀ b,InF y b→(V.alloc (.cells zerE 76)).drew.heap.size≤b)∧Below (V.alloc (.cells zerE 76)).drew.heap.size (V.alloc (.cells zerE 76)).drew w1)):LkF V q V.heap.size y (w1.setCells V.heap.size 0 (feC y).toList):=by
 obtain⟨h1,h2,h3,h4⟩:=hY.out;have e:(V.alloc (.cells zerE 76)).drew.heap.size=V.heap.size+1:=by simp
 have hth:w1.there V.heap.size 0 10:=there_below (w:=(V.alloc (.cells zerE 76)).drew) (there_new V zerE _) (by omega) h4;have o:=only_cells V.heap.size (feC y).toList 0 w1 w1 (Only.refl _ _);have hz:V.heap.size+1≤w1.heap.size:=by have:=h4.size;omega
 have g:Below V.heap.size V w1:=btr (by go_grown) h4 (by omega);exact⟨World.rangeAt_setCells_same w1 V.heap.size 0 (feC y).toList hth,h1,h2.stay (by rw[o.size];exact Nat.le_refl _) (fun b hb _=>o.block b (by have:=h3 b hb;omega)),fun b hb=>by have:=h3 b hb;omega,Nat.le_refl _,by rw[o.size];omega,o.below (Nat.le_refl _) g⟩
structure Efm (t:Nat) (MB:Nat→Prop) (v:Value) (w:World) (v':Value) (w':World):Prop where
 kpt:Kpt (fun b=>b=t∨v.ownBlock=some b∨MB b) w w'
 own:v'.ownBlock=v.ownBlock∨∀ g,v'.ownBlock=some g→w.heap.size≤g
theorem Efm.of_eff {t:Nat} {MB:Nat→Prop} {v v':Value} {w w':World} (h:Eff t v w v' w'):Efm t MB v w v' w' :=
 ⟨⟨h.kpt.os,h.kpt.tape,h.kpt.output,h.kpt.size,fun b hb hs=>h.kpt.block b hb (fun e=>hs (e.imp id .inl))⟩,h.own⟩
theorem Efm.of_kpt {t:Nat} {MB:Nat→Prop} {v:Value} {w w':World} (h:Kpt MB w w'):Efm t MB v w v w' :=
 ⟨⟨h.os,h.tape,h.output,h.size,fun b hb hs=>h.block b hb (fun e=>hs (.inr (.inr e)))⟩,.inl rfl⟩
theorem Efm.of_below {t:Nat} {MB:Nat→Prop} {v:Value} {w w':World} (g:Below w.heap.size w w'):Efm t MB v w v w':=Efm.of_eff (Eff.of_below g)
theorem Efm.trans {t:Nat} {MB:Nat→Prop} {v v1 v2:Value} {w w1 w2:World} (h:Efm t MB v w v1 w1) (k:Efm t MB v1 w1 v2 w2):Efm t MB v w v2 w2:=by
 refine⟨h.kpt.trans k.kpt (fun b hb => ?_),?_⟩
 ·rcases hb with rfl|hb|hb
  ·exact .inl (.inl rfl)
  ·rcases h.own with e|e
   ·exact .inl (.inr (.inl (by rw[← e];exact hb)))
   ·exact .inr (e b hb)
  ·exact .inl (.inr (.inr hb))
 ·rcases k.own with e|e
  ·rw[e];exact h.own
  ·exact .inr (fun g hg=>Nat.le_trans h.kpt.size (e g hg))
theorem Efm.size {t:Nat} {MB:Nat→Prop} {v v':Value} {w w':World} (h:Efm t MB v w v' w'):w.heap.size≤w'.heap.size:=h.kpt.size
theorem Efm.block {t:Nat} {MB:Nat→Prop} {v v':Value} {w w':World} (h:Efm t MB v w v' w') {b:Nat} (hb:b<w.heap.size) (ht:b≠t) (hv:v.ownBlock≠some b) (hm : ¬ MB b):w'.heap[b]? = w.heap[b]? :=
 h.kpt.block b hb (fun hs=>hs.elim ht (fun h=>h.elim hv hm))
theorem Efm.apart {t:Nat} {MB:Nat→Prop} {v v':Value} {w w':World} (h:Efm t MB v w v' w') {b:Nat} (hb:b<w.heap.size) (hv:v.ownBlock≠some b):v'.ownBlock≠some b:=by
 rcases h.own with e|e
 ·rw[e];exact hv
 ·intro hg;have:=e b hg;omega
theorem Efm.low {t lo:Nat} {MB:Nat→Prop} {p:Tp} {v v':Value} {O:List Ot} {nb:Nat} {w w':World} (h:Efm t MB v w v' w') (T:Tr w t p v O nb) (hlo:lo≤t) (hm:∀ b,MB b→lo≤b):Below lo w w' :=
 h.kpt.below (Nat.le_of_lt (Nat.lt_of_le_of_lt hlo T.lt)) (fun k hk=>by
  rcases hk with rfl|hk|hk
  ·exact hlo
  ·have:=(T.own hk).1;omega
  ·exact hm k hk)
theorem Efm.only {t:Nat} {MB:Nat→Prop} {v v':Value} {w w' V:World} {b:Nat} (h:Efm t MB v w v' w') (o:Only b w' V) (hb:w.heap.size≤b):Efm t MB v w v' V :=
 ⟨⟨o.os.trans h.kpt.os,o.tape.trans h.kpt.tape,o.output.trans h.kpt.output,by rw[o.size];exact h.kpt.size,fun k hk hs=>(o.block k (by omega)).trans (h.kpt.block k hk hs)⟩,h.own⟩
theorem Tr.kpt {MB:Nat→Prop} {w w':World} {t:Nat} {p:Tp} {v:Value} {O:List Ot} {nb:Nat} (h:Tr w t p v O nb) (k:Kpt MB w w') (hm:∀ b,MB b→b<t):Tr w' t p v O nb :=
 h.stay k.size (k.block t h.lt (fun e=>by have:=hm _ e;omega)) (fun b hb=>k.block b (h.own hb).2 (fun e=>by have:=hm _ e;have:=(h.own hb).1;omega))
structure Ev (lo t:Nat) (w:World) (p:Tp) (f:Nat) (S:Nat→Prop) (rF:Int) (P:Nat→List Fp) (tb mb:Nat) (rG:Int) (L:List Gp.Gr) (live:List Bool) (MB:Nat→Prop):Prop where
 pf:p.f=some ⟨f,0,none⟩
 fs:Fs w f S rF P
 fb:∀ b,S b→b<t∧¬ MB b
 fr:∀ u,u<8→∀ x∈P u,wrongE x=0
 ge:Ge lo w p tb mb rG L live
 lt:lo≤t
theorem Fs.low {w w':World} {f lo:Nat} {S:Nat→Prop} {room:Int} {P:Nat→List Fp} (h:Fs w f S room P) (g:Below lo w w') (hs:∀ b,S b→b<lo):Fs w' f S room P:=by
 obtain⟨V,L,h,hp⟩:=h;exact⟨V,L,h.below g.size (fun b hb=>g.block b (hs b hb)),hp⟩
theorem Ev.low {lo t:Nat} {w w':World} {p:Tp} {f:Nat} {S:Nat→Prop} {rF:Int} {P:Nat→List Fp} {tb mb:Nat} {rG:Int} {L:List Gp.Gr} {live:List Bool} {MB:Nat→Prop} (h:Ev lo t w p f S rF P tb mb rG L live MB) (g:Below t w w'):Ev lo t w' p f S rF P tb mb rG L live MB :=
 ⟨h.pf,h.fs.low g (fun b hb=>(h.fb b hb).1),h.fb,h.fr,h.ge.low (g.mono h.lt),h.lt⟩
theorem Ev.keep {lo t:Nat} {w w':World} {p:Tp} {f:Nat} {S:Nat→Prop} {rF:Int} {P:Nat→List Fp} {tb mb:Nat} {rG:Int} {L:List Gp.Gr} {live:List Bool} {MB:Nat→Prop} {v v':Value} {O:List Ot} {nb:Nat} (h:Ev lo t w p f S rF P tb mb rG L live MB) (k:Efm t MB v w v' w') (T:Tr w t p v O nb) (hm:∀ b,MB b→lo≤b):Ev lo t w' p f S rF P tb mb rG L live MB:=by
 refine⟨h.pf,?_,h.fb,h.fr,h.ge.low (k.low T h.lt hm),h.lt⟩;obtain⟨Vv,Lv,hF,hp⟩:=h.fs;exact⟨Vv,Lv,hF.below k.size (fun b hb=>k.block (hF.lt b hb) (by have:=(h.fb b hb).1;omega) (fun e=>by have:=(h.fb b hb).1;have:=(T.own e).1;omega) (h.fb b hb).2),hp⟩
theorem Ge.up {lo t:Nat} {w:World} {p:Tp} {tb mb:Nat} {room:Int} {L:List Gp.Gr} {live:List Bool} (h:Ge lo w p tb mb room L live) (hl:lo≤t):Ge t w p tb mb room L live :=
 ⟨h.pg,h.tbl,Nat.lt_of_lt_of_le h.l1 hl,Nat.lt_of_lt_of_le h.l2 hl,fun g hg b hb=>Nat.lt_of_lt_of_le (h.l3 g hg b hb) hl,h.ln,h.lv,fun hn g o e=>Nat.lt_of_lt_of_le (h.lt hn g o e) hl,h.le,h.pl,h.ph⟩
theorem wrong_acts {x:Fp} (h:wrongE x=0):AWs x.la∧AWs x.lw:=by
 unfold wrongE at h;split at h
 ·contradiction
 ·rename_i h1;have h2:rightX x.sp=0:=by simpa using h1
  have e32:∀ l:List A,encodeE l=0→AWs l:=fun l hl=>by
   unfold encodeE at hl;split at hl
   ·rename_i hb;exact aws_right hb
   ·omega
  unfold rightX at h2;split at h2
  ·omega
  ·split at h2
   ·contradiction
   ·rename_i h5;split at h2
    ·contradiction
    ·rename_i h6;exact⟨e32 _ (by simpa [Fp.sp]using h5),e32 _ (by simpa [Fp.sp]using h6)⟩
theorem meta_lt (m k v:Int):0≤metaV m k v∧metaV m k v<18446744073709551616:=by
 have h:=wf_bits .or .u64 (bits .andNot .u64 m k) (bits .and .u64 v k);unfold metaV;simp[Lit.wf,IntKind.min,IntKind.max,IntKind.signed,IntKind.bits]at h;omega
abbrev TbF (lo t:Nat) (MB:Nat→Prop) (p:Tp) (v:Value) (w:World) (R:St × Ms) (e:Ending) (w':World):Prop :=
 e=.returned (.tuple #[])∧∃ v' Q',Tr w' t p v' R.1.1 R.1.2∧Mq.ms Q'=R.2∧Mo MB lo t w' p Q'∧Efm t MB v w v' w'
structure Md (lo t:Nat) (p:Tp) (f:Nat) (S:Nat→Prop) (rF:Int) (P:Nat→List Fp) (tb mb:Nat) (rG:Int) (L:List Gp.Gr) (live:List Bool) (MB:Nat→Prop) (w0:World) (v0:Value) (bx c:Nat) (y:Fe) (a:Option Addr) (set:List A)
 (w:World) (v:Value) (σ:St) (Q:Mq) (s:Mt.Sn):Prop where
 tr:Tr w t p v σ.1 σ.2
 ev:Ev lo t w p f S rF P tb mb rG L live MB
 mo:Mo MB lo t w p Q
 sb:Sb w bx s
 be:Be w c 0 y
 fw:FW w y
 ts:Ts w a set
 ef:Efm t MB v0 w0 v w
 b1:t<bx∧bx<w.heap.size∧v.ownBlock≠some bx
 c1:t<c∧c<w.heap.size∧v.ownBlock≠some c
 y1:∀ b,InF y b→t<b∧v.ownBlock≠some b
 a1:∀ b,InT a set b→t<b∧v.ownBlock≠some b
 ne:bx≠c
 w1:w0.heap.size≤bx
 w2:∀ b,InF y b→b≠bx
 w3:∀ b,InT a set b→b≠bx
section
variable {lo t:Nat} {p:Tp} {f:Nat} {S:Nat→Prop} {rF:Int} {P:Nat→List Fp} {tb mb:Nat} {rG:Int} {L:List Gp.Gr} {live:List Bool} {MB:Nat→Prop} {w0:World} {v0:Value} {bx c:Nat} {y:Fe} {a:Option Addr} {set:List A} {w:World} {v:Value} {σ:St} {Q:Mq} {s:Mt.Sn}
theorem Md.step (h:Md lo t p f S rF P tb mb rG L live MB w0 v0 bx c y a set w v σ Q s) {w':World} {v':Value} {σ':St} {Q':Mq} (k:Efm t MB v w v' w') (T:Tr w' t p v' σ'.1 σ'.2) (M:Mo MB lo t w' p Q'):Md lo t p f S rF P tb mb rG L live MB w0 v0 bx c y a set w' v' σ' Q' s:=by
 have hm:∀ b,t<b→¬ MB b:=fun b hb e=>by have:=(h.mo.bd b e).2;omega
 have kb:∀ b,b<w.heap.size→t<b→v.ownBlock≠some b→w'.heap[b]? = w.heap[b]?:=fun b hb ht hv=>k.block hb (by omega) hv (hm b ht);have hz:=k.size
 exact⟨T,h.ev.keep k h.tr (fun b hb=>(h.mo.bd b hb).1),M,h.sb.block (kb bx h.b1.2.1 h.b1.1 h.b1.2.2),h.be.block (kb c h.c1.2.1 h.c1.1 h.c1.2.2),h.fw.stay hz (fun b hb hl=>kb b hl (h.y1 b hb).1 (h.y1 b hb).2),h.ts.stay hz (fun b hb hl=>kb b hl (h.a1 b hb).1 (h.a1 b hb).2),h.ef.trans k,
  ⟨h.b1.1,by have:=h.b1.2.1;omega,k.apart h.b1.2.1 h.b1.2.2⟩,⟨h.c1.1,by have:=h.c1.2.1;omega,k.apart h.c1.2.1 h.c1.2.2⟩,fun b hb=>⟨(h.y1 b hb).1,k.apart (h.fw.lt hb) (h.y1 b hb).2⟩,fun b hb=>⟨(h.a1 b hb).1,k.apart (h.ts.lt hb) (h.a1 b hb).2⟩,h.ne,h.w1,h.w2,h.w3⟩
theorem Md.below (h:Md lo t p f S rF P tb mb rG L live MB w0 v0 bx c y a set w v σ Q s) {w':World} (g:Below w.heap.size w w'):Md lo t p f S rF P tb mb rG L live MB w0 v0 bx c y a set w' v σ Q s :=
 h.step (Efm.of_below g) (h.tr.below g) (h.mo.low (g.mono (Nat.le_of_lt h.tr.lt)))
theorem Md.store (h:Md lo t p f S rF P tb mb rG L live MB w0 v0 bx c y a set w v σ Q s) {w':World} {s':Mt.Sn} (o:Only bx w w') (hs:Sb w' bx s'):Md lo t p f S rF P tb mb rG L live MB w0 v0 bx c y a set w' v σ Q s':=by
 have g:Below t w w':=⟨o.os,o.tape,o.output,by rw[o.size];exact Nat.le_refl _,fun k hk=>o.block k (by have:=h.b1.1;omega)⟩
 have hz:w'.heap.size=w.heap.size:=o.size;exact⟨h.tr.only o (by have:=h.b1.1;omega) h.b1.2.2,h.ev.low g,h.mo.low g,hs,h.be.block (o.block c (fun e=>h.ne e.symm)),h.fw.stay (by omega) (fun b hb _=>o.block b (h.w2 b hb)),h.ts.stay (by omega) (fun b hb _=>o.block b (h.w3 b hb)),h.ef.only o h.w1,⟨h.b1.1,by rw[hz];exact h.b1.2.1,h.b1.2.2⟩,⟨h.c1.1,by rw[hz];exact h.c1.2.1,h.c1.2.2⟩,h.y1,h.a1,h.ne,h.w1,h.w2,h.w3⟩
end
theorem Sb.set1 {w:World} {b:Nat} {s:Mt.Sn} (h:Sb w b s) (m:Int):Sb (w.setCell ⟨b,1,none⟩ (.int .u64 m)) b { s with mt:=m }:=by
 have e:∀ j v,(Mt.snC { s with mt:=m }).toList[j]? = some v→(w.setCell ⟨b,1,none⟩ (.int .u64 m)).cell? ⟨b,j,none⟩=some v:=by
  intro j v hv;by_cases hj:j=1
  ·subst hj;have:v=.int .u64 m:=by simpa using hv.symm
   subst this;exact World.cell?_setCell_same _ _ _ (h.at 1 _ rfl)
  ·rw[World.cell?_setCell_other _ _ _ _ (by simp[hj])];refine h.at j v ?_;have hl:j<13:=by have:=(List.getElem?_eq_some_iff.1 hv).1;simpa using this
   have:j=0∨j=2∨j=3∨j=4∨j=5∨j=6∨j=7∨j=8∨j=9∨j=10∨j=11∨j=12:=by omega
   rcases this with rfl|rfl|rfl|rfl|rfl|rfl|rfl|rfl|rfl|rfl|rfl|rfl<;>exact hv
 refine⟨fun j v hv=>by rw[Nat.zero_add];exact e j v hv,fun j hj => ?_⟩;rw[Nat.zero_add];obtain⟨v,hv⟩:∃ v,(Mt.snC { s with mt:=m }).toList[j]? = some v:=⟨(Mt.snC { s with mt:=m }).toList[j]'(by simpa using hj),List.getElem?_eq_getElem _⟩
 exact⟨by rw[e j v hv];rfl,by rw[World.frozen?_setCell];exact h.fz j hj⟩
def TabC (lo t:Nat) (p:Tp) (f:Nat) (S:Nat→Prop) (rF:Int) (P:Nat→List Fp) (tb mb:Nat) (rG:Int) (L:List Gp.Gr) (live:List Bool) (MB:Nat→Prop) (k:Nat):Prop :=
 ∀ (fr:Int) (s:Mt.Sn) (a:Option Addr) (set:List A) (cap:Nat) (v:Value) (σ:St) (Q:Mq) (w:World),
   Tr w t p v σ.1 σ.2→Ev lo t w p f S rF P tb mb rG L live MB→Mo MB lo t w p Q→Sw s→Ts w a set→(∀ b,InT a set b→t<b∧v.ownBlock≠some b)→AWs set→set.length+32*k≤288→0≤fr→8≤fr+k →
   Calls prog 35 #[.pointer (some ⟨t,0,none⟩),.int .i64 fr,Mt.snV s,.slice a set.length cap] w (TbF lo t MB p v w (tabV P (L.map Gp.Gr.p) live p.pick k fr s set σ Q.ms))
theorem tab_step (lo t:Nat) (p:Tp) (f:Nat) (S:Nat→Prop) (rF:Int) (P:Nat→List Fp) (tb mb:Nat) (rG:Int) (L:List Gp.Gr) (live:List Bool) (MB:Nat→Prop) (k:Nat) (HI:Hid (∀ j,j+1=k→TabC lo t p f S rF P tb mb rG L live MB j)):TabC lo t p f S rF P tb mb rG L live MB k:=by
 intro fr s a set cap v σ Q w T E M hs hTs hap hAW hlen hfr hk8;obtain⟨R,hR⟩:∃ R,R=tabV P (L.map Gp.Gr.p) live p.pick k fr s set σ Q.ms:=⟨_,rfl⟩
 rw[← hR];have HR:Hid (R=tabV P (L.map Gp.Gr.p) live p.pick k fr s set σ Q.ms):=hR;clear hR;have htl:=T.lt;obtain⟨n,hn⟩:∃ n,n=set.length:=⟨_,rfl⟩
 rw[← hn];have Hn:Hid (n=set.length):=hn;clear hn;obtain⟨V,hV⟩:∃ V,w.alloc (.cells (Mt.snC s) 49)=V:=⟨_,rfl⟩
 have g0:Below w.heap.size w V:=by rw[← hV];go_grown
 have z0:w.heap.size<V.heap.size:=by rw[← hV];simp
 have HV:Hid (w.alloc (.cells (Mt.snC s) 49)=V):=hV;have Hg0:Hid (Below w.heap.size w V):=g0;have HT0:Hid (Tr V t p v σ.1 σ.2):=T.below g0;have HTw:Hid (Tr w t p v σ.1 σ.2):=T;have S0:Sb V w.heap.size s:=by rw[← hV];exact Sb.new w s
 have HE:Hid (Ev lo t w p f S rF P tb mb rG L live MB):=E;have HM:Hid (Mo MB lo t w p Q):=M;have HP:Hid (Sw s∧Ts w a set∧(∀ b,InT a set b→t<b∧v.ownBlock≠some b)∧AWs set∧set.length+32*k≤288):=(show _∧_ from⟨hs,hTs,hap,hAW,hlen⟩)
 have HSL0:Hid (SL w.heap.size t s f V):=(show SL _ _ _ _ _ from⟨S0.bx,by have:=(T.below g0).c0;rw[E.pf]at this;exact this⟩)
 have HS0:Hid (Sb V w.heap.size s):=S0;obtain⟨o,ho⟩:∃ o,o=lookP (tabOf P fr) s:=⟨_,rfl⟩
 obtain⟨B,hB⟩:∃ B,B=o.isSome:=⟨_,rfl⟩
 obtain⟨q,hq⟩:∃ q,q=o.getD fp0:=⟨_,rfl⟩
 have HLk:Hid (∀ W,Below V.heap.size V W→Calls prog 69 #[.pointer (some ⟨f,0,none⟩),.int .i64 fr,Mt.snV s] W fun e w'=>∃ y:Fe,e=.returned (.tuple #[feV y,.bool B])∧Hid (y.p=q∧FW w' y∧(∀ b,InF y b→W.heap.size≤b)∧Below W.heap.size W w')):=(show ∀ W,_ from fun W g=>by
  have:=look_any f S rF P fr s hs.wf W ((E.fs.below g0).below g);rw[← ho,← hB,← hq]at this;exact this)
 have HO:Hid (o=lookP (tabOf P fr) s∧B=o.isSome∧q=o.getD fp0):=(show _∧_ from⟨ho,hB,hq⟩)
 clear T E M hs hTs hap hAW hlen hV g0 S0 ho hB hq;go_enter func35,ntmps35;go_wp2_with fail;rw[HV.out];obtain⟨K0,hK0⟩:∃ K0:Go.Act→World→Prop,K0=fun a' X=>∃ c y,a'=fL t f w.heap.size fr s a n cap B c y∧Hid (LkF V q c y X):=⟨_,rfl⟩
 have HQ0:Hid (∀ c y X,LkF V q c y X→K0 (fL t f w.heap.size fr s a n cap B c y) X):=(show ∀ c y X,_ from fun c y X h=>by rw[hK0];exact⟨c,y,rfl,h⟩)
 have HQ1:Hid (∀ a' X,K0 a' X→∃ c y,a'=fL t f w.heap.size fr s a n cap B c y∧Hid (LkF V q c y X)):=(show ∀ a' X,_ from fun a' X h=>by rw[hK0]at h;exact h)
 clear hK0;refine Code.wp_mono (Q:=Exit.then K0 (fun _ _ _=>False)) ?hq ?hreg;case hreg =>
  obtain⟨⟨b0,b1,b2,b3,b4,b5,b6,b7,b8,b9,b10,b11,b12⟩,ct⟩:=HSL0.out;have htV:t<V.heap.size:=by omega
  go_region_law (first
   | (refine step_call rfl 69 #[.pointer (some ⟨f,0,none⟩),.int .i64 fr,Mt.snV s] ?hrun ?_
      case hrun=>go_simp
      refine Calls.mono (HLk.out _ (by go_grown)) ?_;rintro e w1 ⟨y,rfl,HY⟩;refine⟨_,rfl,?_⟩;have qz:=fun(o:Nat) (h:V.heap.size<_)=>HY.out.2.2.2.cell (p:=⟨V.heap.size,o,none⟩) h;have qf:=fun(o:Nat) (h:V.heap.size<_)=>HY.out.2.2.2.frozen (p:=⟨V.heap.size,o,none⟩) h))
  all_goals
   clear qz qf;first
   | exact HQ0.out w1.heap.size y _ (lk_last HY)
   | exact HQ0.out V.heap.size y _ (lk_first HY)
 case hq =>
  intro e a' X hQ;cases e<;>first|exact False.elim hQ|skip
  obtain⟨c,y,rfl,HX⟩:=HQ1.out a' X hQ;clear hQ HQ0 HQ1 HLk HSL0;have zX:V.heap.size≤X.heap.size:=HX.out.bel.size;have HTX:Hid (Tr X t p v σ.1 σ.2):=HT0.out.below HX.out.bel;have HSX:Hid (Sb X w.heap.size s):=HS0.out.below z0 HX.out.bel;have HgX:Hid (Below w.heap.size w X):=btr Hg0.out HX.out.bel (Nat.le_refl _);have HMX:Hid (Mo MB lo t X p Q):=HM.out.low (HgX.out.mono (Nat.le_of_lt htl));have HEX:Hid (Ev lo t X p f S rF P tb mb rG L live MB):=HE.out.low (HgX.out.mono (Nat.le_of_lt htl));have Hfm:Hid (Efm t MB v w v X):=Efm.of_below HgX.out;have hMl:∀ b,MB b→b<t:=fun b hb=>(HM.out.bd b hb).2;have hcl:V.heap.size≤c∧c<X.heap.size:=⟨HX.out.low,HX.out.lt⟩
  have HML:Hid (∀ b,MB b→b<t):=hMl;clear hMl HT0 HS0 Hg0;cases o with
  | none =>
    have hB:B=false:=HO.out.2.1;have HR2:Hid (R=(σ,Q.ms)):=(show _=_ by
     rw[HR.out];cases k with
     | zero=>rfl
     | succ k=>unfold tabV;rw[← HO.out.1])
    subst hB;clear HR;go_wp2_with fail;(try simp only[Exit.inBlock,Exit.then])
    refine bodyPost_ret (results_none rfl _ _ _) rfl ?_;rw[HR2.out];exact⟨rfl,v,Q,HTX.out,rfl,HMX.out,Hfm.out⟩
  | some x =>
    have hB:B=true:=HO.out.2.1;have hq:q=x:=HO.out.2.2;subst hB;subst hq;have hlk:lookP (tabOf P fr) s=some q:=HO.out.1.symm;have hmem:q∈tabOf P fr:=List.mem_of_find?_eq_some hlk;have hfr8:fr<8:=by
     by_cases h:0≤fr∧fr<8
     ·exact h.2
     ·unfold tabOf at hmem;rw[if_neg h]at hmem;cases hmem
    have hwr:wrongE q=0:=HE.out.fr fr.toNat (by omega) q (by unfold tabOf at hmem;rwa [if_pos ⟨hfr,hfr8⟩]at hmem);obtain⟨j,rfl⟩:∃ j,k=j+1:=⟨k-1,by omega⟩
    obtain⟨hw1,hw2⟩:=wrong_acts hwr;obtain⟨hw3,hw4,hw5⟩:=wrong_len hwr
    have HR2:Hid (R=if (passV Q.ms q.met s.pk).1=false then (σ,(passV Q.ms q.met s.pk).2) else
     if fr<q.go then tabV P (L.map Gp.Gr.p) live p.pick j q.go { (appV live (thrV (L.map Gp.Gr.p) live p.pick 8) q.la s σ).1 with mt:=metaV (appV live (thrV (L.map Gp.Gr.p) live p.pick 8) q.la s σ).1.mt q.mm q.mt } (Sr.mergeV ((if q.clr=true then [] else set)++q.lw)) (appV live (thrV (L.map Gp.Gr.p) live p.pick 8) q.la s σ).2 (passV Q.ms q.met s.pk).2
     else (doV live (thrV (L.map Gp.Gr.p) live p.pick 8) (Sr.mergeV ((if q.clr=true then [] else set)++q.lw)) { (appV live (thrV (L.map Gp.Gr.p) live p.pick 8) q.la s σ).1 with mt:=metaV (appV live (thrV (L.map Gp.Gr.p) live p.pick 8) q.la s σ).1.mt q.mm q.mt } (appV live (thrV (L.map Gp.Gr.p) live p.pick 8) q.la s σ).2,(passV Q.ms q.met s.pk).2)):=(show _=_ by
     rw[HR.out];show(match lookP (tabOf P fr) s with|none=>_|some x=>_)=_;rw[hlk])
    have hyp:=HX.out.yp
    have HMd:Hid (Md lo t p f S rF P tb mb rG L live MB w v w.heap.size c y a set X v σ Q s):=(show Md _ _ _ _ _ _ _ _ _ _ _ _ _ _ _ _ _ _ _ _ _ _ _ _ _ from
     ⟨HTX.out,HEX.out,HMX.out,HSX.out,HX.out.be,HX.out.fw,HP.out.2.1.below HgX.out,Hfm.out,⟨htl,by omega,fun e=>by have:=(HTw.out.own e).2;omega⟩,⟨by omega,hcl.2,fun e=>by have:=(HTw.out.own e).2;omega⟩,fun b hb=>⟨by have:=HX.out.inn b hb;omega,fun e=>by have:=(HTw.out.own e).2;have:=HX.out.inn b hb;omega⟩,HP.out.2.2.1,by omega,Nat.le_refl _,fun b hb=>by have:=HX.out.inn b hb;omega,fun b hb=>by have:=HP.out.2.1.lt hb;omega⟩)
    obtain⟨y0,ta,tc,aa,ca,aw,cw⟩:=y;simp only at hyp;subst hyp;obtain⟨xtab,xpri,xlt,xla,xlw,xclr,xmt,xmm,xmet,xgo⟩:=y0;simp only at hw1 hw2 hw3 hw4 hw5 HR2;have HPs:Hid _:=passes_any t p v σ.1 σ.2 MB lo Q xmet s.pk X HTX.out HMX.out HP.out.1.fw (by have:=HP.out.1.sz;exact this);obtain⟨pv,hpv⟩:∃ pv,pv=passV Q.ms xmet s.pk:=⟨_,rfl⟩
    rw[← hpv]at HPs HR2;clear HO HR HX HTX HSX HgX HMX HEX Hfm hlk hmem hwr hcl zX;obtain⟨b0,b1,b2,b3,b4,b5,b6,b7,b8,b9,b10,b11,b12⟩:=HMd.out.sb.bx;obtain⟨_,_,_,_,_,_,_,_,e8,_⟩:=HMd.out.be.cs;simp only at e8;clear hpv;go_wp2_with fail;refine Calls.mono HPs.out ?_;rintro e w2 ⟨rfl,Q2,hQ2,M2,K2⟩;have HM2:Hid (Md lo t p f S rF P tb mb rG L live MB w v w.heap.size c ⟨⟨xtab,xpri,xlt,xla,xlw,xclr,xmt,xmm,xmet,xgo⟩,ta,tc,aa,ca,aw,cw⟩ a set w2 v σ Q2 s):=HMd.out.step (Efm.of_kpt K2) (HMd.out.tr.kpt K2 HML.out) M2;have HQ2:Hid (Q2.ms=pv.2):=hQ2;clear b0 b1 b2 b3 b4 b5 b6 b7 b8 b9 b10 b11 b12 e8 HMd M2 K2 hQ2 HPs;obtain⟨pb,pm⟩:=pv;cases pb
    ·have HR3:Hid (R=(σ,pm)):=(show _=_ by rw[HR2.out];rfl)
     go_wp2_with fail;(try simp only[Exit.inBlock,Exit.then])
     refine bodyPost_ret (results_none rfl _ _ _) rfl ?_;rw[HR3.out];exact⟨rfl,v,Q2,HM2.out.tr,HQ2.out,HM2.out.mo,HM2.out.ef⟩
    ·obtain⟨av,hav⟩:∃ av,av=appV live (thrV (L.map Gp.Gr.p) live p.pick 8) xla s σ:=⟨_,rfl⟩
     have hsw1:Sw av.1:=by rw[hav];exact Sw.app _ _ _ HP.out.1 hw1
     have HAp:Hid (Calls prog 41 #[.pointer (some ⟨t,0,none⟩),Mt.snV s,.slice aa xla.length ca] w2 fun e w'=>e=.returned (Mt.snV av.1)∧∃ v',Tr w' t p v' av.2.1 av.2.2∧Eff t v w2 v' w'):=(show Calls _ _ _ _ _ by
      rw[hav];exact apply_any t p tb mb rG L live _ (thr_top t p tb mb rG L live) aa xla ca s v σ w2 HM2.out.tr (HM2.out.ev.ge.up HM2.out.ev.lt) HM2.out.fw.a (fun b hb=>⟨by have:=(HM2.out.y1 b (.inr (.inl hb))).1;omega,(HM2.out.y1 b (.inr (.inl hb))).2⟩) hw1 (by omega))
     rw[← hav]at HR2
     have HR3:Hid (R=if fr<xgo then tabV P (L.map Gp.Gr.p) live p.pick j xgo { av.1 with mt:=metaV av.1.mt xmm xmt } (Sr.mergeV ((if xclr=true then [] else set)++xlw)) av.2 pm
      else (doV live (thrV (L.map Gp.Gr.p) live p.pick 8) (Sr.mergeV ((if xclr=true then [] else set)++xlw)) { av.1 with mt:=metaV av.1.mt xmm xmt } av.2,pm)):=(show _=_ by rw[HR2.out];rfl)
     clear HR2 hav;obtain⟨s1,σ1⟩:=av;simp only at hsw1 HAp HR3;obtain⟨_,_,_,e3,_⟩:=HM2.out.be.cs;simp only at e3;go_wp2_with (refine load_Sb rfl (.tmp 6) rfl w.heap.size s rfl HM2.out.sb ?_);refine HAp.out.mono ?_;rintro e w3 ⟨rfl,v3,T3,E3⟩;have HM3:Hid (Md lo t p f S rF P tb mb rG L live MB w v w.heap.size c ⟨⟨xtab,xpri,xlt,xla,xlw,xclr,xmt,xmm,xmet,xgo⟩,ta,tc,aa,ca,aw,cw⟩ a set w3 v3 σ1 Q2 s):=HM2.out.step (Efm.of_eff E3) T3 (HM2.out.mo.low (E3.below HM2.out.tr));clear e3 T3 E3 HAp HM2;obtain⟨cur,hcur⟩:∃ cur:List A × Option Addr × Nat × Nat,cur=if xclr=true then ([],none,0,0) else (set,a,n,cap):=⟨_,rfl⟩
     obtain⟨M,hM⟩:∃ M,M=Sr.mergeV ((if xclr=true then [] else set)++xlw):=⟨_,rfl⟩
     rw[← hM]at HR3;have hMaw:AWs M:=by
      rw[hM];refine Sr.merge_aws (fun z hz => ?_);rcases List.mem_append.1 hz with hz|hz
      ·split at hz
       ·cases hz
       ·exact HP.out.2.2.2.1 z hz
      ·exact hw2 z hz
     have hMlen:M.length≤set.length+32:=by
      rw[hM];refine Nat.le_trans (merge_len _) ?_;rw[List.length_append];split
      ·simp;omega
      ·omega
     have HMg:Hid (∀ W,Md lo t p f S rF P tb mb rG L live MB w v w.heap.size c ⟨⟨xtab,xpri,xlt,xla,xlw,xclr,xmt,xmm,xmet,xgo⟩,ta,tc,aa,ca,aw,cw⟩ a set W v3 σ1 Q2 s1→Calls prog 71 #[if xclr=true then .slice none 0 0 else .slice a n cap,.slice aw xlw.length cw] W fun e w'=>∃ a' c',e=.returned (.slice a' M.length c')∧Hid (Ts w' a' M∧(∀ b,InT a' M b→W.heap.size≤b)∧Below W.heap.size W w')):=(show ∀ W,_ from fun W hMd=>by
      rw[hM];have hl:=HP.out.2.2.2.2;cases xclr
      ·simp only[Bool.false_eq_true,if_false];rw[Hn.out];exact mrg_any a aw set xlw cap cw W hMd.ts hMd.fw.w HP.out.2.2.2.1 hw2 (by omega)
      ·simp only[if_true];exact mrg_any none aw [] xlw 0 cw W (.inl rfl) hMd.fw.w (fun _ h=>by cases h) hw2 (by simp;omega))
     clear hcur cur hM;have HMl:Hid (AWs M∧M.length≤set.length+32):=(show _∧_ from⟨hMaw,hMlen⟩)
     clear hMaw hMlen hw1 hw2 hw3 hw4 hw5;cases xclr
     all_goals
      simp only[Bool.false_eq_true,if_false,if_true]at HMg;go_wp2_with (refine store_Sb rfl (.tmp 6) (.tmp 36) rfl w.heap.size s1 rfl rfl HM3.out.sb.t ?_;intro X3 hX3 oX3;have HM4:Hid (Md lo t p f S rF P tb mb rG L live MB w v w.heap.size c _ a set X3 v3 σ1 Q2 s1):=HM3.out.store oX3 hX3;have e5:X3.cell? ⟨c,5,none⟩=_:=HM4.out.be.cs.2.2.2.2.2.1;have e4:X3.cell? ⟨c,4,none⟩=_:=HM4.out.be.cs.2.2.2.2.1;simp only at e4 e5;clear hX3 oX3);refine Calls.mono (HMg.out X3 HM4.out) ?_;rintro e w5 ⟨a5,c5,rfl,HY⟩;have HM5:Hid (Md lo t p f S rF P tb mb rG L live MB w v w.heap.size c _ a set w5 v3 σ1 Q2 s1):=HM4.out.below HY.out.2.2;have e6:w5.cell? ⟨c,6,none⟩=_:=HM5.out.be.cs.2.2.2.2.2.2.1;have e7:w5.cell? ⟨c,7,none⟩=_:=HM5.out.be.cs.2.2.2.2.2.2.2.1;have e9:w5.cell? ⟨c,9,none⟩=_:=HM5.out.be.cs.2.2.2.2.2.2.2.2.2;have f1:w5.cell? ⟨w.heap.size,1,none⟩=some (.int .u64 s1.mt):=HM5.out.sb.at 1 _ rfl;have f1z:w5.frozen? ⟨w.heap.size,1,none⟩=false:=HM5.out.sb.fz 1 (by decide);have hne:w.heap.size≠c:=HM5.out.ne;simp only at e6 e7 e9;clear e4 e5;obtain⟨X6,hX6⟩:∃ X6,w5.setCell ⟨w.heap.size,1,none⟩ (.int .u64 (bits .or .u64 (bits .andNot .u64 s1.mt xmm) (bits .and .u64 xmt xmm)))=X6:=⟨_,rfl⟩
      have HM6:Hid (Md lo t p f S rF P tb mb rG L live MB w v w.heap.size c _ a set X6 v3 σ1 Q2 { s1 with mt:=metaV s1.mt xmm xmt }):=HM5.out.store (by rw[← hX6];exact(Only.refl _ w5).setCell 1 _) (by rw[← hX6];exact HM5.out.sb.set1 _);have e96:X6.cell? ⟨c,9,none⟩=some (.int .i64 xgo):=HM6.out.be.cs.2.2.2.2.2.2.2.2.2;have HSw:Hid (Sw { s1 with mt:=metaV s1.mt xmm xmt }):=hsw1.mt _ (meta_lt _ _ _).1 (meta_lt _ _ _).2;have z56:X6.heap.size=w5.heap.size:=by rw[← hX6];simp[World.setCell]
      have HT6:Hid (Ts X6 a5 M∧∀ b,InT a5 M b→t<b∧v3.ownBlock≠some b):=(show _∧_ from by
       have h1:=HY.out.2.1;have h4:=HM4.out.b1.2.1;have h5:=HM4.out.tr.lt;refine⟨HY.out.1.stay (by omega) (fun b hb _=>by rw[← hX6];exact((Only.refl w.heap.size w5).setCell 1 _).block b (by have:=h1 b hb;omega)),fun b hb=>⟨by have:=h1 b hb;omega,fun e=>by have:=(HM4.out.tr.own e).2;have:=h1 b hb;omega⟩⟩)
      generalize hs2:({ s1 with mt:=metaV s1.mt xmm xmt }:Mt.Sn)=s2 at *
      clear hs2 z56;have Hgo:Hid (¬ fr<xgo∨fr<xgo):=(show _∨_ by omega)
      by_cases hgo:fr<xgo
      ·have HR4:Hid (R=tabV P (L.map Gp.Gr.p) live p.pick j xgo s2 M σ1 Q2.ms):=(show _=_ by rw[HR3.out,if_pos hgo,HQ2.out])
       have HTa:Hid _:=HI.out j rfl xgo s2 a5 M c5 v3 σ1 Q2 X6 HM6.out.tr HM6.out.ev HM6.out.mo HSw.out HT6.out.1 HT6.out.2 HMl.out.1 (by have:=HMl.out.2;have:=HP.out.2.2.2.2;omega) (by omega) (by omega);clear HR3;go_wp2_with (refine load_Sb rfl (.tmp 6) rfl w.heap.size s2 rfl HM6.out.sb ?_);refine Calls.mono HTa.out ?_;rintro e w7 ⟨rfl,v7,Q7,T7,hQ7,M7,E7⟩;go_wp2_with fail;(try simp only[Exit.inBlock,Exit.then])
       refine bodyPost_ret (results_none rfl _ _ _) rfl ?_;rw[HR4.out];exact⟨rfl,v7,Q7,T7,hQ7,M7,HM6.out.ef.trans E7⟩
      ·have HR4:Hid (R=(doV live (thrV (L.map Gp.Gr.p) live p.pick 8) M s2 σ1,Q2.ms)):=(show _=_ by rw[HR3.out,if_neg hgo,HQ2.out])
       have HDo:Hid _:=do_any t p tb mb rG L live 0 _ (thr_top t p tb mb rG L live) a5 M c5 s2 v3 σ1 X6 HM6.out.tr (HM6.out.ev.ge.up HM6.out.ev.lt) HT6.out.1 (fun b hb=>⟨by have:=(HT6.out.2 b hb).1;omega,(HT6.out.2 b hb).2⟩) HMl.out.1 (by have:=HMl.out.2;have:=HP.out.2.2.2.2;omega);clear HR3;go_wp2_with (refine load_Sb rfl (.tmp 6) rfl w.heap.size s2 rfl HM6.out.sb ?_);refine Calls.mono HDo.out ?_;rintro e w7 ⟨rfl,v7,T7,E7⟩;go_wp2_with fail;go_end0;rw[HR4.out];exact⟨rfl,v7,Q2,T7,rfl,HM6.out.mo.low (E7.below HM6.out.tr),HM6.out.ef.trans (Efm.of_eff E7)⟩
theorem tab_any (lo t:Nat) (p:Tp) (f:Nat) (S:Nat→Prop) (rF:Int) (P:Nat→List Fp) (tb mb:Nat) (rG:Int) (L:List Gp.Gr) (live:List Bool) (MB:Nat→Prop):∀ k,TabC lo t p f S rF P tb mb rG L live MB k
 | 0=>tab_step lo t p f S rF P tb mb rG L live MB 0 (show ∀ j,_ from fun j h=>absurd h (by omega))
 | k+1=>tab_step lo t p f S rF P tb mb rG L live MB (k+1) (show ∀ j,_ from fun j h=>by
    obtain rfl:j=k:=by omega
    exact tab_any lo t p f S rF P tb mb rG L live MB j)
abbrev ptV (p:Tp):Value:=.agg #[.pointer p.f,.pointer p.g,.slice p.ma p.mn p.mc,.slice p.la p.ln p.lc]
abbrev ptC (p:Tp):Array Value:=#[.pointer p.f,.pointer p.g,.slice p.ma p.mn p.mc,.slice p.la p.ln p.lc]
theorem Mo.up {MB:Nat→Prop} {lo hi hi2:Nat} {w:World} {p:Tp} {Q:Mq} (h:Mo MB lo hi w p Q) (hh:hi≤hi2):Mo MB lo hi2 w p Q:=by
 refine⟨h.mn,h.ml,?_,h.bk,fun b hb=>⟨(h.bd b hb).1,by have:=(h.bd b hb).2;omega⟩,h.ap⟩;rcases h.ma with e|⟨g,o,ha,hg,hn,hc⟩
 ·exact .inl e
 ·exact .inr ⟨g,o,ha,by omega,hn,hc⟩
theorem Ev.up {lo t t2:Nat} {w:World} {p:Tp} {f:Nat} {S:Nat→Prop} {rF:Int} {P:Nat→List Fp} {tb mb:Nat} {rG:Int} {L:List Gp.Gr} {live:List Bool} {MB:Nat→Prop} (h:Ev lo t w p f S rF P tb mb rG L live MB) (hl:t≤t2):Ev lo t2 w p f S rF P tb mb rG L live MB:=⟨h.pf,h.fs,fun b hb=>⟨Nat.lt_of_lt_of_le (h.fb b hb).1 hl,(h.fb b hb).2⟩,h.fr,h.ge,Nat.le_trans h.lt hl⟩
abbrev trC (p:Tp):Array Value:=#[.pointer p.f,.pointer p.g,.slice p.ma p.mn p.mc,.slice p.la p.ln p.lc,.int .i64 p.pick,.slice none 0 0,.int .i64 0]
theorem Tr.new (w:World) (p:Tp):Tr (w.alloc (.cells (trC p) 104)) w.heap.size p (.slice none 0 0) [] 0 :=
 ⟨by simp,by simp,by simp,by simp,by simp,by simp,by simp,by simp,by simp,World.ownsRow_nil _ _ _ _,by simp,by simp⟩
theorem own_base {b b2:Nat} {w:World} {v:Value} {l:List Ot} (h:OwnO b w v l) (hb:b2≤b):OwnO b2 w v l:=by
 refine⟨h.1,?_⟩;rcases h.2 with hn|⟨g',cap,cur,hv,hb',rest⟩
 ·exact .inl hn
 ·exact .inr ⟨g',cap,cur,hv,by omega,rest⟩
theorem kpt_trip {MB:Nat→Prop} {w W w':World} {t:Nat} {v':Value} (h:Efm t MB (.slice none 0 0) W v' w') (g:Below w.heap.size w W) (ht:w.heap.size≤t):Kpt MB w w' :=
 ⟨h.kpt.os.trans g.os,h.kpt.tape.trans g.tape,h.kpt.output.trans g.output,Nat.le_trans g.size h.kpt.size,fun b hb hn=>(h.kpt.block b (Nat.lt_of_lt_of_le hb g.size) (fun e=>by
   rcases e with e|e|e
   ·omega
   ·cases e
   ·exact hn e)).trans (g.block b hb)⟩
theorem run_any (lo hi:Nat) (p:Tp) (f:Nat) (S:Nat→Prop) (rF:Int) (P:Nat→List Fp) (tb mb:Nat) (rG:Int) (L:List Gp.Gr) (live:List Bool) (MB:Nat→Prop) (s:Mt.Sn) (Q:Mq) (w:World)
 (E:Ev lo hi w p f S rF P tb mb rG L live MB) (M:Mo MB lo hi w p Q) (hl:lo≤w.heap.size) (hh:hi≤w.heap.size) (hs:Sw s) :
 Calls prog 14 #[ptV p,Mt.snV s,.int .i64 p.pick] w fun e w'=>∃ v' Q',e=.returned v'∧OwnO w.heap.size w' v' (runV P (L.map Gp.Gr.p) live p.pick s Q.ms).1∧(runV P (L.map Gp.Gr.p) live p.pick s Q.ms).1.length≤64∧Mq.ms Q'=(runV P (L.map Gp.Gr.p) live p.pick s Q.ms).2∧Mo MB lo hi w' p Q'∧Kpt MB w w':=by
 obtain⟨W3,hW3⟩:∃ W3,((w.alloc (.cells (ptC p) 33)).alloc (.cells (Mt.snC { s with mt:=0 }) 49)).alloc (.cells (trC p) 104)=W3:=⟨_,rfl⟩
 have g3:Below w.heap.size w W3:=by rw[← hW3];go_grown
 have T3:Tr W3 (w.heap.size+1+1) p (.slice none 0 0) [] 0:=by
  have:=Tr.new ((w.alloc (.cells (ptC p) 33)).alloc (.cells (Mt.snC { s with mt:=0 }) 49)) p;rw[hW3]at this;simpa using this
 have z3:W3.heap.size=w.heap.size+3:=by rw[← hW3];simp
 have HTb:Hid _:=tab_any lo (w.heap.size+1+1) p f S rF P tb mb rG L live MB 8 0 { s with mt:=0 } none [] 0 (.slice none 0 0) ([],0) Q W3 T3 ((E.low (g3.mono hh)).up (by omega)) ((M.low (g3.mono hh)).up (by omega)) (hs.mt 0 (by omega) (by omega)) (.inl rfl) (fun b hb=>absurd rfl hb.1) (fun _ h=>by cases h) (by simp) (by omega) (by omega);obtain⟨R,hR⟩:∃ R,R=tabV P (L.map Gp.Gr.p) live p.pick 8 0 { s with mt:=0 } [] ([],0) Q.ms:=⟨_,rfl⟩
 have HRu:Hid (runV P (L.map Gp.Gr.p) live p.pick s Q.ms=(R.1.1,R.2)):=(show _=_ by rw[hR];rfl)
 rw[← hR]at HTb;rw[HRu.out];have Hg3:Hid (Below w.heap.size w W3):=g3;have HM:Hid (Mo MB lo hi w p Q∧hi≤w.heap.size∧lo≤w.heap.size):=(show _∧_ from⟨M,hh,hl⟩)
 have HW3:Hid (((w.alloc (.cells (ptC p) 33)).alloc (.cells (Mt.snC { s with mt:=0 }) 49)).alloc (.cells (trC p) 104)=W3):=hW3;clear E M hs T3 g3 hR hW3;go_enter func14,ntmps14;go_wp2_with fail;rw[HW3.out];refine Calls.mono HTb.out ?_;rintro e w7 ⟨rfl,v7,Q7,T7,hQ7,M7,E7⟩;have c5:=T7.c5;go_wp2_with fail;go_ret;have K:=kpt_trip E7 Hg3.out (by omega);refine⟨v7,Q7,rfl,own_base T7.row (by omega),T7.no,hQ7,?_,K⟩;refine⟨M7.mn,M7.ml,?_,M7.bk,HM.out.1.bd,M7.ap⟩;rcases HM.out.1.ma with e|⟨g,o,ha,hg,hn,hc⟩
 ·refine .inl ?_;have e1:=M7.mn;have e2:=HM.out.1.mn;rw[e]at e2;exact List.length_eq_zero_iff.1 (by rw[← e1,e2];rfl)
 ·rcases M7.ma with e|⟨g',o',ha',hg',hn',hc'⟩
  ·exact .inl e
  ·rw[ha]at ha';cases ha';exact .inr ⟨g,o,ha,hg,hn,hc'⟩
end Go.Proofs.YtgnihbdcdefdgaaGreatDoor

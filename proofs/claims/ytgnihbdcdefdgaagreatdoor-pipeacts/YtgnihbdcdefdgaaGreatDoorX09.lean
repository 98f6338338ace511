import Derived.Test.YtgnihbdcdefdgaaGreatDoorX01
import Derived.Laws.AppendOwn
import Derived.Laws.OwnMore
import Derived.Lib.AppendZeros
import Derived.Deep.Upon
import Derived.Deep.MidRow
import Derived.BigQuiet
import Derived.Deep.QuietTactic
import Derived.Deep.RegionWith
import Derived.Deep.RegionHeld
import Derived.Lib.SliceRun
set_option maxHeartbeats 4000000
set_option linter.unusedVariables false
open Go.ChangeShapes Go.WideShapes Go.ChangeAt Go.RowKit
open Go.Proofs.Tryz
namespace Go.Proofs.YtgnihbdcdefdgaaGreatDoor
def flat (l:List A):List Value:=l.flatMap fun t=>[.int .i64 t.1,.int .i64 t.2.1,.int .u64 t.2.2]
theorem flat_length:∀ l:List A,(flat l).length=l.length*3
 | []=>rfl
 | t::l=>by simp only[flat,List.flatMap_cons,List.length_append,List.length_cons,List.length_nil];have:=flat_length l;unfold flat at this;rw[this];omega
theorem flat_at:∀ (l:List A) (i:Nat) (h:i<l.length),(flat l)[i*3]? = some (.int .i64 l[i].1)∧(flat l)[i*3+1]? = some (.int .i64 l[i].2.1)∧(flat l)[i*3+2]? = some (.int .u64 l[i].2.2)
 | t::l,0,_=>by simp[flat]
 | t::l,i+1,h=>by
   have ih:=flat_at l i (by simpa using h);unfold flat at ih ⊢;rw[List.flatMap_cons,show(i+1)*3=i*3+3 by omega];simpa using ih
theorem flat_cell (l:List A) (j:Nat) (u:Value) (h:(flat l)[j]? = some u):∃ i,∃ hi:i<l.length,(j=i*3∧u=.int .i64 l[i].1)∨(j=i*3+1∧u=.int .i64 l[i].2.1)∨(j=i*3+2∧u=.int .u64 l[i].2.2):=by
 have hj:j<(flat l).length:=by
  rcases Nat.lt_or_ge j (flat l).length with h'|h'
  ·exact h'
  ·rw[List.getElem?_eq_none h']at h;cases h
 rw[flat_length]at hj;have hi:j/3<l.length:=by omega
 obtain⟨x0,x1,x2⟩:=flat_at l (j/3) hi;refine⟨j/3,hi,?_⟩;have:j % 3=0∨j % 3=1∨j % 3=2:=by omega
 rcases this with q|q|q
 ·have e:j=j/3*3:=by omega
  refine .inl ⟨e,?_⟩;rw[← e]at x0;exact Option.some.inj (h.symm.trans x0)
 ·have e:j=j/3*3+1:=by omega
  refine .inr (.inl ⟨e,?_⟩);rw[← e]at x1;exact Option.some.inj (h.symm.trans x1)
 ·have e:j=j/3*3+2:=by omega
  refine .inr (.inr ⟨e,?_⟩);rw[← e]at x2;exact Option.some.inj (h.symm.trans x2)
theorem flat_one (l:List A):∀ u∈flat l,u.oneCell'=true:=by
 intro u hu;unfold flat at hu;rw[List.mem_flatMap]at hu;obtain⟨t,_,ht⟩:=hu;simp at ht;rcases ht with rfl|rfl|rfl<;>rfl
theorem infoA:(prog.info? 95).map (fun i=>(i.zero,i.size,i.bytes))=some (some (.agg #[.int .i64 0,.int .i64 0,.int .u64 0]),3,24):=by kernel_rfl
theorem addP (g o j:Nat):(⟨g,o,none⟩:Addr).add j=⟨g,o+j,none⟩:=by unfold Addr.add;split<;>simp_all
theorem Ts.news {w:World} {g o:Nat} {l:List A} (h:∀ i (h:i<l.length),C3 w g (o+i*3) l[i]):∀ j u,(flat l)[j]? = some u→w.cell? ((⟨g,o,none⟩:Addr).add j)=some u:=by
 intro j u hj;obtain⟨i,hi,hh⟩:=flat_cell l j u hj;obtain⟨c0,c1,c2⟩:=h i hi;rw[addP];rcases hh with⟨rfl,rfl⟩|⟨rfl,rfl⟩|⟨rfl,rfl⟩
 ·exact c0
 ·rw[← Nat.add_assoc];exact c1
 ·rw[← Nat.add_assoc];exact c2
theorem wpList_app {w:World} {ops:Array Oper} {rest:List Oper} {o:Oper} {a:Act} {Q:Exit→Act→World→Prop} (hgd:o.guard=none) (s x:Operand)
 (ho:o.op=.call { callee:=.builtin .append,args:=#[s,x],argTypes:=#[63,63] }) (base:Nat) (v:Value) (n:Nat) (xs:List Value) (hs:a.eval s=v) (hown:w.ownsRow base 95 3 v n xs)
 (ad:Option Addr) (cap:Nat) (l:List A) (m:Nat) (hm:m=l.length) (hx:a.eval x=.slice ad m cap) (hT:Ts w ad l) (hn:n+l.length≤1000) (hbase:base≤w.heap.size)
 (h:∀ v' w',w'.ownsRow base 95 3 v' (n+l.length) (xs++flat l)→w.grownBy w' v.ownBlock→wpList prog ops Q rest (a.put o.dst v') w'):wpList prog ops Q (o::rest) a w:=by
 obtain⟨i0,hi,hz0,hz1,hz2⟩:=info_parts infoA;subst hm;rcases hT with rfl|⟨g,of,rfl,_,hc⟩
 ·have src:Src prog i0.size 63 (.slice ad 0 cap) 0 [] w:=by
   cases ad with
   | none=>exact Src.ofNil w underlying63 cap
   | some q=>exact Src.ofSlice w underlying63 q 0 cap [] (by simp) (fun j u hj=>by simp at hj) (fun u hu=>by simp at hu)
  rcases hown.2 with⟨rfl,h0⟩|⟨g,c,cur,rfl,hbg,hhg,hnc,hcm,hcs,htk⟩
  ·refine Lib.wpList_append_run w hgd s x 63 63 ho _ _ hs hx _ _ (run_append_nothing w 63 63 o.type 95 i0 underlying63 hi none 0 0 (Nat.le_refl _) _ src) ?_;refine h _ _ ?_ ⟨rfl,rfl,rfl,Nat.le_refl _,fun _ _ _=>rfl⟩;simpa [flat]using hown
  ·refine Lib.wpList_append_run w hgd s x 63 63 ho _ _ hs hx _ _ (run_append_nothing w 63 63 o.type 95 i0 underlying63 hi (some ⟨g,0,none⟩) n c hnc _ src) ?_;refine h _ _ ?_ ⟨rfl,rfl,rfl,Nat.le_refl _,fun _ _ _=>rfl⟩;simpa [flat]using hown
 ·exact wpList_append_own w hgd s x 63 ho base 95 i0 (.agg #[.int .i64 0,.int .i64 0,.int .u64 0]) 3 24 underlying63 hi hz0 hz1 hz2 rfl (by decide) v n xs hs hown ⟨g,of,none⟩ l.length cap (flat l) hx (flat_length l) (Ts.news hc) (flat_one l) (by unfold maxLen;omega) (by omega) hbase (fun v' w' h1 h2 _=>h v' w' h1 h2)
theorem own_below {base e size:Nat} {w w':World} {v:Value} {n:Nat} {xs:List Value} (h:w.ownsRow base e size v n xs) (g:Below w.heap.size w w'):w'.ownsRow base e size v n xs :=
 h.kept (row:=none) ⟨g.os,g.tape,g.output,g.size,fun k hk _=>g.block k hk⟩ (by cases v.ownBlock<;>simp)
def TsF (base:Nat) (w:World) (a:Option Addr) (l:List A):Prop :=
 l=[]∨∃ g,a=some ⟨g,0,none⟩∧base≤g∧g<w.heap.size∧∀ i (h:i<l.length),C3 w g (i*3) l[i]
theorem TsF.ts {base:Nat} {w:World} {a:Option Addr} {l:List A} (h:TsF base w a l):Ts w a l:=by
 rcases h with h|⟨g,ha,_,hg,hc⟩
 ·exact .inl h
 ·exact .inr ⟨g,0,ha,hg,fun i hi=>by rw[Nat.zero_add];exact hc i hi⟩
theorem TsF.keep {base:Nat} {w w':World} {a:Option Addr} {l:List A} (h:TsF base w a l) (hz:w.heap.size≤w'.heap.size) (hb:∀ g,base≤g→g<w.heap.size→w'.heap[g]? = w.heap[g]?):TsF base w' a l:=by
 rcases h with h|⟨g,ha,h0,hg,hc⟩
 ·exact .inl h
 ·exact .inr ⟨g,ha,h0,Nat.lt_of_lt_of_le hg hz,fun i hi=>(hc i hi).block (hb g h0 hg)⟩
theorem own_ts {base:Nat} {w:World} {v:Value} {l:List A} (h:w.ownsRow base 95 3 v l.length (flat l)):∃ a cap,v=.slice a l.length cap∧l.length≤cap∧TsF base w a l:=by
 rcases h.2 with⟨rfl,h'⟩|⟨g,cap,cur,rfl,hbg,_,hnc,_⟩
 ·have hl:l=[]:=List.length_eq_zero_iff.1 h';subst hl;exact⟨none,0,rfl,Nat.le_refl _,.inl rfl⟩
 ·have hlt:=(h.lt g rfl).2;have cs:∀ i (hi:i<l.length),C3 w g (i*3) l[i]:=fun i hi=>by
   obtain⟨x0,x1,x2⟩:=flat_at l i hi;refine⟨?_,?_,?_⟩
   ·rw[h.cellAt (i*3) (by omega)];exact x0
   ·rw[h.cellAt (i*3+1) (by omega)];exact x1
   ·rw[h.cellAt (i*3+2) (by omega)];exact x2
  exact⟨some ⟨g,0,none⟩,cap,rfl,hnc,.inr ⟨g,rfl,hbg,hlt,cs⟩⟩
def InT (a:Option Addr) (l:List A) (b:Nat):Prop:=l≠[]∧∃ o,a=some ⟨b,o,none⟩
theorem Ts.stay {w w':World} {a:Option Addr} {l:List A} (h:Ts w a l) (hz:w.heap.size≤w'.heap.size) (g:∀ b,InT a l b→b<w.heap.size→w'.heap[b]? = w.heap[b]?):Ts w' a l:=by
 by_cases he:l=[]
 ·exact .inl he
 rcases h with h|⟨b,o,ha,hb,hc⟩
 ·exact .inl h
 ·exact .inr ⟨b,o,ha,Nat.lt_of_lt_of_le hb hz,fun i hi=>(hc i hi).block (g b ⟨he,o,ha⟩ hb)⟩
theorem Ts.lt {w:World} {a:Option Addr} {l:List A} (h:Ts w a l) {b:Nat} (hb:InT a l b):b<w.heap.size:=by
 obtain⟨hn,o,rfl⟩:=hb;rcases h with h|⟨b',o',ha,hb,hc⟩
 ·exact absurd h hn
 ·cases ha;exact hb
theorem TsF.new {base:Nat} {w:World} {a:Option Addr} {l:List A} (h:TsF base w a l) {b:Nat} (hb:InT a l b):base≤b:=by
 obtain⟨hn,o,rfl⟩:=hb;rcases h with h|⟨g,ha,h0,_⟩
 ·exact absurd h hn
 ·cases ha;exact h0
theorem TsF.mono {base base':Nat} {w w':World} {a:Option Addr} {l:List A} (h:TsF base w a l) (hb:base'≤base) (hz:w.heap.size≤w'.heap.size) (g:∀ b,base≤b→b<w.heap.size→w'.heap[b]? = w.heap[b]?):TsF base' w' a l:=by
 rcases h with h|⟨b,ha,h0,hb',hc⟩
 ·exact .inl h
 ·exact .inr ⟨b,ha,by omega,by omega,fun i hi=>(hc i hi).block (g b h0 hb')⟩
namespace Gp
abbrev B3:=Int × Int × List A
structure Bk where
 wa:Int
 we:Int
 a:Option Addr
 l:List A
 c:Nat
def Bk.b3 (b:Bk):B3:=(b.wa,b.we,b.l)
abbrev bkV (b:Bk):Value:=.agg #[.int .i64 b.wa,.int .i64 b.we,.slice b.a b.l.length b.c]
abbrev bkC (b:Bk):Array Value:=#[.int .i64 b.wa,.int .i64 b.we,.slice b.a b.l.length b.c]
abbrev bx (w:World) (b:Bk):World:=w.alloc (.cells (bkC b) 93)
abbrev Cb (w:World) (g o:Nat) (b:Bk):Prop:=w.cell? ⟨g,o,none⟩=some (.int .i64 b.wa)∧w.cell? ⟨g,o+1,none⟩=some (.int .i64 b.we)∧w.cell? ⟨g,o+2,none⟩=some (.slice b.a b.l.length b.c)
theorem Cb.new (w:World) (t:Bk):Cb (bx w t) w.heap.size 0 t:=by unfold Cb bx;simp
theorem Cb.block {w w':World} {b o:Nat} {t:Bk} (h:Cb w b o t) (g:w'.heap[b]? = w.heap[b]?):Cb w' b o t:=by
 obtain⟨h0,h1,h2⟩:=h;have e:∀ o,w'.cell? ⟨b,o,none⟩=w.cell? ⟨b,o,none⟩:=fun o=>World.cell?_of_block (w:=w) g;exact⟨(e _).trans h0,(e _).trans h1,(e _).trans h2⟩
theorem Cb.below {w w':World} {b o B:Nat} {t:Bk} (h:Cb w b o t) (hb:b<B) (g:Below B w w'):Cb w' b o t:=h.block (g.block b hb)
theorem Cb.gr {W:World} {b o:Nat} {t:Bk} (h:Cb W b o t) (hb:b<W.heap.size) (n:GrT W):Cb n.w b o t:=h.below hb n.h
def Bs (w:World) (a:Option Addr) (l:List Bk):Prop :=
 (∀ b∈l,Ts w b.a b.l)∧(l=[]∨∃ g o,a=some ⟨g,o,none⟩∧g<w.heap.size∧∀ i (h:i<l.length),Cb w g (o+i*3) l[i])
theorem Bs.below {w w':World} {a:Option Addr} {l:List Bk} (h:Bs w a l) (g:Below w.heap.size w w'):Bs w' a l:=by
 refine⟨fun b hb=>(h.1 b hb).below g,?_⟩;rcases h.2 with h|⟨b,o,ha,hb,hc⟩
 ·exact .inl h
 ·exact .inr ⟨b,o,ha,Nat.lt_of_lt_of_le hb g.size,fun i hi=>(hc i hi).below hb g⟩
theorem Bs.at {w:World} {a:Option Addr} {l:List Bk} (h:Bs w a l) {k:Nat} (hk:k<l.length):∃ g o,a=some ⟨g,o,none⟩∧g<w.heap.size∧∀ i (h:i<l.length),Cb w g (o+i*3) l[i]:=by
 rcases h.2 with rfl|h
 ·cases hk
 ·exact h
theorem Bs.alloc {w:World} {a:Option Addr} {l:List Bk} (h:Bs w a l) (o:Obj):Bs (w.alloc o) a l:=h.below (by go_grown)
theorem Bs.gr {W:World} {a:Option Addr} {l:List Bk} (h:Bs W a l) (n:GrT W):Bs n.w a l:=h.below n.h
structure Sm (l:List Bk):Prop where
 n:l.length≤100
 a:∀ b∈l,b.l.length≤100
def InB (a:Option Addr) (l:List Bk) (b:Nat):Prop:=(l≠[]∧∃ o,a=some ⟨b,o,none⟩)∨∃ x∈l,InT x.a x.l b
theorem Bs.stay {w w':World} {a:Option Addr} {l:List Bk} (h:Bs w a l) (hz:w.heap.size≤w'.heap.size) (g:∀ b,InB a l b→b<w.heap.size→w'.heap[b]? = w.heap[b]?):Bs w' a l:=by
 refine⟨fun x hx=>(h.1 x hx).stay hz (fun b hb hlt=>g b (.inr ⟨x,hx,hb⟩) hlt),?_⟩;by_cases he:l=[]
 ·exact .inl he
 rcases h.2 with h|⟨b,o,ha,hb,hc⟩
 ·exact .inl h
 ·exact .inr ⟨b,o,ha,Nat.lt_of_lt_of_le hb hz,fun i hi=>(hc i hi).block (g b (.inl ⟨he,o,ha⟩) hb)⟩
theorem Bs.lt {w:World} {a:Option Addr} {l:List Bk} (h:Bs w a l) {b:Nat} (hb:InB a l b):b<w.heap.size:=by
 rcases hb with⟨hn,o,rfl⟩|⟨x,hx,hb⟩
 ·rcases h.2 with h|⟨b',o',ha,hb,hc⟩
  ·exact absurd h hn
  ·cases ha;exact hb
 ·exact(h.1 x hx).lt hb
structure Gr where
 id:Int
 kd:Int
 a:Option Addr
 l:List Bk
 c:Nat
abbrev gV (g:Gr):Value:=.agg #[.int .i64 g.id,.int .i64 g.kd,.slice g.a g.l.length g.c]
abbrev gC (g:Gr):Array Value:=#[.int .i64 g.id,.int .i64 g.kd,.slice g.a g.l.length g.c]
abbrev gx (w:World) (g:Gr):World:=w.alloc (.cells (gC g) 81)
abbrev Cg (w:World) (b o:Nat) (g:Gr):Prop:=w.cell? ⟨b,o,none⟩=some (.int .i64 g.id)∧w.cell? ⟨b,o+1,none⟩=some (.int .i64 g.kd)∧w.cell? ⟨b,o+2,none⟩=some (.slice g.a g.l.length g.c)
theorem Cg.new (w:World) (t:Gr):Cg (gx w t) w.heap.size 0 t:=by unfold Cg gx;simp
theorem Cg.block {w w':World} {b o:Nat} {t:Gr} (h:Cg w b o t) (g:w'.heap[b]? = w.heap[b]?):Cg w' b o t:=by
 obtain⟨h0,h1,h2⟩:=h;have e:∀ o,w'.cell? ⟨b,o,none⟩=w.cell? ⟨b,o,none⟩:=fun o=>World.cell?_of_block (w:=w) g;exact⟨(e _).trans h0,(e _).trans h1,(e _).trans h2⟩
theorem Cg.below {w w':World} {b o B:Nat} {t:Gr} (h:Cg w b o t) (hb:b<B) (g:Below B w w'):Cg w' b o t:=h.block (g.block b hb)
theorem loadG (w:World) (b:Nat) (t:Gr) (h:Cg w b 0 t):(loadVar 81 ⟨b,0,none⟩).run prog w=.ok (gV t) w:=by
 obtain⟨h0,h1,h2⟩:=h;simp[go_sem, *]
theorem resG {fn:Func} {k:Tmp} (h:fn.results=#[.cell k 81]) {tmps:Array Value} {w:World} {b:Nat} {t:Gr} (ht:tmps.getD k undef=.pointer (some ⟨b,0,none⟩)) (hs:Cg w b 0 t) :
 (results fn tmps).run prog w=.ok (gV t) w:=by
 have ht':tmps[k]?.getD undef=.pointer (some ⟨b,0,none⟩):=by simpa using ht
 simp[results,h,ht',asAddr,loadG w b t hs]
theorem resGe {fn:Func} {k u:Tmp} (h:fn.results=#[.cell k 81,.tmp u]) {tmps:Array Value} {w:World} {b:Nat} {t:Gr} (ht:tmps.getD k undef=.pointer (some ⟨b,0,none⟩)) (hs:Cg w b 0 t) :
 (results fn tmps).run prog w=.ok (.tuple #[gV t,tmps.getD u undef]) w:=by
 have ht':tmps[k]?.getD undef=.pointer (some ⟨b,0,none⟩):=by simpa using ht
 simp[results,h,ht',asAddr,loadG w b t hs]
theorem s3_cells {w:World} {b o:Nat} {x y z p q r:Value} (h0:w.cell? ⟨b,o,none⟩=some p) (h1:w.cell? ⟨b,o+1,none⟩=some q) (h2:w.cell? ⟨b,o+2,none⟩=some r) :
 (((w.setCell ⟨b,o,none⟩ x).setCell ⟨b,o+1,none⟩ y).setCell ⟨b,o+2,none⟩ z).cell? ⟨b,o,none⟩=some x∧(((w.setCell ⟨b,o,none⟩ x).setCell ⟨b,o+1,none⟩ y).setCell ⟨b,o+2,none⟩ z).cell? ⟨b,o+1,none⟩=some y∧(((w.setCell ⟨b,o,none⟩ x).setCell ⟨b,o+1,none⟩ y).setCell ⟨b,o+2,none⟩ z).cell? ⟨b,o+2,none⟩=some z:=by
 refine⟨?_,?_,?_⟩
 ·rw[World.cell?_setCell_other _ _ _ _ (by simp),World.cell?_setCell_other _ _ _ _ (by simp)];exact World.cell?_setCell_same _ _ _ h0
 ·rw[World.cell?_setCell_other _ _ _ _ (by simp)];exact World.cell?_setCell_same _ _ _ ((World.cell?_setCell_other _ _ _ _ (by simp)).trans h1)
 ·exact World.cell?_setCell_same _ _ _ ((World.cell?_setCell_other _ _ _ _ (by simp)).trans ((World.cell?_setCell_other _ _ _ _ (by simp)).trans h2))
structure Only (b:Nat) (w w':World):Prop where
 os:w'.os=w.os
 tape:w'.tape=w.tape
 output:w'.output=w.output
 size:w'.heap.size=w.heap.size
 block:∀ k,k≠b→w'.heap[k]? = w.heap[k]?
theorem Only.refl (b:Nat) (w:World):Only b w w:=⟨rfl,rfl,rfl,rfl,fun _ _=>rfl⟩
theorem Only.trans {b:Nat} {w w' w'':World} (h:Only b w w') (k:Only b w' w''):Only b w w'' :=
 ⟨k.os.trans h.os,k.tape.trans h.tape,k.output.trans h.output,k.size.trans h.size,fun i hi=>(k.block i hi).trans (h.block i hi)⟩
theorem Only.setCell {b:Nat} {w w':World} (h:Only b w w') (o:Nat) (v:Value):Only b w (w'.setCell ⟨b,o,none⟩ v) :=
 ⟨h.os,h.tape,h.output,by simp[World.setCell,h.size],fun k hk=>(Below.heap_setCell _ _ _ _ hk).trans (h.block k hk)⟩
theorem Only.s3 (w:World) (b o:Nat) (x y z:Value):Only b w (((w.setCell ⟨b,o,none⟩ x).setCell ⟨b,o+1,none⟩ y).setCell ⟨b,o+2,none⟩ z):=(((Only.refl b w).setCell o x).setCell (o+1) y).setCell (o+2) z
theorem Only.below {b B:Nat} {w w' a:World} (h:Only b w w') (hb:B≤b) (g:Below B a w):Below B a w' :=
 g.trans ⟨h.os,h.tape,h.output,by rw[h.size];exact Nat.le_refl _,fun k hk=>h.block k (by omega)⟩
def Gr.p (g:Gr):Int × Int × List B3:=(g.id,g.kd,g.l.map Bk.b3)
def flatB (l:List Bk):List Value:=l.flatMap fun t=>[.int .i64 t.wa,.int .i64 t.we,.slice t.a t.l.length t.c]
theorem flatB_length:∀ l:List Bk,(flatB l).length=l.length*3
 | []=>rfl
 | t::l=>by simp only[flatB,List.flatMap_cons,List.length_append,List.length_cons,List.length_nil];have:=flatB_length l;unfold flatB at this;rw[this];omega
theorem flatB_append (l m:List Bk):flatB (l++m)=flatB l++flatB m:=by simp[flatB]
theorem flatB_at:∀ (l:List Bk) (i:Nat) (h:i<l.length),(flatB l)[i*3]? = some (.int .i64 l[i].wa)∧(flatB l)[i*3+1]? = some (.int .i64 l[i].we)∧(flatB l)[i*3+2]? = some (.slice l[i].a l[i].l.length l[i].c)
 | t::l,0,_=>by simp[flatB]
 | t::l,i+1,h=>by
   have ih:=flatB_at l i (by simpa using h);unfold flatB at ih ⊢;rw[List.flatMap_cons,show(i+1)*3=i*3+3 by omega];simpa using ih
theorem flatB_cell (l:List Bk) (j:Nat) (u:Value) (h:(flatB l)[j]? = some u):∃ i,∃ hi:i<l.length,(j=i*3∧u=.int .i64 l[i].wa)∨(j=i*3+1∧u=.int .i64 l[i].we)∨(j=i*3+2∧u=.slice l[i].a l[i].l.length l[i].c):=by
 have hj:j<(flatB l).length:=by
  rcases Nat.lt_or_ge j (flatB l).length with h'|h'
  ·exact h'
  ·rw[List.getElem?_eq_none h']at h;cases h
 rw[flatB_length]at hj;have hi:j/3<l.length:=by omega
 obtain⟨x0,x1,x2⟩:=flatB_at l (j/3) hi;refine⟨j/3,hi,?_⟩;have:j % 3=0∨j % 3=1∨j % 3=2:=by omega
 rcases this with q|q|q
 ·have e:j=j/3*3:=by omega
  refine .inl ⟨e,?_⟩;rw[← e]at x0;exact Option.some.inj (h.symm.trans x0)
 ·have e:j=j/3*3+1:=by omega
  refine .inr (.inl ⟨e,?_⟩);rw[← e]at x1;exact Option.some.inj (h.symm.trans x1)
 ·have e:j=j/3*3+2:=by omega
  refine .inr (.inr ⟨e,?_⟩);rw[← e]at x2;exact Option.some.inj (h.symm.trans x2)
theorem flatB_one (l:List Bk):∀ u∈flatB l,u.oneCell'=true:=by
 intro u hu;unfold flatB at hu;rw[List.mem_flatMap]at hu;obtain⟨t,_,ht⟩:=hu;simp at ht;rcases ht with rfl|rfl|rfl<;>rfl
theorem flatB_set:∀ (l:List Bk) (i:Nat) (h:i<l.length) (a:Option Addr) (c:Nat),(flatB l).set (i*3+2) (.slice a l[i].l.length c)=flatB (l.set i { l[i]with a:=a,c:=c })
 | t::l,0,_,a,c=>by simp[flatB]
 | t::l,i+1,h,a,c=>by
   have ih:=flatB_set l i (by simpa using h) a c;unfold flatB at ih ⊢;rw[List.flatMap_cons,show(i+1)*3+2=(i*3+2)+3 by omega];simp only[List.cons_append,List.nil_append,List.set_cons_succ,List.getElem_cons_succ,List.flatMap_cons];rw[ih]
theorem infoBk:(prog.info? 93).map (fun i=>(i.zero,i.size,i.bytes))=some (some (.agg #[.int .i64 0,.int .i64 0,.slice none 0 0]),3,40):=by kernel_rfl
theorem Bs.news {w:World} {g o:Nat} {l:List Bk} (h:∀ i (h:i<l.length),Cb w g (o+i*3) l[i]):∀ j u,(flatB l)[j]? = some u→w.cell? ((⟨g,o,none⟩:Addr).add j)=some u:=by
 intro j u hj;obtain⟨i,hi,hh⟩:=flatB_cell l j u hj;obtain⟨c0,c1,c2⟩:=h i hi;rw[addP];rcases hh with⟨rfl,rfl⟩|⟨rfl,rfl⟩|⟨rfl,rfl⟩
 ·exact c0
 ·rw[← Nat.add_assoc];exact c1
 ·rw[← Nat.add_assoc];exact c2
theorem rowB_cells {base:Nat} {w:World} {g n cap:Nat} {l:List Bk} (hn:n=l.length) (h:w.ownsRow base 93 3 (.slice (some ⟨g,0,none⟩) n cap) n (flatB l)) (i:Nat) (hi:i<l.length):Cb w g (i*3) l[i]:=by
 subst hn;obtain⟨x0,x1,x2⟩:=flatB_at l i hi;refine⟨?_,?_,?_⟩
 ·rw[h.cellAt (i*3) (by omega)];exact x0
 ·rw[h.cellAt (i*3+1) (by omega)];exact x1
 ·rw[h.cellAt (i*3+2) (by omega)];exact x2
theorem wpList_appB {w:World} {ops:Array Oper} {rest:List Oper} {o:Oper} {a:Act} {Q:Exit→Act→World→Prop} (hgd:o.guard=none) (s x:Operand)
 (ho:o.op=.call { callee:=.builtin .append,args:=#[s,x],argTypes:=#[79,79] }) (base:Nat) (v:Value) (n:Nat) (xs:List Value) (hs:a.eval s=v) (hown:w.ownsRow base 93 3 v n xs)
 (ad:Option Addr) (cap:Nat) (l:List Bk) (m:Nat) (hm:m=l.length) (hx:a.eval x=.slice ad m cap) (hT:l=[]∨∃ g o,ad=some ⟨g,o,none⟩∧g<w.heap.size∧∀ i (h:i<l.length),Cb w g (o+i*3) l[i]) (hn:n+l.length≤1000) (hbase:base≤w.heap.size)
 (h:∀ v' w',w'.ownsRow base 93 3 v' (n+l.length) (xs++flatB l)→w.grownBy w' v.ownBlock→wpList prog ops Q rest (a.put o.dst v') w'):wpList prog ops Q (o::rest) a w:=by
 obtain⟨i0,hi,hz0,hz1,hz2⟩:=info_parts infoBk;subst hm;rcases hT with rfl|⟨g,of,rfl,_,hc⟩
 ·have src:Src prog i0.size 79 (.slice ad 0 cap) 0 [] w:=by
   cases ad with
   | none=>exact Src.ofNil w underlying79 cap
   | some q=>exact Src.ofSlice w underlying79 q 0 cap [] (by simp) (fun j u hj=>by simp at hj) (fun u hu=>by simp at hu)
  rcases hown.2 with⟨rfl,h0⟩|⟨g,c,cur,rfl,hbg,hhg,hnc,hcm,hcs,htk⟩
  ·refine Lib.wpList_append_run w hgd s x 79 79 ho _ _ hs hx _ _ (run_append_nothing w 79 79 o.type 93 i0 underlying79 hi none 0 0 (Nat.le_refl _) _ src) ?_;refine h _ _ ?_ ⟨rfl,rfl,rfl,Nat.le_refl _,fun _ _ _=>rfl⟩;simpa [flatB]using hown
  ·refine Lib.wpList_append_run w hgd s x 79 79 ho _ _ hs hx _ _ (run_append_nothing w 79 79 o.type 93 i0 underlying79 hi (some ⟨g,0,none⟩) n c hnc _ src) ?_;refine h _ _ ?_ ⟨rfl,rfl,rfl,Nat.le_refl _,fun _ _ _=>rfl⟩;simpa [flatB]using hown
 ·exact wpList_append_own w hgd s x 79 ho base 93 i0 (.agg #[.int .i64 0,.int .i64 0,.slice none 0 0]) 3 40 underlying79 hi hz0 hz1 hz2 rfl (by decide) v n xs hs hown ⟨g,of,none⟩ l.length cap (flatB l) hx (flatB_length l) (Bs.news hc) (flatB_one l) (by unfold maxLen;omega) (by omega) hbase (fun v' w' h1 h2 _=>h v' w' h1 h2)
def inB (n lo hi:Int):Bool:=decide (lo≤n)&&decide (n≤hi)
def fewV (k:Int):Int:=if k=3 then 1 else 0
def mostV (k:Int):Int:=if k=3 then 1 else 16
def lwV (k:Int):Int:=if k=4 then 1 else 0
def bkB (k:Int) (b:B3):Bool:=decide ((b.2.2.length:Int)≤8)&&inB b.1 (lwV k) 16&&inB b.2.1 0 65535
def headB (id k:Int) (n:Nat):Bool:=inB id 1 65535&&inB k 1 4&&inB n (fewV k) (mostV k)
def formB (id k:Int) (l:List B3):Bool:=headB id k l.length&&l.all (bkB k)
def actsB (l:List B3):Bool:=l.all fun b=>allB b.2.2
def rightE (p:Int × Int × List B3):Int:=if formB p.1 p.2.1 p.2.2=true then (if actsB p.2.2=true then 0 else 22) else 24
theorem within_any (n lo hi:Int) (w:World):Calls prog 56 #[.int .i64 n,.int .i64 lo,.int .i64 hi] w fun e w'=>e=.returned (.bool (inB n lo hi))∧w'=w:=by
 unfold inB;cases h:decide (lo≤n) <;>
 ·go_enter func56,ntmps56;go_wp2;go_ret;exact⟨rfl,rfl⟩
theorem kind4 (k:Int):k=1∨k=2∨k=3∨k=4∨((k==1)=false∧(k==2)=false∧(k==3)=false∧(k==4)=false∧inB k 1 4=false):=by
 by_cases h1:k=1
 ·exact .inl h1
 by_cases h2:k=2
 ·exact .inr (.inl h2)
 by_cases h3:k=3
 ·exact .inr (.inr (.inl h3))
 by_cases h4:k=4
 ·exact .inr (.inr (.inr (.inl h4)))
 refine .inr (.inr (.inr (.inr ⟨by simpa using h1,by simpa using h2,by simpa using h3,by simpa using h4,?_⟩)));unfold inB;by_cases h:1≤k
 ·have : ¬ k≤4:=by omega
  simp[this]
 ·simp[h]
theorem isKind_any (k:Int) (w:World):Calls prog 136 #[.int .i64 k] w fun e w'=>e=.returned (.bool (inB k 1 4))∧w'=w:=by
 rcases kind4 k with rfl|rfl|rfl|rfl|⟨b1,b2,b3,b4,h⟩
 case inr.inr.inr.inr =>
  rw[h];clear h;go_enter func136,ntmps136;go_wp2;go_ret;exact⟨rfl,rfl⟩
 all_goals
  go_enter func136,ntmps136;go_wp2;go_ret;exact⟨rfl,rfl⟩
theorem fewest_any (k:Int) (w:World):Calls prog 137 #[.int .i64 k] w fun e w'=>e=.returned (.int .i64 (fewV k))∧w'=w:=by
 unfold fewV;by_cases h:k=3
 ·subst h;go_enter func137,ntmps137;go_wp2;go_ret;exact⟨rfl,rfl⟩
 ·have hb:(k==3)=false:=by simp[h]
  rw[if_neg h];clear h;go_enter func137,ntmps137;go_wp2;go_ret;exact⟨rfl,rfl⟩
theorem most_any (k:Int) (w:World):Calls prog 138 #[.int .i64 k] w fun e w'=>e=.returned (.int .i64 (mostV k))∧w'=w:=by
 unfold mostV;by_cases h:k=3
 ·subst h;go_enter func138,ntmps138;go_wp2;go_ret;exact⟨rfl,rfl⟩
 ·have hb:(k==3)=false:=by simp[h]
  rw[if_neg h];clear h;go_enter func138,ntmps138;go_wp2;go_ret;exact⟨rfl,rfl⟩
theorem leastWatch_any (k:Int) (w:World):Calls prog 187 #[.int .i64 k] w fun e w'=>e=.returned (.int .i64 (lwV k))∧w'=w:=by
 unfold lwV;by_cases h:k=4
 ·subst h;go_enter func187,ntmps187;go_wp2;go_ret;exact⟨rfl,rfl⟩
 ·have hb:(k==4)=false:=by simp[h]
  rw[if_neg h];clear h;go_enter func187,ntmps187;go_wp2;go_ret;exact⟨rfl,rfl⟩
theorem rightBucket_any (k:Int) (b:Bk) (w:World):Calls prog 139 #[.int .i64 k,bkV b] w fun e w'=>e=.returned (.bool (bkB k b.b3))∧Below w.heap.size w w':=by
 have HW:Hid (∀ n lo hi w,Calls prog 56 #[.int .i64 n,.int .i64 lo,.int .i64 hi] w fun e w'=>e=.returned (.bool (inB n lo hi))∧w'=w):=(show ∀ n lo hi w,_ from within_any)
 have HL:Hid (∀ w,Calls prog 187 #[.int .i64 k] w fun e w'=>e=.returned (.int .i64 (lwV k))∧w'=w):=(show ∀ w,_ from fun w=>leastWatch_any k w)
 have q:=fun n=>Cb.gr (Cb.new w b) (by simp) n;have q0:=fun n=>(q n).1;have q1:=fun n=>(q n).2.1;have q2:=fun n=>(q n).2.2;have hR:bkB k b.b3=(decide ((b.l.length:Int)≤8)&&inB b.wa (lwV k) 16&&inB b.we 0 65535):=rfl;rw[hR];clear q hR;generalize lwV k=L at *
 cases h1:decide ((b.l.length:Int)≤8)with
 | false =>
   go_enter func139,ntmps139;go_wp2_with fail;refine wp_region_grow (by kernel_rfl) (by kernel_rfl) ?_;repeat (go_big_quiet_step ((first|(go_at_call 56;exact quiet_gs (HW.out _ _ _ _))|(go_at_call 187;exact quiet_gs (HL.out _)))))
   refine wpQuiet_nil ?_;rintro w1 hw';have g1:=gr_elim hw';clear q0 q1 q2 hw';go_wp2_with fail;go_ret;exact⟨rfl,btr (by go_grown) g1 (by simp)⟩
 | true =>
   cases h2:inB b.wa L 16 with
   | false =>
     go_enter func139,ntmps139;go_wp2_with fail;refine wp_region_grow (by kernel_rfl) (by kernel_rfl) ?_;repeat (go_big_quiet_step ((first|(go_at_call 56;exact quiet_gs (HW.out _ _ _ _))|(go_at_call 187;exact quiet_gs (HL.out _)))))
     refine wpQuiet_nil ?_;rintro w1 hw';have g1:=gr_elim hw';clear q0 q1 q2 hw';go_wp2_with fail;go_ret;exact⟨rfl,btr (by go_grown) g1 (by simp)⟩
   | true =>
     go_enter func139,ntmps139;go_wp2_with fail;refine wp_region_grow (by kernel_rfl) (by kernel_rfl) ?_;repeat (go_big_quiet_step ((first|(go_at_call 56;exact quiet_gs (HW.out _ _ _ _))|(go_at_call 187;exact quiet_gs (HL.out _)))))
     refine wpQuiet_nil ?_;rintro w1 hw';have g1:=gr_elim hw';clear q0 q1 q2 hw';go_wp2_with fail;go_ret;exact⟨rfl,btr (by go_grown) g1 (by simp)⟩
theorem cloneA (a:Option Addr) (l:List A) (c:Nat) (w:World) (hT:Ts w a l) (hn:l.length≤1000) :
 Calls prog 86 #[.slice a l.length c] w fun e w'=>∃ a' c',e=.returned (.slice a' l.length c')∧TsF w.heap.size w' a' l∧Below w.heap.size w w':=by
 have q:∀ (w:World) (a:Option Addr) (n c n' c':Nat),(binOp .eql 63 (.slice a n c) (.slice none n' c')).run prog w=.ok (.bool a.isNone) w:=fun w a n c n' c'=>Lib.run_eql_slice_nil w _ _ a n c n' c' underlying63;cases a with
 | none =>
   have hl:l=[]:=by
    rcases hT with h|⟨g,o,h,_⟩
    ·exact h
    ·cases h
   subst hl;clear hT;go_enter func86,ntmps86;go_wp2;go_ret;exact⟨none,0,rfl,.inl rfl,Below.refl _ _⟩
 | some p =>
   have HT:Hid (Ts w (some p) l):=hT;clear hT;go_enter func86,ntmps86;go_wp2_with (at_builtin;refine wpList_app rfl _ _ rfl w.heap.size (.slice (some ⟨w.heap.size,0,none⟩) 0 0) 0 [] rfl (World.ownsRow_made w #[] 0 (Nat.le_refl _) (Nat.zero_le _) rfl) (some p) c l l.length rfl rfl (HT.out.alloc _) (by omega) (by simp) ?_;intro v' w1 hown hgrow);go_wp2;go_ret;rw[Nat.zero_add,List.nil_append]at hown;obtain⟨a',c',e,_,ht⟩:=own_ts hown;exact⟨a',c',by rw[e];rfl,ht,((Below.refl _ w).alloc (Nat.le_refl _) _).grown hgrow (by simp) (by intro k hk;simp[Value.ownBlock]at hk;omega)⟩
theorem cloneB (a:Option Addr) (l:List Bk) (c:Nat) (w:World) (hT:Bs w a l) (hn:l.length≤1000) :
 Calls prog 128 #[.slice a l.length c] w fun e w'=>∃ v,e=.returned v∧w'.ownsRow w.heap.size 93 3 v l.length (flatB l)∧Below w.heap.size w w':=by
 have q:∀ (w:World) (a:Option Addr) (n c n' c':Nat),(binOp .eql 79 (.slice a n c) (.slice none n' c')).run prog w=.ok (.bool a.isNone) w:=fun w a n c n' c'=>Lib.run_eql_slice_nil w _ _ a n c n' c' underlying79;cases a with
 | none =>
   have hl:l=[]:=by
    rcases hT.2 with h|⟨g,o,h,_⟩
    ·exact h
    ·cases h
   subst hl;clear hT;go_enter func128,ntmps128;go_wp2;go_ret;exact⟨_,rfl,World.ownsRow_nil _ _ _ _,Below.refl _ _⟩
 | some p =>
   have HT:Hid (Bs w (some p) l):=hT;clear hT;go_enter func128,ntmps128;go_wp2_with (at_builtin;refine wpList_appB rfl _ _ rfl w.heap.size (.slice (some ⟨w.heap.size,0,none⟩) 0 0) 0 [] rfl (World.ownsRow_made w #[] 0 (Nat.le_refl _) (Nat.zero_le _) rfl) (some p) c l l.length rfl rfl (HT.out.alloc _).2 (by omega) (by simp) ?_;intro v' w1 hown hgrow);go_wp2;go_ret;rw[Nat.zero_add,List.nil_append]at hown;exact⟨v',rfl,hown,((Below.refl _ w).alloc (Nat.le_refl _) _).grown hgrow (by simp) (by intro k hk;simp[Value.ownBlock]at hk;omega)⟩
structure BsF (base:Nat) (w:World) (a:Option Addr) (l:List Bk):Prop where
 ts:∀ x∈l,TsF base w x.a x.l
 bs:l=[]∨∃ g,a=some ⟨g,0,none⟩∧base≤g∧g<w.heap.size∧∀ i (h:i<l.length),Cb w g (i*3) l[i]
theorem BsF.b {base:Nat} {w:World} {a:Option Addr} {l:List Bk} (h:BsF base w a l):Bs w a l:=by
 refine⟨fun x hx=>(h.ts x hx).ts,?_⟩;rcases h.bs with h|⟨g,ha,_,hg,hc⟩
 ·exact .inl h
 ·exact .inr ⟨g,0,ha,hg,fun i hi=>by rw[Nat.zero_add];exact hc i hi⟩
theorem BsF.new {base:Nat} {w:World} {a:Option Addr} {l:List Bk} (h:BsF base w a l) {b:Nat} (hb:InB a l b):base≤b:=by
 rcases hb with⟨hn,o,rfl⟩|⟨x,hx,hb⟩
 ·rcases h.bs with h|⟨g,ha,h0,_⟩
  ·exact absurd h hn
  ·cases ha;exact h0
 ·exact(h.ts x hx).new hb
theorem BsF.mono {base base':Nat} {w w':World} {a:Option Addr} {l:List Bk} (h:BsF base w a l) (hb:base'≤base) (hz:w.heap.size≤w'.heap.size) (g:∀ b,base≤b→b<w.heap.size→w'.heap[b]? = w.heap[b]?):BsF base' w' a l:=by
 refine⟨fun x hx=>(h.ts x hx).mono hb hz g,?_⟩;rcases h.bs with h|⟨b,ha,h0,hb',hc⟩
 ·exact .inl h
 ·exact .inr ⟨b,ha,by omega,by omega,fun i hi=>(hc i hi).block (g b h0 hb')⟩
structure CpI (w0:World) (g cap:Nat) (l:List Bk) (q:Nat) (wr:World) (r:List Bk):Prop where
 len:r.length=l.length
 row:wr.ownsRow w0.heap.size 93 3 (.slice (some ⟨g,0,none⟩) l.length cap) l.length (flatB r)
 done:∀ i (h:i<r.length),i<q→TsF w0.heap.size wr r[i].a r[i].l∧¬ InT r[i].a r[i].l g
 same:r.map Bk.b3=l.map Bk.b3
 left:∀ i (h:i<r.length) (h2:i<l.length),q≤i→r[i]=l[i]
 bel:Below w0.heap.size w0 wr
theorem CpI.step {w0 wr w1:World} {g cap:Nat} {l r:List Bk} {q:Nat} (h:CpI w0 g cap l q wr r) (hq:q<r.length) (a':Option Addr) (c':Nat) (ht:TsF wr.heap.size w1 a' r[q].l) (g1:Below wr.heap.size wr w1) :
 CpI w0 g cap l (q+1) (w1.setCell ⟨g,q*3+2,none⟩ (.slice a' r[q].l.length c')) (r.set q { r[q]with a:=a',c:=c' }):=by
 have hg:=h.row.lt g rfl;have r1:=own_below h.row g1;obtain⟨r2,gr⟩:=r1.stored (q*3+2) (.slice a' r[q].l.length c');rw[flatB_set r q hq]at r2;have hz:wr.heap.size≤(w1.setCell ⟨g,q*3+2,none⟩ (.slice a' r[q].l.length c')).heap.size:=Nat.le_trans g1.size gr.size;refine⟨by simp[h.len],r2,?_,?_,?_,?_⟩
 ·intro i hi hlt;have hi':i<r.length:=by simpa using hi
  by_cases e:i=q
  ·subst e;simp only[List.getElem_set_self];refine⟨?_,?_⟩
   ·rcases ht with ht|⟨b,ha,h0,hb,hc⟩
    ·exact .inl ht
    ·refine .inr ⟨b,ha,by have:=h.bel.size;omega,Nat.lt_of_lt_of_le hb gr.size,fun j hj=>(hc j hj).block (gr.block b hb ?_)⟩;intro e2;cases e2;omega
   ·intro hin;have hb0:=ht.new hin;omega
  ·have hlt':i<q:=by omega
   rw[List.getElem_set_ne (Ne.symm e)];obtain⟨d1,d2⟩:=h.done i hi' hlt';refine⟨?_,d2⟩;rcases d1 with d1|⟨b,ha,h0,hb,hc⟩
   ·exact .inl d1
   ·by_cases hne:r[i].l=[]
    ·exact .inl hne
    ·refine .inr ⟨b,ha,h0,Nat.lt_of_lt_of_le hb hz,fun j hj=>((hc j hj).below hb g1).block (gr.block b (Nat.lt_of_lt_of_le hb g1.size) ?_)⟩;intro e2;cases e2;exact d2 ⟨hne,0,ha⟩
 ·rw[List.map_set,← h.same];apply List.ext_getElem?;intro j;by_cases e:q=j
  ·subst e;simp[hq,Bk.b3]
  ·simp[e]
 ·intro i hi h2 hle;have hi':i<r.length:=by simpa using hi
  rw[List.getElem_set_ne (by omega)];exact h.left i hi' h2 (by omega)
 ·exact(h.bel.trans (g1.mono h.bel.size)).grown gr (Nat.le_trans h.bel.size g1.size) (by intro k hk;cases hk;exact hg.1)
theorem CpI.end_ {w0 wr:World} {g cap:Nat} {l r:List Bk} {q:Nat} (h:CpI w0 g cap l q wr r) (hq:l.length≤q):BsF w0.heap.size wr (some ⟨g,0,none⟩) r:=by
 refine⟨?_,?_⟩
 ·intro x hx;obtain⟨i,hi,rfl⟩:=List.getElem_of_mem hx;exact(h.done i hi (by have:=h.len;omega)).1
 ·have hg:=h.row.lt g rfl;exact .inr ⟨g,rfl,hg.1,hg.2,fun i hi=>rowB_cells (by rw[h.len]) h.row i hi⟩
end Gp
end Go.Proofs.YtgnihbdcdefdgaaGreatDoor

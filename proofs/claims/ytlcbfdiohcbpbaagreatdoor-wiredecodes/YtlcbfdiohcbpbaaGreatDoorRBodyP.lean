import Derived.Test.YtlcbfdiohcbpbaaGreatDoorRBase
import Derived.Test.YtlcbfdiohcbpbaaGreatDoorZT
namespace Go.Proofs.YtlcbfdiohcbpbaaGreatDoor
set_option maxRecDepth 20000
open Go.ChangeShapes Go.WideShapes Go.ChangeAt Go.RowKit
set_option linter.unusedVariables false
set_option linter.unusedSimpArgs false
theorem bm_one {w:World} {b:Nat} {m:Ms} (h:Bm w b m) (k:Nat) (v:Value) (m':Ms) (hk:k < 26) (e:(msC m').toList=(msC m).toList.set k v):Bm (w.setCell ⟨b,k,none⟩ v) b m':=fun j u hu=>by
 rw [e,List.getElem?_set] at hu
 by_cases hj:k=j
 ·subst hj
  rw [if_pos rfl,if_pos (show k < (msC m).toList.length from hk)] at hu
  obtain ⟨x,hx⟩:∃ x,(msC m).toList[k]? = some x:=⟨_,List.getElem?_eq_getElem (show k < (msC m).toList.length from hk)⟩
  have:=h k x hx
  rw [Nat.zero_add] at this ⊢
  cases hu
  exact World.cell?_setCell_same _ _ _ this
 ·rw [if_neg hj] at hu
  have:=h j u hu
  rw [Nat.zero_add] at this ⊢
  exact (World.cell?_setCell_other _ _ _ _ (by simp [hj])).trans this
structure RW (w:World) (m o:Ms) (X:World):Prop where
 b0:Bm X w.heap.size m
 t1:X.there (w.heap.size + 1) 0 26
 b2:Bm X (w.heap.size + 2) o
 t2:X.there (w.heap.size + 2) 0 26
 z:w.heap.size + 3≤X.heap.size
 g:Below w.heap.size w X
theorem RW.one {w:World} {m o:Ms} {X:World} (h:RW w m o X) (k:Nat) (v:Value) (o':Ms) (hk:k < 26) (e:(msC o').toList=(msC o).toList.set k v):RW w m o' (X.setCell ⟨w.heap.size + 2,k,none⟩ v):=by
 have q:Only (w.heap.size + 2) X (X.setCell ⟨w.heap.size + 2,k,none⟩ v):=(Only.refl _ X).setCell k v
 exact ⟨h.b0.block (q.block _ (by omega)),there_block h.t1 (q.block _ (by omega)),bm_one h.b2 k v o' hk e,World.there_setCells h.t2 (w.heap.size + 2) k [v],by rw [q.size];exact h.z,q.belowK (by omega) h.g⟩
theorem RW.grow {w:World} {m o:Ms} {X Y:World} (h:RW w m o X) (g:Below X.heap.size X Y):RW w m o Y:=by
 have hz:=h.z
 exact ⟨h.b0.block (g.block _ (by omega)),there_block h.t1 (g.block _ (by omega)),h.b2.block (g.block _ (by omega)),there_block h.t2 (g.block _ (by omega)),Nat.le_trans hz g.size,btr h.g g (Nat.le_refl _)⟩
def own0 (m:Ms):Ms:={ ms0 with kind:=m.kind,xid:=m.xid }
theorem RW.start {w W1 V:World} {m:Ms} (hW:rx (rx w m) ms0=W1) (bV:Bm V (w.heap.size + 2) (own0 m)) (tV:V.there (w.heap.size + 2) 0 26) (oV:Only (w.heap.size + 2) (W1.alloc (.cells (msC ms0) 42)) V):RW w m (own0 m) V:=by
 have s1:W1.heap.size=w.heap.size + 2:=by rw [← hW];simp
 have gA:Below W1.heap.size W1 (W1.alloc (.cells (msC ms0) 42)):=by go_grown
 have e:∀ c,c < w.heap.size + 2→V.heap[c]? = W1.heap[c]?:=fun c hc=>(oV.block c (by omega)).trans (gA.block c (by omega))
 have b0:Bm W1 w.heap.size m:=hW ▸ range_two w (msC m) (msC ms0) _ _
 have t1:W1.there (w.heap.size + 1) 0 26:=hW ▸ there_two w (msC m) (msC ms0) _ _
 have g1:Below w.heap.size w W1:=by rw [← hW];go_grown
 exact ⟨b0.block (e _ (by omega)),there_block t1 (e _ (by omega)),bV,tV,by rw [oV.size];simp;omega,oV.belowK (by omega) (btr g1 gA (Nat.le_refl _))⟩
theorem RW.m {w:World} {m o:Ms} {X:World} (h:RW w m o X) (k:Nat) (v:Value) (e:(msC m).toList[k]? = some v):X.cell? ⟨w.heap.size,k,none⟩=some v:=by
 have:=h.b0 k v e;rwa [Nat.zero_add] at this
theorem RW.o {w:World} {m o:Ms} {X:World} (h:RW w m o X) (k:Nat) (v:Value) (e:(msC o).toList[k]? = some v):X.cell? ⟨w.heap.size + 2,k,none⟩=some v:=by
 have:=h.b2 k v e;rwa [Nat.zero_add] at this
theorem RW.f {w:World} {m o:Ms} {X:World} (h:RW w m o X) (k:Nat) (hk:k < 26):X.frozen? ⟨w.heap.size + 2,k,none⟩=false:=by
 have:=(h.t2 k hk).2;rwa [Nat.zero_add] at this
theorem RW.gm {w:World} {m o:Ms} {X:World} (h:RW w m o X) (k:Nat) (v:Value) (e:(msC m).toList[k]? = some v) (n:GhT X (w.heap.size + 1)):n.w.cell? ⟨w.heap.size,k,none⟩=some v:=by
 have hz:=h.z
 have:=(h.b0.hole (by omega) (by omega) n) k v e;rwa [Nat.zero_add] at this
theorem RW.holes {w:World} {m o:Ms} {X:World} (h:RW w m o X):∀ u,(∃ n:GhT X (w.heap.size + 1),u=n.w)→Bm u (w.heap.size + 2) o:=by
 have hz:=h.z
 exact h.b2.holes (by omega) (by omega)
theorem RW.done {w:World} {m o:Ms} {X V:World} (h:RW w m o X) (g:Hole (w.heap.size + 1) X V):Below w.heap.size w V:=by
 have hz:=h.z
 exact g.below h.g (by omega) (by omega)
theorem built_R (K X:Int):Tryz.prog.built 42 [(0,.int .i64 K),(1,.int .i64 X)]=some (msC { ms0 with kind:=K,xid:=X }):=by kernel_rfl
theorem build_R {ops:Array Oper} {rest:List Oper} {op:Oper} {a:Go.Act} {w:World} {Q:Exit→Go.Act→World→Prop} (hgd:op.guard=none) (x y:Operand) (ho:op.op=.build 42 #[(0,x),(1,y)])
    (K X:Int) (hx:a.eval x=.int .i64 K) (hy:a.eval y=.int .i64 X)
    (h:wpList Tryz.prog ops Q rest (a.put op.dst (msV { ms0 with kind:=K,xid:=X })) w):wpList Tryz.prog ops Q (op :: rest) a w:=by
  have hf:Tryz.prog.built 42 ((#[(0,x),(1,y)]:Array (Nat × Operand)).map fun (i,x)=>(i,a.eval x)).toList=some (msC { ms0 with kind:=K,xid:=X }):=by
    have e:((#[(0,x),(1,y)]:Array (Nat × Operand)).map fun (i,x)=>(i,a.eval x)).toList=[(0,.int .i64 K),(1,.int .i64 X)]:=by simp [hx,hy]
    rw [e];exact built_R K X
  refine wpList_build hgd 42 _ ho (by rw [hf];rfl) ?_
  rw [hf]
  exact h
theorem resSMb {fn:Func} {t u v:Tmp} (h:fn.results=#[.tmp u,.cell t 42,.tmp v]) {tmps:Array Value} {w:World} {b:Nat} {m:Ms} (ht:tmps.getD t undef=.pointer (some ⟨b,0,none⟩)) (hs:Bm w b m) :
    (results fn tmps).run Tryz.prog w=.ok (.tuple #[tmps.getD u undef,msV m,tmps.getD v undef]) w:=by
  have ht':tmps[t]?.getD undef=.pointer (some ⟨b,0,none⟩):=by simpa using ht
  simp [results,h,ht',asAddr,loadR w b m hs]
theorem rb_set (m:Ms) (w:World):∃ W1,(w.alloc (.cells #[.int .i64 m.kind,.int .i64 m.xid,.int .i64 m.cmd,.bool m.chk,.int .i64 m.en.tab,.int .i64 m.en.pri,.slice m.en.ta m.en.tl m.en.tc,.slice m.en.aa m.en.la.length m.en.ca,.slice m.en.aw m.en.lw.length m.en.cw,.bool m.en.clr,.int .u64 m.en.mt,.int .u64 m.en.mm,.int .i64 m.en.met,.int .i64 m.en.go,.int .i64 m.gid,.int .i64 m.gkd,.slice m.ga m.gb.length m.gc,.int .i64 m.mid,.int .i64 m.mra,.int .i64 m.mbu,.int .i64 m.typ,.int .i64 m.cod,.int .i64 m.prt,.bool m.live,.slice m.aa m.la.length m.ca,.string m.dat] 42)).alloc (.cells #[.int .i64 0,.int .i64 0,.int .i64 0,.bool false,.int .i64 0,.int .i64 0,.slice none 0 0,.slice none 0 0,.slice none 0 0,.bool false,.int .u64 0,.int .u64 0,.int .i64 0,.int .i64 0,.int .i64 0,.int .i64 0,.slice none 0 0,.int .i64 0,.int .i64 0,.int .i64 0,.int .i64 0,.int .i64 0,.int .i64 0,.bool false,.slice none 0 0,.string ⟨#[]⟩] 42)=W1∧W1.heap.size=w.heap.size + 2∧W1.cell? ⟨w.heap.size,0,none⟩=some (.int .i64 m.kind)∧W1.cell? ⟨w.heap.size,1,none⟩=some (.int .i64 m.xid)∧(W1.alloc (.cells (msC ms0) 42)).there (w.heap.size + 2) 0 26∧Hid (∀ V,Bm V (w.heap.size + 2) (own0 m)→V.there (w.heap.size + 2) 0 26→Only (w.heap.size + 2) (W1.alloc (.cells (msC ms0) 42)) V→RW w m (own0 m) V):=by
 obtain ⟨W1,hW⟩:∃ W1,rx (rx w m) ms0=W1:=⟨_,rfl⟩
 have s1:W1.heap.size=w.heap.size + 2:=by rw [← hW];simp
 refine ⟨W1,hW,s1,hW ▸ (range_two w (msC m) (msC ms0) _ _) 0 _ rfl,hW ▸ (range_two w (msC m) (msC ms0) _ _) 1 _ rfl,?_,(show ∀ V,_ from fun V b t o=>RW.start hW b t o)⟩
 rw [← s1];exact there_new W1 (msC ms0) 42
end Go.Proofs.YtlcbfdiohcbpbaaGreatDoor

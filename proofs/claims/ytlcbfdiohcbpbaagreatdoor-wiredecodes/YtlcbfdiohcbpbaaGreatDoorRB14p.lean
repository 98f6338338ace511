import Derived.Test.YtlcbfdiohcbpbaaGreatDoorRBodyP
import Derived.Test.YtlcbfdiohcbpbaaGreatDoorZD
import Derived.Test.YtlcbfdiohcbpbaaGreatDoorZC2
namespace Go.Proofs.YtlcbfdiohcbpbaaGreatDoor
open Go.ChangeShapes Go.WideShapes Go.ChangeAt Go.RowKit
set_option linter.unusedVariables false
set_option linter.unusedSimpArgs false
def own14a (m:Ms) (b:Bool):Ms:={ own0 m with cmd:=m.cmd,chk:=b }
theorem start14a {w V:World} {m:Ms} (b:Bool) (hb:m.chk=b) (h:RW w m (own0 m) V):∃ U0 U1,V.setCell ⟨w.heap.size + 2,2,none⟩ (.int .i64 m.cmd)=U0∧U0.setCell ⟨w.heap.size + 2,3,none⟩ (.bool b)=U1∧(V.cell? ⟨w.heap.size,0,none⟩=some (.int .i64 m.kind)∧V.cell? ⟨w.heap.size,2,none⟩=some (.int .i64 m.cmd)∧V.cell? ⟨w.heap.size + 2,2,none⟩=some (.int .i64 0)∧V.frozen? ⟨w.heap.size + 2,2,none⟩=false)∧(U0.cell? ⟨w.heap.size,3,none⟩=some (.bool b)∧U0.cell? ⟨w.heap.size + 2,3,none⟩=some (.bool false)∧U0.frozen? ⟨w.heap.size + 2,3,none⟩=false)∧RW w m (own14a m b) U1:=by
 have h1:=h.one 2 (.int .i64 m.cmd) { own0 m with cmd:=m.cmd } (by decide) rfl
 have h2:=h1.one 3 (.bool b) (own14a m b) (by decide) rfl
 exact ⟨_,_,rfl,rfl,⟨h.m 0 _ rfl,h.m 2 _ rfl,h.o 2 _ rfl,h.f 2 (by decide)⟩,⟨h1.m 3 _ (by rw [← hb];rfl),h1.o 3 _ rfl,h1.f 3 (by decide)⟩,h2⟩
theorem bm_some {w:World} {b:Nat} {m:Ms} (h:Bm w b m) (ht:w.there b 0 26) (k:Nat) (vs:List Value) (m':Ms) (hk:k + vs.length≤26) (e:(msC m').toList=(msC m).toList.take k ++ (vs ++ (msC m).toList.drop (k + vs.length))):Bm (w.setCells b k vs) b m':=fun j u hu=>by
 have hl:(msC m).toList.length=26:=rfl
 have ht':w.there b k vs.length:=fun i hi=>by have:=ht (k + i) (by omega);rwa [Nat.zero_add] at this
 rw [e] at hu
 by_cases h1:j < k
 ·rw [List.getElem?_append_left (by simp;omega),List.getElem?_take_of_lt h1] at hu
  have:=h j u hu
  rw [World.cell?_setCells_out b vs k w _ (fun _ _=>.inl (by show 0 + j < k;omega))]
  exact this
 ·rw [List.getElem?_append_right (by simp;omega)] at hu
  have e1:(List.take k (msC m).toList).length=k:=by simp;omega
  rw [e1] at hu
  by_cases h2:j - k < vs.length
  ·rw [List.getElem?_append_left h2] at hu
   have:=World.rangeAt_setCells_same w b k vs ht' (j - k) u hu
   rwa [show k + (j - k)=0 + j by omega] at this
  ·rw [List.getElem?_append_right (by omega),List.getElem?_drop] at hu
   have e2:k + vs.length + (j - k - vs.length)=j:=by omega
   rw [e2] at hu
   rw [World.cell?_setCells_out b vs k w _ (fun _ _=>.inr (by show k + vs.length≤0 + j;omega))]
   exact h j u hu
theorem infoEn (y:En):(Tryz.prog.info? 26).map (·.size)=some (enC y).toList.length:=by kernel_rfl
theorem load_E {ops:Array Oper} {rest:List Oper} {op:Oper} {a:Go.Act} {w:World} {Q:Exit→Go.Act→World→Prop} (hgd:op.guard=none) (x:Operand) (ho:op.op=.load 26 x)
    (b o:Nat) (y:En) (hx:a.eval x=.pointer (some ⟨b,o,none⟩)) (hB:w.rangeAt b o (enC y).toList)
    (h:wpList Tryz.prog ops Q rest (a.put op.dst (enV y)) w):wpList Tryz.prog ops Q (op :: rest) a w :=
  wpList_load_mid hgd 26 x ho b o hx (enC y).toList _ hB Tryz.underlying26 rfl (infoEn y) h
theorem store_E {ops:Array Oper} {rest:List Oper} {op:Oper} {a:Go.Act} {w:World} {Q:Exit→Go.Act→World→Prop} (hgd:op.guard=none) (x z:Operand) (ho:op.op=.store 26 x z)
    (b o:Nat) (y:En) (hx:a.eval x=.pointer (some ⟨b,o,none⟩)) (hz:a.eval z=enV y) (ht:w.there b o 10)
    (h:∀ V,w.setCells b o (enC y).toList=V→wpList Tryz.prog ops Q rest (a.put op.dst undef) V):wpList Tryz.prog ops Q (op :: rest) a w :=
  wpList_store_mid hgd 26 x z ho b o (enC y) hx hz ht (hiE y) (oneE y) (h _ rfl)
theorem RW.e4 {w:World} {m o:Ms} {X:World} (h:RW w m o X):X.rangeAt w.heap.size 4 (enC m.en).toList:=fun j v hv=>by
 have e:(enC m.en).toList=((msC m).toList.drop 4).take 10:=rfl
 rw [e] at hv
 have hj:j < 10:=by
  rcases Nat.lt_or_ge j 10 with h' | h'
  ·exact h'
  ·rw [List.getElem?_eq_none (by simp;omega)] at hv;cases hv
 rw [List.getElem?_take_of_lt hj,List.getElem?_drop] at hv
 have:=h.b0 (4 + j) v hv
 rwa [Nat.zero_add] at this
theorem RW.t4 {w:World} {m o:Ms} {X:World} (h:RW w m o X):X.there (w.heap.size + 2) 4 10:=fun j hj=>by
 have:=h.t2 (4 + j) (by omega)
 rwa [Nat.zero_add] at this
def own14 (m:Ms) (b:Bool):Ms:={ own0 m with cmd:=m.cmd,chk:=b,en:=m.en,ts:=m.ts }
theorem RW.ent {w:World} {m:Ms} {b:Bool} {X V:World} (h:RW w m (own14a m b) X) (e:X.setCells (w.heap.size + 2) 4 (enC m.en).toList=V):RW w m (own14 m b) V:=by
 subst e
 have q:Only (w.heap.size + 2) X (X.setCells (w.heap.size + 2) 4 (enC m.en).toList):=only_cells _ _ _ _ _ (Only.refl _ X)
 exact ⟨h.b0.block (q.block _ (by omega)),there_block h.t1 (q.block _ (by omega)),bm_some h.b2 h.t2 4 (enC m.en).toList (own14 m b) (show 4 + 10≤26 by decide) rfl,World.there_setCells h.t2 (w.heap.size + 2) 4 _,by rw [q.size];exact h.z,q.belowK (by omega) h.g⟩
theorem RW.entX {w:World} {m o:Ms} {U X:World} (R:RW w m o U) (e:(U.alloc (.cells (enC en0) 26)).setCells U.heap.size 0 (enC m.en).toList=X):RW w m o X∧X.rangeAt U.heap.size 0 (enC m.en).toList∧U.heap.size < X.heap.size∧w.heap.size + 3≤U.heap.size:=by
 subst e
 have gA:Below U.heap.size U (U.alloc (.cells (enC en0) 26)):=by go_grown
 have q:Only U.heap.size (U.alloc (.cells (enC en0) 26)) ((U.alloc (.cells (enC en0) 26)).setCells U.heap.size 0 (enC m.en).toList):=only_cells _ _ _ _ _ (Only.refl _ _)
 refine ⟨R.grow (q.belowK (Nat.le_refl _) gA),World.rangeAt_setCells_same _ _ 0 _ (there_new U (enC en0) _),by rw [q.size];simp,R.z⟩
theorem range_at {w:World} {b:Nat} {cs:List Value} (h:w.rangeAt b 0 cs) (k:Nat) (v:Value) (e:cs[k]? = some v):w.cell? ⟨b,k,none⟩=some v:=by
 have:=h k v e;rwa [Nat.zero_add] at this
end Go.Proofs.YtlcbfdiohcbpbaaGreatDoor

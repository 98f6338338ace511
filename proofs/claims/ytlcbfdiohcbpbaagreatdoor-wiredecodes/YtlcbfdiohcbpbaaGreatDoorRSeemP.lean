import Derived.Test.YtlcbfdiohcbpbaaGreatDoorRBks
import Derived.Test.YtlcbfdiohcbpbaaGreatDoorRBodyP
import Derived.Test.YtlcbfdiohcbpbaaGreatDoorRB14p
import Derived.Test.YtlcbfdiohcbpbaaGreatDoorZR2
import Derived.Test.YtlcbfdiohcbpbaaGreatDoorZC4
namespace Go.Proofs.YtlcbfdiohcbpbaaGreatDoor
open Go.ChangeShapes Go.WideShapes Go.ChangeAt Go.RowKit
set_option linter.unusedVariables false
set_option linter.unusedSimpArgs false
structure SQ (w:World) (b:Nat) (o:Ms) (X:World):Prop where
 t0:X.there w.heap.size 0 26
 bm:Bm X b o
 tb:X.there b 0 26
 zb:b < X.heap.size
 z0:w.heap.size < b
 g:Below w.heap.size w X
theorem SQ.one {w:World} {b:Nat} {o:Ms} {X:World} (h:SQ w b o X) (k:Nat) (v:Value) (o':Ms) (hk:k < 26) (e:(msC o').toList=(msC o).toList.set k v):SQ w b o' (X.setCell ⟨b,k,none⟩ v):=by
 have q:Only b X (X.setCell ⟨b,k,none⟩ v):=(Only.refl _ X).setCell k v
 have z:=h.z0
 exact ⟨there_block h.t0 (q.block _ (by omega)),bm_one h.bm k v o' hk e,World.there_setCells h.tb b k [v],by rw [q.size];exact h.zb,h.z0,q.belowK (by omega) h.g⟩
theorem SQ.many {w:World} {b:Nat} {o:Ms} {X:World} (h:SQ w b o X) (k:Nat) (vs:List Value) (o':Ms) (hk:k + vs.length≤26) (e:(msC o').toList=(msC o).toList.take k ++ (vs ++ (msC o).toList.drop (k + vs.length))):SQ w b o' (X.setCells b k vs):=by
 have q:Only b X (X.setCells b k vs):=only_cells _ _ _ _ _ (Only.refl _ X)
 have z:=h.z0
 exact ⟨there_block h.t0 (q.block _ (by omega)),bm_some h.bm h.tb k vs o' hk e,World.there_setCells h.tb b k _,by rw [q.size];exact h.zb,h.z0,q.belowK (by omega) h.g⟩
theorem SQ.grow {w:World} {b:Nat} {o:Ms} {X Y:World} (h:SQ w b o X) (g:Below X.heap.size X Y):SQ w b o Y:=by
 have z:=h.z0
 have zb:=h.zb
 exact ⟨there_block h.t0 (g.block _ (by omega)),h.bm.block (g.block _ zb),there_block h.tb (g.block _ zb),Nat.lt_of_lt_of_le zb g.size,z,btr h.g g (Nat.le_refl _)⟩
theorem SQ.start {w w2 V:World} {K X:Int} (t:w2.there w.heap.size 0 26) (z:w.heap.size < w2.heap.size) (g:Below w.heap.size w w2) (bV:Bm V w2.heap.size { ms0 with kind:=K,xid:=X }) (tV:V.there w2.heap.size 0 26) (oV:Only w2.heap.size (w2.alloc (.cells (msC ms0) 42)) V):SQ w w2.heap.size { ms0 with kind:=K,xid:=X } V:=by
 have gA:Below w2.heap.size w2 (w2.alloc (.cells (msC ms0) 42)):=by go_grown
 have gV:=oV.belowK (Nat.le_refl _) gA
 exact ⟨there_block t (gV.block _ z),bV,tV,by rw [oV.size];simp,z,btr g gV (Nat.le_refl _)⟩
theorem SQ.o {w:World} {b:Nat} {o:Ms} {X:World} (h:SQ w b o X) (k:Nat) (v:Value) (e:(msC o).toList[k]? = some v):X.cell? ⟨b,k,none⟩=some v:=by
 have:=h.bm k v e;rwa [Nat.zero_add] at this
theorem SQ.f {w:World} {b:Nat} {o:Ms} {X:World} (h:SQ w b o X) (k:Nat) (hk:k < 26):X.frozen? ⟨b,k,none⟩=false:=by
 have:=(h.tb k hk).2;rwa [Nat.zero_add] at this
theorem SQ.t4 {w:World} {b:Nat} {o:Ms} {X:World} (h:SQ w b o X) (k n:Nat) (hk:k + n≤26):X.there b k n:=fun j hj=>by
 have:=h.tb (k + j) (by omega)
 rwa [Nat.zero_add] at this
theorem Keeps.trans {n:Nat} {x y z:World} (h:Keeps n x y) (g:Keeps n y z):Keeps n x z:=⟨Nat.le_trans h.size g.size,fun k h1 h2=>(g.block k h1 (Nat.lt_of_lt_of_le h2 h.size)).trans (h.block k h1 h2)⟩
theorem Keeps.only {n b:Nat} {x y:World} (o:Only b x y) (h:b < n):Keeps n x y:=⟨by rw [o.size];exact Nat.le_refl _,fun k h1 _=>o.block k (by omega)⟩
theorem Keeps.grow {n:Nat} {x y:World} (g:Below x.heap.size x y):Keeps n x y:=⟨g.size,fun k _ h=>g.block k h⟩
theorem Keeps.mono {n k:Nat} {x y:World} (h:Keeps n x y) (hk:n≤k):Keeps k x y:=⟨h.size,fun g h1 h2=>h.block g (by omega) h2⟩
theorem rdec5 (d:ByteArray) (w:World) (hs:d.size≤100000) :
    Calls Tryz.prog 59 #[.string d] w fun e w'=>∃ a cap,e=.returned (.tuple #[.slice a (flTs d).length cap,.int .i64 (flN d),.int .i64 (flE d)])∧(flTs d).length≤cap∧Mt.TsF w.heap.size w' a (flTs d)∧Below w.heap.size w w':=by
  unfold flTs flN flE
  by_cases h:okF d=true
  · rw [if_pos h,if_pos h,if_pos h]
    exact Mt.rdec_yes d w hs ((okF_iff d).1 h)
  · rw [if_neg h,if_neg h,if_neg h]
    exact (Mt.rdec_nope d w hs (fun q=>h ((okF_iff d).2 q))).mono fun e w' ⟨h1,h2⟩=>⟨none,0,h1,Nat.le_refl _,.inl rfl,h2⟩
def sB (d:ByteArray):ByteArray:=d.extract 8 d.size
def s13 (S:ByteArray):Nat:=(min (numB S 8 2) (max 0 ((S.size:Int) - 16))).toNat
def f14 (S:ByteArray):ByteArray:=S.extract 40 S.size
def seM (d:ByteArray):Msg :=
 if numB d 1 1=1 then { msg0 (numB d 1 1) (numB d 4 4) with typ:=numB (sB d) 0 2,cod:=numB (sB d) 2 2,dat:=(sB d).extract 4 (sB d).size }
 else if numB d 1 1=2∨numB d 1 1=3 then { msg0 (numB d 1 1) (numB d 4 4) with dat:=sB d }
 else if numB d 1 1=12 then { msg0 (numB d 1 1) (numB d 4 4) with prt:=numB (sB d) 8 4,live:=(numB (sB d) 44 4 == 0) }
 else if numB d 1 1=13 then { msg0 (numB d 1 1) (numB d 4 4) with prt:=numB (sB d) 4 4,la:=actsV (partB (sB d) 16 (s13 (sB d))),dat:=(sB d).extract (16 + numB (sB d) 8 2).toNat (sB d).size }
 else if numB d 1 1=14 then { msg0 (numB d 1 1) (numB d 4 4) with cmd:=numB (sB d) 17 1,chk:=(numB (sB d) 36 2 == 2),pri:=numB (sB d) 22 2,ts:=flTs (f14 (sB d)),sp:=(decX (numB (sB d) 16 1) ((sB d).extract (40 + flN (f14 (sB d))).toNat (sB d).size)).1 }
 else if numB d 1 1=15 then { msg0 (numB d 1 1) (numB d 4 4) with cmd:=numB (sB d) 0 2,gid:=numB (sB d) 4 4,gkd:=numB (sB d) 2 1 + 1,gb:=bksB 17 ((sB d).extract 8 (sB d).size) }
 else if numB d 1 1=29 then { msg0 (numB d 1 1) (numB d 4 4) with cmd:=numB (sB d) 0 2,mid:=numB (sB d) 4 4,mra:=numB (sB d) 12 4,mbu:=numB (sB d) 16 4 }
 else msg0 (numB d 1 1) (numB d 4 4)
abbrev SeM (d:ByteArray) (w:World) (e:Ending) (w':World):Prop:=∃ m:Ms,e=.returned (msV m)∧m.msg=seM d∧(∀ V,Keeps w.heap.size w' V→MW V m)∧MU m∧Below w.heap.size w w'
end Go.Proofs.YtlcbfdiohcbpbaaGreatDoor

/-
  A message that is an echo: its bytes, and it out of them, as contracts.
-/
import Derived.Test.YtoklgdpdeghkpaaGreatDoorE1
namespace Go.Proofs.YtoklgdpdeghkpaaGreatDoor
open Go.ChangeShapes Go.WideShapes Go.ChangeAt Go.RowKit
set_option linter.unusedVariables false
set_option linter.unusedSimpArgs false

/-- A message that has a Kind, an Xid and Data alone. -/
structure Ms where
  kind : Int
  xid : Int
  dat : ByteArray
abbrev msV (m : Ms) : Value := .agg #[.int .i64 m.kind, .int .i64 m.xid, .int .i64 0, .bool false, .int .i64 0, .int .i64 0, .slice none 0 0, .slice none 0 0, .slice none 0 0, .bool false, .int .u64 0, .int .u64 0, .int .i64 0, .int .i64 0, .int .i64 0, .int .i64 0, .slice none 0 0, .int .i64 0, .int .i64 0, .int .i64 0, .int .i64 0, .int .i64 0, .int .i64 0, .bool false, .slice none 0 0, .string m.dat]
abbrev msC (m : Ms) : Array Value := #[.int .i64 m.kind, .int .i64 m.xid, .int .i64 0, .bool false, .int .i64 0, .int .i64 0, .slice none 0 0, .slice none 0 0, .slice none 0 0, .bool false, .int .u64 0, .int .u64 0, .int .i64 0, .int .i64 0, .int .i64 0, .int .i64 0, .slice none 0 0, .int .i64 0, .int .i64 0, .int .i64 0, .int .i64 0, .int .i64 0, .int .i64 0, .bool false, .slice none 0 0, .string m.dat]
abbrev mx (w : World) (m : Ms) : World := w.alloc (.cells (msC m) 52)
def ms0 : Ms := ⟨0, 0, ⟨#[]⟩⟩
/-- Cells that lie in a block. -/
theorem range_new (w : World) (cs : Array Value) (t : TypeId) : (w.alloc (.cells cs t)).rangeAt w.heap.size 0 cs.toList := fun j v hv => by
  rw [Nat.zero_add]
  simpa using hv
theorem range_block {w w' : World} {b o : Nat} {cs : List Value} (h : w.rangeAt b o cs) (g : w'.heap[b]? = w.heap[b]?) : w'.rangeAt b o cs := fun j v hv => (World.cell?_of_block (w := w) g).trans (h j v hv)
/-- A message lies in block b. -/
def Bm (w : World) (b : Nat) (m : Ms) : Prop := w.rangeAt b 0 (msC m).toList
theorem Bm.new (w : World) (m : Ms) : Bm (mx w m) w.heap.size m := range_new w (msC m) _
theorem Bm.block {w w' : World} {b : Nat} {m : Ms} (h : Bm w b m) (g : w'.heap[b]? = w.heap[b]?) : Bm w' b m := range_block h g
theorem Bm.below {w w' : World} {b B : Nat} {m : Ms} (h : Bm w b m) (hb : b < B) (g : Below B w w') : Bm w' b m := h.block (g.block b hb)
theorem Bm.gr {W : World} {b : Nat} {m : Ms} (h : Bm W b m) (hb : b < W.heap.size) (n : GrT W) : Bm n.w b m := h.below hb n.h
theorem infoM (m : Ms) : (Tryz.prog.info? 52).map (·.size) = some (msC m).toList.length := by kernel_rfl
theorem loadM (w : World) (b : Nat) (m : Ms) (h : Bm w b m) : (loadVar 52 ⟨b, 0, none⟩).run Tryz.prog w = .ok (msV m) w := run_loadVar_mid w b 0 52 (msC m).toList _ h Tryz.underlying52 rfl (infoM m)
theorem resM {fn : Func} {t : Tmp} (h : fn.results = #[.cell t 52]) {tmps : Array Value} {w : World} {b : Nat} {m : Ms} (ht : tmps.getD t undef = .pointer (some ⟨b, 0, none⟩)) (hs : Bm w b m) :
    (results fn tmps).run Tryz.prog w = .ok (msV m) w := by
  have ht' : tmps[t]?.getD undef = .pointer (some ⟨b, 0, none⟩) := by simpa using ht
  simp [results, h, ht', asAddr, loadM w b m hs]
theorem resMee {fn : Func} {t u v : Tmp} (h : fn.results = #[.cell t 52, .tmp u, .tmp v]) {tmps : Array Value} {w : World} {b : Nat} {m : Ms} (ht : tmps.getD t undef = .pointer (some ⟨b, 0, none⟩)) (hs : Bm w b m) :
    (results fn tmps).run Tryz.prog w = .ok (.tuple #[msV m, tmps.getD u undef, tmps.getD v undef]) w := by
  have ht' : tmps[t]?.getD undef = .pointer (some ⟨b, 0, none⟩) := by simpa using ht
  simp [results, h, ht', asAddr, loadM w b m hs]
theorem there_new (w : World) (c : Array Value) (t : TypeId) : (w.alloc (.cells c t)).there w.heap.size 0 c.size := fun j hj => by
  rw [Nat.zero_add]
  simp [hj]
theorem there_two (w : World) (c1 c2 : Array Value) (t1 t2 : TypeId) : ((w.alloc (.cells c1 t1)).alloc (.cells c2 t2)).there (w.heap.size + 1) 0 c2.size := by
  have h := there_new (w.alloc (.cells c1 t1)) c2 t2
  simpa using h
theorem range_two (w : World) (c1 c2 : Array Value) (t1 t2 : TypeId) : ((w.alloc (.cells c1 t1)).alloc (.cells c2 t2)).rangeAt w.heap.size 0 c1.toList :=
  range_block (range_new w c1 t1) (heap_alloc_old _ _ (by simp))
theorem there_block {w w' : World} {b o n : Nat} (h : w.there b o n) (g : w'.heap[b]? = w.heap[b]?) : w'.there b o n := fun j hj => by
  rw [World.cell?_of_block (w := w) g, World.frozen?_of_block (w := w) g]
  exact h j hj
theorem hiM (m : Ms) : (Tryz.prog.info? 52).map (·.size) = some (msC m).size := by kernel_rfl
theorem oneM (m : Ms) : (msC m).all (·.oneCell') = true := by simp [Value.oneCell']
/-- All of a message is written into block b. -/
abbrev sM (w : World) (b : Nat) (m : Ms) : World := w.setCells b 0 (msC m).toList
theorem only_cells (b : Nat) : ∀ (vs : List Value) (o : Nat) (w w' : World), Only b w w' → Only b w (w'.setCells b o vs)
  | [], _, _, _, g => g
  | _ :: r, o, _, _, g => only_cells b r (o + 1) _ _ (g.setCell o _)
theorem only_sM (w : World) (b : Nat) (m : Ms) : Only b w (sM w b m) := only_cells b _ _ _ _ (Only.refl b w)
theorem bm_set {w : World} {b : Nat} (m : Ms) (h : w.there b 0 26) : Bm (sM w b m) b m := World.rangeAt_setCells_same w b 0 (msC m).toList h
theorem Only.trans {b : Nat} {x y z : World} (h : Only b x y) (g : Only b y z) : Only b x z := ⟨g.os.trans h.os, g.tape.trans h.tape, g.output.trans h.output, g.size.trans h.size, fun k hk => (g.block k hk).trans (h.block k hk)⟩
theorem Only.belowK {b k : Nat} {w w' a : World} (h : Only b w w') (hb : k ≤ b) (g : Below k a w) : Below k a w' :=
  g.trans ⟨h.os, h.tape, h.output, by rw [h.size]; exact Nat.le_refl _, fun j hj => h.block j (by omega)⟩
theorem load_M {ops : Array Oper} {rest : List Oper} {op : Oper} {a : Go.Act} {w : World} {Q : Exit → Go.Act → World → Prop} (hgd : op.guard = none) (x : Operand) (ho : op.op = .load 52 x)
    (b : Nat) (m : Ms) (hx : a.eval x = .pointer (some ⟨b, 0, none⟩)) (hB : Bm w b m)
    (h : wpList Tryz.prog ops Q rest (a.put op.dst (msV m)) w) : wpList Tryz.prog ops Q (op :: rest) a w :=
  wpList_load_mid hgd 52 x ho b 0 hx (msC m).toList _ hB Tryz.underlying52 rfl (infoM m) h
theorem store_M {ops : Array Oper} {rest : List Oper} {op : Oper} {a : Go.Act} {w : World} {Q : Exit → Go.Act → World → Prop} (hgd : op.guard = none) (x y : Operand) (ho : op.op = .store 52 x y)
    (b : Nat) (m : Ms) (hx : a.eval x = .pointer (some ⟨b, 0, none⟩)) (hy : a.eval y = msV m) (ht : w.there b 0 26)
    (h : ∀ V, Bm V b m → V.there b 0 26 → Only b w V → wpList Tryz.prog ops Q rest (a.put op.dst undef) V) : wpList Tryz.prog ops Q (op :: rest) a w :=
  wpList_store_mid hgd 52 x y ho b 0 (msC m) hx hy ht (hiM m) (oneM m) (h _ (bm_set m ht) (World.there_setCells ht b 0 _) (only_sM w b m))
theorem load_Mg {ops : Array Oper} {rest : List Oper} {op : Oper} {a : Go.Act} {w : World} {Q : Exit → Go.Act → World → Prop} (hw : Region.wanted op (yielded ops a.tmps) = true) (x : Operand) (ho : op.op = .load 52 x)
    (b : Nat) (m : Ms) (hx : a.eval x = .pointer (some ⟨b, 0, none⟩)) (hB : Bm w b m)
    (h : wpList Tryz.prog ops Q rest (a.put op.dst (msV m)) w) : wpList Tryz.prog ops Q (op :: rest) a w :=
  BigFrame.wpList_want hw fun _ hK => wp_load_mid 52 x ho b 0 hx (msC m).toList _ hB Tryz.underlying52 rfl (infoM m) (hK _ _ h)
/-- One cell of a message is written. -/
theorem bm_set1 {w : World} {b : Nat} {m : Ms} (h : Bm w b m) (k : Nat) (v : Value) (m' : Ms) (hk : k < 26) (e : (msC m').toList = (msC m).toList.set k v) : Bm (w.setCell ⟨b, k, none⟩ v) b m' := fun j u hu => by
  rw [e, List.getElem?_set] at hu
  by_cases hj : k = j
  · subst hj
    rw [if_pos rfl, if_pos (show k < (msC m).toList.length from hk)] at hu
    obtain ⟨x, hx⟩ : ∃ x, (msC m).toList[k]? = some x := ⟨_, List.getElem?_eq_getElem (show k < (msC m).toList.length from hk)⟩
    have := h k x hx
    rw [Nat.zero_add] at this ⊢
    cases hu
    exact World.cell?_setCell_same _ _ _ this
  · rw [if_neg hj] at hu
    have := h j u hu
    rw [Nat.zero_add] at this ⊢
    exact (World.cell?_setCell_other _ _ _ _ (by simp [hj])).trans this
theorem there_set1 {w : World} {b c n : Nat} (h : w.there b 0 n) (k : Nat) (v : Value) : (w.setCell ⟨c, k, none⟩ v).there b 0 n := World.there_setCells h c k [v]
set_option maxRecDepth 20000 in
theorem built_M (K : Int) : Tryz.prog.built 52 [(0, .int .i64 K)] = some (msC { ms0 with kind := K }) := by kernel_rfl
/-- A message is built of its kind alone. -/
theorem build_M {ops : Array Oper} {rest : List Oper} {op : Oper} {a : Go.Act} {w : World} {Q : Exit → Go.Act → World → Prop} (hgd : op.guard = none) (x : Operand) (ho : op.op = .build 52 #[(0, x)])
    (K : Int) (hx : a.eval x = .int .i64 K)
    (h : wpList Tryz.prog ops Q rest (a.put op.dst (msV { ms0 with kind := K })) w) : wpList Tryz.prog ops Q (op :: rest) a w := by
  have hf : Tryz.prog.built 52 ((#[(0, x)] : Array (Nat × Operand)).map fun (i, x) => (i, a.eval x)).toList = some (msC { ms0 with kind := K }) := by
    have e : ((#[(0, x)] : Array (Nat × Operand)).map fun (i, x) => (i, a.eval x)).toList = [(0, .int .i64 K)] := by simp [hx]
    rw [e]; exact built_M K
  refine wpList_build hgd 52 _ ho (by rw [hf]; rfl) ?_
  rw [hf]
  exact h
def hdK (d : ByteArray) : Int := ((⟨d, 0⟩ : RS).jump 1).num 1
def hdX (d : ByteArray) : Int := ((((⟨d, 0⟩ : RS).jump 1).skip 1).jump 2).num 4
def hdR (d : ByteArray) : RS := ((((⟨d, 0⟩ : RS).jump 1).skip 1).jump 2).skip 4
set_option maxHeartbeats 400000 in
theorem within_yes (n lo hi : Int) (w : World) (h1 : lo ≤ n) (h2 : n ≤ hi) : Calls Tryz.prog 107 #[.int .i64 n, .int .i64 lo, .int .i64 hi] w fun e w' => e = .returned (.bool true) ∧ w' = w := by
  go_enter Tryz.func107, Tryz.ntmps107
  go_wp2
  go_ret
  exact ⟨rfl, rfl⟩
end Go.Proofs.YtoklgdpdeghkpaaGreatDoor

/-
  What the laws' loops carry: the tables and what they have; cells in regions that draw.
-/
import Derived.Test.YtjjfhibkcngphaaDoorFMath
import Derived.Test.YtjjfhibkcngphaaDoorFAwake
import Derived.Test.YtjjfhibkcngphaaDoorMRTakes
namespace Go.Proofs.YtjjfhibkcngphaaDoor
open Go.ChangeShapes Go.WideShapes Go.ChangeAt Go.RowKit
set_option linter.unusedVariables false
set_option linter.unusedSimpArgs false

theorem be_gr0 {W : World} {b : Nat} {x : Fe} (h : Be W b 0 x) (hb : b < W.heap.size) : (∀ n : GrT W, n.w.cell? ⟨b, 0, none⟩ = some (.int .i64 x.p.tab)) ∧ (∀ n : GrT W, n.w.cell? ⟨b, 1, none⟩ = some (.int .i64 x.p.pri)) ∧ (∀ n : GrT W, n.w.cell? ⟨b, 2, none⟩ = some (.slice x.ta x.p.lt.length x.tc)) ∧ (∀ n : GrT W, n.w.cell? ⟨b, 3, none⟩ = some (.slice x.aa x.p.la.length x.ca)) ∧ (∀ n : GrT W, n.w.cell? ⟨b, 4, none⟩ = some (.slice x.aw x.p.lw.length x.cw)) ∧ (∀ n : GrT W, n.w.cell? ⟨b, 5, none⟩ = some (.bool x.p.clr)) ∧ (∀ n : GrT W, n.w.cell? ⟨b, 6, none⟩ = some (.int .u64 x.p.mt)) ∧ (∀ n : GrT W, n.w.cell? ⟨b, 7, none⟩ = some (.int .u64 x.p.mm)) ∧ (∀ n : GrT W, n.w.cell? ⟨b, 8, none⟩ = some (.int .i64 x.p.met)) ∧ (∀ n : GrT W, n.w.cell? ⟨b, 9, none⟩ = some (.int .i64 x.p.go)) :=
  ⟨fun n => (h.gr hb n).at0 0 _ rfl, fun n => (h.gr hb n).at0 1 _ rfl, fun n => (h.gr hb n).at0 2 _ rfl, fun n => (h.gr hb n).at0 3 _ rfl, fun n => (h.gr hb n).at0 4 _ rfl, fun n => (h.gr hb n).at0 5 _ rfl, fun n => (h.gr hb n).at0 6 _ rfl, fun n => (h.gr hb n).at0 7 _ rfl, fun n => (h.gr hb n).at0 8 _ rfl, fun n => (h.gr hb n).at0 9 _ rfl⟩
theorem be_gr {W : World} {b o : Nat} {x : Fe} (h : Be W b o x) (hb : b < W.heap.size) : (∀ n : GrT W, n.w.cell? ⟨b, o, none⟩ = some (.int .i64 x.p.tab)) ∧ (∀ n : GrT W, n.w.cell? ⟨b, o + 1, none⟩ = some (.int .i64 x.p.pri)) ∧ (∀ n : GrT W, n.w.cell? ⟨b, o + 2, none⟩ = some (.slice x.ta x.p.lt.length x.tc)) ∧ (∀ n : GrT W, n.w.cell? ⟨b, o + 3, none⟩ = some (.slice x.aa x.p.la.length x.ca)) ∧ (∀ n : GrT W, n.w.cell? ⟨b, o + 4, none⟩ = some (.slice x.aw x.p.lw.length x.cw)) ∧ (∀ n : GrT W, n.w.cell? ⟨b, o + 5, none⟩ = some (.bool x.p.clr)) ∧ (∀ n : GrT W, n.w.cell? ⟨b, o + 6, none⟩ = some (.int .u64 x.p.mt)) ∧ (∀ n : GrT W, n.w.cell? ⟨b, o + 7, none⟩ = some (.int .u64 x.p.mm)) ∧ (∀ n : GrT W, n.w.cell? ⟨b, o + 8, none⟩ = some (.int .i64 x.p.met)) ∧ (∀ n : GrT W, n.w.cell? ⟨b, o + 9, none⟩ = some (.int .i64 x.p.go)) :=
  ⟨fun n => h.gr hb n 0 _ rfl, fun n => h.gr hb n 1 _ rfl, fun n => h.gr hb n 2 _ rfl, fun n => h.gr hb n 3 _ rfl, fun n => h.gr hb n 4 _ rfl, fun n => h.gr hb n 5 _ rfl, fun n => h.gr hb n 6 _ rfl, fun n => h.gr hb n 7 _ rfl, fun n => h.gr hb n 8 _ rfl, fun n => h.gr hb n 9 _ rfl⟩
theorem sn_gr {W : World} {b : Nat} {s : Mt.Sn} (h : W.rangeAt b 0 (Mt.snC s).toList) (hb : b < W.heap.size) : (∀ n : GrT W, n.w.cell? ⟨b, 0, none⟩ = some (.int .i64 s.inp)) ∧ (∀ n : GrT W, n.w.cell? ⟨b, 1, none⟩ = some (.int .u64 s.mt)) ∧ (∀ n : GrT W, n.w.cell? ⟨b, 2, none⟩ = some (.int .u64 s.to)) ∧ (∀ n : GrT W, n.w.cell? ⟨b, 3, none⟩ = some (.int .u64 s.fr)) ∧ (∀ n : GrT W, n.w.cell? ⟨b, 4, none⟩ = some (.int .i64 s.vl)) ∧ (∀ n : GrT W, n.w.cell? ⟨b, 5, none⟩ = some (.int .i64 s.ty)) ∧ (∀ n : GrT W, n.w.cell? ⟨b, 6, none⟩ = some (.int .u32 s.src)) ∧ (∀ n : GrT W, n.w.cell? ⟨b, 7, none⟩ = some (.int .u32 s.dst)) ∧ (∀ n : GrT W, n.w.cell? ⟨b, 8, none⟩ = some (.int .i64 s.life)) ∧ (∀ n : GrT W, n.w.cell? ⟨b, 9, none⟩ = some (.int .i64 s.pro)) ∧ (∀ n : GrT W, n.w.cell? ⟨b, 10, none⟩ = some (.int .i64 s.sp)) ∧ (∀ n : GrT W, n.w.cell? ⟨b, 11, none⟩ = some (.int .i64 s.dp)) ∧ (∀ n : GrT W, n.w.cell? ⟨b, 12, none⟩ = some (.string s.data)) := by
  have k : ∀ (n : GrT W) (j : Nat) (v : Value), (Mt.snC s).toList[j]? = some v → n.w.cell? ⟨b, j, none⟩ = some v := fun n j v hv => by
    have h1 := h j v hv
    rw [Nat.zero_add] at h1
    exact (n.h.cell (p := ⟨b, j, none⟩) hb).trans h1
  exact ⟨fun n => k n 0 _ rfl, fun n => k n 1 _ rfl, fun n => k n 2 _ rfl, fun n => k n 3 _ rfl, fun n => k n 4 _ rfl, fun n => k n 5 _ rfl, fun n => k n 6 _ rfl, fun n => k n 7 _ rfl, fun n => k n 8 _ rfl, fun n => k n 9 _ rfl, fun n => k n 10 _ rfl, fun n => k n 11 _ rfl, fun n => k n 12 _ rfl⟩
/-- The parent's class of grown worlds, and match's. -/
theorem gr_mt {W w' : World} (g : Below W.heap.size W w') : ∃ n : GrT W, w' = n.w := ⟨some ⟨w', g⟩, rfl⟩
/-- What a law's loop carries. -/
structure LI (w0 wr : World) (f : Nat) (S : Nat → Prop) (room : Int) (P : Nat → List Fp) : Prop where
  fs : Fs wr f S room P
  sb : ∀ b, S b → w0.heap.size ≤ b
  bl : Below w0.heap.size w0 wr
theorem LI.below {w0 wr w' : World} {f : Nat} {S : Nat → Prop} {room : Int} {P : Nat → List Fp} (h : LI w0 wr f S room P) (g : Below wr.heap.size wr w') : LI w0 w' f S room P := ⟨h.fs.below g, h.sb, btr h.bl g (Nat.le_refl _)⟩
theorem LI.kept {w0 wr w' : World} {f : Nat} {S S' : Nat → Prop} {room : Int} {P Q : Nat → List Fp} (h : LI w0 wr f S room P) (k : Kept S wr w') (hf : Fs w' f S' room Q) (hs : ∀ b, S' b → S b ∨ wr.heap.size ≤ b) : LI w0 w' f S' room Q := by
  refine ⟨hf, fun b hb => ?_, h.bl.trans (k.below h.bl.size h.sb)⟩
  rcases hs b hb with h1 | h1
  · exact h.sb b h1
  · exact Nat.le_trans h.bl.size h1
theorem LI.do_ {w0 wr : World} {f : Nat} {S : Nat → Prop} {room : Int} {P : Nat → List Fp} (h : LI w0 wr f S room P) (o : Opn) (hx : FIn w0 o.x) (hf : fewB o.x.p = true) (hd : Cd w0) :
    Calls Tryd.prog 10 #[.pointer (some ⟨f, 0, none⟩), opV o] wr fun e w' => e = .returned (.int .i64 (doR room P o.ask o.x.p o.hard)) ∧ ∃ S', LI w0 w' f S' room (doP room P o.ask o.x.p o.hard) :=
  (do_any f S room P o wr h.fs ((hx.fw hf).below h.bl) (fun b hb hs => by have := h.sb b hs; have := hx.lt hb; omega) (hd.below h.bl)).mono fun _ _ ⟨a, S', b, c, d⟩ => ⟨a, S', h.kept c b d⟩
theorem LI.add {w0 wr : World} {f : Nat} {S : Nat → Prop} {room : Int} {P : Nat → List Fp} (h : LI w0 wr f S room P) (x : Fe) (chk : Bool) (hx : FIn w0 x) (hf : fewB x.p = true) (hd : Cd w0) :
    Calls Tryd.prog 17 #[.pointer (some ⟨f, 0, none⟩), feV x, .bool chk] wr fun e w' => e = .returned (.int .i64 (addR room P x.p chk)) ∧ ∃ S', LI w0 w' f S' room (addT room P x.p chk) :=
  (add_any f S room P x chk wr h.fs ((hx.fw hf).below h.bl) (hd.below h.bl)).mono fun _ _ ⟨a, S', b, c, d⟩ => ⟨a, S', h.kept c b d⟩
theorem LI.len {w0 wr : World} {f : Nat} {S : Nat → Prop} {room : Int} {P : Nat → List Fp} (h : LI w0 wr f S room P) (t : Int) : ((tabOf P t).length : Int) ≤ room := by
  obtain ⟨V, L, hF, hp⟩ := h.fs
  unfold tabOf
  split
  · rename_i ht
    have h8 : t.toNat < 8 := by omega
    rw [← hp _ h8, List.length_map]
    exact hF.nm _ h8
  · have := hF.r1
    simp; omega
theorem LI.room {w0 wr : World} {f : Nat} {S : Nat → Prop} {room : Int} {P : Nat → List Fp} (h : LI w0 wr f S room P) : 1 ≤ room ∧ room ≤ 256 := by
  obtain ⟨V, L, hF, hp⟩ := h.fs
  exact ⟨hF.r1, hF.r2⟩
/-- A whole call is loaded, and stored. -/
theorem infoO (o : Opn) : (Tryd.prog.info? 40).map (·.size) = some (opC o).toList.length := by kernel_rfl
theorem hiO (o : Opn) : (Tryd.prog.info? 40).map (·.size) = some (opC o).size := by kernel_rfl
theorem oneO (o : Opn) : (opC o).all (·.oneCell') = true := by simp [Value.oneCell']
theorem load_O {ops : Array Oper} {rest : List Oper} {op : Oper} {a : Go.Act} {w : World} {Q : Exit → Go.Act → World → Prop} (hw : Region.wanted op (yielded ops a.tmps) = true) (t : Operand) (ho : op.op = .load 40 t)
    (b k : Nat) (o : Opn) (hx : a.eval t = .pointer (some ⟨b, k, none⟩)) (hB : w.rangeAt b k (opC o).toList)
    (h : wpList Tryd.prog ops Q rest (a.put op.dst (opV o)) w) : wpList Tryd.prog ops Q (op :: rest) a w :=
  BigFrame.wpList_want hw fun _ hK => wp_load_mid 40 t ho b k hx (opC o).toList _ hB Tryd.underlying40 rfl (infoO o) (hK _ _ h)
theorem store_O {ops : Array Oper} {rest : List Oper} {op : Oper} {a : Go.Act} {w : World} {Q : Exit → Go.Act → World → Prop} (hgd : op.guard = none) (t y : Operand) (ho : op.op = .store 40 t y)
    (b k : Nat) (o : Opn) (hx : a.eval t = .pointer (some ⟨b, k, none⟩)) (hy : a.eval y = opV o) (ht : w.there b k 12)
    (h : ∀ V, V.rangeAt b k (opC o).toList → Only b w V → wpList Tryd.prog ops Q rest (a.put op.dst undef) V) : wpList Tryd.prog ops Q (op :: rest) a w :=
  wpList_store_mid hgd 40 t y ho b k (opC o) hx hy ht (hiO o) (oneO o) (h _ (World.rangeAt_setCells_same w b k (opC o).toList ht) (only_cells b _ _ _ _ (Only.refl b w)))
abbrev zeroO : Array Value := #[.int .i64 0, .int .i64 0, .int .i64 0, .slice none 0 0, .slice none 0 0, .slice none 0 0, .bool false, .int .u64 0, .int .u64 0, .int .i64 0, .int .i64 0, .bool false]
theorem OpAt.at {w : World} {a : Option Addr} {l : List Opn} (h : OpAt w a l) {k : Nat} (hk : k < l.length) : ∃ g o, a = some ⟨g, o, none⟩ ∧ g < w.heap.size ∧ w.rangeAt g (o + k * 12) (opC l[k]).toList := by
  rcases h with rfl | ⟨g, o, ha, hg, hc⟩
  · cases hk
  · exact ⟨g, o, ha, hg, hc k hk⟩
theorem EnAt.at {w : World} {a : Option Addr} {l : List Fe} (h : EnAt w a l) {k : Nat} (hk : k < l.length) : ∃ g o, a = some ⟨g, o, none⟩ ∧ g < w.heap.size ∧ Be w g (o + k * 10) l[k] := by
  rcases h with rfl | ⟨g, o, ha, hg, hc⟩
  · cases hk
  · exact ⟨g, o, ha, hg, hc k hk⟩
end Go.Proofs.YtjjfhibkcngphaaDoor

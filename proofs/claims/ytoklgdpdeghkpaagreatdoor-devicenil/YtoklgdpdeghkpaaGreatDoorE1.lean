/-
  Numbers as bytes and a reader of bytes, as contracts; a region that draws its order, whose callees make memory.
-/
import Derived.Test.YtoklgdpdeghkpaaGreatDoorRows
import Derived.Test.YtoklgdpdeghkpaaGreatDoorNum
import Derived.WalkKit
import Derived.ProofKit
import Derived.OpenShut
import Derived.Handy
import Derived.BigQuiet
import Derived.Deep.RegionWith
import Derived.Laws.ResultCell
import Derived.Laws.BytesArg
import Derived.Laws.StructEq
import Derived.Deep.MidRow
namespace Go.Proofs.YtoklgdpdeghkpaaGreatDoor
open Go.ChangeShapes Go.WideShapes Go.ChangeAt Go.RowKit
set_option linter.unusedVariables false
set_option linter.unusedSimpArgs false

/-- A world that was grown out of another one. -/
structure GrS (W : World) where
  w : World
  h : Below W.heap.size W w
/-- Such a world, or that one itself. -/
abbrev GrT (W : World) : Type := Option (GrS W)
def GrT.w {W : World} : GrT W → World
  | none => W
  | some g => g.w
theorem GrT.h {W : World} : (n : GrT W) → Below W.heap.size W n.w
  | none => Below.refl _ _
  | some g => g.h
theorem gr_elim {W w' : World} (h : ∃ n : GrT W, w' = n.w) : Below W.heap.size W w' := by
  obtain ⟨n, rfl⟩ := h
  exact n.h
theorem wp_region_grow {P : Program} {id : Nat} {Q : Exit → Act → World → Prop} {a : Act} {w : World} {l : List Oper} (hm : P.follows .mixedOrders = true) (hB : Region.lexB .any l.toArray = true)
    (h : wpQuiet P l.toArray (fun w' => ∃ n : GrT w, w' = n.w) (fun a' => ∀ w', (∃ n : GrT w, w' = n.w) → Q .normal a' w') l a) : (Code.region id l.toArray true).wp P Q a w :=
  wp_region_quiet (C := fun w' => ∃ n : GrT w, w' = n.w) hm hB ⟨some ⟨_, (Below.refl _ w).drew⟩, rfl⟩ (by simpa using h)
theorem btr {a b c : World} {k : Nat} (h : Below k a b) (g : Below b.heap.size b c) (hk : k ≤ a.heap.size) : Below k a c := h.trans (g.mono (Nat.le_trans hk h.size))
/-- A callee that leaves what was there. -/
theorem quiet_gr {P : Program} {f : FuncId} {args : Array Value} {W : World} {n : GrT W} {v : Value}
    (h : Calls P f args n.w fun e w' => e = .returned v ∧ Below n.w.heap.size n.w w') : Calls P f args n.w fun e w'' => e = .returned v ∧ ∃ m : GrT W, w'' = m.w :=
  h.mono fun _ w' ⟨he, hm⟩ => ⟨he, some ⟨w', btr n.h hm (Nat.le_refl _)⟩, rfl⟩
theorem ret_bool {a b : Bool} (h : a = b) : Ending.returned (.bool a) = Ending.returned (.bool b) := by rw [h]
theorem ret_int {k : IntKind} {a b : Int} (h : a = b) : Ending.returned (.int k a) = Ending.returned (.int k b) := by rw [h]
theorem infoB : (Tryz.prog.info? 5).map (fun i => (i.zero, i.size, i.bytes)) = some (some (.int .u8 0), 1, 1) := by kernel_rfl
theorem mkAny (k : Nat) (w : World) (hk : k ≤ 8) : (Instr.makeSlice 77 (.int .i64 k) (.int .i64 k)).run Tryz.prog w = .ok (.slice (some ⟨w.heap.size, 0, none⟩) k k) (w.alloc (.cells (List.replicate k (.int .u8 0)).toArray 5)) := by
  obtain ⟨i0, hi, hz0, hz1, hz2⟩ := info_parts infoB
  rw [run_make w 77 5 i0 _ Tryz.underlying77 hi hz0 .i64 .i64 k k (by omega) (by omega) (by rw [hz2]; omega) (by omega), hz1]
  have e : madeCells (Value.int .u8 0).cells (Int.toNat (k : Int) * 1) = (List.replicate k (Value.int .u8 0)).toArray := by
    apply Array.ext <;> simp [madeCells, Value.cells, Nat.mod_one]
  rw [e, Int.toNat_natCast]
theorem cvAny (k : Nat) (xs : List Int) (h : xs.length = k) (w : World) :
    (convert 77 9 (.slice (some ⟨w.heap.size, 0, none⟩) k k)).run Tryz.prog (w.alloc (.cells (xs.map (Value.int .u8)).toArray 5)) = .ok (.string (strOfNums xs)) (w.alloc (.cells (xs.map (Value.int .u8)).toArray 5)) := by
  refine run_convert_bytes_arg _ 77 5 Tryz.underlying77 Tryz.underlying5 w.heap.size 0 k k xs h (fun i hi => ?_) 9 Tryz.underlying9
  have hi' : i < xs.length := by omega
  simp [List.getElem?_eq_getElem hi']
set_option maxHeartbeats 400000 in
theorem isSize_any (n : Int) (w : World) :
    Calls Tryz.prog 102 #[.int .i64 n] w fun e w' => e = .returned (.bool (szB n)) ∧ w' = w := by
  unfold szB
  by_cases h1 : 1 ≤ n <;> by_cases h2 : n ≤ 8 <;>
  · go_enter Tryz.func102, Tryz.ntmps102
    go_wp2
    go_ret
    simp [h1, h2]
theorem mk1 (w : World) : (Instr.makeSlice 77 (.int .i64 1) (.int .i64 1)).run Tryz.prog w = .ok (.slice (some ⟨w.heap.size, 0, none⟩) 1 1) (w.alloc (.cells #[.int .u8 0] 5)) := mkAny 1 w (by omega)
theorem cv1 (a : Int) (w : World) : (convert 77 9 (.slice (some ⟨w.heap.size, 0, none⟩) 1 1)).run Tryz.prog (w.alloc (.cells #[.int .u8 a] 5)) = .ok (.string (strOfNums [a])) (w.alloc (.cells #[.int .u8 a] 5)) := cvAny 1 [a] rfl w
theorem p1 (n : Int) (h0 : 0 ≤ n) (h1 : n < 256) : [n] = pieces n 1 := by simp [pieces]; omega
set_option maxHeartbeats 1000000 in
theorem put_1 (n : Int) (w : World) (h0 : 0 ≤ n) (h1 : n < 256) :
    Calls Tryz.prog 116 #[.int .u64 n, .int .i64 1] w fun e w' => e = .returned (.tuple #[.string (strOfNums (pieces n 1)), .int .i64 0]) ∧ Below w.heap.size w w' := by
  have hm := mk1
  have hc := cv1
  have hn : (n / 256 != 0) = false := by rw [Int.ediv_eq_zero_of_lt h0 h1]; rfl
  go_enter Tryz.func116, Tryz.ntmps116
  go_wp2
  go_rounds 2
  go_ret2
  rw [← p1 n h0 h1]
  exact ⟨rfl, by go_grown⟩
theorem mk2 (w : World) : (Instr.makeSlice 77 (.int .i64 2) (.int .i64 2)).run Tryz.prog w = .ok (.slice (some ⟨w.heap.size, 0, none⟩) 2 2) (w.alloc (.cells #[.int .u8 0, .int .u8 0] 5)) := mkAny 2 w (by omega)
theorem cv2 (a b : Int) (w : World) : (convert 77 9 (.slice (some ⟨w.heap.size, 0, none⟩) 2 2)).run Tryz.prog (w.alloc (.cells #[.int .u8 a, .int .u8 b] 5)) = .ok (.string (strOfNums [a, b])) (w.alloc (.cells #[.int .u8 a, .int .u8 b] 5)) := cvAny 2 [a, b] rfl w
theorem p2 (n : Int) (h0 : 0 ≤ n) (h1 : n < 65536) : [n / 256, n % 256] = pieces n 2 := by simp [pieces]; omega
set_option maxHeartbeats 1000000 in
theorem put_2 (n : Int) (w : World) (h0 : 0 ≤ n) (h1 : n < 65536) :
    Calls Tryz.prog 116 #[.int .u64 n, .int .i64 2] w fun e w' => e = .returned (.tuple #[.string (strOfNums (pieces n 2)), .int .i64 0]) ∧ Below w.heap.size w w' := by
  have hm := mk2
  have hc := cv2
  have hn : (n / 65536 != 0) = false := by rw [Int.ediv_eq_zero_of_lt h0 h1]; rfl
  go_enter Tryz.func116, Tryz.ntmps116
  go_wp2
  go_rounds 3
  go_ret2
  rw [← p2 n h0 h1]
  exact ⟨rfl, by go_grown⟩
theorem mk4 (w : World) : (Instr.makeSlice 77 (.int .i64 4) (.int .i64 4)).run Tryz.prog w = .ok (.slice (some ⟨w.heap.size, 0, none⟩) 4 4) (w.alloc (.cells #[.int .u8 0, .int .u8 0, .int .u8 0, .int .u8 0] 5)) := mkAny 4 w (by omega)
theorem cv4 (a b c d : Int) (w : World) : (convert 77 9 (.slice (some ⟨w.heap.size, 0, none⟩) 4 4)).run Tryz.prog (w.alloc (.cells #[.int .u8 a, .int .u8 b, .int .u8 c, .int .u8 d] 5)) = .ok (.string (strOfNums [a, b, c, d])) (w.alloc (.cells #[.int .u8 a, .int .u8 b, .int .u8 c, .int .u8 d] 5)) := cvAny 4 [a, b, c, d] rfl w
theorem p4 (n : Int) (h0 : 0 ≤ n) (h1 : n < 4294967296) : [n / 16777216, n / 65536 % 256, n / 256 % 256, n % 256] = pieces n 4 := by simp [pieces]; omega
set_option maxHeartbeats 1000000 in
theorem put_4 (n : Int) (w : World) (h0 : 0 ≤ n) (h1 : n < 4294967296) :
    Calls Tryz.prog 116 #[.int .u64 n, .int .i64 4] w fun e w' => e = .returned (.tuple #[.string (strOfNums (pieces n 4)), .int .i64 0]) ∧ Below w.heap.size w w' := by
  have hm := mk4
  have hc := cv4
  have hn : (n / 4294967296 != 0) = false := by rw [Int.ediv_eq_zero_of_lt h0 h1]; rfl
  go_enter Tryz.func116, Tryz.ntmps116
  go_wp2
  go_rounds 5
  go_ret2
  rw [← p4 n h0 h1]
  exact ⟨rfl, by go_grown⟩
/-- At block b lies a reader: what is left, and what is wrong. -/
structure Rd (w : World) (b : Nat) (s : ByteArray) (e : Int) : Prop where
  c0 : w.cell? ⟨b, 0, none⟩ = some (.string s)
  c1 : w.cell? ⟨b, 1, none⟩ = some (.int .i64 e)
  f0 : w.frozen? ⟨b, 0, none⟩ = false
  f1 : w.frozen? ⟨b, 1, none⟩ = false
/-- Nothing but block b has turned. -/
structure Only (b : Nat) (w w' : World) : Prop where
  os : w'.os = w.os
  tape : w'.tape = w.tape
  output : w'.output = w.output
  size : w'.heap.size = w.heap.size
  block : ∀ k, k ≠ b → w'.heap[k]? = w.heap[k]?
theorem Only.refl (b : Nat) (w : World) : Only b w w := ⟨rfl, rfl, rfl, rfl, fun _ _ => rfl⟩
theorem Only.setCell {b : Nat} {w w' : World} (h : Only b w w') (o : Nat) (v : Value) : Only b w (w'.setCell ⟨b, o, none⟩ v) :=
  ⟨h.os, h.tape, h.output, by simp [World.setCell, h.size], fun k hk => (Below.heap_setCell _ _ _ _ hk).trans (h.block k hk)⟩
theorem Only.below {b : Nat} {w w' a : World} (h : Only b w w') (hb : a.heap.size ≤ b) (g : Below a.heap.size a w) : Below a.heap.size a w' :=
  g.trans ⟨h.os, h.tape, h.output, by rw [h.size]; exact Nat.le_refl _, fun k hk => h.block k (by omega)⟩
theorem Rd.only {b c : Nat} {w w' : World} {s : ByteArray} {e : Int} (r : Rd w c s e) (h : Only b w w') (hne : c ≠ b) : Rd w' c s e :=
  ⟨(World.cell?_of_block (w := w) (h.block c hne)).trans r.c0, (World.cell?_of_block (w := w) (h.block c hne)).trans r.c1,
   (World.frozen?_of_block (w := w) (h.block c hne)).trans r.f0, (World.frozen?_of_block (w := w) (h.block c hne)).trans r.f1⟩
theorem Rd.new (w : World) (s : ByteArray) (e : Int) (T : TypeId) : Rd (w.alloc (.cells #[.string s, .int .i64 e] T)) w.heap.size s e :=
  ⟨by simp, by simp, by simp, by simp⟩
theorem Rd.set0 {w : World} {b : Nat} {s : ByteArray} {e : Int} (r : Rd w b s e) (s' : ByteArray) : Rd (w.setCell ⟨b, 0, none⟩ (.string s')) b s' e := by
  obtain ⟨c0, c1, f0, f1⟩ := r
  exact ⟨World.cell?_setCell_same _ _ _ c0, (World.cell?_setCell_other _ _ _ _ (by simp)).trans c1, by simp [f0], by simp [f1]⟩
theorem Rd.set1 {w : World} {b : Nat} {s : ByteArray} {e : Int} (r : Rd w b s e) (e' : Int) : Rd (w.setCell ⟨b, 1, none⟩ (.int .i64 e')) b s e' := by
  obtain ⟨c0, c1, f0, f1⟩ := r
  exact ⟨(World.cell?_setCell_other _ _ _ _ (by simp)).trans c0, World.cell?_setCell_same _ _ _ c1, by simp [f0], by simp [f1]⟩
set_option maxHeartbeats 400000 in
theorem take_any (b : Nat) (s : ByteArray) (e n : Int) (may : Bool) (w : World) (hm : may = true → 0 ≤ n) (r : Rd w b s e) :
    Calls Tryz.prog 101 #[.pointer (some ⟨b, 0, none⟩), .int .i64 n, .bool may] w fun x w' =>
      x = .returned (.string (takeV s e n may)) ∧ Rd w' b (takeS s e n may) (takeE s e n may) ∧ Only b w w' := by
  have r0 := r
  obtain ⟨c0, c1, f0, f1⟩ := r
  by_cases he : e = 0
  · subst he
    cases may
    · have v1 : takeV s 0 n false = noB := by simp [takeV]
      have v2 : takeS s 0 n false = noB := by simp [takeS]
      have v3 : takeE s 0 n false = 1 := by simp [takeE]
      rw [v1, v2, v3]
      clear v1 v2 v3 hm
      go_enter Tryz.func101, Tryz.ntmps101
      go_wp2
      go_ret
      exact ⟨rfl, (r0.set0 noB).set1 1, ((Only.refl _ _).setCell 0 _).setCell 1 _⟩
    · have hn := hm rfl
      by_cases hl : n ≤ s.size
      · have v1 : takeV s 0 n true = s.extract 0 n.toNat := by simp [takeV, hl]
        have v2 : takeS s 0 n true = s.extract n.toNat s.size := by simp [takeS, hl]
        have v3 : takeE s 0 n true = 0 := by simp [takeE, hl]
        rw [v1, v2, v3]
        obtain ⟨k, rfl⟩ := Int.eq_ofNat_of_zero_le hn
        clear v1 v2 v3 hm hn
        go_enter Tryz.func101, Tryz.ntmps101
        go_wp2
        go_ret
        exact ⟨rfl, r0.set0 _, (Only.refl _ _).setCell 0 _⟩
      · have v1 : takeV s 0 n true = noB := by simp [takeV, hl]
        have v2 : takeS s 0 n true = noB := by simp [takeS, hl]
        have v3 : takeE s 0 n true = 10 := by simp [takeE, hl]
        rw [v1, v2, v3]
        clear v1 v2 v3 hm
        go_enter Tryz.func101, Tryz.ntmps101
        go_wp2
        go_ret
        exact ⟨rfl, (r0.set0 noB).set1 10, ((Only.refl _ _).setCell 0 _).setCell 1 _⟩
  · have v1 : takeV s e n may = noB := by simp [takeV, he]
    have v2 : takeS s e n may = s := by simp [takeS, he]
    have v3 : takeE s e n may = e := by simp [takeE, he]
    rw [v1, v2, v3]
    have hb : (e != 0) = true := by simp [he]
    clear v1 v2 v3 hm he
    go_enter Tryz.func101, Tryz.ntmps101
    go_wp2
    go_ret
    exact ⟨rfl, r0, Only.refl _ _⟩
set_option maxHeartbeats 400000 in
theorem number_any (s : ByteArray) (w : World) (hs : s.size ≤ maxLen) :
    Calls Tryz.prog 100 #[.string s] w fun x w' => x = .returned (.int .u64 (numOf s.data.toList)) ∧ w' = w := by
  unfold maxLen at hs
  go_enter Tryz.func100, Tryz.ntmps100
  go_wp2
  go_loop [3, 7] (fun n i => ∃ k : Nat, k ≤ s.size ∧ i = .int .i64 k ∧ n = .int .u64 (numOf (s.data.toList.take k))) (fun _ i => s.size - (intOf i).toNat)
  case atStart => exact ⟨0, Nat.zero_le _, rfl, rfl⟩
  case round =>
    obtain ⟨k, hk, rfl, rfl⟩ := hrel
    by_cases hlt : k < s.size
    · have HS : Hid (numOf (s.data.toList.take (k + 1)) = stepN (numOf (s.data.toList.take k)) s[k]) := numOf_take s k hlt
      go_wp2
      go_round
      case rel => exact ⟨k + 1, by omega, by go_num, by rw [HS.out]; rfl⟩
      case measure => simp [intOf]; omega
    · go_wp2
      go_ret
      exact ⟨ret_int (by rw [List.take_of_length_le (by simp; omega)]), rfl⟩
set_option maxHeartbeats 400000 in
theorem num_any (b : Nat) (s : ByteArray) (e n : Int) (w : World) (hs : s.size ≤ maxLen) (r : Rd w b s e) :
    Calls Tryz.prog 50 #[.pointer (some ⟨b, 0, none⟩), .int .i64 n] w fun x w' =>
      x = .returned (.int .u64 (numV s e n)) ∧ Rd w' b (takeS s e n (szB n)) (takeE s e n (szB n)) ∧ Only b w w' := by
  have hp : szB n = true → 0 ≤ n := by unfold szB; simp; omega
  have HP : Hid (szB n = true → 0 ≤ n) := hp
  clear hp
  go_enter Tryz.func50, Tryz.ntmps50
  go_wp2_with fail
  refine (isSize_any _ _).mono ?_
  rintro x w' ⟨rfl, rfl⟩
  go_wp2_with fail
  refine (take_any b s e n (szB n) _ HP.out r).mono ?_
  rintro x w1 ⟨rfl, r1, o1⟩
  go_wp2_with fail
  refine (number_any _ _ (Nat.le_trans (takeV_size _ _ _ _) hs)).mono ?_
  rintro x w2 ⟨rfl, rfl⟩
  go_wp2_with fail
  go_ret
  exact ⟨rfl, r1, o1⟩
set_option maxHeartbeats 400000 in
theorem read_any (s : ByteArray) (w : World) :
    Calls Tryz.prog 49 #[.string s] w fun x w' => x = .returned (.pointer (some ⟨w.heap.size, 0, none⟩)) ∧ w' = w.alloc (.cells #[.string s, .int .i64 0] 187) := by
  go_enter Tryz.func49, Tryz.ntmps49
  go_wp2
  go_ret
  exact ⟨rfl, rfl⟩
theorem numR (b : Nat) (r : RS) (n : Int) (w : World) (hs : r.s.size ≤ maxLen) (h : Rd w b r.s r.e) :
    Calls Tryz.prog 50 #[.pointer (some ⟨b, 0, none⟩), .int .i64 n] w fun x w' => x = .returned (.int .u64 (r.num n)) ∧ Rd w' b (r.skip n).s (r.skip n).e ∧ Only b w w' := num_any b r.s r.e n w hs h
theorem Rd.below {w w' : World} {b : Nat} {s : ByteArray} {e : Int} (r : Rd w b s e) (hb : b < w.heap.size) (g : Below w.heap.size w w') : Rd w' b s e :=
  ⟨(g.cell (p := ⟨b, 0, none⟩) hb).trans r.c0, (g.cell (p := ⟨b, 1, none⟩) hb).trans r.c1, (g.frozen (p := ⟨b, 0, none⟩) hb).trans r.f0, (g.frozen (p := ⟨b, 1, none⟩) hb).trans r.f1⟩
theorem wput1 (n : Int) (w : World) (h0 : 0 ≤ n) (h1 : n < 256) : Calls Tryz.prog 61 #[.int .i64 n, .int .i64 1] w fun e w' => e = .returned (.string (pb n 1)) ∧ Below w.heap.size w w' := by
  have hw : IntKind.u64.wrap n = n := wraps_u64 _ h0 (by omega)
  go_enter Tryz.func61, Tryz.ntmps61
  go_wp2_with fail
  refine (put_1 n _ h0 h1).mono ?_
  rintro x w1 ⟨rfl, g⟩
  go_wp2_with fail
  go_ret
  exact ⟨rfl, g⟩
theorem wput2 (n : Int) (w : World) (h0 : 0 ≤ n) (h1 : n < 65536) : Calls Tryz.prog 61 #[.int .i64 n, .int .i64 2] w fun e w' => e = .returned (.string (pb n 2)) ∧ Below w.heap.size w w' := by
  have hw : IntKind.u64.wrap n = n := wraps_u64 _ h0 (by omega)
  go_enter Tryz.func61, Tryz.ntmps61
  go_wp2_with fail
  refine (put_2 n _ h0 h1).mono ?_
  rintro x w1 ⟨rfl, g⟩
  go_wp2_with fail
  go_ret
  exact ⟨rfl, g⟩
theorem wput4 (n : Int) (w : World) (h0 : 0 ≤ n) (h1 : n < 4294967296) : Calls Tryz.prog 61 #[.int .i64 n, .int .i64 4] w fun e w' => e = .returned (.string (pb n 4)) ∧ Below w.heap.size w w' := by
  have hw : IntKind.u64.wrap n = n := wraps_u64 _ h0 (by omega)
  go_enter Tryz.func61, Tryz.ntmps61
  go_wp2_with fail
  refine (put_4 n _ h0 h1).mono ?_
  rintro x w1 ⟨rfl, g⟩
  go_wp2_with fail
  go_ret
  exact ⟨rfl, g⟩
/-- What is left of a reader, all of it. -/
def RS.all (r : RS) : ByteArray := r.bytes r.s.size
def RS.end_ (r : RS) : RS := r.jump r.s.size
theorem bytesR (b : Nat) (r : RS) (n : Int) (w : World) (h : Rd w b r.s r.e) :
    Calls Tryz.prog 51 #[.pointer (some ⟨b, 0, none⟩), .int .i64 n] w fun x w' => x = .returned (.string (r.bytes n)) ∧ Rd w' b (r.jump n).s (r.jump n).e ∧ Only b w w' := by
  have HT : Hid (Calls Tryz.prog 101 #[.pointer (some ⟨b, 0, none⟩), .int .i64 n, .bool (decide (0 ≤ n))] w fun x w' => x = .returned (.string (r.bytes n)) ∧ Rd w' b (r.jump n).s (r.jump n).e ∧ Only b w w') := take_any b r.s r.e n (decide (0 ≤ n)) w (by simp) h
  clear h
  by_cases h0 : 0 ≤ n
  · have e : decide (0 ≤ n) = true := by simpa using h0
    rw [e] at HT
    go_enter Tryz.func51, Tryz.ntmps51
    go_wp2_with fail
    refine HT.out.mono ?_
    rintro x w1 ⟨rfl, r1, o1⟩
    go_wp2_with fail
    go_ret
    exact ⟨rfl, r1, o1⟩
  · have e : decide (0 ≤ n) = false := by simpa using h0
    rw [e] at HT
    go_enter Tryz.func51, Tryz.ntmps51
    go_wp2_with fail
    refine HT.out.mono ?_
    rintro x w1 ⟨rfl, r1, o1⟩
    go_wp2_with fail
    go_ret
    exact ⟨rfl, r1, o1⟩
theorem leftR (b : Nat) (r : RS) (w : World) (h : Rd w b r.s r.e) :
    Calls Tryz.prog 80 #[.pointer (some ⟨b, 0, none⟩)] w fun x w' => x = .returned (.int .i64 r.s.size) ∧ w' = w := by
  obtain ⟨c0, c1, f0, f1⟩ := h
  go_enter Tryz.func80, Tryz.ntmps80
  go_wp2
  go_ret
  exact ⟨rfl, rfl⟩
theorem numberR (b : Nat) (r : RS) (k : Nat) (w : World) (hk : k ≤ 4) (hs : r.s.size ≤ maxLen) (h : Rd w b r.s r.e) :
    Calls Tryz.prog 52 #[.pointer (some ⟨b, 0, none⟩), .int .i64 (k : Int)] w fun x w' => x = .returned (.int .i64 (r.num k)) ∧ Rd w' b (r.skip k).s (r.skip k).e ∧ Only b w w' := by
  have HN : Hid (Calls Tryz.prog 50 #[.pointer (some ⟨b, 0, none⟩), .int .i64 (k : Int)] w fun x w' => x = .returned (.int .u64 (r.num k)) ∧ Rd w' b (r.skip k).s (r.skip k).e ∧ Only b w w') := numR b r k w hs h
  obtain ⟨n0, n1⟩ := RS.num_lt r k (by omega)
  have n2 : r.num k < 4294967296 := by
    have h2 := Nat.pow_le_pow_right (show 0 < 256 by decide) hk
    have h3 := Int.ofNat_le.mpr h2
    rw [Int.natCast_pow, Int.natCast_pow] at h3
    exact Int.lt_of_lt_of_le n1 h3
  clear n1 h
  generalize r.num k = V at *
  go_enter Tryz.func52, Tryz.ntmps52
  go_wp2_with fail
  refine HN.out.mono ?_
  rintro x w1 ⟨rfl, r1, o1⟩
  go_wp2_with fail
  go_ret
  exact ⟨rfl, r1, o1⟩
theorem n1R (b : Nat) (r : RS) (w : World) (hs : r.s.size ≤ maxLen) (h : Rd w b r.s r.e) :
    Calls Tryz.prog 52 #[.pointer (some ⟨b, 0, none⟩), .int .i64 1] w fun x w' => x = .returned (.int .i64 (r.num 1)) ∧ Rd w' b (r.skip 1).s (r.skip 1).e ∧ Only b w w' := numberR b r 1 w (by omega) hs h
theorem n2R (b : Nat) (r : RS) (w : World) (hs : r.s.size ≤ maxLen) (h : Rd w b r.s r.e) :
    Calls Tryz.prog 52 #[.pointer (some ⟨b, 0, none⟩), .int .i64 2] w fun x w' => x = .returned (.int .i64 (r.num 2)) ∧ Rd w' b (r.skip 2).s (r.skip 2).e ∧ Only b w w' := numberR b r 2 w (by omega) hs h
theorem n4R (b : Nat) (r : RS) (w : World) (hs : r.s.size ≤ maxLen) (h : Rd w b r.s r.e) :
    Calls Tryz.prog 52 #[.pointer (some ⟨b, 0, none⟩), .int .i64 4] w fun x w' => x = .returned (.int .i64 (r.num 4)) ∧ Rd w' b (r.skip 4).s (r.skip 4).e ∧ Only b w w' := numberR b r 4 w (by omega) hs h
theorem restAll (b : Nat) (r : RS) (w : World) (h : Rd w b r.s r.e) :
    Calls Tryz.prog 53 #[.pointer (some ⟨b, 0, none⟩)] w fun x w' => x = .returned (.string r.all) ∧ Rd w' b r.end_.s r.end_.e ∧ Only b w w' := by
  have HL : Hid (Calls Tryz.prog 80 #[.pointer (some ⟨b, 0, none⟩)] w fun x w' => x = .returned (.int .i64 r.s.size) ∧ w' = w) := leftR b r w h
  have HB : Hid (Calls Tryz.prog 51 #[.pointer (some ⟨b, 0, none⟩), .int .i64 r.s.size] w fun x w' => x = .returned (.string r.all) ∧ Rd w' b r.end_.s r.end_.e ∧ Only b w w') := bytesR b r r.s.size w h
  clear h
  go_enter Tryz.func53, Tryz.ntmps53
  go_wp2_with fail
  refine HL.out.mono ?_
  rintro x w1 ⟨rfl, rfl⟩
  go_wp2_with fail
  refine HB.out.mono ?_
  rintro x w2 ⟨rfl, r2, o2⟩
  go_wp2_with fail
  go_ret
  exact ⟨rfl, r2, o2⟩
end Go.Proofs.YtoklgdpdeghkpaaGreatDoor

/-
  What Values answers, and the document's, as contracts.
-/
import Derived.Test.YtocckpphokkneaaGets
namespace Go.Proofs.Ytocckpphokkneaa
open Go.ChangeShapes Go.WideShapes Go.ChangeAt Go.RowKit

theorem Try.info22 : (Try.prog.info? 22).map (fun i => (i.zero, i.size, i.bytes)) = some (some (.int .u64 0), 1, 8) := by kernel_rfl
theorem mkAny (k : Nat) (w : World) (hk : k ≤ 10) : (Instr.makeSlice 47 (.int .i64 k) (.int .i64 k)).run Try.prog w = .ok (.slice (some ⟨w.heap.size, 0, none⟩) k k) (w.alloc (.cells (List.replicate k (.int .u64 0)).toArray 22)) := by
  obtain ⟨i0, hi, hz0, hz1, hz2⟩ := info_parts Try.info22
  rw [run_make w 47 22 i0 _ Try.underlying47 hi hz0 .i64 .i64 k k (by omega) (by omega) (by rw [hz2]; omega) (by omega), hz1]
  have e : madeCells (Value.int .u64 0).cells (Int.toNat (k : Int) * 1) = (List.replicate k (Value.int .u64 0)).toArray := by
    apply Array.ext <;> simp [madeCells, Value.cells, Nat.mod_one]
  rw [e, Int.toNat_natCast]
abbrev noughts : Array Value := #[.int .u64 0, .int .u64 0, .int .u64 0, .int .u64 0, .int .u64 0, .int .u64 0, .int .u64 0, .int .u64 0, .int .u64 0, .int .u64 0]
theorem mk10 (w : World) : (Instr.makeSlice 47 (.int .i64 10) (.int .i64 10)).run Try.prog w = .ok (.slice (some ⟨w.heap.size, 0, none⟩) 10 10) (w.alloc (.cells noughts 22)) := mkAny 10 w (by omega)
/-- What Get answers of the fields below k, and noughts behind it. -/
def vals (s : Sn) (k i : Nat) : Int := if i < k then getV s i else 0
set_option maxHeartbeats 4000000 in
theorem values_any (s : Sn) (w : World) (hw : Wf s) : Calls Try.prog 20 #[snV s] w fun e w' => ∃ b, w.heap.size ≤ b ∧ b < w'.heap.size ∧ e = .returned (.slice (some ⟨b, 0, none⟩) 10 10) ∧ (∀ i, i < 10 → w'.cell? ⟨b, i, none⟩ = some (.int .u64 (getV s i))) ∧ Below w.heap.size w w' := by
  have hm := mk10
  have HG : Hid (∀ f w, Calls Try.prog 8 #[snV s, .int .i64 f] w fun e w' => e = .returned (.tuple #[.int .u64 (getV s f), .int .i64 (getE s f)]) ∧ Below w.heap.size w w') := fun f w => get_any s f w hw
  go_enter Try.func20, Try.ntmps20
  go_wp2_with fail
  go_loopw [8] (fun i wr => ∃ k : Nat, k ≤ 10 ∧ i = .int .i64 k ∧ Bx wr w.heap.size s ∧ (∀ j, j < 10 → wr.cell? ⟨w.heap.size + 1, j, none⟩ = some (.int .u64 (vals s k j))) ∧ (∀ j, wr.frozen? ⟨w.heap.size + 1, j, none⟩ = false) ∧ w.heap.size + 2 ≤ wr.heap.size ∧ Below w.heap.size w wr)
    (fun i _ => (10 - intOf i).toNat)
  case atStart =>
    refine ⟨0, by omega, rfl, by unfold Bx; simp, ?_, by simp, by simp, by go_grown⟩
    intro j hj
    match j, hj with
    | 0, _ => simp [vals]
    | 1, _ => simp [vals]
    | 2, _ => simp [vals]
    | 3, _ => simp [vals]
    | 4, _ => simp [vals]
    | 5, _ => simp [vals]
    | 6, _ => simp [vals]
    | 7, _ => simp [vals]
    | 8, _ => simp [vals]
    | 9, _ => simp [vals]
  case round =>
    obtain ⟨k, hk, rfl, hb, hc, hf, hl, hbel⟩ := hrel
    by_cases hlt : k < 10
    · have A := hb
      obtain ⟨a0, a1, a2, a3, a4, a5, a6, a7, a8, a9, a10, a11, a12⟩ := A
      go_wp2_with fail
      refine (HG.out k _).mono ?_
      rintro x w1 ⟨rfl, g1⟩
      have hb1 := hb.below (by omega) g1
      have hc1 : ∀ j, j < 10 → w1.cell? ⟨w.heap.size + 1, j, none⟩ = some (.int .u64 (vals s k j)) := fun j hj => (g1.cell (show w.heap.size + 1 < wr.heap.size by omega)).trans (hc j hj)
      have hf1 : ∀ j, w1.frozen? ⟨w.heap.size + 1, j, none⟩ = false := fun j => (g1.frozen (show w.heap.size + 1 < wr.heap.size by omega)).trans (hf j)
      have hl1 := Nat.le_trans hl g1.size
      have hbel1 : Below w.heap.size w w1 := btr hbel g1 (Nat.le_refl _)
      have ck := hc1 k hlt
      have fk := hf1 k
      clear g1 hb hc hf hl hbel a0 a1 a2 a3 a4 a5 a6 a7 a8 a9 a10 a11 a12
      go_wp2_with fail
      go_roundw
      case rel =>
        refine ⟨k + 1, by omega, by go_num, hb1.block (Below.heap_setCell _ _ _ _ (show w.heap.size ≠ w.heap.size + 1 by omega)), ?_, fun j => by simp [hf1], by simpa using hl1, hbel1.setCell (by simp) _⟩
        intro j hj
        by_cases hjk : j = k
        · subst hjk
          rw [World.cell?_setCell_same _ _ _ ck]
          simp [vals]
        · rw [World.cell?_setCell_other _ _ _ _ (by simp), hc1 j hj]
          unfold vals
          by_cases hh : j < k
          · rw [if_pos hh, if_pos (by omega)]
          · rw [if_neg hh, if_neg (by omega)]
      case measure => simp [intOf]; omega
    · obtain rfl : k = 10 := by omega
      go_wp2_with fail
      go_ret
      refine ⟨w.heap.size + 1, by omega, by omega, rfl, fun i hi => ?_, hbel⟩
      rw [hc i hi]
      unfold vals
      rw [if_pos hi]
/-- What Get answers of the fields below k. -/
def valL (s : Sn) (k : Nat) : List Value := (List.range k).map fun i : Nat => Value.int .u64 (getV s (i : Int))
theorem valL_length (s : Sn) (k : Nat) : (valL s k).length = k := by simp [valL]
theorem valL_succ (s : Sn) (k : Nat) : valL s (k + 1) = valL s k ++ [.int .u64 (getV s k)] := by simp [valL, List.range_succ]
theorem getV_zero (s : Sn) : getV s 0 = 0 := by unfold getV; rw [hasB_none s (by omega)]; rfl
theorem below_grown {a b : World} (g : Below a.heap.size a b) : a.grownBy b none := ⟨g.os, g.tape, g.output, g.size, fun k hk _ => g.block k hk⟩
theorem owns_below {a b : World} {base : Nat} {e : TypeId} {size : Nat} {v : Value} {n : Nat} {xs : List Value} (h : a.ownsRow base e size v n xs) (g : Below a.heap.size a b) : b.ownsRow base e size v n xs :=
  h.kept (below_grown g) (by cases v.ownBlock <;> simp)

set_option maxHeartbeats 4000000 in
theorem rvalues_any (s : Sn) (w : World) (hw : Wf s) : Calls Try.prog 21 #[snV s] w fun e w' => ∃ b cap, w.heap.size ≤ b ∧ b < w'.heap.size ∧ e = .returned (.slice (some ⟨b, 0, none⟩) 10 cap) ∧ (∀ i : Nat, i < 10 → w'.cell? ⟨b, i, none⟩ = some (.int .u64 (getV s i))) ∧ Below w.heap.size w w' := by
  have HG : Hid (∀ f w, Calls Try.prog 9 #[snV s, .int .i64 f] w fun e w' => e = .returned (.tuple #[.int .u64 (getV s f), .int .i64 (getE s f)]) ∧ Below w.heap.size w w') := fun f w => rget_any s f w hw
  obtain ⟨i0, hi, hz0, hz1, hz2⟩ := info_parts Try.info22
  go_enter Try.func21, Try.ntmps21
  go_wp2_with fail
  go_loopw [3, 4] (fun v i wr => ∃ k : Nat, 1 ≤ k ∧ k ≤ 10 ∧ i = .int .i64 k ∧ wr.ownsRow (w.heap.size + 1) 22 1 v k (valL s k) ∧ Bx wr w.heap.size s ∧ w.heap.size + 1 ≤ wr.heap.size ∧ Below w.heap.size w wr)
    (fun _ i _ => (10 - intOf i).toNat)
  case atStart =>
    refine ⟨1, by omega, by omega, rfl, ⟨rfl, .inr ⟨w.heap.size + 1, 1, #[.int .u64 0], rfl, by omega, ?_, by omega, by unfold maxLen; omega, rfl, ?_⟩⟩, by unfold Bx; simp, by simp, by go_grown⟩
    · have h := heap_alloc_new (rx w s) (.cells #[.int .u64 0] 22)
      simpa using h
    · have := getV_zero s
      simp [valL, this]
  case round =>
    obtain ⟨k, hk1, hk, rfl, hown, hb, hl, hbel⟩ := hrel
    by_cases hlt : k < 10
    · have A := hb
      obtain ⟨a0, a1, a2, a3, a4, a5, a6, a7, a8, a9, a10, a11, a12⟩ := A
      go_wp2_with fail
      refine (HG.out k _).mono ?_
      rintro x w1 ⟨rfl, g1⟩
      have hb1 := hb.below (by omega) g1
      have hown1 := owns_below hown g1
      have hl1 := Nat.le_trans hl g1.size
      have hbel1 : Below w.heap.size w w1 := btr hbel g1 (Nat.le_refl _)
      clear g1 hb hown hl hbel a0 a1 a2 a3 a4 a5 a6 a7 a8 a9 a10 a11 a12
      go_wp2_with (at_builtin; refine wpList_append_own _ rfl _ _ 47 rfl (w.heap.size + 1) 22 i0 (.int .u64 0) 1 8 Try.underlying47 hi hz0 hz1 hz2 rfl (by decide) _ _ _ rfl (hown1.alloc _) ⟨w1.heap.size, 0, none⟩ 1 1 [.int .u64 (getV s k)] rfl rfl ?c1 ?c2 ?c3 ?c4 ?c5 ?_)
      case c1 =>
        intro j u hj
        match j, hj with
        | 0, hj => simp at hj; subst hj; simp [Addr.add]
      case c2 => intro u hu; simp at hu; subst hu; rfl
      case c3 => unfold maxLen; omega
      case c4 => omega
      case c5 => simp; omega
      · intro v' w2 hown' hgrow _
        have R1 : w2.ownsRow (w.heap.size + 1) 22 1 v' (k + 1) (valL s (k + 1)) := by
          rw [valL_succ]
          exact hown'
        have hrow := fun q hq => (hown1.lt q hq).1
        have R2 : Below w.heap.size w w2 := (hbel1.alloc hbel1.size _).grown hgrow (by simp; omega) (fun q hq => by have := hrow q hq; omega)
        have R3 : Bx w2 w.heap.size s := by
          refine (hb1.block ?_ : Bx w2 w.heap.size s)
          refine (hgrow.block w.heap.size (by simp; omega) (fun h => by have := hrow _ h.symm; omega)).trans ?_
          exact heap_alloc_old w1 _ (by omega)
        have R4 : w.heap.size + 1 ≤ w2.heap.size := Nat.le_trans (by simp; omega) hgrow.size
        clear hown' hgrow hown1 hbel1 hb1 hrow
        go_wp2
        go_roundw
        case rel => exact ⟨k + 1, by omega, by omega, by go_num, R1, R3, R4, R2⟩
        case measure => simp [intOf]; omega
    · obtain rfl : k = 10 := by omega
      rcases hown.2 with ⟨_, h'⟩ | ⟨g, cap, cur, rfl, hbg, _⟩
      · omega
      · go_wp2_with fail
        go_ret
        have hlt2 := (hown.lt g rfl).2
        refine ⟨g, cap, by omega, hlt2, rfl, fun i hi => ?_, hbel⟩
        rw [hown.cellAt i (by omega)]
        simp [valL, hi]
end Go.Proofs.Ytocckpphokkneaa

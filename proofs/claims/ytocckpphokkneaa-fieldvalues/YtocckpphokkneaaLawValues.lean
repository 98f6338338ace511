/-
  The walk of the law FieldValues.
-/
import Derived.Test.YtocckpphokkneaaVal
namespace Go.Proofs.Ytocckpphokkneaa
open Go.ChangeShapes Go.WideShapes Go.ChangeAt Go.RowKit

set_option maxHeartbeats 4000000 in
theorem values_walk (s : Sn) (w : World) (hw : Wf s) (_ : s.data.size ≤ maxLen) :
    Calls Try.prog 6 #[snV s] w fun x w' => x = .returned (.bool true) ∧ Below w.heap.size w w' := by
  have HV : Hid (∀ w : World, Calls Try.prog 20 #[snV s] w fun e w' => ∃ b, w.heap.size ≤ b ∧ b < w'.heap.size ∧ e = .returned (.slice (some ⟨b, 0, none⟩) 10 10) ∧ (∀ i : Nat, i < 10 → w'.cell? ⟨b, i, none⟩ = some (.int .u64 (getV s i))) ∧ Below w.heap.size w w') := fun w => values_any s w hw
  have HR : Hid (∀ w : World, Calls Try.prog 21 #[snV s] w fun e w' => ∃ b cap, w.heap.size ≤ b ∧ b < w'.heap.size ∧ e = .returned (.slice (some ⟨b, 0, none⟩) 10 cap) ∧ (∀ i : Nat, i < 10 → w'.cell? ⟨b, i, none⟩ = some (.int .u64 (getV s i))) ∧ Below w.heap.size w w') := fun w => rvalues_any s w hw
  clear hw
  go_enter Try.func6, Try.ntmps6
  go_wp2_with fail
  refine (HV.out _).mono ?_
  rintro x w1 ⟨b1, l1, l2, rfl, hc1, g1⟩
  have A1 := (Bx.new w s).below (by simp) g1
  have G1 : Below w.heap.size w w1 := btr (by go_grown) g1 (by simp)
  clear l1 g1
  obtain ⟨a0, a1, a2, a3, a4, a5, a6, a7, a8, a9, a10, a11, a12⟩ := A1
  go_wp2_with fail
  clear a0 a1 a2 a3 a4 a5 a6 a7 a8 a9 a10 a11 a12
  refine (plain_any s _).mono ?_
  rintro x w2 ⟨rfl, g2⟩
  have hc2 : ∀ i : Nat, i < 10 → w2.cell? ⟨b1, i, none⟩ = some (.int .u64 (getV s i)) := fun i hi => (g2.cell l2).trans (hc1 i hi)
  have k2 : b1 < w2.heap.size := Nat.lt_of_lt_of_le l2 g2.size
  have G2 := btr G1 g2 (Nat.le_refl _)
  clear hc1 l2 G1 g2
  go_wp2_with fail
  refine (HR.out _).mono ?_
  rintro x w3 ⟨b2, cap, l3, l4, rfl, hc3, g3⟩
  have hc4 : ∀ i : Nat, i < 10 → w3.cell? ⟨b1, i, none⟩ = some (.int .u64 (getV s i)) := fun i hi => (g3.cell k2).trans (hc2 i hi)
  have k4 : b1 < w3.heap.size := Nat.lt_of_lt_of_le k2 g3.size
  have G3 := btr G2 g3 (Nat.le_refl _)
  clear hc2 l3 G2 g3 k2
  go_wp2_with fail
  go_loopw [5] (fun i wr => ∃ k : Nat, k ≤ 10 ∧ i = .int .i64 k ∧ (∀ i : Nat, i < 10 → wr.cell? ⟨b1, i, none⟩ = some (.int .u64 (getV s i))) ∧ (∀ i : Nat, i < 10 → wr.cell? ⟨b2, i, none⟩ = some (.int .u64 (getV s i))) ∧ b1 < wr.heap.size ∧ b2 < wr.heap.size ∧ Below w.heap.size w wr)
    (fun i _ => (10 - intOf i).toNat)
  case atStart => exact ⟨0, by omega, rfl, hc4, hc3, k4, l4, G3⟩
  case round =>
    obtain ⟨k, hk, rfl, h1, h2, m1, m2, hbel⟩ := hrel
    clear hc4 hc3 k4 l4 G3
    by_cases hlt : k < 10
    · have c1 : ∀ n : GrT wr, n.w.cell? ⟨b1, k, none⟩ = some (.int .u64 (getV s k)) := fun n => (n.h.cell m1).trans (h1 k hlt)
      have c2 : ∀ n : GrT wr, n.w.cell? ⟨b2, k, none⟩ = some (.int .u64 (getV s k)) := fun n => (n.h.cell m2).trans (h2 k hlt)
      go_wp2_with fail
      refine wp_region_grow (by kernel_rfl) (by kernel_rfl) ?_
      repeat (go_big_quiet_step (fail))
      refine wpQuiet_nil ?_
      rintro w4 hw'
      have g4 := gr_elim hw'
      clear hw' c1 c2
      have e1 : ∀ i : Nat, i < 10 → w4.cell? ⟨b1, i, none⟩ = some (.int .u64 (getV s i)) := fun i hi => (g4.cell m1).trans (h1 i hi)
      have e2 : ∀ i : Nat, i < 10 → w4.cell? ⟨b2, i, none⟩ = some (.int .u64 (getV s i)) := fun i hi => (g4.cell m2).trans (h2 i hi)
      have n1 := Nat.lt_of_lt_of_le m1 g4.size
      have n2 := Nat.lt_of_lt_of_le m2 g4.size
      have G4 := btr hbel g4 (Nat.le_refl _)
      clear h1 h2 m1 m2 hbel g4
      go_wp2_with fail
      go_roundw
      case rel => exact ⟨k + 1, by omega, by go_num, e1, e2, n1, n2, G4⟩
      case measure => simp [intOf]; omega
    · obtain rfl : k = 10 := by omega
      clear h1 h2
      go_wp2_with fail
      refine (awake_any _).mono ?_
      rintro x w4 ⟨rfl, g4⟩
      go_wp2_with fail
      go_ret
      exact ⟨rfl, btr hbel g4 (Nat.le_refl _)⟩
end Go.Proofs.Ytocckpphokkneaa

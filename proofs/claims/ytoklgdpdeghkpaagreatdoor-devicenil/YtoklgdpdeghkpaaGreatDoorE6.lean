/-
  A switch that has nothing: what its calls answer, as contracts.
-/
import Derived.Test.YtoklgdpdeghkpaaGreatDoorE5
import Derived.Lib.UnsafeStr
namespace Go.Proofs.YtoklgdpdeghkpaaGreatDoor
open Go.ChangeShapes Go.WideShapes Go.ChangeAt Go.RowKit
set_option linter.unusedVariables false
set_option linter.unusedSimpArgs false

set_option maxRecDepth 20000 in
set_option maxHeartbeats 2000000 in
theorem glist_e (w : World) (tb mb : Nat) (h : Te w tb mb) : Calls Tryz.prog 22 #[.pointer (some ⟨tb, 0, none⟩)] w fun e w' => e = .returned (.slice none 0 0) ∧ Below w.heap.size w w' := by
  have HN : Hid (Calls Tryz.prog 43 #[.pointer (some ⟨tb, 0, none⟩)] w fun e w' => e = .returned (.slice none 0 0) ∧ Below w.heap.size w w') := numbers_e w tb mb h
  clear h
  go_enter Tryz.func22, Tryz.ntmps22
  go_wp2_with fail
  refine HN.out.mono ?_
  rintro e w1 ⟨rfl, g1⟩
  go_wp2_with fail
  go_loop [3, 11] (fun l i => l = .slice none 0 0 ∧ i = .int .i64 0) (fun _ _ => 0)
  case atStart => exact ⟨rfl, rfl⟩
  case round =>
    obtain ⟨rfl, rfl⟩ := hrel
    go_wp2_with fail
    go_ret
    exact ⟨rfl, g1⟩
/-- At f lie tables without entries. -/
structure Fe (w : World) (f : Nat) : Prop where
  t : ∀ i, i < 8 → w.cell? ⟨f, 1 + i, none⟩ = some (.slice none 0 0)
  lt : f < w.heap.size
theorem Fe.below {w w' : World} {f : Nat} (h : Fe w f) (g : Below w.heap.size w w') : Fe w' f :=
  ⟨fun i hi => (g.cell (p := ⟨f, 1 + i, none⟩) h.lt).trans (h.t i hi), Nat.lt_of_lt_of_le h.lt g.size⟩
set_option maxRecDepth 20000 in
set_option maxHeartbeats 2000000 in
theorem entries_e (w : World) (f i : Nat) (h : Fe w f) (hi : i < 8) : Calls Tryz.prog 45 #[.pointer (some ⟨f, 0, none⟩), .int .i64 i] w fun e w' => e = .returned (.slice none 0 0) ∧ w' = w := by
  have c := h.t i hi
  have h0 : (0 : Int) ≤ i := by omega
  have h1 : (i : Int) < 8 := by omega
  clear h
  go_enter Tryz.func45, Tryz.ntmps45
  go_wp2
  go_ret
  exact ⟨rfl, rfl⟩
set_option maxRecDepth 20000 in
set_option maxHeartbeats 2000000 in
theorem flist_e (w : World) (f i : Nat) (h : Fe w f) (hi : i < 8) : Calls Tryz.prog 23 #[.pointer (some ⟨f, 0, none⟩), .int .i64 i] w fun e w' => e = .returned (.slice none 0 0) ∧ w' = w := by
  have HN : Hid (Calls Tryz.prog 45 #[.pointer (some ⟨f, 0, none⟩), .int .i64 i] w fun e w' => e = .returned (.slice none 0 0) ∧ w' = w) := entries_e w f i h hi
  clear h
  go_enter Tryz.func23, Tryz.ntmps23
  go_wp2_with fail
  refine HN.out.mono ?_
  rintro e w1 ⟨rfl, rfl⟩
  go_wp2_with fail
  go_loop [5, 12] (fun l i => l = .slice none 0 0 ∧ i = .int .i64 0) (fun _ _ => 0)
  case atStart => exact ⟨rfl, rfl⟩
  case round =>
    obtain ⟨rfl, rfl⟩ := hrel
    go_wp2_with fail
    go_ret
    exact ⟨rfl, rfl⟩
set_option maxRecDepth 20000 in
set_option maxHeartbeats 2000000 in
theorem clone_e (w : World) : Calls Tryz.prog 29 #[.string ⟨#[]⟩] w fun e w' => e = .returned (.string ⟨#[]⟩) ∧ w' = w := by
  go_enter Tryz.func29, Tryz.ntmps29
  go_wp2
  go_ret
  exact ⟨rfl, rfl⟩
theorem sclone_e (w : World) : Calls Tryz.prog 11 #[.string ⟨#[]⟩] w fun e w' => e = .returned (.string ⟨#[]⟩) ∧ w' = w := by
  go_enter Tryz.func11, Tryz.ntmps11
  go_wp2_with (go_at_call 29; refine (clone_e _).mono ?_; rintro e w' ⟨rfl, rfl⟩)
  go_ret
  exact ⟨rfl, rfl⟩
set_option maxRecDepth 20000 in
set_option maxHeartbeats 2000000 in
theorem bstring_e (w : World) (b : Nat) (h : w.cell? ⟨b, 1, none⟩ = some (.slice none 0 0)) : Calls Tryz.prog 24 #[.pointer (some ⟨b, 0, none⟩)] w fun e w' => e = .returned (.string ⟨#[]⟩) ∧ Below w.heap.size w w' := by
  go_enter Tryz.func24, Tryz.ntmps24
  have u1 : ∀ (ts : Array TypeId) (ty : TypeId) (w : World), (Builtin.unsafeSliceData_ ts ty #[.slice none 0 0]).run Tryz.prog w = .ok (.pointer none) w := fun _ _ _ => rfl
  have u2 : ∀ (pt it ty : TypeId) (w : World), (Builtin.unsafeString_ #[pt, it] ty #[.pointer none, .int .i64 0]).run Tryz.prog w = .ok (.string ⟨#[]⟩) w := fun pt it ty w => Lib.run_unsafeString_none w pt it ty none
  go_wp2_with fail
  go_region
  go_wp2_with fail
  go_ret
  exact ⟨rfl, by go_grown⟩
set_option maxRecDepth 20000 in
set_option maxHeartbeats 2000000 in
theorem hasMeter_e (w : World) (d i : Nat) (h : ∀ i, i < 17 → w.cell? ⟨d, 2 + i, none⟩ = some (.pointer none)) (hi : i < 17) : Calls Tryz.prog 20 #[.pointer (some ⟨d, 0, none⟩), .int .i64 i] w fun e w' => e = .returned (.bool false) ∧ w' = w := by
  have c := h i hi
  have h0 : (0 : Int) ≤ i := by omega
  have h1 : (i : Int) < 17 := by omega
  clear h
  go_enter Tryz.func20, Tryz.ntmps20
  go_wp2
  go_ret
  exact ⟨rfl, rfl⟩
end Go.Proofs.YtoklgdpdeghkpaaGreatDoor

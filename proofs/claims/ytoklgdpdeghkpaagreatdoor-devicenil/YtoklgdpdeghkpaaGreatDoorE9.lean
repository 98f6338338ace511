/-
  How a switch that has nothing handles an echo, as contracts.
-/
import Derived.Test.YtoklgdpdeghkpaaGreatDoorE8
import Derived.Laws.AppendOwn
import Derived.Laws.AppendOwnNone
namespace Go.Proofs.YtoklgdpdeghkpaaGreatDoor
open Go.ChangeShapes Go.WideShapes Go.ChangeAt Go.RowKit
set_option linter.unusedVariables false
set_option linter.unusedSimpArgs false

set_option maxRecDepth 20000 in
set_option maxHeartbeats 8000000 in
theorem bytesOf_e (w : World) : Calls Tryz.prog 19 #[msV ⟨3, 7, ⟨#[]⟩⟩] w fun e w' => e = .returned (.string exA) ∧ Below w.heap.size w w' := by
  obtain ⟨m, hm⟩ : ∃ m : Ms, m = ⟨3, 7, ⟨#[]⟩⟩ := ⟨_, rfl⟩
  rw [← hm]
  have HE : Hid (∀ w1, Calls Tryz.prog 28 #[msV m] w1 fun e w' => e = .returned (.tuple #[.string exA, .int .i64 0]) ∧ Below w1.heap.size w1 w') := (show ∀ w1, _ by rw [hm]; exact enc_ex)
  have HL : Hid (Bm (mx w m) w.heap.size m) := Bm.new w _
  have HG : Hid (Below w.heap.size w (mx w m)) := (show Below _ _ _ by go_grown)
  clear hm
  go_enter Tryz.func19, Tryz.ntmps19
  go_wp2_with (refine load_M rfl (.tmp 1) rfl w.heap.size m rfl HL.out ?_)
  refine (HE.out _).mono ?_
  rintro e w1 ⟨rfl, g1⟩
  go_wp2_with fail
  go_ret
  exact ⟨rfl, btr HG.out g1 (Nat.le_refl _)⟩
theorem built_3 : Tryz.prog.built 52 [(0, .int .i64 3), (1, .int .i64 7), (12, .string ⟨#[]⟩)] = some (msC ⟨3, 7, ⟨#[]⟩⟩) := by kernel_rfl
theorem build_3 {ops : Array Oper} {rest : List Oper} {op : Oper} {a : Go.Act} {w : World} {Q : Exit → Go.Act → World → Prop} (hgd : op.guard = none) (x y z : Operand) (ho : op.op = .build 52 #[(0, x), (1, y), (12, z)])
    (hx : a.eval x = .int .i64 3) (hy : a.eval y = .int .i64 7) (hz : a.eval z = .string ⟨#[]⟩)
    (h : wpList Tryz.prog ops Q rest (a.put op.dst (msV ⟨3, 7, ⟨#[]⟩⟩)) w) : wpList Tryz.prog ops Q (op :: rest) a w := by
  have hf : Tryz.prog.built 52 ((#[(0, x), (1, y), (12, z)] : Array (Nat × Operand)).map fun (i, x) => (i, a.eval x)).toList = some (msC ⟨3, 7, ⟨#[]⟩⟩) := by
    have e : ((#[(0, x), (1, y), (12, z)] : Array (Nat × Operand)).map fun (i, x) => (i, a.eval x)).toList = [(0, .int .i64 3), (1, .int .i64 7), (12, .string ⟨#[]⟩)] := by simp [hx, hy, hz]
    rw [e]; exact built_3
  refine wpList_build hgd 52 _ ho (by rw [hf]; rfl) ?_
  rw [hf]
  exact h
set_option maxRecDepth 20000 in
set_option maxHeartbeats 8000000 in
theorem handle_e (w : World) (d : Nat) : Calls Tryz.prog 12 #[.pointer (some ⟨d, 0, none⟩), msV ⟨2, 7, ⟨#[]⟩⟩, .string exD] w fun e w' => e = .returned (.tuple #[.string exA, .slice none 0 0]) ∧ Below w.heap.size w w' := by
  have HB : Hid (∀ w1, Calls Tryz.prog 19 #[msV ⟨3, 7, ⟨#[]⟩⟩] w1 fun e w' => e = .returned (.string exA) ∧ Below w1.heap.size w1 w') := (show ∀ w1, _ from bytesOf_e)
  go_enter Tryz.func12, Tryz.ntmps12
  go_wp2_with (refine build_3 rfl _ _ _ rfl rfl rfl rfl ?_)
  refine (HB.out _).mono ?_
  rintro e w1 ⟨rfl, g1⟩
  have G1 : Below w.heap.size w w1 := btr (by go_grown) g1 (Nat.le_refl _)
  go_wp2_with fail
  go_ret2
  exact ⟨rfl, G1⟩
end Go.Proofs.YtoklgdpdeghkpaaGreatDoor

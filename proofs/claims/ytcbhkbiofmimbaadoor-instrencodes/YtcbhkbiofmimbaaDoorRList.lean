/-
  The document's bytes of lists, as a contract.
-/
import Derived.Test.YtcbhkbiofmimbaaDoorRRight
import Derived.Test.YtcbhkbiofmimbaaDoorESame
import Derived.Test.YtcbhkbiofmimbaaDoorEMath
namespace Go.Proofs.YtcbhkbiofmimbaaDoor
open Go.ChangeShapes Go.WideShapes Go.ChangeAt Go.RowKit

/-- What is written of a list of actions, behind the part's number. -/
def listX (k : ByteArray) (l : List A) : ByteArray := if l.length = 0 then ⟨#[]⟩ else k ++ pb (8 + ((encodeS l).size : Int)) 2 ++ gap4 ++ encodeS l
theorem list_size (k : ByteArray) (l : List A) (hk : k.size = 2) : (listX k l).size ≤ 1008 := by
  have := enc_long l
  unfold listX
  split
  · exact Nat.zero_le _
  · simp only [ByteArray.size_append, pb_size, hk]
    have : gap4.size = 4 := rfl
    omega
set_option maxHeartbeats 4000000 in
theorem list_any (k : ByteArray) (hk : k.size = 2) (a : Option Addr) (l : List A) (cap : Nat) (w : World) (h : Ts w a l) (hl : l.length ≤ 1000) (hW : AWs l) :
    Calls Tryd.prog 23 #[.string k, .slice a l.length cap] w fun e w' => e = .returned (.string (listX k l)) ∧ Below w.heap.size w w' := by
  have HE : Hid (Calls Tryd.prog 20 #[.slice a l.length cap] w fun e w' => e = .returned (.tuple #[.string (encodeS l), .int .i64 (encodeE l)]) ∧ Below w.heap.size w w') := rencode_any a l cap w h hl hW
  clear h hW
  by_cases h0 : l.length = 0
  · have e : listX k l = ⟨#[]⟩ := by unfold listX; rw [if_pos h0]
    rw [e]
    have hb : ((l.length : Int) == 0) = true := by simp [h0]
    clear e HE
    generalize l.length = n at *
    subst h0
    go_enter Tryd.func23, Tryd.ntmps23
    go_wp2_with fail
    go_ret
    exact ⟨rfl, Below.refl _ _⟩
  · have e : listX k l = k ++ pb (8 + ((encodeS l).size : Int)) 2 ++ gap4 ++ encodeS l := by unfold listX; rw [if_neg h0]
    rw [e]
    have hz := enc_long l
    have hb : ((l.length : Int) == 0) = false := by rw [beq_eq_false_iff_ne]; omega
    clear e hl
    generalize encodeS l = S at *
    generalize encodeE l = E at *
    generalize l.length = n at *
    have HP : Hid (∀ w, Calls Tryd.prog 22 #[.int .u64 (8 + (S.size : Int)), .int .i64 2] w fun e w' => e = .returned (.string (pb (8 + (S.size : Int)) 2)) ∧ Below w.heap.size w w') := (show ∀ w, _ from fun w => rput_any _ 2 w (by omega) (by omega) (by omega) (by omega))
    have hw2 : IntKind.u64.wrap (8 + (S.size : Int)) = 8 + (S.size : Int) := wraps_u64 _ (by omega) (by omega)
    have hps := pb_size (8 + (S.size : Int)) 2
    unfold gap4
    go_enter Tryd.func23, Tryd.ntmps23
    go_wp2_with fail
    refine HE.out.mono ?_
    rintro r w1 ⟨rfl, g1⟩
    go_wp2_with fail
    refine (HP.out _).mono ?_
    rintro r w2 ⟨rfl, g2⟩
    go_wp2_with fail
    go_ret
    exact ⟨rfl, btr g1 g2 (Nat.le_refl _)⟩
end Go.Proofs.YtcbhkbiofmimbaaDoor

/-
  The examples of the law.
-/
import Derived.Test.YtcbhkbiofmimbaaDoorEDec
namespace Go.Proofs.YtcbhkbiofmimbaaDoor
open Go.ChangeShapes Go.WideShapes Go.ChangeAt Go.RowKit

def enG : En := ⟨0, 0, none, 0, 0, none, [], 0, none, [], 0, false, 0, 0, 0, 2⟩
theorem enG_w (w : World) : EW w enG := ⟨.inl rfl, .inl rfl, by decide, by decide⟩
theorem enG_u : EU enG := ⟨by decide, by decide, by decide, by decide⟩
theorem exX_enc : encodeX enG.sp = ⟨#[0, 1, 0, 8, 2, 0, 0, 0]⟩ ∧ rightX enG.sp = 0 := by decide +kernel
theorem exX_dec : (decX 2 ⟨#[0, 1, 0, 8, 2, 0, 0, 0]⟩).2 = 23 := by decide +kernel
set_option maxRecDepth 20000 in
set_option maxHeartbeats 4000000 in
theorem awake_any (w : World) (hd : Cd w) : Calls Tryd.prog 11 #[] w fun e w' => e = .returned (.bool true) ∧ Below w.heap.size w w' := by
  have HE : Hid (Calls Tryd.prog 12 #[enV enG] w fun e w' => e = .returned (.tuple #[.string ⟨#[0, 1, 0, 8, 2, 0, 0, 0]⟩, .int .i64 0]) ∧ Below w.heap.size w w') := (show Calls _ _ _ _ _ from by
    have := encodeX_any enG w (enG_w w) enG_u hd
    rwa [exX_enc.1, exX_enc.2] at this)
  have HDc : Hid (∀ w, Cd w → Calls Tryd.prog 14 #[.int .i64 2, .string ⟨#[0, 1, 0, 8, 2, 0, 0, 0]⟩] w fun e w' => ∃ y : En, e = .returned (.tuple #[enV y, .int .i64 23]) ∧ Below w.heap.size w w') := (show ∀ w, _ from fun w hd => by
    refine (decX_any 2 ⟨#[0, 1, 0, 8, 2, 0, 0, 0]⟩ w (by decide) hd).mono ?_
    rintro r w' ⟨y, rfl, _, _, _, _, g⟩
    exact ⟨y, by rw [exX_dec], g⟩)
  have HD : Hid (Cd w) := hd
  clear hd
  go_enter Tryd.func11, Tryd.ntmps11
  go_wp2_with fail
  refine HE.out.mono ?_
  rintro r w1 ⟨rfl, g1⟩
  go_wp2_with fail
  refine (HDc.out _ (HD.out.below g1)).mono ?_
  rintro r w2 ⟨y, rfl, g2⟩
  have b2 := btr g1 g2 (Nat.le_refl _)
  clear g1 g2
  go_wp2_with fail
  go_ret
  exact ⟨rfl, b2.alloc b2.size _⟩
/-- Entries that do nothing but go, and nothing at all. -/
def enF (f t : Int) : En := ⟨f, 0, none, 0, 0, none, [], 0, none, [], 0, false, 0, 0, 0, t⟩
theorem enF_w (f t : Int) (w : World) : EW w (enF f t) := ⟨.inl rfl, .inl rfl, by simp [enF], by simp [enF]⟩
theorem enF_u (f t : Int) : EU (enF f t) := ⟨by simp [enF], by simp [enF], by simp [enF], by simp [enF]⟩
theorem not00 : bits .andNot .u64 0 0 = 0 := by decide +kernel
theorem enc_nil : encodeE [] = 0 := by decide +kernel
theorem right_F (f t : Int) : rightX (enF f t).sp = if tabB f = false then 26 else if goB f t = false then 23 else 0 := by
  unfold rightX enF En.sp
  simp only [enc_nil, not00, show metB 0 = false from rfl]
  simp
theorem encX_F (f : Int) : encX (enF f 0).sp = ⟨#[]⟩ := by
  have h : ∀ k, partX (ordV k) (enF f 0).sp = ⟨#[]⟩ := by
    intro k
    unfold partX
    rw [if_neg]
    unfold hasX enF En.sp
    simp only [Bool.not_eq_true]
    (repeat' split) <;> rfl
  unfold encX
  simp only [encTo, h]
  rfl
theorem go_F (f : Int) : goB f 0 = true := by simp [goB]
end Go.Proofs.YtcbhkbiofmimbaaDoor

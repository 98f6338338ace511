/-
  The law MatchBack answers true, of any tests and any bytes.
-/
import Derived.Test.YtjmnnjhaiecglaaDoorTrip
import Derived.Test.YtjmnnjhaiecglaaDoorPairs
namespace Go.Proofs.YtjmnnjhaiecglaaDoor
open Go.ChangeShapes Go.WideShapes Go.ChangeAt Go.RowKit

set_option maxRecDepth 20000 in
theorem lawBack_long (a : Option Addr) (l : List T) (cap : Nat) (x : ByteArray) (w : World) (hd : Cd w) (hg : 40 < l.length ∨ 1000 < x.size) :
    Calls Tryd.prog 8 #[.slice a l.length cap, .string x] w fun e w' => e = .returned (.bool true) ∧ Below w.heap.size w w' := by
  have HA : Hid (∀ w, Cd w → Calls Tryd.prog 11 #[] w fun e w' => e = .returned (.bool true) ∧ Below w.heap.size w w') := fun w hd => awake_any w hd
  by_cases h1 : (l.length : Int) > 40
  · go_enter Tryd.func8, Tryd.ntmps8
    go_wp2_with fail
    refine (HA.out _ hd).mono ?_
    rintro r w3 ⟨rfl, g3⟩
    go_wp2_with fail
    go_ret
    exact ⟨rfl, g3⟩
  · have h2 : (x.size : Int) > 1000 := by omega
    go_enter Tryd.func8, Tryd.ntmps8
    go_wp2_with fail
    refine (HA.out _ hd).mono ?_
    rintro r w3 ⟨rfl, g3⟩
    go_wp2_with fail
    go_ret
    exact ⟨rfl, g3⟩
theorem decE_ne (s : ByteArray) : decE s ≠ 0 := by unfold decE; (repeat' split) <;> decide

set_option maxRecDepth 20000 in
set_option maxHeartbeats 16000000 in
theorem lawBack_RY (a : Option Addr) (l : List T) (cap : Nat) (x : ByteArray) (w : World) (h : Ts w a l) (hc : l.length ≤ cap) (hw : TWs l) (hd : Cd w) (hl : l.length ≤ 40) (hx : x.size ≤ 1000) (hr : rightE l = 0) (hok : wholeOk x) :
    Calls Tryd.prog 8 #[.slice a l.length cap, .string x] w fun e w' => e = .returned (.bool true) ∧ Below w.heap.size w w' := by
  have HA : Hid (∀ w, Cd w → Calls Tryd.prog 11 #[] w fun e w' => e = .returned (.bool true) ∧ Below w.heap.size w w') := fun w hd => awake_any w hd
  have n1 : ¬ (l.length : Int) > 40 := by omega
  have n2 : ¬ (x.size : Int) > 1000 := by omega
  have HE : Hid (Calls Tryd.prog 21 #[.slice a l.length cap] w fun e w' => e = .returned (.tuple #[.string (encS l), .int .i64 0]) ∧ Below w.heap.size w w') := encode_ok a l cap w h (by omega) hc hd hw hr
  have hsz := encS_size l
  have hbs := body_right l hr
  have hpl := padV_lt (4 + (bodyGo [] l).size)
  have hes : (encS l).size ≤ 191 := by omega
  have hmod := encS_mod l
  obtain ⟨ok1, ok2, ok3⟩ := trip l hr hw x
  have HD : Hid (∀ w, Cd w → Calls Tryd.prog 23 #[.string (encS l ++ x)] w fun e w' => ∃ a cap, e = .returned (.tuple #[.slice a l.length cap, .int .i64 (encS l).size, .int .i64 0]) ∧ l.length ≤ cap ∧ Ts w' a l ∧ Below w.heap.size w w') := fun w hd => by
    have := dec_yes (encS l ++ x) w (by rw [ByteArray.size_append]; omega) hd ok1
    rw [ok2, ok3] at this
    exact this
  have HM : Hid (∀ a2 cap2 w, Ts w a2 l → Ts w a l → Calls Tryd.prog 15 #[.slice a2 l.length cap2, .slice a l.length cap] w fun e w' => e = .returned (.bool true) ∧ Below w.heap.size w w') := fun a2 cap2 w h2 h => by
    have := same_any a2 l cap2 a l cap w h2 (by omega) h (by omega)
    rwa [show sameB l l = true from decide_eq_true rfl] at this
  have m8 : ((encS l).size : Int) % 8 = 0 := by omega
  clear hsz hbs hpl hmod ok1 ok2 ok3 hr
  generalize encS l = E at *
  have hps := padV_ge (saidV x)
  obtain ⟨z0, _⟩ := saidV_lt x
  obtain ⟨k1, k2, k3, k4, k5⟩ := hok
  have hhalf := readN_half (x.extract 4 (saidV x).toNat).size ⟨x.extract 4 (saidV x).toNat, 0⟩ (fun h => absurd rfl h)
  have hes2 : (x.extract 4 (saidV x).toNat).size ≤ 1000 := by rw [ByteArray.size_extract]; omega
  have hll : (testsOf x).length ≤ 1000 := by
    show (readN _ _).length ≤ 1000
    simp only at hhalf
    omega
  have HD2 : Hid (∀ w, Cd w → Calls Tryd.prog 23 #[.string x] w fun e w' => ∃ a cap, e = .returned (.tuple #[.slice a (testsOf x).length cap, .int .i64 (padV (saidV x)), .int .i64 0]) ∧ (testsOf x).length ≤ cap ∧ Ts w' a (testsOf x) ∧ Below w.heap.size w w') := fun w hd => dec_yes x w (by omega) hd ⟨k1, k2, k3, k4, k5⟩
  have HE2 : Hid (∀ a cap w, Ts w a (testsOf x) → (testsOf x).length ≤ cap → Cd w → Calls Tryd.prog 21 #[.slice a (testsOf x).length cap] w fun e w' => e = .returned (.tuple #[.string (encS (testsOf x)), .int .i64 0]) ∧ Below w.heap.size w w') := fun a cap w hT hc hd => encode_ok a _ cap w hT hll hc hd (readN_w _ _) k4
  have hsl : ∀ w, (Instr.slice 9 (.string x) none (some (.int .i64 (padV (saidV x)))) none).run Tryd.prog w = .ok (.string (x.extract 0 (padV (saidV x)).toNat)) w := fun w => slice_h x _ (by omega) k2 w
  rw [← k5] at hsl
  clear hhalf hes2 hll k1 k3 k4 k5 z0
  generalize testsOf x = L at *
  generalize encS L = E2 at *
  generalize saidV x = z at *
  generalize padV z = p at *
  have hq : (E2.toList == E2.toList) = true := by simp
  go_enter Tryd.func8, Tryd.ntmps8
  go_wp2_with fail
  refine HE.out.mono ?_
  rintro r w1 ⟨rfl, g1⟩
  go_wp2_with fail
  refine (HD.out _ (hd.below g1)).mono ?_
  rintro r w2 ⟨a2, cap2, rfl, _, hT2, g2'⟩
  have g2 := btr g1 g2' (Nat.le_refl _)
  clear g2'
  go_wp2_with fail
  refine (HM.out a2 cap2 _ hT2 (h.below g2)).mono ?_
  rintro r w3 ⟨rfl, g3'⟩
  have g3 := btr g2 g3' (Nat.le_refl _)
  clear g3'
  go_wp2_with fail
  refine (HD2.out _ (hd.below g3)).mono ?_
  rintro r w4 ⟨a4, cap4, rfl, hc4, hT4, g4'⟩
  have g4 := btr g3 g4' (Nat.le_refl _)
  clear g4'
  go_wp2_with fail
  refine (HE2.out a4 cap4 _ hT4 hc4 (hd.below g4)).mono ?_
  rintro r w5 ⟨rfl, g5'⟩
  have g5 := btr g4 g5' (Nat.le_refl _)
  clear g5'
  go_wp2_with fail
  refine (HA.out _ (hd.below g5)).mono ?_
  rintro r w6 ⟨rfl, g6⟩
  go_wp2_with fail
  go_ret
  exact ⟨rfl, btr g5 g6 (Nat.le_refl _)⟩

set_option maxRecDepth 20000 in
set_option maxHeartbeats 16000000 in
theorem lawBack_RN (a : Option Addr) (l : List T) (cap : Nat) (x : ByteArray) (w : World) (h : Ts w a l) (hc : l.length ≤ cap) (hw : TWs l) (hd : Cd w) (hl : l.length ≤ 40) (hx : x.size ≤ 1000) (hr : rightE l = 0) (hok : ¬ wholeOk x) :
    Calls Tryd.prog 8 #[.slice a l.length cap, .string x] w fun e w' => e = .returned (.bool true) ∧ Below w.heap.size w w' := by
  have HA : Hid (∀ w, Cd w → Calls Tryd.prog 11 #[] w fun e w' => e = .returned (.bool true) ∧ Below w.heap.size w w') := fun w hd => awake_any w hd
  have n1 : ¬ (l.length : Int) > 40 := by omega
  have n2 : ¬ (x.size : Int) > 1000 := by omega
  have HE : Hid (Calls Tryd.prog 21 #[.slice a l.length cap] w fun e w' => e = .returned (.tuple #[.string (encS l), .int .i64 0]) ∧ Below w.heap.size w w') := encode_ok a l cap w h (by omega) hc hd hw hr
  have hsz := encS_size l
  have hbs := body_right l hr
  have hpl := padV_lt (4 + (bodyGo [] l).size)
  have hes : (encS l).size ≤ 191 := by omega
  have hmod := encS_mod l
  obtain ⟨ok1, ok2, ok3⟩ := trip l hr hw x
  have HD : Hid (∀ w, Cd w → Calls Tryd.prog 23 #[.string (encS l ++ x)] w fun e w' => ∃ a cap, e = .returned (.tuple #[.slice a l.length cap, .int .i64 (encS l).size, .int .i64 0]) ∧ l.length ≤ cap ∧ Ts w' a l ∧ Below w.heap.size w w') := fun w hd => by
    have := dec_yes (encS l ++ x) w (by rw [ByteArray.size_append]; omega) hd ok1
    rw [ok2, ok3] at this
    exact this
  have HM : Hid (∀ a2 cap2 w, Ts w a2 l → Ts w a l → Calls Tryd.prog 15 #[.slice a2 l.length cap2, .slice a l.length cap] w fun e w' => e = .returned (.bool true) ∧ Below w.heap.size w w') := fun a2 cap2 w h2 h => by
    have := same_any a2 l cap2 a l cap w h2 (by omega) h (by omega)
    rwa [show sameB l l = true from decide_eq_true rfl] at this
  have m8 : ((encS l).size : Int) % 8 = 0 := by omega
  clear hsz hbs hpl hmod ok1 ok2 ok3 hr
  generalize encS l = E at *
  have HD2 : Hid (∀ w, Cd w → Calls Tryd.prog 23 #[.string x] w fun e w' => e = .returned (.tuple #[.slice none 0 0, .int .i64 0, .int .i64 (decE x)]) ∧ Below w.heap.size w w') := fun w hd => dec_nope x w (by omega) hd hok
  have hk : (decE x != 0) = true := by simpa using decE_ne x
  clear hok
  generalize decE x = k at *
  go_enter Tryd.func8, Tryd.ntmps8
  go_wp2_with fail
  refine HE.out.mono ?_
  rintro r w1 ⟨rfl, g1⟩
  go_wp2_with fail
  refine (HD.out _ (hd.below g1)).mono ?_
  rintro r w2 ⟨a2, cap2, rfl, _, hT2, g2'⟩
  have g2 := btr g1 g2' (Nat.le_refl _)
  clear g2'
  go_wp2_with fail
  refine (HM.out a2 cap2 _ hT2 (h.below g2)).mono ?_
  rintro r w3 ⟨rfl, g3'⟩
  have g3 := btr g2 g3' (Nat.le_refl _)
  clear g3'
  go_wp2_with fail
  refine (HD2.out _ (hd.below g3)).mono ?_
  rintro r w4 ⟨rfl, g4'⟩
  have g4 := btr g3 g4' (Nat.le_refl _)
  clear g4'
  go_wp2_with fail
  refine (HA.out _ (hd.below g4)).mono ?_
  rintro r w6 ⟨rfl, g6⟩
  go_wp2_with fail
  go_ret
  exact ⟨rfl, btr g4 g6 (Nat.le_refl _)⟩

set_option maxRecDepth 20000 in
set_option maxHeartbeats 16000000 in
theorem lawBack_WY (a : Option Addr) (l : List T) (cap : Nat) (x : ByteArray) (w : World) (h : Ts w a l) (hc : l.length ≤ cap) (_ : TWs l) (hd : Cd w) (hl : l.length ≤ 40) (hx : x.size ≤ 1000) (hr : rightE l ≠ 0) (hok : wholeOk x) :
    Calls Tryd.prog 8 #[.slice a l.length cap, .string x] w fun e w' => e = .returned (.bool true) ∧ Below w.heap.size w w' := by
  have HA : Hid (∀ w, Cd w → Calls Tryd.prog 11 #[] w fun e w' => e = .returned (.bool true) ∧ Below w.heap.size w w') := fun w hd => awake_any w hd
  have n1 : ¬ (l.length : Int) > 40 := by omega
  have n2 : ¬ (x.size : Int) > 1000 := by omega
  have HE : Hid (Calls Tryd.prog 21 #[.slice a l.length cap] w fun e w' => e = .returned (.tuple #[.string ⟨#[]⟩, .int .i64 (rightE l)]) ∧ Below w.heap.size w w') := encode_bad a l cap w h (by omega) hc hr
  have HR : Hid (∀ w, Ts w a l → Calls Tryd.prog 9 #[.slice a l.length cap] w fun e w' => e = .returned (.int .i64 (rightE l)) ∧ Below w.heap.size w w') := fun w h => right_any a l cap w h (by omega) hc
  have hr0 : (rightE l == 0) = false := by simpa using hr
  clear hr
  generalize rightE l = R at *
  have hps := padV_ge (saidV x)
  obtain ⟨z0, _⟩ := saidV_lt x
  obtain ⟨k1, k2, k3, k4, k5⟩ := hok
  have hhalf := readN_half (x.extract 4 (saidV x).toNat).size ⟨x.extract 4 (saidV x).toNat, 0⟩ (fun h => absurd rfl h)
  have hes2 : (x.extract 4 (saidV x).toNat).size ≤ 1000 := by rw [ByteArray.size_extract]; omega
  have hll : (testsOf x).length ≤ 1000 := by
    show (readN _ _).length ≤ 1000
    simp only at hhalf
    omega
  have HD2 : Hid (∀ w, Cd w → Calls Tryd.prog 23 #[.string x] w fun e w' => ∃ a cap, e = .returned (.tuple #[.slice a (testsOf x).length cap, .int .i64 (padV (saidV x)), .int .i64 0]) ∧ (testsOf x).length ≤ cap ∧ Ts w' a (testsOf x) ∧ Below w.heap.size w w') := fun w hd => dec_yes x w (by omega) hd ⟨k1, k2, k3, k4, k5⟩
  have HE2 : Hid (∀ a cap w, Ts w a (testsOf x) → (testsOf x).length ≤ cap → Cd w → Calls Tryd.prog 21 #[.slice a (testsOf x).length cap] w fun e w' => e = .returned (.tuple #[.string (encS (testsOf x)), .int .i64 0]) ∧ Below w.heap.size w w') := fun a cap w hT hc hd => encode_ok a _ cap w hT hll hc hd (readN_w _ _) k4
  have hsl : ∀ w, (Instr.slice 9 (.string x) none (some (.int .i64 (padV (saidV x)))) none).run Tryd.prog w = .ok (.string (x.extract 0 (padV (saidV x)).toNat)) w := fun w => slice_h x _ (by omega) k2 w
  rw [← k5] at hsl
  clear hhalf hes2 hll k1 k3 k4 k5 z0
  generalize testsOf x = L at *
  generalize encS L = E2 at *
  generalize saidV x = z at *
  generalize padV z = p at *
  have hq : (E2.toList == E2.toList) = true := by simp
  go_enter Tryd.func8, Tryd.ntmps8
  go_wp2_with fail
  refine HE.out.mono ?_
  rintro r w1 ⟨rfl, g1⟩
  go_wp2_with fail
  refine (HR.out _ (h.below g1)).mono ?_
  rintro r w3 ⟨rfl, g3'⟩
  have g3 := btr g1 g3' (Nat.le_refl _)
  clear g3'
  go_wp2_with fail
  refine (HD2.out _ (hd.below g3)).mono ?_
  rintro r w4 ⟨a4, cap4, rfl, hc4, hT4, g4'⟩
  have g4 := btr g3 g4' (Nat.le_refl _)
  clear g4'
  go_wp2_with fail
  refine (HE2.out a4 cap4 _ hT4 hc4 (hd.below g4)).mono ?_
  rintro r w5 ⟨rfl, g5'⟩
  have g5 := btr g4 g5' (Nat.le_refl _)
  clear g5'
  go_wp2_with fail
  refine (HA.out _ (hd.below g5)).mono ?_
  rintro r w6 ⟨rfl, g6⟩
  go_wp2_with fail
  go_ret
  exact ⟨rfl, btr g5 g6 (Nat.le_refl _)⟩

set_option maxRecDepth 20000 in
set_option maxHeartbeats 16000000 in
theorem lawBack_WN (a : Option Addr) (l : List T) (cap : Nat) (x : ByteArray) (w : World) (h : Ts w a l) (hc : l.length ≤ cap) (_ : TWs l) (hd : Cd w) (hl : l.length ≤ 40) (hx : x.size ≤ 1000) (hr : rightE l ≠ 0) (hok : ¬ wholeOk x) :
    Calls Tryd.prog 8 #[.slice a l.length cap, .string x] w fun e w' => e = .returned (.bool true) ∧ Below w.heap.size w w' := by
  have HA : Hid (∀ w, Cd w → Calls Tryd.prog 11 #[] w fun e w' => e = .returned (.bool true) ∧ Below w.heap.size w w') := fun w hd => awake_any w hd
  have n1 : ¬ (l.length : Int) > 40 := by omega
  have n2 : ¬ (x.size : Int) > 1000 := by omega
  have HE : Hid (Calls Tryd.prog 21 #[.slice a l.length cap] w fun e w' => e = .returned (.tuple #[.string ⟨#[]⟩, .int .i64 (rightE l)]) ∧ Below w.heap.size w w') := encode_bad a l cap w h (by omega) hc hr
  have HR : Hid (∀ w, Ts w a l → Calls Tryd.prog 9 #[.slice a l.length cap] w fun e w' => e = .returned (.int .i64 (rightE l)) ∧ Below w.heap.size w w') := fun w h => right_any a l cap w h (by omega) hc
  have hr0 : (rightE l == 0) = false := by simpa using hr
  clear hr
  generalize rightE l = R at *
  have HD2 : Hid (∀ w, Cd w → Calls Tryd.prog 23 #[.string x] w fun e w' => e = .returned (.tuple #[.slice none 0 0, .int .i64 0, .int .i64 (decE x)]) ∧ Below w.heap.size w w') := fun w hd => dec_nope x w (by omega) hd hok
  have hk : (decE x != 0) = true := by simpa using decE_ne x
  clear hok
  generalize decE x = k at *
  go_enter Tryd.func8, Tryd.ntmps8
  go_wp2_with fail
  refine HE.out.mono ?_
  rintro r w1 ⟨rfl, g1⟩
  go_wp2_with fail
  refine (HR.out _ (h.below g1)).mono ?_
  rintro r w3 ⟨rfl, g3'⟩
  have g3 := btr g1 g3' (Nat.le_refl _)
  clear g3'
  go_wp2_with fail
  refine (HD2.out _ (hd.below g3)).mono ?_
  rintro r w4 ⟨rfl, g4'⟩
  have g4 := btr g3 g4' (Nat.le_refl _)
  clear g4'
  go_wp2_with fail
  refine (HA.out _ (hd.below g4)).mono ?_
  rintro r w6 ⟨rfl, g6⟩
  go_wp2_with fail
  go_ret
  exact ⟨rfl, btr g4 g6 (Nat.le_refl _)⟩

theorem lawBack_walk (a : Option Addr) (l : List T) (cap : Nat) (x : ByteArray) (w : World) (h : Ts w a l) (hc : l.length ≤ cap) (hw : TWs l) (_ : x.size ≤ maxLen) (hd : Cd w) :
    Calls Tryd.prog 8 #[.slice a l.length cap, .string x] w fun e w' => e = .returned (.bool true) ∧ Below w.heap.size w w' := by
  by_cases hg : 40 < l.length ∨ 1000 < x.size
  · exact lawBack_long a l cap x w hd hg
  · by_cases hr : rightE l = 0 <;> by_cases hok : wholeOk x
    · exact lawBack_RY a l cap x w h hc hw hd (by omega) (by omega) hr hok
    · exact lawBack_RN a l cap x w h hc hw hd (by omega) (by omega) hr hok
    · exact lawBack_WY a l cap x w h hc hw hd (by omega) (by omega) hr hok
    · exact lawBack_WN a l cap x w h hc hw hd (by omega) (by omega) hr hok
end Go.Proofs.YtjmnnjhaiecglaaDoor

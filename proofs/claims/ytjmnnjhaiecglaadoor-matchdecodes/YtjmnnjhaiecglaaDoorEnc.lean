/-
  What bytesOf, padded, encodeBehind answer, as contracts.
-/
import Derived.Test.YtjmnnjhaiecglaaDoorCode
import Derived.Test.YtjmnnjhaiecglaaDoorPut
import Derived.Test.YtjmnnjhaiecglaaDoorRightP
import Derived.Test.YtjmnnjhaiecglaaDoorShelf
namespace Go.Proofs.YtjmnnjhaiecglaaDoor
open Go.ChangeShapes Go.WideShapes Go.ChangeAt Go.RowKit

set_option maxHeartbeats 1000000 in
theorem bytesOf_any (f : Int) (w : World) : Calls Tryd.prog 53 #[.int .i64 f] w fun e w' => e = .returned (.int .i64 (szV f)) ∧ w' = w := by
  have HW : Hid (∀ w, Calls Tryd.prog 44 #[.int .i64 f] w fun e w' => e = .returned (.int .i64 (wdV f)) ∧ w' = w) := fun w => width_any f w
  have h := szV_eq f
  have hb : 0 ≤ wdV f ∧ wdV f ≤ 64 := by unfold wdV; (repeat' split) <;> omega
  rw [← h]
  clear h
  generalize wdV f = y at *
  obtain ⟨b0, b1⟩ := hb
  go_enter Tryd.func53, Tryd.ntmps53
  go_wp2_with fail
  refine (HW.out _).mono ?_
  rintro x w1 ⟨rfl, rfl⟩
  go_wp2_with fail
  go_ret
  exact ⟨ret_int (by first | rfl | omega), rfl⟩
set_option maxHeartbeats 1000000 in
theorem padded_any (n : Int) (w : World) (h0 : 0 ≤ n) (h1 : n ≤ 1000000) : Calls Tryd.prog 37 #[.int .i64 n] w fun e w' => e = .returned (.int .i64 (padV n)) ∧ w' = w := by
  unfold padV
  go_enter Tryd.func37, Tryd.ntmps37
  go_wp2_with fail
  go_ret
  exact ⟨ret_int (by first | rfl | omega), rfl⟩

set_option maxHeartbeats 4000000 in
theorem encT_true (t : T) (a : Option Addr) (l : List T) (cap : Nat) (w : World) (h : Ts w a l) (hl : l.length ≤ 1000) (hd : Cd w) (hf : ¬ (t.1 < 1 ∨ 9 < t.1)) (hv0 : 0 ≤ t.2.1) (hm0 : 0 ≤ t.2.2) (hv1 : t.2.1 ≤ grV t.1) (hm1 : t.2.2 ≤ grV t.1) (hb : wholeB t = true) :
    Calls Tryd.prog 34 #[tV t, .slice a l.length cap] w fun e w' => e = .returned (.string (encT t l)) ∧ Below w.heap.size w w' := by
  have HC : Hid (Calls Tryd.prog 52 #[.int .i64 t.1, .slice a l.length cap] (tx w t) fun e w' => e = .returned (.int .i64 (codeV t.1 l)) ∧ Below (tx w t).heap.size (tx w t) w') := code_any t.1 a l cap _ (h.alloc _) hl (hd.alloc _)
  have HB : Hid (∀ w, Calls Tryd.prog 53 #[.int .i64 t.1] w fun e w' => e = .returned (.int .i64 (szV t.1)) ∧ w' = w) := fun w => bytesOf_any t.1 w
  have HV : Hid (∀ w, Calls Tryd.prog 35 #[.int .u64 t.2.1, .int .i64 (szV t.1)] w fun e w' => e = .returned (.string (pb t.2.1 (szV t.1))) ∧ Below w.heap.size w w') := fun w => mput_any _ _ w hf hv0 hv1
  have HM : Hid (∀ w, Calls Tryd.prog 35 #[.int .u64 t.2.2, .int .i64 (szV t.1)] w fun e w' => e = .returned (.string (pb t.2.2 (szV t.1))) ∧ Below w.heap.size w w') := fun w => mput_any _ _ w hf hm0 hm1
  have HI : Hid (∀ w, Calls Tryd.prog 54 #[tV t] w fun e w' => e = .returned (.bool true) ∧ Below w.heap.size w w') := fun w => hb ▸ isWhole_any t w
  have H1 : Hid (∀ n w, 0 ≤ n → n < 256 → Calls Tryd.prog 35 #[.int .u64 n, .int .i64 1] w fun e w' => e = .returned (.string (pb n 1)) ∧ Below w.heap.size w w') := fun n w h0 h1 => mput1 n w h0 h1
  have H2 : Hid (∀ w, Calls Tryd.prog 35 #[.int .u64 32768, .int .i64 2] w fun e w' => e = .returned (.string (pb 32768 2)) ∧ Below w.heap.size w w') := fun w => mput2 32768 w (by omega) (by omega)
  have hps := pb_size
  have hs := restT_size t
  have hE : Hid (encT t l = pb 32768 2 ++ pb (2 * codeV t.1 l) 1 ++ pb (restT t).size 1 ++ restT t) := (show _ = _ by unfold encT headT; rw [hb]; simp only [if_true])
  have hR : restT t = pb t.2.1 (szV t.1) := by unfold restT; rw [hb]; simp only [if_true]
  obtain ⟨z0, z1⟩ := codeV_lt t.1 l
  clear h hl hd hf hv0 hm0 hv1 hm1 hb
  generalize codeV t.1 l = z at *
  generalize encT t l = E at *
  generalize szV t.1 = n at *
  rw [hR] at hs
  generalize hRR : restT t = R at *
  clear hRR
  generalize hx : pb t.2.1 n = x at *
  clear hx
  subst hR
  have cc := C3.new w t
  obtain ⟨c0, c1, c2⟩ := cc
  go_enter Tryd.func34, Tryd.ntmps34
  go_wp2_with fail
  refine HC.out.mono ?_
  rintro r w1 ⟨rfl, g1⟩
  have k1 := (C3.new w t).below (by simp) g1
  have s1 := Nat.lt_of_lt_of_le (show w.heap.size < (tx w t).heap.size by simp) g1.size
  have b1 : Below w.heap.size w w1 := btr (by go_grown) g1 (by simp)
  clear c0 c1 c2 g1
  have k1' := k1
  obtain ⟨c0, c1, c2⟩ := k1'
  go_wp2_with fail
  refine (HB.out _).mono ?_
  rintro r w2 ⟨rfl, rfl⟩
  go_wp2_with fail
  refine (HV.out _).mono ?_
  rintro r w2 ⟨rfl, g2⟩
  have k2 := C3.below (t := t) k1 s1 g2
  have s2 := Nat.lt_of_lt_of_le s1 g2.size
  have b2 := btr b1 g2 (Nat.le_refl _)
  clear c0 c1 c2 k1 s1 g2 b1
  have k2' := k2
  obtain ⟨c0, c1, c2⟩ := k2'
  go_wp2_with fail
  refine (HI.out _).mono ?_
  rintro r w3 ⟨rfl, g3⟩
  have k3 := C3.below (t := t) k2 s2 g3
  have b3 := btr b2 g3 (Nat.le_refl _)
  clear c0 c1 c2 k2 s2 g3 b2
  obtain ⟨c0, c1, c2⟩ := k3
  go_wp2_with fail
  refine (H2.out _).mono ?_
  rintro r w5 ⟨rfl, g5⟩
  have b5 := btr b3 g5 (Nat.le_refl _)
  clear g5
  go_wp2_with fail
  refine (H1.out _ _ (by omega) (by omega)).mono ?_
  rintro r w6 ⟨rfl, g6⟩
  have b6 := btr b5 g6 (Nat.le_refl _)
  clear g6
  go_wp2_with fail
  refine (H1.out _ _ (by omega) (by omega)).mono ?_
  rintro r w7 ⟨rfl, g7⟩
  have b7 := btr b6 g7 (Nat.le_refl _)
  clear g7
  go_wp2_with fail
  go_ret
  exact ⟨by rw [hE.out]; rfl, b7⟩

set_option maxHeartbeats 4000000 in
theorem encT_false (t : T) (a : Option Addr) (l : List T) (cap : Nat) (w : World) (h : Ts w a l) (hl : l.length ≤ 1000) (hd : Cd w) (hf : ¬ (t.1 < 1 ∨ 9 < t.1)) (hv0 : 0 ≤ t.2.1) (hm0 : 0 ≤ t.2.2) (hv1 : t.2.1 ≤ grV t.1) (hm1 : t.2.2 ≤ grV t.1) (hb : wholeB t = false) :
    Calls Tryd.prog 34 #[tV t, .slice a l.length cap] w fun e w' => e = .returned (.string (encT t l)) ∧ Below w.heap.size w w' := by
  have HC : Hid (Calls Tryd.prog 52 #[.int .i64 t.1, .slice a l.length cap] (tx w t) fun e w' => e = .returned (.int .i64 (codeV t.1 l)) ∧ Below (tx w t).heap.size (tx w t) w') := code_any t.1 a l cap _ (h.alloc _) hl (hd.alloc _)
  have HB : Hid (∀ w, Calls Tryd.prog 53 #[.int .i64 t.1] w fun e w' => e = .returned (.int .i64 (szV t.1)) ∧ w' = w) := fun w => bytesOf_any t.1 w
  have HV : Hid (∀ w, Calls Tryd.prog 35 #[.int .u64 t.2.1, .int .i64 (szV t.1)] w fun e w' => e = .returned (.string (pb t.2.1 (szV t.1))) ∧ Below w.heap.size w w') := fun w => mput_any _ _ w hf hv0 hv1
  have HM : Hid (∀ w, Calls Tryd.prog 35 #[.int .u64 t.2.2, .int .i64 (szV t.1)] w fun e w' => e = .returned (.string (pb t.2.2 (szV t.1))) ∧ Below w.heap.size w w') := fun w => mput_any _ _ w hf hm0 hm1
  have HI : Hid (∀ w, Calls Tryd.prog 54 #[tV t] w fun e w' => e = .returned (.bool false) ∧ Below w.heap.size w w') := fun w => hb ▸ isWhole_any t w
  have H1 : Hid (∀ n w, 0 ≤ n → n < 256 → Calls Tryd.prog 35 #[.int .u64 n, .int .i64 1] w fun e w' => e = .returned (.string (pb n 1)) ∧ Below w.heap.size w w') := fun n w h0 h1 => mput1 n w h0 h1
  have H2 : Hid (∀ w, Calls Tryd.prog 35 #[.int .u64 32768, .int .i64 2] w fun e w' => e = .returned (.string (pb 32768 2)) ∧ Below w.heap.size w w') := fun w => mput2 32768 w (by omega) (by omega)
  have hps := pb_size
  have hs := restT_size t
  have hE : Hid (encT t l = pb 32768 2 ++ pb (2 * codeV t.1 l + 1) 1 ++ pb (restT t).size 1 ++ restT t) := (show _ = _ by unfold encT headT; rw [hb]; simp only [Bool.false_eq_true, if_false])
  have hR : restT t = pb t.2.1 (szV t.1) ++ pb t.2.2 (szV t.1) := by unfold restT; rw [hb]; simp only [Bool.false_eq_true, if_false]
  obtain ⟨z0, z1⟩ := codeV_lt t.1 l
  clear h hl hd hf hv0 hm0 hv1 hm1 hb
  generalize codeV t.1 l = z at *
  generalize encT t l = E at *
  generalize szV t.1 = n at *
  rw [hR] at hs
  generalize hRR : restT t = R at *
  clear hRR
  generalize hx : pb t.2.1 n = x at *
  generalize hy : pb t.2.2 n = y at *
  clear hx hy
  subst hR
  have hs2 : x.size + y.size ≤ 16 := by rw [ByteArray.size_append] at hs; exact hs
  have cc := C3.new w t
  obtain ⟨c0, c1, c2⟩ := cc
  go_enter Tryd.func34, Tryd.ntmps34
  go_wp2_with fail
  refine HC.out.mono ?_
  rintro r w1 ⟨rfl, g1⟩
  have k1 := (C3.new w t).below (by simp) g1
  have s1 := Nat.lt_of_lt_of_le (show w.heap.size < (tx w t).heap.size by simp) g1.size
  have b1 : Below w.heap.size w w1 := btr (by go_grown) g1 (by simp)
  clear c0 c1 c2 g1
  have k1' := k1
  obtain ⟨c0, c1, c2⟩ := k1'
  go_wp2_with fail
  refine (HB.out _).mono ?_
  rintro r w2 ⟨rfl, rfl⟩
  go_wp2_with fail
  refine (HV.out _).mono ?_
  rintro r w2 ⟨rfl, g2⟩
  have k2 := C3.below (t := t) k1 s1 g2
  have s2 := Nat.lt_of_lt_of_le s1 g2.size
  have b2 := btr b1 g2 (Nat.le_refl _)
  clear c0 c1 c2 k1 s1 g2 b1
  have k2' := k2
  obtain ⟨c0, c1, c2⟩ := k2'
  go_wp2_with fail
  refine (HI.out _).mono ?_
  rintro r w3 ⟨rfl, g3⟩
  have k3 := C3.below (t := t) k2 s2 g3
  have b3 := btr b2 g3 (Nat.le_refl _)
  clear c0 c1 c2 k2 s2 g3 b2
  obtain ⟨c0, c1, c2⟩ := k3
  go_wp2_with fail
  refine (HM.out _).mono ?_
  rintro r w4 ⟨rfl, g4⟩
  have b4 := btr b3 g4 (Nat.le_refl _)
  clear c0 c1 c2 g4
  go_wp2_with fail
  refine (H2.out _).mono ?_
  rintro r w5 ⟨rfl, g5⟩
  have b5 := btr b4 g5 (Nat.le_refl _)
  clear g5
  go_wp2_with fail
  refine (H1.out _ _ (by omega) (by omega)).mono ?_
  rintro r w6 ⟨rfl, g6⟩
  have b6 := btr b5 g6 (Nat.le_refl _)
  clear g6
  go_wp2_with fail
  refine (H1.out _ _ (by omega) (by omega)).mono ?_
  rintro r w7 ⟨rfl, g7⟩
  have b7 := btr b6 g7 (Nat.le_refl _)
  clear g7
  go_wp2_with fail
  go_ret
  exact ⟨by rw [hE.out, ByteArray.size_append, Int.natCast_add]; rfl, b7⟩

theorem encT_any (t : T) (a : Option Addr) (l : List T) (cap : Nat) (w : World) (h : Ts w a l) (hl : l.length ≤ 1000) (hd : Cd w) (hw : TW t) (hb : behindE t l = 0) :
    Calls Tryd.prog 34 #[tV t, .slice a l.length cap] w fun e w' => e = .returned (.string (encT t l)) ∧ Below w.heap.size w w' := by
  have hF := fit_of hb
  obtain ⟨n0, n1, n2⟩ := fit_num hF hw
  cases hx : wholeB t with
  | true => exact encT_true t a l cap w h hl hd hF.fld hw.v0 hw.m0 (by omega) n1 hx
  | false => exact encT_false t a l cap w h hl hd hF.fld hw.v0 hw.m0 (by omega) n1 hx
end Go.Proofs.YtjmnnjhaiecglaaDoor

/-
  The document's Encode, as a contract; the walk of ActEncodes.
-/
import Derived.Test.YtmlonfchbkmbcaaDoorRefB
import Derived.Test.YtmlonfchbkmbcaaDoorRefR
import Derived.Test.YtmlonfchbkmbcaaDoorAwake
namespace Go.Proofs.YtmlonfchbkmbcaaDoor
open Go.ChangeShapes Go.WideShapes Go.ChangeAt Go.RowKit

set_option maxHeartbeats 4000000 in
theorem rencode_any (a : Option Addr) (l : List A) (cap : Nat) (w : World) (h : Ts w a l) (hl : l.length ≤ 1000) (hW : AWs l) :
    Calls Tryd.prog 11 #[.slice a l.length cap] w fun e w' => e = .returned (.tuple #[.string (encodeS l), .int .i64 (encodeE l)]) ∧ Below w.heap.size w w' := by
  have HR : Hid (∀ x w, AW x → Calls Tryd.prog 13 #[tV x] w fun e w' => e = .returned (.bool (rightB x)) ∧ Below w.heap.size w w') := (show ∀ x w, _ from fun x w h => rright_any x w h)
  have HW : Hid (∀ x w, rightB x = true → AW x → Calls Tryd.prog 25 #[tV x] w fun e w' => e = .returned (.string (writeV x)) ∧ Below w.heap.size w w') := (show ∀ x w, _ from fun x w h1 h2 => rbytes_any x w h1 h2)
  have HWs : Hid (AWs l) := hW
  clear hW
  go_enter Tryd.func11, Tryd.ntmps11
  go_wp2_with fail
  go_loopw [4] (fun i wr => ∃ k : Nat, k ≤ l.length ∧ i = .int .i64 k ∧ Hid (allB (l.take k) = true) ∧ Below w.heap.size w wr) (fun i _ => l.length - (intOf i).toNat)
  case atStart => exact ⟨0, Nat.zero_le _, rfl, (show _ = _ by simp [allB]), Below.refl _ _⟩
  case round =>
    obtain ⟨k, hk, rfl, HA, hbel⟩ := hrel
    by_cases hlt : k < l.length
    · have hT := h.below hbel
      obtain ⟨g, o, rfl, hg, hc⟩ := hT.at hlt
      obtain ⟨c0, c1, c2⟩ := hc k hlt
      have hs := all_snoc l k hlt
      rw [HA.out, Bool.true_and] at hs
      have HE : Hid (rightB l[k] = false → encodeE l = 22 ∧ encodeS l = ⟨#[]⟩) := (show rightB l[k] = false → _ from fun hf => by
        have e0 : allB l = false := by
          unfold allB
          rw [List.all_eq_false]
          exact ⟨l[k], List.getElem_mem hlt, by simp [hf]⟩
        have e1 : encodeE l = 22 := by unfold encodeE; rw [e0]; simp
        exact ⟨e1, by unfold encodeS; rw [e1]; simp⟩)
      have HS : Hid (allB (l.take (k + 1)) = rightB l[k]) := hs
      have HX : Hid (AW l[k]) := HWs.out _ (List.getElem_mem hlt)
      clear hs hc hT
      generalize l[k] = X at *
      cases hb : rightB X with
      | true =>
        go_wp2_with fail
        refine (HR.out _ _ HX.out).mono ?_
        rintro r w1 ⟨rfl, g1⟩
        rw [hb]
        have b1 : Below w.heap.size w w1 := btr hbel g1 (Nat.le_refl _)
        go_wp2_with fail
        go_roundw
        case rel => exact ⟨k + 1, by omega, by go_num, (show _ = _ by rw [HS.out, hb]), b1⟩
        case measure => simp [intOf]; omega
      | false =>
        go_wp2_with fail
        refine (HR.out _ _ HX.out).mono ?_
        rintro r w1 ⟨rfl, g1⟩
        rw [hb]
        have b1 : Below w.heap.size w w1 := btr hbel g1 (Nat.le_refl _)
        go_wp2_with fail
        go_ret2
        obtain ⟨q1, q2⟩ := HE.out hb
        exact ⟨by rw [q1, q2]; rfl, b1⟩
    · have hk' : k = l.length := by omega
      subst hk'
      have hB := HA.out
      rw [List.take_length] at hB
      have HB : Hid (allB l = true) := hB
      clear hB HA
      by_cases h32 : l.length ≤ 32
      · have HE : Hid (encodeE l = 0 ∧ encodeS l = encL l) := (show _ ∧ _ by
          have e1 : encodeE l = 0 := by unfold encodeE; rw [HB.out]; simp [h32]
          exact ⟨e1, by unfold encodeS; rw [e1]; simp⟩)
        have z1 : ¬ (32 : Int) < (l.length : Int) := by omega
        go_wp2_with fail
        go_loopw [5, 6] (fun v i wr => ∃ (k : Nat) (s : ByteArray), k ≤ l.length ∧ i = .int .i64 k ∧ v = .string s ∧ Hid (s = encL (l.take k)) ∧ s.size ≤ 16 * k ∧ Below w.heap.size w wr) (fun _ i _ => l.length - (intOf i).toNat)
        case atStart => exact ⟨0, ⟨#[]⟩, Nat.zero_le _, rfl, rfl, (show _ = _ from rfl), by simp [ByteArray.size], hbel⟩
        case round =>
          clear hbel
          obtain ⟨k, s, hk, rfl, rfl, HS, hsz, hbel⟩ := hrel
          by_cases hlt : k < l.length
          · have hT := h.below hbel
            obtain ⟨g, o, rfl, hg, hc⟩ := hT.at hlt
            obtain ⟨c0, c1, c2⟩ := hc k hlt
            have HN : Hid (encL (l.take (k + 1)) = encL (l.take k) ++ writeV l[k]) := encL_snoc l k hlt
            have hr := all_get HB.out hlt
            have hws := write_size hr
            have HRX : Hid (rightB l[k] = true) := hr
            have HX : Hid (AW l[k]) := HWs.out _ (List.getElem_mem hlt)
            clear hc hT hr
            generalize l[k] = X at *
            go_wp2_with fail
            refine (HW.out _ _ HRX.out HX.out).mono ?_
            rintro r w2 ⟨rfl, g2⟩
            have b2 : Below w.heap.size w w2 := btr hbel g2 (Nat.le_refl _)
            go_wp2_with fail
            go_roundw
            case rel => exact ⟨k + 1, s ++ writeV X, by omega, by go_num, rfl, (show _ = _ by rw [HN.out, HS.out]), by rw [ByteArray.size_append]; omega, b2⟩
            case measure => simp [intOf]; omega
          · have hk' : k = l.length := by omega
            subst hk'
            have e := HS.out
            rw [List.take_length] at e
            subst e
            go_wp2_with fail
            go_ret2
            exact ⟨by rw [HE.out.1, HE.out.2]; rfl, hbel⟩
      · have HE : Hid (encodeE l = 44 ∧ encodeS l = ⟨#[]⟩) := (show _ ∧ _ by
          have e1 : encodeE l = 44 := by unfold encodeE; rw [HB.out]; simp [h32]
          exact ⟨e1, by unfold encodeS; rw [e1]; simp⟩)
        have z1 : (32 : Int) < (l.length : Int) := by omega
        go_wp2_with fail
        go_ret2
        exact ⟨by rw [HE.out.1, HE.out.2]; rfl, hbel⟩
theorem enc_long (l : List A) : (encodeS l).size ≤ 1000 := by
  unfold encodeS
  split
  · next h =>
    have hall : allB l = true := by
      unfold encodeE at h
      split at h
      · assumption
      · cases h
    have h32 : l.length ≤ 32 := by
      unfold encodeE at h
      rw [hall] at h
      simp at h
      omega
    have : ∀ m : List A, allB m = true → (encL m).size ≤ 16 * m.length := fun m => by
      induction m with
      | nil => intro _; simp [encL, ByteArray.size]
      | cons x t ih =>
        intro hm
        unfold allB at hm
        rw [List.all_cons, Bool.and_eq_true] at hm
        have h1 := write_size hm.1
        have h2 := ih hm.2
        show (writeV x ++ encL t).size ≤ _
        rw [ByteArray.size_append, List.length_cons]
        omega
    have := this l hall
    omega
  · exact Nat.zero_le _
set_option maxHeartbeats 8000000 in
theorem encodes_walk (a : Option Addr) (l : List A) (cap : Nat) (w : World) (h : Ts w a l) (_ : l.length ≤ cap) (hW : AWs l) (hd : Cd w) :
    Calls Tryd.prog 3 #[.slice a l.length cap] w fun e w' => e = .returned (.bool true) ∧ Below w.heap.size w w' := by
  have HA : Hid (∀ w, Cd w → Calls Tryd.prog 9 #[] w fun e w' => e = .returned (.bool true) ∧ Below w.heap.size w w') := (show ∀ w, _ from fun w h => awake_any w h)
  have HD : Hid (Cd w) := hd
  clear hd
  by_cases hl : l.length ≤ 60
  · have z1 : ¬ (60 : Int) < (l.length : Int) := by omega
    have HE : Hid (Calls Tryd.prog 10 #[.slice a l.length cap] w fun e w' => e = .returned (.tuple #[.string (encodeS l), .int .i64 (encodeE l)]) ∧ Below w.heap.size w w') := encode_any a l cap w h (by omega) HD.out
    have HF : Hid (∀ w, Ts w a l → Calls Tryd.prog 11 #[.slice a l.length cap] w fun e w' => e = .returned (.tuple #[.string (encodeS l), .int .i64 (encodeE l)]) ∧ Below w.heap.size w w') := (show ∀ w, _ from fun w h => rencode_any a l cap w h (by omega) hW)
    have HR : Hid (∀ x w, Cd w → Calls Tryd.prog 12 #[tV x] w fun e w' => e = .returned (.bool (rightB x)) ∧ Below w.heap.size w w') := (show ∀ x w, _ from fun x w h => right_any x w h)
    have HRR : Hid (∀ x w, AW x → Calls Tryd.prog 13 #[tV x] w fun e w' => e = .returned (.bool (rightB x)) ∧ Below w.heap.size w w') := (show ∀ x w, _ from fun x w h => rright_any x w h)
    have HWs : Hid (AWs l) := hW
    clear hW
    have hes := enc_long l
    generalize encodeS l = S at *
    generalize encodeE l = E at *
    have hE1 : (E != E) = false := by simp
    go_enter Tryd.func3, Tryd.ntmps3
    go_wp2_with fail
    refine HE.out.mono ?_
    rintro r w1 ⟨rfl, g1⟩
    go_wp2_with fail
    refine (HF.out _ (h.below g1)).mono ?_
    rintro r w2 ⟨rfl, g2⟩
    have b2 := btr g1 g2 (Nat.le_refl _)
    clear g1 g2
    go_wp2_with fail
    go_loopw [7] (fun i wr => ∃ k : Nat, k ≤ l.length ∧ i = .int .i64 k ∧ Below w.heap.size w wr) (fun i _ => l.length - (intOf i).toNat)
    case atStart => exact ⟨0, Nat.zero_le _, rfl, b2⟩
    case round =>
      obtain ⟨k, hk, rfl, hbel⟩ := hrel
      by_cases hlt : k < l.length
      · have hT := h.below hbel
        obtain ⟨g, o, rfl, hg, hc⟩ := hT.at hlt
        have q := C3.gr (hc k hlt) hg
        have HX : Hid (AW l[k]) := HWs.out _ (List.getElem_mem hlt)
        have HDn : Hid (∀ n : GrT wr, Cd n.w) := (show ∀ n : GrT wr, Cd n.w from fun n => (HD.out.below hbel).below n.h)
        clear hc hT
        generalize l[k] = X at *
        have q0 := fun n => (q n).1
        have q1 := fun n => (q n).2.1
        have q2 := fun n => (q n).2.2
        clear q
        have hbx : (rightB X != rightB X) = false := by simp
        go_wp2_with fail
        refine wp_region_grow (by kernel_rfl) (by kernel_rfl) ?_
        repeat (go_big_quiet_step ((first | (go_at_call 12; exact quiet_gr (HR.out _ _ (HDn.out _))) | (go_at_call 13; exact quiet_gr (HRR.out _ _ HX.out)))))
        refine wpQuiet_nil ?_
        rintro w3 hw'
        have g3 := gr_elim hw'
        clear q0 q1 q2 hw'
        go_wp2_with fail
        go_roundw
        case rel => exact ⟨k + 1, by omega, by go_num, btr hbel g3 (Nat.le_refl _)⟩
        case measure => simp [intOf]; omega
      · go_wp2_with fail
        refine (HA.out _ (HD.out.below hbel)).mono ?_
        rintro r w4 ⟨rfl, g4⟩
        go_wp2_with fail
        go_ret
        exact ⟨rfl, btr hbel g4 (Nat.le_refl _)⟩
  · have z1 : (60 : Int) < (l.length : Int) := by omega
    clear hW
    go_enter Tryd.func3, Tryd.ntmps3
    go_wp2_with fail
    refine (HA.out _ HD.out).mono ?_
    rintro r w4 ⟨rfl, g4⟩
    go_wp2_with fail
    go_ret
    exact ⟨rfl, g4⟩
end Go.Proofs.YtmlonfchbkmbcaaDoor

/-
  The document's Encode, as a contract.
-/
import Derived.Test.YtjjfhibkcngphaaGreatDoorRefB
import Derived.Test.YtjjfhibkcngphaaGreatDoorRefR
import Derived.Test.YtjjfhibkcngphaaGreatDoorEnc
namespace Go.Proofs.YtjjfhibkcngphaaGreatDoor
open Go.ChangeShapes Go.WideShapes Go.ChangeAt Go.RowKit

set_option maxHeartbeats 4000000 in
theorem rencode_any (a : Option Addr) (l : List A) (cap : Nat) (w : World) (h : Ts w a l) (hl : l.length ≤ 1000) (hW : AWs l) :
    Calls Tryz.prog 59 #[.slice a l.length cap] w fun e w' => e = .returned (.tuple #[.string (encodeS l), .int .i64 (encodeE l)]) ∧ Below w.heap.size w w' := by
  have HR : Hid (∀ x w, AW x → Calls Tryz.prog 76 #[tV x] w fun e w' => e = .returned (.bool (rightB x)) ∧ Below w.heap.size w w') := (show ∀ x w, _ from fun x w h => rright_any x w h)
  have HW : Hid (∀ x w, rightB x = true → AW x → Calls Tryz.prog 77 #[tV x] w fun e w' => e = .returned (.string (writeV x)) ∧ Below w.heap.size w w') := (show ∀ x w, _ from fun x w h1 h2 => rbytes_any x w h1 h2)
  have HWs : Hid (AWs l) := hW
  clear hW
  go_enter Tryz.func59, Tryz.ntmps59
  go_wp2_with fail
  go_loopw [4] (fun i wr => ∃ k : Nat, k ≤ l.length ∧ i = .int .i64 k ∧ Hid (allB (l.take k) = true) ∧ Below w.heap.size w wr) (fun i _ => l.length - (intOf i).toNat)
  case atStart => exact ⟨0, Nat.zero_le _, rfl, (show _ = _ by simp [allB]), Below.refl _ _⟩
  case round =>
    obtain ⟨k, hk, rfl, HA, hbel⟩ := hrel
    by_cases hlt : k < l.length
    · have hT := h.below hbel
      obtain ⟨g, o, rfl, hg, hc⟩ := hT.at hlt
      obtain ⟨c0, c1, c2⟩ := hc k hlt
      have hs := all_snoc l k hlt
      rw [HA.out, Bool.true_and] at hs
      have HE : Hid (rightB l[k] = false → encodeE l = 22 ∧ encodeS l = ⟨#[]⟩) := (show rightB l[k] = false → _ from fun hf => by
        have e0 : allB l = false := by
          unfold allB
          rw [List.all_eq_false]
          exact ⟨l[k], List.getElem_mem hlt, by simp [hf]⟩
        have e1 : encodeE l = 22 := by unfold encodeE; rw [e0]; simp
        exact ⟨e1, by unfold encodeS; rw [e1]; simp⟩)
      have HS : Hid (allB (l.take (k + 1)) = rightB l[k]) := hs
      have HX : Hid (AW l[k]) := HWs.out _ (List.getElem_mem hlt)
      clear hs hc hT
      generalize l[k] = X at *
      cases hb : rightB X with
      | true =>
        go_wp2_with fail
        refine (HR.out _ _ HX.out).mono ?_
        rintro r w1 ⟨rfl, g1⟩
        rw [hb]
        have b1 : Below w.heap.size w w1 := btr hbel g1 (Nat.le_refl _)
        go_wp2_with fail
        go_roundw
        case rel => exact ⟨k + 1, by omega, by go_num, (show _ = _ by rw [HS.out, hb]), b1⟩
        case measure => simp [intOf]; omega
      | false =>
        go_wp2_with fail
        refine (HR.out _ _ HX.out).mono ?_
        rintro r w1 ⟨rfl, g1⟩
        rw [hb]
        have b1 : Below w.heap.size w w1 := btr hbel g1 (Nat.le_refl _)
        go_wp2_with fail
        go_ret2
        obtain ⟨q1, q2⟩ := HE.out hb
        exact ⟨by rw [q1, q2]; rfl, b1⟩
    · have hk' : k = l.length := by omega
      subst hk'
      have hB := HA.out
      rw [List.take_length] at hB
      have HB : Hid (allB l = true) := hB
      clear hB HA
      by_cases h32 : l.length ≤ 32
      · have HE : Hid (encodeE l = 0 ∧ encodeS l = encL l) := (show _ ∧ _ by
          have e1 : encodeE l = 0 := by unfold encodeE; rw [HB.out]; simp [h32]
          exact ⟨e1, by unfold encodeS; rw [e1]; simp⟩)
        have z1 : ¬ (32 : Int) < (l.length : Int) := by omega
        go_wp2_with fail
        go_loopw [5, 6] (fun v i wr => ∃ (k : Nat) (s : ByteArray), k ≤ l.length ∧ i = .int .i64 k ∧ v = .string s ∧ Hid (s = encL (l.take k)) ∧ s.size ≤ 16 * k ∧ Below w.heap.size w wr) (fun _ i _ => l.length - (intOf i).toNat)
        case atStart => exact ⟨0, ⟨#[]⟩, Nat.zero_le _, rfl, rfl, (show _ = _ from rfl), by simp [ByteArray.size], hbel⟩
        case round =>
          clear hbel
          obtain ⟨k, s, hk, rfl, rfl, HS, hsz, hbel⟩ := hrel
          by_cases hlt : k < l.length
          · have hT := h.below hbel
            obtain ⟨g, o, rfl, hg, hc⟩ := hT.at hlt
            obtain ⟨c0, c1, c2⟩ := hc k hlt
            have HN : Hid (encL (l.take (k + 1)) = encL (l.take k) ++ writeV l[k]) := encL_snoc l k hlt
            have hr := all_get HB.out hlt
            have hws := write_size hr
            have HRX : Hid (rightB l[k] = true) := hr
            have HX : Hid (AW l[k]) := HWs.out _ (List.getElem_mem hlt)
            clear hc hT hr
            generalize l[k] = X at *
            go_wp2_with fail
            refine (HW.out _ _ HRX.out HX.out).mono ?_
            rintro r w2 ⟨rfl, g2⟩
            have b2 : Below w.heap.size w w2 := btr hbel g2 (Nat.le_refl _)
            go_wp2_with fail
            go_roundw
            case rel => exact ⟨k + 1, s ++ writeV X, by omega, by go_num, rfl, (show _ = _ by rw [HN.out, HS.out]), by rw [ByteArray.size_append]; omega, b2⟩
            case measure => simp [intOf]; omega
          · have hk' : k = l.length := by omega
            subst hk'
            have e := HS.out
            rw [List.take_length] at e
            subst e
            go_wp2_with fail
            go_ret2
            exact ⟨by rw [HE.out.1, HE.out.2]; rfl, hbel⟩
      · have HE : Hid (encodeE l = 44 ∧ encodeS l = ⟨#[]⟩) := (show _ ∧ _ by
          have e1 : encodeE l = 44 := by unfold encodeE; rw [HB.out]; simp [h32]
          exact ⟨e1, by unfold encodeS; rw [e1]; simp⟩)
        have z1 : (32 : Int) < (l.length : Int) := by omega
        go_wp2_with fail
        go_ret2
        exact ⟨by rw [HE.out.1, HE.out.2]; rfl, hbel⟩
end Go.Proofs.YtjjfhibkcngphaaGreatDoor

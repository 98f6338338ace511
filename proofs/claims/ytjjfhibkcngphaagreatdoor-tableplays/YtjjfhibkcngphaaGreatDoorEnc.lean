/-
  What body and write answer of any right action; what allRight and Encode answer, as contracts.
-/
import Derived.Test.YtjjfhibkcngphaaGreatDoorWrite
namespace Go.Proofs.YtjjfhibkcngphaaGreatDoor
open Go.ChangeShapes Go.WideShapes Go.ChangeAt Go.RowKit

set_option maxHeartbeats 2000000 in
theorem body_1 (f v : Int) (w : World) (h0 : 0 ≤ v) (h1 : v < 4294967296) : Calls Tryz.prog 90 #[tV (1, f, v)] w fun e w' => e = .returned (.string (pb v 4 ++ pb 65535 2)) ∧ Below w.heap.size w w' := by
  have H4 : Hid (∀ w, Calls Tryz.prog 89 #[.int .u64 v, .int .i64 4] w fun e w' => e = .returned (.string (pb v 4)) ∧ Below w.heap.size w w') := (show ∀ w, _ from fun w => mput4 v w h0 h1)
  have H2 : Hid (∀ w, Calls Tryz.prog 89 #[.int .u64 65535, .int .i64 2] w fun e w' => e = .returned (.string (pb 65535 2)) ∧ Below w.heap.size w w') := (show ∀ w, _ from fun w => mput2 65535 w (by omega) (by omega))
  have hps := pb_size
  go_enter Tryz.func90, Tryz.ntmps90
  go_wp2_with fail
  refine (H4.out _).mono ?_
  rintro x w1 ⟨rfl, g1⟩
  go_wp2_with fail
  refine (H2.out _).mono ?_
  rintro x w2 ⟨rfl, g2⟩
  go_wp2_with fail
  go_ret
  exact ⟨rfl, btr (btr (by go_grown) g1 (by simp)) g2 (Nat.le_refl _)⟩
set_option maxHeartbeats 2000000 in
theorem body_2 (f v : Int) (w : World) (h0 : 0 ≤ v) (h1 : v < 4294967296) : Calls Tryz.prog 90 #[tV (2, f, v)] w fun e w' => e = .returned (.string (pb v 4)) ∧ Below w.heap.size w w' := by
  have H4 : Hid (∀ w, Calls Tryz.prog 89 #[.int .u64 v, .int .i64 4] w fun e w' => e = .returned (.string (pb v 4)) ∧ Below w.heap.size w w') := (show ∀ w, _ from fun w => mput4 v w h0 h1)
  go_enter Tryz.func90, Tryz.ntmps90
  go_wp2_with fail
  refine (H4.out _).mono ?_
  rintro x w1 ⟨rfl, g1⟩
  go_wp2_with fail
  go_ret
  exact ⟨rfl, btr (by go_grown) g1 (by simp)⟩
set_option maxHeartbeats 2000000 in
theorem body_3 (f v : Int) (w : World) : Calls Tryz.prog 90 #[tV (3, f, v)] w fun e w' => e = .returned (.string (pb 33024 2)) ∧ Below w.heap.size w w' := by
  have H2 : Hid (∀ w, Calls Tryz.prog 89 #[.int .u64 33024, .int .i64 2] w fun e w' => e = .returned (.string (pb 33024 2)) ∧ Below w.heap.size w w') := (show ∀ w, _ from fun w => mput2 33024 w (by omega) (by omega))
  go_enter Tryz.func90, Tryz.ntmps90
  go_wp2_with fail
  refine (H2.out _).mono ?_
  rintro x w1 ⟨rfl, g1⟩
  go_wp2_with fail
  go_ret
  exact ⟨rfl, btr (by go_grown) g1 (by simp)⟩
set_option maxHeartbeats 2000000 in
theorem body_4 (f v : Int) (w : World) : Calls Tryz.prog 90 #[tV (4, f, v)] w fun e w' => e = .returned (.string ⟨#[]⟩) ∧ Below w.heap.size w w' := by
  go_enter Tryz.func90, Tryz.ntmps90
  go_wp2
  go_ret
  exact ⟨rfl, by go_grown⟩
theorem write_any (a : A) (w : World) (hd : Cd w) (h : rightB a = true) : Calls Tryz.prog 81 #[tV a] w fun e w' => e = .returned (.string (writeV a)) ∧ Below w.heap.size w w' := by
  have hp := pb_size
  rcases right_cases h with ⟨h1, h2, h3, h4⟩ | ⟨h1, h2, h3, h4⟩ | ⟨h1, h2, h3⟩ | ⟨h1, h2, h3⟩ | ⟨h1, h2, h3, h4⟩
  · obtain ⟨k, f, v⟩ := a
    simp only at h1 h2 h3 h4
    subst h1
    have e : writeV (1, f, v) = pb 0 2 ++ pb 16 2 ++ (pb v 4 ++ pb 65535 2) ++ zeros 6 := by simp [writeV, bodyV, knV, ksV, ByteArray.size_append, hp]
    rw [e]
    exact write_1 f v _ 6 w hd (by rw [ByteArray.size_append, hp, hp]) (show ∀ w, _ from fun w _ => body_1 f v w (by omega) (by omega))
  · obtain ⟨k, f, v⟩ := a
    simp only at h1 h2 h3 h4
    subst h1
    have e : writeV (2, f, v) = pb 22 2 ++ pb 8 2 ++ pb v 4 ++ zeros 0 := by simp [writeV, bodyV, knV, ksV, hp]
    rw [e]
    exact write_2 f v _ 0 w hd (by rw [hp]) (show ∀ w, _ from fun w _ => body_2 f v w (by omega) (by omega))
  · obtain ⟨k, f, v⟩ := a
    simp only at h1
    subst h1
    have e : writeV (3, f, v) = pb 17 2 ++ pb 8 2 ++ pb 33024 2 ++ zeros 2 := by simp [writeV, bodyV, knV, ksV, hp]
    rw [e]
    exact write_3 f v _ 2 w hd (by rw [hp]) (show ∀ w, _ from fun w _ => body_3 f v w)
  · obtain ⟨k, f, v⟩ := a
    simp only at h1
    subst h1
    have e0 : (⟨#[]⟩ : ByteArray).size = 0 := rfl
    have e : writeV (4, f, v) = pb 18 2 ++ pb 8 2 ++ ⟨#[]⟩ ++ zeros 4 := by simp [writeV, bodyV, knV, ksV, e0]
    rw [e]
    exact write_4 f v _ 4 w hd (by rw [e0]) (show ∀ w, _ from fun w _ => body_4 f v w)
  · obtain ⟨k, f, v⟩ := a
    simp only at h1 h2 h3 h4
    subst h1
    have hf : ¬ (f < 1 ∨ 9 < f) := by omega
    have hv0 : 0 ≤ v := by unfold leastV at h3; split at h3 <;> omega
    have hsz := szV_le f
    have hs4 : szV f ≤ 4 := by rcases h2 with rfl | rfl | rfl | rfl | rfl <;> decide
    have hc : 0 ≤ codeV f ∧ codeV f ≤ 14 := by unfold codeV; (repeat' split) <;> omega
    have e : writeV (5, f, v) = pb 25 2 ++ pb 16 2 ++ setB (codeV f) (szV f) v ++ zeros (8 - szV f) := by
      simp only [writeV, bodyV, knV, ksV]
      simp [ByteArray.size_append, hp]
      congr 1
      omega
    rw [e]
    exact write_5 f v _ (8 - szV f) w hd (by simp only [ByteArray.size_append, hp]; omega) (show ∀ w, _ from fun w hd' => body_set f v (szV f) (codeV f) w hd' rfl hsz rfl hc.1 hc.2 (show ∀ w, _ from fun w => mput_any v f w hf hv0 h4))
theorem all_snoc (l : List A) (k : Nat) (h : k < l.length) : allB (l.take (k + 1)) = (allB (l.take k) && rightB l[k]) := by
  unfold allB; rw [take_snoc_get l k h, List.all_append, List.all_cons, List.all_nil, Bool.and_true]
set_option maxHeartbeats 4000000 in
theorem allRight_any (a : Option Addr) (l : List A) (cap : Nat) (w : World) (h : Ts w a l) (hl : l.length ≤ 1000) (hd : Cd w) :
    Calls Tryz.prog 80 #[.slice a l.length cap] w fun e w' => e = .returned (.bool (allB l)) ∧ Below w.heap.size w w' := by
  have HR : Hid (∀ x w, Cd w → Calls Tryz.prog 88 #[tV x] w fun e w' => e = .returned (.bool (rightB x)) ∧ Below w.heap.size w w') := (show ∀ x w, _ from fun x w h => right_any x w h)
  have HD : Hid (Cd w) := hd
  clear hd
  go_enter Tryz.func80, Tryz.ntmps80
  go_wp2_with fail
  go_loopw [7] (fun i wr => ∃ k : Nat, k ≤ l.length ∧ i = .int .i64 k ∧ allB (l.take k) = true ∧ Below w.heap.size w wr) (fun i _ => l.length - (intOf i).toNat)
  case atStart => exact ⟨0, Nat.zero_le _, rfl, by simp [allB], Below.refl _ _⟩
  case round =>
    obtain ⟨k, hk, rfl, ha, hbel⟩ := hrel
    by_cases hlt : k < l.length
    · have hT := h.below hbel
      obtain ⟨g, o, rfl, hg, hc⟩ := hT.at hlt
      obtain ⟨c0, c1, c2⟩ := hc k hlt
      have hs := all_snoc l k hlt
      rw [ha, Bool.true_and] at hs
      have HE : Hid (rightB l[k] = false → allB l = false) := (show rightB l[k] = false → allB l = false from fun hf => by
        unfold allB
        rw [List.all_eq_false]
        exact ⟨l[k], List.getElem_mem hlt, by simp [hf]⟩)
      have HS : Hid (allB (l.take (k + 1)) = rightB l[k]) := hs
      have HDr := HD.out.below hbel
      clear hs ha hc hT
      generalize l[k] = X at *
      cases hb : rightB X with
      | true =>
        go_wp2_with fail
        refine (HR.out _ _ (HDr.alloc _)).mono ?_
        rintro r w1 ⟨rfl, g1⟩
        rw [hb]
        have b1 : Below w.heap.size w w1 := btr (hbel.alloc hbel.size _) g1 (Nat.le_refl _)
        go_wp2_with fail
        go_roundw
        case rel => exact ⟨k + 1, by omega, by go_num, by rw [HS.out, hb], b1⟩
        case measure => simp [intOf]; omega
      | false =>
        go_wp2_with fail
        refine (HR.out _ _ (HDr.alloc _)).mono ?_
        rintro r w1 ⟨rfl, g1⟩
        rw [hb]
        have b1 : Below w.heap.size w w1 := btr (hbel.alloc hbel.size _) g1 (Nat.le_refl _)
        go_wp2_with fail
        go_ret
        exact ⟨by rw [HE.out hb]; rfl, b1⟩
    · have hk' : k = l.length := by omega
      subst hk'
      rw [List.take_length] at ha
      go_wp2_with fail
      go_ret
      exact ⟨by rw [ha]; rfl, hbel⟩
theorem encL_append (l m : List A) : encL (l ++ m) = encL l ++ encL m := by
  induction l with
  | nil => apply ba_ext; simp [encL]
  | cons x t ih =>
    show writeV x ++ encL (t ++ m) = writeV x ++ encL t ++ encL m
    rw [ih, ap_assoc]
theorem encL_one (x : A) : encL [x] = writeV x := by apply ba_ext; simp [encL]
theorem encL_snoc (l : List A) (k : Nat) (h : k < l.length) : encL (l.take (k + 1)) = encL (l.take k) ++ writeV l[k] := by
  rw [take_snoc_get l k h, encL_append, encL_one]
theorem write_size {a : A} (h : rightB a = true) : (writeV a).size ≤ 16 := by
  rw [encS_len1 a h]; unfold ksV; split <;> omega
theorem all_get {l : List A} (h : allB l = true) {k : Nat} (hk : k < l.length) : rightB l[k] = true := by
  unfold allB at h
  rw [List.all_eq_true] at h
  exact h _ (List.getElem_mem hk)
set_option maxHeartbeats 4000000 in
theorem encode_any (a : Option Addr) (l : List A) (cap : Nat) (w : World) (h : Ts w a l) (hl : l.length ≤ 1000) (hd : Cd w) :
    Calls Tryz.prog 70 #[.slice a l.length cap] w fun e w' => e = .returned (.tuple #[.string (encodeS l), .int .i64 (encodeE l)]) ∧ Below w.heap.size w w' := by
  have HA : Hid (Calls Tryz.prog 80 #[.slice a l.length cap] w fun e w' => e = .returned (.bool (allB l)) ∧ Below w.heap.size w w') := allRight_any a l cap w h hl hd
  have HW : Hid (∀ x w, Cd w → rightB x = true → Calls Tryz.prog 81 #[tV x] w fun e w' => e = .returned (.string (writeV x)) ∧ Below w.heap.size w w') := (show ∀ x w, _ from fun x w h1 h2 => write_any x w h1 h2)
  have HD : Hid (Cd w) := hd
  clear hd
  cases hb : allB l with
  | false =>
    have e1 : encodeE l = 22 := by unfold encodeE; rw [hb]; simp
    have e2 : encodeS l = ⟨#[]⟩ := by unfold encodeS; rw [e1]; simp
    rw [e1, e2]
    rw [hb] at HA
    go_enter Tryz.func70, Tryz.ntmps70
    go_wp2_with fail
    refine HA.out.mono ?_
    rintro r w1 ⟨rfl, g1⟩
    go_wp2_with fail
    go_ret2
    exact ⟨rfl, g1⟩
  | true =>
    rw [hb] at HA
    by_cases h32 : l.length ≤ 32
    · have e1 : encodeE l = 0 := by unfold encodeE; rw [hb]; simp [h32]
      have e2 : encodeS l = encL l := by unfold encodeS; rw [e1]; simp
      rw [e1, e2]
      have z1 : ¬ (32 : Int) < (l.length : Int) := by omega
      have HB : Hid (allB l = true) := hb
      clear e1 e2 hb
      go_enter Tryz.func70, Tryz.ntmps70
      go_wp2_with fail
      refine HA.out.mono ?_
      rintro r w1 ⟨rfl, g1⟩
      go_wp2_with fail
      go_loopw [4, 17] (fun v i wr => ∃ (k : Nat) (s : ByteArray), k ≤ l.length ∧ i = .int .i64 k ∧ v = .string s ∧ Hid (s = encL (l.take k)) ∧ s.size ≤ 16 * k ∧ Below w.heap.size w wr) (fun _ i _ => l.length - (intOf i).toNat)
      case atStart => exact ⟨0, ⟨#[]⟩, Nat.zero_le _, rfl, rfl, (show _ = _ from rfl), by simp [ByteArray.size], g1⟩
      case round =>
        obtain ⟨k, s, hk, rfl, rfl, HS, hsz, hbel⟩ := hrel
        by_cases hlt : k < l.length
        · have hT := h.below hbel
          obtain ⟨g, o, rfl, hg, hc⟩ := hT.at hlt
          obtain ⟨c0, c1, c2⟩ := hc k hlt
          have HN : Hid (encL (l.take (k + 1)) = encL (l.take k) ++ writeV l[k]) := encL_snoc l k hlt
          have hr := all_get HB.out hlt
          have hws := write_size hr
          have HDr := HD.out.below hbel
          have HRX : Hid (rightB l[k] = true) := hr
          clear hc hT hr
          generalize l[k] = X at *
          go_wp2_with fail
          refine (HW.out _ _ (HDr.alloc _) HRX.out).mono ?_
          rintro r w2 ⟨rfl, g2⟩
          have b2 : Below w.heap.size w w2 := btr (hbel.alloc hbel.size _) g2 (Nat.le_refl _)
          go_wp2_with fail
          go_roundw
          case rel => exact ⟨k + 1, s ++ writeV X, by omega, by go_num, rfl, (show _ = _ by rw [HN.out, HS.out]), by rw [ByteArray.size_append]; omega, b2⟩
          case measure => simp [intOf]; omega
        · have hk' : k = l.length := by omega
          subst hk'
          have e := HS.out
          rw [List.take_length] at e
          subst e
          go_wp2_with fail
          go_ret2
          exact ⟨rfl, hbel⟩
    · have e1 : encodeE l = 44 := by unfold encodeE; rw [hb]; simp [h32]
      have e2 : encodeS l = ⟨#[]⟩ := by unfold encodeS; rw [e1]; simp
      rw [e1, e2]
      have z1 : (32 : Int) < (l.length : Int) := by omega
      clear e1 e2 hb
      go_enter Tryz.func70, Tryz.ntmps70
      go_wp2_with fail
      refine HA.out.mono ?_
      rintro r w1 ⟨rfl, g1⟩
      go_wp2_with fail
      go_ret2
      exact ⟨rfl, g1⟩
end Go.Proofs.YtjjfhibkcngphaaGreatDoor

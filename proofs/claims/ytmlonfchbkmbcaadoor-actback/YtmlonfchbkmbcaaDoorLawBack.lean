/-
  The walk of ActBack.
-/
import Derived.Test.YtmlonfchbkmbcaaDoorLawEncodes
import Derived.Test.YtmlonfchbkmbcaaDoorDec
namespace Go.Proofs.YtmlonfchbkmbcaaDoor
open Go.ChangeShapes Go.WideShapes Go.ChangeAt Go.RowKit

theorem enc_few {l : List A} (h : encodeE l = 0) : l.length ≤ 32 := by
  unfold encodeE at h
  split at h
  · split at h
    · assumption
    · cases h
  · cases h
set_option maxRecDepth 20000 in
set_option maxHeartbeats 8000000 in
theorem back_long (a : Option Addr) (l : List A) (cap : Nat) (x : ByteArray) (w : World) (hd : Cd w) (hg : 60 < l.length ∨ 2000 < x.size) :
    Calls Tryd.prog 7 #[.slice a l.length cap, .string x] w fun e w' => e = .returned (.bool true) ∧ Below w.heap.size w w' := by
  have HA : Hid (∀ w, Cd w → Calls Tryd.prog 9 #[] w fun e w' => e = .returned (.bool true) ∧ Below w.heap.size w w') := (show ∀ w, _ from fun w hd => awake_any w hd)
  have HD : Hid (Cd w) := hd
  clear hd
  by_cases h1 : (60 : Int) < l.length
  · clear hg
    go_enter Tryd.func7, Tryd.ntmps7
    go_wp2_with fail
    refine (HA.out _ HD.out).mono ?_
    rintro r w3 ⟨rfl, g3⟩
    go_wp2_with fail
    go_ret
    exact ⟨rfl, g3⟩
  · have h2 : (2000 : Int) < x.size := by omega
    clear hg
    go_enter Tryd.func7, Tryd.ntmps7
    go_wp2_with fail
    refine (HA.out _ HD.out).mono ?_
    rintro r w3 ⟨rfl, g3⟩
    go_wp2_with fail
    go_ret
    exact ⟨rfl, g3⟩
set_option maxRecDepth 20000 in
set_option maxHeartbeats 16000000 in
theorem back_AY (a : Option Addr) (l : List A) (cap : Nat) (x : ByteArray) (w : World) (h : Ts w a l) (hW : AWs l) (hd : Cd w) (hl : l.length ≤ 60) (hx : x.size ≤ 2000) (hE : encodeE l = 0) (hF : (decR x).2 = 0) :
    Calls Tryd.prog 7 #[.slice a l.length cap, .string x] w fun e w' => e = .returned (.bool true) ∧ Below w.heap.size w w' := by
  have HA : Hid (∀ w, Cd w → Calls Tryd.prog 9 #[] w fun e w' => e = .returned (.bool true) ∧ Below w.heap.size w w') := (show ∀ w, _ from fun w hd => awake_any w hd)
  have n1 : ¬ ((60 : Int) < l.length) := by omega
  have n2 : ¬ ((2000 : Int) < x.size) := by omega
  have hmx : x.size ≤ maxLen := Nat.le_trans hx (by decide)
  have hsz : (encodeS l).size ≤ maxLen := Nat.le_trans (enc_long l) (by decide)
  have HE : Hid (Calls Tryd.prog 10 #[.slice a l.length cap] w fun e w' => e = .returned (.tuple #[.string (encodeS l), .int .i64 0]) ∧ Below w.heap.size w w') := (show _ from by
    have := encode_any a l cap w h (by omega) hd
    rwa [hE] at this)
  have HDs : Hid (∀ w, Cd w → Calls Tryd.prog 14 #[.string (encodeS l)] w fun y w' => ∃ ad cp, y = .returned (.tuple #[.slice ad l.length cp, .int .i64 0]) ∧ Ts w' ad l ∧ Below w.heap.size w w') := (show ∀ w, _ from fun w hd => by
    have := dec_any (encodeS l) w hsz hd
    rwa [dec_enc l hE (fun b hb => (hW b hb).v0)] at this)
  have HM : Hid (∀ (b : Option Addr) (cb : Nat) (w : World), Ts w a l → Ts w b l → Calls Tryd.prog 16 #[.slice a l.length cap, .slice b l.length cb] w fun e w' => e = .returned (.bool true) ∧ Below w.heap.size w w') := (show ∀ _, _ from fun b cb w h1 h2 => by
    have := same_any a b l l cap cb w h1 h2 (by omega) (by omega)
    rw [show sameB l l = true by simp [sameB]] at this
    exact this)
  clear hsz hE
  obtain ⟨hy1, hy2⟩ := enc_dec x hF
  have hy3 := enc_few hy1
  have HD2 : Hid (∀ w, Cd w → Calls Tryd.prog 14 #[.string x] w fun y w' => ∃ ad cp, y = .returned (.tuple #[.slice ad (decR x).1.length cp, .int .i64 0]) ∧ Ts w' ad (decR x).1 ∧ Below w.heap.size w w') := (show ∀ w, _ from fun w hd => by
    have := dec_any x w hmx hd
    rwa [hF] at this)
  have HE2 : Hid (∀ b cb w, Ts w b (decR x).1 → Cd w → Calls Tryd.prog 10 #[.slice b (decR x).1.length cb] w fun e w' => e = .returned (.tuple #[.string x, .int .i64 0]) ∧ Below w.heap.size w w') := (show ∀ b cb w, _ from fun b cb w h hd => by
    have := encode_any b (decR x).1 cb w h (by omega) hd
    rwa [hy1, hy2] at this)
  have hq : (x.toList == x.toList) = true := by simp
  clear hF hy1 hy2 hy3
  have HD : Hid (Cd w) := hd
  have HT : Hid (Ts w a l) := h
  clear h hW hd hl hx hmx
  generalize encodeS l = S at *
  generalize (decR x).1 = L at *
  go_enter Tryd.func7, Tryd.ntmps7
  go_wp2_with fail
  refine (HE.out).mono ?_
  rintro r w1 ⟨rfl, g1⟩
  go_wp2_with fail
  refine (HDs.out _ (HD.out.below g1)).mono ?_
  rintro r w2 ⟨a2, cap2, rfl, hT2, g2'⟩
  have g2 := btr g1 g2' (Nat.le_refl _)
  have HT2 : Hid (Ts w2 a2 l) := hT2
  clear g2' hT2 g1
  go_wp2_with fail
  refine (HM.out a2 cap2 _ (HT.out.below g2) HT2.out).mono ?_
  rintro r w3 ⟨rfl, g3'⟩
  have g3 := btr g2 g3' (Nat.le_refl _)
  clear g3' g2 HT2
  go_wp2_with fail
  refine (HD2.out _ (HD.out.below g3)).mono ?_
  rintro r w4 ⟨a4, cap4, rfl, hT4, g4'⟩
  have g4 := btr g3 g4' (Nat.le_refl _)
  have HT4 : Hid (Ts w4 a4 L) := hT4
  clear g4' hT4 g3
  go_wp2_with fail
  refine (HE2.out a4 cap4 _ HT4.out (HD.out.below g4)).mono ?_
  rintro r w5 ⟨rfl, g5'⟩
  have g5 := btr g4 g5' (Nat.le_refl _)
  clear g5' g4 HT4
  go_wp2_with fail
  refine (HA.out _ (HD.out.below g5)).mono ?_
  rintro r w6 ⟨rfl, g6⟩
  go_wp2_with fail
  go_ret
  exact ⟨rfl, btr g5 g6 (Nat.le_refl _)⟩
set_option maxRecDepth 20000 in
set_option maxHeartbeats 16000000 in
theorem back_AN (a : Option Addr) (l : List A) (cap : Nat) (x : ByteArray) (w : World) (h : Ts w a l) (hW : AWs l) (hd : Cd w) (hl : l.length ≤ 60) (hx : x.size ≤ 2000) (hE : encodeE l = 0) (hF : (decR x).2 ≠ 0) :
    Calls Tryd.prog 7 #[.slice a l.length cap, .string x] w fun e w' => e = .returned (.bool true) ∧ Below w.heap.size w w' := by
  have HA : Hid (∀ w, Cd w → Calls Tryd.prog 9 #[] w fun e w' => e = .returned (.bool true) ∧ Below w.heap.size w w') := (show ∀ w, _ from fun w hd => awake_any w hd)
  have n1 : ¬ ((60 : Int) < l.length) := by omega
  have n2 : ¬ ((2000 : Int) < x.size) := by omega
  have hmx : x.size ≤ maxLen := Nat.le_trans hx (by decide)
  have hsz : (encodeS l).size ≤ maxLen := Nat.le_trans (enc_long l) (by decide)
  have HE : Hid (Calls Tryd.prog 10 #[.slice a l.length cap] w fun e w' => e = .returned (.tuple #[.string (encodeS l), .int .i64 0]) ∧ Below w.heap.size w w') := (show _ from by
    have := encode_any a l cap w h (by omega) hd
    rwa [hE] at this)
  have HDs : Hid (∀ w, Cd w → Calls Tryd.prog 14 #[.string (encodeS l)] w fun y w' => ∃ ad cp, y = .returned (.tuple #[.slice ad l.length cp, .int .i64 0]) ∧ Ts w' ad l ∧ Below w.heap.size w w') := (show ∀ w, _ from fun w hd => by
    have := dec_any (encodeS l) w hsz hd
    rwa [dec_enc l hE (fun b hb => (hW b hb).v0)] at this)
  have HM : Hid (∀ (b : Option Addr) (cb : Nat) (w : World), Ts w a l → Ts w b l → Calls Tryd.prog 16 #[.slice a l.length cap, .slice b l.length cb] w fun e w' => e = .returned (.bool true) ∧ Below w.heap.size w w') := (show ∀ _, _ from fun b cb w h1 h2 => by
    have := same_any a b l l cap cb w h1 h2 (by omega) (by omega)
    rw [show sameB l l = true by simp [sameB]] at this
    exact this)
  clear hsz hE
  have hn := decR_bad x hF
  have HD2 : Hid (∀ w, Cd w → Calls Tryd.prog 14 #[.string x] w fun y w' => ∃ ad cp, y = .returned (.tuple #[.slice ad 0 cp, .int .i64 (decR x).2]) ∧ Below w.heap.size w w') := (show ∀ w, _ from fun w hd => by
    refine (dec_any x w hmx hd).mono ?_
    rintro y w' ⟨ad, cp, rfl, _, g⟩
    exact ⟨ad, cp, by rw [hn]; rfl, g⟩)
  have hFb : ((decR x).2 != 0) = true := by simpa using hF
  clear hF hn
  have HD : Hid (Cd w) := hd
  have HT : Hid (Ts w a l) := h
  clear h hW hd hl hx hmx
  generalize encodeS l = S at *
  generalize (decR x).2 = F at *
  go_enter Tryd.func7, Tryd.ntmps7
  go_wp2_with fail
  refine (HE.out).mono ?_
  rintro r w1 ⟨rfl, g1⟩
  go_wp2_with fail
  refine (HDs.out _ (HD.out.below g1)).mono ?_
  rintro r w2 ⟨a2, cap2, rfl, hT2, g2'⟩
  have g2 := btr g1 g2' (Nat.le_refl _)
  have HT2 : Hid (Ts w2 a2 l) := hT2
  clear g2' hT2 g1
  go_wp2_with fail
  refine (HM.out a2 cap2 _ (HT.out.below g2) HT2.out).mono ?_
  rintro r w3 ⟨rfl, g3'⟩
  have g3 := btr g2 g3' (Nat.le_refl _)
  clear g3' g2 HT2
  go_wp2_with fail
  refine (HD2.out _ (HD.out.below g3)).mono ?_
  rintro r w4 ⟨a4, cap4, rfl, g4'⟩
  have g4 := btr g3 g4' (Nat.le_refl _)
  clear g4' g3
  go_wp2_with fail
  refine (HA.out _ (HD.out.below g4)).mono ?_
  rintro r w6 ⟨rfl, g6⟩
  go_wp2_with fail
  go_ret
  exact ⟨rfl, btr g4 g6 (Nat.le_refl _)⟩
set_option maxRecDepth 20000 in
set_option maxHeartbeats 16000000 in
theorem back_BY (a : Option Addr) (l : List A) (cap : Nat) (x : ByteArray) (w : World) (h : Ts w a l) (_ : AWs l) (hd : Cd w) (hl : l.length ≤ 60) (hx : x.size ≤ 2000) (hE : encodeE l ≠ 0) (hF : (decR x).2 = 0) :
    Calls Tryd.prog 7 #[.slice a l.length cap, .string x] w fun e w' => e = .returned (.bool true) ∧ Below w.heap.size w w' := by
  have HA : Hid (∀ w, Cd w → Calls Tryd.prog 9 #[] w fun e w' => e = .returned (.bool true) ∧ Below w.heap.size w w') := (show ∀ w, _ from fun w hd => awake_any w hd)
  have n1 : ¬ ((60 : Int) < l.length) := by omega
  have n2 : ¬ ((2000 : Int) < x.size) := by omega
  have hmx : x.size ≤ maxLen := Nat.le_trans hx (by decide)
  have HE : Hid (Calls Tryd.prog 10 #[.slice a l.length cap] w fun e w' => e = .returned (.tuple #[.string (encodeS l), .int .i64 (encodeE l)]) ∧ Below w.heap.size w w') := (show _ from encode_any a l cap w h (by omega) hd)
  have hEb : (encodeE l == 0) = false := by simpa using hE
  have hem : (encodeS l).toList.isEmpty = true := by
    have : encodeS l = ⟨#[]⟩ := by unfold encodeS; rw [if_neg hE]
    rw [this, ByteArray.toList_eq]
    rfl
  clear hE
  obtain ⟨hy1, hy2⟩ := enc_dec x hF
  have hy3 := enc_few hy1
  have HD2 : Hid (∀ w, Cd w → Calls Tryd.prog 14 #[.string x] w fun y w' => ∃ ad cp, y = .returned (.tuple #[.slice ad (decR x).1.length cp, .int .i64 0]) ∧ Ts w' ad (decR x).1 ∧ Below w.heap.size w w') := (show ∀ w, _ from fun w hd => by
    have := dec_any x w hmx hd
    rwa [hF] at this)
  have HE2 : Hid (∀ b cb w, Ts w b (decR x).1 → Cd w → Calls Tryd.prog 10 #[.slice b (decR x).1.length cb] w fun e w' => e = .returned (.tuple #[.string x, .int .i64 0]) ∧ Below w.heap.size w w') := (show ∀ b cb w, _ from fun b cb w h hd => by
    have := encode_any b (decR x).1 cb w h (by omega) hd
    rwa [hy1, hy2] at this)
  have hq : (x.toList == x.toList) = true := by simp
  clear hF hy1 hy2 hy3
  have HD : Hid (Cd w) := hd
  have HT : Hid (Ts w a l) := h
  clear h hd hl hx hmx
  generalize encodeS l = S at *
  generalize encodeE l = Er at *
  generalize (decR x).1 = L at *
  go_enter Tryd.func7, Tryd.ntmps7
  go_wp2_with fail
  refine (HE.out).mono ?_
  rintro r w1 ⟨rfl, g1⟩
  have g3 := g1
  clear g1
  go_wp2_with fail
  refine (HD2.out _ (HD.out.below g3)).mono ?_
  rintro r w4 ⟨a4, cap4, rfl, hT4, g4'⟩
  have g4 := btr g3 g4' (Nat.le_refl _)
  have HT4 : Hid (Ts w4 a4 L) := hT4
  clear g4' hT4 g3
  go_wp2_with fail
  refine (HE2.out a4 cap4 _ HT4.out (HD.out.below g4)).mono ?_
  rintro r w5 ⟨rfl, g5'⟩
  have g5 := btr g4 g5' (Nat.le_refl _)
  clear g5' g4 HT4
  go_wp2_with fail
  refine (HA.out _ (HD.out.below g5)).mono ?_
  rintro r w6 ⟨rfl, g6⟩
  go_wp2_with fail
  go_ret
  exact ⟨rfl, btr g5 g6 (Nat.le_refl _)⟩
set_option maxRecDepth 20000 in
set_option maxHeartbeats 16000000 in
theorem back_BN (a : Option Addr) (l : List A) (cap : Nat) (x : ByteArray) (w : World) (h : Ts w a l) (_ : AWs l) (hd : Cd w) (hl : l.length ≤ 60) (hx : x.size ≤ 2000) (hE : encodeE l ≠ 0) (hF : (decR x).2 ≠ 0) :
    Calls Tryd.prog 7 #[.slice a l.length cap, .string x] w fun e w' => e = .returned (.bool true) ∧ Below w.heap.size w w' := by
  have HA : Hid (∀ w, Cd w → Calls Tryd.prog 9 #[] w fun e w' => e = .returned (.bool true) ∧ Below w.heap.size w w') := (show ∀ w, _ from fun w hd => awake_any w hd)
  have n1 : ¬ ((60 : Int) < l.length) := by omega
  have n2 : ¬ ((2000 : Int) < x.size) := by omega
  have hmx : x.size ≤ maxLen := Nat.le_trans hx (by decide)
  have HE : Hid (Calls Tryd.prog 10 #[.slice a l.length cap] w fun e w' => e = .returned (.tuple #[.string (encodeS l), .int .i64 (encodeE l)]) ∧ Below w.heap.size w w') := (show _ from encode_any a l cap w h (by omega) hd)
  have hEb : (encodeE l == 0) = false := by simpa using hE
  have hem : (encodeS l).toList.isEmpty = true := by
    have : encodeS l = ⟨#[]⟩ := by unfold encodeS; rw [if_neg hE]
    rw [this, ByteArray.toList_eq]
    rfl
  clear hE
  have hn := decR_bad x hF
  have HD2 : Hid (∀ w, Cd w → Calls Tryd.prog 14 #[.string x] w fun y w' => ∃ ad cp, y = .returned (.tuple #[.slice ad 0 cp, .int .i64 (decR x).2]) ∧ Below w.heap.size w w') := (show ∀ w, _ from fun w hd => by
    refine (dec_any x w hmx hd).mono ?_
    rintro y w' ⟨ad, cp, rfl, _, g⟩
    exact ⟨ad, cp, by rw [hn]; rfl, g⟩)
  have hFb : ((decR x).2 != 0) = true := by simpa using hF
  clear hF hn
  have HD : Hid (Cd w) := hd
  have HT : Hid (Ts w a l) := h
  clear h hd hl hx hmx
  generalize encodeS l = S at *
  generalize encodeE l = Er at *
  generalize (decR x).2 = F at *
  go_enter Tryd.func7, Tryd.ntmps7
  go_wp2_with fail
  refine (HE.out).mono ?_
  rintro r w1 ⟨rfl, g1⟩
  have g3 := g1
  clear g1
  go_wp2_with fail
  refine (HD2.out _ (HD.out.below g3)).mono ?_
  rintro r w4 ⟨a4, cap4, rfl, g4'⟩
  have g4 := btr g3 g4' (Nat.le_refl _)
  clear g4' g3
  go_wp2_with fail
  refine (HA.out _ (HD.out.below g4)).mono ?_
  rintro r w6 ⟨rfl, g6⟩
  go_wp2_with fail
  go_ret
  exact ⟨rfl, btr g4 g6 (Nat.le_refl _)⟩
theorem back_walk (a : Option Addr) (l : List A) (cap : Nat) (x : ByteArray) (w : World) (h : Ts w a l) (_ : l.length ≤ cap) (hW : AWs l) (_ : x.size ≤ maxLen) (hd : Cd w) :
    Calls Tryd.prog 7 #[.slice a l.length cap, .string x] w fun e w' => e = .returned (.bool true) ∧ Below w.heap.size w w' := by
  by_cases hl : l.length ≤ 60
  · by_cases hx : x.size ≤ 2000
    · by_cases hE : encodeE l = 0
      · by_cases hF : (decR x).2 = 0
        · exact back_AY a l cap x w h hW hd hl hx hE hF
        · exact back_AN a l cap x w h hW hd hl hx hE hF
      · by_cases hF : (decR x).2 = 0
        · exact back_BY a l cap x w h hW hd hl hx hE hF
        · exact back_BN a l cap x w h hW hd hl hx hE hF
    · exact back_long a l cap x w hd (.inr (by omega))
  · exact back_long a l cap x w hd (.inl (by omega))
end Go.Proofs.YtmlonfchbkmbcaaDoor

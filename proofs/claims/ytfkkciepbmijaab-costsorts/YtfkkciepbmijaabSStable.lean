/-
  What symMergeCmpFunc, stableCmpFunc and SortStableFunc leave, as contracts.
-/
import Derived.Test.YtfkkciepbmijaabSSym2
namespace Go.Proofs.Ytfkkciepbmijaab
open Go.ChangeShapes Go.WideShapes Go.ChangeAt Go.RowKit
variable {L : List Nat} {qv : Nat}

theorem sym_any (b len cap : Nat) (hd : len ≤ 35184372088832) : ∀ n, SymC L qv b len cap n := by
  intro n
  induction n with
  | zero => intro a m c d w h; omega
  | succ n ih =>
    intro a m c d w h hr hW hl h1 h2 h3 sa sb
    by_cases c1 : m = a + 1
    · have := sym_left b a m c d cap w hr hW (by omega) c1 h2 (by omega) sb
      rw [hl] at this
      exact this
    · by_cases c2 : c = m + 1
      · have := sym_right b a m c d cap w hr hW (by omega) (by omega) c2 (by omega) sa
        rw [hl] at this
        exact this
      · have hrec : SymC L qv b d.length cap (c - a) := fun a' m' c' d' w' h' => by
          rw [hl]
          exact ih a' m' c' d' w' (by omega)
        by_cases c3 : (a + c) / 2 < m
        · have := sym_up b a m c _ d cap w hr hW (by omega) (by omega) (by omega) (by omega) sa sb rfl c3 hrec
          rw [hl] at this
          exact this
        · have := sym_dn b a m c _ d cap w hr hW (by omega) (by omega) (by omega) (by omega) sa sb rfl c3 hrec
          rw [hl] at this
          exact this

/-- In order block by block, from x up to n. -/
def BS (L : List Nat) (s x n : Nat) (d : List A) : Prop := ∀ c i j, s ∣ c → x ≤ c → c ≤ i → i < j → j < c + s → j < n → ka (kp L) d i ≤ ka (kp L) d j
theorem mult_gap {s a c : Nat} (h1 : s ∣ a) (h2 : s ∣ c) (h : c < a) : c + s ≤ a := by
  have := Nat.le_of_dvd (by omega) (Nat.dvd_sub h1 h2)
  omega
theorem bs_step {s a e : Nat} {d d' : List A} (hs : s ∣ a) (h : BS L s 0 a d) (r : Rel (kp L) a e d d') (g : Srt (kp L) a e d') (he : e ≤ a + s) : BS L s 0 e d' := by
  intro c i j h1 h2 h3 h4 h5 h6
  by_cases q : c < a
  · have := mult_gap hs h1 q
    rw [r.ka i (by omega), r.ka j (by omega)]
    exact h c i j h1 h2 h3 h4 h5 (by omega)
  · by_cases q2 : c = a
    · subst q2
      exact g i j h3 h4 h6
    · have := mult_gap h1 hs (by omega)
      omega
theorem bs_later {s a e n : Nat} {d d' : List A} (h : BS L s a n d) (r : Rel (kp L) a e d d') (ha : a ≤ e) : BS L s e n d' := by
  intro c i j h1 h2 h3 h4 h5 h6
  rw [r.ka i (by omega), r.ka j (by omega)]
  exact h c i j h1 (by omega) h3 h4 h5 h6
theorem bs_srt {s a n e : Nat} {d : List A} (h : BS L s a n d) (c : Nat) (hs : s ∣ c) (hc : a ≤ c) (he : e ≤ c + s) (hn : e ≤ n) : Srt (kp L) c e d := fun i j h1 h2 h3 => h c i j hs hc h1 h2 (by omega) (by omega)

set_option maxHeartbeats 8000000 in
theorem stable_any (b : Nat) (d : List A) (cap n : Nat) (hn : n = d.length) (w : World) (hr : Rw L qv w b d) (hW : AWs L d) (hd : n ≤ 35184372088832) :
    Calls Try.prog 22 #[.slice (some ⟨b, 0, none⟩) n cap, .int .i64 n, (fvP qv)] w fun e w' => e = .returned (.tuple #[]) ∧ Rw L qv w' b (isort (kp L) d) ∧ Below b w w' := by
  have HR : Hid (Rw L qv w b d) := hr
  have HWs : Hid (AWs L d) := hW
  have HI : Hid (∀ (a c : Nat) (dk : List A) w, Rw L qv w b dk → AWs L dk → dk.length = n → a ≤ c → c ≤ n → Calls Try.prog 23 #[.slice (some ⟨b, 0, none⟩) n cap, .int .i64 a, .int .i64 c, (fvP qv)] w fun e w' => e = .returned (.tuple #[]) ∧ ∃ d', Rel (kp L) a c dk d' ∧ Srt (kp L) a c d' ∧ Rw L qv w' b d' ∧ Below b w w') :=
    (show ∀ _, _ from fun a c dk w x1 x2 x3 x4 x5 => by have := insertion_any b a c dk cap w x1 x2 (by omega) x4 (by omega); rw [x3] at this; exact this)
  have HM : Hid (∀ (a m c : Nat) (dk : List A) w, Rw L qv w b dk → AWs L dk → dk.length = n → a < m → m < c → c ≤ n → Srt (kp L) a m dk → Srt (kp L) m c dk → Calls Try.prog 24 #[.slice (some ⟨b, 0, none⟩) n cap, .int .i64 a, .int .i64 m, .int .i64 c, (fvP qv)] w fun e w' => e = .returned (.tuple #[]) ∧ ∃ d', Rel (kp L) a c dk d' ∧ Srt (kp L) a c d' ∧ Rw L qv w' b d' ∧ Below b w w') :=
    (show ∀ _, _ from fun a m c dk w x1 x2 x3 x4 x5 x6 x7 x8 => sym_any b n cap hd (c - a + 1) a m c dk w (by omega) x1 x2 x3 x4 x5 x6 x7 x8)
  have HL : Hid (n = d.length) := hn
  clear hr hW hn
  go_enter Try.func22, Try.ntmps22
  go_wp2_with fail
  go_loopw [7, 8] (fun va vb wr => ∃ (a : Nat) (dk : List A), va = .int .i64 a ∧ vb = .int .i64 ((a : Int) + 20) ∧ a ≤ n ∧ Hid (20 ∣ a) ∧ Hid (BS L 20 0 a dk) ∧ Hid (Rel (kp L) 0 n d dk) ∧ Hid (Rw L qv wr b dk) ∧ Below b w wr) (fun va _ _ => n - (intOf va).toNat)
  case atStart => exact ⟨0, d, rfl, rfl, Nat.zero_le _, (show 20 ∣ 0 from Nat.dvd_zero _), (show BS L 20 0 0 d from fun c i j _ _ _ _ _ h => by omega), (show Rel (kp L) 0 n d d from Rel.refl _ _ _), HR, Below.refl _ _⟩
  case round =>
    clear HR
    obtain ⟨a, dk, rfl, rfl, han, HDv, HBS, HRel, HK, hbel⟩ := hrel
    have hlk : Hid (dk.length = n) := (show dk.length = n by rw [HRel.out.len]; exact HL.out.symm)
    have haw : Hid (AWs L dk) := (show AWs L dk from HRel.out.cl.aws HWs.out)
    by_cases hlt : a + 20 ≤ n
    · have z1 : (a : Int) + 20 ≤ (n : Int) := by omega
      obtain ⟨B, hB⟩ : ∃ B, a + 20 = B := ⟨_, rfl⟩
      have eB : (a : Int) + 20 = (B : Int) := by omega
      have HB : Hid (a + 20 = B) := hB
      have lB : B ≤ n := by omega
      have laB : a ≤ B := by omega
      rw [eB] at z1 ⊢
      clear hB
      go_wp2_with fail
      refine (HI.out a B dk wr HK.out haw.out hlk.out laB lB).mono ?_
      rintro r w1 ⟨rfl, d', x1, x2, x3, x4⟩
      go_wp2_with fail
      go_roundw
      case rel =>
        have hb := HB.out
        subst hb
        exact ⟨a + 20, d', by first | rfl | go_num, by first | rfl | go_num, by omega, (show 20 ∣ a + 20 from Nat.dvd_add HDv.out (Nat.dvd_refl _)), (show BS L 20 0 (a + 20) d' from bs_step HDv.out HBS.out x1 x2 (Nat.le_refl _)), (show Rel (kp L) 0 n d d' from HRel.out.trans (x1.mono (Nat.zero_le _) lB)), x3, btr' hbel x4⟩
      case measure => simp [intOf]; omega
    · have z1 : ¬ (a : Int) + 20 ≤ (n : Int) := by omega
      go_wp2_with fail
      refine (HI.out a n dk wr HK.out haw.out hlk.out han (Nat.le_refl _)).mono ?_
      rintro r w1 ⟨rfl, d0, x1, x2, x3, x4⟩
      have HB0 : Hid (BS L 20 0 n d0) := (show BS L 20 0 n d0 from bs_step HDv.out HBS.out x1 x2 (by omega))
      have HR0 : Hid (Rel (kp L) 0 n d d0) := (show Rel (kp L) 0 n d d0 from HRel.out.trans (x1.mono (Nat.zero_le _) (Nat.le_refl _)))
      have HK0 : Hid (Rw L qv w1 b d0) := x3
      have hbel0 : Below b w w1 := btr' hbel x4
      clear x1 x2 x3 x4 hbel HK HRel HBS HDv hlk haw z1
      go_wp2_with fail
      go_loopw [6, 7, 8] (fun vs _ _ wr => ∃ (s : Nat) (dk : List A), vs = .int .i64 s ∧ 20 ≤ s ∧ s ≤ 70368744177664 ∧ Hid (BS L s 0 n dk) ∧ Hid (Rel (kp L) 0 n d dk) ∧ Hid (Rw L qv wr b dk) ∧ Below b w wr) (fun vs _ _ _ => n - (intOf vs).toNat)
      case atStart => exact ⟨20, d0, rfl, by omega, by omega, HB0, HR0, HK0, hbel0⟩
      case round =>
        clear HB0 HR0 HK0 hbel0
        obtain ⟨s, dk, rfl, hs1, hs2, HBS, HRel, HK, hbel⟩ := hrel
        by_cases hsn : s < n
        · have z2 : (s : Int) < (n : Int) := by omega
          have HBR0 : Hid (BS L s 0 n dk) := HBS
          have HBT0 : Hid (BS L (2 * s) 0 0 dk) := (show BS L (2 * s) 0 0 dk from fun c i j _ _ _ _ _ h => by omega)
          clear HBS
          go_wp2_with fail
          go_loopw [7, 8] (fun va vb wr => ∃ (a : Nat) (dk : List A), va = .int .i64 a ∧ vb = .int .i64 ((a : Int) + 2 * (s : Int)) ∧ a ≤ n ∧ Hid (2 * s ∣ a) ∧ Hid (BS L (2 * s) 0 a dk) ∧ Hid (BS L s a n dk) ∧ Hid (Rel (kp L) 0 n d dk) ∧ Hid (Rw L qv wr b dk) ∧ Below b w wr) (fun va _ _ => n - (intOf va).toNat)
          case atStart => exact ⟨0, dk, rfl, by first | rfl | (congr 1; omega), Nat.zero_le _, (show 2 * s ∣ 0 from Nat.dvd_zero _), HBT0, HBR0, HRel, HK, hbel⟩
          case round =>
            clear HBT0 HBR0 HRel HK hbel
            obtain ⟨a, dk, rfl, rfl, han, HDv, HBT, HBS, HRel, HK, hbel⟩ := hrel
            have hlk : Hid (dk.length = n) := (show dk.length = n by rw [HRel.out.len]; exact HL.out.symm)
            have haw : Hid (AWs L dk) := (show AWs L dk from HRel.out.cl.aws HWs.out)
            have hda : Hid (s ∣ a) := (show s ∣ a from Nat.dvd_trans (Nat.dvd_mul_left s 2) HDv.out)
            by_cases hlt : a + 2 * s ≤ n
            · have z3 : (a : Int) + 2 * (s : Int) ≤ (n : Int) := by omega
              obtain ⟨B, hB⟩ : ∃ B, a + 2 * s = B := ⟨_, rfl⟩
              have eB : (a : Int) + 2 * (s : Int) = (B : Int) := by omega
              obtain ⟨M, hM⟩ : ∃ M, a + s = M := ⟨_, rfl⟩
              have eM : (a : Int) + (s : Int) = (M : Int) := by omega
              have HB : Hid (a + 2 * s = B) := hB
              have HMM : Hid (a + s = M) := hM
              have lB : B ≤ n := by omega
              have laM : a < M := by omega
              have lMB : M < B := by omega
              have S1 : Hid (Srt (kp L) a M dk) := (show Srt (kp L) a M dk from bs_srt HBS.out a hda.out (Nat.le_refl _) (by omega) (by omega))
              have S2 : Hid (Srt (kp L) M B dk) := (show Srt (kp L) M B dk from bs_srt HBS.out M (by rw [← hM]; exact Nat.dvd_add hda.out (Nat.dvd_refl _)) (by omega) (by omega) lB)
              rw [eB] at z3 ⊢
              clear hB hM
              go_wp2_with fail
              refine (HM.out a M B dk wr HK.out haw.out hlk.out laM lMB lB S1.out S2.out).mono ?_
              rintro r w2 ⟨rfl, d', x1, x2, x3, x4⟩
              go_wp2_with fail
              go_roundw
              case rel =>
                have hb := HB.out
                subst hb
                exact ⟨a + 2 * s, d', by first | rfl | go_num, by first | rfl | go_num, lB, (show 2 * s ∣ a + 2 * s from Nat.dvd_add HDv.out (Nat.dvd_refl _)), (show BS L (2 * s) 0 (a + 2 * s) d' from bs_step HDv.out HBT.out x1 x2 (Nat.le_refl _)), (show BS L s (a + 2 * s) n d' from bs_later HBS.out x1 (by omega)), (show Rel (kp L) 0 n d d' from HRel.out.trans (x1.mono (Nat.zero_le _) lB)), x3, btr' hbel x4⟩
              case measure => simp [intOf]; omega
            · have z3 : ¬ (a : Int) + 2 * (s : Int) ≤ (n : Int) := by omega
              obtain ⟨M, hM⟩ : ∃ M, a + s = M := ⟨_, rfl⟩
              have eM : (a : Int) + (s : Int) = (M : Int) := by omega
              have laM : a < M := by omega
              have e2s : (s : Int) * 2 = ((2 * s : Nat) : Int) := by omega
              by_cases hMn : M < n
              · have z4 : (M : Int) < (n : Int) := by omega
                have S1 : Hid (Srt (kp L) a M dk) := (show Srt (kp L) a M dk from bs_srt HBS.out a hda.out (Nat.le_refl _) (by omega) (by omega))
                have S2 : Hid (Srt (kp L) M n dk) := (show Srt (kp L) M n dk from bs_srt HBS.out M (by rw [← hM]; exact Nat.dvd_add hda.out (Nat.dvd_refl _)) (by omega) (by omega) (Nat.le_refl _))
                clear hM
                go_wp2_with fail
                refine (HM.out a M n dk wr HK.out haw.out hlk.out laM hMn (Nat.le_refl _) S1.out S2.out).mono ?_
                rintro r w2 ⟨rfl, d', x1, x2, x3, x4⟩
                go_wp2_with fail
                go_roundw
                case rel => exact ⟨2 * s, d', by first | rfl | go_num | (congr 1; omega), by omega, by omega, (show BS L (2 * s) 0 n d' from bs_step HDv.out HBT.out x1 x2 (by omega)), (show Rel (kp L) 0 n d d' from HRel.out.trans (x1.mono (Nat.zero_le _) (Nat.le_refl _))), x3, btr' hbel x4⟩
                case measure => simp [intOf]; omega
              · have z4 : ¬ (M : Int) < (n : Int) := by omega
                have S1 : Hid (Srt (kp L) a n dk) := (show Srt (kp L) a n dk from bs_srt HBS.out a hda.out (Nat.le_refl _) (by omega) (Nat.le_refl _))
                clear hM
                go_wp2_with fail
                go_roundw
                case rel => exact ⟨2 * s, dk, by first | rfl | go_num | (congr 1; omega), by omega, by omega, (show BS L (2 * s) 0 n dk from bs_step HDv.out HBT.out (Rel.refl _ _ _) S1.out (by omega)), HRel, HK, hbel⟩
                case measure => simp [intOf]; omega
        · have z2 : ¬ (s : Int) < (n : Int) := by omega
          go_wp2_with fail
          go_end0
          have hs : Srt (kp L) 0 dk.length dk := by
            have e : dk.length = n := by rw [HRel.out.len]; exact HL.out.symm
            rw [e]
            exact bs_srt HBS.out 0 (Nat.dvd_zero _) (Nat.le_refl _) (by omega) (Nat.le_refl _)
          refine ⟨rfl, ?_, hbel⟩
          rw [← sorted_is HRel.out.cl hs]
          exact HK.out
set_option maxHeartbeats 1000000 in
theorem sortStable_any (b : Nat) (d : List A) (cap n : Nat) (hn : n = d.length) (w : World) (hr : Rw L qv w b d) (hW : AWs L d) (hd : n ≤ 35184372088832) :
    Calls Try.prog 16 #[.slice (some ⟨b, 0, none⟩) n cap, (fvP qv)] w fun e w' => e = .returned (.tuple #[]) ∧ Rw L qv w' b (isort (kp L) d) ∧ Below b w w' := by
  have HS := stable_any b d cap n hn w hr hW hd
  have HS2 : Hid (Calls Try.prog 22 #[.slice (some ⟨b, 0, none⟩) n cap, .int .i64 n, (fvP qv)] w fun e w' => e = .returned (.tuple #[]) ∧ Rw L qv w' b (isort (kp L) d) ∧ Below b w w') := HS
  clear HS hr hW hn
  go_enter Try.func16, Try.ntmps16
  go_wp2_with fail
  refine HS2.out.mono ?_
  rintro r w1 ⟨rfl, k1, k2⟩
  go_wp2_with fail
  go_end0
  exact ⟨rfl, k1, k2⟩
set_option maxHeartbeats 1000000 in
/-- Of no action, wherever the slice lies. -/
theorem sortStable_none (a : Option Addr) (cap : Nat) (w : World) :
    Calls Try.prog 16 #[.slice a 0 cap, (fvP qv)] w fun e w' => e = .returned (.tuple #[]) ∧ w' = w := by
  go_enter Try.func16, Try.ntmps16
  go_wp2
  go_rounds 1
  go_rounds 1
  go_rounds 1
  go_end0
  exact ⟨rfl, rfl⟩
end Go.Proofs.Ytfkkciepbmijaab

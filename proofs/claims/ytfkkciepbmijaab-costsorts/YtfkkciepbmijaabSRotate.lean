/-
  What rotateCmpFunc leaves, as a contract.
-/
import Derived.Test.YtfkkciepbmijaabSRow
namespace Go.Proofs.Ytfkkciepbmijaab
open Go.ChangeShapes Go.WideShapes Go.ChangeAt Go.RowKit
variable {L : List Nat} {qv : Nat}

/-- Two parts u and v are still to change places, and what that comes to. -/
structure Turn (m i j : Nat) (R dk : List A) (x u v y : List A) : Prop where
  parts : dk = x ++ (u ++ (v ++ y))
  aim : R = x ++ (v ++ (u ++ y))
  hu : u.length = i
  hv : v.length = j
  hi : 0 < i
  hj : 0 < j
  hx : x.length + i = m
theorem Turn.len {m i j : Nat} {R dk x u v y : List A} (h : Turn m i j R dk x u v y) : dk.length = R.length := by
  rw [h.parts, h.aim]; simp only [List.length_append]; omega
set_option maxHeartbeats 4000000 in
theorem rotate_any (b a m e : Nat) (d : List A) (cap : Nat) (fv : Value) (w : World) (hr : Rw L qv w b d) (hd : d.length ≤ 35184372088832) (h1 : a < m) (h2 : m < e) (h3 : e ≤ d.length) :
    Calls Try.prog 25 #[.slice (some ⟨b, 0, none⟩) d.length cap, .int .i64 a, .int .i64 m, .int .i64 e, fv] w fun x w' => x = .returned (.tuple #[]) ∧ Rw L qv w' b (rot a m e d) ∧ Below b w w' := by
  have HT0 : Hid (Turn m (m - a) (e - m) (rot a m e d) d (d.take a) ((d.take m).drop a) ((d.take e).drop m) (d.drop e)) :=
    (show Turn _ _ _ _ _ _ _ _ _ from ⟨rot_parts a m e d (by omega) (by omega), rfl, by rw [List.length_drop, List.length_take]; omega, by rw [List.length_drop, List.length_take]; omega, by omega, by omega, by rw [List.length_take]; omega⟩)
  have hRl : (rot a m e d).length = d.length := rot_len a m e d (by omega) (by omega) h3
  have hi0 : (m : Int) - (a : Int) = ((m - a : Nat) : Int) := by omega
  have hj0 : (e : Int) - (m : Int) = ((e - m : Nat) : Int) := by omega
  have HR : Hid (Rw L qv w b d) := hr
  have HS : Hid (∀ (a c : Nat) (x p q r y : List A) (w : World), d.length = (x ++ (p ++ (q ++ (r ++ y)))).length → Rw L qv w b (x ++ (p ++ (q ++ (r ++ y)))) → ∀ n : Nat, p.length = n → r.length = n → a = x.length → c = x.length + n + q.length →
    Calls Try.prog 26 #[.slice (some ⟨b, 0, none⟩) d.length cap, .int .i64 a, .int .i64 c, .int .i64 n, fv] w fun e w' => e = .returned (.tuple #[]) ∧ Rw L qv w' b (x ++ (r ++ (q ++ (p ++ y)))) ∧ Below b w w') :=
    (show ∀ _, _ from fun a c x p q r y w hl hr n hp hq ha hc => swapRange_lists b a c x p q r y cap fv w d.length hl hr hd n hp hq ha hc)
  clear hr
  generalize rot a m e d = R at *
  generalize m - a = i0 at *
  generalize e - m = j0 at *
  go_enter Try.func25, Try.ntmps25
  go_wp2
  go_loopw [10, 11] (fun vi vj wr => ∃ (i j : Nat) (dk x u v y : List A), vi = .int .i64 i ∧ vj = .int .i64 j ∧ Hid (Turn m i j R dk x u v y) ∧ Hid (Rw L qv wr b dk) ∧ Below b w wr) (fun vi vj _ => (intOf vi).toNat + (intOf vj).toNat)
  case atStart => exact ⟨i0, j0, d, _, _, _, _, by first | rfl | rw [hi0], by first | rfl | rw [hj0], HT0, HR, Below.refl _ _⟩
  case round =>
    clear HT0 HR
    obtain ⟨i, j, dk, x, u, v, y, rfl, rfl, HT, HK, hbel⟩ := hrel
    obtain ⟨t1, t2, t3, t4, t5, t6, t7⟩ := HT.out
    have hdl : dk.length = d.length := by rw [HT.out.len, hRl]
    have hm1 : m ≤ d.length := by
      have := congrArg List.length t1
      simp only [List.length_append] at this
      omega
    have hm2 : m + j ≤ d.length := by
      have := congrArg List.length t1
      simp only [List.length_append] at this
      omega
    have HP : Hid (dk = x ++ (u ++ (v ++ y))) := t1
    have HA : Hid (R = x ++ (v ++ (u ++ y))) := t2
    have HU : Hid (u.length = i) := t3
    have HV : Hid (v.length = j) := t4
    clear t1 t2 t3 t4 HT
    have e1 : (m : Int) - (i : Int) = ((m - i : Nat) : Int) := by omega
    by_cases hij : i = j
    · subst hij
      have hb : ((i : Int) != (i : Int)) = false := by simp
      have HC : Hid (∀ w, Rw L qv w b dk → Calls Try.prog 26 #[.slice (some ⟨b, 0, none⟩) d.length cap, .int .i64 (m - i : Nat), .int .i64 m, .int .i64 i, fv] w fun e w' => e = .returned (.tuple #[]) ∧ Rw L qv w' b R ∧ Below b w w') := (show ∀ w, _ from fun w h => by
        have q := HS.out (m - i) m x u [] v y w (by rw [← hdl, HP.out]; rfl) (by rw [HP.out] at h; exact h) i HU.out HV.out (by omega) (by simp; omega)
        rw [HA.out]
        exact q)
      clear HP HA HU HV HS hdl hRl
      go_wp2_with fail
      refine (HC.out _ HK.out).mono ?_
      rintro r w1 ⟨rfl, k1, k2⟩
      go_wp2_with fail
      go_end0
      exact ⟨rfl, k1, btr' hbel k2⟩
    · have hb : ((i : Int) != (j : Int)) = true := by simp; omega
      by_cases hlt : j < i
      · have HC : Hid (∀ w, Rw L qv w b dk → Calls Try.prog 26 #[.slice (some ⟨b, 0, none⟩) d.length cap, .int .i64 (m - i : Nat), .int .i64 m, .int .i64 j, fv] w fun e w' => e = .returned (.tuple #[]) ∧ Rw L qv w' b ((x ++ v) ++ (u.drop j ++ (u.take j ++ y))) ∧ Below b w w') := (show ∀ w, _ from fun w h => by
          have e2 : u ++ (v ++ y) = u.take j ++ (u.drop j ++ (v ++ y)) := by rw [← List.append_assoc (u.take j), List.take_append_drop]
          have q := HS.out (m - i) m x (u.take j) (u.drop j) v y w (by rw [← hdl, HP.out, e2]) (by rw [HP.out, e2] at h; exact h) j (by rw [List.length_take, HU.out]; omega) HV.out (by omega) (by rw [List.length_drop, HU.out]; omega)
          rw [List.append_assoc]
          exact q)
        have HT' : Hid (Turn m (i - j) j R ((x ++ v) ++ (u.drop j ++ (u.take j ++ y))) (x ++ v) (u.drop j) (u.take j) y) := (show Turn _ _ _ _ _ _ _ _ _ from ⟨rfl, by
            rw [HA.out, List.append_assoc, ← List.append_assoc (u.take j), List.take_append_drop], by rw [List.length_drop, HU.out], by rw [List.length_take, HU.out]; omega, by omega, by omega, by rw [List.length_append, HV.out]; omega⟩)
        have e3 : (i : Int) - (j : Int) = ((i - j : Nat) : Int) := by omega
        clear HP HA HU HV HS hdl hRl
        go_wp2_with fail
        refine (HC.out _ HK.out).mono ?_
        rintro r w1 ⟨rfl, k1, k2⟩
        go_wp2_with fail
        go_roundw
        case rel => exact ⟨i - j, j, _, _, _, _, _, by first | rfl | rw [e3], rfl, HT', k1, btr' hbel k2⟩
        case measure => simp [intOf]; omega
      · have hlt' : ¬ (j : Int) < (i : Int) := by omega
        have HC : Hid (∀ w, Rw L qv w b dk → Calls Try.prog 26 #[.slice (some ⟨b, 0, none⟩) d.length cap, .int .i64 (m - i : Nat), .int .i64 (m + j - i : Nat), .int .i64 i, fv] w fun e w' => e = .returned (.tuple #[]) ∧ Rw L qv w' b (x ++ (v.drop (j - i) ++ (v.take (j - i) ++ (u ++ y)))) ∧ Below b w w') := (show ∀ w, _ from fun w h => by
          have e2 : v ++ y = v.take (j - i) ++ (v.drop (j - i) ++ y) := by rw [← List.append_assoc (v.take (j - i)), List.take_append_drop]
          have q := HS.out (m - i) (m + j - i) x u (v.take (j - i)) (v.drop (j - i)) y w (by rw [← hdl, HP.out, e2]) (by rw [HP.out, e2] at h; exact h) i HU.out (by rw [List.length_drop, HV.out]; omega) (by omega) (by rw [List.length_take, HV.out]; omega)
          exact q)
        have HT' : Hid (Turn m i (j - i) R (x ++ (v.drop (j - i) ++ (v.take (j - i) ++ (u ++ y)))) x (v.drop (j - i)) (v.take (j - i)) (u ++ y)) := (show Turn _ _ _ _ _ _ _ _ _ from ⟨rfl, by
            rw [HA.out, ← List.append_assoc (v.take (j - i)), List.take_append_drop], by rw [List.length_drop, HV.out]; omega, by rw [List.length_take, HV.out]; omega, by omega, by omega, by omega⟩)
        have e3 : (j : Int) - (i : Int) = ((j - i : Nat) : Int) := by omega
        have e4 : (m : Int) + (j : Int) - (i : Int) = ((m + j - i : Nat) : Int) := by omega
        clear HP HA HU HV HS hdl hRl
        go_wp2_with fail
        refine (HC.out _ HK.out).mono ?_
        rintro r w1 ⟨rfl, k1, k2⟩
        go_wp2_with fail
        go_roundw
        case rel => exact ⟨i, j - i, _, _, _, _, _, rfl, by first | rfl | rw [e3], HT', k1, btr' hbel k2⟩
        case measure => simp [intOf]; omega
end Go.Proofs.Ytfkkciepbmijaab

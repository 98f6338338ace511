/-
  What insertionSortCmpFunc leaves, as a contract.
-/
import Derived.Test.YtfkkciepbmijaabSRotate
import Derived.Test.YtfkkciepbmijaabSKey
namespace Go.Proofs.Ytfkkciepbmijaab
open Go.ChangeShapes Go.WideShapes Go.ChangeAt Go.RowKit
variable {L : List Nat} {qv : Nat}

theorem Cl.aws {d d' : List A} (h : Cl (kp L) d d') (hd : AWs L d) : AWs L d' := fun x hx => by
  have : x ∈ fc (kp L) (kp L x) d' := List.mem_filter.2 ⟨hx, by simp⟩
  rw [h] at this
  exact hd x (List.mem_filter.1 this).1
theorem at_aw {d : List A} (h : AWs L d) {i : Nat} (hi : i < d.length) : AW L (at' d i) := by
  rw [at_get d i hi]; exact h _ (List.getElem_mem hi)
/-- The function that orders. -/
abbrev fvP (q : Nat) : Value := .func (.func 17) #[] #[.pointer (some ⟨q, 0, none⟩)]
theorem C1.grR {W : World} {b : Nat} {d : List A} (h : Rw L qv W b d) {i : Nat} (hi : i < d.length) (n : GrT W) : n.w.cell? ⟨b, i, none⟩ = some (.int .i64 (at' d i)) := cell_gr (h.cells i hi) h.lt n
set_option maxHeartbeats 8000000 in
theorem insertion_any (b a c : Nat) (d : List A) (cap : Nat) (w : World) (hr : Rw L qv w b d) (hW : AWs L d) (hd : d.length ≤ 35184372088832) (h1 : a ≤ c) (h2 : c ≤ d.length) :
    Calls Try.prog 23 #[.slice (some ⟨b, 0, none⟩) d.length cap, .int .i64 a, .int .i64 c, (fvP qv)] w fun e w' => e = .returned (.tuple #[]) ∧ ∃ d', Rel (kp L) a c d d' ∧ Srt (kp L) a c d' ∧ Rw L qv w' b d' ∧ Below b w w' := by
  have HR : Hid (Rw L qv w b d) := hr
  have HB : Hid (∀ x y w', Ev L qv b w' → AW L x → AW L y → Calls Try.prog 17 #[.int .i64 x, .int .i64 y, .pointer (some ⟨qv, 0, none⟩)] w' fun e w'' => e = .returned (.int .i64 (cmV L x y)) ∧ Below w'.heap.size w' w'') := (show ∀ x y w', _ from fun x y w' hE hx hy => order1_any L qv b x y w' hE hx hy)
  have HWs : Hid (AWs L d) := hW
  clear hr hW
  go_enter Try.func23, Try.ntmps23
  go_wp2
  go_loopw [8] (fun vi wr => ∃ (i : Nat) (dk : List A), vi = .int .i64 i ∧ a < i ∧ (i ≤ c ∨ i = a + 1) ∧ Hid (Rel (kp L) a c d dk) ∧ Hid (Srt (kp L) a i dk) ∧ Hid (Rw L qv wr b dk) ∧ Below b w wr) (fun vi _ => c - (intOf vi).toNat)
  case atStart => exact ⟨a + 1, d, by go_num, by omega, .inr rfl, (show Rel (kp L) a c d d from Rel.refl _ _ _), (show Srt (kp L) a (a + 1) d from Srt.one _ _ _ (by omega)), HR, Below.refl _ _⟩
  case round =>
    clear HR
    obtain ⟨i, dk, rfl, hai, hic, HL, HS, HK, hbel⟩ := hrel
    by_cases hlt : i < c
    · have hltz : (i : Int) < (c : Int) := by omega
      go_wp2_with fail
      go_loopw [9] (fun vj wr2 => ∃ (j : Nat) (dj : List A), vj = .int .i64 j ∧ a ≤ j ∧ j ≤ i ∧ Hid (Rel (kp L) a c d dj) ∧ Hid (Ins (κ := (kp L)) a i j dj) ∧ Hid (Rw L qv wr2 b dj) ∧ Below b w wr2) (fun vj _ => (intOf vj).toNat)
      case atStart => exact ⟨i, dk, rfl, by omega, by omega, HL, (show Ins (κ := (kp L)) a i i dk from Ins.start HS.out), HK, hbel⟩
      case round =>
        clear HL HS HK hbel
        obtain ⟨j, dj, rfl, haj, hji, HL, HI, HK, hbel⟩ := hrel
        have hlen : dj.length = d.length := HL.out.len
        by_cases hja : a < j
        · have hjaz : (a : Int) < (j : Int) := by omega
          obtain ⟨P, hP⟩ : ∃ P, j = P + 1 := ⟨j - 1, by omega⟩
          have hawj := at_aw (HL.out.cl.aws HWs.out) (show j < dj.length by omega)
          have hawp := at_aw (HL.out.cl.aws HWs.out) (show P < dj.length by omega)
          have HWj : Hid (AW L _) := hawj
          have HWp : Hid (AW L _) := hawp
          have hbp := bpV_lt hawj hawp
          have q1 := C1.grR HK.out (show j < dj.length by omega)
          have q2 := C1.grR HK.out (show P < dj.length by omega)
          have ej1 : (j : Int) - 1 = (P : Int) := by omega
          have lj : (j : Int) < (d.length : Int) := by omega
          have lj1 : (P : Int) < (d.length : Int) := by omega
          have lj2 : j < d.length := by omega
          have lj3 : P < d.length := by omega
          have HP : Hid (j = P + 1) := hP
          have HKA : Hid (ka (kp L) dj j < ka (kp L) dj P ↔ cmV L (at' dj j) (at' dj P) < 0) := (show ka (kp L) dj j < ka (kp L) dj P ↔ cmV L (at' dj j) (at' dj P) < 0 from hbp.symm)
          have hPj : P < j := by omega
          clear hbp hP hawj hawp
          have hfz := HK.out.mark
          obtain ⟨X, hX⟩ : ∃ X, at' dj j = X := ⟨_, rfl⟩
          obtain ⟨Y, hY⟩ : ∃ Y, at' dj P = Y := ⟨_, rfl⟩
          rw [hX] at HWj
          rw [hY] at HWp
          rw [hX, hY] at HKA
          simp only [hX] at q1
          simp only [hY] at q2
          have HXY : Hid (X = at' dj j ∧ Y = at' dj P) := ⟨hX.symm, hY.symm⟩
          clear hX hY
          have cb0 := q1 none
          have cb1 := q2 none
          by_cases hv : cmV L X Y < 0
          · go_wp2_with fail
            refine wp_region_grow (by kernel_rfl) (by kernel_rfl) ?_
            repeat (go_big_quiet_step ((go_at_call 17; exact quiet_gr (HB.out _ _ _ (HK.out.below (GrT.h _)).ev HWj.out HWp.out))))
            refine wpQuiet_nil ?_
            rintro w1 hw'
            have g1 := gr_elim hw'
            clear q1 q2 hw'
            have HK1 : Hid (Rw L qv w1 b dj) := (show Rw L qv w1 b dj from HK.out.below g1)
            have c1 := (g1.cell (p := ⟨b, _, none⟩) HK.out.lt).trans cb0
            have c2 := (g1.cell (p := ⟨b, _, none⟩) HK.out.lt).trans cb1
            have hfz1 := HK1.out.mark
            have hbel1 : Below b w w1 := btr' hbel (g1.mono (Nat.le_of_lt HK.out.lt))
            have HN1 : Hid (Rw L qv (put1 (put1 w1 b j Y) b P X) b (swp dj j P)) := (show Rw L qv _ b _ by
              have e1 : X = at' dj j := HXY.out.1
              have e2 : Y = at' dj P := HXY.out.2
              rw [e1, e2]
              exact HK1.out.swap (by omega) (by omega) (by omega))
            go_wp2_with fail
            go_big_region
            have hb2 : Below b w (put1 (put1 w1 b j Y) b P X).drew := (put1_below X (put1_below Y hbel1 (Nat.le_refl _)) (Nat.le_refl _)).drew
            have HN2 : Hid (Rw L qv (put1 (put1 w1 b j Y) b P X).drew b (swp dj j P)) := (show Rw L qv _ b _ from HN1.out.drewN 1)
            clear c1 c2 hfz1 HN1 HK1 hbel1
            generalize (put1 (put1 w1 b j Y) b P X).drew = w2 at *
            go_wp2_with fail
            go_roundw
            case rel =>
              have hk := HKA.out.2 hv
              have hp := HP.out
              subst hp
              exact ⟨P, swp dj (P + 1) P, by first | rfl | rw [ej1], by omega, by omega, (show Rel (kp L) a c d _ from HL.out.trans (rel_swap dj P (by omega) (by omega) a c (by omega) (by omega)).1), (show Ins (κ := (kp L)) a i P _ from HI.out.step (by omega) hji (by omega) hk), HN2, hb2⟩
            case measure => simp [intOf]; omega
          · have hs : j ≤ a ∨ ka (kp L) dj (j - 1) ≤ ka (kp L) dj j := .inr (by
              have e : j - 1 = P := by omega
              rw [e]
              exact Int.not_lt.1 fun h => hv (HKA.out.1 h))
            have HS : Hid (Srt (kp L) a (i + 1) dj) := (show Srt (kp L) a (i + 1) dj from HI.out.stop hji hs)
            clear hs
            go_wp2_with fail
            refine wp_region_grow (by kernel_rfl) (by kernel_rfl) ?_
            repeat (go_big_quiet_step ((go_at_call 17; exact quiet_gr (HB.out _ _ _ (HK.out.below (GrT.h _)).ev HWj.out HWp.out))))
            refine wpQuiet_nil ?_
            rintro w1 hw'
            have g1 := gr_elim hw'
            clear q1 q2 hw'
            go_wp2_with fail
            go_roundw
            case rel => exact ⟨i + 1, dj, by go_num, by omega, .inl (by omega), HL, HS, (show Rw L qv w1 b dj from HK.out.below g1), btr' hbel (g1.mono (Nat.le_of_lt HK.out.lt))⟩
            case measure => simp [intOf]; omega
        · have hja' : j = a := by omega
          have hjaz : decide ((a : Int) < (j : Int)) = false := decide_eq_false (by omega)
          have hjaz' : ¬ (a : Int) < (j : Int) := by omega
          have HS : Hid (Srt (kp L) a (i + 1) dj) := (show Srt (kp L) a (i + 1) dj from HI.out.stop hji (.inl (by omega)))
          clear hja'
          go_wp2_with fail
          go_big_region
          go_wp2_with fail
          go_roundw
          case rel => exact ⟨i + 1, dj, by go_num, by omega, .inl (by omega), HL, HS, (show Rw L qv _ b dj from HK.out.drewN 1), hbel.drew⟩
          case measure => simp [intOf]; omega
    · go_wp2_with fail
      go_end0
      exact ⟨rfl, dk, HL.out, fun p q h1 h2 h3 => HS.out p q h1 h2 (by omega), HK.out, hbel⟩
end Go.Proofs.Ytfkkciepbmijaab

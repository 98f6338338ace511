/-
  What symMergeCmpFunc leaves where one of the two parts is one action, as contracts.
-/
import Derived.Test.YtmlonfchbkmbcabDoorInsert
import Derived.Test.YtmlonfchbkmbcabDoorSymP
namespace Go.Proofs.YtmlonfchbkmbcabDoor
open Go.ChangeShapes Go.WideShapes Go.ChangeAt Go.RowKit

theorem half (i j : Nat) : ((i : Int) + (j : Int)) / 2 = (((i + j) / 2 : Nat) : Int) := by omega
set_option maxHeartbeats 8000000 in
set_option maxRecDepth 20000 in
theorem sym_left (b a m c : Nat) (d : List A) (cap : Nat) (w : World) (hr : Rw w b d) (hW : AWs d) (hd : d.length ≤ 1000) (h1 : m = a + 1) (h2 : m < c) (h3 : c ≤ d.length) (sb : Srt kap m c d) :
    Calls Tryd.prog 69 #[.slice (some ⟨b, 0, none⟩) d.length cap, .int .i64 a, .int .i64 m, .int .i64 c, fvP] w fun e w' => e = .returned (.tuple #[]) ∧ ∃ d', Rel kap a c d d' ∧ Srt kap a c d' ∧ Rw w' b d' ∧ Below b w w' := by
  have HR : Hid (Rw w b d) := hr
  have HB : Hid (∀ x y w, Calls Tryd.prog 28 #[tV x, tV y] w fun e w' => e = .returned (.int .i64 (bpV x y)) ∧ Below w.heap.size w w') := byPlace_any
  have HWs : Hid (AWs d) := hW
  have HSb : Hid (Srt kap m c d) := sb
  have HM : Hid (m = a + 1) := h1
  have hma : ((m : Int) - (a : Int) == 1) = true := by simp; omega
  have hmc : (m : Int) < (c : Int) := by omega
  have ham : (a : Int) < (m : Int) := by omega
  have ham' : a < m := by omega
  clear hr hW sb h1
  go_enter Tryd.func69, Tryd.ntmps69
  go_wp2_with fail
  go_loopw [10, 11] (fun vi vj wr => ∃ (i j : Nat), vi = .int .i64 i ∧ vj = .int .i64 j ∧ Hid (Fnd kap m c i j d (ka kap d a)) ∧ Hid (Rw wr b d) ∧ Below b w wr) (fun vi vj _ => (intOf vj).toNat - (intOf vi).toNat)
  case atStart => exact ⟨m, c, rfl, rfl, (show Fnd kap m c m c d (ka kap d a) from ⟨Nat.le_refl _, by omega, Nat.le_refl _, fun t t1 t2 => by omega, fun t t1 t2 => by omega⟩), HR, Below.refl _ _⟩
  case round =>
    clear HR
    obtain ⟨i, j, rfl, rfl, HF, HK, hbel⟩ := hrel
    obtain ⟨f1, f2, f3, _, _⟩ := HF.out
    by_cases hlt : i < j
    · have hh := half i j
      have h4 : i ≤ (i + j) / 2 := by omega
      have h5 : (i + j) / 2 < j := by omega
      generalize (i + j) / 2 = H at *
      have hawj := at_aw HWs.out (show H < d.length by omega)
      have hawp := at_aw HWs.out (show a < d.length by omega)
      have hbp := bpV_lt hawj hawp
      have q1 := C3.grR HK.out (show H < d.length by omega)
      have q2 := C3.grR HK.out (show a < d.length by omega)
      have l1 : H < d.length := by omega
      have l2 : a < d.length := by omega
      have HKA : Hid (ka kap d H < ka kap d a ↔ bpV (at' d H) (at' d a) < 0) := (show ka kap d H < ka kap d a ↔ bpV (at' d H) (at' d a) < 0 from hbp.symm)
      clear hbp hawj hawp
      generalize at' d H = X at *
      generalize at' d a = Y at *
      have q10 := fun n => (q1 n).1
      have q11 := fun n => (q1 n).2.1
      have q12 := fun n => (q1 n).2.2
      have q20 := fun n => (q2 n).1
      have q21 := fun n => (q2 n).2.1
      have q22 := fun n => (q2 n).2.2
      clear q1 q2
      by_cases hv : bpV X Y < 0
      · have hvb : decide (bpV X Y < 0) = true := decide_eq_true hv
        go_wp2_with fail
        refine wp_region_grow (by kernel_rfl) (by kernel_rfl) ?_
        repeat (go_big_quiet_step ((go_at_call 28; exact quiet_gr (HB.out _ _ _))))
        refine wpQuiet_nil ?_
        rintro w1 hw'
        have g1 := gr_elim hw'
        clear q10 q11 q12 q20 q21 q22 hw'
        go_wp2_with fail
        go_roundw
        case rel => exact ⟨H + 1, j, by go_num, rfl, (show Fnd kap m c (H + 1) j d (ka kap d a) from HF.out.less HSb.out h4 h5 (HKA.out.2 hv)), (show Rw w1 b d from HK.out.below g1), btr' hbel (g1.mono (Nat.le_of_lt HK.out.lt))⟩
        case measure => simp [intOf]; omega
      · have HVN : Hid (¬ bpV X Y < 0) := hv
        have hvb : decide (bpV X Y < 0) = false := decide_eq_false hv
        clear hv
        go_wp2_with fail
        refine wp_region_grow (by kernel_rfl) (by kernel_rfl) ?_
        repeat (go_big_quiet_step ((go_at_call 28; exact quiet_gr (HB.out _ _ _))))
        refine wpQuiet_nil ?_
        rintro w1 hw'
        have g1 := gr_elim hw'
        clear q10 q11 q12 q20 q21 q22 hw'
        go_wp2_with fail
        go_roundw
        case rel =>
          have hf : Fnd kap m c i H d (ka kap d a) := by
            rcases HF.out.not HSb.out h4 (fun x => by have h6 := HVN.out; have h7 := HKA.out.1 x; omega) with x | x
            · exact x
            · omega
          exact ⟨i, H, rfl, rfl, hf, (show Rw w1 b d from HK.out.below g1), btr' hbel (g1.mono (Nat.le_of_lt HK.out.lt))⟩
        case measure => simp [intOf]; omega
    · have hij : i = j := by omega
      subst hij
      have hai : a < i := by have := HM.out; omega
      have hw1 : (i : Int) - 1 = ((i - 1 : Nat) : Int) := by omega
      obtain ⟨I, hI⟩ : ∃ I, i - 1 = I := ⟨_, rfl⟩
      rw [hI] at hw1
      have HI : Hid (i - 1 = I) := hI
      have haI : a ≤ I := by omega
      have hIc : I < c := by omega
      clear hI
      have HM0 : Hid (MvR kap a c a d d) := (show MvR kap a c a d d from MvR.start a c d)
      go_wp2_with fail
      go_loopw [13] (fun vk wr => ∃ (k : Nat) (dk : List A), vk = .int .i64 k ∧ a ≤ k ∧ k ≤ I ∧ Hid (MvR kap a c k d dk) ∧ Hid (Rw wr b dk) ∧ Below b w wr) (fun vk _ => I - (intOf vk).toNat)
      case atStart => exact ⟨a, d, rfl, Nat.le_refl _, haI, HM0, HK, hbel⟩
      case round =>
        clear HK hbel HM0
        obtain ⟨k, dk, rfl, hak, hkI, HV, HK, hbel⟩ := hrel
        have hlen : dk.length = d.length := HV.out.rel.len
        by_cases hkl : k < I
        · have c1 := HK.out.cells k (by omega)
          have c2 := HK.out.cells (k + 1) (by omega)
          have hfz := HK.out.mark
          have HNX : Hid (Rw (put3 (put3 wr b (k * 3) (at' dk (k + 1))) b ((k + 1) * 3) (at' dk k)) b (swp dk k (k + 1))) := (show Rw _ b _ from HK.out.swap (by omega) (by omega) (by omega))
          obtain ⟨P, hP⟩ : ∃ P, k + 1 = P := ⟨_, rfl⟩
          have eP : (k : Int) + 1 = (P : Int) := by omega
          have HP : Hid (k + 1 = P) := hP
          rw [hP] at HNX c2
          have lk : k < d.length := by omega
          have lP : P < d.length := by omega
          have hkP : k < P := by omega
          have hPI : P ≤ I := by omega
          clear hP
          generalize at' dk k = X at *
          generalize at' dk P = Y at *
          obtain ⟨c10, c11, c12⟩ := c1
          obtain ⟨c20, c21, c22⟩ := c2
          go_wp2_with fail
          go_big_region
          have hb2 : Below b w (put3 (put3 wr b (k * 3) Y) b (P * 3) X).drew := (put3_below X (put3_below Y hbel (Nat.le_refl _)) (Nat.le_refl _)).drew
          have HN2 : Hid (Rw (put3 (put3 wr b (k * 3) Y) b (P * 3) X).drew b (swp dk k P)) := (show Rw _ b _ by have := HNX.out.drewN 1; rw [← HP.out] at this ⊢; exact this)
          clear c10 c11 c12 c20 c21 c22 hfz HNX HK hbel
          generalize (put3 (put3 wr b (k * 3) Y) b (P * 3) X).drew = w2 at *
          go_wp2_with fail
          go_roundw
          case rel =>
            have hp := HP.out
            subst hp
            exact ⟨k + 1, swp dk k (k + 1), by first | rfl | go_num, by omega, by omega, (show MvR kap a c (k + 1) d _ from HV.out.step hak (by have := HI.out; omega) h3 (HF.out.lo _ (by have := HM.out; omega) (by have := HI.out; omega))), HN2, hb2⟩
          case measure => simp [intOf]; omega
        · have hkI' : k = I := by omega
          subst hkI'
          go_wp2_with fail
          (try simp only [Exit.inBlock, Exit.then]); refine bodyPost_ret (results_none rfl _ _ _) rfl ?_
          have hm := HM.out
          have hi := HI.out
          subst hm
          refine ⟨rfl, dk, HV.out.rel, ?_, HK.out, hbel⟩
          subst hi
          exact HV.out.done hai f3 HSb.out HF.out.lo HF.out.up
set_option maxHeartbeats 8000000 in
set_option maxRecDepth 20000 in
theorem sym_right (b a m c : Nat) (d : List A) (cap : Nat) (w : World) (hr : Rw w b d) (hW : AWs d) (hd : d.length ≤ 1000) (h1 : a + 1 < m) (h2 : c = m + 1) (h3 : c ≤ d.length) (sa : Srt kap a m d) :
    Calls Tryd.prog 69 #[.slice (some ⟨b, 0, none⟩) d.length cap, .int .i64 a, .int .i64 m, .int .i64 c, fvP] w fun e w' => e = .returned (.tuple #[]) ∧ ∃ d', Rel kap a c d d' ∧ Srt kap a c d' ∧ Rw w' b d' ∧ Below b w w' := by
  have HR : Hid (Rw w b d) := hr
  have HB : Hid (∀ x y w, Calls Tryd.prog 28 #[tV x, tV y] w fun e w' => e = .returned (.int .i64 (bpV x y)) ∧ Below w.heap.size w w') := byPlace_any
  have HWs : Hid (AWs d) := hW
  have HSa : Hid (Srt kap a m d) := sa
  have HM : Hid (c = m + 1) := h2
  have hma : ((m : Int) - (a : Int) == 1) = false := by simp; omega
  have hcm : ((c : Int) - (m : Int) == 1) = true := by simp; omega
  have hmc : (m : Int) < (c : Int) := by omega
  have hmc' : m < c := by omega
  have ham : (a : Int) < (m : Int) := by omega
  clear hr hW sa h2
  go_enter Tryd.func69, Tryd.ntmps69
  go_wp2_with fail
  go_loopw [14, 15] (fun vi vj wr => ∃ (i j : Nat), vi = .int .i64 i ∧ vj = .int .i64 j ∧ Hid (Fnu kap a m i j d (ka kap d m)) ∧ Hid (Rw wr b d) ∧ Below b w wr) (fun vi vj _ => (intOf vj).toNat - (intOf vi).toNat)
  case atStart => exact ⟨a, m, rfl, rfl, (show Fnu kap a m a m d (ka kap d m) from ⟨Nat.le_refl _, by omega, Nat.le_refl _, fun t t1 t2 => by omega, fun t t1 t2 => by omega⟩), HR, Below.refl _ _⟩
  case round =>
    clear HR
    obtain ⟨i, j, rfl, rfl, HF, HK, hbel⟩ := hrel
    obtain ⟨f1, f2, f3, _, _⟩ := HF.out
    by_cases hlt : i < j
    · have hh := half i j
      have h4 : i ≤ (i + j) / 2 := by omega
      have h5 : (i + j) / 2 < j := by omega
      generalize (i + j) / 2 = H at *
      have hawj := at_aw HWs.out (show m < d.length by omega)
      have hawp := at_aw HWs.out (show H < d.length by omega)
      have hbp := bpV_lt hawj hawp
      have q1 := C3.grR HK.out (show m < d.length by omega)
      have q2 := C3.grR HK.out (show H < d.length by omega)
      have l1 : m < d.length := by omega
      have l2 : H < d.length := by omega
      have HKA : Hid (ka kap d m < ka kap d H ↔ bpV (at' d m) (at' d H) < 0) := (show ka kap d m < ka kap d H ↔ bpV (at' d m) (at' d H) < 0 from hbp.symm)
      clear hbp hawj hawp
      generalize at' d m = X at *
      generalize at' d H = Y at *
      have q10 := fun n => (q1 n).1
      have q11 := fun n => (q1 n).2.1
      have q12 := fun n => (q1 n).2.2
      have q20 := fun n => (q2 n).1
      have q21 := fun n => (q2 n).2.1
      have q22 := fun n => (q2 n).2.2
      clear q1 q2
      by_cases hv : bpV X Y < 0
      · have hvb : decide (bpV X Y < 0) = true := decide_eq_true hv
        go_wp2_with fail
        refine wp_region_grow (by kernel_rfl) (by kernel_rfl) ?_
        repeat (go_big_quiet_step ((go_at_call 28; exact quiet_gr (HB.out _ _ _))))
        refine wpQuiet_nil ?_
        rintro w1 hw'
        have g1 := gr_elim hw'
        clear q10 q11 q12 q20 q21 q22 hw'
        go_wp2_with fail
        go_roundw
        case rel => exact ⟨i, H, rfl, rfl, (show Fnu kap a m i H d (ka kap d m) from HF.out.less HSa.out h4 h5 (HKA.out.2 hv)), (show Rw w1 b d from HK.out.below g1), btr' hbel (g1.mono (Nat.le_of_lt HK.out.lt))⟩
        case measure => simp [intOf]; omega
      · have HVN : Hid (¬ bpV X Y < 0) := hv
        have hvb : decide (bpV X Y < 0) = false := decide_eq_false hv
        clear hv
        go_wp2_with fail
        refine wp_region_grow (by kernel_rfl) (by kernel_rfl) ?_
        repeat (go_big_quiet_step ((go_at_call 28; exact quiet_gr (HB.out _ _ _))))
        refine wpQuiet_nil ?_
        rintro w1 hw'
        have g1 := gr_elim hw'
        clear q10 q11 q12 q20 q21 q22 hw'
        go_wp2_with fail
        go_roundw
        case rel => exact ⟨H + 1, j, by go_num, rfl, (show Fnu kap a m (H + 1) j d (ka kap d m) from HF.out.not HSa.out h4 h5 (fun x => by have h6 := HVN.out; have h7 := HKA.out.1 x; omega)), (show Rw w1 b d from HK.out.below g1), btr' hbel (g1.mono (Nat.le_of_lt HK.out.lt))⟩
        case measure => simp [intOf]; omega
    · have hij : i = j := by omega
      subst hij
      have HM0 : Hid (MvL kap a m m d d) := (show MvL kap a m m d d from MvL.start a m d)
      go_wp2_with fail
      go_loopw [17] (fun vk wr => ∃ (k : Nat) (dk : List A), vk = .int .i64 k ∧ i ≤ k ∧ k ≤ m ∧ Hid (MvL kap a m k d dk) ∧ Hid (Rw wr b dk) ∧ Below b w wr) (fun vk _ => (intOf vk).toNat)
      case atStart => exact ⟨m, d, rfl, f3, Nat.le_refl _, HM0, HK, hbel⟩
      case round =>
        clear HK hbel HM0
        obtain ⟨k, dk, rfl, hik, hkm, HV, HK, hbel⟩ := hrel
        have hlen : dk.length = d.length := HV.out.rel.len
        by_cases hkl : i < k
        · obtain ⟨P, hP⟩ : ∃ P, k = P + 1 := ⟨k - 1, by omega⟩
          have c1 := HK.out.cells k (by omega)
          have c2 := HK.out.cells P (by omega)
          have hfz := HK.out.mark
          have HNX : Hid (Rw (put3 (put3 wr b (k * 3) (at' dk P)) b (P * 3) (at' dk k)) b (swp dk k P)) := (show Rw _ b _ from HK.out.swap (by omega) (by omega) (by omega))
          have eP : (k : Int) - 1 = (P : Int) := by omega
          have HP : Hid (k = P + 1) := hP
          have lk : k < d.length := by omega
          have lP : P < d.length := by omega
          have hPk : P < k := by omega
          have hiP : i ≤ P := by omega
          clear hP
          generalize at' dk k = X at *
          generalize at' dk P = Y at *
          obtain ⟨c10, c11, c12⟩ := c1
          obtain ⟨c20, c21, c22⟩ := c2
          go_wp2_with fail
          go_big_region
          have hb2 : Below b w (put3 (put3 wr b (k * 3) Y) b (P * 3) X).drew := (put3_below X (put3_below Y hbel (Nat.le_refl _)) (Nat.le_refl _)).drew
          have HN2 : Hid (Rw (put3 (put3 wr b (k * 3) Y) b (P * 3) X).drew b (swp dk k P)) := (show Rw _ b _ from HNX.out.drewN 1)
          clear c10 c11 c12 c20 c21 c22 hfz HNX HK hbel
          generalize (put3 (put3 wr b (k * 3) Y) b (P * 3) X).drew = w2 at *
          go_wp2_with fail
          go_roundw
          case rel =>
            have hp := HP.out
            subst hp
            exact ⟨P, swp dk (P + 1) P, by first | rfl | go_num, hiP, by omega, (show MvL kap a m P d _ from HV.out.step (by omega) hkm (by omega) (HF.out.up _ hiP (by omega))), HN2, hb2⟩
          case measure => simp [intOf]; omega
        · have hkI' : k = i := by omega
          subst hkI'
          go_wp2_with fail
          (try simp only [Exit.inBlock, Exit.then]); refine bodyPost_ret (results_none rfl _ _ _) rfl ?_
          have hm := HM.out
          subst hm
          exact ⟨rfl, dk, HV.out.rel, HV.out.done f1 f3 HSa.out HF.out.lo HF.out.up, HK.out, hbel⟩
end Go.Proofs.YtmlonfchbkmbcabDoor

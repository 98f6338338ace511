/-
  What symMergeCmpFunc leaves where one of the two parts is one action, as contracts.
-/
import Derived.Test.YtfkkciepbmijaabSInsert
import Derived.Test.YtfkkciepbmijaabSymP
namespace Go.Proofs.Ytfkkciepbmijaab
open Go.ChangeShapes Go.WideShapes Go.ChangeAt Go.RowKit
variable {L : List Nat} {qv : Nat}

theorem half (i j : Nat) : ((i : Int) + (j : Int)) / 2 = (((i + j) / 2 : Nat) : Int) := by omega
set_option maxHeartbeats 8000000 in
set_option maxRecDepth 20000 in
theorem sym_left (b a m c : Nat) (d : List A) (cap : Nat) (w : World) (hr : Rw L qv w b d) (hW : AWs L d) (hd : d.length ≤ 35184372088832) (h1 : m = a + 1) (h2 : m < c) (h3 : c ≤ d.length) (sb : Srt (kp L) m c d) :
    Calls Try.prog 24 #[.slice (some ⟨b, 0, none⟩) d.length cap, .int .i64 a, .int .i64 m, .int .i64 c, (fvP qv)] w fun e w' => e = .returned (.tuple #[]) ∧ ∃ d', Rel (kp L) a c d d' ∧ Srt (kp L) a c d' ∧ Rw L qv w' b d' ∧ Below b w w' := by
  have HR : Hid (Rw L qv w b d) := hr
  have HB : Hid (∀ x y w', Ev L qv b w' → AW L x → AW L y → Calls Try.prog 17 #[.int .i64 x, .int .i64 y, .pointer (some ⟨qv, 0, none⟩)] w' fun e w'' => e = .returned (.int .i64 (cmV L x y)) ∧ Below w'.heap.size w' w'') := (show ∀ x y w', _ from fun x y w' hE hx hy => order1_any L qv b x y w' hE hx hy)
  have HWs : Hid (AWs L d) := hW
  have HSb : Hid (Srt (kp L) m c d) := sb
  have HM : Hid (m = a + 1) := h1
  have hma : ((m : Int) - (a : Int) == 1) = true := by simp; omega
  have hmc : (m : Int) < (c : Int) := by omega
  have ham : (a : Int) < (m : Int) := by omega
  have ham' : a < m := by omega
  clear hr hW sb h1
  go_enter Try.func24, Try.ntmps24
  go_wp2_with fail
  go_loopw [10, 11] (fun vi vj wr => ∃ (i j : Nat), vi = .int .i64 i ∧ vj = .int .i64 j ∧ Hid (Fnd (kp L) m c i j d (ka (kp L) d a)) ∧ Hid (Rw L qv wr b d) ∧ Below b w wr) (fun vi vj _ => (intOf vj).toNat - (intOf vi).toNat)
  case atStart => exact ⟨m, c, rfl, rfl, (show Fnd (kp L) m c m c d (ka (kp L) d a) from ⟨Nat.le_refl _, by omega, Nat.le_refl _, fun t t1 t2 => by omega, fun t t1 t2 => by omega⟩), HR, Below.refl _ _⟩
  case round =>
    clear HR
    obtain ⟨i, j, rfl, rfl, HF, HK, hbel⟩ := hrel
    obtain ⟨f1, f2, f3, _, _⟩ := HF.out
    by_cases hlt : i < j
    · have hh := half i j
      have h4 : i ≤ (i + j) / 2 := by omega
      have h5 : (i + j) / 2 < j := by omega
      generalize (i + j) / 2 = H at *
      have hawj := at_aw HWs.out (show H < d.length by omega)
      have hawp := at_aw HWs.out (show a < d.length by omega)
      have HWj : Hid (AW L _) := hawj
      have HWp : Hid (AW L _) := hawp
      have hbp := bpV_lt hawj hawp
      have q1 := C1.grR HK.out (show H < d.length by omega)
      have q2 := C1.grR HK.out (show a < d.length by omega)
      have l1 : H < d.length := by omega
      have l2 : a < d.length := by omega
      have HKA : Hid (ka (kp L) d H < ka (kp L) d a ↔ cmV L (at' d H) (at' d a) < 0) := (show ka (kp L) d H < ka (kp L) d a ↔ cmV L (at' d H) (at' d a) < 0 from hbp.symm)
      clear hbp hawj hawp
      generalize at' d H = X at *
      generalize at' d a = Y at *
      by_cases hv : cmV L X Y < 0
      · have hvb : decide (cmV L X Y < 0) = true := decide_eq_true hv
        go_wp2_with fail
        refine wp_region_grow (by kernel_rfl) (by kernel_rfl) ?_
        repeat (go_big_quiet_step ((go_at_call 17; exact quiet_gr (HB.out _ _ _ (HK.out.below (GrT.h _)).ev HWj.out HWp.out))))
        refine wpQuiet_nil ?_
        rintro w1 hw'
        have g1 := gr_elim hw'
        clear q1 q2 hw'
        go_wp2_with fail
        go_roundw
        case rel => exact ⟨H + 1, j, by go_num, rfl, (show Fnd (kp L) m c (H + 1) j d (ka (kp L) d a) from HF.out.less HSb.out h4 h5 (HKA.out.2 hv)), (show Rw L qv w1 b d from HK.out.below g1), btr' hbel (g1.mono (Nat.le_of_lt HK.out.lt))⟩
        case measure => simp [intOf]; omega
      · have HVN : Hid (¬ cmV L X Y < 0) := hv
        have hvb : decide (cmV L X Y < 0) = false := decide_eq_false hv
        clear hv
        go_wp2_with fail
        refine wp_region_grow (by kernel_rfl) (by kernel_rfl) ?_
        repeat (go_big_quiet_step ((go_at_call 17; exact quiet_gr (HB.out _ _ _ (HK.out.below (GrT.h _)).ev HWj.out HWp.out))))
        refine wpQuiet_nil ?_
        rintro w1 hw'
        have g1 := gr_elim hw'
        clear q1 q2 hw'
        go_wp2_with fail
        go_roundw
        case rel =>
          have hf : Fnd (kp L) m c i H d (ka (kp L) d a) := by
            rcases HF.out.not HSb.out h4 (fun x => by have h6 := HVN.out; have h7 := HKA.out.1 x; omega) with x | x
            · exact x
            · omega
          exact ⟨i, H, rfl, rfl, hf, (show Rw L qv w1 b d from HK.out.below g1), btr' hbel (g1.mono (Nat.le_of_lt HK.out.lt))⟩
        case measure => simp [intOf]; omega
    · have hij : i = j := by omega
      subst hij
      have hai : a < i := by have := HM.out; omega
      have hw1 : (i : Int) - 1 = ((i - 1 : Nat) : Int) := by omega
      obtain ⟨I, hI⟩ : ∃ I, i - 1 = I := ⟨_, rfl⟩
      rw [hI] at hw1
      have HI : Hid (i - 1 = I) := hI
      have haI : a ≤ I := by omega
      have hIc : I < c := by omega
      clear hI
      have HM0 : Hid (MvR (kp L) a c a d d) := (show MvR (kp L) a c a d d from MvR.start a c d)
      go_wp2_with fail
      go_loopw [13] (fun vk wr => ∃ (k : Nat) (dk : List A), vk = .int .i64 k ∧ a ≤ k ∧ k ≤ I ∧ Hid (MvR (kp L) a c k d dk) ∧ Hid (Rw L qv wr b dk) ∧ Below b w wr) (fun vk _ => I - (intOf vk).toNat)
      case atStart => exact ⟨a, d, rfl, Nat.le_refl _, haI, HM0, HK, hbel⟩
      case round =>
        clear HK hbel HM0
        obtain ⟨k, dk, rfl, hak, hkI, HV, HK, hbel⟩ := hrel
        have hlen : dk.length = d.length := HV.out.rel.len
        by_cases hkl : k < I
        · have c1 := HK.out.cells k (by omega)
          have c2 := HK.out.cells (k + 1) (by omega)
          have hfz := HK.out.mark
          have HNX : Hid (Rw L qv (put1 (put1 wr b k (at' dk (k + 1))) b (k + 1) (at' dk k)) b (swp dk k (k + 1))) := (show Rw L qv _ b _ from HK.out.swap (by omega) (by omega) (by omega))
          obtain ⟨P, hP⟩ : ∃ P, k + 1 = P := ⟨_, rfl⟩
          have eP : (k : Int) + 1 = (P : Int) := by omega
          have HP : Hid (k + 1 = P) := hP
          rw [hP] at HNX c2
          have lk : k < d.length := by omega
          have lP : P < d.length := by omega
          have hkP : k < P := by omega
          have hPI : P ≤ I := by omega
          clear hP
          generalize at' dk k = X at *
          generalize at' dk P = Y at *
          go_wp2_with fail
          go_big_region
          have hb2 : Below b w (put1 (put1 wr b k Y) b P X).drew := (put1_below X (put1_below Y hbel (Nat.le_refl _)) (Nat.le_refl _)).drew
          have HN2 : Hid (Rw L qv (put1 (put1 wr b k Y) b P X).drew b (swp dk k P)) := (show Rw L qv _ b _ by have := HNX.out.drewN 1; rw [← HP.out] at this ⊢; exact this)
          clear c1 c2 hfz HNX HK hbel
          generalize (put1 (put1 wr b k Y) b P X).drew = w2 at *
          go_wp2_with fail
          go_roundw
          case rel =>
            have hp := HP.out
            subst hp
            exact ⟨k + 1, swp dk k (k + 1), by first | rfl | go_num, by omega, by omega, (show MvR (kp L) a c (k + 1) d _ from HV.out.step hak (by have := HI.out; omega) h3 (HF.out.lo _ (by have := HM.out; omega) (by have := HI.out; omega))), HN2, hb2⟩
          case measure => simp [intOf]; omega
        · have hkI' : k = I := by omega
          subst hkI'
          go_wp2_with fail
          (try simp only [Exit.inBlock, Exit.then]); refine bodyPost_ret (results_none rfl _ _ _) rfl ?_
          have hm := HM.out
          have hi := HI.out
          subst hm
          refine ⟨rfl, dk, HV.out.rel, ?_, HK.out, hbel⟩
          subst hi
          exact HV.out.done hai f3 HSb.out HF.out.lo HF.out.up
set_option maxHeartbeats 8000000 in
set_option maxRecDepth 20000 in
theorem sym_right (b a m c : Nat) (d : List A) (cap : Nat) (w : World) (hr : Rw L qv w b d) (hW : AWs L d) (hd : d.length ≤ 35184372088832) (h1 : a + 1 < m) (h2 : c = m + 1) (h3 : c ≤ d.length) (sa : Srt (kp L) a m d) :
    Calls Try.prog 24 #[.slice (some ⟨b, 0, none⟩) d.length cap, .int .i64 a, .int .i64 m, .int .i64 c, (fvP qv)] w fun e w' => e = .returned (.tuple #[]) ∧ ∃ d', Rel (kp L) a c d d' ∧ Srt (kp L) a c d' ∧ Rw L qv w' b d' ∧ Below b w w' := by
  have HR : Hid (Rw L qv w b d) := hr
  have HB : Hid (∀ x y w', Ev L qv b w' → AW L x → AW L y → Calls Try.prog 17 #[.int .i64 x, .int .i64 y, .pointer (some ⟨qv, 0, none⟩)] w' fun e w'' => e = .returned (.int .i64 (cmV L x y)) ∧ Below w'.heap.size w' w'') := (show ∀ x y w', _ from fun x y w' hE hx hy => order1_any L qv b x y w' hE hx hy)
  have HWs : Hid (AWs L d) := hW
  have HSa : Hid (Srt (kp L) a m d) := sa
  have HM : Hid (c = m + 1) := h2
  have hma : ((m : Int) - (a : Int) == 1) = false := by simp; omega
  have hcm : ((c : Int) - (m : Int) == 1) = true := by simp; omega
  have hmc : (m : Int) < (c : Int) := by omega
  have hmc' : m < c := by omega
  have ham : (a : Int) < (m : Int) := by omega
  clear hr hW sa h2
  go_enter Try.func24, Try.ntmps24
  go_wp2_with fail
  go_loopw [14, 15] (fun vi vj wr => ∃ (i j : Nat), vi = .int .i64 i ∧ vj = .int .i64 j ∧ Hid (Fnu (kp L) a m i j d (ka (kp L) d m)) ∧ Hid (Rw L qv wr b d) ∧ Below b w wr) (fun vi vj _ => (intOf vj).toNat - (intOf vi).toNat)
  case atStart => exact ⟨a, m, rfl, rfl, (show Fnu (kp L) a m a m d (ka (kp L) d m) from ⟨Nat.le_refl _, by omega, Nat.le_refl _, fun t t1 t2 => by omega, fun t t1 t2 => by omega⟩), HR, Below.refl _ _⟩
  case round =>
    clear HR
    obtain ⟨i, j, rfl, rfl, HF, HK, hbel⟩ := hrel
    obtain ⟨f1, f2, f3, _, _⟩ := HF.out
    by_cases hlt : i < j
    · have hh := half i j
      have h4 : i ≤ (i + j) / 2 := by omega
      have h5 : (i + j) / 2 < j := by omega
      generalize (i + j) / 2 = H at *
      have hawj := at_aw HWs.out (show m < d.length by omega)
      have hawp := at_aw HWs.out (show H < d.length by omega)
      have HWj : Hid (AW L _) := hawj
      have HWp : Hid (AW L _) := hawp
      have hbp := bpV_lt hawj hawp
      have q1 := C1.grR HK.out (show m < d.length by omega)
      have q2 := C1.grR HK.out (show H < d.length by omega)
      have l1 : m < d.length := by omega
      have l2 : H < d.length := by omega
      have HKA : Hid (ka (kp L) d m < ka (kp L) d H ↔ cmV L (at' d m) (at' d H) < 0) := (show ka (kp L) d m < ka (kp L) d H ↔ cmV L (at' d m) (at' d H) < 0 from hbp.symm)
      clear hbp hawj hawp
      generalize at' d m = X at *
      generalize at' d H = Y at *
      by_cases hv : cmV L X Y < 0
      · have hvb : decide (cmV L X Y < 0) = true := decide_eq_true hv
        go_wp2_with fail
        refine wp_region_grow (by kernel_rfl) (by kernel_rfl) ?_
        repeat (go_big_quiet_step ((go_at_call 17; exact quiet_gr (HB.out _ _ _ (HK.out.below (GrT.h _)).ev HWj.out HWp.out))))
        refine wpQuiet_nil ?_
        rintro w1 hw'
        have g1 := gr_elim hw'
        clear q1 q2 hw'
        go_wp2_with fail
        go_roundw
        case rel => exact ⟨i, H, rfl, rfl, (show Fnu (kp L) a m i H d (ka (kp L) d m) from HF.out.less HSa.out h4 h5 (HKA.out.2 hv)), (show Rw L qv w1 b d from HK.out.below g1), btr' hbel (g1.mono (Nat.le_of_lt HK.out.lt))⟩
        case measure => simp [intOf]; omega
      · have HVN : Hid (¬ cmV L X Y < 0) := hv
        have hvb : decide (cmV L X Y < 0) = false := decide_eq_false hv
        clear hv
        go_wp2_with fail
        refine wp_region_grow (by kernel_rfl) (by kernel_rfl) ?_
        repeat (go_big_quiet_step ((go_at_call 17; exact quiet_gr (HB.out _ _ _ (HK.out.below (GrT.h _)).ev HWj.out HWp.out))))
        refine wpQuiet_nil ?_
        rintro w1 hw'
        have g1 := gr_elim hw'
        clear q1 q2 hw'
        go_wp2_with fail
        go_roundw
        case rel => exact ⟨H + 1, j, by go_num, rfl, (show Fnu (kp L) a m (H + 1) j d (ka (kp L) d m) from HF.out.not HSa.out h4 h5 (fun x => by have h6 := HVN.out; have h7 := HKA.out.1 x; omega)), (show Rw L qv w1 b d from HK.out.below g1), btr' hbel (g1.mono (Nat.le_of_lt HK.out.lt))⟩
        case measure => simp [intOf]; omega
    · have hij : i = j := by omega
      subst hij
      have HM0 : Hid (MvL (kp L) a m m d d) := (show MvL (kp L) a m m d d from MvL.start a m d)
      go_wp2_with fail
      go_loopw [17] (fun vk wr => ∃ (k : Nat) (dk : List A), vk = .int .i64 k ∧ i ≤ k ∧ k ≤ m ∧ Hid (MvL (kp L) a m k d dk) ∧ Hid (Rw L qv wr b dk) ∧ Below b w wr) (fun vk _ => (intOf vk).toNat)
      case atStart => exact ⟨m, d, rfl, f3, Nat.le_refl _, HM0, HK, hbel⟩
      case round =>
        clear HK hbel HM0
        obtain ⟨k, dk, rfl, hik, hkm, HV, HK, hbel⟩ := hrel
        have hlen : dk.length = d.length := HV.out.rel.len
        by_cases hkl : i < k
        · obtain ⟨P, hP⟩ : ∃ P, k = P + 1 := ⟨k - 1, by omega⟩
          have c1 := HK.out.cells k (by omega)
          have c2 := HK.out.cells P (by omega)
          have hfz := HK.out.mark
          have HNX : Hid (Rw L qv (put1 (put1 wr b k (at' dk P)) b P (at' dk k)) b (swp dk k P)) := (show Rw L qv _ b _ from HK.out.swap (by omega) (by omega) (by omega))
          have eP : (k : Int) - 1 = (P : Int) := by omega
          have HP : Hid (k = P + 1) := hP
          have lk : k < d.length := by omega
          have lP : P < d.length := by omega
          have hPk : P < k := by omega
          have hiP : i ≤ P := by omega
          clear hP
          generalize at' dk k = X at *
          generalize at' dk P = Y at *
          go_wp2_with fail
          go_big_region
          have hb2 : Below b w (put1 (put1 wr b k Y) b P X).drew := (put1_below X (put1_below Y hbel (Nat.le_refl _)) (Nat.le_refl _)).drew
          have HN2 : Hid (Rw L qv (put1 (put1 wr b k Y) b P X).drew b (swp dk k P)) := (show Rw L qv _ b _ from HNX.out.drewN 1)
          clear c1 c2 hfz HNX HK hbel
          generalize (put1 (put1 wr b k Y) b P X).drew = w2 at *
          go_wp2_with fail
          go_roundw
          case rel =>
            have hp := HP.out
            subst hp
            exact ⟨P, swp dk (P + 1) P, by first | rfl | go_num, hiP, by omega, (show MvL (kp L) a m P d _ from HV.out.step (by omega) hkm (by omega) (HF.out.up _ hiP (by omega))), HN2, hb2⟩
          case measure => simp [intOf]; omega
        · have hkI' : k = i := by omega
          subst hkI'
          go_wp2_with fail
          (try simp only [Exit.inBlock, Exit.then]); refine bodyPost_ret (results_none rfl _ _ _) rfl ?_
          have hm := HM.out
          subst hm
          exact ⟨rfl, dk, HV.out.rel, HV.out.done f1 f3 HSa.out HF.out.lo HF.out.up, HK.out, hbel⟩
end Go.Proofs.Ytfkkciepbmijaab

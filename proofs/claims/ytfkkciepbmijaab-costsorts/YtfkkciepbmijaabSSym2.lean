/-
  What symMergeCmpFunc leaves, as a contract.
-/
import Derived.Test.YtfkkciepbmijaabSSym1
namespace Go.Proofs.Ytfkkciepbmijaab
open Go.ChangeShapes Go.WideShapes Go.ChangeAt Go.RowKit
variable {L : List Nat} {qv : Nat}

theorem rot_none (i m e : Nat) (d : List A) (h1 : i ≤ m) (h2 : m ≤ e) (h : i = m ∨ m = e) : rot i m e d = d := by
  have := rot_parts i m e d h1 h2
  unfold rot
  rcases h with rfl | rfl
  · have e1 : (d.take i).drop i = [] := List.drop_of_length_le (by rw [List.length_take]; omega)
    rw [e1, List.nil_append] at this ⊢
    exact this.symm
  · have e1 : (d.take m).drop m = [] := List.drop_of_length_le (by rw [List.length_take]; omega)
    rw [e1, List.nil_append] at this ⊢
    exact this.symm
/-- The contract for parts of fewer actions. -/
abbrev SymC (L : List Nat) (qv : Nat) (b : Nat) (len cap : Nat) (n : Nat) : Prop := ∀ (a m c : Nat) (d : List A) (w : World), c - a < n → Rw L qv w b d → AWs L d → d.length = len → a < m → m < c → c ≤ len → Srt (kp L) a m d → Srt (kp L) m c d →
    Calls Try.prog 24 #[.slice (some ⟨b, 0, none⟩) len cap, .int .i64 a, .int .i64 m, .int .i64 c, (fvP qv)] w fun e w' => e = .returned (.tuple #[]) ∧ ∃ d', Rel (kp L) a c d d' ∧ Srt (kp L) a c d' ∧ Rw L qv w' b d' ∧ Below b w w'
set_option maxHeartbeats 16000000 in
set_option maxRecDepth 20000 in
theorem sym_up (b a m c mid : Nat) (d : List A) (cap : Nat) (w : World) (hr : Rw L qv w b d) (hW : AWs L d) (hd : d.length ≤ 35184372088832) (h1 : a + 1 < m) (h2 : m + 1 < c) (h3 : c ≤ d.length) (sa : Srt (kp L) a m d) (sb : Srt (kp L) m c d) (hmid : mid = (a + c) / 2) (hcond : mid < m) (rec : SymC L qv b d.length cap (c - a)) :
    Calls Try.prog 24 #[.slice (some ⟨b, 0, none⟩) d.length cap, .int .i64 a, .int .i64 m, .int .i64 c, (fvP qv)] w fun e w' => e = .returned (.tuple #[]) ∧ ∃ d', Rel (kp L) a c d d' ∧ Srt (kp L) a c d' ∧ Rw L qv w' b d' ∧ Below b w w' := by
  have HR : Hid (Rw L qv w b d) := hr
  have HB : Hid (∀ x y w', Ev L qv b w' → AW L x → AW L y → Calls Try.prog 17 #[.int .i64 x, .int .i64 y, .pointer (some ⟨qv, 0, none⟩)] w' fun e w'' => e = .returned (.int .i64 (cmV L x y)) ∧ Below w'.heap.size w' w'') := (show ∀ x y w', _ from fun x y w' hE hx hy => order1_any L qv b x y w' hE hx hy)
  have HWs : Hid (AWs L d) := hW
  have HSa : Hid (Srt (kp L) a m d) := sa
  have HSb : Hid (Srt (kp L) m c d) := sb
  have HG : Hid (Rng a m c mid (mid + m - c) (mid)) := (show Rng a m c mid (mid + m - c) (mid) from rng_left h1 h2 hmid hcond)
  have HREC : Hid (SymC L qv b d.length cap (c - a)) := rec
  have HROT : Hid (∀ (s e : Nat) w, Rw L qv w b d → s < m → m < e → e ≤ d.length → Calls Try.prog 25 #[.slice (some ⟨b, 0, none⟩) d.length cap, .int .i64 s, .int .i64 m, .int .i64 e, (fvP qv)] w fun x w' => x = .returned (.tuple #[]) ∧ Rw L qv w' b (rot s m e d) ∧ Below b w w') := (show ∀ _, _ from fun s e w hr x1 x2 x3 => rotate_any b s m e d cap (fvP qv) w hr hd x1 x2 x3)
  have hm1 : a < mid := by omega
  have hm2 : mid < c := by omega
  have hma : ((m : Int) - (a : Int) == 1) = false := by simp; omega
  have hcm : ((c : Int) - (m : Int) == 1) = false := by simp; omega
  have hmc : (m : Int) < (c : Int) := by omega
  have ham : (a : Int) < (m : Int) := by omega
  have hh0 := half a c
  rw [← hmid] at hh0
  have HMID : Hid (mid = (a + c) / 2) := hmid
  obtain ⟨n, hn⟩ : ∃ n, mid + m = n := ⟨_, rfl⟩
  have hn' : (mid : Int) + (m : Int) = (n : Int) := by omega
  have HN : Hid (mid + m = n) := hn
  clear hr hW sa sb rec hmid
  go_enter Try.func24, Try.ntmps24
  go_wp2_with fail
  go_loopw [20, 21] (fun vi vj wr => ∃ (i j : Nat), vi = .int .i64 i ∧ vj = .int .i64 j ∧ Hid (Sym (kp L) a m c mid (mid + m - c) (mid) i j d) ∧ Hid (Rw L qv wr b d) ∧ Below b w wr) (fun vi vj _ => (intOf vj).toNat - (intOf vi).toNat)
  case atStart => exact ⟨mid + m - c, mid, by first | rfl | go_num | (congr 1; omega), rfl, (show Sym (kp L) a m c mid (mid + m - c) (mid) (mid + m - c) (mid) d from ⟨Nat.le_refl _, HG.out.r4, Nat.le_refl _, fun t t1 t2 => by omega, fun t t1 t2 => by omega⟩), HR, Below.refl _ _⟩
  case round =>
    clear HR
    obtain ⟨i, j, rfl, rfl, HF, HK, hbel⟩ := hrel
    obtain ⟨f1, f2, f3, _, _⟩ := HF.out
    have g1 := HG.out.r1
    have g2 := HG.out.r2
    have g7 := HG.out.r7
    have g8 := HG.out.r8
    by_cases hlt : i < j
    · have hh := half i j
      have h4 : i ≤ (i + j) / 2 := by omega
      have h5 : (i + j) / 2 < j := by omega
      generalize (i + j) / 2 = H at *
      have g3 := HG.out.r3 H (by omega) (by omega)
      obtain ⟨J, hJ⟩ : ∃ J, mid + m - 1 - H = J := ⟨_, rfl⟩
      rw [hJ] at g3
      have eJ : (n : Int) - 1 - (H : Int) = (J : Int) := by omega
      have HJ : Hid (mid + m - 1 - H = J) := hJ
      clear hJ
      have hawj := at_aw HWs.out (show J < d.length by omega)
      have hawp := at_aw HWs.out (show H < d.length by omega)
      have HWj : Hid (AW L _) := hawj
      have HWp : Hid (AW L _) := hawp
      have hbp := bpV_lt hawj hawp
      have q1 := C1.grR HK.out (show J < d.length by omega)
      have q2 := C1.grR HK.out (show H < d.length by omega)
      have l1 : J < d.length := by omega
      have l2 : H < d.length := by omega
      have HKA : Hid (ka (kp L) d J < ka (kp L) d H ↔ cmV L (at' d J) (at' d H) < 0) := (show ka (kp L) d J < ka (kp L) d H ↔ cmV L (at' d J) (at' d H) < 0 from hbp.symm)
      clear hbp hawj hawp
      generalize at' d J = X at *
      generalize at' d H = Y at *
      by_cases hv : cmV L X Y < 0
      · have hvb : decide (cmV L X Y < 0) = true := decide_eq_true hv
        go_wp2_with fail
        refine wp_region_grow (by kernel_rfl) (by kernel_rfl) ?_
        repeat (go_big_quiet_step ((go_at_call 17; exact quiet_gr (HB.out _ _ _ (HK.out.below (GrT.h _)).ev HWj.out HWp.out))))
        refine wpQuiet_nil ?_
        rintro w1 hw'
        have g1 := gr_elim hw'
        clear q1 q2 hw'
        go_wp2_with fail
        go_roundw
        case rel => exact ⟨i, H, rfl, rfl, (show Sym (kp L) a m c mid (mid + m - c) (mid) i H d from HF.out.less HG.out HSa.out HSb.out h4 h5 (by rw [HJ.out]; exact HKA.out.2 hv)), (show Rw L qv w1 b d from HK.out.below g1), btr' hbel (g1.mono (Nat.le_of_lt HK.out.lt))⟩
        case measure => simp [intOf]; omega
      · have HVN : Hid (¬ cmV L X Y < 0) := hv
        have hvb : decide (cmV L X Y < 0) = false := decide_eq_false hv
        clear hv
        go_wp2_with fail
        refine wp_region_grow (by kernel_rfl) (by kernel_rfl) ?_
        repeat (go_big_quiet_step ((go_at_call 17; exact quiet_gr (HB.out _ _ _ (HK.out.below (GrT.h _)).ev HWj.out HWp.out))))
        refine wpQuiet_nil ?_
        rintro w1 hw'
        have g1 := gr_elim hw'
        clear q1 q2 hw'
        go_wp2_with fail
        go_roundw
        case rel => exact ⟨H + 1, j, by go_num, rfl, (show Sym (kp L) a m c mid (mid + m - c) (mid) (H + 1) j d from HF.out.not HG.out HSa.out HSb.out h4 h5 (by rw [HJ.out]; exact fun x => by have h6 := HVN.out; have h7 := HKA.out.1 x; omega)), (show Rw L qv w1 b d from HK.out.below g1), btr' hbel (g1.mono (Nat.le_of_lt HK.out.lt))⟩
        case measure => simp [intOf]; omega
    · have hij : i = j := by omega
      subst hij
      obtain ⟨t1, t2, t3, t4, t5, HT0⟩ := HF.out.found HG.out HSa.out HSb.out h3
      rw [HN.out] at t3 t4 HT0
      obtain ⟨E, hE⟩ : ∃ E, n - i = E := ⟨_, rfl⟩
      rw [hE] at t3 t4 HT0
      have eE : (n : Int) - (i : Int) = (E : Int) := by omega
      have hE2 : E + i = mid + m := by omega
      have HT : Hid (Turned (kp L) a i m mid E c d (rot i m E d)) := HT0
      clear HT0 hE
      have hmE : mid ≤ E := by omega
      clear HF HG f1 f3 g1 g2 g7 g8
      by_cases c1 : i < m
      · by_cases c2 : m < E
        · have z1 : (i : Int) < (m : Int) := by omega
          have z2 : (m : Int) < (E : Int) := by omega
          go_wp2_with fail
          refine (HROT.out _ _ _ HK.out c1 c2 (by omega)).mono ?_
          rintro r w1 ⟨rfl, x1, x2⟩
          have HK1 : Hid (Rw L qv w1 b (rot i m E d)) := x1
          have hbel1 : Below b w w1 := btr' hbel x2
          clear x1 x2 hbel
          obtain ⟨d1, hd1⟩ : ∃ d1, rot i m E d = d1 := ⟨_, rfl⟩
          rw [hd1] at HK1 HT
          have HT1 : Hid (Turned (kp L) a i m mid E c d d1) := HT
          clear hd1 HROT HT HK
          have hl1 : Hid (d1.length = d.length) := (show d1.length = d.length from HT1.out.rel.len)
          by_cases c5 : a < i
          · by_cases c6 : i < mid
            · have z5 : (a : Int) < (i : Int) := by omega
              have z6 : (i : Int) < (mid : Int) := by omega
              go_wp2_with fail
              refine (HREC.out a i mid d1 w1 (by omega) HK1.out (HT1.out.rel.cl.aws HWs.out) hl1.out c5 c6 (by omega) HT1.out.s1 HT1.out.s2).mono ?_
              rintro r w2 ⟨rfl, d2, x1, x2, x3, x4⟩
              have HR12 : Hid (Rel (kp L) a mid d1 d2) := x1
              have HS2 : Hid (Srt (kp L) a mid d2) := x2
              have HK2 : Hid (Rw L qv w2 b d2) := x3
              have hbel2 : Below b w w2 := btr' hbel1 x4
              clear x1 x2 x3 x4 HK1 hbel1
              have HS21 : Hid (Srt (kp L) mid E d2) := (show Srt (kp L) mid E d2 from fun p q y1 y2 y3 => by rw [HR12.out.ka p (by omega), HR12.out.ka q (by omega)]; exact HT1.out.s3 p q y1 y2 y3)
              have HS22 : Hid (Srt (kp L) E c d2) := (show Srt (kp L) E c d2 from fun p q y1 y2 y3 => by rw [HR12.out.ka p (by omega), HR12.out.ka q (by omega)]; exact HT1.out.s4 p q y1 y2 y3)
              have HL2 : Hid (d2.length = d.length) := (show d2.length = d.length by rw [HR12.out.len, HT1.out.rel.len])
              by_cases c3 : mid < E
              · by_cases c4 : E < c
                · have z3 : (mid : Int) < (E : Int) := by omega
                  have z4 : (E : Int) < (c : Int) := by omega
                  go_wp2_with fail
                  refine (HREC.out mid E c d2 w2 (by omega) HK2.out (HR12.out.cl.aws (HT1.out.rel.cl.aws HWs.out)) HL2.out c3 c4 h3 HS21.out HS22.out).mono ?_
                  rintro r w3 ⟨rfl, d3, x1, x2, x3, x4⟩
                  have HR23 : Hid (Rel (kp L) mid c d2 d3) := x1
                  have HS3 : Hid (Srt (kp L) mid c d3) := x2
                  have HK3 : Hid (Rw L qv w3 b d3) := x3
                  have hbel3 : Below b w w3 := btr' hbel2 x4
                  go_wp2_with fail
                  go_end0
                  obtain ⟨z1, z2⟩ := sym_done (Nat.le_of_lt hm1) (Nat.le_of_lt hm2) (by rw [HT1.out.rel.len]; exact h3) HR12.out HR23.out HS2.out HS3.out HT1.out.cross
                  exact ⟨rfl, d3, HT1.out.rel.trans z1, z2, HK3.out, hbel3⟩
                · have z3 : (mid : Int) < (E : Int) := by omega
                  have z4 : ¬ (E : Int) < (c : Int) := by omega
                  have HS3 : Hid (Srt (kp L) mid c d2) := (show Srt (kp L) mid c d2 from fun p q y1 y2 y3 => HS21.out p q y1 y2 (by omega))
                  obtain ⟨d3, hd3⟩ : ∃ d3, d3 = d2 := ⟨_, rfl⟩
                  rw [← hd3] at HK2 HS3
                  have HR23 : Hid (Rel (kp L) mid c d2 d3) := (show Rel (kp L) mid c d2 d3 by rw [hd3]; exact Rel.refl _ _ _)
                  have HK3 : Hid (Rw L qv w2 b d3) := HK2
                  have hbel3 := hbel2
                  clear hd3
                  go_wp2_with fail
                  go_end0
                  obtain ⟨z1, z2⟩ := sym_done (Nat.le_of_lt hm1) (Nat.le_of_lt hm2) (by rw [HT1.out.rel.len]; exact h3) HR12.out HR23.out HS2.out HS3.out HT1.out.cross
                  exact ⟨rfl, d3, HT1.out.rel.trans z1, z2, HK3.out, hbel3⟩
              · have z3 : ¬ (mid : Int) < (E : Int) := by omega
                have HS3 : Hid (Srt (kp L) mid c d2) := (show Srt (kp L) mid c d2 from fun p q y1 y2 y3 => HS22.out p q (by omega) y2 y3)
                obtain ⟨d3, hd3⟩ : ∃ d3, d3 = d2 := ⟨_, rfl⟩
                rw [← hd3] at HK2 HS3
                have HR23 : Hid (Rel (kp L) mid c d2 d3) := (show Rel (kp L) mid c d2 d3 by rw [hd3]; exact Rel.refl _ _ _)
                have HK3 : Hid (Rw L qv w2 b d3) := HK2
                have hbel3 := hbel2
                clear hd3
                go_wp2_with fail
                go_end0
                obtain ⟨z1, z2⟩ := sym_done (Nat.le_of_lt hm1) (Nat.le_of_lt hm2) (by rw [HT1.out.rel.len]; exact h3) HR12.out HR23.out HS2.out HS3.out HT1.out.cross
                exact ⟨rfl, d3, HT1.out.rel.trans z1, z2, HK3.out, hbel3⟩
            · have z5 : (a : Int) < (i : Int) := by omega
              have z6 : ¬ (i : Int) < (mid : Int) := by omega
              obtain ⟨d2, hd2⟩ : ∃ d2, d2 = d1 := ⟨_, rfl⟩
              have HR12 : Hid (Rel (kp L) a mid d1 d2) := (show Rel (kp L) a mid d1 d2 by rw [hd2]; exact Rel.refl _ _ _)
              have HS2 : Hid (Srt (kp L) a mid d2) := (show Srt (kp L) a mid d2 from fun p q y1 y2 y3 => by rw [hd2]; exact HT1.out.s1 p q y1 y2 (by omega))
              have HK2 : Hid (Rw L qv w1 b d2) := (show Rw L qv w1 b d2 by rw [hd2]; exact HK1.out)
              have hbel2 := hbel1
              clear hd2 HK1 hbel1
              have HS21 : Hid (Srt (kp L) mid E d2) := (show Srt (kp L) mid E d2 from fun p q y1 y2 y3 => by rw [HR12.out.ka p (by omega), HR12.out.ka q (by omega)]; exact HT1.out.s3 p q y1 y2 y3)
              have HS22 : Hid (Srt (kp L) E c d2) := (show Srt (kp L) E c d2 from fun p q y1 y2 y3 => by rw [HR12.out.ka p (by omega), HR12.out.ka q (by omega)]; exact HT1.out.s4 p q y1 y2 y3)
              have HL2 : Hid (d2.length = d.length) := (show d2.length = d.length by rw [HR12.out.len, HT1.out.rel.len])
              by_cases c3 : mid < E
              · by_cases c4 : E < c
                · have z3 : (mid : Int) < (E : Int) := by omega
                  have z4 : (E : Int) < (c : Int) := by omega
                  go_wp2_with fail
                  refine (HREC.out mid E c d2 w1 (by omega) HK2.out (HR12.out.cl.aws (HT1.out.rel.cl.aws HWs.out)) HL2.out c3 c4 h3 HS21.out HS22.out).mono ?_
                  rintro r w3 ⟨rfl, d3, x1, x2, x3, x4⟩
                  have HR23 : Hid (Rel (kp L) mid c d2 d3) := x1
                  have HS3 : Hid (Srt (kp L) mid c d3) := x2
                  have HK3 : Hid (Rw L qv w3 b d3) := x3
                  have hbel3 : Below b w w3 := btr' hbel2 x4
                  go_wp2_with fail
                  go_end0
                  obtain ⟨z1, z2⟩ := sym_done (Nat.le_of_lt hm1) (Nat.le_of_lt hm2) (by rw [HT1.out.rel.len]; exact h3) HR12.out HR23.out HS2.out HS3.out HT1.out.cross
                  exact ⟨rfl, d3, HT1.out.rel.trans z1, z2, HK3.out, hbel3⟩
                · have z3 : (mid : Int) < (E : Int) := by omega
                  have z4 : ¬ (E : Int) < (c : Int) := by omega
                  have HS3 : Hid (Srt (kp L) mid c d2) := (show Srt (kp L) mid c d2 from fun p q y1 y2 y3 => HS21.out p q y1 y2 (by omega))
                  obtain ⟨d3, hd3⟩ : ∃ d3, d3 = d2 := ⟨_, rfl⟩
                  rw [← hd3] at HK2 HS3
                  have HR23 : Hid (Rel (kp L) mid c d2 d3) := (show Rel (kp L) mid c d2 d3 by rw [hd3]; exact Rel.refl _ _ _)
                  have HK3 : Hid (Rw L qv w1 b d3) := HK2
                  have hbel3 := hbel2
                  clear hd3
                  go_wp2_with fail
                  go_end0
                  obtain ⟨z1, z2⟩ := sym_done (Nat.le_of_lt hm1) (Nat.le_of_lt hm2) (by rw [HT1.out.rel.len]; exact h3) HR12.out HR23.out HS2.out HS3.out HT1.out.cross
                  exact ⟨rfl, d3, HT1.out.rel.trans z1, z2, HK3.out, hbel3⟩
              · have z3 : ¬ (mid : Int) < (E : Int) := by omega
                have HS3 : Hid (Srt (kp L) mid c d2) := (show Srt (kp L) mid c d2 from fun p q y1 y2 y3 => HS22.out p q (by omega) y2 y3)
                obtain ⟨d3, hd3⟩ : ∃ d3, d3 = d2 := ⟨_, rfl⟩
                rw [← hd3] at HK2 HS3
                have HR23 : Hid (Rel (kp L) mid c d2 d3) := (show Rel (kp L) mid c d2 d3 by rw [hd3]; exact Rel.refl _ _ _)
                have HK3 : Hid (Rw L qv w1 b d3) := HK2
                have hbel3 := hbel2
                clear hd3
                go_wp2_with fail
                go_end0
                obtain ⟨z1, z2⟩ := sym_done (Nat.le_of_lt hm1) (Nat.le_of_lt hm2) (by rw [HT1.out.rel.len]; exact h3) HR12.out HR23.out HS2.out HS3.out HT1.out.cross
                exact ⟨rfl, d3, HT1.out.rel.trans z1, z2, HK3.out, hbel3⟩
          · have z5 : ¬ (a : Int) < (i : Int) := by omega
            obtain ⟨d2, hd2⟩ : ∃ d2, d2 = d1 := ⟨_, rfl⟩
            have HR12 : Hid (Rel (kp L) a mid d1 d2) := (show Rel (kp L) a mid d1 d2 by rw [hd2]; exact Rel.refl _ _ _)
            have HS2 : Hid (Srt (kp L) a mid d2) := (show Srt (kp L) a mid d2 from fun p q y1 y2 y3 => by rw [hd2]; exact HT1.out.s2 p q (by omega) y2 y3)
            have HK2 : Hid (Rw L qv w1 b d2) := (show Rw L qv w1 b d2 by rw [hd2]; exact HK1.out)
            have hbel2 := hbel1
            clear hd2 HK1 hbel1
            have HS21 : Hid (Srt (kp L) mid E d2) := (show Srt (kp L) mid E d2 from fun p q y1 y2 y3 => by rw [HR12.out.ka p (by omega), HR12.out.ka q (by omega)]; exact HT1.out.s3 p q y1 y2 y3)
            have HS22 : Hid (Srt (kp L) E c d2) := (show Srt (kp L) E c d2 from fun p q y1 y2 y3 => by rw [HR12.out.ka p (by omega), HR12.out.ka q (by omega)]; exact HT1.out.s4 p q y1 y2 y3)
            have HL2 : Hid (d2.length = d.length) := (show d2.length = d.length by rw [HR12.out.len, HT1.out.rel.len])
            by_cases c3 : mid < E
            · by_cases c4 : E < c
              · have z3 : (mid : Int) < (E : Int) := by omega
                have z4 : (E : Int) < (c : Int) := by omega
                go_wp2_with fail
                refine (HREC.out mid E c d2 w1 (by omega) HK2.out (HR12.out.cl.aws (HT1.out.rel.cl.aws HWs.out)) HL2.out c3 c4 h3 HS21.out HS22.out).mono ?_
                rintro r w3 ⟨rfl, d3, x1, x2, x3, x4⟩
                have HR23 : Hid (Rel (kp L) mid c d2 d3) := x1
                have HS3 : Hid (Srt (kp L) mid c d3) := x2
                have HK3 : Hid (Rw L qv w3 b d3) := x3
                have hbel3 : Below b w w3 := btr' hbel2 x4
                go_wp2_with fail
                go_end0
                obtain ⟨z1, z2⟩ := sym_done (Nat.le_of_lt hm1) (Nat.le_of_lt hm2) (by rw [HT1.out.rel.len]; exact h3) HR12.out HR23.out HS2.out HS3.out HT1.out.cross
                exact ⟨rfl, d3, HT1.out.rel.trans z1, z2, HK3.out, hbel3⟩
              · have z3 : (mid : Int) < (E : Int) := by omega
                have z4 : ¬ (E : Int) < (c : Int) := by omega
                have HS3 : Hid (Srt (kp L) mid c d2) := (show Srt (kp L) mid c d2 from fun p q y1 y2 y3 => HS21.out p q y1 y2 (by omega))
                obtain ⟨d3, hd3⟩ : ∃ d3, d3 = d2 := ⟨_, rfl⟩
                rw [← hd3] at HK2 HS3
                have HR23 : Hid (Rel (kp L) mid c d2 d3) := (show Rel (kp L) mid c d2 d3 by rw [hd3]; exact Rel.refl _ _ _)
                have HK3 : Hid (Rw L qv w1 b d3) := HK2
                have hbel3 := hbel2
                clear hd3
                go_wp2_with fail
                go_end0
                obtain ⟨z1, z2⟩ := sym_done (Nat.le_of_lt hm1) (Nat.le_of_lt hm2) (by rw [HT1.out.rel.len]; exact h3) HR12.out HR23.out HS2.out HS3.out HT1.out.cross
                exact ⟨rfl, d3, HT1.out.rel.trans z1, z2, HK3.out, hbel3⟩
            · have z3 : ¬ (mid : Int) < (E : Int) := by omega
              have HS3 : Hid (Srt (kp L) mid c d2) := (show Srt (kp L) mid c d2 from fun p q y1 y2 y3 => HS22.out p q (by omega) y2 y3)
              obtain ⟨d3, hd3⟩ : ∃ d3, d3 = d2 := ⟨_, rfl⟩
              rw [← hd3] at HK2 HS3
              have HR23 : Hid (Rel (kp L) mid c d2 d3) := (show Rel (kp L) mid c d2 d3 by rw [hd3]; exact Rel.refl _ _ _)
              have HK3 : Hid (Rw L qv w1 b d3) := HK2
              have hbel3 := hbel2
              clear hd3
              go_wp2_with fail
              go_end0
              obtain ⟨z1, z2⟩ := sym_done (Nat.le_of_lt hm1) (Nat.le_of_lt hm2) (by rw [HT1.out.rel.len]; exact h3) HR12.out HR23.out HS2.out HS3.out HT1.out.cross
              exact ⟨rfl, d3, HT1.out.rel.trans z1, z2, HK3.out, hbel3⟩
        · have z1 : (i : Int) < (m : Int) := by omega
          have z2 : ¬ (m : Int) < (E : Int) := by omega
          have HK1 : Hid (Rw L qv wr b (rot i m E d)) := (show Rw L qv wr b (rot i m E d) by rw [rot_none i m E d (by omega) (by omega) (by omega)]; exact HK.out)
          have hbel1 := hbel
          clear hbel
          obtain ⟨d1, hd1⟩ : ∃ d1, rot i m E d = d1 := ⟨_, rfl⟩
          rw [hd1] at HK1 HT
          have HT1 : Hid (Turned (kp L) a i m mid E c d d1) := HT
          clear hd1 HROT HT HK
          have hl1 : Hid (d1.length = d.length) := (show d1.length = d.length from HT1.out.rel.len)
          by_cases c5 : a < i
          · by_cases c6 : i < mid
            · have z5 : (a : Int) < (i : Int) := by omega
              have z6 : (i : Int) < (mid : Int) := by omega
              go_wp2_with fail
              refine (HREC.out a i mid d1 wr (by omega) HK1.out (HT1.out.rel.cl.aws HWs.out) hl1.out c5 c6 (by omega) HT1.out.s1 HT1.out.s2).mono ?_
              rintro r w2 ⟨rfl, d2, x1, x2, x3, x4⟩
              have HR12 : Hid (Rel (kp L) a mid d1 d2) := x1
              have HS2 : Hid (Srt (kp L) a mid d2) := x2
              have HK2 : Hid (Rw L qv w2 b d2) := x3
              have hbel2 : Below b w w2 := btr' hbel1 x4
              clear x1 x2 x3 x4 HK1 hbel1
              have HS21 : Hid (Srt (kp L) mid E d2) := (show Srt (kp L) mid E d2 from fun p q y1 y2 y3 => by rw [HR12.out.ka p (by omega), HR12.out.ka q (by omega)]; exact HT1.out.s3 p q y1 y2 y3)
              have HS22 : Hid (Srt (kp L) E c d2) := (show Srt (kp L) E c d2 from fun p q y1 y2 y3 => by rw [HR12.out.ka p (by omega), HR12.out.ka q (by omega)]; exact HT1.out.s4 p q y1 y2 y3)
              have HL2 : Hid (d2.length = d.length) := (show d2.length = d.length by rw [HR12.out.len, HT1.out.rel.len])
              by_cases c3 : mid < E
              · by_cases c4 : E < c
                · have z3 : (mid : Int) < (E : Int) := by omega
                  have z4 : (E : Int) < (c : Int) := by omega
                  go_wp2_with fail
                  refine (HREC.out mid E c d2 w2 (by omega) HK2.out (HR12.out.cl.aws (HT1.out.rel.cl.aws HWs.out)) HL2.out c3 c4 h3 HS21.out HS22.out).mono ?_
                  rintro r w3 ⟨rfl, d3, x1, x2, x3, x4⟩
                  have HR23 : Hid (Rel (kp L) mid c d2 d3) := x1
                  have HS3 : Hid (Srt (kp L) mid c d3) := x2
                  have HK3 : Hid (Rw L qv w3 b d3) := x3
                  have hbel3 : Below b w w3 := btr' hbel2 x4
                  go_wp2_with fail
                  go_end0
                  obtain ⟨z1, z2⟩ := sym_done (Nat.le_of_lt hm1) (Nat.le_of_lt hm2) (by rw [HT1.out.rel.len]; exact h3) HR12.out HR23.out HS2.out HS3.out HT1.out.cross
                  exact ⟨rfl, d3, HT1.out.rel.trans z1, z2, HK3.out, hbel3⟩
                · have z3 : (mid : Int) < (E : Int) := by omega
                  have z4 : ¬ (E : Int) < (c : Int) := by omega
                  have HS3 : Hid (Srt (kp L) mid c d2) := (show Srt (kp L) mid c d2 from fun p q y1 y2 y3 => HS21.out p q y1 y2 (by omega))
                  obtain ⟨d3, hd3⟩ : ∃ d3, d3 = d2 := ⟨_, rfl⟩
                  rw [← hd3] at HK2 HS3
                  have HR23 : Hid (Rel (kp L) mid c d2 d3) := (show Rel (kp L) mid c d2 d3 by rw [hd3]; exact Rel.refl _ _ _)
                  have HK3 : Hid (Rw L qv w2 b d3) := HK2
                  have hbel3 := hbel2
                  clear hd3
                  go_wp2_with fail
                  go_end0
                  obtain ⟨z1, z2⟩ := sym_done (Nat.le_of_lt hm1) (Nat.le_of_lt hm2) (by rw [HT1.out.rel.len]; exact h3) HR12.out HR23.out HS2.out HS3.out HT1.out.cross
                  exact ⟨rfl, d3, HT1.out.rel.trans z1, z2, HK3.out, hbel3⟩
              · have z3 : ¬ (mid : Int) < (E : Int) := by omega
                have HS3 : Hid (Srt (kp L) mid c d2) := (show Srt (kp L) mid c d2 from fun p q y1 y2 y3 => HS22.out p q (by omega) y2 y3)
                obtain ⟨d3, hd3⟩ : ∃ d3, d3 = d2 := ⟨_, rfl⟩
                rw [← hd3] at HK2 HS3
                have HR23 : Hid (Rel (kp L) mid c d2 d3) := (show Rel (kp L) mid c d2 d3 by rw [hd3]; exact Rel.refl _ _ _)
                have HK3 : Hid (Rw L qv w2 b d3) := HK2
                have hbel3 := hbel2
                clear hd3
                go_wp2_with fail
                go_end0
                obtain ⟨z1, z2⟩ := sym_done (Nat.le_of_lt hm1) (Nat.le_of_lt hm2) (by rw [HT1.out.rel.len]; exact h3) HR12.out HR23.out HS2.out HS3.out HT1.out.cross
                exact ⟨rfl, d3, HT1.out.rel.trans z1, z2, HK3.out, hbel3⟩
            · have z5 : (a : Int) < (i : Int) := by omega
              have z6 : ¬ (i : Int) < (mid : Int) := by omega
              obtain ⟨d2, hd2⟩ : ∃ d2, d2 = d1 := ⟨_, rfl⟩
              have HR12 : Hid (Rel (kp L) a mid d1 d2) := (show Rel (kp L) a mid d1 d2 by rw [hd2]; exact Rel.refl _ _ _)
              have HS2 : Hid (Srt (kp L) a mid d2) := (show Srt (kp L) a mid d2 from fun p q y1 y2 y3 => by rw [hd2]; exact HT1.out.s1 p q y1 y2 (by omega))
              have HK2 : Hid (Rw L qv wr b d2) := (show Rw L qv wr b d2 by rw [hd2]; exact HK1.out)
              have hbel2 := hbel1
              clear hd2 HK1 hbel1
              have HS21 : Hid (Srt (kp L) mid E d2) := (show Srt (kp L) mid E d2 from fun p q y1 y2 y3 => by rw [HR12.out.ka p (by omega), HR12.out.ka q (by omega)]; exact HT1.out.s3 p q y1 y2 y3)
              have HS22 : Hid (Srt (kp L) E c d2) := (show Srt (kp L) E c d2 from fun p q y1 y2 y3 => by rw [HR12.out.ka p (by omega), HR12.out.ka q (by omega)]; exact HT1.out.s4 p q y1 y2 y3)
              have HL2 : Hid (d2.length = d.length) := (show d2.length = d.length by rw [HR12.out.len, HT1.out.rel.len])
              by_cases c3 : mid < E
              · by_cases c4 : E < c
                · have z3 : (mid : Int) < (E : Int) := by omega
                  have z4 : (E : Int) < (c : Int) := by omega
                  go_wp2_with fail
                  refine (HREC.out mid E c d2 wr (by omega) HK2.out (HR12.out.cl.aws (HT1.out.rel.cl.aws HWs.out)) HL2.out c3 c4 h3 HS21.out HS22.out).mono ?_
                  rintro r w3 ⟨rfl, d3, x1, x2, x3, x4⟩
                  have HR23 : Hid (Rel (kp L) mid c d2 d3) := x1
                  have HS3 : Hid (Srt (kp L) mid c d3) := x2
                  have HK3 : Hid (Rw L qv w3 b d3) := x3
                  have hbel3 : Below b w w3 := btr' hbel2 x4
                  go_wp2_with fail
                  go_end0
                  obtain ⟨z1, z2⟩ := sym_done (Nat.le_of_lt hm1) (Nat.le_of_lt hm2) (by rw [HT1.out.rel.len]; exact h3) HR12.out HR23.out HS2.out HS3.out HT1.out.cross
                  exact ⟨rfl, d3, HT1.out.rel.trans z1, z2, HK3.out, hbel3⟩
                · have z3 : (mid : Int) < (E : Int) := by omega
                  have z4 : ¬ (E : Int) < (c : Int) := by omega
                  have HS3 : Hid (Srt (kp L) mid c d2) := (show Srt (kp L) mid c d2 from fun p q y1 y2 y3 => HS21.out p q y1 y2 (by omega))
                  obtain ⟨d3, hd3⟩ : ∃ d3, d3 = d2 := ⟨_, rfl⟩
                  rw [← hd3] at HK2 HS3
                  have HR23 : Hid (Rel (kp L) mid c d2 d3) := (show Rel (kp L) mid c d2 d3 by rw [hd3]; exact Rel.refl _ _ _)
                  have HK3 : Hid (Rw L qv wr b d3) := HK2
                  have hbel3 := hbel2
                  clear hd3
                  go_wp2_with fail
                  go_end0
                  obtain ⟨z1, z2⟩ := sym_done (Nat.le_of_lt hm1) (Nat.le_of_lt hm2) (by rw [HT1.out.rel.len]; exact h3) HR12.out HR23.out HS2.out HS3.out HT1.out.cross
                  exact ⟨rfl, d3, HT1.out.rel.trans z1, z2, HK3.out, hbel3⟩
              · have z3 : ¬ (mid : Int) < (E : Int) := by omega
                have HS3 : Hid (Srt (kp L) mid c d2) := (show Srt (kp L) mid c d2 from fun p q y1 y2 y3 => HS22.out p q (by omega) y2 y3)
                obtain ⟨d3, hd3⟩ : ∃ d3, d3 = d2 := ⟨_, rfl⟩
                rw [← hd3] at HK2 HS3
                have HR23 : Hid (Rel (kp L) mid c d2 d3) := (show Rel (kp L) mid c d2 d3 by rw [hd3]; exact Rel.refl _ _ _)
                have HK3 : Hid (Rw L qv wr b d3) := HK2
                have hbel3 := hbel2
                clear hd3
                go_wp2_with fail
                go_end0
                obtain ⟨z1, z2⟩ := sym_done (Nat.le_of_lt hm1) (Nat.le_of_lt hm2) (by rw [HT1.out.rel.len]; exact h3) HR12.out HR23.out HS2.out HS3.out HT1.out.cross
                exact ⟨rfl, d3, HT1.out.rel.trans z1, z2, HK3.out, hbel3⟩
          · have z5 : ¬ (a : Int) < (i : Int) := by omega
            obtain ⟨d2, hd2⟩ : ∃ d2, d2 = d1 := ⟨_, rfl⟩
            have HR12 : Hid (Rel (kp L) a mid d1 d2) := (show Rel (kp L) a mid d1 d2 by rw [hd2]; exact Rel.refl _ _ _)
            have HS2 : Hid (Srt (kp L) a mid d2) := (show Srt (kp L) a mid d2 from fun p q y1 y2 y3 => by rw [hd2]; exact HT1.out.s2 p q (by omega) y2 y3)
            have HK2 : Hid (Rw L qv wr b d2) := (show Rw L qv wr b d2 by rw [hd2]; exact HK1.out)
            have hbel2 := hbel1
            clear hd2 HK1 hbel1
            have HS21 : Hid (Srt (kp L) mid E d2) := (show Srt (kp L) mid E d2 from fun p q y1 y2 y3 => by rw [HR12.out.ka p (by omega), HR12.out.ka q (by omega)]; exact HT1.out.s3 p q y1 y2 y3)
            have HS22 : Hid (Srt (kp L) E c d2) := (show Srt (kp L) E c d2 from fun p q y1 y2 y3 => by rw [HR12.out.ka p (by omega), HR12.out.ka q (by omega)]; exact HT1.out.s4 p q y1 y2 y3)
            have HL2 : Hid (d2.length = d.length) := (show d2.length = d.length by rw [HR12.out.len, HT1.out.rel.len])
            by_cases c3 : mid < E
            · by_cases c4 : E < c
              · have z3 : (mid : Int) < (E : Int) := by omega
                have z4 : (E : Int) < (c : Int) := by omega
                go_wp2_with fail
                refine (HREC.out mid E c d2 wr (by omega) HK2.out (HR12.out.cl.aws (HT1.out.rel.cl.aws HWs.out)) HL2.out c3 c4 h3 HS21.out HS22.out).mono ?_
                rintro r w3 ⟨rfl, d3, x1, x2, x3, x4⟩
                have HR23 : Hid (Rel (kp L) mid c d2 d3) := x1
                have HS3 : Hid (Srt (kp L) mid c d3) := x2
                have HK3 : Hid (Rw L qv w3 b d3) := x3
                have hbel3 : Below b w w3 := btr' hbel2 x4
                go_wp2_with fail
                go_end0
                obtain ⟨z1, z2⟩ := sym_done (Nat.le_of_lt hm1) (Nat.le_of_lt hm2) (by rw [HT1.out.rel.len]; exact h3) HR12.out HR23.out HS2.out HS3.out HT1.out.cross
                exact ⟨rfl, d3, HT1.out.rel.trans z1, z2, HK3.out, hbel3⟩
              · have z3 : (mid : Int) < (E : Int) := by omega
                have z4 : ¬ (E : Int) < (c : Int) := by omega
                have HS3 : Hid (Srt (kp L) mid c d2) := (show Srt (kp L) mid c d2 from fun p q y1 y2 y3 => HS21.out p q y1 y2 (by omega))
                obtain ⟨d3, hd3⟩ : ∃ d3, d3 = d2 := ⟨_, rfl⟩
                rw [← hd3] at HK2 HS3
                have HR23 : Hid (Rel (kp L) mid c d2 d3) := (show Rel (kp L) mid c d2 d3 by rw [hd3]; exact Rel.refl _ _ _)
                have HK3 : Hid (Rw L qv wr b d3) := HK2
                have hbel3 := hbel2
                clear hd3
                go_wp2_with fail
                go_end0
                obtain ⟨z1, z2⟩ := sym_done (Nat.le_of_lt hm1) (Nat.le_of_lt hm2) (by rw [HT1.out.rel.len]; exact h3) HR12.out HR23.out HS2.out HS3.out HT1.out.cross
                exact ⟨rfl, d3, HT1.out.rel.trans z1, z2, HK3.out, hbel3⟩
            · have z3 : ¬ (mid : Int) < (E : Int) := by omega
              have HS3 : Hid (Srt (kp L) mid c d2) := (show Srt (kp L) mid c d2 from fun p q y1 y2 y3 => HS22.out p q (by omega) y2 y3)
              obtain ⟨d3, hd3⟩ : ∃ d3, d3 = d2 := ⟨_, rfl⟩
              rw [← hd3] at HK2 HS3
              have HR23 : Hid (Rel (kp L) mid c d2 d3) := (show Rel (kp L) mid c d2 d3 by rw [hd3]; exact Rel.refl _ _ _)
              have HK3 : Hid (Rw L qv wr b d3) := HK2
              have hbel3 := hbel2
              clear hd3
              go_wp2_with fail
              go_end0
              obtain ⟨z1, z2⟩ := sym_done (Nat.le_of_lt hm1) (Nat.le_of_lt hm2) (by rw [HT1.out.rel.len]; exact h3) HR12.out HR23.out HS2.out HS3.out HT1.out.cross
              exact ⟨rfl, d3, HT1.out.rel.trans z1, z2, HK3.out, hbel3⟩
      · have z1 : ¬ (i : Int) < (m : Int) := by omega
        have HK1 : Hid (Rw L qv wr b (rot i m E d)) := (show Rw L qv wr b (rot i m E d) by rw [rot_none i m E d (by omega) (by omega) (by omega)]; exact HK.out)
        have hbel1 := hbel
        clear hbel
        obtain ⟨d1, hd1⟩ : ∃ d1, rot i m E d = d1 := ⟨_, rfl⟩
        rw [hd1] at HK1 HT
        have HT1 : Hid (Turned (kp L) a i m mid E c d d1) := HT
        clear hd1 HROT HT HK
        have hl1 : Hid (d1.length = d.length) := (show d1.length = d.length from HT1.out.rel.len)
        by_cases c5 : a < i
        · by_cases c6 : i < mid
          · have z5 : (a : Int) < (i : Int) := by omega
            have z6 : (i : Int) < (mid : Int) := by omega
            go_wp2_with fail
            refine (HREC.out a i mid d1 wr (by omega) HK1.out (HT1.out.rel.cl.aws HWs.out) hl1.out c5 c6 (by omega) HT1.out.s1 HT1.out.s2).mono ?_
            rintro r w2 ⟨rfl, d2, x1, x2, x3, x4⟩
            have HR12 : Hid (Rel (kp L) a mid d1 d2) := x1
            have HS2 : Hid (Srt (kp L) a mid d2) := x2
            have HK2 : Hid (Rw L qv w2 b d2) := x3
            have hbel2 : Below b w w2 := btr' hbel1 x4
            clear x1 x2 x3 x4 HK1 hbel1
            have HS21 : Hid (Srt (kp L) mid E d2) := (show Srt (kp L) mid E d2 from fun p q y1 y2 y3 => by rw [HR12.out.ka p (by omega), HR12.out.ka q (by omega)]; exact HT1.out.s3 p q y1 y2 y3)
            have HS22 : Hid (Srt (kp L) E c d2) := (show Srt (kp L) E c d2 from fun p q y1 y2 y3 => by rw [HR12.out.ka p (by omega), HR12.out.ka q (by omega)]; exact HT1.out.s4 p q y1 y2 y3)
            have HL2 : Hid (d2.length = d.length) := (show d2.length = d.length by rw [HR12.out.len, HT1.out.rel.len])
            by_cases c3 : mid < E
            · by_cases c4 : E < c
              · have z3 : (mid : Int) < (E : Int) := by omega
                have z4 : (E : Int) < (c : Int) := by omega
                go_wp2_with fail
                refine (HREC.out mid E c d2 w2 (by omega) HK2.out (HR12.out.cl.aws (HT1.out.rel.cl.aws HWs.out)) HL2.out c3 c4 h3 HS21.out HS22.out).mono ?_
                rintro r w3 ⟨rfl, d3, x1, x2, x3, x4⟩
                have HR23 : Hid (Rel (kp L) mid c d2 d3) := x1
                have HS3 : Hid (Srt (kp L) mid c d3) := x2
                have HK3 : Hid (Rw L qv w3 b d3) := x3
                have hbel3 : Below b w w3 := btr' hbel2 x4
                go_wp2_with fail
                go_end0
                obtain ⟨z1, z2⟩ := sym_done (Nat.le_of_lt hm1) (Nat.le_of_lt hm2) (by rw [HT1.out.rel.len]; exact h3) HR12.out HR23.out HS2.out HS3.out HT1.out.cross
                exact ⟨rfl, d3, HT1.out.rel.trans z1, z2, HK3.out, hbel3⟩
              · have z3 : (mid : Int) < (E : Int) := by omega
                have z4 : ¬ (E : Int) < (c : Int) := by omega
                have HS3 : Hid (Srt (kp L) mid c d2) := (show Srt (kp L) mid c d2 from fun p q y1 y2 y3 => HS21.out p q y1 y2 (by omega))
                obtain ⟨d3, hd3⟩ : ∃ d3, d3 = d2 := ⟨_, rfl⟩
                rw [← hd3] at HK2 HS3
                have HR23 : Hid (Rel (kp L) mid c d2 d3) := (show Rel (kp L) mid c d2 d3 by rw [hd3]; exact Rel.refl _ _ _)
                have HK3 : Hid (Rw L qv w2 b d3) := HK2
                have hbel3 := hbel2
                clear hd3
                go_wp2_with fail
                go_end0
                obtain ⟨z1, z2⟩ := sym_done (Nat.le_of_lt hm1) (Nat.le_of_lt hm2) (by rw [HT1.out.rel.len]; exact h3) HR12.out HR23.out HS2.out HS3.out HT1.out.cross
                exact ⟨rfl, d3, HT1.out.rel.trans z1, z2, HK3.out, hbel3⟩
            · have z3 : ¬ (mid : Int) < (E : Int) := by omega
              have HS3 : Hid (Srt (kp L) mid c d2) := (show Srt (kp L) mid c d2 from fun p q y1 y2 y3 => HS22.out p q (by omega) y2 y3)
              obtain ⟨d3, hd3⟩ : ∃ d3, d3 = d2 := ⟨_, rfl⟩
              rw [← hd3] at HK2 HS3
              have HR23 : Hid (Rel (kp L) mid c d2 d3) := (show Rel (kp L) mid c d2 d3 by rw [hd3]; exact Rel.refl _ _ _)
              have HK3 : Hid (Rw L qv w2 b d3) := HK2
              have hbel3 := hbel2
              clear hd3
              go_wp2_with fail
              go_end0
              obtain ⟨z1, z2⟩ := sym_done (Nat.le_of_lt hm1) (Nat.le_of_lt hm2) (by rw [HT1.out.rel.len]; exact h3) HR12.out HR23.out HS2.out HS3.out HT1.out.cross
              exact ⟨rfl, d3, HT1.out.rel.trans z1, z2, HK3.out, hbel3⟩
          · have z5 : (a : Int) < (i : Int) := by omega
            have z6 : ¬ (i : Int) < (mid : Int) := by omega
            obtain ⟨d2, hd2⟩ : ∃ d2, d2 = d1 := ⟨_, rfl⟩
            have HR12 : Hid (Rel (kp L) a mid d1 d2) := (show Rel (kp L) a mid d1 d2 by rw [hd2]; exact Rel.refl _ _ _)
            have HS2 : Hid (Srt (kp L) a mid d2) := (show Srt (kp L) a mid d2 from fun p q y1 y2 y3 => by rw [hd2]; exact HT1.out.s1 p q y1 y2 (by omega))
            have HK2 : Hid (Rw L qv wr b d2) := (show Rw L qv wr b d2 by rw [hd2]; exact HK1.out)
            have hbel2 := hbel1
            clear hd2 HK1 hbel1
            have HS21 : Hid (Srt (kp L) mid E d2) := (show Srt (kp L) mid E d2 from fun p q y1 y2 y3 => by rw [HR12.out.ka p (by omega), HR12.out.ka q (by omega)]; exact HT1.out.s3 p q y1 y2 y3)
            have HS22 : Hid (Srt (kp L) E c d2) := (show Srt (kp L) E c d2 from fun p q y1 y2 y3 => by rw [HR12.out.ka p (by omega), HR12.out.ka q (by omega)]; exact HT1.out.s4 p q y1 y2 y3)
            have HL2 : Hid (d2.length = d.length) := (show d2.length = d.length by rw [HR12.out.len, HT1.out.rel.len])
            by_cases c3 : mid < E
            · by_cases c4 : E < c
              · have z3 : (mid : Int) < (E : Int) := by omega
                have z4 : (E : Int) < (c : Int) := by omega
                go_wp2_with fail
                refine (HREC.out mid E c d2 wr (by omega) HK2.out (HR12.out.cl.aws (HT1.out.rel.cl.aws HWs.out)) HL2.out c3 c4 h3 HS21.out HS22.out).mono ?_
                rintro r w3 ⟨rfl, d3, x1, x2, x3, x4⟩
                have HR23 : Hid (Rel (kp L) mid c d2 d3) := x1
                have HS3 : Hid (Srt (kp L) mid c d3) := x2
                have HK3 : Hid (Rw L qv w3 b d3) := x3
                have hbel3 : Below b w w3 := btr' hbel2 x4
                go_wp2_with fail
                go_end0
                obtain ⟨z1, z2⟩ := sym_done (Nat.le_of_lt hm1) (Nat.le_of_lt hm2) (by rw [HT1.out.rel.len]; exact h3) HR12.out HR23.out HS2.out HS3.out HT1.out.cross
                exact ⟨rfl, d3, HT1.out.rel.trans z1, z2, HK3.out, hbel3⟩
              · have z3 : (mid : Int) < (E : Int) := by omega
                have z4 : ¬ (E : Int) < (c : Int) := by omega
                have HS3 : Hid (Srt (kp L) mid c d2) := (show Srt (kp L) mid c d2 from fun p q y1 y2 y3 => HS21.out p q y1 y2 (by omega))
                obtain ⟨d3, hd3⟩ : ∃ d3, d3 = d2 := ⟨_, rfl⟩
                rw [← hd3] at HK2 HS3
                have HR23 : Hid (Rel (kp L) mid c d2 d3) := (show Rel (kp L) mid c d2 d3 by rw [hd3]; exact Rel.refl _ _ _)
                have HK3 : Hid (Rw L qv wr b d3) := HK2
                have hbel3 := hbel2
                clear hd3
                go_wp2_with fail
                go_end0
                obtain ⟨z1, z2⟩ := sym_done (Nat.le_of_lt hm1) (Nat.le_of_lt hm2) (by rw [HT1.out.rel.len]; exact h3) HR12.out HR23.out HS2.out HS3.out HT1.out.cross
                exact ⟨rfl, d3, HT1.out.rel.trans z1, z2, HK3.out, hbel3⟩
            · have z3 : ¬ (mid : Int) < (E : Int) := by omega
              have HS3 : Hid (Srt (kp L) mid c d2) := (show Srt (kp L) mid c d2 from fun p q y1 y2 y3 => HS22.out p q (by omega) y2 y3)
              obtain ⟨d3, hd3⟩ : ∃ d3, d3 = d2 := ⟨_, rfl⟩
              rw [← hd3] at HK2 HS3
              have HR23 : Hid (Rel (kp L) mid c d2 d3) := (show Rel (kp L) mid c d2 d3 by rw [hd3]; exact Rel.refl _ _ _)
              have HK3 : Hid (Rw L qv wr b d3) := HK2
              have hbel3 := hbel2
              clear hd3
              go_wp2_with fail
              go_end0
              obtain ⟨z1, z2⟩ := sym_done (Nat.le_of_lt hm1) (Nat.le_of_lt hm2) (by rw [HT1.out.rel.len]; exact h3) HR12.out HR23.out HS2.out HS3.out HT1.out.cross
              exact ⟨rfl, d3, HT1.out.rel.trans z1, z2, HK3.out, hbel3⟩
        · have z5 : ¬ (a : Int) < (i : Int) := by omega
          obtain ⟨d2, hd2⟩ : ∃ d2, d2 = d1 := ⟨_, rfl⟩
          have HR12 : Hid (Rel (kp L) a mid d1 d2) := (show Rel (kp L) a mid d1 d2 by rw [hd2]; exact Rel.refl _ _ _)
          have HS2 : Hid (Srt (kp L) a mid d2) := (show Srt (kp L) a mid d2 from fun p q y1 y2 y3 => by rw [hd2]; exact HT1.out.s2 p q (by omega) y2 y3)
          have HK2 : Hid (Rw L qv wr b d2) := (show Rw L qv wr b d2 by rw [hd2]; exact HK1.out)
          have hbel2 := hbel1
          clear hd2 HK1 hbel1
          have HS21 : Hid (Srt (kp L) mid E d2) := (show Srt (kp L) mid E d2 from fun p q y1 y2 y3 => by rw [HR12.out.ka p (by omega), HR12.out.ka q (by omega)]; exact HT1.out.s3 p q y1 y2 y3)
          have HS22 : Hid (Srt (kp L) E c d2) := (show Srt (kp L) E c d2 from fun p q y1 y2 y3 => by rw [HR12.out.ka p (by omega), HR12.out.ka q (by omega)]; exact HT1.out.s4 p q y1 y2 y3)
          have HL2 : Hid (d2.length = d.length) := (show d2.length = d.length by rw [HR12.out.len, HT1.out.rel.len])
          by_cases c3 : mid < E
          · by_cases c4 : E < c
            · have z3 : (mid : Int) < (E : Int) := by omega
              have z4 : (E : Int) < (c : Int) := by omega
              go_wp2_with fail
              refine (HREC.out mid E c d2 wr (by omega) HK2.out (HR12.out.cl.aws (HT1.out.rel.cl.aws HWs.out)) HL2.out c3 c4 h3 HS21.out HS22.out).mono ?_
              rintro r w3 ⟨rfl, d3, x1, x2, x3, x4⟩
              have HR23 : Hid (Rel (kp L) mid c d2 d3) := x1
              have HS3 : Hid (Srt (kp L) mid c d3) := x2
              have HK3 : Hid (Rw L qv w3 b d3) := x3
              have hbel3 : Below b w w3 := btr' hbel2 x4
              go_wp2_with fail
              go_end0
              obtain ⟨z1, z2⟩ := sym_done (Nat.le_of_lt hm1) (Nat.le_of_lt hm2) (by rw [HT1.out.rel.len]; exact h3) HR12.out HR23.out HS2.out HS3.out HT1.out.cross
              exact ⟨rfl, d3, HT1.out.rel.trans z1, z2, HK3.out, hbel3⟩
            · have z3 : (mid : Int) < (E : Int) := by omega
              have z4 : ¬ (E : Int) < (c : Int) := by omega
              have HS3 : Hid (Srt (kp L) mid c d2) := (show Srt (kp L) mid c d2 from fun p q y1 y2 y3 => HS21.out p q y1 y2 (by omega))
              obtain ⟨d3, hd3⟩ : ∃ d3, d3 = d2 := ⟨_, rfl⟩
              rw [← hd3] at HK2 HS3
              have HR23 : Hid (Rel (kp L) mid c d2 d3) := (show Rel (kp L) mid c d2 d3 by rw [hd3]; exact Rel.refl _ _ _)
              have HK3 : Hid (Rw L qv wr b d3) := HK2
              have hbel3 := hbel2
              clear hd3
              go_wp2_with fail
              go_end0
              obtain ⟨z1, z2⟩ := sym_done (Nat.le_of_lt hm1) (Nat.le_of_lt hm2) (by rw [HT1.out.rel.len]; exact h3) HR12.out HR23.out HS2.out HS3.out HT1.out.cross
              exact ⟨rfl, d3, HT1.out.rel.trans z1, z2, HK3.out, hbel3⟩
          · have z3 : ¬ (mid : Int) < (E : Int) := by omega
            have HS3 : Hid (Srt (kp L) mid c d2) := (show Srt (kp L) mid c d2 from fun p q y1 y2 y3 => HS22.out p q (by omega) y2 y3)
            obtain ⟨d3, hd3⟩ : ∃ d3, d3 = d2 := ⟨_, rfl⟩
            rw [← hd3] at HK2 HS3
            have HR23 : Hid (Rel (kp L) mid c d2 d3) := (show Rel (kp L) mid c d2 d3 by rw [hd3]; exact Rel.refl _ _ _)
            have HK3 : Hid (Rw L qv wr b d3) := HK2
            have hbel3 := hbel2
            clear hd3
            go_wp2_with fail
            go_end0
            obtain ⟨z1, z2⟩ := sym_done (Nat.le_of_lt hm1) (Nat.le_of_lt hm2) (by rw [HT1.out.rel.len]; exact h3) HR12.out HR23.out HS2.out HS3.out HT1.out.cross
            exact ⟨rfl, d3, HT1.out.rel.trans z1, z2, HK3.out, hbel3⟩
set_option maxHeartbeats 16000000 in
set_option maxRecDepth 20000 in
theorem sym_dn (b a m c mid : Nat) (d : List A) (cap : Nat) (w : World) (hr : Rw L qv w b d) (hW : AWs L d) (hd : d.length ≤ 35184372088832) (h1 : a + 1 < m) (h2 : m + 1 < c) (h3 : c ≤ d.length) (sa : Srt (kp L) a m d) (sb : Srt (kp L) m c d) (hmid : mid = (a + c) / 2) (hcond : ¬ mid < m) (rec : SymC L qv b d.length cap (c - a)) :
    Calls Try.prog 24 #[.slice (some ⟨b, 0, none⟩) d.length cap, .int .i64 a, .int .i64 m, .int .i64 c, (fvP qv)] w fun e w' => e = .returned (.tuple #[]) ∧ ∃ d', Rel (kp L) a c d d' ∧ Srt (kp L) a c d' ∧ Rw L qv w' b d' ∧ Below b w w' := by
  have HR : Hid (Rw L qv w b d) := hr
  have HB : Hid (∀ x y w', Ev L qv b w' → AW L x → AW L y → Calls Try.prog 17 #[.int .i64 x, .int .i64 y, .pointer (some ⟨qv, 0, none⟩)] w' fun e w'' => e = .returned (.int .i64 (cmV L x y)) ∧ Below w'.heap.size w' w'') := (show ∀ x y w', _ from fun x y w' hE hx hy => order1_any L qv b x y w' hE hx hy)
  have HWs : Hid (AWs L d) := hW
  have HSa : Hid (Srt (kp L) a m d) := sa
  have HSb : Hid (Srt (kp L) m c d) := sb
  have HG : Hid (Rng a m c mid (a) (m)) := (show Rng a m c mid (a) (m) from rng_right h1 h2 hmid hcond)
  have HREC : Hid (SymC L qv b d.length cap (c - a)) := rec
  have HROT : Hid (∀ (s e : Nat) w, Rw L qv w b d → s < m → m < e → e ≤ d.length → Calls Try.prog 25 #[.slice (some ⟨b, 0, none⟩) d.length cap, .int .i64 s, .int .i64 m, .int .i64 e, (fvP qv)] w fun x w' => x = .returned (.tuple #[]) ∧ Rw L qv w' b (rot s m e d) ∧ Below b w w') := (show ∀ _, _ from fun s e w hr x1 x2 x3 => rotate_any b s m e d cap (fvP qv) w hr hd x1 x2 x3)
  have hm1 : a < mid := by omega
  have hm2 : mid < c := by omega
  have hma : ((m : Int) - (a : Int) == 1) = false := by simp; omega
  have hcm : ((c : Int) - (m : Int) == 1) = false := by simp; omega
  have hmc : (m : Int) < (c : Int) := by omega
  have ham : (a : Int) < (m : Int) := by omega
  have hh0 := half a c
  rw [← hmid] at hh0
  have HMID : Hid (mid = (a + c) / 2) := hmid
  obtain ⟨n, hn⟩ : ∃ n, mid + m = n := ⟨_, rfl⟩
  have hn' : (mid : Int) + (m : Int) = (n : Int) := by omega
  have HN : Hid (mid + m = n) := hn
  clear hr hW sa sb rec hmid
  go_enter Try.func24, Try.ntmps24
  go_wp2_with fail
  go_loopw [20, 21] (fun vi vj wr => ∃ (i j : Nat), vi = .int .i64 i ∧ vj = .int .i64 j ∧ Hid (Sym (kp L) a m c mid (a) (m) i j d) ∧ Hid (Rw L qv wr b d) ∧ Below b w wr) (fun vi vj _ => (intOf vj).toNat - (intOf vi).toNat)
  case atStart => exact ⟨a, m, by first | rfl | go_num | (congr 1; omega), rfl, (show Sym (kp L) a m c mid (a) (m) (a) (m) d from ⟨Nat.le_refl _, HG.out.r4, Nat.le_refl _, fun t t1 t2 => by omega, fun t t1 t2 => by omega⟩), HR, Below.refl _ _⟩
  case round =>
    clear HR
    obtain ⟨i, j, rfl, rfl, HF, HK, hbel⟩ := hrel
    obtain ⟨f1, f2, f3, _, _⟩ := HF.out
    have g1 := HG.out.r1
    have g2 := HG.out.r2
    have g7 := HG.out.r7
    have g8 := HG.out.r8
    by_cases hlt : i < j
    · have hh := half i j
      have h4 : i ≤ (i + j) / 2 := by omega
      have h5 : (i + j) / 2 < j := by omega
      generalize (i + j) / 2 = H at *
      have g3 := HG.out.r3 H (by omega) (by omega)
      obtain ⟨J, hJ⟩ : ∃ J, mid + m - 1 - H = J := ⟨_, rfl⟩
      rw [hJ] at g3
      have eJ : (n : Int) - 1 - (H : Int) = (J : Int) := by omega
      have HJ : Hid (mid + m - 1 - H = J) := hJ
      clear hJ
      have hawj := at_aw HWs.out (show J < d.length by omega)
      have hawp := at_aw HWs.out (show H < d.length by omega)
      have HWj : Hid (AW L _) := hawj
      have HWp : Hid (AW L _) := hawp
      have hbp := bpV_lt hawj hawp
      have q1 := C1.grR HK.out (show J < d.length by omega)
      have q2 := C1.grR HK.out (show H < d.length by omega)
      have l1 : J < d.length := by omega
      have l2 : H < d.length := by omega
      have HKA : Hid (ka (kp L) d J < ka (kp L) d H ↔ cmV L (at' d J) (at' d H) < 0) := (show ka (kp L) d J < ka (kp L) d H ↔ cmV L (at' d J) (at' d H) < 0 from hbp.symm)
      clear hbp hawj hawp
      generalize at' d J = X at *
      generalize at' d H = Y at *
      by_cases hv : cmV L X Y < 0
      · have hvb : decide (cmV L X Y < 0) = true := decide_eq_true hv
        go_wp2_with fail
        refine wp_region_grow (by kernel_rfl) (by kernel_rfl) ?_
        repeat (go_big_quiet_step ((go_at_call 17; exact quiet_gr (HB.out _ _ _ (HK.out.below (GrT.h _)).ev HWj.out HWp.out))))
        refine wpQuiet_nil ?_
        rintro w1 hw'
        have g1 := gr_elim hw'
        clear q1 q2 hw'
        go_wp2_with fail
        go_roundw
        case rel => exact ⟨i, H, rfl, rfl, (show Sym (kp L) a m c mid (a) (m) i H d from HF.out.less HG.out HSa.out HSb.out h4 h5 (by rw [HJ.out]; exact HKA.out.2 hv)), (show Rw L qv w1 b d from HK.out.below g1), btr' hbel (g1.mono (Nat.le_of_lt HK.out.lt))⟩
        case measure => simp [intOf]; omega
      · have HVN : Hid (¬ cmV L X Y < 0) := hv
        have hvb : decide (cmV L X Y < 0) = false := decide_eq_false hv
        clear hv
        go_wp2_with fail
        refine wp_region_grow (by kernel_rfl) (by kernel_rfl) ?_
        repeat (go_big_quiet_step ((go_at_call 17; exact quiet_gr (HB.out _ _ _ (HK.out.below (GrT.h _)).ev HWj.out HWp.out))))
        refine wpQuiet_nil ?_
        rintro w1 hw'
        have g1 := gr_elim hw'
        clear q1 q2 hw'
        go_wp2_with fail
        go_roundw
        case rel => exact ⟨H + 1, j, by go_num, rfl, (show Sym (kp L) a m c mid (a) (m) (H + 1) j d from HF.out.not HG.out HSa.out HSb.out h4 h5 (by rw [HJ.out]; exact fun x => by have h6 := HVN.out; have h7 := HKA.out.1 x; omega)), (show Rw L qv w1 b d from HK.out.below g1), btr' hbel (g1.mono (Nat.le_of_lt HK.out.lt))⟩
        case measure => simp [intOf]; omega
    · have hij : i = j := by omega
      subst hij
      obtain ⟨t1, t2, t3, t4, t5, HT0⟩ := HF.out.found HG.out HSa.out HSb.out h3
      rw [HN.out] at t3 t4 HT0
      obtain ⟨E, hE⟩ : ∃ E, n - i = E := ⟨_, rfl⟩
      rw [hE] at t3 t4 HT0
      have eE : (n : Int) - (i : Int) = (E : Int) := by omega
      have hE2 : E + i = mid + m := by omega
      have HT : Hid (Turned (kp L) a i m mid E c d (rot i m E d)) := HT0
      clear HT0 hE
      have hmE : mid ≤ E := by omega
      clear HF HG f1 f3 g1 g2 g7 g8
      by_cases c1 : i < m
      · by_cases c2 : m < E
        · have z1 : (i : Int) < (m : Int) := by omega
          have z2 : (m : Int) < (E : Int) := by omega
          go_wp2_with fail
          refine (HROT.out _ _ _ HK.out c1 c2 (by omega)).mono ?_
          rintro r w1 ⟨rfl, x1, x2⟩
          have HK1 : Hid (Rw L qv w1 b (rot i m E d)) := x1
          have hbel1 : Below b w w1 := btr' hbel x2
          clear x1 x2 hbel
          obtain ⟨d1, hd1⟩ : ∃ d1, rot i m E d = d1 := ⟨_, rfl⟩
          rw [hd1] at HK1 HT
          have HT1 : Hid (Turned (kp L) a i m mid E c d d1) := HT
          clear hd1 HROT HT HK
          have hl1 : Hid (d1.length = d.length) := (show d1.length = d.length from HT1.out.rel.len)
          by_cases c5 : a < i
          · by_cases c6 : i < mid
            · have z5 : (a : Int) < (i : Int) := by omega
              have z6 : (i : Int) < (mid : Int) := by omega
              go_wp2_with fail
              refine (HREC.out a i mid d1 w1 (by omega) HK1.out (HT1.out.rel.cl.aws HWs.out) hl1.out c5 c6 (by omega) HT1.out.s1 HT1.out.s2).mono ?_
              rintro r w2 ⟨rfl, d2, x1, x2, x3, x4⟩
              have HR12 : Hid (Rel (kp L) a mid d1 d2) := x1
              have HS2 : Hid (Srt (kp L) a mid d2) := x2
              have HK2 : Hid (Rw L qv w2 b d2) := x3
              have hbel2 : Below b w w2 := btr' hbel1 x4
              clear x1 x2 x3 x4 HK1 hbel1
              have HS21 : Hid (Srt (kp L) mid E d2) := (show Srt (kp L) mid E d2 from fun p q y1 y2 y3 => by rw [HR12.out.ka p (by omega), HR12.out.ka q (by omega)]; exact HT1.out.s3 p q y1 y2 y3)
              have HS22 : Hid (Srt (kp L) E c d2) := (show Srt (kp L) E c d2 from fun p q y1 y2 y3 => by rw [HR12.out.ka p (by omega), HR12.out.ka q (by omega)]; exact HT1.out.s4 p q y1 y2 y3)
              have HL2 : Hid (d2.length = d.length) := (show d2.length = d.length by rw [HR12.out.len, HT1.out.rel.len])
              by_cases c3 : mid < E
              · by_cases c4 : E < c
                · have z3 : (mid : Int) < (E : Int) := by omega
                  have z4 : (E : Int) < (c : Int) := by omega
                  go_wp2_with fail
                  refine (HREC.out mid E c d2 w2 (by omega) HK2.out (HR12.out.cl.aws (HT1.out.rel.cl.aws HWs.out)) HL2.out c3 c4 h3 HS21.out HS22.out).mono ?_
                  rintro r w3 ⟨rfl, d3, x1, x2, x3, x4⟩
                  have HR23 : Hid (Rel (kp L) mid c d2 d3) := x1
                  have HS3 : Hid (Srt (kp L) mid c d3) := x2
                  have HK3 : Hid (Rw L qv w3 b d3) := x3
                  have hbel3 : Below b w w3 := btr' hbel2 x4
                  go_wp2_with fail
                  go_end0
                  obtain ⟨z1, z2⟩ := sym_done (Nat.le_of_lt hm1) (Nat.le_of_lt hm2) (by rw [HT1.out.rel.len]; exact h3) HR12.out HR23.out HS2.out HS3.out HT1.out.cross
                  exact ⟨rfl, d3, HT1.out.rel.trans z1, z2, HK3.out, hbel3⟩
                · have z3 : (mid : Int) < (E : Int) := by omega
                  have z4 : ¬ (E : Int) < (c : Int) := by omega
                  have HS3 : Hid (Srt (kp L) mid c d2) := (show Srt (kp L) mid c d2 from fun p q y1 y2 y3 => HS21.out p q y1 y2 (by omega))
                  obtain ⟨d3, hd3⟩ : ∃ d3, d3 = d2 := ⟨_, rfl⟩
                  rw [← hd3] at HK2 HS3
                  have HR23 : Hid (Rel (kp L) mid c d2 d3) := (show Rel (kp L) mid c d2 d3 by rw [hd3]; exact Rel.refl _ _ _)
                  have HK3 : Hid (Rw L qv w2 b d3) := HK2
                  have hbel3 := hbel2
                  clear hd3
                  go_wp2_with fail
                  go_end0
                  obtain ⟨z1, z2⟩ := sym_done (Nat.le_of_lt hm1) (Nat.le_of_lt hm2) (by rw [HT1.out.rel.len]; exact h3) HR12.out HR23.out HS2.out HS3.out HT1.out.cross
                  exact ⟨rfl, d3, HT1.out.rel.trans z1, z2, HK3.out, hbel3⟩
              · have z3 : ¬ (mid : Int) < (E : Int) := by omega
                have HS3 : Hid (Srt (kp L) mid c d2) := (show Srt (kp L) mid c d2 from fun p q y1 y2 y3 => HS22.out p q (by omega) y2 y3)
                obtain ⟨d3, hd3⟩ : ∃ d3, d3 = d2 := ⟨_, rfl⟩
                rw [← hd3] at HK2 HS3
                have HR23 : Hid (Rel (kp L) mid c d2 d3) := (show Rel (kp L) mid c d2 d3 by rw [hd3]; exact Rel.refl _ _ _)
                have HK3 : Hid (Rw L qv w2 b d3) := HK2
                have hbel3 := hbel2
                clear hd3
                go_wp2_with fail
                go_end0
                obtain ⟨z1, z2⟩ := sym_done (Nat.le_of_lt hm1) (Nat.le_of_lt hm2) (by rw [HT1.out.rel.len]; exact h3) HR12.out HR23.out HS2.out HS3.out HT1.out.cross
                exact ⟨rfl, d3, HT1.out.rel.trans z1, z2, HK3.out, hbel3⟩
            · have z5 : (a : Int) < (i : Int) := by omega
              have z6 : ¬ (i : Int) < (mid : Int) := by omega
              obtain ⟨d2, hd2⟩ : ∃ d2, d2 = d1 := ⟨_, rfl⟩
              have HR12 : Hid (Rel (kp L) a mid d1 d2) := (show Rel (kp L) a mid d1 d2 by rw [hd2]; exact Rel.refl _ _ _)
              have HS2 : Hid (Srt (kp L) a mid d2) := (show Srt (kp L) a mid d2 from fun p q y1 y2 y3 => by rw [hd2]; exact HT1.out.s1 p q y1 y2 (by omega))
              have HK2 : Hid (Rw L qv w1 b d2) := (show Rw L qv w1 b d2 by rw [hd2]; exact HK1.out)
              have hbel2 := hbel1
              clear hd2 HK1 hbel1
              have HS21 : Hid (Srt (kp L) mid E d2) := (show Srt (kp L) mid E d2 from fun p q y1 y2 y3 => by rw [HR12.out.ka p (by omega), HR12.out.ka q (by omega)]; exact HT1.out.s3 p q y1 y2 y3)
              have HS22 : Hid (Srt (kp L) E c d2) := (show Srt (kp L) E c d2 from fun p q y1 y2 y3 => by rw [HR12.out.ka p (by omega), HR12.out.ka q (by omega)]; exact HT1.out.s4 p q y1 y2 y3)
              have HL2 : Hid (d2.length = d.length) := (show d2.length = d.length by rw [HR12.out.len, HT1.out.rel.len])
              by_cases c3 : mid < E
              · by_cases c4 : E < c
                · have z3 : (mid : Int) < (E : Int) := by omega
                  have z4 : (E : Int) < (c : Int) := by omega
                  go_wp2_with fail
                  refine (HREC.out mid E c d2 w1 (by omega) HK2.out (HR12.out.cl.aws (HT1.out.rel.cl.aws HWs.out)) HL2.out c3 c4 h3 HS21.out HS22.out).mono ?_
                  rintro r w3 ⟨rfl, d3, x1, x2, x3, x4⟩
                  have HR23 : Hid (Rel (kp L) mid c d2 d3) := x1
                  have HS3 : Hid (Srt (kp L) mid c d3) := x2
                  have HK3 : Hid (Rw L qv w3 b d3) := x3
                  have hbel3 : Below b w w3 := btr' hbel2 x4
                  go_wp2_with fail
                  go_end0
                  obtain ⟨z1, z2⟩ := sym_done (Nat.le_of_lt hm1) (Nat.le_of_lt hm2) (by rw [HT1.out.rel.len]; exact h3) HR12.out HR23.out HS2.out HS3.out HT1.out.cross
                  exact ⟨rfl, d3, HT1.out.rel.trans z1, z2, HK3.out, hbel3⟩
                · have z3 : (mid : Int) < (E : Int) := by omega
                  have z4 : ¬ (E : Int) < (c : Int) := by omega
                  have HS3 : Hid (Srt (kp L) mid c d2) := (show Srt (kp L) mid c d2 from fun p q y1 y2 y3 => HS21.out p q y1 y2 (by omega))
                  obtain ⟨d3, hd3⟩ : ∃ d3, d3 = d2 := ⟨_, rfl⟩
                  rw [← hd3] at HK2 HS3
                  have HR23 : Hid (Rel (kp L) mid c d2 d3) := (show Rel (kp L) mid c d2 d3 by rw [hd3]; exact Rel.refl _ _ _)
                  have HK3 : Hid (Rw L qv w1 b d3) := HK2
                  have hbel3 := hbel2
                  clear hd3
                  go_wp2_with fail
                  go_end0
                  obtain ⟨z1, z2⟩ := sym_done (Nat.le_of_lt hm1) (Nat.le_of_lt hm2) (by rw [HT1.out.rel.len]; exact h3) HR12.out HR23.out HS2.out HS3.out HT1.out.cross
                  exact ⟨rfl, d3, HT1.out.rel.trans z1, z2, HK3.out, hbel3⟩
              · have z3 : ¬ (mid : Int) < (E : Int) := by omega
                have HS3 : Hid (Srt (kp L) mid c d2) := (show Srt (kp L) mid c d2 from fun p q y1 y2 y3 => HS22.out p q (by omega) y2 y3)
                obtain ⟨d3, hd3⟩ : ∃ d3, d3 = d2 := ⟨_, rfl⟩
                rw [← hd3] at HK2 HS3
                have HR23 : Hid (Rel (kp L) mid c d2 d3) := (show Rel (kp L) mid c d2 d3 by rw [hd3]; exact Rel.refl _ _ _)
                have HK3 : Hid (Rw L qv w1 b d3) := HK2
                have hbel3 := hbel2
                clear hd3
                go_wp2_with fail
                go_end0
                obtain ⟨z1, z2⟩ := sym_done (Nat.le_of_lt hm1) (Nat.le_of_lt hm2) (by rw [HT1.out.rel.len]; exact h3) HR12.out HR23.out HS2.out HS3.out HT1.out.cross
                exact ⟨rfl, d3, HT1.out.rel.trans z1, z2, HK3.out, hbel3⟩
          · have z5 : ¬ (a : Int) < (i : Int) := by omega
            obtain ⟨d2, hd2⟩ : ∃ d2, d2 = d1 := ⟨_, rfl⟩
            have HR12 : Hid (Rel (kp L) a mid d1 d2) := (show Rel (kp L) a mid d1 d2 by rw [hd2]; exact Rel.refl _ _ _)
            have HS2 : Hid (Srt (kp L) a mid d2) := (show Srt (kp L) a mid d2 from fun p q y1 y2 y3 => by rw [hd2]; exact HT1.out.s2 p q (by omega) y2 y3)
            have HK2 : Hid (Rw L qv w1 b d2) := (show Rw L qv w1 b d2 by rw [hd2]; exact HK1.out)
            have hbel2 := hbel1
            clear hd2 HK1 hbel1
            have HS21 : Hid (Srt (kp L) mid E d2) := (show Srt (kp L) mid E d2 from fun p q y1 y2 y3 => by rw [HR12.out.ka p (by omega), HR12.out.ka q (by omega)]; exact HT1.out.s3 p q y1 y2 y3)
            have HS22 : Hid (Srt (kp L) E c d2) := (show Srt (kp L) E c d2 from fun p q y1 y2 y3 => by rw [HR12.out.ka p (by omega), HR12.out.ka q (by omega)]; exact HT1.out.s4 p q y1 y2 y3)
            have HL2 : Hid (d2.length = d.length) := (show d2.length = d.length by rw [HR12.out.len, HT1.out.rel.len])
            by_cases c3 : mid < E
            · by_cases c4 : E < c
              · have z3 : (mid : Int) < (E : Int) := by omega
                have z4 : (E : Int) < (c : Int) := by omega
                go_wp2_with fail
                refine (HREC.out mid E c d2 w1 (by omega) HK2.out (HR12.out.cl.aws (HT1.out.rel.cl.aws HWs.out)) HL2.out c3 c4 h3 HS21.out HS22.out).mono ?_
                rintro r w3 ⟨rfl, d3, x1, x2, x3, x4⟩
                have HR23 : Hid (Rel (kp L) mid c d2 d3) := x1
                have HS3 : Hid (Srt (kp L) mid c d3) := x2
                have HK3 : Hid (Rw L qv w3 b d3) := x3
                have hbel3 : Below b w w3 := btr' hbel2 x4
                go_wp2_with fail
                go_end0
                obtain ⟨z1, z2⟩ := sym_done (Nat.le_of_lt hm1) (Nat.le_of_lt hm2) (by rw [HT1.out.rel.len]; exact h3) HR12.out HR23.out HS2.out HS3.out HT1.out.cross
                exact ⟨rfl, d3, HT1.out.rel.trans z1, z2, HK3.out, hbel3⟩
              · have z3 : (mid : Int) < (E : Int) := by omega
                have z4 : ¬ (E : Int) < (c : Int) := by omega
                have HS3 : Hid (Srt (kp L) mid c d2) := (show Srt (kp L) mid c d2 from fun p q y1 y2 y3 => HS21.out p q y1 y2 (by omega))
                obtain ⟨d3, hd3⟩ : ∃ d3, d3 = d2 := ⟨_, rfl⟩
                rw [← hd3] at HK2 HS3
                have HR23 : Hid (Rel (kp L) mid c d2 d3) := (show Rel (kp L) mid c d2 d3 by rw [hd3]; exact Rel.refl _ _ _)
                have HK3 : Hid (Rw L qv w1 b d3) := HK2
                have hbel3 := hbel2
                clear hd3
                go_wp2_with fail
                go_end0
                obtain ⟨z1, z2⟩ := sym_done (Nat.le_of_lt hm1) (Nat.le_of_lt hm2) (by rw [HT1.out.rel.len]; exact h3) HR12.out HR23.out HS2.out HS3.out HT1.out.cross
                exact ⟨rfl, d3, HT1.out.rel.trans z1, z2, HK3.out, hbel3⟩
            · have z3 : ¬ (mid : Int) < (E : Int) := by omega
              have HS3 : Hid (Srt (kp L) mid c d2) := (show Srt (kp L) mid c d2 from fun p q y1 y2 y3 => HS22.out p q (by omega) y2 y3)
              obtain ⟨d3, hd3⟩ : ∃ d3, d3 = d2 := ⟨_, rfl⟩
              rw [← hd3] at HK2 HS3
              have HR23 : Hid (Rel (kp L) mid c d2 d3) := (show Rel (kp L) mid c d2 d3 by rw [hd3]; exact Rel.refl _ _ _)
              have HK3 : Hid (Rw L qv w1 b d3) := HK2
              have hbel3 := hbel2
              clear hd3
              go_wp2_with fail
              go_end0
              obtain ⟨z1, z2⟩ := sym_done (Nat.le_of_lt hm1) (Nat.le_of_lt hm2) (by rw [HT1.out.rel.len]; exact h3) HR12.out HR23.out HS2.out HS3.out HT1.out.cross
              exact ⟨rfl, d3, HT1.out.rel.trans z1, z2, HK3.out, hbel3⟩
        · have z1 : (i : Int) < (m : Int) := by omega
          have z2 : ¬ (m : Int) < (E : Int) := by omega
          have HK1 : Hid (Rw L qv wr b (rot i m E d)) := (show Rw L qv wr b (rot i m E d) by rw [rot_none i m E d (by omega) (by omega) (by omega)]; exact HK.out)
          have hbel1 := hbel
          clear hbel
          obtain ⟨d1, hd1⟩ : ∃ d1, rot i m E d = d1 := ⟨_, rfl⟩
          rw [hd1] at HK1 HT
          have HT1 : Hid (Turned (kp L) a i m mid E c d d1) := HT
          clear hd1 HROT HT HK
          have hl1 : Hid (d1.length = d.length) := (show d1.length = d.length from HT1.out.rel.len)
          by_cases c5 : a < i
          · by_cases c6 : i < mid
            · have z5 : (a : Int) < (i : Int) := by omega
              have z6 : (i : Int) < (mid : Int) := by omega
              go_wp2_with fail
              refine (HREC.out a i mid d1 wr (by omega) HK1.out (HT1.out.rel.cl.aws HWs.out) hl1.out c5 c6 (by omega) HT1.out.s1 HT1.out.s2).mono ?_
              rintro r w2 ⟨rfl, d2, x1, x2, x3, x4⟩
              have HR12 : Hid (Rel (kp L) a mid d1 d2) := x1
              have HS2 : Hid (Srt (kp L) a mid d2) := x2
              have HK2 : Hid (Rw L qv w2 b d2) := x3
              have hbel2 : Below b w w2 := btr' hbel1 x4
              clear x1 x2 x3 x4 HK1 hbel1
              have HS21 : Hid (Srt (kp L) mid E d2) := (show Srt (kp L) mid E d2 from fun p q y1 y2 y3 => by rw [HR12.out.ka p (by omega), HR12.out.ka q (by omega)]; exact HT1.out.s3 p q y1 y2 y3)
              have HS22 : Hid (Srt (kp L) E c d2) := (show Srt (kp L) E c d2 from fun p q y1 y2 y3 => by rw [HR12.out.ka p (by omega), HR12.out.ka q (by omega)]; exact HT1.out.s4 p q y1 y2 y3)
              have HL2 : Hid (d2.length = d.length) := (show d2.length = d.length by rw [HR12.out.len, HT1.out.rel.len])
              by_cases c3 : mid < E
              · by_cases c4 : E < c
                · have z3 : (mid : Int) < (E : Int) := by omega
                  have z4 : (E : Int) < (c : Int) := by omega
                  go_wp2_with fail
                  refine (HREC.out mid E c d2 w2 (by omega) HK2.out (HR12.out.cl.aws (HT1.out.rel.cl.aws HWs.out)) HL2.out c3 c4 h3 HS21.out HS22.out).mono ?_
                  rintro r w3 ⟨rfl, d3, x1, x2, x3, x4⟩
                  have HR23 : Hid (Rel (kp L) mid c d2 d3) := x1
                  have HS3 : Hid (Srt (kp L) mid c d3) := x2
                  have HK3 : Hid (Rw L qv w3 b d3) := x3
                  have hbel3 : Below b w w3 := btr' hbel2 x4
                  go_wp2_with fail
                  go_end0
                  obtain ⟨z1, z2⟩ := sym_done (Nat.le_of_lt hm1) (Nat.le_of_lt hm2) (by rw [HT1.out.rel.len]; exact h3) HR12.out HR23.out HS2.out HS3.out HT1.out.cross
                  exact ⟨rfl, d3, HT1.out.rel.trans z1, z2, HK3.out, hbel3⟩
                · have z3 : (mid : Int) < (E : Int) := by omega
                  have z4 : ¬ (E : Int) < (c : Int) := by omega
                  have HS3 : Hid (Srt (kp L) mid c d2) := (show Srt (kp L) mid c d2 from fun p q y1 y2 y3 => HS21.out p q y1 y2 (by omega))
                  obtain ⟨d3, hd3⟩ : ∃ d3, d3 = d2 := ⟨_, rfl⟩
                  rw [← hd3] at HK2 HS3
                  have HR23 : Hid (Rel (kp L) mid c d2 d3) := (show Rel (kp L) mid c d2 d3 by rw [hd3]; exact Rel.refl _ _ _)
                  have HK3 : Hid (Rw L qv w2 b d3) := HK2
                  have hbel3 := hbel2
                  clear hd3
                  go_wp2_with fail
                  go_end0
                  obtain ⟨z1, z2⟩ := sym_done (Nat.le_of_lt hm1) (Nat.le_of_lt hm2) (by rw [HT1.out.rel.len]; exact h3) HR12.out HR23.out HS2.out HS3.out HT1.out.cross
                  exact ⟨rfl, d3, HT1.out.rel.trans z1, z2, HK3.out, hbel3⟩
              · have z3 : ¬ (mid : Int) < (E : Int) := by omega
                have HS3 : Hid (Srt (kp L) mid c d2) := (show Srt (kp L) mid c d2 from fun p q y1 y2 y3 => HS22.out p q (by omega) y2 y3)
                obtain ⟨d3, hd3⟩ : ∃ d3, d3 = d2 := ⟨_, rfl⟩
                rw [← hd3] at HK2 HS3
                have HR23 : Hid (Rel (kp L) mid c d2 d3) := (show Rel (kp L) mid c d2 d3 by rw [hd3]; exact Rel.refl _ _ _)
                have HK3 : Hid (Rw L qv w2 b d3) := HK2
                have hbel3 := hbel2
                clear hd3
                go_wp2_with fail
                go_end0
                obtain ⟨z1, z2⟩ := sym_done (Nat.le_of_lt hm1) (Nat.le_of_lt hm2) (by rw [HT1.out.rel.len]; exact h3) HR12.out HR23.out HS2.out HS3.out HT1.out.cross
                exact ⟨rfl, d3, HT1.out.rel.trans z1, z2, HK3.out, hbel3⟩
            · have z5 : (a : Int) < (i : Int) := by omega
              have z6 : ¬ (i : Int) < (mid : Int) := by omega
              obtain ⟨d2, hd2⟩ : ∃ d2, d2 = d1 := ⟨_, rfl⟩
              have HR12 : Hid (Rel (kp L) a mid d1 d2) := (show Rel (kp L) a mid d1 d2 by rw [hd2]; exact Rel.refl _ _ _)
              have HS2 : Hid (Srt (kp L) a mid d2) := (show Srt (kp L) a mid d2 from fun p q y1 y2 y3 => by rw [hd2]; exact HT1.out.s1 p q y1 y2 (by omega))
              have HK2 : Hid (Rw L qv wr b d2) := (show Rw L qv wr b d2 by rw [hd2]; exact HK1.out)
              have hbel2 := hbel1
              clear hd2 HK1 hbel1
              have HS21 : Hid (Srt (kp L) mid E d2) := (show Srt (kp L) mid E d2 from fun p q y1 y2 y3 => by rw [HR12.out.ka p (by omega), HR12.out.ka q (by omega)]; exact HT1.out.s3 p q y1 y2 y3)
              have HS22 : Hid (Srt (kp L) E c d2) := (show Srt (kp L) E c d2 from fun p q y1 y2 y3 => by rw [HR12.out.ka p (by omega), HR12.out.ka q (by omega)]; exact HT1.out.s4 p q y1 y2 y3)
              have HL2 : Hid (d2.length = d.length) := (show d2.length = d.length by rw [HR12.out.len, HT1.out.rel.len])
              by_cases c3 : mid < E
              · by_cases c4 : E < c
                · have z3 : (mid : Int) < (E : Int) := by omega
                  have z4 : (E : Int) < (c : Int) := by omega
                  go_wp2_with fail
                  refine (HREC.out mid E c d2 wr (by omega) HK2.out (HR12.out.cl.aws (HT1.out.rel.cl.aws HWs.out)) HL2.out c3 c4 h3 HS21.out HS22.out).mono ?_
                  rintro r w3 ⟨rfl, d3, x1, x2, x3, x4⟩
                  have HR23 : Hid (Rel (kp L) mid c d2 d3) := x1
                  have HS3 : Hid (Srt (kp L) mid c d3) := x2
                  have HK3 : Hid (Rw L qv w3 b d3) := x3
                  have hbel3 : Below b w w3 := btr' hbel2 x4
                  go_wp2_with fail
                  go_end0
                  obtain ⟨z1, z2⟩ := sym_done (Nat.le_of_lt hm1) (Nat.le_of_lt hm2) (by rw [HT1.out.rel.len]; exact h3) HR12.out HR23.out HS2.out HS3.out HT1.out.cross
                  exact ⟨rfl, d3, HT1.out.rel.trans z1, z2, HK3.out, hbel3⟩
                · have z3 : (mid : Int) < (E : Int) := by omega
                  have z4 : ¬ (E : Int) < (c : Int) := by omega
                  have HS3 : Hid (Srt (kp L) mid c d2) := (show Srt (kp L) mid c d2 from fun p q y1 y2 y3 => HS21.out p q y1 y2 (by omega))
                  obtain ⟨d3, hd3⟩ : ∃ d3, d3 = d2 := ⟨_, rfl⟩
                  rw [← hd3] at HK2 HS3
                  have HR23 : Hid (Rel (kp L) mid c d2 d3) := (show Rel (kp L) mid c d2 d3 by rw [hd3]; exact Rel.refl _ _ _)
                  have HK3 : Hid (Rw L qv wr b d3) := HK2
                  have hbel3 := hbel2
                  clear hd3
                  go_wp2_with fail
                  go_end0
                  obtain ⟨z1, z2⟩ := sym_done (Nat.le_of_lt hm1) (Nat.le_of_lt hm2) (by rw [HT1.out.rel.len]; exact h3) HR12.out HR23.out HS2.out HS3.out HT1.out.cross
                  exact ⟨rfl, d3, HT1.out.rel.trans z1, z2, HK3.out, hbel3⟩
              · have z3 : ¬ (mid : Int) < (E : Int) := by omega
                have HS3 : Hid (Srt (kp L) mid c d2) := (show Srt (kp L) mid c d2 from fun p q y1 y2 y3 => HS22.out p q (by omega) y2 y3)
                obtain ⟨d3, hd3⟩ : ∃ d3, d3 = d2 := ⟨_, rfl⟩
                rw [← hd3] at HK2 HS3
                have HR23 : Hid (Rel (kp L) mid c d2 d3) := (show Rel (kp L) mid c d2 d3 by rw [hd3]; exact Rel.refl _ _ _)
                have HK3 : Hid (Rw L qv wr b d3) := HK2
                have hbel3 := hbel2
                clear hd3
                go_wp2_with fail
                go_end0
                obtain ⟨z1, z2⟩ := sym_done (Nat.le_of_lt hm1) (Nat.le_of_lt hm2) (by rw [HT1.out.rel.len]; exact h3) HR12.out HR23.out HS2.out HS3.out HT1.out.cross
                exact ⟨rfl, d3, HT1.out.rel.trans z1, z2, HK3.out, hbel3⟩
          · have z5 : ¬ (a : Int) < (i : Int) := by omega
            obtain ⟨d2, hd2⟩ : ∃ d2, d2 = d1 := ⟨_, rfl⟩
            have HR12 : Hid (Rel (kp L) a mid d1 d2) := (show Rel (kp L) a mid d1 d2 by rw [hd2]; exact Rel.refl _ _ _)
            have HS2 : Hid (Srt (kp L) a mid d2) := (show Srt (kp L) a mid d2 from fun p q y1 y2 y3 => by rw [hd2]; exact HT1.out.s2 p q (by omega) y2 y3)
            have HK2 : Hid (Rw L qv wr b d2) := (show Rw L qv wr b d2 by rw [hd2]; exact HK1.out)
            have hbel2 := hbel1
            clear hd2 HK1 hbel1
            have HS21 : Hid (Srt (kp L) mid E d2) := (show Srt (kp L) mid E d2 from fun p q y1 y2 y3 => by rw [HR12.out.ka p (by omega), HR12.out.ka q (by omega)]; exact HT1.out.s3 p q y1 y2 y3)
            have HS22 : Hid (Srt (kp L) E c d2) := (show Srt (kp L) E c d2 from fun p q y1 y2 y3 => by rw [HR12.out.ka p (by omega), HR12.out.ka q (by omega)]; exact HT1.out.s4 p q y1 y2 y3)
            have HL2 : Hid (d2.length = d.length) := (show d2.length = d.length by rw [HR12.out.len, HT1.out.rel.len])
            by_cases c3 : mid < E
            · by_cases c4 : E < c
              · have z3 : (mid : Int) < (E : Int) := by omega
                have z4 : (E : Int) < (c : Int) := by omega
                go_wp2_with fail
                refine (HREC.out mid E c d2 wr (by omega) HK2.out (HR12.out.cl.aws (HT1.out.rel.cl.aws HWs.out)) HL2.out c3 c4 h3 HS21.out HS22.out).mono ?_
                rintro r w3 ⟨rfl, d3, x1, x2, x3, x4⟩
                have HR23 : Hid (Rel (kp L) mid c d2 d3) := x1
                have HS3 : Hid (Srt (kp L) mid c d3) := x2
                have HK3 : Hid (Rw L qv w3 b d3) := x3
                have hbel3 : Below b w w3 := btr' hbel2 x4
                go_wp2_with fail
                go_end0
                obtain ⟨z1, z2⟩ := sym_done (Nat.le_of_lt hm1) (Nat.le_of_lt hm2) (by rw [HT1.out.rel.len]; exact h3) HR12.out HR23.out HS2.out HS3.out HT1.out.cross
                exact ⟨rfl, d3, HT1.out.rel.trans z1, z2, HK3.out, hbel3⟩
              · have z3 : (mid : Int) < (E : Int) := by omega
                have z4 : ¬ (E : Int) < (c : Int) := by omega
                have HS3 : Hid (Srt (kp L) mid c d2) := (show Srt (kp L) mid c d2 from fun p q y1 y2 y3 => HS21.out p q y1 y2 (by omega))
                obtain ⟨d3, hd3⟩ : ∃ d3, d3 = d2 := ⟨_, rfl⟩
                rw [← hd3] at HK2 HS3
                have HR23 : Hid (Rel (kp L) mid c d2 d3) := (show Rel (kp L) mid c d2 d3 by rw [hd3]; exact Rel.refl _ _ _)
                have HK3 : Hid (Rw L qv wr b d3) := HK2
                have hbel3 := hbel2
                clear hd3
                go_wp2_with fail
                go_end0
                obtain ⟨z1, z2⟩ := sym_done (Nat.le_of_lt hm1) (Nat.le_of_lt hm2) (by rw [HT1.out.rel.len]; exact h3) HR12.out HR23.out HS2.out HS3.out HT1.out.cross
                exact ⟨rfl, d3, HT1.out.rel.trans z1, z2, HK3.out, hbel3⟩
            · have z3 : ¬ (mid : Int) < (E : Int) := by omega
              have HS3 : Hid (Srt (kp L) mid c d2) := (show Srt (kp L) mid c d2 from fun p q y1 y2 y3 => HS22.out p q (by omega) y2 y3)
              obtain ⟨d3, hd3⟩ : ∃ d3, d3 = d2 := ⟨_, rfl⟩
              rw [← hd3] at HK2 HS3
              have HR23 : Hid (Rel (kp L) mid c d2 d3) := (show Rel (kp L) mid c d2 d3 by rw [hd3]; exact Rel.refl _ _ _)
              have HK3 : Hid (Rw L qv wr b d3) := HK2
              have hbel3 := hbel2
              clear hd3
              go_wp2_with fail
              go_end0
              obtain ⟨z1, z2⟩ := sym_done (Nat.le_of_lt hm1) (Nat.le_of_lt hm2) (by rw [HT1.out.rel.len]; exact h3) HR12.out HR23.out HS2.out HS3.out HT1.out.cross
              exact ⟨rfl, d3, HT1.out.rel.trans z1, z2, HK3.out, hbel3⟩
      · have z1 : ¬ (i : Int) < (m : Int) := by omega
        have HK1 : Hid (Rw L qv wr b (rot i m E d)) := (show Rw L qv wr b (rot i m E d) by rw [rot_none i m E d (by omega) (by omega) (by omega)]; exact HK.out)
        have hbel1 := hbel
        clear hbel
        obtain ⟨d1, hd1⟩ : ∃ d1, rot i m E d = d1 := ⟨_, rfl⟩
        rw [hd1] at HK1 HT
        have HT1 : Hid (Turned (kp L) a i m mid E c d d1) := HT
        clear hd1 HROT HT HK
        have hl1 : Hid (d1.length = d.length) := (show d1.length = d.length from HT1.out.rel.len)
        by_cases c5 : a < i
        · by_cases c6 : i < mid
          · have z5 : (a : Int) < (i : Int) := by omega
            have z6 : (i : Int) < (mid : Int) := by omega
            go_wp2_with fail
            refine (HREC.out a i mid d1 wr (by omega) HK1.out (HT1.out.rel.cl.aws HWs.out) hl1.out c5 c6 (by omega) HT1.out.s1 HT1.out.s2).mono ?_
            rintro r w2 ⟨rfl, d2, x1, x2, x3, x4⟩
            have HR12 : Hid (Rel (kp L) a mid d1 d2) := x1
            have HS2 : Hid (Srt (kp L) a mid d2) := x2
            have HK2 : Hid (Rw L qv w2 b d2) := x3
            have hbel2 : Below b w w2 := btr' hbel1 x4
            clear x1 x2 x3 x4 HK1 hbel1
            have HS21 : Hid (Srt (kp L) mid E d2) := (show Srt (kp L) mid E d2 from fun p q y1 y2 y3 => by rw [HR12.out.ka p (by omega), HR12.out.ka q (by omega)]; exact HT1.out.s3 p q y1 y2 y3)
            have HS22 : Hid (Srt (kp L) E c d2) := (show Srt (kp L) E c d2 from fun p q y1 y2 y3 => by rw [HR12.out.ka p (by omega), HR12.out.ka q (by omega)]; exact HT1.out.s4 p q y1 y2 y3)
            have HL2 : Hid (d2.length = d.length) := (show d2.length = d.length by rw [HR12.out.len, HT1.out.rel.len])
            by_cases c3 : mid < E
            · by_cases c4 : E < c
              · have z3 : (mid : Int) < (E : Int) := by omega
                have z4 : (E : Int) < (c : Int) := by omega
                go_wp2_with fail
                refine (HREC.out mid E c d2 w2 (by omega) HK2.out (HR12.out.cl.aws (HT1.out.rel.cl.aws HWs.out)) HL2.out c3 c4 h3 HS21.out HS22.out).mono ?_
                rintro r w3 ⟨rfl, d3, x1, x2, x3, x4⟩
                have HR23 : Hid (Rel (kp L) mid c d2 d3) := x1
                have HS3 : Hid (Srt (kp L) mid c d3) := x2
                have HK3 : Hid (Rw L qv w3 b d3) := x3
                have hbel3 : Below b w w3 := btr' hbel2 x4
                go_wp2_with fail
                go_end0
                obtain ⟨z1, z2⟩ := sym_done (Nat.le_of_lt hm1) (Nat.le_of_lt hm2) (by rw [HT1.out.rel.len]; exact h3) HR12.out HR23.out HS2.out HS3.out HT1.out.cross
                exact ⟨rfl, d3, HT1.out.rel.trans z1, z2, HK3.out, hbel3⟩
              · have z3 : (mid : Int) < (E : Int) := by omega
                have z4 : ¬ (E : Int) < (c : Int) := by omega
                have HS3 : Hid (Srt (kp L) mid c d2) := (show Srt (kp L) mid c d2 from fun p q y1 y2 y3 => HS21.out p q y1 y2 (by omega))
                obtain ⟨d3, hd3⟩ : ∃ d3, d3 = d2 := ⟨_, rfl⟩
                rw [← hd3] at HK2 HS3
                have HR23 : Hid (Rel (kp L) mid c d2 d3) := (show Rel (kp L) mid c d2 d3 by rw [hd3]; exact Rel.refl _ _ _)
                have HK3 : Hid (Rw L qv w2 b d3) := HK2
                have hbel3 := hbel2
                clear hd3
                go_wp2_with fail
                go_end0
                obtain ⟨z1, z2⟩ := sym_done (Nat.le_of_lt hm1) (Nat.le_of_lt hm2) (by rw [HT1.out.rel.len]; exact h3) HR12.out HR23.out HS2.out HS3.out HT1.out.cross
                exact ⟨rfl, d3, HT1.out.rel.trans z1, z2, HK3.out, hbel3⟩
            · have z3 : ¬ (mid : Int) < (E : Int) := by omega
              have HS3 : Hid (Srt (kp L) mid c d2) := (show Srt (kp L) mid c d2 from fun p q y1 y2 y3 => HS22.out p q (by omega) y2 y3)
              obtain ⟨d3, hd3⟩ : ∃ d3, d3 = d2 := ⟨_, rfl⟩
              rw [← hd3] at HK2 HS3
              have HR23 : Hid (Rel (kp L) mid c d2 d3) := (show Rel (kp L) mid c d2 d3 by rw [hd3]; exact Rel.refl _ _ _)
              have HK3 : Hid (Rw L qv w2 b d3) := HK2
              have hbel3 := hbel2
              clear hd3
              go_wp2_with fail
              go_end0
              obtain ⟨z1, z2⟩ := sym_done (Nat.le_of_lt hm1) (Nat.le_of_lt hm2) (by rw [HT1.out.rel.len]; exact h3) HR12.out HR23.out HS2.out HS3.out HT1.out.cross
              exact ⟨rfl, d3, HT1.out.rel.trans z1, z2, HK3.out, hbel3⟩
          · have z5 : (a : Int) < (i : Int) := by omega
            have z6 : ¬ (i : Int) < (mid : Int) := by omega
            obtain ⟨d2, hd2⟩ : ∃ d2, d2 = d1 := ⟨_, rfl⟩
            have HR12 : Hid (Rel (kp L) a mid d1 d2) := (show Rel (kp L) a mid d1 d2 by rw [hd2]; exact Rel.refl _ _ _)
            have HS2 : Hid (Srt (kp L) a mid d2) := (show Srt (kp L) a mid d2 from fun p q y1 y2 y3 => by rw [hd2]; exact HT1.out.s1 p q y1 y2 (by omega))
            have HK2 : Hid (Rw L qv wr b d2) := (show Rw L qv wr b d2 by rw [hd2]; exact HK1.out)
            have hbel2 := hbel1
            clear hd2 HK1 hbel1
            have HS21 : Hid (Srt (kp L) mid E d2) := (show Srt (kp L) mid E d2 from fun p q y1 y2 y3 => by rw [HR12.out.ka p (by omega), HR12.out.ka q (by omega)]; exact HT1.out.s3 p q y1 y2 y3)
            have HS22 : Hid (Srt (kp L) E c d2) := (show Srt (kp L) E c d2 from fun p q y1 y2 y3 => by rw [HR12.out.ka p (by omega), HR12.out.ka q (by omega)]; exact HT1.out.s4 p q y1 y2 y3)
            have HL2 : Hid (d2.length = d.length) := (show d2.length = d.length by rw [HR12.out.len, HT1.out.rel.len])
            by_cases c3 : mid < E
            · by_cases c4 : E < c
              · have z3 : (mid : Int) < (E : Int) := by omega
                have z4 : (E : Int) < (c : Int) := by omega
                go_wp2_with fail
                refine (HREC.out mid E c d2 wr (by omega) HK2.out (HR12.out.cl.aws (HT1.out.rel.cl.aws HWs.out)) HL2.out c3 c4 h3 HS21.out HS22.out).mono ?_
                rintro r w3 ⟨rfl, d3, x1, x2, x3, x4⟩
                have HR23 : Hid (Rel (kp L) mid c d2 d3) := x1
                have HS3 : Hid (Srt (kp L) mid c d3) := x2
                have HK3 : Hid (Rw L qv w3 b d3) := x3
                have hbel3 : Below b w w3 := btr' hbel2 x4
                go_wp2_with fail
                go_end0
                obtain ⟨z1, z2⟩ := sym_done (Nat.le_of_lt hm1) (Nat.le_of_lt hm2) (by rw [HT1.out.rel.len]; exact h3) HR12.out HR23.out HS2.out HS3.out HT1.out.cross
                exact ⟨rfl, d3, HT1.out.rel.trans z1, z2, HK3.out, hbel3⟩
              · have z3 : (mid : Int) < (E : Int) := by omega
                have z4 : ¬ (E : Int) < (c : Int) := by omega
                have HS3 : Hid (Srt (kp L) mid c d2) := (show Srt (kp L) mid c d2 from fun p q y1 y2 y3 => HS21.out p q y1 y2 (by omega))
                obtain ⟨d3, hd3⟩ : ∃ d3, d3 = d2 := ⟨_, rfl⟩
                rw [← hd3] at HK2 HS3
                have HR23 : Hid (Rel (kp L) mid c d2 d3) := (show Rel (kp L) mid c d2 d3 by rw [hd3]; exact Rel.refl _ _ _)
                have HK3 : Hid (Rw L qv wr b d3) := HK2
                have hbel3 := hbel2
                clear hd3
                go_wp2_with fail
                go_end0
                obtain ⟨z1, z2⟩ := sym_done (Nat.le_of_lt hm1) (Nat.le_of_lt hm2) (by rw [HT1.out.rel.len]; exact h3) HR12.out HR23.out HS2.out HS3.out HT1.out.cross
                exact ⟨rfl, d3, HT1.out.rel.trans z1, z2, HK3.out, hbel3⟩
            · have z3 : ¬ (mid : Int) < (E : Int) := by omega
              have HS3 : Hid (Srt (kp L) mid c d2) := (show Srt (kp L) mid c d2 from fun p q y1 y2 y3 => HS22.out p q (by omega) y2 y3)
              obtain ⟨d3, hd3⟩ : ∃ d3, d3 = d2 := ⟨_, rfl⟩
              rw [← hd3] at HK2 HS3
              have HR23 : Hid (Rel (kp L) mid c d2 d3) := (show Rel (kp L) mid c d2 d3 by rw [hd3]; exact Rel.refl _ _ _)
              have HK3 : Hid (Rw L qv wr b d3) := HK2
              have hbel3 := hbel2
              clear hd3
              go_wp2_with fail
              go_end0
              obtain ⟨z1, z2⟩ := sym_done (Nat.le_of_lt hm1) (Nat.le_of_lt hm2) (by rw [HT1.out.rel.len]; exact h3) HR12.out HR23.out HS2.out HS3.out HT1.out.cross
              exact ⟨rfl, d3, HT1.out.rel.trans z1, z2, HK3.out, hbel3⟩
        · have z5 : ¬ (a : Int) < (i : Int) := by omega
          obtain ⟨d2, hd2⟩ : ∃ d2, d2 = d1 := ⟨_, rfl⟩
          have HR12 : Hid (Rel (kp L) a mid d1 d2) := (show Rel (kp L) a mid d1 d2 by rw [hd2]; exact Rel.refl _ _ _)
          have HS2 : Hid (Srt (kp L) a mid d2) := (show Srt (kp L) a mid d2 from fun p q y1 y2 y3 => by rw [hd2]; exact HT1.out.s2 p q (by omega) y2 y3)
          have HK2 : Hid (Rw L qv wr b d2) := (show Rw L qv wr b d2 by rw [hd2]; exact HK1.out)
          have hbel2 := hbel1
          clear hd2 HK1 hbel1
          have HS21 : Hid (Srt (kp L) mid E d2) := (show Srt (kp L) mid E d2 from fun p q y1 y2 y3 => by rw [HR12.out.ka p (by omega), HR12.out.ka q (by omega)]; exact HT1.out.s3 p q y1 y2 y3)
          have HS22 : Hid (Srt (kp L) E c d2) := (show Srt (kp L) E c d2 from fun p q y1 y2 y3 => by rw [HR12.out.ka p (by omega), HR12.out.ka q (by omega)]; exact HT1.out.s4 p q y1 y2 y3)
          have HL2 : Hid (d2.length = d.length) := (show d2.length = d.length by rw [HR12.out.len, HT1.out.rel.len])
          by_cases c3 : mid < E
          · by_cases c4 : E < c
            · have z3 : (mid : Int) < (E : Int) := by omega
              have z4 : (E : Int) < (c : Int) := by omega
              go_wp2_with fail
              refine (HREC.out mid E c d2 wr (by omega) HK2.out (HR12.out.cl.aws (HT1.out.rel.cl.aws HWs.out)) HL2.out c3 c4 h3 HS21.out HS22.out).mono ?_
              rintro r w3 ⟨rfl, d3, x1, x2, x3, x4⟩
              have HR23 : Hid (Rel (kp L) mid c d2 d3) := x1
              have HS3 : Hid (Srt (kp L) mid c d3) := x2
              have HK3 : Hid (Rw L qv w3 b d3) := x3
              have hbel3 : Below b w w3 := btr' hbel2 x4
              go_wp2_with fail
              go_end0
              obtain ⟨z1, z2⟩ := sym_done (Nat.le_of_lt hm1) (Nat.le_of_lt hm2) (by rw [HT1.out.rel.len]; exact h3) HR12.out HR23.out HS2.out HS3.out HT1.out.cross
              exact ⟨rfl, d3, HT1.out.rel.trans z1, z2, HK3.out, hbel3⟩
            · have z3 : (mid : Int) < (E : Int) := by omega
              have z4 : ¬ (E : Int) < (c : Int) := by omega
              have HS3 : Hid (Srt (kp L) mid c d2) := (show Srt (kp L) mid c d2 from fun p q y1 y2 y3 => HS21.out p q y1 y2 (by omega))
              obtain ⟨d3, hd3⟩ : ∃ d3, d3 = d2 := ⟨_, rfl⟩
              rw [← hd3] at HK2 HS3
              have HR23 : Hid (Rel (kp L) mid c d2 d3) := (show Rel (kp L) mid c d2 d3 by rw [hd3]; exact Rel.refl _ _ _)
              have HK3 : Hid (Rw L qv wr b d3) := HK2
              have hbel3 := hbel2
              clear hd3
              go_wp2_with fail
              go_end0
              obtain ⟨z1, z2⟩ := sym_done (Nat.le_of_lt hm1) (Nat.le_of_lt hm2) (by rw [HT1.out.rel.len]; exact h3) HR12.out HR23.out HS2.out HS3.out HT1.out.cross
              exact ⟨rfl, d3, HT1.out.rel.trans z1, z2, HK3.out, hbel3⟩
          · have z3 : ¬ (mid : Int) < (E : Int) := by omega
            have HS3 : Hid (Srt (kp L) mid c d2) := (show Srt (kp L) mid c d2 from fun p q y1 y2 y3 => HS22.out p q (by omega) y2 y3)
            obtain ⟨d3, hd3⟩ : ∃ d3, d3 = d2 := ⟨_, rfl⟩
            rw [← hd3] at HK2 HS3
            have HR23 : Hid (Rel (kp L) mid c d2 d3) := (show Rel (kp L) mid c d2 d3 by rw [hd3]; exact Rel.refl _ _ _)
            have HK3 : Hid (Rw L qv wr b d3) := HK2
            have hbel3 := hbel2
            clear hd3
            go_wp2_with fail
            go_end0
            obtain ⟨z1, z2⟩ := sym_done (Nat.le_of_lt hm1) (Nat.le_of_lt hm2) (by rw [HT1.out.rel.len]; exact h3) HR12.out HR23.out HS2.out HS3.out HT1.out.cross
            exact ⟨rfl, d3, HT1.out.rel.trans z1, z2, HK3.out, hbel3⟩
end Go.Proofs.Ytfkkciepbmijaab

/-
  PredMeets, walked.
-/
import Derived.Test.YtmobmpghpdaddaaRefM
namespace Go.Proofs.Ytmobmpghpdaddaa
open Go.ChangeShapes Go.WideShapes Go.ChangeAt Go.RowKit
set_option linter.unusedVariables false
set_option linter.unusedSimpArgs false

theorem pick2_any (a : Option Addr) (l : List Tst) (cap : Nat) (w : World) (hs : Ts w a l) (hl : l.length ≤ 9223372036854775807) :
    Calls Try.prog 26 #[.slice a l.length cap] w fun e w' => ∃ x c, e = .returned (.slice x (if wholeB l then pkL (cubF l) else []).length c) ∧ Vs w' x (if wholeB l then pkL (cubF l) else []) ∧ Below w.heap.size w w' :=
  (pick_any a l cap w hs hl).mono fun e w' hq => by
    rcases hq with ⟨h1, h2, h3⟩ | ⟨h1, b, h2, h3⟩
    · rw [h1]
      exact ⟨none, 0, h2, .inl rfl, h3⟩
    · rw [h1, if_pos rfl]
      refine ⟨some ⟨b, 0, none⟩, 10, by rw [pkL_len]; exact h2, .inr ⟨b, 0, rfl, h3.lt, fun i hi => ?_⟩, h3.bel⟩
      rw [pkL_get]
      exact h3.row i (by rwa [pkL_len] at hi)
set_option maxRecDepth 20000 in
set_option maxHeartbeats 8000000 in
theorem meets_walk (ra : Option Addr) (la : List Tst) (ca : Nat) (rb : Option Addr) (lb : List Tst) (cb : Nat) (bv : Option Addr) (vs : List B64) (vc : Nat) (w : World) (hta : Ts w ra la) (hla : la.length ≤ 9223372036854775807) (hlc : la.length ≤ ca) (htb : Ts w rb lb) (hlb : lb.length ≤ 9223372036854775807) (hlbc : lb.length ≤ cb) (hv : Vs w bv vs) (hvl : vs.length ≤ 9223372036854775807) (hvc : vs.length ≤ vc) :
    Calls Try.prog 5 #[.slice ra la.length ca, .slice rb lb.length cb, .slice bv vs.length vc] w fun e w' => e = .returned (.bool true) ∧ Below w.heap.size w w' := by
  have HAw : Hid (∀ u, Below w.heap.size w u → Calls Try.prog 13 #[] u fun e w' => e = .returned (.bool true) ∧ Below w.heap.size w w') := (show ∀ u, _ from fun u g => (awake_any u).mono fun e w' ⟨h1, h2⟩ => ⟨h1, btr g h2 (Nat.le_refl _)⟩)
  have HRa : Hid (Calls Try.prog 21 #[.slice ra la.length ca] w fun e w' => e = .returned (.bool (wholeB la)) ∧ Below w.heap.size w w') := rwhole_any ra la ca w hta hla
  have HRb : Hid (∀ u, Below w.heap.size w u → Calls Try.prog 21 #[.slice rb lb.length cb] u fun e w' => e = .returned (.bool (wholeB lb)) ∧ Below w.heap.size w w') := (show ∀ u, _ from fun u g => (rwhole_any rb lb cb u (htb.below g) hlb).mono fun e w' ⟨h1, h2⟩ => ⟨h1, btr g h2 (Nat.le_refl _)⟩)
  have HWa : Hid (∀ u, Below w.heap.size w u → Calls Try.prog 22 #[.slice ra la.length ca] u fun e w' => e = .returned (.bool (wholeB la)) ∧ Below w.heap.size w w') := (show ∀ u, _ from fun u g => (whole_any ra la ca u (hta.below g) hla).mono fun e w' ⟨h1, h2⟩ => ⟨h1, btr g h2 (Nat.le_refl _)⟩)
  have HIa : Hid (∀ u, Below w.heap.size w u → Calls Try.prog 23 #[.slice ra la.length ca, .slice bv vs.length vc] u fun e w' => e = .returned (.bool (inB la (valR vs))) ∧ Below w.heap.size w w') := (show ∀ u, _ from fun u g => (in_any ra la ca bv vs vc u (hta.below g) (hv.below g) hla).mono fun e w' ⟨h1, h2⟩ => ⟨h1, btr g h2 (Nat.le_refl _)⟩)
  have HIr : Hid (∀ u, Below w.heap.size w u → Calls Try.prog 24 #[.slice ra la.length ca, .slice bv vs.length vc] u fun e w' => e = .returned (.bool (inB la (valR vs))) ∧ Below w.heap.size w w') := (show ∀ u, _ from fun u g => (rin_any ra la ca bv vs vc u (hta.below g) (hv.below g) hla).mono fun e w' ⟨h1, h2⟩ => ⟨h1, btr g h2 (Nat.le_refl _)⟩)
  obtain ⟨PL, hPL⟩ : ∃ PL, (if wholeB la then pkL (cubF la) else []) = PL := ⟨_, rfl⟩
  have hpl : PL.length ≤ 1000 := by rw [← hPL]; split <;> simp [pkL]
  have HPa : Hid (∀ u, Below w.heap.size w u → Calls Try.prog 26 #[.slice ra la.length ca] u fun e w' => ∃ x c, e = .returned (.slice x PL.length c) ∧ Vs w' x PL ∧ Below w.heap.size w w') := (show ∀ u, _ from fun u g => by
    have := pick2_any ra la ca u (hta.below g) hla
    rw [hPL] at this
    exact this.mono fun e w' ⟨x, c, h1, h2, h3⟩ => ⟨x, c, h1, h2, btr g h3 (Nat.le_refl _)⟩)
  have HPr : Hid (∀ u x, Below w.heap.size w u → Vs u x PL → Calls Try.prog 27 #[.slice ra la.length ca] u fun e w' => ∃ y c, e = .returned (.slice y PL.length c) ∧ Vs w' y PL ∧ Vs w' x PL ∧ Below w.heap.size w w') := (show ∀ u x, _ from fun u x g hx => by
    have := rpick_any ra la ca u (hta.below g) hla
    rw [hPL] at this
    exact this.mono fun e w' ⟨y, c, h1, h2, h3⟩ => ⟨y, c, h1, h2, hx.below h3, btr g h3 (Nat.le_refl _)⟩)
  have HNu : Hid (∀ u x c y d, Below w.heap.size w u → Vs u x PL → Vs u y PL → Calls Try.prog 25 #[.slice x PL.length c, .slice y PL.length d] u fun e w' => e = .returned (.bool true) ∧ Below w.heap.size w w') := (show ∀ u x c y d, _ from fun u x c y d g h1 h2 => by
    have := nums_any x PL c y PL d u h1 h2 hpl hpl
    have e : numsB PL PL = true := by unfold numsB; simp
    rw [e] at this
    exact this.mono fun e w' ⟨h1, h2⟩ => ⟨h1, btr g h2 (Nat.le_refl _)⟩)
  have HMt : Hid (∀ u, Below w.heap.size w u → Calls Try.prog 28 #[.slice ra la.length ca, .slice rb lb.length cb] u fun e w' => MtR u la lb e w') := (show ∀ u, _ from fun u g => meet_any ra la ca rb lb cb u (hta.below g) (htb.below g) hla hlb)
  have HMd : Hid (wholeB la = true → wholeB lb = true → ∀ u, Below w.heap.size w u → Calls Try.prog 29 #[.slice ra la.length ca, .slice rb lb.length cb] u fun e w' => MtD u (cubF la) (cubF lb) e w') := (show _ → _ → ∀ u, _ from fun ha hb u g => rmeet_any ra la ca rb lb cb u (hta.below g) (htb.below g) ha hb hla hlb)
  have HSc : Hid (∀ u x c y d (T0 : List Tst), T0.length ≤ 9223372036854775807 → Below w.heap.size w u → Ts u x T0 → Ts u y T0 → Calls Try.prog 30 #[.slice x T0.length c, .slice y T0.length d] u fun e w' => e = .returned (.bool true) ∧ Below w.heap.size w w') := (show ∀ u x c y d T0, _ from fun u x c y d T0 hT g h1 h2 => by
    have := sameC_any x T0 c y T0 d u h1 h2 hT hT
    rw [(sameT_iff T0 T0).2 rfl] at this
    exact this.mono fun e w' ⟨h1, h2⟩ => ⟨h1, btr g h2 (Nat.le_refl _)⟩)
  clear hta htb hv hla hlc hlb hlbc hvl hvc hPL hpl
  rcases (show (wholeB la && wholeB lb) = false ∨ (wholeB la = true ∧ wholeB lb = true) by cases wholeB la <;> cases wholeB lb <;> simp) with hno | ⟨hwa, hwb⟩
  · have HMn : Hid (∀ u, Below w.heap.size w u → Calls Try.prog 28 #[.slice ra la.length ca, .slice rb lb.length cb] u fun e w' => e = .returned (.tuple #[.slice none 0 0, .bool false]) ∧ Below w.heap.size w w') := (show ∀ u, _ from fun u g => (HMt.out u g).mono fun e w' hq => by
      rcases hq with ⟨h1, h2, _⟩ | ⟨_, h2, h3⟩
      · rw [h1, h2] at hno; cases hno
      · exact ⟨h2, btr g h3 (Nat.le_refl _)⟩)
    clear HMt HMd HSc
    generalize inB la (valR vs) = iv at *
    generalize wholeB la = wa at *
    generalize wholeB lb = wb at *
    cases wa <;> cases wb <;> cases iv
    all_goals first | (exfalso; revert hno; simp; done) | skip
    all_goals
      clear hno
      go_enter Try.func5, Try.ntmps5
      go_wp2_with (first
        | (go_at_call_of 21 (Value.slice ra la.length ca); refine HRa.out.mono ?_; rintro e w1 ⟨rfl, h1⟩; have HBz : Hid (Below w.heap.size w w1) := h1; clear h1)
        | (go_at_call 21; refine (HRb.out _ HBz.out).mono ?_; rintro e w1 ⟨rfl, h1⟩; have HBz : Hid (Below w.heap.size w w1) := h1; clear h1)
        | (go_at_call 22; refine (HWa.out _ HBz.out).mono ?_; rintro e w1 ⟨rfl, h1⟩; have HBz : Hid (Below w.heap.size w w1) := h1; clear h1)
        | (go_at_call 23; refine (HIa.out _ HBz.out).mono ?_; rintro e w1 ⟨rfl, h1⟩; have HBz : Hid (Below w.heap.size w w1) := h1; clear h1)
        | (go_at_call 24; refine (HIr.out _ HBz.out).mono ?_; rintro e w1 ⟨rfl, h1⟩; have HBz : Hid (Below w.heap.size w w1) := h1; clear h1)
        | (go_at_call 26; refine (HPa.out _ HBz.out).mono ?_; rintro e w1 ⟨x, xc, rfl, h1, h2⟩; have HBz : Hid (Below w.heap.size w w1) := h2; have HVx : Hid (Vs w1 x PL) := h1; clear h1 h2)
        | (go_at_call 27; refine (HPr.out _ x HBz.out HVx.out).mono ?_; rintro e w1 ⟨y, yc, rfl, h1, h2, h3⟩; have HBz : Hid (Below w.heap.size w w1) := h3; have HVy : Hid (Vs w1 x PL ∧ Vs w1 y PL) := ⟨h2, h1⟩; clear h1 h2 h3)
        | (go_at_call 25; refine (HNu.out _ x xc y yc HBz.out HVy.out.1 HVy.out.2).mono ?_; rintro e w1 ⟨rfl, h1⟩; have HBz : Hid (Below w.heap.size w w1) := h1; clear h1)
        | (go_at_call 28; refine (HMn.out _ HBz.out).mono ?_; rintro e w1 ⟨rfl, h1⟩; have HBz : Hid (Below w.heap.size w w1) := h1; clear h1)
        | (go_at_call 13; refine (HAw.out _ HBz.out).mono ?_; rintro e w1 ⟨rfl, h1⟩; have HBz : Hid (Below w.heap.size w w1) := h1; clear h1))
      go_ret
      exact ⟨rfl, HBz.out⟩
  · have HMd2 : Hid (∀ u, Below w.heap.size w u → Calls Try.prog 29 #[.slice ra la.length ca, .slice rb lb.length cb] u fun e w' => MtD u (cubF la) (cubF lb) e w') := (show ∀ u, _ from HMd.out hwa hwb)
    cases hme : meetB (cubF la) (cubF lb) with
    | true =>
      have HMy : Hid (∀ u, Below w.heap.size w u → Calls Try.prog 28 #[.slice ra la.length ca, .slice rb lb.length cb] u fun e w' => ∃ z f, e = .returned (.tuple #[.slice z (toT (bothK (cubF la) (cubF lb))).length f, .bool true]) ∧ Ts w' z (toT (bothK (cubF la) (cubF lb))) ∧ Below w.heap.size w w') := (show ∀ u, _ from fun u g => (HMt.out u g).mono fun e w' hq => by
        rcases hq with ⟨_, _, _, v, h2, h3⟩ | ⟨h1, _⟩
        · obtain ⟨z, f, rfl, _, hsk⟩ := own_sk kdT h3.own
          exact ⟨z, f, h2, hsk.ts, btr g h3.bel (Nat.le_refl _)⟩
        · rw [hwa, hwb, hme] at h1; cases h1)
      have HDy : Hid (∀ u z, Below w.heap.size w u → Ts u z (toT (bothK (cubF la) (cubF lb))) → Calls Try.prog 29 #[.slice ra la.length ca, .slice rb lb.length cb] u fun e w' => ∃ y f, e = .returned (.tuple #[.slice y (toT (bothK (cubF la) (cubF lb))).length f, .bool true]) ∧ Ts w' y (toT (bothK (cubF la) (cubF lb))) ∧ Ts w' z (toT (bothK (cubF la) (cubF lb))) ∧ Below w.heap.size w w') := (show ∀ u z, _ from fun u z g hz => (HMd2.out u g).mono fun e w' hq => by
        rcases hq with ⟨_, v, h2, h3⟩ | ⟨h1, _⟩
        · obtain ⟨y, f, rfl, _, hsk⟩ := own_sk kdT h3.own
          exact ⟨y, f, h2, hsk.ts, hz.below h3.bel, btr g h3.bel (Nat.le_refl _)⟩
        · rw [hme] at h1; cases h1)
      have hT0 := toT_few (bothK (cubF la) (cubF lb))
      generalize toT (bothK (cubF la) (cubF lb)) = T0 at *
      rw [hwa] at HRa HWa
      rw [hwb] at HRb
      clear hme hwa hwb HMt HMd HMd2
      generalize inB la (valR vs) = iv at *
      cases iv
      all_goals
        go_enter Try.func5, Try.ntmps5
        go_wp2_with (first
          | (go_at_call_of 21 (Value.slice ra la.length ca); refine HRa.out.mono ?_; rintro e w1 ⟨rfl, h1⟩; have HBz : Hid (Below w.heap.size w w1) := h1; clear h1)
          | (go_at_call 21; refine (HRb.out _ HBz.out).mono ?_; rintro e w1 ⟨rfl, h1⟩; have HBz : Hid (Below w.heap.size w w1) := h1; clear h1)
          | (go_at_call 22; refine (HWa.out _ HBz.out).mono ?_; rintro e w1 ⟨rfl, h1⟩; have HBz : Hid (Below w.heap.size w w1) := h1; clear h1)
          | (go_at_call 23; refine (HIa.out _ HBz.out).mono ?_; rintro e w1 ⟨rfl, h1⟩; have HBz : Hid (Below w.heap.size w w1) := h1; clear h1)
          | (go_at_call 24; refine (HIr.out _ HBz.out).mono ?_; rintro e w1 ⟨rfl, h1⟩; have HBz : Hid (Below w.heap.size w w1) := h1; clear h1)
          | (go_at_call 26; refine (HPa.out _ HBz.out).mono ?_; rintro e w1 ⟨x, xc, rfl, h1, h2⟩; have HBz : Hid (Below w.heap.size w w1) := h2; have HVx : Hid (Vs w1 x PL) := h1; clear h1 h2)
          | (go_at_call 27; refine (HPr.out _ x HBz.out HVx.out).mono ?_; rintro e w1 ⟨y, yc, rfl, h1, h2, h3⟩; have HBz : Hid (Below w.heap.size w w1) := h3; have HVy : Hid (Vs w1 x PL ∧ Vs w1 y PL) := ⟨h2, h1⟩; clear h1 h2 h3)
          | (go_at_call 25; refine (HNu.out _ x xc y yc HBz.out HVy.out.1 HVy.out.2).mono ?_; rintro e w1 ⟨rfl, h1⟩; have HBz : Hid (Below w.heap.size w w1) := h1; clear h1)
          | (go_at_call 28; refine (HMy.out _ HBz.out).mono ?_; rintro e w1 ⟨z, zf, rfl, h1, h2⟩; have HBz : Hid (Below w.heap.size w w1) := h2; have HTz : Hid (Ts w1 z T0) := h1; clear h1 h2)
          | (go_at_call 29; refine (HDy.out _ z HBz.out HTz.out).mono ?_; rintro e w1 ⟨z2, zf2, rfl, h1, h2, h3⟩; have HBz : Hid (Below w.heap.size w w1) := h3; have HTy : Hid (Ts w1 z T0 ∧ Ts w1 z2 T0) := ⟨h2, h1⟩; clear h1 h2 h3)
          | (go_at_call 30; refine (HSc.out _ z zf z2 zf2 T0 hT0 HBz.out HTy.out.1 HTy.out.2).mono ?_; rintro e w1 ⟨rfl, h1⟩; have HBz : Hid (Below w.heap.size w w1) := h1; clear h1)
          | (go_at_call 13; refine (HAw.out _ HBz.out).mono ?_; rintro e w1 ⟨rfl, h1⟩; have HBz : Hid (Below w.heap.size w w1) := h1; clear h1))
        go_ret
        exact ⟨rfl, HBz.out⟩
    | false =>
      have HMn : Hid (∀ u, Below w.heap.size w u → Calls Try.prog 28 #[.slice ra la.length ca, .slice rb lb.length cb] u fun e w' => e = .returned (.tuple #[.slice none 0 0, .bool false]) ∧ Below w.heap.size w w') := (show ∀ u, _ from fun u g => (HMt.out u g).mono fun e w' hq => by
        rcases hq with ⟨_, _, h1, _⟩ | ⟨_, h2, h3⟩
        · rw [hme] at h1; cases h1
        · exact ⟨h2, btr g h3 (Nat.le_refl _)⟩)
      have HDn : Hid (∀ u, Below w.heap.size w u → Calls Try.prog 29 #[.slice ra la.length ca, .slice rb lb.length cb] u fun e w' => e = .returned (.tuple #[.slice none 0 0, .bool false]) ∧ Below w.heap.size w w') := (show ∀ u, _ from fun u g => (HMd2.out u g).mono fun e w' hq => by
        rcases hq with ⟨h1, _⟩ | ⟨_, h2, h3⟩
        · rw [hme] at h1; cases h1
        · exact ⟨h2, btr g h3 (Nat.le_refl _)⟩)
      have HS0 : Hid (∀ u, Below w.heap.size w u → Calls Try.prog 30 #[.slice none 0 0, .slice none 0 0] u fun e w' => e = .returned (.bool true) ∧ Below w.heap.size w w') := (show ∀ u, _ from fun u g => HSc.out u none 0 none 0 [] (by simp) g (.inl rfl) (.inl rfl))
      rw [hwa] at HRa HWa
      rw [hwb] at HRb
      clear hme hwa hwb HMt HMd HMd2
      generalize inB la (valR vs) = iv at *
      cases iv
      all_goals
        go_enter Try.func5, Try.ntmps5
        go_wp2_with (first
          | (go_at_call_of 21 (Value.slice ra la.length ca); refine HRa.out.mono ?_; rintro e w1 ⟨rfl, h1⟩; have HBz : Hid (Below w.heap.size w w1) := h1; clear h1)
          | (go_at_call 21; refine (HRb.out _ HBz.out).mono ?_; rintro e w1 ⟨rfl, h1⟩; have HBz : Hid (Below w.heap.size w w1) := h1; clear h1)
          | (go_at_call 22; refine (HWa.out _ HBz.out).mono ?_; rintro e w1 ⟨rfl, h1⟩; have HBz : Hid (Below w.heap.size w w1) := h1; clear h1)
          | (go_at_call 23; refine (HIa.out _ HBz.out).mono ?_; rintro e w1 ⟨rfl, h1⟩; have HBz : Hid (Below w.heap.size w w1) := h1; clear h1)
          | (go_at_call 24; refine (HIr.out _ HBz.out).mono ?_; rintro e w1 ⟨rfl, h1⟩; have HBz : Hid (Below w.heap.size w w1) := h1; clear h1)
          | (go_at_call 26; refine (HPa.out _ HBz.out).mono ?_; rintro e w1 ⟨x, xc, rfl, h1, h2⟩; have HBz : Hid (Below w.heap.size w w1) := h2; have HVx : Hid (Vs w1 x PL) := h1; clear h1 h2)
          | (go_at_call 27; refine (HPr.out _ x HBz.out HVx.out).mono ?_; rintro e w1 ⟨y, yc, rfl, h1, h2, h3⟩; have HBz : Hid (Below w.heap.size w w1) := h3; have HVy : Hid (Vs w1 x PL ∧ Vs w1 y PL) := ⟨h2, h1⟩; clear h1 h2 h3)
          | (go_at_call 25; refine (HNu.out _ x xc y yc HBz.out HVy.out.1 HVy.out.2).mono ?_; rintro e w1 ⟨rfl, h1⟩; have HBz : Hid (Below w.heap.size w w1) := h1; clear h1)
          | (go_at_call 28; refine (HMn.out _ HBz.out).mono ?_; rintro e w1 ⟨rfl, h1⟩; have HBz : Hid (Below w.heap.size w w1) := h1; clear h1)
          | (go_at_call 29; refine (HDn.out _ HBz.out).mono ?_; rintro e w1 ⟨rfl, h1⟩; have HBz : Hid (Below w.heap.size w w1) := h1; clear h1)
          | (go_at_call 30; refine (HS0.out _ HBz.out).mono ?_; rintro e w1 ⟨rfl, h1⟩; have HBz : Hid (Below w.heap.size w w1) := h1; clear h1)
          | (go_at_call 13; refine (HAw.out _ HBz.out).mono ?_; rintro e w1 ⟨rfl, h1⟩; have HBz : Hid (Below w.heap.size w w1) := h1; clear h1))
        go_ret
        exact ⟨rfl, HBz.out⟩
end Go.Proofs.Ytmobmpghpdaddaa

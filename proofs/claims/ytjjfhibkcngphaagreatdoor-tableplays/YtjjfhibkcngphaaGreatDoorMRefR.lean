/-
  The document's Width, all, whole: what they answer, as contracts.
-/
import Derived.Test.YtjjfhibkcngphaaGreatDoorMRightP
namespace Go.Proofs.YtjjfhibkcngphaaGreatDoor.Mt
open Go.ChangeShapes Go.WideShapes Go.ChangeAt Go.RowKit

set_option maxHeartbeats 1000000 in
theorem rwidth_any (f : Int) (w : World) : Calls Tryz.prog 60 #[.int .i64 f] w fun e w' => e = .returned (.int .i64 (wdV f)) ∧ Below w.heap.size w w' := by
  by_cases h : f < 1 ∨ 9 < f
  · rw [wdV_none h]
    rcases h with h | h
    · go_enter Tryz.func60, Tryz.ntmps60
      go_wp2
      go_ret
      exact ⟨rfl, by go_grown⟩
    · have h1 : ¬ f < 1 := by omega
      go_enter Tryz.func60, Tryz.ntmps60
      go_wp2
      go_ret
      exact ⟨rfl, by go_grown⟩
  · rcases cls9 h with rfl | rfl | rfl | rfl | rfl | rfl | rfl | rfl | rfl
    all_goals
      clear h
      go_enter Tryz.func60, Tryz.ntmps60
      go_wp2
      go_ret
      exact ⟨rfl, by go_grown⟩
set_option maxHeartbeats 2000000 in
theorem rall_any (f : Int) (w : World) : Calls Tryz.prog 61 #[.int .i64 f] w fun e w' => e = .returned (.int .u64 (grV f)) ∧ Below w.heap.size w w' := by
  by_cases h : f < 1 ∨ 9 < f
  · have hw := rwidth_any f
    rw [wdV_none h] at hw
    rw [grV_none h]
    clear h
    go_enter Tryz.func61, Tryz.ntmps61
    go_wp2_with fail
    refine (hw _).mono ?_
    rintro x w1 ⟨rfl, g1⟩
    go_wp2_with fail
    go_ret
    exact ⟨rfl, g1⟩
  · rcases cls9 h with rfl | rfl | rfl | rfl | rfl | rfl | rfl | rfl | rfl
    all_goals
      clear h
      go_enter Tryz.func61, Tryz.ntmps61
      go_wp2_with fail
      refine (rwidth_any _ _).mono ?_
      rintro x w1 ⟨rfl, g1⟩
      simp only [show wdV 1 = 32 from rfl, show wdV 2 = 64 from rfl, show wdV 3 = 13 from rfl, show wdV 4 = 16 from rfl, show wdV 5 = 32 from rfl, show wdV 6 = 32 from rfl, show wdV 7 = 8 from rfl, show wdV 8 = 16 from rfl, show wdV 9 = 16 from rfl]
      go_wp2_with fail
      go_ret
      exact ⟨rfl, g1⟩

theorem wholeV_drop (l : List T) (n k : Nat) (f : Int) (hn : n ≤ l.length) (hk : k < n) :
    wholeV ((l.take n).drop k) f = if (l[k]'(by omega)).1 = f ∧ (l[k]'(by omega)).2.2 = grV f then some (l[k]'(by omega)).2.1 else wholeV ((l.take n).drop (k + 1)) f := by
  have hlen : k < (l.take n).length := by rw [List.length_take]; omega
  rw [List.drop_eq_getElem_cons hlen, List.getElem_take]
  by_cases h : (l[k]'(by omega)).1 = f ∧ (l[k]'(by omega)).2.2 = grV f
  · rw [if_pos h]
    simp [wholeV, h.1, h.2]
  · rw [if_neg h]
    have : ((l[k]'(by omega)).1 == f && (l[k]'(by omega)).2.2 == grV f) = false := by
      rw [Bool.and_eq_false_iff, beq_eq_false_iff_ne, beq_eq_false_iff_ne]
      by_cases h1 : (l[k]'(by omega)).1 = f
      · exact .inr fun h2 => h ⟨h1, h2⟩
      · exact .inl h1
    simp [wholeV, this]

set_option maxHeartbeats 4000000 in
theorem rwhole_any (a : Option Addr) (l : List T) (cap : Nat) (f : Int) (n : Nat) (w : World) (h : Ts w a l) (hl : l.length ≤ 100000) (hn : n ≤ l.length) :
    Calls Tryz.prog 62 #[.slice a l.length cap, .int .i64 f, .int .i64 n] w fun e w' => e = .returned (.tuple #[.int .u64 ((wholeV (l.take n) f).getD 0), .bool (wholeV (l.take n) f).isSome]) ∧ Below w.heap.size w w' := by
  have HA : Hid (∀ w, Calls Tryz.prog 61 #[.int .i64 f] w fun e w' => e = .returned (.int .u64 (grV f)) ∧ Below w.heap.size w w') := fun w => rall_any f w
  generalize hR : wholeV (l.take n) f = R
  have HX : Hid (∀ k (hk : k < n), wholeV ((l.take n).drop k) f = if (l[k]'(by omega)).1 = f ∧ (l[k]'(by omega)).2.2 = grV f then some (l[k]'(by omega)).2.1 else wholeV ((l.take n).drop (k + 1)) f) := fun k hk => wholeV_drop l n k f hn hk
  go_enter Tryz.func62, Tryz.ntmps62
  go_wp2_with fail
  go_loopw [8] (fun i wr => ∃ k : Nat, k ≤ n ∧ i = .int .i64 k ∧ wholeV ((l.take n).drop k) f = R ∧ Below w.heap.size w wr) (fun i _ => n - (intOf i).toNat)
  case atStart => exact ⟨0, by omega, rfl, hR, Below.refl _ _⟩
  case round =>
    obtain ⟨k, hk, rfl, hr, hbel⟩ := hrel
    by_cases hlt : k < n
    · have hkl : k < l.length := by omega
      have hT := h.below hbel
      obtain ⟨g, o, rfl, hg, hcs⟩ := hT.at hkl
      have hc := hcs k hkl
      have q := C3.gr hc hg
      have q0 := fun n => (q n).1
      have q2 := fun n => (q n).2.2
      clear q
      have hx := HX.out k hlt
      rw [hr] at hx
      cases h1 : (l[k].1 == f) with
      | false =>
        have hne : ¬ l[k].1 = f := by simpa using h1
        have HY : Hid (wholeV ((l.take n).drop (k + 1)) f = R) := (show _ = _ by rw [hx, if_neg (fun y => hne y.1)])
        clear hx hr hR
        go_wp2_with fail
        refine wp_region_grow (by kernel_rfl) (by kernel_rfl) ?_
        repeat (go_big_quiet_step (first | (go_at_call 61; exact quiet_gr (HA.out _))))
        refine wpQuiet_nil ?_
        rintro w2 hw'
        have g2 := gr_elim hw'
        clear hw'
        have g3 : Below w.heap.size w w2 := btr hbel g2 (Nat.le_refl _)
        go_wp2_with fail
        go_roundw
        case rel => exact ⟨k + 1, by omega, by go_num, HY.out, g3⟩
        case measure => simp [intOf]; omega
      | true =>
        have he : l[k].1 = f := by simpa using h1
        cases h2 : (l[k].2.2 == grV f) with
        | false =>
          have hne : ¬ l[k].2.2 = grV f := by simpa using h2
          have HY : Hid (wholeV ((l.take n).drop (k + 1)) f = R) := (show _ = _ by rw [hx, if_neg (fun y => hne y.2)])
          clear hx hr hR he hne
          go_wp2_with fail
          refine wp_region_grow (by kernel_rfl) (by kernel_rfl) ?_
          repeat (go_big_quiet_step (first | (go_at_call 61; exact quiet_gr (HA.out _))))
          refine wpQuiet_nil ?_
          rintro w2 hw'
          have g2 := gr_elim hw'
          clear hw'
          have g3 : Below w.heap.size w w2 := btr hbel g2 (Nat.le_refl _)
          try rw [h2]
          go_wp2_with fail
          go_roundw
          case rel => exact ⟨k + 1, by omega, by go_num, HY.out, g3⟩
          case measure => simp [intOf]; omega
        | true =>
          have he2 : l[k].2.2 = grV f := by simpa using h2
          have HY : Hid (R = some l[k].2.1) := (show _ = _ by rw [hx, if_pos ⟨he, he2⟩])
          clear hx hr hR he he2
          go_wp2_with fail
          refine wp_region_grow (by kernel_rfl) (by kernel_rfl) ?_
          repeat (go_big_quiet_step (first | (go_at_call 61; exact quiet_gr (HA.out _))))
          refine wpQuiet_nil ?_
          rintro w2 hw'
          have g2 := gr_elim hw'
          clear hw'
          obtain ⟨c0, c1, c2⟩ := C3.below (t := l[k]) hc hg g2
          have g3 : Below w.heap.size w w2 := btr hbel g2 (Nat.le_refl _)
          try rw [h2]
          go_wp2_with fail
          go_ret2
          exact ⟨by rw [HY.out]; rfl, g3⟩
    · have hk' : k = n := by omega
      subst hk'
      have e : R = none := by
        rw [← hr, List.drop_of_length_le (by rw [List.length_take]; omega)]
        rfl
      go_wp2_with fail
      go_ret2
      exact ⟨by rw [e]; rfl, hbel⟩
end Go.Proofs.YtjjfhibkcngphaaGreatDoor.Mt

/-
  The law MeterPlays's walk: both buckets go in step, call by call.
-/
import Derived.Test.YtkbcbijaejmfdaaRef
import Derived.Test.YtkbcbijaejmfdaaBoth
import Derived.Deep.RegionWith
namespace Go.Proofs.Ytkbcbijaejmfdaa
open Go.ChangeShapes Go.WideShapes Go.ChangeAt Go.RowKit

set_option maxHeartbeats 2000000 in
set_option maxRecDepth 20000 in
theorem plays_some (r m : Int) (g o len cap : Nat) (P : Nat → Bool) (N : Nat → Int) (w : World) (h1 : mayB r = true) (h2 : mayB m = true) (hg : g < w.heap.size)
    (hc : ∀ i, i < len → w.cell? ⟨g, o + i * 2, none⟩ = some (.bool (P i)) ∧ w.cell? ⟨g, o + i * 2 + 1, none⟩ = some (.int .i64 (N i))) :
    Calls Try.prog 3 #[.int .i64 r, .int .i64 m, .slice (some ⟨g, o, none⟩) len cap] w fun x w' => x = .returned (.bool true) ∧ Below w.heap.size w w' := by
  have HC : Hid (∀ i, i < len → w.cell? ⟨g, o + i * 2, none⟩ = some (.bool (P i)) ∧ w.cell? ⟨g, o + i * 2 + 1, none⟩ = some (.int .i64 (N i))) := hc
  clear hc
  have T0 := two_new w r m (mayB_fit h1 h2) 46 38
  go_enter Try.func3, Try.ntmps3
  go_wp2_with fail
  refine (new_yes _ _ _ h1 h2).mono ?_
  rintro x w1 ⟨rfl, rfl⟩
  go_wp2_with fail
  refine (rnew_yes _ _ _ h1 h2).mono ?_
  rintro x w2 ⟨rfl, rfl⟩
  go_wp2_with fail
  clear h1 h2
  go_loopw [11] (fun i wr => ∃ (k : Nat) (l : Int), k ≤ len ∧ k ≤ 200 ∧ i = .int .i64 k ∧ Two w wr r m l) (fun i _ => 200 - (intOf i).toNat)
  case atStart => exact ⟨0, m, Nat.zero_le _, Nat.zero_le _, rfl, T0⟩
  case round =>
    clear T0
    obtain ⟨k, l, hk, hk2, rfl, t⟩ := hrel
    by_cases hlt : k < len ∧ k < 200
    · obtain ⟨hkl, hk6⟩ := hlt
      have hC := HC.out k hkl
      have hcl : wr.cell? ⟨g, o + k * 2, none⟩ = some (.bool (P k)) := (t.bel.cell (p := ⟨g, _, none⟩) hg).trans hC.1
      have HCN : Hid (∀ W : World, Below w.heap.size w W → W.cell? ⟨g, o + k * 2 + 1, none⟩ = some (.int .i64 (N k))) := fun W hb => (hb.cell (p := ⟨g, _, none⟩) hg).trans hC.2
      have hcn := HCN.out wr t.bel
      clear hC HC
      generalize N k = n at *
      cases hP : P k
      · rw [hP] at hcl
        go_wp2_with fail
        clear hcl hP
        refine (take_any w.heap.size r m l n _ t.a t.f).mono ?_
        rintro x w1 ⟨rfl, k1, o1⟩
        have bb1 : Below w.heap.size w w1 := o1.below (Nat.le_refl _) t.bel
        have hn1 := HCN.out w1 bb1
        clear hcn
        go_wp2_with fail
        refine (rtake_any (w.heap.size + 1) r m l n _ (t.b.only o1 (by omega)) t.f).mono ?_
        rintro x w2 ⟨rfl, k2, o2⟩
        have t2 : Two w w2 r m (takeL l n) := ⟨k1.only o2 (by omega), k2, t.f.take n, o2.below (by omega) bb1⟩
        clear hn1 k1 k2 o1 o2 bb1 t HCN
        obtain ⟨q0, q1, q2, q3⟩ := t2.b
        go_wp2_with fail
        go_quiet ((go_at_call 16; exact Calls.quiet_of_same (left_any _ _ _ _ _ (t2.a.drewN _))))
        go_wp2_with fail
        go_roundw
        case rel => exact ⟨k + 1, _, by omega, by omega, by go_num, ⟨t2.a.drewN _, t2.b.drewN _, t2.f, belN t2.bel _⟩⟩
        case measure => simp [intOf]; omega
      · rw [hP] at hcl
        go_wp2_with fail
        clear hcl hP
        go_region_with (first
          | (go_at_call 12; refine (tick_any w.heap.size r m l n _ ?_ t.f).mono ?_; exact Bk.drew t.a; rintro x w1 ⟨rfl, k1, o1⟩; have bb1 : Below w.heap.size w w1 := o1.below (Nat.le_refl _) t.bel.drew; have hn1 := HCN.out w1 bb1)
          | (go_at_call 13; refine (rtick_any (w.heap.size + 1) r m l n _ ?_ t.f).mono ?_; exact Bk.only (Bk.drew t.b) o1 (by omega); rintro x w2 ⟨rfl, k2, o2⟩))
        all_goals
          have t2 : Two w w2 r m (tickL r m l n) := ⟨k1.only o2 (by omega), k2, t.f.tick n, o2.below (by omega) bb1⟩
          clear hcn hn1 k1 k2 o1 o2 bb1 t HCN
          obtain ⟨q0, q1, q2, q3⟩ := t2.b
          go_wp2_with fail
          go_quiet ((go_at_call 16; exact Calls.quiet_of_same (left_any _ _ _ _ _ (t2.a.drewN _))))
          go_wp2_with fail
          go_roundw
          case rel => exact ⟨k + 1, _, by omega, by omega, by go_num, ⟨t2.a.drewN _, t2.b.drewN _, t2.f, belN t2.bel _⟩⟩
          case measure => simp [intOf]; omega
    · clear HC
      have bel := t.bel
      by_cases hl : k < len
      · have h6 : ¬ k < 200 := fun h => hlt ⟨hl, h⟩
        clear hlt t
        go_wp2_with fail
        refine (awake_any _).mono ?_
        rintro x w3 ⟨rfl, g3⟩
        go_wp2_with fail
        go_ret
        exact ⟨rfl, btrans bel g3⟩
      · clear hlt t
        go_wp2_with fail
        refine (awake_any _).mono ?_
        rintro x w3 ⟨rfl, g3⟩
        go_wp2_with fail
        go_ret
        exact ⟨rfl, btrans bel g3⟩

set_option maxHeartbeats 1000000 in
theorem plays_zero (r m : Int) (a : Option Addr) (cap : Nat) (w : World) (h1 : mayB r = true) (h2 : mayB m = true) :
    Calls Try.prog 3 #[.int .i64 r, .int .i64 m, .slice a 0 cap] w fun x w' => x = .returned (.bool true) ∧ Below w.heap.size w w' := by
  have bel := (two_new w r m (mayB_fit h1 h2) 46 38).bel
  go_enter Try.func3, Try.ntmps3
  go_wp2_with fail
  refine (new_yes _ _ _ h1 h2).mono ?_
  rintro x w1 ⟨rfl, rfl⟩
  go_wp2_with fail
  refine (rnew_yes _ _ _ h1 h2).mono ?_
  rintro x w2 ⟨rfl, rfl⟩
  go_wp2_with fail
  refine wp_loop_rounds 1 ?_
  rw [rounds_succ]
  go_wp2_with fail
  refine (awake_any _).mono ?_
  rintro x w3 ⟨rfl, g3⟩
  go_wp2_with fail
  go_ret
  exact ⟨rfl, btrans bel g3⟩

set_option maxHeartbeats 1000000 in
theorem plays_no (r m : Int) (v : Value) (w : World) (h : (mayB r && mayB m) = false) :
    Calls Try.prog 3 #[.int .i64 r, .int .i64 m, v] w fun x w' => x = .returned (.bool true) ∧ Below w.heap.size w w' := by
  go_enter Try.func3, Try.ntmps3
  go_wp2_with (first
    | (go_at_call 9; refine (new_no _ _ _ h).mono ?_; rintro x w1 ⟨rfl, rfl⟩)
    | (go_at_call 10; refine (rnew_no _ _ _ h).mono ?_; rintro x w2 ⟨rfl, rfl⟩)
    | (go_at_call 11; refine (awake_any _).mono ?_; rintro x w3 ⟨rfl, g3⟩))
  go_ret
  exact ⟨rfl, by assumption⟩

theorem plays_walk (r m : Int) (a : Option Addr) (len cap : Nat) (P : Nat → Bool) (N : Nat → Int) (w : World) (_ : (Lit.int .i64 r).wf = true) (_ : (Lit.int .i64 m).wf = true) (ha : Asks w a len P N) :
    Calls Try.prog 3 #[.int .i64 r, .int .i64 m, .slice a len cap] w fun x w' => x = .returned (.bool true) ∧ Below w.heap.size w w' := by
  cases hm : (mayB r && mayB m)
  · exact plays_no r m _ w hm
  · obtain ⟨h1, h2⟩ : mayB r = true ∧ mayB m = true := by simpa using hm
    rcases ha with rfl | ⟨g, o, rfl, hg, hc⟩
    · exact plays_zero r m a cap w h1 h2
    · exact plays_some r m g o len cap P N w h1 h2 hg hc
end Go.Proofs.Ytkbcbijaejmfdaa

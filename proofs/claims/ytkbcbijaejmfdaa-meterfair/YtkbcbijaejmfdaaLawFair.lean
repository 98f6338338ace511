/-
  The law MeterFair's walk: a Tick of many, and as many Ticks of one.
-/
import Derived.Test.YtkbcbijaejmfdaaBoth
namespace Go.Proofs.Ytkbcbijaejmfdaa
open Go.ChangeShapes Go.WideShapes Go.ChangeAt Go.RowKit

theorem tick_nn {r m l t : Int} (ht : 0 ≤ t) : tickL r m l t = if m ≤ l + r * t then m else l + r * t := if_neg (by omega)
theorem tick_zero {r m l : Int} (f : Fit r m l) : tickL r m l 0 = l := by
  obtain ⟨a, b, c, d, e⟩ := f
  rw [tick_nn (by omega), Int.mul_zero]
  split <;> omega
theorem tick_succ {r m l : Int} (f : Fit r m l) (k : Nat) : tickL r m (tickL r m l k) 1 = tickL r m l ((k + 1 : Nat) : Int) := by
  obtain ⟨a, b, c, d, e⟩ := f
  have h0 := Int.mul_nonneg a (by omega : (0 : Int) ≤ (k : Int))
  have h1 : r * ((k + 1 : Nat) : Int) = r * (k : Int) + r := by rw [Int.natCast_add, Int.mul_add]; simp
  rw [tick_nn (t := 1) (by omega), tick_nn (t := ((k + 1 : Nat) : Int)) (by omega), tick_nn (t := (k : Int)) (by omega), h1, Int.mul_one]
  by_cases h : m ≤ l + r * (k : Int)
  · rw [if_pos h, if_pos (by omega), if_pos (by omega)]
  · rw [if_neg h]
    by_cases h' : m ≤ l + r * (k : Int) + r
    · rw [if_pos h', if_pos (by omega)]
    · rw [if_neg h', if_neg (by omega)]; omega

set_option maxHeartbeats 4000000 in
set_option maxRecDepth 20000 in
theorem fair_some (r m : Int) (g o len cap : Nat) (P : Nat → Bool) (N : Nat → Int) (w : World) (h1 : mayB r = true) (h2 : mayB m = true) (hg : g < w.heap.size)
    (hc : ∀ i, i < len → w.cell? ⟨g, o + i * 2, none⟩ = some (.bool (P i)) ∧ w.cell? ⟨g, o + i * 2 + 1, none⟩ = some (.int .i64 (N i))) :
    Calls Try.prog 5 #[.int .i64 r, .int .i64 m, .slice (some ⟨g, o, none⟩) len cap] w fun x w' => x = .returned (.bool true) ∧ Below w.heap.size w w' := by
  have HC : Hid (∀ i, i < len → w.cell? ⟨g, o + i * 2, none⟩ = some (.bool (P i)) ∧ w.cell? ⟨g, o + i * 2 + 1, none⟩ = some (.int .i64 (N i))) := hc
  clear hc
  have T0 := two_new w r m (mayB_fit h1 h2) 46 46
  go_enter Try.func5, Try.ntmps5
  go_wp2_with fail
  refine (new_yes _ _ _ h1 h2).mono ?_
  rintro x w1 ⟨rfl, rfl⟩
  go_wp2_with fail
  refine (new_yes _ _ _ h1 h2).mono ?_
  rintro x w2 ⟨rfl, rfl⟩
  go_wp2_with fail
  clear h1 h2
  go_loopw [11] (fun i wr => ∃ (k : Nat) (l : Int), k ≤ len ∧ k ≤ 50 ∧ i = .int .i64 k ∧ Two w wr r m l) (fun i _ => 50 - (intOf i).toNat)
  case atStart => exact ⟨0, m, Nat.zero_le _, Nat.zero_le _, rfl, T0⟩
  case round =>
    clear T0
    obtain ⟨k, l, hk, hk2, rfl, t⟩ := hrel
    by_cases hlt : k < len ∧ k < 50
    · obtain ⟨hkl, hk6⟩ := hlt
      have hC := HC.out k hkl
      have hcl : wr.cell? ⟨g, o + k * 2, none⟩ = some (.bool (P k)) := (t.bel.cell (p := ⟨g, _, none⟩) hg).trans hC.1
      have hcn : wr.cell? ⟨g, o + k * 2 + 1, none⟩ = some (.int .i64 (N k)) := (t.bel.cell (p := ⟨g, _, none⟩) hg).trans hC.2
      clear hC HC
      generalize N k = n at *
      cases hP : P k
      · rw [hP] at hcl
        go_wp2_with fail
        clear hcl hcn hP
        refine (take_any w.heap.size r m l n _ t.a t.f).mono ?_
        rintro x w1 ⟨rfl, k1, o1⟩
        have bb1 : Below w.heap.size w w1 := o1.below (Nat.le_refl _) t.bel
        go_wp2_with fail
        refine (take_any (w.heap.size + 1) r m l n _ (t.b.only o1 (by omega)) t.f).mono ?_
        rintro x w2 ⟨rfl, k2, o2⟩
        have t2 : Two w w2 r m (takeL l n) := ⟨k1.only o2 (by omega), k2, t.f.take n, o2.below (by omega) bb1⟩
        clear k1 k2 o1 o2 bb1 t
        go_wp2_with fail
        refine (left_any _ _ _ _ _ t2.a).mono ?_
        rintro x w3 ⟨rfl, rfl⟩
        go_wp2_with fail
        refine (left_any _ _ _ _ _ t2.b).mono ?_
        rintro x w3 ⟨rfl, rfl⟩
        go_wp2_with fail
        go_roundw
        case rel => exact ⟨k + 1, _, by omega, by omega, by go_num, t2⟩
        case measure => simp [intOf]; omega
      · rw [hP] at hcl
        have hn : 50 < n ∨ n < 0 ∨ (0 ≤ n ∧ n ≤ 50) := by omega
        rcases hn with hn | hn | ⟨hn, hn5⟩
        · have bel := t.bel
          go_wp2_with fail
          clear hcl hcn hP t
          refine (awake_any _).mono ?_
          rintro x w3 ⟨rfl, g3⟩
          go_wp2_with fail
          go_ret
          exact ⟨rfl, btrans bel g3⟩
        · have he : argE n = 1 := if_pos hn
          go_wp2_with fail
          clear hcl hcn hP
          refine (tick_any w.heap.size r m l n _ t.a t.f).mono ?_
          rintro x w1 ⟨rfl, k1, o1⟩
          have bb1 : Below w.heap.size w w1 := o1.below (Nat.le_refl _) t.bel
          clear k1 o1 t
          rw [he]
          clear he
          go_wp2_with fail
          refine (awake_any _).mono ?_
          rintro x w3 ⟨rfl, g3⟩
          go_wp2_with fail
          go_ret
          exact ⟨rfl, btrans bb1 g3⟩
        · have he : argE n = 0 := if_neg (by omega)
          obtain ⟨nn, rfl⟩ := Int.eq_ofNat_of_zero_le hn
          go_wp2_with fail
          clear hcl hcn hP
          refine (tick_any w.heap.size r m l nn _ t.a t.f).mono ?_
          rintro x w1 ⟨rfl, k1, o1⟩
          have bb1 : Below w.heap.size w w1 := o1.below (Nat.le_refl _) t.bel
          rw [he]
          clear he
          have kb : Bk w1 (w.heap.size + 1) r m l := t.b.only o1 (by omega)
          have F := t.f
          clear t o1
          go_wp2_with fail
          go_loopw [13] (fun i wr => ∃ (q : Nat), q ≤ nn ∧ i = .int .i64 q ∧ Bk wr w.heap.size r m (tickL r m l nn) ∧ Bk wr (w.heap.size + 1) r m (tickL r m l q) ∧ Below w.heap.size w wr) (fun i _ => nn - (intOf i).toNat)
          case atStart => exact ⟨0, Nat.zero_le _, rfl, k1, by rw [Int.natCast_zero, tick_zero F]; exact kb, bb1⟩
          case round =>
            clear k1 kb bb1
            obtain ⟨q, hq, rfl, k1, k2, bb⟩ := hrel
            by_cases hqn : q < nn
            · go_wp2_with fail
              refine (tick_any (w.heap.size + 1) r m _ 1 _ k2 (F.tick _)).mono ?_
              rintro x w3 ⟨rfl, k3, o3⟩
              rw [tick_succ F] at k3
              have k4 := k1.only o3 (by omega)
              have b4 := o3.below (by omega) bb
              clear k1 k2 bb o3
              go_wp2_with fail
              go_roundw
              case rel => exact ⟨q + 1, by omega, by go_num, k4, k3, b4⟩
              case measure => simp [intOf]; omega
            · obtain rfl : q = nn := by omega
              have t2 : Two w _ r m (tickL r m l q) := ⟨k1, k2, F.tick _, bb⟩
              clear k1 k2 bb
              go_wp2_with fail
              refine (left_any _ _ _ _ _ t2.a).mono ?_
              rintro x w3 ⟨rfl, rfl⟩
              go_wp2_with fail
              refine (left_any _ _ _ _ _ t2.b).mono ?_
              rintro x w3 ⟨rfl, rfl⟩
              go_wp2_with fail
              go_roundw
              case rel => exact ⟨k + 1, _, by omega, by omega, by go_num, t2⟩
              case measure => simp [intOf]; omega
    · clear HC
      have bel := t.bel
      by_cases hl : k < len
      · have h6 : ¬ k < 50 := fun h => hlt ⟨hl, h⟩
        clear hlt t
        go_wp2_with fail
        refine (awake_any _).mono ?_
        rintro x w3 ⟨rfl, g3⟩
        go_wp2_with fail
        go_ret
        exact ⟨rfl, btrans bel g3⟩
      · clear hlt t
        go_wp2_with fail
        refine (awake_any _).mono ?_
        rintro x w3 ⟨rfl, g3⟩
        go_wp2_with fail
        go_ret
        exact ⟨rfl, btrans bel g3⟩

set_option maxHeartbeats 1000000 in
theorem fair_zero (r m : Int) (a : Option Addr) (cap : Nat) (w : World) (h1 : mayB r = true) (h2 : mayB m = true) :
    Calls Try.prog 5 #[.int .i64 r, .int .i64 m, .slice a 0 cap] w fun x w' => x = .returned (.bool true) ∧ Below w.heap.size w w' := by
  have bel := (two_new w r m (mayB_fit h1 h2) 46 46).bel
  go_enter Try.func5, Try.ntmps5
  go_wp2_with fail
  refine (new_yes _ _ _ h1 h2).mono ?_
  rintro x w1 ⟨rfl, rfl⟩
  go_wp2_with fail
  refine (new_yes _ _ _ h1 h2).mono ?_
  rintro x w2 ⟨rfl, rfl⟩
  go_wp2_with fail
  refine wp_loop_rounds 1 ?_
  rw [rounds_succ]
  go_wp2_with fail
  refine (awake_any _).mono ?_
  rintro x w3 ⟨rfl, g3⟩
  go_wp2_with fail
  go_ret
  exact ⟨rfl, btrans bel g3⟩

set_option maxHeartbeats 1000000 in
theorem fair_no (r m : Int) (v : Value) (w : World) (h : (mayB r && mayB m) = false) :
    Calls Try.prog 5 #[.int .i64 r, .int .i64 m, v] w fun x w' => x = .returned (.bool true) ∧ Below w.heap.size w w' := by
  go_enter Try.func5, Try.ntmps5
  go_wp2_with (first
    | (go_at_call 9; refine (new_no _ _ _ h).mono ?_; rintro x w1 ⟨rfl, rfl⟩)
    | (go_at_call 11; refine (awake_any _).mono ?_; rintro x w3 ⟨rfl, g3⟩))
  go_ret
  exact ⟨rfl, by assumption⟩

theorem fair_walk (r m : Int) (a : Option Addr) (len cap : Nat) (P : Nat → Bool) (N : Nat → Int) (w : World) (_ : (Lit.int .i64 r).wf = true) (_ : (Lit.int .i64 m).wf = true) (ha : Asks w a len P N) :
    Calls Try.prog 5 #[.int .i64 r, .int .i64 m, .slice a len cap] w fun x w' => x = .returned (.bool true) ∧ Below w.heap.size w w' := by
  cases hm : (mayB r && mayB m)
  · exact fair_no r m _ w hm
  · obtain ⟨h1, h2⟩ : mayB r = true ∧ mayB m = true := by simpa using hm
    rcases ha with rfl | ⟨g, o, rfl, hg, hc⟩
    · exact fair_zero r m a cap w h1 h2
    · exact fair_some r m g o len cap P N w h1 h2 hg hc
end Go.Proofs.Ytkbcbijaejmfdaa

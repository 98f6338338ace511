/-
  The law MeterTakes's walk: from the last call behind which the bucket was full on, what is left is the burst, and the rate times the ticks, less what was asked for.
-/
import Derived.Test.YtkbcbijaejmfdaaBoth
namespace Go.Proofs.Ytkbcbijaejmfdaa
open Go.ChangeShapes Go.WideShapes Go.ChangeAt Go.RowKit

/-- What is asked for, from call s to ahead of call k; and the ticks. -/
def qA (P : Nat → Bool) (N : Nat → Int) (s : Nat) : Nat → Int
  | 0 => 0
  | k + 1 => if s ≤ k ∧ P k = false then qA P N s k + N k else qA P N s k
def qT (P : Nat → Bool) (N : Nat → Int) (s : Nat) : Nat → Int
  | 0 => 0
  | k + 1 => if s ≤ k ∧ P k = true then qT P N s k + N k else qT P N s k
theorem qA_low (P : Nat → Bool) (N : Nat → Int) (s : Nat) : ∀ k, k ≤ s → qA P N s k = 0
  | 0, _ => rfl
  | k + 1, h => by rw [qA, if_neg (by omega)]; exact qA_low P N s k (by omega)
theorem qT_low (P : Nat → Bool) (N : Nat → Int) (s : Nat) : ∀ k, k ≤ s → qT P N s k = 0
  | 0, _ => rfl
  | k + 1, h => by rw [qT, if_neg (by omega)]; exact qT_low P N s k (by omega)
theorem qA_ask {P : Nat → Bool} {N : Nat → Int} {s k : Nat} (h : s ≤ k) (hp : P k = false) : qA P N s (k + 1) = qA P N s k + N k ∧ qT P N s (k + 1) = qT P N s k := by
  rw [qA, qT, if_pos ⟨h, hp⟩, if_neg (by simp [hp])]; exact ⟨rfl, rfl⟩
theorem qA_tick {P : Nat → Bool} {N : Nat → Int} {s k : Nat} (h : s ≤ k) (hp : P k = true) : qA P N s (k + 1) = qA P N s k ∧ qT P N s (k + 1) = qT P N s k + N k := by
  rw [qA, qT, if_neg (by simp [hp]), if_pos ⟨h, hp⟩]; exact ⟨rfl, rfl⟩
theorem qA_bd {P : Nat → Bool} {N : Nat → Int} {len : Nat} (hN : ∀ j, j < len → 0 ≤ N j ∧ N j ≤ 1048576) (s : Nat) : ∀ k, k ≤ len → 0 ≤ qA P N s k ∧ qA P N s k ≤ 1048576 * (k : Int) ∧ 0 ≤ qT P N s k ∧ qT P N s k ≤ 1048576 * (k : Int)
  | 0, _ => ⟨Int.le_refl _, by simp [qA], Int.le_refl _, by simp [qT]⟩
  | k + 1, h => by
    obtain ⟨a, b, c, d⟩ := qA_bd (P := P) hN s k (by omega)
    obtain ⟨e, f⟩ := hN k (by omega)
    by_cases hs : s ≤ k
    · cases hp : P k
      · obtain ⟨e1, e2⟩ := qA_ask (N := N) hs hp
        rw [e1, e2]; omega
      · obtain ⟨e1, e2⟩ := qA_tick (N := N) hs hp
        rw [e1, e2]; omega
    · rw [qA_low _ _ _ _ (by omega), qT_low _ _ _ _ (by omega)]; omega

theorem prod_bd {r q : Int} (h0 : 0 ≤ r) (h1 : r ≤ 1048576) (k0 : 0 ≤ q) (k1 : q ≤ 62914560) : 0 ≤ r * q ∧ r * q ≤ 65970697666560 := by
  refine ⟨Int.mul_nonneg h0 k0, ?_⟩
  have a : r * q ≤ 1048576 * q := Int.mul_le_mul_of_nonneg_right h1 k0
  omega

/-- From call s on nothing is asked for that may not be. -/
def Right (P : Nat → Bool) (N : Nat → Int) (r m : Int) (s k : Nat) : Prop := ∀ j, s ≤ j → j < k → P j = false → qA P N s (j + 1) ≤ m + r * qT P N s (j + 1)

/-- Behind k calls: what the bucket has. -/
structure Tk (w wr : World) (P : Nat → Bool) (N : Nat → Int) (r m : Int) (k s : Nat) : Prop where
  b : Bk wr (w.heap.size + 1) r m (m + r * qT P N s k - qA P N s k)
  f : Fit r m (m + r * qT P N s k - qA P N s k)
  bel : Below w.heap.size w wr
  sk : s ≤ k

theorem tk_new (w : World) (P : Nat → Bool) (N : Nat → Int) (r m : Int) (f : Fit r m m) (T S : TypeId) : Tk w ((w.alloc (.cells #[.int .i64 r, .int .i64 m] T)).alloc (.cells #[.int .i64 r, .int .i64 m, .int .i64 m] S)) P N r m 0 0 := by
  have h := Bk.new (w.alloc (.cells #[.int .i64 r, .int .i64 m] T)) r m m S
  have e : m + r * qT P N 0 0 - qA P N 0 0 = m := by rw [qA, qT]; simp
  refine ⟨by rw [e]; simpa using h, by rw [e]; exact f, ((Below.refl _ _).alloc (Nat.le_refl _) _).alloc (by simp) _, Nat.le_refl _⟩

theorem Tk.tick {w wr w2 : World} {P : Nat → Bool} {N : Nat → Int} {r m : Int} {k s : Nat} (d : Tk w wr P N r m k s) (hn : 0 ≤ N k) (hp : P k = true)
    (b : Bk w2 (w.heap.size + 1) r m (tickL r m (m + r * qT P N s k - qA P N s k) (N k))) (bel : Below w.heap.size w w2) : ∃ s', Tk w w2 P N r m (k + 1) s' := by
  have F := d.f.tick (N k)
  obtain ⟨e1, e2⟩ := qA_tick (N := N) d.sk hp
  by_cases h : m ≤ m + r * qT P N s k - qA P N s k + r * N k
  · have e : tickL r m (m + r * qT P N s k - qA P N s k) (N k) = m := by unfold tickL; rw [if_neg (by omega), if_pos h]
    rw [e] at b F
    have z : m + r * qT P N (k + 1) (k + 1) - qA P N (k + 1) (k + 1) = m := by rw [qA_low _ _ _ _ (Nat.le_refl _), qT_low _ _ _ _ (Nat.le_refl _)]; simp
    exact ⟨k + 1, by rw [z]; exact b, by rw [z]; exact F, bel, Nat.le_refl _⟩
  · have e : tickL r m (m + r * qT P N s k - qA P N s k) (N k) = m + r * qT P N s (k + 1) - qA P N s (k + 1) := by
      unfold tickL
      rw [if_neg (by omega), if_neg h, e1, e2, Int.mul_add]
      omega
    rw [e] at b F
    exact ⟨s, b, F, bel, by have := d.sk; omega⟩

theorem Tk.may {w wr : World} {P : Nat → Bool} {N : Nat → Int} {r m : Int} {k s len : Nat} (d : Tk w wr P N r m k s) (hk : k < len) (hp : P k = false) (h : ∀ s, Right P N r m s len) : N k ≤ m + r * qT P N s k - qA P N s k := by
  have := h s k d.sk hk hp
  obtain ⟨e1, e2⟩ := qA_ask (N := N) d.sk hp
  rw [e1, e2] at this
  omega
theorem Tk.take {w wr w2 : World} {P : Nat → Bool} {N : Nat → Int} {r m : Int} {k s : Nat} (d : Tk w wr P N r m k s) (hn : 0 ≤ N k) (hp : P k = false) (hl : N k ≤ m + r * qT P N s k - qA P N s k)
    (b : Bk w2 (w.heap.size + 1) r m (m + r * qT P N s k - qA P N s k - N k)) (bel : Below w.heap.size w w2) : Tk w w2 P N r m (k + 1) s := by
  obtain ⟨e1, e2⟩ := qA_ask (N := N) d.sk hp
  have e : m + r * qT P N s (k + 1) - qA P N s (k + 1) = m + r * qT P N s k - qA P N s k - N k := by rw [e1, e2]; omega
  obtain ⟨f1, f2, f3, f4, f5⟩ := d.f
  exact ⟨by rw [e]; exact b, by rw [e]; exact ⟨f1, f2, by omega, by omega, f5⟩, bel, by have := d.sk; omega⟩

set_option maxHeartbeats 4000000 in
set_option maxRecDepth 20000 in
theorem takes_some (r m : Int) (g o len cap : Nat) (P : Nat → Bool) (N : Nat → Int) (w : World) (r0 : 0 ≤ r) (r1 : r ≤ 1048576) (m0 : 0 ≤ m) (m1 : m ≤ 1048576) (hl : len ≤ 60) (hg : g < w.heap.size)
    (hc : ∀ i, i < len → w.cell? ⟨g, o + i * 2, none⟩ = some (.bool (P i)) ∧ w.cell? ⟨g, o + i * 2 + 1, none⟩ = some (.int .i64 (N i))) :
    Calls Try.prog 8 #[.agg #[.int .i64 r, .int .i64 m], .slice (some ⟨g, o, none⟩) len cap] w fun x w' => x = .returned (.bool true) ∧ Below w.heap.size w w' := by
  have h1 : mayB r = true := by unfold mayB; simp; omega
  have h2 : mayB m = true := by unfold mayB; simp; omega
  have T0 := tk_new w P N r m (mayB_fit h1 h2) 40 46
  obtain ⟨V, hV⟩ : ∃ V, w.alloc (.cells #[.int .i64 r, .int .i64 m] 40) = V := ⟨_, rfl⟩
  have bv : Below w.heap.size w V := hV ▸ (Below.refl _ _).alloc (Nat.le_refl _) _
  have HC : Hid (∀ W : World, Below w.heap.size w W → ∀ i, i < len → W.cell? ⟨g, o + i * 2, none⟩ = some (.bool (P i)) ∧ W.cell? ⟨g, o + i * 2 + 1, none⟩ = some (.int .i64 (N i))) :=
    fun W hb i hi => ⟨(hb.cell (p := ⟨g, _, none⟩) hg).trans (hc i hi).1, (hb.cell (p := ⟨g, _, none⟩) hg).trans (hc i hi).2⟩
  have v0 : V.cell? ⟨w.heap.size, 0, none⟩ = some (.int .i64 r) := by rw [← hV]; simp
  have v1 : V.cell? ⟨w.heap.size, 1, none⟩ = some (.int .i64 m) := by rw [← hV]; simp
  rw [hV] at T0
  have HS : Hid (V.heap.size = w.heap.size + 1) := by rw [← hV]; simp [Hid]
  clear hc
  go_enter Try.func8, Try.ntmps8
  go_wp2_with fail
  clear hV v0 v1
  go_loop [7] (fun i => ∃ k : Nat, k ≤ len ∧ i = .int .i64 k ∧ ∀ j, j < k → 0 ≤ N j ∧ N j ≤ 1048576) (fun i => len - (intOf i).toNat)
  case atStart => exact ⟨0, Nat.zero_le _, rfl, fun j h => absurd h (Nat.not_lt_zero _)⟩
  case round =>
    obtain ⟨k, hk, rfl, hN⟩ := hrel
    have HN : Hid (∀ j, j < k → 0 ≤ N j ∧ N j ≤ 1048576) := hN
    clear hN
    by_cases hkl : k < len
    · obtain ⟨c0, c1⟩ := HC.out V bv k hkl
      have hn : N k < 0 ∨ 1048576 < N k ∨ (0 ≤ N k ∧ N k ≤ 1048576) := by omega
      have HK : Hid (∀ j, j < k + 1 → (0 ≤ N k ∧ N k ≤ 1048576) → 0 ≤ N j ∧ N j ≤ 1048576) := fun j hj hh => by
        by_cases e : j = k
        · rw [e]; exact hh
        · exact HN.out j (by omega)
      generalize hnk : N k = n at *
      rcases hn with hn | hn | ⟨hn0, hn1⟩
      · go_wp2_with fail
        refine (awake_any _).mono ?_
        rintro x w3 ⟨rfl, g3⟩
        go_wp2_with fail
        go_ret
        exact ⟨rfl, btrans bv g3⟩
      · go_wp2_with fail
        refine (awake_any _).mono ?_
        rintro x w3 ⟨rfl, g3⟩
        go_wp2_with fail
        go_ret
        exact ⟨rfl, btrans bv g3⟩
      · go_wp2_with fail
        go_round
        case rel => exact ⟨k + 1, by omega, by go_num, fun j hj => HK.out j hj ⟨hn0, hn1⟩⟩
        case measure => simp [intOf]; omega
    · obtain rfl : k = len := by omega
      go_wp2_with fail
      have HN2 : Hid (∀ s k', k' ≤ k → 0 ≤ qA P N s k' ∧ qA P N s k' ≤ 1048576 * (k' : Int) ∧ 0 ≤ qT P N s k' ∧ qT P N s k' ≤ 1048576 * (k' : Int)) := fun s k' h => qA_bd HN.out s k' h
      go_loop [8] (fun i => ∃ s : Nat, s ≤ k ∧ i = .int .i64 s ∧ Hid (∀ s', s' < s → Right P N r m s' k)) (fun i => k - (intOf i).toNat)
      case atStart => exact ⟨0, Nat.zero_le _, rfl, fun j h => absurd h (Nat.not_lt_zero _)⟩
      case round =>
        obtain ⟨s, hs, rfl, HR⟩ := hrel
        by_cases hsl : s < k
        · go_wp2_with fail
          go_loop [9, 10, 11] (fun a t i => ∃ j : Nat, s ≤ j ∧ j ≤ k ∧ i = .int .i64 j ∧ a = .int .i64 (qA P N s j) ∧ t = .int .i64 (qT P N s j) ∧ Hid (Right P N r m s j)) (fun _ _ i => k - (intOf i).toNat)
          case atStart => exact ⟨s, Nat.le_refl _, by omega, rfl, by rw [qA_low _ _ _ _ (Nat.le_refl _)], by rw [qT_low _ _ _ _ (Nat.le_refl _)], fun j h1 h2 => by omega⟩
          case round =>
            obtain ⟨j, hj0, hj1, rfl, rfl, rfl, HJ⟩ := hrel
            by_cases hjk : j < k
            · obtain ⟨c0, c1⟩ := HC.out V bv j hjk
              obtain ⟨n0, n1⟩ := HN.out j hjk
              obtain ⟨a0, a1, a2, a3⟩ := HN2.out s j (by omega)
              cases hP : P j
              · rw [hP] at c0
                obtain ⟨e1, e2⟩ := qA_ask (N := N) hj0 hP
                obtain ⟨p0, p1⟩ := prod_bd r0 r1 a2 (by omega)
                have HS1 : Hid (∀ j', s ≤ j' → j' < j + 1 → P j' = false → qA P N s j + N j ≤ m + r * qT P N s j → qA P N s (j' + 1) ≤ m + r * qT P N s (j' + 1)) := fun j' h1 h2 h3 h4 => by
                  by_cases e : j' = j
                  · rw [e, e1, e2]; exact h4
                  · exact HJ.out j' h1 (by omega) h3
                have E1 : Hid (qA P N s (j + 1) = qA P N s j + N j) := e1
                have E2 : Hid (qT P N s (j + 1) = qT P N s j) := e2
                clear e1 e2
                generalize N j = n at *
                generalize qA P N s j = a at *
                generalize qT P N s j = t at *
                by_cases hle : a + n ≤ m + r * t
                · go_wp2_with fail
                  go_round
                  case rel => exact ⟨j + 1, by omega, by omega, by go_num, by rw [E1.out], by rw [E2.out], fun j' h1 h2 h3 => HS1.out j' h1 h2 h3 hle⟩
                  case measure => simp [intOf]; omega
                · go_wp2_with fail
                  refine (awake_any _).mono ?_
                  rintro x w3 ⟨rfl, g3⟩
                  go_wp2_with fail
                  go_ret
                  exact ⟨rfl, btrans bv g3⟩
              · rw [hP] at c0
                obtain ⟨e1, e2⟩ := qA_tick (N := N) hj0 hP
                have HS1 : Hid (∀ j', s ≤ j' → j' < j + 1 → P j' = false → qA P N s (j' + 1) ≤ m + r * qT P N s (j' + 1)) := fun j' h1 h2 h3 => by
                  by_cases e : j' = j
                  · rw [e, hP] at h3; cases h3
                  · exact HJ.out j' h1 (by omega) h3
                have E1 : Hid (qA P N s (j + 1) = qA P N s j) := e1
                have E2 : Hid (qT P N s (j + 1) = qT P N s j + N j) := e2
                clear e1 e2
                generalize N j = n at *
                generalize qA P N s j = a at *
                generalize qT P N s j = t at *
                go_wp2_with fail
                go_round
                case rel => exact ⟨j + 1, by omega, by omega, by go_num, by rw [E1.out], by rw [E2.out], HS1.out⟩
                case measure => simp [intOf]; omega
            · obtain rfl : j = k := by omega
              go_wp2_with fail
              go_round
              case rel =>
                exact ⟨s + 1, by omega, by go_num, fun s' h => by
                  by_cases e : s' = s
                  · rw [e]; exact HJ.out
                  · exact HR.out s' (by omega)⟩
              case measure => simp [intOf]; omega
        · have HA : Hid (∀ s', Right P N r m s' k) := fun s' => by
            by_cases e : s' < s
            · exact HR.out s' e
            · exact fun j h1 h2 => by omega
          clear HR
          go_wp2_with fail
          refine (new_yes _ _ _ h1 h2).mono ?_
          rintro x w1 ⟨rfl, rfl⟩
          rw [HS.out]
          go_wp2_with fail
          go_loopw [14] (fun i wr => ∃ (q s : Nat), q ≤ k ∧ i = .int .i64 q ∧ Tk w wr P N r m q s) (fun i _ => k - (intOf i).toNat)
          case atStart => exact ⟨0, 0, Nat.zero_le _, rfl, T0⟩
          case round =>
            clear T0
            obtain ⟨q, s2, hq, rfl, d⟩ := hrel
            by_cases hqk : q < k
            · obtain ⟨c0, c1⟩ := HC.out wr d.bel q hqk
              obtain ⟨n0, n1⟩ := HN.out q hqk
              cases hP : P q
              · rw [hP] at c0
                have my := d.may hqk hP HA.out
                have ea : argE (N q) = 0 := if_neg (by omega)
                have eb : takB (m + r * qT P N s2 q - qA P N s2 q) (N q) = true := by unfold takB; simp; omega
                have el : takeL (m + r * qT P N s2 q - qA P N s2 q) (N q) = m + r * qT P N s2 q - qA P N s2 q - N q := if_pos ⟨n0, my⟩
                have HM : Hid (N q ≤ m + r * qT P N s2 q - qA P N s2 q) := my
                have EA : Hid (argE (N q) = 0) := ea
                have EB : Hid (takB (m + r * qT P N s2 q - qA P N s2 q) (N q) = true) := eb
                have EL : Hid (takeL (m + r * qT P N s2 q - qA P N s2 q) (N q) = m + r * qT P N s2 q - qA P N s2 q - N q) := el
                clear my ea eb el
                go_wp2_with fail
                refine (take_any (w.heap.size + 1) r m _ (N q) _ d.b d.f).mono ?_
                rintro x w3 ⟨rfl, k3, o3⟩
                rw [EB.out, EA.out]
                rw [EL.out] at k3
                have d2 := d.take n0 hP HM.out k3 (o3.below (by omega) d.bel)
                clear d k3 o3 HM EA EB EL c0 c1
                go_wp2_with fail
                go_roundw
                case rel => exact ⟨q + 1, s2, by omega, by go_num, d2⟩
                case measure => simp [intOf]; omega
              · rw [hP] at c0
                go_wp2_with fail
                refine (tick_any (w.heap.size + 1) r m _ (N q) _ d.b d.f).mono ?_
                rintro x w3 ⟨rfl, k3, o3⟩
                obtain ⟨s3, d2⟩ := d.tick n0 hP k3 (o3.below (by omega) d.bel)
                clear d k3 o3 c0 c1
                go_wp2_with fail
                go_roundw
                case rel => exact ⟨q + 1, s3, by omega, by go_num, d2⟩
                case measure => simp [intOf]; omega
            · have bel := d.bel
              clear d
              go_wp2_with fail
              refine (awake_any _).mono ?_
              rintro x w3 ⟨rfl, g3⟩
              go_wp2_with fail
              go_ret
              exact ⟨rfl, btrans bel g3⟩

set_option maxHeartbeats 1000000 in
theorem takes_zero (r m : Int) (a : Option Addr) (cap : Nat) (w : World) (r0 : 0 ≤ r) (r1 : r ≤ 1048576) (m0 : 0 ≤ m) (m1 : m ≤ 1048576) :
    Calls Try.prog 8 #[.agg #[.int .i64 r, .int .i64 m], .slice a 0 cap] w fun x w' => x = .returned (.bool true) ∧ Below w.heap.size w w' := by
  have h1 : mayB r = true := by unfold mayB; simp; omega
  have h2 : mayB m = true := by unfold mayB; simp; omega
  have bel := (tk_new w (fun _ => false) (fun _ => 0) r m (mayB_fit h1 h2) 40 46).bel
  go_enter Try.func8, Try.ntmps8
  go_wp2_with fail
  refine wp_loop_rounds 1 ?_
  rw [rounds_succ]
  go_wp2_with fail
  refine wp_loop_rounds 1 ?_
  rw [rounds_succ]
  go_wp2_with fail
  refine (new_yes _ _ _ h1 h2).mono ?_
  rintro x w1 ⟨rfl, rfl⟩
  go_wp2_with fail
  refine wp_loop_rounds 1 ?_
  rw [rounds_succ]
  go_wp2_with fail
  refine (awake_any _).mono ?_
  rintro x w3 ⟨rfl, g3⟩
  go_wp2_with fail
  go_ret
  exact ⟨rfl, btrans bel g3⟩

set_option maxHeartbeats 1000000 in
theorem takes_no (r m : Int) (a : Option Addr) (len cap : Nat) (w : World)
    (h : r < 0 ∨ (0 ≤ r ∧ 1048576 < r) ∨ (0 ≤ r ∧ r ≤ 1048576 ∧ m < 0) ∨ (0 ≤ r ∧ r ≤ 1048576 ∧ 0 ≤ m ∧ 1048576 < m) ∨ (0 ≤ r ∧ r ≤ 1048576 ∧ 0 ≤ m ∧ m ≤ 1048576 ∧ 60 < len)) :
    Calls Try.prog 8 #[.agg #[.int .i64 r, .int .i64 m], .slice a len cap] w fun x w' => x = .returned (.bool true) ∧ Below w.heap.size w w' := by
  have b0 : Below w.heap.size w (w.alloc (.cells #[.int .i64 r, .int .i64 m] 40)) := (Below.refl _ _).alloc (Nat.le_refl _) _
  rcases h with h1 | ⟨h1, h2⟩ | ⟨h1, h2, h3⟩ | ⟨h1, h2, h3, h4⟩ | ⟨h1, h2, h3, h4, h5⟩
  all_goals
    go_enter Try.func8, Try.ntmps8
    go_wp2_with (first
      | (go_at_call 11; refine (awake_any _).mono ?_; rintro x w3 ⟨rfl, g3⟩))
    go_ret
    exact ⟨rfl, btrans b0 (by assumption)⟩

theorem takes_walk (r m : Int) (a : Option Addr) (len cap : Nat) (P : Nat → Bool) (N : Nat → Int) (w : World) (ha : Asks w a len P N) :
    Calls Try.prog 8 #[.agg #[.int .i64 r, .int .i64 m], .slice a len cap] w fun x w' => x = .returned (.bool true) ∧ Below w.heap.size w w' := by
  by_cases h : 0 ≤ r ∧ r ≤ 1048576 ∧ 0 ≤ m ∧ m ≤ 1048576 ∧ len ≤ 60
  · obtain ⟨h1, h2, h3, h4, h5⟩ := h
    rcases ha with rfl | ⟨g, o, rfl, hg, hc⟩
    · exact takes_zero r m a cap w h1 h2 h3 h4
    · exact takes_some r m g o len cap P N w h1 h2 h3 h4 h5 hg hc
  · exact takes_no r m a len cap w (by omega)
end Go.Proofs.Ytkbcbijaejmfdaa

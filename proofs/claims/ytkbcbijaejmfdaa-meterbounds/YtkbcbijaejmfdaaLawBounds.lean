/-
  The law MeterBounds's walk: what is left and what is taken together.
-/
import Derived.Test.YtkbcbijaejmfdaaBoth
namespace Go.Proofs.Ytkbcbijaejmfdaa
open Go.ChangeShapes Go.WideShapes Go.ChangeAt Go.RowKit

/-- Behind k calls: what is taken and what is left are no more than the burst, and the rate times the ticks; ahead of the call 'from' nothing is counted. -/
structure Bd (w wr : World) (r m fr : Int) (k : Nat) (l t q : Int) : Prop where
  b : Bk wr (w.heap.size + 1) r m l
  f : Fit r m l
  z : w.heap.size + 2 ≤ wr.heap.size
  bel : Below w.heap.size w wr
  t0 : 0 ≤ t
  t1 : t ≤ 1048576 * (k : Int)
  q0 : 0 ≤ q
  q1 : q ≤ 1048576 * (k : Int)
  no : (k : Int) ≤ fr → t = 0 ∧ q = 0
  le : t + l ≤ m + r * q

theorem prod_le {r q : Int} (h0 : 0 ≤ r) (h1 : r ≤ 1048576) (k0 : 0 ≤ q) (k1 : q ≤ 104857600) : 0 ≤ r * q ∧ r * q ≤ 109951162777600 := by
  refine ⟨Int.mul_nonneg h0 k0, ?_⟩
  have a : r * q ≤ 1048576 * q := Int.mul_le_mul_of_nonneg_right h1 k0
  omega

theorem tick_le {r m l n : Int} (h : 0 ≤ n) : tickL r m l n ≤ m ∧ tickL r m l n ≤ l + r * n := by
  unfold tickL
  rw [if_neg (by omega)]
  split <;> omega

/-- A call, as a variable of the loop. -/
structure Oc (w : World) (b : Nat) (p : Bool) (n : Int) : Prop where
  c0 : w.cell? ⟨b, 0, none⟩ = some (.bool p)
  c1 : w.cell? ⟨b, 1, none⟩ = some (.int .i64 n)
theorem Oc.only {b c : Nat} {w w' : World} {p : Bool} {n : Int} (k : Oc w c p n) (h : Only b w w') (hne : c ≠ b) : Oc w' c p n :=
  ⟨(World.cell?_of_block (w := w) (h.block c hne)).trans k.c0, (World.cell?_of_block (w := w) (h.block c hne)).trans k.c1⟩
theorem Oc.new (w : World) (p : Bool) (n : Int) (T : TypeId) : Oc (w.alloc (.cells #[.bool p, .int .i64 n] T)) w.heap.size p n := ⟨by simp, by simp⟩

theorem bd_new (w : World) (r m fr : Int) (f : Fit r m m) (T S : TypeId) : Bd w ((w.alloc (.cells #[.int .i64 r, .int .i64 m] T)).alloc (.cells #[.int .i64 r, .int .i64 m, .int .i64 m] S)) r m fr 0 m 0 0 := by
  have h := Bk.new (w.alloc (.cells #[.int .i64 r, .int .i64 m] T)) r m m S
  refine ⟨by simpa using h, f, by simp, ((Below.refl _ _).alloc (Nat.le_refl _) _).alloc (by simp) _, by omega, by simp, by omega, by simp, fun _ => ⟨rfl, rfl⟩, by simp⟩

/-- A Tick that is counted, and one that is not. -/
theorem Bd.tick {w wr w2 : World} {r m fr : Int} {k : Nat} {l t q n : Int} (d : Bd w wr r m fr k l t q) (h0 : 0 ≤ n) (h1 : n ≤ 1048576)
    (b : Bk w2 (w.heap.size + 1) r m (tickL r m l n)) (z : w.heap.size + 2 ≤ w2.heap.size) (bel : Below w.heap.size w w2) (h : fr ≤ (k : Int)) : Bd w w2 r m fr (k + 1) (tickL r m l n) t (q + n) := by
  obtain ⟨_, f, _, _, t0, t1, q0, q1, no, le⟩ := d
  have a := tick_le (r := r) (m := m) (l := l) h0
  have e : r * (q + n) = r * q + r * n := Int.mul_add _ _ _
  exact ⟨b, f.tick n, z, bel, t0, by omega, by omega, by omega, by omega, by omega⟩
theorem Bd.tick' {w wr w2 : World} {r m fr : Int} {k : Nat} {l t q n : Int} (d : Bd w wr r m fr k l t q) (h0 : 0 ≤ n)
    (b : Bk w2 (w.heap.size + 1) r m (tickL r m l n)) (z : w.heap.size + 2 ≤ w2.heap.size) (bel : Below w.heap.size w w2) (h : (k : Int) < fr) : Bd w w2 r m fr (k + 1) (tickL r m l n) t q := by
  obtain ⟨_, f, _, _, t0, t1, q0, q1, no, le⟩ := d
  have a := tick_le (r := r) (m := m) (l := l) h0
  obtain ⟨e1, e2⟩ := no (by omega)
  subst e1 e2
  exact ⟨b, f.tick n, z, bel, by omega, by omega, by omega, by omega, fun _ => ⟨rfl, rfl⟩, by rw [Int.mul_zero]; omega⟩
/-- A Take that is counted, one that is not, and one that is refused. -/
theorem Bd.take {w wr w2 : World} {r m fr : Int} {k : Nat} {l t q n : Int} (d : Bd w wr r m fr k l t q) (h0 : 0 ≤ n) (h1 : n ≤ 1048576) (hl : n ≤ l)
    (b : Bk w2 (w.heap.size + 1) r m (l - n)) (z : w.heap.size + 2 ≤ w2.heap.size) (bel : Below w.heap.size w w2) (h : fr ≤ (k : Int)) : Bd w w2 r m fr (k + 1) (l - n) (t + n) q := by
  obtain ⟨_, f, _, _, t0, t1, q0, q1, no, le⟩ := d
  obtain ⟨f1, f2, f3, f4, f5⟩ := f
  exact ⟨b, ⟨f1, f2, by omega, by omega, f5⟩, z, bel, by omega, by omega, by omega, by omega, by omega, by omega⟩
theorem Bd.take' {w wr w2 : World} {r m fr : Int} {k : Nat} {l t q n : Int} (d : Bd w wr r m fr k l t q) (h0 : 0 ≤ n) (hl : n ≤ l)
    (b : Bk w2 (w.heap.size + 1) r m (l - n)) (z : w.heap.size + 2 ≤ w2.heap.size) (bel : Below w.heap.size w w2) : Bd w w2 r m fr (k + 1) (l - n) t q := by
  obtain ⟨_, f, _, _, t0, t1, q0, q1, no, le⟩ := d
  obtain ⟨f1, f2, f3, f4, f5⟩ := f
  exact ⟨b, ⟨f1, f2, by omega, by omega, f5⟩, z, bel, by omega, by omega, by omega, by omega, fun h => no (by omega), by omega⟩
theorem Bd.stay {w wr w2 : World} {r m fr : Int} {k : Nat} {l t q : Int} (d : Bd w wr r m fr k l t q)
    (b : Bk w2 (w.heap.size + 1) r m l) (z : w.heap.size + 2 ≤ w2.heap.size) (bel : Below w.heap.size w w2) : Bd w w2 r m fr (k + 1) l t q := by
  obtain ⟨_, f, _, _, t0, t1, q0, q1, no, le⟩ := d
  exact ⟨b, f, z, bel, by omega, by omega, by omega, by omega, fun h => no (by omega), by omega⟩

set_option maxHeartbeats 4000000 in
set_option maxRecDepth 20000 in
theorem bounds_some (r m fr : Int) (g o len cap : Nat) (P : Nat → Bool) (N : Nat → Int) (w : World) (r0 : 0 ≤ r) (r1 : r ≤ 1048576) (m0 : 0 ≤ m) (m1 : m ≤ 1048576) (hl : len ≤ 100) (hf : 0 ≤ fr) (hg : g < w.heap.size)
    (hc : ∀ i, i < len → w.cell? ⟨g, o + i * 2, none⟩ = some (.bool (P i)) ∧ w.cell? ⟨g, o + i * 2 + 1, none⟩ = some (.int .i64 (N i))) :
    Calls Try.prog 4 #[.agg #[.int .i64 r, .int .i64 m], .slice (some ⟨g, o, none⟩) len cap, .int .i64 fr] w fun x w' => x = .returned (.bool true) ∧ Below w.heap.size w w' := by
  have HC : Hid (∀ i, i < len → w.cell? ⟨g, o + i * 2, none⟩ = some (.bool (P i)) ∧ w.cell? ⟨g, o + i * 2 + 1, none⟩ = some (.int .i64 (N i))) := hc
  clear hc
  have h1 : mayB r = true := by unfold mayB; simp; omega
  have h2 : mayB m = true := by unfold mayB; simp; omega
  have D0 := bd_new w r m fr (mayB_fit h1 h2) 40 46
  go_enter Try.func4, Try.ntmps4
  go_wp2_with fail
  refine (new_yes _ _ _ h1 h2).mono ?_
  rintro x w1 ⟨rfl, rfl⟩
  go_wp2_with fail
  clear h1 h2
  go_loopw [11, 12, 13] (fun ta ti i wr => ∃ (k : Nat) (l t q : Int), k ≤ len ∧ i = .int .i64 k ∧ ta = .int .i64 t ∧ ti = .int .i64 q ∧ Bd w wr r m fr k l t q) (fun _ _ i _ => len - (intOf i).toNat)
  case atStart => exact ⟨0, m, 0, 0, Nat.zero_le _, rfl, rfl, rfl, D0⟩
  case round =>
    clear D0
    obtain ⟨k, l, t, q, hk, rfl, rfl, rfl, d⟩ := hrel
    by_cases hkl : k < len
    · have hC := HC.out k hkl
      have hcl : wr.cell? ⟨g, o + k * 2, none⟩ = some (.bool (P k)) := (d.bel.cell (p := ⟨g, _, none⟩) hg).trans hC.1
      have hcn : wr.cell? ⟨g, o + k * 2 + 1, none⟩ = some (.int .i64 (N k)) := (d.bel.cell (p := ⟨g, _, none⟩) hg).trans hC.2
      clear hC HC
      generalize N k = n at *
      generalize P k = p at *
      obtain ⟨V, hV⟩ : ∃ V, wr.alloc (.cells #[.bool p, .int .i64 n] 32) = V := ⟨_, rfl⟩
      have oc : Oc V wr.heap.size p n := hV ▸ Oc.new wr p n 32
      have bv : Bk V (w.heap.size + 1) r m l := hV ▸ d.b.below (B := wr.heap.size) ((Below.refl _ _).alloc (Nat.le_refl _) _) (by have := d.z; omega)
      have bel : Below w.heap.size w V := hV ▸ d.bel.alloc d.bel.size _
      have z : V.heap.size = wr.heap.size + 1 := by rw [← hV]; simp
      have HZ : Hid (V.heap.size = wr.heap.size + 1) := z
      clear z
      obtain ⟨c0, c1⟩ := id oc
      have hn : n < 0 ∨ 1048576 < n ∨ (0 ≤ n ∧ n ≤ 1048576) := by omega
      rcases hn with hn | hn | ⟨hn0, hn1⟩
      · go_wp2_with fail
        refine (awake_any _).mono ?_
        rintro x w3 ⟨rfl, g3⟩
        go_wp2_with fail
        go_ret
        exact ⟨rfl, btrans bel g3⟩
      · go_wp2_with fail
        refine (awake_any _).mono ?_
        rintro x w3 ⟨rfl, g3⟩
        go_wp2_with fail
        go_ret
        exact ⟨rfl, btrans bel g3⟩
      · have hzd := d.z
        cases p
        · go_wp2_with fail
          refine (left_any _ _ _ _ _ bv).mono ?_
          rintro x w2 ⟨rfl, zz⟩
          obtain rfl : V = w2 := zz.symm
          go_wp2_with fail
          refine (take_any (w.heap.size + 1) r m l n _ bv d.f).mono ?_
          rintro x w2 ⟨rfl, k2, o2⟩
          have oc2 := oc.only o2 (by omega)
          have b2 := o2.below (by omega) bel
          have z2 : w.heap.size + 2 ≤ w2.heap.size := by rw [o2.size, HZ.out]; omega
          clear o2 bv bel c0 c1 oc hV HZ hcl hcn V
          obtain ⟨c0, c1⟩ := oc2
          have ea : argE n = 0 := if_neg (by omega)
          have pq := prod_le r0 r1 d.q0 (by have := d.q1; omega)
          obtain ⟨p0, p1⟩ := pq
          by_cases hnl : n ≤ l
          · have e2 : takeL l n = l - n := if_pos ⟨by omega, hnl⟩
            have e3 : takB l n = true := by unfold takB; simp; omega
            rw [e2] at k2
            rw [e3, ea]
            clear e2 e3 ea
            by_cases hfk : fr ≤ (k : Int)
            · have d2 := d.take hn0 hn1 hnl k2 z2 b2 hfk
              have le2 : t + n ≤ m + r * q := by have := d2.le; have := d2.f.l0; omega
              have t0 := d2.t0
              have t1 := d2.t1
              have l0 := d2.f.l0
              have l1 := d2.f.lm
              clear d
              go_wp2_with (first
                | (go_at_call 16; refine (left_any _ _ _ _ _ k2).mono ?_; rintro x w3 ⟨rfl, rfl⟩))
              go_roundw
              case rel => exact ⟨k + 1, _, _, _, by omega, by go_num, rfl, rfl, d2⟩
              case measure => simp [intOf]; omega
            · have d2 := d.take' hn0 hnl k2 z2 b2
              have le2 : t ≤ m + r * q := by have := d2.le; have := d2.f.l0; omega
              have t0 := d2.t0
              have t1 := d2.t1
              have l0 := d2.f.l0
              have l1 := d2.f.lm
              clear d
              go_wp2_with (first
                | (go_at_call 16; refine (left_any _ _ _ _ _ k2).mono ?_; rintro x w3 ⟨rfl, rfl⟩))
              go_roundw
              case rel => exact ⟨k + 1, _, _, _, by omega, by go_num, rfl, rfl, d2⟩
              case measure => simp [intOf]; omega
          · have e2 : takeL l n = l := if_neg (by omega)
            have e3 : takB l n = false := by unfold takB; simp; omega
            rw [e2] at k2
            rw [e3, ea]
            clear e2 e3 ea
            have d2 := d.stay k2 z2 b2
            have le2 : t ≤ m + r * q := by have := d2.le; have := d2.f.l0; omega
            have t0 := d2.t0
            have t1 := d2.t1
            have l0 := d2.f.l0
            have l1 := d2.f.lm
            clear d
            go_wp2_with (first
              | (go_at_call 16; refine (left_any _ _ _ _ _ k2).mono ?_; rintro x w3 ⟨rfl, rfl⟩))
            go_roundw
            case rel => exact ⟨k + 1, _, _, _, by omega, by go_num, rfl, rfl, d2⟩
            case measure => simp [intOf]; omega
        · go_wp2_with fail
          refine (tick_any (w.heap.size + 1) r m l n _ bv d.f).mono ?_
          rintro x w2 ⟨rfl, k2, o2⟩
          have oc2 := oc.only o2 (by omega)
          have b2 := o2.below (by omega) bel
          have z2 : w.heap.size + 2 ≤ w2.heap.size := by rw [o2.size, HZ.out]; omega
          clear o2 bv bel c0 c1 oc hV HZ hcl hcn V
          obtain ⟨c0, c1⟩ := oc2
          have ea : argE n = 0 := if_neg (by omega)
          rw [ea]
          clear ea
          have q0 := d.q0
          have q1 := d.q1
          by_cases hfk : fr ≤ (k : Int)
          · have d2 := d.tick hn0 hn1 k2 z2 b2 hfk
            clear d
            go_wp2_with fail
            go_roundw
            case rel => exact ⟨k + 1, _, _, _, by omega, by go_num, rfl, rfl, d2⟩
            case measure => simp [intOf]; omega
          · have d2 := d.tick' hn0 k2 z2 b2 (by omega)
            clear d
            go_wp2_with fail
            go_roundw
            case rel => exact ⟨k + 1, _, _, _, by omega, by go_num, rfl, rfl, d2⟩
            case measure => simp [intOf]; omega
    · have bel := d.bel
      clear HC d
      go_wp2_with fail
      refine (awake_any _).mono ?_
      rintro x w3 ⟨rfl, g3⟩
      go_wp2_with fail
      go_ret
      exact ⟨rfl, btrans bel g3⟩

set_option maxHeartbeats 1000000 in
theorem bounds_zero (r m fr : Int) (a : Option Addr) (cap : Nat) (w : World) (r0 : 0 ≤ r) (r1 : r ≤ 1048576) (m0 : 0 ≤ m) (m1 : m ≤ 1048576) (hf : 0 ≤ fr) :
    Calls Try.prog 4 #[.agg #[.int .i64 r, .int .i64 m], .slice a 0 cap, .int .i64 fr] w fun x w' => x = .returned (.bool true) ∧ Below w.heap.size w w' := by
  have h1 : mayB r = true := by unfold mayB; simp; omega
  have h2 : mayB m = true := by unfold mayB; simp; omega
  have bel := (bd_new w r m fr (mayB_fit h1 h2) 40 46).bel
  go_enter Try.func4, Try.ntmps4
  go_wp2_with fail
  refine (new_yes _ _ _ h1 h2).mono ?_
  rintro x w1 ⟨rfl, rfl⟩
  go_wp2_with fail
  refine wp_loop_rounds 1 ?_
  rw [rounds_succ]
  go_wp2_with fail
  refine (awake_any _).mono ?_
  rintro x w3 ⟨rfl, g3⟩
  go_wp2_with fail
  go_ret
  exact ⟨rfl, btrans bel g3⟩

set_option maxHeartbeats 1000000 in
theorem bounds_no (r m fr : Int) (a : Option Addr) (len cap : Nat) (w : World)
    (h : r < 0 ∨ (0 ≤ r ∧ 1048576 < r) ∨ (0 ≤ r ∧ r ≤ 1048576 ∧ m < 0) ∨ (0 ≤ r ∧ r ≤ 1048576 ∧ 0 ≤ m ∧ 1048576 < m) ∨ (0 ≤ r ∧ r ≤ 1048576 ∧ 0 ≤ m ∧ m ≤ 1048576 ∧ 100 < len) ∨ (0 ≤ r ∧ r ≤ 1048576 ∧ 0 ≤ m ∧ m ≤ 1048576 ∧ len ≤ 100 ∧ fr < 0)) :
    Calls Try.prog 4 #[.agg #[.int .i64 r, .int .i64 m], .slice a len cap, .int .i64 fr] w fun x w' => x = .returned (.bool true) ∧ Below w.heap.size w w' := by
  have b0 : Below w.heap.size w (w.alloc (.cells #[.int .i64 r, .int .i64 m] 40)) := (Below.refl _ _).alloc (Nat.le_refl _) _
  rcases h with h1 | ⟨h1, h2⟩ | ⟨h1, h2, h3⟩ | ⟨h1, h2, h3, h4⟩ | ⟨h1, h2, h3, h4, h5⟩ | ⟨h1, h2, h3, h4, h5, h6⟩
  all_goals
    go_enter Try.func4, Try.ntmps4
    go_wp2_with (first
      | (go_at_call 11; refine (awake_any _).mono ?_; rintro x w3 ⟨rfl, g3⟩))
    go_ret
    exact ⟨rfl, btrans b0 (by assumption)⟩

theorem bounds_walk (r m : Int) (a : Option Addr) (len cap : Nat) (P : Nat → Bool) (N : Nat → Int) (fr : Int) (w : World) (ha : Asks w a len P N) (_ : (Lit.int .i64 fr).wf = true) :
    Calls Try.prog 4 #[.agg #[.int .i64 r, .int .i64 m], .slice a len cap, .int .i64 fr] w fun x w' => x = .returned (.bool true) ∧ Below w.heap.size w w' := by
  by_cases h : 0 ≤ r ∧ r ≤ 1048576 ∧ 0 ≤ m ∧ m ≤ 1048576 ∧ len ≤ 100 ∧ 0 ≤ fr
  · obtain ⟨h1, h2, h3, h4, h5, h6⟩ := h
    rcases ha with rfl | ⟨g, o, rfl, hg, hc⟩
    · exact bounds_zero r m fr a cap w h1 h2 h3 h4 h6
    · exact bounds_some r m fr g o len cap P N w h1 h2 h3 h4 h5 h6 hg hc
  · exact bounds_no r m fr a len cap w (by omega)
end Go.Proofs.Ytkbcbijaejmfdaa

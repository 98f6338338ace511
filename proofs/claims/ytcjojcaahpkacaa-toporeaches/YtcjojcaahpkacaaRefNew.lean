/-
  The document's New: the walk.
-/
import Derived.Test.YtcjojcaahpkacaaRefN
namespace Go.Proofs.Ytcjojcaahpkacaa
open Go.ChangeShapes Go.WideShapes Go.ChangeAt Go.RowKit
set_option linter.unusedVariables false

/-- What the document's New answers. -/
def RwR (w : World) (n : Int) (l : List Lk) (r : Ending) (w' : World) : Prop :=
  Below w.heap.size w w' ∧ ((goodB n l = true ∧ (∃ rb, ∃ N : Nat, ∃ a cap, (N : Int) = n ∧ RTm w' rb N a cap l ∧ r = .returned (.tuple #[.pointer (some ⟨rb, 0, none⟩), .int .i64 0]))) ∨ (goodB n l = false ∧ r = .returned (.tuple #[.pointer none, .int .i64 42])))
theorem c1_cases {n : Int} {x : Lk} (h : c1B n x = false) : inB x.a 1 n = false ∨ (inB x.a 1 n = true ∧ inB x.p 1 16 = false) ∨ (inB x.a 1 n = true ∧ inB x.p 1 16 = true ∧ (x.b == x.a) = true) ∨
    (inB x.a 1 n = true ∧ inB x.p 1 16 = true ∧ (x.b == x.a) = false ∧ (x.b == 0) = true) ∨ (inB x.a 1 n = true ∧ inB x.p 1 16 = true ∧ (x.b == x.a) = false ∧ (x.b == 0) = false ∧ inB x.b (-64) n = false) := by
  unfold c1B at h
  cases h1 : inB x.a 1 n
  · simp
  cases h2 : inB x.p 1 16
  · simp
  by_cases h3 : x.b = x.a
  · simp [h3]
  by_cases h4 : x.b = 0
  · have h5 : ¬ 0 = x.a := fun e => h3 (h4.trans e)
    simp [h4, h5]
  simp [h1, h2, h3, h4] at h
  simp [h3, h4, h]
theorem c1_yes {n : Int} {x : Lk} (h : c1B n x = true) : inB x.a 1 n = true ∧ inB x.p 1 16 = true ∧ (x.b == x.a) = false ∧ (x.b == 0) = false ∧ inB x.b (-64) n = true := by
  unfold c1B at h
  simp only [Bool.and_eq_true, decide_eq_true_eq] at h
  obtain ⟨⟨⟨⟨h1, h2⟩, h3⟩, h4⟩, h5⟩ := h
  exact ⟨h1, h2, by simpa using h3, by simpa using h4, h5⟩
theorem c2_cases {x : Lk} (hx : x.b ≠ 0) : (c2B x = false ∧ ((0 < x.b ∧ inB x.q 1 16 = false) ∨ (0 < x.b ∧ inB x.q 1 16 = true ∧ costLo x.c = false) ∨ (0 < x.b ∧ inB x.q 1 16 = true ∧ costLo x.c = true ∧ costHi x.c = false) ∨
      (x.b < 0 ∧ (x.q != 0) = true) ∨ (x.b < 0 ∧ (x.q != 0) = false ∧ costLo x.c = false) ∨ (x.b < 0 ∧ (x.q != 0) = false ∧ costLo x.c = true ∧ costHi x.c = false))) ∨
    (c2B x = true ∧ ((0 < x.b ∧ inB x.q 1 16 = true) ∨ (x.b < 0 ∧ (x.q != 0) = false)) ∧ costLo x.c = true ∧ costHi x.c = true) := by
  unfold c2B
  rcases Int.lt_or_lt_of_ne hx with h | h
  · have h' : ¬ 0 < x.b := by omega
    by_cases h2 : x.q = 0 <;> cases h3 : costLo x.c <;> cases h4 : costHi x.c <;> simp [h, h', h2]
  · have h' : ¬ x.b < 0 := by omega
    cases h2 : inB x.q 1 16 <;> cases h3 : costLo x.c <;> cases h4 : costHi x.c <;> simp [h, h']
/-- The document's New, between two rounds. -/
structure RwI (w : World) (n : Nat) (l : List Lk) (k : Nat) (wr : World) : Prop where
  bel : Below w.heap.size w wr
  good : goodF n [] (l.take k) = true
set_option maxRecDepth 20000 in
set_option maxHeartbeats 16000000 in
theorem rnew_any (n : Int) (a : Option Addr) (l : List Lk) (cap : Nat) (w : World) (hl : Ls w a l) (hlen : l.length ≤ 100) :
    Calls Try.prog 11 #[.int .i64 n, .slice a l.length cap] w fun r w' => RwR w n l r w' := by
  cases h1 : inB n 1 32
  · have hno : Hid (∀ w', Below w.heap.size w w' → RwR w n l (.returned (.tuple #[.pointer none, .int .i64 42])) w') := (show ∀ w', _ from fun w' g => ⟨g, .inr ⟨by unfold goodB; rw [h1]; rfl, rfl⟩⟩)
    have H1 : Hid (inB n 1 32 = false) := h1
    clear h1 hl
    go_enter Try.func11, Try.ntmps11
    go_wp2_with (go_at_call 31; refine (rin_any _ _ _ _).mono ?_; rw [H1.out]; rintro r w' ⟨rfl, rfl⟩)
    go_ret2
    exact hno.out _ (Below.refl _ _)
  by_cases h2 : l.length ≤ 64
  · obtain ⟨n0, n32⟩ := inB_true.1 h1
    obtain ⟨N, rfl⟩ : ∃ N : Nat, n = (N : Int) := ⟨n.toNat, by omega⟩
    have hN0 : 1 ≤ N := by omega
    have hN : N ≤ 32 := by omega
    have H1 : Hid (inB (N : Int) 1 32 = true) := h1
    have HL : Hid (Ls w a l) := hl
    have hno : Hid (∀ w', goodF N [] l = false → Below w.heap.size w w' → RwR w N l (.returned (.tuple #[.pointer none, .int .i64 42])) w') := (show ∀ w', _ from fun w' hb g => ⟨g, .inr ⟨by unfold goodB; rw [hb, Bool.and_false], rfl⟩⟩)
    have hyes : Hid (∀ w' rb a' cap', goodF N [] l = true → Below w.heap.size w w' → RTm w' rb N a' cap' l → RwR w N l (.returned (.tuple #[.pointer (some ⟨rb, 0, none⟩), .int .i64 0])) w') := (show ∀ w' rb a' cap', _ from fun w' rb a' cap' hb g ht => ⟨g, .inl ⟨by unfold goodB; rw [hb, h1, decide_eq_true h2]; rfl, ⟨rb, N, a', cap', rfl, ht, rfl⟩⟩⟩)
    clear h1 hl n0 n32
    go_enter Try.func11, Try.ntmps11
    go_wp2_with (go_at_call 31; refine (rin_any _ _ _ _).mono ?_; rw [H1.out]; rintro r u ⟨rfl, z⟩; obtain rfl : w = u := z.symm; clear z)
    go_loopw [6] (fun v6 wr => ∃ k : Nat, k ≤ l.length ∧ v6 = .int .i64 k ∧ Hid (RwI w N l k wr)) (fun v6 _ => l.length - (intOf v6).toNat)
    case atStart => exact ⟨0, Nat.zero_le _, rfl, (show RwI _ _ _ _ _ from ⟨Below.refl _ _, by rw [List.take_zero]; rfl⟩)⟩
    case round =>
      obtain ⟨k, hk, rfl, HI⟩ := hrel
      by_cases hlt : k < l.length
      · obtain ⟨g, o, rfl, hg, hc⟩ := (HL.out).at hlt
        have hgw : g < wr.heap.size := Nat.lt_of_lt_of_le hg HI.out.bel.size
        obtain ⟨c0, c1, c2, c3, c4⟩ := (hc k hlt).below hg HI.out.bel
        obtain ⟨x, hx⟩ : ∃ x, l[k] = x := ⟨_, rfl⟩
        rw [hx] at c0 c1 c2 c3 c4
        have HX : Hid (l[k] = x) := hx
        have fo := stored_float x.c
        have HC : Hid (∀ w', Below w.heap.size w w' → ∀ i (hi : i < l.length), C5 w' g (o + i * 5) l[i]) := (show ∀ w', _ from fun w' b i hi => (hc i hi).below hg b)
        obtain ⟨V, hV⟩ : ∃ V, lx wr x = V := ⟨_, rfl⟩
        have hc5 := C5.new wr x
        have gV : Below wr.heap.size wr V := by rw [← hV]; go_grown
        have zV : wr.heap.size < V.heap.size := by rw [← hV]; simp
        rw [hV] at hc5
        have HG : Hid (Below w.heap.size w V) := (show Below _ _ _ from HI.out.bel.trans (gV.mono HI.out.bel.size))
        have HX5 : Hid (∀ w', Below V.heap.size V w' → C5 w' wr.heap.size 0 x ∧ Below w.heap.size w w' ∧ wr.heap.size < w'.heap.size) := (show ∀ w', _ from fun w' g => ⟨hc5.below zV g, HG.out.trans (g.mono (Nat.le_trans HI.out.bel.size (Nat.le_of_lt zV))), Nat.lt_of_lt_of_le zV g.size⟩)
        have HBad : Hid ((mayB N x && !takenB (l.take k) x) = false → goodF N [] l = false) := (show _ → _ from fun h => bad_at k hlt (by rw [HX.out]; exact h))
        have HME : Hid (mayB N x = (c1B N x && c2B x)) := may_eq N x (by omega)
        have HV : Hid (wr.alloc (.cells #[.int .i64 x.a, .int .i64 x.p, .int .i64 x.b, .int .i64 x.q, .float .f64 x.c] 52) = V) := hV
        clear hc hx hV hc5 gV zV
        cases hc1 : c1B N x
        · have HQ : Hid (goodF N [] l = false) := (show _ = _ from HBad.out (by rw [HME.out, hc1]; rfl))
          have hcs := c1_cases hc1
          clear hc1
          rcases hcs with q1 | ⟨q1, q2⟩ | ⟨q1, q2, q3⟩ | ⟨q1, q2, q3, q4⟩ | ⟨q1, q2, q3, q4, q5⟩
          all_goals
            go_wp2_with fail
            rw [HV.out]
            obtain ⟨⟨d0, d1, d2, d3, d4⟩, _, _⟩ := HX5.out V (Below.refl _ _)
            clear c0 c1 c2 c3 c4
            go_wp2_with (go_at_call 31; refine (rin_any _ _ _ _).mono ?_; rintro r u ⟨rfl, z⟩; obtain rfl : V = u := z.symm; clear z)
            go_ret2
            exact hno.out _ HQ.out HG.out
        obtain ⟨q1, q2, q3, q4, q5⟩ := c1_yes hc1
        have HC1 : Hid (c1B N x = true) := hc1
        have f1 : (binOp .geq 43 (.float .f64 x.c) (.float .f64 0) : Sem Value) = pure (.bool (costLo x.c)) := binOp_float_cmp_geq _ _ _ _
        have f2 : (binOp .leq 43 (.float .f64 x.c) (.float .f64 4741671816366391296) : Sem Value) = pure (.bool (costHi x.c)) := binOp_float_cmp_leq _ _ _ _
        clear hc1
        rcases c2_cases (x := x) (by simpa using q4) with ⟨e1, e2⟩ | ⟨e1, e2, e3, e4⟩
        · have HQ : Hid (goodF N [] l = false) := (show _ = _ from HBad.out (by rw [HME.out, e1, Bool.and_false]; rfl))
          clear e1
          rcases e2 with ⟨p1, p2⟩ | ⟨p1, p2, p3⟩ | ⟨p1, p2, p3, p4⟩ | ⟨p1, p2⟩ | ⟨p1, p2, p3⟩ | ⟨p1, p2, p3, p4⟩
          all_goals
            go_wp2_with fail
            rw [HV.out]
            obtain ⟨⟨d0, d1, d2, d3, d4⟩, _, _⟩ := HX5.out V (Below.refl _ _)
            clear c0 c1 c2 c3 c4
            try rw [p3] at f1
            try rw [p4] at f2
            go_wp2_with (go_at_call 31; refine (rin_any _ _ _ _).mono ?_; rintro r u ⟨rfl, z⟩; obtain rfl : V = u := z.symm; clear z)
            go_ret2
            exact hno.out _ HQ.out HG.out
        · have hMay : mayB N x = true := by rw [HME.out, e1, HC1.out]; rfl
          rw [e3] at f1
          rw [e4] at f2
          clear e1 e3 e4
          have HHit : Hid (takenB (l.take k) x = false ↔ ∀ y ∈ l.take k, hitB y x = false) := (show _ ↔ _ from taken_hit hMay)
          have HTB : Hid (takenB (l.take k) x = true → goodF N [] l = false) := (show _ → _ from fun h => HBad.out (by rw [h]; simp))
          have HNx : Hid ((∀ y ∈ l.take k, hitB y x = false) → goodF N [] (l.take (k + 1)) = true) := (show _ → _ from fun h => by
            rw [List.take_succ_eq_append_getElem hlt, HX.out, good_snoc, HI.out.good, hMay, HHit.out.2 h]
            rfl)
          have hx0 : x.b < 0 ∨ 0 < x.b := by
            have : x.b ≠ 0 := by simpa using q4
            omega
          have HX0 : Hid (x.b < 0 ∨ 0 < x.b) := hx0
          clear hMay hx0
          rcases e2 with ⟨p1, p2⟩ | ⟨p1, p2⟩
          all_goals
            go_wp2_with fail
            rw [HV.out]
            obtain ⟨⟨d0, d1, d2, d3, d4⟩, _, _⟩ := HX5.out V (Below.refl _ _)
            clear c0 c1 c2 c3 c4
            go_wp2_with (go_at_call 31; refine (rin_any _ _ _ _).mono ?_; rintro r u ⟨rfl, z⟩; obtain rfl : V = u := z.symm; clear z)
            clear d0 d1 d2 d3 d4 f1 f2 q1 q2 q3 q4 q5 p2 fo
            generalize wr.heap.size = xb at *
            go_loopw [8] (fun v8 wq => ∃ k2 : Nat, k2 ≤ k ∧ v8 = .int .i64 k2 ∧ Hid (∀ y ∈ l.take k2, hitB y x = false) ∧ Hid (Below V.heap.size V wq)) (fun v8 _ => k - (intOf v8).toNat)
            case atStart => exact ⟨0, Nat.zero_le _, rfl, (show ∀ y ∈ l.take 0, hitB y x = false by simp), (show Below _ _ _ from Below.refl _ _)⟩
            case round =>
              obtain ⟨k2, hk2, rfl, HNo, HBw⟩ := hrel
              by_cases hl2 : k2 < k
              · obtain ⟨⟨e0, e1, e2, e3, e4⟩, HGw, hxq⟩ := HX5.out _ HBw.out
                have hlk : k2 < l.length := by omega
                have hgq : g < wr.heap.size := Nat.lt_of_lt_of_le hg HGw.size
                have hcy := HC.out wr HGw k2 hlk
                have HMem : Hid (l[k2] ∈ l.take k) := (show _ ∈ _ by
                  rw [List.mem_take_iff_getElem]
                  exact ⟨k2, by omega, rfl⟩)
                have HTk : Hid (∀ z ∈ l.take (k2 + 1), z ∈ l.take k2 ∨ z = l[k2]) := (show ∀ z ∈ l.take (k2 + 1), _ from fun z hz => by
                  rw [List.take_succ_eq_append_getElem hlk] at hz
                  rwa [List.mem_append, List.mem_singleton] at hz)
                obtain ⟨y, hy⟩ : ∃ y, l[k2] = y := ⟨_, rfl⟩
                rw [hy] at hcy HMem HTk
                have HHy : Hid (hitB y x = true → goodF N [] l = false) := (show _ → _ from fun h => HTB.out (by
                  cases ht : takenB (l.take k) x
                  · have := HHit.out.1 ht y HMem.out
                    rw [h] at this
                    cases this
                  · rfl))
                have HNy : Hid (hitB y x = false → ∀ z ∈ l.take (k2 + 1), hitB z x = false) := (show _ → _ from fun h z hz => by
                  rcases HTk.out z hz with h' | h'
                  · exact HNo.out z h'
                  · rw [h']; exact h)
                have y0 : ∀ nn : GrT wr, nn.w.cell? ⟨g, o + k2 * 5, none⟩ = some (.int .i64 y.a) := fun nn => (hcy.gr hgq nn).1
                have y1 : ∀ nn : GrT wr, nn.w.cell? ⟨g, o + k2 * 5 + 1, none⟩ = some (.int .i64 y.p) := fun nn => (hcy.gr hgq nn).2.1
                have y2 : ∀ nn : GrT wr, nn.w.cell? ⟨g, o + k2 * 5 + 2, none⟩ = some (.int .i64 y.b) := fun nn => (hcy.gr hgq nn).2.2.1
                have y3 : ∀ nn : GrT wr, nn.w.cell? ⟨g, o + k2 * 5 + 3, none⟩ = some (.int .i64 y.q) := fun nn => (hcy.gr hgq nn).2.2.2.1
                have y4 : ∀ nn : GrT wr, nn.w.cell? ⟨g, o + k2 * 5 + 4, none⟩ = some (.float .f64 y.c) := fun nn => (hcy.gr hgq nn).2.2.2.2
                have hcx : C5 wr xb 0 x := ⟨e0, e1, e2, e3, e4⟩
                have x0 : ∀ nn : GrT wr, nn.w.cell? ⟨xb, 0, none⟩ = some (.int .i64 x.a) := fun nn => (hcx.gr hxq nn).1
                have x1 : ∀ nn : GrT wr, nn.w.cell? ⟨xb, 1, none⟩ = some (.int .i64 x.p) := fun nn => (hcx.gr hxq nn).2.1
                have x2 : ∀ nn : GrT wr, nn.w.cell? ⟨xb, 2, none⟩ = some (.int .i64 x.b) := fun nn => (hcx.gr hxq nn).2.2.1
                have x3 : ∀ nn : GrT wr, nn.w.cell? ⟨xb, 3, none⟩ = some (.int .i64 x.q) := fun nn => (hcx.gr hxq nn).2.2.2.1
                have HGv : Hid (Below w.heap.size w wr) := HGw
                have HUs : Hid (∀ (s p : Int) (u : World), Calls Try.prog 32 #[lkV y, .int .i64 s, .int .i64 p] u fun r w' => r = .returned (.bool (usesB y s p)) ∧ Below u.heap.size u w') := (show ∀ s p u, _ from fun s p u => uses_any y s p u)
                have HEq : Hid (hitB y x = (usesB y x.a x.p || (decide (0 < x.b) && usesB y x.b x.q) || (decide (x.b < 0) && decide (y.b = x.b)))) := (show _ = _ from rfl)
                clear hcy hcx e0 e1 e2 e3 e4 hy HGw HMem HTk hxq hgq
                cases u1 : usesB y x.a x.p
                · have HU1 : Hid (∀ (u : World), Calls Try.prog 32 #[lkV y, .int .i64 x.a, .int .i64 x.p] u fun r w' => r = .returned (.bool false) ∧ Below u.heap.size u w') := (show ∀ u, _ from fun u => by rw [← u1]; exact HUs.out _ _ _)
                  rcases HX0.out with hs | hs
                  · try (exfalso; omega)
                    all_goals
                      have hs2 : ¬ 0 < x.b := by omega
                      have g1 : decide (0 < x.b) = false := by simp; omega
                      have g2 : decide (x.b < 0) = true := by simp; omega
                      cases u2 : (y.b == x.b)
                      · have HN2 : Hid (∀ z ∈ l.take (k2 + 1), hitB z x = false) := (show ∀ z ∈ l.take (k2 + 1), _ from HNy.out (by rw [HEq.out, u1, g1, g2]; simpa using u2))
                        go_wp2_with fail
                        refine wp_region_grow (by kernel_rfl) (by kernel_rfl) ?_
                        repeat (go_big_quiet_step ((go_at_call 32; exact quiet_gr (HU1.out _))))
                        refine wpQuiet_nil ?_
                        rintro w1 hw'
                        have g1 := gr_elim hw'
                        have HW1 : Hid (Below V.heap.size V w1) := (show Below _ _ _ from btr HBw.out g1 (Nat.le_refl _))
                        clear g1 hw'
                        go_wp2
                        go_roundw
                        case rel => exact ⟨k2 + 1, by omega, by go_num, HN2, HW1⟩
                        case measure => simp [intOf]; omega
                      · have HQ : Hid (goodF N [] l = false) := (show _ = _ from HHy.out (by rw [HEq.out, u1, g1, g2]; simpa using u2))
                        go_wp2_with fail
                        refine wp_region_grow (by kernel_rfl) (by kernel_rfl) ?_
                        repeat (go_big_quiet_step ((go_at_call 32; exact quiet_gr (HU1.out _))))
                        refine wpQuiet_nil ?_
                        rintro w1 hw'
                        have g1 := gr_elim hw'
                        have HW1 : Hid (Below w.heap.size w w1) := (show Below _ _ _ from (HX5.out _ (btr HBw.out g1 (Nat.le_refl _))).2.1)
                        clear g1 hw'
                        go_wp2
                        go_ret2
                        exact hno.out _ HQ.out HW1.out
                  · try (exfalso; omega)
                    all_goals
                      have hs2 : ¬ x.b < 0 := by omega
                      have g1 : decide (0 < x.b) = true := by simp; omega
                      have g2 : decide (x.b < 0) = false := by simp; omega
                      cases u2 : usesB y x.b x.q
                      · have HU2 : Hid (∀ (u : World), Calls Try.prog 32 #[lkV y, .int .i64 x.b, .int .i64 x.q] u fun r w' => r = .returned (.bool false) ∧ Below u.heap.size u w') := (show ∀ u, _ from fun u => by rw [← u2]; exact HUs.out _ _ _)
                        have HN2 : Hid (∀ z ∈ l.take (k2 + 1), hitB z x = false) := (show ∀ z ∈ l.take (k2 + 1), _ from HNy.out (by rw [HEq.out, u1, g1, g2, u2]; rfl))
                        go_wp2_with fail
                        refine wp_region_grow (by kernel_rfl) (by kernel_rfl) ?_
                        repeat (go_big_quiet_step ((first | (go_at_call_of 32 (Value.int IntKind.i64 x.a); exact quiet_gr (HU1.out _)) | (go_at_call_of 32 (Value.int IntKind.i64 x.b); exact quiet_gr (HU2.out _)))))
                        refine wpQuiet_nil ?_
                        rintro w1 hw'
                        have g1 := gr_elim hw'
                        have HW1 : Hid (Below V.heap.size V w1) := (show Below _ _ _ from btr HBw.out g1 (Nat.le_refl _))
                        clear g1 hw'
                        go_wp2
                        go_roundw
                        case rel => exact ⟨k2 + 1, by omega, by go_num, HN2, HW1⟩
                        case measure => simp [intOf]; omega
                      · have HU2 : Hid (∀ (u : World), Calls Try.prog 32 #[lkV y, .int .i64 x.b, .int .i64 x.q] u fun r w' => r = .returned (.bool true) ∧ Below u.heap.size u w') := (show ∀ u, _ from fun u => by rw [← u2]; exact HUs.out _ _ _)
                        have HQ : Hid (goodF N [] l = false) := (show _ = _ from HHy.out (by rw [HEq.out, u1, g1, g2, u2]; rfl))
                        go_wp2_with fail
                        refine wp_region_grow (by kernel_rfl) (by kernel_rfl) ?_
                        repeat (go_big_quiet_step ((first | (go_at_call_of 32 (Value.int IntKind.i64 x.a); exact quiet_gr (HU1.out _)) | (go_at_call_of 32 (Value.int IntKind.i64 x.b); exact quiet_gr (HU2.out _)))))
                        refine wpQuiet_nil ?_
                        rintro w1 hw'
                        have g1 := gr_elim hw'
                        have HW1 : Hid (Below w.heap.size w w1) := (show Below _ _ _ from (HX5.out _ (btr HBw.out g1 (Nat.le_refl _))).2.1)
                        clear g1 hw'
                        go_wp2
                        go_ret2
                        exact hno.out _ HQ.out HW1.out
                · have HU1 : Hid (∀ (u : World), Calls Try.prog 32 #[lkV y, .int .i64 x.a, .int .i64 x.p] u fun r w' => r = .returned (.bool true) ∧ Below u.heap.size u w') := (show ∀ u, _ from fun u => by rw [← u1]; exact HUs.out _ _ _)
                  have HQ : Hid (goodF N [] l = false) := (show _ = _ from HHy.out (by rw [HEq.out, u1]; rfl))
                  go_wp2_with fail
                  refine wp_region_grow (by kernel_rfl) (by kernel_rfl) ?_
                  repeat (go_big_quiet_step ((go_at_call 32; exact quiet_gr (HU1.out _))))
                  refine wpQuiet_nil ?_
                  rintro w1 hw'
                  have g1 := gr_elim hw'
                  have HW1 : Hid (Below w.heap.size w w1) := (show Below _ _ _ from (HX5.out _ (btr HBw.out g1 (Nat.le_refl _))).2.1)
                  clear g1 hw'
                  go_wp2
                  go_ret2
                  exact hno.out _ HQ.out HW1.out
              · have HN : Hid (goodF N [] (l.take (k + 1)) = true) := (show _ = _ from HNx.out (by
                  have := HNo.out
                  rwa [show k2 = k by omega] at this))
                go_wp2
                go_roundw
                case rel => exact ⟨k + 1, by omega, by go_num, (show RwI _ _ _ _ _ from ⟨(HX5.out _ HBw.out).2.1, HN.out⟩)⟩
                case measure => simp [intOf]; omega
      · have HF : Hid (goodF N [] l = true ∧ Below w.heap.size w wr) := (show _ ∧ _ by
          have := HI.out.good
          rw [List.take_of_length_le (by omega)] at this
          exact ⟨this, HI.out.bel⟩)
        have HLs : Hid (Ls wr a l) := HL.out.below HI.out.bel
        clear HI
        go_wp2_with (at_builtin; refine wpList_copy rfl _ _ rfl w.heap.size rfl a cap l l.length rfl rfl HLs.out (by omega) HF.out.2.size ?_; intro v' w2 ho2 hg2; obtain ⟨a2, cap2, rfl, hls⟩ := own_links ho2; have HO : Hid (Ls w2 a2 l ∧ Below w.heap.size w w2) := (show _ ∧ _ from ⟨hls, HF.out.2.grown hg2 HF.out.2.size (fun j hj => by cases hj)⟩); clear ho2 hg2 hls)
        go_ret2
        exact hyes.out _ _ a2 cap2 HF.out.1 (HO.out.2.alloc (by exact HO.out.2.size) _) ⟨by simp, by simp, HO.out.1.below (by go_grown), by simp⟩
  · have hno : Hid (∀ w', Below w.heap.size w w' → RwR w n l (.returned (.tuple #[.pointer none, .int .i64 42])) w') := (show ∀ w', _ from fun w' g => ⟨g, .inr ⟨by unfold goodB; rw [decide_eq_false h2]; simp, rfl⟩⟩)
    have H1 : Hid (inB n 1 32 = true) := h1
    clear h1 hl
    go_enter Try.func11, Try.ntmps11
    go_wp2_with (go_at_call 31; refine (rin_any _ _ _ _).mono ?_; rw [H1.out]; rintro r w' ⟨rfl, rfl⟩)
    go_ret2
    exact hno.out _ (Below.refl _ _)
end Go.Proofs.Ytcjojcaahpkacaa

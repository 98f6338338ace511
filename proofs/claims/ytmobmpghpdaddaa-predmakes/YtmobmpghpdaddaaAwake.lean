/-
  awake.
-/
import Derived.Test.YtmobmpghpdaddaaAwkP
namespace Go.Proofs.Ytmobmpghpdaddaa
open Go.ChangeShapes Go.WideShapes Go.ChangeAt Go.RowKit
set_option linter.unusedVariables false
set_option linter.unusedSimpArgs false

theorem r_len {l : List Nd} (h : rightB l = true) : l.length ≤ 9223372036854775807 := by have := (rightB_len h).2; omega
theorem r_sub {l : List Nd} (h : rightB l = true) : ∀ x ∈ l, x.s.length ≤ 9223372036854775807 := fun x hx => by have := (right_few h x hx).1; omega
theorem PrR.ns {w w' : World} {L : List Nd} {e : Ending} (h : PrR w L e w') : ∃ a c, e = .returned (.agg #[.slice a L.length c]) ∧ L.length ≤ c ∧ Ns w' a L ∧ Below w.heap.size w w' := by
  obtain ⟨v, hs, rfl, h2, rfl, h4⟩ := h
  obtain ⟨a, c, rfl, h5, h6⟩ := h2.ns
  exact ⟨a, c, by rw [List.length_map], by rw [List.length_map]; exact h5, h6, h4⟩
/-- Two predicates in boxes. -/
structure AwI (w : World) (L1 L2 : List Nd) (b1 b2 : Nat) (a1 : Option Addr) (d1 : Nat) (a2 : Option Addr) (d2 : Nat) (u : World) : Prop where
  k1 : u.cell? ⟨b1, 0, none⟩ = some (.slice a1 1 d1)
  k2 : u.cell? ⟨b2, 0, none⟩ = some (.slice a2 1 d2)
  n1 : Ns u a1 L1
  n2 : Ns u a2 L2
  lt : b1 < u.heap.size ∧ b2 < u.heap.size ∧ 1 ≤ d1 ∧ 1 ≤ d2
  bel : Below w.heap.size w u
theorem AwI.grow {w u u' : World} {L1 L2 : List Nd} {b1 b2 : Nat} {a1 a2 : Option Addr} {d1 d2 : Nat} (h : AwI w L1 L2 b1 b2 a1 d1 a2 d2 u) (g : Below u.heap.size u u') : AwI w L1 L2 b1 b2 a1 d1 a2 d2 u' :=
  ⟨(g.cell (p := ⟨b1, 0, none⟩) h.lt.1).trans h.k1, (g.cell (p := ⟨b2, 0, none⟩) h.lt.2.1).trans h.k2, h.n1.below g, h.n2.below g, ⟨Nat.lt_of_lt_of_le h.lt.1 g.size, Nat.lt_of_lt_of_le h.lt.2.1 g.size, h.lt.2.2⟩, btr h.bel g (Nat.le_refl _)⟩
theorem aw_two {w w1 w2 : World} {L1 L2 : List Nd} {a1 a2 : Option Addr} {d1 d2 : Nat} (g1 : Below w.heap.size w w1) (h1 : 1 ≤ d1) (n1 : Ns w1 a1 L1) (h2 : 1 ≤ d2) (n2 : Ns w2 a2 L2) (g2 : Below (w1.heap.size + 1) (w1.alloc (.cells #[.slice a1 1 d1] 24)) w2) :
    AwI w L1 L2 w1.heap.size w2.heap.size a1 d1 a2 d2 ((w2.alloc (.cells #[.slice a2 1 d2] 24)).alloc (.cells #[.slice a1 1 d1, .slice a2 1 d2] 24)) ∧ w2.heap.size + 1 < ((w2.alloc (.cells #[.slice a2 1 d2] 24)).alloc (.cells #[.slice a1 1 d1, .slice a2 1 d2] 24)).heap.size ∧ ((w2.alloc (.cells #[.slice a2 1 d2] 24)).alloc (.cells #[.slice a1 1 d1, .slice a2 1 d2] 24)).cell? ⟨w2.heap.size + 1, 0, none⟩ = some (.slice a1 1 d1) ∧ ((w2.alloc (.cells #[.slice a2 1 d2] 24)).alloc (.cells #[.slice a1 1 d1, .slice a2 1 d2] 24)).cell? ⟨w2.heap.size + 1, 1, none⟩ = some (.slice a2 1 d2) := by
  have gA : Below w1.heap.size w1 (w1.alloc (.cells #[.slice a1 1 d1] 24)) := by go_grown
  have gB : Below w2.heap.size w2 ((w2.alloc (.cells #[.slice a2 1 d2] 24)).alloc (.cells #[.slice a1 1 d1, .slice a2 1 d2] 24)) := by go_grown
  have hsz := g2.size
  simp only [World.size_alloc] at hsz
  have e1 : w2.cell? ⟨w1.heap.size, 0, none⟩ = some (.slice a1 1 d1) := (g2.cell (p := ⟨w1.heap.size, 0, none⟩) (Nat.lt_succ_self _)).trans (by simp)
  have gW : Below w1.heap.size w1 w2 := btr gA (by simpa using g2) (Nat.le_refl _)
  exact ⟨⟨(gB.cell (p := ⟨w1.heap.size, 0, none⟩) (by show w1.heap.size < _; omega)).trans e1, by simp, (n1.below gW).below gB, n2.below gB, ⟨by simp; omega, by simp; omega, h1, h2⟩, btr (btr g1 gW (Nat.le_refl _)) gB (Nat.le_refl _)⟩, by simp, by simp, by simp⟩
set_option maxRecDepth 20000 in
set_option maxHeartbeats 8000000 in
theorem awake_any (w : World) : Calls Try.prog 13 #[] w fun e w' => e = .returned (.bool true) ∧ Below w.heap.size w w' := by
  have HI1 : Hid (Calls Try.prog 19 #[.agg #[.int .i64 9, .int .u64 1, .int .u64 1]] w fun e w' => ∃ a c, e = .returned (.agg #[.slice a 1 c]) ∧ 1 ≤ c ∧ Ns w' a (isL t1) ∧ Below w.heap.size w w') := (show Calls _ _ _ _ _ from (is_any t1 w).mono fun e w' h => by
    have := h.ns
    rw [ex_l1] at this
    exact this)
  have HI2 : Hid (∀ u, Calls Try.prog 19 #[.agg #[.int .i64 9, .int .u64 2, .int .u64 2]] u fun e w' => ∃ a c, e = .returned (.agg #[.slice a 1 c]) ∧ 1 ≤ c ∧ Ns w' a (isL t2) ∧ Below u.heap.size u w') := (show ∀ u, _ from fun u => (is_any t2 u).mono fun e w' h => by
    have := h.ns
    rw [ex_l2] at this
    exact this)
  obtain ⟨L1, hL1⟩ : ∃ L, isL t1 = L := ⟨_, rfl⟩
  obtain ⟨L2, hL2⟩ : ∃ L, isL t2 = L := ⟨_, rfl⟩
  rw [hL1] at HI1
  rw [hL2] at HI2
  have HL : Hid (isL t1 = L1 ∧ isL t2 = L2) := ⟨hL1, hL2⟩
  clear hL1 hL2
  -- what Or, Cubes answer
  have HOr : Hid (∀ u g a1 d1 a2 d2 b1 b2, AwI w L1 L2 b1 b2 a1 d1 a2 d2 u → g < u.heap.size → u.cell? ⟨g, 0, none⟩ = some (.slice a1 1 d1) → u.cell? ⟨g, 1, none⟩ = some (.slice a2 1 d2) → Calls Try.prog 15 #[.slice (some ⟨g, 0, none⟩) 2 2] u fun e w' => ∃ a c, e = .returned (.agg #[.slice a exOr.length c]) ∧ Ns w' a exOr ∧ AwI w L1 L2 b1 b2 a1 d1 a2 d2 w') := (show ∀ u g a1 d1 a2 d2 b1 b2, _ from fun u g a1 d1 a2 d2 b1 b2 hA hg g1 g2 => by
    have hl1 : L1.length = 1 := by rw [← HL.out.1]; exact ex_l1
    have hl2 : L2.length = 1 := by rw [← HL.out.2]; exact ex_l2
    have := or_any (some ⟨g, 0, none⟩) [L1, L2] 2 u (.inr ⟨g, 0, rfl, hg, fun i hi => by
      have : i = 0 ∨ i = 1 := by simp at hi; omega
      rcases this with rfl | rfl
      · exact ⟨a1, d1, by simpa [hl1] using g1, by simpa [hl1] using hA.lt.2.2.1, hA.n1⟩
      · exact ⟨a2, d2, by simpa [hl2] using g2, by simpa [hl2] using hA.lt.2.2.2, hA.n2⟩⟩) (by simp) (fun l hl => by
      have : l = L1 ∨ l = L2 := by simpa using hl
      rcases this with rfl | rfl
      · rw [← HL.out.1]; exact ⟨r_len ex_r1, r_sub ex_r1⟩
      · rw [← HL.out.2]; exact ⟨r_len ex_r2, r_sub ex_r2⟩)
    have e : madeL 5 [L1, L2] = exOr := by rw [← HL.out.1, ← HL.out.2]; rfl
    rw [e] at this
    exact this.mono fun e w' h => by
      obtain ⟨a, c, h1, h2, h3, h4⟩ := h.ns
      exact ⟨a, c, h1, h3, hA.grow h4⟩)
  have HAnd : Hid (∀ u g a1 d1 a2 d2 b1 b2, AwI w L1 L2 b1 b2 a1 d1 a2 d2 u → g < u.heap.size → u.cell? ⟨g, 0, none⟩ = some (.slice a1 1 d1) → u.cell? ⟨g, 1, none⟩ = some (.slice a2 1 d2) → Calls Try.prog 14 #[.slice (some ⟨g, 0, none⟩) 2 2] u fun e w' => ∃ a c, e = .returned (.agg #[.slice a exAnd.length c]) ∧ Ns w' a exAnd ∧ Below u.heap.size u w') := (show ∀ u g a1 d1 a2 d2 b1 b2, _ from fun u g a1 d1 a2 d2 b1 b2 hA hg g1 g2 => by
    have hl1 : L1.length = 1 := by rw [← HL.out.1]; exact ex_l1
    have hl2 : L2.length = 1 := by rw [← HL.out.2]; exact ex_l2
    have := and_any (some ⟨g, 0, none⟩) [L1, L2] 2 u (.inr ⟨g, 0, rfl, hg, fun i hi => by
      have : i = 0 ∨ i = 1 := by simp at hi; omega
      rcases this with rfl | rfl
      · exact ⟨a1, d1, by simpa [hl1] using g1, by simpa [hl1] using hA.lt.2.2.1, hA.n1⟩
      · exact ⟨a2, d2, by simpa [hl2] using g2, by simpa [hl2] using hA.lt.2.2.2, hA.n2⟩⟩) (by simp) (fun l hl => by
      have : l = L1 ∨ l = L2 := by simpa using hl
      rcases this with rfl | rfl
      · rw [← HL.out.1]; exact ⟨r_len ex_r1, r_sub ex_r1⟩
      · rw [← HL.out.2]; exact ⟨r_len ex_r2, r_sub ex_r2⟩)
    have e : madeL 4 [L1, L2] = exAnd := by rw [← HL.out.1, ← HL.out.2]; rfl
    rw [e] at this
    exact this.mono fun e w' h => by
      obtain ⟨a, c, h1, h2, h3, h4⟩ := h.ns
      exact ⟨a, c, h1, h3, h4⟩)
  have HCu : Hid (∀ u a c a1 d1 a2 d2 b1 b2, AwI w L1 L2 b1 b2 a1 d1 a2 d2 u → Ns u a exOr → Calls Try.prog 35 #[.agg #[.slice a exOr.length c]] u fun e w' => ∃ g x y, e = .returned (.tuple #[.slice (some ⟨g, 0, none⟩) 2 2, .int .i64 0]) ∧ w'.cell? ⟨g, 1, none⟩ = some (.slice x 1 y) ∧ g < w'.heap.size ∧ Ts w' x [t3] ∧ AwI w L1 L2 b1 b2 a1 d1 a2 d2 w') := (show ∀ u a c a1 d1 a2 d2 b1 b2, _ from fun u a c a1 d1 a2 d2 b1 b2 hA hN => (cubes_any a exOr c u hN (r_len ex_ror) (r_sub ex_ror)).mono fun e w' h => by
    obtain ⟨k1, k2, e1, e2⟩ := ex_two
    rcases h with ⟨h, _⟩ | ⟨_, h, _⟩ | ⟨_, r, g, h1, h2, h3⟩
    · rw [ex_ror] at h; cases h
    · rw [e1] at h; cases h
    · have er : r = [k1, k2] := (Option.some.inj (e1.symm.trans h1)).symm
      subst er
      obtain ⟨hs, f1, f2, f3⟩ := h3.ex
      have hlen : hs.length = 2 := f1
      have f4 := f2 1 (by omega)
      have f5 := (f3.2 1 (by omega) (show 1 < 2 by omega)).1
      have e3 : ([k1, k2] : List K)[1] = k2 := rfl
      rw [e3] at f5
      obtain ⟨g1, g2, g3⟩ := f5
      rw [e2] at g1 g3
      refine ⟨g, hs[1].a, hs[1].c, h2, ?_, h3.lt, g3.ts, hA.grow h3.bel⟩
      rw [f4]
      show some (Value.slice _ hs[1].n _) = _
      rw [g1]
      rfl)
  have HNo : Hid (∀ u a1 d1 a2 d2 b1 b2, AwI w L1 L2 b1 b2 a1 d1 a2 d2 u → Calls Try.prog 18 #[.agg #[.slice a1 1 d1]] u fun e w' => ∃ a c, e = .returned (.agg #[.slice a exNot.length c]) ∧ Ns w' a exNot ∧ Below u.heap.size u w') := (show ∀ u a1 d1 a2 d2 b1 b2, _ from fun u a1 d1 a2 d2 b1 b2 hA => by
    have hl1 : L1.length = 1 := by rw [← HL.out.1]; exact ex_l1
    have hr : rightB L1 = true := by rw [← HL.out.1]; exact ex_r1
    have := not_any a1 L1 d1 u hA.n1 (by rw [hl1]; exact hA.lt.2.2.1) (r_len hr) (r_sub hr)
    have e : madeL 6 [L1] = exNot := by rw [← HL.out.1]; rfl
    rw [e, hl1] at this
    exact this.mono fun e w' h => by
      obtain ⟨a, c, h1, h2, h3, h4⟩ := h.ns
      exact ⟨a, c, h1, h3, h4⟩)
  have HDi : Hid (∀ u a c a1 d1 a2 d2 b1 b2, AwI w L1 L2 b1 b2 a1 d1 a2 d2 u → Ns u a exNot → Calls Try.prog 36 #[.agg #[.slice a1 1 d1], .agg #[.slice a exNot.length c]] u fun e w' => e = .returned (.tuple #[.bool true, .int .i64 0]) ∧ Below u.heap.size u w') := (show ∀ u a c a1 d1 a2 d2 b1 b2, _ from fun u a c a1 d1 a2 d2 b1 b2 hA hN => by
    have hl1 : L1.length = 1 := by rw [← HL.out.1]; exact ex_l1
    have hr : rightB L1 = true := by rw [← HL.out.1]; exact ex_r1
    have := disjoint_any a1 L1 d1 a exNot c u hA.n1 hN (r_len hr) (r_len ex_rnot) (r_sub hr) (r_sub ex_rnot)
    have e : djP L1 exNot = (true, 0) := by rw [← HL.out.1]; exact ex_dj
    rw [e, hl1] at this
    exact this.mono fun e w' ⟨h1, h2⟩ => ⟨h1, h2⟩)
  have HE1 : Hid (∀ u b a1 d1 a2 d2 b1 b2, AwI w L1 L2 b1 b2 a1 d1 a2 d2 u → Vs u b o5 → Calls Try.prog 11 #[.agg #[.slice a1 1 d1], .slice b 10 10] u fun e w' => e = .returned (.bool true) ∧ Below u.heap.size u w') := (show ∀ u b a1 d1 a2 d2 b1 b2, _ from fun u b a1 d1 a2 d2 b1 b2 hA hV => by
    have hl1 : L1.length = 1 := by rw [← HL.out.1]; exact ex_l1
    have hr : rightB L1 = true := by rw [← HL.out.1]; exact ex_r1
    have := eval_any a1 L1 d1 b o5 10 u hA.n1 hV (r_len hr) (r_sub hr)
    have e : evalB (valR o5) L1 = true := by rw [← HL.out.1]; exact ex_ev
    rw [e, hl1] at this
    exact this.mono fun e w' ⟨h1, h2⟩ => ⟨h1, h2⟩)
  have HE0 : Hid (∀ u a c, Ns u a exAnd → Calls Try.prog 11 #[.agg #[.slice a exAnd.length c], .slice none 0 0] u fun e w' => e = .returned (.bool false) ∧ Below u.heap.size u w') := (show ∀ u a c, _ from fun u a c hN => by
    have := eval_any a exAnd c none [] 0 u hN (.inl rfl) (r_len ex_rand) (r_sub ex_rand)
    rw [ex_ev0] at this
    exact this)
  have HSc : Hid (∀ u g x y, g < u.heap.size → u.cell? ⟨g, 0, none⟩ = some (.int .i64 9) → u.cell? ⟨g, 1, none⟩ = some (.int .u64 2) → u.cell? ⟨g, 2, none⟩ = some (.int .u64 3) → Ts u x [t3] → Calls Try.prog 30 #[.slice x 1 y, .slice (some ⟨g, 0, none⟩) 1 1] u fun e w' => e = .returned (.bool true) ∧ Below u.heap.size u w') := (show ∀ u g x y, _ from fun u g x y hg g0 g1 g2 hT => sameC_any x [t3] y (some ⟨g, 0, none⟩) [t3] 1 u hT (.inr ⟨g, 0, rfl, hg, fun i hi => by
      obtain rfl : i = 0 := by simp at hi; omega
      exact ⟨g0, g1, g2⟩⟩) (by simp) (by simp))
  obtain ⟨NO, hNO⟩ : ∃ N, exOr.length = N := ⟨_, rfl⟩
  obtain ⟨NN, hNN⟩ : ∃ N, exNot.length = N := ⟨_, rfl⟩
  obtain ⟨NA, hNA⟩ : ∃ N, exAnd.length = N := ⟨_, rfl⟩
  rw [hNO] at HOr HCu
  rw [hNN] at HNo HDi
  rw [hNA] at HAnd HE0
  clear hNO hNN hNA
  go_enter Try.func13, Try.ntmps13
  go_wp2_with (first
    | (go_at_call_of 19 (Value.agg #[.int .i64 9, .int .u64 1, .int .u64 1]); refine HI1.out.mono ?_; rintro e w1 ⟨a1, d1, rfl, h1, h2, h3⟩; have HW1 : Hid (1 ≤ d1 ∧ Ns w1 a1 L1 ∧ Below w.heap.size w w1) := ⟨h1, h2, h3⟩; clear h1 h2 h3 HI1)
    | (go_at_call 19; refine (HI2.out _).mono ?_; rintro e w2 ⟨a2, d2, rfl, h1, h2, h3⟩; have HW2 : Hid (1 ≤ d2 ∧ Ns w2 a2 L2 ∧ Below (w1.heap.size + 1) (w1.alloc (.cells #[.slice a1 1 d1] 24)) w2) := ⟨h1, h2, by simpa using h3⟩; have e1 : w2.cell? ⟨w1.heap.size, 0, none⟩ = some (.slice a1 1 d1) := (HW2.out.2.2.cell (p := ⟨w1.heap.size, 0, none⟩) (Nat.lt_succ_self _)).trans (by simp); have hsz := HW2.out.2.2.size; have hn1 : w1.heap.size ≠ w2.heap.size := (by simp at hsz; omega); have hn2 : w2.heap.size ≠ w1.heap.size := hn1.symm; have e2 : (w2.alloc (.cells #[.slice a2 1 d2] 24)).cell? ⟨w1.heap.size, 0, none⟩ = some (.slice a1 1 d1) := (((show Below w2.heap.size w2 (w2.alloc (.cells #[.slice a2 1 d2] 24)) by go_grown).cell (p := ⟨w1.heap.size, 0, none⟩) (by show w1.heap.size < _; simp at hsz; omega))).trans e1; have HX := aw_two HW1.out.2.2 HW1.out.1 HW1.out.2.1 h1 h2 HW2.out.2.2; have HX3 : Hid _ := HX; clear h1 h2 h3 HI2 hsz HX)
    | (go_at_call 15; refine (HOr.out _ (w2.heap.size + 1) a1 d1 a2 d2 w1.heap.size w2.heap.size HX3.out.1 HX3.out.2.1 HX3.out.2.2.1 HX3.out.2.2.2).mono ?_; rintro e w3 ⟨a3, c3, rfl, h1, h2⟩; have HW3 : Hid (Ns w3 a3 exOr ∧ AwI w L1 L2 w1.heap.size w2.heap.size a1 d1 a2 d2 w3) := ⟨h1, h2⟩; clear h1 h2 HOr)
    | (go_at_call 35; refine (HCu.out _ a3 c3 a1 d1 a2 d2 w1.heap.size w2.heap.size HW3.out.2 HW3.out.1).mono ?_; rintro e w4 ⟨g4, x4, y4, rfl, f1, f2, f3, f4⟩; have HW4 : Hid (Ts w4 x4 [t3] ∧ AwI w L1 L2 w1.heap.size w2.heap.size a1 d1 a2 d2 w4 ∧ w4.cell? ⟨g4, 1, none⟩ = some (.slice x4 1 y4) ∧ g4 < w4.heap.size) := ⟨f3, f4, f1, f2⟩; clear f1 f2 f3 f4 HCu))
  have HK : Hid (∀ u, Below w4.heap.size w4 u → AwI w L1 L2 w1.heap.size w2.heap.size a1 d1 a2 d2 u ∧ Ts u x4 [t3] ∧ u.cell? ⟨g4, 1, none⟩ = some (.slice x4 1 y4)) := (show ∀ u, _ from fun u g => ⟨HW4.out.2.1.grow g, HW4.out.1.below g, (g.cell (p := ⟨g4, 1, none⟩) HW4.out.2.2.2).trans HW4.out.2.2.1⟩)
  have hU : Try.prog.underlying 24 = some (.struct (Try.prog.fieldsOf 24)) := by kernel_rfl
  have hr1 : ∀ W, Below w4.heap.size w4 W → W.rangeAt w1.heap.size 0 [.slice a1 1 d1] := fun W hW j u hj => by
    cases j with
    | zero => simp at hj; subst hj; exact (HK.out W hW).1.k1
    | succ j => simp at hj
  clear HX3 HW3 HW1 HW2 e1 e2
  refine wp_region_held_drew (S := fun W => Below w4.heap.size w4 W) (by kernel_rfl) ((Below.refl _ _).drew) (fun hHeld => ?_)
  refine wpAnyH_take (i := 0) (oi := { dst := some 20, op := Op.load 24 (Operand.tmp 1), type := 24, pos := _, after := #[], guard := none }) (v := .agg #[.slice a1 1 d1]) rfl (by kernel_rfl) (by kernel_rfl) (by kernel_rfl) (fun _ _ _ h => h) (yieldsIf_load_mid (by rfl) 24 (.tmp 1) rfl w1.heap.size 0 rfl [.slice a1 1 d1] _ hr1 hU rfl (by kernel_rfl)) (by assumption) ?_
  refine wpAnyH_take (i := 1) (oi := { dst := some 21, op := Op.load 24 (Operand.tmp 1), type := 24, pos := _, after := #[], guard := none }) (v := .agg #[.slice a1 1 d1]) rfl (by kernel_rfl) (by kernel_rfl) (by kernel_rfl) (fun _ _ _ h => h) (yieldsIf_load_mid (by rfl) 24 (.tmp 1) rfl w1.heap.size 0 rfl [.slice a1 1 d1] _ hr1 hU rfl (by kernel_rfl)) (by assumption) ?_
  clear hr1 hU
  try simp only [Act.put, List.setIfInBounds_toArray, List.set_cons_zero, List.set_cons_succ]
  refine wpAnyH_ready (rs := [2]) (by kernel_rfl) (by simp) ?_
  refine AllReadyH.cons rfl (fun K0 hK => ?_) AllReadyH.nil
  refine step_call (by rfl) 18 #[.agg #[.slice a1 1 d1]] (by go_simp) ((HNo.out _ a1 d1 a2 d2 w1.heap.size w2.heap.size (HK.out _ hHeld).1).mono ?_)
  rintro e w5 ⟨a5, c5, rfl, h1, h2⟩
  have HB5 : Hid (Below w4.heap.size w4 w5 ∧ Ns w5 a5 exNot) := ⟨btr hHeld h2 (Nat.le_refl _), h1⟩
  clear h1 h2
  refine ⟨_, rfl, ?_⟩
  refine hK.out _ _ HB5.out.1 (fun hHeld => ?_)
  clear hK
  try simp only [Act.put, List.setIfInBounds_toArray, List.set_cons_zero, List.set_cons_succ]
  refine wpAnyH_ready (rs := [3]) (by kernel_rfl) (by simp) ?_
  refine AllReadyH.cons rfl (fun K0 hK => ?_) AllReadyH.nil
  refine step_call (by rfl) 36 #[.agg #[.slice a1 1 d1], .agg #[.slice a5 NN c5]] (by go_simp) ((HDi.out _ a5 c5 a1 d1 a2 d2 w1.heap.size w2.heap.size (HK.out _ HB5.out.1).1 HB5.out.2).mono ?_)
  rintro e w6 ⟨rfl, h2⟩
  have HB6 : Hid (Below w4.heap.size w4 w6) := (show Below _ _ _ from btr HB5.out.1 h2 (Nat.le_refl _))
  clear h2
  refine ⟨_, rfl, ?_⟩
  refine hK.out _ _ HB6.out (fun hHeld => ?_)
  clear hK
  try simp only [Act.put, List.setIfInBounds_toArray, List.set_cons_zero, List.set_cons_succ]
  refine wpAnyH_ready (rs := [4]) (by kernel_rfl) (by simp) ?_
  refine AllReadyH.cons rfl (fun K0 hK => ?_) AllReadyH.nil
  go_simp
  refine hK.out _ _ HB6.out (fun hHeld => ?_)
  clear hK
  refine wpAnyH_take (i := 5) (oi := { dst := some 24, op := Op.extract (Operand.tmp 19) 0, type := 4, pos := _, after := _, guard := none }) (v := .bool true) rfl (by kernel_rfl) (by kernel_rfl) (by kernel_rfl) (fun _ _ _ h => h) (.inl ⟨by rfl, fun w hw' => by go_simp⟩) (by assumption) ?_
  try simp only [Act.put, List.setIfInBounds_toArray, List.set_cons_zero, List.set_cons_succ]
  refine wpAnyH_take (i := 6) (oi := { dst := some 25, op := Op.extract (Operand.tmp 19) 1, type := 55, pos := _, after := _, guard := none }) (v := .int .i64 0) rfl (by kernel_rfl) (by kernel_rfl) (by kernel_rfl) (fun _ _ _ h => h) (.inl ⟨by rfl, fun w hw' => by go_simp⟩) (by assumption) ?_
  try simp only [Act.put, List.setIfInBounds_toArray, List.set_cons_zero, List.set_cons_succ]
  refine wpAnyH_take (i := 7) (oi := { dst := some 5, op := Op.assign (Operand.tmp 24), type := 4, pos := _, after := _, guard := none }) (v := .bool true) rfl (by kernel_rfl) (by kernel_rfl) (by kernel_rfl) (fun _ _ _ h => h) (.inl ⟨by rfl, fun w hw' => by go_simp⟩) (by assumption) ?_
  try simp only [Act.put, List.setIfInBounds_toArray, List.set_cons_zero, List.set_cons_succ]
  refine wpAnyH_take (i := 8) (oi := { dst := some 6, op := Op.assign (Operand.tmp 25), type := 55, pos := _, after := _, guard := none }) (v := .int .i64 0) rfl (by kernel_rfl) (by kernel_rfl) (by kernel_rfl) (fun _ _ _ h => h) (.inl ⟨by rfl, fun w hw' => by go_simp⟩) (by assumption) ?_
  try simp only [Act.put, List.setIfInBounds_toArray, List.set_cons_zero, List.set_cons_succ]
  refine wpAnyH_done (by kernel_rfl) ?_ _
  obtain ⟨hA6, hT6, hc6⟩ := HK.out w6 HB6.out
  have f1 := hA6.k1
  have f2 := hA6.k2
  have hw4 : w1.heap.size < w4.heap.size ∧ w2.heap.size < w4.heap.size := ⟨HW4.out.2.1.lt.1, HW4.out.2.1.lt.2.1⟩
  have HS6 : Hid (Calls Try.prog 30 #[.slice x4 1 y4, .slice (some ⟨w6.heap.size, 0, none⟩) 1 1] (w6.alloc (.cells #[.int .i64 9, .int .u64 2, .int .u64 3] 32)) fun e w' => e = .returned (.bool true) ∧ Below w4.heap.size w4 w' ∧ w'.cell? ⟨w1.heap.size, 0, none⟩ = some (.slice a1 1 d1) ∧ w'.cell? ⟨w2.heap.size, 0, none⟩ = some (.slice a2 1 d2)) := (show Calls _ _ _ _ _ from (HSc.out (w6.alloc (.cells #[.int .i64 9, .int .u64 2, .int .u64 3] 32)) w6.heap.size x4 y4 (by simp) (by simp) (by simp) (by simp) (hT6.below (by go_grown))).mono fun e w' ⟨h1, h2⟩ => by
    have g6 : Below w4.heap.size w4 (w6.alloc (.cells #[.int .i64 9, .int .u64 2, .int .u64 3] 32)) := btr HB6.out (by go_grown) (Nat.le_refl _)
    have g7 := btr g6 h2 (Nat.le_refl _)
    exact ⟨h1, g7, (HK.out _ g7).1.k1, (HK.out _ g7).1.k2⟩)
  have HEv : Hid (∀ u, Below w4.heap.size w4 u → Calls Try.prog 11 #[.agg #[.slice a1 1 d1], .slice (some ⟨u.heap.size, 0, none⟩) 10 10] (u.alloc (.cells #[.int .u64 0, .int .u64 0, .int .u64 0, .int .u64 0, .int .u64 0, .int .u64 0, .int .u64 0, .int .u64 0, .int .u64 0, .int .u64 5] 30)) fun e w' => e = .returned (.bool true) ∧ Below w4.heap.size w4 w' ∧ w'.cell? ⟨w1.heap.size, 0, none⟩ = some (.slice a1 1 d1) ∧ w'.cell? ⟨w2.heap.size, 0, none⟩ = some (.slice a2 1 d2)) := (show ∀ u, _ from fun u g => by
    have g6 : Below w4.heap.size w4 (u.alloc (.cells #[.int .u64 0, .int .u64 0, .int .u64 0, .int .u64 0, .int .u64 0, .int .u64 0, .int .u64 0, .int .u64 0, .int .u64 0, .int .u64 5] 30)) := btr g (by go_grown) (Nat.le_refl _)
    refine (HE1.out _ (some ⟨u.heap.size, 0, none⟩) a1 d1 a2 d2 w1.heap.size w2.heap.size (HK.out _ g6).1 (.inr ⟨u.heap.size, 0, rfl, by simp, fun i hi => ?_⟩)).mono fun e w' ⟨h1, h2⟩ => ?_
    · have hh : (u.alloc (.cells (o5.map cv).toArray 30)).heap[u.heap.size]? = some (.cells (o5.map cv).toArray 30 (0, 0)) := heap_alloc_new u _
      show (u.alloc (.cells (o5.map cv).toArray 30)).cell? _ = _
      rw [cell_of_row _ _ _ _ _ _ hh]
      simp [hi]
    · have g7 := btr g6 h2 (Nat.le_refl _)
      exact ⟨h1, g7, (HK.out _ g7).1.k1, (HK.out _ g7).1.k2⟩)
  have HAn : Hid (∀ u, Below w4.heap.size w4 u → Calls Try.prog 14 #[.slice (some ⟨u.heap.size, 0, none⟩) 2 2] (u.alloc (.cells #[.slice a1 1 d1, .slice a2 1 d2] 24)) fun e w' => ∃ a c, e = .returned (.agg #[.slice a NA c]) ∧ Ns w' a exAnd ∧ Below w4.heap.size w4 w') := (show ∀ u, _ from fun u g => by
    have g6 : Below w4.heap.size w4 (u.alloc (.cells #[.slice a1 1 d1, .slice a2 1 d2] 24)) := btr g (by go_grown) (Nat.le_refl _)
    exact (HAnd.out _ u.heap.size a1 d1 a2 d2 w1.heap.size w2.heap.size (HK.out _ g6).1 (by simp) (by simp) (by simp)).mono fun e w' ⟨a, c, h1, h2, h3⟩ => ⟨a, c, h1, h2, btr g6 h3 (Nat.le_refl _)⟩)
  have HW : Hid (Below w.heap.size w w4) := HW4.out.2.1.bel
  clear hT6 hA6 HB5 HSc HE1 HAnd HNo HDi hw4
  go_wp2_with (first
    | (go_at_call 30; refine HS6.out.mono ?_; rintro e w7 ⟨rfl, h1, h2, h3⟩; have HB7 : Hid (Below w4.heap.size w4 w7) := h1; clear h1 HS6)
    | (go_at_call_of 11 (Value.agg #[.slice a1 1 d1]); refine (HEv.out _ HB7.out).mono ?_; rintro e w8 ⟨rfl, h1, h2, h3⟩; have HB8 : Hid (Below w4.heap.size w4 w8) := h1; clear h1 HEv)
    | (go_at_call 14; refine (HAn.out _ HB8.out).mono ?_; rintro e w9 ⟨a9, c9, rfl, h1, h2⟩; have HB9 : Hid (Ns w9 a9 exAnd ∧ Below w4.heap.size w4 w9) := ⟨h1, h2⟩; clear h1 h2 HAn)
    | (go_at_call 11; refine (HE0.out _ a9 c9 HB9.out.1).mono ?_; rintro e w10 ⟨rfl, h1⟩; have HB10 : Hid (Below w.heap.size w w10) := (show Below _ _ _ from btr (HW.out.trans (HB9.out.2.mono HW.out.size)) h1 (Nat.le_refl _)); clear h1))
  go_ret
  exact ⟨rfl, HB10.out⟩
end Go.Proofs.Ytmobmpghpdaddaa

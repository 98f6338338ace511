/-
  CostSorts: the order of a row has each place once, none behind one that it is ahead of; the law's function, walked.
-/
import Derived.Test.YtfkkciepbmijaabSortP
import Derived.Test.YtfkkciepbmijaabAwake
namespace Go.Proofs.Ytfkkciepbmijaab
open Go.ChangeShapes Go.WideShapes Go.ChangeAt Go.RowKit
set_option linter.unusedVariables false

theorem awake_in3 (w : World) : ∀ u, Below w.heap.size w u → Calls Try.prog 9 #[] u fun e w' => e = .returned (.bool true) ∧ Below w.heap.size w w' := fun u k => (awake_any u).mono fun e w' ⟨h1, h2⟩ => ⟨h1, btr k h2 (Nat.le_refl _)⟩
/-- Which places have been seen, in a row at block s; what was there ahead of it stays. -/
structure SeI (s n : Nat) (S : List Int) (U wr : World) : Prop where
  cell : ∀ j, j < n → wr.cell? ⟨s, j, none⟩ = some (.int .i64 (if (j : Int) ∈ S then 1 else 0))
  fz : ∀ j, wr.frozen? ⟨s, j, none⟩ = false
  lt : s < wr.heap.size
  bel : Below s U wr
  hb : U.heap.size = s
theorem SeI.new {w : World} (n : Nat) : SeI w.heap.size n [] w (w.alloc (.cells (intZ n) 3)) := by
  refine ⟨fun j hj => ?_, fun j => by simp, by simp, by go_grown, rfl⟩
  rw [if_neg (by simp)]
  have h : (w.alloc (.cells (intZ n) 3)).heap[w.heap.size]? = some (.cells (intZ n) 3 (0, 0)) := heap_alloc_new w _
  rw [cell_of_row _ _ _ _ _ _ h]
  exact intZ_at _ _ hj
theorem SeI.set {s n p : Nat} {S : List Int} {U wr : World} (h : SeI s n S U wr) (hp : p < n) : SeI s n (S ++ [(p : Int)]) U (wr.setCell ⟨s, p, none⟩ (.int .i64 1)) := by
  refine ⟨fun j hj => ?_, fun j => by simpa using h.fz j, by simpa [World.setCell] using h.lt, h.bel.setCell (Nat.le_refl _) _, h.hb⟩
  by_cases e : j = p
  · subst e
    rw [if_pos (by simp)]
    exact World.cell?_setCell_same _ _ _ (h.cell j hj)
  · have : (if (j : Int) ∈ S ++ [(p : Int)] then (1 : Int) else 0) = if (j : Int) ∈ S then 1 else 0 := by
      have : (j : Int) ∈ S ++ [(p : Int)] ↔ (j : Int) ∈ S := by
        rw [List.mem_append, List.mem_singleton]
        constructor
        · rintro (h | h)
          · exact h
          · omega
        · exact fun h => .inl h
      simp only [this]
    rw [this]
    exact (World.cell?_setCell_other _ _ _ _ (fun e' => e (by cases e'; rfl))).trans (h.cell j hj)
theorem SeI.grow {s n : Nat} {S : List Int} {U wr V : World} (h : SeI s n S U wr) (g : Below wr.heap.size wr V) : SeI s n S U V :=
  ⟨fun j hj => (g.cell (p := ⟨s, j, none⟩) h.lt).trans (h.cell j hj), fun j => (World.frozen?_of_block (w := wr) (g.block s h.lt)).trans (h.fz j), Nat.lt_of_lt_of_le h.lt g.size, btr' h.bel (g.mono (Nat.le_of_lt h.lt)), h.hb⟩
set_option maxRecDepth 20000 in
set_option maxHeartbeats 16000000 in
theorem sorts_walk (a : Option Addr) (l : List Nat) (cap : Nat) (w : World) (hs : Us w a l) (hw : W64 l) (hl : l.length < 17592186044416) : Calls Try.prog 3 #[.slice a l.length cap] w fun e w' => e = .returned (.bool true) ∧ Below w.heap.size w w' := by
  have HAw : Hid (∀ u, Below w.heap.size w u → Calls Try.prog 9 #[] u fun e w' => e = .returned (.bool true) ∧ Below w.heap.size w w') := awake_in3 w
  have HF : Hid (Calls Try.prog 5 #[.slice a l.length cap] w fun e w' => ∃ a' c', e = .returned (.slice a' l.length c') ∧ Fs w' a' l ∧ Below w.heap.size w w') := (show Calls _ _ _ _ _ from (floats_any a l cap w hs hl).mono fun e w' ⟨v, h1, h2, h3⟩ => by
    obtain ⟨a', c', rfl, h4⟩ := own_sl h2
    exact ⟨a', c', h1, h4, h3⟩)
  obtain ⟨R, hR⟩ : ∃ R, ordL l = R := ⟨_, rfl⟩
  have hRl : R.length = l.length := by rw [← hR]; exact ordL_len l
  have HO : Hid (∀ u a' c', Fs u a' l → Calls Try.prog 6 #[.slice a' l.length c'] u fun e w' => ∃ b, e = .returned (.slice (some ⟨b, 0, none⟩) l.length l.length) ∧ OrR u w' b R) := (show ∀ u a' c', _ from fun u a' c' h => by rw [← hR]; exact order_any a' l c' u h hw hl)
  obtain ⟨m, hm⟩ : ∃ m, leastN l = m := ⟨_, rfl⟩
  have HLs : Hid (∀ u a' c', Fs u a' l → Calls Try.prog 8 #[.slice a' l.length c'] u fun e w' => e = .returned (.int .i64 m) ∧ w' = u) := (show ∀ u a' c', _ from fun u a' c' h => by rw [← hm]; exact least_any a' l c' u h hw (by omega))
  have HLe : Hid (∀ (x y : Nat) (s : Bool), x < 2 ^ 64 → y < 2 ^ 64 → Hid (lessB x y = s) → ∀ u, Calls Try.prog 7 #[.float .f64 x, .float .f64 y] u fun e w' => e = .returned (.bool s) ∧ w' = u) := (show ∀ (x y : Nat) (s : Bool), _ from fun x y s h1 h2 h3 u => by have := h3.out; rw [← this]; exact less_any x y h1 h2 u)
  have HFst : Hid (∀ h : 0 < R.length, m = R[0]) := (show ∀ h : 0 < R.length, _ from fun h => by subst hR; rw [← hm]; exact first_is l h)
  have HEmp : Hid (l.length = 0 → m = -1) := (show _ → _ from fun h => by rw [← hm, List.length_eq_zero_iff.1 h]; rfl)
  have HNd : Hid R.Nodup := (show R.Nodup by rw [← hR]; exact ordL_nodup l)
  have HRg : Hid (∀ x ∈ R, ∃ p : Nat, x = (p : Int) ∧ p < l.length) := (show ∀ x ∈ R, _ from fun x hx => by
    rw [← hR] at hx
    have := ordL_aw l x hx
    have h1 := this.lo
    have h2 := this.hi
    exact ⟨x.toNat, by omega, by omega⟩)
  have HSo : Hid (∀ i j (hi : i < R.length) (hj : j < R.length), i < j → kp l R[i] ≤ kp l R[j]) := (show ∀ i j (hi : i < R.length) (hj : j < R.length), _ from fun i j hi hj hij => by subst hR; exact ordL_sorted l hi hj hij)
  have HAl : Hid (∀ i j (hi : i < R.length) (hj : j < R.length), i < j → kp l R[i] = kp l R[j] → R[i] < R[j]) := (show ∀ i j (hi : i < R.length) (hj : j < R.length), _ from fun i j hi hj hij h => by subst hR; exact ordL_alike l hi hj hij h)
  have HW : Hid (W64 l) := hw
  have HRl : Hid (R.length = l.length) := hRl
  clear hs hw hR hRl hm
  go_enter Try.func3, Try.ntmps3
  go_wp2_with (first
    | (go_at_call 5; refine HF.out.mono ?_; rintro r ww1 ⟨a', c', rfl, k1, k2⟩; have K1 : Hid (Fs ww1 a' l) := k1; have B1 : Hid (Below w.heap.size w ww1) := k2; clear k1 k2)
    | (go_at_call 6; refine (HO.out _ _ _ K1.out).mono ?_; rintro r ww2 ⟨b, rfl, k1⟩; have O1 : Hid (OrR ww1 ww2 b R) := k1; clear k1)
    | (at_make; refine wpList_ints rfl _ _ rfl _ l.length rfl hl rfl rfl ?_))
  obtain ⟨ww3, hww3⟩ : ∃ ww3, ww2.alloc (.cells (intZ l.length) 3) = ww3 := ⟨_, rfl⟩
  have S0 : Hid (SeI ww2.heap.size l.length (R.take 0) ww2 ww3) := (show SeI _ _ _ _ _ by rw [← hww3]; exact SeI.new l.length)
  rw [hww3]
  have HLn : Hid (l.length < 17592186044416) := hl
  clear hww3 hl
  obtain ⟨s, hsz⟩ : ∃ s, ww2.heap.size = s := ⟨_, rfl⟩
  rw [hsz] at S0 ⊢
  have HSz : Hid (ww2.heap.size = s) := hsz
  clear hsz
  go_loopw [6] (fun v6 wr => ∃ k : Nat, k ≤ l.length ∧ v6 = .int .i64 k ∧ Hid (SeI s l.length (R.take k) ww2 wr)) (fun v6 _ => l.length - (intOf v6).toNat)
  case atStart => exact ⟨0, Nat.zero_le _, rfl, S0⟩
  case round =>
    clear S0
    obtain ⟨k, hk, rfl, HS⟩ := hrel
    have B2 : Hid (Below ww2.heap.size ww2 wr) := (show Below _ _ _ by rw [HSz.out]; exact HS.out.bel)
    have KF : Hid (Fs wr a' l) := (show Sl _ _ _ _ from (K1.out.below O1.out.bel).below B2.out)
    have KI : Hid (Is wr (some ⟨b, 0, none⟩) R) := (show Sl _ _ _ _ from O1.out.is.below B2.out)
    have KC : Hid (b < wr.heap.size ∧ ∀ j (h : j < R.length), wr.cell? ⟨b, j, none⟩ = some (.int .i64 R[j])) := (show _ ∧ _ from ⟨Nat.lt_of_lt_of_le O1.out.lt B2.out.size, fun j hj => (B2.out.cell (p := ⟨b, _, none⟩) O1.out.lt).trans (by rw [O1.out.cells j hj, at_get R j hj])⟩)
    have BW : Hid (Below w.heap.size w wr) := (show Below _ _ _ from btr (btr B1.out O1.out.bel (Nat.le_refl _)) B2.out (Nat.le_refl _))
    by_cases hlt : k < l.length
    · have hlz : (k : Int) < (l.length : Int) := by omega
      have hlz2 : (l.length : Int) < 17592186044416 := by have := HLn.out; omega
      have hkR : k < R.length := by rw [HRl.out]; exact hlt
      obtain ⟨p, hp, hpl⟩ := HRg.out R[k] (List.getElem_mem hkR)
      have d0 := KC.out.2 k hkR
      have s0 := HS.out.cell p hpl
      have f0 := HS.out.fz p
      rw [if_neg (fun h => by
        obtain ⟨j, hj, he⟩ := List.getElem_of_mem h
        rw [List.length_take] at hj
        rw [List.getElem_take, ← hp] at he
        have := (List.getElem_inj HNd.out).1 he
        omega)] at s0
      have HN0 : Hid (SeI s l.length (R.take (k + 1)) ww2 (wr.setCell ⟨s, p, none⟩ (.int .i64 1))) := (show SeI _ _ _ _ _ by
        rw [List.take_succ_eq_append_getElem hkR, hp]
        exact HS.out.set hpl)
      have hsb : s ≠ b := fun e => by
        have h1 := O1.out.lt
        have h2 := HSz.out
        omega
      have hbs : b ≠ s := fun e => hsb e.symm
      obtain ⟨g, o, ra, hg, hc⟩ := KF.out.at hlt
      have hgs : s ≠ g := fun e => by
        have h3 := (K1.out.below O1.out.bel).at hlt
        obtain ⟨g', o', e', hg', _⟩ := h3
        rw [ra] at e'
        cases e'
        have h2 := HSz.out
        omega
      have x0 := hc p hpl
      have zp : (p : Int) < (l.length : Int) := by omega
      have zp0 : ¬ (p : Int) < 0 := by omega
      have zp1 : ¬ (l.length : Int) ≤ (p : Int) := by omega
      by_cases hk0 : k = 0
      · have hkd : decide (0 < k) = false := decide_eq_false (by omega)
        have hkd' : ¬ (0 : Int) < (k : Int) := by omega
        rw [hp] at d0
        clear hk0 hc x0 KF KI
        go_wp2_with fail
        go_roundw
        case rel => exact ⟨k + 1, by omega, by go_num, HN0⟩
        case measure => simp [intOf]; omega
      · obtain ⟨P, hP⟩ : ∃ P, k = P + 1 := ⟨k - 1, by omega⟩
        have hPR : P < R.length := by omega
        obtain ⟨q, hq, hql⟩ := HRg.out R[P] (List.getElem_mem hPR)
        have d1 := KC.out.2 P hPR
        have x1 := hc q hql
        have eP : (k : Int) - 1 = (P : Int) := by omega
        have zP : (P : Int) < (l.length : Int) := by omega
        have zq : (q : Int) < (l.length : Int) := by omega
        have hkn : decide (0 < k) = true := decide_eq_true (by omega)
        have hkz : (0 : Int) < (k : Int) := by omega
        have hk1 : kp l R[k] = ky l[p] := by rw [hp, kp_nat]; simp [List.getD_eq_getElem?_getD, hpl]
        have hk2 : kp l R[P] = ky l[q] := by rw [hq, kp_nat]; simp [List.getD_eq_getElem?_getD, hql]
        have so := HSo.out P k hPR hkR (by omega)
        have al := HAl.out P k hPR hkR (by omega)
        rw [hk1, hk2] at so al
        rw [hp] at d0 al
        rw [hq] at d1 al
        have HX : Hid (l[p] < 2 ^ 64) := HW.out.at hpl
        have HY : Hid (l[q] < 2 ^ 64) := HW.out.at hql
        obtain ⟨t, ht⟩ : ∃ t, lessB l[q] l[p] = t := ⟨_, rfl⟩
        have E1 : Hid (lessB l[p] l[q] = false) := (show _ = _ from decide_eq_false (by omega))
        have E2 : Hid (lessB l[q] l[p] = t) := ht
        have HT : Hid (t = false → q < p) := (show _ → _ from fun h => by
          rw [h] at ht
          have h1 := of_decide_eq_false ht
          have := al (by omega)
          omega)
        clear hk1 hk2 so al hp hq ht hc hk0 KF KI
        generalize l[p] = x at *
        generalize l[q] = y at *
        subst ra
        have HPk : Hid (k = P + 1) := hP
        have hkP : k ≠ P := by omega
        have hPk : P ≠ k := by omega
        have hPlt : P < k := by omega
        clear hP
        obtain ⟨V, hV⟩ : ∃ V, wr.setCell ⟨s, p, none⟩ (.int .i64 1) = V := ⟨_, rfl⟩
        have vc0 : V.cell? ⟨b, k, none⟩ = some (.int .i64 p) := by rw [← hV]; exact (World.cell?_setCell_other _ _ _ _ (fun e => by first | exact hbs (congrArg Addr.block e) | exact hbs (congrArg Addr.block e).symm)).trans d0
        have vc1 : V.cell? ⟨b, P, none⟩ = some (.int .i64 q) := by rw [← hV]; exact (World.cell?_setCell_other _ _ _ _ (fun e => by first | exact hbs (congrArg Addr.block e) | exact hbs (congrArg Addr.block e).symm)).trans d1
        have vx0 : V.cell? ⟨g, o + p, none⟩ = some (.float .f64 x) := by rw [← hV]; exact (World.cell?_setCell_other _ _ _ _ (fun e => by first | exact hgs (congrArg Addr.block e) | exact hgs (congrArg Addr.block e).symm)).trans x0
        have vx1 : V.cell? ⟨g, o + q, none⟩ = some (.float .f64 y) := by rw [← hV]; exact (World.cell?_setCell_other _ _ _ _ (fun e => by first | exact hgs (congrArg Addr.block e) | exact hgs (congrArg Addr.block e).symm)).trans x1
        have vb : b < V.heap.size := by rw [← hV]; simpa [World.setCell] using KC.out.1
        rw [hV] at HN0
        have q0 := cell_gr vc0 vb
        have q1 := cell_gr vc1 vb
        cases t with
        | true =>
          go_wp2_with fail
          refine wp_region_grow (by kernel_rfl) (by kernel_rfl) ?_
          repeat (go_big_quiet_step ((go_at_call 7; exact quiet_gs (HLe.out _ _ _ (by first | exact HX.out | exact HY.out) (by first | exact HX.out | exact HY.out) (by first | exact E1 | exact E2) _))))
          refine wpQuiet_nil ?_
          rintro w1 hw'
          have HN : Hid (SeI s l.length (R.take (k + 1)) ww2 w1) := (show SeI _ _ _ _ _ from HN0.out.grow (gr_elim hw'))
          clear hw' q0 q1
          go_wp2_with fail
          go_roundw
          case rel => exact ⟨k + 1, by omega, by go_num, HN⟩
          case measure => simp [intOf]; omega
        | false =>
          have hqp : q < p := HT.out rfl
          have hqd : decide ((p : Int) < (q : Int)) = false := decide_eq_false (by omega)
          have hqn : decide (p < q) = false := decide_eq_false (by omega)
          go_wp2_with fail
          refine wp_region_grow (by kernel_rfl) (by kernel_rfl) ?_
          repeat (go_big_quiet_step ((go_at_call 7; exact quiet_gs (HLe.out _ _ _ (by first | exact HX.out | exact HY.out) (by first | exact HX.out | exact HY.out) (by first | exact E1 | exact E2) _))))
          refine wpQuiet_nil ?_
          rintro w1 hw'
          have HN : Hid (SeI s l.length (R.take (k + 1)) ww2 w1) := (show SeI _ _ _ _ _ from HN0.out.grow (gr_elim hw'))
          clear hw' q0 q1
          go_wp2_with fail
          go_roundw
          case rel => exact ⟨k + 1, by omega, by go_num, HN⟩
          case measure => simp [intOf]; omega
    · by_cases hl0 : 0 < l.length
      · have hR0 : 0 < R.length := by rw [HRl.out]; exact hl0
        have d0 := KC.out.2 0 hR0
        rw [← HFst.out hR0] at d0
        have hln : decide (0 < l.length) = true := decide_eq_true hl0
        have hlz : (0 : Int) < (l.length : Int) := by omega
        go_wp2_with (first
          | (go_at_call 8; refine (HLs.out _ _ _ KF.out).mono ?_; rintro r u4 ⟨rfl, z⟩; obtain rfl : wr = u4 := z.symm; clear z)
          | (go_at_call 9; refine (HAw.out _ BW.out).mono ?_; rintro r u5 ⟨rfl, hb⟩; have HB2 : Hid (Below w.heap.size w u5) := hb; clear hb))
        go_ret
        exact ⟨rfl, HB2.out⟩
      · have hl1 : l.length = 0 := by omega
        have hm1 := HEmp.out hl1
        subst hm1
        have hln : decide (0 < l.length) = false := decide_eq_false hl0
        have hlz : ¬ (0 : Int) < (l.length : Int) := by omega
        clear hl1
        go_wp2_with (first
          | (go_at_call 8; refine (HLs.out _ _ _ KF.out).mono ?_; rintro r u4 ⟨rfl, z⟩; obtain rfl : wr = u4 := z.symm; clear z)
          | (go_at_call 9; refine (HAw.out _ BW.out).mono ?_; rintro r u5 ⟨rfl, hb⟩; have HB2 : Hid (Below w.heap.size w u5) := hb; clear hb))
        go_ret
        exact ⟨rfl, HB2.out⟩
end Go.Proofs.Ytfkkciepbmijaab

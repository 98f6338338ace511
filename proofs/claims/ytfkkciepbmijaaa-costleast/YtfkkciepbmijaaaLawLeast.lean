/-
  CostLeast: the least one's place, and the order; the law's function, walked.
-/
import Derived.Test.YtfkkciepbmijaaaLawSums
import Derived.Test.YtfkkciepbmijaaaRefOrd
namespace Go.Proofs.Ytfkkciepbmijaaa
open Go.ChangeShapes Go.WideShapes Go.ChangeAt Go.RowKit
set_option linter.unusedVariables false

/-- The first k of a row of its own are written over. -/
structure StI (b n k : Nat) (d : List Int) (U wr : World) : Prop where
  cell : ∀ j, j < n → wr.cell? ⟨b, j, none⟩ = some (.int .i64 (if j < k then -7 else at' d j))
  fz : ∀ j, wr.frozen? ⟨b, j, none⟩ = false
  lt : b < wr.heap.size
  bel : Below U.heap.size U wr
  hb : U.heap.size ≤ b
theorem StI.set {b n k : Nat} {d : List Int} {U wr : World} (h : StI b n k d U wr) (hk : k < n) : StI b n (k + 1) d U (wr.setCell ⟨b, k, none⟩ (.int .i64 (-7))) := by
  refine ⟨fun j hj => ?_, fun j => by simpa using h.fz j, by simpa [World.setCell] using h.lt, h.bel.setCell h.hb _, h.hb⟩
  by_cases e : j = k
  · subst e
    rw [if_pos (by omega)]
    exact World.cell?_setCell_same _ _ _ (h.cell j hj)
  · have : (if j < k + 1 then (-7 : Int) else at' d j) = if j < k then -7 else at' d j := by
      by_cases g : j < k
      · rw [if_pos g, if_pos (by omega)]
      · rw [if_neg g, if_neg (by omega)]
    rw [this]
    exact (World.cell?_setCell_other _ _ _ _ (fun e' => e (by cases e'; rfl))).trans (h.cell j hj)
theorem OrR.st {w w' : World} {b n : Nat} {d : List Int} (h : OrR w w' b d) (hn : n = d.length) : StI b n 0 d w w' := by
  subst hn
  exact ⟨fun j hj => by rw [if_neg (by omega)]; exact h.cells j hj, h.fz, h.lt, h.bel, h.lo⟩
theorem StI.grow {b n k : Nat} {d : List Int} {U wr V : World} (h : StI b n k d U wr) (g : Below wr.heap.size wr V) : StI b n k d U V :=
  ⟨fun j hj => (g.cell (p := ⟨b, j, none⟩) h.lt).trans (h.cell j hj), fun j => (World.frozen?_of_block (w := wr) (g.block b h.lt)).trans (h.fz j), Nat.lt_of_lt_of_le h.lt g.size, btr h.bel g (Nat.le_refl _), h.hb⟩
set_option maxRecDepth 20000 in
set_option maxHeartbeats 16000000 in
theorem least_walk (a : Option Addr) (l : List Nat) (cap : Nat) (w : World) (hs : Us w a l) (hw : W64 l) (hl : l.length < 17592186044416) : Calls Try.prog 6 #[.slice a l.length cap] w fun e w' => e = .returned (.bool true) ∧ Below w.heap.size w w' := by
  have HAw : Hid (∀ u, Below w.heap.size w u → Calls Try.prog 14 #[] u fun e w' => e = .returned (.bool true) ∧ Below w.heap.size w w') := awake_in w
  have HF : Hid (Calls Try.prog 19 #[.slice a l.length cap] w fun e w' => ∃ a' c', e = .returned (.slice a' l.length c') ∧ Fs w' a' l ∧ OwnF w.heap.size w' (.slice a' l.length c') l ∧ Below w.heap.size w w') := floats_in a l cap w hs hl
  obtain ⟨R, hR⟩ : ∃ R, ordL l = R := ⟨_, rfl⟩
  have hRl : R.length = l.length := by rw [← hR]; exact ordL_len l
  have HRO : Hid (∀ u, Below w.heap.size w u → Calls Try.prog 21 #[.slice a l.length cap] u fun e w' => ∃ a2 c2, e = .returned (.slice a2 l.length c2) ∧ Is w' a2 R ∧ Below u.heap.size u w') := (show ∀ u, _ from fun u k => (rorder_any a l cap u (hs.below k) hw hl).mono fun e w' ⟨v, h1, h2, h3⟩ => by
    rw [hR] at h2
    obtain ⟨a2, c2, rfl, h4⟩ := own_sl h2
    rw [hRl] at h1
    exact ⟨a2, c2, h1, h4, h3⟩)
  have HO : Hid (∀ u a' c', Fs u a' l → Calls Try.prog 22 #[.slice a' l.length c'] u fun e w' => ∃ b, e = .returned (.slice (some ⟨b, 0, none⟩) l.length l.length) ∧ OrR u w' b R) := (show ∀ u a' c', _ from fun u a' c' h => by rw [← hR]; exact order_any a' l c' u h hw hl)
  have HI : Hid (∀ u b a2 c2, Is u (some ⟨b, 0, none⟩) R → Is u a2 R → Calls Try.prog 23 #[.slice (some ⟨b, 0, none⟩) l.length l.length, .slice a2 l.length c2] u fun e w' => e = .returned (.bool true) ∧ Below u.heap.size u w') := (show ∀ u b a2 c2, _ from fun u b a2 c2 h1 h2 => by
    have := ints_any (some ⟨b, 0, none⟩) a2 R R l.length c2 u h1 h2 (by rw [hRl]; omega) (by rw [hRl]; omega)
    rw [hRl] at this
    refine this.mono fun e w' ⟨g1, g2⟩ => ⟨by rw [g1]; unfold sameB; simp, g2⟩)
  obtain ⟨m, hm⟩ : ∃ m, leastN l = m := ⟨_, rfl⟩
  have HLs : Hid (∀ u a' c', Fs u a' l → Calls Try.prog 24 #[.slice a' l.length c'] u fun e w' => e = .returned (.int .i64 m) ∧ w' = u) := (show ∀ u a' c', _ from fun u a' c' h => by rw [← hm]; exact least_any a' l c' u h hw (by omega))
  have HRLs : Hid (∀ u, Below w.heap.size w u → Calls Try.prog 25 #[.slice a l.length cap] u fun e w' => e = .returned (.int .i64 m) ∧ Below u.heap.size u w') := (show ∀ u, _ from fun u k => by rw [← hm]; exact rleast_any a l cap u (hs.below k) hw (by omega))
  have HUs : Hid (Us w a l) := hs
  have HRl : Hid (l.length = R.length) := hRl.symm
  have hg := fun (n : Nat) w => bits_run n w
  clear hs hw hR hRl hm
  go_enter Try.func6, Try.ntmps6
  go_wp2_with (first
    | (go_at_call 19; refine HF.out.mono ?_; rintro r u1 ⟨a', c', rfl, k1, _, k2⟩; have K1 : Hid (Fs u1 a' l) := k1; have B1 : Hid (Below w.heap.size w u1) := k2; clear k1 k2)
    | (go_at_call 21; refine (HRO.out _ B1.out).mono ?_; rintro r u2 ⟨a2, c2, rfl, k1, k2⟩; have K2 : Hid (Is u2 a2 R) := k1; have K3 : Hid (Fs u2 a' l) := K1.out.below k2; have B2 : Hid (Below w.heap.size w u2) := btr B1.out k2 (Nat.le_refl _); clear k1 k2)
    | (go_at_call 22; refine (HO.out _ _ _ K3.out).mono ?_; rintro r u3 ⟨b, rfl, k1⟩; have O1 : Hid (OrR u2 u3 b R) := k1; clear k1)
    | (go_at_call 23; refine (HI.out _ _ _ _ O1.out.is (K2.out.below O1.out.bel)).mono ?_; rintro r u4 ⟨rfl, k1⟩; have S4 : Hid (StI b l.length 0 R u2 u4) := (show StI _ _ _ _ _ _ from (O1.out.st HRl.out).grow k1); clear k1))
  have S4' := S4
  go_loopw [7] (fun v7 wr => ∃ k : Nat, k ≤ l.length ∧ v7 = .int .i64 k ∧ Hid (StI b l.length k R u2 wr)) (fun v7 _ => l.length - (intOf v7).toNat)
  case atStart => exact ⟨0, Nat.zero_le _, rfl, S4'⟩
  case round =>
    clear S4 S4'
    obtain ⟨k, hk, rfl, HS⟩ := hrel
    by_cases hlt : k < l.length
    · have d0 := HS.out.cell k hlt
      have f0 := HS.out.fz k
      have HN : Hid (StI b l.length (k + 1) R u2 (wr.setCell ⟨b, k, none⟩ (.int .i64 (-7)))) := (show StI _ _ _ _ _ _ from HS.out.set hlt)
      rw [if_neg (Nat.lt_irrefl k)] at d0
      go_wp2
      go_roundw
      case rel => exact ⟨k + 1, by omega, by go_num, HN⟩
      case measure => simp [intOf]; omega
    · have B5 : Hid (Below u2.heap.size u2 wr) := HS.out.bel
      have K5 : Hid (Fs wr a' l) := (show Sl _ _ _ _ from K3.out.below B5.out)
      obtain ⟨u5, hu5⟩ : ∃ x, x = wr := ⟨_, rfl⟩
      subst hu5
      clear HS
      go_wp2_with (go_at_call 22; refine (HO.out _ _ _ K5.out).mono ?_; rintro r u6 ⟨b2, rfl, k1⟩; have O2 : Hid (OrR u5 u6 b2 R) := k1; clear k1)
      have B6 : Hid (Below u6.heap.size u6 u6) := Below.refl _ _
      go_loopw [9] (fun v9 wr => ∃ k : Nat, k ≤ l.length ∧ v9 = .int .i64 k ∧ Hid (Below u6.heap.size u6 wr)) (fun v9 _ => l.length - (intOf v9).toNat)
      case atStart => exact ⟨0, Nat.zero_le _, rfl, B6⟩
      case round =>
        clear B6
        obtain ⟨k2, hk2, rfl, HQ⟩ := hrel
        have K6 : Hid (Fs wr a' l) := (show Sl _ _ _ _ from (K5.out.below O2.out.bel).below HQ.out)
        have BW : Hid (Below w.heap.size w wr) := (show Below _ _ _ from btr (btr (btr B2.out B5.out (Nat.le_refl _)) O2.out.bel (Nat.le_refl _)) HQ.out (Nat.le_refl _))
        by_cases hl2 : k2 < l.length
        · have hlz : (k2 : Int) < (l.length : Int) := by omega
          obtain ⟨g, o, rfl, hgg, hc⟩ := K6.out.at hl2
          obtain ⟨g2, o2, rfl, hgg2, hc2⟩ := (HUs.out.below BW.out).at hl2
          have q1 := cell_gr (hc k2 hl2) hgg
          have q2 := cell_gr (hc2 k2 hl2) hgg2
          generalize l[k2] = x at *
          have hxx : ((x : Int) != (x : Int)) = false := by simp
          clear hc hc2
          go_wp2_with fail
          refine wp_region_grow (by kernel_rfl) (by kernel_rfl) ?_
          repeat (go_big_quiet_step (fail))
          refine wpQuiet_nil ?_
          rintro w1 hw'
          have HN : Hid (Below u6.heap.size u6 w1) := (show Below _ _ _ from btr HQ.out (gr_elim hw') (Nat.le_refl _))
          clear hw' q1 q2
          go_wp2_with fail
          go_roundw
          case rel => exact ⟨k2 + 1, by omega, by go_num, HN⟩
          case measure => simp [intOf]; omega
        · have K7 : Hid (Is wr a2 R) := (show Sl _ _ _ _ from ((K2.out.below B5.out).below O2.out.bel).below HQ.out)
          have K8 : Hid (Is wr (some ⟨b2, 0, none⟩) R) := (show Sl _ _ _ _ from O2.out.is.below HQ.out)
          go_wp2_with (first
            | (go_at_call 23; refine (HI.out _ _ _ _ K8.out K7.out).mono ?_; rintro r u7 ⟨rfl, k1⟩; have B7 : Hid (Below w.heap.size w u7) := (show Below _ _ _ from btr BW.out k1 (Nat.le_refl _)); have K9 : Hid (Fs u7 a' l) := (show Sl _ _ _ _ from K6.out.below k1); clear k1)
            | (go_at_call 24; refine (HLs.out _ _ _ K9.out).mono ?_; rintro r u8 ⟨rfl, z⟩; obtain rfl : u7 = u8 := z.symm; clear z)
            | (go_at_call 25; refine (HRLs.out _ B7.out).mono ?_; rintro r u9 ⟨rfl, k1⟩; have B9 : Hid (Below w.heap.size w u9) := (show Below _ _ _ from btr B7.out k1 (Nat.le_refl _)); clear k1)
            | (go_at_call 14; refine (HAw.out _ B9.out).mono ?_; rintro r u10 ⟨rfl, hb⟩; have HB2 : Hid (Below w.heap.size w u10) := hb; clear hb))
          go_ret
          exact ⟨rfl, HB2.out⟩
end Go.Proofs.Ytfkkciepbmijaaa

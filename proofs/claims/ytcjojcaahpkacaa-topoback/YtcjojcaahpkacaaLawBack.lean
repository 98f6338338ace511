/-
  TopoBack: the law's function, walked.
-/
import Derived.Test.YtcjojcaahpkacaaOpen
import Derived.Test.YtcjojcaahpkacaaBackP
namespace Go.Proofs.Ytcjojcaahpkacaa
open Go.ChangeShapes Go.WideShapes Go.ChangeAt Go.RowKit
set_option linter.unusedVariables false

/-- The ends of one switch, as the law counts them. -/
def swS (L : List Lk) (s : Nat) : Int := sumR (fun p => wts L s p) 16
theorem wt_02 (x : Int × Int × Int) : 0 ≤ wt x ∧ wt x ≤ 2 := by
  unfold wt
  by_cases h1 : x.2.2 = 0
  · rw [if_pos h1]; omega
  · rw [if_neg h1]
    by_cases h2 : x.1 < 0
    · rw [if_pos h2]; omega
    · rw [if_neg h2]; omega
theorem sumR_bd {f : Nat → Int} {c : Int} (h : ∀ i, 0 ≤ f i ∧ f i ≤ c) : ∀ m : Nat, 0 ≤ sumR f m ∧ sumR f m ≤ m * c
  | 0 => by simp [sumR]
  | m + 1 => by
    have := sumR_bd h m
    have := h m
    rw [sumR_succ]
    have e : ((m + 1 : Nat) : Int) * c = m * c + c := by rw [Int.natCast_add, Int.add_mul]; simp
    omega
theorem swS_bd (L : List Lk) (s : Nat) : 0 ≤ swS L s ∧ swS L s ≤ 32 := by
  have := sumR_bd (f := fun p => wts L s p) (c := 2) (fun i => wt_02 _) 16
  unfold swS
  omega
/-- What has been counted of a switch's first ports. -/
def cntK (L : List Lk) (s : Nat) (P : List Int) (k : Nat) : Int := ((P.take k).map fun x => wt (peerF 0 L ((s : Int) + 1) x)).sum
theorem cntK_succ (L : List Lk) (s : Nat) (P : List Int) (k : Nat) (h : k < P.length) : cntK L s P (k + 1) = cntK L s P k + wt (peerF 0 L ((s : Int) + 1) P[k]) := by
  unfold cntK
  rw [List.take_succ_eq_append_getElem h, List.map_append, List.sum_append]
  simp
theorem cntK_bd (L : List Lk) (s : Nat) (P : List Int) (k : Nat) : 0 ≤ cntK L s P k ∧ cntK L s P k ≤ 2 * k := by
  have key : ∀ l : List Int, 0 ≤ (l.map fun x => wt (peerF 0 L ((s : Int) + 1) x)).sum ∧ (l.map fun x => wt (peerF 0 L ((s : Int) + 1) x)).sum ≤ 2 * l.length := fun l => by
    induction l with
    | nil => simp
    | cons a l ih =>
      have := wt_02 (peerF 0 L ((s : Int) + 1) a)
      simp only [List.map_cons, List.sum_cons, List.length_cons]
      omega
  have := key (P.take k)
  have hl : (P.take k).length ≤ k := by rw [List.length_take]; omega
  unfold cntK
  omega
theorem cntK_all (L : List Lk) (s : Nat) : cntK L s (linked (fun p : Nat => peerF 0 L ((s : Int) + 1) ((p : Int) + 1)) 16) 16 = swS L s := by
  unfold cntK
  rw [List.take_of_length_le (linked_le _ _)]
  have := linked_sum (fun p : Nat => peerF 0 L ((s : Int) + 1) ((p : Int) + 1)) (fun p => (peerF_link L 0 _ _).1) 16
  unfold swS wts
  rw [← this]
  congr 1
  refine List.map_congr_left fun x hx => ?_
  obtain ⟨p, _, _, rfl⟩ := (linked_mem _ _ _).1 hx
  simp
/-- One port of a switch, as the law asks it. -/
theorem port_said {n : Nat} {L : List Lk} (h : goodF n [] L = true) {s : Nat} (hs : s < n) {P : Int} (hP : P ∈ linked (fun p : Nat => peerF 0 L ((s : Int) + 1) ((p : Int) + 1)) 16) :
    ∃ to port k, peerX n L ((s : Int) + 1) P = (to, port, k) ∧ (1 ≤ P ∧ P ≤ 16) ∧ (1 ≤ k ∧ k ≤ L.length) ∧
      ((to < 0 ∧ -64 ≤ to ∧ port = 0 ∧ homeX L (-to) = ((s : Int) + 1, P, k) ∧ wt (peerF 0 L ((s : Int) + 1) P) = 2) ∨ (¬ to < 0 ∧ to ≠ (s : Int) + 1 ∧ peerX n L to port = ((s : Int) + 1, P, k) ∧ wt (peerF 0 L ((s : Int) + 1) P) = 1)) := by
  obtain ⟨p, hp, h0, rfl⟩ := (linked_mem _ _ _).1 hP
  obtain ⟨⟨to, port, k⟩, hx⟩ : ∃ y, peerF 0 L ((s : Int) + 1) ((p : Int) + 1) = y := ⟨_, rfl⟩
  rw [hx] at h0
  simp only at h0
  have hb := peer_back h (s := (s : Int) + 1) (p := (p : Int) + 1) (by omega) (by omega) hx (by omega)
  refine ⟨to, port, k, ?_, by omega, hb.1, ?_⟩
  · unfold peerX
    rw [inB_true.2 (by omega), inB_true.2 (by omega), Bool.and_self, if_pos rfl, hx]
  · unfold wt
    rcases hb.2 with ⟨b1, b2, b3, b4⟩ | ⟨b1, b2, b3⟩
    · left
      refine ⟨b1, b2, b3, b4, ?_⟩
      rw [hx, if_neg (by simp only; omega), if_pos b1]
    · right
      refine ⟨by omega, b2, b3, ?_⟩
      rw [hx, if_neg (by simp only; omega), if_neg (by simp only; omega)]
set_option maxRecDepth 20000 in
set_option maxHeartbeats 8000000 in
theorem back_walk (n : Int) (a : Option Addr) (l : List Lk) (cap : Nat) (w : World) (hl : Ls w a l) (hc : l.length ≤ cap) (hcm : cap ≤ maxLen) : Calls Try.prog 6 #[.int .i64 n, .slice a l.length cap] w fun e w' => e = .returned (.bool true) ∧ Below w.heap.size w w' := by
  have HAw : Hid (∀ u, Below w.heap.size w u → Calls Try.prog 9 #[] u fun e w' => e = .returned (.bool true) ∧ Below w.heap.size w w') := (show ∀ u, _ from fun u k => (awake_any u).mono fun e w' ⟨h1, h2⟩ => ⟨h1, btr k h2 (Nat.le_refl _)⟩)
  clear hcm hc
  by_cases h1 : l.length ≤ 100
  · have HN1 : Hid (Calls Try.prog 10 #[.int .i64 n, .slice a l.length cap] w fun r w' => NwR w n l r w') := (show Calls _ _ _ _ _ from new_any n a l cap w hl h1)
    clear hl
    go_enter Try.func6, Try.ntmps6
    go_wp2_with fail
    refine HN1.out.mono ?_
    rintro r w1 ⟨b1, ⟨hg1, ⟨cv, N, hN, ht⟩, rfl⟩ | ⟨_, rfl⟩⟩
    · have hgf : goodF N [] l = true := by
        unfold goodB at hg1
        rw [hN]
        simp only [Bool.and_eq_true] at hg1
        exact hg1.2
      have hN1 := ht.n0
      have hN2 := ht.n1
      have HG : Hid (goodF N [] l = true) := hgf
      have HTot : Hid (sumR (swS l) N = 2 * (l.length : Int)) := (show _ = _ from wts_all l.length l rfl hgf)
      have HB1 : Hid (Below w.heap.size w w1) := b1
      have HT : Hid (∀ u, Below w1.heap.size w1 u → Tm w.heap.size u (w.heap.size + 1) w.heap.size cv N l ∧ Below w.heap.size w u) := (show ∀ u, _ from fun u g => ⟨ht.below g, btr b1 g (Nat.le_refl _)⟩)
      clear hg1 hN ht b1 hgf HN1
      go_wp2_with fail
      go_loopw [7, 8] (fun v7 v8 wr => ∃ s : Nat, s ≤ N ∧ v8 = .int .i64 ((s : Int) + 1) ∧ v7 = .int .i64 (sumR (swS l) s) ∧ Hid (Below w1.heap.size w1 wr)) (fun _ v8 _ => N + 1 - (intOf v8).toNat)
      case atStart => exact ⟨0, Nat.zero_le _, rfl, rfl, (show Below _ _ _ from Below.refl _ _)⟩
      case round =>
        obtain ⟨s, hs, rfl, rfl, HB⟩ := hrel
        have hsb := sumR_bd (swS_bd l) s
        by_cases hlt : s < N
        · have HSS : Hid (sumR (swS l) (s + 1) = sumR (swS l) s + swS l s) := sumR_succ _ _
          generalize sumR (swS l) s = M0 at hsb HSS ⊢
          obtain ⟨P, hP⟩ : ∃ P, portsL N l ((s : Int) + 1) = P := ⟨_, rfl⟩
          have hP2 : P = linked (fun p : Nat => peerF 0 l ((s : Int) + 1) ((p : Int) + 1)) 16 := by
            rw [← hP]
            unfold portsL
            rw [inB_true.2 (by omega), if_pos rfl]
          have HPn : Hid (P.length ≤ 16) := (show _ ≤ _ by rw [hP2]; exact linked_le _ _)
          have HSa : Hid (∀ Q ∈ P, ∃ to port k, peerX N l ((s : Int) + 1) Q = (to, port, k) ∧ (1 ≤ Q ∧ Q ≤ 16) ∧ (1 ≤ k ∧ k ≤ l.length) ∧
      ((to < 0 ∧ -64 ≤ to ∧ port = 0 ∧ homeX l (-to) = ((s : Int) + 1, Q, k) ∧ wt (peerF 0 l ((s : Int) + 1) Q) = 2) ∨ (¬ to < 0 ∧ to ≠ (s : Int) + 1 ∧ peerX N l to port = ((s : Int) + 1, Q, k) ∧ wt (peerF 0 l ((s : Int) + 1) Q) = 1))) := (show ∀ Q ∈ P, _ from fun Q hQ => port_said HG.out hlt (by rw [← hP2]; exact hQ))
          have HAll : Hid (cntK l s P P.length = swS l s) := (show _ = _ by
            rw [← cntK_all l s, ← hP2]
            unfold cntK
            rw [List.take_of_length_le (Nat.le_refl _), List.take_of_length_le HPn.out])
          have HPo : Hid (Calls Try.prog 15 #[.pointer (some ⟨w.heap.size + 1, 0, none⟩), .int .i64 ((s : Int) + 1)] wr fun r w' => ∃ v, r = .returned v ∧ OwnI wr.heap.size w' v P ∧ Below wr.heap.size wr w') := (show Calls _ _ _ _ _ by rw [← hP]; exact ports_any (HT.out wr HB.out).1 _)
          have HT2 : Hid (Tm w.heap.size wr (w.heap.size + 1) w.heap.size cv N l) := (HT.out wr HB.out).1
          clear hP hP2
          go_wp2_with (first | (go_at_call 17; refine (size_any HT2.out).mono ?_; rintro r u ⟨rfl, z⟩; obtain rfl : wr = u := z.symm; clear z) | (go_at_call 15; refine HPo.out.mono ?_; rintro r w2 ⟨v, rfl, ho2, hg2⟩; obtain ⟨pa, pc, rfl⟩ := own_form ho2; have HO2 : Hid (OwnI wr.heap.size w2 (.slice pa P.length pc) P) := ho2; have HG2 : Hid (Below w1.heap.size w1 w2) := (show Below _ _ _ from btr HB.out hg2 (Nat.le_refl _)); clear ho2 hg2))
          go_loopw [7, 10] (fun v7 v10 wq => ∃ k : Nat, k ≤ P.length ∧ v10 = .int .i64 k ∧ v7 = .int .i64 (M0 + cntK l s P k) ∧ Hid (Below w2.heap.size w2 wq)) (fun _ v10 _ => P.length - (intOf v10).toNat)
          case atStart => exact ⟨0, Nat.zero_le _, rfl, by simp [cntK], (show Below _ _ _ from Below.refl _ _)⟩
          case round =>
            obtain ⟨k, hk, rfl, rfl, HQ⟩ := hrel
            have hkb := cntK_bd l s P k
            have hPn := HPn.out
            by_cases hlk : k < P.length
            · obtain ⟨g, pc2, hv, _, hgl, hgc⟩ := own_at HO2.out k hlk
              have hv1 : pa = some ⟨g, 0, none⟩ := by cases hv; rfl
              subst hv1
              clear hv
              have d0 : wr.cell? ⟨g, k, none⟩ = some (.int .i64 P[k]) := (HQ.out.cell (p := ⟨g, k, none⟩) hgl).trans (hgc k hlk)
              have hgw : g < wr.heap.size := Nat.lt_of_lt_of_le hgl HQ.out.size
              obtain ⟨to, port, kk, hpx, hQb, hkk, hor⟩ := HSa.out P[k] (List.getElem_mem hlk)
              have HCS : Hid (cntK l s P (k + 1) = cntK l s P k + wt (peerF 0 l ((s : Int) + 1) P[k])) := cntK_succ l s P k hlk
              generalize P[k] = Q at d0 hpx hQb hor HCS
              have HB3 : Hid (Below w1.heap.size w1 wr) := (show Below _ _ _ from btr HG2.out HQ.out (Nat.le_refl _))
              have HPe : Hid (Calls Try.prog 12 #[.pointer (some ⟨w.heap.size + 1, 0, none⟩), .int .i64 ((s : Int) + 1), .int .i64 Q] wr fun r w' => r = .returned (.tuple #[.int .i64 to, .int .i64 port, .int .i64 kk]) ∧ Below wr.heap.size wr w') := (show Calls _ _ _ _ _ by
                have := peer_any (HT.out wr HB3.out).1 ((s : Int) + 1) Q
                rwa [hpx] at this)
              have hkk2 : ¬ kk < 1 := by omega
              have hkk3 : ¬ (l.length : Int) < kk := by omega
              clear hgc hpx hkk
              go_wp2_with fail
              refine HPe.out.mono ?_
              rintro r w3 ⟨rfl, g3⟩
              have d1 : w3.cell? ⟨g, k, none⟩ = some (.int .i64 Q) := (g3.cell (p := ⟨g, k, none⟩) hgw).trans d0
              have HB4 : Hid (Below w1.heap.size w1 w3) := (show Below _ _ _ from btr HB3.out g3 (Nat.le_refl _))
              have HQ4 : Hid (Below w2.heap.size w2 w3) := (show Below _ _ _ from btr HQ.out g3 (Nat.le_refl _))
              have hgw3 : g < w3.heap.size := Nat.lt_of_lt_of_le hgw g3.size
              clear g3 d0
              rcases hor with ⟨o1, o2, o3, o4, o5⟩ | ⟨o1, o2, o3, o4⟩
              · have HHo : Hid (Calls Try.prog 20 #[.pointer (some ⟨w.heap.size + 1, 0, none⟩), .int .i64 (-to)] w3 fun r w' => r = .returned (.tuple #[.int .i64 ((s : Int) + 1), .int .i64 Q]) ∧ Below w3.heap.size w3 w') := (show Calls _ _ _ _ _ by
                  have := home_any (HT.out w3 HB4.out).1 (-to)
                  rwa [o4] at this)
                have HCS2 : Hid (cntK l s P (k + 1) = cntK l s P k + 2) := (show _ = _ by rw [HCS.out, o5])
                subst o3
                clear o4 o5
                go_wp2_with fail
                refine HHo.out.mono ?_
                rintro r w4 ⟨rfl, g4⟩
                have d2 : w4.cell? ⟨g, k, none⟩ = some (.int .i64 Q) := (g4.cell (p := ⟨g, k, none⟩) hgw3).trans d1
                have HQ5 : Hid (Below w2.heap.size w2 w4) := (show Below _ _ _ from btr HQ4.out g4 (Nat.le_refl _))
                clear g4 d1
                go_wp2
                go_roundw
                case rel => exact ⟨k + 1, by omega, by go_num, by rw [HCS2.out]; go_num, HQ5⟩
                case measure => simp [intOf]; omega
              · have HPe2 : Hid (Calls Try.prog 12 #[.pointer (some ⟨w.heap.size + 1, 0, none⟩), .int .i64 to, .int .i64 port] w3 fun r w' => r = .returned (.tuple #[.int .i64 ((s : Int) + 1), .int .i64 Q, .int .i64 kk]) ∧ Below w3.heap.size w3 w') := (show Calls _ _ _ _ _ by
                  have := peer_any (HT.out w3 HB4.out).1 to port
                  rwa [o3] at this)
                have HCS2 : Hid (cntK l s P (k + 1) = cntK l s P k + 1) := (show _ = _ by rw [HCS.out, o4])
                have o5 : (to == (s : Int) + 1) = false := by simp; exact o2
                clear o3 o4 o2
                go_wp2_with fail
                refine HPe2.out.mono ?_
                rintro r w4 ⟨rfl, g4⟩
                have d2 : w4.cell? ⟨g, k, none⟩ = some (.int .i64 Q) := (g4.cell (p := ⟨g, k, none⟩) hgw3).trans d1
                have HQ5 : Hid (Below w2.heap.size w2 w4) := (show Below _ _ _ from btr HQ4.out g4 (Nat.le_refl _))
                clear g4 d1
                go_wp2
                go_roundw
                case rel => exact ⟨k + 1, by omega, by go_num, by rw [HCS2.out]; go_num, HQ5⟩
                case measure => simp [intOf]; omega
            · have hkP : k = P.length := by omega
              have HEnd : Hid (sumR (swS l) (s + 1) = M0 + cntK l s P k) := (show _ = _ by rw [hkP, HAll.out, HSS.out])
              have HB5 : Hid (Below w1.heap.size w1 wr) := (show Below _ _ _ from btr HG2.out HQ.out (Nat.le_refl _))
              clear hkP
              go_wp2
              go_roundw
              case rel => exact ⟨s + 1, by omega, by go_num, by rw [HEnd.out], HB5⟩
              case measure => simp [intOf]; omega
        · have hsN : s = N := by omega
          subst hsN
          have HT2 : Hid (Tm w.heap.size wr (w.heap.size + 1) w.heap.size cv s l ∧ Below w.heap.size w wr) := HT.out wr HB.out
          have ht : sumR (swS l) s = 2 * (l.length : Int) := HTot.out
          rw [ht]
          clear ht hsb
          go_wp2_with (first | (go_at_call 17; refine (size_any HT2.out.1).mono ?_; rintro r u ⟨rfl, z⟩; obtain rfl : wr = u := z.symm; clear z) | (go_at_call 9; refine (HAw.out _ HT2.out.2).mono ?_; rintro r u ⟨rfl, hb⟩; have HBb : Hid (Below _ _ u) := hb; clear hb))
          go_ret
          exact ⟨rfl, HBb.out⟩
    · have HB1 : Hid (Below w.heap.size w w1) := b1
      clear b1
      go_wp2_with (first | (go_at_call 17; refine (size_nil _).mono ?_; rintro r u ⟨rfl, z⟩; obtain rfl : w1 = u := z.symm; clear z) | (go_at_call 9; refine (HAw.out _ HB1.out).mono ?_; rintro r u ⟨rfl, hb⟩; have HB : Hid (Below _ _ u) := hb; clear hb))
      go_ret
      exact ⟨rfl, HB.out⟩
  · have h4 : (100 : Int) < (l.length : Int) := by omega
    clear hl
    go_enter Try.func6, Try.ntmps6
    go_wp2_with (go_at_call 9; refine (HAw.out _ (Below.refl _ _)).mono ?_; rintro r u ⟨rfl, hb⟩; have HB : Hid (Below _ _ u) := hb; clear hb)
    go_ret
    exact ⟨rfl, HB.out⟩
end Go.Proofs.Ytcjojcaahpkacaa

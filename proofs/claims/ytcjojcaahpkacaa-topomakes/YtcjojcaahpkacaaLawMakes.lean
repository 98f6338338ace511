/-
  TopoMakes: the law's function, walked.
-/
import Derived.Test.YtcjojcaahpkacaaNums
import Derived.Test.YtcjojcaahpkacaaLawHomes
import Derived.Deep.RegionLaw
namespace Go.Proofs.Ytcjojcaahpkacaa
open Go.ChangeShapes Go.WideShapes Go.ChangeAt Go.RowKit
set_option linter.unusedVariables false

theorem step_call {P : Program} {ops : Array Oper} {o : Oper} {a : Go.Act} {w : World} {K : Go.Act → World → Prop} {Q : Exit → Go.Act → World → Prop} {E : Prop} (hw : Region.wanted o (yielded ops a.tmps) = true) (f : FuncId) (vals : Array Value)
    (hrun : (execOp a.eval o).run P w = .ok (.enter f vals) w) (hC : Calls P f vals w fun e w' => ∃ v, e = .returned v ∧ K (a.put o.dst v) w') :
    if Region.wanted o (yielded ops a.tmps) = true then Oper.wp P o a w K Q else E := by
  rw [if_pos hw]
  unfold Oper.wp
  rw [hrun, Oper.upon_enter]
  exact hC.mono fun e w' ⟨v, he, hk⟩ => by subst he; exact hk
theorem peer_eq {n : Nat} {L : List Lk} (h : goodF n [] L = true) (s p : Int) : peerF 0 L s p = peerX n L s p := by
  unfold peerX
  cases h1 : inB s 1 n && inB p 1 16
  · simp only [Bool.false_eq_true, if_false]
    refine (peerF_link L 0 s p).2.1 ((peer_none s p L 0).2 fun y hy => ?_)
    obtain ⟨⟨a1, a2⟩, ⟨p1, p2⟩, _, hb⟩ := mayB_true (good_may h y hy)
    rw [Bool.and_eq_false_iff] at h1
    refine ⟨fun e => ?_, fun e => ?_⟩
    · rcases h1 with h1 | h1
      · have := inB_false.1 h1; omega
      · have := inB_false.1 h1; omega
    · rcases hb with hb | hb
      · omega
      · rcases h1 with h1 | h1
        · have := inB_false.1 h1; omega
        · have := inB_false.1 h1; omega
  · rw [if_pos rfl]
theorem ports_eq {n : Nat} {L : List Lk} (h : goodF n [] L = true) (s : Int) : linked (fun p : Nat => peerF 0 L s ((p : Int) + 1)) 16 = portsL n L s := by
  unfold portsL
  cases h1 : inB s 1 n
  · simp only [Bool.false_eq_true, if_false]
    refine List.eq_nil_iff_forall_not_mem.2 fun x hx => ?_
    obtain ⟨p, _, h0, _⟩ := (linked_mem _ _ _).1 hx
    simp only [peer_eq h] at h0
    unfold peerX at h0
    rw [h1, Bool.false_and, if_neg (by simp)] at h0
    simp at h0
  · rw [if_pos rfl]
theorem hosts_eq {n : Nat} {L : List Lk} (h : goodF n [] L = true) : linked (atH L) 64 = hostsL L := by
  unfold hostsL linked
  congr 1
  refine List.filter_congr fun p hp => ?_
  show decide (0 < (homeF 0 L ((p : Int) + 1)).1) = decide (0 < (homeF 0 L ((p : Int) + 1)).2.2)
  have k1 := homeF_link L 0 ((p : Int) + 1)
  have k2 := home_pos L 0 ((p : Int) + 1) (fun y hy => may_a (good_may h y hy))
  rw [Bool.eq_iff_iff, decide_eq_true_eq, decide_eq_true_eq]
  by_cases hz : (homeF 0 L ((p : Int) + 1)).2.2 = 0
  · rw [k1.2.1 hz]
  · have := k2 hz
    have := k1.1
    omega
theorem portsL_le (n : Nat) (L : List Lk) (s : Int) : (portsL n L s).length ≤ 16 := by
  unfold portsL
  split
  · exact linked_le _ _
  · simp
theorem OwnI.is2 {base : Nat} {w w' : World} {a : Option Addr} {c : Nat} {zs : List Int} (h : OwnI base w (.slice a zs.length c) zs) (g : Below w.heap.size w w') : Is w' a zs := by
  obtain ⟨a', c', e, hi⟩ := (own_below h g).is
  cases e
  exact hi
set_option maxRecDepth 20000 in
set_option maxHeartbeats 8000000 in
theorem makes_walk (n : Int) (a : Option Addr) (l : List Lk) (cap : Nat) (q : Int) (w : World) (hl : Ls w a l) (hc : l.length ≤ cap) (hcm : cap ≤ maxLen) :
    Calls Try.prog 3 #[.int .i64 n, .slice a l.length cap, .int .i64 q] w fun e w' => e = .returned (.bool true) ∧ Below w.heap.size w w' := by
  have HAw : Hid (∀ u, Below w.heap.size w u → Calls Try.prog 9 #[] u fun e w' => e = .returned (.bool true) ∧ Below w.heap.size w w') := (show ∀ u, _ from fun u k => (awake_any u).mono fun e w' ⟨h1, h2⟩ => ⟨h1, btr k h2 (Nat.le_refl _)⟩)
  clear hcm hc
  by_cases h1 : l.length ≤ 100
  · have HN1 : Hid (Calls Try.prog 10 #[.int .i64 n, .slice a l.length cap] w fun r w' => NwR w n l r w') := (show Calls _ _ _ _ _ from new_any n a l cap w hl h1)
    have HN2 : Hid (∀ u, Below w.heap.size w u → Calls Try.prog 11 #[.int .i64 n, .slice a l.length cap] u fun r w' => RwR u n l r w') := (show ∀ u, _ from fun u g => rnew_any n a l cap u (hl.below g) h1)
    have H1 : Hid (l.length ≤ 100) := h1
    clear hl
    go_enter Try.func3, Try.ntmps3
    go_wp2_with fail
    refine HN1.out.mono ?_
    rintro r w1 ⟨b1, ⟨hg1, ⟨cv, N, hN, ht⟩, rfl⟩ | ⟨hg1, rfl⟩⟩
    · have hgf : goodF N [] l = true := by
        unfold goodB at hg1
        rw [hN]
        simp only [Bool.and_eq_true] at hg1
        exact hg1.2
      have hN0 := ht.n0
      have hN32 := ht.n1
      have HGB : Hid (goodB n l = true) := hg1
      have HB1 : Hid (Below w.heap.size w w1) := b1
      have HT1 : Hid (Tm w.heap.size w1 (w.heap.size + 1) w.heap.size cv N l) := ht
      have HG : Hid (goodF N [] l = true) := hgf
      have HN : Hid ((N : Int) = n) := hN
      clear hg1 hN ht b1 hgf HN1
      go_wp2_with fail
      refine (HN2.out _ HB1.out).mono ?_
      rintro r w2 ⟨b2, ⟨_, rb, M, ra, rc, hM, hrt, rfl⟩ | ⟨hg2, rfl⟩⟩
      · obtain rfl : M = N := by have := HN.out; omega
        have HT : Hid (∀ u, Below w2.heap.size w2 u → Tm w.heap.size u (w.heap.size + 1) w.heap.size cv M l ∧ RTm u rb M ra rc l ∧ Below w.heap.size w u) := (show ∀ u, _ from fun u g => ⟨(HT1.out.below b2).below g, hrt.below g, btr (btr HB1.out b2 (Nat.le_refl _)) g (Nat.le_refl _)⟩)
        clear b2 hrt hM HN
        go_wp2_with fail
        go_loopw [11] (fun v11 wr => ∃ k : Nat, k ≤ M + 4 ∧ v11 = .int .i64 ((k : Int) - 2) ∧ Hid (Below w2.heap.size w2 wr)) (fun v11 _ => (40 - intOf v11).toNat)
        case atStart => exact ⟨0, by omega, rfl, (show Below _ _ _ from Below.refl _ _)⟩
        case round =>
          obtain ⟨k, hk, rfl, HB⟩ := hrel
          obtain ⟨ht, hr, hb⟩ := HT.out wr HB.out
          have c0 := hr.c0
          have HTw : Hid (Tm w.heap.size wr (w.heap.size + 1) w.heap.size cv M l) := ht
          have HRw : Hid (RTm wr rb M ra rc l) := hr
          have HBw : Hid (Below w.heap.size w wr) := hb
          clear ht hr hb
          by_cases hlt : k ≤ M + 3
          · have hlt2 : (k : Int) - 2 ≤ (M : Int) + 1 := by omega
            obtain ⟨s, hs⟩ : ∃ s : Int, s = (k : Int) - 2 := ⟨_, rfl⟩
            have HS : Hid (s = (k : Int) - 2) := hs
            have hs1 : -2 ≤ s := by omega
            have hs2 : s ≤ (M : Int) + 1 := by omega
            rw [← hs]
            clear hs hlt2
            have HPe : Hid (∀ u, Below wr.heap.size wr u → Calls Try.prog 12 #[.pointer (some ⟨w.heap.size + 1, 0, none⟩), .int .i64 s, .int .i64 q] u fun r w' => r = .returned (.tuple #[.int .i64 (peerX M l s q).1, .int .i64 (peerX M l s q).2.1, .int .i64 (peerX M l s q).2.2]) ∧ Below u.heap.size u w') := (show ∀ u, _ from fun u g => peer_any (HTw.out.below g) s q)
            have HRe : Hid (∀ u, Below wr.heap.size wr u → Calls Try.prog 13 #[.pointer (some ⟨rb, 0, none⟩), .int .i64 s, .int .i64 q] u fun r w' => r = .returned (.tuple #[.int .i64 (peerX M l s q).1, .int .i64 (peerX M l s q).2.1, .int .i64 (peerX M l s q).2.2]) ∧ Below u.heap.size u w') := (show ∀ u, _ from fun u g => by
              have := rpeer_any (HRw.out.below g) H1.out s q
              rwa [peer_eq HG.out s q] at this)
            have HPo : Hid (∀ u, Below wr.heap.size wr u → Calls Try.prog 15 #[.pointer (some ⟨w.heap.size + 1, 0, none⟩), .int .i64 s] u fun r w' => ∃ v, r = .returned v ∧ OwnI u.heap.size w' v (portsL M l s) ∧ Below u.heap.size u w') := (show ∀ u, _ from fun u g => ports_any (HTw.out.below g) s)
            have HRo : Hid (∀ u, Below wr.heap.size wr u → Calls Try.prog 16 #[.pointer (some ⟨rb, 0, none⟩), .int .i64 s] u fun r w' => ∃ v, r = .returned v ∧ OwnI u.heap.size w' v (portsL M l s) ∧ Below u.heap.size u w') := (show ∀ u, _ from fun u g => by
              have := rports_any (HRw.out.below g) H1.out s
              rwa [ports_eq HG.out s] at this)
            have HPl : Hid ((portsL M l s).length ≤ 16) := portsL_le M l s
            generalize peerX M l s q = x at *
            generalize portsL M l s = P at *
            go_wp2_with fail
            refine (HPe.out _ (Below.refl _ _)).mono ?_
            rintro r w3 ⟨rfl, g3⟩
            have G3 : Hid (Below wr.heap.size wr w3) := g3
            clear g3
            go_wp2_with fail
            refine (HRe.out _ G3.out).mono ?_
            rintro r w4 ⟨rfl, g4⟩
            have G4 : Hid (Below wr.heap.size wr w4) := (show Below _ _ _ from btr G3.out g4 (Nat.le_refl _))
            clear g4
            go_wp2_with fail
            refine (HPo.out _ G4.out).mono ?_
            rintro r w5 ⟨v5, rfl, o5, g5⟩
            obtain ⟨a5, c5, rfl⟩ := own_form o5
            have O5 : Hid (OwnI w4.heap.size w5 (.slice a5 P.length c5) P) := o5
            have G5 : Hid (Below wr.heap.size wr w5) := (show Below _ _ _ from btr G4.out g5 (Nat.le_refl _))
            clear o5 g5
            go_wp2_with fail
            refine (HRo.out _ G5.out).mono ?_
            rintro r w6 ⟨v6, rfl, o6, g6⟩
            obtain ⟨a6, c6, rfl⟩ := own_form o6
            have HNu : Hid (Calls Try.prog 14 #[.slice a5 P.length c5, .slice a6 P.length c6] w6 fun e w' => e = .returned (.bool true) ∧ Below w6.heap.size w6 w') := (show Calls _ _ _ _ _ from nums_same a5 a6 P c5 c6 w6 (O5.out.is2 g6) (OwnI.is2 o6 (Below.refl _ _)) (by have := HPl.out; omega))
            have G6 : Hid (Below wr.heap.size wr w6) := (show Below _ _ _ from btr G5.out g6 (Nat.le_refl _))
            clear o6 g6
            go_wp2_with fail
            refine HNu.out.mono ?_
            rintro r w7 ⟨rfl, g7⟩
            have G7 : Hid (Below w2.heap.size w2 w7) := (show Below _ _ _ from btr HB.out (btr G6.out g7 (Nat.le_refl _)) (Nat.le_refl _))
            clear g7
            go_wp2
            go_roundw
            case rel => exact ⟨k + 1, by omega, by rw [HS.out]; go_num, G7⟩
            case measure => simp [intOf]; omega
          · have hge : ¬ (k : Int) - 2 ≤ (M : Int) + 1 := by omega
            have hge2 : (M : Int) + 1 < (k : Int) - 2 := by omega
            have HSz : Hid (∀ u, Below wr.heap.size wr u → Calls Try.prog 17 #[.pointer (some ⟨w.heap.size + 1, 0, none⟩)] u fun r w' => r = .returned (.int .i64 M) ∧ w' = u) := (show ∀ u, _ from fun u g => size_any (HTw.out.below g))
            have HHo : Hid (∀ u, Below wr.heap.size wr u → Calls Try.prog 18 #[.pointer (some ⟨w.heap.size + 1, 0, none⟩)] u fun r w' => ∃ v, r = .returned v ∧ OwnI u.heap.size w' v (hostsL l) ∧ Below u.heap.size u w') := (show ∀ u, _ from fun u g => hosts_any (HTw.out.below g))
            have HRh : Hid (∀ u, Below wr.heap.size wr u → Calls Try.prog 19 #[.pointer (some ⟨rb, 0, none⟩)] u fun r w' => ∃ v, r = .returned v ∧ OwnI u.heap.size w' v (hostsL l) ∧ Below u.heap.size u w') := (show ∀ u, _ from fun u g => by
              have := rhosts_any (HRw.out.below g) H1.out
              rwa [hosts_eq HG.out] at this)
            have HHl : Hid ((hostsL l).length ≤ 64) := (show _ ≤ _ from linked_le _ _)
            have HA2 : Hid (∀ u, Below wr.heap.size wr u → Calls Try.prog 9 #[] u fun e w' => e = .returned (.bool true) ∧ Below w.heap.size w w') := (show ∀ u, _ from fun u g => HAw.out u (btr HBw.out g (Nat.le_refl _)))
            generalize hostsL l = P at *
            clear HT1 HB1
            go_wp2_with fail
            go_region_law (first
              | (refine step_call rfl 17 #[.pointer (some ⟨w.heap.size + 1, 0, none⟩)] ?hrun ?_
                 case hrun => go_simp
                 refine Calls.mono (HSz.out _ (by go_grown)) ?_
                 rintro e u ⟨rfl, rfl⟩
                 refine ⟨_, rfl, ?_⟩)
              | (refine step_call rfl 18 #[.pointer (some ⟨w.heap.size + 1, 0, none⟩)] ?hrun ?_
                 case hrun => go_simp
                 refine Calls.mono (HHo.out _ (by go_grown)) ?_
                 rintro e w5 ⟨v5, rfl, o5, g5⟩
                 obtain ⟨a5, c5, rfl⟩ := own_form o5
                 refine ⟨_, rfl, ?_⟩
                 have O5 : Hid (∃ B, OwnI B w5 (.slice a5 P.length c5) P) := (show ∃ B, _ from ⟨_, o5⟩)
                 have G5 : Hid (Below wr.heap.size wr w5) := (show Below _ _ _ from btr (by go_grown) g5 (Nat.le_refl _))
                 clear o5 g5)
              | (refine step_call rfl 19 #[.pointer (some ⟨rb, 0, none⟩)] ?hrun ?_
                 case hrun => go_simp
                 refine Calls.mono (HRh.out _ G5.out) ?_
                 rintro e w6 ⟨v6, rfl, o6, g6⟩
                 obtain ⟨a6, c6, rfl⟩ := own_form o6
                 refine ⟨_, rfl, ?_⟩
                 have O6 : Hid (Is w6 a5 P ∧ Is w6 a6 P) := (show _ ∧ _ from by
                   obtain ⟨B, o⟩ := O5.out
                   exact ⟨o.is2 g6, OwnI.is2 o6 (Below.refl _ _)⟩)
                 have G6 : Hid (Below wr.heap.size wr w6) := (show Below _ _ _ from btr G5.out g6 (Nat.le_refl _))
                 clear o6 g6)
              | (refine step_call rfl 14 #[.slice a5 P.length c5, .slice a6 P.length c6] ?hrun ?_
                 case hrun => go_simp
                 refine Calls.mono (nums_same a5 a6 P c5 c6 w6 O6.out.1 O6.out.2 (by have := HHl.out; omega)) ?_
                 rintro e w7 ⟨rfl, g7⟩
                 refine ⟨_, rfl, ?_⟩
                 have G7 : Hid (Below wr.heap.size wr w7) := (show Below _ _ _ from btr G6.out g7 (Nat.le_refl _))
                 clear g7)
              | (refine step_call rfl 9 #[] ?hrun ?_
                 case hrun => go_simp
                 refine Calls.mono (HA2.out _ G7.out) ?_
                 rintro e w8 ⟨rfl, g8⟩
                 refine ⟨_, rfl, ?_⟩
                 have G8 : Hid (Below w.heap.size w w8) := g8
                 clear g8))
            all_goals
              go_wp2
              go_ret
              exact ⟨rfl, G8.out⟩
      · rw [HGB.out] at hg2
        cases hg2
    · have HGB : Hid (goodB n l = false) := hg1
      have HB1 : Hid (Below w.heap.size w w1) := b1
      clear hg1 b1 HN1
      go_wp2_with fail
      refine (HN2.out _ HB1.out).mono ?_
      rintro r w2 ⟨b2, ⟨hg2, _⟩ | ⟨hg2, rfl⟩⟩
      · rw [HGB.out] at hg2
        cases hg2
      · have HB2 : Hid (Below w.heap.size w w2) := (show Below _ _ _ from btr HB1.out b2 (Nat.le_refl _))
        clear b2 hg2
        go_wp2_with (go_at_call 9; refine (HAw.out _ HB2.out).mono ?_; rintro r u ⟨rfl, hb⟩; have HB : Hid (Below _ _ u) := hb; clear hb)
        go_ret
        exact ⟨rfl, HB.out⟩
  · have h4 : (100 : Int) < (l.length : Int) := by omega
    clear hl
    go_enter Try.func3, Try.ntmps3
    go_wp2_with (go_at_call 9; refine (HAw.out _ (Below.refl _ _)).mono ?_; rintro r u ⟨rfl, hb⟩; have HB : Hid (Below _ _ u) := hb; clear hb)
    go_ret
    exact ⟨rfl, HB.out⟩
end Go.Proofs.Ytcjojcaahpkacaa

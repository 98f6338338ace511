/-
  TopoReaches: the law's function, walked.
-/
import Derived.Test.YtcjojcaahpkacaaLawBoth
import Derived.Test.YtcjojcaahpkacaaRReach
import Derived.Test.YtcjojcaahpkacaaRefNew
import Derived.Deep.RegionHeld
namespace Go.Proofs.Ytcjojcaahpkacaa
open Go.ChangeShapes Go.WideShapes Go.ChangeAt Go.RowKit
set_option linter.unusedVariables false

theorem rd_same {n : Nat} {L : List Lk} {ds : List Int} {s : Int} {A B : List Int} (hA : Rd n L ds s A) (hB : Rd n L ds s B) : A = B :=
  rise_ext hA.1 hB.1 (fun x => (hA.2.1 x).trans (hB.2.1 x).symm)
set_option maxRecDepth 20000 in
set_option maxHeartbeats 8000000 in
theorem reaches_walk (n : Int) (a : Option Addr) (l : List Lk) (cap : Nat) (b : Option Addr) (d : List Int) (capd : Nat) (w : World) (hl : Ls w a l) (hc : l.length ≤ cap) (hcm : cap ≤ maxLen) (hd : Is w b d) (hdc : d.length ≤ capd) (hdm : capd ≤ maxLen) :
    Calls Try.prog 5 #[.int .i64 n, .slice a l.length cap, .slice b d.length capd] w fun e w' => e = .returned (.bool true) ∧ Below w.heap.size w w' := by
  have HAw : Hid (∀ u, Below w.heap.size w u → Calls Try.prog 9 #[] u fun e w' => e = .returned (.bool true) ∧ Below w.heap.size w w') := (show ∀ u, _ from fun u k => (awake_any u).mono fun e w' ⟨h1, h2⟩ => ⟨h1, btr k h2 (Nat.le_refl _)⟩)
  have hdm2 : capd ≤ 9223372036854775807 := by unfold maxLen at hdm; omega
  clear hcm hc hdm
  by_cases h1 : l.length ≤ 100
  · by_cases h2 : d.length = 0
    · clear hl hd
      go_enter Try.func5, Try.ntmps5
      go_wp2_with (go_at_call 9; refine (HAw.out _ (Below.refl _ _)).mono ?_; rintro r u ⟨rfl, hb⟩; have HB : Hid (Below _ _ u) := hb; clear hb)
      go_ret
      exact ⟨rfl, HB.out⟩
    by_cases h3 : d.length ≤ 100
    · have HN1 : Hid (Calls Try.prog 10 #[.int .i64 n, .slice a l.length cap] w fun r w' => NwR w n l r w') := (show Calls _ _ _ _ _ from new_any n a l cap w hl h1)
      have HN2 : Hid (∀ u, Below w.heap.size w u → Calls Try.prog 11 #[.int .i64 n, .slice a l.length cap] u fun r w' => RwR u n l r w') := (show ∀ u, _ from fun u g => rnew_any n a l cap u (hl.below g) h1)
      obtain ⟨g, o, rfl, hgl, hcs⟩ := hd.at (k := 0) (by omega)
      have d0 : w.cell? ⟨g, o, none⟩ = some (.int .i64 d[0]) := hcs 0 (by omega)
      generalize d[0] = p at d0
      have l0 : 0 < d.length := by omega
      have l1 : 1 ≤ d.length := by omega
      have l3 : (1 : Int) ≤ (d.length : Int) := by omega
      have l4 : 1 ≤ capd := by omega
      have l5 : (d.length == 0) = false := by rw [beq_eq_false_iff_ne]; omega
      have l6 : ((d.length : Int) == 0) = false := by rw [beq_eq_false_iff_ne]; omega
      have HCs : Hid (∀ u, Below w.heap.size w u → u.cell? ⟨g, o, none⟩ = some (.int .i64 p) ∧ g < u.heap.size) := (show ∀ u, _ from fun u k => ⟨(k.cell (p := ⟨g, o, none⟩) hgl).trans d0, Nat.lt_of_lt_of_le hgl k.size⟩)
      have HIs : Hid (∀ u, Below w.heap.size w u → Is u (some ⟨g, o + 1, none⟩) (d.drop 1) ∧ (d.length = 1 → Is u (some ⟨g, o, none⟩) (d.drop 1))) := (show ∀ u, _ from fun u k => ⟨(Is.drop hgl hcs 1).below k, fun e => by rw [List.drop_of_length_le (by omega)]; exact Is.none' _ _⟩)
      clear hl hd hcs d0
      go_enter Try.func5, Try.ntmps5
      go_wp2_with fail
      refine HN1.out.mono ?_
      rintro r w1 ⟨b1, ⟨hg1, ⟨cv, N, hN, ht⟩, rfl⟩ | ⟨hg1, rfl⟩⟩
      · have hgf : goodF N [] l = true ∧ l.length ≤ 64 := by
          unfold goodB at hg1
          rw [hN]
          simp only [Bool.and_eq_true, decide_eq_true_eq] at hg1
          exact ⟨hg1.2, hg1.1.2⟩
        have HN32 : Hid (N ≤ 32) := ht.n1
        have HGB : Hid (goodB n l = true) := hg1
        have HB1 : Hid (Below w.heap.size w w1) := b1
        have HT1 : Hid (Tm w.heap.size w1 (w.heap.size + 1) w.heap.size cv N l) := ht
        have HG : Hid (goodF N [] l = true ∧ l.length ≤ 64) := hgf
        have HN : Hid ((N : Int) = n) := hN
        clear hN ht b1 hgf hg1 HN1
        go_wp2_with fail
        refine (HN2.out _ HB1.out).mono ?_
        rintro r w2 ⟨b2, ⟨_, rb, M, ra, rc, hM, hrt, rfl⟩ | ⟨hg2, rfl⟩⟩
        · obtain rfl : M = N := by have := HN.out; omega
          have HB2 : Hid (Below w.heap.size w w2) := (show Below _ _ _ from btr HB1.out b2 (Nat.le_refl _))
          have HT2 : Hid (Tm w.heap.size w2 (w.heap.size + 1) w.heap.size cv M l) := HT1.out.below b2
          have HR2 : Hid (RTm w2 rb M ra rc l) := hrt
          have HDl : Hid ((d.drop 1).length = d.length - 1 ∧ (d.drop 1).length ≤ 1000) := (show _ ∧ _ by rw [List.length_drop]; exact ⟨rfl, by omega⟩)
          have HRe : Hid (∀ u (a' : Option Addr) (c : Nat), Below w2.heap.size w2 u → Is u a' (d.drop 1) → Calls Try.prog 24 #[.pointer (some ⟨w.heap.size + 1, 0, none⟩), .int .i64 p, .slice a' (d.length - 1) c] u fun r w' => ∃ v zs, r = .returned v ∧ OwnI u.heap.size w' v zs ∧ Rd M l (d.drop 1) p zs ∧ Below u.heap.size u w') := (show ∀ u a' c, _ from fun u a' c g hi => by
            have := reach_any (HT2.out.below g) HG.out.1 HG.out.2 p a' (d.drop 1) c hi HDl.out.2
            rwa [HDl.out.1] at this)
          have HRr : Hid (∀ u (a' : Option Addr) (c : Nat), Below w2.heap.size w2 u → Is u a' (d.drop 1) → Calls Try.prog 25 #[.pointer (some ⟨rb, 0, none⟩), .int .i64 p, .slice a' (d.length - 1) c] u fun r w' => ∃ v zs, r = .returned v ∧ OwnI u.heap.size w' v zs ∧ Rd M l (d.drop 1) p zs ∧ Below u.heap.size u w') := (show ∀ u a' c, _ from fun u a' c g hi => by
            have := rreach_any (HR2.out.below g) HG.out.1 h1 HN32.out p a' (d.drop 1) c hi HDl.out.2
            rwa [HDl.out.1] at this)
          obtain ⟨d0, hg1⟩ := HCs.out w2 HB2.out
          have HA2 : Hid (∀ u, Below w2.heap.size w2 u → Calls Try.prog 9 #[] u fun e w' => e = .returned (.bool true) ∧ Below w2.heap.size w2 w') := (show ∀ u, _ from fun u g => (awake_any u).mono fun e w' ⟨h1, h2⟩ => ⟨h1, btr g h2 (Nat.le_refl _)⟩)
          have HSt : Hid (∀ u, Below w2.heap.size w2 u → u.cell? ⟨g, o, none⟩ = some (.int .i64 p)) := (show ∀ u, _ from fun u k => (HCs.out u (btr HB2.out k (Nat.le_refl _))).1)
          clear b2 hrt hM HN HB1 HT1
          by_cases hc2 : capd = 1
          · subst hc2
            have e1 : d.length = 1 := by omega
            have HRe2 : Hid (∀ u, Below w2.heap.size w2 u → Calls Try.prog 24 #[.pointer (some ⟨w.heap.size + 1, 0, none⟩), .int .i64 p, .slice (some ⟨g, o, none⟩) 0 0] u fun r w' => ∃ v zs, r = .returned v ∧ OwnI u.heap.size w' v zs ∧ Rd M l (d.drop 1) p zs ∧ Below u.heap.size u w') := (show ∀ u, _ from fun u k => by
              have := HRe.out u (some ⟨g, o, none⟩) 0 k ((HIs.out u (btr HB2.out k (Nat.le_refl _))).2 e1)
              rwa [e1] at this)
            have HRr2 : Hid (∀ u, Below w2.heap.size w2 u → Calls Try.prog 25 #[.pointer (some ⟨rb, 0, none⟩), .int .i64 p, .slice (some ⟨g, o, none⟩) 0 0] u fun r w' => ∃ v zs, r = .returned v ∧ OwnI u.heap.size w' v zs ∧ Rd M l (d.drop 1) p zs ∧ Below u.heap.size u w') := (show ∀ u, _ from fun u k => by
              have := HRr.out u (some ⟨g, o, none⟩) 0 k ((HIs.out u (btr HB2.out k (Nat.le_refl _))).2 e1)
              rwa [e1] at this)
            clear HRe HRr
            go_wp2_with fail
            go_region_held (fun w' => w'.cell? ⟨g, o, none⟩ = some (.int .i64 p)) (first | exact HSt.out _ G8.out | exact HSt.out _ G7.out | exact HSt.out _ G6.out | exact HSt.out _ G5.out | exact HSt.out _ ((Below.refl _ _).drew)) (first
              | (go_at_call 24; refine (HRe2.out _ (by go_grown)).mono ?_; rintro e w5 ⟨v5, A, rfl, o5, r5, g5⟩; obtain ⟨a5, c5, rfl⟩ := own_form o5; have O5 : Hid (∃ B, OwnI B w5 (.slice a5 A.length c5) A) := (show ∃ B, _ from ⟨_, o5⟩); have R5 : Hid (Rd M l (d.drop 1) p A) := r5; have G5 : Hid (Below w2.heap.size w2 w5) := (show Below _ _ _ from btr (by go_grown) g5 (Nat.le_refl _)); clear o5 r5 g5)
              | (go_at_call 25; refine (HRr2.out _ G5.out).mono ?_; rintro e w6 ⟨v6, B, rfl, o6, r6, g6⟩; obtain rfl : A = B := rd_same R5.out r6; obtain ⟨a6, c6, rfl⟩ := own_form o6; have O6 : Hid (Is w6 a5 A ∧ Is w6 a6 A) := (show _ ∧ _ from (by (obtain ⟨B, o⟩ := O5.out); exact ⟨own_is2 o g6, own_is2 o6 (Below.refl _ _)⟩)); have G6 : Hid (Below w2.heap.size w2 w6) := (show Below _ _ _ from btr G5.out g6 (Nat.le_refl _)); clear o6 r6 g6)
              | (go_at_call 14; refine (nums_same a5 a6 A c5 c6 w6 O6.out.1 O6.out.2 (by have := R5.out.2.2; omega)).mono ?_; rintro e w7 ⟨rfl, g7⟩; have G7 : Hid (Below w2.heap.size w2 w7) := (show Below _ _ _ from btr G6.out g7 (Nat.le_refl _)); clear g7)
              | (go_at_call 9; refine (HA2.out _ G7.out).mono ?_; rintro e w8 ⟨rfl, g8⟩; have G8 : Hid (Below w2.heap.size w2 w8) := g8; clear g8))
            all_goals
              go_wp2
              go_ret
              exact ⟨rfl, btr HB2.out G8.out (Nat.le_refl _)⟩
          · have hc3 : 1 < capd := by omega
            have HRe2 : Hid (∀ u, Below w2.heap.size w2 u → Calls Try.prog 24 #[.pointer (some ⟨w.heap.size + 1, 0, none⟩), .int .i64 p, .slice (some ⟨g, o + 1, none⟩) (d.length - 1) (capd - 1)] u fun r w' => ∃ v zs, r = .returned v ∧ OwnI u.heap.size w' v zs ∧ Rd M l (d.drop 1) p zs ∧ Below u.heap.size u w') := (show ∀ u, _ from fun u k => HRe.out u _ _ k (HIs.out u (btr HB2.out k (Nat.le_refl _))).1)
            have HRr2 : Hid (∀ u, Below w2.heap.size w2 u → Calls Try.prog 25 #[.pointer (some ⟨rb, 0, none⟩), .int .i64 p, .slice (some ⟨g, o + 1, none⟩) (d.length - 1) (capd - 1)] u fun r w' => ∃ v zs, r = .returned v ∧ OwnI u.heap.size w' v zs ∧ Rd M l (d.drop 1) p zs ∧ Below u.heap.size u w') := (show ∀ u, _ from fun u k => HRr.out u _ _ k (HIs.out u (btr HB2.out k (Nat.le_refl _))).1)
            clear HRe HRr
            go_wp2_with fail
            go_region_held (fun w' => w'.cell? ⟨g, o, none⟩ = some (.int .i64 p)) (first | exact HSt.out _ G8.out | exact HSt.out _ G7.out | exact HSt.out _ G6.out | exact HSt.out _ G5.out | exact HSt.out _ ((Below.refl _ _).drew)) (first
              | (go_at_call 24; refine (HRe2.out _ (by go_grown)).mono ?_; rintro e w5 ⟨v5, A, rfl, o5, r5, g5⟩; obtain ⟨a5, c5, rfl⟩ := own_form o5; have O5 : Hid (∃ B, OwnI B w5 (.slice a5 A.length c5) A) := (show ∃ B, _ from ⟨_, o5⟩); have R5 : Hid (Rd M l (d.drop 1) p A) := r5; have G5 : Hid (Below w2.heap.size w2 w5) := (show Below _ _ _ from btr (by go_grown) g5 (Nat.le_refl _)); clear o5 r5 g5)
              | (go_at_call 25; refine (HRr2.out _ G5.out).mono ?_; rintro e w6 ⟨v6, B, rfl, o6, r6, g6⟩; obtain rfl : A = B := rd_same R5.out r6; obtain ⟨a6, c6, rfl⟩ := own_form o6; have O6 : Hid (Is w6 a5 A ∧ Is w6 a6 A) := (show _ ∧ _ from (by (obtain ⟨B, o⟩ := O5.out); exact ⟨own_is2 o g6, own_is2 o6 (Below.refl _ _)⟩)); have G6 : Hid (Below w2.heap.size w2 w6) := (show Below _ _ _ from btr G5.out g6 (Nat.le_refl _)); clear o6 r6 g6)
              | (go_at_call 14; refine (nums_same a5 a6 A c5 c6 w6 O6.out.1 O6.out.2 (by have := R5.out.2.2; omega)).mono ?_; rintro e w7 ⟨rfl, g7⟩; have G7 : Hid (Below w2.heap.size w2 w7) := (show Below _ _ _ from btr G6.out g7 (Nat.le_refl _)); clear g7)
              | (go_at_call 9; refine (HA2.out _ G7.out).mono ?_; rintro e w8 ⟨rfl, g8⟩; have G8 : Hid (Below w2.heap.size w2 w8) := g8; clear g8))
            all_goals
              go_wp2
              go_ret
              exact ⟨rfl, btr HB2.out G8.out (Nat.le_refl _)⟩
        · rw [HGB.out] at hg2
          cases hg2
      · have HGB : Hid (goodB n l = false) := hg1
        have HB1 : Hid (Below w.heap.size w w1) := b1
        clear hg1 b1 HN1
        go_wp2_with fail
        refine (HN2.out _ HB1.out).mono ?_
        rintro r w2 ⟨b2, ⟨hg2, _⟩ | ⟨hg2, rfl⟩⟩
        · rw [HGB.out] at hg2
          cases hg2
        · have HB2 : Hid (Below w.heap.size w w2) := (show Below _ _ _ from btr HB1.out b2 (Nat.le_refl _))
          clear b2 hg2
          go_wp2_with (go_at_call 9; refine (HAw.out _ HB2.out).mono ?_; rintro r u ⟨rfl, hb⟩; have HB : Hid (Below _ _ u) := hb; clear hb)
          go_ret
          exact ⟨rfl, HB.out⟩
    · have h4 : (100 : Int) < (d.length : Int) := by omega
      have l5 : (d.length == 0) = false := by rw [beq_eq_false_iff_ne]; omega
      have l6 : ((d.length : Int) == 0) = false := by rw [beq_eq_false_iff_ne]; omega
      clear hl hd
      go_enter Try.func5, Try.ntmps5
      go_wp2_with (go_at_call 9; refine (HAw.out _ (Below.refl _ _)).mono ?_; rintro r u ⟨rfl, hb⟩; have HB : Hid (Below _ _ u) := hb; clear hb)
      go_ret
      exact ⟨rfl, HB.out⟩
  · have h4 : (100 : Int) < (l.length : Int) := by omega
    clear hl hd
    go_enter Try.func5, Try.ntmps5
    go_wp2_with (go_at_call 9; refine (HAw.out _ (Below.refl _ _)).mono ?_; rintro r u ⟨rfl, hb⟩; have HB : Hid (Below _ _ u) := hb; clear hb)
    go_ret
    exact ⟨rfl, HB.out⟩
end Go.Proofs.Ytcjojcaahpkacaa

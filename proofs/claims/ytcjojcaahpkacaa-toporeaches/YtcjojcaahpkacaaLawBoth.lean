/-
  TopoBoth: the law's function, walked.
-/
import Derived.Test.YtcjojcaahpkacaaNums
import Derived.Test.YtcjojcaahpkacaaBothP
import Derived.Test.YtcjojcaahpkacaaRefS
import Derived.Deep.RegionLaw
namespace Go.Proofs.Ytcjojcaahpkacaa
open Go.ChangeShapes Go.WideShapes Go.ChangeAt Go.RowKit
set_option linter.unusedVariables false

theorem step_call2 {P : Program} {ops : Array Oper} {o : Oper} {a : Go.Act} {w : World} {K : Go.Act → World → Prop} {Q : Exit → Go.Act → World → Prop} {E : Prop} (hw : Region.wanted o (yielded ops a.tmps) = true) (f : FuncId) (vals : Array Value)
    (hrun : (execOp a.eval o).run P w = .ok (.enter f vals) w) (hC : Calls P f vals w fun e w' => ∃ v, e = .returned v ∧ K (a.put o.dst v) w') :
    if Region.wanted o (yielded ops a.tmps) = true then Oper.wp P o a w K Q else E := by
  rw [if_pos hw]
  unfold Oper.wp
  rw [hrun, Oper.upon_enter]
  exact hC.mono fun e w' ⟨v, he, hk⟩ => by subst he; exact hk
/-- What is behind the first k numbers of a slice. -/
theorem Is.drop {w : World} {g o : Nat} {l : List Int} (hg : g < w.heap.size) (h : ∀ i (h : i < l.length), w.cell? ⟨g, o + i, none⟩ = some (.int .i64 l[i])) (k : Nat) : Is w (some ⟨g, o + k, none⟩) (l.drop k) :=
  .inr ⟨g, o + k, rfl, hg, fun i hi => by
    have hi' : k + i < l.length := by rw [List.length_drop] at hi; omega
    rw [List.getElem_drop, Nat.add_assoc]
    exact h (k + i) hi'⟩
theorem own_is2 {base : Nat} {w w' : World} {a : Option Addr} {c : Nat} {zs : List Int} (h : OwnI base w (.slice a zs.length c) zs) (g : Below w.heap.size w w') : Is w' a zs := by
  obtain ⟨a', c', e, hi⟩ := (own_below h g).is
  cases e
  exact hi
theorem Is.none' (w : World) (a : Option Addr) : Is w a [] := .inl rfl
set_option maxRecDepth 20000 in
set_option maxHeartbeats 8000000 in
theorem both_walk (n : Int) (a : Option Addr) (l : List Lk) (cap : Nat) (b : Option Addr) (d : List Int) (capd : Nat) (w : World) (hl : Ls w a l) (hc : l.length ≤ cap) (hcm : cap ≤ maxLen) (hd : Is w b d) (hdc : d.length ≤ capd) (hdm : capd ≤ maxLen) :
    Calls Try.prog 7 #[.int .i64 n, .slice a l.length cap, .slice b d.length capd] w fun e w' => e = .returned (.bool true) ∧ Below w.heap.size w w' := by
  have HAw : Hid (∀ u, Below w.heap.size w u → Calls Try.prog 9 #[] u fun e w' => e = .returned (.bool true) ∧ Below w.heap.size w w') := (show ∀ u, _ from fun u k => (awake_any u).mono fun e w' ⟨h1, h2⟩ => ⟨h1, btr k h2 (Nat.le_refl _)⟩)
  have hdm2 : capd ≤ 9223372036854775807 := by unfold maxLen at hdm; omega
  clear hcm hc hdm
  by_cases h1 : l.length ≤ 100
  · by_cases h2 : d.length < 2
    · have h3 : (d.length : Int) < 2 := by omega
      clear hl hd
      go_enter Try.func7, Try.ntmps7
      go_wp2_with (go_at_call 9; refine (HAw.out _ (Below.refl _ _)).mono ?_; rintro r u ⟨rfl, hb⟩; have HB : Hid (Below _ _ u) := hb; clear hb)
      go_ret
      exact ⟨rfl, HB.out⟩
    by_cases h3 : d.length ≤ 100
    · have HN1 : Hid (Calls Try.prog 10 #[.int .i64 n, .slice a l.length cap] w fun r w' => NwR w n l r w') := (show Calls _ _ _ _ _ from new_any n a l cap w hl h1)
      obtain ⟨g, o, rfl, hgl, hcs⟩ := hd.at (k := 0) (by omega)
      have d0 : w.cell? ⟨g, o, none⟩ = some (.int .i64 d[0]) := hcs 0 (by omega)
      have d1 : w.cell? ⟨g, o + 1, none⟩ = some (.int .i64 d[1]) := hcs 1 (by omega)
      generalize d[0] = p at d0
      generalize d[1] = q at d1
      have h2i : ¬ (d.length : Int) < 2 := by omega
      have l0 : 0 < d.length := by omega
      have l1 : 1 < d.length := by omega
      have l2 : 2 ≤ d.length := by omega
      have l3 : (2 : Int) ≤ (d.length : Int) := by omega
      have l4 : 2 ≤ capd := by omega
      have l5 : (1 : Int) < (d.length : Int) := by omega
      have l6 : ¬ (d.length : Int) ≤ 1 := by omega
      have l7 : ¬ d.length ≤ 1 := by omega
      have HCs : Hid (∀ u, Below w.heap.size w u → u.cell? ⟨g, o, none⟩ = some (.int .i64 p) ∧ u.cell? ⟨g, o + 1, none⟩ = some (.int .i64 q) ∧ g < u.heap.size) := (show ∀ u, _ from fun u k => ⟨(k.cell (p := ⟨g, o, none⟩) hgl).trans d0, (k.cell (p := ⟨g, o + 1, none⟩) hgl).trans d1, Nat.lt_of_lt_of_le hgl k.size⟩)
      have HIs : Hid (∀ u, Below w.heap.size w u → Is u (some ⟨g, o + 2, none⟩) (d.drop 2) ∧ (d.length = 2 → Is u (some ⟨g, o, none⟩) (d.drop 2))) := (show ∀ u, _ from fun u k => ⟨(Is.drop hgl hcs 2).below k, fun e => by rw [List.drop_of_length_le (by omega)]; exact Is.none' _ _⟩)
      clear hl hd hcs d0 d1
      go_enter Try.func7, Try.ntmps7
      go_wp2_with fail
      refine HN1.out.mono ?_
      rintro r w1 ⟨b1, ⟨hg1, ⟨cv, N, hN, ht⟩, rfl⟩ | ⟨hg1, rfl⟩⟩
      · have hgf : goodF N [] l = true ∧ l.length ≤ 64 := by
          unfold goodB at hg1
          rw [hN]
          simp only [Bool.and_eq_true, decide_eq_true_eq] at hg1
          exact ⟨hg1.2, hg1.1.2⟩
        have HB1 : Hid (Below w.heap.size w w1) := b1
        have HG : Hid (goodF N [] l = true ∧ l.length ≤ 64) := hgf
        have HDl : Hid ((d.drop 2).length = d.length - 2 ∧ (d.drop 2).length ≤ 1000) := (show _ ∧ _ by rw [List.length_drop]; exact ⟨rfl, by omega⟩)
        have HRe : Hid (∀ u (s : Int) (a' : Option Addr) (c : Nat), Below w1.heap.size w1 u → Is u a' (d.drop 2) → Calls Try.prog 24 #[.pointer (some ⟨w.heap.size + 1, 0, none⟩), .int .i64 s, .slice a' (d.length - 2) c] u fun r w' => ∃ v zs, r = .returned v ∧ OwnI u.heap.size w' v zs ∧ Rd N l (d.drop 2) s zs ∧ Below u.heap.size u w') := (show ∀ u s a' c, _ from fun u s a' c g hi => by
          have := reach_any (ht.below g) HG.out.1 HG.out.2 s a' (d.drop 2) c hi HDl.out.2
          rwa [HDl.out.1] at this)
        obtain ⟨d0, d1, hg1⟩ := HCs.out w1 HB1.out
        clear hN ht b1 hgf HN1
        by_cases hc2 : capd = 2
        · subst hc2
          have e2 : d.length = 2 := by omega
          have HRe2 : Hid (∀ u (s : Int), Below w1.heap.size w1 u → Calls Try.prog 24 #[.pointer (some ⟨w.heap.size + 1, 0, none⟩), .int .i64 s, .slice (some ⟨g, o, none⟩) 0 0] u fun r w' => ∃ v zs, r = .returned v ∧ OwnI u.heap.size w' v zs ∧ Rd N l (d.drop 2) s zs ∧ Below u.heap.size u w') := (show ∀ u s, _ from fun u s k => by
            have := HRe.out u s (some ⟨g, o, none⟩) 0 k ((HIs.out u (btr HB1.out k (Nat.le_refl _))).2 e2)
            rwa [e2] at this)
          clear HRe
          go_wp2_with fail
          go_region_law (
             refine step_call2 rfl 24 #[.pointer (some ⟨w.heap.size + 1, 0, none⟩), .int .i64 p, .slice (some ⟨g, o, none⟩) 0 0] ?hrun ?_
             case hrun => go_simp
             refine Calls.mono (HRe2.out _ _ (by go_grown)) ?_
             rintro e w2 ⟨v2, A, rfl, o2, r2, g2⟩
             obtain ⟨a2, c2, rfl⟩ := own_form o2
             refine ⟨_, rfl, ?_⟩
             have O2 : Hid (∃ B, OwnI B w2 (.slice a2 A.length c2) A) := (show ∃ B, _ from ⟨_, o2⟩)
             have R2 : Hid (Rd N l (d.drop 2) p A) := r2
             have G2 : Hid (Below w1.heap.size w1 w2) := (show Below _ _ _ from btr (by go_grown) g2 (Nat.le_refl _))
             clear o2 r2 g2)
          obtain ⟨e0, e1, e22⟩ := HCs.out w2 (btr HB1.out G2.out (Nat.le_refl _))
          clear d0 d1 hg1
          go_wp2_with fail
          go_region_law (
             refine step_call2 rfl 24 #[.pointer (some ⟨w.heap.size + 1, 0, none⟩), .int .i64 q, .slice (some ⟨g, o, none⟩) 0 0] ?hrun ?_
             case hrun => go_simp
             refine Calls.mono (HRe2.out _ _ (btr G2.out (by go_grown) (Nat.le_refl _))) ?_
             rintro e w3 ⟨v3, B, rfl, o3, r3, g3⟩
             obtain ⟨a3, c3, rfl⟩ := own_form o3
             refine ⟨_, rfl, ?_⟩
             have O3 : Hid (Is w3 a2 A ∧ Is w3 a3 B) := (show _ ∧ _ from by
               obtain ⟨B', o⟩ := O2.out
               exact ⟨own_is2 o (btr (by go_grown) g3 (Nat.le_refl _)), own_is2 o3 (Below.refl _ _)⟩)
             have R3 : Hid (Rd N l (d.drop 2) q B) := r3
             have G3 : Hid (Below w1.heap.size w1 w3) := (show Below _ _ _ from btr (btr G2.out (by go_grown) (Nat.le_refl _)) g3 (Nat.le_refl _))
             clear o3 r3 g3)
          have HB3 : Hid (Below w.heap.size w w3) := (show Below _ _ _ from btr HB1.out G3.out (Nat.le_refl _))
          obtain ⟨x0, x1, x2⟩ := HCs.out w3 HB3.out
          have hAl : A.length ≤ 32 := R2.out.2.2
          have hBl : B.length ≤ 32 := R3.out.2.2
          have HIff : Hid (q ∈ A ↔ p ∈ B) := (show _ ↔ _ from both_has HG.out.1 R2.out R3.out)
          have HSame : Hid (q ∈ A → A = B) := (show _ → _ from fun hx => rise_ext R2.out.1 R3.out.1 (both_mem HG.out.1 R2.out R3.out hx))
          have HHa : Hid (∀ u x, Below w3.heap.size w3 u → Calls Try.prog 26 #[.slice a2 A.length c2, .int .i64 x] u fun e w' => e = .returned (.bool (hasB A x)) ∧ w' = u) := (show ∀ u x, _ from fun u x g => rhas_any a2 A c2 x u (O3.out.1.below g) (by omega))
          have HHb : Hid (∀ u x, Below w3.heap.size w3 u → Calls Try.prog 26 #[.slice a3 B.length c3, .int .i64 x] u fun e w' => e = .returned (.bool (hasB B x)) ∧ w' = u) := (show ∀ u x, _ from fun u x g => rhas_any a3 B c3 x u (O3.out.2.below g) (by omega))
          have HBd : Hid (∀ k, Below w3.heap.size w3 (w3.drewN k)) := (show ∀ k, _ from fun k => bdr (Below.refl _ _) k)
          clear e0 e1 e22
          cases t : hasB A q
          · have t2 : hasB B p = false := hasB_false.2 (fun h => hasB_false.1 t (HIff.out.2 h))
            have HA1 : Hid (∀ k, Calls Try.prog 26 #[.slice a2 A.length c2, .int .i64 q] (w3.drewN k) fun e w' => e = .returned (.bool false) ∧ w' = (w3.drewN k)) := (show ∀ k, _ from fun k => by rw [← t]; exact HHa.out _ _ (HBd.out k))
            have HA2 : Hid (∀ k, Calls Try.prog 26 #[.slice a3 B.length c3, .int .i64 p] (w3.drewN k) fun e w' => e = .returned (.bool false) ∧ w' = (w3.drewN k)) := (show ∀ k, _ from fun k => by rw [← t2]; exact HHb.out _ _ (HBd.out k))
            clear t t2
            go_wp2_with fail
            go_quiet ((first | (go_at_call_of 26 (Value.slice a2 A.length c2); exact Calls.quiet_of_same (HA1.out _)) | (go_at_call_of 26 (Value.slice a3 B.length c3); exact Calls.quiet_of_same (HA2.out _))))
            go_wp2_with (first
              | (go_at_call 26; refine (HA1.out _).mono ?_; rintro r u ⟨rfl, z⟩; obtain rfl := z)
              | (go_at_call 9; refine (HAw.out _ (btr HB3.out (HBd.out _) (Nat.le_refl _))).mono ?_; rintro r u ⟨rfl, hb⟩; have HBb : Hid (Below _ _ u) := hb; clear hb))
            go_ret
            exact ⟨rfl, HBb.out⟩
          · have t2 : hasB B p = true := hasB_true.2 (HIff.out.1 (hasB_true.1 t))
            have hAB : A = B := HSame.out (hasB_true.1 t)
            have HA1 : Hid (∀ k, Calls Try.prog 26 #[.slice a2 A.length c2, .int .i64 q] (w3.drewN k) fun e w' => e = .returned (.bool true) ∧ w' = (w3.drewN k)) := (show ∀ k, _ from fun k => by rw [← t]; exact HHa.out _ _ (HBd.out k))
            have HA2 : Hid (∀ k, Calls Try.prog 26 #[.slice a3 B.length c3, .int .i64 p] (w3.drewN k) fun e w' => e = .returned (.bool true) ∧ w' = (w3.drewN k)) := (show ∀ k, _ from fun k => by rw [← t2]; exact HHb.out _ _ (HBd.out k))
            have HNu : Hid (∀ k, Calls Try.prog 14 #[.slice a2 A.length c2, .slice a3 B.length c3] (w3.drewN k) fun e w' => e = .returned (.bool true) ∧ Below w.heap.size w w') := (show ∀ k, _ from fun k => by
              have i1 := O3.out.1.below (HBd.out k)
              have i2 := O3.out.2.below (HBd.out k)
              rw [← hAB] at i2 ⊢
              exact (nums_same a2 a3 A c2 c3 _ i1 i2 (by omega)).mono fun e w' ⟨h1, h2⟩ => ⟨h1, btr (btr HB3.out (HBd.out k) (Nat.le_refl _)) h2 (Nat.le_refl _)⟩)
            clear t t2 hAB
            go_wp2_with fail
            go_quiet ((first | (go_at_call_of 26 (Value.slice a2 A.length c2); exact Calls.quiet_of_same (HA1.out _)) | (go_at_call_of 26 (Value.slice a3 B.length c3); exact Calls.quiet_of_same (HA2.out _))))
            go_wp2_with (first
              | (go_at_call 26; refine (HA1.out _).mono ?_; rintro r u ⟨rfl, z⟩; obtain rfl := z)
              | (go_at_call 14; refine (HNu.out _).mono ?_; rintro r w5 ⟨rfl, hb5⟩; have HB5 : Hid (Below _ _ w5) := hb5; clear hb5)
              | (go_at_call 9; refine (HAw.out _ HB5.out).mono ?_; rintro r u ⟨rfl, hb⟩; have HBb : Hid (Below _ _ u) := hb; clear hb))
            go_ret
            exact ⟨rfl, HBb.out⟩
        · have hc3 : 2 < capd := by omega
          have HRe2 : Hid (∀ u (s : Int), Below w1.heap.size w1 u → Calls Try.prog 24 #[.pointer (some ⟨w.heap.size + 1, 0, none⟩), .int .i64 s, .slice (some ⟨g, o + 2, none⟩) (d.length - 2) (capd - 2)] u fun r w' => ∃ v zs, r = .returned v ∧ OwnI u.heap.size w' v zs ∧ Rd N l (d.drop 2) s zs ∧ Below u.heap.size u w') := (show ∀ u s, _ from fun u s k => HRe.out u s (some ⟨g, o + 2, none⟩) (capd - 2) k ((HIs.out u (btr HB1.out k (Nat.le_refl _))).1))
          clear HRe
          go_wp2_with fail
          go_region_law (
             refine step_call2 rfl 24 #[.pointer (some ⟨w.heap.size + 1, 0, none⟩), .int .i64 p, .slice (some ⟨g, o + 2, none⟩) (d.length - 2) (capd - 2)] ?hrun ?_
             case hrun => go_simp
             refine Calls.mono (HRe2.out _ _ (by go_grown)) ?_
             rintro e w2 ⟨v2, A, rfl, o2, r2, g2⟩
             obtain ⟨a2, c2, rfl⟩ := own_form o2
             refine ⟨_, rfl, ?_⟩
             have O2 : Hid (∃ B, OwnI B w2 (.slice a2 A.length c2) A) := (show ∃ B, _ from ⟨_, o2⟩)
             have R2 : Hid (Rd N l (d.drop 2) p A) := r2
             have G2 : Hid (Below w1.heap.size w1 w2) := (show Below _ _ _ from btr (by go_grown) g2 (Nat.le_refl _))
             clear o2 r2 g2)
          obtain ⟨e0, e1, e2⟩ := HCs.out w2 (btr HB1.out G2.out (Nat.le_refl _))
          clear d0 d1 hg1
          go_wp2_with fail
          go_region_law (
             refine step_call2 rfl 24 #[.pointer (some ⟨w.heap.size + 1, 0, none⟩), .int .i64 q, .slice (some ⟨g, o + 2, none⟩) (d.length - 2) (capd - 2)] ?hrun ?_
             case hrun => go_simp
             refine Calls.mono (HRe2.out _ _ (btr G2.out (by go_grown) (Nat.le_refl _))) ?_
             rintro e w3 ⟨v3, B, rfl, o3, r3, g3⟩
             obtain ⟨a3, c3, rfl⟩ := own_form o3
             refine ⟨_, rfl, ?_⟩
             have O3 : Hid (Is w3 a2 A ∧ Is w3 a3 B) := (show _ ∧ _ from by
               obtain ⟨B', o⟩ := O2.out
               exact ⟨own_is2 o (btr (by go_grown) g3 (Nat.le_refl _)), own_is2 o3 (Below.refl _ _)⟩)
             have R3 : Hid (Rd N l (d.drop 2) q B) := r3
             have G3 : Hid (Below w1.heap.size w1 w3) := (show Below _ _ _ from btr (btr G2.out (by go_grown) (Nat.le_refl _)) g3 (Nat.le_refl _))
             clear o3 r3 g3)
          have HB3 : Hid (Below w.heap.size w w3) := (show Below _ _ _ from btr HB1.out G3.out (Nat.le_refl _))
          obtain ⟨x0, x1, x2⟩ := HCs.out w3 HB3.out
          have hAl : A.length ≤ 32 := R2.out.2.2
          have hBl : B.length ≤ 32 := R3.out.2.2
          have HIff : Hid (q ∈ A ↔ p ∈ B) := (show _ ↔ _ from both_has HG.out.1 R2.out R3.out)
          have HSame : Hid (q ∈ A → A = B) := (show _ → _ from fun hx => rise_ext R2.out.1 R3.out.1 (both_mem HG.out.1 R2.out R3.out hx))
          have HHa : Hid (∀ u x, Below w3.heap.size w3 u → Calls Try.prog 26 #[.slice a2 A.length c2, .int .i64 x] u fun e w' => e = .returned (.bool (hasB A x)) ∧ w' = u) := (show ∀ u x, _ from fun u x g => rhas_any a2 A c2 x u (O3.out.1.below g) (by omega))
          have HHb : Hid (∀ u x, Below w3.heap.size w3 u → Calls Try.prog 26 #[.slice a3 B.length c3, .int .i64 x] u fun e w' => e = .returned (.bool (hasB B x)) ∧ w' = u) := (show ∀ u x, _ from fun u x g => rhas_any a3 B c3 x u (O3.out.2.below g) (by omega))
          have HBd : Hid (∀ k, Below w3.heap.size w3 (w3.drewN k)) := (show ∀ k, _ from fun k => bdr (Below.refl _ _) k)
          clear e0 e1 e2
          cases t : hasB A q
          · have t2 : hasB B p = false := hasB_false.2 (fun h => hasB_false.1 t (HIff.out.2 h))
            have HA1 : Hid (∀ k, Calls Try.prog 26 #[.slice a2 A.length c2, .int .i64 q] (w3.drewN k) fun e w' => e = .returned (.bool false) ∧ w' = (w3.drewN k)) := (show ∀ k, _ from fun k => by rw [← t]; exact HHa.out _ _ (HBd.out k))
            have HA2 : Hid (∀ k, Calls Try.prog 26 #[.slice a3 B.length c3, .int .i64 p] (w3.drewN k) fun e w' => e = .returned (.bool false) ∧ w' = (w3.drewN k)) := (show ∀ k, _ from fun k => by rw [← t2]; exact HHb.out _ _ (HBd.out k))
            clear t t2
            go_wp2_with fail
            go_quiet ((first | (go_at_call_of 26 (Value.slice a2 A.length c2); exact Calls.quiet_of_same (HA1.out _)) | (go_at_call_of 26 (Value.slice a3 B.length c3); exact Calls.quiet_of_same (HA2.out _))))
            go_wp2_with (first
              | (go_at_call 26; refine (HA1.out _).mono ?_; rintro r u ⟨rfl, z⟩; obtain rfl := z)
              | (go_at_call 9; refine (HAw.out _ (btr HB3.out (HBd.out _) (Nat.le_refl _))).mono ?_; rintro r u ⟨rfl, hb⟩; have HBb : Hid (Below _ _ u) := hb; clear hb))
            go_ret
            exact ⟨rfl, HBb.out⟩
          · have t2 : hasB B p = true := hasB_true.2 (HIff.out.1 (hasB_true.1 t))
            have hAB : A = B := HSame.out (hasB_true.1 t)
            have HA1 : Hid (∀ k, Calls Try.prog 26 #[.slice a2 A.length c2, .int .i64 q] (w3.drewN k) fun e w' => e = .returned (.bool true) ∧ w' = (w3.drewN k)) := (show ∀ k, _ from fun k => by rw [← t]; exact HHa.out _ _ (HBd.out k))
            have HA2 : Hid (∀ k, Calls Try.prog 26 #[.slice a3 B.length c3, .int .i64 p] (w3.drewN k) fun e w' => e = .returned (.bool true) ∧ w' = (w3.drewN k)) := (show ∀ k, _ from fun k => by rw [← t2]; exact HHb.out _ _ (HBd.out k))
            have HNu : Hid (∀ k, Calls Try.prog 14 #[.slice a2 A.length c2, .slice a3 B.length c3] (w3.drewN k) fun e w' => e = .returned (.bool true) ∧ Below w.heap.size w w') := (show ∀ k, _ from fun k => by
              have i1 := O3.out.1.below (HBd.out k)
              have i2 := O3.out.2.below (HBd.out k)
              rw [← hAB] at i2 ⊢
              exact (nums_same a2 a3 A c2 c3 _ i1 i2 (by omega)).mono fun e w' ⟨h1, h2⟩ => ⟨h1, btr (btr HB3.out (HBd.out k) (Nat.le_refl _)) h2 (Nat.le_refl _)⟩)
            clear t t2 hAB
            go_wp2_with fail
            go_quiet ((first | (go_at_call_of 26 (Value.slice a2 A.length c2); exact Calls.quiet_of_same (HA1.out _)) | (go_at_call_of 26 (Value.slice a3 B.length c3); exact Calls.quiet_of_same (HA2.out _))))
            go_wp2_with (first
              | (go_at_call 26; refine (HA1.out _).mono ?_; rintro r u ⟨rfl, z⟩; obtain rfl := z)
              | (go_at_call 14; refine (HNu.out _).mono ?_; rintro r w5 ⟨rfl, hb5⟩; have HB5 : Hid (Below _ _ w5) := hb5; clear hb5)
              | (go_at_call 9; refine (HAw.out _ HB5.out).mono ?_; rintro r u ⟨rfl, hb⟩; have HBb : Hid (Below _ _ u) := hb; clear hb))
            go_ret
            exact ⟨rfl, HBb.out⟩
      · have HB1 : Hid (Below w.heap.size w w1) := b1
        clear hg1 b1 HN1
        go_wp2_with (go_at_call 9; refine (HAw.out _ HB1.out).mono ?_; rintro r u ⟨rfl, hb⟩; have HB : Hid (Below _ _ u) := hb; clear hb)
        go_ret
        exact ⟨rfl, HB.out⟩
    · have h4 : (100 : Int) < (d.length : Int) := by omega
      have h5 : ¬ (d.length : Int) < 2 := by omega
      clear hl hd
      go_enter Try.func7, Try.ntmps7
      go_wp2_with (go_at_call 9; refine (HAw.out _ (Below.refl _ _)).mono ?_; rintro r u ⟨rfl, hb⟩; have HB : Hid (Below _ _ u) := hb; clear hb)
      go_ret
      exact ⟨rfl, HB.out⟩
  · have h4 : (100 : Int) < (l.length : Int) := by omega
    clear hl hd
    go_enter Try.func7, Try.ntmps7
    go_wp2_with (go_at_call 9; refine (HAw.out _ (Below.refl _ _)).mono ?_; rintro r u ⟨rfl, hb⟩; have HB : Hid (Below _ _ u) := hb; clear hb)
    go_ret
    exact ⟨rfl, HB.out⟩
end Go.Proofs.Ytcjojcaahpkacaa

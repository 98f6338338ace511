/-
  What rightForm, rightActions and right answer, as contracts.
-/
import Derived.Test.YteodlkgbakkjmaaDoorForm
namespace Go.Proofs.YteodlkgbakkjmaaDoor
open Go.ChangeShapes Go.WideShapes Go.ChangeAt Go.RowKit
set_option linter.unusedVariables false

theorem all_stop {α : Type} {l : List α} {f : α → Bool} {k : Nat} (h : k < l.length) (hf : f l[k] = false) : l.all f = false := by
  rw [List.all_eq_false]
  exact ⟨l[k], List.getElem_mem h, by simp [hf]⟩
theorem all_step {α : Type} {l : List α} {f : α → Bool} {k : Nat} (h : k < l.length) (hp : ∀ i (hi : i < l.length), i < k → f l[i] = true) (hf : f l[k] = true) : ∀ i (hi : i < l.length), i < k + 1 → f l[i] = true := fun i hi hlt => by
  by_cases e : i = k
  · subst e; exact hf
  · exact hp i hi (by omega)
theorem all_end {α : Type} {l : List α} {f : α → Bool} (hp : ∀ i (hi : i < l.length), i < l.length → f l[i] = true) : l.all f = true := by
  rw [List.all_eq_true]
  intro x hx
  obtain ⟨i, hi, rfl⟩ := List.getElem_of_mem hx
  exact hp i hi hi
theorem map_all {α β : Type} (f : α → β) (g : β → Bool) (l : List α) : (l.map f).all g = l.all fun x => g (f x) := by induction l <;> simp_all
set_option maxRecDepth 20000 in
set_option maxHeartbeats 8000000 in
theorem rightForm_any (g : Gr) (w : World) (hT : Bs w g.a g.l) (hn : g.l.length ≤ 100) : Calls Tryd.prog 49 #[gV g] w fun e w' => e = .returned (.bool (formB g.id g.kd (g.l.map Bk.b3))) ∧ Below w.heap.size w w' := by
  obtain ⟨id, kd, ga, l, gc⟩ := g
  simp only at hT hn
  have HW : Hid (∀ n lo hi w, Calls Tryd.prog 27 #[.int .i64 n, .int .i64 lo, .int .i64 hi] w fun e w' => e = .returned (.bool (inB n lo hi)) ∧ w' = w) := (show ∀ n lo hi w, _ from within_any)
  have HK : Hid (∀ w, Calls Tryd.prog 60 #[.int .i64 kd] w fun e w' => e = .returned (.bool (inB kd 1 4)) ∧ w' = w) := (show ∀ w, _ from fun w => isKind_any kd w)
  have HF : Hid (∀ w, Calls Tryd.prog 61 #[.int .i64 kd] w fun e w' => e = .returned (.int .i64 (fewV kd)) ∧ w' = w) := (show ∀ w, _ from fun w => fewest_any kd w)
  have HM : Hid (∀ w, Calls Tryd.prog 62 #[.int .i64 kd] w fun e w' => e = .returned (.int .i64 (mostV kd)) ∧ w' = w) := (show ∀ w, _ from fun w => most_any kd w)
  have HB : Hid (∀ (b : Bk) w, Calls Tryd.prog 63 #[.int .i64 kd, bkV b] w fun e w' => e = .returned (.bool (bkB kd b.b3)) ∧ Below w.heap.size w w') := (show ∀ (b : Bk) w, _ from fun b w => rightBucket_any kd b w)
  obtain ⟨V, hV⟩ : ∃ V, w.alloc (.cells #[.int .i64 id, .int .i64 kd, .slice ga l.length gc] 33) = V := ⟨_, rfl⟩
  have GV : Below w.heap.size w V := by rw [← hV]; go_grown
  have zV : V.heap.size = w.heap.size + 1 := by rw [← hV]; simp
  have cV : Cg V w.heap.size 0 ⟨id, kd, ga, l, gc⟩ := by rw [← hV]; exact Cg.new w ⟨id, kd, ga, l, gc⟩
  have TV : Bs V ga l := hT.below GV
  have HV : Hid (w.alloc (.cells #[.int .i64 id, .int .i64 kd, .slice ga l.length gc] 33) = V) := hV
  have q0 : ∀ n : GrT V, n.w.cell? ⟨w.heap.size, 0, none⟩ = some (.int .i64 id) := fun n => (cV.below (by omega) n.h).1
  have q1 : ∀ n : GrT V, n.w.cell? ⟨w.heap.size, 1, none⟩ = some (.int .i64 kd) := fun n => (cV.below (by omega) n.h).2.1
  have q2 : ∀ n : GrT V, n.w.cell? ⟨w.heap.size, 2, none⟩ = some (.slice ga l.length gc) := fun n => (cV.below (by omega) n.h).2.2
  have HT : Hid (∀ w', Below V.heap.size V w' → Bs w' ga l ∧ w'.cell? ⟨w.heap.size, 1, none⟩ = some (.int .i64 kd) ∧ w'.cell? ⟨w.heap.size, 2, none⟩ = some (.slice ga l.length gc) ∧ Below w.heap.size w w' ∧ w.heap.size < w'.heap.size) := (show ∀ w', _ from fun w' h => ⟨TV.below h, (cV.below (by omega) h).2.1, (cV.below (by omega) h).2.2, btr GV h (by omega), by have := h.size; omega⟩)
  have hR : formB id kd (l.map Bk.b3) = (inB id 1 65535 && inB kd 1 4 && inB l.length (fewV kd) (mostV kd) && l.all fun x => bkB kd x.b3) := by unfold formB headB; rw [map_all, List.length_map]
  show Calls Tryd.prog 49 #[.agg #[.int .i64 id, .int .i64 kd, .slice ga l.length gc]] w fun e w' => e = .returned (.bool (formB id kd (l.map Bk.b3))) ∧ Below w.heap.size w w'
  rw [hR]
  clear hR hT TV cV GV zV hV
  generalize fewV kd = F at *
  generalize mostV kd = M at *
  cases h1 : inB id 1 65535 with
  | false =>
    go_enter Tryd.func49, Tryd.ntmps49
    go_wp2_with fail
    rw [HV.out]
    refine wp_region_grow (by kernel_rfl) (by kernel_rfl) ?_
    repeat (go_big_quiet_step ((first | (go_at_call 27; exact quiet_gs (HW.out _ _ _ _)) | (go_at_call 60; exact quiet_gs (HK.out _)) | (go_at_call 61; exact quiet_gs (HF.out _)) | (go_at_call 62; exact quiet_gs (HM.out _)))))
    refine wpQuiet_nil ?_
    rintro w1 hw'
    have g1 := gr_elim hw'
    clear q0 q1 q2 hw'
    go_wp2_with fail
    go_ret
    exact ⟨rfl, (HT.out _ g1).2.2.2.1⟩
  | true =>
    cases h2 : inB kd 1 4 with
    | false =>
      go_enter Tryd.func49, Tryd.ntmps49
      go_wp2_with fail
      rw [HV.out]
      refine wp_region_grow (by kernel_rfl) (by kernel_rfl) ?_
      repeat (go_big_quiet_step ((first | (go_at_call 27; exact quiet_gs (HW.out _ _ _ _)) | (go_at_call 60; exact quiet_gs (HK.out _)) | (go_at_call 61; exact quiet_gs (HF.out _)) | (go_at_call 62; exact quiet_gs (HM.out _)))))
      refine wpQuiet_nil ?_
      rintro w1 hw'
      have g1 := gr_elim hw'
      clear q0 q1 q2 hw'
      go_wp2_with fail
      go_ret
      exact ⟨rfl, (HT.out _ g1).2.2.2.1⟩
    | true =>
      cases h3 : inB (l.length : Int) F M with
      | false =>
        go_enter Tryd.func49, Tryd.ntmps49
        go_wp2_with fail
        rw [HV.out]
        refine wp_region_grow (by kernel_rfl) (by kernel_rfl) ?_
        repeat (go_big_quiet_step ((first | (go_at_call 27; exact quiet_gs (HW.out _ _ _ _)) | (go_at_call 60; exact quiet_gs (HK.out _)) | (go_at_call 61; exact quiet_gs (HF.out _)) | (go_at_call 62; exact quiet_gs (HM.out _)))))
        refine wpQuiet_nil ?_
        rintro w1 hw'
        have g1 := gr_elim hw'
        clear q0 q1 q2 hw'
        go_wp2_with fail
        go_ret
        exact ⟨rfl, (HT.out _ g1).2.2.2.1⟩
      | true =>
        rw [Bool.true_and, Bool.true_and, Bool.true_and]
        go_enter Tryd.func49, Tryd.ntmps49
        go_wp2_with fail
        rw [HV.out]
        refine wp_region_grow (by kernel_rfl) (by kernel_rfl) ?_
        repeat (go_big_quiet_step ((first | (go_at_call 27; exact quiet_gs (HW.out _ _ _ _)) | (go_at_call 60; exact quiet_gs (HK.out _)) | (go_at_call 61; exact quiet_gs (HF.out _)) | (go_at_call 62; exact quiet_gs (HM.out _)))))
        refine wpQuiet_nil ?_
        rintro w1 hw'
        have g1 := gr_elim hw'
        clear q0 q1 q2 hw' h1 h2 h3 HV HW HK HF HM
        obtain ⟨_, c1, c2, _, z1⟩ := HT.out _ g1
        go_wp2_with fail
        clear c1 c2
        go_loopw [31] (fun v wr => ∃ q : Nat, q ≤ l.length ∧ v = .int .i64 q ∧ Hid (∀ i (hi : i < l.length), i < q → bkB kd l[i].b3 = true) ∧ Below V.heap.size V wr) (fun v _ => l.length - (intOf v).toNat)
        case atStart => exact ⟨0, Nat.zero_le _, rfl, (show ∀ i (hi : i < l.length), _ from fun i _ h => by omega), g1⟩
        case round =>
          obtain ⟨q, hq, rfl, HP, hbel⟩ := hrel
          obtain ⟨hBs, c1, c2, hw, zr⟩ := HT.out _ hbel
          by_cases hlt : q < l.length
          · obtain ⟨b, o, rfl, hb, hc⟩ := hBs.at hlt
            obtain ⟨d0, d1, d2⟩ := hc q hlt
            have HN : Hid (bkB kd l[q].b3 = true → ∀ i (hi : i < l.length), i < q + 1 → bkB kd l[i].b3 = true) := (show _ → _ from fun h => all_step (f := fun x : Bk => bkB kd x.b3) hlt HP.out h)
            have HS : Hid (bkB kd l[q].b3 = false → (l.all fun x => bkB kd x.b3) = false) := (show _ → _ from fun h => all_stop (f := fun x : Bk => bkB kd x.b3) hlt h)
            have HBq := HB.out l[q]
            have HBq : Hid (∀ w, Calls Tryd.prog 63 #[.int .i64 kd, bkV l[q]] w fun e w' => e = .returned (.bool (bkB kd l[q].b3)) ∧ Below w.heap.size w w') := HBq
            have HBl : Hid (Below V.heap.size V wr) := hbel
            clear hc hBs hw HP hbel
            generalize bkB kd l[q].b3 = R at *
            generalize l[q] = X at *
            go_wp2_with fail
            refine (HBq.out _).mono ?_
            rintro e w2 ⟨rfl, g2⟩
            have hb2 : Below V.heap.size V w2 := btr (btr HBl.out (by go_grown) (by have := HBl.out.size; omega)) g2 (by have := HBl.out.size; simp <;> omega)
            obtain ⟨_, _, _, hw2, _⟩ := HT.out _ hb2
            clear g2
            cases R with
            | false =>
              have HF : Hid ((l.all fun x => bkB kd x.b3) = false) := HS.out rfl
              go_wp2_with fail
              go_ret
              exact ⟨by rw [HF.out]; rfl, hw2⟩
            | true =>
              have HN' : Hid (∀ i (hi : i < l.length), i < q + 1 → bkB kd l[i].b3 = true) := HN.out rfl
              go_wp2_with fail
              go_roundw
              case rel => exact ⟨q + 1, by omega, by go_num, HN', hb2⟩
              case measure => simp [intOf]; omega
          · have e : q = l.length := by omega
            subst e
            have HE : Hid ((l.all fun x => bkB kd x.b3) = true) := all_end (f := fun x : Bk => bkB kd x.b3) HP.out
            clear HP
            go_wp2_with fail
            go_ret
            exact ⟨by rw [HE.out]; rfl, hw⟩
set_option maxRecDepth 20000 in
set_option maxHeartbeats 8000000 in
theorem rightActions_any (g : Gr) (w : World) (hT : Bs w g.a g.l) (hn : Sm g.l) (hd : Cd w) : Calls Tryd.prog 50 #[gV g] w fun e w' => e = .returned (.bool (actsB (g.l.map Bk.b3))) ∧ Below w.heap.size w w' := by
  obtain ⟨id, kd, ga, l, gc⟩ := g
  simp only at hT hn
  have HN1 : Hid (l.length ≤ 100) := hn.n
  have HN2 : Hid (∀ b ∈ l, b.l.length ≤ 100) := hn.a
  obtain ⟨V, hV⟩ : ∃ V, w.alloc (.cells #[.int .i64 id, .int .i64 kd, .slice ga l.length gc] 33) = V := ⟨_, rfl⟩
  have GV : Below w.heap.size w V := by rw [← hV]; go_grown
  have zV : V.heap.size = w.heap.size + 1 := by rw [← hV]; simp
  have cV : Cg V w.heap.size 0 ⟨id, kd, ga, l, gc⟩ := by rw [← hV]; exact Cg.new w ⟨id, kd, ga, l, gc⟩
  have TV : Bs V ga l := hT.below GV
  have dV : Cd V := hd.below GV
  have HV : Hid (w.alloc (.cells #[.int .i64 id, .int .i64 kd, .slice ga l.length gc] 33) = V) := hV
  have HT : Hid (∀ w', Below V.heap.size V w' → Bs w' ga l ∧ Cd w' ∧ w'.cell? ⟨w.heap.size, 2, none⟩ = some (.slice ga l.length gc) ∧ Below w.heap.size w w' ∧ w.heap.size < w'.heap.size) := (show ∀ w', _ from fun w' h => ⟨TV.below h, dV.below h, (cV.below (by omega) h).2.2, btr GV h (by omega), by have := h.size; omega⟩)
  have HA : Hid (∀ (a : A) w, Cd w → Calls Tryd.prog 64 #[tV a] w fun e w' => e = .returned (.bool (rightB a)) ∧ Below w.heap.size w w') := (show ∀ (a : A) w, _ from fun a w h => right_any a w h)
  have hR : actsB (l.map Bk.b3) = (l.all fun x => allB x.l) := by unfold actsB; rw [map_all]; rfl
  show Calls Tryd.prog 50 #[.agg #[.int .i64 id, .int .i64 kd, .slice ga l.length gc]] w fun e w' => e = .returned (.bool (actsB (l.map Bk.b3))) ∧ Below w.heap.size w w'
  rw [hR]
  have c2 : V.cell? ⟨w.heap.size, 2, none⟩ = some (.slice ga l.length gc) := cV.2.2
  clear hR hT TV cV GV zV hV dV hd hn
  go_enter Tryd.func50, Tryd.ntmps50
  go_wp2_with fail
  rw [HV.out]
  clear c2 HV
  go_loopw [10] (fun v wr => ∃ q : Nat, q ≤ l.length ∧ v = .int .i64 q ∧ Hid (∀ i (hi : i < l.length), i < q → allB l[i].l = true) ∧ Below V.heap.size V wr) (fun v _ => l.length - (intOf v).toNat)
  case atStart => exact ⟨0, Nat.zero_le _, rfl, (show ∀ i (hi : i < l.length), _ from fun i _ h => by omega), Below.refl _ _⟩
  case round =>
    obtain ⟨q, hq, rfl, HP, hbel⟩ := hrel
    have hn1 := HN1.out
    obtain ⟨hBs, hCd, c2, hw, zr⟩ := HT.out _ hbel
    by_cases hlt : q < l.length
    · obtain ⟨b, o, rfl, hb, hc⟩ := hBs.at hlt
      obtain ⟨d0, d1, d2⟩ := hc q hlt
      have hTs := hBs.1 l[q] (List.getElem_mem hlt)
      have hn2 := HN2.out l[q] (List.getElem_mem hlt)
      have HN : Hid (allB l[q].l = true → ∀ i (hi : i < l.length), i < q + 1 → allB l[i].l = true) := (show _ → _ from fun h => all_step (f := fun x : Bk => allB x.l) hlt HP.out h)
      have HS : Hid (allB l[q].l = false → (l.all fun x => allB x.l) = false) := (show _ → _ from fun h => all_stop (f := fun x : Bk => allB x.l) hlt h)
      have HTs : Hid (∀ w', Below wr.heap.size wr w' → Ts w' l[q].a l[q].l ∧ Below V.heap.size V w') := (show ∀ w', _ from fun w' h => ⟨hTs.below h, btr hbel h (by have := hbel.size; omega)⟩)
      clear hc hBs hw HP hTs hCd
      generalize l[q] = X at *
      obtain ⟨wa, we, xa, xl, xc⟩ := X
      simp only at d0 d1 d2 hn2 HN HS HTs
      obtain ⟨U, hU⟩ : ∃ U, wr.alloc (.cells #[.int .i64 wa, .int .i64 we, .slice xa xl.length xc] 51) = U := ⟨_, rfl⟩
      have gU : Below wr.heap.size wr U := by rw [← hU]; go_grown
      have zU : U.heap.size = wr.heap.size + 1 := by rw [← hU]; simp
      have uc : U.cell? ⟨wr.heap.size, 2, none⟩ = some (.slice xa xl.length xc) := by rw [← hU]; simp
      have HU : Hid (∀ w', Below U.heap.size U w' → Ts w' xa xl ∧ Cd w' ∧ Below V.heap.size V w') := (show ∀ w', _ from fun w' h => ⟨(HTs.out w' (btr gU h (by omega))).1, (HT.out w' (HTs.out w' (btr gU h (by omega))).2).2.1, (HTs.out w' (btr gU h (by omega))).2⟩)
      have HAl : Hid (allB xl = xl.all rightB) := (show _ = _ from rfl)
      clear HTs gU hbel
      go_wp2_with fail
      clear uc hU
      go_loopw [17] (fun v wr => ∃ j : Nat, j ≤ xl.length ∧ v = .int .i64 j ∧ Hid (∀ i (hi : i < xl.length), i < j → rightB xl[i] = true) ∧ Below U.heap.size U wr) (fun v _ => xl.length - (intOf v).toNat)
      case atStart => exact ⟨0, Nat.zero_le _, rfl, (show ∀ i (hi : i < xl.length), _ from fun i _ h => by omega), Below.refl _ _⟩
      case round =>
        obtain ⟨j, hj, rfl, HPj, hbj⟩ := hrel
        by_cases hjt : j < xl.length
        · obtain ⟨hTs, hCd, hbV⟩ := HU.out _ hbj
          obtain ⟨b2, o2, rfl, hb2, hc2⟩ := hTs.at hjt
          obtain ⟨e0, e1, e2⟩ := hc2 j hjt
          have HNj : Hid (rightB xl[j] = true → ∀ i (hi : i < xl.length), i < j + 1 → rightB xl[i] = true) := (show _ → _ from fun h => all_step (f := rightB) hjt HPj.out h)
          have HSj : Hid (rightB xl[j] = false → (l.all fun x => allB x.l) = false) := (show _ → _ from fun h => HS.out (by rw [HAl.out]; exact all_stop (f := rightB) hjt h))
          have HAj : Hid (∀ w, Cd w → Calls Tryd.prog 64 #[tV xl[j]] w fun e w' => e = .returned (.bool (rightB xl[j])) ∧ Below w.heap.size w w') := HA.out xl[j]
          have HCd : Hid (∀ o : Obj, Cd (‹World›.alloc o)) := (show ∀ o : Obj, _ from fun o => hCd.alloc o)
          have HBj : Hid (Below U.heap.size U ‹World›) := hbj
          clear hc2 hTs HPj hbj hbV hCd
          generalize rightB xl[j] = R at *
          generalize xl[j] = Y at *
          go_wp2_with fail
          refine (HAj.out _ (HCd.out _)).mono ?_
          rintro e w2 ⟨rfl, g2⟩
          have hb3 : Below U.heap.size U w2 := btr (btr HBj.out (by go_grown) (by have := HBj.out.size; omega)) g2 (by have := HBj.out.size; simp <;> omega)
          have hw2 := (HT.out _ (HU.out _ hb3).2.2).2.2.2.1
          clear g2
          cases R with
          | false =>
            have HF : Hid ((l.all fun x => allB x.l) = false) := HSj.out rfl
            go_wp2_with fail
            go_ret
            exact ⟨by rw [HF.out]; rfl, hw2⟩
          | true =>
            have HN' : Hid (∀ i (hi : i < xl.length), i < j + 1 → rightB xl[i] = true) := HNj.out rfl
            go_wp2_with fail
            go_roundw
            case rel => exact ⟨j + 1, by omega, by go_num, HN', hb3⟩
            case measure => simp [intOf]; omega
        · have e : j = xl.length := by omega
          subst e
          have HN' : Hid (∀ i (hi : i < l.length), i < q + 1 → allB l[i].l = true) := HN.out (by rw [HAl.out]; exact all_end (f := rightB) HPj.out)
          have hbV := (HU.out _ hbj).2.2
          clear HPj hbj
          go_wp2_with fail
          go_roundw
          case rel => exact ⟨q + 1, by omega, by go_num, HN', hbV⟩
          case measure => simp [intOf]; omega
    · have e : q = l.length := by omega
      subst e
      have HE : Hid ((l.all fun x => allB x.l) = true) := all_end (f := fun x : Bk => allB x.l) HP.out
      clear HP
      go_wp2_with fail
      go_ret
      exact ⟨by rw [HE.out]; rfl, hw⟩
set_option maxRecDepth 20000 in
set_option maxHeartbeats 8000000 in
theorem right_g (g : Gr) (w : World) (hT : Bs w g.a g.l) (hn : Sm g.l) (hd : Cd w) : Calls Tryd.prog 28 #[gV g] w fun e w' => e = .returned (.int .i64 (rightE g.p)) ∧ Below w.heap.size w w' := by
  have HF : Hid (∀ w1, Below w.heap.size w w1 → Calls Tryd.prog 49 #[gV g] w1 fun e w' => e = .returned (.bool (formB g.id g.kd (g.l.map Bk.b3))) ∧ Below w1.heap.size w1 w') := (show ∀ w1, _ from fun w1 h => rightForm_any g w1 (hT.below h) hn.n)
  have HA : Hid (∀ w1, Below w.heap.size w w1 → Calls Tryd.prog 50 #[gV g] w1 fun e w' => e = .returned (.bool (actsB (g.l.map Bk.b3))) ∧ Below w1.heap.size w1 w') := (show ∀ w1, _ from fun w1 h => rightActions_any g w1 (hT.below h) hn (hd.below h))
  have hR : rightE g.p = if formB g.id g.kd (g.l.map Bk.b3) = true then (if actsB (g.l.map Bk.b3) = true then 0 else 22) else 24 := rfl
  rw [hR]
  have hc := Cg.new w g
  obtain ⟨V, hV⟩ : ∃ V, gx w g = V := ⟨_, rfl⟩
  have GV : Below w.heap.size w V := by rw [← hV]; go_grown
  have zV : w.heap.size < V.heap.size := by rw [← hV]; simp
  rw [hV] at hc
  have HC : Hid (∀ w', Below V.heap.size V w' → Cg w' w.heap.size 0 g ∧ Below w.heap.size w w') := (show ∀ w', _ from fun w' h => ⟨hc.below zV h, btr GV h (by omega)⟩)
  have HV : Hid (w.alloc (.cells #[.int .i64 g.id, .int .i64 g.kd, .slice g.a g.l.length g.c] 33) = V) := hV
  obtain ⟨c0, c1, c2⟩ := hc
  rw [Nat.zero_add] at c1 c2
  clear hR hT hn hd hV
  generalize formB g.id g.kd (g.l.map Bk.b3) = F at *
  generalize actsB (g.l.map Bk.b3) = B at *
  cases F with
  | false =>
    go_enter Tryd.func28, Tryd.ntmps28
    go_wp2_with fail
    rw [HV.out]
    refine (HF.out V GV).mono ?_
    rintro e w1 ⟨rfl, g1⟩
    go_wp2_with fail
    go_ret
    exact ⟨rfl, (HC.out _ g1).2⟩
  | true =>
    cases B with
    | false =>
      go_enter Tryd.func28, Tryd.ntmps28
      go_wp2_with fail
      rw [HV.out]
      refine (HF.out V GV).mono ?_
      rintro e w1 ⟨rfl, g1⟩
      obtain ⟨⟨k0, k1, k2⟩, G1⟩ := HC.out _ g1
      rw [Nat.zero_add] at k1 k2
      go_wp2_with fail
      refine (HA.out w1 G1).mono ?_
      rintro e w2 ⟨rfl, g2⟩
      go_wp2_with fail
      go_ret
      exact ⟨rfl, btr G1 g2 (Nat.le_refl _)⟩
    | true =>
      go_enter Tryd.func28, Tryd.ntmps28
      go_wp2_with fail
      rw [HV.out]
      refine (HF.out V GV).mono ?_
      rintro e w1 ⟨rfl, g1⟩
      obtain ⟨⟨k0, k1, k2⟩, G1⟩ := HC.out _ g1
      rw [Nat.zero_add] at k1 k2
      go_wp2_with fail
      refine (HA.out w1 G1).mono ?_
      rintro e w2 ⟨rfl, g2⟩
      go_wp2_with fail
      go_ret
      exact ⟨rfl, btr G1 g2 (Nat.le_refl _)⟩
end Go.Proofs.YteodlkgbakkjmaaDoor

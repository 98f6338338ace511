/-
  The law TableOnce answers true.
-/
import Derived.Test.YtjjfhibkcngphaaDoorFLaw
namespace Go.Proofs.YtjjfhibkcngphaaDoor
open Go.ChangeShapes Go.WideShapes Go.ChangeAt Go.RowKit
set_option linter.unusedVariables false
set_option linter.unusedSimpArgs false

theorem op_gr {W : World} {b : Nat} {o : Opn} (h : W.rangeAt b 0 (opC o).toList) (hb : b < W.heap.size) : (∀ n : GrT W, n.w.cell? ⟨b, 0, none⟩ = some (.int .i64 o.ask)) ∧ (∀ n : GrT W, n.w.cell? ⟨b, 1, none⟩ = some (.int .i64 o.x.p.tab)) ∧ (∀ n : GrT W, n.w.cell? ⟨b, 2, none⟩ = some (.int .i64 o.x.p.pri)) ∧ (∀ n : GrT W, n.w.cell? ⟨b, 3, none⟩ = some (.slice o.x.ta o.x.p.lt.length o.x.tc)) ∧ (∀ n : GrT W, n.w.cell? ⟨b, 4, none⟩ = some (.slice o.x.aa o.x.p.la.length o.x.ca)) ∧ (∀ n : GrT W, n.w.cell? ⟨b, 5, none⟩ = some (.slice o.x.aw o.x.p.lw.length o.x.cw)) ∧ (∀ n : GrT W, n.w.cell? ⟨b, 6, none⟩ = some (.bool o.x.p.clr)) ∧ (∀ n : GrT W, n.w.cell? ⟨b, 7, none⟩ = some (.int .u64 o.x.p.mt)) ∧ (∀ n : GrT W, n.w.cell? ⟨b, 8, none⟩ = some (.int .u64 o.x.p.mm)) ∧ (∀ n : GrT W, n.w.cell? ⟨b, 9, none⟩ = some (.int .i64 o.x.p.met)) ∧ (∀ n : GrT W, n.w.cell? ⟨b, 10, none⟩ = some (.int .i64 o.x.p.go)) ∧ (∀ n : GrT W, n.w.cell? ⟨b, 11, none⟩ = some (.bool o.hard)) := by
  have k : ∀ (n : GrT W) (j : Nat) (v : Value), (opC o).toList[j]? = some v → n.w.cell? ⟨b, j, none⟩ = some v := fun n j v hv => by
    have h1 := h j v hv
    rw [Nat.zero_add] at h1
    exact (n.h.cell (p := ⟨b, j, none⟩) hb).trans h1
  exact ⟨fun n => k n 0 _ rfl, fun n => k n 1 _ rfl, fun n => k n 2 _ rfl, fun n => k n 3 _ rfl, fun n => k n 4 _ rfl, fun n => k n 5 _ rfl, fun n => k n 6 _ rfl, fun n => k n 7 _ rfl, fun n => k n 8 _ rfl, fun n => k n 9 _ rfl, fun n => k n 10 _ rfl, fun n => k n 11 _ rfl⟩
theorem cnt_le (l : List Fp) (x : Fp) (k : Nat) : cntT (l.take k) x ≤ k := by
  unfold cntT
  exact Nat.le_trans (List.length_filter_le _ _) (List.length_take_le _ _)
set_option maxRecDepth 20000 in
set_option maxHeartbeats 16000000 in
theorem once_walk (room : Int) (a : Option Addr) (l : List Opn) (cap : Nat) (w : World) (hr : -9223372036854775808 ≤ room ∧ room < 9223372036854775808) (ht : OpAt w a l) (hu : ∀ y ∈ l, FIn w y.x) (hn : l.length ≤ maxLen) (hc : l.length ≤ cap) (hd : Cd w) :
    Calls Tryd.prog 4 #[.int .i64 room, .slice a l.length cap] w fun e w' => e = .returned (.bool true) ∧ Below w.heap.size w w' := by
  unfold maxLen at hn
  have HD : Hid (Cd w) := hd
  have HE : Hid (OpAt w a l) := ht
  have HU : Hid (∀ y ∈ l, FIn w y.x) := hu
  have HA : Hid (∀ w1, Below w.heap.size w w1 → Calls Tryd.prog 8 #[] w1 fun e w' => e = .returned (.bool true) ∧ Below w1.heap.size w1 w') := (show ∀ w1, _ from fun w1 g => awake_any w1 (HD.out.below g))
  clear ht hu
  by_cases hro : room < 1 ∨ 256 < room
  · have HN : Hid (Calls Tryd.prog 7 #[.int .i64 room] w fun e w' => e = .returned (.tuple #[.pointer none, .int .i64 1]) ∧ w' = w) := new_no room w hro
    have hro2 : room < 1 ∨ (¬ room < 1 ∧ 256 < room) := by omega
    clear hd hro
    rcases hro2 with h1 | ⟨h1, h2⟩
    all_goals
      go_enter Tryd.func4, Tryd.ntmps4
      go_wp2_with fail
      refine HN.out.mono ?_
      rintro e w1 ⟨rfl, hw1⟩
      obtain rfl : w = w1 := hw1.symm
      go_wp2_with fail
      refine (HA.out w (Below.refl _ _)).mono ?_
      rintro e w3 ⟨rfl, g3⟩
      go_wp2_with fail
      go_ret
      exact ⟨rfl, g3⟩
  have hr1 : 1 ≤ room := by omega
  have hr2 : room ≤ 256 := by omega
  clear hro
  have HN : Hid (Calls Tryd.prog 7 #[.int .i64 room] w fun e w' => e = .returned (.tuple #[.pointer (some ⟨w.heap.size, 0, none⟩), .int .i64 0]) ∧ Fs w' w.heap.size (fun b => b = w.heap.size) room (fun _ => []) ∧ Below w.heap.size w w') := new_yes room w hr1 hr2 hd
  clear hd
  go_enter Tryd.func4, Tryd.ntmps4
  go_wp2_with fail
  refine HN.out.mono ?_
  rintro e w1 ⟨rfl, hf1, g1⟩
  have HL1 : Hid (LI w w1 w.heap.size (fun b => b = w.heap.size) room (fun _ => [])) := (show LI _ _ _ _ _ _ from ⟨hf1, fun b hb => by rw [hb]; exact Nat.le_refl _, g1⟩)
  clear hf1 g1
  go_wp2_with fail
  go_loopw [7, 8, 9, 10, 11, 12] (fun i _ _ _ _ _ wr => ∃ (k : Nat) (S : Nat → Prop) (P : Nat → List Fp), k ≤ l.length ∧ k ≤ 40 ∧ i = .int .i64 k ∧ Hid (LI w wr w.heap.size S room P ∧ (∀ t, KI (P t)))) (fun i _ _ _ _ _ _ => l.length - (intOf i).toNat)
  case atStart => exact ⟨0, _, _, Nat.zero_le _, by omega, rfl, (show _ ∧ _ from ⟨HL1.out, fun _ => KI.nil⟩)⟩
  case round =>
    obtain ⟨k, S, P, hk, hk40, rfl, HI⟩ := hrel
    by_cases hgo : k < l.length ∧ k < 40
    · obtain ⟨hlt, h40⟩ := hgo
      obtain ⟨g, o, rfl, hg, hB⟩ := HE.out.at hlt
      have HR : Hid (wr.rangeAt g (o + k * 12) (opC l[k]).toList) := range_block hB (HI.out.1.bl.block g (by omega))
      have HX := HU.out l[k] (List.getElem_mem _)
      have h40i : (k : Int) < 40 := by omega
      clear hB
      generalize hO : l[k] = O at *
      clear hO
      go_wp2_with (first
        | (refine load_O rfl (.tmp 49) rfl g (o + k * 12) O (by simp [Act.eval, Act.put]) HR.out ?_)
        | (refine store_O rfl (.tmp 8) (.tmp 50) rfl wr.heap.size 0 O rfl rfl (there_new wr zeroO 40) ?_; intro V bV oV; have HRV : Hid (V.rangeAt wr.heap.size 0 (opC O).toList) := bV; have HGV : Hid (Below wr.heap.size wr V) := oV.below (Nat.le_refl _) (show Below wr.heap.size wr (wr.alloc (.cells zeroO 40)) by go_grown); have zV : V.heap.size = wr.heap.size + 1 := (by rw [oV.size]; simp); clear bV oV)
        | (refine load_E rfl (.tmp 51) rfl wr.heap.size 1 O.x rfl (by have := op_be HRV.out; rwa [Nat.zero_add] at this) ?_))
      refine (few_any O.x V HX.nt HX.na HX.nw).mono ?_
      rintro e w2 ⟨rfl, g2⟩
      have HL2 : Hid (LI w w2 w.heap.size S room P) := HI.out.1.below (btr HGV.out g2 (Nat.le_refl _))
      have HR2 : Hid (w2.rangeAt wr.heap.size 0 (opC O).toList) := range_block HRV.out (g2.block _ (by omega))
      have HXh : Hid (FIn w O.x) := HX
      have z2 := g2.size
      clear g2 HX
      cases hf : fewB O.x.p with
      | false =>
        go_wp2_with fail
        refine (HA.out w2 HL2.out.bl).mono ?_
        rintro e w3 ⟨rfl, g3⟩
        have HG3 : Hid (Below w.heap.size w w3) := btr HL2.out.bl g3 (Nat.le_refl _)
        clear g3
        go_wp2_with fail
        go_ret
        exact ⟨rfl, HG3.out⟩
      | true =>
        have HNS : Hid (∀ b, S b → b ≠ wr.heap.size) := (show ∀ b, _ from fun b hb => by have := HI.out.1.fs.lt b hb; omega)
        go_wp2_with (refine load_O rfl (.tmp 8) rfl wr.heap.size 0 O rfl HR2.out ?_)
        refine (do_any w.heap.size S room P O w2 HL2.out.fs ((HXh.out.fw hf).below HL2.out.bl) (fun b hb hs => by have := HL2.out.sb b hs; have := HXh.out.lt hb; omega) (HD.out.below HL2.out.bl)).mono ?_
        rintro e w3 ⟨rfl, S3, hf3, hk3, hs3⟩
        have HI3 : Hid (LI w w3 w.heap.size S3 room (doP room P O.ask O.x.p O.hard) ∧ (∀ t, KI (doP room P O.ask O.x.p O.hard t))) := (show _ ∧ _ from ⟨HL2.out.kept hk3 hf3 hs3, KI.do_ HI.out.2 _ HXh.out.vt _⟩)
        have HR3 : Hid (w3.rangeAt wr.heap.size 0 (opC O).toList) := range_block HR2.out (hk3.block _ (by omega) (fun h => HNS.out _ h rfl))
        have z3 := hk3.size
        clear hf3 hk3 hs3
        obtain ⟨R, hR⟩ : ∃ R, R = doR room P O.ask O.x.p O.hard := ⟨_, rfl⟩
        rw [← hR]
        have HRr : Hid (R = doR room P O.ask O.x.p O.hard) := hR
        clear hR
        have c1 : w3.cell? ⟨wr.heap.size, 1, none⟩ = some (.int .i64 O.x.p.tab) := by have := HR3.out 1 _ rfl; rwa [Nat.zero_add] at this
        go_wp2_with fail
        refine (list_any w.heap.size S3 room _ O.x.p.tab _ HI3.out.1.fs).mono ?_
        rintro e U ⟨v, m, rfl, hm, hmp, gU⟩
        obtain ⟨am, cm, hv, hform⟩ := OwnE.form2 hm.own
        subst hv
        have HM : Hid (Made w3.heap.size U (.slice am m.length cm) m ∧ m.map Fe.p = tabOf (doP room P O.ask O.x.p O.hard) O.x.p.tab ∧ (am = none ∧ m = [] ∧ cm = 0 ∨ ∃ g, am = some ⟨g, 0, none⟩ ∧ w3.heap.size ≤ g ∧ g < U.heap.size ∧ m.length ≤ cm ∧ cm ≤ maxLen)) := (show _ ∧ _ from ⟨hm, hmp, hform⟩)
        have HKm : Hid (KI (m.map Fe.p)) := (show KI _ by rw [hmp]; exact KI.tab HI3.out.2 _)
        have HLU : Hid (LI w U w.heap.size S3 room (doP room P O.ask O.x.p O.hard)) := HI3.out.1.below gU
        have HRU : Hid (U.rangeAt wr.heap.size 0 (opC O).toList) := range_block HR3.out (gU.block _ (by omega))
        have hml : m.length ≤ 256 := by
          have h1 := HI3.out.1.len O.x.p.tab
          rw [← hmp, List.length_map] at h1
          omega
        have zU := gU.size
        -- what is added is there, and is alone; what is deleted is not there
        have HAdd : Hid (O.ask = 0 → R = 0 → (∀ y ∈ m, twinB y.p O.x.p = true → y.p = O.x.p) ∧ cntT (m.map Fe.p) O.x.p = 1) := (show _ → _ → _ from fun h0 hR0 => by
          have hK := HKm.out
          have e1 : addR room P O.x.p O.hard = 0 := by
            have := HRr.out
            unfold doR at this
            rw [if_pos h0] at this
            omega
          have hmem : O.x.p ∈ m.map Fe.p := by
            rw [HM.out.2.1]
            unfold doP
            rw [if_pos h0]
            exact tab_addT e1
          refine ⟨fun y hy ht => hK.same hmem (List.mem_map.2 ⟨y, hy, rfl⟩) (twin_iff.1 ht), ?_⟩
          have := hK.cnt O.x.p
          have := cnt_pos hmem
          omega)
        have HDel : Hid (O.ask ≠ 0 → O.ask ≠ 1 → R = 0 → cntT (m.map Fe.p) O.x.p = 0) := (show _ → _ → _ → _ from fun h0 h1 hR0 => by
          have e1 : wrongE O.x.p = 0 := by
            have := HRr.out
            unfold doR at this
            rw [if_neg h0] at this
            omega
          rw [HM.out.2.1]
          unfold doP
          rw [if_neg h0, if_neg h1]
          exact tab_delP e1 HXh.out.vt)
        have HXW : Hid (FW U O.x) := ((HXh.out.fw hf).below HI3.out.1.bl).below gU
        clear hm hmp hform gU c1
        go_wp2_with fail
        go_loopw [11, 12] (fun fnd i wr' => ∃ q : Nat, q ≤ m.length ∧ fnd = .int .i64 (cntT ((m.map Fe.p).take q) O.x.p : Nat) ∧ i = .int .i64 q ∧ Below U.heap.size U wr') (fun _ i _ => m.length - (intOf i).toNat)
        case atStart => exact ⟨0, Nat.zero_le _, by simp [cntT], rfl, Below.refl _ _⟩
        case round =>
          obtain ⟨q, hq1, rfl, rfl, hG5⟩ := hrel
          have HG5 : Hid (Below U.heap.size U wr) := hG5
          by_cases hqm : q < m.length
          · obtain ⟨gm, rfl, hg0, hgm, hcm, _⟩ : ∃ g, am = some ⟨g, 0, none⟩ ∧ _ ≤ g ∧ g < U.heap.size ∧ m.length ≤ cm ∧ cm ≤ maxLen := by
              rcases HM.out.2.2 with ⟨_, h, _⟩ | h
              · rw [h] at hqm; cases hqm
              · exact h
            have zr := hG5.size
            have HAw : Hid (FW wr m[q]) := (HM.out.1.fw _ (List.getElem_mem _)).below hG5
            have HXr : Hid (FW wr O.x) := HXW.out.below hG5
            have HAb : Hid (Be wr gm (q * 10) m[q]) := (OwnE.be rfl HM.out.1.own q hqm).below hgm hG5
            have HOb := range_block HRU.out (hG5.block _ (by omega))
            have HOh : Hid _ := HOb
            have HCs : Hid (cntT ((m.map Fe.p).take (q + 1)) O.x.p = cntT ((m.map Fe.p).take q) O.x.p + if twinB m[q].p O.x.p = true then 1 else 0) := (show _ = _ by
              have := cnt_snoc (l := m.map Fe.p) (x := O.x.p) (k := q) (by simpa using hqm)
              simpa using this)
            have hcb := cnt_le (m.map Fe.p) O.x.p q
            have HAd : Hid (O.ask = 0 → R = 0 → twinB m[q].p O.x.p = true → m[q].p = O.x.p) := (show _ → _ → _ → _ from fun h0 h1 h2 => (HAdd.out h0 h1).1 _ (List.getElem_mem _) h2)
            have hqz : (q : Int) < (m.length : Int) := by omega
            generalize cntT ((m.map Fe.p).take q) O.x.p = C at *
            generalize m[q] = A at *
            obtain ⟨a0, a1, a2, a3, a4, a5, a6, a7, a8, a9⟩ := be_gr HAb.out (by omega)
            obtain ⟨o0, o1, o2, o3, o4, o5, o6, o7, o8, o9, o10, o11⟩ := op_gr HOb (by omega)
            have HSm : Hid (∀ w1, Below wr.heap.size wr w1 → Calls Tryd.prog 16 #[.slice A.ta A.p.lt.length A.tc, .slice O.x.ta O.x.p.lt.length O.x.tc] w1 fun e w' => e = .returned (.bool (Mt.sameB A.p.lt O.x.p.lt)) ∧ Below w1.heap.size w1 w') := (show ∀ w1, _ from fun w1 g => Mt.rsame_any _ _ _ _ _ _ w1 (HAw.out.below g).t (by have := HAw.out.nt; omega) (HXr.out.below g).t (by have := HXr.out.nt; omega))
            have htw : twinB A.p O.x.p = ((A.p.pri == O.x.p.pri) && Mt.sameB A.p.lt O.x.p.lt) := rfl
            clear hG5 HOb
            cases pe : (A.p.pri == O.x.p.pri) with
            | false =>
              rw [pe, Bool.false_and] at htw
              have HC2 : Hid (Value.int .i64 (C : Int) = .int .i64 ((cntT ((m.map Fe.p).take (q + 1)) O.x.p : Nat) : Int)) := (show _ = _ by rw [HCs.out, if_neg (by rw [htw]; decide), Nat.add_zero])
              clear htw
              go_wp2_with fail
              refine wp_region_grow (by kernel_rfl) (by kernel_rfl) ?_
              repeat (go_big_quiet_step (first | (go_at_call 16; exact quiet_gr (HSm.out _ (GrT.h _)))))
              refine wpQuiet_nil ?_
              rintro w7 hw'
              have g7 := gr_elim hw'
              clear hw'
              have HG9 : Hid (Below U.heap.size U w7) := btr HG5.out g7 (Nat.le_refl _)
              clear g7 a0 a1 a2 a3 a4 a5 a6 a7 a8 a9 o0 o1 o2 o3 o4 o5 o6 o7 o8 o9 o10 o11
              go_wp2_with fail
              go_roundw
              case rel => exact ⟨q + 1, by omega, HC2.out, by go_num, HG9.out⟩
              case measure => simp [intOf]; omega
            | true =>
              rw [pe, Bool.true_and] at htw
              cases sm : Mt.sameB A.p.lt O.x.p.lt with
              | false =>
                rw [sm] at htw HSm
                clear sm
                have HC2 : Hid (Value.int .i64 (C : Int) = .int .i64 ((cntT ((m.map Fe.p).take (q + 1)) O.x.p : Nat) : Int)) := (show _ = _ by rw [HCs.out, if_neg (by rw [htw]; decide), Nat.add_zero])
                clear htw
                go_wp2_with fail
                refine wp_region_grow (by kernel_rfl) (by kernel_rfl) ?_
                repeat (go_big_quiet_step (first | (go_at_call 16; exact quiet_gr (HSm.out _ (GrT.h _)))))
                refine wpQuiet_nil ?_
                rintro w7 hw'
                have g7 := gr_elim hw'
                clear hw'
                have HG9 : Hid (Below U.heap.size U w7) := btr HG5.out g7 (Nat.le_refl _)
                clear g7 a0 a1 a2 a3 a4 a5 a6 a7 a8 a9 o0 o1 o2 o3 o4 o5 o6 o7 o8 o9 o10 o11
                go_wp2_with fail
                go_roundw
                case rel => exact ⟨q + 1, by omega, HC2.out, by go_num, HG9.out⟩
                case measure => simp [intOf]; omega
              | true =>
                rw [sm] at htw HSm
                clear sm
                have HTw : Hid (twinB A.p O.x.p = true) := htw
                have HC2 : Hid (Value.int .i64 ((C : Int) + 1) = .int .i64 ((cntT ((m.map Fe.p).take (q + 1)) O.x.p : Nat) : Int)) := (show _ = _ by rw [HCs.out, if_pos htw]; rfl)
                clear htw
                go_wp2_with fail
                refine wp_region_grow (by kernel_rfl) (by kernel_rfl) ?_
                repeat (go_big_quiet_step (first | (go_at_call 16; exact quiet_gr (HSm.out _ (GrT.h _)))))
                refine wpQuiet_nil ?_
                rintro w7 hw'
                have g7 := gr_elim hw'
                clear hw'
                have HG8 : Hid (Below U.heap.size U w7) := btr HG5.out g7 (Nat.le_refl _)
                have HAb7 := HAb.out.below (by omega) g7
                have HOb7 := range_block HOh.out (g7.block _ (by omega))
                have z7 := g7.size
                have HAw7 : Hid (FW w7 A) := HAw.out.below g7
                have HXw7 : Hid (FW w7 O.x) := HXr.out.below g7
                clear g7 a0 a1 a2 a3 a4 a5 a6 a7 a8 a9 o0 o1 o2 o3 o4 o5 o6 o7 o8 o9 o10 o11
                obtain ⟨a0, a1, a2, a3, a4, a5, a6, a7, a8, a9⟩ := be_gr HAb7 (by omega)
                obtain ⟨o0, o1, o2, o3, o4, o5, o6, o7, o8, o9, o10, o11⟩ := op_gr HOb7 (by omega)
                clear HAb7 HOb7
                have hc1 : (C : Int) ≤ 1000 := by omega
                cases k0 : (O.ask == 0) with
                | false =>
                  go_wp2_with fail
                  refine wp_region_grow (by kernel_rfl) (by kernel_rfl) ?_
                  repeat (go_big_quiet_step (first | fail))
                  refine wpQuiet_nil ?_
                  rintro w9 hw'
                  have g9 := gr_elim hw'
                  clear hw'
                  have HG9 : Hid (Below U.heap.size U w9) := btr HG8.out g9 (Nat.le_refl _)
                  clear g9 a0 a1 a2 a3 a4 a5 a6 a7 a8 a9 o0 o1 o2 o3 o4 o5 o6 o7 o8 o9 o10 o11
                  go_wp2_with fail
                  go_roundw
                  case rel => exact ⟨q + 1, by omega, HC2.out, by go_num, HG9.out⟩
                  case measure => simp [intOf]; omega
                | true =>
                  cases r0 : (R == 0) with
                  | false =>
                    go_wp2_with fail
                    refine wp_region_grow (by kernel_rfl) (by kernel_rfl) ?_
                    repeat (go_big_quiet_step (first | fail))
                    refine wpQuiet_nil ?_
                    rintro w9 hw'
                    have g9 := gr_elim hw'
                    clear hw'
                    have HG9 : Hid (Below U.heap.size U w9) := btr HG8.out g9 (Nat.le_refl _)
                    clear g9 a0 a1 a2 a3 a4 a5 a6 a7 a8 a9 o0 o1 o2 o3 o4 o5 o6 o7 o8 o9 o10 o11
                    go_wp2_with fail
                    go_roundw
                    case rel => exact ⟨q + 1, by omega, HC2.out, by go_num, HG9.out⟩
                    case measure => simp [intOf]; omega
                  | true =>
                    have HSe : Hid (∀ w1, Below w7.heap.size w7 w1 → Calls Tryd.prog 15 #[feV A, feV O.x] w1 fun e w' => e = .returned (.bool true) ∧ Below w1.heap.size w1 w') := (show ∀ w1, _ from fun w1 g => sameE A O.x w1 (HAd.out (by simpa using k0) (by simpa using r0) HTw.out).symm (HAw7.out.below g) (HXw7.out.below g))
                    go_wp2_with fail
                    refine wp_region_grow (by kernel_rfl) (by kernel_rfl) ?_
                    repeat (go_big_quiet_step (first | (go_at_call 15; exact quiet_gr (HSe.out _ (GrT.h _)))))
                    refine wpQuiet_nil ?_
                    rintro w9 hw'
                    have g9 := gr_elim hw'
                    clear hw'
                    have HG9 : Hid (Below U.heap.size U w9) := btr HG8.out g9 (Nat.le_refl _)
                    clear g9 a0 a1 a2 a3 a4 a5 a6 a7 a8 a9 o0 o1 o2 o3 o4 o5 o6 o7 o8 o9 o10 o11
                    go_wp2_with fail
                    go_roundw
                    case rel => exact ⟨q + 1, by omega, HC2.out, by go_num, HG9.out⟩
                    case measure => simp [intOf]; omega
          · have hqe : q = m.length := by omega
            subst hqe
            have hfull : (m.map Fe.p).take m.length = m.map Fe.p := List.take_of_length_le (by simp)
            rw [hfull]
            have hC1 := HKm.out.cnt O.x.p
            have c0 : wr.cell? _ = some (.int .i64 O.ask) := (range_block HRU.out (hG5.block _ (by omega))) 0 _ rfl
            rw [Nat.zero_add] at c0
            have HLr : Hid (LI w wr w.heap.size S3 room (doP room P O.ask O.x.p O.hard)) := HLU.out.below hG5
            obtain ⟨C, hCe⟩ : ∃ C, C = cntT (m.map Fe.p) O.x.p := ⟨_, rfl⟩
            rw [← hCe] at hC1 ⊢
            have HAd2 : Hid (O.ask = 0 → R = 0 → C = 1) := (show _ → _ → _ from fun a b => by rw [hCe]; exact (HAdd.out a b).2)
            have HDe2 : Hid (O.ask ≠ 0 → O.ask ≠ 1 → R = 0 → C = 0) := (show _ → _ → _ → _ from fun a b c => by rw [hCe]; exact HDel.out a b c)
            clear hG5 hCe hfull
            have hb1 : decide ((1 : Int) < (C : Int)) = false := by rw [decide_eq_false_iff_not]; omega
            have hb1n : decide (1 < C) = false := by rw [decide_eq_false_iff_not]; omega
            cases k0 : (O.ask == 0) with
            | true =>
              have n0 : (O.ask != 0) = false := by simpa using k0
              cases r0 : (R == 0) with
              | true =>
                have hCv := HAd2.out (by simpa using k0) (by simpa using r0)
                subst hCv
                go_wp2_with fail
                go_roundw
                case rel => exact ⟨k + 1, S3, _, by omega, by omega, by go_num, (show _ ∧ _ from ⟨HLr.out, HI3.out.2⟩)⟩
                case measure => simp [intOf]; omega
              | false =>
                go_wp2_with fail
                go_roundw
                case rel => exact ⟨k + 1, S3, _, by omega, by omega, by go_num, (show _ ∧ _ from ⟨HLr.out, HI3.out.2⟩)⟩
                case measure => simp [intOf]; omega
            | false =>
              have n0 : (O.ask != 0) = true := by simpa using k0
              cases k1 : (O.ask != 1) with
              | false =>
                go_wp2_with fail
                go_roundw
                case rel => exact ⟨k + 1, S3, _, by omega, by omega, by go_num, (show _ ∧ _ from ⟨HLr.out, HI3.out.2⟩)⟩
                case measure => simp [intOf]; omega
              | true =>
                cases r0 : (R == 0) with
                | true =>
                  have hCv := HDe2.out (by simpa using k0) (by simpa using k1) (by simpa using r0)
                  subst hCv
                  go_wp2_with fail
                  go_roundw
                  case rel => exact ⟨k + 1, S3, _, by omega, by omega, by go_num, (show _ ∧ _ from ⟨HLr.out, HI3.out.2⟩)⟩
                  case measure => simp [intOf]; omega
                | false =>
                  go_wp2_with fail
                  go_roundw
                  case rel => exact ⟨k + 1, S3, _, by omega, by omega, by go_num, (show _ ∧ _ from ⟨HLr.out, HI3.out.2⟩)⟩
                  case measure => simp [intOf]; omega
    · have hgo' : (k < l.length ∧ ¬ k < 40) ∨ ¬ k < l.length := by omega
      clear hgo
      rcases hgo' with ⟨hlt, h40⟩ | hlt
      all_goals
        go_wp2_with fail
        refine (HA.out _ HI.out.1.bl).mono ?_
        rintro e w3 ⟨rfl, g3⟩
        have HG3 : Hid (Below w.heap.size w w3) := btr HI.out.1.bl g3 (Nat.le_refl _)
        clear g3
        go_wp2_with fail
        go_ret
        exact ⟨rfl, HG3.out⟩
end Go.Proofs.YtjjfhibkcngphaaDoor

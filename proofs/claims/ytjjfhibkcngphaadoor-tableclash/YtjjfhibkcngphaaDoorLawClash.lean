/-
  The law TableClash answers true.
-/
import Derived.Test.YtjjfhibkcngphaaDoorFLaw
namespace Go.Proofs.YtjjfhibkcngphaaDoor
open Go.ChangeShapes Go.WideShapes Go.ChangeAt Go.RowKit
set_option linter.unusedVariables false
set_option linter.unusedSimpArgs false

theorem FIn.below {w w' : World} {x : Fe} (h : FIn w x) (g : Below w.heap.size w w') : FIn w' x := ⟨h.t.below g, h.a.below g, h.w.below g, h.ct, h.nt, h.na, h.nw, h.vt, h.va, h.vw, h.m0, h.m1, h.i0, h.i1, h.i2, h.i3⟩
set_option maxRecDepth 20000 in
set_option maxHeartbeats 16000000 in
theorem clash_walk (a : Option Addr) (l : List Fe) (cap : Nat) (s : Mt.Sn) (w : World) (ht : EnAt w a l) (hu : ∀ y ∈ l, FIn w y) (hn : l.length ≤ maxLen) (hc : l.length ≤ cap) (hs : Mt.Wf s) (hd : Cd w) :
    Calls Tryd.prog 5 #[.slice a l.length cap, Mt.snV s] w fun e w' => e = .returned (.bool true) ∧ Below w.heap.size w w' := by
  unfold maxLen at hn
  obtain ⟨W, hW⟩ : ∃ W, Mt.bx w s = W := ⟨_, rfl⟩
  have zW : W.heap.size = w.heap.size + 1 := by rw [← hW]; simp
  have gW : Below w.heap.size w W := by rw [← hW]; go_grown
  have HS : Hid (W.rangeAt w.heap.size 0 (Mt.snC s).toList) := (show World.rangeAt _ _ _ _ by rw [← hW]; exact range_new w (Mt.snC s) 28)
  have HD : Hid (Cd W) := hd.below gW
  have HE : Hid (EnAt w a l) := ht
  have HU : Hid (∀ y ∈ l, FIn W y) := (show ∀ y ∈ l, _ from fun y hy => (hu y hy).below gW)
  have HN : Hid (Calls Tryd.prog 7 #[.int .i64 256] W fun e w' => e = .returned (.tuple #[.pointer (some ⟨w.heap.size + 1, 0, none⟩), .int .i64 0]) ∧ Fs w' (w.heap.size + 1) (fun b => b = w.heap.size + 1) 256 (fun _ => []) ∧ Below W.heap.size W w') := (show Calls _ _ _ _ _ from by
    have := new_yes 256 W (by decide) (by decide) (hd.below gW)
    rwa [zW] at this ⊢)
  have HA : Hid (∀ w1, Below W.heap.size W w1 → Calls Tryd.prog 8 #[] w1 fun e w' => e = .returned (.bool true) ∧ Below w1.heap.size w1 w') := (show ∀ w1, _ from fun w1 g => awake_any w1 (HD.out.below g))
  have HPl : Hid (∀ w1, Calls Tryd.prog 14 #[Mt.snV s] w1 fun e w' => e = .returned (Mt.snV s) ∧ Below w1.heap.size w1 w') := (show ∀ w1, _ from fun w1 => Mt.plain_any s w1)
  have HTk : Hid (∀ (x : Fe) w1, FW w1 x → Calls Tryd.prog 13 #[.slice x.ta x.p.lt.length x.tc, Mt.snV s] w1 fun e w' => e = .returned (.bool (Mt.takesB x.p.lt s)) ∧ Below w1.heap.size w1 w') := (show ∀ x w1, _ from fun x w1 h => Mt.rtakes_any _ _ _ s w1 h.t (by have := h.nt; omega) hs)
  have HGW : Hid (Below w.heap.size w W) := gW
  clear ht hu hs hd gW
  go_enter Tryd.func5, Tryd.ntmps5
  go_wp2_with fail
  refine HN.out.mono ?_
  rintro e w1 ⟨rfl, hf1, g1⟩
  have HL1 : Hid (LI W w1 (w.heap.size + 1) (fun b => b = w.heap.size + 1) 256 (fun _ => [])) := (show LI _ _ _ _ _ _ from ⟨hf1, fun b hb => by rw [hb, zW]; exact Nat.le_refl _, g1⟩)
  clear hf1 g1 hW
  go_wp2_with fail
  go_loopw [7] (fun i wr => ∃ (k : Nat) (S : Nat → Prop) (P : Nat → List Fp), k ≤ l.length ∧ k ≤ 30 ∧ i = .int .i64 k ∧ Hid (LI W wr (w.heap.size + 1) S 256 P ∧ (∀ t, KI (P t)) ∧ ∀ t, CI (P t))) (fun i _ => l.length - (intOf i).toNat)
  case atStart => exact ⟨0, _, _, Nat.zero_le _, by omega, rfl, (show _ ∧ _ from ⟨HL1.out, fun _ => KI.nil, fun _ => List.Pairwise.nil⟩)⟩
  case round =>
    obtain ⟨k, S, P, hk, hk30, rfl, HI⟩ := hrel
    by_cases hgo : k < l.length ∧ k < 30
    · obtain ⟨hlt, h30⟩ := hgo
      obtain ⟨g, o, rfl, hg, hB⟩ := HE.out.at hlt
      have HBl := HGW.out
      have HB : Hid (Be wr g (o + k * 10) l[k]) := (hB.below hg HGW.out).below (by omega) HI.out.1.bl
      have HX := HU.out l[k] (List.getElem_mem _)
      have h30i : (k : Int) < 30 := by omega
      clear hB HBl
      go_wp2_with (refine load_E rfl (.tmp 34) rfl g (o + k * 10) l[k] (by simp [Act.eval, Act.put]) HB.out ?_)
      refine (few_any l[k] wr HX.nt HX.na HX.nw).mono ?_
      rintro e w2 ⟨rfl, g2⟩
      have HL2 : Hid (LI W w2 (w.heap.size + 1) S 256 P) := HI.out.1.below g2
      have HB2 : Hid (Be w2 g (o + k * 10) l[k]) := HB.out.below (by have := HI.out.1.bl.size; omega) g2
      have HXh : Hid (FIn W l[k]) := HX
      clear g2 HX
      cases hf : fewB l[k].p with
      | false =>
        go_wp2_with fail
        refine (HA.out w2 HL2.out.bl).mono ?_
        rintro e w3 ⟨rfl, g3⟩
        have HG3 : Hid (Below w.heap.size w w3) := btr (HGW.out.trans (HL2.out.bl.mono (by omega))) g3 (by have := HGW.out.size; have := HL2.out.bl.size; omega)
        clear g3
        go_wp2_with fail
        go_ret
        exact ⟨rfl, HG3.out⟩
      | true =>
        go_wp2_with (refine load_E rfl (.tmp 42) rfl g (o + k * 10) l[k] (by simp [Act.eval, Act.put]) HB2.out ?_)
        refine (HL2.out.add l[k] true HXh.out hf HD.out).mono ?_
        rintro e w3 ⟨rfl, S3, hl3⟩
        have HI3 : Hid (LI W w3 (w.heap.size + 1) S3 256 (addT 256 P l[k].p true) ∧ (∀ t, KI (addT 256 P l[k].p true t)) ∧ ∀ t, CI (addT 256 P l[k].p true t)) := (show _ ∧ _ from ⟨hl3, by
          have := KI.do_ (room := 256) HI.out.2.1 0 HXh.out.vt true
          exact this, CI.addT HI.out.2.2 _⟩)
        clear hl3
        go_wp2_with fail
        go_roundw
        case rel => exact ⟨k + 1, S3, _, by omega, by omega, by go_num, HI3⟩
        case measure => simp [intOf]; omega
    · have hgo' : (k < l.length ∧ ¬ k < 30) ∨ ¬ k < l.length := by omega
      clear hgo
      rcases hgo' with ⟨hlt, h30⟩ | hlt
      all_goals
        go_wp2_with fail
        go_loopw [8, 9, 10, 11] (fun i _ _ _ wr => ∃ n : Nat, n ≤ 8 ∧ i = .int .i64 n ∧ Hid (LI W wr (w.heap.size + 1) S 256 P)) (fun i _ _ _ _ => 8 - (intOf i).toNat)
        case atStart => exact ⟨0, by omega, rfl, HI.out.1⟩
        case round =>
          obtain ⟨n, hn8, rfl, HL⟩ := hrel
          by_cases hlt8 : n < 8
          · have h7 : (n : Int) ≤ 7 := by omega
            go_wp2_with fail
            refine (list_any (w.heap.size + 1) S 256 P n _ HL.out.fs).mono ?_
            rintro e U ⟨v, m, rfl, hm, hmp, gU⟩
            obtain ⟨am, cm, hv, hform⟩ := OwnE.form2 hm.own
            subst hv
            have HM : Hid (Made wr.heap.size U (.slice am m.length cm) m ∧ m.map Fe.p = tabOf P n ∧ (am = none ∧ m = [] ∧ cm = 0 ∨ ∃ g, am = some ⟨g, 0, none⟩ ∧ wr.heap.size ≤ g ∧ g < U.heap.size ∧ m.length ≤ cm ∧ cm ≤ maxLen)) := (show _ ∧ _ from ⟨hm, hmp, hform⟩)
            have HLU : Hid (LI W U (w.heap.size + 1) S 256 P) := HL.out.below gU
            have hml : m.length ≤ 256 := by
              have h1 := HL.out.len n
              rw [← hmp, List.length_map] at h1
              omega
            clear hm hmp hform gU
            go_wp2_with fail
            go_loopw [10, 11] (fun i _ wr => ∃ k : Nat, 1 ≤ k ∧ (k ≤ m.length ∨ k = 1) ∧ i = .int .i64 k ∧ Below U.heap.size U wr) (fun i _ _ => m.length + 1 - (intOf i).toNat)
            case atStart => exact ⟨1, Nat.le_refl _, .inr rfl, rfl, Below.refl _ _⟩
            case round =>
              obtain ⟨k, hk1, hk2, rfl, hG5⟩ := hrel
              have HG5 : Hid (Below U.heap.size U wr) := hG5
              clear hG5
              by_cases hkm : k < m.length
              · go_wp2_with fail
                go_loopw [11] (fun i wr => ∃ q : Nat, q ≤ k ∧ i = .int .i64 q ∧ Below U.heap.size U wr) (fun i _ => k - (intOf i).toNat)
                case atStart => exact ⟨0, Nat.zero_le _, rfl, HG5.out⟩
                case round =>
                  obtain ⟨q, hqk, rfl, hG6⟩ := hrel
                  have HG6 : Hid (Below U.heap.size U wr) := hG6
                  by_cases hq : q < k
                  · obtain ⟨gm, rfl, hg0, hgm, hcm, _⟩ : ∃ g, am = some ⟨g, 0, none⟩ ∧ _ ≤ g ∧ g < U.heap.size ∧ m.length ≤ cm ∧ cm ≤ maxLen := by
                      rcases HM.out.2.2 with ⟨_, h, _⟩ | h
                      · rw [h] at hkm; cases hkm
                      · exact h
                    have hqm : q < m.length := by omega
                    have HAb : Hid (Be wr gm (k * 10) m[k]) := (OwnE.be rfl HM.out.1.own k hkm).below hgm hG6
                    have HBb : Hid (Be wr gm (q * 10) m[q]) := (OwnE.be rfl HM.out.1.own q hqm).below hgm hG6
                    have HAw : Hid (FW wr m[k]) := (HM.out.1.fw _ (List.getElem_mem _)).below hG6
                    have HBw : Hid (FW wr m[q]) := (HM.out.1.fw _ (List.getElem_mem _)).below hG6
                    have HNo : Hid (m[k].p.pri = m[q].p.pri → Mt.takesB m[k].p.lt s = true → Mt.takesB m[q].p.lt s = false) := (show _ → _ → _ from fun e h1 => by
                      have hk2 : k < (m.map Fe.p).length := by simpa using hkm
                      have hKI : KI (m.map Fe.p) := by rw [HM.out.2.1]; exact KI.tab HI.out.2.1 n
                      have hCI : CI (m.map Fe.p) := by
                        rw [HM.out.2.1]
                        unfold tabOf
                        split
                        · exact HI.out.2.2 _
                        · exact List.Pairwise.nil
                      have := clash_no hKI hCI s hk2 hq (by simpa using e) (by simpa using h1)
                      simpa using this)
                    have hgr : gm < wr.heap.size := Nat.lt_of_lt_of_le hgm hG6.size
                    have HSr : Hid (wr.rangeAt w.heap.size 0 (Mt.snC s).toList) := range_block HS.out ((hG6.block _ (by have := HLU.out.bl.size; omega)).trans (HLU.out.bl.block _ (by omega)))
                    have hzr : w.heap.size < wr.heap.size := by have := HLU.out.bl.size; have := hG6.size; omega
                    have hkz : (q : Int) < (k : Int) := by omega
                    have hk0 : (k : Int) < (m.length : Int) := by omega
                    have hq0 : (q : Int) < (m.length : Int) := by omega
                    clear hG6
                    generalize m[k] = A at *
                    generalize m[q] = B at *
                    obtain ⟨_, a1, a2, _⟩ := be_gr HAb.out hgr
                    obtain ⟨_, b1, b2, _⟩ := be_gr HBb.out hgr
                    obtain ⟨s0, s1, s2, s3, s4, s5, s6, s7, s8, s9, s10, s11, s12⟩ := sn_gr HSr.out hzr
                    have HTa : Hid (∀ w1, FW w1 A → Calls Tryd.prog 13 #[.slice A.ta A.p.lt.length A.tc, Mt.snV s] w1 fun e w' => e = .returned (.bool (Mt.takesB A.p.lt s)) ∧ Below w1.heap.size w1 w') := (show ∀ w1, _ from fun w1 h => HTk.out A w1 h)
                    have HTb : Hid (∀ w1, FW w1 B → Calls Tryd.prog 13 #[.slice B.ta B.p.lt.length B.tc, Mt.snV s] w1 fun e w' => e = .returned (.bool (Mt.takesB B.p.lt s)) ∧ Below w1.heap.size w1 w') := (show ∀ w1, _ from fun w1 h => HTk.out B w1 h)
                    cases pe : (A.p.pri == B.p.pri) with
                    | false =>
                      go_wp2_with fail
                      refine wp_region_grow (by kernel_rfl) (by kernel_rfl) ?_
                      repeat (go_big_quiet_step (first | (go_at_call 14; exact quiet_gr (HPl.out _)) | (go_at_call_of 13 (Value.slice A.ta A.p.lt.length A.tc); exact quiet_gr (HTa.out _ (HAw.out.below (GrT.h _)))) | (go_at_call_of 13 (Value.slice B.ta B.p.lt.length B.tc); exact quiet_gr (HTb.out _ (HBw.out.below (GrT.h _))))))
                      refine wpQuiet_nil ?_
                      rintro w7 hw'
                      have g7 := gr_elim hw'
                      clear hw' a1 a2 b1 b2 s0 s1 s2 s3 s4 s5 s6 s7 s8 s9 s10 s11 s12
                      have HG7 : Hid (Below U.heap.size U w7) := btr HG6.out g7 (Nat.le_refl _)
                      clear g7
                      go_wp2_with fail
                      go_roundw
                      case rel => exact ⟨q + 1, by omega, by go_num, HG7.out⟩
                      case measure => simp [intOf]; omega
                    | true =>
                      cases t1 : Mt.takesB A.p.lt s with
                      | false =>
                        rw [t1] at HTa
                        clear t1
                        go_wp2_with fail
                        refine wp_region_grow (by kernel_rfl) (by kernel_rfl) ?_
                        repeat (go_big_quiet_step (first | (go_at_call 14; exact quiet_gr (HPl.out _)) | (go_at_call_of 13 (Value.slice A.ta A.p.lt.length A.tc); exact quiet_gr (HTa.out _ (HAw.out.below (GrT.h _)))) | (go_at_call_of 13 (Value.slice B.ta B.p.lt.length B.tc); exact quiet_gr (HTb.out _ (HBw.out.below (GrT.h _))))))
                        refine wpQuiet_nil ?_
                        rintro w7 hw'
                        have g7 := gr_elim hw'
                        clear hw' a1 a2 b1 b2 s0 s1 s2 s3 s4 s5 s6 s7 s8 s9 s10 s11 s12
                        have HG7 : Hid (Below U.heap.size U w7) := btr HG6.out g7 (Nat.le_refl _)
                        clear g7
                        go_wp2_with fail
                        go_roundw
                        case rel => exact ⟨q + 1, by omega, by go_num, HG7.out⟩
                        case measure => simp [intOf]; omega
                      | true =>
                        have t2 : Mt.takesB B.p.lt s = false := HNo.out (by simpa using pe) t1
                        rw [t1] at HTa
                        rw [t2] at HTb
                        clear t1 t2
                        go_wp2_with fail
                        refine wp_region_grow (by kernel_rfl) (by kernel_rfl) ?_
                        repeat (go_big_quiet_step (first | (go_at_call 14; exact quiet_gr (HPl.out _)) | (go_at_call_of 13 (Value.slice A.ta A.p.lt.length A.tc); exact quiet_gr (HTa.out _ (HAw.out.below (GrT.h _)))) | (go_at_call_of 13 (Value.slice B.ta B.p.lt.length B.tc); exact quiet_gr (HTb.out _ (HBw.out.below (GrT.h _))))))
                        refine wpQuiet_nil ?_
                        rintro w7 hw'
                        have g7 := gr_elim hw'
                        clear hw' a1 a2 b1 b2 s0 s1 s2 s3 s4 s5 s6 s7 s8 s9 s10 s11 s12
                        have HG7 : Hid (Below U.heap.size U w7) := btr HG6.out g7 (Nat.le_refl _)
                        clear g7
                        go_wp2_with fail
                        go_roundw
                        case rel => exact ⟨q + 1, by omega, by go_num, HG7.out⟩
                        case measure => simp [intOf]; omega
                  · go_wp2_with fail
                    go_roundw
                    case rel => exact ⟨k + 1, by omega, by omega, by go_num, hG6⟩
                    case measure => simp [intOf]; omega
              · go_wp2_with fail
                go_roundw
                case rel => exact ⟨n + 1, by omega, by go_num, HLU.out.below HG5.out⟩
                case measure => simp [intOf]; omega
          · have h7 : ¬ ((n : Int) ≤ 7) := by omega
            go_wp2_with fail
            refine (HA.out _ HL.out.bl).mono ?_
            rintro e w3 ⟨rfl, g3⟩
            have HG3 : Hid (Below w.heap.size w w3) := btr (HGW.out.trans (HL.out.bl.mono (by omega))) g3 (by have := HGW.out.size; have := HL.out.bl.size; omega)
            clear g3
            go_wp2_with fail
            go_ret
            exact ⟨rfl, HG3.out⟩
end Go.Proofs.YtjjfhibkcngphaaDoor

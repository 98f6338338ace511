/-
  The law TableLooks answers true.
-/
import Derived.Test.YtjjfhibkcngphaaDoorFLaw
namespace Go.Proofs.YtjjfhibkcngphaaDoor
open Go.ChangeShapes Go.WideShapes Go.ChangeAt Go.RowKit
set_option linter.unusedVariables false
set_option linter.unusedSimpArgs false

theorem FIn.below' {w w' : World} {x : Fe} (h : FIn w x) (g : Below w.heap.size w w') : FIn w' x := ⟨h.t.below g, h.a.below g, h.w.below g, h.ct, h.nt, h.na, h.nw, h.vt, h.va, h.vw, h.m0, h.m1, h.i0, h.i1, h.i2, h.i3⟩
theorem any_take_snoc {l : List Fe} {s : Mt.Sn} {k : Nat} (h : k < l.length) : (l.take (k + 1)).any (fun x => Mt.takesB x.p.lt s) = ((l.take k).any (fun x => Mt.takesB x.p.lt s) || Mt.takesB l[k].p.lt s) := by
  rw [List.take_succ_eq_append_getElem h, List.any_append]
  simp
theorem look_first {l : List Fe} {s : Mt.Sn} {k : Nat} (h : k < l.length) (h0 : (l.take k).any (fun x => Mt.takesB x.p.lt s) = false) (h1 : Mt.takesB l[k].p.lt s = true) : lookP (l.map Fe.p) s = some l[k].p := by
  refine lookP_at h (fun j hj hjk => ?_) h1
  rw [List.any_eq_false] at h0
  have := h0 l[j] (List.mem_iff_getElem.2 ⟨j, by rw [List.length_take]; omega, by rw [List.getElem_take]⟩)
  simpa using this
theorem look_any_iff (l : List Fe) (s : Mt.Sn) : (lookP (l.map Fe.p) s).isSome = l.any (fun x => Mt.takesB x.p.lt s) := by
  apply Mt.bool_iff
  unfold lookP
  rw [List.find?_isSome, List.any_eq_true]
  constructor
  · rintro ⟨x, hx, h⟩
    obtain ⟨y, hy, rfl⟩ := List.mem_map.1 hx
    exact ⟨y, hy, h⟩
  · rintro ⟨y, hy, h⟩
    exact ⟨y.p, List.mem_map.2 ⟨y, hy, rfl⟩, h⟩
set_option maxRecDepth 20000 in
set_option maxHeartbeats 16000000 in
theorem looks_walk (room : Int) (a : Option Addr) (l : List Opn) (cap : Nat) (s : Mt.Sn) (w : World) (hr : -9223372036854775808 ≤ room ∧ room < 9223372036854775808) (ht : OpAt w a l) (hu : ∀ y ∈ l, FIn w y.x) (hn : l.length ≤ maxLen) (hc : l.length ≤ cap) (hs : Mt.Wf s) (hd : Cd w) :
    Calls Tryd.prog 3 #[.int .i64 room, .slice a l.length cap, Mt.snV s] w fun e w' => e = .returned (.bool true) ∧ Below w.heap.size w w' := by
  unfold maxLen at hn
  obtain ⟨W, hW⟩ : ∃ W, Mt.bx w s = W := ⟨_, rfl⟩
  have zW : W.heap.size = w.heap.size + 1 := by rw [← hW]; simp
  have gW : Below w.heap.size w W := by rw [← hW]; go_grown
  have HS : Hid (W.rangeAt w.heap.size 0 (Mt.snC s).toList) := (show World.rangeAt _ _ _ _ by rw [← hW]; exact range_new w (Mt.snC s) 28)
  have HD : Hid (Cd W) := hd.below gW
  have HE : Hid (OpAt w a l) := ht
  have HU : Hid (∀ y ∈ l, FIn W y.x) := (show ∀ y ∈ l, _ from fun y hy => (hu y hy).below' gW)
  have HA : Hid (∀ w1, Below W.heap.size W w1 → Calls Tryd.prog 8 #[] w1 fun e w' => e = .returned (.bool true) ∧ Below w1.heap.size w1 w') := (show ∀ w1, _ from fun w1 g => awake_any w1 (HD.out.below g))
  have HPl : Hid (∀ w1, Calls Tryd.prog 14 #[Mt.snV s] w1 fun e w' => e = .returned (Mt.snV s) ∧ Below w1.heap.size w1 w') := (show ∀ w1, _ from fun w1 => Mt.plain_any s w1)
  have HTk : Hid (∀ (x : Fe) w1, FW w1 x → Calls Tryd.prog 13 #[.slice x.ta x.p.lt.length x.tc, Mt.snV s] w1 fun e w' => e = .returned (.bool (Mt.takesB x.p.lt s)) ∧ Below w1.heap.size w1 w') := (show ∀ x w1, _ from fun x w1 h => Mt.rtakes_any _ _ _ s w1 h.t (by have := h.nt; omega) hs)
  have HGW : Hid (Below w.heap.size w W) := gW
  have HWf : Hid (Mt.Wf s) := hs
  have hDD := hd.below gW
  clear ht hu hs hd gW
  by_cases hro : room < 1 ∨ 256 < room
  · have HN : Hid (Calls Tryd.prog 7 #[.int .i64 room] W fun e w' => e = .returned (.tuple #[.pointer none, .int .i64 1]) ∧ w' = W) := new_no room W hro
    have hro2 : room < 1 ∨ (¬ room < 1 ∧ 256 < room) := by omega
    clear hDD hro
    rcases hro2 with h1 | ⟨h1, h2⟩
    all_goals
      go_enter Tryd.func3, Tryd.ntmps3
      go_wp2_with fail
      refine HN.out.mono ?_
      rintro e w1 ⟨rfl, rfl⟩
      go_wp2_with fail
      refine (HA.out w1 (Below.refl _ _)).mono ?_
      rintro e w3 ⟨rfl, g3⟩
      have HG3 : Hid (Below w.heap.size w w3) := btr HGW.out g3 (by omega)
      clear g3
      go_wp2_with fail
      go_ret
      exact ⟨rfl, HG3.out⟩
  have hr1 : 1 ≤ room := by omega
  have hr2 : room ≤ 256 := by omega
  clear hro
  have HN : Hid (Calls Tryd.prog 7 #[.int .i64 room] W fun e w' => e = .returned (.tuple #[.pointer (some ⟨w.heap.size + 1, 0, none⟩), .int .i64 0]) ∧ Fs w' (w.heap.size + 1) (fun b => b = w.heap.size + 1) room (fun _ => []) ∧ Below W.heap.size W w') := (show Calls _ _ _ _ _ from by
    have := new_yes room W hr1 hr2 hDD
    rwa [zW] at this ⊢)
  clear hDD
  go_enter Tryd.func3, Tryd.ntmps3
  go_wp2_with fail
  refine HN.out.mono ?_
  rintro e w1 ⟨rfl, hf1, g1⟩
  have HL1 : Hid (LI W w1 (w.heap.size + 1) (fun b => b = w.heap.size + 1) room (fun _ => [])) := (show LI _ _ _ _ _ _ from ⟨hf1, fun b hb => by rw [hb, zW]; exact Nat.le_refl _, g1⟩)
  clear hf1 g1 hW
  go_wp2_with fail
  go_loopw [9] (fun i wr => ∃ (k : Nat) (S : Nat → Prop) (P : Nat → List Fp), k ≤ l.length ∧ k ≤ 40 ∧ i = .int .i64 k ∧ Hid (LI W wr (w.heap.size + 1) S room P ∧ (∀ t, KI (P t)))) (fun i _ => l.length - (intOf i).toNat)
  case atStart => exact ⟨0, _, _, Nat.zero_le _, by omega, rfl, (show _ ∧ _ from ⟨HL1.out, fun _ => KI.nil⟩)⟩
  case round =>
    obtain ⟨k, S, P, hk, hk40, rfl, HI⟩ := hrel
    by_cases hgo : k < l.length ∧ k < 40
    · obtain ⟨hlt, h40⟩ := hgo
      obtain ⟨g, o, rfl, hg, hB⟩ := HE.out.at hlt
      have HR : Hid (wr.rangeAt g (o + k * 12) (opC l[k]).toList) := range_block hB ((HI.out.1.bl.block g (by omega)).trans (HGW.out.block g hg))
      have HX := HU.out l[k] (List.getElem_mem _)
      have h40i : (k : Int) < 40 := by omega
      have hgz : g < wr.heap.size := by have := HI.out.1.bl.size; omega
      clear hB
      go_wp2_with (refine load_E rfl (.tmp 53) rfl g (o + k * 12 + 1) l[k].x (by simp [Act.eval, Act.put]) (op_be HR.out) ?_)
      refine (few_any l[k].x wr HX.nt HX.na HX.nw).mono ?_
      rintro e w2 ⟨rfl, g2⟩
      have HL2 : Hid (LI W w2 (w.heap.size + 1) S room P) := HI.out.1.below g2
      have HR2 : Hid (w2.rangeAt g (o + k * 12) (opC l[k]).toList) := range_block HR.out (g2.block g hgz)
      have HXh : Hid (FIn W l[k].x) := HX
      clear g2 HX
      cases hf : fewB l[k].x.p with
      | false =>
        go_wp2_with fail
        refine (HA.out w2 HL2.out.bl).mono ?_
        rintro e w3 ⟨rfl, g3⟩
        have HG3 : Hid (Below w.heap.size w w3) := btr (HGW.out.trans (HL2.out.bl.mono (by omega))) g3 (by have := HGW.out.size; have := HL2.out.bl.size; omega)
        clear g3
        go_wp2_with fail
        go_ret
        exact ⟨rfl, HG3.out⟩
      | true =>
        go_wp2_with (refine load_O rfl (.tmp 61) rfl g (o + k * 12) l[k] (by simp [Act.eval, Act.put]) HR2.out ?_)
        refine (HL2.out.do_ l[k] HXh.out hf HD.out).mono ?_
        rintro e w3 ⟨rfl, S3, hl3⟩
        have HI3 : Hid (LI W w3 (w.heap.size + 1) S3 room (doP room P l[k].ask l[k].x.p l[k].hard) ∧ (∀ t, KI (doP room P l[k].ask l[k].x.p l[k].hard t))) := (show _ ∧ _ from ⟨hl3, KI.do_ HI.out.2 _ HXh.out.vt _⟩)
        clear hl3
        go_wp2_with fail
        go_roundw
        case rel => exact ⟨k + 1, S3, _, by omega, by omega, by go_num, HI3⟩
        case measure => simp [intOf]; omega
    · have hgo' : (k < l.length ∧ ¬ k < 40) ∨ ¬ k < l.length := by omega
      clear hgo
      rcases hgo' with ⟨hlt, h40⟩ | hlt
      all_goals
        go_wp2_with fail
        go_loopw [10, 11, 12, 13, 14, 15] (fun i _ _ _ _ _ wr => ∃ n : Nat, n ≤ 8 ∧ i = .int .i64 n ∧ Hid (LI W wr (w.heap.size + 1) S room P)) (fun i _ _ _ _ _ _ => 8 - (intOf i).toNat)
        case atStart => exact ⟨0, by omega, rfl, HI.out.1⟩
        case round =>
          obtain ⟨n, hn8, rfl, HL⟩ := hrel
          by_cases hlt8 : n < 8
          · have h7 : (n : Int) ≤ 7 := by omega
            go_wp2_with fail
            refine (list_any (w.heap.size + 1) S room P n _ HL.out.fs).mono ?_
            rintro e U0 ⟨v, m, rfl, hm, hmp, gU⟩
            obtain ⟨am, cm, hv, hform⟩ := OwnE.form2 hm.own
            subst hv
            have HM0 : Hid (Made wr.heap.size U0 (.slice am m.length cm) m ∧ m.map Fe.p = tabOf P n ∧ (am = none ∧ m = [] ∧ cm = 0 ∨ ∃ g, am = some ⟨g, 0, none⟩ ∧ wr.heap.size ≤ g ∧ g < U0.heap.size ∧ m.length ≤ cm ∧ cm ≤ maxLen)) := (show _ ∧ _ from ⟨hm, hmp, hform⟩)
            have HLU0 : Hid (LI W U0 (w.heap.size + 1) S room P) := HL.out.below gU
            have hml : (m.length : Int) ≤ room := by
              have h1 := HL.out.len n
              rw [← hmp, List.length_map] at h1
              exact h1
            have hzs : w.heap.size < U0.heap.size := by have := HLU0.out.bl.size; omega
            clear hm hmp hform gU
            go_wp2_with (refine load_S rfl (.tmp 5) rfl w.heap.size s rfl (range_block HS.out (HLU0.out.bl.block _ (by omega))) ?_)
            refine (look_any (w.heap.size + 1) S room P n s HWf.out _ HLU0.out.fs).mono ?_
            rintro e U1 ⟨y, rfl, hyp, hyw, hyi, gU1⟩
            have HY1 : Hid (y.p = (lookP (tabOf P n) s).getD fp0 ∧ FW U1 y) := (show _ ∧ _ from ⟨hyp, hyw⟩)
            have HGU1 : Hid (Below U0.heap.size U0 U1) := gU1
            obtain ⟨is, his⟩ : ∃ is, is = (lookP (tabOf P n) s).isSome := ⟨_, rfl⟩
            rw [← his]
            have HIs : Hid (is = (lookP (tabOf P n) s).isSome) := his
            clear hyp hyw hyi gU1 his
            go_wp2_with (refine store_E rfl (.tmp 12) (.tmp 76) rfl U1.heap.size 0 y rfl rfl (there_new U1 zeroE 38) ?_; intro U hU bU tU oU; clear hU; have HYB : Hid (Be U U1.heap.size 0 y) := bU; have HGU : Hid (Below U1.heap.size U1 U) := oU.below (Nat.le_refl _) (show Below U1.heap.size U1 (U1.alloc (.cells zeroE 38)) by go_grown); have zU : U.heap.size = U1.heap.size + 1 := (by rw [oU.size]; simp); clear bU tU oU)
            have HG0U : Hid (Below U0.heap.size U0 U) := btr HGU1.out HGU.out (Nat.le_refl _)
            have HM : Hid (Made wr.heap.size U (.slice am m.length cm) m) := HM0.out.1.below HG0U.out
            have HLU : Hid (LI W U (w.heap.size + 1) S room P) := HLU0.out.below HG0U.out
            have HYW : Hid (FW U y) := HY1.out.2.below HGU.out
            go_loopw [14, 15] (fun fnd i wr => ∃ k : Nat, k ≤ m.length ∧ fnd = .bool ((m.take k).any fun x => Mt.takesB x.p.lt s) ∧ i = .int .i64 k ∧ Below U.heap.size U wr) (fun _ i _ => m.length - (intOf i).toNat)
            case atStart => exact ⟨0, Nat.zero_le _, by simp, rfl, Below.refl _ _⟩
            case round =>
              obtain ⟨k, hk1, rfl, rfl, hG5⟩ := hrel
              have HG5 : Hid (Below U.heap.size U wr) := hG5
              by_cases hkm : k < m.length
              · obtain ⟨gm, rfl, hg0, hgm0, hcm, _⟩ : ∃ g, am = some ⟨g, 0, none⟩ ∧ _ ≤ g ∧ g < U0.heap.size ∧ m.length ≤ cm ∧ cm ≤ maxLen := by
                  rcases HM0.out.2.2 with ⟨_, h, _⟩ | h
                  · rw [h] at hkm; cases hkm
                  · exact h
                have hgm : gm < U.heap.size := by have := HG0U.out.size; omega
                have zr := hG5.size
                have hzU1 : U1.heap.size < U.heap.size := by omega
                have hzW : w.heap.size < U.heap.size := by have := HG0U.out.size; omega
                have HAw0 : Hid (FW U m[k]) := HM.out.fw _ (List.getElem_mem _)
                have HAb0 : Hid (Be U gm (k * 10) m[k]) := OwnE.be rfl HM.out.own k hkm
                have HKI : Hid (KI (m.map Fe.p)) := (show KI _ by rw [HM0.out.2.1]; exact KI.tab HI.out.2 n)
                have HFirst : Hid ((m.take k).any (fun x => Mt.takesB x.p.lt s) = false → Mt.takesB m[k].p.lt s = true → lookP (tabOf P n) s = some m[k].p) := (show _ → _ → _ from fun h0 h1 => by rw [← HM0.out.2.1]; exact look_first hkm h0 h1)
                have HFs : Hid ((m.take (k + 1)).any (fun x => Mt.takesB x.p.lt s) = ((m.take k).any (fun x => Mt.takesB x.p.lt s) || Mt.takesB m[k].p.lt s)) := any_take_snoc hkm
                have hkz : (k : Int) < (m.length : Int) := by omega
                have hrm : decide (room < (m.length : Int)) = false := by rw [decide_eq_false_iff_not]; omega
                have HSr : Hid (∀ W', Below U.heap.size U W' → W'.rangeAt w.heap.size 0 (Mt.snC s).toList) := (show ∀ W', _ from fun W' g => range_block HS.out ((g.block _ hzW).trans (HLU.out.bl.block _ (by omega))))
                generalize (m.take k).any (fun x => Mt.takesB x.p.lt s) = F at *
                have hord : 0 < k → decide ((m[k - 1]'(by omega)).p.pri < m[k].p.pri) = false := fun h0 => by
                  have := HKI.out.down h0 (by simpa using hkm)
                  rw [decide_eq_false_iff_not]
                  simp at this
                  omega
                have HPb : Hid (0 < k → ∀ W', Below U.heap.size U W' → W'.cell? ⟨gm, (k - 1) * 10 + 1, none⟩ = some (.int .i64 (m[k - 1]'(by omega)).p.pri)) := (show _ → ∀ W', _ from fun h0 W' g => (g.cell (p := ⟨gm, (k - 1) * 10 + 1, none⟩) hgm).trans (OwnE.be rfl HM.out.own (k - 1) (by omega) 1 _ rfl))
                have HAb : Hid (Be wr gm (k * 10) m[k]) := HAb0.out.below hgm hG5
                have hpa : wr.cell? ⟨gm, k * 10 + 1, none⟩ = some (.int .i64 m[k].p.pri) := HAb.out 1 _ rfl
                have HTa : Hid (∀ w1, FW w1 m[k] → Calls Tryd.prog 13 #[.slice m[k].ta m[k].p.lt.length m[k].tc, Mt.snV s] w1 fun e w' => e = .returned (.bool (Mt.takesB m[k].p.lt s)) ∧ Below w1.heap.size w1 w') := (show ∀ w1, _ from fun w1 h => HTk.out m[k] w1 h)
                have hcase : (¬ (0 : Int) < (k : Int)) ∨ (0 < k ∧ (0 : Int) < (k : Int)) := by omega
                rcases hcase with h0 | ⟨h0n, h0⟩
                · have hb1 : decide ((0 : Int) < (k : Int)) = false := decide_eq_false h0
                  have hb2 : decide (0 < k) = false := decide_eq_false (by omega)
                  clear hord HPb h0
                  generalize m[k] = A at *
                  go_wp2_with fail
                  go_quiet (fail)
                  obtain ⟨w6, h6⟩ : ∃ w6, wr.drewN nq = w6 := ⟨_, rfl⟩
                  rw [h6]
                  have HG6 : Hid (Below U.heap.size U w6) := (show Below _ _ _ by rw [← h6]; exact bdr hG5 nq)
                  clear h6 hpa HAb
                  have HAb6 : Hid (Be w6 gm (k * 10) A) := HAb0.out.below hgm HG6.out
                  have HYb6 : Hid (Be w6 U1.heap.size 0 y) := HYB.out.below hzU1 HG6.out
                  have HAw : Hid (FW w6 A) := HAw0.out.below HG6.out
                  have z6 := HG6.out.size
                  clear hG5
                  go_wp2_with fail
                  obtain ⟨a0, a1, a2, a3, a4, a5, a6, a7, a8, a9⟩ := be_gr HAb6.out (by omega)
                  obtain ⟨y0, y1, y2, y3, y4, y5, y6, y7, y8, y9⟩ := be_gr0 HYb6.out (by omega)
                  obtain ⟨s0, s1, s2, s3, s4, s5, s6, s7, s8, s9, s10, s11, s12⟩ := sn_gr (HSr.out w6 HG6.out) (by omega)
                  cases t1 : Mt.takesB A.p.lt s with
                  | false =>
                    have HF2 : Hid (Value.bool F = .bool ((m.take (k + 1)).any fun x => Mt.takesB x.p.lt s)) := (show _ = _ by rw [HFs.out, t1, Bool.or_false])
                    rw [t1] at HTa
                    clear t1
                    refine wp_region_grow (by kernel_rfl) (by kernel_rfl) ?_
                    repeat (go_big_quiet_step (first | (go_at_call 14; exact quiet_gr (HPl.out _)) | (go_at_call 13; exact quiet_gr (HTa.out _ (HAw.out.below (GrT.h _))))))
                    refine wpQuiet_nil ?_
                    rintro w7 hw'
                    have g7 := gr_elim hw'
                    clear hw'
                    have HG9 : Hid (Below U.heap.size U w7) := btr HG6.out g7 (Nat.le_refl _)
                    clear g7 a0 a1 a2 a3 a4 a5 a6 a7 a8 a9 y0 y1 y2 y3 y4 y5 y6 y7 y8 y9 s0 s1 s2 s3 s4 s5 s6 s7 s8 s9 s10 s11 s12
                    go_wp2_with fail
                    go_roundw
                    case rel => exact ⟨k + 1, by omega, HF2.out, by go_num, HG9.out⟩
                    case measure => simp [intOf]; omega
                  | true =>
                    have HF2 : Hid (Value.bool true = .bool ((m.take (k + 1)).any fun x => Mt.takesB x.p.lt s)) := (show _ = _ by rw [HFs.out, t1, Bool.or_true])
                    have HT1 : Hid (Mt.takesB A.p.lt s = true) := t1
                    rw [t1] at HTa
                    clear t1
                    refine wp_region_grow (by kernel_rfl) (by kernel_rfl) ?_
                    repeat (go_big_quiet_step (first | (go_at_call 14; exact quiet_gr (HPl.out _)) | (go_at_call 13; exact quiet_gr (HTa.out _ (HAw.out.below (GrT.h _))))))
                    refine wpQuiet_nil ?_
                    rintro w7 hw'
                    have g7 := gr_elim hw'
                    clear hw'
                    have HG8 : Hid (Below U.heap.size U w7) := btr HG6.out g7 (Nat.le_refl _)
                    have HAb7 : Hid (Be w7 gm (k * 10) A) := HAb6.out.below (by omega) g7
                    have HYb7 : Hid (Be w7 U1.heap.size 0 y) := HYb6.out.below (by omega) g7
                    have z7 := g7.size
                    clear g7 a0 a1 a2 a3 a4 a5 a6 a7 a8 a9 y0 y1 y2 y3 y4 y5 y6 y7 y8 y9 s0 s1 s2 s3 s4 s5 s6 s7 s8 s9 s10 s11 s12
                    obtain ⟨a0, a1, a2, a3, a4, a5, a6, a7, a8, a9⟩ := be_gr HAb7.out (by omega)
                    obtain ⟨y0, y1, y2, y3, y4, y5, y6, y7, y8, y9⟩ := be_gr0 HYb7.out (by omega)
                    cases F with
                    | true =>
                      go_wp2_with fail
                      refine wp_region_grow (by kernel_rfl) (by kernel_rfl) ?_
                      repeat (go_big_quiet_step (first | (go_at_call 14; exact quiet_gr (HPl.out _)) | (go_at_call 13; exact quiet_gr (HTa.out _ (HAw.out.below (GrT.h _))))))
                      refine wpQuiet_nil ?_
                      rintro w9 hw'
                      have g9 := gr_elim hw'
                      clear hw'
                      have HG9 : Hid (Below U.heap.size U w9) := btr HG8.out g9 (Nat.le_refl _)
                      clear g9 a0 a1 a2 a3 a4 a5 a6 a7 a8 a9 y0 y1 y2 y3 y4 y5 y6 y7 y8 y9
                      go_wp2_with fail
                      go_roundw
                      case rel => exact ⟨k + 1, by omega, HF2.out, by go_num, HG9.out⟩
                      case measure => simp [intOf]; omega
                    | false =>
                      have hlk : lookP (tabOf P n) s = some A.p := HFirst.out rfl HT1.out
                      have hisT : is = true := by rw [HIs.out, hlk]; rfl
                      have HSe2 : Hid (∀ w1, Below w7.heap.size w7 w1 → Calls Tryd.prog 15 #[feV y, feV A] w1 fun e w' => e = .returned (.bool true) ∧ Below w1.heap.size w1 w') := (show ∀ w1, _ from fun w1 g => sameE y A w1 (by rw [HY1.out.1, hlk]; rfl) ((HYW.out.below HG8.out).below g) ((HAw0.out.below HG8.out).below g))
                      subst hisT
                      clear hlk
                      go_wp2_with fail
                      refine wp_region_grow (by kernel_rfl) (by kernel_rfl) ?_
                      repeat (go_big_quiet_step (first | (go_at_call 14; exact quiet_gr (HPl.out _)) | (go_at_call 13; exact quiet_gr (HTa.out _ (HAw.out.below (GrT.h _)))) | (go_at_call 15; exact quiet_gr (HSe2.out _ (GrT.h _)))))
                      refine wpQuiet_nil ?_
                      rintro w9 hw'
                      have g9 := gr_elim hw'
                      clear hw'
                      have HG9 : Hid (Below U.heap.size U w9) := btr HG8.out g9 (Nat.le_refl _)
                      clear g9 a0 a1 a2 a3 a4 a5 a6 a7 a8 a9 y0 y1 y2 y3 y4 y5 y6 y7 y8 y9
                      go_wp2_with fail
                      go_roundw
                      case rel => exact ⟨k + 1, by omega, HF2.out, by go_num, HG9.out⟩
                      case measure => simp [intOf]; omega
                · have ho := hord h0n
                  have hpb := HPb.out h0n wr hG5
                  have htn : ((k : Int) - 1).toNat = k - 1 := by omega
                  have hk1a : (0 : Int) ≤ (k : Int) - 1 := by omega
                  have hk1b : (k : Int) - 1 < (m.length : Int) := by omega
                  clear hord HPb
                  generalize m[k - 1]'(by omega) = B at *
                  generalize m[k] = A at *
                  go_wp2_with fail
                  go_quiet (fail)
                  obtain ⟨w6, h6⟩ : ∃ w6, wr.drewN nq = w6 := ⟨_, rfl⟩
                  rw [h6]
                  have HG6 : Hid (Below U.heap.size U w6) := (show Below _ _ _ by rw [← h6]; exact bdr hG5 nq)
                  clear h6 hpa HAb hpb
                  have HAb6 : Hid (Be w6 gm (k * 10) A) := HAb0.out.below hgm HG6.out
                  have HYb6 : Hid (Be w6 U1.heap.size 0 y) := HYB.out.below hzU1 HG6.out
                  have HAw : Hid (FW w6 A) := HAw0.out.below HG6.out
                  have z6 := HG6.out.size
                  clear hG5
                  go_wp2_with fail
                  obtain ⟨a0, a1, a2, a3, a4, a5, a6, a7, a8, a9⟩ := be_gr HAb6.out (by omega)
                  obtain ⟨y0, y1, y2, y3, y4, y5, y6, y7, y8, y9⟩ := be_gr0 HYb6.out (by omega)
                  obtain ⟨s0, s1, s2, s3, s4, s5, s6, s7, s8, s9, s10, s11, s12⟩ := sn_gr (HSr.out w6 HG6.out) (by omega)
                  cases t1 : Mt.takesB A.p.lt s with
                  | false =>
                    have HF2 : Hid (Value.bool F = .bool ((m.take (k + 1)).any fun x => Mt.takesB x.p.lt s)) := (show _ = _ by rw [HFs.out, t1, Bool.or_false])
                    rw [t1] at HTa
                    clear t1
                    refine wp_region_grow (by kernel_rfl) (by kernel_rfl) ?_
                    repeat (go_big_quiet_step (first | (go_at_call 14; exact quiet_gr (HPl.out _)) | (go_at_call 13; exact quiet_gr (HTa.out _ (HAw.out.below (GrT.h _))))))
                    refine wpQuiet_nil ?_
                    rintro w7 hw'
                    have g7 := gr_elim hw'
                    clear hw'
                    have HG9 : Hid (Below U.heap.size U w7) := btr HG6.out g7 (Nat.le_refl _)
                    clear g7 a0 a1 a2 a3 a4 a5 a6 a7 a8 a9 y0 y1 y2 y3 y4 y5 y6 y7 y8 y9 s0 s1 s2 s3 s4 s5 s6 s7 s8 s9 s10 s11 s12
                    go_wp2_with fail
                    go_roundw
                    case rel => exact ⟨k + 1, by omega, HF2.out, by go_num, HG9.out⟩
                    case measure => simp [intOf]; omega
                  | true =>
                    have HF2 : Hid (Value.bool true = .bool ((m.take (k + 1)).any fun x => Mt.takesB x.p.lt s)) := (show _ = _ by rw [HFs.out, t1, Bool.or_true])
                    have HT1 : Hid (Mt.takesB A.p.lt s = true) := t1
                    rw [t1] at HTa
                    clear t1
                    refine wp_region_grow (by kernel_rfl) (by kernel_rfl) ?_
                    repeat (go_big_quiet_step (first | (go_at_call 14; exact quiet_gr (HPl.out _)) | (go_at_call 13; exact quiet_gr (HTa.out _ (HAw.out.below (GrT.h _))))))
                    refine wpQuiet_nil ?_
                    rintro w7 hw'
                    have g7 := gr_elim hw'
                    clear hw'
                    have HG8 : Hid (Below U.heap.size U w7) := btr HG6.out g7 (Nat.le_refl _)
                    have HAb7 : Hid (Be w7 gm (k * 10) A) := HAb6.out.below (by omega) g7
                    have HYb7 : Hid (Be w7 U1.heap.size 0 y) := HYb6.out.below (by omega) g7
                    have z7 := g7.size
                    clear g7 a0 a1 a2 a3 a4 a5 a6 a7 a8 a9 y0 y1 y2 y3 y4 y5 y6 y7 y8 y9 s0 s1 s2 s3 s4 s5 s6 s7 s8 s9 s10 s11 s12
                    obtain ⟨a0, a1, a2, a3, a4, a5, a6, a7, a8, a9⟩ := be_gr HAb7.out (by omega)
                    obtain ⟨y0, y1, y2, y3, y4, y5, y6, y7, y8, y9⟩ := be_gr0 HYb7.out (by omega)
                    cases F with
                    | true =>
                      go_wp2_with fail
                      refine wp_region_grow (by kernel_rfl) (by kernel_rfl) ?_
                      repeat (go_big_quiet_step (first | (go_at_call 14; exact quiet_gr (HPl.out _)) | (go_at_call 13; exact quiet_gr (HTa.out _ (HAw.out.below (GrT.h _))))))
                      refine wpQuiet_nil ?_
                      rintro w9 hw'
                      have g9 := gr_elim hw'
                      clear hw'
                      have HG9 : Hid (Below U.heap.size U w9) := btr HG8.out g9 (Nat.le_refl _)
                      clear g9 a0 a1 a2 a3 a4 a5 a6 a7 a8 a9 y0 y1 y2 y3 y4 y5 y6 y7 y8 y9
                      go_wp2_with fail
                      go_roundw
                      case rel => exact ⟨k + 1, by omega, HF2.out, by go_num, HG9.out⟩
                      case measure => simp [intOf]; omega
                    | false =>
                      have hlk : lookP (tabOf P n) s = some A.p := HFirst.out rfl HT1.out
                      have hisT : is = true := by rw [HIs.out, hlk]; rfl
                      have HSe2 : Hid (∀ w1, Below w7.heap.size w7 w1 → Calls Tryd.prog 15 #[feV y, feV A] w1 fun e w' => e = .returned (.bool true) ∧ Below w1.heap.size w1 w') := (show ∀ w1, _ from fun w1 g => sameE y A w1 (by rw [HY1.out.1, hlk]; rfl) ((HYW.out.below HG8.out).below g) ((HAw0.out.below HG8.out).below g))
                      subst hisT
                      clear hlk
                      go_wp2_with fail
                      refine wp_region_grow (by kernel_rfl) (by kernel_rfl) ?_
                      repeat (go_big_quiet_step (first | (go_at_call 14; exact quiet_gr (HPl.out _)) | (go_at_call 13; exact quiet_gr (HTa.out _ (HAw.out.below (GrT.h _)))) | (go_at_call 15; exact quiet_gr (HSe2.out _ (GrT.h _)))))
                      refine wpQuiet_nil ?_
                      rintro w9 hw'
                      have g9 := gr_elim hw'
                      clear hw'
                      have HG9 : Hid (Below U.heap.size U w9) := btr HG8.out g9 (Nat.le_refl _)
                      clear g9 a0 a1 a2 a3 a4 a5 a6 a7 a8 a9 y0 y1 y2 y3 y4 y5 y6 y7 y8 y9
                      go_wp2_with fail
                      go_roundw
                      case rel => exact ⟨k + 1, by omega, HF2.out, by go_num, HG9.out⟩
                      case measure => simp [intOf]; omega
              · have hkm' : k = m.length := by omega
                subst hkm'
                have HFe : Hid (((m.take m.length).any fun x => Mt.takesB x.p.lt s) = is) := (show _ = _ by rw [HIs.out, ← HM0.out.2.1, look_any_iff, List.take_length])
                have HLr : Hid (LI W wr (w.heap.size + 1) S room P) := HLU.out.below hG5
                clear hG5
                have hne : (is != is) = false := by simp
                rw [HFe.out]
                go_wp2_with fail
                go_roundw
                case rel => exact ⟨n + 1, by omega, by go_num, HLr.out⟩
                case measure => simp [intOf]; omega
          · have h7 : ¬ ((n : Int) ≤ 7) := by omega
            go_wp2_with fail
            refine (HA.out _ HL.out.bl).mono ?_
            rintro e w3 ⟨rfl, g3⟩
            have HG3 : Hid (Below w.heap.size w w3) := btr (HGW.out.trans (HL.out.bl.mono (by omega))) g3 (by have := HGW.out.size; have := HL.out.bl.size; omega)
            clear g3
            go_wp2_with fail
            go_ret
            exact ⟨rfl, HG3.out⟩
end Go.Proofs.YtjjfhibkcngphaaDoor

/-
  GroupRuns: the law's function, walked.
-/
import Derived.Test.YteodlkgbakkjmaaDoorRunP
namespace Go.Proofs.YteodlkgbakkjmaaDoor
open Go.ChangeShapes Go.WideShapes Go.ChangeAt Go.RowKit Go.Maps
set_option linter.unusedVariables false

theorem take_filt (S : List Gr) (T : List Gr) (m : Nat) (h : m < S.length) : (S.take (m + 1)).filter (ldB T) = (S.take m).filter (ldB T) ++ (if ldB T S[m] = true then [S[m]] else []) := by
  rw [List.take_succ_eq_append_getElem h, List.filter_append]
  congr 1
  by_cases hf : ldB T S[m] = true <;> simp [hf]
theorem strip_len : ∀ (n : Nat) (S : List Gr), (stripN n S).length ≤ S.length
  | 0, S => Nat.le_refl _
  | n + 1, S => by
    rw [stripN]
    exact Nat.le_trans (strip_len n _) (List.length_filter_le _ _)
set_option maxRecDepth 20000 in
set_option maxHeartbeats 32000000 in
theorem runs_walk (room : Int) (oa : Option Addr) (ol : List Ask) (oc : Nat) (w : World) (hrm : -9223372036854775808 ≤ room ∧ room < 9223372036854775808) (hO : AsksAt w oa ol) (hG : ∀ t ∈ ol, GIn w t.g) (hd : Cd w) :
    Calls Tryd.prog 5 #[.int .i64 room, .slice oa ol.length oc] w fun e w' => e = .returned (.bool true) ∧ Below w.heap.size w w' := by
  have HAw : Hid (∀ w1, Below w.heap.size w w1 → Calls Tryd.prog 10 #[] w1 fun e w' => e = .returned (.bool true) ∧ Below w1.heap.size w1 w') := (show ∀ w1, _ from fun w1 k => awake_any w1 (hd.below k))
  cases hin : inB room 1 64 with
  | false =>
    have HNo : Hid (Calls Tryd.prog 8 #[.int .i64 room] w fun e w' => e = .returned (.tuple #[.pointer none, .int .i64 1]) ∧ w' = w) := new_no room w hin
    by_cases h1 : room < 1
    · have hb : decide (room < 1) = true := decide_eq_true h1
      clear hin h1 hO hG hd hrm
      go_enter Tryd.func5, Tryd.ntmps5
      go_wp2_with fail
      refine HNo.out.mono ?_
      rintro e w1 ⟨rfl, rfl⟩
      go_wp2_with fail
      refine (HAw.out _ (Below.refl _ _)).mono ?_
      rintro e w9 ⟨rfl, g9⟩
      go_wp2_with fail
      go_ret
      exact ⟨rfl, g9⟩
    · have hb : decide (room < 1) = false := decide_eq_false h1
      have hb2 : decide (64 < room) = true := decide_eq_true (by
        unfold inB at hin
        simp at hin
        omega)
      clear hin h1 hO hG hd hrm
      go_enter Tryd.func5, Tryd.ntmps5
      go_wp2_with fail
      refine HNo.out.mono ?_
      rintro e w1 ⟨rfl, rfl⟩
      go_wp2_with fail
      refine (HAw.out _ (Below.refl _ _)).mono ?_
      rintro e w9 ⟨rfl, g9⟩
      go_wp2_with fail
      go_ret
      exact ⟨rfl, g9⟩
  | true =>
    obtain ⟨hr1, hr2⟩ := in_pos hin
    have HNo : Hid (Calls Tryd.prog 8 #[.int .i64 room] w fun e w' => e = .returned (.tuple #[ptr (w.heap.size + 1), .int .i64 0]) ∧ RunI w (w.heap.size + 1) w.heap.size room [] w') := (show Calls _ _ _ _ _ by
      refine (new_yes room w hin).mono ?_
      rintro e w' ⟨rfl, ht, hb⟩
      exact ⟨rfl, runI_new w ht hb hd hr1⟩)
    have HFew : Hid (∀ (g : Gr) w1, GIn w g → Below w.heap.size w w1 → Calls Tryd.prog 11 #[gV g] w1 fun e w' => e = .returned (.bool (fewB g.l)) ∧ Below w1.heap.size w1 w') := (show ∀ (g : Gr) w1, _ from fun g w1 hg k => few_any g w1 (hg.bs.below k))
    have HO : Hid (∀ w1, Below w.heap.size w w1 → ∀ q (hq : q < ol.length), ∃ g o, oa = some ⟨g, o, none⟩ ∧ g < w1.heap.size ∧ w1.cell? ⟨g, o + q * 4, none⟩ = some (.int .i64 ol[q].ask) ∧ w1.cell? ⟨g, o + q * 4 + 1, none⟩ = some (.int .i64 ol[q].g.id) ∧ w1.cell? ⟨g, o + q * 4 + 1 + 1, none⟩ = some (.int .i64 ol[q].g.kd) ∧ w1.cell? ⟨g, o + q * 4 + 1 + 2, none⟩ = some (.slice ol[q].g.a ol[q].g.l.length ol[q].g.c)) := (show ∀ w1, _ from fun w1 k q hq => asks_at hO k hq)
    have HGI : Hid (∀ t ∈ ol, GIn w t.g) := hG
    have HRm : Hid (room ≤ 64) := hr2
    clear hin hO hG hd
    go_enter Tryd.func5, Tryd.ntmps5
    go_wp2_with fail
    refine HNo.out.mono ?_
    rintro e w1 ⟨rfl, hRI⟩
    have H0 : Hid (RunI w (w.heap.size + 1) w.heap.size room [] w1) := hRI
    clear hRI HNo
    go_wp2_with fail
    go_loopw [7] (fun v wr => ∃ (q : Nat) (L : List Gr), q ≤ ol.length ∧ q ≤ 40 ∧ v = .int .i64 q ∧ Hid (RunI w (w.heap.size + 1) w.heap.size room L wr)) (fun v _ => 41 - (intOf v).toNat)
    case atStart => exact ⟨0, [], Nat.zero_le _, Nat.zero_le _, rfl, H0⟩
    case round =>
      obtain ⟨q, L, hq, hq40, rfl, HI⟩ := hrel
      by_cases hgo : q < ol.length ∧ q < 40
      · obtain ⟨hlt, h40⟩ := hgo
        have hb1 : decide ((q : Int) < (ol.length : Int)) = true := decide_eq_true (by omega)
        have hb2 : decide ((q : Int) < 40) = true := decide_eq_true (by omega)
        obtain ⟨ob, oo, rfl, hob, d0, d1, d2, d3⟩ := HO.out _ HI.out.b q hlt
        have HOq : Hid (∀ w1, Below w.heap.size w w1 → ob < w1.heap.size ∧ w1.cell? ⟨ob, oo + q * 4, none⟩ = some (.int .i64 ol[q].ask) ∧ w1.cell? ⟨ob, oo + q * 4 + 1, none⟩ = some (.int .i64 ol[q].g.id) ∧ w1.cell? ⟨ob, oo + q * 4 + 1 + 1, none⟩ = some (.int .i64 ol[q].g.kd) ∧ w1.cell? ⟨ob, oo + q * 4 + 1 + 2, none⟩ = some (.slice ol[q].g.a ol[q].g.l.length ol[q].g.c)) := (show ∀ w1, _ from fun w1 k => by
          obtain ⟨ob', oo', e, h1, h2⟩ := HO.out w1 k q hlt
          cases e
          exact ⟨h1, h2⟩)
        have hgi := HGI.out _ (List.getElem_mem hlt)
        have HF : Hid (Calls Tryd.prog 11 #[gV ol[q].g] wr fun e w' => e = .returned (.bool (fewB ol[q].g.l)) ∧ Below wr.heap.size wr w') := HFew.out _ wr hgi HI.out.b
        have HAdd : Hid (fewB ol[q].g.l = true → ∀ w1, RunI w (w.heap.size + 1) w.heap.size room L w1 → Calls Tryd.prog 12 #[ptr (w.heap.size + 1), gV ol[q].g] w1 fun e w' => ∃ er L', e = .returned (.int .i64 er) ∧ RunI w (w.heap.size + 1) w.heap.size room L' w') := (show _ → ∀ w1, _ from fun hf w1 h => by
          refine (h.add (Nat.le_refl _) HRm.out _ hgi hf).mono ?_
          rintro e w' ⟨he, L', h1, _⟩
          exact ⟨_, L', he, h1⟩)
        have HMod : Hid (fewB ol[q].g.l = true → ∀ w1, RunI w (w.heap.size + 1) w.heap.size room L w1 → Calls Tryd.prog 14 #[ptr (w.heap.size + 1), gV ol[q].g] w1 fun e w' => ∃ er L', e = .returned (.int .i64 er) ∧ RunI w (w.heap.size + 1) w.heap.size room L' w') := (show _ → ∀ w1, _ from fun hf w1 h => by
          refine (h.mod (Nat.le_refl _) HRm.out _ hgi hf).mono ?_
          rintro e w' ⟨he, L', h1, _⟩
          exact ⟨_, L', he, h1⟩)
        have HDel : Hid (∀ w1, RunI w (w.heap.size + 1) w.heap.size room L w1 → Calls Tryd.prog 16 #[ptr (w.heap.size + 1), .int .i64 ol[q].g.id] w1 fun e w' => ∃ er L', e = .returned (.int .i64 er) ∧ RunI w (w.heap.size + 1) w.heap.size room L' w') := (show ∀ w1, _ from fun w1 h => by
          refine (h.del (Nat.le_refl _) _ hgi).mono ?_
          rintro e w' ⟨he, L', h1, _⟩
          exact ⟨_, L', he, h1⟩)
        clear hgi
        generalize ol[q] = X at *
        obtain ⟨ask, ⟨gi, gk, ga, gl, gc⟩⟩ := X
        simp only at d0 d1 d2 d3 HOq HF HAdd HMod HDel
        go_wp2_with fail
        refine HF.out.mono ?_
        rintro e w2 ⟨rfl, g2⟩
        have HI2 : Hid (RunI w (w.heap.size + 1) w.heap.size room L w2) := HI.out.grow g2
        obtain ⟨hob2, f0, f1, f2, f3⟩ := HOq.out _ HI2.out.b
        clear g2 d0 d1 d2 d3 hob
        cases hfw : fewB gl with
        | false =>
          have G2 := HI2.out.b
          go_wp2_with fail
          refine (HAw.out _ G2).mono ?_
          rintro e w9 ⟨rfl, g9⟩
          have G9 := btr G2 g9 (Nat.le_refl _)
          clear g9
          go_wp2_with fail
          go_ret
          exact ⟨rfl, G9⟩
        | true =>
          by_cases ha0 : ask = 0
          · have hab : (ask == 0) = true := by simp [ha0]
            clear ha0
            go_wp2_with fail
            refine (HAdd.out hfw w2 HI2.out).mono ?_
            rintro e w3 ⟨er, L', rfl, h3⟩
            have HI3 : Hid (RunI w (w.heap.size + 1) w.heap.size room L' w3) := h3
            clear h3 f0 f1 f2 f3
            go_wp2_with fail
            go_roundw
            case rel => exact ⟨q + 1, L', by omega, by omega, by go_num, HI3⟩
            case measure => simp [intOf]; omega
          · have hab : (ask == 0) = false := by simp [ha0]
            by_cases ha1 : ask = 1
            · have hab1 : (ask == 1) = true := by simp [ha1]
              clear ha0 ha1
              go_wp2_with fail
              refine (HMod.out hfw w2 HI2.out).mono ?_
              rintro e w3 ⟨er, L', rfl, h3⟩
              have HI3 : Hid (RunI w (w.heap.size + 1) w.heap.size room L' w3) := h3
              clear h3 f0 f1 f2 f3
              go_wp2_with fail
              go_roundw
              case rel => exact ⟨q + 1, L', by omega, by omega, by go_num, HI3⟩
              case measure => simp [intOf]; omega
            · have hab1 : (ask == 1) = false := by simp [ha1]
              clear ha0 ha1
              go_wp2_with fail
              refine (HDel.out w2 HI2.out).mono ?_
              rintro e w3 ⟨er, L', rfl, h3⟩
              have HI3 : Hid (RunI w (w.heap.size + 1) w.heap.size room L' w3) := h3
              clear h3 f0 f1 f2 f3
              go_wp2_with fail
              go_roundw
              case rel => exact ⟨q + 1, L', by omega, by omega, by go_num, HI3⟩
              case measure => simp [intOf]; omega
      · have HLs : Hid (Calls Tryd.prog 22 #[ptr (w.heap.size + 1)] wr fun e w' => ∃ a c r, e = .returned (.slice a r.length c) ∧ r.map Gr.p = L.map Gr.p ∧ r.length ≤ c ∧ Gs w' a r ∧ Below wr.heap.size wr w') := list_any wr HI.out.t (HI.out.len HRm.out)
        have hgb : ol.length ≤ q ∨ (q < ol.length ∧ 40 ≤ q) := by omega
        clear hgo
        rcases hgb with hb1 | ⟨hb1, hb2⟩
        all_goals
          go_wp2_with fail
          refine HLs.out.mono ?_
          rintro e w2 ⟨la, lc, r, rfl, hp, hrc, hgs, g2⟩
          have hI2 := HI.out.grow g2
          have hrl : r.length = L.length := by have := congrArg List.length hp; simpa using this
          have hL64 := HI.out.len HRm.out
          have hln := HI.out.i.ln
          have hrb : decide (room < (r.length : Int)) = false := decide_eq_false (by omega)
          obtain ⟨hth, hok⟩ := thR_of hI2 hp
          obtain ⟨rk, hrk⟩ := HI.out.i.rk
          have HSt : Hid (stripN r.length r = []) := strip_none r.length r (hrk.of hp) (Nat.le_refl _)
          have HTh : Hid (∀ w', Below w2.heap.size w2 w' → Calls Tryd.prog 26 #[ptr (w.heap.size + 1), .slice la r.length lc] w' fun e w'' => e = .returned (.bool true) ∧ Below w'.heap.size w' w'') := (show ∀ w', _ from fun w' k => lthere_any la r lc w' (hI2.t.below k) (hgs.below k) (by omega) hth)
          have HOk : Hid (∀ x ∈ r, rightE x.p = 0 ∧ Bs w2 x.a x.l ∧ Sm x.l) := (show ∀ x, _ from fun x hx => ⟨hok x hx, hgs.bs x hx, hgs.sm x hx⟩)
          have HB2 : Hid (Below w.heap.size w w2) := hI2.b
          have HGs : Hid (Gs w2 la r) := hgs
          have HL0 : Hid (LfI w2 r (.slice none 0 0) [] w2) := (show LfI _ _ _ _ _ from ⟨World.ownsRow_nil _ _ _ _, Below.refl _ _, by simp⟩)
          have hr64 : r.length ≤ 64 := by omega
          clear hp hgs g2 hI2 hln hth hok hrk hrl hL64
          go_wp2_with (at_builtin; refine (wpList_appGs rfl _ _ rfl w2 r (.slice none 0 0) [] rfl HL0.out la lc r r.length rfl rfl HGs.out.cs (by simp; omega) (fun _ h => h) ?_); intro v3 w3 hl3)
          have HL3 : Hid (LfI w2 r v3 (stripN 0 r) w3) := hl3
          clear hl3 HL0
          go_wp2_with fail
          go_loopw [9, 10] (fun v9 v wr2 => ∃ n : Nat, n ≤ r.length ∧ v = .int .i64 n ∧ Hid (LfI w2 r v9 (stripN n r) wr2)) (fun _ v _ => r.length - (intOf v).toNat)
          case atStart => exact ⟨0, Nat.zero_le _, rfl, HL3⟩
          case round =>
            obtain ⟨n, hn, rfl, HS⟩ := hrel
            by_cases hnt : n < r.length
            · obtain ⟨a9, c9, e9, hc9, hgs9⟩ := HS.out.gs (fun x hx => (HOk.out x hx).2)
              have HStn : Hid (stripN (n + 1) r = (stripN n r).filter (ldB (stripN n r))) := stripN_succ n r
              have hSl : (stripN n r).length ≤ r.length := strip_len n r
              have HSub : Hid (∀ x ∈ stripN n r, x ∈ r) := HS.out.sub
              have HSb : Hid (Below w2.heap.size w2 wr) := HS.out.bel
              have HG9 : Hid (Gs wr a9 (stripN n r)) := hgs9
              generalize stripN n r = S at *
              rw [e9]
              obtain ⟨W3, hW3⟩ : ∃ x, x = wr := ⟨_, rfl⟩
              rw [← hW3] at HG9 HSb ⊢
              have HI0 : Hid (LfI W3 r (.slice none 0 0) ((S.take 0).filter (ldB S)) W3) := (show LfI _ _ _ _ _ from ⟨by simp [flatG, World.ownsRow_nil], Below.refl _ _, by simp⟩)
              clear hgs9 e9 HS hW3
              go_wp2_with fail
              go_loopw [11, 12] (fun v11 v wr3 => ∃ m : Nat, m ≤ S.length ∧ v = .int .i64 m ∧ Hid (LfI W3 r v11 ((S.take m).filter (ldB S)) wr3)) (fun _ v _ => S.length - (intOf v).toNat)
              case atStart => exact ⟨0, Nat.zero_le _, rfl, HI0⟩
              case round =>
                obtain ⟨m, hm, rfl, HT⟩ := hrel
                by_cases hmt : m < S.length
                · obtain ⟨sb, so, rfl, hsb, hsc⟩ := (HG9.out.below HT.out.bel).at hmt
                  obtain ⟨d0, d1, d2⟩ := hsc m hmt
                  have hxr := HSub.out _ (List.getElem_mem hmt)
                  have HLd : Hid (Calls Tryd.prog 25 #[gV S[m], .slice (some ⟨sb, so, none⟩) S.length c9] wr fun e w' => e = .returned (.bool (ldB S S[m])) ∧ Below wr.heap.size wr w') := (show Calls _ _ _ _ _ from lleads_any S[m] _ S c9 wr ((HOk.out _ hxr).2.1.below (btr HSb.out HT.out.bel (Nat.le_refl _))) (HOk.out _ hxr).2.2 (HOk.out _ hxr).1 (HG9.out.below HT.out.bel) (by omega))
                  have HTf : Hid ((S.take (m + 1)).filter (ldB S) = (S.take m).filter (ldB S) ++ (if ldB S S[m] = true then [S[m]] else [])) := take_filt S S m hmt
                  have HCl : Hid (∀ w', Below W3.heap.size W3 w' → sb < w'.heap.size ∧ w'.cell? ⟨sb, so + m * 3, none⟩ = some (.int .i64 S[m].id) ∧ w'.cell? ⟨sb, so + m * 3 + 1, none⟩ = some (.int .i64 S[m].kd) ∧ w'.cell? ⟨sb, so + m * 3 + 2, none⟩ = some (.slice S[m].a S[m].l.length S[m].c)) := (show ∀ w', _ from fun w' k => by
                    obtain ⟨sb', so', e, hsb', hsc'⟩ := (HG9.out.below k).at hmt
                    cases e
                    exact ⟨hsb', hsc' m hmt⟩)
                  have HXr : Hid (S[m] ∈ r) := hxr
                  have hTl : ((S.take m).filter (ldB S)).length ≤ 100 := by
                    have h1 := List.length_filter_le (ldB S) (S.take m)
                    rw [List.length_take] at h1
                    omega
                  clear hsc hxr
                  generalize ldB S S[m] = LB at *
                  generalize S[m] = X at *
                  obtain ⟨xi, xk, xa, xl, xc⟩ := X
                  simp only at d0 d1 d2 HLd HTf HCl HXr
                  go_wp2_with fail
                  refine HLd.out.mono ?_
                  rintro e w5 ⟨rfl, g5⟩
                  have HT5 : Hid (LfI W3 r u11 ((S.take m).filter (ldB S)) w5) := HT.out.grow g5
                  obtain ⟨hsb5, f0, f1, f2⟩ := HCl.out _ HT5.out.bel
                  clear g5 d0 d1 d2 HT hsb
                  cases LB with
                  | true =>
                    have HTf1 : Hid ((S.take (m + 1)).filter (ldB S) = (S.take m).filter (ldB S) ++ [Gr.mk xi xk xa xl xc]) := (show _ = _ by rw [HTf.out]; simp)
                    have HT6 : Hid (LfI W3 r u11 ((S.take m).filter (ldB S)) (w5.alloc (.cells #[.int .i64 xi, .int .i64 xk, .slice xa xl.length xc] 33))) := (show LfI _ _ _ _ _ from HT5.out.grow (by go_grown))
                    clear HT5 HTf
                    go_wp2_with (at_builtin; refine wpList_appGs rfl _ _ rfl W3 r u11 _ rfl HT6.out (some ⟨w5.heap.size, 0, none⟩) 1 [Gr.mk xi xk xa xl xc] 1 rfl rfl (.inr ⟨w5.heap.size, 0, rfl, by simp, fun i hi => by (have : i = 0 := by simpa using hi); subst this; exact ⟨by simp, by simp, by simp⟩⟩) (by simp; omega) (fun y hy => by simp at hy; subst hy; exact HXr.out) ?_; intro v7 w7 hl7)
                    have HT7 : Hid (LfI W3 r v7 ((S.take (m + 1)).filter (ldB S)) w7) := (show LfI _ _ _ _ _ by rw [HTf1.out]; exact hl7)
                    clear hl7 HT6 HTf1 f0 f1 f2
                    go_wp2_with fail
                    go_roundw
                    case rel => exact ⟨m + 1, by omega, by go_num, HT7⟩
                    case measure => simp [intOf]; omega
                  | false =>
                    have HT7 : Hid (LfI W3 r u11 ((S.take (m + 1)).filter (ldB S)) w5) := (show LfI _ _ _ _ _ by rw [HTf.out]; simpa using HT5.out)
                    clear HT5 HTf f0 f1 f2
                    go_wp2_with fail
                    go_roundw
                    case rel => exact ⟨m + 1, by omega, by go_num, HT7⟩
                    case measure => simp [intOf]; omega
                · have e : m = S.length := by omega
                  subst e
                  have HN : Hid (LfI w2 r u11 (stripN (n + 1) r) wr) := (show LfI _ _ _ _ _ by
                    have h1 := HT.out
                    rw [List.take_length] at h1
                    rw [HStn.out]
                    exact ⟨own_mono h1.row HSb.out.size, btr HSb.out h1.bel (Nat.le_refl _), h1.sub⟩)
                  clear HT
                  go_wp2_with fail
                  go_roundw
                  case rel => exact ⟨n + 1, by omega, by go_num, HN⟩
                  case measure => simp [intOf]; omega
            · have e : n = r.length := by omega
              subst e
              have h1 := HS.out
              rw [HSt.out] at h1
              obtain ⟨a9, c9, e9, _, _⟩ := h1.gs (fun x hx => (HOk.out x hx).2)
              have HB9 : Hid (Below w2.heap.size w2 wr) := h1.bel
              rw [e9]
              clear h1 e9 HS
              go_wp2_with fail
              refine (HTh.out _ HB9.out).mono ?_
              rintro e w8 ⟨rfl, g8⟩
              have G8 : Below w.heap.size w w8 := btr (btr HB2.out HB9.out (Nat.le_refl _)) g8 (Nat.le_refl _)
              clear g8
              go_wp2_with fail
              refine (HAw.out _ G8).mono ?_
              rintro e w9 ⟨rfl, g9⟩
              have G9 := btr G8 g9 (Nat.le_refl _)
              clear g9
              go_wp2_with fail
              go_ret
              exact ⟨rfl, G9⟩
end Go.Proofs.YteodlkgbakkjmaaDoor

/-
  GroupPlays: the law's function, walked.
-/
import Derived.Test.YteodlkgbakkjmaaDoorPlayP
import Derived.Deep.CutBlock
import Derived.Deep.RegionHeld3
namespace Go.Proofs.YteodlkgbakkjmaaDoor
open Go.ChangeShapes Go.WideShapes Go.ChangeAt Go.RowKit Go.Maps
set_option linter.unusedVariables false
open scoped Classical

set_option maxRecDepth 20000 in
set_option maxHeartbeats 64000000 in
theorem plays_walk (room : Int) (oa : Option Addr) (ol : List Ask) (oc : Nat) (w : World) (hrm : -9223372036854775808 ≤ room ∧ room < 9223372036854775808) (hO : AsksAt w oa ol) (hG : ∀ t ∈ ol, GIn w t.g) (hd : Cd w) :
    Calls Tryd.prog 3 #[.int .i64 room, .slice oa ol.length oc] w fun e w' => e = .returned (.bool true) ∧ Below w.heap.size w w' := by
  have HAw : Hid (∀ w1, Below w.heap.size w w1 → Calls Tryd.prog 10 #[] w1 fun e w' => e = .returned (.bool true) ∧ Below w1.heap.size w1 w') := (show ∀ w1, _ from fun w1 k => awake_any w1 (hd.below k))
  cases hin : inB room 1 64 with
  | false =>
    have HNo : Hid (Calls Tryd.prog 8 #[.int .i64 room] w fun e w' => e = .returned (.tuple #[.pointer none, .int .i64 1]) ∧ w' = w) := new_no room w hin
    have HNr : Hid (Calls Tryd.prog 9 #[.int .i64 room] w fun e w' => e = .returned (.tuple #[.pointer none, .int .i64 1]) ∧ w' = w) := rnew_no room w hin
    clear hin hO hG hd hrm
    go_enter Tryd.func3, Tryd.ntmps3
    go_wp2_with fail
    refine HNo.out.mono ?_
    rintro e w1 ⟨rfl, rfl⟩
    go_wp2_with fail
    refine HNr.out.mono ?_
    rintro e w2 ⟨rfl, rfl⟩
    go_wp2_with fail
    refine (HAw.out _ (Below.refl _ _)).mono ?_
    rintro e w9 ⟨rfl, g9⟩
    go_wp2_with fail
    go_ret
    exact ⟨rfl, g9⟩
  | true =>
    obtain ⟨hr1, hr2⟩ := in_pos hin
    have HNo : Hid (Calls Tryd.prog 8 #[.int .i64 room] w fun e w' => e = .returned (.tuple #[ptr (w.heap.size + 1), .int .i64 0]) ∧ RunI w (w.heap.size + 1) w.heap.size room [] w') := (show Calls _ _ _ _ _ by
      refine (new_yes room w hin).mono ?_
      rintro e w' ⟨rfl, ht, hb⟩
      exact ⟨rfl, runI_new w ht hb hd hr1⟩)
    have HNr : Hid (∀ w1, RunI w (w.heap.size + 1) w.heap.size room [] w1 → Calls Tryd.prog 9 #[.int .i64 room] w1 fun e w' => e = .returned (.tuple #[ptr w1.heap.size, .int .i64 0]) ∧ PI w w1.heap.size room (.slice none 0 0) [] [] w') := (show ∀ w1, _ from fun w1 hI => by
      refine (rnew_yes room w1 hin).mono ?_
      rintro e w' ⟨rfl, rfl⟩
      exact ⟨rfl, ⟨hI.grow (by go_grown), rt_new w w1 room hI.b, hI.t.lt, by simp [Value.ownBlock], by simp⟩⟩)
    have HFew : Hid (∀ (g : Gr) w1, GIn w g → Below w.heap.size w w1 → Calls Tryd.prog 11 #[gV g] w1 fun e w' => e = .returned (.bool (fewB g.l)) ∧ Below w1.heap.size w1 w') := (show ∀ (g : Gr) w1, _ from fun g w1 hg k => few_any g w1 (hg.bs.below k))
    have HO : Hid (∀ w1, Below w.heap.size w w1 → ∀ q (hq : q < ol.length), ∃ g o, oa = some ⟨g, o, none⟩ ∧ g < w1.heap.size ∧ w1.cell? ⟨g, o + q * 4, none⟩ = some (.int .i64 ol[q].ask) ∧ w1.cell? ⟨g, o + q * 4 + 1, none⟩ = some (.int .i64 ol[q].g.id) ∧ w1.cell? ⟨g, o + q * 4 + 1 + 1, none⟩ = some (.int .i64 ol[q].g.kd) ∧ w1.cell? ⟨g, o + q * 4 + 1 + 2, none⟩ = some (.slice ol[q].g.a ol[q].g.l.length ol[q].g.c)) := (show ∀ w1, _ from fun w1 k q hq => asks_at hO k hq)
    have HGI : Hid (∀ t ∈ ol, GIn w t.g) := hG
    have HRm : Hid (room ≤ 64) := hr2
    have HD : Hid (Cd w) := hd
    clear hin hO hG hd
    go_enter Tryd.func3, Tryd.ntmps3
    go_wp2_with fail
    refine HNo.out.mono ?_
    rintro e w1 ⟨rfl, hRI⟩
    have HN2 : Hid (Calls Tryd.prog 9 #[.int .i64 room] w1 fun e w' => e = .returned (.tuple #[ptr w1.heap.size, .int .i64 0]) ∧ PI w w1.heap.size room (.slice none 0 0) [] [] w') := HNr.out w1 hRI
    clear hRI HNo HNr
    go_wp2_with fail
    refine HN2.out.mono ?_
    rintro e w2 ⟨rfl, hPI⟩
    clear HN2
    generalize w1.heap.size = rb at *
    have H0 : Hid (PI w rb room (.slice none 0 0) [] [] w2) := hPI
    clear hPI
    go_wp2_with fail
    go_loopw [9] (fun v wr => ∃ (q : Nat) (rv : Value) (L Q : List Gr), q ≤ ol.length ∧ q ≤ 60 ∧ v = .int .i64 q ∧ Hid (PI w rb room rv L Q wr ∧ L.map Gr.p = Q.map Gr.p)) (fun v _ => 61 - (intOf v).toNat)
    case atStart => exact ⟨0, .slice none 0 0, [], [], Nat.zero_le _, Nat.zero_le _, rfl, (show _ ∧ _ from ⟨H0.out, rfl⟩)⟩
    case round =>
      obtain ⟨q, rv, L, Q, hq, hq60, rfl, HI⟩ := hrel
      have G0 := HI.out.1.r.b
      by_cases hgo : q < ol.length ∧ q < 60
      · obtain ⟨hlt, h60⟩ := hgo
        have hb1 : decide ((q : Int) < (ol.length : Int)) = true := decide_eq_true (by omega)
        have hb2 : decide ((q : Int) < 60) = true := decide_eq_true (by omega)
        obtain ⟨ob, oo, rfl, hob, d0, d1, d2, d3⟩ := HO.out _ G0 q hlt
        have hgi := HGI.out _ (List.getElem_mem hlt)
        have HGi : Hid (GIn w ol[q].g) := hgi
        clear hgi
        have HOq : Hid (∀ w1, Below w.heap.size w w1 → ob < w1.heap.size ∧ w1.cell? ⟨ob, oo + q * 4, none⟩ = some (.int .i64 ol[q].ask) ∧ w1.cell? ⟨ob, oo + q * 4 + 1, none⟩ = some (.int .i64 ol[q].g.id) ∧ w1.cell? ⟨ob, oo + q * 4 + 1 + 1, none⟩ = some (.int .i64 ol[q].g.kd) ∧ w1.cell? ⟨ob, oo + q * 4 + 1 + 2, none⟩ = some (.slice ol[q].g.a ol[q].g.l.length ol[q].g.c)) := (show ∀ w1, _ from fun w1 k => by
          obtain ⟨ob', oo', e, h1, h2⟩ := HO.out w1 k q hlt
          cases e
          exact ⟨h1, h2⟩)
        generalize ol[q] = X at *
        obtain ⟨ask, ⟨gi, gk, ga, gl, gc⟩⟩ := X
        simp only at *
        have hPt := HI.out.1.t
        have hmb := HI.out.1.r.t.mlt
        have Hne : Hid (wr.heap.size ≠ w.heap.size ∧ wr.heap.size ≠ rb ∧ rv.ownBlock ≠ some wr.heap.size) := (show _ ∧ _ ∧ _ from ⟨by omega, by have := hPt.lt; omega, fun e => by have := (hPt.row.lt _ e).2; omega⟩)
        have HQ : Hid (Q.length ≤ 64 ∧ Cl Q) := (show _ ∧ _ from ⟨HI.out.1.len HRm.out HI.out.2, cl_pp HI.out.2 HI.out.1.r.i.cl⟩)
        obtain ⟨V, hV⟩ : ∃ V, wr.alloc (.cells #[.int .i64 gi, .int .i64 gk, .slice ga gl.length gc] 33) = V := ⟨_, rfl⟩
        have kV : Below wr.heap.size wr V := by rw [← hV]; go_grown
        have hcg := Cg.new wr ⟨gi, gk, ga, gl, gc⟩
        have hcg : Cg V wr.heap.size 0 ⟨gi, gk, ga, gl, gc⟩ := by rw [← hV]; exact hcg
        have hzV : wr.heap.size < V.heap.size := by rw [← hV]; simp
        have HV : Hid (wr.alloc (.cells #[.int .i64 gi, .int .i64 gk, .slice ga gl.length gc] 33) = V) := hV
        have HIV : Hid (PI w rb room rv L Q V ∧ L.map Gr.p = Q.map Gr.p) := (show _ ∧ _ from ⟨HI.out.1.grow kV, HI.out.2⟩)
        have HF : Hid (Calls Tryd.prog 11 #[gV ⟨gi, gk, ga, gl, gc⟩] V fun e w' => e = .returned (.bool (fewB gl)) ∧ Below V.heap.size V w') := HFew.out _ V HGi.out HIV.out.1.r.b
        have HX : Hid (∀ w', Below V.heap.size V w' → Cg w' wr.heap.size 0 ⟨gi, gk, ga, gl, gc⟩ ∧ wr.heap.size < w'.heap.size) := (show ∀ w', _ from fun w' k => ⟨hcg.below hzV k, Nat.lt_of_lt_of_le hzV k.size⟩)
        obtain ⟨v0, v1, v2⟩ := hcg
        clear G0 hV kV hPt hmb HI
        go_wp2_with fail
        rw [HV.out]
        refine HF.out.mono ?_
        rintro e w2 ⟨rfl, g2⟩
        have HI2 : Hid (PI w rb room rv L Q w2 ∧ L.map Gr.p = Q.map Gr.p) := (show _ ∧ _ from ⟨HIV.out.1.grow g2, HIV.out.2⟩)
        have hx2 := HX.out w2 g2
        have HX2 : Hid (Cg w2 wr.heap.size 0 ⟨gi, gk, ga, gl, gc⟩ ∧ wr.heap.size < w2.heap.size) := hx2
        obtain ⟨⟨b0, b1, b2⟩, bz⟩ := hx2
        obtain ⟨hob2, f0, f1, f2, f3⟩ := HOq.out _ HI2.out.1.r.b
        clear g2 d0 d1 d2 d3 hob v0 v1 v2 hzV HX HV HF HIV
        generalize wr.heap.size = gb at *
        cases hfw : fewB gl with
        | false =>
          have G2 := HI2.out.1.r.b
          go_wp2_with fail
          refine (HAw.out _ G2).mono ?_
          rintro e w9 ⟨rfl, g9⟩
          have G9 := btr G2 g9 (Nat.le_refl _)
          clear g9
          go_wp2_with fail
          go_ret
          exact ⟨rfl, G9⟩
        | true =>
          have HFw : Hid (fewB gl = true) := hfw
          clear hfw
          go_upto_block 2 with fail
          go_cut [11, 12] from 40 to 125 (fun a b wx => ∃ (AE : Int) (rv' : Value) (L' Q' : List Gr), a = .int .i64 AE ∧ b = .int .i64 AE ∧ Hid (PI w rb room rv' L' Q' wx ∧ L'.map Gr.p = Q'.map Gr.p ∧ Cg wx gb 0 ⟨gi, gk, ga, gl, gc⟩ ∧ gb < wx.heap.size))
          case first =>
            by_cases ha0 : ask = 0
            · have hab : (ask == 0) = true := by simp [ha0]
              clear ha0
              have H1 := HI2.out.1.add1 HI2.out.2 HRm.out ⟨gi, gk, ga, gl, gc⟩ HGi.out HFw.out
              have HC1 : Hid (Calls Tryd.prog 12 #[ptr (w.heap.size + 1), gV ⟨gi, gk, ga, gl, gc⟩] w2 fun e w' => e = .returned (.int .i64 (addE room Q ⟨gi, gk, ga, gl, gc⟩)) ∧ ∃ L', PI w rb room rv L' Q w' ∧ L'.map Gr.p = addM room Q ⟨gi, gk, ga, gl, gc⟩ ∧ KeepP w w2 w') := H1
              clear H1
              go_wp2_with fail
              refine HC1.out.mono ?_
              rintro e w3 ⟨rfl, L', hI3, hM3, hK3⟩
              have hx3 : Cg w3 gb 0 ⟨gi, gk, ga, gl, gc⟩ := HX2.out.1.block (hK3.2 gb HX2.out.2 Hne.out.1)
              have hz3 : gb < w3.heap.size := Nat.lt_of_lt_of_le HX2.out.2 hK3.1
              have HX3 : Hid (Cg w3 gb 0 ⟨gi, gk, ga, gl, gc⟩ ∧ gb < w3.heap.size) := (show _ ∧ _ from ⟨hx3, hz3⟩)
              have H2 := hI3.add2 HD.out HQ.out.1 ⟨gi, gk, ga, gl, gc⟩ HGi.out HFw.out
              have HC2 : Hid (Calls Tryd.prog 13 #[ptr rb, gV ⟨gi, gk, ga, gl, gc⟩] w3 fun e w' => e = .returned (.int .i64 (addE room Q ⟨gi, gk, ga, gl, gc⟩)) ∧ ∃ v' Q', PI w rb room v' L' Q' w' ∧ Q'.map Gr.p = addM room Q ⟨gi, gk, ga, gl, gc⟩ ∧ KeepR rb rv w3 w') := H2
              have HM3 : Hid (L'.map Gr.p = addM room Q ⟨gi, gk, ga, gl, gc⟩) := hM3
              obtain ⟨x0, x1, x2⟩ := hx3
              clear hI3 hM3 hK3 H2 HC1 f0 f1 f2 f3 b0 b1 b2 bz hob2
              go_wp2_with fail
              refine HC2.out.mono ?_
              rintro e w4 ⟨rfl, rv', Q', hI4, hM4, hK4⟩
              have hx4 : Cg w4 gb 0 ⟨gi, gk, ga, gl, gc⟩ := HX3.out.1.block (hK4.2 gb HX3.out.2 Hne.out.2.1 Hne.out.2.2)
              have hz4 : gb < w4.heap.size := Nat.lt_of_lt_of_le HX3.out.2 hK4.1
              have HI4 : Hid (PI w rb room rv' L' Q' w4 ∧ L'.map Gr.p = Q'.map Gr.p) := (show _ ∧ _ from ⟨hI4, HM3.out.trans hM4.symm⟩)
              clear hI4 hM4 hK4 HC2 HM3 x0 x1 x2 hz3 HX3 HI2 HX2
              generalize addE room Q ⟨gi, gk, ga, gl, gc⟩ = AE at *
              have HR4 : Hid (PI w rb room rv' L' Q' w4 ∧ L'.map Gr.p = Q'.map Gr.p ∧ Cg w4 gb 0 ⟨gi, gk, ga, gl, gc⟩ ∧ gb < w4.heap.size) := (show _ ∧ _ ∧ _ ∧ _ from ⟨HI4.out.1, HI4.out.2, hx4, hz4⟩)
              clear hx4 hz4 HI4
              go_wp2_with fail
              go_meet
              exact ⟨_, rv', L', Q', rfl, rfl, HR4⟩
            · have hab : (ask == 0) = false := by simp [ha0]
              by_cases ha1 : ask = 1
              · have hab1 : (ask == 1) = true := by simp [ha1]
                clear ha0 ha1
                have H1 := HI2.out.1.mod1 HI2.out.2 HRm.out ⟨gi, gk, ga, gl, gc⟩ HGi.out HFw.out
                have HC1 : Hid (Calls Tryd.prog 14 #[ptr (w.heap.size + 1), gV ⟨gi, gk, ga, gl, gc⟩] w2 fun e w' => e = .returned (.int .i64 (modE Q ⟨gi, gk, ga, gl, gc⟩)) ∧ ∃ L', PI w rb room rv L' Q w' ∧ L'.map Gr.p = modM Q ⟨gi, gk, ga, gl, gc⟩ ∧ KeepP w w2 w') := H1
                clear H1
                go_wp2_with fail
                refine HC1.out.mono ?_
                rintro e w3 ⟨rfl, L', hI3, hM3, hK3⟩
                have hx3 : Cg w3 gb 0 ⟨gi, gk, ga, gl, gc⟩ := HX2.out.1.block (hK3.2 gb HX2.out.2 Hne.out.1)
                have hz3 : gb < w3.heap.size := Nat.lt_of_lt_of_le HX2.out.2 hK3.1
                have HX3 : Hid (Cg w3 gb 0 ⟨gi, gk, ga, gl, gc⟩ ∧ gb < w3.heap.size) := (show _ ∧ _ from ⟨hx3, hz3⟩)
                have H2 := hI3.mod2 HD.out HQ.out.1 HQ.out.2 ⟨gi, gk, ga, gl, gc⟩ HGi.out HFw.out
                have HC2 : Hid (Calls Tryd.prog 15 #[ptr rb, gV ⟨gi, gk, ga, gl, gc⟩] w3 fun e w' => e = .returned (.int .i64 (modE Q ⟨gi, gk, ga, gl, gc⟩)) ∧ ∃ v' Q', PI w rb room v' L' Q' w' ∧ Q'.map Gr.p = modM Q ⟨gi, gk, ga, gl, gc⟩ ∧ KeepR rb rv w3 w') := H2
                have HM3 : Hid (L'.map Gr.p = modM Q ⟨gi, gk, ga, gl, gc⟩) := hM3
                obtain ⟨x0, x1, x2⟩ := hx3
                clear hI3 hM3 hK3 H2 HC1 f0 f1 f2 f3 b0 b1 b2 bz hob2
                go_wp2_with fail
                refine HC2.out.mono ?_
                rintro e w4 ⟨rfl, rv', Q', hI4, hM4, hK4⟩
                have hx4 : Cg w4 gb 0 ⟨gi, gk, ga, gl, gc⟩ := HX3.out.1.block (hK4.2 gb HX3.out.2 Hne.out.2.1 Hne.out.2.2)
                have hz4 : gb < w4.heap.size := Nat.lt_of_lt_of_le HX3.out.2 hK4.1
                have HI4 : Hid (PI w rb room rv' L' Q' w4 ∧ L'.map Gr.p = Q'.map Gr.p) := (show _ ∧ _ from ⟨hI4, HM3.out.trans hM4.symm⟩)
                clear hI4 hM4 hK4 HC2 HM3 x0 x1 x2 hz3 HX3 HI2 HX2
                generalize modE Q ⟨gi, gk, ga, gl, gc⟩ = AE at *
                have HR4 : Hid (PI w rb room rv' L' Q' w4 ∧ L'.map Gr.p = Q'.map Gr.p ∧ Cg w4 gb 0 ⟨gi, gk, ga, gl, gc⟩ ∧ gb < w4.heap.size) := (show _ ∧ _ ∧ _ ∧ _ from ⟨HI4.out.1, HI4.out.2, hx4, hz4⟩)
                clear hx4 hz4 HI4
                go_wp2_with fail
                go_meet
                exact ⟨_, rv', L', Q', rfl, rfl, HR4⟩
              · have hab1 : (ask == 1) = false := by simp [ha1]
                clear ha0 ha1
                have H1 := HI2.out.1.del1 HI2.out.2 ⟨gi, gk, ga, gl, gc⟩ HGi.out
                have HC1 : Hid (Calls Tryd.prog 16 #[ptr (w.heap.size + 1), .int .i64 gi] w2 fun e w' => e = .returned (.int .i64 (delE Q gi)) ∧ ∃ L', PI w rb room rv L' Q w' ∧ L'.map Gr.p = delM Q gi ∧ KeepP w w2 w') := H1
                clear H1
                go_wp2_with fail
                refine HC1.out.mono ?_
                rintro e w3 ⟨rfl, L', hI3, hM3, hK3⟩
                have hx3 : Cg w3 gb 0 ⟨gi, gk, ga, gl, gc⟩ := HX2.out.1.block (hK3.2 gb HX2.out.2 Hne.out.1)
                have hz3 : gb < w3.heap.size := Nat.lt_of_lt_of_le HX2.out.2 hK3.1
                have HX3 : Hid (Cg w3 gb 0 ⟨gi, gk, ga, gl, gc⟩ ∧ gb < w3.heap.size) := (show _ ∧ _ from ⟨hx3, hz3⟩)
                have H2 := hI3.del2 HD.out HQ.out.1 gi
                have HC2 : Hid (Calls Tryd.prog 17 #[ptr rb, .int .i64 gi] w3 fun e w' => e = .returned (.int .i64 (delE Q gi)) ∧ ∃ v' Q', PI w rb room v' L' Q' w' ∧ Q'.map Gr.p = delM Q gi ∧ KeepR rb rv w3 w') := H2
                have HM3 : Hid (L'.map Gr.p = delM Q gi) := hM3
                obtain ⟨x0, x1, x2⟩ := hx3
                clear hI3 hM3 hK3 H2 HC1 f0 f1 f2 f3 b0 b1 b2 bz hob2
                go_wp2_with fail
                refine HC2.out.mono ?_
                rintro e w4 ⟨rfl, rv', Q', hI4, hM4, hK4⟩
                have hx4 : Cg w4 gb 0 ⟨gi, gk, ga, gl, gc⟩ := HX3.out.1.block (hK4.2 gb HX3.out.2 Hne.out.2.1 Hne.out.2.2)
                have hz4 : gb < w4.heap.size := Nat.lt_of_lt_of_le HX3.out.2 hK4.1
                have HI4 : Hid (PI w rb room rv' L' Q' w4 ∧ L'.map Gr.p = Q'.map Gr.p) := (show _ ∧ _ from ⟨hI4, HM3.out.trans hM4.symm⟩)
                clear hI4 hM4 hK4 HC2 HM3 x0 x1 x2 hz3 HX3 HI2 HX2
                generalize delE Q gi = AE at *
                have HR4 : Hid (PI w rb room rv' L' Q' w4 ∧ L'.map Gr.p = Q'.map Gr.p ∧ Cg w4 gb 0 ⟨gi, gk, ga, gl, gc⟩ ∧ gb < w4.heap.size) := (show _ ∧ _ ∧ _ ∧ _ from ⟨HI4.out.1, HI4.out.2, hx4, hz4⟩)
                clear hx4 hz4 HI4
                go_wp2_with fail
                go_meet
                exact ⟨_, rv', L', Q', rfl, rfl, HR4⟩
          case rest =>
            obtain ⟨AE, rv', L', Q', rfl, rfl, HR4⟩ := hcut
            have HI4 : Hid (PI w rb room rv' L' Q' wc ∧ L'.map Gr.p = Q'.map Gr.p) := (show _ ∧ _ from ⟨HR4.out.1, HR4.out.2.1⟩)
            have hx4 := HR4.out.2.2.1
            have hz4 := HR4.out.2.2.2
            clear HR4 HI2 HX2 f0 f1 f2 f3 b0 b1 b2 bz hob2 Hne HQ HFw HFew HOq
            have HG1 : Hid (Calls Tryd.prog 18 #[ptr (w.heap.size + 1), .int .i64 gi] wc fun e w' => ∃ (g' : Gr) (er : Int), e = .returned (.tuple #[gV g', .int .i64 er]) ∧ ((hasP L' gi = false ∧ g' = gr0 ∧ er = 31) ∨ ∃ g ∈ L', g.id = gi ∧ g'.p = g.p ∧ er = 0) ∧ Bs w' g'.a g'.l ∧ Sm g'.l ∧ Below wc.heap.size wc w') := get_any gi wc HI4.out.1.r.t HGi.out.i0 HGi.out.i1
            have HX4 : Hid (∀ w', Below wc.heap.size wc w' → w'.cell? ⟨gb, 0, none⟩ = some (.int .i64 gi) ∧ gb < w'.heap.size) := (show ∀ w', _ from fun w' k => ⟨(hx4.below hz4 k).1, Nat.lt_of_lt_of_le hz4 k.size⟩)
            obtain ⟨y0, y1, y2⟩ := hx4
            go_wp2_with fail
            refine HG1.out.mono ?_
            rintro e w5 ⟨⟨xi, xk, xa, xl, xc⟩, er, rfl, hx, hbx, hsx, g5⟩
            obtain ⟨z0, zz⟩ := HX4.out w5 g5
            obtain ⟨V5, hV5⟩ : ∃ V, w5.alloc (.cells #[.int .i64 xi, .int .i64 xk, .slice xa xl.length xc] 33) = V := ⟨_, rfl⟩
            have kV5 : Below w5.heap.size w5 V5 := by rw [← hV5]; go_grown
            have zV5 : w5.heap.size < V5.heap.size := by rw [← hV5]; simp
            have cV5 : Cg V5 w5.heap.size 0 ⟨xi, xk, xa, xl, xc⟩ := by rw [← hV5]; exact Cg.new w5 ⟨xi, xk, xa, xl, xc⟩
            have HV5 : Hid (w5.alloc (.cells #[.int .i64 xi, .int .i64 xk, .slice xa xl.length xc] 33) = V5) := hV5
            have HI5 : Hid (PI w rb room rv' L' Q' V5 ∧ L'.map Gr.p = Q'.map Gr.p) := (show _ ∧ _ from ⟨(HI4.out.1.grow g5).grow kV5, HI4.out.2⟩)
            have HG2 : Hid (Calls Tryd.prog 19 #[ptr rb, .int .i64 gi] V5 fun e w' => ∃ (g' : Gr) (er : Int), e = .returned (.tuple #[gV g', .int .i64 er]) ∧ ((hasP Q' gi = false ∧ g' = gr0 ∧ er = 31) ∨ (g' ∈ Q' ∧ g'.id = gi ∧ er = 0)) ∧ Below V5.heap.size V5 w') := rget_any gi V5 HI5.out.1.t (HI5.out.1.len HRm.out HI5.out.2)
            have HXx : Hid (((hasP L' gi = false ∧ (Gr.mk xi xk xa xl xc) = gr0 ∧ er = 31) ∨ ∃ g ∈ L', g.id = gi ∧ (Gr.mk xi xk xa xl xc).p = g.p ∧ er = 0) ∧ (∀ w', Below V5.heap.size V5 w' → Bs w' xa xl) ∧ Sm xl) := (show _ ∧ _ ∧ _ from ⟨hx, fun w' k => (hbx.below kV5).below k, hsx⟩)
            have HCx : Hid (∀ w', Below V5.heap.size V5 w' → Cg w' w5.heap.size 0 ⟨xi, xk, xa, xl, xc⟩ ∧ w5.heap.size < w'.heap.size) := (show ∀ w', _ from fun w' k => ⟨cV5.below zV5 k, Nat.lt_of_lt_of_le zV5 k.size⟩)
            clear hx hbx hsx g5 HG1 y0 y1 y2 hz4 HI4 hV5 kV5 zV5 cV5 HX4
            go_wp2_with fail
            rw [HV5.out]
            refine HG2.out.mono ?_
            rintro e w6 ⟨⟨yi, yk, ya, yl, yc⟩, fr, rfl, hy, g6⟩
            obtain ⟨V6, hV6⟩ : ∃ V, w6.alloc (.cells #[.int .i64 yi, .int .i64 yk, .slice ya yl.length yc] 33) = V := ⟨_, rfl⟩
            have kV6 : Below w6.heap.size w6 V6 := by rw [← hV6]; go_grown
            have zV6 : w6.heap.size < V6.heap.size := by rw [← hV6]; simp
            have cV6 : Cg V6 w6.heap.size 0 ⟨yi, yk, ya, yl, yc⟩ := by rw [← hV6]; exact Cg.new w6 ⟨yi, yk, ya, yl, yc⟩
            have HV6 : Hid (w6.alloc (.cells #[.int .i64 yi, .int .i64 yk, .slice ya yl.length yc] 33) = V6) := hV6
            have k56 : Below V5.heap.size V5 V6 := btr g6 kV6 (Nat.le_refl _)
            have HI6 : Hid (PI w rb room rv' L' Q' V6 ∧ L'.map Gr.p = Q'.map Gr.p) := (show _ ∧ _ from ⟨HI5.out.1.grow k56, HI5.out.2⟩)
            obtain ⟨hpp, hee⟩ := get_pp HI5.out.2 HI5.out.1.t.srt HXx.out.1 hy
            subst hee
            have kD : Below V6.heap.size V6 V6.drew := bdr (Below.refl _ _) 1
            have hyb : Bs V6.drew ya yl ∧ Sm yl := by
              rcases hy with ⟨_, e, _⟩ | ⟨hm, _, _⟩
              · cases e; exact ⟨⟨by simp, .inl rfl⟩, ⟨by simp, by simp⟩⟩
              · obtain ⟨h1, h2, _⟩ := HI5.out.1.t.grp _ hm
                exact ⟨((h1.below HI6.out.1.t.bel).below kD), h2⟩
            have hsm := sGrp_any xi xk xa xl xc yi yk ya yl yc V6.drew (HXx.out.2.1 _ (btr k56 kD (Nat.le_refl _))) hyb.1 HXx.out.2.2 hyb.2
            rw [sGrp_pp hpp] at hsm
            have HSm : Hid (Calls Tryd.prog 20 #[.agg #[.int .i64 xi, .int .i64 xk, .slice xa xl.length xc], .agg #[.int .i64 yi, .int .i64 yk, .slice ya yl.length yc]] V6.drew fun e w' => e = .returned (.bool true) ∧ Below V6.drew.heap.size V6.drew w') := hsm
            obtain ⟨ra, rc, erv, hrc0, _⟩ := HI6.out.1.t.gs
            subst erv
            have HLs : Hid (∀ w7, Below V6.heap.size V6 w7 → Calls Tryd.prog 22 #[ptr (w.heap.size + 1)] w7 fun e w' => ∃ a c r, e = .returned (.slice a r.length c) ∧ r.map Gr.p = L'.map Gr.p ∧ r.length ≤ c ∧ Gs w' a r ∧ Below w7.heap.size w7 w') := (show ∀ w7, _ from fun w7 k => list_any w7 (HI6.out.1.r.t.below k) (HI6.out.1.r.len HRm.out))
            have HSa : Hid (∀ la lc r w8, Below V6.heap.size V6 w8 → r.map Gr.p = L'.map Gr.p → r.length ≤ lc → Gs w8 la r → Calls Tryd.prog 21 #[.slice la r.length lc, .slice ra Q'.length rc] w8 fun e w' => e = .returned (.bool true) ∧ Below w8.heap.size w8 w') := (show ∀ la lc r w8, _ from fun la lc r w8 k hp hrc hgs => by
              obtain ⟨a', c', e', hc', hg'⟩ := (HI6.out.1.t.below k).gs
              cases e'
              exact lsame_any la r lc ra Q' rc w8 hgs hg' (hp.trans HI6.out.2) (by rw [len_pp (hp.trans HI6.out.2)]; exact HI6.out.1.len HRm.out HI6.out.2) hrc hc')
            have HK : Hid (∀ w', Below V6.heap.size V6 w' → w'.cell? ⟨rb, 0, none⟩ = some (.slice ra Q'.length rc) ∧ rb < w'.heap.size) := (show ∀ w', _ from fun w' k => ⟨(HI6.out.1.t.below k).c0, (HI6.out.1.t.below k).lt⟩)
            have HKD : Hid (Below V6.heap.size V6 V6.drew) := kD
            obtain ⟨⟨m0, m1, m2⟩, mz⟩ := HCx.out V6 k56
            obtain ⟨n0, n1, n2⟩ := cV6
            obtain ⟨s0, sl⟩ := HK.out V6 (Below.refl _ _)
            clear hy g6 HG2 z0 zz hV6 kV6 HI5 k56 hpp hyb hsm HCx HXx kD hrc0
            go_upto_region 26 with fail
            rw [HV6.out]
            go_cut [125] from 40 to 125 (fun c wx => c = .bool false ∧ Hid (Below V6.heap.size V6 wx))
            case first =>
              have HSt : Hid (∀ w', Below V6.heap.size V6 w' → w'.cell? ⟨w5.heap.size, 0, none⟩ = some (.int .i64 xi) ∧ w'.cell? ⟨w5.heap.size, 1, none⟩ = some (.int .i64 xk) ∧ w'.cell? ⟨w5.heap.size, 2, none⟩ = some (.slice xa xl.length xc) ∧ w'.cell? ⟨w6.heap.size, 0, none⟩ = some (.int .i64 yi) ∧ w'.cell? ⟨w6.heap.size, 1, none⟩ = some (.int .i64 yk) ∧ w'.cell? ⟨w6.heap.size, 2, none⟩ = some (.slice ya yl.length yc) ∧ w'.cell? ⟨rb, 0, none⟩ = some (.slice ra Q'.length rc)) := (show ∀ w', _ from fun w' k => ⟨(k.cell (p := ⟨w5.heap.size, 0, none⟩) mz).trans m0, (k.cell (p := ⟨w5.heap.size, 1, none⟩) mz).trans m1, (k.cell (p := ⟨w5.heap.size, 2, none⟩) mz).trans m2, (k.cell (p := ⟨w6.heap.size, 0, none⟩) zV6).trans n0, (k.cell (p := ⟨w6.heap.size, 1, none⟩) zV6).trans n1, (k.cell (p := ⟨w6.heap.size, 2, none⟩) zV6).trans n2, (HK.out w' k).1⟩)
              go_region_held3 (fun w' => w'.cell? ⟨w5.heap.size, 0, none⟩ = some (.int .i64 xi) ∧ w'.cell? ⟨w5.heap.size, 1, none⟩ = some (.int .i64 xk) ∧ w'.cell? ⟨w5.heap.size, 2, none⟩ = some (.slice xa xl.length xc) ∧ w'.cell? ⟨w6.heap.size, 0, none⟩ = some (.int .i64 yi) ∧ w'.cell? ⟨w6.heap.size, 1, none⟩ = some (.int .i64 yk) ∧ w'.cell? ⟨w6.heap.size, 2, none⟩ = some (.slice ya yl.length yc) ∧ w'.cell? ⟨rb, 0, none⟩ = some (.slice ra Q'.length rc)) (first | exact HSt.out _ HKD.out | exact HSt.out _ (btr G8 g9 (Nat.le_refl _)) | exact HSt.out _ G8 | exact HSt.out _ G7)
                (first
                | (go_at_call 20; refine HSm.out.mono ?_; rintro e w7 ⟨rfl, g7⟩; have G7 := btr HKD.out g7 (Nat.le_refl _))
                | (go_at_call 22; refine (HLs.out w7 G7).mono ?_; rintro e w8 ⟨la, lc, r, rfl, hp8, hrc8, hgs8, g8⟩; have G8 := btr G7 g8 (Nat.le_refl _); have HSq := HSa.out la lc r w8 G8 hp8 hrc8 hgs8; have HSq : Hid (Calls Tryd.prog 21 #[.slice la r.length lc, .slice ra Q'.length rc] w8 fun e w' => e = .returned (.bool true) ∧ Below w8.heap.size w8 w') := HSq; clear hp8 hrc8 hgs8)
                | (go_at_call 21; refine HSq.out.mono ?_; rintro e w9 ⟨rfl, g9⟩))
              all_goals
                have HB9 : Hid (Below V6.heap.size V6 w9) := (show Below _ _ _ from btr G8 g9 (Nat.le_refl _))
                go_wp2_with fail
                go_meet
                exact ⟨rfl, HB9⟩
            case rest =>
              obtain ⟨rfl, HB9⟩ := hcut
              have HI9 : Hid (PI w rb room (.slice ra Q'.length rc) L' Q' wc ∧ L'.map Gr.p = Q'.map Gr.p) := (show _ ∧ _ from ⟨HI6.out.1.grow HB9.out, HI6.out.2⟩)
              clear m0 m1 m2 mz n0 n1 n2 s0 sl HI6 HB9
              go_wp2_with fail
              go_roundw
              case rel => first | exact ⟨q + 1, _, L', Q', by omega, by omega, by go_num, HI9⟩ | ((repeat apply Exists.intro); exact ⟨⟨q + 1, _, L', Q', by omega, by omega, by go_num, HI9⟩, rfl⟩)
              case measure => simp [intOf]; omega
      · have hgb : ol.length ≤ q ∨ (q < ol.length ∧ 60 ≤ q) := by omega
        clear hgo HI
        rcases hgb with hb1 | ⟨hb1, hb2⟩
        all_goals
          go_wp2_with fail
          refine (HAw.out _ G0).mono ?_
          rintro e w9 ⟨rfl, g9⟩
          have G9 := btr G0 g9 (Nat.le_refl _)
          clear g9
          go_wp2_with fail
          go_ret
          exact ⟨rfl, G9⟩
end Go.Proofs.YteodlkgbakkjmaaDoor

/-
  What Add answers and does, as a contract.
-/
import Derived.Test.YteodlkgbakkjmaaDoorAdd
namespace Go.Proofs.YteodlkgbakkjmaaDoor
open Go.ChangeShapes Go.WideShapes Go.ChangeAt Go.RowKit Go.Maps
set_option linter.unusedVariables false

theorem upd_run {w : World} (mb : Nat) (L : List Gr) (g : Gr) (hown : w.ownsMap Tryd.prog 3 Re mb L.length (mD L)) (hn : L.length ≤ 100) (h0 : -9223372036854775808 ≤ g.id) (h1 : g.id ≤ 9223372036854775807) :
    ∃ w', (Instr.mapUpdate 57 (.map (some mb)) (.int .i64 g.id) (.agg #[.int .i64 g.id, .int .i64 g.kd, .slice g.a g.l.length g.c])).run Tryd.prog w = .ok () w' ∧ w'.ownsMap Tryd.prog 3 Re mb (L.length + 1) ((mD L).put (kL g.id) (.held g.h)) ∧ w.grownBy w' (some mb) := by
  obtain ⟨w', h2, h3, h4⟩ := hown.store law Tryd.underlying57 (by unfold maxLen; omega) (key_wf h0 h1) (val := gV g) (d := .held g.h) (ps := []) (by rw [← hV_h]; exact Re_mk _)
  exact ⟨w', h2, h3, h4.grown⟩
theorem copyOf_parts (g : Gr) (w : World) (hT : Bs w g.a g.l) (hn : Sm g.l) : Calls Tryd.prog 32 #[gV g] w fun e w' => ∃ a' r c', e = .returned (.agg #[.int .i64 g.id, .int .i64 g.kd, .slice a' r.length c']) ∧ (Gr.mk g.id g.kd a' r c').p = g.p ∧ BsF w.heap.size w' a' r ∧ Below w.heap.size w w' := by
  refine (copyOf_any g w hT hn).mono ?_
  rintro e w' ⟨⟨i, k, a', r, c'⟩, rfl, hp, hb, gb⟩
  obtain ⟨gi, gk, ga, gl, gc⟩ := g
  have e1 : i = gi := congrArg (fun x => x.1) hp
  have e2 : k = gk := congrArg (fun x => x.2.1) hp
  subst e1
  subst e2
  exact ⟨a', r, c', rfl, hp, hb, gb⟩
theorem Cd.grown {w w' : World} {tb mb : Nat} {room : Int} {L : List Gr} (h : Cd w) (t : Tb w tb mb room L) (k : w.grownBy w' (some mb)) : Cd w' := by
  have hp := h.pos
  obtain ⟨ty, fr, hc⟩ := h.codes
  refine ⟨ty, fr, (k.block 0 hp ?_).trans hc⟩
  intro e
  cases e
  obtain ⟨es, clock, h1, _⟩ := t.own
  rw [hc] at h1
  cases h1
theorem sm_of {g g' : Gr} (h : Sm g.l) (hp : g'.p = g.p) : Sm g'.l := by
  have e : g'.l.map Bk.b3 = g.l.map Bk.b3 := congrArg (fun x => x.2.2) hp
  refine ⟨?_, ?_⟩
  · have := congrArg List.length e
    simp at this
    rw [this]; exact h.n
  · intro b hb
    have hm : b.b3 ∈ g.l.map Bk.b3 := by rw [← e]; exact List.mem_map.2 ⟨b, hb, rfl⟩
    obtain ⟨x, hx, ex⟩ := List.mem_map.1 hm
    have : x.l = b.l := congrArg (fun y : B3 => y.2.2) ex
    rw [← this]
    exact h.a x hx
set_option maxRecDepth 20000 in
set_option maxHeartbeats 8000000 in
theorem add_any {tb mb : Nat} {room : Int} {L : List Gr} (g : Gr) (w : World) (h : Tb w tb mb room L) (hT : Bs w g.a g.l) (hS : Sm g.l) (hd : Cd w) (h0 : -9223372036854775808 ≤ g.id) (h1 : g.id ≤ 9223372036854775807) (hL : L.length ≤ 64) :
    Calls Tryd.prog 12 #[ptr tb, gV g] w fun e w' => e = .returned (.int .i64 (addE room L g)) ∧ (addE room L g ≠ 0 → Below w.heap.size w w') ∧ (addE room L g = 0 → ∃ g' : Gr, g'.p = g.p ∧ Tb w' tb mb room (putG g' L) ∧ w.grownBy w' (some mb) ∧ Cd w' ∧ ∀ b, InB g'.a g'.l b → w.heap.size ≤ b) := by
  have HR : Hid (∀ w1, Below w.heap.size w w1 → Calls Tryd.prog 28 #[gV g] w1 fun e w' => e = .returned (.int .i64 (rightE g.p)) ∧ Below w1.heap.size w1 w') := (show ∀ w1, _ from fun w1 k => right_g g w1 (hT.below k) hS (hd.below k))
  have HH : Hid (∀ w1, Below w.heap.size w w1 → Calls Tryd.prog 29 #[ptr tb, .int .i64 g.id] w1 fun e w' => e = .returned (.bool (hasP L g.id)) ∧ Below w1.heap.size w1 w') := (show ∀ w1, _ from fun w1 k => has_any g.id w1 (h.below k) h0 h1)
  have HLd : Hid (rightE g.p = 0 → ∀ w1, Below w.heap.size w w1 → Calls Tryd.prog 31 #[gV g] w1 fun e w' => ∃ v zs, e = .returned v ∧ OwnI w1.heap.size w' v zs ∧ (∀ x, x ∈ zs ↔ x ∈ rawL (g.l.map Bk.b3)) ∧ zs.length ≤ 10000 ∧ Below w1.heap.size w1 w') := (show _ → ∀ w1, _ from fun hr w1 k => leads_any g w1 (hT.below k) hS (LO_of hr))
  have HA : Hid (rightE g.p = 0 → ∀ (v : Value) (zs : List Int) w1 base, Below w.heap.size w w1 → OwnI base w1 v zs → (∀ x, x ∈ zs ↔ x ∈ rawL (g.l.map Bk.b3)) → zs.length ≤ 10000 → Calls Tryd.prog 30 #[ptr tb, v] w1 fun e w' => e = .returned (.bool (leadsAll L (g.l.map Bk.b3))) ∧ Below w1.heap.size w1 w') := (show _ → ∀ (v : Value) (zs : List Int) w1 base, _ from fun hr v zs w1 base k ho hz hn => by
    have := hasAll_any v zs w1 base (h.below k) ho (fun x hx => by have := raw_wf hr ((hz x).1 hx); omega) hn
    rw [all_mem hz] at this
    exact this)
  have HC : Hid (∀ w1, Below w.heap.size w w1 → Calls Tryd.prog 32 #[gV g] w1 fun e w' => ∃ a' r c', e = .returned (.agg #[.int .i64 g.id, .int .i64 g.kd, .slice a' r.length c']) ∧ (Gr.mk g.id g.kd a' r c').p = g.p ∧ BsF w1.heap.size w' a' r ∧ Below w1.heap.size w1 w') := (show ∀ w1, _ from fun w1 k => copyOf_parts g w1 (hT.below k) hS)
  have HT : Hid (∀ w1, Below w.heap.size w w1 → Tb w1 tb mb room L) := (show ∀ w1, _ from fun w1 k => h.below k)
  have HD : Hid (∀ w1, Below w.heap.size w w1 → Cd w1) := (show ∀ w1, _ from fun w1 k => hd.below k)
  have HL : Hid (L.length ≤ 64) := hL
  have HS : Hid (Sm g.l) := hS
  have HE : Hid (addE room L g = if rightE g.p ≠ 0 then rightE g.p else if hasP L g.id = true then 29 else if leadsAll L (g.l.map Bk.b3) = false then 31 else if room ≤ L.length then 27 else 0) := (show _ = _ from rfl)
  obtain ⟨V, hV⟩ : ∃ V, gx w g = V := ⟨_, rfl⟩
  have GV : Below w.heap.size w V := by rw [← hV]; go_grown
  have zV : w.heap.size < V.heap.size := by rw [← hV]; simp
  have hc := Cg.new w g
  rw [hV] at hc
  have HX : Hid (∀ w', Below V.heap.size V w' → (w'.cell? ⟨w.heap.size, 0, none⟩ = some (.int .i64 g.id) ∧ w'.cell? ⟨w.heap.size, 1, none⟩ = some (.int .i64 g.kd) ∧ w'.cell? ⟨w.heap.size, 2, none⟩ = some (.slice g.a g.l.length g.c)) ∧ Below w.heap.size w w') := (show ∀ w', _ from fun w' k => ⟨hc.below zV k, btr GV k (Nat.le_refl _)⟩)
  have HV : Hid (w.alloc (.cells #[.int .i64 g.id, .int .i64 g.kd, .slice g.a g.l.length g.c] 33) = V) := hV
  obtain ⟨k0, k1, k2⟩ := (HX.out V (Below.refl _ _)).1
  clear h hT hS hd hL hc zV hV
  generalize addE room L g = AE at *
  go_enter Tryd.func12, Tryd.ntmps12
  go_wp2_with fail
  rw [HV.out]
  refine (HR.out V GV).mono ?_
  rintro e w1 ⟨rfl, g1⟩
  obtain ⟨⟨c0, c1, c2⟩, G1⟩ := HX.out w1 g1
  clear k0 k1 k2 HR HV
  by_cases hr : rightE g.p = 0
  case neg =>
    have hne : (rightE g.p != 0) = true := by simpa using hr
    have HE1 : Hid (AE = rightE g.p) := (show _ = _ by rw [HE.out, if_pos hr])
    have HR0 : Hid (rightE g.p ≠ 0) := hr
    clear hr HE
    go_wp2_with fail
    go_ret
    exact ⟨by rw [HE1.out]; rfl, fun _ => G1, fun e => absurd (HE1.out.symm.trans e) HR0.out⟩
  case pos =>
    have hne : (rightE g.p != 0) = false := by simp [hr]
    have HE1 : Hid (AE = if hasP L g.id = true then 29 else if leadsAll L (g.l.map Bk.b3) = false then 31 else if room ≤ L.length then 27 else 0) := (show _ = _ by rw [HE.out, if_neg (by simp [hr])])
    have HR0 : Hid (rightE g.p = 0) := hr
    clear hr HE
    go_wp2_with fail
    refine (HH.out w1 G1).mono ?_
    rintro e w2 ⟨rfl, g2⟩
    have G12 : Below V.heap.size V w2 := btr g1 g2 (Nat.le_refl _)
    obtain ⟨⟨d0, d1, d2⟩, G2⟩ := HX.out w2 G12
    clear g2 c0 c1 c2 hne HH
    generalize hasP L g.id = HB at *
    cases HB with
    | true =>
      have HE2 : Hid (AE = 29) := HE1.out
      go_wp2_with fail
      go_ret
      exact ⟨by rw [HE2.out]; rfl, fun _ => G2, fun e => by rw [HE2.out] at e; cases e⟩
    | false =>
      go_wp2_with fail
      refine (HLd.out HR0.out w2 G2).mono ?_
      rintro e w3 ⟨v, zs, rfl, ho, hz, hn, g3⟩
      have G13 : Below V.heap.size V w3 := btr G12 g3 (Nat.le_refl _)
      obtain ⟨⟨e0, e1, e2⟩, G3⟩ := HX.out w3 G13
      have HA' : Hid (Calls Tryd.prog 30 #[ptr tb, v] w3 fun e w' => e = .returned (.bool (leadsAll L (g.l.map Bk.b3))) ∧ Below w3.heap.size w3 w') := HA.out HR0.out v zs w3 _ G3 ho hz hn
      clear g3 d0 d1 d2 HLd HA ho hz hn
      go_wp2_with fail
      refine HA'.out.mono ?_
      rintro e w4 ⟨rfl, g4⟩
      have G14 : Below V.heap.size V w4 := btr G13 g4 (Nat.le_refl _)
      obtain ⟨⟨f0, f1, f2⟩, G4⟩ := HX.out w4 G14
      clear g4 e0 e1 e2 HA'
      generalize leadsAll L (g.l.map Bk.b3) = LB at *
      cases LB with
      | false =>
        have HE2 : Hid (AE = 31) := HE1.out
        go_wp2_with fail
        go_ret
        exact ⟨by rw [HE2.out]; rfl, fun _ => G4, fun e => by rw [HE2.out] at e; cases e⟩
      | true =>
        have HE2 : Hid (AE = if room ≤ L.length then 27 else 0) := HE1.out
        have tT := HT.out w4 G4
        have t0 := tT.c0
        have t1 := tT.c1
        have tl := tT.lt
        have hlen : ∀ w ty, w.heap[mb]? = w4.heap[mb]? → (Builtin.len_ #[57] ty #[.map (some mb)]).run Tryd.prog w = .ok (.int .i64 L.length) w := fun w ty hw => by
          have hown : w.ownsMap Tryd.prog 3 Re mb L.length (mD L) := by
            obtain ⟨es, clock, hb, F, h3, hD⟩ := tT.own
            exact ⟨es, clock, hw.trans hb, F, h3, hD⟩
          have := hown.len Tryd.underlying57 ty
          rwa [size_mD] at this
        clear HE1
        have hln : ∀ q ty, (Builtin.len_ #[57] ty #[.map (some mb)]).run Tryd.prog (w4.drewN q) = .ok (.int .i64 L.length) (w4.drewN q) := fun q ty => hlen _ ty rfl
        have hl0 : ∀ ty, (Builtin.len_ #[57] ty #[.map (some mb)]).run Tryd.prog w4 = .ok (.int .i64 L.length) w4 := fun ty => hlen _ ty rfl
        clear hlen tT
        go_wp2_with fail
        go_quiet (fail)
        obtain ⟨w5, h5⟩ : ∃ w5, w4.drewN nq = w5 := ⟨_, rfl⟩
        have g5 : Below w4.heap.size w4 w5 := by rw [← h5]; exact bdr (Below.refl _ _) _
        rw [h5]
        have G15 : Below V.heap.size V w5 := btr G14 g5 (Nat.le_refl _)
        obtain ⟨⟨q0, q1, q2⟩, G5⟩ := HX.out w5 G15
        have T5 := HT.out w5 G5
        have s0 := T5.c0
        have s1 := T5.c1
        have sl := T5.lt
        have H5 : Hid (w4.drewN nq = w5) := h5
        clear h5 g5 hln hl0 f0 f1 f2 t0 t1 tl T5
        obtain ⟨RB, hRB⟩ : ∃ RB, decide (room ≤ (L.length : Int)) = RB := ⟨_, rfl⟩
        rw [hRB]
        cases RB with
        | true =>
          have HE3 : Hid (AE = 27) := (show _ = _ by rw [HE2.out, if_pos (of_decide_eq_true hRB)])
          clear hRB
          go_wp2_with fail
          go_ret
          exact ⟨by rw [HE3.out]; rfl, fun _ => G5, fun e => by rw [HE3.out] at e; cases e⟩
        | false =>
          have HE3 : Hid (AE = 0) := (show _ = _ by rw [HE2.out, if_neg (of_decide_eq_false hRB)])
          clear hRB
          go_wp2_with fail
          have GD : Below w5.heap.size w5 w5.drew := bdr (Below.refl _ _) 1
          have HCD : Hid (Calls Tryd.prog 32 #[gV g] w5.drew fun e w' => ∃ a' r c', e = .returned (.agg #[.int .i64 g.id, .int .i64 g.kd, .slice a' r.length c']) ∧ (Gr.mk g.id g.kd a' r c').p = g.p ∧ BsF w5.drew.heap.size w' a' r ∧ Below w5.drew.heap.size w5.drew w') := HC.out w5.drew (btr G5 GD (Nat.le_refl _))
          have HF : Hid (∀ w6, Below w5.drew.heap.size w5.drew w6 → Below V.heap.size V w6) := (show ∀ w6, _ from fun w6 k => btr (btr G15 GD (Nat.le_refl _)) k (Nat.le_refl _))
          go_region_with (go_at_call 32; refine HCD.out.mono ?_; rintro e w6 ⟨a', r, c', rfl, hp, hb, g6⟩; have F6 := HF.out w6 g6; obtain ⟨⟨r0, r1, r2⟩, G6⟩ := HX.out w6 F6; have T6 := HT.out w6 G6; have u1 := T6.c1; have ul := T6.lt; obtain ⟨w7, hrun, ho, hg⟩ := upd_run mb L ⟨g.id, g.kd, a', r, c'⟩ T6.own (by have := HL.out; omega) h0 h1; simp only at hrun)
          all_goals
            have hfin := (HT.out w5.drew (btr G5 GD (Nat.le_refl _))).put ⟨g.id, g.kd, a', r, c'⟩ g6 hb (sm_of HS.out hp) (by rw [hp]; exact HR0.out) ho hg
            have HFin : Hid (Tb w7 tb mb room (putG ⟨g.id, g.kd, a', r, c'⟩ L) ∧ w5.drew.grownBy w7 (some mb)) := hfin
            have HP : Hid ((Gr.mk g.id g.kd a' r c').p = g.p) := hp
            have HNw : Hid (∀ b, InB a' r b → w.heap.size ≤ b) := (show ∀ b, _ from fun b hin => Nat.le_trans (btr G5 GD (Nat.le_refl _)).size (hb.new hin))
            have HG5 : Hid (Below w.heap.size w w5.drew) := btr G5 GD (Nat.le_refl _)
            clear hfin hp ho hg hb g6 T6 u1 ul r0 r1 r2 s0 s1 sl q0 q1 q2
            go_wp2_with fail
            go_ret
            have hgr := HFin.out.2
            have k5 := HG5.out
            have HGR : w.grownBy w7 (some mb) := ⟨hgr.os.trans k5.os, hgr.tape.trans k5.tape, hgr.output.trans k5.output, Nat.le_trans k5.size hgr.size, fun i hi hne => (hgr.block i (Nat.lt_of_lt_of_le hi k5.size) hne).trans (k5.block i hi)⟩
            refine ⟨by rw [HE3.out]; rfl, fun e => absurd HE3.out e, fun _ => ⟨_, HP.out, HFin.out.1, HGR, ?_⟩⟩
            exact ⟨(HD.out w (Below.refl _ _)).grown (HT.out w (Below.refl _ _)) HGR, HNw.out⟩
end Go.Proofs.YteodlkgbakkjmaaDoor

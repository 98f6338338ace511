/-
  Joined: UAddW, ULed, UNums, ULst.
-/
import Derived.Test.YtgnihbdcdefdgaaGreatDoorZ21
import Derived.Maps.AppendAt
/-
  What Add answers and does, as a contract.
-/
namespace Go.Proofs.YtgnihbdcdefdgaaGreatDoor.Gp
open Go.ChangeShapes Go.WideShapes Go.ChangeAt Go.RowKit Go.Maps
set_option linter.unusedVariables false

theorem upd_run {w : World} (mb : Nat) (L : List Gr) (g : Gr) (hown : w.ownsMap Tryz.prog 3 Re mb L.length (mD L)) (hn : L.length ≤ 100) (h0 : -9223372036854775808 ≤ g.id) (h1 : g.id ≤ 9223372036854775807) :
    ∃ w', (Instr.mapUpdate 125 (.map (some mb)) (.int .i64 g.id) (.agg #[.int .i64 g.id, .int .i64 g.kd, .slice g.a g.l.length g.c])).run Tryz.prog w = .ok () w' ∧ w'.ownsMap Tryz.prog 3 Re mb (L.length + 1) ((mD L).put (kL g.id) (.held g.h)) ∧ w.grownBy w' (some mb) := by
  obtain ⟨w', h2, h3, h4⟩ := hown.store law Tryz.underlying125 (by unfold maxLen; omega) (key_wf h0 h1) (val := gV g) (d := .held g.h) (ps := []) (by rw [← hV_h]; exact Re_mk _)
  exact ⟨w', h2, h3, h4.grown⟩
theorem copyOf_parts (g : Gr) (w : World) (hT : Bs w g.a g.l) (hn : Sm g.l) : Calls Tryz.prog 47 #[gV g] w fun e w' => ∃ a' r c', e = .returned (.agg #[.int .i64 g.id, .int .i64 g.kd, .slice a' r.length c']) ∧ (Gr.mk g.id g.kd a' r c').p = g.p ∧ BsF w.heap.size w' a' r ∧ Below w.heap.size w w' := by
  refine (copyOf_any g w hT hn).mono ?_
  rintro e w' ⟨⟨i, k, a', r, c'⟩, rfl, hp, hb, gb⟩
  obtain ⟨gi, gk, ga, gl, gc⟩ := g
  have e1 : i = gi := congrArg (fun x => x.1) hp
  have e2 : k = gk := congrArg (fun x => x.2.1) hp
  subst e1
  subst e2
  exact ⟨a', r, c', rfl, hp, hb, gb⟩
end Go.Proofs.YtgnihbdcdefdgaaGreatDoor.Gp
namespace Go.Proofs.YtgnihbdcdefdgaaGreatDoor
open Go.ChangeShapes Go.WideShapes Go.ChangeAt Go.RowKit Go.Maps
theorem Cd.grown {w w' : World} {tb mb : Nat} {room : Int} {L : List Gp.Gr} (h : Cd w) (t : Gp.Tb w tb mb room L) (k : w.grownBy w' (some mb)) : Cd w' := by
  have hp := h.pos
  have ne : ∀ j c ty fr, w.heap[j]? = some (.cells c ty fr) → some j ≠ some mb := fun j c ty fr hj e => by
    cases e
    obtain ⟨es, clock, h1, _⟩ := t.own
    rw [hj] at h1
    cases h1
  obtain ⟨⟨t0, f0, h0⟩, ⟨t1, f1, h1⟩⟩ := h
  exact ⟨⟨t0, f0, (k.block 0 (by omega) (ne _ _ _ _ h0)).trans h0⟩, ⟨t1, f1, (k.block 1 hp (ne _ _ _ _ h1)).trans h1⟩⟩
end Go.Proofs.YtgnihbdcdefdgaaGreatDoor
namespace Go.Proofs.YtgnihbdcdefdgaaGreatDoor.Gp
open Go.ChangeShapes Go.WideShapes Go.ChangeAt Go.RowKit Go.Maps
set_option linter.unusedVariables false
theorem sm_of {g g' : Gr} (h : Sm g.l) (hp : g'.p = g.p) : Sm g'.l := by
  have e : g'.l.map Bk.b3 = g.l.map Bk.b3 := congrArg (fun x => x.2.2) hp
  refine ⟨?_, ?_⟩
  · have := congrArg List.length e
    simp at this
    rw [this]; exact h.n
  · intro b hb
    have hm : b.b3 ∈ g.l.map Bk.b3 := by rw [← e]; exact List.mem_map.2 ⟨b, hb, rfl⟩
    obtain ⟨x, hx, ex⟩ := List.mem_map.1 hm
    have : x.l = b.l := congrArg (fun y : B3 => y.2.2) ex
    rw [← this]
    exact h.a x hx
set_option maxRecDepth 20000 in
set_option maxHeartbeats 8000000 in
theorem add_any {tb mb : Nat} {room : Int} {L : List Gr} (g : Gr) (w : World) (h : Tb w tb mb room L) (hT : Bs w g.a g.l) (hS : Sm g.l) (hd : Cd w) (h0 : -9223372036854775808 ≤ g.id) (h1 : g.id ≤ 9223372036854775807) (hL : L.length ≤ 64) :
    Calls Tryz.prog 28 #[ptr tb, gV g] w fun e w' => e = .returned (.int .i64 (addE room L g)) ∧ (addE room L g ≠ 0 → Below w.heap.size w w') ∧ (addE room L g = 0 → ∃ g' : Gr, g'.p = g.p ∧ Tb w' tb mb room (putG g' L) ∧ w.grownBy w' (some mb) ∧ Cd w' ∧ ∀ b, InB g'.a g'.l b → w.heap.size ≤ b) := by
  have HR : Hid (∀ w1, Below w.heap.size w w1 → Calls Tryz.prog 57 #[gV g] w1 fun e w' => e = .returned (.int .i64 (rightE g.p)) ∧ Below w1.heap.size w1 w') := (show ∀ w1, _ from fun w1 k => right_g g w1 (hT.below k) hS (hd.below k))
  have HH : Hid (∀ w1, Below w.heap.size w w1 → Calls Tryz.prog 58 #[ptr tb, .int .i64 g.id] w1 fun e w' => e = .returned (.bool (hasP L g.id)) ∧ Below w1.heap.size w1 w') := (show ∀ w1, _ from fun w1 k => has_any g.id w1 (h.below k) h0 h1)
  have HLd : Hid (rightE g.p = 0 → ∀ w1, Below w.heap.size w w1 → Calls Tryz.prog 60 #[gV g] w1 fun e w' => ∃ v zs, e = .returned v ∧ OwnI w1.heap.size w' v zs ∧ (∀ x, x ∈ zs ↔ x ∈ rawL (g.l.map Bk.b3)) ∧ zs.length ≤ 10000 ∧ Below w1.heap.size w1 w') := (show _ → ∀ w1, _ from fun hr w1 k => leads_any g w1 (hT.below k) hS (LO_of hr))
  have HA : Hid (rightE g.p = 0 → ∀ (v : Value) (zs : List Int) w1 base, Below w.heap.size w w1 → OwnI base w1 v zs → (∀ x, x ∈ zs ↔ x ∈ rawL (g.l.map Bk.b3)) → zs.length ≤ 10000 → Calls Tryz.prog 59 #[ptr tb, v] w1 fun e w' => e = .returned (.bool (leadsAll L (g.l.map Bk.b3))) ∧ Below w1.heap.size w1 w') := (show _ → ∀ (v : Value) (zs : List Int) w1 base, _ from fun hr v zs w1 base k ho hz hn => by
    have := hasAll_any v zs w1 base (h.below k) ho (fun x hx => by have := raw_wf hr ((hz x).1 hx); omega) hn
    rw [all_mem hz] at this
    exact this)
  have HC : Hid (∀ w1, Below w.heap.size w w1 → Calls Tryz.prog 47 #[gV g] w1 fun e w' => ∃ a' r c', e = .returned (.agg #[.int .i64 g.id, .int .i64 g.kd, .slice a' r.length c']) ∧ (Gr.mk g.id g.kd a' r c').p = g.p ∧ BsF w1.heap.size w' a' r ∧ Below w1.heap.size w1 w') := (show ∀ w1, _ from fun w1 k => copyOf_parts g w1 (hT.below k) hS)
  have HT : Hid (∀ w1, Below w.heap.size w w1 → Tb w1 tb mb room L) := (show ∀ w1, _ from fun w1 k => h.below k)
  have HD : Hid (∀ w1, Below w.heap.size w w1 → Cd w1) := (show ∀ w1, _ from fun w1 k => hd.below k)
  have HL : Hid (L.length ≤ 64) := hL
  have HS : Hid (Sm g.l) := hS
  have HE : Hid (addE room L g = if rightE g.p ≠ 0 then rightE g.p else if hasP L g.id = true then 29 else if leadsAll L (g.l.map Bk.b3) = false then 31 else if room ≤ L.length then 27 else 0) := (show _ = _ from rfl)
  obtain ⟨V, hV⟩ : ∃ V, gx w g = V := ⟨_, rfl⟩
  have GV : Below w.heap.size w V := by rw [← hV]; go_grown
  have zV : w.heap.size < V.heap.size := by rw [← hV]; simp
  have hc := Cg.new w g
  rw [hV] at hc
  have HX : Hid (∀ w', Below V.heap.size V w' → (w'.cell? ⟨w.heap.size, 0, none⟩ = some (.int .i64 g.id) ∧ w'.cell? ⟨w.heap.size, 1, none⟩ = some (.int .i64 g.kd) ∧ w'.cell? ⟨w.heap.size, 2, none⟩ = some (.slice g.a g.l.length g.c)) ∧ Below w.heap.size w w') := (show ∀ w', _ from fun w' k => ⟨hc.below zV k, btr GV k (Nat.le_refl _)⟩)
  have HV : Hid (w.alloc (.cells #[.int .i64 g.id, .int .i64 g.kd, .slice g.a g.l.length g.c] 81) = V) := hV
  obtain ⟨k0, k1, k2⟩ := (HX.out V (Below.refl _ _)).1
  clear h hT hS hd hL hc zV hV
  generalize addE room L g = AE at *
  go_enter Tryz.func28, Tryz.ntmps28
  go_wp2_with fail
  rw [HV.out]
  refine (HR.out V GV).mono ?_
  rintro e w1 ⟨rfl, g1⟩
  obtain ⟨⟨c0, c1, c2⟩, G1⟩ := HX.out w1 g1
  clear k0 k1 k2 HR HV
  by_cases hr : rightE g.p = 0
  case neg =>
    have hne : (rightE g.p != 0) = true := by simpa using hr
    have HE1 : Hid (AE = rightE g.p) := (show _ = _ by rw [HE.out, if_pos hr])
    have HR0 : Hid (rightE g.p ≠ 0) := hr
    clear hr HE
    go_wp2_with fail
    go_ret
    exact ⟨by rw [HE1.out]; rfl, fun _ => G1, fun e => absurd (HE1.out.symm.trans e) HR0.out⟩
  case pos =>
    have hne : (rightE g.p != 0) = false := by simp [hr]
    have HE1 : Hid (AE = if hasP L g.id = true then 29 else if leadsAll L (g.l.map Bk.b3) = false then 31 else if room ≤ L.length then 27 else 0) := (show _ = _ by rw [HE.out, if_neg (by simp [hr])])
    have HR0 : Hid (rightE g.p = 0) := hr
    clear hr HE
    go_wp2_with fail
    refine (HH.out w1 G1).mono ?_
    rintro e w2 ⟨rfl, g2⟩
    have G12 : Below V.heap.size V w2 := btr g1 g2 (Nat.le_refl _)
    obtain ⟨⟨d0, d1, d2⟩, G2⟩ := HX.out w2 G12
    clear g2 c0 c1 c2 hne HH
    generalize hasP L g.id = HB at *
    cases HB with
    | true =>
      have HE2 : Hid (AE = 29) := HE1.out
      go_wp2_with fail
      go_ret
      exact ⟨by rw [HE2.out]; rfl, fun _ => G2, fun e => by rw [HE2.out] at e; cases e⟩
    | false =>
      go_wp2_with fail
      refine (HLd.out HR0.out w2 G2).mono ?_
      rintro e w3 ⟨v, zs, rfl, ho, hz, hn, g3⟩
      have G13 : Below V.heap.size V w3 := btr G12 g3 (Nat.le_refl _)
      obtain ⟨⟨e0, e1, e2⟩, G3⟩ := HX.out w3 G13
      have HA' : Hid (Calls Tryz.prog 59 #[ptr tb, v] w3 fun e w' => e = .returned (.bool (leadsAll L (g.l.map Bk.b3))) ∧ Below w3.heap.size w3 w') := HA.out HR0.out v zs w3 _ G3 ho hz hn
      clear g3 d0 d1 d2 HLd HA ho hz hn
      go_wp2_with fail
      refine HA'.out.mono ?_
      rintro e w4 ⟨rfl, g4⟩
      have G14 : Below V.heap.size V w4 := btr G13 g4 (Nat.le_refl _)
      obtain ⟨⟨f0, f1, f2⟩, G4⟩ := HX.out w4 G14
      clear g4 e0 e1 e2 HA'
      generalize leadsAll L (g.l.map Bk.b3) = LB at *
      cases LB with
      | false =>
        have HE2 : Hid (AE = 31) := HE1.out
        go_wp2_with fail
        go_ret
        exact ⟨by rw [HE2.out]; rfl, fun _ => G4, fun e => by rw [HE2.out] at e; cases e⟩
      | true =>
        have HE2 : Hid (AE = if room ≤ L.length then 27 else 0) := HE1.out
        have tT := HT.out w4 G4
        have t0 := tT.c0
        have t1 := tT.c1
        have tl := tT.lt
        have hlen : ∀ w ty, w.heap[mb]? = w4.heap[mb]? → (Builtin.len_ #[125] ty #[.map (some mb)]).run Tryz.prog w = .ok (.int .i64 L.length) w := fun w ty hw => by
          have hown : w.ownsMap Tryz.prog 3 Re mb L.length (mD L) := by
            obtain ⟨es, clock, hb, F, h3, hD⟩ := tT.own
            exact ⟨es, clock, hw.trans hb, F, h3, hD⟩
          have := hown.len Tryz.underlying125 ty
          rwa [size_mD] at this
        clear HE1
        have hln : ∀ q ty, (Builtin.len_ #[125] ty #[.map (some mb)]).run Tryz.prog (w4.drewN q) = .ok (.int .i64 L.length) (w4.drewN q) := fun q ty => hlen _ ty rfl
        have hl0 : ∀ ty, (Builtin.len_ #[125] ty #[.map (some mb)]).run Tryz.prog w4 = .ok (.int .i64 L.length) w4 := fun ty => hlen _ ty rfl
        clear hlen tT
        go_wp2_with fail
        go_quiet (fail)
        obtain ⟨w5, h5⟩ : ∃ w5, w4.drewN nq = w5 := ⟨_, rfl⟩
        have g5 : Below w4.heap.size w4 w5 := by rw [← h5]; exact bdr (Below.refl _ _) _
        rw [h5]
        have G15 : Below V.heap.size V w5 := btr G14 g5 (Nat.le_refl _)
        obtain ⟨⟨q0, q1, q2⟩, G5⟩ := HX.out w5 G15
        have T5 := HT.out w5 G5
        have s0 := T5.c0
        have s1 := T5.c1
        have sl := T5.lt
        have H5 : Hid (w4.drewN nq = w5) := h5
        clear h5 g5 hln hl0 f0 f1 f2 t0 t1 tl T5
        obtain ⟨RB, hRB⟩ : ∃ RB, decide (room ≤ (L.length : Int)) = RB := ⟨_, rfl⟩
        rw [hRB]
        cases RB with
        | true =>
          have HE3 : Hid (AE = 27) := (show _ = _ by rw [HE2.out, if_pos (of_decide_eq_true hRB)])
          clear hRB
          go_wp2_with fail
          go_ret
          exact ⟨by rw [HE3.out]; rfl, fun _ => G5, fun e => by rw [HE3.out] at e; cases e⟩
        | false =>
          have HE3 : Hid (AE = 0) := (show _ = _ by rw [HE2.out, if_neg (of_decide_eq_false hRB)])
          clear hRB
          go_wp2_with fail
          have GD : Below w5.heap.size w5 w5.drew := bdr (Below.refl _ _) 1
          have HCD : Hid (Calls Tryz.prog 47 #[gV g] w5.drew fun e w' => ∃ a' r c', e = .returned (.agg #[.int .i64 g.id, .int .i64 g.kd, .slice a' r.length c']) ∧ (Gr.mk g.id g.kd a' r c').p = g.p ∧ BsF w5.drew.heap.size w' a' r ∧ Below w5.drew.heap.size w5.drew w') := HC.out w5.drew (btr G5 GD (Nat.le_refl _))
          have HF : Hid (∀ w6, Below w5.drew.heap.size w5.drew w6 → Below V.heap.size V w6) := (show ∀ w6, _ from fun w6 k => btr (btr G15 GD (Nat.le_refl _)) k (Nat.le_refl _))
          go_region_with (go_at_call 47; refine HCD.out.mono ?_; rintro e w6 ⟨a', r, c', rfl, hp, hb, g6⟩; have F6 := HF.out w6 g6; obtain ⟨⟨r0, r1, r2⟩, G6⟩ := HX.out w6 F6; have T6 := HT.out w6 G6; have u1 := T6.c1; have ul := T6.lt; obtain ⟨w7, hrun, ho, hg⟩ := upd_run mb L ⟨g.id, g.kd, a', r, c'⟩ T6.own (by have := HL.out; omega) h0 h1; simp only at hrun)
          all_goals
            have hfin := (HT.out w5.drew (btr G5 GD (Nat.le_refl _))).put ⟨g.id, g.kd, a', r, c'⟩ g6 hb (sm_of HS.out hp) (by rw [hp]; exact HR0.out) ho hg
            have HFin : Hid (Tb w7 tb mb room (putG ⟨g.id, g.kd, a', r, c'⟩ L) ∧ w5.drew.grownBy w7 (some mb)) := hfin
            have HP : Hid ((Gr.mk g.id g.kd a' r c').p = g.p) := hp
            have HNw : Hid (∀ b, InB a' r b → w.heap.size ≤ b) := (show ∀ b, _ from fun b hin => Nat.le_trans (btr G5 GD (Nat.le_refl _)).size (hb.new hin))
            have HG5 : Hid (Below w.heap.size w w5.drew) := btr G5 GD (Nat.le_refl _)
            clear hfin hp ho hg hb g6 T6 u1 ul r0 r1 r2 s0 s1 sl q0 q1 q2
            go_wp2_with fail
            go_ret
            have hgr := HFin.out.2
            have k5 := HG5.out
            have HGR : w.grownBy w7 (some mb) := ⟨hgr.os.trans k5.os, hgr.tape.trans k5.tape, hgr.output.trans k5.output, Nat.le_trans k5.size hgr.size, fun i hi hne => (hgr.block i (Nat.lt_of_lt_of_le hi k5.size) hne).trans (k5.block i hi)⟩
            refine ⟨by rw [HE3.out]; rfl, fun e => absurd HE3.out e, fun _ => ⟨_, HP.out, HFin.out.1, HGR, ?_⟩⟩
            exact ⟨(HD.out w (Below.refl _ _)).grown (HT.out w (Below.refl _ _)) HGR, HNw.out⟩
end Go.Proofs.YtgnihbdcdefdgaaGreatDoor.Gp
/-
  What isLedTo and numbers answer, as contracts: a range over the map.
-/
namespace Go.Proofs.YtgnihbdcdefdgaaGreatDoor.Gp
open Go.ChangeShapes Go.WideShapes Go.ChangeAt Go.RowKit Go.Maps
set_option linter.unusedVariables false

abbrev Rng (w : World) (mb r n : Nat) (L : List Gr) (left : Lit → Bool) (cnt : Nat) : Prop := w.ranges Tryz.prog 3 Re mb r n (mD L) left cnt
/-- A step of the range. -/
theorem wpList_nextG {w : World} {ops : Array Oper} {rest : List Oper} {o : Oper} {a : Act} {Q : Exit → Act → World → Prop} (hg : o.guard = none) (it : Operand) (hop : o.op = Op.next it false) (mb r n : Nat) (L : List Gr) (left : Lit → Bool) (cnt : Nat)
    (hit : a.eval it = .pointer (some ⟨r, 0, none⟩)) (h : Rng w mb r n L left cnt)
    (hDone : cnt = 0 → (∀ kl, left kl = false) → wpList Tryz.prog ops Q rest (a.put o.dst (.tuple #[.bool false])) w)
    (hMore : ∀ (x : Int) (gi gk : Int) (ga : Option Addr) (gl : List Bk) (gc : Nat) (w' : World) (cnt' : Nat), Gr.mk gi gk ga gl gc ∈ L → gi = x → left (kL x) = true → Rng w' mb r n L (fun z => left z && !z.sameKey (kL x)) cnt' → cnt' < cnt → w.grownBy w' (some r) → w'.heap.size = w.heap.size →
      (Instr.entry (.pointer (some ⟨r, 0, none⟩))).run Tryz.prog w' = .ok (.tuple #[.int .i64 x, .agg #[.int .i64 gi, .int .i64 gk, .slice ga gl.length gc]]) w' → wpList Tryz.prog ops Q rest (a.put o.dst (.tuple #[.bool true, .int .i64 x, .agg #[.int .i64 gi, .int .i64 gk, .slice ga gl.length gc]])) w') :
    wpList Tryz.prog ops Q (o :: rest) a w :=
  wpList_next_ranges w hg it hop 3 law Re (Value.int .i64) hV (fun key kl hkey => by obtain ⟨x, rfl, _⟩ := Maps.keyOf_int_inv Tryz.underlying3 hkey; exact ⟨x, rfl⟩) (fun v y hv => by obtain ⟨g, e, _⟩ := Re_inv hv; exact ⟨g, e⟩)
    mb r n (mD L) left cnt hit h hDone (fun x c kl y w' cnt' hkey hlk hv hat hrg hlt hgr hsz hen => by
      obtain ⟨x', ex, rfl, hwx⟩ := Maps.keyOf_int_inv Tryz.underlying3 hkey
      cases ex
      obtain ⟨gh, eg, ey⟩ := Re_inv hv
      have ha : ∀ z, (mD L).atKey (kL x) z = .held gh := fun z => by rw [hat z, ey]
      obtain ⟨g, hgm, hid, hh⟩ := at_mD ha
      obtain ⟨gi, gk, ga, gl, gc⟩ := g
      have e3 : hV c = .agg #[.int .i64 gi, .int .i64 gk, .slice ga gl.length gc] := by rw [eg, ← hh]; rfl
      rw [e3] at hen ⊢
      exact hMore x gi gk ga gl gc w' cnt' hgm hid hlk hrg hlt hgr hsz hen)
theorem rng_start {w : World} {tb mb : Nat} {room : Int} {L : List Gr} (h : Tb w tb mb room L) {g : Gr} (hg : g ∈ L) : Maps.has (mD L) (kL g.id) = true := by rw [has_mD]; exact hasP_iff.2 ⟨g, hg, rfl⟩
/-- Whether one of the groups leads to a number. -/
def ledB (L : List Gr) (i : Int) : Bool := L.any fun g => (rawL (g.l.map Bk.b3)).contains i
theorem bnext {B r : Nat} {w wr w' : World} (h : Below B w wr) (k : wr.grownBy w' (some r)) (hB : B ≤ wr.heap.size) (hr : B ≤ r) : Below B w w' := h.grown k hB (fun j hj => by cases hj; exact hr)
end Go.Proofs.YtgnihbdcdefdgaaGreatDoor.Gp
/-
  What numbers answers, as a contract: the groups' numbers, rising.
-/
namespace Go.Proofs.YtgnihbdcdefdgaaGreatDoor.Gp
open Go.ChangeShapes Go.WideShapes Go.ChangeAt Go.RowKit Go.Maps Go.Sort
set_option linter.unusedVariables false

theorem rise_ext : ∀ {a b : List Int}, a.Pairwise (· < ·) → b.Pairwise (· < ·) → (∀ x, x ∈ a ↔ x ∈ b) → a = b
  | [], [], _, _, _ => rfl
  | [], y :: b, _, _, h => by have := (h y).2 (by simp); cases this
  | x :: a, [], _, _, h => by have := (h x).1 (by simp); cases this
  | x :: a, y :: b, ha, hb, h => by
    obtain ⟨h1, h2⟩ := List.pairwise_cons.1 ha
    obtain ⟨h3, h4⟩ := List.pairwise_cons.1 hb
    have e : x = y := by
      rcases List.mem_cons.1 ((h x).1 (by simp)) with e | hx
      · exact e
      · rcases List.mem_cons.1 ((h y).2 (by simp)) with e | hy
        · exact e.symm
        · have := h1 y hy; have := h3 x hx; omega
    subst e
    rw [rise_ext h2 h4 (fun z => ?_)]
    constructor
    · intro hz
      rcases List.mem_cons.1 ((h z).1 (List.mem_cons_of_mem _ hz)) with e | hz'
      · have := h1 z hz; omega
      · exact hz'
    · intro hz
      rcases List.mem_cons.1 ((h z).2 (List.mem_cons_of_mem _ hz)) with e | hz'
      · have := h3 z hz; omega
      · exact hz'
theorem sort_rise {zs : List Int} (hn : zs.Nodup) : (zs.mergeSort fun x y => decide (x ≤ y)).Pairwise (· < ·) := by
  have hs : (zs.mergeSort fun x y => decide (x ≤ y)).Pairwise (fun x y => decide (x ≤ y) = true) := List.pairwise_mergeSort (fun a b c h1 h2 => by simp at *; omega) (fun a b => by simp; omega) zs
  have hd : (zs.mergeSort fun x y => decide (x ≤ y)).Pairwise (· ≠ ·) := (List.mergeSort_perm zs _).nodup_iff.2 hn
  exact (hs.and hd).imp (fun {a b} h => by simp at h; omega)
theorem sort_own2 (base : Nat) (v : Value) (zs : List Int) (w : World) (hown : OwnI base w v zs) (hn : zs.length ≤ 100000) : Calls Tryz.prog 87 #[v] w fun e w' => e = .returned (.tuple #[]) ∧ OwnI base w' v (zs.mergeSort fun x y => decide (x ≤ y)) ∧ w.grownBy w' v.ownBlock := by
  rcases hown.2 with ⟨rfl, h0⟩ | ⟨g, cap, cur, rfl, hbg, hb, hnc, hcm, hcs, htk⟩
  · refine (Tryz.slices_Sort_none none 0 w).mono ?_
    rintro e w' ⟨rfl, rfl⟩
    have hz : zs = [] := List.length_eq_zero_iff.1 h0
    subst hz
    exact ⟨rfl, by rw [List.mergeSort_nil]; exact hown, World.grownBy.refl _ _⟩
  · refine (Tryz.slices_Sort_int g 0 cap zs w (holds_of_blockI hb (by simpa using htk)) (Array.getElem?_eq_some_iff.1 hb).1 (by omega)).mono ?_
    rintro e w' ⟨rfl, n, os, rfl⟩
    have hp : (zs.mergeSort fun x y => decide (x ≤ y)).Perm zs := List.mergeSort_perm _ _
    have hl : (zs.mergeSort fun x y => decide (x ≤ y)).length = zs.length := hp.length_eq
    refine ⟨rfl, ?_, grownBy_sortedI _⟩
    have := ownsRow_sortedI (n := n) (os := os) hl hbg hb hnc hcm hcs
    unfold OwnI
    rw [hl]
    exact this
/-- A round of numbers. -/
structure NmI (w0 : World) (mb : Nat) (L : List Gr) (left : Lit → Bool) (cnt : Nat) (v : Value) (zs : List Int) (wr : World) : Prop where
  rng : Rng wr mb w0.heap.size L.length L left cnt
  own : OwnI (w0.heap.size + 1) wr v zs
  bel : Below w0.heap.size w0 wr
  sz : w0.heap.size + 1 ≤ wr.heap.size
  nd : zs.Nodup
  mem : ∀ x, x ∈ zs ↔ hasP L x = true ∧ left (kL x) = false
  len : zs.length + cnt ≤ L.length
theorem srt_ids {L : List Gr} (h : SrtG L) : (L.map Gr.id).Pairwise (· < ·) := List.pairwise_map.2 h
set_option maxRecDepth 20000 in
set_option maxHeartbeats 8000000 in
theorem numbers_any {tb mb : Nat} {room : Int} {L : List Gr} (w : World) (h : Tb w tb mb room L) (hL : L.length ≤ 64) : Calls Tryz.prog 46 #[ptr tb] w fun e w' => ∃ v, e = .returned v ∧ OwnI w.heap.size w' v (L.map Gr.id) ∧ Below w.heap.size w w' := by
  have c1 := h.c1
  have lt := h.lt
  have hown := h.own
  have HML : Hid (mb < w.heap.size) := h.mlt
  have HS : Hid (SrtG L) := h.srt
  have HL : Hid (L.length ≤ 64) := hL
  clear h hL
  go_enter Tryz.func46, Tryz.ntmps46
  go_wp2_with (at_range; refine wpList_range_own _ rfl _ 125 rfl 3 81 law Tryz.underlying125 _ mb L.length _ rfl hown ?_; intro w0 hrg0 hg0 hs0)
  go_frame
  have H0 : Hid (NmI w mb L (Maps.has (mD L)) (Maps.size (mD L)) (.slice none 0 0) [] w0) := (show NmI _ _ _ _ _ _ _ _ from ⟨hrg0, World.ownsRow_nil _ _ _ _, ⟨hg0.os, hg0.tape, hg0.output, hg0.size, fun k hk => hg0.block k hk (by simp)⟩, by omega, by simp, fun x => by
    rw [has_mD]
    simp, by rw [size_mD]; simp⟩)
  clear hrg0 hg0 hs0 hown
  go_loopw [3, 10] (fun v3 _ wr => ∃ (left : Lit → Bool) (cnt : Nat) (zs : List Int), Hid (NmI w mb L left cnt v3 zs wr)) (fun _ _ wr => wr.rangeLeft mb w.heap.size)
  case atStart => exact ⟨_, _, _, H0⟩
  case round =>
    obtain ⟨left, cnt, zs, HI⟩ := hrel
    go_wp2_with (at_next; refine wpList_nextG rfl _ rfl mb w.heap.size L.length L left cnt rfl HI.out.rng ?_ ?_)
    · intro _ hl0
      have hzz : ∀ x, x ∈ zs ↔ x ∈ L.map Gr.id := fun x => by
        rw [HI.out.mem x, hl0, hasP_iff]
        simp
      have hid : (zs.mergeSort fun x y => decide (x ≤ y)) = L.map Gr.id := rise_ext (sort_rise HI.out.nd) (srt_ids HS.out) (fun x => by rw [(List.mergeSort_perm zs _).mem_iff]; exact hzz x)
      have HC : Hid (Calls Tryz.prog 87 #[u3] wr fun e w' => e = .returned (.tuple #[]) ∧ OwnI (w.heap.size + 1) w' u3 (L.map Gr.id) ∧ wr.grownBy w' u3.ownBlock) := (show Calls _ _ _ _ _ by
        rw [← hid]
        exact sort_own2 _ u3 zs wr HI.out.own (by have := HI.out.len; have := HL.out; omega))
      clear hl0 hzz hid
      go_wp2_with fail
      refine HC.out.mono ?_
      rintro e w1 ⟨rfl, o1, k1⟩
      have HO : Hid (OwnI w.heap.size w1 u3 (L.map Gr.id) ∧ Below w.heap.size w w1) := (show _ ∧ _ from ⟨own_mono o1 (by omega), HI.out.bel.grown k1 HI.out.bel.size (fun j hj => by have := (HI.out.own.lt j hj).1; omega)⟩)
      clear o1 k1
      go_wp2_with fail
      go_ret
      exact ⟨_, rfl, HO.out.1, HO.out.2⟩
    · intro x gi gk ga gl gc w1 cnt1 hgm hid hlx hrg1 hlt hg1 hs1 hen
      have hb1 : Below w.heap.size w w1 := bnext HI.out.bel hg1 HI.out.bel.size (Nat.le_refl _)
      have ho1 : OwnI (w.heap.size + 1) w1 u3 zs := HI.out.own.kept hg1 (by
        cases hob : u3.ownBlock with
        | none => exact .inl rfl
        | some g =>
          right
          intro e
          cases e
          have := (HI.out.own.lt _ hob).1
          omega)
      have H1 : Hid (Rng w1 mb w.heap.size L.length L (fun z => left z && !z.sameKey (kL x)) cnt1 ∧ OwnI (w.heap.size + 1) w1 u3 zs ∧ Below w.heap.size w w1 ∧ cnt1 < cnt ∧ w1.heap.size = wr.heap.size) := (show _ ∧ _ ∧ _ ∧ _ ∧ _ from ⟨hrg1, ho1, hb1, hlt, hs1⟩)
      have HM : Hid (hasP L x = true ∧ left (kL x) = true) := (show _ ∧ _ from ⟨hasP_iff.2 ⟨_, hgm, hid⟩, hlx⟩)
      have HO2 : Hid (OwnI (w.heap.size + 1) (w1.alloc (.cells #[.int .i64 x] 3)) u3 zs) := (show OwnI _ _ _ _ from ho1.alloc _)
      have HNl : Hid (zs.length ≤ 100000) := (show _ ≤ _ by have := HI.out.len; have := HL.out; omega)
      have HSz : Hid (w.heap.size + 1 ≤ (w1.alloc (.cells #[.int .i64 x] 3)).heap.size) := (show _ ≤ _ by have := HI.out.sz; simp; omega)
      clear hs1 hg1 hrg1 hb1 hlt hgm hid hlx ho1
      go_wp2_with (at_builtin; refine wpList_app1 rfl _ _ rfl (w.heap.size + 1) u3 zs rfl HO2.out w1.heap.size x rfl (by simp) HNl.out HSz.out ?_; intro v' w2 ho2 hg2)
      have HN : Hid (NmI w mb L (fun z => left z && !z.sameKey (kL x)) cnt1 v' (zs ++ [x]) w2 ∧ cnt1 < cnt) := (show _ ∧ _ by
        have hne : ∀ j, u3.ownBlock = some j → w.heap.size + 1 ≤ j := fun j hj => (HO2.out.lt j hj).1
        refine ⟨⟨?_, ho2, ?_, ?_, ?_, ?_, ?_⟩, H1.out.2.2.2.1⟩
        · exact (H1.out.1.alloc _).kept hg2 (fun e => by have := hne _ e.symm; have := HML.out; omega) (fun e => by have := hne _ e.symm; omega)
        · have hb := H1.out.2.2.1
          have hb2 : Below w.heap.size w (w1.alloc (.cells #[.int .i64 x] 3)) := btr hb (by go_grown) (Nat.le_refl _)
          exact hb2.grown hg2 hb2.size (fun j hj => by have := hne j hj; omega)
        · exact Nat.le_trans HSz.out hg2.size
        · rw [List.nodup_append]
          refine ⟨HI.out.nd, by simp, fun a ha b hb => ?_⟩
          simp at hb
          subst hb
          intro e
          subst e
          have := (HI.out.mem a).1 ha
          rw [HM.out.2] at this
          cases this.2
        · intro y
          rw [List.mem_append, HI.out.mem y, List.mem_singleton, same_kL]
          by_cases e : y = x
          · subst e
            simp [HM.out.1]
          · simp [e]
        · rw [List.length_append]
          have := HI.out.len
          have := H1.out.2.2.2.1
          simp
          omega)
      clear ho2 hg2 HO2 hen
      go_wp2_with fail
      go_roundw
      case rel => exact ⟨_, cnt1, _, (show NmI _ _ _ _ _ _ _ _ from HN.out.1)⟩
      case measure => rw [HN.out.1.rng.left_eq, HI.out.rng.left_eq]; exact HN.out.2
end Go.Proofs.YtgnihbdcdefdgaaGreatDoor.Gp
/-
  What List, Get and Delete answer and do, as contracts.
-/
namespace Go.Proofs.YtgnihbdcdefdgaaGreatDoor.Gp
open Go.ChangeShapes Go.WideShapes Go.ChangeAt Go.RowKit Go.Maps
set_option linter.unusedVariables false

/-- Groups as cells. -/
def flatG (l : List Gr) : List Value := l.flatMap fun t => [.int .i64 t.id, .int .i64 t.kd, .slice t.a t.l.length t.c]
theorem flatG_length : ∀ l : List Gr, (flatG l).length = l.length * 3
  | [] => rfl
  | t :: l => by simp only [flatG, List.flatMap_cons, List.length_append, List.length_cons, List.length_nil]; have := flatG_length l; unfold flatG at this; rw [this]; omega
theorem flatG_append (l m : List Gr) : flatG (l ++ m) = flatG l ++ flatG m := by simp [flatG]
theorem flatG_at : ∀ (l : List Gr) (i : Nat) (h : i < l.length), (flatG l)[i * 3]? = some (.int .i64 l[i].id) ∧ (flatG l)[i * 3 + 1]? = some (.int .i64 l[i].kd) ∧ (flatG l)[i * 3 + 2]? = some (.slice l[i].a l[i].l.length l[i].c)
  | t :: l, 0, _ => by simp [flatG]
  | t :: l, i + 1, h => by
    have ih := flatG_at l i (by simpa using h)
    unfold flatG at ih ⊢
    rw [List.flatMap_cons, show (i + 1) * 3 = i * 3 + 3 by omega]
    simpa using ih
theorem flatG_cell (l : List Gr) (j : Nat) (u : Value) (h : (flatG l)[j]? = some u) : ∃ i, ∃ hi : i < l.length, (j = i * 3 ∧ u = .int .i64 l[i].id) ∨ (j = i * 3 + 1 ∧ u = .int .i64 l[i].kd) ∨ (j = i * 3 + 2 ∧ u = .slice l[i].a l[i].l.length l[i].c) := by
  have hj : j < (flatG l).length := by
    rcases Nat.lt_or_ge j (flatG l).length with h' | h'
    · exact h'
    · rw [List.getElem?_eq_none h'] at h; cases h
  rw [flatG_length] at hj
  have hi : j / 3 < l.length := by omega
  obtain ⟨x0, x1, x2⟩ := flatG_at l (j / 3) hi
  refine ⟨j / 3, hi, ?_⟩
  have : j % 3 = 0 ∨ j % 3 = 1 ∨ j % 3 = 2 := by omega
  rcases this with q | q | q
  · have e : j = j / 3 * 3 := by omega
    refine .inl ⟨e, ?_⟩
    rw [← e] at x0
    exact Option.some.inj (h.symm.trans x0)
  · have e : j = j / 3 * 3 + 1 := by omega
    refine .inr (.inl ⟨e, ?_⟩)
    rw [← e] at x1
    exact Option.some.inj (h.symm.trans x1)
  · have e : j = j / 3 * 3 + 2 := by omega
    refine .inr (.inr ⟨e, ?_⟩)
    rw [← e] at x2
    exact Option.some.inj (h.symm.trans x2)
theorem flatG_one (l : List Gr) : ∀ u ∈ flatG l, u.oneCell' = true := by
  intro u hu
  unfold flatG at hu
  rw [List.mem_flatMap] at hu
  obtain ⟨t, _, ht⟩ := hu
  simp at ht
  rcases ht with rfl | rfl | rfl <;> rfl
theorem infoGr : (Tryz.prog.info? 81).map (fun i => (i.zero, i.size, i.bytes)) = some (some (.agg #[.int .i64 0, .int .i64 0, .slice none 0 0]), 3, 40) := by kernel_rfl
theorem rowG_cells {base : Nat} {w : World} {g n cap : Nat} {l : List Gr} (hn : n = l.length) (h : w.ownsRow base 81 3 (.slice (some ⟨g, 0, none⟩) n cap) n (flatG l)) (i : Nat) (hi : i < l.length) : Cg w g (i * 3) l[i] := by
  subst hn
  obtain ⟨x0, x1, x2⟩ := flatG_at l i hi
  refine ⟨?_, ?_, ?_⟩
  · rw [h.cellAt (i * 3) (by omega)]; exact x0
  · rw [h.cellAt (i * 3 + 1) (by omega)]; exact x1
  · rw [h.cellAt (i * 3 + 2) (by omega)]; exact x2
/-- Groups that a call has put into a row of its own, behind world V, with what they have. -/
structure LsI (V : World) (v : Value) (r : List Gr) (wr : World) : Prop where
  row : wr.ownsRow V.heap.size 81 3 v r.length (flatG r)
  bel : Below V.heap.size V wr
  bs : ∀ x ∈ r, Bs wr x.a x.l
  sm : ∀ x ∈ r, Sm x.l
  ap : ∀ x ∈ r, ∀ b, InB x.a x.l b → v.ownBlock ≠ some b
theorem LsI.grow {V : World} {v : Value} {r : List Gr} {wr w2 : World} (h : LsI V v r wr) (g : Below wr.heap.size wr w2) : LsI V v r w2 := ⟨own_below h.row g, h.bel.trans (g.mono h.bel.size), fun x hx => (h.bs x hx).below g, h.sm, h.ap⟩
/-- A group is appended. -/
theorem wpList_appG1 {w : World} {ops : Array Oper} {rest : List Oper} {o : Oper} {a : Act} {Q : Exit → Act → World → Prop} (hgd : o.guard = none) (s x : Operand)
    (ho : o.op = .call { callee := .builtin .append, args := #[s, x], argTypes := #[23, 23] }) (V : World) (v : Value) (r : List Gr) (hs : a.eval s = v) (hI : LsI V v r w)
    (g : Nat) (b : Gr) (hx : a.eval x = .slice (some ⟨g, 0, none⟩) 1 1) (hc : Cg w g 0 b) (hn : r.length ≤ 1000) (hb : Bs w b.a b.l) (hsm : Sm b.l) (hap : ∀ k, InB b.a b.l k → v.ownBlock ≠ some k)
    (h : ∀ v' w', LsI V v' (r ++ [b]) w' → wpList Tryz.prog ops Q rest (a.put o.dst v') w') : wpList Tryz.prog ops Q (o :: rest) a w := by
  obtain ⟨i0, hi, hz0, hz1, hz2⟩ := info_parts infoGr
  refine wpList_append_own_at w hgd s x 23 ho V.heap.size 81 i0 (.agg #[.int .i64 0, .int .i64 0, .slice none 0 0]) 3 40 Tryz.underlying23 hi hz0 hz1 hz2 rfl (by decide) v r.length (flatG r) hs hI.row ⟨g, 0, none⟩ 1 1 (flatG [b]) hx (by simp [flatG]) ?_ (flatG_one [b]) (by unfold maxLen; omega) (by omega) hI.bel.size ?_
  · intro j u hj
    obtain ⟨c0, c1, c2⟩ := hc
    rw [addP, Nat.zero_add]
    match j, hj with
    | 0, hj => simp [flatG] at hj; rw [← hj]; exact c0
    | 1, hj => simp [flatG] at hj; rw [← hj]; simpa using c1
    | 2, hj => simp [flatG] at hj; rw [← hj]; simpa using c2
    | j + 3, hj => simp [flatG] at hj
  · intro v' w' h1 h2 _ hloc
    refine h v' w' ⟨by rw [List.length_append, flatG_append]; exact h1, hI.bel.grown h2 hI.bel.size (fun j hj => (hI.row.lt j hj).1), ?_, ?_, ?_⟩
    · intro y hy
      rcases List.mem_append.1 hy with hy | hy
      · exact (hI.bs y hy).stay h2.size (fun k hk hlt => h2.block k hlt (fun e => hI.ap y hy k hk e.symm))
      · simp at hy
        subst hy
        exact hb.stay h2.size (fun k hk hlt => h2.block k hlt (fun e => hap k hk e.symm))
    · intro y hy
      rcases List.mem_append.1 hy with hy | hy
      · exact hI.sm y hy
      · simp at hy; subst hy; exact hsm
    · intro y hy k hk
      have hlt : k < w.heap.size := by
        rcases List.mem_append.1 hy with hy | hy
        · exact (hI.bs y hy).lt hk
        · simp at hy; subst hy; exact hb.lt hk
      rcases hloc with e | e
      · rw [e]
        rcases List.mem_append.1 hy with hy | hy
        · exact hI.ap y hy k hk
        · simp at hy; subst hy; exact hap k hk
      · rw [e]
        intro e2
        cases e2
        omega
/-- A slice of groups, and what they have. -/
structure Gs (w : World) (a : Option Addr) (l : List Gr) : Prop where
  cs : l = [] ∨ ∃ g o, a = some ⟨g, o, none⟩ ∧ g < w.heap.size ∧ ∀ i (h : i < l.length), Cg w g (o + i * 3) l[i]
  bs : ∀ x ∈ l, Bs w x.a x.l
  sm : ∀ x ∈ l, Sm x.l
theorem Gs.below {w w' : World} {a : Option Addr} {l : List Gr} (h : Gs w a l) (k : Below w.heap.size w w') : Gs w' a l := by
  refine ⟨?_, fun x hx => (h.bs x hx).below k, h.sm⟩
  rcases h.cs with e | ⟨g, o, ha, hg, hc⟩
  · exact .inl e
  · exact .inr ⟨g, o, ha, Nat.lt_of_lt_of_le hg k.size, fun i hi => (hc i hi).below hg k⟩
theorem Gs.at {w : World} {a : Option Addr} {l : List Gr} (h : Gs w a l) {k : Nat} (hk : k < l.length) : ∃ g o, a = some ⟨g, o, none⟩ ∧ g < w.heap.size ∧ ∀ i (h : i < l.length), Cg w g (o + i * 3) l[i] := by
  rcases h.cs with rfl | h
  · cases hk
  · exact h
theorem LsI.gs {V : World} {v : Value} {r : List Gr} {wr : World} (h : LsI V v r wr) : ∃ a c, v = .slice a r.length c ∧ r.length ≤ c ∧ Gs wr a r := by
  rcases h.row.2 with ⟨rfl, h0⟩ | ⟨g, cap, cur, rfl, hbg, hb, hnc, hcm, _⟩
  · have hr : r = [] := List.length_eq_zero_iff.1 h0
    subst hr
    exact ⟨none, 0, rfl, Nat.le_refl _, .inl rfl, by simp, by simp⟩
  · exact ⟨_, _, rfl, hnc, .inr ⟨g, 0, rfl, (Array.getElem?_eq_some_iff.1 hb).1, fun i hi => by rw [Nat.zero_add]; exact rowG_cells rfl h.row i hi⟩, h.bs, h.sm⟩
set_option maxRecDepth 20000 in
set_option maxHeartbeats 8000000 in
theorem list_any {tb mb : Nat} {room : Int} {L : List Gr} (w : World) (h : Tb w tb mb room L) (hL : L.length ≤ 64) : Calls Tryz.prog 23 #[ptr tb] w fun e w' => ∃ a c r, e = .returned (.slice a r.length c) ∧ r.map Gr.p = L.map Gr.p ∧ r.length ≤ c ∧ Gs w' a r ∧ Below w.heap.size w w' := by
  have HN : Hid (Calls Tryz.prog 46 #[ptr tb] w fun e w' => ∃ v, e = .returned v ∧ OwnI w.heap.size w' v (L.map Gr.id) ∧ Below w.heap.size w w') := numbers_any w h hL
  have HT : Hid (∀ w', Below w.heap.size w w' → Tb w' tb mb room L) := (show ∀ w', _ from fun w' k => h.below k)
  have HLk : Hid (∀ i (hi : i < L.length) w', Below w.heap.size w w' → (Instr.lookup 125 (.map (some mb)) (.int .i64 L[i].id) false).run Tryz.prog w' = .ok (.agg #[.int .i64 L[i].id, .int .i64 L[i].kd, .slice L[i].a L[i].l.length L[i].c]) w') := (show ∀ i (hi : i < L.length) w', _ from fun i hi w' k => by
    have hm := List.getElem_mem hi
    have hw := id_wf (h.grp _ hm).ok
    rcases (h.below k).look false L[i].id (by omega) (by omega) with ⟨hf, _⟩ | ⟨g, hg, hid, _, hr⟩
    · rw [hasP_iff.2 ⟨_, hm, rfl⟩] at hf; cases hf
    · have e : g = L[i] := srt_one h.srt hg hm hid
      subst e
      exact hr)
  have HC : Hid (∀ i (hi : i < L.length) w', Below w.heap.size w w' → Calls Tryz.prog 47 #[.agg #[.int .i64 L[i].id, .int .i64 L[i].kd, .slice L[i].a L[i].l.length L[i].c]] w' fun e w'' => ∃ a' r c', e = .returned (.agg #[.int .i64 L[i].id, .int .i64 L[i].kd, .slice a' r.length c']) ∧ (Gr.mk L[i].id L[i].kd a' r c').p = L[i].p ∧ BsF w'.heap.size w'' a' r ∧ Below w'.heap.size w' w'') := (show ∀ i (hi : i < L.length) w', _ from fun i hi w' k => copyOf_parts L[i] w' ((h.grp _ (List.getElem_mem hi)).bs.below k) (h.grp _ (List.getElem_mem hi)).sm)
  have HSm : Hid (∀ i (hi : i < L.length), Sm L[i].l) := (show ∀ i (hi : i < L.length), _ from fun i hi => (h.grp _ (List.getElem_mem hi)).sm)
  have HL : Hid (L.length ≤ 64) := hL
  have hne : tb < w.heap.size := h.lt
  clear h hL hne
  go_enter Tryz.func23, Tryz.ntmps23
  go_wp2_with fail
  refine HN.out.mono ?_
  rintro e w1 ⟨v, rfl, ho, g1⟩
  rcases own_cells ho with ⟨hz, a, c, rfl⟩ | ⟨ng, cap, rfl, hng, hcap, hnc⟩
  · have hl : L = [] := by simpa using hz
    subst hl
    clear ho hz
    go_wp2_with fail
    go_loopw [3, 11] (fun v3 v wr => v3 = .slice none 0 0 ∧ v = .int .i64 0 ∧ wr = w1) (fun _ _ _ => 0)
    case atStart => exact ⟨rfl, rfl, rfl⟩
    case round =>
      obtain ⟨rfl, rfl, rfl⟩ := hrel
      go_wp2_with fail
      go_ret
      have hgs : Gs wr none [] := ⟨.inl rfl, (by simp), (by simp)⟩
      first | exact ⟨none, 0, [], rfl, rfl, Nat.le_refl _, hgs, g1⟩ | (refine ⟨none, 0, [], ?_⟩; simp; exact ⟨hgs, g1⟩)
  · have e1 : (L.map Gr.id).length = L.length := by simp
    rw [e1] at hcap ⊢
    have HNc : Hid (∀ i (hi : i < L.length) w', Below w1.heap.size w1 w' → w'.cell? ⟨ng, i, none⟩ = some (.int .i64 L[i].id)) := (show ∀ i (hi : i < L.length) w', _ from fun i hi w' k => by
      have := hnc i (by simpa using hi)
      rw [(k.cell (p := ⟨ng, i, none⟩) hng), this]
      simp)
    have HG1 : Hid (Below w.heap.size w w1) := g1
    have H0 : Hid (LsI w1 (.slice none 0 0) [] w1) := (show LsI _ _ _ _ from ⟨World.ownsRow_nil _ _ _ _, Below.refl _ _, by simp, by simp, by simp⟩)
    have hL := HL.out
    clear hnc ho e1
    go_wp2_with fail
    go_loopw [3, 11] (fun v3 v wr => ∃ (q : Nat) (r : List Gr), q ≤ L.length ∧ v = .int .i64 q ∧ Hid (LsI w1 v3 r wr ∧ r.map Gr.p = (L.take q).map Gr.p)) (fun _ v _ => L.length - (intOf v).toNat)
    case atStart => exact ⟨0, [], Nat.zero_le _, rfl, (show _ ∧ _ from ⟨H0.out, rfl⟩)⟩
    case round =>
      obtain ⟨q, r, hq, rfl, HI⟩ := hrel
      by_cases hlt : q < L.length
      · have hwr : Below w.heap.size w wr := btr HG1.out HI.out.1.bel (Nat.le_refl _)
        have tT := HT.out _ hwr
        have t1 := tT.c1
        have tl := tT.lt
        have hcell := HNc.out q hlt wr HI.out.1.bel
        have hlk := HLk.out q hlt wr hwr
        have HCq : Hid (Calls Tryz.prog 47 #[.agg #[.int .i64 L[q].id, .int .i64 L[q].kd, .slice L[q].a L[q].l.length L[q].c]] wr fun e w'' => ∃ a' r c', e = .returned (.agg #[.int .i64 L[q].id, .int .i64 L[q].kd, .slice a' r.length c']) ∧ (Gr.mk L[q].id L[q].kd a' r c').p = L[q].p ∧ BsF wr.heap.size w'' a' r ∧ Below wr.heap.size wr w'') := HC.out q hlt wr hwr
        have HPn : Hid ((L.take (q + 1)).map Gr.p = (L.take q).map Gr.p ++ [L[q].p]) := (show _ = _ by rw [List.take_succ_eq_append_getElem hlt, List.map_append]; rfl)
        have HSq : Hid (Sm L[q].l) := HSm.out q hlt
        clear tT hwr
        generalize L[q] = X at *
        go_wp2_with fail
        refine HCq.out.mono ?_
        rintro e w2 ⟨a', rb, c', rfl, hp, hb, g2⟩
        have hrl : r.length ≤ 1000 := by have := congrArg List.length HI.out.2; simp at this; omega
        have HI2 : Hid (LsI w1 u3 r (w2.alloc (.cells #[.int .i64 X.id, .int .i64 X.kd, .slice a' rb.length c'] 81))) := (show LsI _ _ _ _ from (HI.out.1.grow g2).grow (by go_grown))
        have HBb : Hid (Bs (w2.alloc (.cells #[.int .i64 X.id, .int .i64 X.kd, .slice a' rb.length c'] 81)) a' rb) := (show Bs _ _ _ from hb.b.alloc _)
        have HAp : Hid (∀ k, InB a' rb k → u3.ownBlock ≠ some k) := (show ∀ k, _ from fun k hk e => by
          have h1 := hb.new hk
          have h2 := (HI.out.1.row.lt k e).2
          omega)
        have HSb : Hid (Sm rb) := (show Sm _ from sm_of (g := X) (g' := ⟨X.id, X.kd, a', rb, c'⟩) HSq.out hp)
        have HP : Hid ((Gr.mk X.id X.kd a' rb c').p = X.p) := hp
        clear hp hb g2 hlk hcell
        go_wp2_with (at_builtin; refine wpList_appG1 rfl _ _ rfl w1 u3 r rfl HI2.out w2.heap.size ⟨X.id, X.kd, a', rb, c'⟩ rfl ⟨by simp, by simp, by simp⟩ hrl HBb.out HSb.out HAp.out ?_; intro v' w3 hI3)
        have HI3 : Hid (LsI w1 v' (r ++ [Gr.mk X.id X.kd a' rb c']) w3 ∧ (r ++ [Gr.mk X.id X.kd a' rb c']).map Gr.p = (L.take (q + 1)).map Gr.p) := (show _ ∧ _ from ⟨hI3, by rw [List.map_append, HI.out.2, HPn.out]; simp [HP.out]⟩)
        clear hI3
        go_wp2_with fail
        go_roundw
        case rel => exact ⟨q + 1, _, by omega, by go_num, HI3⟩
        case measure => simp [intOf]; omega
      · have e : q = L.length := by omega
        subst e
        obtain ⟨ra, rc, er, hrc, hgs⟩ := HI.out.1.gs
        have HR : Hid (Gs wr ra r ∧ r.map Gr.p = L.map Gr.p ∧ r.length ≤ rc ∧ Below w.heap.size w wr) := (show _ ∧ _ ∧ _ ∧ _ from ⟨hgs, by have := HI.out.2; rwa [List.take_length] at this, hrc, btr HG1.out HI.out.1.bel (Nat.le_refl _)⟩)
        rw [er]
        clear hgs er hrc
        go_wp2_with fail
        go_ret
        exact ⟨ra, rc, r, rfl, HR.out.2.1, HR.out.2.2.1, HR.out.1, HR.out.2.2.2⟩
def gr0 : Gr := ⟨0, 0, none, [], 0⟩
set_option maxRecDepth 20000 in
set_option maxHeartbeats 8000000 in
/-- What Get answers. -/
theorem get_any {tb mb : Nat} {room : Int} {L : List Gr} (i : Int) (w : World) (h : Tb w tb mb room L) (h0 : -9223372036854775808 ≤ i) (h1 : i ≤ 9223372036854775807) :
    Calls Tryz.prog 123 #[ptr tb, .int .i64 i] w fun e w' => ∃ (g' : Gr) (er : Int), e = .returned (.tuple #[gV g', .int .i64 er]) ∧ ((hasP L i = false ∧ g' = gr0 ∧ er = 31) ∨ ∃ g ∈ L, g.id = i ∧ g'.p = g.p ∧ er = 0) ∧ Bs w' g'.a g'.l ∧ Sm g'.l ∧ Below w.heap.size w w' := by
  have HH : Hid (∀ w1, Below w.heap.size w w1 → Calls Tryz.prog 58 #[ptr tb, .int .i64 i] w1 fun e w' => e = .returned (.bool (hasP L i)) ∧ Below w1.heap.size w1 w') := (show ∀ w1, _ from fun w1 k => has_any i w1 (h.below k) h0 h1)
  have HT : Hid (∀ w1, Below w.heap.size w w1 → Tb w1 tb mb room L) := (show ∀ w1, _ from fun w1 k => h.below k)
  obtain ⟨V, hV⟩ : ∃ V, w.alloc (.cells #[.int .i64 0, .int .i64 0, .slice none 0 0] 81) = V := ⟨_, rfl⟩
  have GV : Below w.heap.size w V := by rw [← hV]; go_grown
  have zV : w.heap.size < V.heap.size := by rw [← hV]; simp
  have b1 : V.cell? ⟨w.heap.size, 0, none⟩ = some (.int .i64 0) ∧ V.cell? ⟨w.heap.size, 1, none⟩ = some (.int .i64 0) ∧ V.cell? ⟨w.heap.size, 2, none⟩ = some (.slice none 0 0) ∧ ∀ o, V.frozen? ⟨w.heap.size, o, none⟩ = false := by rw [← hV]; simp
  have HV : Hid (w.alloc (.cells #[.int .i64 0, .int .i64 0, .slice none 0 0] 81) = V) := hV
  have HX : Hid (∀ w', Below V.heap.size V w' → (w'.cell? ⟨w.heap.size, 0, none⟩ = some (.int .i64 0) ∧ w'.cell? ⟨w.heap.size, 1, none⟩ = some (.int .i64 0) ∧ w'.cell? ⟨w.heap.size, 2, none⟩ = some (.slice none 0 0) ∧ ∀ o, w'.frozen? ⟨w.heap.size, o, none⟩ = false) ∧ Below w.heap.size w w' ∧ w.heap.size < w'.heap.size) := (show ∀ w', _ from fun w' k => ⟨⟨(k.cell (p := ⟨w.heap.size, 0, none⟩) zV).trans b1.1, (k.cell (p := ⟨w.heap.size, 1, none⟩) zV).trans b1.2.1, (k.cell (p := ⟨w.heap.size, 2, none⟩) zV).trans b1.2.2.1, fun o => (k.frozen (p := ⟨w.heap.size, o, none⟩) zV).trans (b1.2.2.2 o)⟩, btr GV k (Nat.le_refl _), Nat.lt_of_lt_of_le zV k.size⟩)
  rcases h.look false i h0 h1 with ⟨hf, _⟩ | ⟨g, hg, hid, hf, _⟩
  · rw [hf] at HH
    have HE : Hid (hasP L i = false) := hf
    clear h hV b1 zV hf
    go_enter Tryz.func123, Tryz.ntmps123
    go_wp2_with fail
    rw [HV.out]
    refine (HH.out V GV).mono ?_
    rintro e w1 ⟨rfl, g1⟩
    obtain ⟨⟨c0, c1, c2, cf⟩, G1, z1⟩ := HX.out w1 g1
    clear g1
    go_wp2_with fail
    obtain ⟨s0, s1, s2⟩ := s3_cells (o := 0) (x := .int .i64 0) (y := .int .i64 0) (z := .slice none 0 0) c0 c1 c2
    have O5 := Only.s3 w1 w.heap.size 0 (.int .i64 0) (.int .i64 0) (.slice none 0 0)
    refine bodyPost_ret (resGe (b := w.heap.size) (t := gr0) rfl rfl ⟨s0, s1, s2⟩) rfl ?_
    exact ⟨gr0, 31, rfl, .inl ⟨HE.out, rfl, rfl⟩, ⟨by simp [gr0], .inl rfl⟩, ⟨by simp [gr0], by simp [gr0]⟩, O5.below (Nat.le_refl _) G1⟩
  · rw [hf] at HH
    have HLk : Hid (∀ w', Below w.heap.size w w' → (Instr.lookup 125 (.map (some mb)) (.int .i64 i) false).run Tryz.prog w' = .ok (.agg #[.int .i64 g.id, .int .i64 g.kd, .slice g.a g.l.length g.c]) w') := (show ∀ w', _ from fun w' k => by
      rcases (h.below k).look false i h0 h1 with ⟨hf2, _⟩ | ⟨g2, hg2, hid2, _, hr⟩
      · rw [hf] at hf2; cases hf2
      · have e : g2 = g := srt_one h.srt hg2 hg (hid2.trans hid.symm)
        subst e
        exact hr)
    have HC : Hid (∀ w1, Below w.heap.size w w1 → Calls Tryz.prog 47 #[.agg #[.int .i64 g.id, .int .i64 g.kd, .slice g.a g.l.length g.c]] w1 fun e w' => ∃ a' r c', e = .returned (.agg #[.int .i64 g.id, .int .i64 g.kd, .slice a' r.length c']) ∧ (Gr.mk g.id g.kd a' r c').p = g.p ∧ BsF w1.heap.size w' a' r ∧ Below w1.heap.size w1 w') := (show ∀ w1, _ from fun w1 k => copyOf_parts g w1 ((h.grp g hg).bs.below k) (h.grp g hg).sm)
    have HS : Hid (Sm g.l) := (h.grp g hg).sm
    have HM : Hid (g ∈ L ∧ g.id = i) := (show _ ∧ _ from ⟨hg, hid⟩)
    clear h hV b1 zV hf hg hid
    go_enter Tryz.func123, Tryz.ntmps123
    go_wp2_with fail
    rw [HV.out]
    refine (HH.out V GV).mono ?_
    rintro e w1 ⟨rfl, g1⟩
    obtain ⟨_, G1, z1⟩ := HX.out w1 g1
    have tT := HT.out w1 G1
    have t1 := tT.c1
    have tl := tT.lt
    have hlk := HLk.out w1 G1
    have Hg1 : Hid (Below V.heap.size V w1) := g1
    clear g1 tT
    go_wp2_with fail
    refine (HC.out w1 G1).mono ?_
    rintro e w2 ⟨a', r, c', rfl, hp, hb, g2⟩
    have gg2 : Below V.heap.size V w2 := btr Hg1.out g2 (Nat.le_refl _)
    obtain ⟨⟨c0, c1, c2, cf⟩, G2, z2⟩ := HX.out w2 gg2
    have HB : Hid (BsF w1.heap.size w2 a' r) := hb
    have HP : Hid ((Gr.mk g.id g.kd a' r c').p = g.p) := hp
    have HSr : Hid (Sm r) := (show Sm _ from sm_of (g := g) (g' := ⟨g.id, g.kd, a', r, c'⟩) HS.out hp)
    clear hp hb g2 gg2 hlk
    go_wp2_with fail
    obtain ⟨s0, s1, s2⟩ := s3_cells (o := 0) (x := .int .i64 g.id) (y := .int .i64 g.kd) (z := .slice a' r.length c') c0 c1 c2
    have O5 := Only.s3 w2 w.heap.size 0 (.int .i64 g.id) (.int .i64 g.kd) (.slice a' r.length c')
    refine bodyPost_ret (resGe (b := w.heap.size) (t := ⟨g.id, g.kd, a', r, c'⟩) rfl rfl ⟨s0, s1, s2⟩) rfl ?_
    refine ⟨⟨g.id, g.kd, a', r, c'⟩, 0, rfl, .inr ⟨g, HM.out.1, HM.out.2, HP.out, rfl⟩, ?_, HSr.out, O5.below (Nat.le_refl _) G2⟩
    exact (HB.out.mono (base' := w1.heap.size) (Nat.le_refl _) (by rw [O5.size]; exact Nat.le_refl _) (fun b hb1 _ => O5.block b (by omega))).b
/-- What Delete answers. -/
def delE (L : List Gr) (i : Int) : Int := if hasP L i = false then 31 else if ledB L i = true then 30 else 0
theorem Tb.del {w w' : World} {tb mb : Nat} {room : Int} {L : List Gr} (h : Tb w tb mb room L) (i : Int) (hown : w'.ownsMap Tryz.prog 3 Re mb L.length ((mD L).del (kL i))) (hg : w.grownBy w' (some mb)) : Tb w' tb mb room (delG i L) := by
  rw [del_mD] at hown
  refine ⟨?_, ?_, Nat.lt_of_lt_of_le h.lt hg.size, own_len hown, ?_, srt_del h.srt⟩
  · exact (World.cell?_of_block (a := ⟨tb, 0, none⟩) (hg.block tb h.lt (fun e => by cases e; exact h.ne rfl))).trans h.c0
  · exact (World.cell?_of_block (a := ⟨tb, 1, none⟩) (hg.block tb h.lt (fun e => by cases e; exact h.ne rfl))).trans h.c1
  · intro x hx
    exact (h.grp x (mem_del.1 hx).1).grown hg
end Go.Proofs.YtgnihbdcdefdgaaGreatDoor.Gp

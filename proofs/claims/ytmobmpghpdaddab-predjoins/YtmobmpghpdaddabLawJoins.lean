/-
  PredJoins, walked.
-/
import Derived.Test.YtmobmpghpdaddabJoinP
import Derived.Test.YtmobmpghpdaddabLawClash
import Derived.Deep.CutBlock
import Derived.Deep.CutRange
namespace Go.Proofs.Ytmobmpghpdaddab
open Go.ChangeShapes Go.WideShapes Go.ChangeAt Go.RowKit
set_option linter.unusedVariables false
set_option linter.unusedSimpArgs false

/-- A predicate that was answered lies in a box. -/
structure BxI (q : Nat) (a : Option Addr) (n c : Nat) (L : List Nd) (u : World) : Prop where
  box : u.cell? ⟨q, 0, none⟩ = some (.slice a n c)
  len : L.length = n
  ns : Ns u a L
  lt : q < u.heap.size
theorem BxI.grow {q : Nat} {a : Option Addr} {n c : Nat} {L : List Nd} {u u' : World} (h : BxI q a n c L u) (g : Below u.heap.size u u') : BxI q a n c L u' :=
  ⟨(g.cell (p := ⟨q, 0, none⟩) h.lt).trans h.box, h.len, h.ns.below g, Nat.lt_of_lt_of_le h.lt g.size⟩
/-- A list of cubes in a slice of slices. -/
def CuS (u : World) (a : Option Addr) (l : List K) : Prop := l = [] ∨ ∃ g, a = some ⟨g, 0, none⟩ ∧ g < u.heap.size ∧ ∀ i (h : i < l.length), ∃ x c, u.cell? ⟨g, i, none⟩ = some (.slice x (toT l[i]).length c) ∧ Ts u x (toT l[i])
theorem CuS.below {u u' : World} {a : Option Addr} {l : List K} (h : CuS u a l) (g : Below u.heap.size u u') : CuS u' a l := by
  rcases h with h | ⟨q, e, hq, hc⟩
  · exact .inl h
  · refine .inr ⟨q, e, Nat.lt_of_lt_of_le hq g.size, fun i hi => ?_⟩
    obtain ⟨x, c, h1, h2⟩ := hc i hi
    exact ⟨x, c, (g.cell (p := ⟨q, i, none⟩) hq).trans h1, h2.below g⟩
theorem CuR.cus {w w' : World} {v : Value} {l : List K} (h : CuR w v l w') : ∃ a c, v = .slice a l.length c ∧ CuS w' a l := by
  obtain ⟨hs, h1, h2⟩ := h.ex
  by_cases h0 : 0 < hs.length
  · obtain ⟨g, cap, e, hc, hb, hg, hcs⟩ := own_at kdH h1 h0
    refine ⟨_, cap, by rw [e, h2.1], .inr ⟨g, rfl, hg, fun i hi => ?_⟩⟩
    have hi' : i < hs.length := by rw [h2.1]; exact hi
    obtain ⟨t1, t2, t3⟩ := h2.2 i hi' hi
    refine ⟨hs[i].a, hs[i].c, ?_, t3.ts⟩
    have := hcs i hi' 0 (by decide)
    rw [Nat.mul_one, Nat.add_zero, Nat.zero_add] at this
    rw [this]
    show some (Value.slice _ hs[i].n _) = _
    rw [t1]
  · obtain ⟨a, c, e⟩ := own_form h1
    have hz : l = [] := List.length_eq_zero_iff.1 (by have := h2.1; omega)
    exact ⟨a, c, by rw [e, h2.1], .inl hz⟩
/-- Both predicates' slices, one behind the other. -/
theorem ps_two {u : World} {g : Nat} {a b : Option Addr} {l m : List Nd} {c d : Nat} (hg : g < u.heap.size) (k1 : u.cell? ⟨g, 0, none⟩ = some (.slice a l.length c)) (k2 : u.cell? ⟨g, 1, none⟩ = some (.slice b m.length d)) (hc : l.length ≤ c) (hd : m.length ≤ d) (n1 : Ns u a l) (n2 : Ns u b m) : Ps u (some ⟨g, 0, none⟩) [l, m] :=
  .inr ⟨g, 0, rfl, hg, fun i hi => by
    have : i = 0 ∨ i = 1 := by simp at hi; omega
    rcases this with rfl | rfl
    · exact ⟨a, c, k1, hc, n1⟩
    · exact ⟨b, d, k2, hd, n2⟩⟩
set_option maxRecDepth 20000 in
set_option maxHeartbeats 16000000 in
theorem joins_walk (a : Option Addr) (l : List Nd) (cap : Nat) (b : Option Addr) (m : List Nd) (mc : Nat) (ra : Option Addr) (la : List Tst) (ca : Nat) (rb : Option Addr) (lb : List Tst) (cb : Nat) (bv : Option Addr) (vs : List B64) (vc : Nat) (w : World) (hs : Ns w a l) (hss : ∀ x ∈ l, x.s.length ≤ 9223372036854775807) (hl : l.length ≤ 9223372036854775807) (hcap : l.length ≤ cap) (ht : Ns w b m) (hst : ∀ x ∈ m, x.s.length ≤ 9223372036854775807) (hm : m.length ≤ 9223372036854775807) (hmcap : m.length ≤ mc) (hta : Ts w ra la) (hla : la.length ≤ 9223372036854775807) (hlc : la.length ≤ ca) (htb : Ts w rb lb) (hlb : lb.length ≤ 9223372036854775807) (hlbc : lb.length ≤ cb) (hv : Vs w bv vs) (hvl : vs.length ≤ 9223372036854775807) (hvc : vs.length ≤ vc) :
    Calls Try.prog 6 #[.agg #[.slice a l.length cap], .agg #[.slice b m.length mc], .slice ra la.length ca, .slice rb lb.length cb, .slice bv vs.length vc] w fun e w' => e = .returned (.bool true) ∧ Below w.heap.size w w' := by
  have HAw : Hid (∀ u, Calls Try.prog 7 #[] u fun e w' => e = .returned (.bool true) ∧ Below u.heap.size u w') := (show ∀ u, _ from fun u => awake_any u)
  obtain ⟨X, hX⟩ : ∃ X, (w.alloc (.cells #[.slice a l.length cap] 24)).alloc (.cells #[.slice b m.length mc] 24) = X := ⟨_, rfl⟩
  have hP : PyI w a l cap b m mc X := by rw [← hX]; exact PyI.new w a l cap b m mc hs ht
  have cX := hP.b1
  have dX := hP.b2
  have HP : Hid (PyI w a l cap b m mc X) := hP
  have HV : Hid (∀ u, Below w.heap.size w u → Vs u bv vs ∧ Ts u ra la ∧ Ts u rb lb) := (show ∀ u, _ from fun u g => ⟨hv.below g, hta.below g, htb.below g⟩)
  have HLn : Hid (l.length ≤ cap ∧ m.length ≤ mc ∧ l.length ≤ 9223372036854775807 ∧ la.length ≤ 9223372036854775807 ∧ lb.length ≤ 9223372036854775807) := ⟨hcap, hmcap, hl, hla, hlb⟩
  obtain ⟨rr, hrr⟩ : ∃ rr, valR vs = rr := ⟨_, rfl⟩
  have HE : Hid (∀ u x L c, Ns u x L → L.length ≤ 9223372036854775807 → (∀ y ∈ L, y.s.length ≤ 9223372036854775807) → Below w.heap.size w u → Calls Try.prog 11 #[.agg #[.slice x L.length c], .slice bv vs.length vc] u fun e w' => e = .returned (.bool (evalB rr L)) ∧ Below u.heap.size u w') := (show ∀ u x L c, _ from fun u x L c h h1 h2 g => by
    have := eval_any x L c bv vs vc u h (hv.below g) h1 h2
    rw [hrr] at this
    exact this)
  have HEl : Hid (∀ u, PyI w a l cap b m mc u → Calls Try.prog 11 #[.agg #[.slice a l.length cap], .slice bv vs.length vc] u fun e w' => e = .returned (.bool (evalB rr l)) ∧ PyI w a l cap b m mc w') := (show ∀ u, _ from fun u h => (HE.out u a l cap h.n1 hl hss h.bel).mono fun e w' ⟨h1, h2⟩ => ⟨h1, h.grow h2⟩)
  have HEm : Hid (∀ u, PyI w a l cap b m mc u → Calls Try.prog 11 #[.agg #[.slice b m.length mc], .slice bv vs.length vc] u fun e w' => e = .returned (.bool (evalB rr m)) ∧ PyI w a l cap b m mc w') := (show ∀ u, _ from fun u h => (HE.out u b m mc h.n2 hm hst h.bel).mono fun e w' ⟨h1, h2⟩ => ⟨h1, h.grow h2⟩)
  have HRl : Hid (∀ u, PyI w a l cap b m mc u → Calls Try.prog 9 #[.agg #[.slice a l.length cap]] u fun e w' => e = .returned (.bool (rightB l)) ∧ PyI w a l cap b m mc w') := (show ∀ u, _ from fun u h => (right_any a l cap u h.n1 hl hss).mono fun e w' ⟨h1, h2⟩ => ⟨h1, h.grow h2⟩)
  have HNl : Hid (∀ u, PyI w a l cap b m mc u → Calls Try.prog 18 #[.agg #[.slice a l.length cap]] u fun e w' => ∃ x c, e = .returned (.agg #[.slice x (madeL 6 [l]).length c]) ∧ Ns w' x (madeL 6 [l]) ∧ PyI w a l cap b m mc w') := (show ∀ u, _ from fun u h => (not_any a l cap u h.n1 hcap hl hss).mono fun e w' hq => by
    obtain ⟨x, c, h1, h2, h3, h4⟩ := hq.ns
    exact ⟨x, c, h1, h3, h.grow h4⟩)
  have HPs : Hid (∀ u, PyI w a l cap b m mc u → Ps (u.alloc (.cells #[.slice a l.length cap, .slice b m.length mc] 24)) (some ⟨u.heap.size, 0, none⟩) [l, m]) := (show ∀ u, _ from fun u h => ps_two (by simp) (by simp) (by simp) hcap hmcap (h.n1.below (by go_grown)) (h.n2.below (by go_grown)))
  have hll : ∀ x ∈ [l, m], x.length ≤ 9223372036854775807 ∧ ∀ y ∈ x, y.s.length ≤ 9223372036854775807 := fun x hx => by
    have : x = l ∨ x = m := by simpa using hx
    rcases this with rfl | rfl
    · exact ⟨hl, hss⟩
    · exact ⟨hm, hst⟩
  obtain ⟨LM, hLM⟩ : ∃ LM, madeL 4 [l, m] = LM := ⟨_, rfl⟩
  obtain ⟨LN, hLN⟩ : ∃ LN, madeL 5 [l, m] = LN := ⟨_, rfl⟩
  have HAn : Hid (∀ u, PyI w a l cap b m mc u → Calls Try.prog 16 #[.slice (some ⟨u.heap.size, 0, none⟩) 2 2] (u.alloc (.cells #[.slice a l.length cap, .slice b m.length mc] 24)) fun e w' => ∃ x c, e = .returned (.agg #[.slice x LM.length c]) ∧ Ns w' x LM ∧ Below u.heap.size u w') := (show ∀ u, _ from fun u h => by
    have := and_any (some ⟨u.heap.size, 0, none⟩) [l, m] 2 _ (HPs.out u h) (by simp) hll
    rw [hLM] at this
    exact this.mono fun e w' hq => by
      obtain ⟨x, c, h1, h2, h3, h4⟩ := hq.ns
      exact ⟨x, c, h1, h3, btr (show Below u.heap.size u _ by go_grown) h4 (Nat.le_refl _)⟩)
  have HOr : Hid (∀ u g, PyI w a l cap b m mc u → u.heap.size = g → Calls Try.prog 17 #[.slice (some ⟨g, 0, none⟩) 2 2] (u.alloc (.cells #[.slice a l.length cap, .slice b m.length mc] 24)) fun e w' => ∃ x c, e = .returned (.agg #[.slice x LN.length c]) ∧ Ns w' x LN ∧ Below u.heap.size u w') := (show ∀ u g, _ from fun u g h hg => by
    subst hg
    have := or_any (some ⟨u.heap.size, 0, none⟩) [l, m] 2 _ (HPs.out u h) (by simp) hll
    rw [hLN] at this
    exact this.mono fun e w' hq => by
      obtain ⟨x, c, h1, h2, h3, h4⟩ := hq.ns
      exact ⟨x, c, h1, h3, btr (show Below u.heap.size u _ by go_grown) h4 (Nat.le_refl _)⟩)
  have HLk : Hid ((LM.length ≤ 9223372036854775807 ∧ ∀ x ∈ LM, x.s.length ≤ 9223372036854775807) ∧ (LN.length ≤ 9223372036854775807 ∧ ∀ x ∈ LN, x.s.length ≤ 9223372036854775807)) := (show _ ∧ _ by rw [← hLM, ← hLN]; exact ⟨made_ok _ _, made_ok _ _⟩)
  have hmr : rightB LM = rightB LN := by rw [← hLM, ← hLN]; exact made_right [l, m]
  have hmx : rightB LM = true → evalB rr LM = (evalB rr l && evalB rr m) ∧ evalB rr LN = (evalB rr l || evalB rr m) := fun h => by
    have h5 : rightB LN = true := by rw [← hmr]; exact h
    have k4 := (made_said (k := 4) (ps := [l, m]) (by rw [hLM]; exact h) rr).2
    have k5 := (made_said (k := 5) (ps := [l, m]) (by rw [hLN]; exact h5) rr).2
    rw [hLM] at k4
    rw [hLN] at k5
    exact ⟨by rw [k4]; simp, by rw [k5]; simp⟩
  have hnx : rightB l = true → l.length < 60 → rightB (madeL 6 [l]) = true ∧ evalB rr (madeL 6 [l]) = !evalB rr l := fun h h60 => by
    have h6 := not_right h h60
    have k6 := (made_said (k := 6) (ps := [l]) h6 rr).2
    exact ⟨h6, by rw [k6]; simp⟩
  have HMX : Hid (rightB LM = rightB LN ∧ (rightB LM = true → evalB rr LM = (evalB rr l && evalB rr m) ∧ evalB rr LN = (evalB rr l || evalB rr m))) := ⟨hmr, hmx⟩
  have HNX : Hid (rightB l = true → l.length < 60 → rightB (madeL 6 [l]) = true ∧ evalB rr (madeL 6 [l]) = !evalB rr l) := hnx
  have hin : ∀ u r l' c, Ts u r l' → l'.length ≤ 9223372036854775807 → Below w.heap.size w u → Calls Try.prog 10 #[.slice r l'.length c, .slice bv vs.length vc] u fun e w' => e = .returned (.bool (inB l' rr)) ∧ Below u.heap.size u w' := fun u r l' c h h1 g => by
    have := in_any r l' c bv vs vc u h (hv.below g) h1
    rw [hrr] at this
    exact this
  have HIn : Hid (∀ u r l' c, Ts u r l' → l'.length ≤ 9223372036854775807 → Below w.heap.size w u → Calls Try.prog 10 #[.slice r l'.length c, .slice bv vs.length vc] u fun e w' => e = .returned (.bool (inB l' rr)) ∧ Below u.heap.size u w') := hin
  clear hP hs hss hv ht hst hvl hvc hcap hmcap hll hLM hLN hmr hmx hnx hin hrr hta htb hlc hlbc hla hlb hl hm
  obtain ⟨xv, hxv⟩ : ∃ x, evalB rr l = x := ⟨_, rfl⟩
  obtain ⟨yv, hyv⟩ : ∃ y, evalB rr m = y := ⟨_, rfl⟩
  rw [hxv] at HEl HMX HNX
  rw [hyv] at HEm HMX
  clear hxv hyv
  go_enter Try.func6, Try.ntmps6
  go_upto_region 5 with (first
    | (go_at_call_of 11 (Value.agg #[.slice a l.length cap]); refine (HEl.out _ HP.out).mono ?_; rintro e w1 ⟨rfl, h1⟩; have HP1 : Hid (PyI w a l cap b m mc w1) := h1; have k1 := h1.b2; clear h1 HEl)
    | (go_at_call 11; refine (HEm.out _ HP1.out).mono ?_; rintro e w2 ⟨rfl, h1⟩; have HP2 : Hid (PyI w a l cap b m mc w2) := h1; have k2 := h1.b1; have k3 := h1.b2; clear h1 HEm)
    | (go_at_call 16; refine (HAn.out _ HP2.out).mono ?_; rintro e w3 ⟨ma, mcc, rfl, h1, h2⟩; have gV1 : Below w3.heap.size w3 (w3.alloc (.cells #[.slice ma LM.length mcc] 24)) := (by go_grown); have HP3 : Hid (PyI w a l cap b m mc (w3.alloc (.cells #[.slice ma LM.length mcc] 24)) ∧ BxI w3.heap.size ma LM.length mcc LM (w3.alloc (.cells #[.slice ma LM.length mcc] 24))) := ⟨(HP2.out.grow h2).grow gV1, ⟨by simp, rfl, h1.below gV1, by simp⟩⟩; have k4 := HP3.out.1.b1; have k5 := HP3.out.1.b2; clear h1 h2 gV1 HAn k2 k3)
    | (go_at_call 17; refine (HOr.out _ (w3.heap.size + 1) HP3.out.1 (by simp)).mono ?_; rintro e w4 ⟨na, ncc, rfl, h1, h2⟩; have gV2 : Below w4.heap.size w4 (w4.alloc (.cells #[.slice na LN.length ncc] 24)) := (by go_grown); have HP4 : Hid (PyI w a l cap b m mc (w4.alloc (.cells #[.slice na LN.length ncc] 24)) ∧ BxI w3.heap.size ma LM.length mcc LM (w4.alloc (.cells #[.slice na LN.length ncc] 24)) ∧ BxI w4.heap.size na LN.length ncc LN (w4.alloc (.cells #[.slice na LN.length ncc] 24))) := ⟨(HP3.out.1.grow h2).grow gV2, (HP3.out.2.grow h2).grow gV2, ⟨by simp, rfl, h1.below gV2, by simp⟩⟩; clear h1 h2 gV2 HOr k4 k5))
  obtain ⟨W0, hW0⟩ : ∃ W0, w4.alloc (.cells #[.slice na LN.length ncc] 24) = W0 := ⟨_, rfl⟩
  rw [hW0] at HP4 ⊢
  clear hW0 HP1 HP2 HP3 HPs hX cX dX k1
  go_cut [66] from 34 to 66 (fun c wx => c = .bool false ∧ Hid (Below W0.heap.size W0 wx))
  case first =>
    have hbm := HP4.out.2.1.box
    have hbn := HP4.out.2.2.box
    have hm' : ∀ z : GrT W0, z.w.cell? ⟨w3.heap.size, 0, none⟩ = some (.slice ma LM.length mcc) := fun z => cell_gr hbm HP4.out.2.1.lt z
    have hn' : ∀ z : GrT W0, z.w.cell? ⟨w4.heap.size, 0, none⟩ = some (.slice na LN.length ncc) := fun z => cell_gr hbn HP4.out.2.2.lt z
    have HRm : Hid (∀ z : GrT W0, Calls Try.prog 9 #[.agg #[.slice ma LM.length mcc]] z.w fun e w' => e = .returned (.bool (rightB LM)) ∧ Below z.w.heap.size z.w w') := (show ∀ z : GrT W0, _ from fun z => right_any ma LM mcc z.w (HP4.out.2.1.ns.below z.h) HLk.out.1.1 HLk.out.1.2)
    have HRn : Hid (∀ z : GrT W0, Calls Try.prog 9 #[.agg #[.slice na LN.length ncc]] z.w fun e w' => e = .returned (.bool (rightB LN)) ∧ Below z.w.heap.size z.w w') := (show ∀ z : GrT W0, _ from fun z => right_any na LN ncc z.w (HP4.out.2.2.ns.below z.h) HLk.out.2.1 HLk.out.2.2)
    have HEm2 : Hid (∀ z : GrT W0, Calls Try.prog 11 #[.agg #[.slice ma LM.length mcc], .slice bv vs.length vc] z.w fun e w' => e = .returned (.bool (evalB rr LM)) ∧ Below z.w.heap.size z.w w') := (show ∀ z : GrT W0, _ from fun z => HE.out z.w ma LM mcc (HP4.out.2.1.ns.below z.h) HLk.out.1.1 HLk.out.1.2 (btr HP4.out.1.bel z.h (Nat.le_refl _)))
    have HEn2 : Hid (∀ z : GrT W0, Calls Try.prog 11 #[.agg #[.slice na LN.length ncc], .slice bv vs.length vc] z.w fun e w' => e = .returned (.bool (evalB rr LN)) ∧ Below z.w.heap.size z.w w') := (show ∀ z : GrT W0, _ from fun z => HE.out z.w na LN ncc (HP4.out.2.2.ns.below z.h) HLk.out.2.1 HLk.out.2.2 (btr HP4.out.1.bel z.h (Nat.le_refl _)))
    have hcase : (rightB LM = false ∧ rightB LN = false) ∨ (rightB LM = true ∧ rightB LN = true ∧ evalB rr LM = (xv && yv) ∧ evalB rr LN = (xv || yv)) := by
      cases h : rightB LM with
      | false => exact .inl ⟨rfl, by rw [← HMX.out.1, h]⟩
      | true => exact .inr ⟨rfl, by rw [← HMX.out.1, h], HMX.out.2 h⟩
    clear hbm hbn HMX HNX HRl HNl HIn HE HV HP HLn HLk HAw
    rcases hcase with ⟨h1, h2⟩ | ⟨h1, h2, h3, h4⟩
    · rw [h1] at HRm
      rw [h2] at HRn
      clear h1 h2
      refine wp_region_grow (by kernel_rfl) (by kernel_rfl) ?_
      repeat (go_big_quiet_step ((first | (go_at_call_of 9 (Value.agg #[.slice ma LM.length mcc]); exact quiet_gr (HRm.out _)) | (go_at_call 9; exact quiet_gr (HRn.out _)))))
      refine wpQuiet_nil ?_
      rintro w6 hw'
      have g1 := gr_elim hw'
      clear hw'
      have HB6 : Hid (Below W0.heap.size W0 w6) := g1
      clear g1
      go_wp2_with fail
      go_meet
      exact ⟨rfl, HB6⟩
    · rw [h1] at HRm
      rw [h2] at HRn
      rw [h3] at HEm2
      rw [h4] at HEn2
      clear h1 h2 h3 h4
      cases xv <;> cases yv
      all_goals
        simp only [Bool.and_true, Bool.and_false, Bool.true_and, Bool.false_and, Bool.or_true, Bool.or_false, Bool.true_or, Bool.false_or, Bool.and_self, Bool.or_self] at HEm2 HEn2
        refine wp_region_grow (by kernel_rfl) (by kernel_rfl) ?_
        repeat (go_big_quiet_step ((first | (go_at_call_of 9 (Value.agg #[.slice ma LM.length mcc]); exact quiet_gr (HRm.out _)) | (go_at_call 9; exact quiet_gr (HRn.out _)) | (go_at_call_of 11 (Value.agg #[.slice ma LM.length mcc]); exact quiet_gr (HEm2.out _)) | (go_at_call 11; exact quiet_gr (HEn2.out _)))))
        refine wpQuiet_nil ?_
        rintro w6 hw'
        have g1 := gr_elim hw'
        clear hw'
        have HB6 : Hid (Below W0.heap.size W0 w6) := g1
        clear g1
        go_wp2_with fail
        go_meet
        exact ⟨rfl, HB6⟩
  case rest =>
    obtain ⟨rfl, HBc⟩ := hcut
    have hPc : PyI w a l cap b m mc wc := HP4.out.1.grow HBc.out
    have k1 := hPc.b1
    have HPc : Hid (PyI w a l cap b m mc wc) := hPc
    clear HP4 HBc hPc HMX HLk
    go_upto_region 7 with fail
    go_cut [82] from 67 to 82 (fun c wx => c = .bool false ∧ Hid (Below w.heap.size w wx))
    case first =>
      cases hr : rightB l with
      | false =>
        rw [hr] at HRl
        clear HNX HNl HIn HE HV HP HLn HAw hr
        go_wp2_with (go_at_call 9; refine (HRl.out _ HPc.out).mono ?_; rintro e w5 ⟨rfl, h1⟩; have HB5 : Hid (Below w.heap.size w w5) := h1.bel; clear h1)
        go_meet
        exact ⟨rfl, HB5⟩
      | true =>
        by_cases h60 : l.length < 60
        · obtain ⟨n1, n2⟩ := HNX.out hr h60
          have q6 : decide ((l.length : Int) < 60) = true := by simp; omega
          have HEn : Hid (∀ u x c, Ns u x (madeL 6 [l]) → PyI w a l cap b m mc u → Calls Try.prog 11 #[.agg #[.slice x (madeL 6 [l]).length c], .slice bv vs.length vc] u fun e w' => e = .returned (.bool (!xv)) ∧ Below w.heap.size w w') := (show ∀ u x c, _ from fun u x c h g => by
            have := HE.out u x (madeL 6 [l]) c h (r_len n1) (r_sub n1) g.bel
            rw [n2] at this
            exact this.mono fun e w' ⟨h1, h2⟩ => ⟨h1, btr g.bel h2 (Nat.le_refl _)⟩)
          rw [hr] at HRl
          generalize madeL 6 [l] = L6 at *
          clear HNX HIn HE HV HP HLn HAw hr h60 n1 n2
          cases xv
          all_goals
            simp only [Bool.not_true, Bool.not_false] at HEn
            go_wp2_with (first
              | (go_at_call 9; refine (HRl.out _ HPc.out).mono ?_; rintro e w5 ⟨rfl, h1⟩; have HB5 : Hid (PyI w a l cap b m mc w5) := h1; have k2 := h1.b1; clear h1)
              | (go_at_call 18; refine (HNl.out _ HB5.out).mono ?_; rintro e w6 ⟨x6, c6, rfl, h1, h2⟩; have HB6 : Hid (Ns w6 x6 L6 ∧ PyI w a l cap b m mc w6) := ⟨h1, h2⟩; clear h1 h2)
              | (go_at_call 11; refine (HEn.out _ x6 c6 HB6.out.1 HB6.out.2).mono ?_; rintro e w7 ⟨rfl, h1⟩; have HB7 : Hid (Below w.heap.size w w7) := h1; clear h1))
            go_meet
            exact ⟨rfl, HB7⟩
        · have q6 : decide ((l.length : Int) < 60) = false := by simp; omega
          rw [hr] at HRl
          clear HNX HNl HIn HE HV HP HLn HAw hr h60
          go_wp2_with (go_at_call 9; refine (HRl.out _ HPc.out).mono ?_; rintro e w5 ⟨rfl, h1⟩; have HB5 : Hid (PyI w a l cap b m mc w5) := h1; have k2 := h1.b1; clear h1)
          go_meet
          exact ⟨rfl, (show Hid _ from HB5.out.bel)⟩
    case rest =>
      obtain ⟨rfl, HBd⟩ := hcut
      clear HNX HNl HE HP HPc HRl k1
      have HBz : Hid (Below w.heap.size w wc) := HBd.out
      have HWa : Hid (∀ u, Below w.heap.size w u → Calls Try.prog 13 #[.slice ra la.length ca] u fun e w' => e = .returned (.bool (wholeB la)) ∧ Below w.heap.size w w') := (show ∀ u, _ from fun u g => (whole_any ra la ca u (HV.out u g).2.1 HLn.out.2.2.2.1).mono fun e w' ⟨h1, h2⟩ => ⟨h1, btr g h2 (Nat.le_refl _)⟩)
      have HWb : Hid (∀ u, Below w.heap.size w u → Calls Try.prog 13 #[.slice rb lb.length cb] u fun e w' => e = .returned (.bool (wholeB lb)) ∧ Below w.heap.size w w') := (show ∀ u, _ from fun u g => (whole_any rb lb cb u (HV.out u g).2.2 HLn.out.2.2.2.2).mono fun e w' ⟨h1, h2⟩ => ⟨h1, btr g h2 (Nat.le_refl _)⟩)
      cases hwa : wholeB la with
      | false =>
        rw [hwa] at HWa
        clear hwa HWb HIn HV HLn
        go_wp2_with (first
          | (go_at_call 13; refine (HWa.out _ HBz.out).mono ?_; rintro e w8 ⟨rfl, h1⟩; have HBz : Hid (Below w.heap.size w w8) := h1; clear h1)
          | (go_at_call 7; refine (HAw.out _).mono ?_; rintro e w9 ⟨rfl, hb⟩; have HBy : Hid (Below w.heap.size w w9) := (show Below _ _ _ from btr HBz.out hb (Nat.le_refl _)); clear hb))
        go_ret
        exact ⟨rfl, HBy.out⟩
      | true =>
        cases hwb : wholeB lb with
        | false =>
          rw [hwa] at HWa
          rw [hwb] at HWb
          clear hwa hwb HIn HV HLn
          go_wp2_with (first
            | (go_at_call_of 13 (Value.slice ra la.length ca); refine (HWa.out _ HBz.out).mono ?_; rintro e w8 ⟨rfl, h1⟩; have HBz : Hid (Below w.heap.size w w8) := h1; clear h1 HWa)
            | (go_at_call 13; refine (HWb.out _ HBz.out).mono ?_; rintro e w8 ⟨rfl, h1⟩; have HBz : Hid (Below w.heap.size w w8) := h1; clear h1)
            | (go_at_call 7; refine (HAw.out _).mono ?_; rintro e w9 ⟨rfl, hb⟩; have HBy : Hid (Below w.heap.size w w9) := (show Below _ _ _ from btr HBz.out hb (Nat.le_refl _)); clear hb))
          go_ret
          exact ⟨rfl, HBy.out⟩
        | true =>
          have vA : Vk (cubF la) := cubF_vk hwa
          have vB : Vk (cubF lb) := cubF_vk hwb
          have hia : inB la rr = hasB (cubF la) rr := by unfold inB; rw [hwa]; rfl
          have hib : inB lb rr = hasB (cubF lb) rr := by unfold inB; rw [hwb]; rfl
          have HIa : Hid (∀ u, Below w.heap.size w u → Calls Try.prog 10 #[.slice ra la.length ca, .slice bv vs.length vc] u fun e w' => e = .returned (.bool (hasB (cubF la) rr)) ∧ Below w.heap.size w w') := (show ∀ u, _ from fun u g => by
            have := HIn.out u ra la ca (HV.out u g).2.1 HLn.out.2.2.2.1 g
            rw [hia] at this
            exact this.mono fun e w' ⟨h1, h2⟩ => ⟨h1, btr g h2 (Nat.le_refl _)⟩)
          have HIb : Hid (∀ u, Below w.heap.size w u → Calls Try.prog 10 #[.slice rb lb.length cb, .slice bv vs.length vc] u fun e w' => e = .returned (.bool (hasB (cubF lb) rr)) ∧ Below w.heap.size w w') := (show ∀ u, _ from fun u g => by
            have := HIn.out u rb lb cb (HV.out u g).2.2 HLn.out.2.2.2.2 g
            rw [hib] at this
            exact this.mono fun e w' ⟨h1, h2⟩ => ⟨h1, btr g h2 (Nat.le_refl _)⟩)
          have HCt : Hid (∀ u, Below w.heap.size w u → Calls Try.prog 19 #[.slice ra la.length ca, .slice rb lb.length cb] u fun e w' => ∃ x c, e = .returned (.slice x (cutL (cubF la) (cubF lb)).length c) ∧ CuS w' x (cutL (cubF la) (cubF lb)) ∧ Below w.heap.size w w') := (show ∀ u, _ from fun u g => (cut_any ra la ca rb lb cb u (HV.out u g).2.1 (HV.out u g).2.2 HLn.out.2.2.2.1 HLn.out.2.2.2.2).mono fun e w' h => by
            rcases h with ⟨h, _⟩ | ⟨_, _, v, h2, h3⟩
            · rw [hwa, hwb] at h; cases h
            · obtain ⟨x, c, rfl, h4⟩ := h3.cus
              exact ⟨x, c, h2, h4, btr g h3.bel (Nat.le_refl _)⟩)
          have HMt : Hid (∀ u, Below w.heap.size w u → Calls Try.prog 14 #[.slice ra la.length ca, .slice rb lb.length cb] u fun e w' => MtR u la lb e w') := (show ∀ u, _ from fun u g => meet_any ra la ca rb lb cb u (HV.out u g).2.1 (HV.out u g).2.2 HLn.out.2.2.2.1 HLn.out.2.2.2.2)
          have hct := cutL_cnt vA vB rr
          have hcv := cutL_vk vA vB
          have hcl := cutL_len (cubF la) (cubF lb)
          have hbh := both_has vA vB rr
          have vAB := vA.both vB
          obtain ⟨CL, hCL⟩ : ∃ CL, cutL (cubF la) (cubF lb) = CL := ⟨_, rfl⟩
          rw [hCL] at HCt hct hcv hcl
          have HMyes : Hid (meetB (cubF la) (cubF lb) = true → ∀ u, Below w.heap.size w u → Calls Try.prog 14 #[.slice ra la.length ca, .slice rb lb.length cb] u fun e w' => ∃ z f, e = .returned (.tuple #[.slice z (toT (bothK (cubF la) (cubF lb))).length f, .bool true]) ∧ Ts w' z (toT (bothK (cubF la) (cubF lb))) ∧ Below w.heap.size w w') := (show _ → ∀ u, _ from fun hm u g => (HMt.out u g).mono fun e w' hq => by
            rcases hq with ⟨_, _, _, v, h2, h3⟩ | ⟨h1, _⟩
            · obtain ⟨z, f, rfl, _, hsk⟩ := own_sk kdT h3.own
              exact ⟨z, f, h2, hsk.ts, btr g h3.bel (Nat.le_refl _)⟩
            · rw [hwa, hwb, hm] at h1; cases h1)
          have HMno : Hid (meetB (cubF la) (cubF lb) = false → ∀ u, Below w.heap.size w u → Calls Try.prog 14 #[.slice ra la.length ca, .slice rb lb.length cb] u fun e w' => e = .returned (.tuple #[.slice none 0 0, .bool false]) ∧ Below w.heap.size w w') := (show _ → ∀ u, _ from fun hm u g => (HMt.out u g).mono fun e w' hq => by
            rcases hq with ⟨_, _, h1, _⟩ | ⟨_, h2, h3⟩
            · rw [hm] at h1; cases h1
            · exact ⟨h2, btr g h3 (Nat.le_refl _)⟩)
          have HIc : Hid (∀ u z f, Ts u z (toT (bothK (cubF la) (cubF lb))) → Below w.heap.size w u → Calls Try.prog 10 #[.slice z (toT (bothK (cubF la) (cubF lb))).length f, .slice bv vs.length vc] u fun e w' => e = .returned (.bool (hasB (bothK (cubF la) (cubF lb)) rr)) ∧ Below w.heap.size w w') := (show ∀ u z f, _ from fun u z f h g => by
            have := HIn.out u z (toT (bothK (cubF la) (cubF lb))) f h (toT_few _) g
            rw [inB_toT vAB] at this
            exact this.mono fun e w' ⟨h1, h2⟩ => ⟨h1, btr g h2 (Nat.le_refl _)⟩)
          have HIk : Hid (∀ k, Vk k → ∀ u x c, Ts u x (toT k) → Below w.heap.size w u → Calls Try.prog 10 #[.slice x (toT k).length c, .slice bv vs.length vc] u fun e w' => e = .returned (.bool (hasB k rr)) ∧ Below u.heap.size u w') := (show ∀ k, _ from fun k vk u x c h g => by
            have := HIn.out u x (toT k) c h (toT_few _) g
            rw [inB_toT vk] at this
            exact this)
          have HCv : Hid (∀ k ∈ CL, Vk k) := hcv
          rw [hwa] at HWa
          rw [hwb] at HWb
          generalize toT (bothK (cubF la) (cubF lb)) = T0 at *
          generalize hasB (bothK (cubF la) (cubF lb)) rr = hC at *
          generalize hasB (cubF la) rr = hA at *
          generalize hasB (cubF lb) rr = hB at *
          generalize meetB (cubF la) (cubF lb) = me at *
          have HF : Hid ((me && hC) = (hA && hB) ∧ cnt rr CL = if hA && !hB then 1 else 0) := ⟨hbh, hct⟩
          clear hwa hwb HIn HV HLn HMt hCL hct hcv hbh vA vB vAB hia hib
          obtain ⟨n, hn⟩ : ∃ n, CL.length = n := ⟨_, rfl⟩
          have HN : Hid (CL.length = n) := hn
          rw [hn] at HCt hcl
          clear hn
          go_wp2_with (first
            | (go_at_call_of 13 (Value.slice ra la.length ca); refine (HWa.out _ HBz.out).mono ?_; rintro e w8 ⟨rfl, h1⟩; have HBz : Hid (Below w.heap.size w w8) := h1; clear h1 HWa)
            | (go_at_call 13; refine (HWb.out _ HBz.out).mono ?_; rintro e w8 ⟨rfl, h1⟩; have HBz : Hid (Below w.heap.size w w8) := h1; clear h1)
            | (go_at_call 19; refine (HCt.out _ HBz.out).mono ?_; rintro e w8 ⟨cx, cc, rfl, h1, h2⟩; have HBz : Hid (Below w.heap.size w w8) := h2; have HCs : Hid (CuS w8 cx CL) := h1; clear h1 h2))
          have H0 : Hid (0 = cnt rr (CL.take 0)) := (show _ = _ from rfl)
          go_loopw [16, 17] (fun v16 v17 wr => ∃ i y : Nat, i ≤ n ∧ v17 = .int .i64 i ∧ v16 = .int .i64 y ∧ y ≤ i ∧ Hid (y = cnt rr (CL.take i)) ∧ Hid (CuS wr cx CL) ∧ Hid (Below w.heap.size w wr)) (fun _ v17 _ => n - (intOf v17).toNat)
          case atStart => exact ⟨0, 0, Nat.zero_le _, rfl, rfl, Nat.le_refl _, H0, HCs, HBz⟩
          case round =>
            obtain ⟨i, y, hi, rfl, rfl, hyi, HY, HCw, HBw⟩ := hrel
            clear H0 HCs
            by_cases hlt : i < n
            · have hil : i < CL.length := by have := HN.out; omega
              have HT2 : Hid (cnt rr (CL.take (i + 1)) = cnt rr (CL.take i) + if hasB CL[i] rr then 1 else 0) := (show _ = _ by rw [List.take_succ_eq_append_getElem hil, cnt_app, cnt_one])
              have hk := HCv.out _ (List.getElem_mem hil)
              rcases HCw.out with h | ⟨g, rfl, hg, hcs⟩
              · exact absurd (by rw [h]; rfl) (show ¬ CL.length = 0 by omega)
              · obtain ⟨x, c, hcx, hTx⟩ := hcs i hil
                have HI2 : Hid (Calls Try.prog 10 #[.slice x (toT CL[i]).length c, .slice bv vs.length vc] wr fun e w' => e = .returned (.bool (hasB CL[i] rr)) ∧ CuS w' (some ⟨g, 0, none⟩) CL ∧ Below w.heap.size w w') := (show Calls _ _ _ _ _ from (HIk.out _ hk wr x c hTx HBw.out).mono fun e w' ⟨h1, h2⟩ => ⟨h1, HCw.out.below h2, btr HBw.out h2 (Nat.le_refl _)⟩)
                generalize CL[i] = k at *
                clear hk hTx hcs
                cases hh : hasB k rr with
                | true =>
                  rw [hh] at HI2
                  have HQ : Hid (y + 1 = cnt rr (CL.take (i + 1))) := (show _ = _ by rw [HT2.out, hh, ← HY.out]; rfl)
                  clear HT2 HY hh HMyes HMno
                  go_wp2_with (go_at_call 10; refine HI2.out.mono ?_; rintro e w9 ⟨rfl, h1, h2⟩; have HF2 : Hid (CuS w9 (some ⟨g, 0, none⟩) CL ∧ Below w.heap.size w w9) := ⟨h1, h2⟩; clear h1 h2)
                  go_roundw
                  case rel => exact ⟨i + 1, y + 1, by omega, by go_num, by go_num, by omega, HQ, HF2.out.1, HF2.out.2⟩
                  case measure => simp [intOf]; omega
                | false =>
                  rw [hh] at HI2
                  have HQ : Hid (y = cnt rr (CL.take (i + 1))) := (show _ = _ by rw [HT2.out, hh, ← HY.out]; rfl)
                  clear HT2 HY hh HMyes HMno
                  go_wp2_with (go_at_call 10; refine HI2.out.mono ?_; rintro e w9 ⟨rfl, h1, h2⟩; have HF2 : Hid (CuS w9 (some ⟨g, 0, none⟩) CL ∧ Below w.heap.size w w9) := ⟨h1, h2⟩; clear h1 h2)
                  go_roundw
                  case rel => exact ⟨i + 1, y, by omega, by go_num, rfl, by omega, HQ, HF2.out.1, HF2.out.2⟩
                  case measure => simp [intOf]; omega
            · have hy : y = if hA && !hB then 1 else 0 := by
                have := HY.out
                rw [List.take_of_length_le (by have := HN.out; omega), HF.out.2] at this
                exact this
              have hme := HF.out.1
              have HBz : Hid (Below w.heap.size w wr) := HBw.out
              clear HY HF HCw HBw HIk HCv
              cases me with
              | false =>
                have HMe := HMno
                have HMe2 : Hid (∀ u, Below w.heap.size w u → Calls Try.prog 14 #[.slice ra la.length ca, .slice rb lb.length cb] u fun e w' => e = .returned (.tuple #[.slice none 0 0, .bool false]) ∧ Below w.heap.size w w') := (show ∀ u, _ from HMno.out rfl)
                clear HMyes HMno HMe HIc
                have HMe := HMe2
                clear HMe2
                cases hA <;> cases hB
                all_goals first | (exfalso; revert hme; simp; done) | skip
                all_goals
                  simp at hy
                  subst hy
                  clear hme
                  go_wp2_with (first
                    | (go_at_call 14; refine (HMe.out _ HBz.out).mono ?_; rintro e w8 ⟨rfl, h1⟩; have HBz : Hid (Below w.heap.size w w8) := h1; clear h1)
                    | (go_at_call_of 10 (Value.slice ra la.length ca); refine (HIa.out _ HBz.out).mono ?_; rintro e w9 ⟨rfl, h1⟩; have HBz : Hid (Below w.heap.size w w9) := h1; clear h1)
                    | (go_at_call_of 10 (Value.slice rb lb.length cb); refine (HIb.out _ HBz.out).mono ?_; rintro e w9 ⟨rfl, h1⟩; have HBz : Hid (Below w.heap.size w w9) := h1; clear h1)
                    | (go_at_call 7; refine (HAw.out _).mono ?_; rintro e w9 ⟨rfl, hb⟩; have HBy : Hid (Below w.heap.size w w9) := (show Below _ _ _ from btr HBz.out hb (Nat.le_refl _)); clear hb))
                  go_ret
                  exact ⟨rfl, HBy.out⟩
              | true =>
                have HMe : Hid (∀ u, Below w.heap.size w u → Calls Try.prog 14 #[.slice ra la.length ca, .slice rb lb.length cb] u fun e w' => ∃ z f, e = .returned (.tuple #[.slice z T0.length f, .bool true]) ∧ Ts w' z T0 ∧ Below w.heap.size w w') := (show ∀ u, _ from HMyes.out rfl)
                clear HMyes HMno
                obtain rfl : hC = (hA && hB) := by simpa using hme
                cases hA <;> cases hB
                all_goals
                  simp only [Bool.and_true, Bool.and_false, Bool.true_and, Bool.false_and, Bool.and_self] at HIc
                  simp at hy
                  subst hy
                  clear hme
                  go_wp2_with (first
                    | (go_at_call 14; refine (HMe.out _ HBz.out).mono ?_; rintro e w8 ⟨z, f, rfl, h1, h2⟩; have HBm : Hid (Ts w8 z T0 ∧ Below w.heap.size w w8) := ⟨h1, h2⟩; have HBz : Hid (Below w.heap.size w w8) := h2; clear h1 h2)
                    | (go_at_call_of 10 (Value.slice ra la.length ca); refine (HIa.out _ HBz.out).mono ?_; rintro e w9 ⟨rfl, h1⟩; have HBz : Hid (Below w.heap.size w w9) := h1; clear h1)
                    | (go_at_call_of 10 (Value.slice rb lb.length cb); refine (HIb.out _ HBz.out).mono ?_; rintro e w9 ⟨rfl, h1⟩; have HBz : Hid (Below w.heap.size w w9) := h1; clear h1)
                    | (go_at_call 10; refine (HIc.out _ z f HBm.out.1 HBm.out.2).mono ?_; rintro e w9 ⟨rfl, h1⟩; have HBz : Hid (Below w.heap.size w w9) := h1; clear h1)
                    | (go_at_call 7; refine (HAw.out _).mono ?_; rintro e w9 ⟨rfl, hb⟩; have HBy : Hid (Below w.heap.size w w9) := (show Below _ _ _ from btr HBz.out hb (Nat.le_refl _)); clear hb))
                  go_ret
                  exact ⟨rfl, HBy.out⟩
end Go.Proofs.Ytmobmpghpdaddab

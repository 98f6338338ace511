/-
  The document's Whole, Holds and In.
-/
import Derived.Test.YtmobmpghpdaddaaPickP
namespace Go.Proofs.Ytmobmpghpdaddaa
open Go.ChangeShapes Go.WideShapes Go.ChangeAt Go.RowKit
set_option linter.unusedVariables false
set_option linter.unusedSimpArgs false

def holdsB (t : Tst) (r : Rw) : Bool := r t.f.toNat &&& t.m == t.v
/-- The field of the test ahead. -/
def prevF (l : List Tst) : Nat → Int
  | 0 => 0
  | i + 1 => (l.getD i ⟨0, 0#64, 0#64⟩).f
theorem bcells {W : World} {b o : Nat} {t : Tst} (h : C3 W b o t) (hb : b < W.heap.size) (z : GrT W) : z.w.cell? ⟨b, o, none⟩ = some (.int .i64 t.f) ∧ z.w.cell? ⟨b, o + 1, none⟩ = some (cv t.v) ∧ z.w.cell? ⟨b, o + 2, none⟩ = some (cv t.m) := h.below hb z.h
set_option maxRecDepth 20000 in
set_option maxHeartbeats 4000000 in
theorem holds_any (t : Tst) (b : Option Addr) (vs : List B64) (vc : Nat) (w : World) (hv : Vs w b vs) (hf : 1 ≤ t.f ∧ t.f ≤ 9) :
    Calls Try.prog 42 #[tV t, .slice b vs.length vc] w fun e w' => e = .returned (.bool (holdsB t (valR vs))) ∧ Below w.heap.size w w' := by
  obtain ⟨X, hX, ⟨d0, d1, d2⟩, gX, zX⟩ := box3 w t
  have HG : Hid (Below w.heap.size w X ∧ Vs X b vs) := ⟨gX, hv.below gX⟩
  obtain ⟨tf, tv, tm⟩ := t
  simp only at hf d0 d1 d2 hX
  obtain ⟨f, rfl⟩ : ∃ f : Nat, tf = (f : Int) := ⟨tf.toNat, by omega⟩
  have hh : holdsB ⟨(f : Int), tv, tm⟩ (valR vs) = (valR vs f &&& tm == tv) := by unfold holdsB; simp
  rw [hh]
  clear hh gX zX hv
  by_cases hlt : f < vs.length
  · obtain ⟨g, o, rfl, hg, hc⟩ := HG.out.2.at hlt
    have c0 := hc f hlt
    have e1 : valR vs f = vs[f] := by unfold valR; rw [List.getD_eq_getElem?_getD, List.getElem?_eq_getElem hlt]; rfl
    rw [e1]
    obtain ⟨x, hx⟩ : ∃ x, vs[f] = x := ⟨_, rfl⟩
    rw [hx] at c0 ⊢
    have hb := b_and x tm
    have he := nb_beq (x &&& tm) tv
    have q1 : decide ((f : Int) < (vs.length : Int)) = true := by simp; omega
    clear hc hx e1
    obtain ⟨R, hR⟩ : ∃ R, (x &&& tm == tv) = R := ⟨_, rfl⟩
    rw [hR] at he ⊢
    clear hR
    go_enter Try.func42, Try.ntmps42
    go_wp2_with fail
    go_ret
    exact ⟨by first | rfl | (rw [← he]; rfl), HG.out.1⟩
  · have e1 : valR vs f = 0#64 := by unfold valR; rw [List.getD_eq_getElem?_getD, List.getElem?_eq_none (by omega)]; rfl
    rw [e1]
    have hb := b_and 0#64 tm
    have e0 : 0#64 &&& tm = 0#64 := by simp
    rw [nb_zero, e0] at hb
    have he := nb_beq 0#64 tv
    rw [e0]
    have q1 : decide ((f : Int) < (vs.length : Int)) = false := by simp; omega
    obtain ⟨R, hR⟩ : ∃ R, (0#64 == tv) = R := ⟨_, rfl⟩
    rw [hR] at he ⊢
    clear hR e1 e0
    go_enter Try.func42, Try.ntmps42
    go_wp2_with fail
    go_ret
    exact ⟨by first | rfl | (rw [← he]; rfl), HG.out.1⟩
theorem prevF_succ (l : List Tst) (i : Nat) (h : i < l.length) : prevF l (i + 1) = l[i].f := by
  show (l.getD i ⟨0, 0#64, 0#64⟩).f = _
  rw [List.getD_eq_getElem?_getD, List.getElem?_eq_getElem h]
  rfl
set_option maxRecDepth 20000 in
set_option maxHeartbeats 8000000 in
theorem rwhole_any (a : Option Addr) (l : List Tst) (cap : Nat) (w : World) (hs : Ts w a l) (hl : l.length ≤ 9223372036854775807) :
    Calls Try.prog 21 #[.slice a l.length cap] w fun e w' => e = .returned (.bool (wholeB l)) ∧ Below w.heap.size w w' := by
  have HS : Hid (Ts w a l) := hs
  have H0 : Hid (wholeB l = wholeFrom (prevF l 0) (l.drop 0)) := (show _ = _ from rfl)
  obtain ⟨R, hR⟩ : ∃ R, wholeB l = R := ⟨_, rfl⟩
  rw [hR] at H0 ⊢
  clear hs hR
  go_enter Try.func21, Try.ntmps21
  go_wp2_with fail
  go_loopw [3] (fun v3 wr => ∃ i : Nat, i ≤ l.length ∧ v3 = .int .i64 i ∧ Hid (R = wholeFrom (prevF l i) (l.drop i)) ∧ Hid (Below w.heap.size w wr)) (fun v3 _ => l.length - (intOf v3).toNat)
  case atStart => exact ⟨0, Nat.zero_le _, rfl, H0, Below.refl _ _⟩
  case round =>
    obtain ⟨i, hi, rfl, HK, HB⟩ := hrel
    clear H0
    by_cases hlt : i < l.length
    · obtain ⟨g, o, rfl, hg, hc⟩ := (HS.out.below HB.out).at hlt
      have c := bcells (hc i hlt) hg
      have HD : Hid (R = (trB l[i] && !(l[i].m == 0#64) && decide (prevF l i < l[i].f) && wholeFrom (prevF l (i + 1)) (l.drop (i + 1)))) := (show _ = _ by rw [HK.out, List.drop_eq_getElem_cons hlt, wholeFrom_eq, prevF_succ l i hlt])
      have HP : Hid (∀ k : Nat, i = k + 1 → ∀ z : GrT wr, z.w.cell? ⟨g, o + k * 3, none⟩ = some (.int .i64 (prevF l i))) := (show ∀ k : Nat, _ from fun k hk z => by
        subst hk
        rw [prevF_succ l k (by omega)]
        exact (bcells (hc k (by omega)) hg z).1)
      have HR : Hid (∀ z : GrT wr, Calls Try.prog 45 #[tV l[i]] z.w fun e w' => e = .returned (.bool (trB l[i])) ∧ Below z.w.heap.size z.w w') := (show ∀ z : GrT wr, _ from fun z => rright_test l[i] z.w)
      clear hc HK
      have hf1 : trB l[i] = true → 1 ≤ l[i].f := fun h => ((trB_iff _).1 h).1
      generalize l[i] = t at *
      have c0 := fun z => (c z).1
      have c1 := fun z => (c z).2.1
      have c2 := fun z => (c z).2.2
      clear c
      have HBz : Hid (∀ w6, Below wr.heap.size wr w6 → Below w.heap.size w w6) := (show ∀ w6, _ from fun w6 g1 => btr HB.out g1 (Nat.le_refl _))
      obtain ⟨tf, tv, tm⟩ := t
      simp only at c0 c1 c2 HD hf1
      have HR' : Hid (∀ z : GrT wr, Calls Try.prog 45 #[.agg #[.int .i64 tf, cv tv, cv tm]] z.w fun e w' => e = .returned (.bool (trB ⟨tf, tv, tm⟩)) ∧ Below z.w.heap.size z.w w') := HR
      clear HR
      cases htr : trB ⟨tf, tv, tm⟩ with
      | false =>
        have HE : Hid (R = false) := (show _ = _ by rw [HD.out, htr]; rfl)
        rw [htr] at HR'
        clear HD HP hf1
        go_wp2_with fail
        refine wp_region_grow (by kernel_rfl) (by kernel_rfl) ?_
        repeat (go_big_quiet_step ((go_at_call 45; exact quiet_gr (HR'.out _))))
        refine wpQuiet_nil ?_
        rintro w6 hw'
        have g1 := gr_elim hw'
        clear hw'
        have HB6 : Hid (Below w.heap.size w w6) := HBz.out _ g1
        clear g1 c0 c1 c2
        go_wp2_with fail
        go_ret
        exact ⟨by rw [HE.out]; rfl, HB6.out⟩
      | true =>
        rw [htr] at HR'
        have htf := hf1 htr
        by_cases hm : tm = 0#64
        · have HE : Hid (R = false) := (show _ = _ by rw [HD.out, hm]; simp)
          have q1 : (nb tm == 0) = true := by rw [hm]; rfl
          clear HD HP hf1 hm
          go_wp2_with fail
          refine wp_region_grow (by kernel_rfl) (by kernel_rfl) ?_
          repeat (go_big_quiet_step ((go_at_call 45; exact quiet_gr (HR'.out _))))
          refine wpQuiet_nil ?_
          rintro w6 hw'
          have g1 := gr_elim hw'
          clear hw'
          have HB6 : Hid (Below w.heap.size w w6) := HBz.out _ g1
          clear g1 c0 c1 c2
          go_wp2_with fail
          go_ret
          exact ⟨by rw [HE.out]; rfl, HB6.out⟩
        · have q1 : (nb tm == 0) = false := by rw [nb_is0]; simpa using hm
          by_cases hi0 : i = 0
          · subst hi0
            have HE : Hid (R = wholeFrom (prevF l 1) (l.drop 1)) := (show _ = _ by
              rw [HD.out, htr, decide_eq_true (show prevF l 0 < tf from (show (0 : Int) < tf by omega)), (show (tm == 0#64) = false by simpa using hm)]
              rfl)
            clear HD HP hf1 hm
            simp only [Nat.zero_mul, Nat.add_zero] at c0 c1 c2
            go_wp2_with fail
            refine wp_region_grow (by kernel_rfl) (by kernel_rfl) ?_
            repeat (go_big_quiet_step ((go_at_call 45; exact quiet_gr (HR'.out _))))
            refine wpQuiet_nil ?_
            rintro w6 hw'
            have g1 := gr_elim hw'
            clear hw'
            have HB6 : Hid (Below w.heap.size w w6) := HBz.out _ g1
            clear g1 c0 c1 c2
            go_wp2_with fail
            go_roundw
            case rel => exact ⟨1, by omega, by go_num, HE, HB6⟩
            case measure => simp [intOf]; omega
          · obtain ⟨k, rfl⟩ : ∃ k, i = k + 1 := ⟨i - 1, by omega⟩
            have p0 := HP.out k rfl
            obtain ⟨P, hP⟩ : ∃ P, prevF l (k + 1) = P := ⟨_, rfl⟩
            rw [hP] at p0 HD
            have q3 : (0 : Int) < (k : Int) + 1 := by omega
            have q5 : (k : Int) + 1 < (l.length : Int) := by omega
            by_cases hle : tf ≤ P
            · have HE : Hid (R = false) := (show _ = _ by rw [HD.out, decide_eq_false (show ¬ P < tf by omega)]; simp)
              have q4 : decide (tf ≤ P) = true := decide_eq_true hle
              clear HD HP hf1 hm hP hle
              go_wp2_with fail
              refine wp_region_grow (by kernel_rfl) (by kernel_rfl) ?_
              repeat (go_big_quiet_step ((go_at_call 45; exact quiet_gr (HR'.out _))))
              refine wpQuiet_nil ?_
              rintro w6 hw'
              have g1 := gr_elim hw'
              clear hw'
              have HB6 : Hid (Below w.heap.size w w6) := HBz.out _ g1
              clear g1 c0 c1 c2
              go_wp2_with fail
              go_ret
              exact ⟨by rw [HE.out]; rfl, HB6.out⟩
            · have HE : Hid (R = wholeFrom (prevF l (k + 1 + 1)) (l.drop (k + 1 + 1))) := (show _ = _ by
                rw [HD.out, htr, decide_eq_true (show P < tf by omega), (show (tm == 0#64) = false by simpa using hm)]
                rfl)
              have q4 : decide (tf ≤ P) = false := decide_eq_false hle
              clear HD HP hf1 hm hP hle
              go_wp2_with fail
              refine wp_region_grow (by kernel_rfl) (by kernel_rfl) ?_
              repeat (go_big_quiet_step ((go_at_call 45; exact quiet_gr (HR'.out _))))
              refine wpQuiet_nil ?_
              rintro w6 hw'
              have g1 := gr_elim hw'
              clear hw'
              have HB6 : Hid (Below w.heap.size w w6) := HBz.out _ g1
              clear g1 c0 c1 c2
              go_wp2_with fail
              go_roundw
              case rel => exact ⟨k + 1 + 1, by omega, by go_num, HE, HB6⟩
              case measure => simp [intOf]; omega
    · have HE : Hid (R = true) := (show _ = _ by rw [HK.out, List.drop_of_length_le (by omega)]; rfl)
      clear HK
      go_wp2_with fail
      go_ret
      exact ⟨by rw [HE.out]; rfl, HB.out⟩
theorem whole_holds (r : Rw) {l : List Tst} (h : wholeB l = true) : hasB (cubF l) r = l.all fun t => holdsB t r := by
  rw [Bool.eq_iff_iff, hasB_iff, List.all_eq_true]
  constructor
  · intro g t ht
    obtain ⟨k1, k2⟩ := fold_at l K.top (Int.le_refl 0) h t ht
    obtain ⟨t1, _, _⟩ := whole_all h t ht
    obtain ⟨r1, r2, _⟩ := (trB_iff t).1 t1
    have := g t.f.toNat (by omega)
    unfold holdsB
    rw [beq_iff_eq]
    have e1 : (cubF l).m t.f.toNat = t.m := k1
    have e2 : (cubF l).v t.f.toNat = t.v := k2
    rw [e1, e2] at this
    exact this
  · intro g f hf
    by_cases hex : ∃ t ∈ l, t.f.toNat = f
    · obtain ⟨t, ht, rfl⟩ := hex
      obtain ⟨k1, k2⟩ := fold_at l K.top (Int.le_refl 0) h t ht
      have := g t ht
      unfold holdsB at this
      rw [beq_iff_eq] at this
      have e1 : (cubF l).m t.f.toNat = t.m := k1
      have e2 : (cubF l).v t.f.toNat = t.v := k2
      rw [e1, e2]
      exact this
    · have := cubF_cons_lt l K.top (f := f) (fun t ht e => hex ⟨t, ht, e⟩)
      have e1 : (cubF l).m f = 0#64 := this.1
      have e2 : (cubF l).v f = 0#64 := this.2
      rw [e1, e2]
      simp
set_option maxRecDepth 20000 in
set_option maxHeartbeats 4000000 in
theorem rin_any (a : Option Addr) (l : List Tst) (cap : Nat) (b : Option Addr) (vs : List B64) (vc : Nat) (w : World) (hs : Ts w a l) (hv : Vs w b vs) (hl : l.length ≤ 9223372036854775807) :
    Calls Try.prog 24 #[.slice a l.length cap, .slice b vs.length vc] w fun e w' => e = .returned (.bool (inB l (valR vs))) ∧ Below w.heap.size w w' := by
  have HS : Hid (Ts w a l ∧ Vs w b vs) := ⟨hs, hv⟩
  have HW : Hid (Calls Try.prog 21 #[.slice a l.length cap] w fun e w' => e = .returned (.bool (wholeB l)) ∧ Below w.heap.size w w') := rwhole_any a l cap w hs hl
  have HE : Hid (inB l (valR vs) = (wholeB l && l.all fun t => holdsB t (valR vs))) := (show _ = _ by
    unfold inB
    cases h : wholeB l with
    | false => rfl
    | true => rw [whole_holds _ h])
  obtain ⟨R, hR⟩ : ∃ R, inB l (valR vs) = R := ⟨_, rfl⟩
  rw [hR] at HE ⊢
  clear hs hv hR
  cases hw : wholeB l with
  | false =>
    rw [hw] at HW HE
    have HR : Hid (R = false) := HE.out
    clear hw HE
    go_enter Try.func24, Try.ntmps24
    go_wp2_with (go_at_call 21; refine HW.out.mono ?_; rintro e w1 ⟨rfl, h1⟩; have HB1 : Hid (Below w.heap.size w w1) := h1; clear h1)
    go_ret
    exact ⟨by rw [HR.out]; rfl, HB1.out⟩
  | true =>
    have HWh : Hid (wholeB l = true) := hw
    rw [hw] at HW
    have H0 : Hid (R = (l.drop 0).all fun t => holdsB t (valR vs)) := (show _ = _ by rw [HE.out, hw]; rfl)
    clear hw HE
    go_enter Try.func24, Try.ntmps24
    go_wp2_with (go_at_call 21; refine HW.out.mono ?_; rintro e w1 ⟨rfl, h1⟩; have HB1 : Hid (Below w.heap.size w w1) := h1; clear h1)
    go_loopw [5] (fun v5 wr => ∃ i : Nat, i ≤ l.length ∧ v5 = .int .i64 i ∧ Hid (R = (l.drop i).all fun t => holdsB t (valR vs)) ∧ Hid (Below w.heap.size w wr)) (fun v5 _ => l.length - (intOf v5).toNat)
    case atStart => exact ⟨0, Nat.zero_le _, rfl, H0, HB1⟩
    case round =>
      obtain ⟨i, hi, rfl, HK, HB⟩ := hrel
      clear H0 HB1
      by_cases hlt : i < l.length
      · obtain ⟨g, o, rfl, hg, hc⟩ := (HS.out.1.below HB.out).at hlt
        obtain ⟨c0, c1, c2⟩ := hc i hlt
        have HD : Hid (R = (holdsB l[i] (valR vs) && (l.drop (i + 1)).all fun t => holdsB t (valR vs))) := (show _ = _ by rw [HK.out, List.drop_eq_getElem_cons hlt, List.all_cons])
        obtain ⟨t1, _, _⟩ := whole_all HWh.out l[i] (List.getElem_mem hlt)
        have hf : 1 ≤ l[i].f ∧ l[i].f ≤ 9 := by obtain ⟨r1, r2, _⟩ := (trB_iff _).1 t1; exact ⟨r1, r2⟩
        have HH : Hid (Calls Try.prog 42 #[tV l[i], .slice b vs.length vc] wr fun e w' => e = .returned (.bool (holdsB l[i] (valR vs))) ∧ Below w.heap.size w w') := (show Calls _ _ _ _ _ from (holds_any l[i] b vs vc wr (HS.out.2.below HB.out) hf).mono fun e w' ⟨h1, h2⟩ => ⟨h1, btr HB.out h2 (Nat.le_refl _)⟩)
        generalize l[i] = t at *
        clear hc HK hf t1
        cases hh : holdsB t (valR vs) with
        | false =>
          have HE : Hid (R = false) := (show _ = _ by rw [HD.out, hh]; rfl)
          rw [hh] at HH
          clear HD hh
          go_wp2_with (go_at_call 42; refine HH.out.mono ?_; rintro e w2 ⟨rfl, h1⟩; have HB2 : Hid (Below w.heap.size w w2) := h1; clear h1)
          go_ret
          exact ⟨by rw [HE.out]; rfl, HB2.out⟩
        | true =>
          have HE : Hid (R = (l.drop (i + 1)).all fun t => holdsB t (valR vs)) := (show _ = _ by rw [HD.out, hh]; rfl)
          rw [hh] at HH
          clear HD hh
          go_wp2_with (go_at_call 42; refine HH.out.mono ?_; rintro e w2 ⟨rfl, h1⟩; have HB2 : Hid (Below w.heap.size w w2) := h1; clear h1)
          go_roundw
          case rel => exact ⟨i + 1, by omega, by go_num, HE, HB2⟩
          case measure => simp [intOf]; omega
      · have HE : Hid (R = true) := (show _ = _ by rw [HK.out, List.drop_of_length_le (by omega)]; rfl)
        clear HK
        go_wp2_with fail
        go_ret
        exact ⟨by rw [HE.out]; rfl, HB.out⟩
end Go.Proofs.Ytmobmpghpdaddaa

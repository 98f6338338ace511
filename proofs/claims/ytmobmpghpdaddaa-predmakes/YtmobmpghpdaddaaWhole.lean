/-
  Whole, In, Pick, Meet.
-/
import Derived.Test.YtmobmpghpdaddaaCubW
namespace Go.Proofs.Ytmobmpghpdaddaa
open Go.ChangeShapes Go.WideShapes Go.ChangeAt Go.RowKit
set_option linter.unusedVariables false

theorem bcell {W w1 : World} (hb : Below W.heap.size W w1) : (∀ b o, b < W.heap.size → w1.cell? ⟨b, o, none⟩ = W.cell? ⟨b, o, none⟩) ∧ (∀ b o, b < W.heap.size → w1.frozen? ⟨b, o, none⟩ = W.frozen? ⟨b, o, none⟩) :=
  ⟨fun b o h => hb.cell (p := ⟨b, o, none⟩) h, fun b o h => hb.frozen (p := ⟨b, o, none⟩) h⟩
/-- A test's box. -/
theorem box3 (w : World) (t : Tst) : ∃ V, w.alloc (.cells #[.int .i64 t.f, cv t.v, cv t.m] 32) = V ∧ C3 V w.heap.size 0 t ∧ Below w.heap.size w V ∧ V.heap.size = w.heap.size + 1 :=
  ⟨_, rfl, ⟨by simp, by simp, by simp⟩, by go_grown, by simp⟩
set_option maxRecDepth 20000 in
set_option maxHeartbeats 4000000 in
theorem whole_any (a : Option Addr) (l : List Tst) (cap : Nat) (w : World) (hs : Ts w a l) (hl : l.length ≤ 9223372036854775807) :
    Calls Try.prog 22 #[.slice a l.length cap] w fun e w' => e = .returned (.bool (wholeB l)) ∧ Below w.heap.size w w' := by
  have HS : Hid (Ts w a l) := hs
  have H0 : Hid (wholeB l = wholeFrom 0 (l.drop 0)) := (show _ = _ from rfl)
  clear hs
  go_enter Try.func22, Try.ntmps22
  go_wp2_with fail
  go_loopw [3, 8] (fun v3 v8 wr => ∃ (k : Nat) (x : Int), k ≤ l.length ∧ v8 = .int .i64 k ∧ v3 = .int .i64 x ∧ Hid (wholeB l = wholeFrom x (l.drop k)) ∧ Hid (Below w.heap.size w wr)) (fun _ v8 _ => l.length - (intOf v8).toNat)
  case atStart => exact ⟨0, 0, Nat.zero_le _, rfl, rfl, H0, Below.refl _ _⟩
  case round =>
    obtain ⟨k, x, hk, rfl, rfl, HK, HB⟩ := hrel
    clear H0
    by_cases hlt : k < l.length
    · obtain ⟨g, o, rfl, hg, hc⟩ := (HS.out.below HB.out).at hlt
      obtain ⟨c0, c1, c2⟩ := hc k hlt
      have HD : Hid (wholeB l = (trB l[k] && !(l[k].m == 0#64) && decide (x < l[k].f) && wholeFrom l[k].f (l.drop (k + 1)))) := (show _ = _ by rw [HK.out, List.drop_eq_getElem_cons hlt, wholeFrom_eq])
      clear HK hc
      generalize l[k] = t at *
      obtain ⟨V, hV, ⟨d0, d1, d2⟩, gV, zV⟩ := box3 wr t
      have HG : Hid (Below w.heap.size w V) := (show Below _ _ _ from btr HB.out gV (by omega))
      have HZ : Hid (w.heap.size < V.heap.size) := (show _ < _ by have := HB.out.size; omega)
      have HR : Hid (Calls Try.prog 44 #[tV t] V fun e w' => e = .returned (.bool (trB t)) ∧ Below V.heap.size V w') := right_test t V
      clear gV
      rcases (show trB t = false ∨ (trB t = true ∧ nb t.m = 0) ∨ (trB t = true ∧ ¬ nb t.m = 0 ∧ t.f ≤ x) ∨ (trB t = true ∧ ¬ nb t.m = 0 ∧ x < t.f) by
        cases trB t
        · exact .inl rfl
        · by_cases h : nb t.m = 0
          · exact .inr (.inl ⟨rfl, h⟩)
          · by_cases h2 : t.f ≤ x
            · exact .inr (.inr (.inl ⟨rfl, h, h2⟩))
            · exact .inr (.inr (.inr ⟨rfl, h, by omega⟩))) with h | ⟨h, h2⟩ | ⟨h, h2, h3⟩ | ⟨h, h2, h3⟩
      · have HE : Hid (wholeB l = false) := (show _ = _ by rw [HD.out, h]; rfl)
        rw [h] at HR
        clear HD h
        go_wp2_with (go_at_call 44; refine HR.out.mono ?_; rintro r w1 ⟨rfl, hb⟩; have HB1 : Hid (Below w.heap.size w w1) := (show Below _ _ _ from btr HG.out hb (by have := HZ.out; omega)); clear hb)
        go_ret
        exact ⟨by rw [HE.out]; rfl, HB1.out⟩
      · have HE : Hid (wholeB l = false) := (show _ = _ by rw [HD.out, h, (nb_eq0 _).1 h2]; simp)
        have q1 : (nb t.m == 0) = true := by rw [h2]; rfl
        rw [h] at HR
        clear HD h h2
        obtain ⟨tf, tv, tm⟩ := t
        simp only at c0 c1 c2 d0 d1 d2 hV q1
        have HR' : Hid (Calls Try.prog 44 #[.agg #[.int .i64 tf, cv tv, cv tm]] V fun e w' => e = .returned (.bool true) ∧ Below V.heap.size V w') := HR
        clear HR
        go_wp2_with (go_at_call 44; refine HR'.out.mono ?_; rintro r w1 ⟨rfl, hb⟩; (obtain ⟨b1, b2⟩ := bcell hb); have HB1 : Hid (Below w.heap.size w w1) := (show Below _ _ _ from btr HG.out hb (by have := HZ.out; omega)); clear hb)
        go_ret
        exact ⟨by rw [HE.out]; rfl, HB1.out⟩
      · have HE : Hid (wholeB l = false) := (show _ = _ by rw [HD.out, decide_eq_false (show ¬ x < t.f by omega)]; simp)
        have q1 : (nb t.m == 0) = false := by simpa using h2
        rw [h] at HR
        clear HD h
        obtain ⟨tf, tv, tm⟩ := t
        simp only at c0 c1 c2 d0 d1 d2 hV q1 h3
        have HR' : Hid (Calls Try.prog 44 #[.agg #[.int .i64 tf, cv tv, cv tm]] V fun e w' => e = .returned (.bool true) ∧ Below V.heap.size V w') := HR
        clear HR h2
        go_wp2_with (go_at_call 44; refine HR'.out.mono ?_; rintro r w1 ⟨rfl, hb⟩; (obtain ⟨b1, b2⟩ := bcell hb); have HB1 : Hid (Below w.heap.size w w1) := (show Below _ _ _ from btr HG.out hb (by have := HZ.out; omega)); clear hb)
        go_ret
        exact ⟨by rw [HE.out]; rfl, HB1.out⟩
      · have HE : Hid (wholeB l = wholeFrom t.f (l.drop (k + 1))) := (show _ = _ by rw [HD.out, h, decide_eq_true h3, ← nb_is0, (show (nb t.m == 0) = false by simpa using h2)]; rfl)
        have q1 : (nb t.m == 0) = false := by simpa using h2
        rw [h] at HR
        clear HD h
        obtain ⟨tf, tv, tm⟩ := t
        simp only at c0 c1 c2 d0 d1 d2 hV q1 h3 HE
        have HR' : Hid (Calls Try.prog 44 #[.agg #[.int .i64 tf, cv tv, cv tm]] V fun e w' => e = .returned (.bool true) ∧ Below V.heap.size V w') := HR
        clear HR h2
        go_wp2_with (go_at_call 44; refine HR'.out.mono ?_; rintro r w1 ⟨rfl, hb⟩; (obtain ⟨b1, b2⟩ := bcell hb); have HB1 : Hid (Below w.heap.size w w1) := (show Below _ _ _ from btr HG.out hb (by have := HZ.out; omega)); clear hb)
        go_roundw
        case rel => exact ⟨k + 1, tf, by omega, by go_num, rfl, HE, HB1⟩
        case measure => simp [intOf]; omega
    · have HE : Hid (wholeB l = true) := (show _ = _ by rw [HK.out, List.drop_of_length_le (by omega)]; rfl)
      clear HK
      go_wp2_with fail
      go_ret
      exact ⟨by rw [HE.out]; rfl, HB.out⟩
end Go.Proofs.Ytmobmpghpdaddaa

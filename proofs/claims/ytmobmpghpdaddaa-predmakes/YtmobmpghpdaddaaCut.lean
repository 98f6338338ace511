/-
  Cut.
-/
import Derived.Test.YtmobmpghpdaddaaHandW
namespace Go.Proofs.Ytmobmpghpdaddaa
open Go.ChangeShapes Go.WideShapes Go.ChangeAt Go.RowKit
set_option linter.unusedVariables false

/-- A list of cubes, as slices of tests in a row of its own. -/
structure CuR (w : World) (v : Value) (l : List K) (w' : World) : Prop where
  ex : ∃ hs, OwnH w.heap.size w' v hs ∧ Hs Tc w' hs l
  bel : Below w.heap.size w w'
theorem CtI.new {base : Nat} (w : World) (hb : base ≤ w.heap.size) : CtI base w.heap.size [] (fun j => j = w.heap.size) (w.alloc (.cells #[.slice none 0 0] 52)) := by
  refine ⟨⟨.slice none 0 0, [], fun _ => False, by simp, World.ownsRow_nil _ _ _ _, Hs.nil _, by simp [Value.ownBlock], fun h => h, fun _ _ h => h, fun _ h => h.elim, fun j => by simp [Value.ownBlock]⟩, by simp, by simp, by simp; omega⟩
theorem CtI.fin {base g : Nat} {l : List K} {S : Nat → Prop} {w : World} (h : CtI base g l S w) : ∃ v, w.cell? ⟨g, 0, none⟩ = some v ∧ ∃ hs, OwnH base w v hs ∧ Hs Tc w hs l := by
  obtain ⟨v, hs, T, h1, h2, h3, _⟩ := h.ex
  exact ⟨v, h1, hs, h2, h3.mono fun i i1 i2 t => t.tc⟩
set_option maxRecDepth 20000 in
set_option maxHeartbeats 4000000 in
theorem cut_any (a : Option Addr) (l : List Tst) (cap : Nat) (b : Option Addr) (m : List Tst) (mc : Nat) (w : World) (hs : Ts w a l) (ht : Ts w b m) (hl : l.length ≤ 9223372036854775807) (hm : m.length ≤ 9223372036854775807) :
    Calls Try.prog 31 #[.slice a l.length cap, .slice b m.length mc] w fun e w' => ((wholeB l && wholeB m) = false ∧ e = .returned (.slice none 0 0) ∧ Below w.heap.size w w') ∨ (wholeB l = true ∧ wholeB m = true ∧ ∃ v, e = .returned v ∧ CuR w v (cutL (cubF l) (cubF m)) w') := by
  have HW : Hid (Calls Try.prog 22 #[.slice a l.length cap] w fun e w' => e = .returned (.bool (wholeB l)) ∧ Below w.heap.size w w') := whole_any a l cap w hs hl
  have HW2 : Hid (∀ u, Below w.heap.size w u → Calls Try.prog 22 #[.slice b m.length mc] u fun e w' => e = .returned (.bool (wholeB m)) ∧ Below u.heap.size u w') := (show ∀ u, _ from fun u g => whole_any b m mc u (ht.below g) hm)
  cases hb : wholeB l with
  | false =>
    rw [hb] at HW
    clear hb
    go_enter Try.func31, Try.ntmps31
    go_wp2_with (go_at_call 22; refine HW.out.mono ?_; rintro r w1 ⟨rfl, hb⟩; have HB1 : Hid (Below w.heap.size w w1) := hb; clear hb)
    go_ret
    exact .inl ⟨by first | rfl | simp, rfl, HB1.out⟩
  | true =>
    cases hb2 : wholeB m with
    | false =>
      rw [hb] at HW
      rw [hb2] at HW2
      clear hb hb2
      go_enter Try.func31, Try.ntmps31
      go_wp2_with (first
        | (go_at_call_of 22 (Value.slice a l.length cap); refine HW.out.mono ?_; rintro r w1 ⟨rfl, hb⟩; have HB1 : Hid (Below w.heap.size w w1) := hb; clear hb HW)
        | (go_at_call 22; refine (HW2.out _ HB1.out).mono ?_; rintro r w2 ⟨rfl, hb⟩; have HB2 : Hid (Below w.heap.size w w2) := (show Below _ _ _ from btr HB1.out hb (by omega)); clear hb))
      go_ret
      exact .inl ⟨by first | rfl | simp, rfl, HB2.out⟩
    | true =>
      have HC : Hid (∀ u, Below w.heap.size w u → Calls Try.prog 46 #[.slice a l.length cap] u fun e w' => e = .returned (.agg (cubA (cubF l))) ∧ Below u.heap.size u w') := (show ∀ u, _ from fun u g => cubeOf_any a l cap u (hs.below g) (whole_rng hb) hl)
      have HC2 : Hid (∀ u, Below w.heap.size w u → Calls Try.prog 46 #[.slice b m.length mc] u fun e w' => e = .returned (.agg (cubA (cubF m))) ∧ Below u.heap.size u w') := (show ∀ u, _ from fun u g => cubeOf_any b m mc u (ht.below g) (whole_rng hb2) hm)
      rw [hb] at HW
      rw [hb2] at HW2
      clear hb hb2 hs ht
      generalize cubF l = x at *
      generalize cubF m = y at *
      have HN : Hid (∀ w2, Below w.heap.size w w2 → CtI w.heap.size w2.heap.size [] (fun j => j = w2.heap.size) (w2.alloc (.cells #[.slice none 0 0] 52)) ∧ Below w.heap.size w (w2.alloc (.cells #[.slice none 0 0] 52))) := (show ∀ w2, _ from fun w2 g => ⟨CtI.new w2 g.size, btr g (by go_grown) (by omega)⟩)
      go_enter Try.func31, Try.ntmps31
      go_wp2_with (first
        | (go_at_call_of 22 (Value.slice a l.length cap); refine HW.out.mono ?_; rintro r w1 ⟨rfl, hb⟩; have HB1 : Hid (Below w.heap.size w w1) := hb; clear hb HW)
        | (go_at_call 22; refine (HW2.out _ HB1.out).mono ?_; rintro r w2 ⟨rfl, hb⟩; have HB2 : Hid (Below w.heap.size w w2) := (show Below _ _ _ from btr HB1.out hb (by omega)); have HI2 := HN.out w2 HB2.out; have HI : Hid _ := HI2; clear hb HI2 HN)
        | (go_at_call_of 46 (Value.slice a l.length cap); refine (HC.out _ HI.out.2).mono ?_; rintro r w3 ⟨rfl, hb⟩; have HB3 : Hid (Below w.heap.size w w3 ∧ CtI w.heap.size w2.heap.size [] (fun j => j = w2.heap.size) w3) := (show _ ∧ _ from ⟨btr HI.out.2 hb (by have := HI.out.2.size; omega), (hand_cut w.heap.size w2.heap.size).oth HI.out.1 (Chg.of hb)⟩); clear hb HC HI)
        | (go_at_call 46; refine (HC2.out _ HB3.out.1).mono ?_; rintro r w4 ⟨rfl, hb⟩; have HB4 : Hid (Below w.heap.size w w4 ∧ CtI w.heap.size w2.heap.size [] (fun j => j = w2.heap.size) w4) := (show _ ∧ _ from ⟨btr HB3.out.1 hb (by have := HB3.out.1.size; omega), (hand_cut w.heap.size w2.heap.size).oth HB3.out.2 (Chg.of hb)⟩); clear hb HC2 HB3)
        | (go_at_call 52; refine (without_cut (hand_cut w.heap.size w2.heap.size) x y HB4.out.2 (by simp)).mono ?_; rintro r w5 ⟨rfl, S', k1, k2, k3⟩; have HB5 : Hid (CtI w.heap.size w2.heap.size ([] ++ cutL x y) S' w5 ∧ Below w.heap.size w w5) := (show _ ∧ _ from ⟨k1, HB4.out.1.trans (k3.below HB4.out.1.size (fun j hj => by have := HB2.out.size; omega))⟩); (obtain ⟨v, c5, k6⟩ := HB5.out.1.fin); have HV : Hid (∃ hs, OwnH w.heap.size w5 v hs ∧ Hs Tc w5 hs ([] ++ cutL x y)) := k6; clear k1 k2 k3 k6))
      go_ret
      exact .inr ⟨by first | rfl | trivial, by first | rfl | trivial, v, rfl, HV.out, HB5.out.2⟩
end Go.Proofs.Ytmobmpghpdaddaa

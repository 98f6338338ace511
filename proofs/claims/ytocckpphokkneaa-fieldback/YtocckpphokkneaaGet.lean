/-
  What Width, has, stands, greatest and Get answer of a packet's field, as contracts.
-/
import Derived.Test.YtocckpphokkneaaBase
namespace Go.Proofs.Ytocckpphokkneaa
open Go.ChangeShapes Go.WideShapes Go.ChangeAt Go.RowKit

/-- A field's number, or one that is none. -/
theorem cls (f : Int) : f = 1 ∨ f = 2 ∨ f = 3 ∨ f = 4 ∨ f = 5 ∨ f = 6 ∨ f = 7 ∨ f = 8 ∨ f = 9 ∨ (f < 1 ∨ 9 < f) := by omega

/-- A field's bits, and the greatest number of so many. -/
def wdV (f : Int) : Int := if f = 2 then 64 else if f = 1 ∨ f = 5 ∨ f = 6 then 32 else if f = 4 ∨ f = 8 ∨ f = 9 then 16 else if f = 3 then 13 else if f = 7 then 8 else 0
def grV (f : Int) : Int := if f = 2 then 18446744073709551615 else if f = 1 ∨ f = 5 ∨ f = 6 then 4294967295 else if f = 4 ∨ f = 8 ∨ f = 9 then 65535 else if f = 3 then 8191 else if f = 7 then 255 else 0
/-- Whether there is such a field. -/
def hasB (s : Sn) (f : Int) : Bool := if 1 ≤ f ∧ f ≤ 4 then true else if 5 ≤ f ∧ f ≤ 7 then s.ty == 2048 else if f = 8 ∨ f = 9 then s.ty == 2048 && (s.pro == 6 || s.pro == 17) else false
/-- What stands there. -/
def stV (s : Sn) (f : Int) : Int := if f = 1 then s.inp % 18446744073709551616 else if f = 2 then s.mt else if f = 3 then s.vl % 18446744073709551616 else if f = 4 then s.ty % 18446744073709551616 else if f = 5 then s.src else if f = 6 then s.dst else
  if f = 7 then s.pro % 18446744073709551616 else if f = 8 then s.sp % 18446744073709551616 else if f = 9 then s.dp % 18446744073709551616 else 0
def getV (s : Sn) (f : Int) : Int := if hasB s f = true then stV s f % (grV f + 1) else 0
def getE (s : Sn) (f : Int) : Int := if hasB s f = true then 0 else 20
/-- The numbers are of their types. -/
structure Wf (s : Sn) : Prop where
  m0 : 0 ≤ s.mt
  m1 : s.mt < 18446744073709551616
  a0 : 0 ≤ s.src
  a1 : s.src < 4294967296
  b0 : 0 ≤ s.dst
  b1 : s.dst < 4294967296

theorem none_of {f : Int} (h : f < 1 ∨ 9 < f) : (f == 1) = false ∧ (f == 2) = false ∧ (f == 3) = false ∧ (f == 4) = false ∧ (f == 5) = false ∧ (f == 6) = false ∧ (f == 7) = false ∧ (f == 8) = false ∧ (f == 9) = false := by
  refine ⟨?_, ?_, ?_, ?_, ?_, ?_, ?_, ?_, ?_⟩ <;> (rw [beq_eq_false_iff_ne]; omega)
theorem wdV_none {f : Int} (h : f < 1 ∨ 9 < f) : wdV f = 0 := by unfold wdV; repeat (rw [if_neg (by omega)])
theorem grV_none {f : Int} (h : f < 1 ∨ 9 < f) : grV f = 0 := by unfold grV; repeat (rw [if_neg (by omega)])
theorem hasB_none {f : Int} (s : Sn) (h : f < 1 ∨ 9 < f) : hasB s f = false := by unfold hasB; repeat (rw [if_neg (by omega)])
theorem stV_none {f : Int} (s : Sn) (h : f < 1 ∨ 9 < f) : stV s f = 0 := by unfold stV; repeat (rw [if_neg (by omega)])

set_option maxHeartbeats 1000000 in
theorem width_any (f : Int) (w : World) : Calls Try.prog 11 #[.int .i64 f] w fun e w' => e = .returned (.int .i64 (wdV f)) ∧ w' = w := by
  rcases cls f with rfl | rfl | rfl | rfl | rfl | rfl | rfl | rfl | rfl | h
  · go_enter Try.func11, Try.ntmps11
    go_wp2
    go_ret
    exact ⟨rfl, rfl⟩
  · go_enter Try.func11, Try.ntmps11
    go_wp2
    go_ret
    exact ⟨rfl, rfl⟩
  · go_enter Try.func11, Try.ntmps11
    go_wp2
    go_ret
    exact ⟨rfl, rfl⟩
  · go_enter Try.func11, Try.ntmps11
    go_wp2
    go_ret
    exact ⟨rfl, rfl⟩
  · go_enter Try.func11, Try.ntmps11
    go_wp2
    go_ret
    exact ⟨rfl, rfl⟩
  · go_enter Try.func11, Try.ntmps11
    go_wp2
    go_ret
    exact ⟨rfl, rfl⟩
  · go_enter Try.func11, Try.ntmps11
    go_wp2
    go_ret
    exact ⟨rfl, rfl⟩
  · go_enter Try.func11, Try.ntmps11
    go_wp2
    go_ret
    exact ⟨rfl, rfl⟩
  · go_enter Try.func11, Try.ntmps11
    go_wp2
    go_ret
    exact ⟨rfl, rfl⟩
  · obtain ⟨b1, b2, b3, b4, b5, b6, b7, b8, b9⟩ := none_of h
    rw [wdV_none h]
    clear h
    go_enter Try.func11, Try.ntmps11
    go_wp2
    go_ret
    exact ⟨rfl, rfl⟩
theorem wrap_u (n : Int) : IntKind.u64.wrap n = n % 18446744073709551616 := by simp [IntKind.wrap, IntKind.bits, IntKind.signed]
theorem ret_bool {a b : Bool} (h : a = b) : Ending.returned (.bool a) = Ending.returned (.bool b) := by rw [h]
theorem ret_int {k : IntKind} {a b : Int} (h : a = b) : Ending.returned (.int k a) = Ending.returned (.int k b) := by rw [h]
theorem cls9 {f : Int} (h : ¬ (f < 1 ∨ 9 < f)) : f = 1 ∨ f = 2 ∨ f = 3 ∨ f = 4 ∨ f = 5 ∨ f = 6 ∨ f = 7 ∨ f = 8 ∨ f = 9 := by omega

set_option maxHeartbeats 2000000 in
theorem has_any (s : Sn) (f : Int) (w : World) : Calls Try.prog 22 #[pkV s, .int .i64 f] w fun e w' => e = .returned (.bool (hasB s f)) ∧ Below w.heap.size w w' := by
  by_cases h : f < 1 ∨ 9 < f
  · obtain ⟨b1, b2, b3, b4, b5, b6, b7, b8, b9⟩ := none_of h
    rw [hasB_none s h]
    clear h
    go_enter Try.func22, Try.ntmps22
    go_wp2
    go_ret
    exact ⟨rfl, by go_grown⟩
  · rcases cls9 h with rfl | rfl | rfl | rfl | rfl | rfl | rfl | rfl | rfl
    all_goals
      clear h
      go_enter Try.func22, Try.ntmps22
      go_wp2
      all_goals
        go_ret
        exact ⟨ret_bool (by simp [hasB, *]), by go_grown⟩

set_option maxHeartbeats 2000000 in
theorem stands_any (s : Sn) (f : Int) (w : World) (hw : Wf s) : Calls Try.prog 23 #[snV s, .int .i64 f] w fun e w' => e = .returned (.int .u64 (stV s f)) ∧ Below w.heap.size w w' := by
  obtain ⟨m0, m1, a0, a1, c0, c1⟩ := hw
  by_cases h : f < 1 ∨ 9 < f
  · obtain ⟨b1, b2, b3, b4, b5, b6, b7, b8, b9⟩ := none_of h
    rw [stV_none s h]
    clear h
    go_enter Try.func23, Try.ntmps23
    go_wp2
    go_ret
    exact ⟨rfl, by go_grown⟩
  · rcases cls9 h with rfl | rfl | rfl | rfl | rfl | rfl | rfl | rfl | rfl
    all_goals
      clear h
      go_enter Try.func23, Try.ntmps23
      go_wp2
      all_goals
        go_ret
        exact ⟨ret_int (by simp [stV, wrap_u, *]), by go_grown⟩
set_option maxHeartbeats 2000000 in
theorem greatest_any (f : Int) (w : World) : Calls Try.prog 24 #[.int .i64 f] w fun e w' => e = .returned (.int .u64 (grV f)) ∧ w' = w := by
  by_cases h : f < 1 ∨ 9 < f
  · have hw := width_any f
    rw [wdV_none h] at hw
    rw [grV_none h]
    clear h
    go_enter Try.func24, Try.ntmps24
    go_wp2_with fail
    refine (hw _).mono ?_
    rintro x w1 ⟨rfl, rfl⟩
    go_wp2_with fail
    go_ret
    exact ⟨rfl, rfl⟩
  · rcases cls9 h with rfl | rfl | rfl | rfl | rfl | rfl | rfl | rfl | rfl
    all_goals
      clear h
      go_enter Try.func24, Try.ntmps24
      go_wp2_with fail
      refine (width_any _ _).mono ?_
      rintro x w1 ⟨rfl, rfl⟩
      simp only [show wdV 1 = 32 from rfl, show wdV 2 = 64 from rfl, show wdV 3 = 13 from rfl, show wdV 4 = 16 from rfl, show wdV 5 = 32 from rfl, show wdV 6 = 32 from rfl, show wdV 7 = 8 from rfl, show wdV 8 = 16 from rfl, show wdV 9 = 16 from rfl]
      go_wp2_with fail
      go_ret
      exact ⟨rfl, rfl⟩

theorem wraps_u64 (n : Int) (h₀ : 0 ≤ n) (h₁ : n < 2 ^ 64) : IntKind.u64.wrap n = n := by rw [wrap_u]; omega
theorem and_u (j : Nat) (hj : j ≤ 64) (a : Int) (h0 : 0 ≤ a) (h1 : a < 2 ^ 64) : bits .and .u64 a (2 ^ j - 1) = a % 2 ^ j := bits_mask .u64 64 (by decide) wraps_u64 j hj a h0 h1
/-- The lowest bits of what stands in a field. -/
theorem and_gr (f a : Int) (hf : ¬ (f < 1 ∨ 9 < f)) (h0 : 0 ≤ a) (h1 : a < 18446744073709551616) : bits .and .u64 a (grV f) = a % (grV f + 1) := by
  rcases cls9 hf with rfl | rfl | rfl | rfl | rfl | rfl | rfl | rfl | rfl
  · exact and_u 32 (by decide) a h0 h1
  · exact and_u 64 (by decide) a h0 h1
  · exact and_u 13 (by decide) a h0 h1
  · exact and_u 16 (by decide) a h0 h1
  · exact and_u 32 (by decide) a h0 h1
  · exact and_u 32 (by decide) a h0 h1
  · exact and_u 8 (by decide) a h0 h1
  · exact and_u 16 (by decide) a h0 h1
  · exact and_u 16 (by decide) a h0 h1
theorem stV_lt (s : Sn) (f : Int) (hw : Wf s) : 0 ≤ stV s f ∧ stV s f < 18446744073709551616 := by
  obtain ⟨m0, m1, a0, a1, c0, c1⟩ := hw
  unfold stV
  repeat' split
  all_goals omega
theorem has_field {s : Sn} {f : Int} (h : hasB s f = true) : ¬ (f < 1 ∨ 9 < f) := fun x => by rw [hasB_none s x] at h; cases h

set_option maxHeartbeats 1000000 in
theorem get_any (s : Sn) (f : Int) (w : World) (hw : Wf s) : Calls Try.prog 8 #[snV s, .int .i64 f] w fun e w' => e = .returned (.tuple #[.int .u64 (getV s f), .int .i64 (getE s f)]) ∧ Below w.heap.size w w' := by
  have HH : Hid (∀ w, Calls Try.prog 22 #[pkV s, .int .i64 f] w fun e w' => e = .returned (.bool (hasB s f)) ∧ Below w.heap.size w w') := fun w => has_any s f w
  have HS : Hid (∀ w, Calls Try.prog 23 #[snV s, .int .i64 f] w fun e w' => e = .returned (.int .u64 (stV s f)) ∧ Below w.heap.size w w') := fun w => stands_any s f w hw
  have HG : Hid (∀ w, Calls Try.prog 24 #[.int .i64 f] w fun e w' => e = .returned (.int .u64 (grV f)) ∧ w' = w) := fun w => greatest_any f w
  obtain ⟨t0, t1⟩ := stV_lt s f hw
  unfold getV getE
  cases hb : hasB s f with
  | false =>
    rw [hb] at HH
    rw [if_neg (by simp), if_neg (by simp)]
    clear HS HG t0 t1 hb hw
    go_enter Try.func8, Try.ntmps8
    go_wp2_with fail
    refine (HH.out _).mono ?_
    rintro x w1 ⟨rfl, g1⟩
    go_wp2_with fail
    go_ret2
    exact ⟨rfl, btr (by go_grown) g1 (by simp)⟩
  | true =>
    rw [hb] at HH
    have ha := and_gr f _ (has_field hb) t0 t1
    rw [if_pos rfl, if_pos rfl, ← ha]
    clear hb hw ha
    generalize stV s f = x at *
    generalize grV f = y at *
    go_enter Try.func8, Try.ntmps8
    go_wp2_with fail
    refine (HH.out _).mono ?_
    rintro x w1 ⟨rfl, g1⟩
    have hc := (Bx.new w s).below (by simp) g1
    obtain ⟨h0, h1, h2, h3, h4, h5, h6, h7, h8, h9, h10, h11, h12⟩ := hc
    go_wp2_with fail
    refine (HS.out _).mono ?_
    rintro x w2 ⟨rfl, g2⟩
    go_wp2_with fail
    refine (HG.out _).mono ?_
    rintro x w3 ⟨rfl, rfl⟩
    go_wp2_with fail
    go_ret2
    exact ⟨rfl, btr (btr (by go_grown) g1 (by simp)) g2 (Nat.le_refl _)⟩
end Go.Proofs.Ytocckpphokkneaa

/-
  The document's Has, low and Get: what they answer, as contracts.
-/
import Derived.Test.YtjjfhibkcngphaaGreatDoorMGet
import Derived.Test.YtjjfhibkcngphaaGreatDoorMRefR
namespace Go.Proofs.YtjjfhibkcngphaaGreatDoor.Mt
open Go.ChangeShapes Go.WideShapes Go.ChangeAt Go.RowKit

set_option maxHeartbeats 1000000 in
theorem plain_any (s : Sn) (w : World) : Calls Tryz.prog 17 #[snV s] w fun e w' => e = .returned (snV s) ∧ Below w.heap.size w w' := by
  go_enter Tryz.func17, Tryz.ntmps17
  go_wp2
  refine bodyPost_ret (res32 (b := w.heap.size + 1) (s := s) rfl rfl (by unfold Bx; simp)) rfl ?_
  exact ⟨rfl, by go_grown⟩

set_option maxHeartbeats 2000000 in
theorem rhas_any (s : Sn) (f : Int) (w : World) : Calls Tryz.prog 67 #[snV s, .int .i64 f] w fun e w' => e = .returned (.bool (hasB s f)) ∧ Below w.heap.size w w' := by
  by_cases h : f < 1 ∨ 9 < f
  · rw [hasB_none s h]
    rcases h with h | h
    · go_enter Tryz.func67, Tryz.ntmps67
      go_wp2
      go_ret
      exact ⟨rfl, by go_grown⟩
    · go_enter Tryz.func67, Tryz.ntmps67
      go_wp2
      go_ret
      exact ⟨rfl, by go_grown⟩
  · rcases cls9 h with rfl | rfl | rfl | rfl | rfl | rfl | rfl | rfl | rfl
    all_goals
      clear h
      go_enter Tryz.func67, Tryz.ntmps67
      go_wp2
      all_goals
        go_ret
        exact ⟨ret_bool (by simp_all [hasB]), by go_grown⟩

set_option maxHeartbeats 2000000 in
theorem rlow_any (f v : Int) (w : World) (hf : ¬ (f < 1 ∨ 9 < f)) (h0 : 0 ≤ v) (h1 : v < 18446744073709551616) : Calls Tryz.prog 68 #[.int .u64 v, .int .i64 (wdV f)] w fun e w' => e = .returned (.int .u64 (v % (grV f + 1))) ∧ w' = w := by
  have ha := and_gr f v hf h0 h1
  by_cases h2 : f = 2
  · subst h2
    have e : v % (grV 2 + 1) = v := by simp only [show grV 2 = 18446744073709551615 from rfl]; omega
    rw [e]
    clear ha hf
    simp only [show wdV 2 = 64 from rfl]
    go_enter Tryz.func68, Tryz.ntmps68
    go_wp2
    go_ret
    exact ⟨rfl, rfl⟩
  · rw [← ha]
    rcases cls9 hf with rfl | rfl | rfl | rfl | rfl | rfl | rfl | rfl | rfl
    case inr.inl => exact absurd rfl h2
    all_goals
      clear hf ha h2
      simp only [show wdV 1 = 32 from rfl, show wdV 3 = 13 from rfl, show wdV 4 = 16 from rfl, show wdV 5 = 32 from rfl, show wdV 6 = 32 from rfl, show wdV 7 = 8 from rfl, show wdV 8 = 16 from rfl, show wdV 9 = 16 from rfl]
      go_enter Tryz.func68, Tryz.ntmps68
      go_wp2
      go_ret
      exact ⟨rfl, rfl⟩
set_option maxHeartbeats 1000000 in
theorem rget_no (s : Sn) (f : Int) (w : World) (hb : hasB s f = false) : Calls Tryz.prog 49 #[snV s, .int .i64 f] w fun e w' => e = .returned (.tuple #[.int .u64 0, .int .i64 20]) ∧ Below w.heap.size w w' := by
  have HH : Hid (∀ w, Calls Tryz.prog 67 #[snV s, .int .i64 f] w fun e w' => e = .returned (.bool false) ∧ Below w.heap.size w w') := fun w => hb ▸ rhas_any s f w
  go_enter Tryz.func49, Tryz.ntmps49
  go_wp2_with fail
  refine (HH.out _).mono ?_
  rintro x w1 ⟨rfl, g1⟩
  go_wp2_with fail
  go_ret2
  exact ⟨rfl, btr (by go_grown) g1 (by simp)⟩

/-- What stands in the fields, as the document's row has it. -/
abbrev row (s : Sn) : Array Value := #[.int .u64 (IntKind.u64.wrap s.inp), .int .u64 s.mt, .int .u64 (IntKind.u64.wrap s.vl), .int .u64 (IntKind.u64.wrap s.ty), .int .u64 (IntKind.u64.wrap s.src), .int .u64 (IntKind.u64.wrap s.dst), .int .u64 (IntKind.u64.wrap s.pro), .int .u64 (IntKind.u64.wrap s.sp), .int .u64 (IntKind.u64.wrap s.dp)]
theorem row_at (s : Sn) (f : Int) (hw : Wf s) (hf : ¬ (f < 1 ∨ 9 < f)) : (row s)[f.toNat - 1]? = some (.int .u64 (stV s f)) := by
  obtain ⟨m0, m1, a0, a1, c0, c1⟩ := hw
  rcases cls9 hf with rfl | rfl | rfl | rfl | rfl | rfl | rfl | rfl | rfl
  all_goals simp [stV, wrap_u]
  all_goals omega
set_option maxHeartbeats 2000000 in
theorem rget_yes (s : Sn) (f k v r : Int) (w : World) (f1 : 1 ≤ f) (f9 : f ≤ 9) (hv : (row s)[f.toNat - 1]? = some (.int .u64 v))
    (HH : Hid (∀ w, Calls Tryz.prog 67 #[snV s, .int .i64 f] w fun e w' => e = .returned (.bool true) ∧ Below w.heap.size w w'))
    (HW : Hid (∀ w, Calls Tryz.prog 60 #[.int .i64 f] w fun e w' => e = .returned (.int .i64 k) ∧ Below w.heap.size w w'))
    (HL : Hid (∀ w, Calls Tryz.prog 68 #[.int .u64 v, .int .i64 k] w fun e w' => e = .returned (.int .u64 r) ∧ w' = w)) :
    Calls Tryz.prog 49 #[snV s, .int .i64 f] w fun e w' => e = .returned (.tuple #[.int .u64 r, .int .i64 0]) ∧ Below w.heap.size w w' := by
  have HV : Hid ((row s)[f.toNat - 1]? = some (.int .u64 v)) := hv
  clear hv
  go_enter Tryz.func49, Tryz.ntmps49
  go_wp2_with fail
  refine (HH.out _).mono ?_
  rintro x w1 ⟨rfl, g1⟩
  have hc := (Bx.newr w s).below (by simp) g1
  obtain ⟨h0, h1, h2, h3, h4, h5, h6, h7, h8, h9, h10, h11, h12⟩ := hc
  go_wp2_with fail
  clear h0 h1 h2 h3 h4 h5 h6 h7 h8 h9 h10 h11 h12
  have hc : ∀ n : GrT (w1.alloc (.cells (row s) 23)), n.w.cell? ⟨w1.heap.size, f.toNat - 1, none⟩ = some (.int .u64 v) := fun n => (n.h.cell (by simp)).trans (by have := HV.out; simpa using this)
  refine wp_region_grow (by kernel_rfl) (by kernel_rfl) ?_
  repeat (go_big_quiet_step (first | (go_at_call 60; exact quiet_gr (HW.out _)) | (go_at_call 68; exact quiet_gs (HL.out _))))
  refine wpQuiet_nil ?_
  rintro w2 hw'
  have g2 := gr_elim hw'
  clear hw'
  go_wp2_with fail
  go_ret2
  exact ⟨rfl, btr (btr (btr (by go_grown) g1 (by simp)) (by go_grown) (Nat.le_refl _)) g2 (Nat.le_refl _)⟩
theorem rget_any (s : Sn) (f : Int) (w : World) (hw : Wf s) : Calls Tryz.prog 49 #[snV s, .int .i64 f] w fun e w' => e = .returned (.tuple #[.int .u64 (getV s f), .int .i64 (getE s f)]) ∧ Below w.heap.size w w' := by
  unfold getV getE
  cases hb : hasB s f with
  | false => exact rget_no s f w hb
  | true =>
    have hf := has_field hb
    obtain ⟨t0, t1⟩ := stV_lt s f hw
    exact rget_yes s f (wdV f) (stV s f) (stV s f % (grV f + 1)) w (by omega) (by omega) (row_at s f hw hf) (fun w => hb ▸ rhas_any s f w) (fun w => rwidth_any f w) (fun w => rlow_any f _ w hf t0 t1)
end Go.Proofs.YtjjfhibkcngphaaGreatDoor.Mt

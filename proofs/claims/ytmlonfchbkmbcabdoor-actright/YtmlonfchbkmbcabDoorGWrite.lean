/-
  What the program's writers of a packet answer, as contracts: its bytes; what was there stays.
-/
import Derived.Test.YtmlonfchbkmbcabDoorGRight
namespace Go.Proofs.YtmlonfchbkmbcabDoor.Fr
open Go.ChangeShapes Go.WideShapes Go.ChangeAt Go.RowKit

set_option maxHeartbeats 400000 in
theorem addresses_any (p : Pk) (w : World) (h : Ok p) :
    Calls Tryd.prog 53 #[pkV p] w fun x w' => x = .returned (.string (addrV p)) ∧ Below w.heap.size w w' := by
  have hz : ∀ n k, (pb n k).size = k := pb_size
  obtain ⟨_, _, _, _, _, _, _, _, s0, s1, d0, d1, _⟩ := h
  go_enter Tryd.func53, Tryd.ntmps53
  go_wp2
  have hc : ∀ n : GrT (bx w p), Bx n.w w.heap.size p := fun n => (Bx.new w p).below (by simp) n.h
  refine wp_region_grow (by kernel_rfl) (by kernel_rfl) ?_
  repeat (go_big_quiet_step (first | (go_at_call 33; exact quiet_gr (put4 _ _ (by assumption) (by assumption)))))
  refine wpQuiet_nil ?_
  rintro w1 hw'
  have g1 := gr_elim hw'
  clear hw'
  go_wp2
  go_ret
  exact ⟨rfl, btr (by go_grown) g1 (by simp)⟩

set_option maxHeartbeats 400000 in
theorem ports_any (p : Pk) (w : World) (h : Ok p) :
    Calls Tryd.prog 54 #[pkV p] w fun x w' => x = .returned (.string (portsV p)) ∧ Below w.heap.size w w' := by
  have hz : ∀ n k, (pb n k).size = k := pb_size
  obtain ⟨_, _, _, _, _, _, _, _, _, _, _, _, _, _, _, _, s0, s1, d0, d1, _⟩ := h
  go_enter Tryd.func54, Tryd.ntmps54
  go_wp2
  have hc : ∀ n : GrT (bx w p), Bx n.w w.heap.size p := fun n => (Bx.new w p).below (by simp) n.h
  refine wp_region_grow (by kernel_rfl) (by kernel_rfl) ?_
  repeat (go_big_quiet_step (first | (go_at_call 34; exact quiet_gr (two_any _ _ (by omega) (by omega)))))
  refine wpQuiet_nil ?_
  rintro w1 hw'
  have g1 := gr_elim hw'
  clear hw'
  go_wp2
  go_ret
  exact ⟨rfl, btr (by go_grown) g1 (by simp)⟩

set_option maxHeartbeats 1000000 in
theorem head_any (p : Pk) (c : Int) (w : World) (h : Ok p) (c0 : 0 ≤ c) (c1 : c ≤ 65535) :
    Calls Tryd.prog 35 #[pkV p, .int .i64 c] w fun x w' => x = .returned (.string (headV p c)) ∧ Below w.heap.size w w' := by
  have hz : ∀ n k, (pb n k).size = k := pb_size
  have ha := addrV_size p
  have HO : Hid (Ok p) := h
  have hl0 := h.life0
  have hl1 := h.life1
  have hp0 := h.pro0
  have hp1 := h.pro1
  have hq : (partZ p : Int) ≤ 3020 := by have := h.sz; have := partA_le p; unfold partZ; omega
  clear h
  go_enter Tryd.func35, Tryd.ntmps35
  go_wp2
  have hc : ∀ n : GrT (bx w p), Bx n.w w.heap.size p := fun n => (Bx.new w p).below (by simp) n.h
  refine wp_region_grow (by kernel_rfl) (by kernel_rfl) ?_
  repeat (go_big_quiet_step (first
    | (go_at_call 51; exact quiet_gr (partSize_any p _ HO.out.sz))
    | (go_at_call 34; exact quiet_gr (two_any _ _ (by omega) (by omega)))
    | (go_at_call 52; exact quiet_gr (one_any _ _ (by omega) (by omega)))
    | (go_at_call 53; exact quiet_gr (addresses_any p _ HO.out))))
  refine wpQuiet_nil ?_
  rintro w1 hw'
  have g1 := gr_elim hw'
  clear hw'
  go_wp2
  go_ret
  exact ⟨rfl, btr (by go_grown) g1 (by simp)⟩

set_option maxHeartbeats 1000000 in
theorem part_any (p : Pk) (c : Int) (w : World) (h : Ok p) (c0 : 0 ≤ c) (c1 : c ≤ 65535) :
    Calls Tryd.prog 36 #[pkV p, .int .i64 c] w fun x w' => x = .returned (.string (partV p c)) ∧ Below w.heap.size w w' := by
  have hz : ∀ n k, (pb n k).size = k := pb_size
  have ha := portsV_size p
  have hd : (p.data.size : Int) ≤ 3000 := by have := h.sz; omega
  have HO : Hid (Ok p) := h
  have hq : (partZ p : Int) ≤ 3020 := by have := h.sz; have := partA_le p; unfold partZ; omega
  clear h
  unfold partV
  by_cases h6 : p.pro = 6
  · have b6 : (p.pro == 6) = true := by simp [h6]
    rw [if_pos h6]
    clear h6
    go_enter Tryd.func36, Tryd.ntmps36
    go_wp2_with fail
    have hc : ∀ n : GrT (bx w p), Bx n.w w.heap.size p := fun n => (Bx.new w p).below (by simp) n.h
    refine wp_region_grow (by kernel_rfl) (by kernel_rfl) ?_
    repeat (go_big_quiet_step (first
      | (go_at_call 54; exact quiet_gr (ports_any p _ HO.out))
      | (go_at_call 34; exact quiet_gr (two_any _ _ (by omega) (by omega)))))
    refine wpQuiet_nil ?_
    rintro w1 hw'
    have g1 := gr_elim hw'
    clear hw'
    go_wp2
    go_ret
    exact ⟨rfl, btr (by go_grown) g1 (by simp)⟩
  have b6 : (p.pro == 6) = false := by simp [h6]
  rw [if_neg h6]
  clear h6
  by_cases h17 : p.pro = 17
  · have b17 : (p.pro == 17) = true := by simp [h17]
    rw [if_pos h17]
    clear h17
    go_enter Tryd.func36, Tryd.ntmps36
    go_wp2_with fail
    have hc : ∀ n : GrT (bx w p), Bx n.w w.heap.size p := fun n => (Bx.new w p).below (by simp) n.h
    refine wp_region_grow (by kernel_rfl) (by kernel_rfl) ?_
    repeat (go_big_quiet_step (first
      | (go_at_call 54; exact quiet_gr (ports_any p _ HO.out))
      | (go_at_call 51; exact quiet_gr (partSize_any p _ HO.out.sz))
      | (go_at_call 34; exact quiet_gr (two_any _ _ (by omega) (by omega)))))
    refine wpQuiet_nil ?_
    rintro w1 hw'
    have g1 := gr_elim hw'
    clear hw'
    go_wp2
    go_ret
    exact ⟨rfl, btr (by go_grown) g1 (by simp)⟩
  · have b17 : (p.pro == 17) = false := by simp [h17]
    rw [if_neg h17]
    clear h17
    go_enter Tryd.func36, Tryd.ntmps36
    go_wp2
    go_ret
    exact ⟨rfl, by go_grown⟩

set_option maxHeartbeats 1000000 in
theorem partSum_any (p : Pk) (w : World) (h : Ok p) :
    Calls Tryd.prog 38 #[pkV p] w fun x w' => x = .returned (.int .i64 (partSumV p)) ∧ Below w.heap.size w w' := by
  have hz : ∀ n k, (pb n k).size = k := pb_size
  have ha := addrV_size p
  have hpv := partV_size p 0
  have HO : Hid (Ok p) := h
  have hp0 := h.pro0
  have hp1 := h.pro1
  have hq : (partZ p : Int) ≤ 3020 := by have := h.sz; have := partA_le p; unfold partZ; omega
  have HQ : Hid ((pseudoV p).size ≤ 1000000) := by unfold Hid; rw [pseudoV_size]; omega
  clear h
  unfold partSumV
  cases hh : hasB p
  · go_enter Tryd.func38, Tryd.ntmps38
    go_wp2_with fail
    refine (hasPorts_any p _).mono ?_
    rintro x w1 ⟨rfl, g1⟩
    go_wp2_with fail
    go_ret
    exact ⟨rfl, btr (by go_grown) g1 (by simp)⟩
  · rw [if_pos rfl]
    unfold fixV
    have HS : ∀ w, Calls Tryd.prog 37 #[.string (addrV p ++ pb p.pro 2 ++ pb (partZ p : Int) 2 ++ partV p 0)] w fun x w' => x = .returned (.int .i64 (sumV (pseudoV p).data.toList)) ∧ w' = w := fun w => sum_any (pseudoV p) w HQ.out
    have hN := sumV_le (pseudoV p).data.toList
    generalize sumV (pseudoV p).data.toList = N at HS hN ⊢
    have hS : Hid (∀ w, Calls Tryd.prog 37 #[.string (addrV p ++ pb p.pro 2 ++ pb (partZ p : Int) 2 ++ partV p 0)] w fun x w' => x = .returned (.int .i64 N) ∧ w' = w) := HS
    clear HS
    go_enter Tryd.func38, Tryd.ntmps38
    go_wp2_with fail
    refine (hasPorts_any p _).mono ?_
    rintro x w1 ⟨rfl, g1⟩
    have hb := (Bx.new w p).below (by simp) g1
    go_wp2_with fail
    have hc : ∀ n : GrT w1, Bx n.w w.heap.size p := fun n => hb.below (Nat.lt_of_lt_of_le (by simp) g1.size) n.h
    refine wp_region_grow (by kernel_rfl) (by kernel_rfl) ?_
    repeat (go_big_quiet_step (first
      | (go_at_call 53; exact quiet_gr (addresses_any p _ HO.out))
      | (go_at_call 51; exact quiet_gr (partSize_any p _ HO.out.sz))
      | (go_at_call 36; exact quiet_gr (part_any p 0 _ HO.out (by omega) (by omega)))
      | (go_at_call 37; exact quiet_gs (hS.out _))
      | (go_at_call 34; exact quiet_gr (two_any _ _ (by omega) (by omega)))))
    refine wpQuiet_nil ?_
    rintro w2 hw'
    have g2 := gr_elim hw'
    clear hw'
    have hb2 : Bx w2 w.heap.size p := hc (some ⟨_, g2⟩)
    obtain ⟨h0, h1, h2, h3, h4, h5, h6, h7, h8, h9, h10⟩ := hb2
    clear hc
    clear hz ha hpv
    go_wp2
    all_goals
      go_ret
      exact ⟨ret_int (by simp_all), btr (btr (by go_grown) g1 (by simp)) g2 (by simp)⟩
end Go.Proofs.YtmlonfchbkmbcabDoor.Fr

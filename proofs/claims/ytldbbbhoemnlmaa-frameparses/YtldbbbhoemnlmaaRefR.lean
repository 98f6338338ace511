/-
  What the document's own 'Right' answers: as the program's.
-/
import Derived.Test.YtldbbbhoemnlmaaRefA
namespace Go.Proofs.Ytldbbbhoemnlmaa
open Go.ChangeShapes Go.WideShapes Go.ChangeAt Go.RowKit

theorem no_in {n : Int} (h : inB n 0 65535 = false) (k : Int) (hk : k ≤ 65535) : inB n 0 k = false := by
  cases e : inB n 0 k
  · rfl
  · rw [inB_iff] at e
    have : inB n 0 65535 = true := inB_iff.2 ⟨e.1, by omega⟩
    rw [this] at h; cases h
theorem in_zero (n : Int) : inB n 0 0 = (n == 0) := by
  rw [Bool.eq_iff_iff, inB_iff, beq_iff_eq]; omega

set_option maxHeartbeats 2000000 in
theorem rright_plain (p : Pk) (w : World) (hA : decide (0 < p.to / 281474976710656) = false) (hB : decide (0 < p.fr / 281474976710656) = false) (hC : (p.vl != 0) = false) :
    Calls Try.prog 18 #[pkV p] w fun x w' => x = .returned (.bool (inB p.ty 1536 65535 && p.ty != 33024 && insideB p)) ∧ Below w.heap.size w w' := by
  cases hD : inB p.ty 1536 65535
  · go_enter Try.func18, Try.ntmps18
    go_wp2_with (first | (go_at_call 32; refine (rin_any _ _ _ _).mono ?_; rintro x w2 ⟨rfl, rfl⟩) | (go_at_call 33; refine (rported_any p _).mono ?_; rintro x w2 ⟨rfl, g2⟩; have B2 := (Bx.new w p).below (by simp) g2; obtain ⟨h0, h1, h2, h3, h4, h5, h6, h7, h8, h9, h10⟩ := B2))
    all_goals
      go_ret
      exact ⟨ret_bool (by simp [*]), by go_grown⟩
  cases hE : (p.ty == 33024)
  case true =>
    have hE' : (p.ty != 33024) = false := by simp [bne, hE]
    go_enter Try.func18, Try.ntmps18
    go_wp2_with (first | (go_at_call 32; refine (rin_any _ _ _ _).mono ?_; rintro x w2 ⟨rfl, rfl⟩) | (go_at_call 33; refine (rported_any p _).mono ?_; rintro x w2 ⟨rfl, g2⟩; have B2 := (Bx.new w p).below (by simp) g2; obtain ⟨h0, h1, h2, h3, h4, h5, h6, h7, h8, h9, h10⟩ := B2))
    all_goals
      go_ret
      exact ⟨ret_bool (by simp [*]), by go_grown⟩
  have hE' : (p.ty != 33024) = true := by simp [bne, hE]
  by_cases hT : p.ty = 2048
  · have bT : (p.ty != 2048) = false := by simp [hT]
    have eI : insideB p = (inB p.life 0 255 && inB p.pro 0 255 && inB p.sp 0 (if hasB p then 65535 else 0) && inB p.dp 0 (if hasB p then 65535 else 0)) := by unfold insideB; rw [if_pos hT]
    rw [eI]
    clear hT eI
    cases hl : inB p.life 0 255
    · go_enter Try.func18, Try.ntmps18
      go_wp2_with (first | (go_at_call 32; refine (rin_any _ _ _ _).mono ?_; rintro x w2 ⟨rfl, rfl⟩) | (go_at_call 33; refine (rported_any p _).mono ?_; rintro x w2 ⟨rfl, g2⟩; have B2 := (Bx.new w p).below (by simp) g2; obtain ⟨h0, h1, h2, h3, h4, h5, h6, h7, h8, h9, h10⟩ := B2))
      all_goals
        go_ret
        exact ⟨ret_bool (by simp [*]), by go_grown⟩
    cases hp : inB p.pro 0 255
    · go_enter Try.func18, Try.ntmps18
      go_wp2_with (first | (go_at_call 32; refine (rin_any _ _ _ _).mono ?_; rintro x w2 ⟨rfl, rfl⟩) | (go_at_call 33; refine (rported_any p _).mono ?_; rintro x w2 ⟨rfl, g2⟩; have B2 := (Bx.new w p).below (by simp) g2; obtain ⟨h0, h1, h2, h3, h4, h5, h6, h7, h8, h9, h10⟩ := B2))
      all_goals
        go_ret
        exact ⟨ret_bool (by simp [*]), by go_grown⟩
    cases hs : inB p.sp 0 65535
    · have q := no_in hs (if hasB p = true then 65535 else 0) (by split <;> omega)
      rw [q]
      clear q
      go_enter Try.func18, Try.ntmps18
      go_wp2_with (first | (go_at_call 32; refine (rin_any _ _ _ _).mono ?_; rintro x w2 ⟨rfl, rfl⟩) | (go_at_call 33; refine (rported_any p _).mono ?_; rintro x w2 ⟨rfl, g2⟩; have B2 := (Bx.new w p).below (by simp) g2; obtain ⟨h0, h1, h2, h3, h4, h5, h6, h7, h8, h9, h10⟩ := B2))
      all_goals
        go_ret
        exact ⟨ret_bool (by simp [*]), by go_grown⟩
    cases hd : inB p.dp 0 65535
    · have q := no_in hd (if hasB p = true then 65535 else 0) (by split <;> omega)
      rw [q]
      clear q
      go_enter Try.func18, Try.ntmps18
      go_wp2_with (first | (go_at_call 32; refine (rin_any _ _ _ _).mono ?_; rintro x w2 ⟨rfl, rfl⟩) | (go_at_call 33; refine (rported_any p _).mono ?_; rintro x w2 ⟨rfl, g2⟩; have B2 := (Bx.new w p).below (by simp) g2; obtain ⟨h0, h1, h2, h3, h4, h5, h6, h7, h8, h9, h10⟩ := B2))
      all_goals
        go_ret
        exact ⟨ret_bool (by simp [*]), by go_grown⟩
    cases hh : hasB p
    · rw [if_neg (by simp), in_zero, in_zero]
      go_enter Try.func18, Try.ntmps18
      go_wp2_with (first | (go_at_call 32; refine (rin_any _ _ _ _).mono ?_; rintro x w2 ⟨rfl, rfl⟩) | (go_at_call 33; refine (rported_any p _).mono ?_; rintro x w2 ⟨rfl, g2⟩; have B2 := (Bx.new w p).below (by simp) g2; obtain ⟨h0, h1, h2, h3, h4, h5, h6, h7, h8, h9, h10⟩ := B2))
      all_goals
        go_ret
        exact ⟨ret_bool (by simp [*]), btr (by go_grown) g2 (by simp)⟩
    · rw [if_pos rfl, hs, hd]
      go_enter Try.func18, Try.ntmps18
      go_wp2_with (first | (go_at_call 32; refine (rin_any _ _ _ _).mono ?_; rintro x w2 ⟨rfl, rfl⟩) | (go_at_call 33; refine (rported_any p _).mono ?_; rintro x w2 ⟨rfl, g2⟩; have B2 := (Bx.new w p).below (by simp) g2; obtain ⟨h0, h1, h2, h3, h4, h5, h6, h7, h8, h9, h10⟩ := B2))
      all_goals
        go_ret
        exact ⟨ret_bool (by simp [*]), btr (by go_grown) g2 (by simp)⟩
  · have bT : (p.ty != 2048) = true := by simp [hT]
    have eI : insideB p = (p.src == 0 && p.dst == 0 && p.life == 0 && p.pro == 0 && p.sp == 0 && p.dp == 0) := by unfold insideB; rw [if_neg hT]
    rw [eI]
    clear hT eI
    go_enter Try.func18, Try.ntmps18
    go_wp2_with (first | (go_at_call 32; refine (rin_any _ _ _ _).mono ?_; rintro x w2 ⟨rfl, rfl⟩) | (go_at_call 33; refine (rported_any p _).mono ?_; rintro x w2 ⟨rfl, g2⟩; have B2 := (Bx.new w p).below (by simp) g2; obtain ⟨h0, h1, h2, h3, h4, h5, h6, h7, h8, h9, h10⟩ := B2))
    all_goals
      go_ret
      exact ⟨ret_bool (by simp [*]), by go_grown⟩

set_option maxHeartbeats 2000000 in
theorem rright_tag (p : Pk) (w : World) (hA : decide (0 < p.to / 281474976710656) = false) (hB : decide (0 < p.fr / 281474976710656) = false) (hC : (p.vl != 0) = true) (hV : inB p.vl 4096 8191 = true) :
    Calls Try.prog 18 #[pkV p] w fun x w' => x = .returned (.bool (inB p.ty 1536 65535 && p.ty != 33024 && insideB p)) ∧ Below w.heap.size w w' := by
  cases hD : inB p.ty 1536 65535
  · go_enter Try.func18, Try.ntmps18
    go_wp2_with (first | (go_at_call 32; refine (rin_any _ _ _ _).mono ?_; rintro x w2 ⟨rfl, rfl⟩) | (go_at_call 33; refine (rported_any p _).mono ?_; rintro x w2 ⟨rfl, g2⟩; have B2 := (Bx.new w p).below (by simp) g2; obtain ⟨h0, h1, h2, h3, h4, h5, h6, h7, h8, h9, h10⟩ := B2))
    all_goals
      go_ret
      exact ⟨ret_bool (by simp [*]), by go_grown⟩
  cases hE : (p.ty == 33024)
  case true =>
    have hE' : (p.ty != 33024) = false := by simp [bne, hE]
    go_enter Try.func18, Try.ntmps18
    go_wp2_with (first | (go_at_call 32; refine (rin_any _ _ _ _).mono ?_; rintro x w2 ⟨rfl, rfl⟩) | (go_at_call 33; refine (rported_any p _).mono ?_; rintro x w2 ⟨rfl, g2⟩; have B2 := (Bx.new w p).below (by simp) g2; obtain ⟨h0, h1, h2, h3, h4, h5, h6, h7, h8, h9, h10⟩ := B2))
    all_goals
      go_ret
      exact ⟨ret_bool (by simp [*]), by go_grown⟩
  have hE' : (p.ty != 33024) = true := by simp [bne, hE]
  by_cases hT : p.ty = 2048
  · have bT : (p.ty != 2048) = false := by simp [hT]
    have eI : insideB p = (inB p.life 0 255 && inB p.pro 0 255 && inB p.sp 0 (if hasB p then 65535 else 0) && inB p.dp 0 (if hasB p then 65535 else 0)) := by unfold insideB; rw [if_pos hT]
    rw [eI]
    clear hT eI
    cases hl : inB p.life 0 255
    · go_enter Try.func18, Try.ntmps18
      go_wp2_with (first | (go_at_call 32; refine (rin_any _ _ _ _).mono ?_; rintro x w2 ⟨rfl, rfl⟩) | (go_at_call 33; refine (rported_any p _).mono ?_; rintro x w2 ⟨rfl, g2⟩; have B2 := (Bx.new w p).below (by simp) g2; obtain ⟨h0, h1, h2, h3, h4, h5, h6, h7, h8, h9, h10⟩ := B2))
      all_goals
        go_ret
        exact ⟨ret_bool (by simp [*]), by go_grown⟩
    cases hp : inB p.pro 0 255
    · go_enter Try.func18, Try.ntmps18
      go_wp2_with (first | (go_at_call 32; refine (rin_any _ _ _ _).mono ?_; rintro x w2 ⟨rfl, rfl⟩) | (go_at_call 33; refine (rported_any p _).mono ?_; rintro x w2 ⟨rfl, g2⟩; have B2 := (Bx.new w p).below (by simp) g2; obtain ⟨h0, h1, h2, h3, h4, h5, h6, h7, h8, h9, h10⟩ := B2))
      all_goals
        go_ret
        exact ⟨ret_bool (by simp [*]), by go_grown⟩
    cases hs : inB p.sp 0 65535
    · have q := no_in hs (if hasB p = true then 65535 else 0) (by split <;> omega)
      rw [q]
      clear q
      go_enter Try.func18, Try.ntmps18
      go_wp2_with (first | (go_at_call 32; refine (rin_any _ _ _ _).mono ?_; rintro x w2 ⟨rfl, rfl⟩) | (go_at_call 33; refine (rported_any p _).mono ?_; rintro x w2 ⟨rfl, g2⟩; have B2 := (Bx.new w p).below (by simp) g2; obtain ⟨h0, h1, h2, h3, h4, h5, h6, h7, h8, h9, h10⟩ := B2))
      all_goals
        go_ret
        exact ⟨ret_bool (by simp [*]), by go_grown⟩
    cases hd : inB p.dp 0 65535
    · have q := no_in hd (if hasB p = true then 65535 else 0) (by split <;> omega)
      rw [q]
      clear q
      go_enter Try.func18, Try.ntmps18
      go_wp2_with (first | (go_at_call 32; refine (rin_any _ _ _ _).mono ?_; rintro x w2 ⟨rfl, rfl⟩) | (go_at_call 33; refine (rported_any p _).mono ?_; rintro x w2 ⟨rfl, g2⟩; have B2 := (Bx.new w p).below (by simp) g2; obtain ⟨h0, h1, h2, h3, h4, h5, h6, h7, h8, h9, h10⟩ := B2))
      all_goals
        go_ret
        exact ⟨ret_bool (by simp [*]), by go_grown⟩
    cases hh : hasB p
    · rw [if_neg (by simp), in_zero, in_zero]
      go_enter Try.func18, Try.ntmps18
      go_wp2_with (first | (go_at_call 32; refine (rin_any _ _ _ _).mono ?_; rintro x w2 ⟨rfl, rfl⟩) | (go_at_call 33; refine (rported_any p _).mono ?_; rintro x w2 ⟨rfl, g2⟩; have B2 := (Bx.new w p).below (by simp) g2; obtain ⟨h0, h1, h2, h3, h4, h5, h6, h7, h8, h9, h10⟩ := B2))
      all_goals
        go_ret
        exact ⟨ret_bool (by simp [*]), btr (by go_grown) g2 (by simp)⟩
    · rw [if_pos rfl, hs, hd]
      go_enter Try.func18, Try.ntmps18
      go_wp2_with (first | (go_at_call 32; refine (rin_any _ _ _ _).mono ?_; rintro x w2 ⟨rfl, rfl⟩) | (go_at_call 33; refine (rported_any p _).mono ?_; rintro x w2 ⟨rfl, g2⟩; have B2 := (Bx.new w p).below (by simp) g2; obtain ⟨h0, h1, h2, h3, h4, h5, h6, h7, h8, h9, h10⟩ := B2))
      all_goals
        go_ret
        exact ⟨ret_bool (by simp [*]), btr (by go_grown) g2 (by simp)⟩
  · have bT : (p.ty != 2048) = true := by simp [hT]
    have eI : insideB p = (p.src == 0 && p.dst == 0 && p.life == 0 && p.pro == 0 && p.sp == 0 && p.dp == 0) := by unfold insideB; rw [if_neg hT]
    rw [eI]
    clear hT eI
    go_enter Try.func18, Try.ntmps18
    go_wp2_with (first | (go_at_call 32; refine (rin_any _ _ _ _).mono ?_; rintro x w2 ⟨rfl, rfl⟩) | (go_at_call 33; refine (rported_any p _).mono ?_; rintro x w2 ⟨rfl, g2⟩; have B2 := (Bx.new w p).below (by simp) g2; obtain ⟨h0, h1, h2, h3, h4, h5, h6, h7, h8, h9, h10⟩ := B2))
    all_goals
      go_ret
      exact ⟨ret_bool (by simp [*]), by go_grown⟩

set_option maxHeartbeats 2000000 in
theorem rright_any (p : Pk) (w : World) (h : Wf p) :
    Calls Try.prog 18 #[pkV p] w fun x w' => x = .returned (.bool (rightB p)) ∧ Below w.heap.size w w' := by
  have t0 := h.to0
  have f0 := h.fr0
  unfold rightB
  cases hA : (p.to / 281474976710656 == 0)
  · have hA' : decide (0 < p.to / 281474976710656) = true := by simp at hA ⊢; omega
    clear hA t0 f0 h
    go_enter Try.func18, Try.ntmps18
    go_wp2_with (first | (go_at_call 32; refine (rin_any _ _ _ _).mono ?_; rintro x w2 ⟨rfl, rfl⟩) | (go_at_call 33; refine (rported_any p _).mono ?_; rintro x w2 ⟨rfl, g2⟩; have B2 := (Bx.new w p).below (by simp) g2; obtain ⟨h0, h1, h2, h3, h4, h5, h6, h7, h8, h9, h10⟩ := B2))
    all_goals
      go_ret
      exact ⟨ret_bool (by simp), by go_grown⟩
  have hA' : decide (0 < p.to / 281474976710656) = false := by simp at hA ⊢; omega
  cases hB : (p.fr / 281474976710656 == 0)
  · have hB' : decide (0 < p.fr / 281474976710656) = true := by simp at hB ⊢; omega
    clear hA hB t0 f0 h
    go_enter Try.func18, Try.ntmps18
    go_wp2_with (first | (go_at_call 32; refine (rin_any _ _ _ _).mono ?_; rintro x w2 ⟨rfl, rfl⟩) | (go_at_call 33; refine (rported_any p _).mono ?_; rintro x w2 ⟨rfl, g2⟩; have B2 := (Bx.new w p).below (by simp) g2; obtain ⟨h0, h1, h2, h3, h4, h5, h6, h7, h8, h9, h10⟩ := B2))
    all_goals
      go_ret
      exact ⟨ret_bool (by simp), by go_grown⟩
  have hB' : decide (0 < p.fr / 281474976710656) = false := by simp at hB ⊢; omega
  by_cases hC : p.vl = 0
  · have e : (p.vl == 0 || inB p.vl 4096 8191) = true := by simp [hC]
    rw [e]
    simp only [Bool.and_self, Bool.true_and]
    exact rright_plain p w hA' hB' (by simp [hC])
  · have bC : (p.vl != 0) = true := by simp [hC]
    have e : (p.vl == 0) = false := by simp [hC]
    rw [e]
    cases hV : inB p.vl 4096 8191
    · clear hA hB hC t0 f0 h e
      go_enter Try.func18, Try.ntmps18
      go_wp2_with (first | (go_at_call 32; refine (rin_any _ _ _ _).mono ?_; rintro x w2 ⟨rfl, rfl⟩) | (go_at_call 33; refine (rported_any p _).mono ?_; rintro x w2 ⟨rfl, g2⟩; have B2 := (Bx.new w p).below (by simp) g2; obtain ⟨h0, h1, h2, h3, h4, h5, h6, h7, h8, h9, h10⟩ := B2))
      all_goals
        go_ret
        exact ⟨ret_bool (by simp), by go_grown⟩
    · simp only [Bool.and_self, Bool.true_and, Bool.or_true]
      exact rright_tag p w hA' hB' bC hV
end Go.Proofs.Ytldbbbhoemnlmaa

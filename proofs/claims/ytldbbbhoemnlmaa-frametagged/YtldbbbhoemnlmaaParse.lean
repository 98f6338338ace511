/-
  What 'Parse' answers, as a contract.
-/
import Derived.Test.YtldbbbhoemnlmaaReadF
namespace Go.Proofs.Ytldbbbhoemnlmaa
open Go.ChangeShapes Go.WideShapes Go.ChangeAt Go.RowKit

theorem portsP_proj (p : Pk) (r : RS) : (portsP p r).to = p.to ∧ (portsP p r).fr = p.fr ∧ (portsP p r).src = p.src ∧ (portsP p r).dst = p.dst := by
  unfold portsP; split <;> exact ⟨rfl, rfl, rfl, rfl⟩
theorem outerP_wf (s : ByteArray) : (0 ≤ (outerP s).to ∧ (outerP s).to < 281474976710656) ∧ (0 ≤ (outerP s).fr ∧ (outerP s).fr < 281474976710656) ∧ (outerP s).src = 0 ∧ (outerP s).dst = 0 := by
  unfold outerP taggedP plainP
  split <;> exact ⟨RS.num6 _, RS.num6 _, rfl, rfl⟩
theorem readV_wf (s : ByteArray) : Wf (readV s) := by
  obtain ⟨⟨a0, a1⟩, ⟨b0, b1⟩, c, d⟩ := outerP_wf s
  unfold readV innerP
  split
  · obtain ⟨e1, e2, e3, e4⟩ := portsP_proj (headP (outerP s) (outerR s)) (headR (outerR s))
    have s4 := RS.num4 (((((outerR s).jump 8).skip 1).skip 1).skip 2)
    have d4 := RS.num4 ((((((outerR s).jump 8).skip 1).skip 1).skip 2).skip 4)
    constructor <;> simp only [e1, e2, e3, e4] <;> simp only [headP] <;> omega
  · constructor <;> simp only [] <;> omega
theorem headR_size (r : RS) : (headR r).s.size ≤ r.s.size := by
  unfold headR
  exact Nat.le_trans (RS.skip_size _ _) (Nat.le_trans (RS.skip_size _ _) (Nat.le_trans (RS.skip_size _ _) (Nat.le_trans (RS.skip_size _ _) (Nat.le_trans (RS.skip_size _ _) (RS.jump_size _ _)))))
theorem portsR_size (p : Pk) (r : RS) : (portsR p r).s.size ≤ r.s.size := by
  unfold portsR; split
  · split
    · exact Nat.le_trans (RS.skip_size _ _) (Nat.le_trans (RS.jump_size _ _) (Nat.le_trans (RS.skip_size _ _) (RS.skip_size _ _)))
    · exact Nat.le_trans (RS.jump_size _ _) (Nat.le_trans (RS.skip_size _ _) (Nat.le_trans (RS.jump_size _ _) (Nat.le_trans (RS.skip_size _ _) (RS.skip_size _ _))))
  · exact Nat.le_refl _
theorem rA_size (s : ByteArray) : (rA s).s.size ≤ s.size := Nat.le_trans (RS.skip_size _ _) (Nat.le_trans (RS.skip_size _ _) (RS.skip_size _ _))
theorem outerR_size (s : ByteArray) : (outerR s).s.size ≤ s.size := by
  unfold outerR; split
  · exact Nat.le_trans (RS.skip_size _ _) (Nat.le_trans (RS.skip_size _ _) (rA_size s))
  · exact rA_size s
theorem innerR_size (s : ByteArray) : (innerR s).s.size ≤ s.size := by
  unfold innerR; split
  · exact Nat.le_trans (portsR_size _ _) (Nat.le_trans (headR_size _) (outerR_size s))
  · exact outerR_size s
theorem readV_size (s : ByteArray) : (readV s).data.size ≤ s.size := Nat.le_trans (takeV_size _ _ _ _) (innerR_size s)
theorem readA_lt (s : ByteArray) : 0 ≤ readA s ∧ readA s ≤ 65535 := by
  unfold readA; split
  · have := headC_lt (outerR s); omega
  · omega
theorem readB_lt (s : ByteArray) : 0 ≤ readB s ∧ readB s ≤ 65535 := by
  unfold readB; split
  · have := portsC_lt (headP (outerP s) (outerR s)) (headR (outerR s)); omega
  · omega

/-- The frame is what its packet and its sums are written as. -/
abbrev fits (s : ByteArray) : Prop := rightB (readV s) = true ∧ writeV (readV s) (readA s) (readB s) = s
abbrev summed (s : ByteArray) : Prop := readA s = sumA (readV s) ∧ readB s = sumB (readV s)
def parseE (s : ByteArray) : Int := if s.size ≤ 1500 then (if fits s then (if summed s then 0 else 13) else 11) else 44
def parseP (s : ByteArray) : Pk := if s.size ≤ 1500 ∧ fits s ∧ summed s then readV s else pk0

/-- Where 'Parse' stands: what it answers lies in block w.heap.size, the packet in m, its sums in the next one. -/
structure PA (w : World) (m : Nat) (p : Pk) (a b : Int) (w2 : World) : Prop where
  rp : Bw w2 w.heap.size pk0
  pk : Bx w2 m p
  sm : Sx w2 (m + 1) a b
  gr : Below w.heap.size w w2
  lt : m + 1 < w2.heap.size
  le : w.heap.size < m
theorem PA.next {w : World} {m : Nat} {p : Pk} {a b : Int} {w2 w3 : World} (h : PA w m p a b w2) (g : Below w2.heap.size w2 w3) : PA w m p a b w3 :=
  have l1 := h.lt
  have l2 := h.le
  ⟨h.rp.below (by omega) g, h.pk.below (by omega) g, h.sm.below l1 g, btr h.gr g (Nat.le_refl _), Nat.lt_of_lt_of_le l1 g.size, l2⟩
theorem PA.new {w w1 : World} (p : Pk) (a b : Int) (g : Below (w.alloc (.cells (pkC pk0) 25)).heap.size (w.alloc (.cells (pkC pk0) 25)) w1) : PA w w1.heap.size p a b ((bx w1 p).alloc (.cells #[.int .i64 a, .int .i64 b] 40)) := by
  have hle : w.heap.size < w1.heap.size := by have := g.size; simp at this; omega
  have g1 : Below w1.heap.size w1 ((bx w1 p).alloc (.cells #[.int .i64 a, .int .i64 b] 40)) := by go_grown
  have g2 : Below (bx w1 p).heap.size (bx w1 p) ((bx w1 p).alloc (.cells #[.int .i64 a, .int .i64 b] 40)) := by go_grown
  have r := ((Bw.new w pk0).below (by simp) g).below hle g1
  have s := Sw.new (bx w1 p) a b
  have z : (bx w1 p).heap.size = w1.heap.size + 1 := by simp
  rw [z] at s
  exact ⟨r, (Bx.new w1 p).below (by simp [bx]) g2, s.1, btr (btr (by go_grown) g (by simp)) g1 (Nat.le_refl _), by simp [bx], hle⟩
theorem PA.answer {w : World} {m : Nat} {p : Pk} {a b : Int} {w2 : World} (h : PA w m p a b w2) (q : Pk) : Bx (setP w2 w.heap.size q) w.heap.size q ∧ Below w.heap.size w (setP w2 w.heap.size q) :=
  ⟨(setP_at h.rp).1, setP_below h.gr (Nat.le_refl _) q⟩

theorem toList_inj {a b : ByteArray} (h : a.toList = b.toList) : a = b := by
  rw [ByteArray.toList_eq, ByteArray.toList_eq] at h
  cases a; cases b; simpa using h
theorem beq_no {a b : ByteArray} (h : ¬ a = b) : (a.toList == b.toList) = false := by
  simp only [beq_eq_false_iff_ne]; exact fun e => h (toList_inj e)

theorem parse_big (s : ByteArray) (w : World) (h : ¬ s.size ≤ 1500) :
    Calls Try.prog 11 #[.string s] w fun x w' => x = .returned (.tuple #[pkV pk0, .int .i64 44]) ∧ Below w.heap.size w w' := by
  have hi : (1500 : Int) < (s.size : Int) := by omega
  go_enter Try.func11, Try.ntmps11
  go_wp2_with fail
  refine bodyPost_ret (res25 (p := pk0) rfl rfl (Bw.new w pk0).1) rfl ?_
  exact ⟨rfl, by go_grown⟩

set_option maxHeartbeats 1000000 in
theorem parse_wrong (s : ByteArray) (p : Pk) (a b : Int) (w : World) (h15 : s.size ≤ 1500) (hr : rightB p = false)
    (HR : Hid (∀ w, Calls Try.prog 21 #[.string s] w fun x w' => x = .returned (.tuple #[pkV p, .agg #[.int .i64 a, .int .i64 b]]) ∧ Below w.heap.size w w')) :
    Calls Try.prog 11 #[.string s] w fun x w' => x = .returned (.tuple #[pkV pk0, .int .i64 11]) ∧ Below w.heap.size w w' := by
  have hi : (s.size : Int) ≤ 1500 := by omega
  go_enter Try.func11, Try.ntmps11
  go_wp2_with fail
  refine (HR.out _).mono ?_
  rintro x w1 ⟨rfl, g1⟩
  have P1 := PA.new p (a) (b) g1
  go_wp2_with fail
  refine (rightP_any p _).mono ?_
  rintro x w2 ⟨rfl, g2⟩
  have P2 := P1.next g2
  clear P1 g1 g2
  obtain ⟨⟨i0, i1, i2, i3, i4, i5, i6, i7, i8, i9, i10⟩, hf⟩ := P2.rp
  go_wp2_with fail
  obtain ⟨A1, A2⟩ := P2.answer pk0
  unfold setP at A1 A2
  refine bodyPost_ret (res25 (p := pk0) rfl rfl A1) rfl ?_
  exact ⟨rfl, A2⟩

set_option maxHeartbeats 1000000 in
theorem parse_other (s : ByteArray) (p : Pk) (a b : Int) (w : World) (h15 : s.size ≤ 1500) (a0 : 0 ≤ a) (a1 : a ≤ 65535) (b0 : 0 ≤ b) (b1 : b ≤ 65535) (hr : rightB p = true) (hw : ¬ writeV p a b = s) (HO : Hid (Ok p))
    (HR : Hid (∀ w, Calls Try.prog 21 #[.string s] w fun x w' => x = .returned (.tuple #[pkV p, .agg #[.int .i64 a, .int .i64 b]]) ∧ Below w.heap.size w w')) :
    Calls Try.prog 11 #[.string s] w fun x w' => x = .returned (.tuple #[pkV pk0, .int .i64 11]) ∧ Below w.heap.size w w' := by
  have hb := beq_no hw
  have hi : (s.size : Int) ≤ 1500 := by omega
  go_enter Try.func11, Try.ntmps11
  go_wp2_with fail
  refine (HR.out _).mono ?_
  rintro x w1 ⟨rfl, g1⟩
  have P1 := PA.new p (a) (b) g1
  go_wp2_with fail
  refine (rightP_any p _).mono ?_
  rintro x w2 ⟨rfl, g2⟩
  have P2 := P1.next g2
  clear P1 g1 g2
  obtain ⟨h0, h1, h2, h3, h4, h5, h6, h7, h8, h9, h10⟩ := P2.pk
  obtain ⟨k0, k1⟩ := P2.sm
  go_wp2_with fail
  refine (write_any p (a) (b) _ HO.out a0 a1 b0 b1).mono ?_
  rintro x w3 ⟨rfl, g3⟩
  have P3 := P2.next g3
  clear P2 g3 h0 h1 h2 h3 h4 h5 h6 h7 h8 h9 h10 k0 k1
  obtain ⟨⟨i0, i1, i2, i3, i4, i5, i6, i7, i8, i9, i10⟩, hf⟩ := P3.rp
  go_wp2_with fail
  obtain ⟨A1, A2⟩ := P3.answer pk0
  unfold setP at A1 A2
  refine bodyPost_ret (res25 (p := pk0) rfl rfl A1) rfl ?_
  exact ⟨rfl, A2⟩

set_option maxHeartbeats 1000000 in
theorem parse_ok (s : ByteArray) (p : Pk) (w : World) (h15 : s.size ≤ 1500) (hr : rightB p = true) (hw : writeV p ((sumA p : Int)) ((sumB p : Int)) = s) (HO : Hid (Ok p))
    (HR : Hid (∀ w, Calls Try.prog 21 #[.string s] w fun x w' => x = .returned (.tuple #[pkV p, .agg #[.int .i64 (sumA p : Int), .int .i64 (sumB p : Int)]]) ∧ Below w.heap.size w w')) :
    Calls Try.prog 11 #[.string s] w fun x w' => x = .returned (.tuple #[pkV p, .int .i64 0]) ∧ Below w.heap.size w w' := by
  have hi : (s.size : Int) ≤ 1500 := by omega
  go_enter Try.func11, Try.ntmps11
  go_wp2_with fail
  refine (HR.out _).mono ?_
  rintro x w1 ⟨rfl, g1⟩
  have P1 := PA.new p ((sumA p : Int)) ((sumB p : Int)) g1
  go_wp2_with fail
  refine (rightP_any p _).mono ?_
  rintro x w2 ⟨rfl, g2⟩
  have P2 := P1.next g2
  clear P1 g1 g2
  obtain ⟨h0, h1, h2, h3, h4, h5, h6, h7, h8, h9, h10⟩ := P2.pk
  obtain ⟨k0, k1⟩ := P2.sm
  go_wp2_with fail
  refine (write_any p ((sumA p : Int)) ((sumB p : Int)) _ HO.out (by omega) (by have := sumA_le p; omega) (by omega) (by have := sumB_le p; omega)).mono ?_
  rintro x w3 ⟨rfl, g3⟩
  have P3 := P2.next g3
  clear P2 g3 h0 h1 h2 h3 h4 h5 h6 h7 h8 h9 h10 k0 k1
  go_wp2_with fail
  have hc : ∀ n : GrT w3, Bx n.w w1.heap.size p := fun n => (P3.next n.h).pk
  have hx : ∀ n : GrT w3, Sx n.w (w1.heap.size + 1) ((sumA p : Int)) ((sumB p : Int)) := fun n => (P3.next n.h).sm
  refine wp_region_grow (by kernel_rfl) (by kernel_rfl) ?_
  repeat (go_big_quiet_step (first | (go_at_call 17; exact quiet_gr (sumsOf_any p _ HO.out))))
  refine wpQuiet_nil ?_
  rintro w4 hw'
  have g4 := gr_elim hw'
  clear hw'
  have P4 := P3.next g4
  clear hc hx P3 g4
  obtain ⟨⟨i0, i1, i2, i3, i4, i5, i6, i7, i8, i9, i10⟩, hf⟩ := P4.rp
  obtain ⟨h0, h1, h2, h3, h4, h5, h6, h7, h8, h9, h10⟩ := P4.pk
  go_wp2_with fail
  obtain ⟨A1, A2⟩ := P4.answer p
  unfold setP at A1 A2
  refine bodyPost_ret (res25 (p := p) rfl rfl A1) rfl ?_
  exact ⟨rfl, A2⟩

set_option maxHeartbeats 1000000 in
theorem parse_sumA (s : ByteArray) (p : Pk) (a b : Int) (w : World) (h15 : s.size ≤ 1500) (a0 : 0 ≤ a) (a1 : a ≤ 65535) (b0 : 0 ≤ b) (b1 : b ≤ 65535) (hA : ¬ a = (sumA p : Int)) (hr : rightB p = true) (hw : writeV p (a) (b) = s) (HO : Hid (Ok p))
    (HR : Hid (∀ w, Calls Try.prog 21 #[.string s] w fun x w' => x = .returned (.tuple #[pkV p, .agg #[.int .i64 a, .int .i64 b]]) ∧ Below w.heap.size w w')) :
    Calls Try.prog 11 #[.string s] w fun x w' => x = .returned (.tuple #[pkV pk0, .int .i64 13]) ∧ Below w.heap.size w w' := by
  have hi : (s.size : Int) ≤ 1500 := by omega
  go_enter Try.func11, Try.ntmps11
  go_wp2_with fail
  refine (HR.out _).mono ?_
  rintro x w1 ⟨rfl, g1⟩
  have P1 := PA.new p (a) (b) g1
  go_wp2_with fail
  refine (rightP_any p _).mono ?_
  rintro x w2 ⟨rfl, g2⟩
  have P2 := P1.next g2
  clear P1 g1 g2
  obtain ⟨h0, h1, h2, h3, h4, h5, h6, h7, h8, h9, h10⟩ := P2.pk
  obtain ⟨k0, k1⟩ := P2.sm
  go_wp2_with fail
  refine (write_any p (a) (b) _ HO.out a0 a1 b0 b1).mono ?_
  rintro x w3 ⟨rfl, g3⟩
  have P3 := P2.next g3
  clear P2 g3 h0 h1 h2 h3 h4 h5 h6 h7 h8 h9 h10 k0 k1
  go_wp2_with fail
  have hc : ∀ n : GrT w3, Bx n.w w1.heap.size p := fun n => (P3.next n.h).pk
  have hx : ∀ n : GrT w3, Sx n.w (w1.heap.size + 1) (a) (b) := fun n => (P3.next n.h).sm
  refine wp_region_grow (by kernel_rfl) (by kernel_rfl) ?_
  repeat (go_big_quiet_step (first | (go_at_call 17; exact quiet_gr (sumsOf_any p _ HO.out))))
  refine wpQuiet_nil ?_
  rintro w4 hw'
  have g4 := gr_elim hw'
  clear hw'
  have P4 := P3.next g4
  clear hc hx P3 g4
  obtain ⟨⟨i0, i1, i2, i3, i4, i5, i6, i7, i8, i9, i10⟩, hf⟩ := P4.rp
  obtain ⟨h0, h1, h2, h3, h4, h5, h6, h7, h8, h9, h10⟩ := P4.pk
  go_wp2_with fail
  obtain ⟨A1, A2⟩ := P4.answer pk0
  unfold setP at A1 A2
  refine bodyPost_ret (res25 (p := pk0) rfl rfl A1) rfl ?_
  exact ⟨rfl, A2⟩

set_option maxHeartbeats 1000000 in
theorem parse_sumB (s : ByteArray) (p : Pk) (b : Int) (w : World) (h15 : s.size ≤ 1500) (b0 : 0 ≤ b) (b1 : b ≤ 65535) (hB : ¬ b = (sumB p : Int)) (hr : rightB p = true) (hw : writeV p ((sumA p : Int)) (b) = s) (HO : Hid (Ok p))
    (HR : Hid (∀ w, Calls Try.prog 21 #[.string s] w fun x w' => x = .returned (.tuple #[pkV p, .agg #[.int .i64 (sumA p : Int), .int .i64 b]]) ∧ Below w.heap.size w w')) :
    Calls Try.prog 11 #[.string s] w fun x w' => x = .returned (.tuple #[pkV pk0, .int .i64 13]) ∧ Below w.heap.size w w' := by
  have hi : (s.size : Int) ≤ 1500 := by omega
  go_enter Try.func11, Try.ntmps11
  go_wp2_with fail
  refine (HR.out _).mono ?_
  rintro x w1 ⟨rfl, g1⟩
  have P1 := PA.new p ((sumA p : Int)) (b) g1
  go_wp2_with fail
  refine (rightP_any p _).mono ?_
  rintro x w2 ⟨rfl, g2⟩
  have P2 := P1.next g2
  clear P1 g1 g2
  obtain ⟨h0, h1, h2, h3, h4, h5, h6, h7, h8, h9, h10⟩ := P2.pk
  obtain ⟨k0, k1⟩ := P2.sm
  go_wp2_with fail
  refine (write_any p ((sumA p : Int)) (b) _ HO.out (by omega) (by have := sumA_le p; omega) b0 b1).mono ?_
  rintro x w3 ⟨rfl, g3⟩
  have P3 := P2.next g3
  clear P2 g3 h0 h1 h2 h3 h4 h5 h6 h7 h8 h9 h10 k0 k1
  go_wp2_with fail
  have hc : ∀ n : GrT w3, Bx n.w w1.heap.size p := fun n => (P3.next n.h).pk
  have hx : ∀ n : GrT w3, Sx n.w (w1.heap.size + 1) ((sumA p : Int)) (b) := fun n => (P3.next n.h).sm
  refine wp_region_grow (by kernel_rfl) (by kernel_rfl) ?_
  repeat (go_big_quiet_step (first | (go_at_call 17; exact quiet_gr (sumsOf_any p _ HO.out))))
  refine wpQuiet_nil ?_
  rintro w4 hw'
  have g4 := gr_elim hw'
  clear hw'
  have P4 := P3.next g4
  clear hc hx P3 g4
  obtain ⟨⟨i0, i1, i2, i3, i4, i5, i6, i7, i8, i9, i10⟩, hf⟩ := P4.rp
  obtain ⟨h0, h1, h2, h3, h4, h5, h6, h7, h8, h9, h10⟩ := P4.pk
  go_wp2_with fail
  obtain ⟨A1, A2⟩ := P4.answer pk0
  unfold setP at A1 A2
  refine bodyPost_ret (res25 (p := pk0) rfl rfl A1) rfl ?_
  exact ⟨rfl, A2⟩

theorem parse_any (s : ByteArray) (w : World) (hs : s.size ≤ maxLen) :
    Calls Try.prog 11 #[.string s] w fun x w' => x = .returned (.tuple #[pkV (parseP s), .int .i64 (parseE s)]) ∧ Below w.heap.size w w' := by
  have HS : Hid (s.size ≤ maxLen) := hs
  by_cases h15 : s.size ≤ 1500
  · have HR : Hid (∀ w, Calls Try.prog 21 #[.string s] w fun x w' => x = .returned (.tuple #[pkV (readV s), .agg #[.int .i64 (readA s), .int .i64 (readB s)]]) ∧ Below w.heap.size w w') := fun w => readP_any s w HS.out
    have HW := readV_wf s
    have HZ := readV_size s
    obtain ⟨a0, a1⟩ := readA_lt s
    obtain ⟨b0, b1⟩ := readB_lt s
    cases hr : rightB (readV s)
    · have nf : ¬ fits s := fun h => by rw [h.1] at hr; cases hr
      rw [show parseP s = pk0 from if_neg (fun h => nf h.2.1), show parseE s = 11 by unfold parseE; rw [if_pos h15, if_neg nf]]
      exact parse_wrong s _ _ _ w h15 hr HR
    · have HO : Hid (Ok (readV s)) := Ok.of_right HW hr (by omega)
      by_cases hw : writeV (readV s) (readA s) (readB s) = s
      · have hf : fits s := ⟨hr, hw⟩
        by_cases hA : readA s = (sumA (readV s) : Int)
        · by_cases hB : readB s = (sumB (readV s) : Int)
          · rw [show parseP s = readV s from if_pos ⟨h15, hf, hA, hB⟩, show parseE s = 0 by unfold parseE; rw [if_pos h15, if_pos hf, if_pos ⟨hA, hB⟩]]
            rw [hA, hB] at hw HR
            exact parse_ok s _ w h15 hr hw HO HR
          · have nf : ¬ summed s := fun h => hB h.2
            rw [show parseP s = pk0 from if_neg (fun h => nf h.2.2), show parseE s = 13 by unfold parseE; rw [if_pos h15, if_pos hf, if_neg nf]]
            rw [hA] at hw HR
            exact parse_sumB s _ _ w h15 b0 b1 hB hr hw HO HR
        · have nf : ¬ summed s := fun h => hA h.1
          rw [show parseP s = pk0 from if_neg (fun h => nf h.2.2), show parseE s = 13 by unfold parseE; rw [if_pos h15, if_pos hf, if_neg nf]]
          exact parse_sumA s _ _ _ w h15 a0 a1 b0 b1 hA hr hw HO HR
      · have nf : ¬ fits s := fun h => hw h.2
        rw [show parseP s = pk0 from if_neg (fun h => nf h.2.1), show parseE s = 11 by unfold parseE; rw [if_pos h15, if_neg nf]]
        exact parse_other s _ _ _ w h15 a0 a1 b0 b1 hr hw HO HR
  · rw [show parseP s = pk0 from if_neg (fun h => h15 h.1), show parseE s = 44 from if_neg h15]
    exact parse_big s w h15
end Go.Proofs.Ytldbbbhoemnlmaa

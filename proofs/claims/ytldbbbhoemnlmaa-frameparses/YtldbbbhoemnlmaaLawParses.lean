/-
  The document's own 'Parse' answers as the program's; the walk of the law FrameParses.
-/
import Derived.Test.YtldbbbhoemnlmaaSeems0a
import Derived.Test.YtldbbbhoemnlmaaSeems0b
import Derived.Test.YtldbbbhoemnlmaaSeems0c
import Derived.Test.YtldbbbhoemnlmaaSeems1a
import Derived.Test.YtldbbbhoemnlmaaSeems1b
import Derived.Test.YtldbbbhoemnlmaaSeems1c
import Derived.Test.YtldbbbhoemnlmaaRParse
namespace Go.Proofs.Ytldbbbhoemnlmaa
open Go.ChangeShapes Go.WideShapes Go.ChangeAt Go.RowKit

theorem seems_any (s : ByteArray) (w : World) (hs : s.size ≤ 1500) :
    Calls Try.prog 22 #[.string s] w fun x w' => x = .returned (.tuple #[pkV (seemsP s), .int .i64 (seemsA s), .int .i64 (seemsB s)]) ∧ Below w.heap.size w w' := by
  cases ht : sTag s
  · have hj : jS s = 14 := by unfold jS; rw [ht]; rfl
    have hb : sBase s = sPlain s := by unfold sBase; rw [ht]; rfl
    have ht' : ((atV s 12 2).toList == [129, 0]) = false := ht
    unfold seemsP seemsA seemsB sH
    rw [hj, hb]
    by_cases hi : (sPlain s).ty = 2048
    · have hi' : (gN s 12 2 != 2048) = false := by have : gN s 12 2 = 2048 := hi; simp [this]
      simp only [if_pos hi]
      by_cases hh : hasB (sHead s 14 (sPlain s)) = true
      · simp only [if_pos hh]
        by_cases h17 : (sHead s 14 (sPlain s)).pro = 17
        · simp only [if_pos h17]
          exact seems02 s w hs ht' hi' hh (by simp [h17])
        · simp only [if_neg h17]
          exact seems03 s w hs ht' hi' hh (by simp [h17])
      · simp only [if_neg hh]
        exact seems01 s w hs ht' hi' (by simpa using hh)
    · have hi' : (gN s 12 2 != 2048) = true := by have : ¬ gN s 12 2 = 2048 := hi; simp [this]
      simp only [if_neg hi]
      exact seems00 s w hs ht' hi'
  · have hj : jS s = 18 := by unfold jS; rw [ht]; rfl
    have hb : sBase s = sTagged s := by unfold sBase; rw [ht]; rfl
    have ht' : ((atV s 12 2).toList == [129, 0]) = true := ht
    unfold seemsP seemsA seemsB sH
    rw [hj, hb]
    by_cases hi : (sTagged s).ty = 2048
    · have hi' : (gN s 16 2 != 2048) = false := by have : gN s 16 2 = 2048 := hi; simp [this]
      simp only [if_pos hi]
      by_cases hh : hasB (sHead s 18 (sTagged s)) = true
      · simp only [if_pos hh]
        by_cases h17 : (sHead s 18 (sTagged s)).pro = 17
        · simp only [if_pos h17]
          exact seems12 s w hs ht' hi' hh (by simp [h17])
        · simp only [if_neg h17]
          exact seems13 s w hs ht' hi' hh (by simp [h17])
      · simp only [if_neg hh]
        exact seems11 s w hs ht' hi' (by simpa using hh)
    · have hi' : (gN s 16 2 != 2048) = true := by have : ¬ gN s 16 2 = 2048 := hi; simp [this]
      simp only [if_neg hi]
      exact seems10 s w hs ht' hi'

theorem sBase_wf (s : ByteArray) : (0 ≤ (sBase s).to ∧ (sBase s).to < 281474976710656) ∧ (0 ≤ (sBase s).fr ∧ (sBase s).fr < 281474976710656) ∧ (sBase s).src = 0 ∧ (sBase s).dst = 0 := by
  unfold sBase sTagged sPlain
  split <;> exact ⟨gN6 _ _, gN6 _ _, rfl, rfl⟩
theorem seemsP_wf (s : ByteArray) : Wf (seemsP s) := by
  obtain ⟨⟨a0, a1⟩, ⟨b0, b1⟩, c, d⟩ := sBase_wf s
  have s4 := gN4 s (jS s + 12)
  have d4 := gN4 s (jS s + 16)
  unfold seemsP
  split
  · split
    · split <;> (constructor <;> simp only [sPorts, sH, sHead] <;> omega)
    · constructor <;> simp only [sH, sHead] <;> omega
  · constructor <;> simp only [] <;> omega
theorem behind_size (s : ByteArray) (i : Nat) : (behindV s i).size ≤ s.size := by
  unfold behindV; split
  · exact Nat.zero_le _
  · rw [ByteArray.size_extract]; omega
theorem seemsP_size (s : ByteArray) : (seemsP s).data.size ≤ s.size := by
  unfold seemsP
  split
  · split
    · split <;> exact behind_size _ _
    · exact behind_size _ _
  · exact behind_size _ _
theorem seemsA_lt (s : ByteArray) : 0 ≤ seemsA s ∧ seemsA s ≤ 65535 := by
  unfold seemsA; split
  · have := gN2 s (jS s + 10); omega
  · omega
theorem seemsB_lt (s : ByteArray) : 0 ≤ seemsB s ∧ seemsB s ≤ 65535 := by
  unfold seemsB; split
  · split
    · split
      · have := gN2 s (jS s + 26); omega
      · have := gN2 s (jS s + 36); omega
    · omega
  · omega
theorem hasB_pro (p q : Pk) (h : p.pro = q.pro) : hasB p = hasB q := by unfold hasB; rw [h]
theorem sp_pro (s : ByteArray) (k : Nat) (q : Pk) (d : ByteArray) : ({ sPorts s k q with data := d } : Pk).pro = q.pro ∧ ({ sPorts s k q with data := d } : Pk).ty = q.ty := ⟨rfl, rfl⟩
theorem sd_pro (q : Pk) (d : ByteArray) : ({ q with data := d } : Pk).pro = q.pro ∧ ({ q with data := d } : Pk).ty = q.ty := ⟨rfl, rfl⟩
theorem sHead_ty (s : ByteArray) (j : Nat) (p : Pk) : (sHead s j p).ty = p.ty := by simp only [sHead]
theorem seems_ty (s : ByteArray) : (seemsP s).ty = (sBase s).ty ∧ ((sBase s).ty = 2048 → hasB (seemsP s) = hasB (sH s)) := by
  have eH : (sH s).ty = (sBase s).ty := by unfold sH; exact sHead_ty _ _ _
  unfold seemsP
  split
  · split
    · split
      · exact ⟨(sp_pro _ _ _ _).2.trans eH, fun _ => hasB_pro _ _ (sp_pro _ _ _ _).1⟩
      · exact ⟨(sp_pro _ _ _ _).2.trans eH, fun _ => hasB_pro _ _ (sp_pro _ _ _ _).1⟩
    · exact ⟨(sd_pro _ _).2.trans eH, fun _ => hasB_pro _ _ (sd_pro _ _).1⟩
  · rename_i h; exact ⟨(sd_pro _ _).2, fun x => absurd x h⟩
theorem seemsA_no (s : ByteArray) (h : (seemsP s).ty ≠ 2048) : seemsA s = 0 := by
  rw [(seems_ty s).1] at h; unfold seemsA; rw [if_neg h]
theorem seemsB_no (s : ByteArray) (h : ¬ ((seemsP s).ty = 2048 ∧ hasB (seemsP s) = true)) : seemsB s = 0 := by
  obtain ⟨e1, e2⟩ := seems_ty s
  rw [e1] at h
  unfold seemsB
  split
  · rename_i ht
    rw [e2 ht] at h
    rw [if_neg (fun x => h ⟨ht, x⟩)]
  · rfl
theorem read_ty (s : ByteArray) : (readV s).ty = (outerP s).ty ∧ ((outerP s).ty = 2048 → hasB (readV s) = hasB (headP (outerP s) (outerR s))) := by
  have e : ∀ p r, (portsP p r).ty = p.ty ∧ hasB (portsP p r) = hasB p := fun p r => by unfold portsP; split <;> exact ⟨rfl, rfl⟩
  constructor
  · show (innerP s).ty = _
    unfold innerP; split
    · rw [(e _ _).1]; rfl
    · rfl
  · intro ht
    show hasB (innerP s) = _
    unfold innerP; rw [if_pos ht, (e _ _).2]
theorem readA_no (s : ByteArray) (h : (readV s).ty ≠ 2048) : readA s = 0 := by
  rw [(read_ty s).1] at h; unfold readA; rw [if_neg h]
theorem readB_no (s : ByteArray) (h : ¬ ((readV s).ty = 2048 ∧ hasB (readV s) = true)) : readB s = 0 := by
  obtain ⟨e1, e2⟩ := read_ty s
  rw [e1] at h
  unfold readB
  split
  · rename_i ht
    rw [e2 ht] at h
    unfold portsC
    rw [if_neg (fun x => h ⟨ht, x⟩)]
  · rfl

/-- A frame that the program's reading fits is one that the document's fits, and the two are one; and the other way round. -/
theorem same_read (s : ByteArray) (h15 : s.size ≤ 1500) (h : fits s) : seemsP s = readV s ∧ seemsA s = readA s ∧ seemsB s = readB s := by
  have hz := readV_size s
  obtain ⟨a0, a1⟩ := readA_lt s
  obtain ⟨b0, b1⟩ := readB_lt s
  have := seems_write (readV s) (readA s) (readB s) (readV_wf s) h.1 (by omega) a0 a1 b0 b1 (readA_no s) (readB_no s)
  rwa [h.2] at this
theorem same_seems (s : ByteArray) (h15 : s.size ≤ 1500) (hr : rightB (seemsP s) = true) (hw : writeV (seemsP s) (seemsA s) (seemsB s) = s) : readV s = seemsP s ∧ readA s = seemsA s ∧ readB s = seemsB s := by
  have hz := seemsP_size s
  obtain ⟨a0, a1⟩ := seemsA_lt s
  obtain ⟨b0, b1⟩ := seemsB_lt s
  have := read_write (seemsP s) (seemsA s) (seemsB s) (seemsP_wf s) hr (by omega) a0 a1 b0 b1 (seemsA_no s) (seemsB_no s)
  rwa [hw] at this

theorem rparse_any (s : ByteArray) (w : World) :
    Calls Try.prog 12 #[.string s] w fun x w' => x = .returned (.tuple #[pkV (parseP s), .int .i64 (parseE s)]) ∧ Below w.heap.size w w' := by
  by_cases h15 : s.size ≤ 1500
  · have hz := seemsP_size s
    have hwf := seemsP_wf s
    obtain ⟨a0, a1⟩ := seemsA_lt s
    obtain ⟨b0, b1⟩ := seemsB_lt s
    have H22 := fun w => seems_any s w h15
    have H18 := fun w => rright_any (seemsP s) w hwf
    cases hr : rightB (seemsP s)
    · rw [hr] at H18
      have nf : ¬ fits s := fun h => by
        rw [(same_read s h15 h).1, h.1] at hr; cases hr
      rw [show parseP s = pk0 from if_neg (fun h => nf h.2.1), show parseE s = 11 by unfold parseE; rw [if_pos h15, if_neg nf]]
      exact rparse_wrong s _ _ _ w h15 H22 H18
    · rw [hr] at H18
      have ho := Ok.of_right hwf hr (by omega)
      have H20 := fun w => rwith_any (seemsP s) (seemsA s) (seemsB s) w ho a0 a1 b0 b1
      by_cases hw : writeV (seemsP s) (seemsA s) (seemsB s) = s
      · rw [hw] at H20
        obtain ⟨e1, e2, e3⟩ := same_seems s h15 hr hw
        have hf : fits s := by unfold fits; rw [e1, e2, e3]; exact ⟨hr, hw⟩
        have H10 := fun w => rbytes_any (seemsP s) w hwf (by omega)
        have z := writeV_size (seemsP s) (seemsA s) (seemsB s) (right_pro hwf hr)
        rw [hw] at z
        have eb : bytesS (seemsP s) = writeV (seemsP s) (sumA (seemsP s)) (sumB (seemsP s)) := if_pos ⟨hr, by omega⟩
        by_cases hs : summed s
        · have et : bytesS (seemsP s) = s := by
            obtain ⟨c1, c2⟩ := hs
            rw [e1, e2] at c1
            rw [e1, e3] at c2
            rw [eb, ← c1, ← c2, hw]
          rw [et] at H10
          rw [show parseP s = seemsP s by unfold parseP; rw [if_pos ⟨h15, hf, hs⟩, e1], show parseE s = 0 by unfold parseE; rw [if_pos h15, if_pos hf, if_pos hs]]
          exact rparse_ok s _ _ _ w h15 _ H22 H18 H20 H10
        · have nt : ¬ bytesS (seemsP s) = s := fun et => hs (by
            rw [eb] at et
            obtain ⟨r1, r2, r3⟩ := read_write (seemsP s) (sumA (seemsP s)) (sumB (seemsP s)) hwf hr (by omega) (by omega) (by have := sumA_le (seemsP s); omega) (by omega) (by have := sumB_le (seemsP s); omega) (fun x => by unfold sumA; rw [if_neg x]; rfl) (fun x => by
              unfold sumB partSumV
              split
              · rename_i ht
                rw [if_neg (fun y => x ⟨ht, y⟩)]; rfl
              · rfl)
            rw [et] at r1 r2 r3
            exact ⟨by rw [r2, r1], by rw [r3, r1]⟩)
          rw [show parseP s = pk0 from if_neg (fun h => hs h.2.2), show parseE s = 13 by unfold parseE; rw [if_pos h15, if_pos hf, if_neg hs]]
          exact rparse_sum s _ _ _ w h15 _ _ nt H22 H18 H20 H10
      · have nf : ¬ fits s := fun h => by
          obtain ⟨e1, e2, e3⟩ := same_read s h15 h
          exact hw (by rw [e1, e2, e3]; exact h.2)
        rw [show parseP s = pk0 from if_neg (fun h => nf h.2.1), show parseE s = 11 by unfold parseE; rw [if_pos h15, if_neg nf]]
        exact rparse_other s _ _ _ w h15 _ hw H22 H18 H20
  · rw [show parseP s = pk0 from if_neg (fun h => h15 h.1), show parseE s = 44 from if_neg h15]
    exact rparse_big s w h15

set_option maxHeartbeats 1000000 in
theorem parses_walk (s : ByteArray) (w : World) (hs : s.size ≤ maxLen) : Calls Try.prog 4 #[.string s] w fun x w' => x = .returned (.bool true) ∧ Below w.heap.size w w' := by
  by_cases h1 : (3000 : Int) < (s.size : Int)
  · clear hs
    go_enter Try.func4, Try.ntmps4
    go_wp2_with fail
    refine (awake_any _).mono ?_
    rintro x w5 ⟨rfl, g5⟩
    go_wp2_with fail
    go_ret
    exact ⟨rfl, g5⟩
  · have hd : (s.size : Int) ≤ 3000 := by omega
    have H11 : Hid (∀ w, Calls Try.prog 11 #[.string s] w fun x w' => x = .returned (.tuple #[pkV (parseP s), .int .i64 (parseE s)]) ∧ Below w.heap.size w w') := fun w => parse_any s w hs
    have H12 : Hid (∀ w, Calls Try.prog 12 #[.string s] w fun x w' => x = .returned (.tuple #[pkV (parseP s), .int .i64 (parseE s)]) ∧ Below w.heap.size w w') := fun w => rparse_any s w
    generalize parseP s = p at *
    generalize parseE s = e at *
    clear h1 hs
    go_enter Try.func4, Try.ntmps4
    go_wp2_with fail
    refine (H11.out _).mono ?_
    rintro x w1 ⟨rfl, g1⟩
    go_wp2_with fail
    refine (H12.out _).mono ?_
    rintro x w2 ⟨rfl, g2⟩
    have L1 : w1.heap.size < w2.heap.size := Nat.lt_of_lt_of_le (by simp) g2.size
    have B2 : Bx (bx w2 p) w1.heap.size p := ((Bx.new w1 p).below (by simp) g2).below L1 (by go_grown)
    have G2 : Below w.heap.size w (bx w2 p) := btr (btr (btr g1 (by go_grown) (Nat.le_refl _)) g2 (Nat.le_refl _)) (by go_grown) (Nat.le_refl _)
    clear g1 g2
    obtain ⟨h0, h1, h2, h3, h4, h5, h6, h7, h8, h9, h10⟩ := B2
    go_wp2_with fail
    refine (awake_any _).mono ?_
    rintro x w5 ⟨rfl, g5⟩
    go_wp2_with fail
    go_ret
    exact ⟨rfl, btr G2 g5 (Nat.le_refl _)⟩
end Go.Proofs.Ytldbbbhoemnlmaa

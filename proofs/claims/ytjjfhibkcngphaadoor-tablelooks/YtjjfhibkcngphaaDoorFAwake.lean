/-
  What the example's function answers: true; the law TableNil answers true.
-/
import Derived.Test.YtjjfhibkcngphaaDoorFSmall
namespace Go.Proofs.YtjjfhibkcngphaaDoor
open Go.ChangeShapes Go.WideShapes Go.ChangeAt Go.RowKit
set_option linter.unusedVariables false
set_option linter.unusedSimpArgs false

abbrev aP1 : Nat → List Fp := addT 9 (fun _ => []) (ex1 1).p false
abbrev aP2 : Nat → List Fp := addT 9 aP1 (ex1 2).p true
theorem aR1 : addR 9 (fun _ => []) (ex1 1).p false = 0 := by
  unfold addR
  rw [if_pos (wrong_ex 1 (by decide) (by decide))]
  decide
theorem aP1_0 : aP1 0 = [(ex1 1).p] := by
  unfold aP1 addT
  rw [if_pos (wrong_ex 1 (by decide) (by decide))]
  have e : (ex1 1).p.tab.toNat = 0 := rfl
  rw [e, upd_same]
  unfold addL
  rw [if_pos (by decide)]
  rfl
theorem aR2 : addR 9 aP1 (ex1 2).p true = 0 := by
  unfold addR
  rw [if_pos (wrong_ex 2 (by decide) (by decide))]
  have e : (ex1 2).p.tab.toNat = 0 := rfl
  rw [e, aP1_0]
  decide
theorem aP2_0 : aP2 0 = [(ex1 2).p, (ex1 1).p] := by
  unfold aP2 addT
  rw [if_pos (wrong_ex 2 (by decide) (by decide))]
  have e : (ex1 2).p.tab.toNat = 0 := rfl
  rw [e, upd_same, aP1_0]
  unfold addL
  rw [if_pos (by decide)]
  rfl
theorem sn0_wf : Mt.Wf sn0 := by constructor <;> decide
set_option maxRecDepth 20000 in
set_option maxHeartbeats 8000000 in
theorem awake_any (w : World) (hd : Cd w) : Calls Tryd.prog 8 #[] w fun e w' => e = .returned (.bool true) ∧ Below w.heap.size w w' := by
  have HN : Hid (Calls Tryd.prog 7 #[.int .i64 9] w fun e w' => e = .returned (.tuple #[.pointer (some ⟨w.heap.size, 0, none⟩), .int .i64 0]) ∧ Fs w' w.heap.size (fun b => b = w.heap.size) 9 (fun _ => []) ∧ Below w.heap.size w w') := new_yes 9 w (by decide) (by decide) hd
  have HA : Hid (∀ w1, Fs w1 w.heap.size (fun b => b = w.heap.size) 9 (fun _ => []) → Cd w1 → Calls Tryd.prog 17 #[.pointer (some ⟨w.heap.size, 0, none⟩), .agg #[.int .i64 0, .int .i64 1, .slice none 0 0, .slice none 0 0, .slice none 0 0, .bool false, .int .u64 0, .int .u64 0, .int .i64 0, .int .i64 0], .bool false] w1 fun e w' => e = .returned (.int .i64 0) ∧ ∃ S', Fs w' w.heap.size S' 9 aP1 ∧ Kept (fun b => b = w.heap.size) w1 w' ∧ ∀ b, S' b → b = w.heap.size ∨ w1.heap.size ≤ b) := (show ∀ w1, _ from fun w1 h hd => by
    have := add_any w.heap.size _ 9 _ (ex1 1) false w1 h (ex1_w 1 w1) hd
    rw [aR1] at this
    exact this)
  have HB : Hid (∀ S w1, Fs w1 w.heap.size S 9 aP1 → Cd w1 → Calls Tryd.prog 17 #[.pointer (some ⟨w.heap.size, 0, none⟩), .agg #[.int .i64 0, .int .i64 2, .slice none 0 0, .slice none 0 0, .slice none 0 0, .bool false, .int .u64 0, .int .u64 0, .int .i64 0, .int .i64 0], .bool true] w1 fun e w' => e = .returned (.int .i64 0) ∧ ∃ S', Fs w' w.heap.size S' 9 aP2 ∧ Kept S w1 w' ∧ ∀ b, S' b → S b ∨ w1.heap.size ≤ b) := (show ∀ S w1, _ from fun S w1 h hd => by
    have := add_any w.heap.size S 9 _ (ex1 2) true w1 h (ex1_w 2 w1) hd
    rw [aR2] at this
    exact this)
  have HL : Hid (∀ S w1, Fs w1 w.heap.size S 9 aP2 → Calls Tryd.prog 12 #[.pointer (some ⟨w.heap.size, 0, none⟩), .int .i64 0, .agg #[.int .i64 0, .int .u64 0, .int .u64 0, .int .u64 0, .int .i64 0, .int .i64 0, .int .u32 0, .int .u32 0, .int .i64 0, .int .i64 0, .int .i64 0, .int .i64 0, .string ⟨#[]⟩]] w1 fun e w' => ∃ y : Fe, e = .returned (.tuple #[feV y, .bool true]) ∧ y.p = (ex1 2).p ∧ Below w1.heap.size w1 w') := (show ∀ S w1, _ from fun S w1 h => by
    have h2 := look_any w.heap.size S 9 aP2 0 sn0 sn0_wf w1 h
    have e1 : lookP (tabOf aP2 0) sn0 = some (ex1 2).p := by
      unfold tabOf
      rw [if_pos (by decide)]
      show lookP (aP2 0) sn0 = _
      rw [aP2_0]
      rfl
    rw [e1] at h2
    exact h2.mono fun _ _ ⟨y, a, b, _, _, c⟩ => ⟨y, a, b, c⟩)
  have HD : Hid (Cd w) := hd
  clear hd
  go_enter Tryd.func8, Tryd.ntmps8
  go_wp2_with fail
  refine HN.out.mono ?_
  rintro e w1 ⟨rfl, hf1, g1⟩
  have HF1 : Hid (Fs w1 w.heap.size (fun b => b = w.heap.size) 9 (fun _ => [])) := hf1
  have HG1 : Hid (Below w.heap.size w w1) := g1
  clear hf1 g1
  go_wp2_with fail
  refine (HA.out w1 HF1.out (HD.out.below HG1.out)).mono ?_
  rintro e w2 ⟨rfl, S2, hf2, hk2, hs2⟩
  have HF2 : Hid (Fs w2 w.heap.size S2 9 aP1 ∧ (∀ b, S2 b → w.heap.size ≤ b)) := (show _ ∧ _ from ⟨hf2, fun b hb => by
    rcases hs2 b hb with h | h
    · omega
    · have := HG1.out.size; omega⟩)
  have HG2 : Hid (Below w.heap.size w w2) := HG1.out.trans (hk2.below HG1.out.size (fun k hk => by omega))
  clear hf2 hk2 hs2
  go_wp2_with fail
  refine (HB.out S2 w2 HF2.out.1 (HD.out.below HG2.out)).mono ?_
  rintro e w3 ⟨rfl, S3, hf3, hk3, hs3⟩
  have HF3 : Hid (Fs w3 w.heap.size S3 9 aP2) := hf3
  have HG3 : Hid (Below w.heap.size w w3) := HG2.out.trans (hk3.below HG2.out.size HF2.out.2)
  clear hf3 hk3 hs3
  go_wp2_with fail
  refine (HL.out S3 w3 HF3.out).mono ?_
  rintro e w4 ⟨y, rfl, hy, g4⟩
  have HG4 : Hid (Below w.heap.size w w4) := btr HG3.out g4 (Nat.le_refl _)
  have hyp : y.p.pri = 2 := by rw [hy]; rfl
  have HYP : Hid (y.p.pri = 2) := hyp
  clear g4 hy hyp
  go_wp2_with (refine store_E rfl (.tmp 5) (.tmp 27) rfl w4.heap.size 0 y rfl rfl (there_new w4 zeroE 38) ?_; intro V hV bV tV oV; clear hV; have d1 : V.cell? ⟨w4.heap.size, 1, none⟩ = some (.int .i64 2) := (by rw [← HYP.out]; exact bV.cs.2.1))
  go_ret
  refine ⟨rfl, oV.below HG4.out.size (HG4.out.alloc HG4.out.size _)⟩
end Go.Proofs.YtjjfhibkcngphaaDoor

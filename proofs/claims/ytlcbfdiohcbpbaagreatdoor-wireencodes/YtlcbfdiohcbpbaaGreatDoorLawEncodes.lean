/-
  Which bytes a message is: the law's walk.
-/
import Derived.Test.YtlcbfdiohcbpbaaGreatDoorZLS
import Derived.Test.YtlcbfdiohcbpbaaGreatDoorREnc8
namespace Go.Proofs.YtlcbfdiohcbpbaaGreatDoor
open Go.ChangeShapes Go.WideShapes Go.ChangeAt Go.RowKit
set_option linter.unusedVariables false
set_option linter.unusedSimpArgs false

set_option maxRecDepth 20000 in
set_option maxHeartbeats 16000000 in
theorem encodes_walk (m : Ms) (w : World) (h : MI w m) (hd : Ct w) : Calls Tryz.prog 3 #[msV m] w fun e w' => e = .returned (.bool true) ∧ Below w.heap.size w w' := by
  obtain ⟨W1, hW1⟩ : ∃ W1, mx w m = W1 := ⟨_, rfl⟩
  have hl : Bm W1 w.heap.size m := hW1 ▸ Bm.new w m
  have G1 : Below w.heap.size w W1 := by rw [← hW1]; go_grown
  have z1 : w.heap.size < W1.heap.size := by rw [← hW1]; simp
  have HG : Hid (Below w.heap.size w W1) := G1
  have HB : Hid (∀ w1, Below W1.heap.size W1 w1 → Bm w1 w.heap.size m ∧ w.heap.size < w1.heap.size) := (show ∀ w1, _ from fun w1 g => ⟨hl.below z1 g, Nat.lt_of_lt_of_le z1 g.size⟩)
  have HL : Hid (Bm (mx w m) w.heap.size m) := Bm.new w m
  have HW1 : Hid (w.alloc (.cells #[.int .i64 m.kind, .int .i64 m.xid, .int .i64 m.cmd, .bool m.chk, .int .i64 m.en.tab, .int .i64 m.en.pri, .slice m.en.ta m.en.tl m.en.tc, .slice m.en.aa m.en.la.length m.en.ca, .slice m.en.aw m.en.lw.length m.en.cw, .bool m.en.clr, .int .u64 m.en.mt, .int .u64 m.en.mm, .int .i64 m.en.met, .int .i64 m.en.go, .int .i64 m.gid, .int .i64 m.gkd, .slice m.ga m.gb.length m.gc, .int .i64 m.mid, .int .i64 m.mra, .int .i64 m.mbu, .int .i64 m.typ, .int .i64 m.cod, .int .i64 m.prt, .bool m.live, .slice m.aa m.la.length m.ca, .string m.dat] 33) = W1) := hW1
  have HF : Hid (Calls Tryz.prog 8 #[msV m] W1 fun e w' => e = .returned (.bool (fewM m)) ∧ Below W1.heap.size W1 w') := (show Calls _ _ _ _ _ from few_any m W1 (h.below G1))
  have HA : Hid (∀ w1, Below w.heap.size w w1 → Calls Tryz.prog 9 #[] w1 fun e w' => e = .returned (.bool true) ∧ Below w1.heap.size w1 w') := (show ∀ w1, _ from fun w1 g => awake_any w1 (hd.below g))
  clear hW1 hl G1 z1
  cases hf : fewM m with
  | false =>
    rw [hf] at HF
    clear hf h hd
    go_enter Tryz.func3, Tryz.ntmps3
    go_wp2_with (refine load_Mg rfl (.tmp 1) rfl w.heap.size m rfl HL.out ?_)
    rw [HW1.out]
    refine HF.out.mono ?_
    rintro r w1 ⟨rfl, g1⟩
    have G1 := btr HG.out g1 (Nat.le_refl _)
    go_wp2_with fail
    refine (HA.out _ G1).mono ?_
    rintro r w2 ⟨rfl, g2⟩
    go_wp2_with fail
    go_ret
    exact ⟨rfl, btr G1 g2 (Nat.le_refl _)⟩
  | true =>
    have mw := few_mw h hf
    have HE : Hid (∀ w1, Below w.heap.size w w1 → Calls Tryz.prog 10 #[msV m] w1 fun e w' => e = .returned (.tuple #[.string (encM m.msg), .int .i64 (errM m.msg)]) ∧ Below w1.heap.size w1 w') := (show ∀ w1, _ from fun w1 g => encode_M m w1 (mw.below g) h.u (hd.below g))
    have HR : Hid (∀ w1, Below w.heap.size w w1 → Calls Tryz.prog 11 #[msV m] w1 fun e w' => e = .returned (.tuple #[.string (encM m.msg), .int .i64 (errM m.msg)]) ∧ Below w1.heap.size w1 w') := (show ∀ w1, _ from fun w1 g => rencode_M m w1 (mw.below g) h.u)
    have HP : Hid (∀ w, Calls Tryz.prog 12 #[msV m] w fun e w' => e = .returned (msV m) ∧ Below w.heap.size w w') := (show ∀ w, _ from fun w => plain_M m w)
    rw [hf] at HF
    clear hf hd mw h
    generalize encM m.msg = S at *
    generalize errM m.msg = E at *
    go_enter Tryz.func3, Tryz.ntmps3
    go_wp2_with (refine load_Mg rfl (.tmp 1) rfl w.heap.size m rfl HL.out ?_)
    rw [HW1.out]
    refine HF.out.mono ?_
    rintro r w1 ⟨rfl, g1⟩
    have G1 := btr HG.out g1 (Nat.le_refl _)
    obtain ⟨b1, z1⟩ := HB.out _ g1
    go_wp2_with (refine load_Mg rfl (.tmp 1) rfl w.heap.size m rfl b1 ?_)
    refine (HE.out _ G1).mono ?_
    rintro r w2 ⟨rfl, g2⟩
    have G2 := btr G1 g2 (Nat.le_refl _)
    have b2 := b1.below z1 g2
    clear b1 z1 g1 g2
    go_wp2_with (refine load_Mg rfl (.tmp 1) rfl w.heap.size m rfl b2 ?_)
    refine (HP.out _).mono ?_
    rintro r w3 ⟨rfl, g3⟩
    have G3 := btr G2 g3 (Nat.le_refl _)
    clear b2 g3
    go_wp2_with fail
    refine (HR.out _ G3).mono ?_
    rintro r w4 ⟨rfl, g4⟩
    have G4 := btr G3 g4 (Nat.le_refl _)
    clear g4
    go_wp2_with fail
    refine (HA.out _ G4).mono ?_
    rintro r w5 ⟨rfl, g5⟩
    go_wp2_with fail
    go_ret
    exact ⟨rfl, btr G4 g5 (Nat.le_refl _)⟩
end Go.Proofs.YtlcbfdiohcbpbaaGreatDoor

/-
  What wire answers of an echo: right, body, Encode, read, Decode, as contracts.
-/
import Derived.Test.YtoklgdpdeghkpaaGreatDoorE2
import Derived.Laws.StructEq
namespace Go.Proofs.YtoklgdpdeghkpaaGreatDoor
open Go.ChangeShapes Go.WideShapes Go.ChangeAt Go.RowKit
set_option linter.unusedVariables false
set_option linter.unusedSimpArgs false

def zEn : Value := .agg #[.int .i64 0, .int .i64 0, .slice none 0 0, .slice none 0 0, .slice none 0 0, .bool false, .int .u64 0, .int .u64 0, .int .i64 0, .int .i64 0]
set_option maxHeartbeats 4000000 in
theorem noEnt_e (w : World) : Calls Tryz.prog 173 #[.agg #[.int .i64 0, .int .i64 0, .slice none 0 0, .slice none 0 0, .slice none 0 0, .bool false, .int .u64 0, .int .u64 0, .int .i64 0, .int .i64 0]] w fun e w' => e = .returned (.bool true) ∧ Below w.heap.size w w' := by
  go_enter Tryz.func173, Tryz.ntmps173
  go_wp2
  go_ret
  exact ⟨rfl, by go_grown⟩
set_option maxHeartbeats 4000000 in
theorem noGrp_e (w : World) : Calls Tryz.prog 174 #[.agg #[.int .i64 0, .int .i64 0, .slice none 0 0]] w fun e w' => e = .returned (.bool true) ∧ Below w.heap.size w w' := by
  go_enter Tryz.func174, Tryz.ntmps174
  go_wp2
  go_ret
  exact ⟨rfl, by go_grown⟩
theorem eqM0 (w : World) : (binOp .eql 38 (.agg #[.int .i64 0, .int .i64 0, .int .i64 0]) (.agg #[.int .i64 0, .int .i64 0, .int .i64 0])).run Tryz.prog w = .ok (.bool true) w := by kernel_rfl
theorem guM0 (op : BinOp) (x y : Operand) (u v : Array Value) (w : World) : (eqGuard op 38 x y (.agg u) (.agg v)).run Tryz.prog w = .ok () w := run_eqGuard_agg w op 38 x y _ _ (by kernel_rfl)
set_option maxRecDepth 20000 in
set_option maxHeartbeats 8000000 in
theorem empty_e (k x : Int) (w : World) : Calls Tryz.prog 109 #[msV ⟨k, x, ⟨#[]⟩⟩] w fun e w' => e = .returned (.bool true) ∧ Below w.heap.size w w' := by
  have HE : Hid (∀ w, Calls Tryz.prog 173 #[.agg #[.int .i64 0, .int .i64 0, .slice none 0 0, .slice none 0 0, .slice none 0 0, .bool false, .int .u64 0, .int .u64 0, .int .i64 0, .int .i64 0]] w fun e w' => e = .returned (.bool true) ∧ Below w.heap.size w w') := (show ∀ w, _ from noEnt_e)
  have HG : Hid (∀ w, Calls Tryz.prog 174 #[.agg #[.int .i64 0, .int .i64 0, .slice none 0 0]] w fun e w' => e = .returned (.bool true) ∧ Below w.heap.size w w') := (show ∀ w, _ from noGrp_e)
  have hq := eqM0
  have hg := guM0
  obtain ⟨W1, hW1⟩ : ∃ W1, mx w ⟨k, x, ⟨#[]⟩⟩ = W1 := ⟨_, rfl⟩
  have hl : Bm W1 w.heap.size ⟨k, x, ⟨#[]⟩⟩ := hW1 ▸ Bm.new w _
  have HG0 : Hid (Below w.heap.size w W1 ∧ w.heap.size < W1.heap.size) := (show Below _ _ _ ∧ _ by rw [← hW1]; exact ⟨by go_grown, by simp⟩)
  have HC : Hid (∀ w1, Bm w1 w.heap.size ⟨k, x, ⟨#[]⟩⟩ → w1.cell? ⟨w.heap.size, 0, none⟩ = some (.int .i64 k) ∧ w1.cell? ⟨w.heap.size, 1, none⟩ = some (.int .i64 x) ∧ w1.cell? ⟨w.heap.size, 2, none⟩ = some (.int .i64 0) ∧ w1.cell? ⟨w.heap.size, 3, none⟩ = some (.bool false) ∧ w1.cell? ⟨w.heap.size, 4, none⟩ = some (.int .i64 0) ∧ w1.cell? ⟨w.heap.size, 5, none⟩ = some (.int .i64 0) ∧ w1.cell? ⟨w.heap.size, 6, none⟩ = some (.slice none 0 0) ∧ w1.cell? ⟨w.heap.size, 7, none⟩ = some (.slice none 0 0) ∧ w1.cell? ⟨w.heap.size, 8, none⟩ = some (.slice none 0 0) ∧ w1.cell? ⟨w.heap.size, 9, none⟩ = some (.bool false) ∧ w1.cell? ⟨w.heap.size, 10, none⟩ = some (.int .u64 0) ∧ w1.cell? ⟨w.heap.size, 11, none⟩ = some (.int .u64 0) ∧ w1.cell? ⟨w.heap.size, 12, none⟩ = some (.int .i64 0) ∧ w1.cell? ⟨w.heap.size, 13, none⟩ = some (.int .i64 0) ∧ w1.cell? ⟨w.heap.size, 14, none⟩ = some (.int .i64 0) ∧ w1.cell? ⟨w.heap.size, 15, none⟩ = some (.int .i64 0) ∧ w1.cell? ⟨w.heap.size, 16, none⟩ = some (.slice none 0 0) ∧ w1.cell? ⟨w.heap.size, 17, none⟩ = some (.int .i64 0) ∧ w1.cell? ⟨w.heap.size, 18, none⟩ = some (.int .i64 0) ∧ w1.cell? ⟨w.heap.size, 19, none⟩ = some (.int .i64 0) ∧ w1.cell? ⟨w.heap.size, 20, none⟩ = some (.int .i64 0) ∧ w1.cell? ⟨w.heap.size, 21, none⟩ = some (.int .i64 0) ∧ w1.cell? ⟨w.heap.size, 22, none⟩ = some (.int .i64 0) ∧ w1.cell? ⟨w.heap.size, 23, none⟩ = some (.bool false) ∧ w1.cell? ⟨w.heap.size, 24, none⟩ = some (.slice none 0 0) ∧ w1.cell? ⟨w.heap.size, 25, none⟩ = some (.string ⟨#[]⟩)) := (show ∀ w1, Bm w1 w.heap.size ⟨k, x, ⟨#[]⟩⟩ → _ from fun w1 h => ⟨h 0 _ rfl, h 1 _ rfl, h 2 _ rfl, h 3 _ rfl, h 4 _ rfl, h 5 _ rfl, h 6 _ rfl, h 7 _ rfl, h 8 _ rfl, h 9 _ rfl, h 10 _ rfl, h 11 _ rfl, h 12 _ rfl, h 13 _ rfl, h 14 _ rfl, h 15 _ rfl, h 16 _ rfl, h 17 _ rfl, h 18 _ rfl, h 19 _ rfl, h 20 _ rfl, h 21 _ rfl, h 22 _ rfl, h 23 _ rfl, h 24 _ rfl, h 25 _ rfl⟩)
  have HW1 : Hid (w.alloc (.cells #[.int .i64 k, .int .i64 x, .int .i64 0, .bool false, .int .i64 0, .int .i64 0, .slice none 0 0, .slice none 0 0, .slice none 0 0, .bool false, .int .u64 0, .int .u64 0, .int .i64 0, .int .i64 0, .int .i64 0, .int .i64 0, .slice none 0 0, .int .i64 0, .int .i64 0, .int .i64 0, .int .i64 0, .int .i64 0, .int .i64 0, .bool false, .slice none 0 0, .string ⟨#[]⟩] 52) = W1) := hW1
  obtain ⟨q0, q1, q2, q3, q4, q5, q6, q7, q8, q9, q10, q11, q12, q13, q14, q15, q16, q17, q18, q19, q20, q21, q22, q23, q24, q25⟩ := HC.out _ hl
  clear hW1
  have hW1 : w.alloc (.cells #[.int .i64 k, .int .i64 x, .int .i64 0, .bool false, .int .i64 0, .int .i64 0, .slice none 0 0, .slice none 0 0, .slice none 0 0, .bool false, .int .u64 0, .int .u64 0, .int .i64 0, .int .i64 0, .int .i64 0, .int .i64 0, .slice none 0 0, .int .i64 0, .int .i64 0, .int .i64 0, .int .i64 0, .int .i64 0, .int .i64 0, .bool false, .slice none 0 0, .string ⟨#[]⟩] 52) = W1 := HW1.out
  go_enter Tryz.func109, Tryz.ntmps109
  go_wp2_with fail
  clear hW1 q0 q1 q2 q3 q4 q5 q6 q7 q8 q9 q10 q11 q12 q13 q14 q15 q16 q17 q18 q19 q20 q21 q22 q23 q24 q25
  refine (HE.out _).mono ?_
  rintro r w1 ⟨rfl, g1⟩
  have l1 := hl.below HG0.out.2 g1
  have G1 := btr HG0.out.1 g1 (Nat.le_refl _)
  have z1 := Nat.lt_of_lt_of_le HG0.out.2 g1.size
  obtain ⟨q0, q1, q2, q3, q4, q5, q6, q7, q8, q9, q10, q11, q12, q13, q14, q15, q16, q17, q18, q19, q20, q21, q22, q23, q24, q25⟩ := HC.out _ l1
  go_wp2_with fail
  clear q0 q1 q2 q3 q4 q5 q6 q7 q8 q9 q10 q11 q12 q13 q14 q15 q16 q17 q18 q19 q20 q21 q22 q23 q24 q25
  refine (HG.out _).mono ?_
  rintro r w2 ⟨rfl, g2⟩
  have l2 := l1.below z1 g2
  have G2 := btr G1 g2 (Nat.le_refl _)
  obtain ⟨q0, q1, q2, q3, q4, q5, q6, q7, q8, q9, q10, q11, q12, q13, q14, q15, q16, q17, q18, q19, q20, q21, q22, q23, q24, q25⟩ := HC.out _ l2
  go_wp2_with fail
  go_ret
  exact ⟨rfl, G2⟩
set_option maxRecDepth 20000 in
set_option maxHeartbeats 8000000 in
theorem own_e (k x : Int) (d : ByteArray) (w : World) (hk : k = 2 ∨ k = 3) (hd : d.size ≤ 1000) : Calls Tryz.prog 108 #[msV ⟨k, x, d⟩] w fun e w' => e = .returned (.bool true) ∧ Below w.heap.size w w' := by
  have hz : (d.size : Int) ≤ 1000 := by omega
  rcases hk with rfl | rfl <;>
  · go_enter Tryz.func108, Tryz.ntmps108
    go_wp2_with fail
    go_ret
    exact ⟨rfl, by go_grown⟩
set_option maxRecDepth 20000 in
set_option maxHeartbeats 8000000 in
theorem body_e (k x : Int) (d : ByteArray) (w : World) (hk : k = 2 ∨ k = 3) : Calls Tryz.prog 60 #[msV ⟨k, x, d⟩] w fun e w' => e = .returned (.string d) ∧ Below w.heap.size w w' := by
  rcases hk with rfl | rfl <;>
  · go_enter Tryz.func60, Tryz.ntmps60
    go_wp2_with fail
    go_ret
    exact ⟨rfl, by go_grown⟩
set_option maxRecDepth 20000 in
set_option maxHeartbeats 8000000 in
theorem wo_e (k x : Int) (d : ByteArray) (w : World) (hk : k = 2 ∨ k = 3) : Calls Tryz.prog 110 #[msV ⟨k, x, d⟩] w fun e w' => e = .returned (msV ⟨k, x, ⟨#[]⟩⟩) ∧ Below w.heap.size w w' := by
  have HG : Hid (∀ c d : Array Value, Below w.heap.size w ((w.alloc (.cells c 52)).alloc (.cells d 52))) := (show ∀ c d : Array Value, _ from fun c d => by go_grown)
  rcases hk with rfl | rfl
  · go_enter Tryz.func110, Tryz.ntmps110
    go_wp2_with (first | (refine load_M rfl (.tmp 1) rfl w.heap.size ⟨2, x, ⟨#[]⟩⟩ rfl (range_two _ _ _ _ _) ?_) | (refine store_M rfl (.tmp 2) (.tmp 39) rfl (w.heap.size + 1) ⟨2, x, ⟨#[]⟩⟩ rfl rfl (there_two _ _ _ _ _) ?_; intro V bV tV oV; have GV := oV.belowK (by omega) (HG.out _ _); clear oV tV))
    refine bodyPost_ret (resM (b := w.heap.size + 1) (m := ⟨2, x, ⟨#[]⟩⟩) rfl rfl bV) rfl ?_
    exact ⟨rfl, GV⟩
  · go_enter Tryz.func110, Tryz.ntmps110
    go_wp2_with (first | (refine load_M rfl (.tmp 1) rfl w.heap.size ⟨3, x, ⟨#[]⟩⟩ rfl (range_two _ _ _ _ _) ?_) | (refine store_M rfl (.tmp 2) (.tmp 39) rfl (w.heap.size + 1) ⟨3, x, ⟨#[]⟩⟩ rfl rfl (there_two _ _ _ _ _) ?_; intro V bV tV oV; have GV := oV.belowK (by omega) (HG.out _ _); clear oV tV))
    refine bodyPost_ret (resM (b := w.heap.size + 1) (m := ⟨3, x, ⟨#[]⟩⟩) rfl rfl bV) rfl ?_
    exact ⟨rfl, GV⟩
set_option maxRecDepth 20000 in
set_option maxHeartbeats 8000000 in
theorem right_e (k x : Int) (d : ByteArray) (w : World) (hk : k = 2 ∨ k = 3) (x0 : 0 ≤ x) (x1 : x ≤ 4294967295) (hd : d.size ≤ 1000) : Calls Tryz.prog 59 #[msV ⟨k, x, d⟩] w fun e w' => e = .returned (.bool true) ∧ Below w.heap.size w w' := by
  have HW : Hid (∀ w, Calls Tryz.prog 107 #[.int .i64 x, .int .i64 0, .int .i64 4294967295] w fun e w' => e = .returned (.bool true) ∧ w' = w) := (show ∀ w, _ from fun w => within_yes x 0 4294967295 w x0 x1)
  have H1 : Hid (∀ w1, Calls Tryz.prog 108 #[msV ⟨k, x, d⟩] w1 fun e w' => e = .returned (.bool true) ∧ Below w1.heap.size w1 w') := (show ∀ w1, _ from fun w1 => own_e k x d w1 hk hd)
  have H2 : Hid (∀ w1, Calls Tryz.prog 110 #[msV ⟨k, x, d⟩] w1 fun e w' => e = .returned (msV ⟨k, x, ⟨#[]⟩⟩) ∧ Below w1.heap.size w1 w') := (show ∀ w1, _ from fun w1 => wo_e k x d w1 hk)
  have H3 : Hid (∀ w1, Calls Tryz.prog 109 #[msV ⟨k, x, ⟨#[]⟩⟩] w1 fun e w' => e = .returned (.bool true) ∧ Below w1.heap.size w1 w') := (show ∀ w1, _ from fun w1 => empty_e k x w1)
  obtain ⟨W1, hW1⟩ : ∃ W1, mx w ⟨k, x, d⟩ = W1 := ⟨_, rfl⟩
  have hl : Bm W1 w.heap.size ⟨k, x, d⟩ := hW1 ▸ Bm.new w _
  have hx : W1.cell? ⟨w.heap.size, 1, none⟩ = some (.int .i64 x) := hl 1 _ rfl
  have HB : Hid (∀ w1, Below W1.heap.size W1 w1 → Bm w1 w.heap.size ⟨k, x, d⟩) := (show ∀ w1, _ from fun w1 g => hl.below (by rw [← hW1]; simp) g)
  have HG : Hid (Below w.heap.size w W1) := (show Below _ _ _ by rw [← hW1]; go_grown)
  have HW1 : Hid (w.alloc (.cells #[.int .i64 k, .int .i64 x, .int .i64 0, .bool false, .int .i64 0, .int .i64 0, .slice none 0 0, .slice none 0 0, .slice none 0 0, .bool false, .int .u64 0, .int .u64 0, .int .i64 0, .int .i64 0, .int .i64 0, .int .i64 0, .slice none 0 0, .int .i64 0, .int .i64 0, .int .i64 0, .int .i64 0, .int .i64 0, .int .i64 0, .bool false, .slice none 0 0, .string d] 52) = W1) := hW1
  clear hW1 x0 x1 hk hd
  go_enter Tryz.func59, Tryz.ntmps59
  go_wp2_with fail
  rw [HW1.out]
  refine (HW.out _).mono ?_
  rintro r w1 ⟨rfl, rfl⟩
  go_wp2_with (refine load_Mg rfl (.tmp 1) rfl w.heap.size ⟨k, x, d⟩ rfl hl ?_)
  refine (H1.out _).mono ?_
  rintro r w1 ⟨rfl, g1⟩
  clear hl
  have hl1 := HB.out _ g1
  have G1 := btr HG.out g1 (Nat.le_refl _)
  go_wp2_with (refine load_Mg rfl (.tmp 1) rfl w.heap.size ⟨k, x, d⟩ rfl hl1 ?_)
  refine (H2.out _).mono ?_
  rintro r w2 ⟨rfl, g2⟩
  have G2 := btr G1 g2 (Nat.le_refl _)
  clear hl1 g1 G1 g2
  go_wp2_with fail
  refine (H3.out _).mono ?_
  rintro r w3 ⟨rfl, g3⟩
  have G3 := btr G2 g3 (Nat.le_refl _)
  clear g3 G2
  go_wp2_with fail
  go_ret
  exact ⟨rfl, G3⟩
/-- A number that fits into so many bytes. -/
def fits (n k : Int) : Prop := (k = 1 ∧ 0 ≤ n ∧ n < 256) ∨ (k = 2 ∧ 0 ≤ n ∧ n < 65536) ∨ (k = 4 ∧ 0 ≤ n ∧ n < 4294967296)
def pbI (n k : Int) : ByteArray := pb n k.toNat
theorem pbI_size (n k : Int) : (pbI n k).size = k.toNat := pb_size _ _
theorem wput_i (n k : Int) (w : World) (h : fits n k) : Calls Tryz.prog 61 #[.int .i64 n, .int .i64 k] w fun e w' => e = .returned (.string (pbI n k)) ∧ Below w.heap.size w w' := by
  rcases h with ⟨rfl, h0, h1⟩ | ⟨rfl, h0, h1⟩ | ⟨rfl, h0, h1⟩
  · exact wput1 n w h0 h1
  · exact wput2 n w h0 h1
  · exact wput4 n w h0 h1
theorem wput_h : Hid (∀ n k w, fits n k → Calls Tryz.prog 61 #[.int .i64 n, .int .i64 k] w fun e w' => e = .returned (.string (pbI n k)) ∧ Below w.heap.size w w') := by
  intro n k w h
  exact wput_i n k w h
/-- The bytes of an echo. -/
def encE (k x : Int) (d : ByteArray) : ByteArray := pb 4 1 ++ pb k 1 ++ pb (8 + (d.size : Int)) 2 ++ pb x 4 ++ d
set_option maxRecDepth 20000 in
set_option maxHeartbeats 8000000 in
theorem encode_e (k x : Int) (d : ByteArray) (w : World) (hk : k = 2 ∨ k = 3) (x0 : 0 ≤ x) (x1 : x ≤ 4294967295) (hd : d.size ≤ 1000) : Calls Tryz.prog 28 #[msV ⟨k, x, d⟩] w fun e w' => e = .returned (.tuple #[.string (encE k x d), .int .i64 0]) ∧ Below w.heap.size w w' := by
  have H1 : Hid (∀ w1, Calls Tryz.prog 59 #[msV ⟨k, x, d⟩] w1 fun e w' => e = .returned (.bool true) ∧ Below w1.heap.size w1 w') := (show ∀ w1, _ from fun w1 => right_e k x d w1 hk x0 x1 hd)
  have HC : Hid (∀ w1, Calls Tryz.prog 60 #[msV ⟨k, x, d⟩] w1 fun e w' => e = .returned (.string d) ∧ Below w1.heap.size w1 w') := (show ∀ w1, _ from fun w1 => body_e k x d w1 hk)
  obtain ⟨W1, hW1⟩ : ∃ W1, mx w ⟨k, x, d⟩ = W1 := ⟨_, rfl⟩
  have hl : Bm W1 w.heap.size ⟨k, x, d⟩ := hW1 ▸ Bm.new w _
  have HG : Hid (Below w.heap.size w W1) := (show Below _ _ _ by rw [← hW1]; go_grown)
  have HB : Hid (∀ w1, Below W1.heap.size W1 w1 → Bm w1 w.heap.size ⟨k, x, d⟩ ∧ w.heap.size < w1.heap.size) := (show ∀ w1, _ from fun w1 g => ⟨hl.below (by rw [← hW1]; simp) g, Nat.lt_of_lt_of_le (by rw [← hW1]; simp) g.size⟩)
  have HL : Hid (Bm (mx w ⟨k, x, d⟩) w.heap.size ⟨k, x, d⟩) := Bm.new w _
  have HW1 : Hid (w.alloc (.cells #[.int .i64 k, .int .i64 x, .int .i64 0, .bool false, .int .i64 0, .int .i64 0, .slice none 0 0, .slice none 0 0, .slice none 0 0, .bool false, .int .u64 0, .int .u64 0, .int .i64 0, .int .i64 0, .int .i64 0, .int .i64 0, .slice none 0 0, .int .i64 0, .int .i64 0, .int .i64 0, .int .i64 0, .int .i64 0, .int .i64 0, .bool false, .slice none 0 0, .string d] 52) = W1) := hW1
  have k0 : 0 ≤ k := by omega
  have k1 : k ≤ 29 := by omega
  have HP := wput_h
  have hps := pbI_size
  have e3 : encE k x d = pb 4 1 ++ pb k 1 ++ pb (8 + (d.size : Int)) 2 ++ pb x 4 ++ d := rfl
  rw [e3]
  clear hW1 hk e3
  go_enter Tryz.func28, Tryz.ntmps28
  go_wp2_with (refine load_Mg rfl (.tmp 1) rfl w.heap.size ⟨k, x, d⟩ rfl HL.out ?_)
  rw [HW1.out]
  refine (H1.out _).mono ?_
  rintro r w1 ⟨rfl, g1⟩
  obtain ⟨hb1, z1⟩ := HB.out _ g1
  have G1 := btr HG.out g1 (Nat.le_refl _)
  go_wp2_with (refine load_Mg rfl (.tmp 1) rfl w.heap.size ⟨k, x, d⟩ rfl hb1 ?_)
  refine (HC.out _).mono ?_
  rintro r w2 ⟨rfl, g2⟩
  have G2 := btr G1 g2 (Nat.le_refl _)
  have b2 := btr g1 g2 (Nat.le_refl _)
  obtain ⟨hb2, z2⟩ := HB.out _ b2
  have q0 : ∀ n : GrT w2, n.w.cell? ⟨w.heap.size, 0, none⟩ = some (.int .i64 k) := fun n => (Bm.gr hb2 z2 n) 0 _ rfl
  have q1 : ∀ n : GrT w2, n.w.cell? ⟨w.heap.size, 1, none⟩ = some (.int .i64 x) := fun n => (Bm.gr hb2 z2 n) 1 _ rfl
  clear g1 g2 hb1 hb2 z1 z2 G1 b2 hl
  go_wp2_with fail
  refine wp_region_grow (by kernel_rfl) (by kernel_rfl) ?_
  repeat (go_big_quiet_step ((first | (go_at_call 61; exact quiet_gr (HP.out _ _ _ (by unfold fits; omega))))))
  refine wpQuiet_nil ?_
  rintro w3 hw'
  have g3 := gr_elim hw'
  clear hw' q0 q1
  go_wp2_with fail
  go_ret2
  exact ⟨rfl, btr G2 g3 (Nat.le_refl _)⟩
end Go.Proofs.YtoklgdpdeghkpaaGreatDoor

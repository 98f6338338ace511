/-
  The walk of the law FrameTagged.
-/
import Derived.Test.YtldbbbhoemnlmaaTrip
import Derived.Deep.RegionHeld
namespace Go.Proofs.Ytldbbbhoemnlmaa
open Go.ChangeShapes Go.WideShapes Go.ChangeAt Go.RowKit

theorem tag_right (p : Pk) (n : Int) (hv : p.vl = 0) (n0 : 0 ≤ n) (n1 : n ≤ 4095) : rightB { p with vl := 4096 + n } = rightB p := by
  have e : (p.vl == 0 || inB p.vl 4096 8191) = true := by simp [hv]
  have e2 : ((4096 + n : Int) == 0 || inB (4096 + n) 4096 8191) = true := by
    have : inB (4096 + n) 4096 8191 = true := inB_iff.2 ⟨by omega, by omega⟩
    simp [this]
  unfold rightB
  rw [e]
  simp only [e2]
  rfl
theorem tag_err (p : Pk) (n : Int) (hv : p.vl = 0) (n0 : 0 ≤ n) (n1 : n ≤ 4095) (hd : p.data.size ≤ 1000) : bytesE { p with vl := 4096 + n } = bytesE p := by
  have h1 := aheadV_le p
  have h2 := aheadV_le { p with vl := 4096 + n }
  unfold bytesE
  rw [tag_right p n hv n0 n1]
  split
  · rw [if_pos (show aheadV { p with vl := 4096 + n } + p.data.size ≤ 1500 by omega), if_pos (by omega)]
  · rfl
theorem ext_left (x t : ByteArray) (k : Nat) (h : x.size = k) : (x ++ t).extract 0 k = x := by rw [← h]; exact extract_left x t
theorem ext_right (x t : ByteArray) (k : Nat) (h : x.size = k) : (x ++ t).extract k (x ++ t).size = t := by rw [← h]; exact extract_right x t
theorem tag_bytes (p : Pk) (n : Int) (hw : Wf p) (hv : p.vl = 0) (n0 : 0 ≤ n) (n1 : n ≤ 4095) (hd : p.data.size ≤ 1000) (hE : bytesE p = 0) :
    14 ≤ (bytesS p).size ∧ (bytesS p).size ≤ 1500 ∧ bytesS { p with vl := 4096 + n } = (bytesS p).extract 0 12 ++ ⟨#[129, 0]⟩ ++ pb n 2 ++ (bytesS p).extract 12 (bytesS p).size := by
  have hr : rightB p = true := by
    unfold bytesE at hE
    by_cases hr : rightB p = true
    · exact hr
    · rw [if_neg hr] at hE; omega
  have h1 := aheadV_le p
  have h2 := aheadV_le { p with vl := 4096 + n }
  have e : bytesS p = writeV p (sumA p) (sumB p) := if_pos ⟨hr, by omega⟩
  have eq : bytesS { p with vl := 4096 + n } = writeV { p with vl := 4096 + n } (sumA p) (sumB p) := if_pos ⟨(tag_right p n hv n0 n1).trans hr, by show aheadV { p with vl := 4096 + n } + p.data.size ≤ 1500; omega⟩
  have z := writeV_size p (sumA p) (sumB p) (right_pro hw hr)
  rw [← e] at z
  obtain ⟨y, hy⟩ : ∃ y, y = (if p.ty = 2048 then pb p.ty 2 ++ (headV p (sumA p) ++ partV p (sumB p)) else pb p.ty 2 ++ p.data) := ⟨_, rfl⟩
  have e1 : bytesS p = (pb p.to 6 ++ pb p.fr 6) ++ y := by
    rw [e, hy]; unfold writeV outerV; rw [if_pos hv]; split <;> simp only [ap_assoc]
  have e2 : bytesS { p with vl := 4096 + n } = (pb p.to 6 ++ pb p.fr 6) ++ (pb 33024 2 ++ pb n 2) ++ y := by
    rw [eq, hy]; unfold writeV outerV
    rw [if_neg (show ¬ (4096 + n : Int) = 0 by omega)]
    simp only [show (4096 + n : Int) - 4096 = n by omega]
    split <;> simp only [ap_assoc] <;> rfl
  have xz : (pb p.to 6 ++ pb p.fr 6).size = 12 := by simp only [ByteArray.size_append, pb_size]
  have a14 : 14 ≤ aheadV p := by unfold aheadV; omega
  refine ⟨by rw [z]; omega, by rw [z]; omega, ?_⟩
  rw [e2, e1, ext_left _ _ 12 xz, ext_right _ _ 12 xz]
  have f1 : pb 33024 2 = ⟨#[129, 0]⟩ := by apply ba_ext; rw [pb_list]; rfl
  rw [f1]
  simp only [ap_assoc]

set_option maxHeartbeats 1000000 in
theorem tag_ok (p : Pk) (n : Int) (s t : ByteArray) (w : World) (hd : (p.data.size : Int) ≤ 1000) (bv : (p.vl != 0) = false) (n0 : 0 ≤ n) (n1 : n ≤ 4095) (h14 : 14 ≤ s.size) (h15 : s.size ≤ 1500)
    (ht : t = s.extract 0 12 ++ ⟨#[129, 0]⟩ ++ pb n 2 ++ s.extract 12 s.size)
    (H1 : Hid (∀ w, Calls Try.prog 9 #[pkV p] w fun x w' => x = .returned (.tuple #[.string s, .int .i64 0]) ∧ Below w.heap.size w w')) (H2 : Hid (∀ w, Calls Try.prog 9 #[pkV { p with vl := 4096 + n }] w fun x w' => x = .returned (.tuple #[.string t, .int .i64 0]) ∧ Below w.heap.size w w')) :
    Calls Try.prog 6 #[pkV p, .int .i64 n] w fun x w' => x = .returned (.bool true) ∧ Below w.heap.size w w' := by
  subst ht
  have i14 : (14 : Int) ≤ (s.size : Int) := by omega
  have i15 : (s.size : Int) ≤ 1500 := by omega
  have i12 : (12 : Int) ≤ (s.size : Int) := by omega
  have z1 : ((s.extract 0 12).size : Int) = 12 := by rw [ByteArray.size_extract]; omega
  have hz : ∀ n k, (pb n k).size = k := pb_size
  have z2 : ((pb n 2).size : Int) = 2 := by rw [pb_size]; rfl
  have z3 : ((s.extract 12 s.size).size : Int) = (s.size : Int) - 12 := by rw [ByteArray.size_extract]; omega
  have m1 : (s.extract 0 12).size = 12 := by omega
  have m2 := pb_size n 2
  have m3 : (s.extract 12 s.size).size = s.size - 12 := by omega
  have m5 : (s.extract 0 12 ++ (⟨#[129, 0]⟩ : ByteArray)).size = 14 := by rw [ByteArray.size_append, m1]; rfl
  have m6 : (s.extract 0 12 ++ (⟨#[129, 0]⟩ : ByteArray) ++ pb n 2).size = 16 := by rw [ByteArray.size_append, m5, m2]
  have z5 : ((s.extract 0 12 ++ (⟨#[129, 0]⟩ : ByteArray)).size : Int) = 14 := by omega
  have z6 : ((s.extract 0 12 ++ (⟨#[129, 0]⟩ : ByteArray) ++ pb n 2).size : Int) = 16 := by omega
  have m7 : (s.extract 0 12 ++ (⟨#[129, 0]⟩ : ByteArray) ++ pb n 2 ++ s.extract 12 s.size).size = s.size + 4 := by rw [ByteArray.size_append, m6, m3]; omega
  have z7 : (16 : Int) + ((s.size - 12 : Nat) : Int) ≤ 1600 := by omega
  have z8 : 16 + (s.size - 12) ≤ 1600 := by omega
  have m4 : min 12 s.size = 12 := by omega
  have f2 : pb n 2 = strOfNums [n / 256, n % 256] := by
    have q : n / 256 % 256 = n / 256 := by omega
    apply ba_ext; rw [pb_list, strOf_list]; simp [pieces, q]
  have hcv : ∀ w : World, (convert 35 9 (.slice (some ⟨w.heap.size, 0, none⟩) 2 2)).run Try.prog (w.alloc (.cells #[.int .u8 (n / 256), .int .u8 (n % 256)] 5)).drew = .ok (.string (pb n 2)) (w.alloc (.cells #[.int .u8 (n / 256), .int .u8 (n % 256)] 5)).drew := by
    intro w
    rw [f2]
    refine run_convert_bytes_arg _ 35 5 Try.underlying35 Try.underlying5 w.heap.size 0 2 2 [n / 256, n % 256] rfl (fun i hi => ?_) 9 Try.underlying9
    have : i = 0 ∨ i = 1 := by omega
    rcases this with rfl | rfl <;> simp
  have r1 : IntKind.u8.wrap (IntKind.i64.wrap (n.tdiv 256)) = n / 256 := by
    rw [Int.tdiv_eq_ediv_of_nonneg n0, IntKind.wrap_i64]; simp [IntKind.wrap, IntKind.bits, IntKind.signed]; omega
  have r2 : IntKind.u8.wrap (n.tmod 256) = n % 256 := by
    rw [Int.tmod_eq_emod_of_nonneg n0]; simp [IntKind.wrap, IntKind.bits, IntKind.signed]
  have hcr : ∀ w : World, (convert 35 9 (.slice (some ⟨w.heap.size, 0, none⟩) 2 2)).run Try.prog (w.alloc (.cells #[.int .u8 (IntKind.u8.wrap (IntKind.i64.wrap (n.tdiv 256))), .int .u8 (IntKind.u8.wrap (n.tmod 256))] 5)).drew = .ok (.string (pb n 2)) (w.alloc (.cells #[.int .u8 (IntKind.u8.wrap (IntKind.i64.wrap (n.tdiv 256))), .int .u8 (IntKind.u8.wrap (n.tmod 256))] 5)).drew := by
    intro w; rw [r1, r2]; exact hcv w
  clear f2 r1 r2
  go_enter Try.func6, Try.ntmps6
  go_wp2_with fail
  refine (H1.out _).mono ?_
  rintro x w1 ⟨rfl, g1⟩
  have B1 : Bw w1 w.heap.size p := (Bw.new w p).below (by simp) g1
  have L1 : w.heap.size < w1.heap.size := Nat.lt_of_lt_of_le (by simp) g1.size
  have G1 : Below w.heap.size w w1 := btr (by go_grown) g1 (by simp)
  obtain ⟨⟨h0, h1, h2, h3, h4, h5, h6, h7, h8, h9, h10⟩, hf⟩ := B1
  have B2 := Bw.set2 (w := w1) (b := w.heap.size) (p := p) ⟨⟨h0, h1, h2, h3, h4, h5, h6, h7, h8, h9, h10⟩, hf⟩ (4096 + n)
  go_wp2_with fail
  refine (H2.out _).mono ?_
  rintro x w2 ⟨rfl, g2⟩
  have G2 : Below w.heap.size w w2 := btr (G1.setCell (Nat.le_refl _) _) g2 (Nat.le_refl _)
  clear h0 h1 h2 h3 h4 h5 h6 h7 h8 h9 h10 hf B2 g1 g2
  go_wp2_with fail
  refine wp_region_held_drew (S := fun _ => True) (by kernel_rfl) trivial (fun _ => ?_)
  refine wpAnyH_take (i := 0) (oi := { dst := some 52, op := Op.move (Operand.tmp 5), type := 9, pos := _, after := #[], guard := none }) (v := ?v0) rfl (by kernel_rfl) (by kernel_rfl) (by kernel_rfl) (fun _ _ _ h => h) (Or.inl ⟨by rfl, ?h0⟩) trivial ?r0
  case h0 => (intro w' _; go_simp <;> with_reducible rfl)
  try simp only [Act.put, List.setIfInBounds_toArray, List.set_cons_zero, List.set_cons_succ]
  refine wpAnyH_take (i := 1) (oi := { dst := some 53, op := Op.call { callee := Callee.builtin Builtin.len, args := #[Operand.tmp 52], argTypes := #[9] }, type := 3, pos := _, after := #[{ on := 0, ground := Ground.data }], guard := none }) (v := ?v1) rfl (by kernel_rfl) (by kernel_rfl) (by kernel_rfl) (fun _ _ _ h => h) (Or.inl ⟨by rfl, ?h1⟩) trivial ?r1
  case h1 => (intro w' _; go_simp <;> with_reducible rfl)
  try simp only [Act.put, List.setIfInBounds_toArray, List.set_cons_zero, List.set_cons_succ]
  refine wpAnyH_take (i := 2) (oi := { dst := some 54, op := Op.binOp BinOp.geq 3 (Operand.tmp 53) (Operand.const (Value.int IntKind.i64 14)) 3, type := 4, pos := _, after := #[{ on := 1, ground := Ground.data }], guard := none }) (v := ?v2) rfl (by kernel_rfl) (by kernel_rfl) (by kernel_rfl) (fun _ _ _ h => h) (Or.inl ⟨by rfl, ?h2⟩) trivial ?r2
  case h2 => (intro w' _; go_simp <;> with_reducible rfl)
  try simp only [Act.put, List.setIfInBounds_toArray, List.set_cons_zero, List.set_cons_succ]
  refine wpAnyH_take (i := 3) (oi := { dst := some 55, op := Op.move (Operand.tmp 54), type := 4, pos := _, after := #[{ on := 2, ground := Ground.data }], guard := none }) (v := ?v3) rfl (by kernel_rfl) (by kernel_rfl) (by kernel_rfl) (fun _ _ _ h => h) (Or.inl ⟨by rfl, ?h3⟩) trivial ?r3
  case h3 => (intro w' _; go_simp <;> with_reducible rfl)
  try simp only [Act.put, List.setIfInBounds_toArray, List.set_cons_zero, List.set_cons_succ]
  refine wpAnyH_take (i := 4) (oi := { dst := some 56, op := Op.move (Operand.tmp 7), type := 9, pos := _, after := #[{ on := 3, ground := Ground.guard }], guard := some (3, true) }) (v := ?v4) rfl (by kernel_rfl) (by kernel_rfl) (by kernel_rfl) (fun _ _ _ h => h) (Or.inl ⟨by rfl, ?h4⟩) trivial ?r4
  case h4 => (intro w' _; go_simp <;> with_reducible rfl)
  try simp only [Act.put, List.setIfInBounds_toArray, List.set_cons_zero, List.set_cons_succ]
  refine wpAnyH_take (i := 5) (oi := { dst := some 57, op := Op.move (Operand.tmp 5), type := 9, pos := _, after := #[{ on := 3, ground := Ground.guard }], guard := some (3, true) }) (v := ?v5) rfl (by kernel_rfl) (by kernel_rfl) (by kernel_rfl) (fun _ _ _ h => h) (Or.inl ⟨by rfl, ?h5⟩) trivial ?r5
  case h5 => (intro w' _; go_simp <;> with_reducible rfl)
  try simp only [Act.put, List.setIfInBounds_toArray, List.set_cons_zero, List.set_cons_succ]
  refine wpAnyH_take (i := 6) (oi := { dst := some 58, op := Op.slice 9 (Operand.tmp 57) none (some (Operand.const (Value.int IntKind.i64 12))) none, type := 9, pos := _, after := #[{ on := 5, ground := Ground.data }, { on := 3, ground := Ground.guard }], guard := some (3, true) }) (v := ?v6) rfl (by kernel_rfl) (by kernel_rfl) (by kernel_rfl) (fun _ _ _ h => h) (Or.inl ⟨by rfl, ?h6⟩) trivial ?r6
  case h6 => (intro w' _; go_simp <;> with_reducible rfl)
  try simp only [Act.put, List.setIfInBounds_toArray, List.set_cons_zero, List.set_cons_succ]
  refine wpAnyH_take (i := 7) (oi := { dst := some 59, op := Op.binOp BinOp.add 9 (Operand.tmp 58) (Operand.const (Value.string { data := #[129, 0] })) 9, type := 9, pos := _, after := #[{ on := 6, ground := Ground.data }, { on := 3, ground := Ground.guard }], guard := some (3, true) }) (v := ?v7) rfl (by kernel_rfl) (by kernel_rfl) (by kernel_rfl) (fun _ _ _ h => h) (Or.inl ⟨by rfl, ?h7⟩) trivial ?r7
  case h7 => (intro w' _; go_simp <;> with_reducible rfl)
  try simp only [Act.put, List.setIfInBounds_toArray, List.set_cons_zero, List.set_cons_succ]
  refine wpAnyH_take (i := 8) (oi := { dst := some 60, op := Op.move (Operand.tmp 1), type := 3, pos := _, after := #[{ on := 3, ground := Ground.guard }], guard := some (3, true) }) (v := ?v8) rfl (by kernel_rfl) (by kernel_rfl) (by kernel_rfl) (fun _ _ _ h => h) (Or.inl ⟨by rfl, ?h8⟩) trivial ?r8
  case h8 => (intro w' _; go_simp <;> with_reducible rfl)
  try simp only [Act.put, List.setIfInBounds_toArray, List.set_cons_zero, List.set_cons_succ]
  refine wpAnyH_take (i := 9) (oi := { dst := some 61, op := Op.binOp BinOp.quo 3 (Operand.tmp 60) (Operand.const (Value.int IntKind.i64 256)) 3, type := 3, pos := _, after := #[{ on := 8, ground := Ground.data }, { on := 3, ground := Ground.guard }], guard := some (3, true) }) (v := ?v9) rfl (by kernel_rfl) (by kernel_rfl) (by kernel_rfl) (fun _ _ _ h => h) (Or.inl ⟨by rfl, ?h9⟩) trivial ?r9
  case h9 => (intro w' _; go_simp <;> with_reducible rfl)
  try simp only [Act.put, List.setIfInBounds_toArray, List.set_cons_zero, List.set_cons_succ]
  refine wpAnyH_take (i := 10) (oi := { dst := some 62, op := Op.convert 3 5 (Operand.tmp 61), type := 5, pos := _, after := #[{ on := 9, ground := Ground.data }, { on := 3, ground := Ground.guard }], guard := some (3, true) }) (v := ?v10) rfl (by kernel_rfl) (by kernel_rfl) (by kernel_rfl) (fun _ _ _ h => h) (Or.inl ⟨by rfl, ?h10⟩) trivial ?r10
  case h10 => (intro w' _; go_simp <;> with_reducible rfl)
  try simp only [Act.put, List.setIfInBounds_toArray, List.set_cons_zero, List.set_cons_succ]
  refine wpAnyH_take (i := 11) (oi := { dst := some 63, op := Op.move (Operand.tmp 1), type := 3, pos := _, after := #[{ on := 3, ground := Ground.guard }], guard := some (3, true) }) (v := ?v11) rfl (by kernel_rfl) (by kernel_rfl) (by kernel_rfl) (fun _ _ _ h => h) (Or.inl ⟨by rfl, ?h11⟩) trivial ?r11
  case h11 => (intro w' _; go_simp <;> with_reducible rfl)
  try simp only [Act.put, List.setIfInBounds_toArray, List.set_cons_zero, List.set_cons_succ]
  refine wpAnyH_take (i := 12) (oi := { dst := some 64, op := Op.binOp BinOp.rem 3 (Operand.tmp 63) (Operand.const (Value.int IntKind.i64 256)) 3, type := 3, pos := _, after := #[{ on := 11, ground := Ground.data }, { on := 3, ground := Ground.guard }], guard := some (3, true) }) (v := ?v12) rfl (by kernel_rfl) (by kernel_rfl) (by kernel_rfl) (fun _ _ _ h => h) (Or.inl ⟨by rfl, ?h12⟩) trivial ?r12
  case h12 => (intro w' _; go_simp <;> with_reducible rfl)
  try simp only [Act.put, List.setIfInBounds_toArray, List.set_cons_zero, List.set_cons_succ]
  refine wpAnyH_take (i := 13) (oi := { dst := some 65, op := Op.convert 3 5 (Operand.tmp 64), type := 5, pos := _, after := #[{ on := 12, ground := Ground.data }, { on := 3, ground := Ground.guard }], guard := some (3, true) }) (v := ?v13) rfl (by kernel_rfl) (by kernel_rfl) (by kernel_rfl) (fun _ _ _ h => h) (Or.inl ⟨by rfl, ?h13⟩) trivial ?r13
  case h13 => (intro w' _; go_simp <;> with_reducible rfl)
  try simp only [Act.put, List.setIfInBounds_toArray, List.set_cons_zero, List.set_cons_succ]
  refine wpAnyH_take (i := 17) (oi := { dst := some 69, op := Op.move (Operand.tmp 5), type := 9, pos := _, after := #[{ on := 3, ground := Ground.guard }], guard := some (3, true) }) (v := ?v17) rfl (by kernel_rfl) (by kernel_rfl) (by kernel_rfl) (fun _ _ _ h => h) (Or.inl ⟨by rfl, ?h17⟩) trivial ?r17
  case h17 => (intro w' _; go_simp <;> with_reducible rfl)
  try simp only [Act.put, List.setIfInBounds_toArray, List.set_cons_zero, List.set_cons_succ]
  refine wpAnyH_take (i := 18) (oi := { dst := some 70, op := Op.slice 9 (Operand.tmp 69) (some (Operand.const (Value.int IntKind.i64 12))) none none, type := 9, pos := _, after := #[{ on := 17, ground := Ground.data }, { on := 3, ground := Ground.guard }], guard := some (3, true) }) (v := ?v18) rfl (by kernel_rfl) (by kernel_rfl) (by kernel_rfl) (fun _ _ _ h => h) (Or.inl ⟨by rfl, ?h18⟩) trivial ?r18
  case h18 => (intro w' _; go_simp <;> with_reducible rfl)
  try simp only [Act.put, List.setIfInBounds_toArray, List.set_cons_zero, List.set_cons_succ]
  refine wpAnyH_ready (rs := [14]) (by kernel_rfl) (by simp) ?_
  refine AllReadyH.cons (o := { dst := some 66, op := Op.buildSlice 35 2 #[(0, Operand.tmp 62), (1, Operand.tmp 65)], type := 35, pos := _, after := #[{ on := 10, ground := Ground.data }, { on := 13, ground := Ground.data }, { on := 3, ground := Ground.guard }], guard := some (3, true) }) rfl (fun K hK => ?_) AllReadyH.nil
  go_simp
  refine hK.out _ _ trivial (fun _ => ?_)
  clear hK K
  try simp only [Act.put, List.setIfInBounds_toArray, List.set_cons_zero, List.set_cons_succ]
  refine wpAnyH_ready (rs := [15]) (by kernel_rfl) (by simp) ?_
  refine AllReadyH.cons (o := { dst := some 67, op := Op.convert 35 9 (Operand.tmp 66), type := 9, pos := _, after := #[{ on := 14, ground := Ground.data }, { on := 3, ground := Ground.guard }], guard := some (3, true) }) rfl (fun K hK => ?_) AllReadyH.nil
  go_simp
  refine hK.out _ _ trivial (fun _ => ?_)
  clear hK K
  try simp only [Act.put, List.setIfInBounds_toArray, List.set_cons_zero, List.set_cons_succ]
  refine wpAnyH_take (i := 16) (oi := { dst := some 68, op := Op.binOp BinOp.add 9 (Operand.tmp 59) (Operand.tmp 67) 9, type := 9, pos := _, after := #[{ on := 7, ground := Ground.data }, { on := 15, ground := Ground.data }, { on := 3, ground := Ground.guard }], guard := some (3, true) }) (v := ?v16) rfl (by kernel_rfl) (by kernel_rfl) (by kernel_rfl) (fun _ _ _ h => h) (Or.inl ⟨by rfl, ?h16⟩) trivial ?r16
  case h16 => (intro w' _; go_simp <;> with_reducible rfl)
  try simp only [Act.put, List.setIfInBounds_toArray, List.set_cons_zero, List.set_cons_succ]
  refine wpAnyH_take (i := 19) (oi := { dst := some 71, op := Op.binOp BinOp.add 9 (Operand.tmp 68) (Operand.tmp 70) 9, type := 9, pos := _, after := #[{ on := 16, ground := Ground.data }, { on := 18, ground := Ground.data }, { on := 3, ground := Ground.guard }], guard := some (3, true) }) (v := ?v19) rfl (by kernel_rfl) (by kernel_rfl) (by kernel_rfl) (fun _ _ _ h => h) (Or.inl ⟨by rfl, ?h19⟩) trivial ?r19
  case h19 => (intro w' _; go_simp; rw [if_neg (by omega)])
  try simp only [Act.put, List.setIfInBounds_toArray, List.set_cons_zero, List.set_cons_succ]
  refine wpAnyH_take (i := 20) (oi := { dst := some 72, op := Op.binOp BinOp.eql 9 (Operand.tmp 56) (Operand.tmp 71) 9, type := 4, pos := _, after := #[{ on := 4, ground := Ground.data }, { on := 19, ground := Ground.data }, { on := 3, ground := Ground.guard }], guard := some (3, true) }) (v := ?v20) rfl (by kernel_rfl) (by kernel_rfl) (by kernel_rfl) (fun _ _ _ h => h) (Or.inl ⟨by rfl, ?h20⟩) trivial ?r20
  case h20 => (intro w' _; go_simp <;> with_reducible rfl)
  try simp only [Act.put, List.setIfInBounds_toArray, List.set_cons_zero, List.set_cons_succ]
  refine wpAnyH_take (i := 21) (oi := { dst := some 73, op := Op.pick (Operand.tmp 55) (Operand.tmp 72) (Operand.const (Value.bool false)), type := 4, pos := _, after := #[{ on := 3, ground := Ground.data }, { on := 20, ground := Ground.data }], guard := none }) (v := ?v21) rfl (by kernel_rfl) (by kernel_rfl) (by kernel_rfl) (fun _ _ _ h => h) (Or.inl ⟨by rfl, ?h21⟩) trivial ?r21
  case h21 => (intro w' _; go_simp <;> with_reducible rfl)
  try simp only [Act.put, List.setIfInBounds_toArray, List.set_cons_zero, List.set_cons_succ]
  refine wpAnyH_take (i := 22) (oi := { dst := some 74, op := Op.move (Operand.tmp 73), type := 4, pos := _, after := #[{ on := 21, ground := Ground.data }, { on := 3, ground := Ground.chain }], guard := none }) (v := ?v22) rfl (by kernel_rfl) (by kernel_rfl) (by kernel_rfl) (fun _ _ _ h => h) (Or.inl ⟨by rfl, ?h22⟩) trivial ?r22
  case h22 => (intro w' _; go_simp <;> with_reducible rfl)
  try simp only [Act.put, List.setIfInBounds_toArray, List.set_cons_zero, List.set_cons_succ]
  refine wpAnyH_ready (rs := [23]) (by kernel_rfl) (by simp) ?_
  refine AllReadyH.cons (o := { dst := some 75, op := Op.call { callee := Callee.value (Operand.func 8), args := #[], argTypes := #[] }, type := 4, pos := _, after := #[{ on := 22, ground := Ground.chain }, { on := 22, ground := Ground.guard }], guard := some (22, true) }) rfl (fun K hK => ?_) AllReadyH.nil
  go_simp
  refine (awake_any _).mono ?_
  rintro x w3 ⟨rfl, g3⟩
  go_wp2_with fail
  refine hK.out _ _ trivial (fun _ => ?_)
  clear hK K
  try simp only [Act.put, List.setIfInBounds_toArray, List.set_cons_zero, List.set_cons_succ]
  refine wpAnyH_take (i := 24) (oi := { dst := some 76, op := Op.pick (Operand.tmp 74) (Operand.tmp 75) (Operand.const (Value.bool false)), type := 4, pos := _, after := #[{ on := 22, ground := Ground.data }, { on := 23, ground := Ground.data }], guard := none }) (v := ?v24) rfl (by kernel_rfl) (by kernel_rfl) (by kernel_rfl) (fun _ _ _ h => h) (Or.inl ⟨by rfl, ?h24⟩) trivial ?r24
  case h24 => (intro w' _; go_simp <;> with_reducible rfl)
  try simp only [Act.put, List.setIfInBounds_toArray, List.set_cons_zero, List.set_cons_succ]
  refine wpAnyH_take (i := 25) (oi := { dst := some 4, op := Op.assign (Operand.tmp 76), type := 4, pos := _, after := #[{ on := 24, ground := Ground.data }, { on := 23, ground := Ground.chain }, { on := 0, ground := Ground.phase }, { on := 1, ground := Ground.phase }, { on := 2, ground := Ground.phase }, { on := 3, ground := Ground.phase }, { on := 4, ground := Ground.phase }, { on := 5, ground := Ground.phase }, { on := 6, ground := Ground.phase }, { on := 7, ground := Ground.phase }, { on := 8, ground := Ground.phase }, { on := 9, ground := Ground.phase }, { on := 10, ground := Ground.phase }, { on := 11, ground := Ground.phase }, { on := 12, ground := Ground.phase }, { on := 13, ground := Ground.phase }, { on := 14, ground := Ground.phase }, { on := 15, ground := Ground.phase }, { on := 16, ground := Ground.phase }, { on := 17, ground := Ground.phase }, { on := 18, ground := Ground.phase }, { on := 19, ground := Ground.phase }, { on := 20, ground := Ground.phase }, { on := 21, ground := Ground.phase }, { on := 22, ground := Ground.phase }, { on := 23, ground := Ground.phase }, { on := 24, ground := Ground.phase }], guard := none }) (v := ?v25) rfl (by kernel_rfl) (by kernel_rfl) (by kernel_rfl) (fun _ _ _ h => h) (Or.inl ⟨by rfl, ?h25⟩) trivial ?r25
  case h25 => (intro w' _; go_simp <;> with_reducible rfl)
  try simp only [Act.put, List.setIfInBounds_toArray, List.set_cons_zero, List.set_cons_succ]
  refine wpAnyH_done (by kernel_rfl) ?_ _
  go_wp2_with fail
  go_ret
  exact ⟨rfl, btr ((G2.alloc G2.size _).drew) g3 (Nat.le_refl _)⟩

set_option maxHeartbeats 1000000 in
theorem tag_bad (p : Pk) (n : Int) (w : World) (hd : (p.data.size : Int) ≤ 1000) (bv : (p.vl != 0) = false) (n0 : 0 ≤ n) (n1 : n ≤ 4095) (e : Int) (he : (e != 0) = true)
    (H1 : Hid (∀ w, Calls Try.prog 9 #[pkV p] w fun x w' => x = .returned (.tuple #[.string ⟨#[]⟩, .int .i64 e]) ∧ Below w.heap.size w w')) (H2 : Hid (∀ w, Calls Try.prog 9 #[pkV { p with vl := 4096 + n }] w fun x w' => x = .returned (.tuple #[.string ⟨#[]⟩, .int .i64 e]) ∧ Below w.heap.size w w')) :
    Calls Try.prog 6 #[pkV p, .int .i64 n] w fun x w' => x = .returned (.bool true) ∧ Below w.heap.size w w' := by
  go_enter Try.func6, Try.ntmps6
  go_wp2_with fail
  refine (H1.out _).mono ?_
  rintro x w1 ⟨rfl, g1⟩
  have B1 : Bw w1 w.heap.size p := (Bw.new w p).below (by simp) g1
  have G1 : Below w.heap.size w w1 := btr (by go_grown) g1 (by simp)
  obtain ⟨⟨h0, h1, h2, h3, h4, h5, h6, h7, h8, h9, h10⟩, hf⟩ := B1
  go_wp2_with fail
  refine (H2.out _).mono ?_
  rintro x w2 ⟨rfl, g2⟩
  have G2 : Below w.heap.size w w2 := btr (G1.setCell (Nat.le_refl _) _) g2 (Nat.le_refl _)
  clear h0 h1 h2 h3 h4 h5 h6 h7 h8 h9 h10 hf g1 g2
  go_wp2_with fail
  refine (awake_any _).mono ?_
  rintro x w5 ⟨rfl, g5⟩
  go_wp2_with fail
  go_ret
  exact ⟨rfl, btr G2 g5 (Nat.le_refl _)⟩

set_option maxHeartbeats 1000000 in
theorem tag_no (p : Pk) (n : Int) (w : World) (h : (1000 : Int) < (p.data.size : Int) ∨ p.vl ≠ 0 ∨ n < 0 ∨ 4095 < n) :
    Calls Try.prog 6 #[pkV p, .int .i64 n] w fun x w' => x = .returned (.bool true) ∧ Below w.heap.size w w' := by
  by_cases h1 : (1000 : Int) < (p.data.size : Int)
  · clear h
    go_enter Try.func6, Try.ntmps6
    go_wp2_with fail
    refine (awake_any _).mono ?_
    rintro x w5 ⟨rfl, g5⟩
    go_wp2_with fail
    go_ret
    exact ⟨rfl, btr (by go_grown) g5 (by simp)⟩
  have h3 : (p.data.size : Int) ≤ 1000 := by omega
  by_cases h2 : p.vl = 0
  · have bv : (p.vl != 0) = false := by simp [h2]
    by_cases hn : n < 0
    · clear h h1 h2
      go_enter Try.func6, Try.ntmps6
      go_wp2_with fail
      refine (awake_any _).mono ?_
      rintro x w5 ⟨rfl, g5⟩
      go_wp2_with fail
      go_ret
      exact ⟨rfl, btr (by go_grown) g5 (by simp)⟩
    · have n0 : 0 ≤ n := by omega
      have n1 : 4095 < n := by omega
      clear h h1 h2 hn
      go_enter Try.func6, Try.ntmps6
      go_wp2_with fail
      refine (awake_any _).mono ?_
      rintro x w5 ⟨rfl, g5⟩
      go_wp2_with fail
      go_ret
      exact ⟨rfl, btr (by go_grown) g5 (by simp)⟩
  · have bv : (p.vl != 0) = true := by simp [h2]
    clear h h1 h2
    go_enter Try.func6, Try.ntmps6
    go_wp2_with fail
    refine (awake_any _).mono ?_
    rintro x w5 ⟨rfl, g5⟩
    go_wp2_with fail
    go_ret
    exact ⟨rfl, btr (by go_grown) g5 (by simp)⟩

theorem bytes_none' (p : Pk) (h : bytesE p ≠ 0) : bytesS p = noBytes := by
  unfold bytesE at h
  unfold bytesS
  split at h
  · rename_i hr
    split at h
    · exact absurd rfl h
    · rename_i hg
      rw [if_neg (fun x => hg x.2)]
  · rename_i hr
    rw [if_neg (fun x => hr x.1)]

theorem tag_walk (p : Pk) (n : Int) (w : World) (hw : Wf p) (_ : p.data.size ≤ maxLen) (_ : (Lit.int .i64 n).wf = true) :
    Calls Try.prog 6 #[pkV p, .int .i64 n] w fun x w' => x = .returned (.bool true) ∧ Below w.heap.size w w' := by
  by_cases h1 : (1000 : Int) < (p.data.size : Int) ∨ p.vl ≠ 0 ∨ n < 0 ∨ 4095 < n
  · exact tag_no p n w h1
  have hd : (p.data.size : Int) ≤ 1000 := by omega
  have hv : p.vl = 0 := by omega
  have n0 : 0 ≤ n := by omega
  have n1 : n ≤ 4095 := by omega
  have bv : (p.vl != 0) = false := by simp [hv]
  have HB := fun w => bytesP_any p w hw (by omega)
  have HQ := fun w => bytesP_any { p with vl := 4096 + n } w ⟨hw.to0, hw.to1, hw.fr0, hw.fr1, hw.src0, hw.src1, hw.dst0, hw.dst1⟩ (show p.data.size ≤ 3000 by omega)
  have eE := tag_err p n hv n0 n1 (by omega)
  by_cases hE : bytesE p = 0
  · obtain ⟨h14, h15, ht⟩ := tag_bytes p n hw hv n0 n1 (by omega) hE
    rw [hE] at HB eE
    rw [eE] at HQ
    exact tag_ok p n _ _ w hd bv n0 n1 h14 h15 ht HB HQ
  · have e1 := bytes_none' p hE
    have e2 := bytes_none' { p with vl := 4096 + n } (by rw [eE]; exact hE)
    rw [e1] at HB
    rw [e2, eE] at HQ
    exact tag_bad p n w hd bv n0 n1 _ (by simpa using hE) HB HQ
end Go.Proofs.Ytldbbbhoemnlmaa

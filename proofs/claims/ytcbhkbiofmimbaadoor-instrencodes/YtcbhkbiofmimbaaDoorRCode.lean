/-
  The document's bytes of an entry, as a contract.
-/
import Derived.Test.YtcbhkbiofmimbaaDoorRList
namespace Go.Proofs.YtcbhkbiofmimbaaDoor
open Go.ChangeShapes Go.WideShapes Go.ChangeAt Go.RowKit
set_option linter.unusedSimpArgs false

def g8 : ByteArray := ⟨#[0, 5, 0, 8, 0, 0, 0, 0]⟩
theorem p6_on {s : Sp} (h : (s.met != 0) = true) : partX 6 s = ⟨#[0, 6, 0, 8]⟩ ++ pb s.met 4 := by
  have hb : hasX 6 s = true := h
  rw [has_some hb]
  show pb 6 2 ++ (pb (4 + ((pb s.met 4).size : Int)) 2 ++ pb s.met 4) = _
  rw [pb_size, show pb 6 2 = ⟨#[0, 6]⟩ by decide +kernel, show pb (4 + ((4 : Nat) : Int)) 2 = ⟨#[0, 8]⟩ by decide +kernel, ← ap_assoc]
  rfl
theorem p6_off {s : Sp} (h : (s.met != 0) = false) : partX 6 s = ⟨#[]⟩ := has_none (p := 6) h
theorem list_part (p : Int) (l : List A) (b : ByteArray) (hp : pb p 2 = b) : (if decide (0 < l.length) = true then pb p 2 ++ pb (4 + ((gap4 ++ encodeS l).size : Int)) 2 ++ (gap4 ++ encodeS l) else ⟨#[]⟩) = listX b l := by
  unfold listX
  by_cases h : l.length = 0
  · rw [if_pos h, if_neg (by simp [h])]
  · rw [if_neg h, if_pos (by simp; omega), hp, ByteArray.size_append, show gap4.size = 4 from rfl, show (4 : Int) + ((4 + (encodeS l).size : Nat) : Int) = 8 + ((encodeS l).size : Int) by omega, ← ap_assoc]
theorem p4_eq (s : Sp) : partX 4 s = listX ⟨#[0, 4]⟩ s.la := list_part 4 s.la _ (by decide +kernel)
theorem p3_eq (s : Sp) : partX 3 s = listX ⟨#[0, 3]⟩ s.lw := list_part 3 s.lw _ (by decide +kernel)
theorem p5_on {s : Sp} (h : s.clr = true) : partX 5 s = ⟨#[0, 5, 0, 8, 0, 0, 0, 0]⟩ := by
  have hb : hasX 5 s = true := h
  rw [has_some hb]
  show pb 5 2 ++ (pb (4 + (gap4.size : Int)) 2 ++ gap4) = _
  decide +kernel
theorem p5_off {s : Sp} (h : s.clr = false) : partX 5 s = ⟨#[]⟩ := has_none (p := 5) h
theorem p2_on {s : Sp} (h : (s.mm != 0) = true) : partX 2 s = ⟨#[0, 2, 0, 24, 0, 0, 0, 0]⟩ ++ pb s.mt 8 ++ pb s.mm 8 := by
  have hb : hasX 2 s = true := h
  rw [has_some hb]
  show pb 2 2 ++ (pb (4 + ((gap4 ++ pb s.mt 8 ++ pb s.mm 8).size : Int)) 2 ++ (gap4 ++ pb s.mt 8 ++ pb s.mm 8)) = _
  rw [ByteArray.size_append, ByteArray.size_append, pb_size, pb_size, show gap4.size = 4 from rfl, show pb 2 2 = ⟨#[0, 2]⟩ by decide +kernel, show pb (4 + ((4 + 8 + 8 : Nat) : Int)) 2 = ⟨#[0, 24]⟩ by decide +kernel]
  rw [show (⟨#[0, 2, 0, 24, 0, 0, 0, 0]⟩ : ByteArray) = ⟨#[0, 2]⟩ ++ (⟨#[0, 24]⟩ ++ gap4) by decide +kernel]
  simp only [ap_assoc]
theorem p2_off {s : Sp} (h : (s.mm != 0) = false) : partX 2 s = ⟨#[]⟩ := has_none (p := 2) h
theorem p1_on {s : Sp} (h : (s.go != 0) = true) (h0 : 0 ≤ s.go) (h1 : s.go < 256) : partX 1 s = ⟨#[0, 1, 0, 8]⟩ ++ strOfNums [s.go] ++ ⟨#[0, 0, 0]⟩ := by
  have hb : hasX 1 s = true := h
  rw [has_some hb]
  show pb 1 2 ++ (pb (4 + ((pb s.go 1 ++ gap3).size : Int)) 2 ++ (pb s.go 1 ++ gap3)) = _
  rw [ByteArray.size_append, pb_size, show gap3.size = 3 from rfl, show pb 1 2 = ⟨#[0, 1]⟩ by decide +kernel, show pb (4 + ((1 + 3 : Nat) : Int)) 2 = ⟨#[0, 8]⟩ by decide +kernel, pb1 _ h0 h1]
  rw [show (⟨#[0, 1, 0, 8]⟩ : ByteArray) = ⟨#[0, 1]⟩ ++ ⟨#[0, 8]⟩ by decide +kernel]
  simp only [ap_assoc]
  rfl
theorem p1_off {s : Sp} (h : (s.go != 0) = false) : partX 1 s = ⟨#[]⟩ := has_none (p := 1) h
theorem encX_parts (s : Sp) : encX s = partX 6 s ++ partX 4 s ++ partX 5 s ++ partX 3 s ++ partX 2 s ++ partX 1 s := by
  simp only [encX, encTo, e_ap]
  rfl
set_option maxRecDepth 20000 in
set_option maxHeartbeats 8000000 in
theorem renc_0000 (x : En) (w : World) (h : EW w x) (va : AWs x.la) (vw : AWs x.lw) (u : EU x) (hr : rightX x.sp = 0) (b6 : (x.met != 0) = false) (b5 : x.clr = false) (b2 : (x.mm != 0) = false) (b1 : (x.go != 0) = false) :
    Calls Tryd.prog 13 #[enV x] w fun e w' => e = .returned (.tuple #[.string (encX x.sp), .int .i64 0]) ∧ Below w.heap.size w w' := by
  have o := right_ok u hr
  have HR : Hid (Calls Tryd.prog 10 #[enV x] (ex w x) fun e w' => e = .returned (.int .i64 0) ∧ Below (ex w x).heap.size (ex w x) w') := (show Calls _ _ _ _ _ from by
    have := rrX_any x (ex w x) (h.alloc _) va vw u.t0 u.t1
    rwa [hr] at this)
  have H4 : Hid (∀ w1, Below (ex w x).heap.size (ex w x) w1 → Calls Tryd.prog 23 #[.string ⟨#[0, 4]⟩, .slice x.aa x.la.length x.ca] w1 fun e w' => e = .returned (.string (listX ⟨#[0, 4]⟩ x.la)) ∧ Below w1.heap.size w1 w') := (show ∀ w1, _ from fun w1 g => list_any _ rfl _ _ _ w1 ((h.a.alloc _).below g) h.na va)
  have H3 : Hid (∀ w1, Below (ex w x).heap.size (ex w x) w1 → Calls Tryd.prog 23 #[.string ⟨#[0, 3]⟩, .slice x.aw x.lw.length x.cw] w1 fun e w' => e = .returned (.string (listX ⟨#[0, 3]⟩ x.lw)) ∧ Below w1.heap.size w1 w') := (show ∀ w1, _ from fun w1 g => list_any _ rfl _ _ _ w1 ((h.w.alloc _).below g) h.nw vw)
  have HC : Hid (∀ w1, Below (ex w x).heap.size (ex w x) w1 → Bn w1 w.heap.size x) := (show ∀ w1, _ from fun w1 g => (Bn.new w x).below (by simp) g)
  have z4 := list_size ⟨#[0, 4]⟩ x.la rfl
  have z3 := list_size ⟨#[0, 3]⟩ x.lw rfl
  have EX : Hid (encX x.sp = ⟨#[]⟩ ++ listX ⟨#[0, 4]⟩ x.la ++ ⟨#[]⟩ ++ listX ⟨#[0, 3]⟩ x.lw ++ ⟨#[]⟩ ++ ⟨#[]⟩) := (show _ = _ by rw [encX_parts, p6_off (s := x.sp) b6, p4_eq, p5_off (s := x.sp) b5, p3_eq, p2_off (s := x.sp) b2, p1_off (s := x.sp) b1]; rfl)
  have hps := pb_size
  have B5 : Hid (x.clr = false) := b5
  clear h va vw u hr o b5
  generalize listX ⟨#[0, 4]⟩ x.la = L4 at *
  generalize listX ⟨#[0, 3]⟩ x.lw = L3 at *
  go_enter Tryd.func13, Tryd.ntmps13
  go_wp2_with fail
  refine HR.out.mono ?_
  rintro r w1 ⟨rfl, g1⟩
  obtain ⟨c0, c1, c2, c3, c4, c5, c6, c7, c8, c9⟩ := HC.out _ g1
  rw [B5.out] at c5
  go_wp2_with fail
  refine (H4.out _ g1).mono ?_
  rintro r w2 ⟨rfl, g2'⟩
  have g2 := btr g1 g2' (by simp)
  clear c0 c1 c2 c3 c4 c5 c6 c7 c8 c9 g1 g2'
  obtain ⟨c0, c1, c2, c3, c4, c5, c6, c7, c8, c9⟩ := HC.out _ g2
  rw [B5.out] at c5
  go_wp2_with fail
  refine (H3.out _ g2).mono ?_
  rintro r w3 ⟨rfl, g3'⟩
  have g3 := btr g2 g3' (by simp)
  clear c0 c1 c2 c3 c4 c5 c6 c7 c8 c9 g2 g3'
  obtain ⟨c0, c1, c2, c3, c4, c5, c6, c7, c8, c9⟩ := HC.out _ g3
  rw [B5.out] at c5
  go_wp2_with fail
  have e : ⟨#[]⟩ ++ L4 ++ L3 = encX x.sp := by rw [EX.out]; simp only [ap_assoc, e_ap, ap_e]
  go_ret2
  have e2 : L4 ++ L3 = encX x.sp := by rw [← e]; simp only [ap_assoc, e_ap]
  first | exact ⟨by rw [← e]; rfl, btr (by go_grown) g3 (by simp)⟩ | exact ⟨by rw [← e2]; rfl, btr (by go_grown) g3 (by simp)⟩
set_option maxRecDepth 20000 in
set_option maxHeartbeats 8000000 in
theorem renc_0001 (x : En) (w : World) (h : EW w x) (va : AWs x.la) (vw : AWs x.lw) (u : EU x) (hr : rightX x.sp = 0) (b6 : (x.met != 0) = false) (b5 : x.clr = false) (b2 : (x.mm != 0) = false) (b1 : (x.go != 0) = true) :
    Calls Tryd.prog 13 #[enV x] w fun e w' => e = .returned (.tuple #[.string (encX x.sp), .int .i64 0]) ∧ Below w.heap.size w w' := by
  have o := right_ok u hr
  have HR : Hid (Calls Tryd.prog 10 #[enV x] (ex w x) fun e w' => e = .returned (.int .i64 0) ∧ Below (ex w x).heap.size (ex w x) w') := (show Calls _ _ _ _ _ from by
    have := rrX_any x (ex w x) (h.alloc _) va vw u.t0 u.t1
    rwa [hr] at this)
  have H4 : Hid (∀ w1, Below (ex w x).heap.size (ex w x) w1 → Calls Tryd.prog 23 #[.string ⟨#[0, 4]⟩, .slice x.aa x.la.length x.ca] w1 fun e w' => e = .returned (.string (listX ⟨#[0, 4]⟩ x.la)) ∧ Below w1.heap.size w1 w') := (show ∀ w1, _ from fun w1 g => list_any _ rfl _ _ _ w1 ((h.a.alloc _).below g) h.na va)
  have H3 : Hid (∀ w1, Below (ex w x).heap.size (ex w x) w1 → Calls Tryd.prog 23 #[.string ⟨#[0, 3]⟩, .slice x.aw x.lw.length x.cw] w1 fun e w' => e = .returned (.string (listX ⟨#[0, 3]⟩ x.lw)) ∧ Below w1.heap.size w1 w') := (show ∀ w1, _ from fun w1 g => list_any _ rfl _ _ _ w1 ((h.w.alloc _).below g) h.nw vw)
  have HC : Hid (∀ w1, Below (ex w x).heap.size (ex w x) w1 → Bn w1 w.heap.size x) := (show ∀ w1, _ from fun w1 g => (Bn.new w x).below (by simp) g)
  have z4 := list_size ⟨#[0, 4]⟩ x.la rfl
  have z3 := list_size ⟨#[0, 3]⟩ x.lw rfl
  have EX : Hid (encX x.sp = ⟨#[]⟩ ++ listX ⟨#[0, 4]⟩ x.la ++ ⟨#[]⟩ ++ listX ⟨#[0, 3]⟩ x.lw ++ ⟨#[]⟩ ++ (⟨#[0, 1, 0, 8]⟩ ++ strOfNums [x.go] ++ ⟨#[0, 0, 0]⟩)) := (show _ = _ by rw [encX_parts, p6_off (s := x.sp) b6, p4_eq, p5_off (s := x.sp) b5, p3_eq, p2_off (s := x.sp) b2, p1_on (s := x.sp) b1 o.g0 o.g1]; rfl)
  have hcv := cv1
  have hw1 : IntKind.u8.wrap x.go = x.go := by rw [IntKind.wrap_u8]; have h0 : 0 ≤ x.go := o.g0; have h1 : x.go < 256 := o.g1; omega
  have k1 : 0 ≤ x.go := o.g0
  have k1' : x.go < 256 := o.g1
  have zg : (strOfNums [x.go]).size = 1 := by rw [strOfNums_size]; rfl
  have hps := pb_size
  have B5 : Hid (x.clr = false) := b5
  clear h va vw u hr o b5
  generalize listX ⟨#[0, 4]⟩ x.la = L4 at *
  generalize listX ⟨#[0, 3]⟩ x.lw = L3 at *
  go_enter Tryd.func13, Tryd.ntmps13
  go_wp2_with fail
  refine HR.out.mono ?_
  rintro r w1 ⟨rfl, g1⟩
  obtain ⟨c0, c1, c2, c3, c4, c5, c6, c7, c8, c9⟩ := HC.out _ g1
  rw [B5.out] at c5
  go_wp2_with fail
  refine (H4.out _ g1).mono ?_
  rintro r w2 ⟨rfl, g2'⟩
  have g2 := btr g1 g2' (by simp)
  clear c0 c1 c2 c3 c4 c5 c6 c7 c8 c9 g1 g2'
  obtain ⟨c0, c1, c2, c3, c4, c5, c6, c7, c8, c9⟩ := HC.out _ g2
  rw [B5.out] at c5
  go_wp2_with fail
  refine (H3.out _ g2).mono ?_
  rintro r w3 ⟨rfl, g3'⟩
  have g3 := btr g2 g3' (by simp)
  clear c0 c1 c2 c3 c4 c5 c6 c7 c8 c9 g2 g3'
  obtain ⟨c0, c1, c2, c3, c4, c5, c6, c7, c8, c9⟩ := HC.out _ g3
  rw [B5.out] at c5
  go_wp2_with fail
  have e : ⟨#[]⟩ ++ L4 ++ L3 ++ ⟨#[0, 1, 0, 8]⟩ ++ strOfNums [x.go] ++ ⟨#[0, 0, 0]⟩ = encX x.sp := by rw [EX.out]; simp only [ap_assoc, e_ap, ap_e]
  go_ret2
  have e2 : L4 ++ L3 ++ ⟨#[0, 1, 0, 8]⟩ ++ strOfNums [x.go] ++ ⟨#[0, 0, 0]⟩ = encX x.sp := by rw [← e]; simp only [ap_assoc, e_ap]
  first | exact ⟨by rw [← e]; rfl, (show Below w.heap.size w w3 from btr (by go_grown) g3 (by simp)).alloc (by have := g3.size; simp at this; omega) _⟩ | exact ⟨by rw [← e2]; rfl, (show Below w.heap.size w w3 from btr (by go_grown) g3 (by simp)).alloc (by have := g3.size; simp at this; omega) _⟩
set_option maxRecDepth 20000 in
set_option maxHeartbeats 8000000 in
theorem renc_0010 (x : En) (w : World) (h : EW w x) (va : AWs x.la) (vw : AWs x.lw) (u : EU x) (hr : rightX x.sp = 0) (b6 : (x.met != 0) = false) (b5 : x.clr = false) (b2 : (x.mm != 0) = true) (b1 : (x.go != 0) = false) :
    Calls Tryd.prog 13 #[enV x] w fun e w' => e = .returned (.tuple #[.string (encX x.sp), .int .i64 0]) ∧ Below w.heap.size w w' := by
  have o := right_ok u hr
  have HR : Hid (Calls Tryd.prog 10 #[enV x] (ex w x) fun e w' => e = .returned (.int .i64 0) ∧ Below (ex w x).heap.size (ex w x) w') := (show Calls _ _ _ _ _ from by
    have := rrX_any x (ex w x) (h.alloc _) va vw u.t0 u.t1
    rwa [hr] at this)
  have H4 : Hid (∀ w1, Below (ex w x).heap.size (ex w x) w1 → Calls Tryd.prog 23 #[.string ⟨#[0, 4]⟩, .slice x.aa x.la.length x.ca] w1 fun e w' => e = .returned (.string (listX ⟨#[0, 4]⟩ x.la)) ∧ Below w1.heap.size w1 w') := (show ∀ w1, _ from fun w1 g => list_any _ rfl _ _ _ w1 ((h.a.alloc _).below g) h.na va)
  have H3 : Hid (∀ w1, Below (ex w x).heap.size (ex w x) w1 → Calls Tryd.prog 23 #[.string ⟨#[0, 3]⟩, .slice x.aw x.lw.length x.cw] w1 fun e w' => e = .returned (.string (listX ⟨#[0, 3]⟩ x.lw)) ∧ Below w1.heap.size w1 w') := (show ∀ w1, _ from fun w1 g => list_any _ rfl _ _ _ w1 ((h.w.alloc _).below g) h.nw vw)
  have HC : Hid (∀ w1, Below (ex w x).heap.size (ex w x) w1 → Bn w1 w.heap.size x) := (show ∀ w1, _ from fun w1 g => (Bn.new w x).below (by simp) g)
  have z4 := list_size ⟨#[0, 4]⟩ x.la rfl
  have z3 := list_size ⟨#[0, 3]⟩ x.lw rfl
  have EX : Hid (encX x.sp = ⟨#[]⟩ ++ listX ⟨#[0, 4]⟩ x.la ++ ⟨#[]⟩ ++ listX ⟨#[0, 3]⟩ x.lw ++ (⟨#[0, 2, 0, 24, 0, 0, 0, 0]⟩ ++ pb x.mt 8 ++ pb x.mm 8) ++ ⟨#[]⟩) := (show _ = _ by rw [encX_parts, p6_off (s := x.sp) b6, p4_eq, p5_off (s := x.sp) b5, p3_eq, p2_on (s := x.sp) b2, p1_off (s := x.sp) b1]; rfl)
  have HPt : Hid (∀ w, Calls Tryd.prog 22 #[.int .u64 x.mt, .int .i64 8] w fun e w' => e = .returned (.string (pb x.mt 8)) ∧ Below w.heap.size w w') := (show ∀ w, _ from fun w => rput_any x.mt 8 w (by omega) (by omega) u.t0 u.t1)
  have HPm : Hid (∀ w, Calls Tryd.prog 22 #[.int .u64 x.mm, .int .i64 8] w fun e w' => e = .returned (.string (pb x.mm 8)) ∧ Below w.heap.size w w') := (show ∀ w, _ from fun w => rput_any x.mm 8 w (by omega) (by omega) u.k0 u.k1)
  have hps := pb_size
  have B5 : Hid (x.clr = false) := b5
  clear h va vw u hr o b5
  generalize listX ⟨#[0, 4]⟩ x.la = L4 at *
  generalize listX ⟨#[0, 3]⟩ x.lw = L3 at *
  go_enter Tryd.func13, Tryd.ntmps13
  go_wp2_with fail
  refine HR.out.mono ?_
  rintro r w1 ⟨rfl, g1⟩
  obtain ⟨c0, c1, c2, c3, c4, c5, c6, c7, c8, c9⟩ := HC.out _ g1
  rw [B5.out] at c5
  go_wp2_with fail
  refine (H4.out _ g1).mono ?_
  rintro r w2 ⟨rfl, g2'⟩
  have g2 := btr g1 g2' (by simp)
  clear c0 c1 c2 c3 c4 c5 c6 c7 c8 c9 g1 g2'
  obtain ⟨c0, c1, c2, c3, c4, c5, c6, c7, c8, c9⟩ := HC.out _ g2
  rw [B5.out] at c5
  go_wp2_with fail
  refine (H3.out _ g2).mono ?_
  rintro r w3 ⟨rfl, g3'⟩
  have g3 := btr g2 g3' (by simp)
  clear c0 c1 c2 c3 c4 c5 c6 c7 c8 c9 g2 g3'
  obtain ⟨c0, c1, c2, c3, c4, c5, c6, c7, c8, c9⟩ := HC.out _ g3
  rw [B5.out] at c5
  have szw : w.heap.size < w3.heap.size := by have := g3.size; simp at this; omega
  have q := Bn.gr (HC.out _ g3) szw
  have q6 := fun n => (q n).2.2.2.2.2.2.1
  have q7 := fun n => (q n).2.2.2.2.2.2.2.1
  clear q
  go_wp2_with fail
  refine wp_region_grow (by kernel_rfl) (by kernel_rfl) ?_
  repeat (go_big_quiet_step (first | (go_at_call_of 22 (Value.int IntKind.u64 x.mt); exact quiet_gr (HPt.out _)) | (go_at_call_of 22 (Value.int IntKind.u64 x.mm); exact quiet_gr (HPm.out _))))
  refine wpQuiet_nil ?_
  rintro w4 hw'
  have g4' := gr_elim hw'
  have g4 := btr g3 g4' (by simp)
  clear q6 q7 hw' szw
  clear c0 c1 c2 c3 c4 c5 c6 c7 c8 c9 g3 g4'
  obtain ⟨c0, c1, c2, c3, c4, c5, c6, c7, c8, c9⟩ := HC.out _ g4
  rw [B5.out] at c5
  go_wp2_with fail
  have e : ⟨#[]⟩ ++ L4 ++ L3 ++ ⟨#[0, 2, 0, 24, 0, 0, 0, 0]⟩ ++ pb x.mt 8 ++ pb x.mm 8 = encX x.sp := by rw [EX.out]; simp only [ap_assoc, e_ap, ap_e]
  go_ret2
  have e2 : L4 ++ L3 ++ ⟨#[0, 2, 0, 24, 0, 0, 0, 0]⟩ ++ pb x.mt 8 ++ pb x.mm 8 = encX x.sp := by rw [← e]; simp only [ap_assoc, e_ap]
  first | exact ⟨by rw [← e]; rfl, btr (by go_grown) g4 (by simp)⟩ | exact ⟨by rw [← e2]; rfl, btr (by go_grown) g4 (by simp)⟩
set_option maxRecDepth 20000 in
set_option maxHeartbeats 8000000 in
theorem renc_0011 (x : En) (w : World) (h : EW w x) (va : AWs x.la) (vw : AWs x.lw) (u : EU x) (hr : rightX x.sp = 0) (b6 : (x.met != 0) = false) (b5 : x.clr = false) (b2 : (x.mm != 0) = true) (b1 : (x.go != 0) = true) :
    Calls Tryd.prog 13 #[enV x] w fun e w' => e = .returned (.tuple #[.string (encX x.sp), .int .i64 0]) ∧ Below w.heap.size w w' := by
  have o := right_ok u hr
  have HR : Hid (Calls Tryd.prog 10 #[enV x] (ex w x) fun e w' => e = .returned (.int .i64 0) ∧ Below (ex w x).heap.size (ex w x) w') := (show Calls _ _ _ _ _ from by
    have := rrX_any x (ex w x) (h.alloc _) va vw u.t0 u.t1
    rwa [hr] at this)
  have H4 : Hid (∀ w1, Below (ex w x).heap.size (ex w x) w1 → Calls Tryd.prog 23 #[.string ⟨#[0, 4]⟩, .slice x.aa x.la.length x.ca] w1 fun e w' => e = .returned (.string (listX ⟨#[0, 4]⟩ x.la)) ∧ Below w1.heap.size w1 w') := (show ∀ w1, _ from fun w1 g => list_any _ rfl _ _ _ w1 ((h.a.alloc _).below g) h.na va)
  have H3 : Hid (∀ w1, Below (ex w x).heap.size (ex w x) w1 → Calls Tryd.prog 23 #[.string ⟨#[0, 3]⟩, .slice x.aw x.lw.length x.cw] w1 fun e w' => e = .returned (.string (listX ⟨#[0, 3]⟩ x.lw)) ∧ Below w1.heap.size w1 w') := (show ∀ w1, _ from fun w1 g => list_any _ rfl _ _ _ w1 ((h.w.alloc _).below g) h.nw vw)
  have HC : Hid (∀ w1, Below (ex w x).heap.size (ex w x) w1 → Bn w1 w.heap.size x) := (show ∀ w1, _ from fun w1 g => (Bn.new w x).below (by simp) g)
  have z4 := list_size ⟨#[0, 4]⟩ x.la rfl
  have z3 := list_size ⟨#[0, 3]⟩ x.lw rfl
  have EX : Hid (encX x.sp = ⟨#[]⟩ ++ listX ⟨#[0, 4]⟩ x.la ++ ⟨#[]⟩ ++ listX ⟨#[0, 3]⟩ x.lw ++ (⟨#[0, 2, 0, 24, 0, 0, 0, 0]⟩ ++ pb x.mt 8 ++ pb x.mm 8) ++ (⟨#[0, 1, 0, 8]⟩ ++ strOfNums [x.go] ++ ⟨#[0, 0, 0]⟩)) := (show _ = _ by rw [encX_parts, p6_off (s := x.sp) b6, p4_eq, p5_off (s := x.sp) b5, p3_eq, p2_on (s := x.sp) b2, p1_on (s := x.sp) b1 o.g0 o.g1]; rfl)
  have HPt : Hid (∀ w, Calls Tryd.prog 22 #[.int .u64 x.mt, .int .i64 8] w fun e w' => e = .returned (.string (pb x.mt 8)) ∧ Below w.heap.size w w') := (show ∀ w, _ from fun w => rput_any x.mt 8 w (by omega) (by omega) u.t0 u.t1)
  have HPm : Hid (∀ w, Calls Tryd.prog 22 #[.int .u64 x.mm, .int .i64 8] w fun e w' => e = .returned (.string (pb x.mm 8)) ∧ Below w.heap.size w w') := (show ∀ w, _ from fun w => rput_any x.mm 8 w (by omega) (by omega) u.k0 u.k1)
  have hcv := cv1
  have hw1 : IntKind.u8.wrap x.go = x.go := by rw [IntKind.wrap_u8]; have h0 : 0 ≤ x.go := o.g0; have h1 : x.go < 256 := o.g1; omega
  have k1 : 0 ≤ x.go := o.g0
  have k1' : x.go < 256 := o.g1
  have zg : (strOfNums [x.go]).size = 1 := by rw [strOfNums_size]; rfl
  have hps := pb_size
  have B5 : Hid (x.clr = false) := b5
  clear h va vw u hr o b5
  generalize listX ⟨#[0, 4]⟩ x.la = L4 at *
  generalize listX ⟨#[0, 3]⟩ x.lw = L3 at *
  go_enter Tryd.func13, Tryd.ntmps13
  go_wp2_with fail
  refine HR.out.mono ?_
  rintro r w1 ⟨rfl, g1⟩
  obtain ⟨c0, c1, c2, c3, c4, c5, c6, c7, c8, c9⟩ := HC.out _ g1
  rw [B5.out] at c5
  go_wp2_with fail
  refine (H4.out _ g1).mono ?_
  rintro r w2 ⟨rfl, g2'⟩
  have g2 := btr g1 g2' (by simp)
  clear c0 c1 c2 c3 c4 c5 c6 c7 c8 c9 g1 g2'
  obtain ⟨c0, c1, c2, c3, c4, c5, c6, c7, c8, c9⟩ := HC.out _ g2
  rw [B5.out] at c5
  go_wp2_with fail
  refine (H3.out _ g2).mono ?_
  rintro r w3 ⟨rfl, g3'⟩
  have g3 := btr g2 g3' (by simp)
  clear c0 c1 c2 c3 c4 c5 c6 c7 c8 c9 g2 g3'
  obtain ⟨c0, c1, c2, c3, c4, c5, c6, c7, c8, c9⟩ := HC.out _ g3
  rw [B5.out] at c5
  have szw : w.heap.size < w3.heap.size := by have := g3.size; simp at this; omega
  have q := Bn.gr (HC.out _ g3) szw
  have q6 := fun n => (q n).2.2.2.2.2.2.1
  have q7 := fun n => (q n).2.2.2.2.2.2.2.1
  clear q
  go_wp2_with fail
  refine wp_region_grow (by kernel_rfl) (by kernel_rfl) ?_
  repeat (go_big_quiet_step (first | (go_at_call_of 22 (Value.int IntKind.u64 x.mt); exact quiet_gr (HPt.out _)) | (go_at_call_of 22 (Value.int IntKind.u64 x.mm); exact quiet_gr (HPm.out _))))
  refine wpQuiet_nil ?_
  rintro w4 hw'
  have g4' := gr_elim hw'
  have g4 := btr g3 g4' (by simp)
  clear q6 q7 hw' szw
  clear c0 c1 c2 c3 c4 c5 c6 c7 c8 c9 g3 g4'
  obtain ⟨c0, c1, c2, c3, c4, c5, c6, c7, c8, c9⟩ := HC.out _ g4
  rw [B5.out] at c5
  go_wp2_with fail
  have e : ⟨#[]⟩ ++ L4 ++ L3 ++ ⟨#[0, 2, 0, 24, 0, 0, 0, 0]⟩ ++ pb x.mt 8 ++ pb x.mm 8 ++ ⟨#[0, 1, 0, 8]⟩ ++ strOfNums [x.go] ++ ⟨#[0, 0, 0]⟩ = encX x.sp := by rw [EX.out]; simp only [ap_assoc, e_ap, ap_e]
  go_ret2
  have e2 : L4 ++ L3 ++ ⟨#[0, 2, 0, 24, 0, 0, 0, 0]⟩ ++ pb x.mt 8 ++ pb x.mm 8 ++ ⟨#[0, 1, 0, 8]⟩ ++ strOfNums [x.go] ++ ⟨#[0, 0, 0]⟩ = encX x.sp := by rw [← e]; simp only [ap_assoc, e_ap]
  first | exact ⟨by rw [← e]; rfl, (show Below w.heap.size w w4 from btr (by go_grown) g4 (by simp)).alloc (by have := g4.size; simp at this; omega) _⟩ | exact ⟨by rw [← e2]; rfl, (show Below w.heap.size w w4 from btr (by go_grown) g4 (by simp)).alloc (by have := g4.size; simp at this; omega) _⟩
set_option maxRecDepth 20000 in
set_option maxHeartbeats 8000000 in
theorem renc_0100 (x : En) (w : World) (h : EW w x) (va : AWs x.la) (vw : AWs x.lw) (u : EU x) (hr : rightX x.sp = 0) (b6 : (x.met != 0) = false) (b5 : x.clr = true) (b2 : (x.mm != 0) = false) (b1 : (x.go != 0) = false) :
    Calls Tryd.prog 13 #[enV x] w fun e w' => e = .returned (.tuple #[.string (encX x.sp), .int .i64 0]) ∧ Below w.heap.size w w' := by
  have o := right_ok u hr
  have HR : Hid (Calls Tryd.prog 10 #[enV x] (ex w x) fun e w' => e = .returned (.int .i64 0) ∧ Below (ex w x).heap.size (ex w x) w') := (show Calls _ _ _ _ _ from by
    have := rrX_any x (ex w x) (h.alloc _) va vw u.t0 u.t1
    rwa [hr] at this)
  have H4 : Hid (∀ w1, Below (ex w x).heap.size (ex w x) w1 → Calls Tryd.prog 23 #[.string ⟨#[0, 4]⟩, .slice x.aa x.la.length x.ca] w1 fun e w' => e = .returned (.string (listX ⟨#[0, 4]⟩ x.la)) ∧ Below w1.heap.size w1 w') := (show ∀ w1, _ from fun w1 g => list_any _ rfl _ _ _ w1 ((h.a.alloc _).below g) h.na va)
  have H3 : Hid (∀ w1, Below (ex w x).heap.size (ex w x) w1 → Calls Tryd.prog 23 #[.string ⟨#[0, 3]⟩, .slice x.aw x.lw.length x.cw] w1 fun e w' => e = .returned (.string (listX ⟨#[0, 3]⟩ x.lw)) ∧ Below w1.heap.size w1 w') := (show ∀ w1, _ from fun w1 g => list_any _ rfl _ _ _ w1 ((h.w.alloc _).below g) h.nw vw)
  have HC : Hid (∀ w1, Below (ex w x).heap.size (ex w x) w1 → Bn w1 w.heap.size x) := (show ∀ w1, _ from fun w1 g => (Bn.new w x).below (by simp) g)
  have z4 := list_size ⟨#[0, 4]⟩ x.la rfl
  have z3 := list_size ⟨#[0, 3]⟩ x.lw rfl
  have EX : Hid (encX x.sp = ⟨#[]⟩ ++ listX ⟨#[0, 4]⟩ x.la ++ ⟨#[0, 5, 0, 8, 0, 0, 0, 0]⟩ ++ listX ⟨#[0, 3]⟩ x.lw ++ ⟨#[]⟩ ++ ⟨#[]⟩) := (show _ = _ by rw [encX_parts, p6_off (s := x.sp) b6, p4_eq, p5_on (s := x.sp) b5, p3_eq, p2_off (s := x.sp) b2, p1_off (s := x.sp) b1]; rfl)
  have hps := pb_size
  have B5 : Hid (x.clr = true) := b5
  clear h va vw u hr o b5
  generalize listX ⟨#[0, 4]⟩ x.la = L4 at *
  generalize listX ⟨#[0, 3]⟩ x.lw = L3 at *
  go_enter Tryd.func13, Tryd.ntmps13
  go_wp2_with fail
  refine HR.out.mono ?_
  rintro r w1 ⟨rfl, g1⟩
  obtain ⟨c0, c1, c2, c3, c4, c5, c6, c7, c8, c9⟩ := HC.out _ g1
  rw [B5.out] at c5
  go_wp2_with fail
  refine (H4.out _ g1).mono ?_
  rintro r w2 ⟨rfl, g2'⟩
  have g2 := btr g1 g2' (by simp)
  clear c0 c1 c2 c3 c4 c5 c6 c7 c8 c9 g1 g2'
  obtain ⟨c0, c1, c2, c3, c4, c5, c6, c7, c8, c9⟩ := HC.out _ g2
  rw [B5.out] at c5
  go_wp2_with fail
  refine (H3.out _ g2).mono ?_
  rintro r w3 ⟨rfl, g3'⟩
  have g3 := btr g2 g3' (by simp)
  clear c0 c1 c2 c3 c4 c5 c6 c7 c8 c9 g2 g3'
  obtain ⟨c0, c1, c2, c3, c4, c5, c6, c7, c8, c9⟩ := HC.out _ g3
  rw [B5.out] at c5
  go_wp2_with fail
  have e : ⟨#[]⟩ ++ L4 ++ ⟨#[0, 5, 0, 8, 0, 0, 0, 0]⟩ ++ L3 = encX x.sp := by rw [EX.out]; simp only [ap_assoc, e_ap, ap_e]
  go_ret2
  have e2 : L4 ++ ⟨#[0, 5, 0, 8, 0, 0, 0, 0]⟩ ++ L3 = encX x.sp := by rw [← e]; simp only [ap_assoc, e_ap]
  first | exact ⟨by rw [← e]; rfl, btr (by go_grown) g3 (by simp)⟩ | exact ⟨by rw [← e2]; rfl, btr (by go_grown) g3 (by simp)⟩
set_option maxRecDepth 20000 in
set_option maxHeartbeats 8000000 in
theorem renc_0101 (x : En) (w : World) (h : EW w x) (va : AWs x.la) (vw : AWs x.lw) (u : EU x) (hr : rightX x.sp = 0) (b6 : (x.met != 0) = false) (b5 : x.clr = true) (b2 : (x.mm != 0) = false) (b1 : (x.go != 0) = true) :
    Calls Tryd.prog 13 #[enV x] w fun e w' => e = .returned (.tuple #[.string (encX x.sp), .int .i64 0]) ∧ Below w.heap.size w w' := by
  have o := right_ok u hr
  have HR : Hid (Calls Tryd.prog 10 #[enV x] (ex w x) fun e w' => e = .returned (.int .i64 0) ∧ Below (ex w x).heap.size (ex w x) w') := (show Calls _ _ _ _ _ from by
    have := rrX_any x (ex w x) (h.alloc _) va vw u.t0 u.t1
    rwa [hr] at this)
  have H4 : Hid (∀ w1, Below (ex w x).heap.size (ex w x) w1 → Calls Tryd.prog 23 #[.string ⟨#[0, 4]⟩, .slice x.aa x.la.length x.ca] w1 fun e w' => e = .returned (.string (listX ⟨#[0, 4]⟩ x.la)) ∧ Below w1.heap.size w1 w') := (show ∀ w1, _ from fun w1 g => list_any _ rfl _ _ _ w1 ((h.a.alloc _).below g) h.na va)
  have H3 : Hid (∀ w1, Below (ex w x).heap.size (ex w x) w1 → Calls Tryd.prog 23 #[.string ⟨#[0, 3]⟩, .slice x.aw x.lw.length x.cw] w1 fun e w' => e = .returned (.string (listX ⟨#[0, 3]⟩ x.lw)) ∧ Below w1.heap.size w1 w') := (show ∀ w1, _ from fun w1 g => list_any _ rfl _ _ _ w1 ((h.w.alloc _).below g) h.nw vw)
  have HC : Hid (∀ w1, Below (ex w x).heap.size (ex w x) w1 → Bn w1 w.heap.size x) := (show ∀ w1, _ from fun w1 g => (Bn.new w x).below (by simp) g)
  have z4 := list_size ⟨#[0, 4]⟩ x.la rfl
  have z3 := list_size ⟨#[0, 3]⟩ x.lw rfl
  have EX : Hid (encX x.sp = ⟨#[]⟩ ++ listX ⟨#[0, 4]⟩ x.la ++ ⟨#[0, 5, 0, 8, 0, 0, 0, 0]⟩ ++ listX ⟨#[0, 3]⟩ x.lw ++ ⟨#[]⟩ ++ (⟨#[0, 1, 0, 8]⟩ ++ strOfNums [x.go] ++ ⟨#[0, 0, 0]⟩)) := (show _ = _ by rw [encX_parts, p6_off (s := x.sp) b6, p4_eq, p5_on (s := x.sp) b5, p3_eq, p2_off (s := x.sp) b2, p1_on (s := x.sp) b1 o.g0 o.g1]; rfl)
  have hcv := cv1
  have hw1 : IntKind.u8.wrap x.go = x.go := by rw [IntKind.wrap_u8]; have h0 : 0 ≤ x.go := o.g0; have h1 : x.go < 256 := o.g1; omega
  have k1 : 0 ≤ x.go := o.g0
  have k1' : x.go < 256 := o.g1
  have zg : (strOfNums [x.go]).size = 1 := by rw [strOfNums_size]; rfl
  have hps := pb_size
  have B5 : Hid (x.clr = true) := b5
  clear h va vw u hr o b5
  generalize listX ⟨#[0, 4]⟩ x.la = L4 at *
  generalize listX ⟨#[0, 3]⟩ x.lw = L3 at *
  go_enter Tryd.func13, Tryd.ntmps13
  go_wp2_with fail
  refine HR.out.mono ?_
  rintro r w1 ⟨rfl, g1⟩
  obtain ⟨c0, c1, c2, c3, c4, c5, c6, c7, c8, c9⟩ := HC.out _ g1
  rw [B5.out] at c5
  go_wp2_with fail
  refine (H4.out _ g1).mono ?_
  rintro r w2 ⟨rfl, g2'⟩
  have g2 := btr g1 g2' (by simp)
  clear c0 c1 c2 c3 c4 c5 c6 c7 c8 c9 g1 g2'
  obtain ⟨c0, c1, c2, c3, c4, c5, c6, c7, c8, c9⟩ := HC.out _ g2
  rw [B5.out] at c5
  go_wp2_with fail
  refine (H3.out _ g2).mono ?_
  rintro r w3 ⟨rfl, g3'⟩
  have g3 := btr g2 g3' (by simp)
  clear c0 c1 c2 c3 c4 c5 c6 c7 c8 c9 g2 g3'
  obtain ⟨c0, c1, c2, c3, c4, c5, c6, c7, c8, c9⟩ := HC.out _ g3
  rw [B5.out] at c5
  go_wp2_with fail
  have e : ⟨#[]⟩ ++ L4 ++ ⟨#[0, 5, 0, 8, 0, 0, 0, 0]⟩ ++ L3 ++ ⟨#[0, 1, 0, 8]⟩ ++ strOfNums [x.go] ++ ⟨#[0, 0, 0]⟩ = encX x.sp := by rw [EX.out]; simp only [ap_assoc, e_ap, ap_e]
  go_ret2
  have e2 : L4 ++ ⟨#[0, 5, 0, 8, 0, 0, 0, 0]⟩ ++ L3 ++ ⟨#[0, 1, 0, 8]⟩ ++ strOfNums [x.go] ++ ⟨#[0, 0, 0]⟩ = encX x.sp := by rw [← e]; simp only [ap_assoc, e_ap]
  first | exact ⟨by rw [← e]; rfl, (show Below w.heap.size w w3 from btr (by go_grown) g3 (by simp)).alloc (by have := g3.size; simp at this; omega) _⟩ | exact ⟨by rw [← e2]; rfl, (show Below w.heap.size w w3 from btr (by go_grown) g3 (by simp)).alloc (by have := g3.size; simp at this; omega) _⟩
set_option maxRecDepth 20000 in
set_option maxHeartbeats 8000000 in
theorem renc_0110 (x : En) (w : World) (h : EW w x) (va : AWs x.la) (vw : AWs x.lw) (u : EU x) (hr : rightX x.sp = 0) (b6 : (x.met != 0) = false) (b5 : x.clr = true) (b2 : (x.mm != 0) = true) (b1 : (x.go != 0) = false) :
    Calls Tryd.prog 13 #[enV x] w fun e w' => e = .returned (.tuple #[.string (encX x.sp), .int .i64 0]) ∧ Below w.heap.size w w' := by
  have o := right_ok u hr
  have HR : Hid (Calls Tryd.prog 10 #[enV x] (ex w x) fun e w' => e = .returned (.int .i64 0) ∧ Below (ex w x).heap.size (ex w x) w') := (show Calls _ _ _ _ _ from by
    have := rrX_any x (ex w x) (h.alloc _) va vw u.t0 u.t1
    rwa [hr] at this)
  have H4 : Hid (∀ w1, Below (ex w x).heap.size (ex w x) w1 → Calls Tryd.prog 23 #[.string ⟨#[0, 4]⟩, .slice x.aa x.la.length x.ca] w1 fun e w' => e = .returned (.string (listX ⟨#[0, 4]⟩ x.la)) ∧ Below w1.heap.size w1 w') := (show ∀ w1, _ from fun w1 g => list_any _ rfl _ _ _ w1 ((h.a.alloc _).below g) h.na va)
  have H3 : Hid (∀ w1, Below (ex w x).heap.size (ex w x) w1 → Calls Tryd.prog 23 #[.string ⟨#[0, 3]⟩, .slice x.aw x.lw.length x.cw] w1 fun e w' => e = .returned (.string (listX ⟨#[0, 3]⟩ x.lw)) ∧ Below w1.heap.size w1 w') := (show ∀ w1, _ from fun w1 g => list_any _ rfl _ _ _ w1 ((h.w.alloc _).below g) h.nw vw)
  have HC : Hid (∀ w1, Below (ex w x).heap.size (ex w x) w1 → Bn w1 w.heap.size x) := (show ∀ w1, _ from fun w1 g => (Bn.new w x).below (by simp) g)
  have z4 := list_size ⟨#[0, 4]⟩ x.la rfl
  have z3 := list_size ⟨#[0, 3]⟩ x.lw rfl
  have EX : Hid (encX x.sp = ⟨#[]⟩ ++ listX ⟨#[0, 4]⟩ x.la ++ ⟨#[0, 5, 0, 8, 0, 0, 0, 0]⟩ ++ listX ⟨#[0, 3]⟩ x.lw ++ (⟨#[0, 2, 0, 24, 0, 0, 0, 0]⟩ ++ pb x.mt 8 ++ pb x.mm 8) ++ ⟨#[]⟩) := (show _ = _ by rw [encX_parts, p6_off (s := x.sp) b6, p4_eq, p5_on (s := x.sp) b5, p3_eq, p2_on (s := x.sp) b2, p1_off (s := x.sp) b1]; rfl)
  have HPt : Hid (∀ w, Calls Tryd.prog 22 #[.int .u64 x.mt, .int .i64 8] w fun e w' => e = .returned (.string (pb x.mt 8)) ∧ Below w.heap.size w w') := (show ∀ w, _ from fun w => rput_any x.mt 8 w (by omega) (by omega) u.t0 u.t1)
  have HPm : Hid (∀ w, Calls Tryd.prog 22 #[.int .u64 x.mm, .int .i64 8] w fun e w' => e = .returned (.string (pb x.mm 8)) ∧ Below w.heap.size w w') := (show ∀ w, _ from fun w => rput_any x.mm 8 w (by omega) (by omega) u.k0 u.k1)
  have hps := pb_size
  have B5 : Hid (x.clr = true) := b5
  clear h va vw u hr o b5
  generalize listX ⟨#[0, 4]⟩ x.la = L4 at *
  generalize listX ⟨#[0, 3]⟩ x.lw = L3 at *
  go_enter Tryd.func13, Tryd.ntmps13
  go_wp2_with fail
  refine HR.out.mono ?_
  rintro r w1 ⟨rfl, g1⟩
  obtain ⟨c0, c1, c2, c3, c4, c5, c6, c7, c8, c9⟩ := HC.out _ g1
  rw [B5.out] at c5
  go_wp2_with fail
  refine (H4.out _ g1).mono ?_
  rintro r w2 ⟨rfl, g2'⟩
  have g2 := btr g1 g2' (by simp)
  clear c0 c1 c2 c3 c4 c5 c6 c7 c8 c9 g1 g2'
  obtain ⟨c0, c1, c2, c3, c4, c5, c6, c7, c8, c9⟩ := HC.out _ g2
  rw [B5.out] at c5
  go_wp2_with fail
  refine (H3.out _ g2).mono ?_
  rintro r w3 ⟨rfl, g3'⟩
  have g3 := btr g2 g3' (by simp)
  clear c0 c1 c2 c3 c4 c5 c6 c7 c8 c9 g2 g3'
  obtain ⟨c0, c1, c2, c3, c4, c5, c6, c7, c8, c9⟩ := HC.out _ g3
  rw [B5.out] at c5
  have szw : w.heap.size < w3.heap.size := by have := g3.size; simp at this; omega
  have q := Bn.gr (HC.out _ g3) szw
  have q6 := fun n => (q n).2.2.2.2.2.2.1
  have q7 := fun n => (q n).2.2.2.2.2.2.2.1
  clear q
  go_wp2_with fail
  refine wp_region_grow (by kernel_rfl) (by kernel_rfl) ?_
  repeat (go_big_quiet_step (first | (go_at_call_of 22 (Value.int IntKind.u64 x.mt); exact quiet_gr (HPt.out _)) | (go_at_call_of 22 (Value.int IntKind.u64 x.mm); exact quiet_gr (HPm.out _))))
  refine wpQuiet_nil ?_
  rintro w4 hw'
  have g4' := gr_elim hw'
  have g4 := btr g3 g4' (by simp)
  clear q6 q7 hw' szw
  clear c0 c1 c2 c3 c4 c5 c6 c7 c8 c9 g3 g4'
  obtain ⟨c0, c1, c2, c3, c4, c5, c6, c7, c8, c9⟩ := HC.out _ g4
  rw [B5.out] at c5
  go_wp2_with fail
  have e : ⟨#[]⟩ ++ L4 ++ ⟨#[0, 5, 0, 8, 0, 0, 0, 0]⟩ ++ L3 ++ ⟨#[0, 2, 0, 24, 0, 0, 0, 0]⟩ ++ pb x.mt 8 ++ pb x.mm 8 = encX x.sp := by rw [EX.out]; simp only [ap_assoc, e_ap, ap_e]
  go_ret2
  have e2 : L4 ++ ⟨#[0, 5, 0, 8, 0, 0, 0, 0]⟩ ++ L3 ++ ⟨#[0, 2, 0, 24, 0, 0, 0, 0]⟩ ++ pb x.mt 8 ++ pb x.mm 8 = encX x.sp := by rw [← e]; simp only [ap_assoc, e_ap]
  first | exact ⟨by rw [← e]; rfl, btr (by go_grown) g4 (by simp)⟩ | exact ⟨by rw [← e2]; rfl, btr (by go_grown) g4 (by simp)⟩
set_option maxRecDepth 20000 in
set_option maxHeartbeats 8000000 in
theorem renc_0111 (x : En) (w : World) (h : EW w x) (va : AWs x.la) (vw : AWs x.lw) (u : EU x) (hr : rightX x.sp = 0) (b6 : (x.met != 0) = false) (b5 : x.clr = true) (b2 : (x.mm != 0) = true) (b1 : (x.go != 0) = true) :
    Calls Tryd.prog 13 #[enV x] w fun e w' => e = .returned (.tuple #[.string (encX x.sp), .int .i64 0]) ∧ Below w.heap.size w w' := by
  have o := right_ok u hr
  have HR : Hid (Calls Tryd.prog 10 #[enV x] (ex w x) fun e w' => e = .returned (.int .i64 0) ∧ Below (ex w x).heap.size (ex w x) w') := (show Calls _ _ _ _ _ from by
    have := rrX_any x (ex w x) (h.alloc _) va vw u.t0 u.t1
    rwa [hr] at this)
  have H4 : Hid (∀ w1, Below (ex w x).heap.size (ex w x) w1 → Calls Tryd.prog 23 #[.string ⟨#[0, 4]⟩, .slice x.aa x.la.length x.ca] w1 fun e w' => e = .returned (.string (listX ⟨#[0, 4]⟩ x.la)) ∧ Below w1.heap.size w1 w') := (show ∀ w1, _ from fun w1 g => list_any _ rfl _ _ _ w1 ((h.a.alloc _).below g) h.na va)
  have H3 : Hid (∀ w1, Below (ex w x).heap.size (ex w x) w1 → Calls Tryd.prog 23 #[.string ⟨#[0, 3]⟩, .slice x.aw x.lw.length x.cw] w1 fun e w' => e = .returned (.string (listX ⟨#[0, 3]⟩ x.lw)) ∧ Below w1.heap.size w1 w') := (show ∀ w1, _ from fun w1 g => list_any _ rfl _ _ _ w1 ((h.w.alloc _).below g) h.nw vw)
  have HC : Hid (∀ w1, Below (ex w x).heap.size (ex w x) w1 → Bn w1 w.heap.size x) := (show ∀ w1, _ from fun w1 g => (Bn.new w x).below (by simp) g)
  have z4 := list_size ⟨#[0, 4]⟩ x.la rfl
  have z3 := list_size ⟨#[0, 3]⟩ x.lw rfl
  have EX : Hid (encX x.sp = ⟨#[]⟩ ++ listX ⟨#[0, 4]⟩ x.la ++ ⟨#[0, 5, 0, 8, 0, 0, 0, 0]⟩ ++ listX ⟨#[0, 3]⟩ x.lw ++ (⟨#[0, 2, 0, 24, 0, 0, 0, 0]⟩ ++ pb x.mt 8 ++ pb x.mm 8) ++ (⟨#[0, 1, 0, 8]⟩ ++ strOfNums [x.go] ++ ⟨#[0, 0, 0]⟩)) := (show _ = _ by rw [encX_parts, p6_off (s := x.sp) b6, p4_eq, p5_on (s := x.sp) b5, p3_eq, p2_on (s := x.sp) b2, p1_on (s := x.sp) b1 o.g0 o.g1]; rfl)
  have HPt : Hid (∀ w, Calls Tryd.prog 22 #[.int .u64 x.mt, .int .i64 8] w fun e w' => e = .returned (.string (pb x.mt 8)) ∧ Below w.heap.size w w') := (show ∀ w, _ from fun w => rput_any x.mt 8 w (by omega) (by omega) u.t0 u.t1)
  have HPm : Hid (∀ w, Calls Tryd.prog 22 #[.int .u64 x.mm, .int .i64 8] w fun e w' => e = .returned (.string (pb x.mm 8)) ∧ Below w.heap.size w w') := (show ∀ w, _ from fun w => rput_any x.mm 8 w (by omega) (by omega) u.k0 u.k1)
  have hcv := cv1
  have hw1 : IntKind.u8.wrap x.go = x.go := by rw [IntKind.wrap_u8]; have h0 : 0 ≤ x.go := o.g0; have h1 : x.go < 256 := o.g1; omega
  have k1 : 0 ≤ x.go := o.g0
  have k1' : x.go < 256 := o.g1
  have zg : (strOfNums [x.go]).size = 1 := by rw [strOfNums_size]; rfl
  have hps := pb_size
  have B5 : Hid (x.clr = true) := b5
  clear h va vw u hr o b5
  generalize listX ⟨#[0, 4]⟩ x.la = L4 at *
  generalize listX ⟨#[0, 3]⟩ x.lw = L3 at *
  go_enter Tryd.func13, Tryd.ntmps13
  go_wp2_with fail
  refine HR.out.mono ?_
  rintro r w1 ⟨rfl, g1⟩
  obtain ⟨c0, c1, c2, c3, c4, c5, c6, c7, c8, c9⟩ := HC.out _ g1
  rw [B5.out] at c5
  go_wp2_with fail
  refine (H4.out _ g1).mono ?_
  rintro r w2 ⟨rfl, g2'⟩
  have g2 := btr g1 g2' (by simp)
  clear c0 c1 c2 c3 c4 c5 c6 c7 c8 c9 g1 g2'
  obtain ⟨c0, c1, c2, c3, c4, c5, c6, c7, c8, c9⟩ := HC.out _ g2
  rw [B5.out] at c5
  go_wp2_with fail
  refine (H3.out _ g2).mono ?_
  rintro r w3 ⟨rfl, g3'⟩
  have g3 := btr g2 g3' (by simp)
  clear c0 c1 c2 c3 c4 c5 c6 c7 c8 c9 g2 g3'
  obtain ⟨c0, c1, c2, c3, c4, c5, c6, c7, c8, c9⟩ := HC.out _ g3
  rw [B5.out] at c5
  have szw : w.heap.size < w3.heap.size := by have := g3.size; simp at this; omega
  have q := Bn.gr (HC.out _ g3) szw
  have q6 := fun n => (q n).2.2.2.2.2.2.1
  have q7 := fun n => (q n).2.2.2.2.2.2.2.1
  clear q
  go_wp2_with fail
  refine wp_region_grow (by kernel_rfl) (by kernel_rfl) ?_
  repeat (go_big_quiet_step (first | (go_at_call_of 22 (Value.int IntKind.u64 x.mt); exact quiet_gr (HPt.out _)) | (go_at_call_of 22 (Value.int IntKind.u64 x.mm); exact quiet_gr (HPm.out _))))
  refine wpQuiet_nil ?_
  rintro w4 hw'
  have g4' := gr_elim hw'
  have g4 := btr g3 g4' (by simp)
  clear q6 q7 hw' szw
  clear c0 c1 c2 c3 c4 c5 c6 c7 c8 c9 g3 g4'
  obtain ⟨c0, c1, c2, c3, c4, c5, c6, c7, c8, c9⟩ := HC.out _ g4
  rw [B5.out] at c5
  go_wp2_with fail
  have e : ⟨#[]⟩ ++ L4 ++ ⟨#[0, 5, 0, 8, 0, 0, 0, 0]⟩ ++ L3 ++ ⟨#[0, 2, 0, 24, 0, 0, 0, 0]⟩ ++ pb x.mt 8 ++ pb x.mm 8 ++ ⟨#[0, 1, 0, 8]⟩ ++ strOfNums [x.go] ++ ⟨#[0, 0, 0]⟩ = encX x.sp := by rw [EX.out]; simp only [ap_assoc, e_ap, ap_e]
  go_ret2
  have e2 : L4 ++ ⟨#[0, 5, 0, 8, 0, 0, 0, 0]⟩ ++ L3 ++ ⟨#[0, 2, 0, 24, 0, 0, 0, 0]⟩ ++ pb x.mt 8 ++ pb x.mm 8 ++ ⟨#[0, 1, 0, 8]⟩ ++ strOfNums [x.go] ++ ⟨#[0, 0, 0]⟩ = encX x.sp := by rw [← e]; simp only [ap_assoc, e_ap]
  first | exact ⟨by rw [← e]; rfl, (show Below w.heap.size w w4 from btr (by go_grown) g4 (by simp)).alloc (by have := g4.size; simp at this; omega) _⟩ | exact ⟨by rw [← e2]; rfl, (show Below w.heap.size w w4 from btr (by go_grown) g4 (by simp)).alloc (by have := g4.size; simp at this; omega) _⟩
set_option maxRecDepth 20000 in
set_option maxHeartbeats 8000000 in
theorem renc_1000 (x : En) (w : World) (h : EW w x) (va : AWs x.la) (vw : AWs x.lw) (u : EU x) (hr : rightX x.sp = 0) (b6 : (x.met != 0) = true) (b5 : x.clr = false) (b2 : (x.mm != 0) = false) (b1 : (x.go != 0) = false) :
    Calls Tryd.prog 13 #[enV x] w fun e w' => e = .returned (.tuple #[.string (encX x.sp), .int .i64 0]) ∧ Below w.heap.size w w' := by
  have o := right_ok u hr
  have HR : Hid (Calls Tryd.prog 10 #[enV x] (ex w x) fun e w' => e = .returned (.int .i64 0) ∧ Below (ex w x).heap.size (ex w x) w') := (show Calls _ _ _ _ _ from by
    have := rrX_any x (ex w x) (h.alloc _) va vw u.t0 u.t1
    rwa [hr] at this)
  have H4 : Hid (∀ w1, Below (ex w x).heap.size (ex w x) w1 → Calls Tryd.prog 23 #[.string ⟨#[0, 4]⟩, .slice x.aa x.la.length x.ca] w1 fun e w' => e = .returned (.string (listX ⟨#[0, 4]⟩ x.la)) ∧ Below w1.heap.size w1 w') := (show ∀ w1, _ from fun w1 g => list_any _ rfl _ _ _ w1 ((h.a.alloc _).below g) h.na va)
  have H3 : Hid (∀ w1, Below (ex w x).heap.size (ex w x) w1 → Calls Tryd.prog 23 #[.string ⟨#[0, 3]⟩, .slice x.aw x.lw.length x.cw] w1 fun e w' => e = .returned (.string (listX ⟨#[0, 3]⟩ x.lw)) ∧ Below w1.heap.size w1 w') := (show ∀ w1, _ from fun w1 g => list_any _ rfl _ _ _ w1 ((h.w.alloc _).below g) h.nw vw)
  have HC : Hid (∀ w1, Below (ex w x).heap.size (ex w x) w1 → Bn w1 w.heap.size x) := (show ∀ w1, _ from fun w1 g => (Bn.new w x).below (by simp) g)
  have z4 := list_size ⟨#[0, 4]⟩ x.la rfl
  have z3 := list_size ⟨#[0, 3]⟩ x.lw rfl
  have EX : Hid (encX x.sp = (⟨#[0, 6, 0, 8]⟩ ++ pb x.met 4) ++ listX ⟨#[0, 4]⟩ x.la ++ ⟨#[]⟩ ++ listX ⟨#[0, 3]⟩ x.lw ++ ⟨#[]⟩ ++ ⟨#[]⟩) := (show _ = _ by rw [encX_parts, p6_on (s := x.sp) b6, p4_eq, p5_off (s := x.sp) b5, p3_eq, p2_off (s := x.sp) b2, p1_off (s := x.sp) b1]; rfl)
  have HP6 : Hid (∀ w, Calls Tryd.prog 22 #[.int .u64 x.met, .int .i64 4] w fun e w' => e = .returned (.string (pb x.met 4)) ∧ Below w.heap.size w w') := (show ∀ w, _ from fun w => rput_any x.met 4 w (by omega) (by omega) o.m0 (Int.lt_trans o.m1 (by omega)))
  have hw6 : IntKind.u64.wrap x.met = x.met := wraps_u64 _ o.m0 (Int.lt_trans o.m1 (by omega))
  have k6 : 0 ≤ x.met := o.m0
  have k6' : x.met < 4294967296 := o.m1
  have hps := pb_size
  have B5 : Hid (x.clr = false) := b5
  clear h va vw u hr o b5
  generalize listX ⟨#[0, 4]⟩ x.la = L4 at *
  generalize listX ⟨#[0, 3]⟩ x.lw = L3 at *
  go_enter Tryd.func13, Tryd.ntmps13
  go_wp2_with fail
  refine HR.out.mono ?_
  rintro r w1 ⟨rfl, g1⟩
  obtain ⟨c0, c1, c2, c3, c4, c5, c6, c7, c8, c9⟩ := HC.out _ g1
  rw [B5.out] at c5
  go_wp2_with fail
  refine (HP6.out _).mono ?_
  rintro r w2 ⟨rfl, g2'⟩
  have g2 := btr g1 g2' (by simp)
  clear c0 c1 c2 c3 c4 c5 c6 c7 c8 c9 g1 g2'
  obtain ⟨c0, c1, c2, c3, c4, c5, c6, c7, c8, c9⟩ := HC.out _ g2
  rw [B5.out] at c5
  go_wp2_with fail
  refine (H4.out _ g2).mono ?_
  rintro r w3 ⟨rfl, g3'⟩
  have g3 := btr g2 g3' (by simp)
  clear c0 c1 c2 c3 c4 c5 c6 c7 c8 c9 g2 g3'
  obtain ⟨c0, c1, c2, c3, c4, c5, c6, c7, c8, c9⟩ := HC.out _ g3
  rw [B5.out] at c5
  go_wp2_with fail
  refine (H3.out _ g3).mono ?_
  rintro r w4 ⟨rfl, g4'⟩
  have g4 := btr g3 g4' (by simp)
  clear c0 c1 c2 c3 c4 c5 c6 c7 c8 c9 g3 g4'
  obtain ⟨c0, c1, c2, c3, c4, c5, c6, c7, c8, c9⟩ := HC.out _ g4
  rw [B5.out] at c5
  go_wp2_with fail
  have e : ⟨#[0, 6, 0, 8]⟩ ++ pb x.met 4 ++ L4 ++ L3 = encX x.sp := by rw [EX.out]; simp only [ap_assoc, e_ap, ap_e]
  go_ret2
  exact ⟨by rw [← e]; rfl, btr (by go_grown) g4 (by simp)⟩
set_option maxRecDepth 20000 in
set_option maxHeartbeats 8000000 in
theorem renc_1001 (x : En) (w : World) (h : EW w x) (va : AWs x.la) (vw : AWs x.lw) (u : EU x) (hr : rightX x.sp = 0) (b6 : (x.met != 0) = true) (b5 : x.clr = false) (b2 : (x.mm != 0) = false) (b1 : (x.go != 0) = true) :
    Calls Tryd.prog 13 #[enV x] w fun e w' => e = .returned (.tuple #[.string (encX x.sp), .int .i64 0]) ∧ Below w.heap.size w w' := by
  have o := right_ok u hr
  have HR : Hid (Calls Tryd.prog 10 #[enV x] (ex w x) fun e w' => e = .returned (.int .i64 0) ∧ Below (ex w x).heap.size (ex w x) w') := (show Calls _ _ _ _ _ from by
    have := rrX_any x (ex w x) (h.alloc _) va vw u.t0 u.t1
    rwa [hr] at this)
  have H4 : Hid (∀ w1, Below (ex w x).heap.size (ex w x) w1 → Calls Tryd.prog 23 #[.string ⟨#[0, 4]⟩, .slice x.aa x.la.length x.ca] w1 fun e w' => e = .returned (.string (listX ⟨#[0, 4]⟩ x.la)) ∧ Below w1.heap.size w1 w') := (show ∀ w1, _ from fun w1 g => list_any _ rfl _ _ _ w1 ((h.a.alloc _).below g) h.na va)
  have H3 : Hid (∀ w1, Below (ex w x).heap.size (ex w x) w1 → Calls Tryd.prog 23 #[.string ⟨#[0, 3]⟩, .slice x.aw x.lw.length x.cw] w1 fun e w' => e = .returned (.string (listX ⟨#[0, 3]⟩ x.lw)) ∧ Below w1.heap.size w1 w') := (show ∀ w1, _ from fun w1 g => list_any _ rfl _ _ _ w1 ((h.w.alloc _).below g) h.nw vw)
  have HC : Hid (∀ w1, Below (ex w x).heap.size (ex w x) w1 → Bn w1 w.heap.size x) := (show ∀ w1, _ from fun w1 g => (Bn.new w x).below (by simp) g)
  have z4 := list_size ⟨#[0, 4]⟩ x.la rfl
  have z3 := list_size ⟨#[0, 3]⟩ x.lw rfl
  have EX : Hid (encX x.sp = (⟨#[0, 6, 0, 8]⟩ ++ pb x.met 4) ++ listX ⟨#[0, 4]⟩ x.la ++ ⟨#[]⟩ ++ listX ⟨#[0, 3]⟩ x.lw ++ ⟨#[]⟩ ++ (⟨#[0, 1, 0, 8]⟩ ++ strOfNums [x.go] ++ ⟨#[0, 0, 0]⟩)) := (show _ = _ by rw [encX_parts, p6_on (s := x.sp) b6, p4_eq, p5_off (s := x.sp) b5, p3_eq, p2_off (s := x.sp) b2, p1_on (s := x.sp) b1 o.g0 o.g1]; rfl)
  have HP6 : Hid (∀ w, Calls Tryd.prog 22 #[.int .u64 x.met, .int .i64 4] w fun e w' => e = .returned (.string (pb x.met 4)) ∧ Below w.heap.size w w') := (show ∀ w, _ from fun w => rput_any x.met 4 w (by omega) (by omega) o.m0 (Int.lt_trans o.m1 (by omega)))
  have hw6 : IntKind.u64.wrap x.met = x.met := wraps_u64 _ o.m0 (Int.lt_trans o.m1 (by omega))
  have k6 : 0 ≤ x.met := o.m0
  have k6' : x.met < 4294967296 := o.m1
  have hcv := cv1
  have hw1 : IntKind.u8.wrap x.go = x.go := by rw [IntKind.wrap_u8]; have h0 : 0 ≤ x.go := o.g0; have h1 : x.go < 256 := o.g1; omega
  have k1 : 0 ≤ x.go := o.g0
  have k1' : x.go < 256 := o.g1
  have zg : (strOfNums [x.go]).size = 1 := by rw [strOfNums_size]; rfl
  have hps := pb_size
  have B5 : Hid (x.clr = false) := b5
  clear h va vw u hr o b5
  generalize listX ⟨#[0, 4]⟩ x.la = L4 at *
  generalize listX ⟨#[0, 3]⟩ x.lw = L3 at *
  go_enter Tryd.func13, Tryd.ntmps13
  go_wp2_with fail
  refine HR.out.mono ?_
  rintro r w1 ⟨rfl, g1⟩
  obtain ⟨c0, c1, c2, c3, c4, c5, c6, c7, c8, c9⟩ := HC.out _ g1
  rw [B5.out] at c5
  go_wp2_with fail
  refine (HP6.out _).mono ?_
  rintro r w2 ⟨rfl, g2'⟩
  have g2 := btr g1 g2' (by simp)
  clear c0 c1 c2 c3 c4 c5 c6 c7 c8 c9 g1 g2'
  obtain ⟨c0, c1, c2, c3, c4, c5, c6, c7, c8, c9⟩ := HC.out _ g2
  rw [B5.out] at c5
  go_wp2_with fail
  refine (H4.out _ g2).mono ?_
  rintro r w3 ⟨rfl, g3'⟩
  have g3 := btr g2 g3' (by simp)
  clear c0 c1 c2 c3 c4 c5 c6 c7 c8 c9 g2 g3'
  obtain ⟨c0, c1, c2, c3, c4, c5, c6, c7, c8, c9⟩ := HC.out _ g3
  rw [B5.out] at c5
  go_wp2_with fail
  refine (H3.out _ g3).mono ?_
  rintro r w4 ⟨rfl, g4'⟩
  have g4 := btr g3 g4' (by simp)
  clear c0 c1 c2 c3 c4 c5 c6 c7 c8 c9 g3 g4'
  obtain ⟨c0, c1, c2, c3, c4, c5, c6, c7, c8, c9⟩ := HC.out _ g4
  rw [B5.out] at c5
  go_wp2_with fail
  have e : ⟨#[0, 6, 0, 8]⟩ ++ pb x.met 4 ++ L4 ++ L3 ++ ⟨#[0, 1, 0, 8]⟩ ++ strOfNums [x.go] ++ ⟨#[0, 0, 0]⟩ = encX x.sp := by rw [EX.out]; simp only [ap_assoc, e_ap, ap_e]
  go_ret2
  exact ⟨by rw [← e]; rfl, (show Below w.heap.size w w4 from btr (by go_grown) g4 (by simp)).alloc (by have := g4.size; simp at this; omega) _⟩
set_option maxRecDepth 20000 in
set_option maxHeartbeats 8000000 in
theorem renc_1010 (x : En) (w : World) (h : EW w x) (va : AWs x.la) (vw : AWs x.lw) (u : EU x) (hr : rightX x.sp = 0) (b6 : (x.met != 0) = true) (b5 : x.clr = false) (b2 : (x.mm != 0) = true) (b1 : (x.go != 0) = false) :
    Calls Tryd.prog 13 #[enV x] w fun e w' => e = .returned (.tuple #[.string (encX x.sp), .int .i64 0]) ∧ Below w.heap.size w w' := by
  have o := right_ok u hr
  have HR : Hid (Calls Tryd.prog 10 #[enV x] (ex w x) fun e w' => e = .returned (.int .i64 0) ∧ Below (ex w x).heap.size (ex w x) w') := (show Calls _ _ _ _ _ from by
    have := rrX_any x (ex w x) (h.alloc _) va vw u.t0 u.t1
    rwa [hr] at this)
  have H4 : Hid (∀ w1, Below (ex w x).heap.size (ex w x) w1 → Calls Tryd.prog 23 #[.string ⟨#[0, 4]⟩, .slice x.aa x.la.length x.ca] w1 fun e w' => e = .returned (.string (listX ⟨#[0, 4]⟩ x.la)) ∧ Below w1.heap.size w1 w') := (show ∀ w1, _ from fun w1 g => list_any _ rfl _ _ _ w1 ((h.a.alloc _).below g) h.na va)
  have H3 : Hid (∀ w1, Below (ex w x).heap.size (ex w x) w1 → Calls Tryd.prog 23 #[.string ⟨#[0, 3]⟩, .slice x.aw x.lw.length x.cw] w1 fun e w' => e = .returned (.string (listX ⟨#[0, 3]⟩ x.lw)) ∧ Below w1.heap.size w1 w') := (show ∀ w1, _ from fun w1 g => list_any _ rfl _ _ _ w1 ((h.w.alloc _).below g) h.nw vw)
  have HC : Hid (∀ w1, Below (ex w x).heap.size (ex w x) w1 → Bn w1 w.heap.size x) := (show ∀ w1, _ from fun w1 g => (Bn.new w x).below (by simp) g)
  have z4 := list_size ⟨#[0, 4]⟩ x.la rfl
  have z3 := list_size ⟨#[0, 3]⟩ x.lw rfl
  have EX : Hid (encX x.sp = (⟨#[0, 6, 0, 8]⟩ ++ pb x.met 4) ++ listX ⟨#[0, 4]⟩ x.la ++ ⟨#[]⟩ ++ listX ⟨#[0, 3]⟩ x.lw ++ (⟨#[0, 2, 0, 24, 0, 0, 0, 0]⟩ ++ pb x.mt 8 ++ pb x.mm 8) ++ ⟨#[]⟩) := (show _ = _ by rw [encX_parts, p6_on (s := x.sp) b6, p4_eq, p5_off (s := x.sp) b5, p3_eq, p2_on (s := x.sp) b2, p1_off (s := x.sp) b1]; rfl)
  have HP6 : Hid (∀ w, Calls Tryd.prog 22 #[.int .u64 x.met, .int .i64 4] w fun e w' => e = .returned (.string (pb x.met 4)) ∧ Below w.heap.size w w') := (show ∀ w, _ from fun w => rput_any x.met 4 w (by omega) (by omega) o.m0 (Int.lt_trans o.m1 (by omega)))
  have hw6 : IntKind.u64.wrap x.met = x.met := wraps_u64 _ o.m0 (Int.lt_trans o.m1 (by omega))
  have k6 : 0 ≤ x.met := o.m0
  have k6' : x.met < 4294967296 := o.m1
  have HPt : Hid (∀ w, Calls Tryd.prog 22 #[.int .u64 x.mt, .int .i64 8] w fun e w' => e = .returned (.string (pb x.mt 8)) ∧ Below w.heap.size w w') := (show ∀ w, _ from fun w => rput_any x.mt 8 w (by omega) (by omega) u.t0 u.t1)
  have HPm : Hid (∀ w, Calls Tryd.prog 22 #[.int .u64 x.mm, .int .i64 8] w fun e w' => e = .returned (.string (pb x.mm 8)) ∧ Below w.heap.size w w') := (show ∀ w, _ from fun w => rput_any x.mm 8 w (by omega) (by omega) u.k0 u.k1)
  have hps := pb_size
  have B5 : Hid (x.clr = false) := b5
  clear h va vw u hr o b5
  generalize listX ⟨#[0, 4]⟩ x.la = L4 at *
  generalize listX ⟨#[0, 3]⟩ x.lw = L3 at *
  go_enter Tryd.func13, Tryd.ntmps13
  go_wp2_with fail
  refine HR.out.mono ?_
  rintro r w1 ⟨rfl, g1⟩
  obtain ⟨c0, c1, c2, c3, c4, c5, c6, c7, c8, c9⟩ := HC.out _ g1
  rw [B5.out] at c5
  go_wp2_with fail
  refine (HP6.out _).mono ?_
  rintro r w2 ⟨rfl, g2'⟩
  have g2 := btr g1 g2' (by simp)
  clear c0 c1 c2 c3 c4 c5 c6 c7 c8 c9 g1 g2'
  obtain ⟨c0, c1, c2, c3, c4, c5, c6, c7, c8, c9⟩ := HC.out _ g2
  rw [B5.out] at c5
  go_wp2_with fail
  refine (H4.out _ g2).mono ?_
  rintro r w3 ⟨rfl, g3'⟩
  have g3 := btr g2 g3' (by simp)
  clear c0 c1 c2 c3 c4 c5 c6 c7 c8 c9 g2 g3'
  obtain ⟨c0, c1, c2, c3, c4, c5, c6, c7, c8, c9⟩ := HC.out _ g3
  rw [B5.out] at c5
  go_wp2_with fail
  refine (H3.out _ g3).mono ?_
  rintro r w4 ⟨rfl, g4'⟩
  have g4 := btr g3 g4' (by simp)
  clear c0 c1 c2 c3 c4 c5 c6 c7 c8 c9 g3 g4'
  obtain ⟨c0, c1, c2, c3, c4, c5, c6, c7, c8, c9⟩ := HC.out _ g4
  rw [B5.out] at c5
  have szw : w.heap.size < w4.heap.size := by have := g4.size; simp at this; omega
  have q := Bn.gr (HC.out _ g4) szw
  have q6 := fun n => (q n).2.2.2.2.2.2.1
  have q7 := fun n => (q n).2.2.2.2.2.2.2.1
  clear q
  go_wp2_with fail
  refine wp_region_grow (by kernel_rfl) (by kernel_rfl) ?_
  repeat (go_big_quiet_step (first | (go_at_call_of 22 (Value.int IntKind.u64 x.mt); exact quiet_gr (HPt.out _)) | (go_at_call_of 22 (Value.int IntKind.u64 x.mm); exact quiet_gr (HPm.out _))))
  refine wpQuiet_nil ?_
  rintro w5 hw'
  have g5' := gr_elim hw'
  have g5 := btr g4 g5' (by simp)
  clear q6 q7 hw' szw
  clear c0 c1 c2 c3 c4 c5 c6 c7 c8 c9 g4 g5'
  obtain ⟨c0, c1, c2, c3, c4, c5, c6, c7, c8, c9⟩ := HC.out _ g5
  rw [B5.out] at c5
  go_wp2_with fail
  have e : ⟨#[0, 6, 0, 8]⟩ ++ pb x.met 4 ++ L4 ++ L3 ++ ⟨#[0, 2, 0, 24, 0, 0, 0, 0]⟩ ++ pb x.mt 8 ++ pb x.mm 8 = encX x.sp := by rw [EX.out]; simp only [ap_assoc, e_ap, ap_e]
  go_ret2
  exact ⟨by rw [← e]; rfl, btr (by go_grown) g5 (by simp)⟩
set_option maxRecDepth 20000 in
set_option maxHeartbeats 8000000 in
theorem renc_1011 (x : En) (w : World) (h : EW w x) (va : AWs x.la) (vw : AWs x.lw) (u : EU x) (hr : rightX x.sp = 0) (b6 : (x.met != 0) = true) (b5 : x.clr = false) (b2 : (x.mm != 0) = true) (b1 : (x.go != 0) = true) :
    Calls Tryd.prog 13 #[enV x] w fun e w' => e = .returned (.tuple #[.string (encX x.sp), .int .i64 0]) ∧ Below w.heap.size w w' := by
  have o := right_ok u hr
  have HR : Hid (Calls Tryd.prog 10 #[enV x] (ex w x) fun e w' => e = .returned (.int .i64 0) ∧ Below (ex w x).heap.size (ex w x) w') := (show Calls _ _ _ _ _ from by
    have := rrX_any x (ex w x) (h.alloc _) va vw u.t0 u.t1
    rwa [hr] at this)
  have H4 : Hid (∀ w1, Below (ex w x).heap.size (ex w x) w1 → Calls Tryd.prog 23 #[.string ⟨#[0, 4]⟩, .slice x.aa x.la.length x.ca] w1 fun e w' => e = .returned (.string (listX ⟨#[0, 4]⟩ x.la)) ∧ Below w1.heap.size w1 w') := (show ∀ w1, _ from fun w1 g => list_any _ rfl _ _ _ w1 ((h.a.alloc _).below g) h.na va)
  have H3 : Hid (∀ w1, Below (ex w x).heap.size (ex w x) w1 → Calls Tryd.prog 23 #[.string ⟨#[0, 3]⟩, .slice x.aw x.lw.length x.cw] w1 fun e w' => e = .returned (.string (listX ⟨#[0, 3]⟩ x.lw)) ∧ Below w1.heap.size w1 w') := (show ∀ w1, _ from fun w1 g => list_any _ rfl _ _ _ w1 ((h.w.alloc _).below g) h.nw vw)
  have HC : Hid (∀ w1, Below (ex w x).heap.size (ex w x) w1 → Bn w1 w.heap.size x) := (show ∀ w1, _ from fun w1 g => (Bn.new w x).below (by simp) g)
  have z4 := list_size ⟨#[0, 4]⟩ x.la rfl
  have z3 := list_size ⟨#[0, 3]⟩ x.lw rfl
  have EX : Hid (encX x.sp = (⟨#[0, 6, 0, 8]⟩ ++ pb x.met 4) ++ listX ⟨#[0, 4]⟩ x.la ++ ⟨#[]⟩ ++ listX ⟨#[0, 3]⟩ x.lw ++ (⟨#[0, 2, 0, 24, 0, 0, 0, 0]⟩ ++ pb x.mt 8 ++ pb x.mm 8) ++ (⟨#[0, 1, 0, 8]⟩ ++ strOfNums [x.go] ++ ⟨#[0, 0, 0]⟩)) := (show _ = _ by rw [encX_parts, p6_on (s := x.sp) b6, p4_eq, p5_off (s := x.sp) b5, p3_eq, p2_on (s := x.sp) b2, p1_on (s := x.sp) b1 o.g0 o.g1]; rfl)
  have HP6 : Hid (∀ w, Calls Tryd.prog 22 #[.int .u64 x.met, .int .i64 4] w fun e w' => e = .returned (.string (pb x.met 4)) ∧ Below w.heap.size w w') := (show ∀ w, _ from fun w => rput_any x.met 4 w (by omega) (by omega) o.m0 (Int.lt_trans o.m1 (by omega)))
  have hw6 : IntKind.u64.wrap x.met = x.met := wraps_u64 _ o.m0 (Int.lt_trans o.m1 (by omega))
  have k6 : 0 ≤ x.met := o.m0
  have k6' : x.met < 4294967296 := o.m1
  have HPt : Hid (∀ w, Calls Tryd.prog 22 #[.int .u64 x.mt, .int .i64 8] w fun e w' => e = .returned (.string (pb x.mt 8)) ∧ Below w.heap.size w w') := (show ∀ w, _ from fun w => rput_any x.mt 8 w (by omega) (by omega) u.t0 u.t1)
  have HPm : Hid (∀ w, Calls Tryd.prog 22 #[.int .u64 x.mm, .int .i64 8] w fun e w' => e = .returned (.string (pb x.mm 8)) ∧ Below w.heap.size w w') := (show ∀ w, _ from fun w => rput_any x.mm 8 w (by omega) (by omega) u.k0 u.k1)
  have hcv := cv1
  have hw1 : IntKind.u8.wrap x.go = x.go := by rw [IntKind.wrap_u8]; have h0 : 0 ≤ x.go := o.g0; have h1 : x.go < 256 := o.g1; omega
  have k1 : 0 ≤ x.go := o.g0
  have k1' : x.go < 256 := o.g1
  have zg : (strOfNums [x.go]).size = 1 := by rw [strOfNums_size]; rfl
  have hps := pb_size
  have B5 : Hid (x.clr = false) := b5
  clear h va vw u hr o b5
  generalize listX ⟨#[0, 4]⟩ x.la = L4 at *
  generalize listX ⟨#[0, 3]⟩ x.lw = L3 at *
  go_enter Tryd.func13, Tryd.ntmps13
  go_wp2_with fail
  refine HR.out.mono ?_
  rintro r w1 ⟨rfl, g1⟩
  obtain ⟨c0, c1, c2, c3, c4, c5, c6, c7, c8, c9⟩ := HC.out _ g1
  rw [B5.out] at c5
  go_wp2_with fail
  refine (HP6.out _).mono ?_
  rintro r w2 ⟨rfl, g2'⟩
  have g2 := btr g1 g2' (by simp)
  clear c0 c1 c2 c3 c4 c5 c6 c7 c8 c9 g1 g2'
  obtain ⟨c0, c1, c2, c3, c4, c5, c6, c7, c8, c9⟩ := HC.out _ g2
  rw [B5.out] at c5
  go_wp2_with fail
  refine (H4.out _ g2).mono ?_
  rintro r w3 ⟨rfl, g3'⟩
  have g3 := btr g2 g3' (by simp)
  clear c0 c1 c2 c3 c4 c5 c6 c7 c8 c9 g2 g3'
  obtain ⟨c0, c1, c2, c3, c4, c5, c6, c7, c8, c9⟩ := HC.out _ g3
  rw [B5.out] at c5
  go_wp2_with fail
  refine (H3.out _ g3).mono ?_
  rintro r w4 ⟨rfl, g4'⟩
  have g4 := btr g3 g4' (by simp)
  clear c0 c1 c2 c3 c4 c5 c6 c7 c8 c9 g3 g4'
  obtain ⟨c0, c1, c2, c3, c4, c5, c6, c7, c8, c9⟩ := HC.out _ g4
  rw [B5.out] at c5
  have szw : w.heap.size < w4.heap.size := by have := g4.size; simp at this; omega
  have q := Bn.gr (HC.out _ g4) szw
  have q6 := fun n => (q n).2.2.2.2.2.2.1
  have q7 := fun n => (q n).2.2.2.2.2.2.2.1
  clear q
  go_wp2_with fail
  refine wp_region_grow (by kernel_rfl) (by kernel_rfl) ?_
  repeat (go_big_quiet_step (first | (go_at_call_of 22 (Value.int IntKind.u64 x.mt); exact quiet_gr (HPt.out _)) | (go_at_call_of 22 (Value.int IntKind.u64 x.mm); exact quiet_gr (HPm.out _))))
  refine wpQuiet_nil ?_
  rintro w5 hw'
  have g5' := gr_elim hw'
  have g5 := btr g4 g5' (by simp)
  clear q6 q7 hw' szw
  clear c0 c1 c2 c3 c4 c5 c6 c7 c8 c9 g4 g5'
  obtain ⟨c0, c1, c2, c3, c4, c5, c6, c7, c8, c9⟩ := HC.out _ g5
  rw [B5.out] at c5
  go_wp2_with fail
  have e : ⟨#[0, 6, 0, 8]⟩ ++ pb x.met 4 ++ L4 ++ L3 ++ ⟨#[0, 2, 0, 24, 0, 0, 0, 0]⟩ ++ pb x.mt 8 ++ pb x.mm 8 ++ ⟨#[0, 1, 0, 8]⟩ ++ strOfNums [x.go] ++ ⟨#[0, 0, 0]⟩ = encX x.sp := by rw [EX.out]; simp only [ap_assoc, e_ap, ap_e]
  go_ret2
  exact ⟨by rw [← e]; rfl, (show Below w.heap.size w w5 from btr (by go_grown) g5 (by simp)).alloc (by have := g5.size; simp at this; omega) _⟩
set_option maxRecDepth 20000 in
set_option maxHeartbeats 8000000 in
theorem renc_1100 (x : En) (w : World) (h : EW w x) (va : AWs x.la) (vw : AWs x.lw) (u : EU x) (hr : rightX x.sp = 0) (b6 : (x.met != 0) = true) (b5 : x.clr = true) (b2 : (x.mm != 0) = false) (b1 : (x.go != 0) = false) :
    Calls Tryd.prog 13 #[enV x] w fun e w' => e = .returned (.tuple #[.string (encX x.sp), .int .i64 0]) ∧ Below w.heap.size w w' := by
  have o := right_ok u hr
  have HR : Hid (Calls Tryd.prog 10 #[enV x] (ex w x) fun e w' => e = .returned (.int .i64 0) ∧ Below (ex w x).heap.size (ex w x) w') := (show Calls _ _ _ _ _ from by
    have := rrX_any x (ex w x) (h.alloc _) va vw u.t0 u.t1
    rwa [hr] at this)
  have H4 : Hid (∀ w1, Below (ex w x).heap.size (ex w x) w1 → Calls Tryd.prog 23 #[.string ⟨#[0, 4]⟩, .slice x.aa x.la.length x.ca] w1 fun e w' => e = .returned (.string (listX ⟨#[0, 4]⟩ x.la)) ∧ Below w1.heap.size w1 w') := (show ∀ w1, _ from fun w1 g => list_any _ rfl _ _ _ w1 ((h.a.alloc _).below g) h.na va)
  have H3 : Hid (∀ w1, Below (ex w x).heap.size (ex w x) w1 → Calls Tryd.prog 23 #[.string ⟨#[0, 3]⟩, .slice x.aw x.lw.length x.cw] w1 fun e w' => e = .returned (.string (listX ⟨#[0, 3]⟩ x.lw)) ∧ Below w1.heap.size w1 w') := (show ∀ w1, _ from fun w1 g => list_any _ rfl _ _ _ w1 ((h.w.alloc _).below g) h.nw vw)
  have HC : Hid (∀ w1, Below (ex w x).heap.size (ex w x) w1 → Bn w1 w.heap.size x) := (show ∀ w1, _ from fun w1 g => (Bn.new w x).below (by simp) g)
  have z4 := list_size ⟨#[0, 4]⟩ x.la rfl
  have z3 := list_size ⟨#[0, 3]⟩ x.lw rfl
  have EX : Hid (encX x.sp = (⟨#[0, 6, 0, 8]⟩ ++ pb x.met 4) ++ listX ⟨#[0, 4]⟩ x.la ++ ⟨#[0, 5, 0, 8, 0, 0, 0, 0]⟩ ++ listX ⟨#[0, 3]⟩ x.lw ++ ⟨#[]⟩ ++ ⟨#[]⟩) := (show _ = _ by rw [encX_parts, p6_on (s := x.sp) b6, p4_eq, p5_on (s := x.sp) b5, p3_eq, p2_off (s := x.sp) b2, p1_off (s := x.sp) b1]; rfl)
  have HP6 : Hid (∀ w, Calls Tryd.prog 22 #[.int .u64 x.met, .int .i64 4] w fun e w' => e = .returned (.string (pb x.met 4)) ∧ Below w.heap.size w w') := (show ∀ w, _ from fun w => rput_any x.met 4 w (by omega) (by omega) o.m0 (Int.lt_trans o.m1 (by omega)))
  have hw6 : IntKind.u64.wrap x.met = x.met := wraps_u64 _ o.m0 (Int.lt_trans o.m1 (by omega))
  have k6 : 0 ≤ x.met := o.m0
  have k6' : x.met < 4294967296 := o.m1
  have hps := pb_size
  have B5 : Hid (x.clr = true) := b5
  clear h va vw u hr o b5
  generalize listX ⟨#[0, 4]⟩ x.la = L4 at *
  generalize listX ⟨#[0, 3]⟩ x.lw = L3 at *
  go_enter Tryd.func13, Tryd.ntmps13
  go_wp2_with fail
  refine HR.out.mono ?_
  rintro r w1 ⟨rfl, g1⟩
  obtain ⟨c0, c1, c2, c3, c4, c5, c6, c7, c8, c9⟩ := HC.out _ g1
  rw [B5.out] at c5
  go_wp2_with fail
  refine (HP6.out _).mono ?_
  rintro r w2 ⟨rfl, g2'⟩
  have g2 := btr g1 g2' (by simp)
  clear c0 c1 c2 c3 c4 c5 c6 c7 c8 c9 g1 g2'
  obtain ⟨c0, c1, c2, c3, c4, c5, c6, c7, c8, c9⟩ := HC.out _ g2
  rw [B5.out] at c5
  go_wp2_with fail
  refine (H4.out _ g2).mono ?_
  rintro r w3 ⟨rfl, g3'⟩
  have g3 := btr g2 g3' (by simp)
  clear c0 c1 c2 c3 c4 c5 c6 c7 c8 c9 g2 g3'
  obtain ⟨c0, c1, c2, c3, c4, c5, c6, c7, c8, c9⟩ := HC.out _ g3
  rw [B5.out] at c5
  go_wp2_with fail
  refine (H3.out _ g3).mono ?_
  rintro r w4 ⟨rfl, g4'⟩
  have g4 := btr g3 g4' (by simp)
  clear c0 c1 c2 c3 c4 c5 c6 c7 c8 c9 g3 g4'
  obtain ⟨c0, c1, c2, c3, c4, c5, c6, c7, c8, c9⟩ := HC.out _ g4
  rw [B5.out] at c5
  go_wp2_with fail
  have e : ⟨#[0, 6, 0, 8]⟩ ++ pb x.met 4 ++ L4 ++ ⟨#[0, 5, 0, 8, 0, 0, 0, 0]⟩ ++ L3 = encX x.sp := by rw [EX.out]; simp only [ap_assoc, e_ap, ap_e]
  go_ret2
  exact ⟨by rw [← e]; rfl, btr (by go_grown) g4 (by simp)⟩
set_option maxRecDepth 20000 in
set_option maxHeartbeats 8000000 in
theorem renc_1101 (x : En) (w : World) (h : EW w x) (va : AWs x.la) (vw : AWs x.lw) (u : EU x) (hr : rightX x.sp = 0) (b6 : (x.met != 0) = true) (b5 : x.clr = true) (b2 : (x.mm != 0) = false) (b1 : (x.go != 0) = true) :
    Calls Tryd.prog 13 #[enV x] w fun e w' => e = .returned (.tuple #[.string (encX x.sp), .int .i64 0]) ∧ Below w.heap.size w w' := by
  have o := right_ok u hr
  have HR : Hid (Calls Tryd.prog 10 #[enV x] (ex w x) fun e w' => e = .returned (.int .i64 0) ∧ Below (ex w x).heap.size (ex w x) w') := (show Calls _ _ _ _ _ from by
    have := rrX_any x (ex w x) (h.alloc _) va vw u.t0 u.t1
    rwa [hr] at this)
  have H4 : Hid (∀ w1, Below (ex w x).heap.size (ex w x) w1 → Calls Tryd.prog 23 #[.string ⟨#[0, 4]⟩, .slice x.aa x.la.length x.ca] w1 fun e w' => e = .returned (.string (listX ⟨#[0, 4]⟩ x.la)) ∧ Below w1.heap.size w1 w') := (show ∀ w1, _ from fun w1 g => list_any _ rfl _ _ _ w1 ((h.a.alloc _).below g) h.na va)
  have H3 : Hid (∀ w1, Below (ex w x).heap.size (ex w x) w1 → Calls Tryd.prog 23 #[.string ⟨#[0, 3]⟩, .slice x.aw x.lw.length x.cw] w1 fun e w' => e = .returned (.string (listX ⟨#[0, 3]⟩ x.lw)) ∧ Below w1.heap.size w1 w') := (show ∀ w1, _ from fun w1 g => list_any _ rfl _ _ _ w1 ((h.w.alloc _).below g) h.nw vw)
  have HC : Hid (∀ w1, Below (ex w x).heap.size (ex w x) w1 → Bn w1 w.heap.size x) := (show ∀ w1, _ from fun w1 g => (Bn.new w x).below (by simp) g)
  have z4 := list_size ⟨#[0, 4]⟩ x.la rfl
  have z3 := list_size ⟨#[0, 3]⟩ x.lw rfl
  have EX : Hid (encX x.sp = (⟨#[0, 6, 0, 8]⟩ ++ pb x.met 4) ++ listX ⟨#[0, 4]⟩ x.la ++ ⟨#[0, 5, 0, 8, 0, 0, 0, 0]⟩ ++ listX ⟨#[0, 3]⟩ x.lw ++ ⟨#[]⟩ ++ (⟨#[0, 1, 0, 8]⟩ ++ strOfNums [x.go] ++ ⟨#[0, 0, 0]⟩)) := (show _ = _ by rw [encX_parts, p6_on (s := x.sp) b6, p4_eq, p5_on (s := x.sp) b5, p3_eq, p2_off (s := x.sp) b2, p1_on (s := x.sp) b1 o.g0 o.g1]; rfl)
  have HP6 : Hid (∀ w, Calls Tryd.prog 22 #[.int .u64 x.met, .int .i64 4] w fun e w' => e = .returned (.string (pb x.met 4)) ∧ Below w.heap.size w w') := (show ∀ w, _ from fun w => rput_any x.met 4 w (by omega) (by omega) o.m0 (Int.lt_trans o.m1 (by omega)))
  have hw6 : IntKind.u64.wrap x.met = x.met := wraps_u64 _ o.m0 (Int.lt_trans o.m1 (by omega))
  have k6 : 0 ≤ x.met := o.m0
  have k6' : x.met < 4294967296 := o.m1
  have hcv := cv1
  have hw1 : IntKind.u8.wrap x.go = x.go := by rw [IntKind.wrap_u8]; have h0 : 0 ≤ x.go := o.g0; have h1 : x.go < 256 := o.g1; omega
  have k1 : 0 ≤ x.go := o.g0
  have k1' : x.go < 256 := o.g1
  have zg : (strOfNums [x.go]).size = 1 := by rw [strOfNums_size]; rfl
  have hps := pb_size
  have B5 : Hid (x.clr = true) := b5
  clear h va vw u hr o b5
  generalize listX ⟨#[0, 4]⟩ x.la = L4 at *
  generalize listX ⟨#[0, 3]⟩ x.lw = L3 at *
  go_enter Tryd.func13, Tryd.ntmps13
  go_wp2_with fail
  refine HR.out.mono ?_
  rintro r w1 ⟨rfl, g1⟩
  obtain ⟨c0, c1, c2, c3, c4, c5, c6, c7, c8, c9⟩ := HC.out _ g1
  rw [B5.out] at c5
  go_wp2_with fail
  refine (HP6.out _).mono ?_
  rintro r w2 ⟨rfl, g2'⟩
  have g2 := btr g1 g2' (by simp)
  clear c0 c1 c2 c3 c4 c5 c6 c7 c8 c9 g1 g2'
  obtain ⟨c0, c1, c2, c3, c4, c5, c6, c7, c8, c9⟩ := HC.out _ g2
  rw [B5.out] at c5
  go_wp2_with fail
  refine (H4.out _ g2).mono ?_
  rintro r w3 ⟨rfl, g3'⟩
  have g3 := btr g2 g3' (by simp)
  clear c0 c1 c2 c3 c4 c5 c6 c7 c8 c9 g2 g3'
  obtain ⟨c0, c1, c2, c3, c4, c5, c6, c7, c8, c9⟩ := HC.out _ g3
  rw [B5.out] at c5
  go_wp2_with fail
  refine (H3.out _ g3).mono ?_
  rintro r w4 ⟨rfl, g4'⟩
  have g4 := btr g3 g4' (by simp)
  clear c0 c1 c2 c3 c4 c5 c6 c7 c8 c9 g3 g4'
  obtain ⟨c0, c1, c2, c3, c4, c5, c6, c7, c8, c9⟩ := HC.out _ g4
  rw [B5.out] at c5
  go_wp2_with fail
  have e : ⟨#[0, 6, 0, 8]⟩ ++ pb x.met 4 ++ L4 ++ ⟨#[0, 5, 0, 8, 0, 0, 0, 0]⟩ ++ L3 ++ ⟨#[0, 1, 0, 8]⟩ ++ strOfNums [x.go] ++ ⟨#[0, 0, 0]⟩ = encX x.sp := by rw [EX.out]; simp only [ap_assoc, e_ap, ap_e]
  go_ret2
  exact ⟨by rw [← e]; rfl, (show Below w.heap.size w w4 from btr (by go_grown) g4 (by simp)).alloc (by have := g4.size; simp at this; omega) _⟩
set_option maxRecDepth 20000 in
set_option maxHeartbeats 8000000 in
theorem renc_1110 (x : En) (w : World) (h : EW w x) (va : AWs x.la) (vw : AWs x.lw) (u : EU x) (hr : rightX x.sp = 0) (b6 : (x.met != 0) = true) (b5 : x.clr = true) (b2 : (x.mm != 0) = true) (b1 : (x.go != 0) = false) :
    Calls Tryd.prog 13 #[enV x] w fun e w' => e = .returned (.tuple #[.string (encX x.sp), .int .i64 0]) ∧ Below w.heap.size w w' := by
  have o := right_ok u hr
  have HR : Hid (Calls Tryd.prog 10 #[enV x] (ex w x) fun e w' => e = .returned (.int .i64 0) ∧ Below (ex w x).heap.size (ex w x) w') := (show Calls _ _ _ _ _ from by
    have := rrX_any x (ex w x) (h.alloc _) va vw u.t0 u.t1
    rwa [hr] at this)
  have H4 : Hid (∀ w1, Below (ex w x).heap.size (ex w x) w1 → Calls Tryd.prog 23 #[.string ⟨#[0, 4]⟩, .slice x.aa x.la.length x.ca] w1 fun e w' => e = .returned (.string (listX ⟨#[0, 4]⟩ x.la)) ∧ Below w1.heap.size w1 w') := (show ∀ w1, _ from fun w1 g => list_any _ rfl _ _ _ w1 ((h.a.alloc _).below g) h.na va)
  have H3 : Hid (∀ w1, Below (ex w x).heap.size (ex w x) w1 → Calls Tryd.prog 23 #[.string ⟨#[0, 3]⟩, .slice x.aw x.lw.length x.cw] w1 fun e w' => e = .returned (.string (listX ⟨#[0, 3]⟩ x.lw)) ∧ Below w1.heap.size w1 w') := (show ∀ w1, _ from fun w1 g => list_any _ rfl _ _ _ w1 ((h.w.alloc _).below g) h.nw vw)
  have HC : Hid (∀ w1, Below (ex w x).heap.size (ex w x) w1 → Bn w1 w.heap.size x) := (show ∀ w1, _ from fun w1 g => (Bn.new w x).below (by simp) g)
  have z4 := list_size ⟨#[0, 4]⟩ x.la rfl
  have z3 := list_size ⟨#[0, 3]⟩ x.lw rfl
  have EX : Hid (encX x.sp = (⟨#[0, 6, 0, 8]⟩ ++ pb x.met 4) ++ listX ⟨#[0, 4]⟩ x.la ++ ⟨#[0, 5, 0, 8, 0, 0, 0, 0]⟩ ++ listX ⟨#[0, 3]⟩ x.lw ++ (⟨#[0, 2, 0, 24, 0, 0, 0, 0]⟩ ++ pb x.mt 8 ++ pb x.mm 8) ++ ⟨#[]⟩) := (show _ = _ by rw [encX_parts, p6_on (s := x.sp) b6, p4_eq, p5_on (s := x.sp) b5, p3_eq, p2_on (s := x.sp) b2, p1_off (s := x.sp) b1]; rfl)
  have HP6 : Hid (∀ w, Calls Tryd.prog 22 #[.int .u64 x.met, .int .i64 4] w fun e w' => e = .returned (.string (pb x.met 4)) ∧ Below w.heap.size w w') := (show ∀ w, _ from fun w => rput_any x.met 4 w (by omega) (by omega) o.m0 (Int.lt_trans o.m1 (by omega)))
  have hw6 : IntKind.u64.wrap x.met = x.met := wraps_u64 _ o.m0 (Int.lt_trans o.m1 (by omega))
  have k6 : 0 ≤ x.met := o.m0
  have k6' : x.met < 4294967296 := o.m1
  have HPt : Hid (∀ w, Calls Tryd.prog 22 #[.int .u64 x.mt, .int .i64 8] w fun e w' => e = .returned (.string (pb x.mt 8)) ∧ Below w.heap.size w w') := (show ∀ w, _ from fun w => rput_any x.mt 8 w (by omega) (by omega) u.t0 u.t1)
  have HPm : Hid (∀ w, Calls Tryd.prog 22 #[.int .u64 x.mm, .int .i64 8] w fun e w' => e = .returned (.string (pb x.mm 8)) ∧ Below w.heap.size w w') := (show ∀ w, _ from fun w => rput_any x.mm 8 w (by omega) (by omega) u.k0 u.k1)
  have hps := pb_size
  have B5 : Hid (x.clr = true) := b5
  clear h va vw u hr o b5
  generalize listX ⟨#[0, 4]⟩ x.la = L4 at *
  generalize listX ⟨#[0, 3]⟩ x.lw = L3 at *
  go_enter Tryd.func13, Tryd.ntmps13
  go_wp2_with fail
  refine HR.out.mono ?_
  rintro r w1 ⟨rfl, g1⟩
  obtain ⟨c0, c1, c2, c3, c4, c5, c6, c7, c8, c9⟩ := HC.out _ g1
  rw [B5.out] at c5
  go_wp2_with fail
  refine (HP6.out _).mono ?_
  rintro r w2 ⟨rfl, g2'⟩
  have g2 := btr g1 g2' (by simp)
  clear c0 c1 c2 c3 c4 c5 c6 c7 c8 c9 g1 g2'
  obtain ⟨c0, c1, c2, c3, c4, c5, c6, c7, c8, c9⟩ := HC.out _ g2
  rw [B5.out] at c5
  go_wp2_with fail
  refine (H4.out _ g2).mono ?_
  rintro r w3 ⟨rfl, g3'⟩
  have g3 := btr g2 g3' (by simp)
  clear c0 c1 c2 c3 c4 c5 c6 c7 c8 c9 g2 g3'
  obtain ⟨c0, c1, c2, c3, c4, c5, c6, c7, c8, c9⟩ := HC.out _ g3
  rw [B5.out] at c5
  go_wp2_with fail
  refine (H3.out _ g3).mono ?_
  rintro r w4 ⟨rfl, g4'⟩
  have g4 := btr g3 g4' (by simp)
  clear c0 c1 c2 c3 c4 c5 c6 c7 c8 c9 g3 g4'
  obtain ⟨c0, c1, c2, c3, c4, c5, c6, c7, c8, c9⟩ := HC.out _ g4
  rw [B5.out] at c5
  have szw : w.heap.size < w4.heap.size := by have := g4.size; simp at this; omega
  have q := Bn.gr (HC.out _ g4) szw
  have q6 := fun n => (q n).2.2.2.2.2.2.1
  have q7 := fun n => (q n).2.2.2.2.2.2.2.1
  clear q
  go_wp2_with fail
  refine wp_region_grow (by kernel_rfl) (by kernel_rfl) ?_
  repeat (go_big_quiet_step (first | (go_at_call_of 22 (Value.int IntKind.u64 x.mt); exact quiet_gr (HPt.out _)) | (go_at_call_of 22 (Value.int IntKind.u64 x.mm); exact quiet_gr (HPm.out _))))
  refine wpQuiet_nil ?_
  rintro w5 hw'
  have g5' := gr_elim hw'
  have g5 := btr g4 g5' (by simp)
  clear q6 q7 hw' szw
  clear c0 c1 c2 c3 c4 c5 c6 c7 c8 c9 g4 g5'
  obtain ⟨c0, c1, c2, c3, c4, c5, c6, c7, c8, c9⟩ := HC.out _ g5
  rw [B5.out] at c5
  go_wp2_with fail
  have e : ⟨#[0, 6, 0, 8]⟩ ++ pb x.met 4 ++ L4 ++ ⟨#[0, 5, 0, 8, 0, 0, 0, 0]⟩ ++ L3 ++ ⟨#[0, 2, 0, 24, 0, 0, 0, 0]⟩ ++ pb x.mt 8 ++ pb x.mm 8 = encX x.sp := by rw [EX.out]; simp only [ap_assoc, e_ap, ap_e]
  go_ret2
  exact ⟨by rw [← e]; rfl, btr (by go_grown) g5 (by simp)⟩
set_option maxRecDepth 20000 in
set_option maxHeartbeats 8000000 in
theorem renc_1111 (x : En) (w : World) (h : EW w x) (va : AWs x.la) (vw : AWs x.lw) (u : EU x) (hr : rightX x.sp = 0) (b6 : (x.met != 0) = true) (b5 : x.clr = true) (b2 : (x.mm != 0) = true) (b1 : (x.go != 0) = true) :
    Calls Tryd.prog 13 #[enV x] w fun e w' => e = .returned (.tuple #[.string (encX x.sp), .int .i64 0]) ∧ Below w.heap.size w w' := by
  have o := right_ok u hr
  have HR : Hid (Calls Tryd.prog 10 #[enV x] (ex w x) fun e w' => e = .returned (.int .i64 0) ∧ Below (ex w x).heap.size (ex w x) w') := (show Calls _ _ _ _ _ from by
    have := rrX_any x (ex w x) (h.alloc _) va vw u.t0 u.t1
    rwa [hr] at this)
  have H4 : Hid (∀ w1, Below (ex w x).heap.size (ex w x) w1 → Calls Tryd.prog 23 #[.string ⟨#[0, 4]⟩, .slice x.aa x.la.length x.ca] w1 fun e w' => e = .returned (.string (listX ⟨#[0, 4]⟩ x.la)) ∧ Below w1.heap.size w1 w') := (show ∀ w1, _ from fun w1 g => list_any _ rfl _ _ _ w1 ((h.a.alloc _).below g) h.na va)
  have H3 : Hid (∀ w1, Below (ex w x).heap.size (ex w x) w1 → Calls Tryd.prog 23 #[.string ⟨#[0, 3]⟩, .slice x.aw x.lw.length x.cw] w1 fun e w' => e = .returned (.string (listX ⟨#[0, 3]⟩ x.lw)) ∧ Below w1.heap.size w1 w') := (show ∀ w1, _ from fun w1 g => list_any _ rfl _ _ _ w1 ((h.w.alloc _).below g) h.nw vw)
  have HC : Hid (∀ w1, Below (ex w x).heap.size (ex w x) w1 → Bn w1 w.heap.size x) := (show ∀ w1, _ from fun w1 g => (Bn.new w x).below (by simp) g)
  have z4 := list_size ⟨#[0, 4]⟩ x.la rfl
  have z3 := list_size ⟨#[0, 3]⟩ x.lw rfl
  have EX : Hid (encX x.sp = (⟨#[0, 6, 0, 8]⟩ ++ pb x.met 4) ++ listX ⟨#[0, 4]⟩ x.la ++ ⟨#[0, 5, 0, 8, 0, 0, 0, 0]⟩ ++ listX ⟨#[0, 3]⟩ x.lw ++ (⟨#[0, 2, 0, 24, 0, 0, 0, 0]⟩ ++ pb x.mt 8 ++ pb x.mm 8) ++ (⟨#[0, 1, 0, 8]⟩ ++ strOfNums [x.go] ++ ⟨#[0, 0, 0]⟩)) := (show _ = _ by rw [encX_parts, p6_on (s := x.sp) b6, p4_eq, p5_on (s := x.sp) b5, p3_eq, p2_on (s := x.sp) b2, p1_on (s := x.sp) b1 o.g0 o.g1]; rfl)
  have HP6 : Hid (∀ w, Calls Tryd.prog 22 #[.int .u64 x.met, .int .i64 4] w fun e w' => e = .returned (.string (pb x.met 4)) ∧ Below w.heap.size w w') := (show ∀ w, _ from fun w => rput_any x.met 4 w (by omega) (by omega) o.m0 (Int.lt_trans o.m1 (by omega)))
  have hw6 : IntKind.u64.wrap x.met = x.met := wraps_u64 _ o.m0 (Int.lt_trans o.m1 (by omega))
  have k6 : 0 ≤ x.met := o.m0
  have k6' : x.met < 4294967296 := o.m1
  have HPt : Hid (∀ w, Calls Tryd.prog 22 #[.int .u64 x.mt, .int .i64 8] w fun e w' => e = .returned (.string (pb x.mt 8)) ∧ Below w.heap.size w w') := (show ∀ w, _ from fun w => rput_any x.mt 8 w (by omega) (by omega) u.t0 u.t1)
  have HPm : Hid (∀ w, Calls Tryd.prog 22 #[.int .u64 x.mm, .int .i64 8] w fun e w' => e = .returned (.string (pb x.mm 8)) ∧ Below w.heap.size w w') := (show ∀ w, _ from fun w => rput_any x.mm 8 w (by omega) (by omega) u.k0 u.k1)
  have hcv := cv1
  have hw1 : IntKind.u8.wrap x.go = x.go := by rw [IntKind.wrap_u8]; have h0 : 0 ≤ x.go := o.g0; have h1 : x.go < 256 := o.g1; omega
  have k1 : 0 ≤ x.go := o.g0
  have k1' : x.go < 256 := o.g1
  have zg : (strOfNums [x.go]).size = 1 := by rw [strOfNums_size]; rfl
  have hps := pb_size
  have B5 : Hid (x.clr = true) := b5
  clear h va vw u hr o b5
  generalize listX ⟨#[0, 4]⟩ x.la = L4 at *
  generalize listX ⟨#[0, 3]⟩ x.lw = L3 at *
  go_enter Tryd.func13, Tryd.ntmps13
  go_wp2_with fail
  refine HR.out.mono ?_
  rintro r w1 ⟨rfl, g1⟩
  obtain ⟨c0, c1, c2, c3, c4, c5, c6, c7, c8, c9⟩ := HC.out _ g1
  rw [B5.out] at c5
  go_wp2_with fail
  refine (HP6.out _).mono ?_
  rintro r w2 ⟨rfl, g2'⟩
  have g2 := btr g1 g2' (by simp)
  clear c0 c1 c2 c3 c4 c5 c6 c7 c8 c9 g1 g2'
  obtain ⟨c0, c1, c2, c3, c4, c5, c6, c7, c8, c9⟩ := HC.out _ g2
  rw [B5.out] at c5
  go_wp2_with fail
  refine (H4.out _ g2).mono ?_
  rintro r w3 ⟨rfl, g3'⟩
  have g3 := btr g2 g3' (by simp)
  clear c0 c1 c2 c3 c4 c5 c6 c7 c8 c9 g2 g3'
  obtain ⟨c0, c1, c2, c3, c4, c5, c6, c7, c8, c9⟩ := HC.out _ g3
  rw [B5.out] at c5
  go_wp2_with fail
  refine (H3.out _ g3).mono ?_
  rintro r w4 ⟨rfl, g4'⟩
  have g4 := btr g3 g4' (by simp)
  clear c0 c1 c2 c3 c4 c5 c6 c7 c8 c9 g3 g4'
  obtain ⟨c0, c1, c2, c3, c4, c5, c6, c7, c8, c9⟩ := HC.out _ g4
  rw [B5.out] at c5
  have szw : w.heap.size < w4.heap.size := by have := g4.size; simp at this; omega
  have q := Bn.gr (HC.out _ g4) szw
  have q6 := fun n => (q n).2.2.2.2.2.2.1
  have q7 := fun n => (q n).2.2.2.2.2.2.2.1
  clear q
  go_wp2_with fail
  refine wp_region_grow (by kernel_rfl) (by kernel_rfl) ?_
  repeat (go_big_quiet_step (first | (go_at_call_of 22 (Value.int IntKind.u64 x.mt); exact quiet_gr (HPt.out _)) | (go_at_call_of 22 (Value.int IntKind.u64 x.mm); exact quiet_gr (HPm.out _))))
  refine wpQuiet_nil ?_
  rintro w5 hw'
  have g5' := gr_elim hw'
  have g5 := btr g4 g5' (by simp)
  clear q6 q7 hw' szw
  clear c0 c1 c2 c3 c4 c5 c6 c7 c8 c9 g4 g5'
  obtain ⟨c0, c1, c2, c3, c4, c5, c6, c7, c8, c9⟩ := HC.out _ g5
  rw [B5.out] at c5
  go_wp2_with fail
  have e : ⟨#[0, 6, 0, 8]⟩ ++ pb x.met 4 ++ L4 ++ ⟨#[0, 5, 0, 8, 0, 0, 0, 0]⟩ ++ L3 ++ ⟨#[0, 2, 0, 24, 0, 0, 0, 0]⟩ ++ pb x.mt 8 ++ pb x.mm 8 ++ ⟨#[0, 1, 0, 8]⟩ ++ strOfNums [x.go] ++ ⟨#[0, 0, 0]⟩ = encX x.sp := by rw [EX.out]; simp only [ap_assoc, e_ap, ap_e]
  go_ret2
  exact ⟨by rw [← e]; rfl, (show Below w.heap.size w w5 from btr (by go_grown) g5 (by simp)).alloc (by have := g5.size; simp at this; omega) _⟩
set_option maxHeartbeats 4000000 in
theorem renc_any (x : En) (w : World) (h : EW w x) (va : AWs x.la) (vw : AWs x.lw) (u : EU x) :
    Calls Tryd.prog 13 #[enV x] w fun e w' => e = .returned (.tuple #[.string (encodeX x.sp), .int .i64 (rightX x.sp)]) ∧ Below w.heap.size w w' := by
  by_cases hr : rightX x.sp = 0
  · have e : encodeX x.sp = encX x.sp := by unfold encodeX; rw [if_pos hr]
    rw [e, hr]
    cases b6 : (x.met != 0) <;> cases b5 : x.clr <;> cases b2 : (x.mm != 0) <;> cases b1 : (x.go != 0)
    · exact renc_0000 x w h va vw u hr b6 b5 b2 b1
    · exact renc_0001 x w h va vw u hr b6 b5 b2 b1
    · exact renc_0010 x w h va vw u hr b6 b5 b2 b1
    · exact renc_0011 x w h va vw u hr b6 b5 b2 b1
    · exact renc_0100 x w h va vw u hr b6 b5 b2 b1
    · exact renc_0101 x w h va vw u hr b6 b5 b2 b1
    · exact renc_0110 x w h va vw u hr b6 b5 b2 b1
    · exact renc_0111 x w h va vw u hr b6 b5 b2 b1
    · exact renc_1000 x w h va vw u hr b6 b5 b2 b1
    · exact renc_1001 x w h va vw u hr b6 b5 b2 b1
    · exact renc_1010 x w h va vw u hr b6 b5 b2 b1
    · exact renc_1011 x w h va vw u hr b6 b5 b2 b1
    · exact renc_1100 x w h va vw u hr b6 b5 b2 b1
    · exact renc_1101 x w h va vw u hr b6 b5 b2 b1
    · exact renc_1110 x w h va vw u hr b6 b5 b2 b1
    · exact renc_1111 x w h va vw u hr b6 b5 b2 b1
  · have e : encodeX x.sp = ⟨#[]⟩ := by unfold encodeX; rw [if_neg hr]
    rw [e]
    have HR : Hid (Calls Tryd.prog 10 #[enV x] (ex w x) fun e w' => e = .returned (.int .i64 (rightX x.sp)) ∧ Below (ex w x).heap.size (ex w x) w') := rrX_any x (ex w x) (h.alloc _) va vw u.t0 u.t1
    have hb : (rightX x.sp != 0) = true := by simpa using hr
    clear e hr h va vw u
    generalize rightX x.sp = R at *
    go_enter Tryd.func13, Tryd.ntmps13
    go_wp2_with fail
    refine HR.out.mono ?_
    rintro r w1 ⟨rfl, g1⟩
    go_wp2_with fail
    go_ret2
    exact ⟨rfl, btr (by go_grown) g1 (by simp)⟩
end Go.Proofs.YtcbhkbiofmimbaaDoor

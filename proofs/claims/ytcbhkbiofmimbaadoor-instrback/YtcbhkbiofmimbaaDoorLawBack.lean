/-
  The walk of InstrBack.
-/
import Derived.Test.YtcbhkbiofmimbaaDoorESame
import Derived.Test.YtcbhkbiofmimbaaDoorEMath
import Derived.Test.YtcbhkbiofmimbaaDoorOpenE
namespace Go.Proofs.YtcbhkbiofmimbaaDoor
open Go.ChangeShapes Go.WideShapes Go.ChangeAt Go.RowKit

theorem EIn.ew {w : World} {x : En} (h : EIn w x) (f : fewB x = true) : EW w x := by
  unfold fewB at f
  simp at f
  exact ⟨h.a, h.w, by omega, by omega⟩
theorem EIn.fine {w : World} {x : En} (h : EIn w x) (hr : rightX x.sp = 0) : Fine x.sp := by
  have o := right_ok h.u hr
  have hk : encodeE x.la = 0 ∧ encodeE x.lw = 0 ∧ bits .andNot .u64 x.mt x.mm = 0 := by
    unfold rightX En.sp at hr
    simp only at hr
    split at hr
    · cases hr
    · split at hr
      · next h' => exact absurd hr h'
      · next h1 =>
        split at hr
        · next h' => exact absurd hr h'
        · next h2 =>
          split at hr
          · cases hr
          · split at hr
            · cases hr
            · next h3 => exact ⟨by simpa using h1, by simpa using h2, by simpa using h3⟩
  refine ⟨o, hk.1, hk.2.1, fun a ha => (h.va a ha).v0, fun a ha => (h.vw a ha).v0, fun hm => ?_⟩
  have hm' : x.mm = 0 := hm
  have e := (not_iff x.mt x.mm h.u.t0 h.u.t1).1 hk.2.2
  have := le_of_and x.mt x.mm h.u.k0 h.u.k1 e
  have h0 := h.u.t0
  show x.mt = 0
  omega
theorem SOk.eu {y : En} (o : SOk y.sp) : EU y := ⟨o.t0, o.t1, o.k0, o.k1⟩
theorem isE {s : ByteArray} (h : s = ⟨#[]⟩) : s.toList.isEmpty = true := by rw [h, ByteArray.toList_eq]; rfl
set_option maxRecDepth 20000 in
set_option maxHeartbeats 8000000 in
theorem back_long (x : En) (t : Int) (d : ByteArray) (w : World) (hd : Cd w) (hg : fewB x = false ∨ fewB x = true ∧ 2000 < d.size) :
    Calls Tryd.prog 6 #[enV x, .int .i64 t, .string d] w fun e w' => e = .returned (.bool true) ∧ Below w.heap.size w w' := by
  have HA : Hid (∀ w, Cd w → Calls Tryd.prog 11 #[] w fun e w' => e = .returned (.bool true) ∧ Below w.heap.size w w') := (show ∀ w, _ from fun w hd => awake_any w hd)
  have HFw : Hid (∀ w, Calls Tryd.prog 8 #[enV x] w fun e w' => e = .returned (.bool (fewB x)) ∧ Below w.heap.size w w') := (show ∀ w, _ from fun w => few_any x w)
  have HD : Hid (Cd w) := hd
  clear hd
  rcases hg with hg | ⟨hg, h2⟩
  · rw [hg] at HFw
    go_enter Tryd.func6, Tryd.ntmps6
    go_wp2_with fail
    refine (HFw.out _).mono ?_
    rintro r w1 ⟨rfl, g1⟩
    have G1 : Below w.heap.size w w1 := btr (by go_grown) g1 (by simp)
    go_wp2_with fail
    refine (HA.out _ (HD.out.below G1)).mono ?_
    rintro r w3 ⟨rfl, g3⟩
    go_wp2_with fail
    go_ret
    exact ⟨rfl, btr G1 g3 (by simp)⟩
  · have h2' : (2000 : Int) < d.size := by omega
    rw [hg] at HFw
    go_enter Tryd.func6, Tryd.ntmps6
    go_wp2_with fail
    refine (HFw.out _).mono ?_
    rintro r w1 ⟨rfl, g1⟩
    have G1 : Below w.heap.size w w1 := btr (by go_grown) g1 (by simp)
    go_wp2_with fail
    refine (HA.out _ (HD.out.below G1)).mono ?_
    rintro r w3 ⟨rfl, g3⟩
    go_wp2_with fail
    go_ret
    exact ⟨rfl, btr G1 g3 (by simp)⟩
set_option maxRecDepth 20000 in
set_option maxHeartbeats 16000000 in
theorem back_AY (x : En) (t : Int) (d : ByteArray) (w : World) (h : EIn w x) (hd : Cd w) (hf : fewB x = true) (hx : d.size ≤ 2000) (hE : rightX x.sp = 0) (hF : (decX t d).2 = 0) :
    Calls Tryd.prog 6 #[enV x, .int .i64 t, .string d] w fun e w' => e = .returned (.bool true) ∧ Below w.heap.size w w' := by
  have HA : Hid (∀ w, Cd w → Calls Tryd.prog 11 #[] w fun e w' => e = .returned (.bool true) ∧ Below w.heap.size w w') := (show ∀ w, _ from fun w hd => awake_any w hd)
  have HFw : Hid (∀ w, Calls Tryd.prog 8 #[enV x] w fun e w' => e = .returned (.bool true) ∧ Below w.heap.size w w') := (show ∀ w, _ from fun w => by
    have := few_any x w
    rwa [hf] at this)
  have n2 : ¬ ((2000 : Int) < d.size) := by omega
  have hmx : d.size ≤ maxLen := Nat.le_trans hx (by decide)
  have ew := h.ew hf
  have HC : Hid (∀ w1, Below (w.heap.size + 1) (ex w x) w1 → Bn w1 w.heap.size x) := (show ∀ w1, _ from fun w1 g => (Bn.new w x).below (by omega) g)
  have HG : Hid (∀ w1, Below (w.heap.size + 1) (ex w x) w1 → Below w.heap.size w w1) := (show ∀ w1, _ from fun w1 g => (show Below w.heap.size w (ex w x) by go_grown).trans (g.mono (by omega)))
  have HEW : Hid (EW w x) := ew
  have HSm : Hid (∀ (a b : En) (w : World), b.sp = a.sp → EW w a → EW w b → Calls Tryd.prog 16 #[enV a, enV b] w fun e w' => e = .returned (.bool true) ∧ Below w.heap.size w w') := (show ∀ (a b : En) (w : World), _ from fun a b w e h1 h2 => sameE a b w e h1 h2)
  have HE : Hid (∀ w1, Below w.heap.size w w1 → Calls Tryd.prog 12 #[enV x] w1 fun e w' => e = .returned (.tuple #[.string (encX x.sp), .int .i64 0]) ∧ Below w1.heap.size w1 w') := (show ∀ w1, _ from fun w1 g => by
    have := encodeX_any x w1 (ew.below g) h.u (hd.below g)
    rwa [show encodeX x.sp = encX x.sp by unfold encodeX; rw [if_pos hE], hE] at this)
  have HDs : Hid (∀ w1, Below w.heap.size w w1 → Calls Tryd.prog 14 #[.int .i64 x.tab, .string (encX x.sp)] w1 fun e w' => ∃ y : En, e = .returned (.tuple #[enV y, .int .i64 0]) ∧ Hid (y.sp = x.sp) ∧ Hid (EW w' y) ∧ Below w1.heap.size w1 w') := (show ∀ w1, _ from fun w1 g => by
    refine (decX_any x.tab (encX x.sp) w1 (Nat.le_trans (encX_size _) (by decide)) (hd.below g)).mono ?_
    have e : decX x.tab (encX x.sp) = (x.sp, 0) := decX_enc (h.fine hE) hE
    rintro r w' ⟨y, rfl, h1, _, h3, _, g'⟩
    rw [e] at h1 ⊢
    exact ⟨y, rfl, (show _ = _ from h1), (show EW _ _ from h3.ew), g'⟩)
  have hzs := encX_size x.sp
  obtain ⟨k1, k2, k3⟩ := encX_dec t d hF
  have HDd : Hid (∀ w1, Cd w1 → Calls Tryd.prog 14 #[.int .i64 t, .string d] w1 fun e w' => ∃ y : En, e = .returned (.tuple #[enV y, .int .i64 0]) ∧ Hid (y.tab = t) ∧ Hid (∀ w2, Below w'.heap.size w' w2 → Cd w2 → Calls Tryd.prog 12 #[enV y] w2 fun e w'' => e = .returned (.tuple #[.string d, .int .i64 0]) ∧ Below w2.heap.size w2 w'') ∧ Below w1.heap.size w1 w') := (show ∀ w1, _ from fun w1 hc => by
    refine (decX_any t d w1 hmx hc).mono ?_
    rintro r w' ⟨y, rfl, h1, _, h3, h4, g'⟩
    rw [hF]
    refine ⟨y, rfl, (show _ = _ from ?_), (show ∀ w2, _ from fun w2 g2 hc2 => ?_), g'⟩
    · have : y.sp.tab = t := by rw [h1]; exact k3
      exact this
    · have := encodeX_any y w2 (h3.ew.below g2) h4.eu hc2
      rw [h1, show encodeX (decX t d).1 = encX (decX t d).1 by unfold encodeX; rw [if_pos k1], k1, k2] at this
      exact this)
  have hq : (d.toList == d.toList) = true := by simp
  have hqt : (t == t) = true := by simp
  clear k1 k2 k3
  have HD : Hid (Cd w) := hd
  clear h hd hf hx hmx ew hE hF
  generalize encX x.sp = S at *
  go_enter Tryd.func6, Tryd.ntmps6
  go_wp2_with fail
  refine (HFw.out _).mono ?_
  rintro r w1 ⟨rfl, g1'⟩
  have g1 : Below (w.heap.size + 1) (ex w x) w1 := by simpa using g1'
  clear g1'
  obtain ⟨c0, c1, c2, c3, c4, c5, c6, c7, c8, c9⟩ := HC.out _ g1
  go_wp2_with fail
  refine (HE.out _ (HG.out _ g1)).mono ?_
  rintro r w2 ⟨rfl, g2'⟩
  have g2 := btr g1 g2' (by simp)
  clear c0 c1 c2 c3 c4 c5 c6 c7 c8 c9 g1 g2'
  obtain ⟨c0, c1, c2, c3, c4, c5, c6, c7, c8, c9⟩ := HC.out _ g2
  go_wp2_with fail
  refine (HDs.out _ (HG.out _ g2)).mono ?_
  rintro r w3 ⟨y, rfl, HY1, HY2, g3'⟩
  have g3 := btr g2 g3' (by simp)
  clear c0 c1 c2 c3 c4 c5 c6 c7 c8 c9 g2 g3'
  have g3x : Below (w.heap.size + 1) (ex w x) (ex w3 y) := g3.alloc (by have := g3.size; simp at this; omega) _
  have HS1 : Hid (Calls Tryd.prog 16 #[enV x, enV y] (ex w3 y) fun e w' => e = .returned (.bool true) ∧ Below (ex w3 y).heap.size (ex w3 y) w') := (show Calls _ _ _ _ _ from HSm.out x y (ex w3 y) HY1.out (HEW.out.below (HG.out _ g3x)) (HY2.out.alloc _))
  obtain ⟨c0, c1, c2, c3, c4, c5, c6, c7, c8, c9⟩ := HC.out _ g3x
  have hsz3 : w.heap.size + 1 ≤ w3.heap.size := by have := g3.size; simpa using this
  go_wp2_with fail
  refine HS1.out.mono ?_
  rintro r w4 ⟨rfl, g4'⟩
  have g4 := btr g3x g4' (by simp)
  clear c0 c1 c2 c3 c4 c5 c6 c7 c8 c9 g3 g3x g4' HS1 hsz3
  go_wp2_with fail
  refine (HDd.out _ (HD.out.below (HG.out _ g4))).mono ?_
  rintro r w5 ⟨z, rfl, HZ1, HZ2, g5'⟩
  have g5 := btr g4 g5' (by simp)
  have g5x : Below (w.heap.size + 1) (ex w x) (ex w5 z) := g5.alloc (by have := g5.size; simp at this; omega) _
  have HE5 : Hid (Calls Tryd.prog 12 #[enV z] (ex w5 z) fun e w'' => e = .returned (.tuple #[.string d, .int .i64 0]) ∧ Below (ex w5 z).heap.size (ex w5 z) w'') := (show Calls _ _ _ _ _ from HZ2.out (ex w5 z) (by go_grown) (HD.out.below (HG.out _ g5x)))
  have HB5 : Hid (∀ w6, Below (ex w5 z).heap.size (ex w5 z) w6 → Bn w6 w5.heap.size z) := (show ∀ w6, _ from fun w6 g => (Bn.new w5 z).below (by simp) g)
  clear g4 g5' g5 HZ2
  go_wp2_with fail
  refine HE5.out.mono ?_
  rintro r w6 ⟨rfl, g6'⟩
  have g6 := btr g5x g6' (by simp)
  obtain ⟨e0, e1, e2, e3, e4, e5, e6, e7, e8, e9⟩ := HB5.out _ g6'
  rw [HZ1.out] at e0
  clear g5x g6' HE5
  go_wp2_with fail
  refine (HA.out _ (HD.out.below (HG.out _ g6))).mono ?_
  rintro r w7 ⟨rfl, g7⟩
  go_wp2_with fail
  go_ret
  exact ⟨rfl, btr (HG.out _ g6) g7 (by simp)⟩
set_option maxRecDepth 20000 in
set_option maxHeartbeats 16000000 in
theorem back_AN (x : En) (t : Int) (d : ByteArray) (w : World) (h : EIn w x) (hd : Cd w) (hf : fewB x = true) (hx : d.size ≤ 2000) (hE : rightX x.sp = 0) (hF : (decX t d).2 ≠ 0) :
    Calls Tryd.prog 6 #[enV x, .int .i64 t, .string d] w fun e w' => e = .returned (.bool true) ∧ Below w.heap.size w w' := by
  have HA : Hid (∀ w, Cd w → Calls Tryd.prog 11 #[] w fun e w' => e = .returned (.bool true) ∧ Below w.heap.size w w') := (show ∀ w, _ from fun w hd => awake_any w hd)
  have HFw : Hid (∀ w, Calls Tryd.prog 8 #[enV x] w fun e w' => e = .returned (.bool true) ∧ Below w.heap.size w w') := (show ∀ w, _ from fun w => by
    have := few_any x w
    rwa [hf] at this)
  have n2 : ¬ ((2000 : Int) < d.size) := by omega
  have hmx : d.size ≤ maxLen := Nat.le_trans hx (by decide)
  have ew := h.ew hf
  have HC : Hid (∀ w1, Below (w.heap.size + 1) (ex w x) w1 → Bn w1 w.heap.size x) := (show ∀ w1, _ from fun w1 g => (Bn.new w x).below (by omega) g)
  have HG : Hid (∀ w1, Below (w.heap.size + 1) (ex w x) w1 → Below w.heap.size w w1) := (show ∀ w1, _ from fun w1 g => (show Below w.heap.size w (ex w x) by go_grown).trans (g.mono (by omega)))
  have HEW : Hid (EW w x) := ew
  have HSm : Hid (∀ (a b : En) (w : World), b.sp = a.sp → EW w a → EW w b → Calls Tryd.prog 16 #[enV a, enV b] w fun e w' => e = .returned (.bool true) ∧ Below w.heap.size w w') := (show ∀ (a b : En) (w : World), _ from fun a b w e h1 h2 => sameE a b w e h1 h2)
  have HE : Hid (∀ w1, Below w.heap.size w w1 → Calls Tryd.prog 12 #[enV x] w1 fun e w' => e = .returned (.tuple #[.string (encX x.sp), .int .i64 0]) ∧ Below w1.heap.size w1 w') := (show ∀ w1, _ from fun w1 g => by
    have := encodeX_any x w1 (ew.below g) h.u (hd.below g)
    rwa [show encodeX x.sp = encX x.sp by unfold encodeX; rw [if_pos hE], hE] at this)
  have HDs : Hid (∀ w1, Below w.heap.size w w1 → Calls Tryd.prog 14 #[.int .i64 x.tab, .string (encX x.sp)] w1 fun e w' => ∃ y : En, e = .returned (.tuple #[enV y, .int .i64 0]) ∧ Hid (y.sp = x.sp) ∧ Hid (EW w' y) ∧ Below w1.heap.size w1 w') := (show ∀ w1, _ from fun w1 g => by
    refine (decX_any x.tab (encX x.sp) w1 (Nat.le_trans (encX_size _) (by decide)) (hd.below g)).mono ?_
    have e : decX x.tab (encX x.sp) = (x.sp, 0) := decX_enc (h.fine hE) hE
    rintro r w' ⟨y, rfl, h1, _, h3, _, g'⟩
    rw [e] at h1 ⊢
    exact ⟨y, rfl, (show _ = _ from h1), (show EW _ _ from h3.ew), g'⟩)
  have hzs := encX_size x.sp
  have HDd : Hid (∀ w1, Cd w1 → Calls Tryd.prog 14 #[.int .i64 t, .string d] w1 fun e w' => ∃ y : En, e = .returned (.tuple #[enV y, .int .i64 (decX t d).2]) ∧ Hid (sp0 = y.sp) ∧ Hid (EW w' y) ∧ Below w1.heap.size w1 w') := (show ∀ w1, _ from fun w1 hc => by
    refine (decX_any t d w1 hmx hc).mono ?_
    rintro r w' ⟨y, rfl, h1, _, h3, h4, g'⟩
    rw [decX_bad t d hF] at h1
    exact ⟨y, rfl, (show _ = _ from h1.symm), (show EW _ _ from h3.ew), g'⟩)
  have hFb : ((decX t d).2 != 0) = true := by simpa using hF
  have HD : Hid (Cd w) := hd
  clear h hd hf hx hmx ew hE hF
  generalize encX x.sp = S at *
  generalize (decX t d).2 = F at *
  go_enter Tryd.func6, Tryd.ntmps6
  go_wp2_with fail
  refine (HFw.out _).mono ?_
  rintro r w1 ⟨rfl, g1'⟩
  have g1 : Below (w.heap.size + 1) (ex w x) w1 := by simpa using g1'
  clear g1'
  obtain ⟨c0, c1, c2, c3, c4, c5, c6, c7, c8, c9⟩ := HC.out _ g1
  go_wp2_with fail
  refine (HE.out _ (HG.out _ g1)).mono ?_
  rintro r w2 ⟨rfl, g2'⟩
  have g2 := btr g1 g2' (by simp)
  clear c0 c1 c2 c3 c4 c5 c6 c7 c8 c9 g1 g2'
  obtain ⟨c0, c1, c2, c3, c4, c5, c6, c7, c8, c9⟩ := HC.out _ g2
  go_wp2_with fail
  refine (HDs.out _ (HG.out _ g2)).mono ?_
  rintro r w3 ⟨y, rfl, HY1, HY2, g3'⟩
  have g3 := btr g2 g3' (by simp)
  clear c0 c1 c2 c3 c4 c5 c6 c7 c8 c9 g2 g3'
  have g3x : Below (w.heap.size + 1) (ex w x) (ex w3 y) := g3.alloc (by have := g3.size; simp at this; omega) _
  have HS1 : Hid (Calls Tryd.prog 16 #[enV x, enV y] (ex w3 y) fun e w' => e = .returned (.bool true) ∧ Below (ex w3 y).heap.size (ex w3 y) w') := (show Calls _ _ _ _ _ from HSm.out x y (ex w3 y) HY1.out (HEW.out.below (HG.out _ g3x)) (HY2.out.alloc _))
  obtain ⟨c0, c1, c2, c3, c4, c5, c6, c7, c8, c9⟩ := HC.out _ g3x
  have hsz3 : w.heap.size + 1 ≤ w3.heap.size := by have := g3.size; simpa using this
  go_wp2_with fail
  refine HS1.out.mono ?_
  rintro r w4 ⟨rfl, g4'⟩
  have g4 := btr g3x g4' (by simp)
  clear c0 c1 c2 c3 c4 c5 c6 c7 c8 c9 g3 g3x g4' HS1 hsz3
  go_wp2_with fail
  refine (HDd.out _ (HD.out.below (HG.out _ g4))).mono ?_
  rintro r w5 ⟨z, rfl, HZ1, HZ2, g5'⟩
  have g5 := btr g4 g5' (by simp)
  have g5x : Below (w.heap.size + 1) (ex w x) (ex w5 z) := g5.alloc (by have := g5.size; simp at this; omega) _
  have HS5 : Hid (Calls Tryd.prog 16 #[enV z, enV en0] (ex w5 z) fun e w' => e = .returned (.bool true) ∧ Below (ex w5 z).heap.size (ex w5 z) w') := (show Calls _ _ _ _ _ from HSm.out z en0 (ex w5 z) HZ1.out (HZ2.out.alloc _) (en0_w _))
  clear g4 g5' g5 HZ2
  go_wp2_with fail
  refine HS5.out.mono ?_
  rintro r w6 ⟨rfl, g6'⟩
  have g6 := btr g5x g6' (by simp)
  clear g5x g6' HS5
  go_wp2_with fail
  refine (HA.out _ (HD.out.below (HG.out _ g6))).mono ?_
  rintro r w7 ⟨rfl, g7⟩
  go_wp2_with fail
  go_ret
  exact ⟨rfl, btr (HG.out _ g6) g7 (by simp)⟩
set_option maxRecDepth 20000 in
set_option maxHeartbeats 16000000 in
theorem back_BY (x : En) (t : Int) (d : ByteArray) (w : World) (h : EIn w x) (hd : Cd w) (hf : fewB x = true) (hx : d.size ≤ 2000) (hE : rightX x.sp ≠ 0) (hF : (decX t d).2 = 0) :
    Calls Tryd.prog 6 #[enV x, .int .i64 t, .string d] w fun e w' => e = .returned (.bool true) ∧ Below w.heap.size w w' := by
  have HA : Hid (∀ w, Cd w → Calls Tryd.prog 11 #[] w fun e w' => e = .returned (.bool true) ∧ Below w.heap.size w w') := (show ∀ w, _ from fun w hd => awake_any w hd)
  have HFw : Hid (∀ w, Calls Tryd.prog 8 #[enV x] w fun e w' => e = .returned (.bool true) ∧ Below w.heap.size w w') := (show ∀ w, _ from fun w => by
    have := few_any x w
    rwa [hf] at this)
  have n2 : ¬ ((2000 : Int) < d.size) := by omega
  have hmx : d.size ≤ maxLen := Nat.le_trans hx (by decide)
  have ew := h.ew hf
  have HC : Hid (∀ w1, Below (w.heap.size + 1) (ex w x) w1 → Bn w1 w.heap.size x) := (show ∀ w1, _ from fun w1 g => (Bn.new w x).below (by omega) g)
  have HG : Hid (∀ w1, Below (w.heap.size + 1) (ex w x) w1 → Below w.heap.size w w1) := (show ∀ w1, _ from fun w1 g => (show Below w.heap.size w (ex w x) by go_grown).trans (g.mono (by omega)))
  have HEW : Hid (EW w x) := ew
  have HSm : Hid (∀ (a b : En) (w : World), b.sp = a.sp → EW w a → EW w b → Calls Tryd.prog 16 #[enV a, enV b] w fun e w' => e = .returned (.bool true) ∧ Below w.heap.size w w') := (show ∀ (a b : En) (w : World), _ from fun a b w e h1 h2 => sameE a b w e h1 h2)
  have HE : Hid (∀ w1, Below w.heap.size w w1 → Calls Tryd.prog 12 #[enV x] w1 fun e w' => e = .returned (.tuple #[.string ⟨#[]⟩, .int .i64 (rightX x.sp)]) ∧ Below w1.heap.size w1 w') := (show ∀ w1, _ from fun w1 g => by
    have := encodeX_any x w1 (ew.below g) h.u (hd.below g)
    rwa [show encodeX x.sp = ⟨#[]⟩ by unfold encodeX; rw [if_neg hE]] at this)
  have HRx : Hid (∀ w1, Below w.heap.size w w1 → Calls Tryd.prog 9 #[enV x] w1 fun e w' => e = .returned (.int .i64 (rightX x.sp)) ∧ Below w1.heap.size w1 w') := (show ∀ w1, _ from fun w1 g => rightX_any x w1 (ew.below g) (hd.below g))
  have hEb : (rightX x.sp == 0) = false := by simpa using hE
  have hEn : (rightX x.sp != rightX x.sp) = false := by simp
  obtain ⟨k1, k2, k3⟩ := encX_dec t d hF
  have HDd : Hid (∀ w1, Cd w1 → Calls Tryd.prog 14 #[.int .i64 t, .string d] w1 fun e w' => ∃ y : En, e = .returned (.tuple #[enV y, .int .i64 0]) ∧ Hid (y.tab = t) ∧ Hid (∀ w2, Below w'.heap.size w' w2 → Cd w2 → Calls Tryd.prog 12 #[enV y] w2 fun e w'' => e = .returned (.tuple #[.string d, .int .i64 0]) ∧ Below w2.heap.size w2 w'') ∧ Below w1.heap.size w1 w') := (show ∀ w1, _ from fun w1 hc => by
    refine (decX_any t d w1 hmx hc).mono ?_
    rintro r w' ⟨y, rfl, h1, _, h3, h4, g'⟩
    rw [hF]
    refine ⟨y, rfl, (show _ = _ from ?_), (show ∀ w2, _ from fun w2 g2 hc2 => ?_), g'⟩
    · have : y.sp.tab = t := by rw [h1]; exact k3
      exact this
    · have := encodeX_any y w2 (h3.ew.below g2) h4.eu hc2
      rw [h1, show encodeX (decX t d).1 = encX (decX t d).1 by unfold encodeX; rw [if_pos k1], k1, k2] at this
      exact this)
  have hq : (d.toList == d.toList) = true := by simp
  have hqt : (t == t) = true := by simp
  clear k1 k2 k3
  have HD : Hid (Cd w) := hd
  clear h hd hf hx hmx ew hE hF
  generalize rightX x.sp = E at *
  go_enter Tryd.func6, Tryd.ntmps6
  go_wp2_with fail
  refine (HFw.out _).mono ?_
  rintro r w1 ⟨rfl, g1'⟩
  have g1 : Below (w.heap.size + 1) (ex w x) w1 := by simpa using g1'
  clear g1'
  obtain ⟨c0, c1, c2, c3, c4, c5, c6, c7, c8, c9⟩ := HC.out _ g1
  go_wp2_with fail
  refine (HE.out _ (HG.out _ g1)).mono ?_
  rintro r w2 ⟨rfl, g2'⟩
  have g2 := btr g1 g2' (by simp)
  clear c0 c1 c2 c3 c4 c5 c6 c7 c8 c9 g1 g2'
  obtain ⟨c0, c1, c2, c3, c4, c5, c6, c7, c8, c9⟩ := HC.out _ g2
  go_wp2_with fail
  refine (HRx.out _ (HG.out _ g2)).mono ?_
  rintro r w4 ⟨rfl, g4'⟩
  have g4 := btr g2 g4' (by simp)
  clear c0 c1 c2 c3 c4 c5 c6 c7 c8 c9 g2 g4'
  go_wp2_with fail
  refine (HDd.out _ (HD.out.below (HG.out _ g4))).mono ?_
  rintro r w5 ⟨z, rfl, HZ1, HZ2, g5'⟩
  have g5 := btr g4 g5' (by simp)
  have g5x : Below (w.heap.size + 1) (ex w x) (ex w5 z) := g5.alloc (by have := g5.size; simp at this; omega) _
  have HE5 : Hid (Calls Tryd.prog 12 #[enV z] (ex w5 z) fun e w'' => e = .returned (.tuple #[.string d, .int .i64 0]) ∧ Below (ex w5 z).heap.size (ex w5 z) w'') := (show Calls _ _ _ _ _ from HZ2.out (ex w5 z) (by go_grown) (HD.out.below (HG.out _ g5x)))
  have HB5 : Hid (∀ w6, Below (ex w5 z).heap.size (ex w5 z) w6 → Bn w6 w5.heap.size z) := (show ∀ w6, _ from fun w6 g => (Bn.new w5 z).below (by simp) g)
  clear g4 g5' g5 HZ2
  go_wp2_with fail
  refine HE5.out.mono ?_
  rintro r w6 ⟨rfl, g6'⟩
  have g6 := btr g5x g6' (by simp)
  obtain ⟨e0, e1, e2, e3, e4, e5, e6, e7, e8, e9⟩ := HB5.out _ g6'
  rw [HZ1.out] at e0
  clear g5x g6' HE5
  go_wp2_with fail
  refine (HA.out _ (HD.out.below (HG.out _ g6))).mono ?_
  rintro r w7 ⟨rfl, g7⟩
  go_wp2_with fail
  go_ret
  exact ⟨rfl, btr (HG.out _ g6) g7 (by simp)⟩
set_option maxRecDepth 20000 in
set_option maxHeartbeats 16000000 in
theorem back_BN (x : En) (t : Int) (d : ByteArray) (w : World) (h : EIn w x) (hd : Cd w) (hf : fewB x = true) (hx : d.size ≤ 2000) (hE : rightX x.sp ≠ 0) (hF : (decX t d).2 ≠ 0) :
    Calls Tryd.prog 6 #[enV x, .int .i64 t, .string d] w fun e w' => e = .returned (.bool true) ∧ Below w.heap.size w w' := by
  have HA : Hid (∀ w, Cd w → Calls Tryd.prog 11 #[] w fun e w' => e = .returned (.bool true) ∧ Below w.heap.size w w') := (show ∀ w, _ from fun w hd => awake_any w hd)
  have HFw : Hid (∀ w, Calls Tryd.prog 8 #[enV x] w fun e w' => e = .returned (.bool true) ∧ Below w.heap.size w w') := (show ∀ w, _ from fun w => by
    have := few_any x w
    rwa [hf] at this)
  have n2 : ¬ ((2000 : Int) < d.size) := by omega
  have hmx : d.size ≤ maxLen := Nat.le_trans hx (by decide)
  have ew := h.ew hf
  have HC : Hid (∀ w1, Below (w.heap.size + 1) (ex w x) w1 → Bn w1 w.heap.size x) := (show ∀ w1, _ from fun w1 g => (Bn.new w x).below (by omega) g)
  have HG : Hid (∀ w1, Below (w.heap.size + 1) (ex w x) w1 → Below w.heap.size w w1) := (show ∀ w1, _ from fun w1 g => (show Below w.heap.size w (ex w x) by go_grown).trans (g.mono (by omega)))
  have HEW : Hid (EW w x) := ew
  have HSm : Hid (∀ (a b : En) (w : World), b.sp = a.sp → EW w a → EW w b → Calls Tryd.prog 16 #[enV a, enV b] w fun e w' => e = .returned (.bool true) ∧ Below w.heap.size w w') := (show ∀ (a b : En) (w : World), _ from fun a b w e h1 h2 => sameE a b w e h1 h2)
  have HE : Hid (∀ w1, Below w.heap.size w w1 → Calls Tryd.prog 12 #[enV x] w1 fun e w' => e = .returned (.tuple #[.string ⟨#[]⟩, .int .i64 (rightX x.sp)]) ∧ Below w1.heap.size w1 w') := (show ∀ w1, _ from fun w1 g => by
    have := encodeX_any x w1 (ew.below g) h.u (hd.below g)
    rwa [show encodeX x.sp = ⟨#[]⟩ by unfold encodeX; rw [if_neg hE]] at this)
  have HRx : Hid (∀ w1, Below w.heap.size w w1 → Calls Tryd.prog 9 #[enV x] w1 fun e w' => e = .returned (.int .i64 (rightX x.sp)) ∧ Below w1.heap.size w1 w') := (show ∀ w1, _ from fun w1 g => rightX_any x w1 (ew.below g) (hd.below g))
  have hEb : (rightX x.sp == 0) = false := by simpa using hE
  have hEn : (rightX x.sp != rightX x.sp) = false := by simp
  have HDd : Hid (∀ w1, Cd w1 → Calls Tryd.prog 14 #[.int .i64 t, .string d] w1 fun e w' => ∃ y : En, e = .returned (.tuple #[enV y, .int .i64 (decX t d).2]) ∧ Hid (sp0 = y.sp) ∧ Hid (EW w' y) ∧ Below w1.heap.size w1 w') := (show ∀ w1, _ from fun w1 hc => by
    refine (decX_any t d w1 hmx hc).mono ?_
    rintro r w' ⟨y, rfl, h1, _, h3, h4, g'⟩
    rw [decX_bad t d hF] at h1
    exact ⟨y, rfl, (show _ = _ from h1.symm), (show EW _ _ from h3.ew), g'⟩)
  have hFb : ((decX t d).2 != 0) = true := by simpa using hF
  have HD : Hid (Cd w) := hd
  clear h hd hf hx hmx ew hE hF
  generalize rightX x.sp = E at *
  generalize (decX t d).2 = F at *
  go_enter Tryd.func6, Tryd.ntmps6
  go_wp2_with fail
  refine (HFw.out _).mono ?_
  rintro r w1 ⟨rfl, g1'⟩
  have g1 : Below (w.heap.size + 1) (ex w x) w1 := by simpa using g1'
  clear g1'
  obtain ⟨c0, c1, c2, c3, c4, c5, c6, c7, c8, c9⟩ := HC.out _ g1
  go_wp2_with fail
  refine (HE.out _ (HG.out _ g1)).mono ?_
  rintro r w2 ⟨rfl, g2'⟩
  have g2 := btr g1 g2' (by simp)
  clear c0 c1 c2 c3 c4 c5 c6 c7 c8 c9 g1 g2'
  obtain ⟨c0, c1, c2, c3, c4, c5, c6, c7, c8, c9⟩ := HC.out _ g2
  go_wp2_with fail
  refine (HRx.out _ (HG.out _ g2)).mono ?_
  rintro r w4 ⟨rfl, g4'⟩
  have g4 := btr g2 g4' (by simp)
  clear c0 c1 c2 c3 c4 c5 c6 c7 c8 c9 g2 g4'
  go_wp2_with fail
  refine (HDd.out _ (HD.out.below (HG.out _ g4))).mono ?_
  rintro r w5 ⟨z, rfl, HZ1, HZ2, g5'⟩
  have g5 := btr g4 g5' (by simp)
  have g5x : Below (w.heap.size + 1) (ex w x) (ex w5 z) := g5.alloc (by have := g5.size; simp at this; omega) _
  have HS5 : Hid (Calls Tryd.prog 16 #[enV z, enV en0] (ex w5 z) fun e w' => e = .returned (.bool true) ∧ Below (ex w5 z).heap.size (ex w5 z) w') := (show Calls _ _ _ _ _ from HSm.out z en0 (ex w5 z) HZ1.out (HZ2.out.alloc _) (en0_w _))
  clear g4 g5' g5 HZ2
  go_wp2_with fail
  refine HS5.out.mono ?_
  rintro r w6 ⟨rfl, g6'⟩
  have g6 := btr g5x g6' (by simp)
  clear g5x g6' HS5
  go_wp2_with fail
  refine (HA.out _ (HD.out.below (HG.out _ g6))).mono ?_
  rintro r w7 ⟨rfl, g7⟩
  go_wp2_with fail
  go_ret
  exact ⟨rfl, btr (HG.out _ g6) g7 (by simp)⟩
theorem back_walk (x : En) (t : Int) (d : ByteArray) (w : World) (h : EIn w x) (_ : d.size ≤ maxLen) (hd : Cd w) :
    Calls Tryd.prog 6 #[enV x, .int .i64 t, .string d] w fun e w' => e = .returned (.bool true) ∧ Below w.heap.size w w' := by
  cases hf : fewB x with
  | false => exact back_long x t d w hd (.inl hf)
  | true =>
    by_cases hx : d.size ≤ 2000
    · by_cases hE : rightX x.sp = 0
      · by_cases hF : (decX t d).2 = 0
        · exact back_AY x t d w h hd hf hx hE hF
        · exact back_AN x t d w h hd hf hx hE hF
      · by_cases hF : (decX t d).2 = 0
        · exact back_BY x t d w h hd hf hx hE hF
        · exact back_BN x t d w h hd hf hx hE hF
    · exact back_long x t d w hd (.inr ⟨hf, by omega⟩)
end Go.Proofs.YtcbhkbiofmimbaaDoor

/-
  The document's take: what it answers, as a contract.
-/
import Derived.Test.YtcbhkbiofmimbaaDoorRTakeP
import Derived.Test.YtcbhkbiofmimbaaDoorEFirst
namespace Go.Proofs.YtcbhkbiofmimbaaDoor
open Go.ChangeShapes Go.WideShapes Go.ChangeAt Go.RowKit
set_option linter.unusedSimpArgs false
set_option linter.unusedVariables false

/-- Nothing but block b has turned, of what was there. -/
structure Tk (b : Nat) (w w' : World) : Prop where
  os : w'.os = w.os
  tape : w'.tape = w.tape
  output : w'.output = w.output
  size : w.heap.size ≤ w'.heap.size
  block : ∀ g, g < w.heap.size → g ≠ b → w'.heap[g]? = w.heap[g]?
theorem Tk.refl (b : Nat) (w : World) : Tk b w w := ⟨rfl, rfl, rfl, Nat.le_refl _, fun _ _ _ => rfl⟩
theorem Tk.set {b : Nat} {w w' : World} (h : Tk b w w') (o : Nat) (v : Value) : Tk b w (w'.setCell ⟨b, o, none⟩ v) :=
  ⟨h.os, h.tape, h.output, by simpa [World.setCell] using h.size, fun g hg hb => (Below.heap_setCell _ _ _ _ hb).trans (h.block g hg hb)⟩
theorem Tk.grow {b : Nat} {w w' w'' : World} (h : Tk b w w') (g : Below w'.heap.size w' w'') : Tk b w w'' :=
  ⟨g.os.trans h.os, g.tape.trans h.tape, g.output.trans h.output, Nat.le_trans h.size g.size, fun k hk hb => (g.block k (Nat.lt_of_lt_of_le hk h.size)).trans (h.block k hk hb)⟩
theorem Tk.below {b : Nat} {a w w' : World} (h : Tk b w w') (hb : a.heap.size ≤ b) (g : Below a.heap.size a w) : Below a.heap.size a w' :=
  g.trans ⟨h.os, h.tape, h.output, h.size, fun k hk => by
    by_cases hw : k < w.heap.size
    · exact h.block k hw (by omega)
    · have := g.size; omega⟩
theorem Tk.tsf {b B : Nat} {w w' : World} {a : Option Addr} {l : List A} (h : Tk b w w') (hb : b < B) (t : TsF B w a l) : TsF B w' a l := t.keep h.size (fun g hg hw => h.block g hw (by omega))
theorem Tk.ef {b B : Nat} {w w' : World} {x : En} (h : Tk b w w') (hb : b < B) (e : EF B w x) : EF B w' x := ⟨h.tsf hb e.a, h.tsf hb e.w, e.na, e.nw⟩
theorem right_aw {a : A} (h : rightB a = true) : AW a := by
  rcases right_cases h with ⟨h1, h2, h3, h4⟩ | ⟨h1, h2, h3, h4⟩ | ⟨h1, h2, h3⟩ | ⟨h1, h2, h3⟩ | ⟨h1, h2, h3, h4⟩
  · exact ⟨by omega, by omega, by omega, by omega⟩
  · exact ⟨by omega, by omega, by omega, by omega⟩
  · exact ⟨by omega, by omega, by omega, by omega⟩
  · exact ⟨by omega, by omega, by omega, by omega⟩
  · have hl : 0 ≤ leastV a.2.1 := by unfold leastV; split <;> omega
    have hg := (grV_lt a.2.1).2
    exact ⟨by omega, by omega, by omega, by omega⟩
theorem decL_aw (s : ByteArray) : AWs (decL s) := by
  unfold decL
  by_cases h : (decR (s.extract 8 s.size)).2 = 0
  · have h1 := (enc_dec _ h).1
    intro a ha
    apply right_aw
    unfold encodeE at h1
    split at h1
    · next hall =>
      unfold allB at hall
      rw [List.all_eq_true] at hall
      exact hall a ha
    · cases h1
  · rw [decR_bad _ h]
    intro a ha
    cases ha
theorem nm_32 (s : ByteArray) (i j : Nat) (h : j ≤ i + 4) : 0 ≤ nm s i j ∧ nm s i j < 4294967296 := by
  have hl : (s.extract i j).data.toList.length ≤ 4 := by
    have : (s.extract i j).size ≤ 4 := by rw [ByteArray.size_extract]; omega
    rw [len_size]; exact this
  have h := numOf_lt _ (Nat.le_trans hl (by decide))
  have h2 := Nat.pow_le_pow_right (show 0 < 256 by decide) hl
  have h3 := Int.ofNat_le.mpr h2
  rw [Int.natCast_pow, Int.natCast_pow] at h3
  exact ⟨h.1, Int.lt_of_lt_of_le h.2 h3⟩
/-- What take leaves. -/
def TkPost (b : Nat) (s : ByteArray) (p : Int) (x : En) (w : World) (e : Ending) (w' : World) : Prop :=
  ∃ (y : En) (A : Int) (I : Bool), e = .returned (.tuple #[.int .i64 A, .bool I]) ∧ Wn w' b y ∧ (I = true ↔ partX p (readX p s x.sp) = s) ∧ (I = true → y.sp = readX p s x.sp ∧ A = placeX p) ∧
    (y.pri = x.pri ∧ y.ta = x.ta ∧ y.tl = x.tl ∧ y.tc = x.tc) ∧ (∀ B, b < B → B ≤ w.heap.size → EF B w x → EF B w' y) ∧ (AWs x.la → AWs x.lw → AWs y.la ∧ AWs y.lw) ∧ (SOk x.sp → SOk y.sp) ∧ Tk b w w'
theorem sEq (a : ByteArray) (l : List UInt8) : (a.toList == l) = decide (a = ⟨l.toArray⟩) := by
  by_cases h : a = ⟨l.toArray⟩
  · subst h; simp [ByteArray.toList_eq]
  · rw [decide_eq_false h, beq_eq_false_iff_ne]
    intro hh
    apply h
    apply ba_ext
    rw [← ByteArray.toList_eq, hh]
set_option maxRecDepth 20000 in
set_option maxHeartbeats 8000000 in
theorem take6t (s : ByteArray) (x : En) (b : Nat) (w : World) (h : Pt s 6) (W : Wn w b x) (hb : b < w.heap.size) (hs : s.size ≤ maxLen) (hz : s.size = 8):
    Calls Tryd.prog 26 #[.pointer (some ⟨b, 0, none⟩), .string s] w (TkPost b s 6 x w) := by
  have h8 := h.z
  have HN : Hid (∀ w, Calls Tryd.prog 25 #[.string (s.extract 0 2)] w fun x w' => x = .returned (.int .u64 6) ∧ w' = w) := (show ∀ w, _ from fun w => by
    have := rnm_any s 0 2 w (by omega)
    rwa [h.p] at this)
  have H4 : Hid (∀ w, Calls Tryd.prog 25 #[.string (s.extract 4 8)] w fun x w' => x = .returned (.int .u64 (nm s 4 8)) ∧ w' = w) := (show ∀ w, _ from fun w => rnm_any s 4 8 w (by omega))
  obtain ⟨n0, n1⟩ := nm_32 s 4 8 (by omega)
  have HI : Hid ((s.size = 8 ∧ nm s 4 8 ≠ 0) ↔ partX 6 (readX 6 s x.sp) = s) := take_6 h x.sp
  have HY : Hid (readX 6 s x.sp = { x.sp with met := nm s 4 8 }) := readX6 h x.sp
  have hz1 : ((s.size : Int) == 8) = true := by rw [beq_iff_eq]; omega
  obtain ⟨v, hv⟩ : ∃ v, nm s 4 8 = v := ⟨_, rfl⟩
  rw [hv] at H4 n0 n1 HI HY
  clear hv
  obtain ⟨V, hV⟩ : ∃ V, w.setCell ⟨b, 8, none⟩ (.int .i64 v) = V := ⟨_, rfl⟩
  have dV : Wn V b { x with met := v } := hV ▸ W.set8 v
  have tV : Tk b w V := hV ▸ (Tk.refl b w).set 8 _
  have zV : b < V.heap.size := Nat.lt_of_lt_of_le hb tV.size
  have HW : Hid (w.setCell ⟨b, 8, none⟩ (.int .i64 v) = V) := hV
  have q8 := fun n => (Bn.gr dV.1 zV n).2.2.2.2.2.2.2.2.1
  clear hV h
  obtain ⟨⟨c0, c1, c2, c3, c4, c5, c6, c7, c8, c9⟩, cf⟩ := W
  go_enter Tryd.func26, Tryd.ntmps26
  go_wp2_with fail
  refine (HN.out _).mono ?_
  rintro r w1 ⟨rfl, z1⟩
  obtain rfl : w = w1 := z1.symm
  go_wp2_with fail
  refine (H4.out _).mono ?_
  rintro r w1 ⟨rfl, z1⟩
  obtain rfl : w = w1 := z1.symm
  go_wp2_with fail
  rw [HW.out]
  refine wp_region_grow (by kernel_rfl) (by kernel_rfl) ?_
  repeat (go_big_quiet_step (fail))
  refine wpQuiet_nil ?_
  rintro w3 hw'
  have g3 := gr_elim hw'
  clear hw'
  clear q8 c0 c1 c2 c3 c4 c5 c6 c7 c8 c9 cf
  go_wp2_with fail
  go_ret2
  refine ⟨{ x with met := v }, 1, v != 0, rfl, dV.below zV g3, ?_, fun _ => ⟨HY.out.symm, rfl⟩, ⟨rfl, rfl, rfl, rfl⟩, fun B hB _ e => ⟨(tV.grow g3).tsf hB e.a, (tV.grow g3).tsf hB e.w, e.na, e.nw⟩, fun a c => ⟨a, c⟩, fun o => ⟨n0, n1, o.g0, o.g1, o.t0, o.t1, o.k0, o.k1⟩, tV.grow g3⟩
  rw [← HI.out]
  simp [hz]
set_option maxRecDepth 20000 in
set_option maxHeartbeats 8000000 in
theorem take6f (s : ByteArray) (x : En) (b : Nat) (w : World) (h : Pt s 6) (W : Wn w b x) (hb : b < w.heap.size) (hs : s.size ≤ maxLen) (hz : s.size ≠ 8):
    Calls Tryd.prog 26 #[.pointer (some ⟨b, 0, none⟩), .string s] w (TkPost b s 6 x w) := by
  have h8 := h.z
  have HN : Hid (∀ w, Calls Tryd.prog 25 #[.string (s.extract 0 2)] w fun x w' => x = .returned (.int .u64 6) ∧ w' = w) := (show ∀ w, _ from fun w => by
    have := rnm_any s 0 2 w (by omega)
    rwa [h.p] at this)
  have H4 : Hid (∀ w, Calls Tryd.prog 25 #[.string (s.extract 4 8)] w fun x w' => x = .returned (.int .u64 (nm s 4 8)) ∧ w' = w) := (show ∀ w, _ from fun w => rnm_any s 4 8 w (by omega))
  obtain ⟨n0, n1⟩ := nm_32 s 4 8 (by omega)
  have HI : Hid ((s.size = 8 ∧ nm s 4 8 ≠ 0) ↔ partX 6 (readX 6 s x.sp) = s) := take_6 h x.sp
  have HY : Hid (readX 6 s x.sp = { x.sp with met := nm s 4 8 }) := readX6 h x.sp
  have hz1 : ((s.size : Int) == 8) = false := by rw [beq_eq_false_iff_ne]; omega
  obtain ⟨v, hv⟩ : ∃ v, nm s 4 8 = v := ⟨_, rfl⟩
  rw [hv] at H4 n0 n1 HI HY
  clear hv
  obtain ⟨V, hV⟩ : ∃ V, w.setCell ⟨b, 8, none⟩ (.int .i64 v) = V := ⟨_, rfl⟩
  have dV : Wn V b { x with met := v } := hV ▸ W.set8 v
  have tV : Tk b w V := hV ▸ (Tk.refl b w).set 8 _
  have zV : b < V.heap.size := Nat.lt_of_lt_of_le hb tV.size
  have HW : Hid (w.setCell ⟨b, 8, none⟩ (.int .i64 v) = V) := hV
  have q8 := fun n => (Bn.gr dV.1 zV n).2.2.2.2.2.2.2.2.1
  clear hV h
  obtain ⟨⟨c0, c1, c2, c3, c4, c5, c6, c7, c8, c9⟩, cf⟩ := W
  go_enter Tryd.func26, Tryd.ntmps26
  go_wp2_with fail
  refine (HN.out _).mono ?_
  rintro r w1 ⟨rfl, z1⟩
  obtain rfl : w = w1 := z1.symm
  go_wp2_with fail
  refine (H4.out _).mono ?_
  rintro r w1 ⟨rfl, z1⟩
  obtain rfl : w = w1 := z1.symm
  go_wp2_with fail
  rw [HW.out]
  refine wp_region_grow (by kernel_rfl) (by kernel_rfl) ?_
  repeat (go_big_quiet_step (fail))
  refine wpQuiet_nil ?_
  rintro w3 hw'
  have g3 := gr_elim hw'
  clear hw'
  clear q8 c0 c1 c2 c3 c4 c5 c6 c7 c8 c9 cf
  go_wp2_with fail
  go_ret2
  refine ⟨{ x with met := v }, 1, false, rfl, dV.below zV g3, ?_, (fun i => absurd i (by decide)), ⟨rfl, rfl, rfl, rfl⟩, fun B hB _ e => ⟨(tV.grow g3).tsf hB e.a, (tV.grow g3).tsf hB e.w, e.na, e.nw⟩, fun a c => ⟨a, c⟩, fun o => ⟨n0, n1, o.g0, o.g1, o.t0, o.t1, o.k0, o.k1⟩, tV.grow g3⟩
  rw [← HI.out]
  simp [hz]
set_option maxRecDepth 20000 in
set_option maxHeartbeats 8000000 in
theorem take5 (s : ByteArray) (x : En) (b : Nat) (w : World) (h : Pt s 5) (W : Wn w b x) (hb : b < w.heap.size) (hs : s.size ≤ maxLen):
    Calls Tryd.prog 26 #[.pointer (some ⟨b, 0, none⟩), .string s] w (TkPost b s 5 x w) := by
  have h8 := h.z
  have HN : Hid (∀ w, Calls Tryd.prog 25 #[.string (s.extract 0 2)] w fun x w' => x = .returned (.int .u64 5) ∧ w' = w) := (show ∀ w, _ from fun w => by
    have := rnm_any s 0 2 w (by omega)
    rwa [h.p] at this)
  have HI : Hid (s.extract 2 s.size = ⟨#[0, 8, 0, 0, 0, 0]⟩ ↔ partX 5 (readX 5 s x.sp) = s) := take_5 h x.sp
  obtain ⟨V, hV⟩ : ∃ V, w.setCell ⟨b, 5, none⟩ (.bool true) = V := ⟨_, rfl⟩
  have dV : Wn V b { x with clr := true } := hV ▸ W.set5 true
  have tV : Tk b w V := hV ▸ (Tk.refl b w).set 5 _
  have zV : b < V.heap.size := Nat.lt_of_lt_of_le hb tV.size
  have HW : Hid (w.setCell ⟨b, 5, none⟩ (.bool true) = V) := hV
  have hsl : ∀ w, (Instr.slice 9 (.string s) (some (.int .i64 2)) none none).run Tryd.prog w = .ok (.string (s.extract 2 s.size)) w := fun w => slice_l s 2 (by omega) (by omega) w
  have hq := sEq (s.extract 2 s.size) [0, 8, 0, 0, 0, 0]
  clear hV h
  obtain ⟨⟨c0, c1, c2, c3, c4, c5, c6, c7, c8, c9⟩, cf⟩ := W
  obtain ⟨B, hB⟩ : ∃ B, decide (s.extract 2 s.size = ⟨#[0, 8, 0, 0, 0, 0]⟩) = B := ⟨_, rfl⟩
  have HBB : Hid (B = true ↔ s.extract 2 s.size = ⟨#[0, 8, 0, 0, 0, 0]⟩) := (show _ ↔ _ by rw [← hB]; simp)
  rw [hB] at hq
  clear hB
  go_enter Tryd.func26, Tryd.ntmps26
  go_wp2_with fail
  refine (HN.out _).mono ?_
  rintro r w1 ⟨rfl, z1⟩
  obtain rfl : w = w1 := z1.symm
  go_wp2_with fail
  rw [HW.out]
  refine wp_region_grow (by kernel_rfl) (by kernel_rfl) ?_
  repeat (go_big_quiet_step (fail))
  refine wpQuiet_nil ?_
  rintro w3 hw'
  have g3 := gr_elim hw'
  clear hw'
  clear c0 c1 c2 c3 c4 c5 c6 c7 c8 c9 cf
  go_wp2_with fail
  go_ret2
  exact ⟨{ x with clr := true }, 3, B, rfl, dV.below zV g3, HBB.out.trans HI.out, fun _ => ⟨rfl, rfl⟩, ⟨rfl, rfl, rfl, rfl⟩, fun B hB _ e => ⟨(tV.grow g3).tsf hB e.a, (tV.grow g3).tsf hB e.w, e.na, e.nw⟩, fun a c => ⟨a, c⟩, fun o => ⟨o.m0, o.m1, o.g0, o.g1, o.t0, o.t1, o.k0, o.k1⟩, tV.grow g3⟩
set_option maxRecDepth 20000 in
set_option maxHeartbeats 8000000 in
theorem take4e (s : ByteArray) (x : En) (b : Nat) (w : World) (h : Pt s 4) (W : Wn w b x) (hb : b < w.heap.size) (hs : s.size ≤ maxLen) (hE : (decR (s.extract 8 s.size)).2 ≠ 0):
    Calls Tryd.prog 26 #[.pointer (some ⟨b, 0, none⟩), .string s] w (TkPost b s 4 x w) := by
  have h8 := h.z
  have HN : Hid (∀ w, Calls Tryd.prog 25 #[.string (s.extract 0 2)] w fun x w' => x = .returned (.int .u64 4) ∧ w' = w) := (show ∀ w, _ from fun w => by
    have := rnm_any s 0 2 w (by omega)
    rwa [h.p] at this)
  have HI : Hid (((decR (s.extract 8 s.size)).2 = 0 ∧ 0 < (decL s).length ∧ s.extract 4 8 = gap4) ↔ partX 4 (readX 4 s x.sp) = s) := take_4 h x.sp
  have HY : Hid (readX 4 s x.sp = { x.sp with la := decL s }) := (show _ = _ from rfl)
  have HA : Hid (AWs (decL s)) := decL_aw s
  have HFew : Hid ((decL s).length ≤ 32) := (show _ ≤ _ from decR_few _)
  have HDc : Hid (Calls Tryd.prog 40 #[.string (s.extract 8 s.size)] w fun r w' => ∃ ad cap E, r = .returned (.tuple #[.slice ad (decL s).length cap, .int .i64 E]) ∧ Hid (E = 0 ↔ (decR (s.extract 8 s.size)).2 = 0) ∧ Hid (TsF w.heap.size w' ad (decL s)) ∧ Below w.heap.size w w') := (show Calls _ _ _ _ _ from by
    refine (rdec_any (s.extract 8 s.size) w (by rw [ByteArray.size_extract]; omega)).mono ?_
    rintro r w' ⟨ad, cap, E, rfl, h1, h2, h3⟩
    exact ⟨ad, cap, E, rfl, (show _ ↔ _ from h1), (show TsF _ _ _ _ from h2), h3⟩)
  have hq := sEq (s.extract 4 8) [0, 0, 0, 0]
  have hsl : ∀ w, (Instr.slice 9 (.string s) (some (.int .i64 4)) (some (.int .i64 8)) none).run Tryd.prog w = .ok (.string (s.extract 4 8)) w := fun w => slice_lh s 4 8 (by omega) (by omega) (by omega) w
  obtain ⟨C, hC⟩ : ∃ B, decide (s.extract 4 8 = ⟨#[0, 0, 0, 0]⟩) = B := ⟨_, rfl⟩
  have HBB : Hid (C = true ↔ s.extract 4 8 = gap4) := (show _ ↔ _ by rw [← hC]; simp [gap4])
  rw [hC] at hq
  have HE : Hid ((decR (s.extract 8 s.size)).2 ≠ 0) := hE
  clear hC h hE
  generalize decL s = DL at *
  generalize (decR (s.extract 8 s.size)).2 = RE at *
  go_enter Tryd.func26, Tryd.ntmps26
  go_wp2_with fail
  refine (HN.out _).mono ?_
  rintro r w1 ⟨rfl, z1⟩
  obtain rfl : w = w1 := z1.symm
  go_wp2_with fail
  refine HDc.out.mono ?_
  rintro r w2 ⟨ad, cp, E, rfl, HE2, HTF, g2⟩
  have W2 := W.below hb g2
  obtain ⟨V, hV⟩ : ∃ V, w2.setCell ⟨b, 3, none⟩ (.slice ad DL.length cp) = V := ⟨_, rfl⟩
  have dV : Wn V b { x with aa := ad, la := DL, ca := cp } := hV ▸ W2.set3 ad DL cp
  have tV : Tk b w V := hV ▸ ((Tk.refl b w).grow g2).set 3 _
  have zV : b < V.heap.size := Nat.lt_of_lt_of_le hb tV.size
  have HTV : Hid (TsF w.heap.size V ad DL) := (show TsF _ _ _ _ from hV ▸ HTF.out.keep (by simp [World.setCell]) (fun g hg _ => Below.heap_setCell _ _ _ _ (show g ≠ b by omega)))
  have HW : Hid (w2.setCell ⟨b, 3, none⟩ (.slice ad DL.length cp) = V) := hV
  have hEb : (E == 0) = false := by rw [beq_eq_false_iff_ne]; exact fun h => HE.out (HE2.out.1 h)
  clear hV HE2
  obtain ⟨⟨c0, c1, c2, c3, c4, c5, c6, c7, c8, c9⟩, cf⟩ := W2
  go_wp2_with fail
  rw [HW.out]
  refine wp_region_grow (by kernel_rfl) (by kernel_rfl) ?_
  repeat (go_big_quiet_step (fail))
  refine wpQuiet_nil ?_
  rintro w3 hw'
  have g3 := gr_elim hw'
  clear hw'
  clear c0 c1 c2 c3 c4 c5 c6 c7 c8 c9 cf
  go_wp2_with fail
  go_ret2
  exact ⟨{ x with aa := ad, la := DL, ca := cp }, 2, false, rfl, dV.below zV g3, ⟨(fun i => absurd i (by decide)), fun i => absurd (HI.out.2 i).1 HE.out⟩, (fun i => absurd i (by decide)), ⟨rfl, rfl, rfl, rfl⟩, fun B hB hw e => ⟨((HTV.out.mono hw).below g3), (tV.grow g3).tsf hB e.w, Nat.le_trans HFew.out (by decide), e.nw⟩, fun a c => ⟨HA.out, c⟩, fun o => ⟨o.m0, o.m1, o.g0, o.g1, o.t0, o.t1, o.k0, o.k1⟩, tV.grow g3⟩
set_option maxRecDepth 20000 in
set_option maxHeartbeats 8000000 in
theorem take4n (s : ByteArray) (x : En) (b : Nat) (w : World) (h : Pt s 4) (W : Wn w b x) (hb : b < w.heap.size) (hs : s.size ≤ maxLen) (hE : (decR (s.extract 8 s.size)).2 = 0) (hl : (decL s).length = 0):
    Calls Tryd.prog 26 #[.pointer (some ⟨b, 0, none⟩), .string s] w (TkPost b s 4 x w) := by
  have h8 := h.z
  have HN : Hid (∀ w, Calls Tryd.prog 25 #[.string (s.extract 0 2)] w fun x w' => x = .returned (.int .u64 4) ∧ w' = w) := (show ∀ w, _ from fun w => by
    have := rnm_any s 0 2 w (by omega)
    rwa [h.p] at this)
  have HI : Hid (((decR (s.extract 8 s.size)).2 = 0 ∧ 0 < (decL s).length ∧ s.extract 4 8 = gap4) ↔ partX 4 (readX 4 s x.sp) = s) := take_4 h x.sp
  have HY : Hid (readX 4 s x.sp = { x.sp with la := decL s }) := (show _ = _ from rfl)
  have HA : Hid (AWs (decL s)) := decL_aw s
  have HFew : Hid ((decL s).length ≤ 32) := (show _ ≤ _ from decR_few _)
  have HDc : Hid (Calls Tryd.prog 40 #[.string (s.extract 8 s.size)] w fun r w' => ∃ ad cap E, r = .returned (.tuple #[.slice ad (decL s).length cap, .int .i64 E]) ∧ Hid (E = 0 ↔ (decR (s.extract 8 s.size)).2 = 0) ∧ Hid (TsF w.heap.size w' ad (decL s)) ∧ Below w.heap.size w w') := (show Calls _ _ _ _ _ from by
    refine (rdec_any (s.extract 8 s.size) w (by rw [ByteArray.size_extract]; omega)).mono ?_
    rintro r w' ⟨ad, cap, E, rfl, h1, h2, h3⟩
    exact ⟨ad, cap, E, rfl, (show _ ↔ _ from h1), (show TsF _ _ _ _ from h2), h3⟩)
  have hq := sEq (s.extract 4 8) [0, 0, 0, 0]
  have hsl : ∀ w, (Instr.slice 9 (.string s) (some (.int .i64 4)) (some (.int .i64 8)) none).run Tryd.prog w = .ok (.string (s.extract 4 8)) w := fun w => slice_lh s 4 8 (by omega) (by omega) (by omega) w
  obtain ⟨C, hC⟩ : ∃ B, decide (s.extract 4 8 = ⟨#[0, 0, 0, 0]⟩) = B := ⟨_, rfl⟩
  have HBB : Hid (C = true ↔ s.extract 4 8 = gap4) := (show _ ↔ _ by rw [← hC]; simp [gap4])
  rw [hC] at hq
  have HE : Hid ((decR (s.extract 8 s.size)).2 = 0) := hE
  clear hC h hE
  generalize decL s = DL at *
  generalize (decR (s.extract 8 s.size)).2 = RE at *
  have hl0 : DL = [] := List.length_eq_zero_iff.1 hl
  subst hl0
  go_enter Tryd.func26, Tryd.ntmps26
  go_wp2_with fail
  refine (HN.out _).mono ?_
  rintro r w1 ⟨rfl, z1⟩
  obtain rfl : w = w1 := z1.symm
  go_wp2_with fail
  refine HDc.out.mono ?_
  rintro r w2 ⟨ad, cp, E, rfl, HE2, HTF, g2⟩
  have W2 := W.below hb g2
  obtain ⟨V, hV⟩ : ∃ V, w2.setCell ⟨b, 3, none⟩ (.slice ad ([] : List A).length cp) = V := ⟨_, rfl⟩
  have dV : Wn V b { x with aa := ad, la := ([] : List A), ca := cp } := hV ▸ W2.set3 ad ([] : List A) cp
  have tV : Tk b w V := hV ▸ ((Tk.refl b w).grow g2).set 3 _
  have zV : b < V.heap.size := Nat.lt_of_lt_of_le hb tV.size
  have HTV : Hid (TsF w.heap.size V ad ([] : List A)) := (show TsF _ _ _ _ from hV ▸ HTF.out.keep (by simp [World.setCell]) (fun g hg _ => Below.heap_setCell _ _ _ _ (show g ≠ b by omega)))
  have HW : Hid (w2.setCell ⟨b, 3, none⟩ (.slice ad 0 cp) = V) := hV
  have hEb : (E == 0) = true := by rw [beq_iff_eq]; exact HE2.out.2 HE.out
  clear hV HE2
  obtain ⟨⟨c0, c1, c2, c3, c4, c5, c6, c7, c8, c9⟩, cf⟩ := W2
  go_wp2_with fail
  rw [HW.out]
  refine wp_region_grow (by kernel_rfl) (by kernel_rfl) ?_
  repeat (go_big_quiet_step (fail))
  refine wpQuiet_nil ?_
  rintro w3 hw'
  have g3 := gr_elim hw'
  clear hw'
  clear c0 c1 c2 c3 c4 c5 c6 c7 c8 c9 cf
  go_wp2_with fail
  go_ret2
  exact ⟨{ x with aa := ad, la := [], ca := cp }, 2, false, rfl, dV.below zV g3, ⟨(fun i => absurd i (by decide)), fun i => absurd (HI.out.2 i).2.1 (by simp)⟩, (fun i => absurd i (by decide)), ⟨rfl, rfl, rfl, rfl⟩, fun B hB hw e => ⟨((HTV.out.mono hw).below g3), (tV.grow g3).tsf hB e.w, Nat.le_trans HFew.out (by decide), e.nw⟩, fun a c => ⟨HA.out, c⟩, fun o => ⟨o.m0, o.m1, o.g0, o.g1, o.t0, o.t1, o.k0, o.k1⟩, tV.grow g3⟩
set_option maxRecDepth 20000 in
set_option maxHeartbeats 8000000 in
theorem take4g (s : ByteArray) (x : En) (b : Nat) (w : World) (h : Pt s 4) (W : Wn w b x) (hb : b < w.heap.size) (hs : s.size ≤ maxLen) (hE : (decR (s.extract 8 s.size)).2 = 0) (hl : 0 < (decL s).length):
    Calls Tryd.prog 26 #[.pointer (some ⟨b, 0, none⟩), .string s] w (TkPost b s 4 x w) := by
  have h8 := h.z
  have HN : Hid (∀ w, Calls Tryd.prog 25 #[.string (s.extract 0 2)] w fun x w' => x = .returned (.int .u64 4) ∧ w' = w) := (show ∀ w, _ from fun w => by
    have := rnm_any s 0 2 w (by omega)
    rwa [h.p] at this)
  have HI : Hid (((decR (s.extract 8 s.size)).2 = 0 ∧ 0 < (decL s).length ∧ s.extract 4 8 = gap4) ↔ partX 4 (readX 4 s x.sp) = s) := take_4 h x.sp
  have HY : Hid (readX 4 s x.sp = { x.sp with la := decL s }) := (show _ = _ from rfl)
  have HA : Hid (AWs (decL s)) := decL_aw s
  have HFew : Hid ((decL s).length ≤ 32) := (show _ ≤ _ from decR_few _)
  have HDc : Hid (Calls Tryd.prog 40 #[.string (s.extract 8 s.size)] w fun r w' => ∃ ad cap E, r = .returned (.tuple #[.slice ad (decL s).length cap, .int .i64 E]) ∧ Hid (E = 0 ↔ (decR (s.extract 8 s.size)).2 = 0) ∧ Hid (TsF w.heap.size w' ad (decL s)) ∧ Below w.heap.size w w') := (show Calls _ _ _ _ _ from by
    refine (rdec_any (s.extract 8 s.size) w (by rw [ByteArray.size_extract]; omega)).mono ?_
    rintro r w' ⟨ad, cap, E, rfl, h1, h2, h3⟩
    exact ⟨ad, cap, E, rfl, (show _ ↔ _ from h1), (show TsF _ _ _ _ from h2), h3⟩)
  have hq := sEq (s.extract 4 8) [0, 0, 0, 0]
  have hsl : ∀ w, (Instr.slice 9 (.string s) (some (.int .i64 4)) (some (.int .i64 8)) none).run Tryd.prog w = .ok (.string (s.extract 4 8)) w := fun w => slice_lh s 4 8 (by omega) (by omega) (by omega) w
  obtain ⟨C, hC⟩ : ∃ B, decide (s.extract 4 8 = ⟨#[0, 0, 0, 0]⟩) = B := ⟨_, rfl⟩
  have HBB : Hid (C = true ↔ s.extract 4 8 = gap4) := (show _ ↔ _ by rw [← hC]; simp [gap4])
  rw [hC] at hq
  have HE : Hid ((decR (s.extract 8 s.size)).2 = 0) := hE
  clear hC h hE
  generalize decL s = DL at *
  generalize (decR (s.extract 8 s.size)).2 = RE at *
  have hl1 : ((0 : Int) < (DL.length : Int)) := by omega
  go_enter Tryd.func26, Tryd.ntmps26
  go_wp2_with fail
  refine (HN.out _).mono ?_
  rintro r w1 ⟨rfl, z1⟩
  obtain rfl : w = w1 := z1.symm
  go_wp2_with fail
  refine HDc.out.mono ?_
  rintro r w2 ⟨ad, cp, E, rfl, HE2, HTF, g2⟩
  have W2 := W.below hb g2
  obtain ⟨V, hV⟩ : ∃ V, w2.setCell ⟨b, 3, none⟩ (.slice ad DL.length cp) = V := ⟨_, rfl⟩
  have dV : Wn V b { x with aa := ad, la := DL, ca := cp } := hV ▸ W2.set3 ad DL cp
  have tV : Tk b w V := hV ▸ ((Tk.refl b w).grow g2).set 3 _
  have zV : b < V.heap.size := Nat.lt_of_lt_of_le hb tV.size
  have HTV : Hid (TsF w.heap.size V ad DL) := (show TsF _ _ _ _ from hV ▸ HTF.out.keep (by simp [World.setCell]) (fun g hg _ => Below.heap_setCell _ _ _ _ (show g ≠ b by omega)))
  have HW : Hid (w2.setCell ⟨b, 3, none⟩ (.slice ad DL.length cp) = V) := hV
  have hEb : (E == 0) = true := by rw [beq_iff_eq]; exact HE2.out.2 HE.out
  clear hV HE2
  obtain ⟨⟨c0, c1, c2, c3, c4, c5, c6, c7, c8, c9⟩, cf⟩ := W2
  go_wp2_with fail
  rw [HW.out]
  refine wp_region_grow (by kernel_rfl) (by kernel_rfl) ?_
  repeat (go_big_quiet_step (fail))
  refine wpQuiet_nil ?_
  rintro w3 hw'
  have g3 := gr_elim hw'
  clear hw'
  clear c0 c1 c2 c3 c4 c5 c6 c7 c8 c9 cf
  go_wp2_with fail
  go_ret2
  exact ⟨{ x with aa := ad, la := DL, ca := cp }, 2, C, rfl, dV.below zV g3, ⟨fun i => HI.out.1 ⟨HE.out, hl, HBB.out.1 i⟩, fun i => HBB.out.2 (HI.out.2 i).2.2⟩, fun _ => ⟨HY.out.symm, rfl⟩, ⟨rfl, rfl, rfl, rfl⟩, fun B hB hw e => ⟨((HTV.out.mono hw).below g3), (tV.grow g3).tsf hB e.w, Nat.le_trans HFew.out (by decide), e.nw⟩, fun a c => ⟨HA.out, c⟩, fun o => ⟨o.m0, o.m1, o.g0, o.g1, o.t0, o.t1, o.k0, o.k1⟩, tV.grow g3⟩
set_option maxRecDepth 20000 in
set_option maxHeartbeats 8000000 in
theorem take3e (s : ByteArray) (x : En) (b : Nat) (w : World) (h : Pt s 3) (W : Wn w b x) (hb : b < w.heap.size) (hs : s.size ≤ maxLen) (hE : (decR (s.extract 8 s.size)).2 ≠ 0):
    Calls Tryd.prog 26 #[.pointer (some ⟨b, 0, none⟩), .string s] w (TkPost b s 3 x w) := by
  have h8 := h.z
  have HN : Hid (∀ w, Calls Tryd.prog 25 #[.string (s.extract 0 2)] w fun x w' => x = .returned (.int .u64 3) ∧ w' = w) := (show ∀ w, _ from fun w => by
    have := rnm_any s 0 2 w (by omega)
    rwa [h.p] at this)
  have HI : Hid (((decR (s.extract 8 s.size)).2 = 0 ∧ 0 < (decL s).length ∧ s.extract 4 8 = gap4) ↔ partX 3 (readX 3 s x.sp) = s) := take_3 h x.sp
  have HY : Hid (readX 3 s x.sp = { x.sp with lw := decL s }) := (show _ = _ from rfl)
  have HA : Hid (AWs (decL s)) := decL_aw s
  have HFew : Hid ((decL s).length ≤ 32) := (show _ ≤ _ from decR_few _)
  have HDc : Hid (Calls Tryd.prog 40 #[.string (s.extract 8 s.size)] w fun r w' => ∃ ad cap E, r = .returned (.tuple #[.slice ad (decL s).length cap, .int .i64 E]) ∧ Hid (E = 0 ↔ (decR (s.extract 8 s.size)).2 = 0) ∧ Hid (TsF w.heap.size w' ad (decL s)) ∧ Below w.heap.size w w') := (show Calls _ _ _ _ _ from by
    refine (rdec_any (s.extract 8 s.size) w (by rw [ByteArray.size_extract]; omega)).mono ?_
    rintro r w' ⟨ad, cap, E, rfl, h1, h2, h3⟩
    exact ⟨ad, cap, E, rfl, (show _ ↔ _ from h1), (show TsF _ _ _ _ from h2), h3⟩)
  have hq := sEq (s.extract 4 8) [0, 0, 0, 0]
  have hsl : ∀ w, (Instr.slice 9 (.string s) (some (.int .i64 4)) (some (.int .i64 8)) none).run Tryd.prog w = .ok (.string (s.extract 4 8)) w := fun w => slice_lh s 4 8 (by omega) (by omega) (by omega) w
  obtain ⟨C, hC⟩ : ∃ B, decide (s.extract 4 8 = ⟨#[0, 0, 0, 0]⟩) = B := ⟨_, rfl⟩
  have HBB : Hid (C = true ↔ s.extract 4 8 = gap4) := (show _ ↔ _ by rw [← hC]; simp [gap4])
  rw [hC] at hq
  have HE : Hid ((decR (s.extract 8 s.size)).2 ≠ 0) := hE
  clear hC h hE
  generalize decL s = DL at *
  generalize (decR (s.extract 8 s.size)).2 = RE at *
  go_enter Tryd.func26, Tryd.ntmps26
  go_wp2_with fail
  refine (HN.out _).mono ?_
  rintro r w1 ⟨rfl, z1⟩
  obtain rfl : w = w1 := z1.symm
  go_wp2_with fail
  refine HDc.out.mono ?_
  rintro r w2 ⟨ad, cp, E, rfl, HE2, HTF, g2⟩
  have W2 := W.below hb g2
  obtain ⟨V, hV⟩ : ∃ V, w2.setCell ⟨b, 4, none⟩ (.slice ad DL.length cp) = V := ⟨_, rfl⟩
  have dV : Wn V b { x with aw := ad, lw := DL, cw := cp } := hV ▸ W2.set4 ad DL cp
  have tV : Tk b w V := hV ▸ ((Tk.refl b w).grow g2).set 4 _
  have zV : b < V.heap.size := Nat.lt_of_lt_of_le hb tV.size
  have HTV : Hid (TsF w.heap.size V ad DL) := (show TsF _ _ _ _ from hV ▸ HTF.out.keep (by simp [World.setCell]) (fun g hg _ => Below.heap_setCell _ _ _ _ (show g ≠ b by omega)))
  have HW : Hid (w2.setCell ⟨b, 4, none⟩ (.slice ad DL.length cp) = V) := hV
  have hEb : (E == 0) = false := by rw [beq_eq_false_iff_ne]; exact fun h => HE.out (HE2.out.1 h)
  clear hV HE2
  obtain ⟨⟨c0, c1, c2, c3, c4, c5, c6, c7, c8, c9⟩, cf⟩ := W2
  go_wp2_with fail
  rw [HW.out]
  refine wp_region_grow (by kernel_rfl) (by kernel_rfl) ?_
  repeat (go_big_quiet_step (fail))
  refine wpQuiet_nil ?_
  rintro w3 hw'
  have g3 := gr_elim hw'
  clear hw'
  clear c0 c1 c2 c3 c4 c5 c6 c7 c8 c9 cf
  go_wp2_with fail
  go_ret2
  exact ⟨{ x with aw := ad, lw := DL, cw := cp }, 4, false, rfl, dV.below zV g3, ⟨(fun i => absurd i (by decide)), fun i => absurd (HI.out.2 i).1 HE.out⟩, (fun i => absurd i (by decide)), ⟨rfl, rfl, rfl, rfl⟩, fun B hB hw e => ⟨(tV.grow g3).tsf hB e.a, ((HTV.out.mono hw).below g3), e.na, Nat.le_trans HFew.out (by decide)⟩, fun a c => ⟨a, HA.out⟩, fun o => ⟨o.m0, o.m1, o.g0, o.g1, o.t0, o.t1, o.k0, o.k1⟩, tV.grow g3⟩
set_option maxRecDepth 20000 in
set_option maxHeartbeats 8000000 in
theorem take3n (s : ByteArray) (x : En) (b : Nat) (w : World) (h : Pt s 3) (W : Wn w b x) (hb : b < w.heap.size) (hs : s.size ≤ maxLen) (hE : (decR (s.extract 8 s.size)).2 = 0) (hl : (decL s).length = 0):
    Calls Tryd.prog 26 #[.pointer (some ⟨b, 0, none⟩), .string s] w (TkPost b s 3 x w) := by
  have h8 := h.z
  have HN : Hid (∀ w, Calls Tryd.prog 25 #[.string (s.extract 0 2)] w fun x w' => x = .returned (.int .u64 3) ∧ w' = w) := (show ∀ w, _ from fun w => by
    have := rnm_any s 0 2 w (by omega)
    rwa [h.p] at this)
  have HI : Hid (((decR (s.extract 8 s.size)).2 = 0 ∧ 0 < (decL s).length ∧ s.extract 4 8 = gap4) ↔ partX 3 (readX 3 s x.sp) = s) := take_3 h x.sp
  have HY : Hid (readX 3 s x.sp = { x.sp with lw := decL s }) := (show _ = _ from rfl)
  have HA : Hid (AWs (decL s)) := decL_aw s
  have HFew : Hid ((decL s).length ≤ 32) := (show _ ≤ _ from decR_few _)
  have HDc : Hid (Calls Tryd.prog 40 #[.string (s.extract 8 s.size)] w fun r w' => ∃ ad cap E, r = .returned (.tuple #[.slice ad (decL s).length cap, .int .i64 E]) ∧ Hid (E = 0 ↔ (decR (s.extract 8 s.size)).2 = 0) ∧ Hid (TsF w.heap.size w' ad (decL s)) ∧ Below w.heap.size w w') := (show Calls _ _ _ _ _ from by
    refine (rdec_any (s.extract 8 s.size) w (by rw [ByteArray.size_extract]; omega)).mono ?_
    rintro r w' ⟨ad, cap, E, rfl, h1, h2, h3⟩
    exact ⟨ad, cap, E, rfl, (show _ ↔ _ from h1), (show TsF _ _ _ _ from h2), h3⟩)
  have hq := sEq (s.extract 4 8) [0, 0, 0, 0]
  have hsl : ∀ w, (Instr.slice 9 (.string s) (some (.int .i64 4)) (some (.int .i64 8)) none).run Tryd.prog w = .ok (.string (s.extract 4 8)) w := fun w => slice_lh s 4 8 (by omega) (by omega) (by omega) w
  obtain ⟨C, hC⟩ : ∃ B, decide (s.extract 4 8 = ⟨#[0, 0, 0, 0]⟩) = B := ⟨_, rfl⟩
  have HBB : Hid (C = true ↔ s.extract 4 8 = gap4) := (show _ ↔ _ by rw [← hC]; simp [gap4])
  rw [hC] at hq
  have HE : Hid ((decR (s.extract 8 s.size)).2 = 0) := hE
  clear hC h hE
  generalize decL s = DL at *
  generalize (decR (s.extract 8 s.size)).2 = RE at *
  have hl0 : DL = [] := List.length_eq_zero_iff.1 hl
  subst hl0
  go_enter Tryd.func26, Tryd.ntmps26
  go_wp2_with fail
  refine (HN.out _).mono ?_
  rintro r w1 ⟨rfl, z1⟩
  obtain rfl : w = w1 := z1.symm
  go_wp2_with fail
  refine HDc.out.mono ?_
  rintro r w2 ⟨ad, cp, E, rfl, HE2, HTF, g2⟩
  have W2 := W.below hb g2
  obtain ⟨V, hV⟩ : ∃ V, w2.setCell ⟨b, 4, none⟩ (.slice ad ([] : List A).length cp) = V := ⟨_, rfl⟩
  have dV : Wn V b { x with aw := ad, lw := ([] : List A), cw := cp } := hV ▸ W2.set4 ad ([] : List A) cp
  have tV : Tk b w V := hV ▸ ((Tk.refl b w).grow g2).set 4 _
  have zV : b < V.heap.size := Nat.lt_of_lt_of_le hb tV.size
  have HTV : Hid (TsF w.heap.size V ad ([] : List A)) := (show TsF _ _ _ _ from hV ▸ HTF.out.keep (by simp [World.setCell]) (fun g hg _ => Below.heap_setCell _ _ _ _ (show g ≠ b by omega)))
  have HW : Hid (w2.setCell ⟨b, 4, none⟩ (.slice ad 0 cp) = V) := hV
  have hEb : (E == 0) = true := by rw [beq_iff_eq]; exact HE2.out.2 HE.out
  clear hV HE2
  obtain ⟨⟨c0, c1, c2, c3, c4, c5, c6, c7, c8, c9⟩, cf⟩ := W2
  go_wp2_with fail
  rw [HW.out]
  refine wp_region_grow (by kernel_rfl) (by kernel_rfl) ?_
  repeat (go_big_quiet_step (fail))
  refine wpQuiet_nil ?_
  rintro w3 hw'
  have g3 := gr_elim hw'
  clear hw'
  clear c0 c1 c2 c3 c4 c5 c6 c7 c8 c9 cf
  go_wp2_with fail
  go_ret2
  exact ⟨{ x with aw := ad, lw := [], cw := cp }, 4, false, rfl, dV.below zV g3, ⟨(fun i => absurd i (by decide)), fun i => absurd (HI.out.2 i).2.1 (by simp)⟩, (fun i => absurd i (by decide)), ⟨rfl, rfl, rfl, rfl⟩, fun B hB hw e => ⟨(tV.grow g3).tsf hB e.a, ((HTV.out.mono hw).below g3), e.na, Nat.le_trans HFew.out (by decide)⟩, fun a c => ⟨a, HA.out⟩, fun o => ⟨o.m0, o.m1, o.g0, o.g1, o.t0, o.t1, o.k0, o.k1⟩, tV.grow g3⟩
set_option maxRecDepth 20000 in
set_option maxHeartbeats 8000000 in
theorem take3g (s : ByteArray) (x : En) (b : Nat) (w : World) (h : Pt s 3) (W : Wn w b x) (hb : b < w.heap.size) (hs : s.size ≤ maxLen) (hE : (decR (s.extract 8 s.size)).2 = 0) (hl : 0 < (decL s).length):
    Calls Tryd.prog 26 #[.pointer (some ⟨b, 0, none⟩), .string s] w (TkPost b s 3 x w) := by
  have h8 := h.z
  have HN : Hid (∀ w, Calls Tryd.prog 25 #[.string (s.extract 0 2)] w fun x w' => x = .returned (.int .u64 3) ∧ w' = w) := (show ∀ w, _ from fun w => by
    have := rnm_any s 0 2 w (by omega)
    rwa [h.p] at this)
  have HI : Hid (((decR (s.extract 8 s.size)).2 = 0 ∧ 0 < (decL s).length ∧ s.extract 4 8 = gap4) ↔ partX 3 (readX 3 s x.sp) = s) := take_3 h x.sp
  have HY : Hid (readX 3 s x.sp = { x.sp with lw := decL s }) := (show _ = _ from rfl)
  have HA : Hid (AWs (decL s)) := decL_aw s
  have HFew : Hid ((decL s).length ≤ 32) := (show _ ≤ _ from decR_few _)
  have HDc : Hid (Calls Tryd.prog 40 #[.string (s.extract 8 s.size)] w fun r w' => ∃ ad cap E, r = .returned (.tuple #[.slice ad (decL s).length cap, .int .i64 E]) ∧ Hid (E = 0 ↔ (decR (s.extract 8 s.size)).2 = 0) ∧ Hid (TsF w.heap.size w' ad (decL s)) ∧ Below w.heap.size w w') := (show Calls _ _ _ _ _ from by
    refine (rdec_any (s.extract 8 s.size) w (by rw [ByteArray.size_extract]; omega)).mono ?_
    rintro r w' ⟨ad, cap, E, rfl, h1, h2, h3⟩
    exact ⟨ad, cap, E, rfl, (show _ ↔ _ from h1), (show TsF _ _ _ _ from h2), h3⟩)
  have hq := sEq (s.extract 4 8) [0, 0, 0, 0]
  have hsl : ∀ w, (Instr.slice 9 (.string s) (some (.int .i64 4)) (some (.int .i64 8)) none).run Tryd.prog w = .ok (.string (s.extract 4 8)) w := fun w => slice_lh s 4 8 (by omega) (by omega) (by omega) w
  obtain ⟨C, hC⟩ : ∃ B, decide (s.extract 4 8 = ⟨#[0, 0, 0, 0]⟩) = B := ⟨_, rfl⟩
  have HBB : Hid (C = true ↔ s.extract 4 8 = gap4) := (show _ ↔ _ by rw [← hC]; simp [gap4])
  rw [hC] at hq
  have HE : Hid ((decR (s.extract 8 s.size)).2 = 0) := hE
  clear hC h hE
  generalize decL s = DL at *
  generalize (decR (s.extract 8 s.size)).2 = RE at *
  have hl1 : ((0 : Int) < (DL.length : Int)) := by omega
  go_enter Tryd.func26, Tryd.ntmps26
  go_wp2_with fail
  refine (HN.out _).mono ?_
  rintro r w1 ⟨rfl, z1⟩
  obtain rfl : w = w1 := z1.symm
  go_wp2_with fail
  refine HDc.out.mono ?_
  rintro r w2 ⟨ad, cp, E, rfl, HE2, HTF, g2⟩
  have W2 := W.below hb g2
  obtain ⟨V, hV⟩ : ∃ V, w2.setCell ⟨b, 4, none⟩ (.slice ad DL.length cp) = V := ⟨_, rfl⟩
  have dV : Wn V b { x with aw := ad, lw := DL, cw := cp } := hV ▸ W2.set4 ad DL cp
  have tV : Tk b w V := hV ▸ ((Tk.refl b w).grow g2).set 4 _
  have zV : b < V.heap.size := Nat.lt_of_lt_of_le hb tV.size
  have HTV : Hid (TsF w.heap.size V ad DL) := (show TsF _ _ _ _ from hV ▸ HTF.out.keep (by simp [World.setCell]) (fun g hg _ => Below.heap_setCell _ _ _ _ (show g ≠ b by omega)))
  have HW : Hid (w2.setCell ⟨b, 4, none⟩ (.slice ad DL.length cp) = V) := hV
  have hEb : (E == 0) = true := by rw [beq_iff_eq]; exact HE2.out.2 HE.out
  clear hV HE2
  obtain ⟨⟨c0, c1, c2, c3, c4, c5, c6, c7, c8, c9⟩, cf⟩ := W2
  go_wp2_with fail
  rw [HW.out]
  refine wp_region_grow (by kernel_rfl) (by kernel_rfl) ?_
  repeat (go_big_quiet_step (fail))
  refine wpQuiet_nil ?_
  rintro w3 hw'
  have g3 := gr_elim hw'
  clear hw'
  clear c0 c1 c2 c3 c4 c5 c6 c7 c8 c9 cf
  go_wp2_with fail
  go_ret2
  exact ⟨{ x with aw := ad, lw := DL, cw := cp }, 4, C, rfl, dV.below zV g3, ⟨fun i => HI.out.1 ⟨HE.out, hl, HBB.out.1 i⟩, fun i => HBB.out.2 (HI.out.2 i).2.2⟩, fun _ => ⟨HY.out.symm, rfl⟩, ⟨rfl, rfl, rfl, rfl⟩, fun B hB hw e => ⟨(tV.grow g3).tsf hB e.a, ((HTV.out.mono hw).below g3), e.na, Nat.le_trans HFew.out (by decide)⟩, fun a c => ⟨a, HA.out⟩, fun o => ⟨o.m0, o.m1, o.g0, o.g1, o.t0, o.t1, o.k0, o.k1⟩, tV.grow g3⟩
set_option maxRecDepth 20000 in
set_option maxHeartbeats 8000000 in
theorem take2n (s : ByteArray) (x : En) (b : Nat) (w : World) (h : Pt s 2) (W : Wn w b x) (hb : b < w.heap.size) (hs : s.size ≤ maxLen) (hz : s.size ≠ 24):
    Calls Tryd.prog 26 #[.pointer (some ⟨b, 0, none⟩), .string s] w (TkPost b s 2 x w) := by
  have h8 := h.z
  have HN : Hid (∀ w, Calls Tryd.prog 25 #[.string (s.extract 0 2)] w fun x w' => x = .returned (.int .u64 2) ∧ w' = w) := (show ∀ w, _ from fun w => by
    have := rnm_any s 0 2 w (by omega)
    rwa [h.p] at this)
  have HI : Hid ((s.size = 24 ∧ s.extract 4 8 = gap4 ∧ nm s 16 24 ≠ 0) ↔ partX 2 (readX 2 s x.sp) = s) := take_2 h x.sp
  have hz1 : ((s.size : Int) != 24) = true := by rw [bne_iff_ne]; omega
  clear h
  go_enter Tryd.func26, Tryd.ntmps26
  go_wp2_with fail
  refine (HN.out _).mono ?_
  rintro r w1 ⟨rfl, z1⟩
  obtain rfl : w = w1 := z1.symm
  go_wp2_with fail
  go_ret2
  exact ⟨x, 0, false, rfl, W, ⟨(fun i => absurd i (by decide)), fun i => absurd (HI.out.2 i).1 hz⟩, (fun i => absurd i (by decide)), ⟨rfl, rfl, rfl, rfl⟩, fun B hB _ e => e, fun a c => ⟨a, c⟩, fun o => o, Tk.refl b w⟩
set_option maxRecDepth 20000 in
set_option maxHeartbeats 8000000 in
theorem take2t (s : ByteArray) (x : En) (b : Nat) (w : World) (h : Pt s 2) (W : Wn w b x) (hb : b < w.heap.size) (hs : s.size ≤ maxLen) (hz : s.size = 24) (hg : s.extract 4 8 = gap4):
    Calls Tryd.prog 26 #[.pointer (some ⟨b, 0, none⟩), .string s] w (TkPost b s 2 x w) := by
  have h8 := h.z
  have HN : Hid (∀ w, Calls Tryd.prog 25 #[.string (s.extract 0 2)] w fun x w' => x = .returned (.int .u64 2) ∧ w' = w) := (show ∀ w, _ from fun w => by
    have := rnm_any s 0 2 w (by omega)
    rwa [h.p] at this)
  have HI : Hid ((s.size = 24 ∧ s.extract 4 8 = gap4 ∧ nm s 16 24 ≠ 0) ↔ partX 2 (readX 2 s x.sp) = s) := take_2 h x.sp
  have HY : Hid (readX 2 s x.sp = { x.sp with mt := nm s 8 16, mm := nm s 16 24 }) := readX2 hz x.sp
  have hz1 : ((s.size : Int) != 24) = false := by rw [bne_eq_false_iff_eq]; omega
  have H8 : Hid (∀ w, Calls Tryd.prog 25 #[.string (s.extract 8 16)] w fun x w' => x = .returned (.int .u64 (nm s 8 16)) ∧ w' = w) := (show ∀ w, _ from fun w => rnm_any s 8 16 w (by omega))
  have H16 : Hid (∀ w, Calls Tryd.prog 25 #[.string (s.extract 16 24)] w fun x w' => x = .returned (.int .u64 (nm s 16 24)) ∧ w' = w) := (show ∀ w, _ from fun w => rnm_any s 16 24 w (by omega))
  obtain ⟨n0, n1⟩ := nm_lt s 8 16 (by omega)
  obtain ⟨m0, m1⟩ := nm_lt s 16 24 (by omega)
  have hsl : ∀ w, (Instr.slice 9 (.string s) (some (.int .i64 4)) (some (.int .i64 8)) none).run Tryd.prog w = .ok (.string (s.extract 4 8)) w := fun w => slice_lh s 4 8 (by omega) (by omega) (by omega) w
  have hq : ((s.extract 4 8).toList == [0, 0, 0, 0]) = true := by rw [sEq]; exact decide_eq_true hg
  obtain ⟨v, hv⟩ : ∃ v, nm s 8 16 = v := ⟨_, rfl⟩
  obtain ⟨u, hu⟩ : ∃ u, nm s 16 24 = u := ⟨_, rfl⟩
  rw [hv] at H8 n0 n1 HY
  rw [hu] at H16 m0 m1 HI HY
  clear hv hu
  obtain ⟨V1, hV1⟩ : ∃ V, w.setCell ⟨b, 6, none⟩ (.int .u64 v) = V := ⟨_, rfl⟩
  have d1 : Wn V1 b { x with mt := v } := hV1 ▸ W.set6 v
  have t1 : Tk b w V1 := hV1 ▸ (Tk.refl b w).set 6 _
  have HW1 : Hid (w.setCell ⟨b, 6, none⟩ (.int .u64 v) = V1) := hV1
  obtain ⟨V, hV⟩ : ∃ V, V1.setCell ⟨b, 7, none⟩ (.int .u64 u) = V := ⟨_, rfl⟩
  have dV : Wn V b { x with mt := v, mm := u } := hV ▸ d1.set7 u
  have tV : Tk b w V := hV ▸ t1.set 7 _
  have zV : b < V.heap.size := Nat.lt_of_lt_of_le hb tV.size
  have HW : Hid (V1.setCell ⟨b, 7, none⟩ (.int .u64 u) = V) := hV
  have q7 := fun n => (Bn.gr dV.1 zV n).2.2.2.2.2.2.2.1
  have HZ : Hid (s.size = 24) := hz
  have h24 : 24 ≤ s.size := by omega
  have HG : Hid (s.extract 4 8 = gap4) := hg
  clear hV hV1 h t1 hz hg
  obtain ⟨⟨c0, c1, c2, c3, c4, c5, c6, c7, c8, c9⟩, cf⟩ := W
  go_enter Tryd.func26, Tryd.ntmps26
  go_wp2_with fail
  refine (HN.out _).mono ?_
  rintro r w1 ⟨rfl, z1⟩
  obtain rfl : w = w1 := z1.symm
  go_wp2_with fail
  refine (H8.out _).mono ?_
  rintro r w1 ⟨rfl, z1⟩
  obtain rfl : w = w1 := z1.symm
  obtain ⟨⟨e0, e1, e2, e3, e4, e5, e6, e7, e8, e9⟩, ef⟩ := d1
  have HW1' := HW1.out
  go_wp2_with fail
  clear c0 c1 c2 c3 c4 c5 c6 c7 c8 c9 cf HW1'
  refine (H16.out _).mono ?_
  rintro r w1 ⟨rfl, z1⟩
  obtain rfl : V1 = w1 := z1.symm
  go_wp2_with fail
  rw [HW.out]
  refine wp_region_grow (by kernel_rfl) (by kernel_rfl) ?_
  repeat (go_big_quiet_step (fail))
  refine wpQuiet_nil ?_
  rintro w3 hw'
  have g3 := gr_elim hw'
  clear hw'
  clear q7 e0 e1 e2 e3 e4 e5 e6 e7 e8 e9 ef
  go_wp2_with fail
  go_ret2
  refine ⟨{ x with mt := v, mm := u }, 5, u != 0, rfl, dV.below zV g3, ?_, fun _ => ⟨HY.out.symm, rfl⟩, ⟨rfl, rfl, rfl, rfl⟩, fun B hB _ e => ⟨(tV.grow g3).tsf hB e.a, (tV.grow g3).tsf hB e.w, e.na, e.nw⟩, fun a c => ⟨a, c⟩, fun o => ⟨o.m0, o.m1, o.g0, o.g1, n0, n1, m0, m1⟩, tV.grow g3⟩
  rw [← HI.out]
  exact ⟨fun i => ⟨HZ.out, HG.out, by simpa using i⟩, fun i => by simpa using i.2.2⟩
set_option maxRecDepth 20000 in
set_option maxHeartbeats 8000000 in
theorem take2f (s : ByteArray) (x : En) (b : Nat) (w : World) (h : Pt s 2) (W : Wn w b x) (hb : b < w.heap.size) (hs : s.size ≤ maxLen) (hz : s.size = 24) (hg : s.extract 4 8 ≠ gap4):
    Calls Tryd.prog 26 #[.pointer (some ⟨b, 0, none⟩), .string s] w (TkPost b s 2 x w) := by
  have h8 := h.z
  have HN : Hid (∀ w, Calls Tryd.prog 25 #[.string (s.extract 0 2)] w fun x w' => x = .returned (.int .u64 2) ∧ w' = w) := (show ∀ w, _ from fun w => by
    have := rnm_any s 0 2 w (by omega)
    rwa [h.p] at this)
  have HI : Hid ((s.size = 24 ∧ s.extract 4 8 = gap4 ∧ nm s 16 24 ≠ 0) ↔ partX 2 (readX 2 s x.sp) = s) := take_2 h x.sp
  have HY : Hid (readX 2 s x.sp = { x.sp with mt := nm s 8 16, mm := nm s 16 24 }) := readX2 hz x.sp
  have hz1 : ((s.size : Int) != 24) = false := by rw [bne_eq_false_iff_eq]; omega
  have H8 : Hid (∀ w, Calls Tryd.prog 25 #[.string (s.extract 8 16)] w fun x w' => x = .returned (.int .u64 (nm s 8 16)) ∧ w' = w) := (show ∀ w, _ from fun w => rnm_any s 8 16 w (by omega))
  have H16 : Hid (∀ w, Calls Tryd.prog 25 #[.string (s.extract 16 24)] w fun x w' => x = .returned (.int .u64 (nm s 16 24)) ∧ w' = w) := (show ∀ w, _ from fun w => rnm_any s 16 24 w (by omega))
  obtain ⟨n0, n1⟩ := nm_lt s 8 16 (by omega)
  obtain ⟨m0, m1⟩ := nm_lt s 16 24 (by omega)
  have hsl : ∀ w, (Instr.slice 9 (.string s) (some (.int .i64 4)) (some (.int .i64 8)) none).run Tryd.prog w = .ok (.string (s.extract 4 8)) w := fun w => slice_lh s 4 8 (by omega) (by omega) (by omega) w
  have hq : ((s.extract 4 8).toList == [0, 0, 0, 0]) = false := by rw [sEq]; exact decide_eq_false hg
  obtain ⟨v, hv⟩ : ∃ v, nm s 8 16 = v := ⟨_, rfl⟩
  obtain ⟨u, hu⟩ : ∃ u, nm s 16 24 = u := ⟨_, rfl⟩
  rw [hv] at H8 n0 n1 HY
  rw [hu] at H16 m0 m1 HI HY
  clear hv hu
  obtain ⟨V1, hV1⟩ : ∃ V, w.setCell ⟨b, 6, none⟩ (.int .u64 v) = V := ⟨_, rfl⟩
  have d1 : Wn V1 b { x with mt := v } := hV1 ▸ W.set6 v
  have t1 : Tk b w V1 := hV1 ▸ (Tk.refl b w).set 6 _
  have HW1 : Hid (w.setCell ⟨b, 6, none⟩ (.int .u64 v) = V1) := hV1
  obtain ⟨V, hV⟩ : ∃ V, V1.setCell ⟨b, 7, none⟩ (.int .u64 u) = V := ⟨_, rfl⟩
  have dV : Wn V b { x with mt := v, mm := u } := hV ▸ d1.set7 u
  have tV : Tk b w V := hV ▸ t1.set 7 _
  have zV : b < V.heap.size := Nat.lt_of_lt_of_le hb tV.size
  have HW : Hid (V1.setCell ⟨b, 7, none⟩ (.int .u64 u) = V) := hV
  have q7 := fun n => (Bn.gr dV.1 zV n).2.2.2.2.2.2.2.1
  have HZ : Hid (s.size = 24) := hz
  have h24 : 24 ≤ s.size := by omega
  have HG : Hid (s.extract 4 8 ≠ gap4) := hg
  clear hV hV1 h t1 hz hg
  obtain ⟨⟨c0, c1, c2, c3, c4, c5, c6, c7, c8, c9⟩, cf⟩ := W
  go_enter Tryd.func26, Tryd.ntmps26
  go_wp2_with fail
  refine (HN.out _).mono ?_
  rintro r w1 ⟨rfl, z1⟩
  obtain rfl : w = w1 := z1.symm
  go_wp2_with fail
  refine (H8.out _).mono ?_
  rintro r w1 ⟨rfl, z1⟩
  obtain rfl : w = w1 := z1.symm
  obtain ⟨⟨e0, e1, e2, e3, e4, e5, e6, e7, e8, e9⟩, ef⟩ := d1
  have HW1' := HW1.out
  go_wp2_with fail
  clear c0 c1 c2 c3 c4 c5 c6 c7 c8 c9 cf HW1'
  refine (H16.out _).mono ?_
  rintro r w1 ⟨rfl, z1⟩
  obtain rfl : V1 = w1 := z1.symm
  go_wp2_with fail
  rw [HW.out]
  refine wp_region_grow (by kernel_rfl) (by kernel_rfl) ?_
  repeat (go_big_quiet_step (fail))
  refine wpQuiet_nil ?_
  rintro w3 hw'
  have g3 := gr_elim hw'
  clear hw'
  clear q7 e0 e1 e2 e3 e4 e5 e6 e7 e8 e9 ef
  go_wp2_with fail
  go_ret2
  exact ⟨{ x with mt := v, mm := u }, 5, false, rfl, dV.below zV g3, ⟨(fun i => absurd i (by decide)), fun i => absurd (HI.out.2 i).2.1 HG.out⟩, (fun i => absurd i (by decide)), ⟨rfl, rfl, rfl, rfl⟩, fun B hB _ e => ⟨(tV.grow g3).tsf hB e.a, (tV.grow g3).tsf hB e.w, e.na, e.nw⟩, fun a c => ⟨a, c⟩, fun o => ⟨o.m0, o.m1, o.g0, o.g1, n0, n1, m0, m1⟩, tV.grow g3⟩
set_option maxRecDepth 20000 in
set_option maxHeartbeats 8000000 in
theorem take1z (s : ByteArray) (x : En) (b : Nat) (w : World) (h : Pt s 1) (W : Wn w b x) (hb : b < w.heap.size) (hs : s.size ≤ maxLen) (hz : s.size ≠ 8):
    Calls Tryd.prog 26 #[.pointer (some ⟨b, 0, none⟩), .string s] w (TkPost b s 1 x w) := by
  have h8 := h.z
  have HN : Hid (∀ w, Calls Tryd.prog 25 #[.string (s.extract 0 2)] w fun x w' => x = .returned (.int .u64 1) ∧ w' = w) := (show ∀ w, _ from fun w => by
    have := rnm_any s 0 2 w (by omega)
    rwa [h.p] at this)
  have HI : Hid ((s.size = 8 ∧ s.extract 5 s.size = ⟨#[0, 0, 0]⟩ ∧ byteAt s 4 ≠ 0) ↔ partX 1 (readX 1 s x.sp) = s) := take_1 h x.sp
  have HY : Hid (readX 1 s x.sp = { x.sp with go := byteAt s 4 }) := readX1 h x.sp
  obtain ⟨n0, n1⟩ := byteAt_lt s 4
  have hix : ∀ w, (Instr.index 9 (.string s) (.int .i64 4)).run Tryd.prog w = .ok (.int .u8 (byteAt s 4)) w := idx_s s 4 (by omega)
  have hz1 : ((s.size : Int) == 8) = false := by rw [beq_eq_false_iff_ne]; omega
  obtain ⟨v, hv⟩ : ∃ v, byteAt s 4 = v := ⟨_, rfl⟩
  rw [hv] at n0 n1 HI HY
  simp only [hv] at hix
  clear hv
  obtain ⟨V, hV⟩ : ∃ V, w.setCell ⟨b, 9, none⟩ (.int .i64 v) = V := ⟨_, rfl⟩
  have dV : Wn V b { x with go := v } := hV ▸ W.set9 v
  have tV : Tk b w V := hV ▸ (Tk.refl b w).set 9 _
  have zV : b < V.heap.size := Nat.lt_of_lt_of_le hb tV.size
  have HW : Hid (w.setCell ⟨b, 9, none⟩ (.int .i64 v) = V) := hV
  have q9 := fun n => (Bn.gr dV.1 zV n).2.2.2.2.2.2.2.2.2
  have HZ : Hid (s.size ≠ 8) := hz
  clear hV h hz 
  obtain ⟨⟨c0, c1, c2, c3, c4, c5, c6, c7, c8, c9⟩, cf⟩ := W
  go_enter Tryd.func26, Tryd.ntmps26
  go_wp2_with fail
  refine (HN.out _).mono ?_
  rintro r w1 ⟨rfl, z1⟩
  obtain rfl : w = w1 := z1.symm
  go_wp2_with fail
  rw [HW.out]
  refine wp_region_grow (by kernel_rfl) (by kernel_rfl) ?_
  repeat (go_big_quiet_step (fail))
  refine wpQuiet_nil ?_
  rintro w3 hw'
  have g3 := gr_elim hw'
  clear hw'
  clear q9 c0 c1 c2 c3 c4 c5 c6 c7 c8 c9 cf
  go_wp2_with fail
  go_ret2
  exact ⟨{ x with go := v }, 6, false, rfl, dV.below zV g3, ⟨(fun i => absurd i (by decide)), fun i => absurd (HI.out.2 i).1 HZ.out⟩, (fun i => absurd i (by decide)), ⟨rfl, rfl, rfl, rfl⟩, fun B hB _ e => ⟨(tV.grow g3).tsf hB e.a, (tV.grow g3).tsf hB e.w, e.na, e.nw⟩, fun a c => ⟨a, c⟩, fun o => ⟨o.m0, o.m1, n0, n1, o.t0, o.t1, o.k0, o.k1⟩, tV.grow g3⟩
set_option maxRecDepth 20000 in
set_option maxHeartbeats 8000000 in
theorem take1f (s : ByteArray) (x : En) (b : Nat) (w : World) (h : Pt s 1) (W : Wn w b x) (hb : b < w.heap.size) (hs : s.size ≤ maxLen) (hz : s.size = 8) (hg : s.extract 5 s.size ≠ ⟨#[0, 0, 0]⟩):
    Calls Tryd.prog 26 #[.pointer (some ⟨b, 0, none⟩), .string s] w (TkPost b s 1 x w) := by
  have h8 := h.z
  have HN : Hid (∀ w, Calls Tryd.prog 25 #[.string (s.extract 0 2)] w fun x w' => x = .returned (.int .u64 1) ∧ w' = w) := (show ∀ w, _ from fun w => by
    have := rnm_any s 0 2 w (by omega)
    rwa [h.p] at this)
  have HI : Hid ((s.size = 8 ∧ s.extract 5 s.size = ⟨#[0, 0, 0]⟩ ∧ byteAt s 4 ≠ 0) ↔ partX 1 (readX 1 s x.sp) = s) := take_1 h x.sp
  have HY : Hid (readX 1 s x.sp = { x.sp with go := byteAt s 4 }) := readX1 h x.sp
  obtain ⟨n0, n1⟩ := byteAt_lt s 4
  have hix : ∀ w, (Instr.index 9 (.string s) (.int .i64 4)).run Tryd.prog w = .ok (.int .u8 (byteAt s 4)) w := idx_s s 4 (by omega)
  have hz1 : ((s.size : Int) == 8) = true := by rw [beq_iff_eq]; omega
  have hsl : ∀ w, (Instr.slice 9 (.string s) (some (.int .i64 5)) none none).run Tryd.prog w = .ok (.string (s.extract 5 s.size)) w := fun w => slice_l s 5 (by omega) (by omega) w
  have hq : ((s.extract 5 s.size).toList == [0, 0, 0]) = false := by rw [sEq]; exact decide_eq_false hg
  obtain ⟨v, hv⟩ : ∃ v, byteAt s 4 = v := ⟨_, rfl⟩
  rw [hv] at n0 n1 HI HY
  simp only [hv] at hix
  clear hv
  obtain ⟨V, hV⟩ : ∃ V, w.setCell ⟨b, 9, none⟩ (.int .i64 v) = V := ⟨_, rfl⟩
  have dV : Wn V b { x with go := v } := hV ▸ W.set9 v
  have tV : Tk b w V := hV ▸ (Tk.refl b w).set 9 _
  have zV : b < V.heap.size := Nat.lt_of_lt_of_le hb tV.size
  have HW : Hid (w.setCell ⟨b, 9, none⟩ (.int .i64 v) = V) := hV
  have q9 := fun n => (Bn.gr dV.1 zV n).2.2.2.2.2.2.2.2.2
  have HZ : Hid (s.size = 8) := hz
  have HG : Hid (s.extract 5 s.size ≠ ⟨#[0, 0, 0]⟩) := hg
  clear hV h hz hg
  obtain ⟨⟨c0, c1, c2, c3, c4, c5, c6, c7, c8, c9⟩, cf⟩ := W
  go_enter Tryd.func26, Tryd.ntmps26
  go_wp2_with fail
  refine (HN.out _).mono ?_
  rintro r w1 ⟨rfl, z1⟩
  obtain rfl : w = w1 := z1.symm
  go_wp2_with fail
  rw [HW.out]
  refine wp_region_grow (by kernel_rfl) (by kernel_rfl) ?_
  repeat (go_big_quiet_step (fail))
  refine wpQuiet_nil ?_
  rintro w3 hw'
  have g3 := gr_elim hw'
  clear hw'
  clear q9 c0 c1 c2 c3 c4 c5 c6 c7 c8 c9 cf
  go_wp2_with fail
  go_ret2
  exact ⟨{ x with go := v }, 6, false, rfl, dV.below zV g3, ⟨(fun i => absurd i (by decide)), fun i => absurd (HI.out.2 i).2.1 HG.out⟩, (fun i => absurd i (by decide)), ⟨rfl, rfl, rfl, rfl⟩, fun B hB _ e => ⟨(tV.grow g3).tsf hB e.a, (tV.grow g3).tsf hB e.w, e.na, e.nw⟩, fun a c => ⟨a, c⟩, fun o => ⟨o.m0, o.m1, n0, n1, o.t0, o.t1, o.k0, o.k1⟩, tV.grow g3⟩
set_option maxRecDepth 20000 in
set_option maxHeartbeats 8000000 in
theorem take1t (s : ByteArray) (x : En) (b : Nat) (w : World) (h : Pt s 1) (W : Wn w b x) (hb : b < w.heap.size) (hs : s.size ≤ maxLen) (hz : s.size = 8) (hg : s.extract 5 s.size = ⟨#[0, 0, 0]⟩):
    Calls Tryd.prog 26 #[.pointer (some ⟨b, 0, none⟩), .string s] w (TkPost b s 1 x w) := by
  have h8 := h.z
  have HN : Hid (∀ w, Calls Tryd.prog 25 #[.string (s.extract 0 2)] w fun x w' => x = .returned (.int .u64 1) ∧ w' = w) := (show ∀ w, _ from fun w => by
    have := rnm_any s 0 2 w (by omega)
    rwa [h.p] at this)
  have HI : Hid ((s.size = 8 ∧ s.extract 5 s.size = ⟨#[0, 0, 0]⟩ ∧ byteAt s 4 ≠ 0) ↔ partX 1 (readX 1 s x.sp) = s) := take_1 h x.sp
  have HY : Hid (readX 1 s x.sp = { x.sp with go := byteAt s 4 }) := readX1 h x.sp
  obtain ⟨n0, n1⟩ := byteAt_lt s 4
  have hix : ∀ w, (Instr.index 9 (.string s) (.int .i64 4)).run Tryd.prog w = .ok (.int .u8 (byteAt s 4)) w := idx_s s 4 (by omega)
  have hz1 : ((s.size : Int) == 8) = true := by rw [beq_iff_eq]; omega
  have hsl : ∀ w, (Instr.slice 9 (.string s) (some (.int .i64 5)) none none).run Tryd.prog w = .ok (.string (s.extract 5 s.size)) w := fun w => slice_l s 5 (by omega) (by omega) w
  have hq : ((s.extract 5 s.size).toList == [0, 0, 0]) = true := by rw [sEq]; exact decide_eq_true hg
  obtain ⟨v, hv⟩ : ∃ v, byteAt s 4 = v := ⟨_, rfl⟩
  rw [hv] at n0 n1 HI HY
  simp only [hv] at hix
  clear hv
  obtain ⟨V, hV⟩ : ∃ V, w.setCell ⟨b, 9, none⟩ (.int .i64 v) = V := ⟨_, rfl⟩
  have dV : Wn V b { x with go := v } := hV ▸ W.set9 v
  have tV : Tk b w V := hV ▸ (Tk.refl b w).set 9 _
  have zV : b < V.heap.size := Nat.lt_of_lt_of_le hb tV.size
  have HW : Hid (w.setCell ⟨b, 9, none⟩ (.int .i64 v) = V) := hV
  have q9 := fun n => (Bn.gr dV.1 zV n).2.2.2.2.2.2.2.2.2
  have HZ : Hid (s.size = 8) := hz
  have HG : Hid (s.extract 5 s.size = ⟨#[0, 0, 0]⟩) := hg
  clear hV h hz hg
  obtain ⟨⟨c0, c1, c2, c3, c4, c5, c6, c7, c8, c9⟩, cf⟩ := W
  go_enter Tryd.func26, Tryd.ntmps26
  go_wp2_with fail
  refine (HN.out _).mono ?_
  rintro r w1 ⟨rfl, z1⟩
  obtain rfl : w = w1 := z1.symm
  go_wp2_with fail
  rw [HW.out]
  refine wp_region_grow (by kernel_rfl) (by kernel_rfl) ?_
  repeat (go_big_quiet_step (fail))
  refine wpQuiet_nil ?_
  rintro w3 hw'
  have g3 := gr_elim hw'
  clear hw'
  clear q9 c0 c1 c2 c3 c4 c5 c6 c7 c8 c9 cf
  go_wp2_with fail
  go_ret2
  refine ⟨{ x with go := v }, 6, v != 0, rfl, dV.below zV g3, ?_, fun _ => ⟨HY.out.symm, rfl⟩, ⟨rfl, rfl, rfl, rfl⟩, fun B hB _ e => ⟨(tV.grow g3).tsf hB e.a, (tV.grow g3).tsf hB e.w, e.na, e.nw⟩, fun a c => ⟨a, c⟩, fun o => ⟨o.m0, o.m1, n0, n1, o.t0, o.t1, o.k0, o.k1⟩, tV.grow g3⟩
  rw [← HI.out]
  exact ⟨fun i => ⟨HZ.out, HG.out, by simpa using i⟩, fun i => by simpa using i.2.2⟩
set_option maxRecDepth 20000 in
set_option maxHeartbeats 8000000 in
theorem take0 (p : Int) (s : ByteArray) (x : En) (b : Nat) (w : World) (h : Pt s p) (W : Wn w b x) (hb : b < w.heap.size) (hs : s.size ≤ maxLen) (b1 : (p == 6) = false) (b2 : (p == 4) = false) (b3 : (p == 5) = false) (b4 : (p == 3) = false) (b5 : (p == 2) = false) (b6 : (p == 1) = false) (hn : ∀ y, hasX p y = false):
    Calls Tryd.prog 26 #[.pointer (some ⟨b, 0, none⟩), .string s] w (TkPost b s p x w) := by
  have h8 := h.z
  have HN : Hid (∀ w, Calls Tryd.prog 25 #[.string (s.extract 0 2)] w fun x w' => x = .returned (.int .u64 p) ∧ w' = w) := (show ∀ w, _ from fun w => by
    have := rnm_any s 0 2 w (by omega)
    rwa [h.p] at this)
  have HI : Hid (¬ partX p (readX p s x.sp) = s) := (show ¬ _ by
    rw [part_iff h, hn]
    simp)
  clear h hn
  go_enter Tryd.func26, Tryd.ntmps26
  go_wp2_with fail
  refine (HN.out _).mono ?_
  rintro r w1 ⟨rfl, z1⟩
  obtain rfl : w = w1 := z1.symm
  go_wp2_with fail
  go_ret2
  exact ⟨x, 0, false, rfl, W, ⟨(fun i => absurd i (by decide)), fun i => absurd i HI.out⟩, (fun i => absurd i (by decide)), ⟨rfl, rfl, rfl, rfl⟩, fun B hB _ e => e, fun a c => ⟨a, c⟩, fun o => o, Tk.refl b w⟩
theorem rtake_any (p : Int) (s : ByteArray) (x : En) (b : Nat) (w : World) (h : Pt s p) (W : Wn w b x) (hb : b < w.heap.size) (hs : s.size ≤ maxLen) :
    Calls Tryd.prog 26 #[.pointer (some ⟨b, 0, none⟩), .string s] w (TkPost b s p x w) := by
  rcases part_cases p with rfl | rfl | rfl | rfl | rfl | rfl | ⟨b1, b2, b3, b4, b5, b6, hn⟩
  · by_cases hz : s.size = 8
    · exact take6t s x b w h W hb hs hz
    · exact take6f s x b w h W hb hs hz
  · by_cases hE : (decR (s.extract 8 s.size)).2 = 0
    · by_cases hl : (decL s).length = 0
      · exact take4n s x b w h W hb hs hE hl
      · exact take4g s x b w h W hb hs hE (by omega)
    · exact take4e s x b w h W hb hs hE
  · exact take5 s x b w h W hb hs
  · by_cases hE : (decR (s.extract 8 s.size)).2 = 0
    · by_cases hl : (decL s).length = 0
      · exact take3n s x b w h W hb hs hE hl
      · exact take3g s x b w h W hb hs hE (by omega)
    · exact take3e s x b w h W hb hs hE
  · by_cases hz : s.size = 24
    · by_cases hg : s.extract 4 8 = gap4
      · exact take2t s x b w h W hb hs hz hg
      · exact take2f s x b w h W hb hs hz hg
    · exact take2n s x b w h W hb hs hz
  · by_cases hz : s.size = 8
    · by_cases hg : s.extract 5 s.size = ⟨#[0, 0, 0]⟩
      · exact take1t s x b w h W hb hs hz hg
      · exact take1f s x b w h W hb hs hz hg
    · exact take1z s x b w h W hb hs hz
  · exact take0 p s x b w h W hb hs b1 b2 b3 b4 b5 b6 hn
end Go.Proofs.YtcbhkbiofmimbaaDoor

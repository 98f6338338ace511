/-
  Joined: LawBack.
-/
import Derived.Test.YtlcbfdiohcbpbaaGreatDoorZLS
import Derived.Test.YtlcbfdiohcbpbaaGreatDoorZR3
import Derived.Test.YtlcbfdiohcbpbaaGreatDoorZT
namespace Go.Proofs.YtlcbfdiohcbpbaaGreatDoor
/-
  What is encoded is decoded, whatever is behind it, and what is decoded is encoded again: the law's walk.
-/
open Go.ChangeShapes Go.WideShapes Go.ChangeAt Go.RowKit
set_option linter.unusedVariables false
set_option linter.unusedSimpArgs false

theorem dec_err {d : ByteArray} (h : decOk d = false) : decE d ≠ 0 ∧ decZ d = 0 ∧ decM d = ms0.msg := by
  have hn : ¬ decOk d = true := by rw [h]; decide
  refine ⟨fun e => hn ((decE_zero d).1 e), ?_, ?_⟩
  · unfold decZ; rw [if_neg hn]
  · unfold decM; rw [if_neg hn]
theorem dec_ok {d : ByteArray} (h : decOk d = true) : decE d = 0 ∧ decZ d = saidZ d ∧ decM d = readM (headB d) ∧ 0 ≤ decZ d ∧ decZ d ≤ d.size ∧ errM (decM d) = 0 ∧ encM (decM d) = headB d ∧ d.extract 0 (decZ d).toNat = headB d := by
  obtain ⟨h1, h2, h3⟩ := (decOk_iff d).1 h
  have l := said_le h1
  have e1 : decZ d = saidZ d := by unfold decZ; rw [if_pos h]
  have e2 : decM d = readM (headB d) := by unfold decM; rw [if_pos h]
  refine ⟨(decE_zero d).2 h, e1, e2, by omega, by omega, by rw [e2]; exact h2, by rw [e2]; exact h3, ?_⟩
  rw [e1]; rfl
theorem back_mw {m : Ms} {w : World} (h : MI w m) (hf : fewM m = true) : MW w m := few_mw h hf
set_option maxRecDepth 20000 in
set_option maxHeartbeats 16000000 in
theorem back_no (m : Ms) (d : ByteArray) (w : World) (h : MI w m) (hd : Ct w) (hn : fewM m = false ∨ 4000 < d.size) : Calls Tryz.prog 5 #[msV m, .string d] w fun e w' => e = .returned (.bool true) ∧ Below w.heap.size w w' := by
  obtain ⟨W1, hW1⟩ : ∃ W1, mx w m = W1 := ⟨_, rfl⟩
  have G1 : Below w.heap.size w W1 := by rw [← hW1]; go_grown
  have HG : Hid (Below w.heap.size w W1) := G1
  have HL : Hid (Bm (mx w m) w.heap.size m) := Bm.new w m
  have HW1 : Hid (w.alloc (.cells #[.int .i64 m.kind, .int .i64 m.xid, .int .i64 m.cmd, .bool m.chk, .int .i64 m.en.tab, .int .i64 m.en.pri, .slice m.en.ta m.en.tl m.en.tc, .slice m.en.aa m.en.la.length m.en.ca, .slice m.en.aw m.en.lw.length m.en.cw, .bool m.en.clr, .int .u64 m.en.mt, .int .u64 m.en.mm, .int .i64 m.en.met, .int .i64 m.en.go, .int .i64 m.gid, .int .i64 m.gkd, .slice m.ga m.gb.length m.gc, .int .i64 m.mid, .int .i64 m.mra, .int .i64 m.mbu, .int .i64 m.typ, .int .i64 m.cod, .int .i64 m.prt, .bool m.live, .slice m.aa m.la.length m.ca, .string m.dat] 33) = W1) := hW1
  have HF : Hid (Calls Tryz.prog 8 #[msV m] W1 fun e w' => e = .returned (.bool (fewM m)) ∧ Below W1.heap.size W1 w') := (show Calls _ _ _ _ _ from few_any m W1 (h.below G1))
  have HA : Hid (∀ w1, Below w.heap.size w w1 → Calls Tryz.prog 9 #[] w1 fun e w' => e = .returned (.bool true) ∧ Below w1.heap.size w1 w') := (show ∀ w1, _ from fun w1 g => awake_any w1 (hd.below g))
  clear hW1 G1 hd h
  cases hf : fewM m with
  | false =>
    rw [hf] at HF
    clear hf hn
    go_enter Tryz.func5, Tryz.ntmps5
    go_wp2_with (refine load_Mg rfl (.tmp 2) rfl w.heap.size m rfl HL.out ?_)
    rw [HW1.out]
    refine HF.out.mono ?_
    rintro r w1 ⟨rfl, g1⟩
    have G1 := btr HG.out g1 (Nat.le_refl _)
    go_wp2_with fail
    refine (HA.out _ G1).mono ?_
    rintro r w2 ⟨rfl, g2⟩
    go_wp2_with fail
    go_ret
    exact ⟨rfl, btr G1 g2 (Nat.le_refl _)⟩
  | true =>
    have hn' : (d.size : Int) > 4000 := by
      rcases hn with hn | hn
      · rw [hf] at hn; cases hn
      · omega
    rw [hf] at HF
    clear hf hn
    go_enter Tryz.func5, Tryz.ntmps5
    go_wp2_with (refine load_Mg rfl (.tmp 2) rfl w.heap.size m rfl HL.out ?_)
    rw [HW1.out]
    refine HF.out.mono ?_
    rintro r w1 ⟨rfl, g1⟩
    have G1 := btr HG.out g1 (Nat.le_refl _)
    go_wp2_with fail
    refine (HA.out _ G1).mono ?_
    rintro r w2 ⟨rfl, g2⟩
    go_wp2_with fail
    go_ret
    exact ⟨rfl, btr G1 g2 (Nat.le_refl _)⟩
set_option maxRecDepth 20000 in
set_option maxHeartbeats 16000000 in
theorem back_rb (m : Ms) (d : ByteArray) (w : World) (h : MI w m) (hd : Ct w) (hf : fewM m = true) (hn : d.size ≤ 4000) (hr : rightM m.msg = true) (ho2 : decOk d = false) : Calls Tryz.prog 5 #[msV m, .string d] w fun e w' => e = .returned (.bool true) ∧ Below w.heap.size w w' := by
  obtain ⟨W1, hW1⟩ : ∃ W1, mx w m = W1 := ⟨_, rfl⟩
  have hl : Bm W1 w.heap.size m := hW1 ▸ Bm.new w m
  have G1 : Below w.heap.size w W1 := by rw [← hW1]; go_grown
  have z1 : w.heap.size < W1.heap.size := by rw [← hW1]; simp
  have HG : Hid (Below w.heap.size w W1) := G1
  have HB : Hid (∀ w1, Below W1.heap.size W1 w1 → Bm w1 w.heap.size m ∧ w.heap.size < w1.heap.size) := (show ∀ w1, _ from fun w1 g => ⟨hl.below z1 g, Nat.lt_of_lt_of_le z1 g.size⟩)
  have HL : Hid (Bm (mx w m) w.heap.size m) := Bm.new w m
  have HW1 : Hid (w.alloc (.cells #[.int .i64 m.kind, .int .i64 m.xid, .int .i64 m.cmd, .bool m.chk, .int .i64 m.en.tab, .int .i64 m.en.pri, .slice m.en.ta m.en.tl m.en.tc, .slice m.en.aa m.en.la.length m.en.ca, .slice m.en.aw m.en.lw.length m.en.cw, .bool m.en.clr, .int .u64 m.en.mt, .int .u64 m.en.mm, .int .i64 m.en.met, .int .i64 m.en.go, .int .i64 m.gid, .int .i64 m.gkd, .slice m.ga m.gb.length m.gc, .int .i64 m.mid, .int .i64 m.mra, .int .i64 m.mbu, .int .i64 m.typ, .int .i64 m.cod, .int .i64 m.prt, .bool m.live, .slice m.aa m.la.length m.ca, .string m.dat] 33) = W1) := hW1
  have HF : Hid (Calls Tryz.prog 8 #[msV m] W1 fun e w' => e = .returned (.bool true) ∧ Below W1.heap.size W1 w') := (show Calls _ _ _ _ _ from by have := few_any m W1 (h.below G1); rwa [hf] at this)
  have HA : Hid (∀ w1, Below w.heap.size w w1 → Calls Tryz.prog 9 #[] w1 fun e w' => e = .returned (.bool true) ∧ Below w1.heap.size w1 w') := (show ∀ w1, _ from fun w1 g => awake_any w1 (hd.below g))
  have mw := few_mw h hf
  have HM : Hid (∀ w1, Below w.heap.size w w1 → MW w1 m) := (show ∀ w1, _ from fun w1 g => mw.below g)
  have hd' : d.size ≤ maxLen := by unfold maxLen; omega
  have hlen : ¬ ((d.size : Int) > 4000) := by omega
  have HP : Hid (∀ (x : Ms) w, Calls Tryz.prog 12 #[msV x] w fun e w' => e = .returned (msV x) ∧ Below w.heap.size w w') := (show ∀ x w, _ from fun x w => plain_M x w)
  have HS : Hid (∀ (x y : Ms) w, x.msg = y.msg → MW w x → MW w y → Calls Tryz.prog 15 #[msV x, msV y] w fun e w' => e = .returned (.bool true) ∧ Below w.heap.size w w') := (show ∀ x y w, _ from fun x y w e hx hy => by
    have := same_M x y w hx hy
    rwa [e, sameM_refl] at this)
  have e1 : encM m.msg = allM m.msg := by unfold encM; rw [hr]; rfl
  have e2 : errM m.msg = 0 := by unfold errM; rw [hr]; rfl
  have HE : Hid (∀ w1, Below w.heap.size w w1 → Calls Tryz.prog 10 #[msV m] w1 fun e w' => e = .returned (.tuple #[.string (allM m.msg), .int .i64 0]) ∧ Below w1.heap.size w1 w') := (show ∀ w1, _ from fun w1 g => by
    have := encode_M m w1 (mw.below g) h.u (hd.below g)
    rwa [e1, e2] at this)
  obtain ⟨t1, t2, t3⟩ := dec_all m h.u hr d
  obtain ⟨f1, f2, f3, _⟩ := dec_ok t1
  have f4 : decM (allM m.msg ++ d) = m.msg := by rw [f3, t3, read_all m h.u hr]
  obtain ⟨_, _, ho, _⟩ := right_parts hr
  have hz := body_le ho
  have hsz := all_size m.msg
  have N1 : ((allM m.msg).size : Int) ≤ 9008 := by omega
  have HD1 : Hid (∀ w1, Below w.heap.size w w1 → Calls Tryz.prog 13 #[.string (allM m.msg ++ d)] w1 fun e w' => ∃ x : Ms, e = .returned (.tuple #[msV x, .int .i64 (allM m.msg).size, .int .i64 0]) ∧ Hid (x.msg = m.msg ∧ MW w' x) ∧ Below w1.heap.size w1 w') := (show ∀ w1, _ from fun w1 g => by
    have := decode_M (allM m.msg ++ d) w1 (by rw [ByteArray.size_append]; unfold maxLen; omega) (hd.below g)
    rw [f1, f2, t2, f4] at this
    exact this.mono fun _ _ ⟨x, q1, q2, q3, q4, q5⟩ => ⟨x, q1, (show _ ∧ _ from ⟨q2, q3⟩), q5⟩)
  obtain ⟨b1, b2, b3⟩ := dec_err ho2
  have HD2 : Hid (∀ w1, Below w.heap.size w w1 → Calls Tryz.prog 13 #[.string d] w1 fun e w' => ∃ x : Ms, e = .returned (.tuple #[msV x, .int .i64 0, .int .i64 (decE d)]) ∧ Hid (x.msg = ms0.msg ∧ MW w' x) ∧ Below w1.heap.size w1 w') := (show ∀ w1, _ from fun w1 g => by
    have := decode_M d w1 hd' (hd.below g)
    rw [b2, b3] at this
    exact this.mono fun _ _ ⟨x, q1, q2, q3, q4, q5⟩ => ⟨x, q1, (show _ ∧ _ from ⟨q2, q3⟩), q5⟩)
  have k0 : (decE d != 0) = true := by simpa using b1
  clear b1 b2 b3 ho2
  clear e1 e2 hr t1 t2 t3 f1 f2 f3 f4 ho hz hsz
  generalize allM m.msg = S at *
  clear hW1 hl G1 z1 mw h hd hf hd'
  generalize decE d = E at *
  go_enter Tryz.func5, Tryz.ntmps5
  go_wp2_with (refine load_Mg rfl (.tmp 2) rfl w.heap.size m rfl HL.out ?_)
  rw [HW1.out]
  refine HF.out.mono ?_
  rintro r w1 ⟨rfl, g1⟩
  have G1 := btr HG.out g1 (Nat.le_refl _)
  obtain ⟨b1, z1⟩ := HB.out _ g1
  go_wp2_with (refine load_Mg rfl (.tmp 2) rfl w.heap.size m rfl b1 ?_)
  refine (HE.out _ G1).mono ?_
  rintro r w2 ⟨rfl, g2⟩
  have G2 := btr G1 g2 (Nat.le_refl _)
  have B2 : Hid (Bm w2 w.heap.size m ∧ w.heap.size < w2.heap.size) := (show _ ∧ _ from ⟨b1.below z1 g2, Nat.lt_of_lt_of_le z1 g2.size⟩)
  clear b1 z1 g1 g2
  go_wp2_with fail
  refine (HD1.out _ G2).mono ?_
  rintro r w3 ⟨x, rfl, HX, g3⟩
  have G3 := btr G2 g3 (Nat.le_refl _)
  have HZ : Hid (∀ V, Only w3.heap.size (w3.alloc (.cells #[.int .i64 0, .int .i64 0, .int .i64 0, .bool false, .int .i64 0, .int .i64 0, .slice none 0 0, .slice none 0 0, .slice none 0 0, .bool false, .int .u64 0, .int .u64 0, .int .i64 0, .int .i64 0, .int .i64 0, .int .i64 0, .slice none 0 0, .int .i64 0, .int .i64 0, .int .i64 0, .int .i64 0, .int .i64 0, .int .i64 0, .bool false, .slice none 0 0, .string ⟨#[]⟩] 33)) V → Bm V w.heap.size m ∧ w.heap.size < V.heap.size ∧ Below w.heap.size w V ∧ MW V x ∧ w3.heap.size < V.heap.size) := (show ∀ V, _ from fun V o => by
    have gA : Below w3.heap.size w3 (w3.alloc (.cells #[.int .i64 0, .int .i64 0, .int .i64 0, .bool false, .int .i64 0, .int .i64 0, .slice none 0 0, .slice none 0 0, .slice none 0 0, .bool false, .int .u64 0, .int .u64 0, .int .i64 0, .int .i64 0, .int .i64 0, .int .i64 0, .slice none 0 0, .int .i64 0, .int .i64 0, .int .i64 0, .int .i64 0, .int .i64 0, .int .i64 0, .bool false, .slice none 0 0, .string ⟨#[]⟩] 33)) := by go_grown
    have gV := o.belowK (Nat.le_refl _) gA
    have q : w.heap.size < w3.heap.size := Nat.lt_of_lt_of_le B2.out.2 g3.size
    refine ⟨(B2.out.1.below B2.out.2 g3).below q gV, Nat.lt_of_lt_of_le q gV.size, btr G3 gV (Nat.le_refl _), HX.out.2.below gV, by rw [o.size]; simp⟩)
  clear g3
  go_wp2_with (refine store_M rfl (.tmp 7) (.tmp 34) rfl w3.heap.size x rfl rfl (there_new _ _ _) ?_; intro V bV tV oV)
  obtain ⟨y1, y2, y3, y4, y5⟩ := HZ.out _ oV
  clear HZ oV tV B2 G2
  have HS1 : Hid (∀ n : GrT V, Calls Tryz.prog 15 #[msV x, msV m] n.w fun e w' => e = .returned (.bool true) ∧ Below n.w.heap.size n.w w') := (show ∀ n : GrT V, _ from fun n => HS.out x m n.w HX.out.1 (y4.below n.h) (HM.out _ (btr y3 n.h (Nat.le_refl _))))
  have HQ1 : Hid (∀ u, (∃ n : GrT V, u = n.w) → Bm u w3.heap.size x) := (show ∀ u, _ from bV.all y5)
  have HQ2 : Hid (∀ u, (∃ n : GrT V, u = n.w) → Bm u w.heap.size m) := (show ∀ u, _ from y1.all y2)
  refine wp_region_grow (by kernel_rfl) (by kernel_rfl) ?_
  repeat (first
    | (go_big_quiet_want; refine quiet_M (.tmp 7) rfl w3.heap.size x rfl HQ1.out ?_; go_big_quiet_on; simp only [Act.put, List.setIfInBounds_toArray, List.set_cons_succ, List.set_cons_zero])
    | (go_big_quiet_want; refine quiet_M (.tmp 2) rfl w.heap.size m rfl HQ2.out ?_; go_big_quiet_on; simp only [Act.put, List.setIfInBounds_toArray, List.set_cons_succ, List.set_cons_zero])
    | go_big_quiet_step (first | (go_at_call 12; exact quiet_gr (HP.out _ _)) | (go_at_call 15; exact quiet_gr (HS1.out _))))
  refine wpQuiet_nil ?_
  rintro w4 hw'
  have g4 := gr_elim hw'
  have G4 := btr y3 g4 (Nat.le_refl _)
  clear hw' HQ1 HQ2 HS1 y1 y2 y4 y5 bV y3 G3
  go_wp2_with fail
  refine (HD2.out _ G4).mono ?_
  rintro r w5 ⟨y, rfl, HY, g5⟩
  have G5 := btr G4 g5 (Nat.le_refl _)
  have HZ2 : Hid (∀ V, Only w5.heap.size (w5.alloc (.cells #[.int .i64 0, .int .i64 0, .int .i64 0, .bool false, .int .i64 0, .int .i64 0, .slice none 0 0, .slice none 0 0, .slice none 0 0, .bool false, .int .u64 0, .int .u64 0, .int .i64 0, .int .i64 0, .int .i64 0, .int .i64 0, .slice none 0 0, .int .i64 0, .int .i64 0, .int .i64 0, .int .i64 0, .int .i64 0, .int .i64 0, .bool false, .slice none 0 0, .string ⟨#[]⟩] 33)) V → Below w.heap.size w V ∧ Below w5.heap.size w5 V) := (show ∀ V, _ from fun V o => by
    have gA : Below w5.heap.size w5 (w5.alloc (.cells #[.int .i64 0, .int .i64 0, .int .i64 0, .bool false, .int .i64 0, .int .i64 0, .slice none 0 0, .slice none 0 0, .slice none 0 0, .bool false, .int .u64 0, .int .u64 0, .int .i64 0, .int .i64 0, .int .i64 0, .int .i64 0, .slice none 0 0, .int .i64 0, .int .i64 0, .int .i64 0, .int .i64 0, .int .i64 0, .int .i64 0, .bool false, .slice none 0 0, .string ⟨#[]⟩] 33)) := by go_grown
    have gV := o.belowK (Nat.le_refl _) gA
    exact ⟨btr G5 gV (Nat.le_refl _), gV⟩)
  clear g5
  go_wp2_with (first | (refine store_M rfl (.tmp 10) (.tmp 62) rfl w5.heap.size y rfl rfl (there_new _ _ _) ?_; intro V2 bV2 tV2 oV2) | (refine load_Mg rfl (.tmp 10) rfl w5.heap.size y rfl bV2 ?_))
  obtain ⟨G6, g6⟩ := HZ2.out _ oV2
  refine (HP.out _ _).mono ?_
  rintro r w7 ⟨rfl, g7⟩
  have G7 := btr G6 g7 (Nat.le_refl _)
  have HS2 : Hid (Calls Tryz.prog 15 #[msV y, msV ms0] w7 fun e w' => e = .returned (.bool true) ∧ Below w7.heap.size w7 w') := (show Calls _ _ _ _ _ from HS.out y ms0 w7 HY.out.1 ((HY.out.2.below g6).below g7) (ms0_w _))
  clear bV2 tV2 oV2 HZ2
  go_wp2_with fail
  refine HS2.out.mono ?_
  rintro r w8 ⟨rfl, g8⟩
  have G8 := btr G7 g8 (Nat.le_refl _)
  go_wp2_with fail
  refine (HA.out _ G8).mono ?_
  rintro r w9 ⟨rfl, g9⟩
  go_wp2_with fail
  go_ret
  exact ⟨rfl, btr G8 g9 (Nat.le_refl _)⟩
set_option maxRecDepth 20000 in
set_option maxHeartbeats 16000000 in
theorem back_rg (m : Ms) (d : ByteArray) (w : World) (h : MI w m) (hd : Ct w) (hf : fewM m = true) (hn : d.size ≤ 4000) (hr : rightM m.msg = true) (ho2 : decOk d = true) : Calls Tryz.prog 5 #[msV m, .string d] w fun e w' => e = .returned (.bool true) ∧ Below w.heap.size w w' := by
  obtain ⟨W1, hW1⟩ : ∃ W1, mx w m = W1 := ⟨_, rfl⟩
  have hl : Bm W1 w.heap.size m := hW1 ▸ Bm.new w m
  have G1 : Below w.heap.size w W1 := by rw [← hW1]; go_grown
  have z1 : w.heap.size < W1.heap.size := by rw [← hW1]; simp
  have HG : Hid (Below w.heap.size w W1) := G1
  have HB : Hid (∀ w1, Below W1.heap.size W1 w1 → Bm w1 w.heap.size m ∧ w.heap.size < w1.heap.size) := (show ∀ w1, _ from fun w1 g => ⟨hl.below z1 g, Nat.lt_of_lt_of_le z1 g.size⟩)
  have HL : Hid (Bm (mx w m) w.heap.size m) := Bm.new w m
  have HW1 : Hid (w.alloc (.cells #[.int .i64 m.kind, .int .i64 m.xid, .int .i64 m.cmd, .bool m.chk, .int .i64 m.en.tab, .int .i64 m.en.pri, .slice m.en.ta m.en.tl m.en.tc, .slice m.en.aa m.en.la.length m.en.ca, .slice m.en.aw m.en.lw.length m.en.cw, .bool m.en.clr, .int .u64 m.en.mt, .int .u64 m.en.mm, .int .i64 m.en.met, .int .i64 m.en.go, .int .i64 m.gid, .int .i64 m.gkd, .slice m.ga m.gb.length m.gc, .int .i64 m.mid, .int .i64 m.mra, .int .i64 m.mbu, .int .i64 m.typ, .int .i64 m.cod, .int .i64 m.prt, .bool m.live, .slice m.aa m.la.length m.ca, .string m.dat] 33) = W1) := hW1
  have HF : Hid (Calls Tryz.prog 8 #[msV m] W1 fun e w' => e = .returned (.bool true) ∧ Below W1.heap.size W1 w') := (show Calls _ _ _ _ _ from by have := few_any m W1 (h.below G1); rwa [hf] at this)
  have HA : Hid (∀ w1, Below w.heap.size w w1 → Calls Tryz.prog 9 #[] w1 fun e w' => e = .returned (.bool true) ∧ Below w1.heap.size w1 w') := (show ∀ w1, _ from fun w1 g => awake_any w1 (hd.below g))
  have mw := few_mw h hf
  have HM : Hid (∀ w1, Below w.heap.size w w1 → MW w1 m) := (show ∀ w1, _ from fun w1 g => mw.below g)
  have hd' : d.size ≤ maxLen := by unfold maxLen; omega
  have hlen : ¬ ((d.size : Int) > 4000) := by omega
  have HP : Hid (∀ (x : Ms) w, Calls Tryz.prog 12 #[msV x] w fun e w' => e = .returned (msV x) ∧ Below w.heap.size w w') := (show ∀ x w, _ from fun x w => plain_M x w)
  have HS : Hid (∀ (x y : Ms) w, x.msg = y.msg → MW w x → MW w y → Calls Tryz.prog 15 #[msV x, msV y] w fun e w' => e = .returned (.bool true) ∧ Below w.heap.size w w') := (show ∀ x y w, _ from fun x y w e hx hy => by
    have := same_M x y w hx hy
    rwa [e, sameM_refl] at this)
  have e1 : encM m.msg = allM m.msg := by unfold encM; rw [hr]; rfl
  have e2 : errM m.msg = 0 := by unfold errM; rw [hr]; rfl
  have HE : Hid (∀ w1, Below w.heap.size w w1 → Calls Tryz.prog 10 #[msV m] w1 fun e w' => e = .returned (.tuple #[.string (allM m.msg), .int .i64 0]) ∧ Below w1.heap.size w1 w') := (show ∀ w1, _ from fun w1 g => by
    have := encode_M m w1 (mw.below g) h.u (hd.below g)
    rwa [e1, e2] at this)
  obtain ⟨t1, t2, t3⟩ := dec_all m h.u hr d
  obtain ⟨f1, f2, f3, _⟩ := dec_ok t1
  have f4 : decM (allM m.msg ++ d) = m.msg := by rw [f3, t3, read_all m h.u hr]
  obtain ⟨_, _, ho, _⟩ := right_parts hr
  have hz := body_le ho
  have hsz := all_size m.msg
  have N1 : ((allM m.msg).size : Int) ≤ 9008 := by omega
  have HD1 : Hid (∀ w1, Below w.heap.size w w1 → Calls Tryz.prog 13 #[.string (allM m.msg ++ d)] w1 fun e w' => ∃ x : Ms, e = .returned (.tuple #[msV x, .int .i64 (allM m.msg).size, .int .i64 0]) ∧ Hid (x.msg = m.msg ∧ MW w' x) ∧ Below w1.heap.size w1 w') := (show ∀ w1, _ from fun w1 g => by
    have := decode_M (allM m.msg ++ d) w1 (by rw [ByteArray.size_append]; unfold maxLen; omega) (hd.below g)
    rw [f1, f2, t2, f4] at this
    exact this.mono fun _ _ ⟨x, q1, q2, q3, q4, q5⟩ => ⟨x, q1, (show _ ∧ _ from ⟨q2, q3⟩), q5⟩)
  obtain ⟨b1, b2, b3, b4, b5, b6, b7, b8⟩ := dec_ok ho2
  have HD2 : Hid (∀ w1, Below w.heap.size w w1 → Calls Tryz.prog 13 #[.string d] w1 fun e w' => ∃ x : Ms, e = .returned (.tuple #[msV x, .int .i64 (decZ d), .int .i64 0]) ∧ Hid (x.msg = decM d ∧ MW w' x ∧ MU x) ∧ Below w1.heap.size w1 w') := (show ∀ w1, _ from fun w1 g => by
    have := decode_M d w1 hd' (hd.below g)
    rw [b1] at this
    exact this.mono fun _ _ ⟨x, q1, q2, q3, q4, q5⟩ => ⟨x, q1, (show _ ∧ _ ∧ _ from ⟨q2, q3, q4⟩), q5⟩)
  have HE2 : Hid (∀ (x : Ms) w1, Below w.heap.size w w1 → x.msg = decM d → MW w1 x → MU x → Calls Tryz.prog 10 #[msV x] w1 fun e w' => e = .returned (.tuple #[.string (headB d), .int .i64 0]) ∧ Below w1.heap.size w1 w') := (show ∀ x w1, _ from fun x w1 g q1 q2 q3 => by
    have := encode_M x w1 q2 q3 (hd.below g)
    rwa [q1, b6, b7] at this)
  have hsl : ∀ w, (Instr.slice 9 (.string d) none (some (.int .i64 (decZ d))) none).run Tryz.prog w = .ok (.string (headB d)) w := fun w => by
    have := slice_h d (decZ d) b4 b5 w
    rwa [b8] at this
  clear b1 b2 b3 b4 b6 b7 b8 ho2
  clear e1 e2 hr t1 t2 t3 f1 f2 f3 f4 ho hz hsz
  generalize allM m.msg = S at *
  clear hW1 hl G1 z1 mw h hd hf hd'
  generalize headB d = D at *
  generalize decZ d = Z at *
  generalize decM d = RM at *
  go_enter Tryz.func5, Tryz.ntmps5
  go_wp2_with (refine load_Mg rfl (.tmp 2) rfl w.heap.size m rfl HL.out ?_)
  rw [HW1.out]
  refine HF.out.mono ?_
  rintro r w1 ⟨rfl, g1⟩
  have G1 := btr HG.out g1 (Nat.le_refl _)
  obtain ⟨b1, z1⟩ := HB.out _ g1
  go_wp2_with (refine load_Mg rfl (.tmp 2) rfl w.heap.size m rfl b1 ?_)
  refine (HE.out _ G1).mono ?_
  rintro r w2 ⟨rfl, g2⟩
  have G2 := btr G1 g2 (Nat.le_refl _)
  have B2 : Hid (Bm w2 w.heap.size m ∧ w.heap.size < w2.heap.size) := (show _ ∧ _ from ⟨b1.below z1 g2, Nat.lt_of_lt_of_le z1 g2.size⟩)
  clear b1 z1 g1 g2
  go_wp2_with fail
  refine (HD1.out _ G2).mono ?_
  rintro r w3 ⟨x, rfl, HX, g3⟩
  have G3 := btr G2 g3 (Nat.le_refl _)
  have HZ : Hid (∀ V, Only w3.heap.size (w3.alloc (.cells #[.int .i64 0, .int .i64 0, .int .i64 0, .bool false, .int .i64 0, .int .i64 0, .slice none 0 0, .slice none 0 0, .slice none 0 0, .bool false, .int .u64 0, .int .u64 0, .int .i64 0, .int .i64 0, .int .i64 0, .int .i64 0, .slice none 0 0, .int .i64 0, .int .i64 0, .int .i64 0, .int .i64 0, .int .i64 0, .int .i64 0, .bool false, .slice none 0 0, .string ⟨#[]⟩] 33)) V → Bm V w.heap.size m ∧ w.heap.size < V.heap.size ∧ Below w.heap.size w V ∧ MW V x ∧ w3.heap.size < V.heap.size) := (show ∀ V, _ from fun V o => by
    have gA : Below w3.heap.size w3 (w3.alloc (.cells #[.int .i64 0, .int .i64 0, .int .i64 0, .bool false, .int .i64 0, .int .i64 0, .slice none 0 0, .slice none 0 0, .slice none 0 0, .bool false, .int .u64 0, .int .u64 0, .int .i64 0, .int .i64 0, .int .i64 0, .int .i64 0, .slice none 0 0, .int .i64 0, .int .i64 0, .int .i64 0, .int .i64 0, .int .i64 0, .int .i64 0, .bool false, .slice none 0 0, .string ⟨#[]⟩] 33)) := by go_grown
    have gV := o.belowK (Nat.le_refl _) gA
    have q : w.heap.size < w3.heap.size := Nat.lt_of_lt_of_le B2.out.2 g3.size
    refine ⟨(B2.out.1.below B2.out.2 g3).below q gV, Nat.lt_of_lt_of_le q gV.size, btr G3 gV (Nat.le_refl _), HX.out.2.below gV, by rw [o.size]; simp⟩)
  clear g3
  go_wp2_with (refine store_M rfl (.tmp 7) (.tmp 34) rfl w3.heap.size x rfl rfl (there_new _ _ _) ?_; intro V bV tV oV)
  obtain ⟨y1, y2, y3, y4, y5⟩ := HZ.out _ oV
  clear HZ oV tV B2 G2
  have HS1 : Hid (∀ n : GrT V, Calls Tryz.prog 15 #[msV x, msV m] n.w fun e w' => e = .returned (.bool true) ∧ Below n.w.heap.size n.w w') := (show ∀ n : GrT V, _ from fun n => HS.out x m n.w HX.out.1 (y4.below n.h) (HM.out _ (btr y3 n.h (Nat.le_refl _))))
  have HQ1 : Hid (∀ u, (∃ n : GrT V, u = n.w) → Bm u w3.heap.size x) := (show ∀ u, _ from bV.all y5)
  have HQ2 : Hid (∀ u, (∃ n : GrT V, u = n.w) → Bm u w.heap.size m) := (show ∀ u, _ from y1.all y2)
  refine wp_region_grow (by kernel_rfl) (by kernel_rfl) ?_
  repeat (first
    | (go_big_quiet_want; refine quiet_M (.tmp 7) rfl w3.heap.size x rfl HQ1.out ?_; go_big_quiet_on; simp only [Act.put, List.setIfInBounds_toArray, List.set_cons_succ, List.set_cons_zero])
    | (go_big_quiet_want; refine quiet_M (.tmp 2) rfl w.heap.size m rfl HQ2.out ?_; go_big_quiet_on; simp only [Act.put, List.setIfInBounds_toArray, List.set_cons_succ, List.set_cons_zero])
    | go_big_quiet_step (first | (go_at_call 12; exact quiet_gr (HP.out _ _)) | (go_at_call 15; exact quiet_gr (HS1.out _))))
  refine wpQuiet_nil ?_
  rintro w4 hw'
  have g4 := gr_elim hw'
  have G4 := btr y3 g4 (Nat.le_refl _)
  clear hw' HQ1 HQ2 HS1 y1 y2 y4 y5 bV y3 G3
  go_wp2_with fail
  refine (HD2.out _ G4).mono ?_
  rintro r w5 ⟨y, rfl, HY, g5⟩
  have G5 := btr G4 g5 (Nat.le_refl _)
  have HZ2 : Hid (∀ V, Only w5.heap.size (w5.alloc (.cells #[.int .i64 0, .int .i64 0, .int .i64 0, .bool false, .int .i64 0, .int .i64 0, .slice none 0 0, .slice none 0 0, .slice none 0 0, .bool false, .int .u64 0, .int .u64 0, .int .i64 0, .int .i64 0, .int .i64 0, .int .i64 0, .slice none 0 0, .int .i64 0, .int .i64 0, .int .i64 0, .int .i64 0, .int .i64 0, .int .i64 0, .bool false, .slice none 0 0, .string ⟨#[]⟩] 33)) V → Below w.heap.size w V ∧ Below w5.heap.size w5 V) := (show ∀ V, _ from fun V o => by
    have gA : Below w5.heap.size w5 (w5.alloc (.cells #[.int .i64 0, .int .i64 0, .int .i64 0, .bool false, .int .i64 0, .int .i64 0, .slice none 0 0, .slice none 0 0, .slice none 0 0, .bool false, .int .u64 0, .int .u64 0, .int .i64 0, .int .i64 0, .int .i64 0, .int .i64 0, .slice none 0 0, .int .i64 0, .int .i64 0, .int .i64 0, .int .i64 0, .int .i64 0, .int .i64 0, .bool false, .slice none 0 0, .string ⟨#[]⟩] 33)) := by go_grown
    have gV := o.belowK (Nat.le_refl _) gA
    exact ⟨btr G5 gV (Nat.le_refl _), gV⟩)
  clear g5
  go_wp2_with (first | (refine store_M rfl (.tmp 10) (.tmp 62) rfl w5.heap.size y rfl rfl (there_new _ _ _) ?_; intro V2 bV2 tV2 oV2) | (refine load_Mg rfl (.tmp 10) rfl w5.heap.size y rfl bV2 ?_))
  obtain ⟨G6, g6⟩ := HZ2.out _ oV2
  refine (HE2.out y _ G6 HY.out.1 (HY.out.2.1.below g6) HY.out.2.2).mono ?_
  rintro r w7 ⟨rfl, g7⟩
  have G7 := btr G6 g7 (Nat.le_refl _)
  clear bV2 tV2 oV2 HZ2 HE2
  go_wp2_with fail
  refine (HA.out _ G7).mono ?_
  rintro r w9 ⟨rfl, g9⟩
  go_wp2_with fail
  go_ret
  exact ⟨rfl, btr G7 g9 (Nat.le_refl _)⟩
set_option maxRecDepth 20000 in
set_option maxHeartbeats 16000000 in
theorem back_wb (m : Ms) (d : ByteArray) (w : World) (h : MI w m) (hd : Ct w) (hf : fewM m = true) (hn : d.size ≤ 4000) (hr : rightM m.msg = false) (ho2 : decOk d = false) : Calls Tryz.prog 5 #[msV m, .string d] w fun e w' => e = .returned (.bool true) ∧ Below w.heap.size w w' := by
  obtain ⟨W1, hW1⟩ : ∃ W1, mx w m = W1 := ⟨_, rfl⟩
  have hl : Bm W1 w.heap.size m := hW1 ▸ Bm.new w m
  have G1 : Below w.heap.size w W1 := by rw [← hW1]; go_grown
  have z1 : w.heap.size < W1.heap.size := by rw [← hW1]; simp
  have HG : Hid (Below w.heap.size w W1) := G1
  have HB : Hid (∀ w1, Below W1.heap.size W1 w1 → Bm w1 w.heap.size m ∧ w.heap.size < w1.heap.size) := (show ∀ w1, _ from fun w1 g => ⟨hl.below z1 g, Nat.lt_of_lt_of_le z1 g.size⟩)
  have HL : Hid (Bm (mx w m) w.heap.size m) := Bm.new w m
  have HW1 : Hid (w.alloc (.cells #[.int .i64 m.kind, .int .i64 m.xid, .int .i64 m.cmd, .bool m.chk, .int .i64 m.en.tab, .int .i64 m.en.pri, .slice m.en.ta m.en.tl m.en.tc, .slice m.en.aa m.en.la.length m.en.ca, .slice m.en.aw m.en.lw.length m.en.cw, .bool m.en.clr, .int .u64 m.en.mt, .int .u64 m.en.mm, .int .i64 m.en.met, .int .i64 m.en.go, .int .i64 m.gid, .int .i64 m.gkd, .slice m.ga m.gb.length m.gc, .int .i64 m.mid, .int .i64 m.mra, .int .i64 m.mbu, .int .i64 m.typ, .int .i64 m.cod, .int .i64 m.prt, .bool m.live, .slice m.aa m.la.length m.ca, .string m.dat] 33) = W1) := hW1
  have HF : Hid (Calls Tryz.prog 8 #[msV m] W1 fun e w' => e = .returned (.bool true) ∧ Below W1.heap.size W1 w') := (show Calls _ _ _ _ _ from by have := few_any m W1 (h.below G1); rwa [hf] at this)
  have HA : Hid (∀ w1, Below w.heap.size w w1 → Calls Tryz.prog 9 #[] w1 fun e w' => e = .returned (.bool true) ∧ Below w1.heap.size w1 w') := (show ∀ w1, _ from fun w1 g => awake_any w1 (hd.below g))
  have mw := few_mw h hf
  have HM : Hid (∀ w1, Below w.heap.size w w1 → MW w1 m) := (show ∀ w1, _ from fun w1 g => mw.below g)
  have hd' : d.size ≤ maxLen := by unfold maxLen; omega
  have hlen : ¬ ((d.size : Int) > 4000) := by omega
  have HP : Hid (∀ (x : Ms) w, Calls Tryz.prog 12 #[msV x] w fun e w' => e = .returned (msV x) ∧ Below w.heap.size w w') := (show ∀ x w, _ from fun x w => plain_M x w)
  have HS : Hid (∀ (x y : Ms) w, x.msg = y.msg → MW w x → MW w y → Calls Tryz.prog 15 #[msV x, msV y] w fun e w' => e = .returned (.bool true) ∧ Below w.heap.size w w') := (show ∀ x y w, _ from fun x y w e hx hy => by
    have := same_M x y w hx hy
    rwa [e, sameM_refl] at this)
  have e1 : encM m.msg = ⟨#[]⟩ := by unfold encM; rw [hr]; rfl
  have e2 : errM m.msg = 1 := by unfold errM; rw [hr]; rfl
  have HE : Hid (∀ w1, Below w.heap.size w w1 → Calls Tryz.prog 10 #[msV m] w1 fun e w' => e = .returned (.tuple #[.string ⟨#[]⟩, .int .i64 1]) ∧ Below w1.heap.size w1 w') := (show ∀ w1, _ from fun w1 g => by
    have := encode_M m w1 (mw.below g) h.u (hd.below g)
    rwa [e1, e2] at this)
  obtain ⟨b1, b2, b3⟩ := dec_err ho2
  have HD2 : Hid (∀ w1, Below w.heap.size w w1 → Calls Tryz.prog 13 #[.string d] w1 fun e w' => ∃ x : Ms, e = .returned (.tuple #[msV x, .int .i64 0, .int .i64 (decE d)]) ∧ Hid (x.msg = ms0.msg ∧ MW w' x) ∧ Below w1.heap.size w1 w') := (show ∀ w1, _ from fun w1 g => by
    have := decode_M d w1 hd' (hd.below g)
    rw [b2, b3] at this
    exact this.mono fun _ _ ⟨x, q1, q2, q3, q4, q5⟩ => ⟨x, q1, (show _ ∧ _ from ⟨q2, q3⟩), q5⟩)
  have k0 : (decE d != 0) = true := by simpa using b1
  clear b1 b2 b3 ho2
  clear e1 e2 hr
  clear hW1 hl G1 z1 mw h hd hf hd'
  generalize decE d = E at *
  go_enter Tryz.func5, Tryz.ntmps5
  go_wp2_with (refine load_Mg rfl (.tmp 2) rfl w.heap.size m rfl HL.out ?_)
  rw [HW1.out]
  refine HF.out.mono ?_
  rintro r w1 ⟨rfl, g1⟩
  have G1 := btr HG.out g1 (Nat.le_refl _)
  obtain ⟨b1, z1⟩ := HB.out _ g1
  go_wp2_with (refine load_Mg rfl (.tmp 2) rfl w.heap.size m rfl b1 ?_)
  refine (HE.out _ G1).mono ?_
  rintro r w2 ⟨rfl, g2⟩
  have G2 := btr G1 g2 (Nat.le_refl _)
  clear b1 z1 g1 g2
  go_wp2_with fail
  refine (HD2.out _ G2).mono ?_
  rintro r w5 ⟨y, rfl, HY, g5⟩
  have G5 := btr G2 g5 (Nat.le_refl _)
  have HZ2 : Hid (∀ V, Only w5.heap.size (w5.alloc (.cells #[.int .i64 0, .int .i64 0, .int .i64 0, .bool false, .int .i64 0, .int .i64 0, .slice none 0 0, .slice none 0 0, .slice none 0 0, .bool false, .int .u64 0, .int .u64 0, .int .i64 0, .int .i64 0, .int .i64 0, .int .i64 0, .slice none 0 0, .int .i64 0, .int .i64 0, .int .i64 0, .int .i64 0, .int .i64 0, .int .i64 0, .bool false, .slice none 0 0, .string ⟨#[]⟩] 33)) V → Below w.heap.size w V ∧ Below w5.heap.size w5 V) := (show ∀ V, _ from fun V o => by
    have gA : Below w5.heap.size w5 (w5.alloc (.cells #[.int .i64 0, .int .i64 0, .int .i64 0, .bool false, .int .i64 0, .int .i64 0, .slice none 0 0, .slice none 0 0, .slice none 0 0, .bool false, .int .u64 0, .int .u64 0, .int .i64 0, .int .i64 0, .int .i64 0, .int .i64 0, .slice none 0 0, .int .i64 0, .int .i64 0, .int .i64 0, .int .i64 0, .int .i64 0, .int .i64 0, .bool false, .slice none 0 0, .string ⟨#[]⟩] 33)) := by go_grown
    have gV := o.belowK (Nat.le_refl _) gA
    exact ⟨btr G5 gV (Nat.le_refl _), gV⟩)
  clear g5
  go_wp2_with (first | (refine store_M rfl (.tmp 10) (.tmp 62) rfl w5.heap.size y rfl rfl (there_new _ _ _) ?_; intro V2 bV2 tV2 oV2) | (refine load_Mg rfl (.tmp 10) rfl w5.heap.size y rfl bV2 ?_))
  obtain ⟨G6, g6⟩ := HZ2.out _ oV2
  refine (HP.out _ _).mono ?_
  rintro r w7 ⟨rfl, g7⟩
  have G7 := btr G6 g7 (Nat.le_refl _)
  have HS2 : Hid (Calls Tryz.prog 15 #[msV y, msV ms0] w7 fun e w' => e = .returned (.bool true) ∧ Below w7.heap.size w7 w') := (show Calls _ _ _ _ _ from HS.out y ms0 w7 HY.out.1 ((HY.out.2.below g6).below g7) (ms0_w _))
  clear bV2 tV2 oV2 HZ2
  go_wp2_with fail
  refine HS2.out.mono ?_
  rintro r w8 ⟨rfl, g8⟩
  have G8 := btr G7 g8 (Nat.le_refl _)
  go_wp2_with fail
  refine (HA.out _ G8).mono ?_
  rintro r w9 ⟨rfl, g9⟩
  go_wp2_with fail
  go_ret
  exact ⟨rfl, btr G8 g9 (Nat.le_refl _)⟩
set_option maxRecDepth 20000 in
set_option maxHeartbeats 16000000 in
theorem back_wg (m : Ms) (d : ByteArray) (w : World) (h : MI w m) (hd : Ct w) (hf : fewM m = true) (hn : d.size ≤ 4000) (hr : rightM m.msg = false) (ho2 : decOk d = true) : Calls Tryz.prog 5 #[msV m, .string d] w fun e w' => e = .returned (.bool true) ∧ Below w.heap.size w w' := by
  obtain ⟨W1, hW1⟩ : ∃ W1, mx w m = W1 := ⟨_, rfl⟩
  have hl : Bm W1 w.heap.size m := hW1 ▸ Bm.new w m
  have G1 : Below w.heap.size w W1 := by rw [← hW1]; go_grown
  have z1 : w.heap.size < W1.heap.size := by rw [← hW1]; simp
  have HG : Hid (Below w.heap.size w W1) := G1
  have HB : Hid (∀ w1, Below W1.heap.size W1 w1 → Bm w1 w.heap.size m ∧ w.heap.size < w1.heap.size) := (show ∀ w1, _ from fun w1 g => ⟨hl.below z1 g, Nat.lt_of_lt_of_le z1 g.size⟩)
  have HL : Hid (Bm (mx w m) w.heap.size m) := Bm.new w m
  have HW1 : Hid (w.alloc (.cells #[.int .i64 m.kind, .int .i64 m.xid, .int .i64 m.cmd, .bool m.chk, .int .i64 m.en.tab, .int .i64 m.en.pri, .slice m.en.ta m.en.tl m.en.tc, .slice m.en.aa m.en.la.length m.en.ca, .slice m.en.aw m.en.lw.length m.en.cw, .bool m.en.clr, .int .u64 m.en.mt, .int .u64 m.en.mm, .int .i64 m.en.met, .int .i64 m.en.go, .int .i64 m.gid, .int .i64 m.gkd, .slice m.ga m.gb.length m.gc, .int .i64 m.mid, .int .i64 m.mra, .int .i64 m.mbu, .int .i64 m.typ, .int .i64 m.cod, .int .i64 m.prt, .bool m.live, .slice m.aa m.la.length m.ca, .string m.dat] 33) = W1) := hW1
  have HF : Hid (Calls Tryz.prog 8 #[msV m] W1 fun e w' => e = .returned (.bool true) ∧ Below W1.heap.size W1 w') := (show Calls _ _ _ _ _ from by have := few_any m W1 (h.below G1); rwa [hf] at this)
  have HA : Hid (∀ w1, Below w.heap.size w w1 → Calls Tryz.prog 9 #[] w1 fun e w' => e = .returned (.bool true) ∧ Below w1.heap.size w1 w') := (show ∀ w1, _ from fun w1 g => awake_any w1 (hd.below g))
  have mw := few_mw h hf
  have HM : Hid (∀ w1, Below w.heap.size w w1 → MW w1 m) := (show ∀ w1, _ from fun w1 g => mw.below g)
  have hd' : d.size ≤ maxLen := by unfold maxLen; omega
  have hlen : ¬ ((d.size : Int) > 4000) := by omega
  have HP : Hid (∀ (x : Ms) w, Calls Tryz.prog 12 #[msV x] w fun e w' => e = .returned (msV x) ∧ Below w.heap.size w w') := (show ∀ x w, _ from fun x w => plain_M x w)
  have HS : Hid (∀ (x y : Ms) w, x.msg = y.msg → MW w x → MW w y → Calls Tryz.prog 15 #[msV x, msV y] w fun e w' => e = .returned (.bool true) ∧ Below w.heap.size w w') := (show ∀ x y w, _ from fun x y w e hx hy => by
    have := same_M x y w hx hy
    rwa [e, sameM_refl] at this)
  have e1 : encM m.msg = ⟨#[]⟩ := by unfold encM; rw [hr]; rfl
  have e2 : errM m.msg = 1 := by unfold errM; rw [hr]; rfl
  have HE : Hid (∀ w1, Below w.heap.size w w1 → Calls Tryz.prog 10 #[msV m] w1 fun e w' => e = .returned (.tuple #[.string ⟨#[]⟩, .int .i64 1]) ∧ Below w1.heap.size w1 w') := (show ∀ w1, _ from fun w1 g => by
    have := encode_M m w1 (mw.below g) h.u (hd.below g)
    rwa [e1, e2] at this)
  obtain ⟨b1, b2, b3, b4, b5, b6, b7, b8⟩ := dec_ok ho2
  have HD2 : Hid (∀ w1, Below w.heap.size w w1 → Calls Tryz.prog 13 #[.string d] w1 fun e w' => ∃ x : Ms, e = .returned (.tuple #[msV x, .int .i64 (decZ d), .int .i64 0]) ∧ Hid (x.msg = decM d ∧ MW w' x ∧ MU x) ∧ Below w1.heap.size w1 w') := (show ∀ w1, _ from fun w1 g => by
    have := decode_M d w1 hd' (hd.below g)
    rw [b1] at this
    exact this.mono fun _ _ ⟨x, q1, q2, q3, q4, q5⟩ => ⟨x, q1, (show _ ∧ _ ∧ _ from ⟨q2, q3, q4⟩), q5⟩)
  have HE2 : Hid (∀ (x : Ms) w1, Below w.heap.size w w1 → x.msg = decM d → MW w1 x → MU x → Calls Tryz.prog 10 #[msV x] w1 fun e w' => e = .returned (.tuple #[.string (headB d), .int .i64 0]) ∧ Below w1.heap.size w1 w') := (show ∀ x w1, _ from fun x w1 g q1 q2 q3 => by
    have := encode_M x w1 q2 q3 (hd.below g)
    rwa [q1, b6, b7] at this)
  have hsl : ∀ w, (Instr.slice 9 (.string d) none (some (.int .i64 (decZ d))) none).run Tryz.prog w = .ok (.string (headB d)) w := fun w => by
    have := slice_h d (decZ d) b4 b5 w
    rwa [b8] at this
  clear b1 b2 b3 b4 b6 b7 b8 ho2
  clear e1 e2 hr
  clear hW1 hl G1 z1 mw h hd hf hd'
  generalize headB d = D at *
  generalize decZ d = Z at *
  generalize decM d = RM at *
  go_enter Tryz.func5, Tryz.ntmps5
  go_wp2_with (refine load_Mg rfl (.tmp 2) rfl w.heap.size m rfl HL.out ?_)
  rw [HW1.out]
  refine HF.out.mono ?_
  rintro r w1 ⟨rfl, g1⟩
  have G1 := btr HG.out g1 (Nat.le_refl _)
  obtain ⟨b1, z1⟩ := HB.out _ g1
  go_wp2_with (refine load_Mg rfl (.tmp 2) rfl w.heap.size m rfl b1 ?_)
  refine (HE.out _ G1).mono ?_
  rintro r w2 ⟨rfl, g2⟩
  have G2 := btr G1 g2 (Nat.le_refl _)
  clear b1 z1 g1 g2
  go_wp2_with fail
  refine (HD2.out _ G2).mono ?_
  rintro r w5 ⟨y, rfl, HY, g5⟩
  have G5 := btr G2 g5 (Nat.le_refl _)
  have HZ2 : Hid (∀ V, Only w5.heap.size (w5.alloc (.cells #[.int .i64 0, .int .i64 0, .int .i64 0, .bool false, .int .i64 0, .int .i64 0, .slice none 0 0, .slice none 0 0, .slice none 0 0, .bool false, .int .u64 0, .int .u64 0, .int .i64 0, .int .i64 0, .int .i64 0, .int .i64 0, .slice none 0 0, .int .i64 0, .int .i64 0, .int .i64 0, .int .i64 0, .int .i64 0, .int .i64 0, .bool false, .slice none 0 0, .string ⟨#[]⟩] 33)) V → Below w.heap.size w V ∧ Below w5.heap.size w5 V) := (show ∀ V, _ from fun V o => by
    have gA : Below w5.heap.size w5 (w5.alloc (.cells #[.int .i64 0, .int .i64 0, .int .i64 0, .bool false, .int .i64 0, .int .i64 0, .slice none 0 0, .slice none 0 0, .slice none 0 0, .bool false, .int .u64 0, .int .u64 0, .int .i64 0, .int .i64 0, .int .i64 0, .int .i64 0, .slice none 0 0, .int .i64 0, .int .i64 0, .int .i64 0, .int .i64 0, .int .i64 0, .int .i64 0, .bool false, .slice none 0 0, .string ⟨#[]⟩] 33)) := by go_grown
    have gV := o.belowK (Nat.le_refl _) gA
    exact ⟨btr G5 gV (Nat.le_refl _), gV⟩)
  clear g5
  go_wp2_with (first | (refine store_M rfl (.tmp 10) (.tmp 62) rfl w5.heap.size y rfl rfl (there_new _ _ _) ?_; intro V2 bV2 tV2 oV2) | (refine load_Mg rfl (.tmp 10) rfl w5.heap.size y rfl bV2 ?_))
  obtain ⟨G6, g6⟩ := HZ2.out _ oV2
  refine (HE2.out y _ G6 HY.out.1 (HY.out.2.1.below g6) HY.out.2.2).mono ?_
  rintro r w7 ⟨rfl, g7⟩
  have G7 := btr G6 g7 (Nat.le_refl _)
  clear bV2 tV2 oV2 HZ2 HE2
  go_wp2_with fail
  refine (HA.out _ G7).mono ?_
  rintro r w9 ⟨rfl, g9⟩
  go_wp2_with fail
  go_ret
  exact ⟨rfl, btr G7 g9 (Nat.le_refl _)⟩
theorem back_walk (m : Ms) (d : ByteArray) (w : World) (h : MI w m) (hs : d.size ≤ maxLen) (hd : Ct w) : Calls Tryz.prog 5 #[msV m, .string d] w fun e w' => e = .returned (.bool true) ∧ Below w.heap.size w w' := by
  cases hf : fewM m with
  | false => exact back_no m d w h hd (.inl hf)
  | true =>
    by_cases hn : d.size ≤ 4000
    · cases hr : rightM m.msg with
      | false =>
        cases ho : decOk d with
        | false => exact back_wb m d w h hd hf hn hr ho
        | true => exact back_wg m d w h hd hf hn hr ho
      | true =>
        cases ho : decOk d with
        | false => exact back_rb m d w h hd hf hn hr ho
        | true => exact back_rg m d w h hd hf hn hr ho
    · exact back_no m d w h hd (.inr (by omega))
end Go.Proofs.YtlcbfdiohcbpbaaGreatDoor

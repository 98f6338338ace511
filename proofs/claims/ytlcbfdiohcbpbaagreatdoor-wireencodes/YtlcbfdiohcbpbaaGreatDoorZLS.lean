/-
  Joined: LawShort.
-/
import Derived.Test.YtlcbfdiohcbpbaaGreatDoorZW2
import Derived.Test.YtlcbfdiohcbpbaaGreatDoorZS5
namespace Go.Proofs.YtlcbfdiohcbpbaaGreatDoor
/-
  A beginning of a message's bytes is not it: the law's walk.
-/
open Go.ChangeShapes Go.WideShapes Go.ChangeAt Go.RowKit
set_option linter.unusedVariables false
set_option linter.unusedSimpArgs false

theorem MI.below {w w' : World} {m : Ms} (h : MI w m) (g : Below w.heap.size w w') : MI w' m := ⟨h.ea.below g, h.ew.below g, h.t.below g, h.tl, h.tc, by
  rcases h.gc with hg | ⟨b, o, hg, hlt, hc⟩
  · exact .inl hg
  · exact .inr ⟨b, o, hg, Nat.lt_of_lt_of_le hlt g.size, fun i hi => (hc i hi).below hlt g⟩, fun b hb => (h.ga b hb).below g, h.a.below g, h.u⟩
theorem said_head (K N : Int) (t : ByteArray) (k0 : 0 ≤ K) (k1 : K ≤ 255) (n0 : 0 ≤ N) (n1 : N ≤ 65535) : sz1 (pb 4 1 ++ (pb K 1 ++ (pb N 2 ++ t))) = 4 ∧ sz2 (pb 4 1 ++ (pb K 1 ++ (pb N 2 ++ t))) = N := by
  refine ⟨num1_ap 4 _ (by omega) (by omega), ?_⟩
  unfold sz2
  rw [skip1_ap, skip1_ap, num2_ap N t n0 n1]
theorem ext_pre (a b : ByteArray) (j : Nat) (h : a.size ≤ j) : (a ++ b).extract 0 j = a ++ b.extract 0 (j - a.size) := by
  apply ba_ext
  have e : a.size = a.data.toList.length := by simp
  simp only [ByteArray.data_extract, Array.toList_extract, ByteArray.data_append, Array.toList_append, List.extract_eq_take_drop, List.drop_zero, Nat.sub_zero]
  rw [List.take_append, e, List.take_of_length_le (by omega)]
theorem allM_eq (m : Msg) : allM m = pb 4 1 ++ (pb m.kind 1 ++ (pb (8 + ((bodyM m).size : Int)) 2 ++ (pb m.xid 4 ++ bodyM m))) := by
  unfold allM; simp only [ap_assoc]
theorem said_short {m : Msg} (hr : rightM m = true) (j : Nat) (hj : j < (allM m).size) : saidE ((allM m).extract 0 j) = 10 := by
  obtain ⟨_, _, ho, _⟩ := right_parts hr
  obtain ⟨n0, n1⟩ := own_kind ho
  have hz := body_le ho
  have hs : ((allM m).extract 0 j).size = j := by rw [ByteArray.size_extract]; omega
  have hn : ((allM m).size : Int) = 8 + ((bodyM m).size : Int) := by
    unfold allM
    simp only [ByteArray.size_append, pb_size]
    omega
  unfold saidE
  rw [hs]
  by_cases h8 : j < 8
  · rw [if_pos h8]
  · rw [if_neg h8]
    have e : (allM m).extract 0 j = pb 4 1 ++ (pb m.kind 1 ++ (pb (8 + ((bodyM m).size : Int)) 2 ++ (pb m.xid 4 ++ bodyM m).extract 0 (j - 1 - 1 - 2))) := by
      rw [allM_eq, ext_pre _ _ j (by rw [pb_size]; omega), pb_size, ext_pre _ _ (j - 1) (by rw [pb_size]; omega), pb_size, ext_pre _ _ (j - 1 - 1) (by rw [pb_size]; omega), pb_size]
    obtain ⟨s1, s2⟩ := said_head m.kind (8 + ((bodyM m).size : Int)) ((pb m.xid 4 ++ bodyM m).extract 0 (j - 1 - 1 - 2)) n0 (by omega) (by omega) (by omega)
    rw [e, s1, s2, if_neg (by omega), if_pos (by omega)]
theorem place_of (a : Int) (L : Nat) (h0 : (8 : Int) ≤ (L : Int)) (h1 : (L : Int) ≤ 9008) : 0 ≤ (wrap64 (a.tmod L + L)).tmod L ∧ (wrap64 (a.tmod L + L)).tmod L < L := by
  have t1 := Int.tmod_lt_of_pos a (show (0 : Int) < (L : Int) by omega)
  have t2 := Int.lt_tmod_of_pos a (show (0 : Int) < (L : Int) by omega)
  have e : wrap64 (a.tmod L + L) = a.tmod L + L := by
    generalize a.tmod (L : Int) = x at *
    simp only [wrap64, IntKind.wrap_i64]
    omega
  rw [e, Int.tmod_eq_emod_of_nonneg (by omega)]
  exact ⟨Int.emod_nonneg _ (by omega), Int.emod_lt_of_pos _ (by omega)⟩
theorem same_00 (w : World) : Calls Tryz.prog 15 #[msV ms0, msV ms0] w fun e w' => e = .returned (.bool true) ∧ Below w.heap.size w w' := by
  have h := same_M ms0 ms0 w (ms0_w w) (ms0_w w)
  rwa [sameM_refl] at h
set_option maxRecDepth 20000 in
set_option maxHeartbeats 16000000 in
theorem short_walk (m : Ms) (at_ : Int) (w : World) (h : MI w m) (hd : Ct w) : Calls Tryz.prog 6 #[msV m, .int .i64 at_] w fun e w' => e = .returned (.bool true) ∧ Below w.heap.size w w' := by
  obtain ⟨W1, hW1⟩ : ∃ W1, mx w m = W1 := ⟨_, rfl⟩
  have hl : Bm W1 w.heap.size m := hW1 ▸ Bm.new w m
  have G1 : Below w.heap.size w W1 := by rw [← hW1]; go_grown
  have z1 : w.heap.size < W1.heap.size := by rw [← hW1]; simp
  have HG : Hid (Below w.heap.size w W1) := G1
  have HB : Hid (∀ w1, Below W1.heap.size W1 w1 → Bm w1 w.heap.size m ∧ w.heap.size < w1.heap.size) := (show ∀ w1, _ from fun w1 g => ⟨hl.below z1 g, Nat.lt_of_lt_of_le z1 g.size⟩)
  have HL : Hid (Bm (mx w m) w.heap.size m) := Bm.new w m
  have HW1 : Hid (w.alloc (.cells #[.int .i64 m.kind, .int .i64 m.xid, .int .i64 m.cmd, .bool m.chk, .int .i64 m.en.tab, .int .i64 m.en.pri, .slice m.en.ta m.en.tl m.en.tc, .slice m.en.aa m.en.la.length m.en.ca, .slice m.en.aw m.en.lw.length m.en.cw, .bool m.en.clr, .int .u64 m.en.mt, .int .u64 m.en.mm, .int .i64 m.en.met, .int .i64 m.en.go, .int .i64 m.gid, .int .i64 m.gkd, .slice m.ga m.gb.length m.gc, .int .i64 m.mid, .int .i64 m.mra, .int .i64 m.mbu, .int .i64 m.typ, .int .i64 m.cod, .int .i64 m.prt, .bool m.live, .slice m.aa m.la.length m.ca, .string m.dat] 33) = W1) := hW1
  have HF : Hid (Calls Tryz.prog 8 #[msV m] W1 fun e w' => e = .returned (.bool (fewM m)) ∧ Below W1.heap.size W1 w') := (show Calls _ _ _ _ _ from few_any m W1 (h.below G1))
  have HA : Hid (∀ w1, Below w.heap.size w w1 → Calls Tryz.prog 9 #[] w1 fun e w' => e = .returned (.bool true) ∧ Below w1.heap.size w1 w') := (show ∀ w1, _ from fun w1 g => awake_any w1 (hd.below g))
  clear hW1 hl G1 z1
  cases hf : fewM m with
  | false =>
    rw [hf] at HF
    clear hf h hd
    go_enter Tryz.func6, Tryz.ntmps6
    go_wp2_with (refine load_Mg rfl (.tmp 2) rfl w.heap.size m rfl HL.out ?_)
    rw [HW1.out]
    refine HF.out.mono ?_
    rintro r w1 ⟨rfl, g1⟩
    have G1 := btr HG.out g1 (Nat.le_refl _)
    go_wp2_with fail
    refine (HA.out _ G1).mono ?_
    rintro r w2 ⟨rfl, g2⟩
    go_wp2_with fail
    go_ret
    exact ⟨rfl, btr G1 g2 (Nat.le_refl _)⟩
  | true =>
    have mw := few_mw h hf
    have HE : Hid (∀ w1, Below w.heap.size w w1 → Calls Tryz.prog 10 #[msV m] w1 fun e w' => e = .returned (.tuple #[.string (encM m.msg), .int .i64 (errM m.msg)]) ∧ Below w1.heap.size w1 w') := (show ∀ w1, _ from fun w1 g => encode_M m w1 (mw.below g) h.u (hd.below g))
    rw [hf] at HF
    clear hf hd mw h
    cases hr : rightM m.msg with
    | false =>
      have e1 : encM m.msg = ⟨#[]⟩ := by unfold encM; rw [hr]; rfl
      have e2 : errM m.msg = 1 := by unfold errM; rw [hr]; rfl
      rw [e1, e2] at HE
      clear e1 e2 hr
      go_enter Tryz.func6, Tryz.ntmps6
      go_wp2_with (refine load_Mg rfl (.tmp 2) rfl w.heap.size m rfl HL.out ?_)
      rw [HW1.out]
      refine HF.out.mono ?_
      rintro r w1 ⟨rfl, g1⟩
      have G1 := btr HG.out g1 (Nat.le_refl _)
      obtain ⟨b1, z1⟩ := HB.out _ g1
      go_wp2_with (refine load_Mg rfl (.tmp 2) rfl w.heap.size m rfl b1 ?_)
      refine (HE.out _ G1).mono ?_
      rintro r w2 ⟨rfl, g2⟩
      have G2 := btr G1 g2 (Nat.le_refl _)
      clear b1 z1 g1 g2
      go_wp2_with fail
      refine (HA.out _ G2).mono ?_
      rintro r w3 ⟨rfl, g3⟩
      go_wp2_with fail
      go_ret
      exact ⟨rfl, btr G2 g3 (Nat.le_refl _)⟩
    | true =>
      have e1 : encM m.msg = allM m.msg := by unfold encM; rw [hr]; rfl
      have e2 : errM m.msg = 0 := by unfold errM; rw [hr]; rfl
      rw [e1, e2] at HE
      obtain ⟨_, _, ho, _⟩ := right_parts hr
      have hz := body_le ho
      have hsz : ((allM m.msg).size : Int) = 8 + ((bodyM m.msg).size : Int) := by
        unfold allM
        simp only [ByteArray.size_append, pb_size]
        omega
      have N0 : (8 : Int) ≤ ((allM m.msg).size : Int) := by omega
      have N1 : ((allM m.msg).size : Int) ≤ 9008 := by omega
      have HD : Hid (∀ j : Nat, j < (allM m.msg).size → ∀ w, Calls Tryz.prog 13 #[.string ((allM m.msg).extract 0 j)] w fun e w' => e = .returned (.tuple #[msV ms0, .int .i64 0, .int .i64 10]) ∧ Below w.heap.size w w') := (show ∀ j : Nat, j < (allM m.msg).size → ∀ w, _ from fun j hj w => by
        have e := said_short hr j hj
        have := dec_early ((allM m.msg).extract 0 j) w (by rw [ByteArray.size_extract]; unfold maxLen; omega) (by rw [e]; decide)
        rwa [e] at this)
      clear e1 e2 hr ho hz hsz
      generalize allM m.msg = S at *
      have HP : Hid (∀ w, Calls Tryz.prog 12 #[msV ms0] w fun e w' => e = .returned (msV ms0) ∧ Below w.heap.size w w') := (show ∀ w, _ from fun w => plain_M ms0 w)
      have HS0 : Hid (∀ w, Calls Tryz.prog 15 #[msV ms0, msV ms0] w fun e w' => e = .returned (.bool true) ∧ Below w.heap.size w w') := (show ∀ w, _ from fun w => same_00 w)
      obtain ⟨hJ0, hJ1⟩ := place_of at_ S.size N0 N1
      have hJ2 : ((S.size : Int) == 0) = false := by rw [beq_eq_false_iff_ne]; omega
      have hJ3 : ((wrap64 (at_.tmod (S.size : Int) + (S.size : Int))).tmod (S.size : Int)).toNat < S.size := by omega
      go_enter Tryz.func6, Tryz.ntmps6
      go_wp2_with (refine load_Mg rfl (.tmp 2) rfl w.heap.size m rfl HL.out ?_)
      rw [HW1.out]
      refine HF.out.mono ?_
      rintro r w1 ⟨rfl, g1⟩
      have G1 := btr HG.out g1 (Nat.le_refl _)
      obtain ⟨b1, z1⟩ := HB.out _ g1
      go_wp2_with (refine load_Mg rfl (.tmp 2) rfl w.heap.size m rfl b1 ?_)
      refine (HE.out _ G1).mono ?_
      rintro r w2 ⟨rfl, g2⟩
      have G2 := btr G1 g2 (Nat.le_refl _)
      clear b1 z1 g1 g2
      go_wp2_with fail
      refine (HD.out _ hJ3 _).mono ?_
      rintro r w3 ⟨rfl, g3⟩
      have G3 := btr G2 g3 (Nat.le_refl _)
      have HZ : Hid (∀ o : Obj, Below w.heap.size w (w3.alloc o)) := (show ∀ o : Obj, _ from fun o => btr G3 (by go_grown) (Nat.le_refl _))
      have HY : Hid (w.heap.size ≤ w3.heap.size) := G3.size
      clear g3
      clear hJ0 hJ1 hJ2 hJ3
      go_wp2_with (first | (refine store_M rfl (.tmp 7) (.tmp 45) rfl w3.heap.size ms0 rfl rfl (there_new _ _ _) ?_; intro V bV tV oV; have GV := oV.belowK HY.out (HZ.out _); clear oV tV) | (refine load_Mg rfl (.tmp 7) rfl w3.heap.size ms0 rfl bV ?_))
      refine (HP.out _).mono ?_
      rintro r w4 ⟨rfl, g4⟩
      have G4 := btr GV g4 (Nat.le_refl _)
      clear bV
      go_wp2_with fail
      refine (HS0.out _).mono ?_
      rintro r w5 ⟨rfl, g5⟩
      have G5 := btr G4 g5 (Nat.le_refl _)
      go_wp2_with fail
      refine (HA.out _ G5).mono ?_
      rintro r w6 ⟨rfl, g6⟩
      go_wp2_with fail
      go_ret
      exact ⟨rfl, btr G5 g6 (Nat.le_refl _)⟩
end Go.Proofs.YtlcbfdiohcbpbaaGreatDoor

/-
  What the reader of a frame with a tag answers.
-/
import Derived.Test.YtldbbbhoemnlmaaSeemsA
namespace Go.Proofs.Ytldbbbhoemnlmaa
open Go.ChangeShapes Go.WideShapes Go.ChangeAt Go.RowKit

set_option maxHeartbeats 16000000 in
theorem seems13 (s : ByteArray) (w : World) (hs : s.size ≤ 1500) (ht : ((atV s 12 2).toList == [129, 0]) = true) (hi : (gN s 16 2 != 2048) = false) (hh : hasB (sHead s 18 (sTagged s)) = true) (h17 : (((sHead s 18 (sTagged s))).pro == 17) = false) :
    Calls Try.prog 22 #[.string s] w fun x w' => x = .returned (.tuple #[pkV { sPorts s 38 (sHead s 18 (sTagged s)) with data := behindV s 58 }, .int .i64 (gN s 28 2), .int .i64 (gN s 54 2)]) ∧ Below w.heap.size w w' := by
  go_enter Try.func22, Try.ntmps22
  go_wp2_with fail
  have E0 := SE.new w
  refine (at_any s 0 6 _ hs (by omega)).mono ?_
  rintro x w' ⟨rfl, g⟩
  have E1 := E0.next g
  clear g E0
  go_wp2_with fail
  refine (rnum_any (atV s 0 6) _ (by have := atV_size s 0 6; omega)).mono ?_
  rintro x w'' ⟨rfl, rfl⟩
  rw [show numOf (atV s 0 6).data.toList = gN s 0 6 from rfl]
  obtain ⟨l0, l1⟩ := gN6 s 0
  obtain ⟨⟨h0, h1, h2, h3, h4, h5, h6, h7, h8, h9, h10⟩, hf⟩ := E1.pk
  go_wp2_with fail
  have E2 := E1.put (E1.pk.set0 (gN s 0 6))
  clear E1 h0 h1 h2 h3 h4 h5 h6 h7 h8 h9 h10 hf l0 l1
  refine (at_any s 6 6 _ hs (by omega)).mono ?_
  rintro x w' ⟨rfl, g⟩
  have E3 := E2.next g
  clear g E2
  go_wp2_with fail
  refine (rnum_any (atV s 6 6) _ (by have := atV_size s 6 6; omega)).mono ?_
  rintro x w'' ⟨rfl, rfl⟩
  rw [show numOf (atV s 6 6).data.toList = gN s 6 6 from rfl]
  obtain ⟨l0, l1⟩ := gN6 s 6
  obtain ⟨⟨h0, h1, h2, h3, h4, h5, h6, h7, h8, h9, h10⟩, hf⟩ := E3.pk
  go_wp2_with fail
  have E4 := E3.put (E3.pk.set1 (gN s 6 6))
  clear E3 h0 h1 h2 h3 h4 h5 h6 h7 h8 h9 h10 hf l0 l1
  refine (at_any s 12 2 _ hs (by omega)).mono ?_
  rintro x w' ⟨rfl, g⟩
  have E5 := E4.next g
  clear g E4
  go_wp2_with fail
  refine (at_any s 14 2 _ hs (by omega)).mono ?_
  rintro x w' ⟨rfl, g⟩
  have E6 := E5.next g
  clear g E5
  go_wp2_with fail
  refine (rnum_any (atV s 14 2) _ (by have := atV_size s 14 2; omega)).mono ?_
  rintro x w'' ⟨rfl, rfl⟩
  rw [show numOf (atV s 14 2).data.toList = gN s 14 2 from rfl]
  obtain ⟨l0, l1⟩ := gN2 s 14
  obtain ⟨⟨h0, h1, h2, h3, h4, h5, h6, h7, h8, h9, h10⟩, hf⟩ := E6.pk
  go_wp2_with fail
  have E7 := E6.put (E6.pk.set2 (4096 + gN s 14 2))
  clear E6 h0 h1 h2 h3 h4 h5 h6 h7 h8 h9 h10 hf l0 l1
  refine (at_any s 16 2 _ hs (by omega)).mono ?_
  rintro x w' ⟨rfl, g⟩
  have E8 := E7.next g
  clear g E7
  go_wp2_with fail
  refine (rnum_any (atV s 16 2) _ (by have := atV_size s 16 2; omega)).mono ?_
  rintro x w'' ⟨rfl, rfl⟩
  rw [show numOf (atV s 16 2).data.toList = gN s 16 2 from rfl]
  obtain ⟨l0, l1⟩ := gN2 s 16
  obtain ⟨⟨h0, h1, h2, h3, h4, h5, h6, h7, h8, h9, h10⟩, hf⟩ := E8.pk
  go_wp2_with fail
  have E9 := E8.put (E8.pk.set3 (gN s 16 2))
  clear E8 h0 h1 h2 h3 h4 h5 h6 h7 h8 h9 h10 hf l0 l1
  refine (at_any s 26 1 _ hs (by omega)).mono ?_
  rintro x w' ⟨rfl, g⟩
  have E10 := E9.next g
  clear g E9
  go_wp2_with fail
  refine (rnum_any (atV s 26 1) _ (by have := atV_size s 26 1; omega)).mono ?_
  rintro x w'' ⟨rfl, rfl⟩
  rw [show numOf (atV s 26 1).data.toList = gN s 26 1 from rfl]
  obtain ⟨l0, l1⟩ := gN1 s 26
  obtain ⟨⟨h0, h1, h2, h3, h4, h5, h6, h7, h8, h9, h10⟩, hf⟩ := E10.pk
  go_wp2_with fail
  have E11 := E10.put (E10.pk.set6 (gN s 26 1))
  clear E10 h0 h1 h2 h3 h4 h5 h6 h7 h8 h9 h10 hf l0 l1
  refine (at_any s 27 1 _ hs (by omega)).mono ?_
  rintro x w' ⟨rfl, g⟩
  have E12 := E11.next g
  clear g E11
  go_wp2_with fail
  refine (rnum_any (atV s 27 1) _ (by have := atV_size s 27 1; omega)).mono ?_
  rintro x w'' ⟨rfl, rfl⟩
  rw [show numOf (atV s 27 1).data.toList = gN s 27 1 from rfl]
  obtain ⟨l0, l1⟩ := gN1 s 27
  obtain ⟨⟨h0, h1, h2, h3, h4, h5, h6, h7, h8, h9, h10⟩, hf⟩ := E12.pk
  go_wp2_with fail
  have E13 := E12.put (E12.pk.set7 (gN s 27 1))
  clear E12 h0 h1 h2 h3 h4 h5 h6 h7 h8 h9 h10 hf l0 l1
  refine (at_any s 28 2 _ hs (by omega)).mono ?_
  rintro x w' ⟨rfl, g⟩
  have E14 := E13.next g
  clear g E13
  go_wp2_with fail
  refine (rnum_any (atV s 28 2) _ (by have := atV_size s 28 2; omega)).mono ?_
  rintro x w'' ⟨rfl, rfl⟩
  rw [show numOf (atV s 28 2).data.toList = gN s 28 2 from rfl]
  obtain ⟨l0, l1⟩ := gN2 s 28
  go_wp2_with fail
  clear l0 l1
  refine (at_any s 30 4 _ hs (by omega)).mono ?_
  rintro x w' ⟨rfl, g⟩
  have E15 := E14.next g
  clear g E14
  go_wp2_with fail
  refine (rnum_any (atV s 30 4) _ (by have := atV_size s 30 4; omega)).mono ?_
  rintro x w'' ⟨rfl, rfl⟩
  rw [show numOf (atV s 30 4).data.toList = gN s 30 4 from rfl]
  obtain ⟨l0, l1⟩ := gN4 s 30
  obtain ⟨⟨h0, h1, h2, h3, h4, h5, h6, h7, h8, h9, h10⟩, hf⟩ := E15.pk
  go_wp2_with fail
  have E16 := E15.put (E15.pk.set4 (gN s 30 4))
  clear E15 h0 h1 h2 h3 h4 h5 h6 h7 h8 h9 h10 hf l0 l1
  refine (at_any s 34 4 _ hs (by omega)).mono ?_
  rintro x w' ⟨rfl, g⟩
  have E17 := E16.next g
  clear g E16
  go_wp2_with fail
  refine (rnum_any (atV s 34 4) _ (by have := atV_size s 34 4; omega)).mono ?_
  rintro x w'' ⟨rfl, rfl⟩
  rw [show numOf (atV s 34 4).data.toList = gN s 34 4 from rfl]
  obtain ⟨l0, l1⟩ := gN4 s 34
  obtain ⟨⟨h0, h1, h2, h3, h4, h5, h6, h7, h8, h9, h10⟩, hf⟩ := E17.pk
  go_wp2_with fail
  have E18 := E17.put (E17.pk.set5 (gN s 34 4))
  clear E17 h0 h1 h2 h3 h4 h5 h6 h7 h8 h9 h10 hf l0 l1
  refine (rported_any (sHead s 18 (sTagged s)) _).mono ?_
  rintro x w' ⟨rfl, g⟩
  have E19 : SE w (sHead s 18 (sTagged s)) _ := E18.next g
  clear g E18
  go_wp2_with fail
  refine (at_any s 38 2 _ hs (by omega)).mono ?_
  rintro x w' ⟨rfl, g⟩
  have E20 := E19.next g
  clear g E19
  go_wp2_with fail
  refine (rnum_any (atV s 38 2) _ (by have := atV_size s 38 2; omega)).mono ?_
  rintro x w'' ⟨rfl, rfl⟩
  rw [show numOf (atV s 38 2).data.toList = gN s 38 2 from rfl]
  obtain ⟨l0, l1⟩ := gN2 s 38
  obtain ⟨⟨h0, h1, h2, h3, h4, h5, h6, h7, h8, h9, h10⟩, hf⟩ := E20.pk
  go_wp2_with fail
  have E21 := E20.put (E20.pk.set8 (gN s 38 2))
  clear E20 h0 h1 h2 h3 h4 h5 h6 h7 h8 h9 h10 hf l0 l1
  refine (at_any s 40 2 _ hs (by omega)).mono ?_
  rintro x w' ⟨rfl, g⟩
  have E22 := E21.next g
  clear g E21
  go_wp2_with fail
  refine (rnum_any (atV s 40 2) _ (by have := atV_size s 40 2; omega)).mono ?_
  rintro x w'' ⟨rfl, rfl⟩
  rw [show numOf (atV s 40 2).data.toList = gN s 40 2 from rfl]
  obtain ⟨l0, l1⟩ := gN2 s 40
  obtain ⟨⟨h0, h1, h2, h3, h4, h5, h6, h7, h8, h9, h10⟩, hf⟩ := E22.pk
  go_wp2_with fail
  have E23 := E22.put (E22.pk.set9 (gN s 40 2))
  clear E22 h0 h1 h2 h3 h4 h5 h6 h7 h8 h9 h10 hf l0 l1
  refine (behind_any s 58 _).mono ?_
  rintro x w'' ⟨rfl, rfl⟩
  obtain ⟨⟨h0, h1, h2, h3, h4, h5, h6, h7, h8, h9, h10⟩, hf⟩ := E23.pk
  go_wp2_with fail
  have F : SE w { sPorts s 38 (sHead s 18 (sTagged s)) with data := behindV s 58 } _ := E23.put (E23.pk.set10 (behindV s 58))
  clear E23 h0 h1 h2 h3 h4 h5 h6 h7 h8 h9 h10 hf
  generalize World.setCell _ _ _ = wz at F ⊢
  have l01 : 0 ≤ numOf (atV s 54 2).data.toList ∧ numOf (atV s 54 2).data.toList < 65536 := gN2 s 54
  obtain ⟨l0, l1⟩ := l01
  have Fd : Hid (SE w _ wz.drew) := F.drew
  obtain ⟨⟨h0, h1, h2, h3, h4, h5, h6, h7, h8, h9, h10⟩, hf⟩ := F.pk
  obtain ⟨⟨i0, i1, i2, i3, i4, i5, i6, i7, i8, i9, i10⟩, if0⟩ := F.rp
  go_region_with (first | (go_at_call 45; refine (at_any s 54 2 _ hs (by omega)).mono ?_; rintro x w9 ⟨rfl, g9⟩; have F2 := Fd.out.next g9; obtain ⟨⟨a0, a1, a2, a3, a4, a5, a6, a7, a8, a9, a10⟩, af⟩ := F2.pk; obtain ⟨⟨b0, b1, b2, b3, b4, b5, b6, b7, b8, b9, b10⟩, bf⟩ := F2.rp) | (go_at_call 44; refine (rnum_any (atV s 54 2) _ (by have := atV_size s 54 2; omega)).mono ?_; rintro x w10 ⟨rfl, rfl⟩))
  all_goals
    go_wp2_with fail
    obtain ⟨A1, A2⟩ := F2.answer { sPorts s 38 (sHead s 18 (sTagged s)) with data := behindV s 58 }
    unfold setP at A1 A2
    refine bodyPost_ret (res2533 (p := { sPorts s 38 (sHead s 18 (sTagged s)) with data := behindV s 58 }) rfl rfl A1) rfl ?_
    refine ⟨?_, A2⟩
    first
      | (show Ending.returned (Value.tuple #[pkV { sPorts s 38 (sHead s 18 (sTagged s)) with data := behindV s 58 }, .int .i64 (gN s 28 2), .int .i64 (IntKind.i64.wrap (numOf (atV s 54 2).data.toList))]) = _; rw [wraps_i64 _ l0 (by omega)]; rfl)
      | (show Ending.returned (Value.tuple #[pkV { sPorts s 38 (sHead s 18 (sTagged s)) with data := behindV s 58 }, .int .i64 (gN s 28 2), .int .i64 (wrap64 (numOf (atV s 54 2).data.toList))]) = _; rw [IntWalk.wrap64_in _ (by omega)]; rfl)
      | (simp [Act.put, l0, l1, gN]; done)
end Go.Proofs.Ytldbbbhoemnlmaa

/-
  What the reader of a frame without a tag answers.
-/
import Derived.Test.YtldbbbhoemnlmaaSeemsA
namespace Go.Proofs.Ytldbbbhoemnlmaa
open Go.ChangeShapes Go.WideShapes Go.ChangeAt Go.RowKit

set_option maxHeartbeats 2000000 in
theorem seems00 (s : ByteArray) (w : World) (hs : s.size ≤ 1500) (ht : ((atV s 12 2).toList == [129, 0]) = false) (hi : (gN s 12 2 != 2048) = true) :
    Calls Try.prog 22 #[.string s] w fun x w' => x = .returned (.tuple #[pkV { sPlain s with data := behindV s 14 }, .int .i64 (0), .int .i64 (0)]) ∧ Below w.heap.size w w' := by
  go_enter Try.func22, Try.ntmps22
  go_wp2_with fail
  have E0 := SE.new w
  refine (at_any s 0 6 _ hs (by omega)).mono ?_
  rintro x w' ⟨rfl, g⟩
  have E1 := E0.next g
  clear g E0
  go_wp2_with fail
  refine (rnum_any (atV s 0 6) _ (by have := atV_size s 0 6; omega)).mono ?_
  rintro x w'' ⟨rfl, rfl⟩
  rw [show numOf (atV s 0 6).data.toList = gN s 0 6 from rfl]
  obtain ⟨l0, l1⟩ := gN6 s 0
  obtain ⟨⟨h0, h1, h2, h3, h4, h5, h6, h7, h8, h9, h10⟩, hf⟩ := E1.pk
  go_wp2_with fail
  have E2 := E1.put (E1.pk.set0 (gN s 0 6))
  clear E1 h0 h1 h2 h3 h4 h5 h6 h7 h8 h9 h10 hf l0 l1
  refine (at_any s 6 6 _ hs (by omega)).mono ?_
  rintro x w' ⟨rfl, g⟩
  have E3 := E2.next g
  clear g E2
  go_wp2_with fail
  refine (rnum_any (atV s 6 6) _ (by have := atV_size s 6 6; omega)).mono ?_
  rintro x w'' ⟨rfl, rfl⟩
  rw [show numOf (atV s 6 6).data.toList = gN s 6 6 from rfl]
  obtain ⟨l0, l1⟩ := gN6 s 6
  obtain ⟨⟨h0, h1, h2, h3, h4, h5, h6, h7, h8, h9, h10⟩, hf⟩ := E3.pk
  go_wp2_with fail
  have E4 := E3.put (E3.pk.set1 (gN s 6 6))
  clear E3 h0 h1 h2 h3 h4 h5 h6 h7 h8 h9 h10 hf l0 l1
  refine (at_any s 12 2 _ hs (by omega)).mono ?_
  rintro x w' ⟨rfl, g⟩
  have E5 := E4.next g
  clear g E4
  go_wp2_with fail
  refine (at_any s 12 2 _ hs (by omega)).mono ?_
  rintro x w' ⟨rfl, g⟩
  have E6 := E5.next g
  clear g E5
  go_wp2_with fail
  refine (rnum_any (atV s 12 2) _ (by have := atV_size s 12 2; omega)).mono ?_
  rintro x w'' ⟨rfl, rfl⟩
  rw [show numOf (atV s 12 2).data.toList = gN s 12 2 from rfl]
  obtain ⟨l0, l1⟩ := gN2 s 12
  obtain ⟨⟨h0, h1, h2, h3, h4, h5, h6, h7, h8, h9, h10⟩, hf⟩ := E6.pk
  go_wp2_with fail
  have E7 := E6.put (E6.pk.set3 (gN s 12 2))
  clear E6 h0 h1 h2 h3 h4 h5 h6 h7 h8 h9 h10 hf l0 l1
  refine (behind_any s 14 _).mono ?_
  rintro x w'' ⟨rfl, rfl⟩
  obtain ⟨⟨h0, h1, h2, h3, h4, h5, h6, h7, h8, h9, h10⟩, hf⟩ := E7.pk
  obtain ⟨⟨i0, i1, i2, i3, i4, i5, i6, i7, i8, i9, i10⟩, if0⟩ := E7.rp
  go_wp2_with fail
  have F : SE w { sPlain s with data := behindV s 14 } _ := E7.put (E7.pk.set10 (behindV s 14))
  obtain ⟨A1, A2⟩ := F.answer { sPlain s with data := behindV s 14 }
  unfold setP at A1 A2
  refine bodyPost_ret (res2533 (p := { sPlain s with data := behindV s 14 }) rfl rfl A1) rfl ?_
  exact ⟨rfl, A2⟩

set_option maxHeartbeats 2000000 in
theorem seems01 (s : ByteArray) (w : World) (hs : s.size ≤ 1500) (ht : ((atV s 12 2).toList == [129, 0]) = false) (hi : (gN s 12 2 != 2048) = false) (hh : hasB (sHead s 14 (sPlain s)) = false) :
    Calls Try.prog 22 #[.string s] w fun x w' => x = .returned (.tuple #[pkV { sHead s 14 (sPlain s) with data := behindV s 34 }, .int .i64 (gN s 24 2), .int .i64 (0)]) ∧ Below w.heap.size w w' := by
  go_enter Try.func22, Try.ntmps22
  go_wp2_with fail
  have E0 := SE.new w
  refine (at_any s 0 6 _ hs (by omega)).mono ?_
  rintro x w' ⟨rfl, g⟩
  have E1 := E0.next g
  clear g E0
  go_wp2_with fail
  refine (rnum_any (atV s 0 6) _ (by have := atV_size s 0 6; omega)).mono ?_
  rintro x w'' ⟨rfl, rfl⟩
  rw [show numOf (atV s 0 6).data.toList = gN s 0 6 from rfl]
  obtain ⟨l0, l1⟩ := gN6 s 0
  obtain ⟨⟨h0, h1, h2, h3, h4, h5, h6, h7, h8, h9, h10⟩, hf⟩ := E1.pk
  go_wp2_with fail
  have E2 := E1.put (E1.pk.set0 (gN s 0 6))
  clear E1 h0 h1 h2 h3 h4 h5 h6 h7 h8 h9 h10 hf l0 l1
  refine (at_any s 6 6 _ hs (by omega)).mono ?_
  rintro x w' ⟨rfl, g⟩
  have E3 := E2.next g
  clear g E2
  go_wp2_with fail
  refine (rnum_any (atV s 6 6) _ (by have := atV_size s 6 6; omega)).mono ?_
  rintro x w'' ⟨rfl, rfl⟩
  rw [show numOf (atV s 6 6).data.toList = gN s 6 6 from rfl]
  obtain ⟨l0, l1⟩ := gN6 s 6
  obtain ⟨⟨h0, h1, h2, h3, h4, h5, h6, h7, h8, h9, h10⟩, hf⟩ := E3.pk
  go_wp2_with fail
  have E4 := E3.put (E3.pk.set1 (gN s 6 6))
  clear E3 h0 h1 h2 h3 h4 h5 h6 h7 h8 h9 h10 hf l0 l1
  refine (at_any s 12 2 _ hs (by omega)).mono ?_
  rintro x w' ⟨rfl, g⟩
  have E5 := E4.next g
  clear g E4
  go_wp2_with fail
  refine (at_any s 12 2 _ hs (by omega)).mono ?_
  rintro x w' ⟨rfl, g⟩
  have E6 := E5.next g
  clear g E5
  go_wp2_with fail
  refine (rnum_any (atV s 12 2) _ (by have := atV_size s 12 2; omega)).mono ?_
  rintro x w'' ⟨rfl, rfl⟩
  rw [show numOf (atV s 12 2).data.toList = gN s 12 2 from rfl]
  obtain ⟨l0, l1⟩ := gN2 s 12
  obtain ⟨⟨h0, h1, h2, h3, h4, h5, h6, h7, h8, h9, h10⟩, hf⟩ := E6.pk
  go_wp2_with fail
  have E7 := E6.put (E6.pk.set3 (gN s 12 2))
  clear E6 h0 h1 h2 h3 h4 h5 h6 h7 h8 h9 h10 hf l0 l1
  refine (at_any s 22 1 _ hs (by omega)).mono ?_
  rintro x w' ⟨rfl, g⟩
  have E8 := E7.next g
  clear g E7
  go_wp2_with fail
  refine (rnum_any (atV s 22 1) _ (by have := atV_size s 22 1; omega)).mono ?_
  rintro x w'' ⟨rfl, rfl⟩
  rw [show numOf (atV s 22 1).data.toList = gN s 22 1 from rfl]
  obtain ⟨l0, l1⟩ := gN1 s 22
  obtain ⟨⟨h0, h1, h2, h3, h4, h5, h6, h7, h8, h9, h10⟩, hf⟩ := E8.pk
  go_wp2_with fail
  have E9 := E8.put (E8.pk.set6 (gN s 22 1))
  clear E8 h0 h1 h2 h3 h4 h5 h6 h7 h8 h9 h10 hf l0 l1
  refine (at_any s 23 1 _ hs (by omega)).mono ?_
  rintro x w' ⟨rfl, g⟩
  have E10 := E9.next g
  clear g E9
  go_wp2_with fail
  refine (rnum_any (atV s 23 1) _ (by have := atV_size s 23 1; omega)).mono ?_
  rintro x w'' ⟨rfl, rfl⟩
  rw [show numOf (atV s 23 1).data.toList = gN s 23 1 from rfl]
  obtain ⟨l0, l1⟩ := gN1 s 23
  obtain ⟨⟨h0, h1, h2, h3, h4, h5, h6, h7, h8, h9, h10⟩, hf⟩ := E10.pk
  go_wp2_with fail
  have E11 := E10.put (E10.pk.set7 (gN s 23 1))
  clear E10 h0 h1 h2 h3 h4 h5 h6 h7 h8 h9 h10 hf l0 l1
  refine (at_any s 24 2 _ hs (by omega)).mono ?_
  rintro x w' ⟨rfl, g⟩
  have E12 := E11.next g
  clear g E11
  go_wp2_with fail
  refine (rnum_any (atV s 24 2) _ (by have := atV_size s 24 2; omega)).mono ?_
  rintro x w'' ⟨rfl, rfl⟩
  rw [show numOf (atV s 24 2).data.toList = gN s 24 2 from rfl]
  obtain ⟨l0, l1⟩ := gN2 s 24
  go_wp2_with fail
  clear l0 l1
  refine (at_any s 26 4 _ hs (by omega)).mono ?_
  rintro x w' ⟨rfl, g⟩
  have E13 := E12.next g
  clear g E12
  go_wp2_with fail
  refine (rnum_any (atV s 26 4) _ (by have := atV_size s 26 4; omega)).mono ?_
  rintro x w'' ⟨rfl, rfl⟩
  rw [show numOf (atV s 26 4).data.toList = gN s 26 4 from rfl]
  obtain ⟨l0, l1⟩ := gN4 s 26
  obtain ⟨⟨h0, h1, h2, h3, h4, h5, h6, h7, h8, h9, h10⟩, hf⟩ := E13.pk
  go_wp2_with fail
  have E14 := E13.put (E13.pk.set4 (gN s 26 4))
  clear E13 h0 h1 h2 h3 h4 h5 h6 h7 h8 h9 h10 hf l0 l1
  refine (at_any s 30 4 _ hs (by omega)).mono ?_
  rintro x w' ⟨rfl, g⟩
  have E15 := E14.next g
  clear g E14
  go_wp2_with fail
  refine (rnum_any (atV s 30 4) _ (by have := atV_size s 30 4; omega)).mono ?_
  rintro x w'' ⟨rfl, rfl⟩
  rw [show numOf (atV s 30 4).data.toList = gN s 30 4 from rfl]
  obtain ⟨l0, l1⟩ := gN4 s 30
  obtain ⟨⟨h0, h1, h2, h3, h4, h5, h6, h7, h8, h9, h10⟩, hf⟩ := E15.pk
  go_wp2_with fail
  have E16 := E15.put (E15.pk.set5 (gN s 30 4))
  clear E15 h0 h1 h2 h3 h4 h5 h6 h7 h8 h9 h10 hf l0 l1
  refine (rported_any (sHead s 14 (sPlain s)) _).mono ?_
  rintro x w' ⟨rfl, g⟩
  have E17 : SE w (sHead s 14 (sPlain s)) _ := E16.next g
  clear g E16
  go_wp2_with fail
  refine (behind_any s 34 _).mono ?_
  rintro x w'' ⟨rfl, rfl⟩
  obtain ⟨⟨h0, h1, h2, h3, h4, h5, h6, h7, h8, h9, h10⟩, hf⟩ := E17.pk
  obtain ⟨⟨i0, i1, i2, i3, i4, i5, i6, i7, i8, i9, i10⟩, if0⟩ := E17.rp
  go_wp2_with fail
  have F : SE w { sHead s 14 (sPlain s) with data := behindV s 34 } _ := E17.put (E17.pk.set10 (behindV s 34))
  obtain ⟨A1, A2⟩ := F.answer { sHead s 14 (sPlain s) with data := behindV s 34 }
  unfold setP at A1 A2
  refine bodyPost_ret (res2533 (p := { sHead s 14 (sPlain s) with data := behindV s 34 }) rfl rfl A1) rfl ?_
  exact ⟨rfl, A2⟩
end Go.Proofs.Ytldbbbhoemnlmaa

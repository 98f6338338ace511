/-
  The walk of the law FrameSums.
-/
import Derived.Test.YtldbbbhoemnlmaaTrip
namespace Go.Proofs.Ytldbbbhoemnlmaa
open Go.ChangeShapes Go.WideShapes Go.ChangeAt Go.RowKit

theorem psum_ap (x y : ByteArray) (h : x.size % 2 = 0) : psum true (x ++ y).data.toList = psum true x.data.toList + psum true y.data.toList := by
  have e : x.data.toList.length = x.size := by simp
  rw [ba_append, psum_append, e, h]; rfl
theorem psum_pb2 (c : Int) (h0 : 0 ≤ c) (h1 : c ≤ 65535) : psum true (pb c 2).data.toList = c.toNat := by
  rw [pb_list]
  simp [pieces, psum]
  omega
theorem psum_head (p : Pk) (c : Int) (h0 : 0 ≤ c) (h1 : c ≤ 65535) : psum true (headV p c).data.toList = psum true (headV p 0).data.toList + c.toNat := by
  have e : ∀ c, headV p c = (kBegin ++ pb (20 + (partZ p : Int)) 2 ++ kMark ++ pb p.life 1 ++ pb p.pro 1) ++ (pb c 2 ++ addrV p) := fun c => by unfold headV; simp only [ap_assoc]
  have z : (kBegin ++ pb (20 + (partZ p : Int)) 2 ++ kMark ++ pb p.life 1 ++ pb p.pro 1).size = 10 := by simp only [ByteArray.size_append, pb_size, kBegin_size, kMark_size]
  rw [e c, e 0]
  generalize kBegin ++ pb (20 + (partZ p : Int)) 2 ++ kMark ++ pb p.life 1 ++ pb p.pro 1 = x at z
  rw [psum_ap x _ (by rw [z]), psum_ap x _ (by rw [z]), psum_ap (pb c 2) _ (by rw [pb_size]), psum_ap (pb 0 2) _ (by rw [pb_size]), psum_pb2 c h0 h1, psum_pb2 0 (by omega) (by omega)]
  simp only [Int.toNat_zero]
  omega
/-- The head with its sum has the sum 0. -/
theorem head_right (p : Pk) (h : p.ty = 2048) : sumV (headV p (sumA p)).data.toList = 0 := by
  have e : sumA p = headSumV p := by unfold sumA; rw [if_pos h]
  have hl := sumA_le p
  have hp := psum_head p (sumA p) (by omega) (by omega)
  have z : 0 < psum true (headV p 0).data.toList := by
    have e : headV p 0 = kBegin ++ (pb (20 + (partZ p : Int)) 2 ++ kMark ++ pb p.life 1 ++ pb p.pro 1 ++ pb 0 2 ++ addrV p) := by unfold headV; simp only [ap_assoc]
    rw [e, psum_ap _ _ (by decide)]
    have : psum true kBegin.data.toList = 17664 := by decide
    omega
  unfold sumV
  rw [hp, Int.toNat_natCast, e]
  unfold headSumV sumV
  have h1 := rnd_le (psum true (headV p 0).data.toList)
  generalize psum true (headV p 0).data.toList = n at *
  unfold rnd at *
  rw [if_neg (by omega)] at h1 ⊢
  rw [if_neg (by omega)]
  omega

theorem get_ap (x y : ByteArray) (i : Nat) (h : x.size + i < (x ++ y).size) (h' : i < y.size) : (x ++ y)[x.size + i] = y[i] := by
  rw [ByteArray.getElem_append_right (by omega)]
  simp
theorem pb2_get (n : Int) (h0 : 0 ≤ n) (h1 : n ≤ 65535) (i0 : 0 < (pb n 2).size) (i1 : 1 < (pb n 2).size) : (256 : Int) * ((pb n 2)[0].toNat : Int) + ((pb n 2)[1].toNat : Int) = n := by
  have e0 : (pb n 2)[0] = (pb n 2).data.toList[0]'(by rw [pb_len]; omega) := rfl
  have e1 : (pb n 2)[1] = (pb n 2).data.toList[1]'(by rw [pb_len]; omega) := rfl
  rw [e0, e1]
  simp only [pb_list]
  simp [pieces]
  omega

/-- An inner packet's frame without a tag: where its head lies, and its length. -/
theorem inner_frame (p : Pk) (hw : Wf p) (hs : p.data.size ≤ 1000) (ht : p.ty = 2048) (hv : p.vl = 0) (hE : bytesE p = 0) :
    ∃ h34 : 34 ≤ (bytesS p).size, (bytesS p).size ≤ 1500 ∧ (bytesS p).extract 14 34 = headV p (sumA p) ∧ (256 : Int) * ((bytesS p)[16].toNat : Int) + ((bytesS p)[17].toNat : Int) = ((bytesS p).size : Int) - 14 := by
  have hr : rightB p = true := by
    unfold bytesE at hE
    by_cases hr : rightB p = true
    · exact hr
    · rw [if_neg hr] at hE; omega
  have hg : aheadV p + p.data.size ≤ 1500 := by have := aheadV_le p; omega
  have e : bytesS p = writeV p (sumA p) (sumB p) := if_pos ⟨hr, hg⟩
  have z := writeV_size p (sumA p) (sumB p) (right_pro hw hr)
  have ez : aheadV p = 34 + partA p := by unfold aheadV; rw [if_pos hv, if_pos ht]; omega
  rw [← e] at z
  have e1 : bytesS p = (outerV p ++ kBegin) ++ (pb (20 + (partZ p : Int)) 2 ++ (kMark ++ pb p.life 1 ++ pb p.pro 1 ++ pb (sumA p) 2 ++ addrV p ++ partV p (sumB p))) := by
    rw [e]; unfold writeV; rw [if_pos ht]; unfold headV; simp only [ap_assoc]
  have oz : (outerV p).size = 14 := by rw [outerV_size, if_pos hv]
  have xz : (outerV p ++ kBegin).size = 16 := by rw [ByteArray.size_append, oz]; rfl
  refine ⟨by omega, by omega, ?_, ?_⟩
  · have e2 : bytesS p = outerV p ++ (headV p (sumA p) ++ partV p (sumB p)) := by rw [e]; unfold writeV; rw [if_pos ht, ap_assoc]
    rw [e2]
    apply ba_ext
    have l1 : (outerV p).data.toList.length = 14 := by simpa using oz
    have l2 : (headV p (sumA p)).data.toList.length = 20 := by simpa using headV_size p (sumA p)
    simp only [ByteArray.data_extract, Array.toList_extract, ByteArray.data_append]
    rw [List.extract_eq_take_drop, Array.toList_append, Array.toList_append, List.drop_append_of_le_length (by omega), List.drop_of_length_le (by omega), List.nil_append, List.take_append_of_le_length (by omega), List.take_of_length_le (by omega)]
  · generalize kMark ++ pb p.life 1 ++ pb p.pro 1 ++ pb (sumA p) 2 ++ addrV p ++ partV p (sumB p) = y at e1
    generalize outerV p ++ kBegin = x at e1 xz
    have pz := pb_size (20 + (partZ p : Int)) 2
    have hq : (partZ p : Int) ≤ 1020 := by have := partA_le p; unfold partZ; omega
    have g := pb2_get (20 + (partZ p : Int)) (by omega) (by omega) (by omega) (by omega)
    have a0 : (bytesS p)[16]'(by omega) = (pb (20 + (partZ p : Int)) 2)[0]'(by omega) := by
      have h1 := get_ap x (pb (20 + (partZ p : Int)) 2 ++ y) 0 (by simp only [ByteArray.size_append]; omega) (by simp only [ByteArray.size_append]; omega)
      simp only [e1]
      simp only [xz] at h1
      rw [h1, ByteArray.getElem_append_left (by omega)]
    have a1 : (bytesS p)[17]'(by omega) = (pb (20 + (partZ p : Int)) 2)[1]'(by omega) := by
      have h1 := get_ap x (pb (20 + (partZ p : Int)) 2 ++ y) 1 (by simp only [ByteArray.size_append]; omega) (by simp only [ByteArray.size_append]; omega)
      simp only [e1]
      simp only [xz] at h1
      rw [h1, ByteArray.getElem_append_left (by omega)]
    rw [a0, a1, g, z, ez]
    unfold partZ
    omega

set_option maxHeartbeats 1000000 in
theorem sums_no (p : Pk) (w : World) (h : (1000 : Int) < (p.data.size : Int) ∨ p.ty ≠ 2048 ∨ p.vl ≠ 0) :
    Calls Try.prog 7 #[pkV p] w fun x w' => x = .returned (.bool true) ∧ Below w.heap.size w w' := by
  by_cases h1 : (1000 : Int) < (p.data.size : Int)
  · clear h
    go_enter Try.func7, Try.ntmps7
    go_wp2_with fail
    refine (awake_any _).mono ?_
    rintro x w5 ⟨rfl, g5⟩
    go_wp2_with fail
    go_ret
    exact ⟨rfl, btr (by go_grown) g5 (by simp)⟩
  have h3 : (p.data.size : Int) ≤ 1000 := by omega
  by_cases h2 : p.ty = 2048
  · have bt : (p.ty != 2048) = false := by simp [h2]
    have bv : (p.vl != 0) = true := by simp; omega
    clear h h1 h2
    go_enter Try.func7, Try.ntmps7
    go_wp2_with fail
    refine (awake_any _).mono ?_
    rintro x w5 ⟨rfl, g5⟩
    go_wp2_with fail
    go_ret
    exact ⟨rfl, btr (by go_grown) g5 (by simp)⟩
  · have bt : (p.ty != 2048) = true := by simp [h2]
    clear h h1 h2
    go_enter Try.func7, Try.ntmps7
    go_wp2_with fail
    refine (awake_any _).mono ?_
    rintro x w5 ⟨rfl, g5⟩
    go_wp2_with fail
    go_ret
    exact ⟨rfl, btr (by go_grown) g5 (by simp)⟩

set_option maxHeartbeats 1000000 in
theorem sums_err (p : Pk) (w : World) (hd : (p.data.size : Int) ≤ 1000) (bt : (p.ty != 2048) = false) (bv : (p.vl != 0) = false) (e : Int) (he : (e != 0) = true) (H1 : Hid (∀ w, Calls Try.prog 9 #[pkV p] w fun x w' => x = .returned (.tuple #[.string ⟨#[]⟩, .int .i64 e]) ∧ Below w.heap.size w w')) :
    Calls Try.prog 7 #[pkV p] w fun x w' => x = .returned (.bool true) ∧ Below w.heap.size w w' := by
  go_enter Try.func7, Try.ntmps7
  go_wp2_with fail
  refine (H1.out _).mono ?_
  rintro x w1 ⟨rfl, g1⟩
  go_wp2_with fail
  refine (awake_any _).mono ?_
  rintro x w5 ⟨rfl, g5⟩
  go_wp2_with fail
  go_ret
  exact ⟨rfl, btr (btr (by go_grown) g1 (by simp)) g5 (Nat.le_refl _)⟩

set_option maxHeartbeats 1000000 in
theorem sums_ok (p : Pk) (s : ByteArray) (w : World) (hd : (p.data.size : Int) ≤ 1000) (bt : (p.ty != 2048) = false) (bv : (p.vl != 0) = false) (h34 : 34 ≤ s.size) (h15 : s.size ≤ 1500)
    (hl : (256 : Int) * ((s[16]).toNat : Int) + ((s[17]).toNat : Int) = (s.size : Int) - 14) (H1 : Hid (∀ w, Calls Try.prog 9 #[pkV p] w fun x w' => x = .returned (.tuple #[.string s, .int .i64 0]) ∧ Below w.heap.size w w'))
    (H13 : Hid (∀ w, Calls Try.prog 13 #[.string (s.extract 14 34)] w fun x w' => x = .returned (.bool true) ∧ w' = w)) :
    Calls Try.prog 7 #[pkV p] w fun x w' => x = .returned (.bool true) ∧ Below w.heap.size w w' := by
  have i34 : (34 : Int) ≤ (s.size : Int) := by omega
  have i15 : (s.size : Int) ≤ 1500 := by omega
  have j16 : 16 < s.size := by omega
  have j17 : 17 < s.size := by omega
  have k16 : (16 : Int) < (s.size : Int) := by omega
  have k17 : (17 : Int) < (s.size : Int) := by omega
  have hb : ((256 : Int) * (s[16].toNat : Int) + (s[17].toNat : Int) == (s.size : Int) - 14) = true := by rw [hl]; simp
  have c16 := s[16].toNat_lt
  have c17 := s[17].toNat_lt
  go_enter Try.func7, Try.ntmps7
  go_wp2_with fail
  refine (H1.out _).mono ?_
  rintro x w1 ⟨rfl, g1⟩
  go_wp2_with fail
  refine wp_region_grow (by kernel_rfl) (by kernel_rfl) ?_
  repeat (go_big_quiet_step (first | (go_at_call 13; exact quiet_gs (H13.out _)) | (go_at_call 8; exact quiet_gr (awake_any _))))
  refine wpQuiet_nil ?_
  rintro w2 hw'
  have g2 := gr_elim hw'
  clear hw'
  go_wp2_with fail
  go_ret
  exact ⟨rfl, btr (btr (by go_grown) g1 (by simp)) g2 (Nat.le_refl _)⟩

theorem sums_walk (p : Pk) (w : World) (hw : Wf p) (_ : p.data.size ≤ maxLen) : Calls Try.prog 7 #[pkV p] w fun x w' => x = .returned (.bool true) ∧ Below w.heap.size w w' := by
  by_cases h1 : (1000 : Int) < (p.data.size : Int) ∨ p.ty ≠ 2048 ∨ p.vl ≠ 0
  · exact sums_no p w h1
  have hd : (p.data.size : Int) ≤ 1000 := by omega
  have ht : p.ty = 2048 := by omega
  have hv : p.vl = 0 := by omega
  have bt : (p.ty != 2048) = false := by simp [ht]
  have bv : (p.vl != 0) = false := by simp [hv]
  have HB := fun w => bytesP_any p w hw (by omega)
  by_cases hE : bytesE p = 0
  · obtain ⟨h34, h15, hx, hl⟩ := inner_frame p hw (by omega) ht hv hE
    rw [hE] at HB
    have H13 : Hid (∀ w, Calls Try.prog 13 #[.string ((bytesS p).extract 14 34)] w fun x w' => x = .returned (.bool true) ∧ w' = w) := by
      unfold Hid; intro w
      have h := right_any (headV p (sumA p)) w (by rw [headV_size]; omega)
      rw [head_right p ht] at h
      rw [hx]; exact h
    exact sums_ok p _ w hd bt bv h34 h15 hl HB H13
  · have e : bytesS p = noBytes := by
      unfold bytesE at hE
      unfold bytesS
      split at hE
      · rename_i hr
        split at hE
        · exact absurd rfl hE
        · rename_i hg
          rw [if_neg (fun x => hg x.2)]
      · rename_i hr
        rw [if_neg (fun x => hr x.1)]
    rw [e] at HB
    exact sums_err p w hd bt bv _ (by simpa using hE) HB
end Go.Proofs.Ytldbbbhoemnlmaa

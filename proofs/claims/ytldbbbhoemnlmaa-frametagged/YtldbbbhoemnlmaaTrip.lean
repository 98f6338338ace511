/-
  What is written is read: the plain mathematics.
-/
import Derived.Test.YtldbbbhoemnlmaaOpen
namespace Go.Proofs.Ytldbbbhoemnlmaa

theorem ap_assoc (a b c : ByteArray) : a ++ b ++ c = a ++ (b ++ c) := by apply ba_ext; simp
theorem pb_list (n : Int) (k : Nat) : (pb n k).data.toList = (pieces n k).map fun n => UInt8.ofNat n.toNat := strOf_list _
theorem pb_len (n : Int) (k : Nat) : (pb n k).data.toList.length = k := by rw [pb_list, List.length_map, pieces_length]

theorem extract_left (x t : ByteArray) : (x ++ t).extract 0 x.size = x := by
  apply ba_ext; simp
  exact List.take_of_length_le (by simp)
theorem extract_right (x t : ByteArray) : (x ++ t).extract x.size (x ++ t).size = t := by
  apply ba_ext
  have e : x.size = x.data.toList.length := by simp
  simp only [ByteArray.data_extract, Array.toList_extract, ByteArray.data_append, ByteArray.size_append]
  rw [List.extract_eq_take_drop, e, Array.toList_append, List.drop_left]
  exact List.take_of_length_le (by simp)

theorem skip_ap (x t : ByteArray) (k : Nat) (hx : x.size = k) (hs : szB k = true) : (⟨x ++ t, 0⟩ : RS).skip k = ⟨t, 0⟩ := by
  have hle : (k : Int) ≤ ((x ++ t).size : Int) := by rw [ByteArray.size_append]; omega
  unfold RS.skip takeS takeE
  simp only [hs, hle, and_self, if_true, Int.toNat_natCast]
  rw [← hx, extract_right]
theorem num_ap (n : Int) (t : ByteArray) (k : Nat) (hk : k ≤ 8) (hs : szB k = true) (h0 : 0 ≤ n) (h1 : n < 256 ^ k) : (⟨pb n k ++ t, 0⟩ : RS).num k = n := by
  have hx := pb_size n k
  have hle : (k : Int) ≤ ((pb n k ++ t).size : Int) := by rw [ByteArray.size_append]; omega
  unfold RS.num numV takeV
  simp only [hs, hle, and_self, if_true, Int.toNat_natCast]
  have e : (pb n k ++ t).extract 0 k = pb n k := by
    have := extract_left (pb n k) t
    rwa [hx] at this
  rw [e, pb_list]
  exact numOf_pieces k n hk h0 h1
theorem jump_ap (x t : ByteArray) (k : Nat) (hx : x.size = k) : (⟨x ++ t, 0⟩ : RS).jump k = ⟨t, 0⟩ := by
  have hle : (k : Int) ≤ ((x ++ t).size : Int) := by rw [ByteArray.size_append]; omega
  have h0 : (0 : Int) ≤ (k : Int) := by omega
  unfold RS.jump takeS takeE
  simp only [h0, hle, and_self, if_true, Int.toNat_natCast, decide_true]
  rw [← hx, extract_right]
theorem bytes_all (t : ByteArray) : (⟨t, 0⟩ : RS).bytes t.size = t := by
  unfold RS.bytes takeV
  simp only [Int.natCast_nonneg, decide_true, Int.le_refl, and_self, if_true, Int.toNat_natCast]
  apply ba_ext; simp

theorem num1_ap (n : Int) (t : ByteArray) (h0 : 0 ≤ n) (h1 : n ≤ 255) : (⟨pb n 1 ++ t, 0⟩ : RS).num 1 = n := num_ap n t 1 (by omega) (by decide) h0 (by omega)
theorem num2_ap (n : Int) (t : ByteArray) (h0 : 0 ≤ n) (h1 : n ≤ 65535) : (⟨pb n 2 ++ t, 0⟩ : RS).num 2 = n := num_ap n t 2 (by omega) (by decide) h0 (by omega)
theorem num4_ap (n : Int) (t : ByteArray) (h0 : 0 ≤ n) (h1 : n < 4294967296) : (⟨pb n 4 ++ t, 0⟩ : RS).num 4 = n := num_ap n t 4 (by omega) (by decide) h0 (by omega)
theorem num6_ap (n : Int) (t : ByteArray) (h0 : 0 ≤ n) (h1 : n < 281474976710656) : (⟨pb n 6 ++ t, 0⟩ : RS).num 6 = n := num_ap n t 6 (by omega) (by decide) h0 (by omega)
theorem skip1_ap (n : Int) (t : ByteArray) : (⟨pb n 1 ++ t, 0⟩ : RS).skip 1 = ⟨t, 0⟩ := skip_ap _ t 1 (pb_size _ _) (by decide)
theorem skip2_ap (n : Int) (t : ByteArray) : (⟨pb n 2 ++ t, 0⟩ : RS).skip 2 = ⟨t, 0⟩ := skip_ap _ t 2 (pb_size _ _) (by decide)
theorem skip4_ap (n : Int) (t : ByteArray) : (⟨pb n 4 ++ t, 0⟩ : RS).skip 4 = ⟨t, 0⟩ := skip_ap _ t 4 (pb_size _ _) (by decide)
theorem skip6_ap (n : Int) (t : ByteArray) : (⟨pb n 6 ++ t, 0⟩ : RS).skip 6 = ⟨t, 0⟩ := skip_ap _ t 6 (pb_size _ _) (by decide)

/-- The first part of a frame. -/
theorem outer_trip (p : Pk) (h : Ok p) (t : ByteArray) :
    outerP (outerV p ++ t) = { pk0 with to := p.to, fr := p.fr, vl := p.vl, ty := p.ty } ∧ outerR (outerV p ++ t) = ⟨t, 0⟩ := by
  by_cases hv : p.vl = 0
  · have e : outerV p ++ t = pb p.to 6 ++ (pb p.fr 6 ++ (pb p.ty 2 ++ t)) := by unfold outerV; rw [if_pos hv]; simp only [ap_assoc]
    rw [e]
    have ht : tyA (pb p.to 6 ++ (pb p.fr 6 ++ (pb p.ty 2 ++ t))) = p.ty := by
      unfold tyA; rw [skip6_ap, skip6_ap, num2_ap _ _ (by have := h.ty0; omega) h.ty1]
    unfold outerP outerR
    rw [if_neg (by rw [ht]; exact h.tyn), if_neg (by rw [ht]; exact h.tyn)]
    unfold plainP rA
    rw [ht, skip6_ap, num6_ap _ _ h.to0 h.to1, num6_ap _ _ h.fr0 h.fr1, skip6_ap, skip2_ap, hv]
    exact ⟨rfl, rfl⟩
  · have e : outerV p ++ t = pb p.to 6 ++ (pb p.fr 6 ++ (pb 33024 2 ++ (pb (p.vl - 4096) 2 ++ (pb p.ty 2 ++ t)))) := by unfold outerV; rw [if_neg hv]; simp only [ap_assoc]
    rw [e]
    have hvl := h.vl
    have ht : tyA (pb p.to 6 ++ (pb p.fr 6 ++ (pb 33024 2 ++ (pb (p.vl - 4096) 2 ++ (pb p.ty 2 ++ t))))) = 33024 := by
      unfold tyA; rw [skip6_ap, skip6_ap, num2_ap _ _ (by omega) (by omega)]
    unfold outerP outerR
    rw [if_pos ht, if_pos ht]
    unfold taggedP rA
    rw [skip6_ap, num6_ap _ _ h.to0 h.to1, num6_ap _ _ h.fr0 h.fr1, skip6_ap, skip2_ap, num2_ap _ _ (by omega) (by omega), skip2_ap, num2_ap _ _ (by have := h.ty0; omega) h.ty1, skip2_ap]
    refine ⟨?_, rfl⟩
    rw [show 4096 + (p.vl - 4096) = p.vl by omega]

theorem head_trip (p q : Pk) (h : Ok p) (a : Int) (a0 : 0 ≤ a) (a1 : a ≤ 65535) (t : ByteArray) :
    headP q ⟨headV p a ++ t, 0⟩ = { q with life := p.life, pro := p.pro, src := p.src, dst := p.dst } ∧ headC ⟨headV p a ++ t, 0⟩ = a ∧ headR ⟨headV p a ++ t, 0⟩ = ⟨t, 0⟩ := by
  have e : headV p a ++ t = (kBegin ++ pb (20 + (partZ p : Int)) 2 ++ kMark) ++ (pb p.life 1 ++ (pb p.pro 1 ++ (pb a 2 ++ (pb p.src 4 ++ (pb p.dst 4 ++ t))))) := by
    unfold headV addrV; simp only [ap_assoc]
  have j : (⟨headV p a ++ t, 0⟩ : RS).jump 8 = ⟨pb p.life 1 ++ (pb p.pro 1 ++ (pb a 2 ++ (pb p.src 4 ++ (pb p.dst 4 ++ t)))), 0⟩ := by
    rw [e]; exact jump_ap _ _ 8 (by simp only [ByteArray.size_append, pb_size]; rfl)
  unfold headP headC headR
  rw [j, num1_ap _ _ h.life0 h.life1, skip1_ap, num1_ap _ _ h.pro0 h.pro1, skip1_ap, num2_ap _ _ a0 a1, skip2_ap, num4_ap _ _ h.src0 h.src1, skip4_ap, num4_ap _ _ h.dst0 h.dst1, skip4_ap]
  exact ⟨rfl, rfl, rfl⟩

theorem ports_trip (p q : Pk) (h : Ok p) (b : Int) (b0 : 0 ≤ b) (b1 : b ≤ 65535) (hq : q.pro = p.pro) (hn : hasB p = false → b = 0 ∧ p.sp = q.sp ∧ p.dp = q.dp) :
    portsP q ⟨partV p b, 0⟩ = { q with sp := p.sp, dp := p.dp } ∧ portsC q ⟨partV p b, 0⟩ = b ∧ portsR q ⟨partV p b, 0⟩ = ⟨p.data, 0⟩ := by
  have hh : hasB q = hasB p := by unfold hasB; rw [hq]
  unfold portsP portsC portsR
  rw [hh, hq]
  by_cases hb : hasB p = true
  · rw [if_pos hb, if_pos hb, if_pos hb]
    by_cases h17 : p.pro = 17
    · have e : partV p b = pb p.sp 2 ++ (pb p.dp 2 ++ (pb (partZ p : Int) 2 ++ (pb b 2 ++ p.data))) := by
        unfold partV portsV; rw [if_neg (by omega), if_pos h17]; simp only [ap_assoc]
      have j : (⟨pb (partZ p : Int) 2 ++ (pb b 2 ++ p.data), 0⟩ : RS).jump 2 = ⟨pb b 2 ++ p.data, 0⟩ := jump_ap _ _ 2 (pb_size _ _)
      rw [if_pos h17, if_pos h17, e, num2_ap _ _ h.sp0 h.sp1, skip2_ap, num2_ap _ _ h.dp0 h.dp1, skip2_ap, j, num2_ap _ _ b0 b1, skip2_ap]
      exact ⟨rfl, rfl, rfl⟩
    · have h6 : p.pro = 6 := by unfold hasB at hb; simp at hb; omega
      have e : partV p b = pb p.sp 2 ++ (pb p.dp 2 ++ (kTcp ++ (pb b 2 ++ (kEnd ++ p.data)))) := by
        unfold partV portsV; rw [if_pos h6]; simp only [ap_assoc]
      have j : (⟨kTcp ++ (pb b 2 ++ (kEnd ++ p.data)), 0⟩ : RS).jump 12 = ⟨pb b 2 ++ (kEnd ++ p.data), 0⟩ := jump_ap _ _ 12 rfl
      have j2 : (⟨kEnd ++ p.data, 0⟩ : RS).jump 2 = ⟨p.data, 0⟩ := jump_ap _ _ 2 rfl
      rw [if_neg h17, if_neg h17, e, num2_ap _ _ h.sp0 h.sp1, skip2_ap, num2_ap _ _ h.dp0 h.dp1, skip2_ap, j, num2_ap _ _ b0 b1, skip2_ap, j2]
      exact ⟨rfl, rfl, rfl⟩
  · rw [if_neg hb, if_neg hb, if_neg hb]
    obtain ⟨rfl, e1, e2⟩ := hn (by simpa using hb)
    have e : partV p 0 = p.data := by
      unfold hasB at hb; simp at hb
      unfold partV; rw [if_neg hb.1, if_neg hb.2]
    rw [e, e1, e2]
    refine ⟨?_, rfl, rfl⟩
    rw [← hq]

/-- What a right packet and its sums are written as is read as they. -/
theorem read_write (p : Pk) (a b : Int) (hw : Wf p) (hr : rightB p = true) (hs : p.data.size ≤ 3000) (a0 : 0 ≤ a) (a1 : a ≤ 65535) (b0 : 0 ≤ b) (b1 : b ≤ 65535)
    (ha : p.ty ≠ 2048 → a = 0) (hb : ¬ (p.ty = 2048 ∧ hasB p = true) → b = 0) :
    readV (writeV p a b) = p ∧ readA (writeV p a b) = a ∧ readB (writeV p a b) = b := by
  have h := Ok.of_right hw hr hs
  obtain ⟨_, _, _, _, _, f⟩ := (right_iff p hw).1 hr
  by_cases ht : p.ty = 2048
  · rw [if_pos ht] at f
    have e : writeV p a b = outerV p ++ (headV p a ++ partV p b) := by unfold writeV; rw [if_pos ht, ap_assoc]
    obtain ⟨o1, o2⟩ := outer_trip p h (headV p a ++ partV p b)
    unfold readV readA readB innerP innerR
    rw [e, o1, o2]
    obtain ⟨h1, h2, h3⟩ := head_trip p { pk0 with to := p.to, fr := p.fr, vl := p.vl, ty := p.ty } h a a0 a1 (partV p b)
    rw [h1, h2, h3]
    obtain ⟨q1, q2, q3⟩ := ports_trip p { pk0 with to := p.to, fr := p.fr, vl := p.vl, ty := p.ty, life := p.life, pro := p.pro, src := p.src, dst := p.dst } h b b0 b1 rfl (fun hn => by
      obtain ⟨_, _, g1, g2⟩ := f
      rw [hn] at g1 g2
      simp at g1 g2
      exact ⟨hb (fun x => by rw [hn] at x; exact absurd x.2 (by simp)), by show p.sp = 0; omega, by show p.dp = 0; omega⟩)
    rw [q1, q2, q3]
    simp only [ht, if_true]
    refine ⟨?_, trivial, trivial⟩
    rw [bytes_all, ← ht]
  · rw [if_neg ht] at f
    have e : writeV p a b = outerV p ++ p.data := by unfold writeV; rw [if_neg ht]
    obtain ⟨o1, o2⟩ := outer_trip p h p.data
    unfold readV readA readB innerP innerR
    rw [e, o1, o2]
    simp only [ht, if_false]
    rw [ha ht, hb (fun x => ht x.1), bytes_all]
    obtain ⟨f1, f2, f3, f4, f5, f6⟩ := f
    refine ⟨?_, rfl, rfl⟩
    obtain ⟨c0, c1, c2, c3, c4, c5, c6, c7, c8, c9, c10⟩ := p
    simp only at f1 f2 f3 f4 f5 f6
    subst f1 f2 f3 f4 f5 f6
    rfl
end Go.Proofs.Ytldbbbhoemnlmaa

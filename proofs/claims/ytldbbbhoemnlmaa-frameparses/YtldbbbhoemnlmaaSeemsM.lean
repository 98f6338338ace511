/-
  What is written is what the document's own reader reads: the plain mathematics.
-/
import Derived.Test.YtldbbbhoemnlmaaSeemsA
import Derived.Test.YtldbbbhoemnlmaaTrip
namespace Go.Proofs.Ytldbbbhoemnlmaa

theorem at_sh (x t : ByteArray) (m i k : Nat) (hx : x.size = m) : atV (x ++ t) (m + i) k = atV t i k := by
  unfold atV
  apply ba_ext
  have l : x.data.toList.length = m := by simpa using hx
  simp only [ByteArray.data_extract, Array.toList_extract, ByteArray.data_append]
  rw [List.extract_eq_take_drop, List.extract_eq_take_drop, Array.toList_append, Array.toList_append, Array.toList_append, List.append_assoc, List.drop_append, List.drop_of_length_le (by omega), List.nil_append, l]
  rw [show m + i + k - (m + i) = i + k - i by omega, show m + i - m = i by omega]
theorem at_0 (m y : ByteArray) (k : Nat) (hm : m.size = k) : atV (m ++ y) 0 k = m := by
  unfold atV
  apply ba_ext
  have l : m.data.toList.length = k := by simpa using hm
  simp only [ByteArray.data_extract, Array.toList_extract, ByteArray.data_append]
  rw [List.extract_eq_take_drop, List.drop_zero, Array.toList_append, Array.toList_append, List.append_assoc, List.take_append_of_le_length (by omega), List.take_of_length_le (by omega)]
theorem gN_sh (x t : ByteArray) (m i k : Nat) (hx : x.size = m) : gN (x ++ t) (m + i) k = gN t i k := by unfold gN; rw [at_sh x t m i k hx]
theorem gN_0 (n : Int) (y : ByteArray) (k : Nat) (hk : k ≤ 8) (h0 : 0 ≤ n) (h1 : n < 256 ^ k) : gN (pb n k ++ y) 0 k = n := by
  unfold gN; rw [at_0 _ _ _ (pb_size n k), pb_list]; exact numOf_pieces k n hk h0 h1
theorem be_sh (x t : ByteArray) (m i : Nat) (hx : x.size = m) : behindV (x ++ t) (m + i) = behindV t i := by
  unfold behindV
  rw [ByteArray.size_append, hx]
  by_cases h : t.size < i
  · rw [if_pos (by omega), if_pos h]
  · rw [if_neg (by omega), if_neg h]
    apply ba_ext
    have l : x.data.toList.length = m := by simpa using hx
    simp only [ByteArray.data_extract, Array.toList_extract, ByteArray.data_append]
    rw [List.extract_eq_take_drop, List.extract_eq_take_drop, Array.toList_append, List.drop_append, List.drop_of_length_le (by omega), List.nil_append, l]
    rw [show m + t.size - (m + i) = t.size - i by omega, show m + i - m = i by omega]
theorem be_0 (t : ByteArray) : behindV t 0 = t := by
  unfold behindV; rw [if_neg (by omega)]; apply ba_ext; simp

def sTag (s : ByteArray) : Bool := (atV s 12 2).toList == [129, 0]
def jS (s : ByteArray) : Nat := if sTag s = true then 18 else 14
def sBase (s : ByteArray) : Pk := if sTag s = true then sTagged s else sPlain s
def sH (s : ByteArray) : Pk := sHead s (jS s) (sBase s)
def seemsP (s : ByteArray) : Pk :=
  if (sBase s).ty = 2048 then (if hasB (sH s) = true then (if (sH s).pro = 17 then { sPorts s (jS s + 20) (sH s) with data := behindV s (jS s + 28) } else { sPorts s (jS s + 20) (sH s) with data := behindV s (jS s + 40) })
    else { sH s with data := behindV s (jS s + 20) }) else { sBase s with data := behindV s (jS s) }
def seemsA (s : ByteArray) : Int := if (sBase s).ty = 2048 then gN s (jS s + 10) 2 else 0
def seemsB (s : ByteArray) : Int := if (sBase s).ty = 2048 then (if hasB (sH s) = true then (if (sH s).pro = 17 then gN s (jS s + 26) 2 else gN s (jS s + 36) 2) else 0) else 0

theorem sTag_iff (s : ByteArray) : sTag s = true ↔ atV s 12 2 = (⟨#[129, 0]⟩ : ByteArray) := by
  unfold sTag
  rw [beq_iff_eq]
  constructor
  · intro h; apply toList_inj; rw [h, ByteArray.toList_eq]
  · intro h; rw [h, ByteArray.toList_eq]

theorem s_outer (p : Pk) (h : Ok p) (t : ByteArray) :
    sBase (outerV p ++ t) = { pk0 with to := p.to, fr := p.fr, vl := p.vl, ty := p.ty } ∧ jS (outerV p ++ t) = (outerV p).size := by
  have f1 : pb 33024 2 = (⟨#[129, 0]⟩ : ByteArray) := by apply ba_ext; rw [pb_list]; rfl
  have hz := outerV_size p
  by_cases hv : p.vl = 0
  · have e : outerV p ++ t = pb p.to 6 ++ (pb p.fr 6 ++ (pb p.ty 2 ++ t)) := by unfold outerV; rw [if_pos hv]; simp only [ap_assoc]
    rw [e]
    have g0 : gN (pb p.to 6 ++ (pb p.fr 6 ++ (pb p.ty 2 ++ t))) 0 6 = p.to := gN_0 _ _ 6 (by omega) h.to0 (by have := h.to1; omega)
    have g1 : gN (pb p.to 6 ++ (pb p.fr 6 ++ (pb p.ty 2 ++ t))) 6 6 = p.fr := by
      rw [show (6 : Nat) = 6 + 0 from rfl, gN_sh _ _ 6 0 _ (pb_size _ _)]; exact gN_0 _ _ 6 (by omega) h.fr0 (by have := h.fr1; omega)
    have a2 : atV (pb p.to 6 ++ (pb p.fr 6 ++ (pb p.ty 2 ++ t))) 12 2 = pb p.ty 2 := by
      rw [show (12 : Nat) = 6 + (6 + 0) from rfl, at_sh _ _ 6 _ _ (pb_size _ _), at_sh _ _ 6 _ _ (pb_size _ _)]; exact at_0 _ _ 2 (pb_size _ _)
    have g2 : gN (pb p.to 6 ++ (pb p.fr 6 ++ (pb p.ty 2 ++ t))) 12 2 = p.ty := by
      unfold gN; rw [a2, pb_list]; exact numOf_pieces 2 p.ty (by omega) (by have := h.ty0; omega) (by have := h.ty1; omega)
    have nt : ¬ sTag (pb p.to 6 ++ (pb p.fr 6 ++ (pb p.ty 2 ++ t))) = true := by
      rw [sTag_iff, a2, ← f1]
      intro x
      have y : gN (pb p.ty 2 ++ t) 0 2 = gN (pb 33024 2 ++ t) 0 2 := by rw [x]
      rw [gN_0 _ _ 2 (by omega) (by have := h.ty0; omega) (by have := h.ty1; omega), gN_0 _ _ 2 (by omega) (by omega) (by omega)] at y
      exact h.tyn y
    unfold sBase jS
    rw [if_neg nt, if_neg nt, hz, if_pos hv]
    unfold sPlain
    rw [g0, g1, g2, hv]
    exact ⟨rfl, rfl⟩
  · have e : outerV p ++ t = pb p.to 6 ++ (pb p.fr 6 ++ (pb 33024 2 ++ (pb (p.vl - 4096) 2 ++ (pb p.ty 2 ++ t)))) := by unfold outerV; rw [if_neg hv]; simp only [ap_assoc]
    have hvl := h.vl
    rw [e]
    generalize hs : pb p.to 6 ++ (pb p.fr 6 ++ (pb 33024 2 ++ (pb (p.vl - 4096) 2 ++ (pb p.ty 2 ++ t)))) = s
    have g0 : gN s 0 6 = p.to := by rw [← hs]; exact gN_0 _ _ 6 (by omega) h.to0 (by have := h.to1; omega)
    have g1 : gN s 6 6 = p.fr := by
      rw [← hs, show (6 : Nat) = 6 + 0 from rfl, gN_sh _ _ 6 0 _ (pb_size _ _)]; exact gN_0 _ _ 6 (by omega) h.fr0 (by have := h.fr1; omega)
    have a2 : atV s 12 2 = pb 33024 2 := by
      rw [← hs, show (12 : Nat) = 6 + (6 + 0) from rfl, at_sh _ _ 6 _ _ (pb_size _ _), at_sh _ _ 6 _ _ (pb_size _ _)]; exact at_0 _ _ 2 (pb_size _ _)
    have g3 : gN s 14 2 = p.vl - 4096 := by
      rw [← hs, show (14 : Nat) = 6 + (6 + (2 + 0)) from rfl, gN_sh _ _ 6 _ _ (pb_size _ _), gN_sh _ _ 6 _ _ (pb_size _ _), gN_sh _ _ 2 _ _ (pb_size _ _)]
      exact gN_0 _ _ 2 (by omega) (by omega) (by omega)
    have g4 : gN s 16 2 = p.ty := by
      rw [← hs, show (16 : Nat) = 6 + (6 + (2 + (2 + 0))) from rfl, gN_sh _ _ 6 _ _ (pb_size _ _), gN_sh _ _ 6 _ _ (pb_size _ _), gN_sh _ _ 2 _ _ (pb_size _ _), gN_sh _ _ 2 _ _ (pb_size _ _)]
      exact gN_0 _ _ 2 (by omega) (by have := h.ty0; omega) (by have := h.ty1; omega)
    have yt : sTag s = true := by rw [sTag_iff, a2, f1]
    unfold sBase jS
    rw [if_pos yt, if_pos yt, hz, if_neg hv]
    unfold sTagged
    rw [g0, g1, g3, g4, show 4096 + (p.vl - 4096) = p.vl by omega]
    exact ⟨rfl, rfl⟩

theorem s_head (p : Pk) (h : Ok p) (a : Int) (a0 : 0 ≤ a) (a1 : a ≤ 65535) (u : ByteArray) :
    gN (headV p a ++ u) 8 1 = p.life ∧ gN (headV p a ++ u) 9 1 = p.pro ∧ gN (headV p a ++ u) 10 2 = a ∧ gN (headV p a ++ u) 12 4 = p.src ∧ gN (headV p a ++ u) 16 4 = p.dst := by
  have e : headV p a ++ u = (kBegin ++ pb (20 + (partZ p : Int)) 2 ++ kMark) ++ (pb p.life 1 ++ (pb p.pro 1 ++ (pb a 2 ++ (pb p.src 4 ++ (pb p.dst 4 ++ u))))) := by
    unfold headV addrV; simp only [ap_assoc]
  have z : (kBegin ++ pb (20 + (partZ p : Int)) 2 ++ kMark).size = 8 := by simp only [ByteArray.size_append, pb_size]; rfl
  rw [e]
  refine ⟨?_, ?_, ?_, ?_, ?_⟩
  · rw [show (8 : Nat) = 8 + 0 from rfl, gN_sh _ _ 8 _ _ z]; exact gN_0 _ _ 1 (by omega) h.life0 (by have := h.life1; omega)
  · rw [show (9 : Nat) = 8 + (1 + 0) from rfl, gN_sh _ _ 8 _ _ z, gN_sh _ _ 1 _ _ (pb_size _ _)]; exact gN_0 _ _ 1 (by omega) h.pro0 (by have := h.pro1; omega)
  · rw [show (10 : Nat) = 8 + (1 + (1 + 0)) from rfl, gN_sh _ _ 8 _ _ z, gN_sh _ _ 1 _ _ (pb_size _ _), gN_sh _ _ 1 _ _ (pb_size _ _)]; exact gN_0 _ _ 2 (by omega) a0 (by omega)
  · rw [show (12 : Nat) = 8 + (1 + (1 + (2 + 0))) from rfl, gN_sh _ _ 8 _ _ z, gN_sh _ _ 1 _ _ (pb_size _ _), gN_sh _ _ 1 _ _ (pb_size _ _), gN_sh _ _ 2 _ _ (pb_size _ _)]; exact gN_0 _ _ 4 (by omega) h.src0 (by have := h.src1; omega)
  · rw [show (16 : Nat) = 8 + (1 + (1 + (2 + (4 + 0)))) from rfl, gN_sh _ _ 8 _ _ z, gN_sh _ _ 1 _ _ (pb_size _ _), gN_sh _ _ 1 _ _ (pb_size _ _), gN_sh _ _ 2 _ _ (pb_size _ _), gN_sh _ _ 4 _ _ (pb_size _ _)]; exact gN_0 _ _ 4 (by omega) h.dst0 (by have := h.dst1; omega)

theorem s_udp (p : Pk) (h : Ok p) (b : Int) (b0 : 0 ≤ b) (b1 : b ≤ 65535) (h17 : p.pro = 17) :
    gN (partV p b) 0 2 = p.sp ∧ gN (partV p b) 2 2 = p.dp ∧ gN (partV p b) 6 2 = b ∧ behindV (partV p b) 8 = p.data := by
  have e : partV p b = pb p.sp 2 ++ (pb p.dp 2 ++ (pb (partZ p : Int) 2 ++ (pb b 2 ++ p.data))) := by
    unfold partV portsV; rw [if_neg (by omega), if_pos h17]; simp only [ap_assoc]
  rw [e]
  refine ⟨?_, ?_, ?_, ?_⟩
  · exact gN_0 _ _ 2 (by omega) h.sp0 (by have := h.sp1; omega)
  · rw [show gN (pb p.sp 2 ++ (pb p.dp 2 ++ (pb (partZ p : Int) 2 ++ (pb b 2 ++ p.data)))) 2 2 = gN (pb p.sp 2 ++ (pb p.dp 2 ++ (pb (partZ p : Int) 2 ++ (pb b 2 ++ p.data)))) (2 + 0) 2 from rfl, gN_sh _ _ 2 _ _ (pb_size _ _)]; exact gN_0 _ _ 2 (by omega) h.dp0 (by have := h.dp1; omega)
  · rw [show (6 : Nat) = 2 + (2 + (2 + 0)) from rfl, gN_sh _ _ 2 _ _ (pb_size _ _), gN_sh _ _ 2 _ _ (pb_size _ _), gN_sh _ _ 2 _ _ (pb_size _ _)]; exact gN_0 _ _ 2 (by omega) b0 (by omega)
  · rw [show (8 : Nat) = 2 + (2 + (2 + (2 + 0))) from rfl, be_sh _ _ 2 _ (pb_size _ _), be_sh _ _ 2 _ (pb_size _ _), be_sh _ _ 2 _ (pb_size _ _), be_sh _ _ 2 _ (pb_size _ _), be_0]
theorem s_tcp (p : Pk) (h : Ok p) (b : Int) (b0 : 0 ≤ b) (b1 : b ≤ 65535) (h6 : p.pro = 6) :
    gN (partV p b) 0 2 = p.sp ∧ gN (partV p b) 2 2 = p.dp ∧ gN (partV p b) 16 2 = b ∧ behindV (partV p b) 20 = p.data := by
  have e : partV p b = pb p.sp 2 ++ (pb p.dp 2 ++ (kTcp ++ (pb b 2 ++ (kEnd ++ p.data)))) := by
    unfold partV portsV; rw [if_pos h6]; simp only [ap_assoc]
  rw [e]
  refine ⟨?_, ?_, ?_, ?_⟩
  · exact gN_0 _ _ 2 (by omega) h.sp0 (by have := h.sp1; omega)
  · rw [show gN (pb p.sp 2 ++ (pb p.dp 2 ++ (kTcp ++ (pb b 2 ++ (kEnd ++ p.data))))) 2 2 = gN (pb p.sp 2 ++ (pb p.dp 2 ++ (kTcp ++ (pb b 2 ++ (kEnd ++ p.data))))) (2 + 0) 2 from rfl, gN_sh _ _ 2 _ _ (pb_size _ _)]; exact gN_0 _ _ 2 (by omega) h.dp0 (by have := h.dp1; omega)
  · rw [show (16 : Nat) = 2 + (2 + (12 + 0)) from rfl, gN_sh _ _ 2 _ _ (pb_size _ _), gN_sh _ _ 2 _ _ (pb_size _ _), gN_sh _ _ 12 _ _ rfl]; exact gN_0 _ _ 2 (by omega) b0 (by omega)
  · rw [show (20 : Nat) = 2 + (2 + (12 + (2 + (2 + 0)))) from rfl, be_sh _ _ 2 _ (pb_size _ _), be_sh _ _ 2 _ (pb_size _ _), be_sh _ _ 12 _ rfl, be_sh _ _ 2 _ (pb_size _ _), be_sh _ _ 2 _ rfl, be_0]

theorem seems_write (p : Pk) (a b : Int) (hw : Wf p) (hr : rightB p = true) (hs : p.data.size ≤ 3000) (a0 : 0 ≤ a) (a1 : a ≤ 65535) (b0 : 0 ≤ b) (b1 : b ≤ 65535)
    (ha : p.ty ≠ 2048 → a = 0) (hb : ¬ (p.ty = 2048 ∧ hasB p = true) → b = 0) :
    seemsP (writeV p a b) = p ∧ seemsA (writeV p a b) = a ∧ seemsB (writeV p a b) = b := by
  have h := Ok.of_right hw hr hs
  obtain ⟨_, _, _, _, _, f⟩ := (right_iff p hw).1 hr
  by_cases ht : p.ty = 2048
  · rw [if_pos ht] at f
    have e : writeV p a b = outerV p ++ (headV p a ++ partV p b) := by unfold writeV; rw [if_pos ht, ap_assoc]
    obtain ⟨o1, o2⟩ := s_outer p h (headV p a ++ partV p b)
    rw [e]
    have S : ∀ i k, gN (outerV p ++ (headV p a ++ partV p b)) (jS (outerV p ++ (headV p a ++ partV p b)) + i) k = gN (headV p a ++ partV p b) i k := fun i k => by rw [o2]; exact gN_sh _ _ _ i k rfl
    have B : ∀ i, behindV (outerV p ++ (headV p a ++ partV p b)) (jS (outerV p ++ (headV p a ++ partV p b)) + i) = behindV (headV p a ++ partV p b) i := fun i => by rw [o2]; exact be_sh _ _ _ i rfl
    have G : ∀ i k, gN (headV p a ++ partV p b) (20 + i) k = gN (partV p b) i k := fun i k => gN_sh _ _ 20 i k (headV_size _ _)
    have D : ∀ i, behindV (headV p a ++ partV p b) (20 + i) = behindV (partV p b) i := fun i => be_sh _ _ 20 i (headV_size _ _)
    obtain ⟨q1, q2, q3, q4, q5⟩ := s_head p h a a0 a1 (partV p b)
    have hH : sH (outerV p ++ (headV p a ++ partV p b)) = { pk0 with to := p.to, fr := p.fr, vl := p.vl, ty := p.ty, life := p.life, pro := p.pro, src := p.src, dst := p.dst } := by
      unfold sH sHead; rw [o1, S, S, S, S, q1, q2, q4, q5]
    generalize hst : outerV p ++ (headV p a ++ partV p b) = s at *
    have hA : seemsA s = a := by unfold seemsA; rw [o1, if_pos ht, S, q3]
    by_cases hh : hasB p = true
    · have hh' : hasB (sH s) = true := by rw [hH]; exact hh
      by_cases h17 : p.pro = 17
      · obtain ⟨u1, u2, u3, u4⟩ := s_udp p h b b0 b1 h17
        have x1 : gN s (jS s + 20) 2 = p.sp := by rw [S, show (20 : Nat) = 20 + 0 from rfl, G, u1]
        have x2 : gN s (jS s + 20 + 2) 2 = p.dp := by rw [Nat.add_assoc, S, G, u2]
        have x3 : gN s (jS s + 26) 2 = b := by rw [S, show (26 : Nat) = 20 + 6 from rfl, G, u3]
        have x4 : behindV s (jS s + 28) = p.data := by rw [B, show (28 : Nat) = 20 + 8 from rfl, D, u4]
        refine ⟨?_, hA, ?_⟩
        · unfold seemsP sPorts
          rw [o1, if_pos ht, if_pos hh', if_pos (by rw [hH]; exact h17), x1, x2, x4, hH]
        · unfold seemsB
          rw [o1, if_pos ht, if_pos hh', if_pos (by rw [hH]; exact h17), x3]
      · have h6 : p.pro = 6 := by unfold hasB at hh; simp at hh; omega
        obtain ⟨u1, u2, u3, u4⟩ := s_tcp p h b b0 b1 h6
        have x1 : gN s (jS s + 20) 2 = p.sp := by rw [S, show (20 : Nat) = 20 + 0 from rfl, G, u1]
        have x2 : gN s (jS s + 20 + 2) 2 = p.dp := by rw [Nat.add_assoc, S, G, u2]
        have x3 : gN s (jS s + 36) 2 = b := by rw [S, show (36 : Nat) = 20 + 16 from rfl, G, u3]
        have x4 : behindV s (jS s + 40) = p.data := by rw [B, show (40 : Nat) = 20 + 20 from rfl, D, u4]
        refine ⟨?_, hA, ?_⟩
        · unfold seemsP sPorts
          rw [o1, if_pos ht, if_pos hh', if_neg (by rw [hH]; exact h17), x1, x2, x4, hH]
        · unfold seemsB
          rw [o1, if_pos ht, if_pos hh', if_neg (by rw [hH]; exact h17), x3]
    · have hh' : ¬ hasB (sH s) = true := by rw [hH]; exact hh
      have hbz := hb (fun x => hh x.2)
      obtain ⟨_, _, g1, g2⟩ := f
      rw [if_neg hh] at g1 g2
      have ev : partV p b = p.data := by
        unfold hasB at hh; simp at hh
        unfold partV; rw [if_neg hh.1, if_neg hh.2]
      have x4 : behindV s (jS s + 20) = p.data := by rw [B, show (20 : Nat) = 20 + 0 from rfl, D, ev, be_0]
      refine ⟨?_, hA, ?_⟩
      · unfold seemsP
        rw [o1, if_pos ht, if_neg hh', x4, hH]
        have e1 : p.sp = 0 := by omega
        have e2 : p.dp = 0 := by omega
        obtain ⟨c0, c1, c2, c3, c4, c5, c6, c7, c8, c9, c10⟩ := p
        simp only at e1 e2
        subst e1 e2
        rfl
      · unfold seemsB
        rw [o1, if_pos ht, if_neg hh', hbz]
  · rw [if_neg ht] at f
    have e : writeV p a b = outerV p ++ p.data := by unfold writeV; rw [if_neg ht]
    obtain ⟨o1, o2⟩ := s_outer p h p.data
    rw [e]
    have B : behindV (outerV p ++ p.data) (jS (outerV p ++ p.data)) = p.data := by
      rw [o2, show (outerV p).size = (outerV p).size + 0 from rfl, be_sh _ _ _ 0 rfl, be_0]
    refine ⟨?_, ?_, ?_⟩
    · unfold seemsP
      rw [o1, if_neg ht, B]
      obtain ⟨f1, f2, f3, f4, f5, f6⟩ := f
      obtain ⟨c0, c1, c2, c3, c4, c5, c6, c7, c8, c9, c10⟩ := p
      simp only at f1 f2 f3 f4 f5 f6
      subst f1 f2 f3 f4 f5 f6
      rfl
    · unfold seemsA; rw [o1, if_neg ht, ha ht]
    · unfold seemsB; rw [o1, if_neg ht, hb (fun x => ht x.1)]
end Go.Proofs.Ytldbbbhoemnlmaa

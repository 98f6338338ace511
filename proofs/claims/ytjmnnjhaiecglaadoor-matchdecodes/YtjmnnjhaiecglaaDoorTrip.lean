/-
  What is written is read: the plain mathematics.
-/
import Derived.Test.YtjmnnjhaiecglaaDoorDec
namespace Go.Proofs.YtjmnnjhaiecglaaDoor

theorem szB_of {n : Nat} (h1 : 1 ≤ n) (h8 : n ≤ 8) : szB (n : Int) = true := by
  unfold szB
  rw [Bool.and_eq_true, decide_eq_true_iff, decide_eq_true_iff]
  omega
theorem field_code {t : T} {l : List T} (h : Fit t l) : fieldV (codeV t.1 l) = t.1 := by
  obtain ⟨hf, _, _, hs⟩ := h
  generalize t.1 = f at *
  rcases cls9 hf with rfl | rfl | rfl | rfl | rfl | rfl | rfl | rfl | rfl
  · rfl
  · rfl
  · rfl
  · rfl
  · rfl
  · rfl
  · rfl
  · unfold standB at hs
    rw [if_neg (by omega), if_pos (by omega), Bool.or_eq_true] at hs
    unfold codeV
    cases h6 : hasT l (7, 6, 255)
    · have h17 : hasT l (7, 17, 255) = true := by rcases hs with h | h; · rw [h6] at h; cases h
                                                  · exact h
      simp [h17, fieldV, tb, fieldGo]
    · simp [fieldV, tb, fieldGo]
  · unfold standB at hs
    rw [if_neg (by omega), if_pos (by omega), Bool.or_eq_true] at hs
    unfold codeV
    cases h6 : hasT l (7, 6, 255)
    · have h17 : hasT l (7, 17, 255) = true := by rcases hs with h | h; · rw [h6] at h; cases h
                                                  · exact h
      simp [h17, fieldV, tb, fieldGo]
    · simp [fieldV, tb, fieldGo]
theorem trip_T {t : T} {l : List T} (h : Fit t l) (hw : TW t) (B : ByteArray) : readT ⟨encT t l ++ B, 0⟩ = t ∧ restR ⟨encT t l ++ B, 0⟩ = ⟨B, 0⟩ := by
  have hfc := field_code h
  obtain ⟨n0, n1, n2⟩ := fit_num h hw
  have hz1 := szV_pos h.fld
  have hz8 := szV_le t.1
  have hb := szB_of hz1 hz8
  have hg := gr_pow h.fld
  obtain ⟨k0, k1⟩ := codeV_lt t.1 l
  have hs16 := restT_size t
  have e : encT t l ++ B = pb 32768 2 ++ (pb (headT t l) 1 ++ (pb (restT t).size 1 ++ (restT t ++ B))) := by unfold encT; simp only [ap_assoc]
  have hh0 : 0 ≤ headT t l ∧ headT t l ≤ 255 := by unfold headT; split <;> omega
  have e1 : hdR ⟨encT t l ++ B, 0⟩ = headT t l := by
    unfold hdR
    rw [e, skip2_ap, num1_ap _ _ hh0.1 hh0.2]
  have e3 : r3R ⟨encT t l ++ B, 0⟩ = ⟨restT t ++ B, 0⟩ := by
    unfold r3R
    rw [e, skip2_ap, skip1_ap, skip1_ap]
  cases hx : wholeB t with
  | true =>
    have hh : headT t l = 2 * codeV t.1 l := by unfold headT; rw [hx]; rfl
    have ef : fR ⟨encT t l ++ B, 0⟩ = t.1 := by
      unfold fR
      rw [e1, hh, show 2 * codeV t.1 l / 2 = codeV t.1 l by omega, hfc]
    have hm : t.2.2 = grV t.1 := by simpa [wholeB] using hx
    have er : restT t = pb t.2.1 (szV t.1) := by unfold restT; rw [hx]; rfl
    have hne : ¬ hdR ⟨encT t l ++ B, 0⟩ % 2 = 1 := by rw [e1, hh]; omega
    constructor
    · unfold readT
      rw [if_neg hne, ef, e3, er, num_ap t.2.1 B (szV t.1) hz8 hb hw.v0 (by omega), ← hm]
    · unfold restR
      rw [if_neg hne, ef, e3, er, skip_ap _ B (szV t.1) (pb_size _ _) hb]
  | false =>
    have hh : headT t l = 2 * codeV t.1 l + 1 := by unfold headT; rw [hx]; rfl
    have ef : fR ⟨encT t l ++ B, 0⟩ = t.1 := by
      unfold fR
      rw [e1, hh, show (2 * codeV t.1 l + 1) / 2 = codeV t.1 l by omega, hfc]
    have er : restT t ++ B = pb t.2.1 (szV t.1) ++ (pb t.2.2 (szV t.1) ++ B) := by unfold restT; rw [hx]; exact ap_assoc _ _ _
    have hne : hdR ⟨encT t l ++ B, 0⟩ % 2 = 1 := by rw [e1, hh]; omega
    constructor
    · unfold readT
      rw [if_pos hne, ef, e3, er, num_ap t.2.1 _ (szV t.1) hz8 hb hw.v0 (by omega), skip_ap _ _ (szV t.1) (pb_size _ _) hb, num_ap t.2.2 B (szV t.1) hz8 hb hw.m0 (by omega)]
    · unfold restR
      rw [if_pos hne, ef, e3, er, skip_ap _ _ (szV t.1) (pb_size _ _) hb, skip_ap _ B (szV t.1) (pb_size _ _) hb]
theorem encT_pos (t : T) (l : List T) : 0 < (encT t l).size := by unfold encT; simp only [ByteArray.size_append, pb_size]; omega
theorem trip_L : ∀ (r l : List T), rightGo l r = 0 → TWs r → readN (bodyGo l r).size ⟨bodyGo l r, 0⟩ = r
  | [], _, _, _ => rfl
  | t :: r, l, hr, hw => by
    obtain ⟨h1, h2⟩ := right_cons.1 hr
    obtain ⟨a, b⟩ := trip_T (fit_of h1) (hw t (by simp)) (bodyGo (l ++ [t]) r)
    have hp : 0 < (⟨bodyGo l (t :: r), 0⟩ : RS).s.size := by
      show 0 < (encT t l ++ bodyGo (l ++ [t]) r).size
      rw [ByteArray.size_append]
      have := encT_pos t l
      omega
    have hst := readN_step (r := ⟨bodyGo l (t :: r), 0⟩) (fun h => absurd rfl h) hp
    have hst' : readN (bodyGo l (t :: r)).size ⟨bodyGo l (t :: r), 0⟩ = readT ⟨encT t l ++ bodyGo (l ++ [t]) r, 0⟩ :: readN (restR ⟨encT t l ++ bodyGo (l ++ [t]) r, 0⟩).s.size (restR ⟨encT t l ++ bodyGo (l ++ [t]) r, 0⟩) := hst
    rw [hst', a, b]
    congr 1
    exact trip_L r (l ++ [t]) h2 (fun u hu => hw u (by simp [hu]))
theorem extract_mid (a b c : ByteArray) : (a ++ (b ++ c)).extract a.size (a.size + b.size) = b := by
  apply ba_ext
  have e1 : a.size = a.data.toList.length := by simp
  have e2 : b.size = b.data.toList.length := by simp
  simp only [ByteArray.data_extract, Array.toList_extract, ByteArray.data_append]
  rw [List.extract_eq_take_drop, e1, e2, Array.toList_append, Array.toList_append, List.drop_left, Nat.add_sub_cancel_left, List.take_left]
theorem zeros_size (n : Nat) : (zeros n).size = n := by unfold zeros; simp [ByteArray.size]
theorem encS_size (l : List T) : ((encS l).size : Int) = padV (4 + (bodyGo [] l).size) := by
  have h := padV_ge (4 + (bodyGo [] l).size)
  unfold encS
  rw [ByteArray.size_append, ByteArray.size_append, ByteArray.size_append, pb_size, pb_size, zeros_size]
  omega
theorem encS_mod (l : List T) : (encS l).size % 8 = 0 := by
  have := encS_size l
  unfold padV at this
  omega
/-- What is encoded is decoded, whatever is behind it. -/
theorem trip (l : List T) (hr : rightE l = 0) (hw : TWs l) (x : ByteArray) : wholeOk (encS l ++ x) ∧ testsOf (encS l ++ x) = l ∧ padV (saidV (encS l ++ x)) = (encS l).size := by
  have hb := body_right l hr
  have hsz := encS_size l
  have e : encS l ++ x = pb 1 2 ++ (pb (4 + (bodyGo [] l).size) 2 ++ (bodyGo [] l ++ (zeros (padV (4 + (bodyGo [] l).size) - (4 + (bodyGo [] l).size)).toNat ++ x))) := by
    unfold encS; simp only [ap_assoc]
  have hsaid : saidV (encS l ++ x) = 4 + (bodyGo [] l).size := by
    unfold saidV
    rw [e, skip2_ap, num2_ap _ _ (by omega) (by omega)]
  have hx : (encS l ++ x).extract 4 (saidV (encS l ++ x)).toNat = bodyGo [] l := by
    rw [hsaid]
    have h4 : (pb 1 2 ++ pb (4 + (bodyGo [] l).size) 2).size = 4 := by rw [ByteArray.size_append, pb_size, pb_size]
    have := extract_mid (pb 1 2 ++ pb (4 + (bodyGo [] l).size) 2) (bodyGo [] l) (zeros (padV (4 + (bodyGo [] l).size) - (4 + (bodyGo [] l).size)).toNat ++ x)
    rw [h4] at this
    rw [e, ← ap_assoc, show (4 + ((bodyGo [] l).size : Int)).toNat = 4 + (bodyGo [] l).size by omega]
    exact this
  have ht : testsOf (encS l ++ x) = l := by
    unfold testsOf
    rw [hx]
    exact trip_L l [] hr hw
  have hp : padV (saidV (encS l ++ x)) = (encS l).size := by rw [hsaid, hsz]
  refine ⟨⟨?_, ?_, ?_, ?_, ?_⟩, ht, hp⟩
  · have := padV_ge (4 + (bodyGo [] l).size)
    rw [ByteArray.size_append]; omega
  · rw [hp, ByteArray.size_append]; omega
  · rw [hsaid]; omega
  · rw [ht]; exact hr
  · rw [ht, hp, Int.toNat_natCast, extract_left]
end Go.Proofs.YtjmnnjhaiecglaaDoor

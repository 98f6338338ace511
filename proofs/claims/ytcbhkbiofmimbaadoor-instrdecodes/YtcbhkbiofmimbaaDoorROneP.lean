/-
  The action that bytes seem to be, as the document reads it: the plain mathematics (nothing of the program).
-/
import Derived.Test.YtcbhkbiofmimbaaDoorDecP
import Derived.Test.YtcbhkbiofmimbaaDoorRefB
namespace Go.Proofs.YtcbhkbiofmimbaaDoor

def byteAt (q : ByteArray) (i : Nat) : Int := ((q.data.toList.getD i 0).toNat : Int)
theorem byteAt_lt (q : ByteArray) (i : Nat) : 0 ≤ byteAt q i ∧ byteAt q i < 256 := by
  unfold byteAt
  have := (q.data.toList.getD i 0).toNat_lt
  omega
theorem len_size (x : ByteArray) : x.data.toList.length = x.size := by simp
def nm (s : ByteArray) (i j : Nat) : Int := numOf (s.extract i j).data.toList
theorem nm_lt (s : ByteArray) (i j : Nat) (h : j ≤ i + 8) : 0 ≤ nm s i j ∧ nm s i j < 18446744073709551616 := by
  have hl : (s.extract i j).data.toList.length ≤ 8 := by
    have : (s.extract i j).size ≤ 8 := by rw [ByteArray.size_extract]; omega
    rw [len_size]; exact this
  have h := numOf_lt _ hl
  have h2 := Nat.pow_le_pow_right (show 0 < 256 by decide) hl
  have h3 := Int.ofNat_le.mpr h2
  rw [Int.natCast_pow, Int.natCast_pow] at h3
  exact ⟨h.1, Int.lt_of_lt_of_le h.2 h3⟩
/-- Whether bytes seem to be a Set of a field, and of which one. -/
def condB (s : ByteArray) (k : Int) : Bool := decide (0 < codeV k) && (byteAt s 6 == 2 * codeV k) && decide (s.size = 16)
def findF (s : ByteArray) : Nat → Int → Int
  | 0, _ => 0
  | n + 1, k => if condB s k = true then k else findF s n (k + 1)
def oneF (s : ByteArray) : Int := findF s 7 3
def oneV (s : ByteArray) : A :=
  if nm s 0 2 = 0 then (1, 0, nm s 4 8) else if nm s 0 2 = 22 then (2, 0, nm s 4 8) else if nm s 0 2 = 17 then (3, 0, 0) else if nm s 0 2 = 18 then (4, 0, 0)
  else if nm s 0 2 = 25 then (if oneF s = 0 then (0, 0, 0) else (5, oneF s, nm s 8 (8 + rszV (oneF s)))) else (0, 0, 0)
theorem code_range (k : Int) : 0 ≤ codeV k ∧ codeV k ≤ 14 := by unfold codeV; (repeat' split) <;> omega
theorem find_is (s : ByteArray) : ∀ (n : Nat) (k : Int), findF s n k = 0 ∨ (condB s (findF s n k) = true)
  | 0, _ => .inl rfl
  | n + 1, k => by
    rw [findF]
    split
    · next h => exact .inr h
    · exact find_is s n (k + 1)
theorem one_v0 (s : ByteArray) : 0 ≤ (oneV s).2.2 := by
  have h1 := (nm_lt s 4 8 (by omega)).1
  have h2 := (nm_lt s 8 (8 + rszV (oneF s)) (by unfold rszV; split <;> omega)).1
  unfold oneV
  split
  · exact h1
  split
  · exact h1
  split
  · exact Int.le_refl _
  split
  · exact Int.le_refl _
  split
  · split
    · exact Int.le_refl _
    · exact h2
  · exact Int.le_refl _
theorem one_aw (s : ByteArray) : AW (oneV s) := by
  have h1 := nm_lt s 4 8 (by omega)
  have h2 := nm_lt s 8 (8 + rszV (oneF s)) (by unfold rszV; split <;> omega)
  have hf : -9223372036854775808 ≤ oneF s ∧ oneF s < 9223372036854775808 := by
    rcases find_is s 7 3 with h | h
    · unfold oneF; rw [h]; omega
    · have hc : 0 < codeV (findF s 7 3) := by unfold condB at h; simp at h; omega
      unfold oneF
      unfold codeV at hc
      revert hc
      (repeat' split) <;> omega
  unfold oneV
  split
  · exact ⟨by simp, by simp, h1.1, h1.2⟩
  split
  · exact ⟨by simp, by simp, h1.1, h1.2⟩
  split
  · exact ⟨by simp, by simp, by simp, by simp⟩
  split
  · exact ⟨by simp, by simp, by simp, by simp⟩
  split
  · split
    · exact ⟨by simp, by simp, by simp, by simp⟩
    · exact ⟨hf.1, hf.2, h2.1, h2.2⟩
  · exact ⟨by simp, by simp, by simp, by simp⟩
theorem nm_ap (a b c : ByteArray) (n : Int) (i k : Nat) (ha : a.size = i) (hb : b = pb n k) (hk : k ≤ 8) (h0 : 0 ≤ n) (h1 : n < 256 ^ k) : nm (a ++ (b ++ c)) i (i + k) = n := by
  have e : (a ++ (b ++ c)).extract i (i + k) = pb n k := by
    apply ba_ext
    have la : a.data.toList.length = i := by simpa using ha
    have lb : b.data.toList.length = k := by rw [hb]; exact pb_len n k
    simp only [ByteArray.data_extract, Array.toList_extract]
    rw [List.extract_eq_take_drop, ba_append, ba_append, List.drop_append_of_le_length (by omega), List.drop_of_length_le (by omega), List.nil_append, Nat.add_sub_cancel_left, List.take_append_of_le_length (by omega), List.take_of_length_le (by omega), hb]
  unfold nm
  rw [e, pb_list]
  exact numOf_pieces k n hk h0 h1
theorem nm_ap0 (b c : ByteArray) (n : Int) (k : Nat) (hb : b = pb n k) (hk : k ≤ 8) (h0 : 0 ≤ n) (h1 : n < 256 ^ k) : nm (b ++ c) 0 k = n := by
  have := nm_ap ⟨#[]⟩ b c n 0 k rfl hb hk h0 h1
  rw [Nat.zero_add, show (⟨#[]⟩ : ByteArray) ++ (b ++ c) = b ++ c by apply ba_ext; simp] at this
  exact this
theorem byte_ap (a b c : ByteArray) (n : Int) (i : Nat) (ha : a.size = i) (hb : b = pb n 1) (h0 : 0 ≤ n) (h1 : n < 256) : byteAt (a ++ (b ++ c)) i = n := by
  have la : a.data.toList.length = i := by simpa using ha
  have lb : b.data.toList = [UInt8.ofNat n.toNat] := by
    rw [hb, pb_list]
    simp only [pieces, List.nil_append, List.map_cons, List.map_nil]
    rw [Int.emod_eq_of_lt h0 h1]
  unfold byteAt
  rw [ba_append, ba_append, lb, List.getD_eq_getElem?_getD, List.getElem?_append_right (by omega), la, Nat.sub_self]
  simp
  omega
/-- What is written seems to be what was written. -/
theorem one_write {a : A} (h : rightB a = true) (hw : 0 ≤ a.2.2) : oneV (writeV a) = a := by
  rcases right_cases h with ⟨h1, h2, h3, h4⟩ | ⟨h1, h2, h3, h4⟩ | ⟨h1, h2, h3⟩ | ⟨h1, h2, h3⟩ | ⟨h1, h2, h3, h4⟩
  · obtain ⟨k, f, v⟩ := a
    simp only at h1 h2 h3 h4 hw
    subst h1 h2
    have n2 : nm (writeV (1, 0, v)) 0 2 = 0 := by rw [wr1]; exact nm_ap0 _ _ 0 2 rfl (by omega) (by omega) (by omega)
    have n8 : nm (writeV (1, 0, v)) 4 8 = v := by
      rw [wr1, ← ap_assoc]
      exact nm_ap _ _ _ v 4 4 (by simp only [ByteArray.size_append, pb_size]) rfl (by omega) hw (by omega)
    unfold oneV
    rw [n2, n8]
    rfl
  · obtain ⟨k, f, v⟩ := a
    simp only at h1 h2 h3 h4 hw
    subst h1 h2
    have n2 : nm (writeV (2, 0, v)) 0 2 = 22 := by rw [wr2]; exact nm_ap0 _ _ 22 2 rfl (by omega) (by omega) (by omega)
    have n8 : nm (writeV (2, 0, v)) 4 8 = v := by
      rw [wr2, ← ap_assoc]
      exact nm_ap _ _ _ v 4 4 (by simp only [ByteArray.size_append, pb_size]) rfl (by omega) hw (by omega)
    unfold oneV
    rw [n2, n8]
    rfl
  · obtain ⟨k, f, v⟩ := a
    simp only at h1 h2 h3
    subst h1 h2 h3
    have n2 : nm (writeV (3, 0, 0)) 0 2 = 17 := by rw [wr3]; exact nm_ap0 _ _ 17 2 rfl (by omega) (by omega) (by omega)
    unfold oneV
    rw [n2]
    rfl
  · obtain ⟨k, f, v⟩ := a
    simp only at h1 h2 h3
    subst h1 h2 h3
    have n2 : nm (writeV (4, 0, 0)) 0 2 = 18 := by rw [wr4]; exact nm_ap0 _ _ 18 2 rfl (by omega) (by omega) (by omega)
    unfold oneV
    rw [n2]
    rfl
  · have hsz := encS_len1 a h
    obtain ⟨k, f, v⟩ := a
    simp only at h1 h2 h3 h4 hw hsz
    subst h1
    obtain ⟨s0, s1, s2⟩ := sz_set h2
    have hg := Int.lt_of_le_of_lt h4 (gr_pow s0)
    have n2 : nm (writeV (5, f, v)) 0 2 = 25 := by rw [wr5]; exact nm_ap0 _ _ 25 2 rfl (by omega) (by omega) (by omega)
    have b6 : byteAt (writeV (5, f, v)) 6 = 2 * codeV f := by
      have := code_range f
      rw [wr5, ← ap_assoc, ← ap_assoc]
      exact byte_ap _ _ _ _ 6 (by simp only [ByteArray.size_append, pb_size]) rfl (by omega) (by omega)
    have nv : nm (writeV (5, f, v)) 8 (8 + szV f) = v := by
      rw [wr5, ← ap_assoc, ← ap_assoc, ← ap_assoc, ← ap_assoc]
      exact nm_ap _ _ _ v 8 (szV f) (by simp only [ByteArray.size_append, pb_size]) rfl (by omega) hw hg
    have hs : (writeV (5, f, v)).size = 16 := hsz
    have hF : oneF (writeV (5, f, v)) = f ∧ rszV f = szV f := by
      unfold oneF
      simp only [findF, condB, b6, hs]
      rcases h2 with rfl | rfl | rfl | rfl | rfl <;> exact ⟨by decide, by decide⟩
    unfold oneV
    rw [n2, hF.1, hF.2, nv]
    have : ¬ f = 0 := by omega
    simp [this]
theorem read_v0 (d : ByteArray) : 0 ≤ (readV d).2.2 := by
  unfold readV
  split
  · exact (RS.num_lt _ 4 (by omega)).1
  split
  · exact (RS.num_lt _ _ (szV_le _)).1
  · exact Int.le_refl _
/-- Both readings take the same bytes, for the same actions. -/
theorem one_read (s : ByteArray) : (rightB (oneV s) = true ∧ writeV (oneV s) = s ↔ rightB (readV s) = true ∧ writeV (readV s) = s) ∧ (rightB (readV s) = true ∧ writeV (readV s) = s → oneV s = readV s) := by
  refine ⟨⟨fun ⟨h1, h2⟩ => ?_, fun ⟨h1, h2⟩ => ?_⟩, fun ⟨h1, h2⟩ => ?_⟩
  · have e := read_write h1 (one_v0 s)
    rw [h2] at e
    rw [e]
    exact ⟨h1, h2⟩
  · have e := one_write h1 (read_v0 s)
    rw [h2] at e
    rw [e]
    exact ⟨h1, h2⟩
  · have e := one_write h1 (read_v0 s)
    rwa [h2] at e
end Go.Proofs.YtcbhkbiofmimbaaDoor

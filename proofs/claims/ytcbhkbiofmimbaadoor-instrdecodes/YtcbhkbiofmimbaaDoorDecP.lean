/-
  Which actions bytes are: the plain mathematics (nothing of the program).
-/
import Derived.Test.YtcbhkbiofmimbaaDoorRead
namespace Go.Proofs.YtcbhkbiofmimbaaDoor

def readV (d : ByteArray) : A :=
  if kindV ((⟨d, 0⟩ : RS).num 2) = 1 ∨ kindV ((⟨d, 0⟩ : RS).num 2) = 2 then (kindV ((⟨d, 0⟩ : RS).num 2), 0, (((⟨d, 0⟩ : RS).skip 2).skip 2).num 4)
  else if kindV ((⟨d, 0⟩ : RS).num 2) = 5 then (5, fldV (((((⟨d, 0⟩ : RS).skip 2).skip 2).skip 2).num 1 / 2), ((((((⟨d, 0⟩ : RS).skip 2).skip 2).skip 2).skip 1).skip 1).num (szV (fldV (((((⟨d, 0⟩ : RS).skip 2).skip 2).skip 2).num 1 / 2))))
  else (kindV ((⟨d, 0⟩ : RS).num 2), 0, 0)
theorem fld_code {f : Int} (h : f = 3 ∨ f = 5 ∨ f = 6 ∨ f = 8 ∨ f = 9) : fldV (codeV f) = f ∧ 0 ≤ codeV f ∧ codeV f ≤ 14 := by
  rcases h with rfl | rfl | rfl | rfl | rfl <;> decide
theorem sz_set {f : Int} (h : f = 3 ∨ f = 5 ∨ f = 6 ∨ f = 8 ∨ f = 9) : ¬ (f < 1 ∨ 9 < f) ∧ 2 ≤ szV f ∧ szV f ≤ 4 := by
  rcases h with rfl | rfl | rfl | rfl | rfl <;> decide
theorem wr1 (f v : Int) : writeV (1, f, v) = pb 0 2 ++ (pb 16 2 ++ (pb v 4 ++ (pb 65535 2 ++ zeros 6))) := by
  simp [writeV, bodyV, knV, ksV, ByteArray.size_append, pb_size, ap_assoc]
theorem wr2 (f v : Int) : writeV (2, f, v) = pb 22 2 ++ (pb 8 2 ++ (pb v 4 ++ zeros 0)) := by
  simp [writeV, bodyV, knV, ksV, pb_size, ap_assoc]
theorem wr3 (f v : Int) : writeV (3, f, v) = pb 17 2 ++ (pb 8 2 ++ (pb 33024 2 ++ zeros 2)) := by
  simp [writeV, bodyV, knV, ksV, pb_size, ap_assoc]
theorem wr4 (f v : Int) : writeV (4, f, v) = pb 18 2 ++ (pb 8 2 ++ zeros 4) := by
  have e0 : (⟨#[]⟩ : ByteArray).size = 0 := rfl
  have e : writeV (4, f, v) = pb 18 2 ++ pb 8 2 ++ ⟨#[]⟩ ++ zeros 4 := by simp [writeV, bodyV, knV, ksV, e0]
  rw [e]
  apply ba_ext; simp
theorem wr5 (f v : Int) : writeV (5, f, v) = pb 25 2 ++ (pb 16 2 ++ (pb 32768 2 ++ (pb (2 * codeV f) 1 ++ (pb (szV f : Int) 1 ++ (pb v (szV f) ++ zeros (16 - 4 - (4 + szV f))))))) := by
  simp [writeV, bodyV, knV, ksV, ByteArray.size_append, pb_size, ap_assoc]
  congr 1
  omega
/-- What is written is read, whatever is behind it. -/
theorem read_write {a : A} (h : rightB a = true) (hw : 0 ≤ a.2.2) : readV (writeV a) = a := by
  rcases right_cases h with ⟨h1, h2, h3, h4⟩ | ⟨h1, h2, h3, h4⟩ | ⟨h1, h2, h3⟩ | ⟨h1, h2, h3⟩ | ⟨h1, h2, h3, h4⟩
  · obtain ⟨k, f, v⟩ := a
    simp only at h1 h2 h3 h4 hw
    subst h1 h2
    unfold readV
    rw [wr1, num2_ap _ _ (by omega) (by omega), skip2_ap, skip2_ap, num4_ap _ _ (by omega) (by omega)]
    rfl
  · obtain ⟨k, f, v⟩ := a
    simp only at h1 h2 h3 h4 hw
    subst h1 h2
    unfold readV
    rw [wr2, num2_ap _ _ (by omega) (by omega), skip2_ap, skip2_ap, num4_ap _ _ (by omega) (by omega)]
    rfl
  · obtain ⟨k, f, v⟩ := a
    simp only at h1 h2 h3
    subst h1 h2 h3
    unfold readV
    rw [wr3, num2_ap _ _ (by omega) (by omega)]
    rfl
  · obtain ⟨k, f, v⟩ := a
    simp only at h1 h2 h3
    subst h1 h2 h3
    unfold readV
    rw [wr4, num2_ap _ _ (by omega) (by omega)]
    rfl
  · obtain ⟨k, f, v⟩ := a
    simp only at h1 h2 h3 h4 hw
    subst h1
    obtain ⟨e1, e2, e3⟩ := fld_code h2
    obtain ⟨s0, s1, s2⟩ := sz_set h2
    have hg := Int.lt_of_le_of_lt h4 (gr_pow s0)
    unfold readV
    rw [wr5, num2_ap _ _ (by omega) (by omega), skip2_ap, skip2_ap, skip2_ap, num1_ap _ _ (by omega) (by omega), skip1_ap, skip1_ap]
    rw [show 2 * codeV f / 2 = codeV f by omega, e1]
    rw [num_ap v _ (szV f) (by omega) (by unfold szB; simp; omega) hw hg]
    rfl
/-- The first action of bytes, how many they are, and what is wrong. -/
def sizeV (d : ByteArray) : Int := (⟨d.extract 2 4, 0⟩ : RS).num 2
def firstE (d : ByteArray) : Int :=
  if d.size < 4 then 10 else if (d.size : Int) < sizeV d then 10 else if sizeV d < 8 then 11
  else if rightB (readV (d.extract 0 (sizeV d).toNat)) = true ∧ writeV (readV (d.extract 0 (sizeV d).toNat)) = d.extract 0 (sizeV d).toNat then 0 else 11
def firstA (d : ByteArray) : A := if firstE d = 0 then readV (d.extract 0 (sizeV d).toNat) else (0, 0, 0)
def firstZ (d : ByteArray) : Int := if firstE d = 0 then sizeV d else 0
theorem sizeV_range (d : ByteArray) : 0 ≤ sizeV d ∧ sizeV d < 65536 := by
  have := RS.num_lt (⟨d.extract 2 4, 0⟩ : RS) 2 (by omega)
  exact ⟨this.1, by have h := this.2; unfold sizeV; simpa using h⟩
structure First (d : ByteArray) : Prop where
  len : 8 ≤ sizeV d
  le : sizeV d ≤ d.size
  right : rightB (firstA d) = true
  wr : writeV (firstA d) = d.extract 0 (sizeV d).toNat
  z : firstZ d = sizeV d
theorem first_of {d : ByteArray} (h : firstE d = 0) : First d := by
  have hA : firstA d = readV (d.extract 0 (sizeV d).toNat) := by unfold firstA; rw [if_pos h]
  have hZ : firstZ d = sizeV d := by unfold firstZ; rw [if_pos h]
  have h' := h
  unfold firstE at h'
  split at h'
  · cases h'
  · split at h'
    · cases h'
    · split at h'
      · cases h'
      · split at h'
        · next hh => exact ⟨by omega, by omega, by rw [hA]; exact hh.1, by rw [hA]; exact hh.2, hZ⟩
        · cases h'
theorem cut_append (d : ByteArray) (z : Nat) (h : z ≤ d.size) : d = d.extract 0 z ++ d.extract z d.size := by
  apply ba_ext
  have hs : d.size = d.data.toList.length := by simp
  simp only [ba_append, ByteArray.data_extract, Array.toList_extract]
  rw [List.extract_eq_take_drop, List.extract_eq_take_drop]
  simp only [List.drop_zero, Nat.sub_zero]
  rw [List.take_of_length_le (l := List.drop z d.data.toList) (by rw [List.length_drop]; omega), List.take_append_drop]
theorem ext_left (x t : ByteArray) (n : Nat) (h : x.size = n) : (x ++ t).extract 0 n = x := by rw [← h]; exact extract_left x t
theorem ext_right (x t : ByteArray) (n : Nat) (h : x.size = n) : (x ++ t).extract n (x ++ t).size = t := by rw [← h]; exact extract_right x t
theorem ext_mid (x y t : ByteArray) (hx : x.size = 2) (hy : y.size = 2) : (x ++ (y ++ t)).extract 2 4 = y := by
  apply ba_ext
  have lx : x.data.toList.length = 2 := by simpa using hx
  have ly : y.data.toList.length = 2 := by simpa using hy
  simp only [ByteArray.data_extract, Array.toList_extract]
  rw [List.extract_eq_take_drop, ba_append, ba_append, List.drop_append_of_le_length (by omega), List.drop_of_length_le (by omega), List.nil_append, List.take_append_of_le_length (by omega), List.take_of_length_le (by omega)]
theorem size_write {a : A} (h : rightB a = true) (t : ByteArray) : sizeV (writeV a ++ t) = ksV a.1 := by
  have key : ∀ (n : Int) (z : Nat) (r : ByteArray), 0 ≤ (z : Int) → (z : Int) ≤ 65535 → sizeV (pb n 2 ++ (pb (z : Int) 2 ++ r)) = z := fun n z r h0 h1 => by
    unfold sizeV
    rw [ext_mid _ _ _ (pb_size _ _) (pb_size _ _)]
    have := num2_ap (z : Int) ⟨#[]⟩ h0 h1
    rwa [show pb (z : Int) 2 ++ (⟨#[]⟩ : ByteArray) = pb (z : Int) 2 by apply ba_ext; simp] at this
  rcases right_cases h with ⟨h1, _⟩ | ⟨h1, _⟩ | ⟨h1, _⟩ | ⟨h1, _⟩ | ⟨h1, _⟩ <;>
  · obtain ⟨k, f, v⟩ := a
    simp only at h1
    subst h1
    first
      | (rw [wr1, ap_assoc, ap_assoc]; exact key 0 16 _ (by omega) (by omega))
      | (rw [wr2, ap_assoc, ap_assoc]; exact key 22 8 _ (by omega) (by omega))
      | (rw [wr3, ap_assoc, ap_assoc]; exact key 17 8 _ (by omega) (by omega))
      | (rw [wr4, ap_assoc, ap_assoc]; exact key 18 8 _ (by omega) (by omega))
      | (rw [wr5, ap_assoc, ap_assoc]; exact key 25 16 _ (by omega) (by omega))
theorem first_write {a : A} (h : rightB a = true) (hw : 0 ≤ a.2.2) (t : ByteArray) : firstE (writeV a ++ t) = 0 ∧ firstA (writeV a ++ t) = a ∧ firstZ (writeV a ++ t) = (writeV a).size := by
  have hs := size_write h t
  have hl := encS_len1 a h
  have hk : 8 ≤ ksV a.1 := by unfold ksV; split <;> omega
  have hsz : (writeV a ++ t).size = ksV a.1 + t.size := by rw [ByteArray.size_append, hl]
  have hx : (writeV a ++ t).extract 0 (ksV a.1) = writeV a := ext_left _ _ _ hl
  have hE : firstE (writeV a ++ t) = 0 := by
    unfold firstE
    rw [hs, Int.toNat_natCast, hx, read_write h hw, hsz, if_neg (by omega), if_neg (by omega), if_neg (by omega), if_pos ⟨h, rfl⟩]
  refine ⟨hE, ?_, ?_⟩
  · unfold firstA
    rw [if_pos hE, hs, Int.toNat_natCast, hx, read_write h hw]
  · unfold firstZ
    rw [if_pos hE, hs, hl]
/-- All of them. -/
def decGo : Nat → ByteArray → List A → List A × Int
  | 0, _, acc => (acc, 0)
  | n + 1, d, acc => if d.size = 0 then (acc, 0) else if firstE d = 0 then decGo n (d.extract (firstZ d).toNat d.size) (if acc.length ≤ 32 then acc ++ [firstA d] else acc) else ([], firstE d)
def decR (d : ByteArray) : List A × Int := if (decGo d.size d []).2 = 0 ∧ 32 < (decGo d.size d []).1.length then ([], 44) else decGo d.size d []
theorem first_rest {d : ByteArray} (h : firstE d = 0) : (d.extract (firstZ d).toNat d.size).size < d.size := by
  have f := first_of h
  rw [f.z, ByteArray.size_extract]
  have := f.len
  have := f.le
  omega
theorem decGo_fuel : ∀ (n : Nat) (d : ByteArray) (acc : List A), d.size ≤ n → decGo n d acc = decGo d.size d acc := by
  intro n
  induction n using Nat.strongRecOn with
  | ind n ih =>
    intro d acc hd
    cases n with
    | zero => rw [show d.size = 0 by omega]
    | succ n =>
      cases hs : d.size with
      | zero => simp [decGo, hs]
      | succ m =>
        rw [decGo, decGo, hs]
        have hne : ¬ (m + 1 = 0) := by omega
        rw [if_neg hne, if_neg hne]
        by_cases he : firstE d = 0
        · have := first_rest he
          rw [hs] at this
          rw [if_pos he, if_pos he, ih n (by omega) _ _ (by omega), ih m (by omega) _ _ (by omega)]
        · rw [if_neg he, if_neg he]
theorem decGo_step {d : ByteArray} (acc : List A) (hd : d.size ≠ 0) (he : firstE d = 0) : decGo d.size d acc = decGo (d.extract (firstZ d).toNat d.size).size (d.extract (firstZ d).toNat d.size) (if acc.length ≤ 32 then acc ++ [firstA d] else acc) := by
  obtain ⟨m, hm⟩ : ∃ m, d.size = m + 1 := ⟨d.size - 1, by omega⟩
  have := first_rest he
  have e : decGo d.size d acc = decGo (m + 1) d acc := by rw [hm]
  rw [e, decGo, if_neg hd, if_pos he, decGo_fuel m _ _ (by omega)]
theorem decGo_stop {d : ByteArray} (acc : List A) (hd : d.size ≠ 0) (he : firstE d ≠ 0) : decGo d.size d acc = ([], firstE d) := by
  obtain ⟨m, hm⟩ : ∃ m, d.size = m + 1 := ⟨d.size - 1, by omega⟩
  have e : decGo d.size d acc = decGo (m + 1) d acc := by rw [hm]
  rw [e, decGo, if_neg hd, if_neg he]
theorem decGo_end {d : ByteArray} (acc : List A) (hd : d.size = 0) : decGo d.size d acc = (acc, 0) := by rw [hd]; rfl
theorem decGo_is : ∀ (n : Nat) (d : ByteArray) (acc : List A), d.size ≤ n → (decGo n d acc).2 = 0 → acc.length ≤ (decGo n d acc).1.length ∧ ((decGo n d acc).1.length ≤ 32 → ∃ t, allB t = true ∧ (decGo n d acc).1 = acc ++ t ∧ d = encL t)
  | 0, d, acc, hd, _ => ⟨Nat.le_refl _, fun _ => ⟨[], rfl, by simp [decGo], by
      apply ba_ext
      have h1 : d.size = 0 := by omega
      have : d.data.toList.length = 0 := by simpa using h1
      rw [List.length_eq_zero_iff.1 this]
      rfl⟩⟩
  | n + 1, d, acc, hd, h0 => by
    by_cases hs : d.size = 0
    · rw [decGo, if_pos hs]
      exact ⟨Nat.le_refl _, fun _ => ⟨[], rfl, by simp, by
        apply ba_ext
        have : d.data.toList.length = 0 := by simpa using hs
        rw [List.length_eq_zero_iff.1 this]
        rfl⟩⟩
    · by_cases he : firstE d = 0
      · have f := first_of he
        have hr := first_rest he
        rw [decGo, if_neg hs, if_pos he] at h0 ⊢
        obtain ⟨i1, i2⟩ := decGo_is n _ _ (by omega) h0
        by_cases ha : acc.length ≤ 32
        · rw [if_pos ha] at i1 i2 ⊢
          rw [List.length_append] at i1
          refine ⟨by omega, fun h32 => ?_⟩
          obtain ⟨t, t1, t2, t3⟩ := i2 h32
          refine ⟨firstA d :: t, by unfold allB at t1 ⊢; rw [List.all_cons, t1, f.right]; rfl, by rw [t2]; simp, ?_⟩
          show d = writeV (firstA d) ++ encL t
          rw [f.wr, ← t3, f.z]
          exact cut_append d _ (by have := f.le; have := f.len; omega)
        · rw [if_neg ha] at i1 i2 ⊢
          exact ⟨i1, fun h32 => by omega⟩
      · rw [decGo, if_neg hs, if_neg he] at h0
        exact absurd h0 he
theorem decGo_of : ∀ (t : List A) (acc : List A), allB t = true → (∀ a ∈ t, 0 ≤ a.2.2) → acc.length + t.length ≤ 32 → decGo (encL t).size (encL t) acc = (acc ++ t, 0)
  | [], acc, _, _, _ => by
    rw [decGo_end acc (show (encL []).size = 0 from rfl)]; simp
  | a :: t, acc, h, hw, hl => by
    unfold allB at h
    rw [List.all_cons, Bool.and_eq_true] at h
    have hwa := hw a List.mem_cons_self
    obtain ⟨f1, f2, f3⟩ := first_write h.1 hwa (encL t)
    have hsz := encS_len1 a h.1
    have hk : 8 ≤ ksV a.1 := by unfold ksV; split <;> omega
    have e : encL (a :: t) = writeV a ++ encL t := rfl
    rw [e, decGo_step acc (by rw [ByteArray.size_append]; omega) f1, f2, f3, Int.toNat_natCast, extract_right]
    rw [List.length_cons] at hl
    rw [if_pos (by omega), decGo_of t (acc ++ [a]) (by unfold allB; exact h.2) (fun x hx => hw x (List.mem_cons_of_mem _ hx)) (by rw [List.length_append, List.length_cons, List.length_nil]; omega)]
    simp
/-- What is encoded is decoded, and what is decoded is encoded again. -/
theorem dec_enc (l : List A) (h : encodeE l = 0) (hw : ∀ a ∈ l, 0 ≤ a.2.2) : decR (encodeS l) = (l, 0) := by
  have hall : allB l = true := by
    unfold encodeE at h
    split at h
    · assumption
    · cases h
  have h32 : l.length ≤ 32 := by
    unfold encodeE at h
    rw [hall] at h
    simp at h
    omega
  have e : encodeS l = encL l := by unfold encodeS; rw [if_pos h]
  rw [e]
  have g := decGo_of l [] hall hw (by simpa using h32)
  rw [List.nil_append] at g
  unfold decR
  rw [g, if_neg (by simp; omega)]
theorem enc_dec (d : ByteArray) (h : (decR d).2 = 0) : encodeE (decR d).1 = 0 ∧ encodeS (decR d).1 = d := by
  unfold decR at h ⊢
  split at h
  · cases h
  · next hn =>
    rw [if_neg hn]
    obtain ⟨i1, i2⟩ := decGo_is d.size d [] (Nat.le_refl _) h
    have h32 : (decGo d.size d []).1.length ≤ 32 := by
      rcases Nat.lt_or_ge 32 (decGo d.size d []).1.length with x | x
      · exact absurd ⟨h, x⟩ hn
      · exact x
    obtain ⟨t, t1, t2, t3⟩ := i2 h32
    rw [List.nil_append] at t2
    rw [t2] at h32 ⊢
    have e : encodeE t = 0 := by unfold encodeE; rw [t1]; simp [h32]
    exact ⟨e, by unfold encodeS; rw [if_pos e, ← t3]⟩
theorem dec_bad : ∀ (n : Nat) (d : ByteArray) (acc : List A), (decGo n d acc).2 ≠ 0 → (decGo n d acc).1 = []
  | 0, _, _, h => by simp [decGo] at h
  | n + 1, d, acc, h => by
    rw [decGo] at h ⊢
    split
    · next hs => rw [if_pos hs] at h; simp at h
    · next hs =>
      rw [if_neg hs] at h
      split
      · next he => rw [if_pos he] at h; exact dec_bad n _ _ h
      · rfl
theorem decR_bad (d : ByteArray) (h : (decR d).2 ≠ 0) : (decR d).1 = [] := by
  unfold decR at h ⊢
  split
  · rfl
  · next hn => rw [if_neg hn] at h; exact dec_bad _ _ _ h
end Go.Proofs.YtcbhkbiofmimbaaDoor

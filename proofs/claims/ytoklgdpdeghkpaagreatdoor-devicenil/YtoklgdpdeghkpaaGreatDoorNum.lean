/-
  Numbers as bytes, and a reader of bytes as plain functions: the plain mathematics (nothing of the program).
-/
import Derived.Test.YtoklgdpdeghkpaaGreatDoorBits
import Derived.Laws.BytesArg
namespace Go.Proofs.YtoklgdpdeghkpaaGreatDoor

/-- A number's last k bytes, the highest one first. -/
def pieces (n : Int) : Nat → List Int
  | 0 => []
  | k + 1 => pieces (n / 256) k ++ [n % 256]
def szB (n : Int) : Bool := decide (1 ≤ n) && decide (n ≤ 8)

/-- One byte more: 'n<<8 | uint64(c)'. -/
def stepN (v : Int) (c : UInt8) : Int := bits .or .u64 (IntKind.u64.wrap (v * 256)) (IntKind.u64.wrap (c.toNat : Int))
def numOf (l : List UInt8) : Int := l.foldl stepN 0


theorem stepN_eq (v : Int) (c : UInt8) (h0 : 0 ≤ v) (h1 : v < 72057594037927936) : stepN v c = v * 256 + (c.toNat : Int) := by
  have hc : (c.toNat : Int) < 256 := by have := c.toNat_lt; omega
  unfold stepN
  rw [wraps_u64 _ (by omega) (by omega), wraps_u64 _ (by omega) (by omega)]
  exact bits_join .u64 64 (by decide) wraps_u64 8 _ _ (by omega) (by omega) (by omega) (by omega) (by omega) (by omega)

theorem numOf_snoc (l : List UInt8) (c : UInt8) : numOf (l ++ [c]) = stepN (numOf l) c := by simp [numOf]

/-- The bytes of a number are its number. -/
theorem numOf_pieces : ∀ (k : Nat) (n : Int), k ≤ 8 → 0 ≤ n → n < 256 ^ k → numOf ((pieces n k).map fun n => UInt8.ofNat n.toNat) = n
  | 0, n, _, h0, h1 => by
    have : n = 0 := by simp at h1; omega
    subst this; rfl
  | k + 1, n, hk, h0, h1 => by
    have hd : n / 256 < 256 ^ k := by
      apply Int.ediv_lt_of_lt_mul (by omega)
      rw [Int.pow_succ] at h1; exact h1
    have ih := numOf_pieces k (n / 256) (by omega) (by omega) hd
    have hb : (256 : Int) ^ k ≤ 72057594037927936 := by
      have h := Nat.pow_le_pow_right (show 0 < 256 by decide) (show k ≤ 7 by omega)
      have h2 : ((256 ^ k : Nat) : Int) ≤ 72057594037927936 := by omega
      rwa [Int.natCast_pow] at h2
    simp only [pieces, List.map_append, List.map_cons, List.map_nil, numOf_snoc, ih]
    rw [stepN_eq _ _ (by omega) (by omega), UInt8.toNat_ofNat']
    omega

theorem pieces_length : ∀ (k : Nat) (n : Int), (pieces n k).length = k
  | 0, _ => rfl
  | k + 1, n => by simp [pieces, pieces_length k]

theorem take_snoc (s : ByteArray) (k : Nat) (h : k < s.size) : s.data.toList.take (k + 1) = s.data.toList.take k ++ [s[k]] := by
  rw [List.take_succ_eq_append_getElem (by simpa using h)]; rfl

theorem numOf_take (s : ByteArray) (k : Nat) (h : k < s.size) : numOf (s.data.toList.take (k + 1)) = stepN (numOf (s.data.toList.take k)) s[k] := by
  rw [take_snoc s k h, numOf_snoc]
/-- The number of few bytes is small. -/
theorem numOf_lt : ∀ (l : List UInt8), l.length ≤ 8 → 0 ≤ numOf l ∧ numOf l < 256 ^ l.length := by
  intro l
  induction h : l.length generalizing l with
  | zero => intro _; rw [List.length_eq_zero_iff] at h; subst h; exact ⟨by decide, by decide⟩
  | succ k ih =>
    intro hk
    have hne : l ≠ [] := by intro h0; subst h0; simp at h
    have e := List.dropLast_concat_getLast hne
    have hl : l.dropLast.length = k := by simp [h]
    obtain ⟨i0, i1⟩ := ih l.dropLast hl (by omega)
    rw [← e, numOf_snoc]
    have hb : (256 : Int) ^ k ≤ 72057594037927936 := by
      have h := Nat.pow_le_pow_right (show 0 < 256 by decide) (show k ≤ 7 by omega)
      have h2 : ((256 ^ k : Nat) : Int) ≤ 72057594037927936 := by omega
      rwa [Int.natCast_pow] at h2
    have hc := (l.getLast hne).toNat_lt
    rw [stepN_eq _ _ i0 (by omega), Int.pow_succ]
    omega

/-- A number's bytes. -/
def pb (n : Int) (k : Nat) : ByteArray := strOfNums (pieces n k)
theorem pb_size (n : Int) (k : Nat) : (pb n k).size = k := by unfold pb; rw [strOfNums_size, pieces_length]
theorem ba_ext {a b : ByteArray} (h : a.data.toList = b.data.toList) : a = b := by
  cases a; cases b; simpa using h
theorem ba_append (a b : ByteArray) : (a ++ b).data.toList = a.data.toList ++ b.data.toList := by simp
theorem strOf_list (l : List Int) : (strOfNums l).data.toList = l.map fun n => UInt8.ofNat n.toNat := by simp [strOfNums]
def noB : ByteArray := ⟨#[]⟩
/-- What 'take' answers, and what is left, and what is wrong behind it. -/
def takeV (s : ByteArray) (e n : Int) (may : Bool) : ByteArray := if e = 0 ∧ may = true ∧ n ≤ s.size then s.extract 0 n.toNat else noB
def takeS (s : ByteArray) (e n : Int) (may : Bool) : ByteArray := if e = 0 then (if may = true ∧ n ≤ s.size then s.extract n.toNat s.size else noB) else s
def takeE (s : ByteArray) (e n : Int) (may : Bool) : Int := if e = 0 then (if may = true then (if n ≤ s.size then 0 else 10) else 1) else e

theorem takeV_size (s : ByteArray) (e n : Int) (may : Bool) : (takeV s e n may).size ≤ s.size := by
  unfold takeV; split
  · rw [ByteArray.size_extract]; omega
  · exact Nat.zero_le _

def numV (s : ByteArray) (e n : Int) : Int := numOf (takeV s e n (szB n)).data.toList
/-- A reader: what is left, and what is wrong. -/
structure RS where
  s : ByteArray
  e : Int
def RS.num (r : RS) (n : Int) : Int := numV r.s r.e n
def RS.skip (r : RS) (n : Int) : RS := ⟨takeS r.s r.e n (szB n), takeE r.s r.e n (szB n)⟩
def RS.jump (r : RS) (n : Int) : RS := ⟨takeS r.s r.e n (decide (0 ≤ n)), takeE r.s r.e n (decide (0 ≤ n))⟩
def RS.bytes (r : RS) (n : Int) : ByteArray := takeV r.s r.e n (decide (0 ≤ n))

theorem takeS_size (s : ByteArray) (e n : Int) (may : Bool) : (takeS s e n may).size ≤ s.size := by
  unfold takeS; split
  · split
    · rw [ByteArray.size_extract]; omega
    · exact Nat.zero_le _
  · exact Nat.le_refl _
theorem RS.skip_size (r : RS) (n : Int) : (r.skip n).s.size ≤ r.s.size := takeS_size _ _ _ _
theorem RS.jump_size (r : RS) (n : Int) : (r.jump n).s.size ≤ r.s.size := takeS_size _ _ _ _

theorem takeV_le (s : ByteArray) (e : Int) (k : Nat) (may : Bool) : (takeV s e k may).size ≤ k := by
  unfold takeV; split
  · rw [ByteArray.size_extract]; omega
  · exact Nat.zero_le _
theorem RS.num_lt (r : RS) (k : Nat) (hk : k ≤ 8) : 0 ≤ r.num k ∧ r.num k < 256 ^ k := by
  unfold RS.num numV
  have h := takeV_le r.s r.e k (szB k)
  have hl : (takeV r.s r.e k (szB k)).data.toList.length ≤ k := by simpa using h
  obtain ⟨a, b⟩ := numOf_lt (takeV r.s r.e k (szB k)).data.toList (by omega)
  refine ⟨a, Int.lt_of_lt_of_le b ?_⟩
  have := Nat.pow_le_pow_right (show 0 < 256 by decide) hl
  have h2 := Int.ofNat_le.mpr this
  rw [Int.natCast_pow, Int.natCast_pow] at h2
  exact h2

theorem ap_assoc (a b c : ByteArray) : a ++ b ++ c = a ++ (b ++ c) := by apply ba_ext; simp
theorem pb_list (n : Int) (k : Nat) : (pb n k).data.toList = (pieces n k).map fun n => UInt8.ofNat n.toNat := strOf_list _
theorem pb_len (n : Int) (k : Nat) : (pb n k).data.toList.length = k := by rw [pb_list, List.length_map, pieces_length]

theorem extract_left (x t : ByteArray) : (x ++ t).extract 0 x.size = x := by
  apply ba_ext; simp
  exact List.take_of_length_le (by simp)
theorem extract_right (x t : ByteArray) : (x ++ t).extract x.size (x ++ t).size = t := by
  apply ba_ext
  have e : x.size = x.data.toList.length := by simp
  simp only [ByteArray.data_extract, Array.toList_extract, ByteArray.data_append, ByteArray.size_append]
  rw [List.extract_eq_take_drop, e, Array.toList_append, List.drop_left]
  exact List.take_of_length_le (by simp)

theorem skip_ap (x t : ByteArray) (k : Nat) (hx : x.size = k) (hs : szB k = true) : (⟨x ++ t, 0⟩ : RS).skip k = ⟨t, 0⟩ := by
  have hle : (k : Int) ≤ ((x ++ t).size : Int) := by rw [ByteArray.size_append]; omega
  unfold RS.skip takeS takeE
  simp only [hs, hle, and_self, if_true, Int.toNat_natCast]
  rw [← hx, extract_right]
theorem num_ap (n : Int) (t : ByteArray) (k : Nat) (hk : k ≤ 8) (hs : szB k = true) (h0 : 0 ≤ n) (h1 : n < 256 ^ k) : (⟨pb n k ++ t, 0⟩ : RS).num k = n := by
  have hx := pb_size n k
  have hle : (k : Int) ≤ ((pb n k ++ t).size : Int) := by rw [ByteArray.size_append]; omega
  unfold RS.num numV takeV
  simp only [hs, hle, and_self, if_true, Int.toNat_natCast]
  have e : (pb n k ++ t).extract 0 k = pb n k := by
    have := extract_left (pb n k) t
    rwa [hx] at this
  rw [e, pb_list]
  exact numOf_pieces k n hk h0 h1
theorem jump_ap (x t : ByteArray) (k : Nat) (hx : x.size = k) : (⟨x ++ t, 0⟩ : RS).jump k = ⟨t, 0⟩ := by
  have hle : (k : Int) ≤ ((x ++ t).size : Int) := by rw [ByteArray.size_append]; omega
  have h0 : (0 : Int) ≤ (k : Int) := by omega
  unfold RS.jump takeS takeE
  simp only [h0, hle, and_self, if_true, Int.toNat_natCast, decide_true]
  rw [← hx, extract_right]
theorem bytes_all (t : ByteArray) : (⟨t, 0⟩ : RS).bytes t.size = t := by
  unfold RS.bytes takeV
  simp only [Int.natCast_nonneg, decide_true, Int.le_refl, and_self, if_true, Int.toNat_natCast]
  apply ba_ext; simp

theorem num1_ap (n : Int) (t : ByteArray) (h0 : 0 ≤ n) (h1 : n ≤ 255) : (⟨pb n 1 ++ t, 0⟩ : RS).num 1 = n := num_ap n t 1 (by omega) (by decide) h0 (by omega)
theorem num2_ap (n : Int) (t : ByteArray) (h0 : 0 ≤ n) (h1 : n ≤ 65535) : (⟨pb n 2 ++ t, 0⟩ : RS).num 2 = n := num_ap n t 2 (by omega) (by decide) h0 (by omega)
theorem num4_ap (n : Int) (t : ByteArray) (h0 : 0 ≤ n) (h1 : n < 4294967296) : (⟨pb n 4 ++ t, 0⟩ : RS).num 4 = n := num_ap n t 4 (by omega) (by decide) h0 (by omega)
theorem num6_ap (n : Int) (t : ByteArray) (h0 : 0 ≤ n) (h1 : n < 281474976710656) : (⟨pb n 6 ++ t, 0⟩ : RS).num 6 = n := num_ap n t 6 (by omega) (by decide) h0 (by omega)
theorem skip1_ap (n : Int) (t : ByteArray) : (⟨pb n 1 ++ t, 0⟩ : RS).skip 1 = ⟨t, 0⟩ := skip_ap _ t 1 (pb_size _ _) (by decide)
theorem skip2_ap (n : Int) (t : ByteArray) : (⟨pb n 2 ++ t, 0⟩ : RS).skip 2 = ⟨t, 0⟩ := skip_ap _ t 2 (pb_size _ _) (by decide)
theorem skip4_ap (n : Int) (t : ByteArray) : (⟨pb n 4 ++ t, 0⟩ : RS).skip 4 = ⟨t, 0⟩ := skip_ap _ t 4 (pb_size _ _) (by decide)
theorem skip6_ap (n : Int) (t : ByteArray) : (⟨pb n 6 ++ t, 0⟩ : RS).skip 6 = ⟨t, 0⟩ := skip_ap _ t 6 (pb_size _ _) (by decide)

end Go.Proofs.YtoklgdpdeghkpaaGreatDoor

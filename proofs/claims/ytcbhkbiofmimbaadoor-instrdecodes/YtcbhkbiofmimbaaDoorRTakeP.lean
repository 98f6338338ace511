/-
  When the document takes a part: just when it is written again: the plain mathematics (nothing of the program).
-/
import Derived.Test.YtcbhkbiofmimbaaDoorRDec6
import Derived.Test.YtcbhkbiofmimbaaDoorEMath
namespace Go.Proofs.YtcbhkbiofmimbaaDoor

theorem pieces_num : ∀ (n : Nat) (l : List UInt8), l.length = n → n ≤ 8 → (pieces (numOf l) n).map (fun n => UInt8.ofNat n.toNat) = l
  | 0, l, h, _ => by rw [List.length_eq_zero_iff.1 h]; rfl
  | n + 1, l, h, hn => by
    have hne : l ≠ [] := by intro h0; subst h0; simp at h
    have e := List.dropLast_concat_getLast hne
    have hl : l.dropLast.length = n := by simp [h]
    have ih := pieces_num n l.dropLast hl (by omega)
    obtain ⟨b0, b1⟩ := numOf_lt l.dropLast (by omega)
    have hb : (256 : Int) ^ l.dropLast.length ≤ 72057594037927936 := by
      have h := Nat.pow_le_pow_right (show 0 < 256 by decide) (show l.dropLast.length ≤ 7 by omega)
      have h2 : ((256 ^ l.dropLast.length : Nat) : Int) ≤ 72057594037927936 := by omega
      rwa [Int.natCast_pow] at h2
    have hc := (l.getLast hne).toNat_lt
    have hv : numOf l = numOf l.dropLast * 256 + ((l.getLast hne).toNat : Int) := by
      conv => lhs; rw [← e, numOf_snoc]
      exact stepN_eq _ _ b0 (by omega)
    rw [hv, pieces, show (numOf l.dropLast * 256 + ((l.getLast hne).toNat : Int)) / 256 = numOf l.dropLast by omega, show (numOf l.dropLast * 256 + ((l.getLast hne).toNat : Int)) % 256 = ((l.getLast hne).toNat : Int) by omega, List.map_append, ih]
    conv => rhs; rw [← e]
    simp
theorem pb_num (l : ByteArray) (k : Nat) (h : l.size = k) (hk : k ≤ 8) : pb (numOf l.data.toList) k = l := by
  apply ba_ext
  rw [pb_list]
  exact pieces_num k _ (by rw [len_size]; exact h) hk
theorem pb_nm (s : ByteArray) (i j : Nat) (h : j ≤ s.size) (hij : i ≤ j) (hk : j ≤ i + 8) : pb (nm s i j) (j - i) = s.extract i j :=
  pb_num _ _ (by rw [ByteArray.size_extract]; omega) (by omega)
theorem ext_ext (s : ByteArray) (i n a b : Nat) : (s.extract i n).extract a b = s.extract (i + a) (min (i + b) n) := by
  apply ba_ext
  simp only [ByteArray.data_extract, Array.toList_extract, List.extract_eq_take_drop, List.drop_take, List.take_take, List.drop_drop]
  congr 1
  omega
theorem ext_split (s : ByteArray) (i j k : Nat) (h1 : i ≤ j) (h2 : j ≤ k) (h3 : k ≤ s.size) : s.extract i k = s.extract i j ++ s.extract j k := by
  have hz : (s.extract i k).size = k - i := by rw [ByteArray.size_extract]; omega
  have e := cut_append (s.extract i k) (j - i) (by omega)
  rw [ext_ext, ext_ext, hz] at e
  rw [e]
  congr 2 <;> omega
theorem s_split (s : ByteArray) (h : 4 ≤ s.size) : s = pb (nm s 0 2) 2 ++ (pb (nm s 2 4) 2 ++ s.extract 4 s.size) := by
  have e := ext_all s s.size (Nat.le_refl _)
  rw [ext_split s 0 2 s.size (by omega) (by omega) (by omega), ext_split s 2 4 s.size (by omega) (by omega) (by omega)] at e
  have a := pb_nm s 0 2 (by omega) (by omega) (by omega)
  have b := pb_nm s 2 4 (by omega) (by omega) (by omega)
  rw [show 2 - 0 = 2 from rfl] at a
  rw [show 4 - 2 = 2 from rfl] at b
  rw [a, b]
  exact e.symm
theorem num2_nm (s : ByteArray) (h : 2 ≤ s.size) : num2 s = nm s 0 2 := by
  have hle : (2 : Int) ≤ (s.size : Int) := by omega
  unfold num2 RS.num numV takeV nm
  rw [if_pos ⟨rfl, by decide, hle⟩]
  rfl
/-- A part of its own length. -/
structure Pt (s : ByteArray) (p : Int) : Prop where
  z : 8 ≤ s.size
  p : nm s 0 2 = p
  n : nm s 2 4 = s.size
theorem part_iff {s : ByteArray} {p : Int} (h : Pt s p) (y : Sp) : partX p y = s ↔ hasX p y = true ∧ bodyX p y = s.extract 4 s.size := by
  have hz := h.z
  have e := s_split s (by omega)
  rw [h.p, h.n] at e
  constructor
  · intro hp
    have hb : hasX p y = true := by
      cases hb : hasX p y with
      | true => rfl
      | false =>
        rw [has_none hb] at hp
        rw [← hp] at hz
        have : (⟨#[]⟩ : ByteArray).size = 0 := rfl
        omega
    refine ⟨hb, ?_⟩
    have e2 := has_some hb
    rw [← ap_assoc] at e2
    rw [← hp, e2]
    exact (ext_from _ _ 4 (by simp only [ByteArray.size_append, pb_size])).symm
  · intro ⟨hb, hB⟩
    have ht : (s.extract 4 s.size).size = s.size - 4 := by rw [ByteArray.size_extract]; omega
    rw [has_some hb, hB, ht, show (4 : Int) + ((s.size - 4 : Nat) : Int) = (s.size : Int) by omega]
    exact e.symm
theorem rs4_4 (s : ByteArray) (h : 8 ≤ s.size) : (rs4 s).num 4 = nm s 4 8 := by
  have hz : (s.extract 4 s.size).size = s.size - 4 := by rw [ByteArray.size_extract]; omega
  unfold rs4 RS.num numV takeV nm
  rw [if_pos ⟨rfl, by decide, by show (4 : Int) ≤ ((s.extract 4 s.size).size : Int); omega⟩]
  show numOf ((s.extract 4 s.size).extract 0 4).data.toList = _
  rw [ext_ext, show min (4 + 4) s.size = 8 by omega]
theorem rs4_1 (s : ByteArray) (h : 8 ≤ s.size) : (rs4 s).num 1 = nm s 4 5 := by
  have hz : (s.extract 4 s.size).size = s.size - 4 := by rw [ByteArray.size_extract]; omega
  unfold rs4 RS.num numV takeV nm
  rw [if_pos ⟨rfl, by decide, by show (1 : Int) ≤ ((s.extract 4 s.size).size : Int); omega⟩]
  show numOf ((s.extract 4 s.size).extract 0 1).data.toList = _
  rw [ext_ext, show min (4 + 1) s.size = 5 by omega]
theorem rs4_s4 (s : ByteArray) (h : 8 ≤ s.size) : (rs4 s).skip 4 = ⟨s.extract 8 s.size, 0⟩ := by
  have hz : (s.extract 4 s.size).size = s.size - 4 := by rw [ByteArray.size_extract]; omega
  have e : s.extract 4 s.size = s.extract 4 8 ++ s.extract 8 s.size := ext_split s 4 8 s.size (by omega) (by omega) (by omega)
  unfold rs4
  rw [e]
  exact skip_ap _ _ 4 (by rw [ByteArray.size_extract]; omega) (by decide)
theorem mt_24 (s : ByteArray) (h : s.size = 24) : ((rs4 s).skip 4).num 8 = nm s 8 16 ∧ (((rs4 s).skip 4).skip 8).num 8 = nm s 16 24 := by
  rw [rs4_s4 s (by omega), h]
  have e : s.extract 8 24 = s.extract 8 16 ++ s.extract 16 24 := ext_split s 8 16 24 (by omega) (by omega) (by omega)
  have z1 : (s.extract 8 16).size = 8 := by rw [ByteArray.size_extract]; omega
  have z2 : (s.extract 16 24).size = 8 := by rw [ByteArray.size_extract]; omega
  refine ⟨?_, ?_⟩
  · unfold RS.num numV takeV nm
    rw [if_pos ⟨rfl, by decide, by show (8 : Int) ≤ ((s.extract 8 24).size : Int); rw [e, ByteArray.size_append]; omega⟩]
    show numOf ((s.extract 8 24).extract 0 8).data.toList = _
    rw [ext_ext]
    rfl
  · rw [e]
    have e2 : (⟨s.extract 8 16 ++ s.extract 16 24, 0⟩ : RS).skip 8 = ⟨s.extract 16 24, 0⟩ := skip_ap _ _ 8 z1 (by decide)
    rw [e2]
    unfold RS.num numV takeV nm
    rw [if_pos ⟨rfl, by decide, by show (8 : Int) ≤ ((s.extract 16 24).size : Int); omega⟩]
    show numOf ((s.extract 16 24).extract 0 8).data.toList = _
    rw [ext_ext]
    rfl
theorem nm_byte (s : ByteArray) (i : Nat) (h : i < s.size) : nm s i (i + 1) = byteAt s i := by
  have hl : i < s.data.toList.length := by rw [len_size]; exact h
  have e : (s.extract i (i + 1)).data.toList = [s.data.toList.getD i 0] := by
    simp only [ByteArray.data_extract, Array.toList_extract, List.extract_eq_take_drop]
    rw [show i + 1 - i = 1 by omega, List.getD_eq_getElem?_getD, List.getElem?_eq_getElem hl, List.drop_eq_getElem_cons hl]
    rfl
  unfold nm byteAt
  rw [e]
  show stepN 0 _ = _
  rw [stepN_eq _ _ (by omega) (by omega)]
  omega
theorem take_6 {s : ByteArray} (h : Pt s 6) (x : Sp) : (s.size = 8 ∧ nm s 4 8 ≠ 0) ↔ partX 6 (readX 6 s x) = s := by
  have hz := h.z
  rw [part_iff h]
  have e : readX 6 s x = { x with met := nm s 4 8 } := by
    show ({ x with met := (rs4 s).num 4 } : Sp) = _
    rw [rs4_4 s hz]
  rw [e]
  show _ ↔ (nm s 4 8 != 0) = true ∧ pb (nm s 4 8) 4 = s.extract 4 s.size
  have hp := pb_nm s 4 8 (by omega) (by omega) (by omega)
  rw [show 8 - 4 = 4 from rfl] at hp
  rw [hp]
  constructor
  · intro ⟨h1, h2⟩
    exact ⟨by simpa using h2, by rw [h1]⟩
  · intro ⟨h1, h2⟩
    have := congrArg ByteArray.size h2
    rw [ByteArray.size_extract, ByteArray.size_extract] at this
    exact ⟨by omega, by simpa using h1⟩
theorem take_5 {s : ByteArray} (h : Pt s 5) (x : Sp) : s.extract 2 s.size = ⟨#[0, 8, 0, 0, 0, 0]⟩ ↔ partX 5 (readX 5 s x) = s := by
  have hz := h.z
  rw [part_iff h]
  show _ ↔ true = true ∧ gap4 = s.extract 4 s.size
  have e := ext_split s 2 4 s.size (by omega) (by omega) (by omega)
  have hp := pb_nm s 2 4 (by omega) (by omega) (by omega)
  rw [show 4 - 2 = 2 from rfl, h.n] at hp
  have z2 : (s.extract 2 4).size = 2 := by rw [ByteArray.size_extract]; omega
  constructor
  · intro h1
    refine ⟨rfl, ?_⟩
    have e2 : (s.extract 2 s.size).extract 2 (s.extract 2 s.size).size = s.extract 4 s.size := by
      rw [e]
      exact ext_from _ _ 2 z2
    rw [← e2, h1]
    decide +kernel
  · intro ⟨_, h2⟩
    have hs : s.size = 8 := by
      have := congrArg ByteArray.size h2
      rw [ByteArray.size_extract] at this
      have g : gap4.size = 4 := rfl
      omega
    rw [e, ← h2, ← hp, hs]
    decide +kernel
theorem take_l {s : ByteArray} (hz : 8 ≤ s.size) : ((decR (s.extract 8 s.size)).2 = 0 ∧ 0 < (decL s).length ∧ s.extract 4 8 = gap4) ↔ (0 < (decL s).length ∧ gap4 ++ encodeS (decL s) = s.extract 4 s.size) := by
  have e := ext_split s 4 8 s.size (by omega) (by omega) (by omega)
  have z4 : (s.extract 4 8).size = 4 := by rw [ByteArray.size_extract]; omega
  constructor
  · intro ⟨h1, h2, h3⟩
    refine ⟨h2, ?_⟩
    unfold decL
    rw [(enc_dec _ h1).2, e, h3]
  · intro ⟨h2, h3⟩
    have h1 : (decR (s.extract 8 s.size)).2 = 0 := by
      by_cases h0 : (decR (s.extract 8 s.size)).2 = 0
      · exact h0
      · unfold decL at h2
        rw [decR_bad _ h0] at h2
        exact absurd h2 (by simp)
    refine ⟨h1, h2, ?_⟩
    have a := ext_left gap4 (encodeS (decL s)) 4 rfl
    have b := ext_left (s.extract 4 8) (s.extract 8 s.size) 4 z4
    rw [← a, ← b, h3, e]
theorem take_4 {s : ByteArray} (h : Pt s 4) (x : Sp) : ((decR (s.extract 8 s.size)).2 = 0 ∧ 0 < (decL s).length ∧ s.extract 4 8 = gap4) ↔ partX 4 (readX 4 s x) = s := by
  rw [part_iff h, take_l h.z, show readX 4 s x = { x with la := decL s } from rfl]
  generalize decL s = L
  show _ ↔ decide (0 < L.length) = true ∧ gap4 ++ encodeS L = s.extract 4 s.size
  simp
theorem take_3 {s : ByteArray} (h : Pt s 3) (x : Sp) : ((decR (s.extract 8 s.size)).2 = 0 ∧ 0 < (decL s).length ∧ s.extract 4 8 = gap4) ↔ partX 3 (readX 3 s x) = s := by
  rw [part_iff h, take_l h.z, show readX 3 s x = { x with lw := decL s } from rfl]
  generalize decL s = L
  show _ ↔ decide (0 < L.length) = true ∧ gap4 ++ encodeS L = s.extract 4 s.size
  simp
theorem take_2 {s : ByteArray} (h : Pt s 2) (x : Sp) : (s.size = 24 ∧ s.extract 4 8 = gap4 ∧ nm s 16 24 ≠ 0) ↔ partX 2 (readX 2 s x) = s := by
  have hz := h.z
  rw [part_iff h]
  by_cases h24 : s.size = 24
  · obtain ⟨e1, e2⟩ := mt_24 s h24
    have e : readX 2 s x = { x with mt := nm s 8 16, mm := nm s 16 24 } := by
      show ({ x with mt := ((rs4 s).skip 4).num 8, mm := (((rs4 s).skip 4).skip 8).num 8 } : Sp) = _
      rw [e1, e2]
    rw [e]
    show _ ↔ (nm s 16 24 != 0) = true ∧ gap4 ++ pb (nm s 8 16) 8 ++ pb (nm s 16 24) 8 = s.extract 4 s.size
    have p1 := pb_nm s 8 16 (by omega) (by omega) (by omega)
    have p2 := pb_nm s 16 24 (by omega) (by omega) (by omega)
    rw [show 16 - 8 = 8 from rfl] at p1
    rw [show 24 - 16 = 8 from rfl] at p2
    rw [p1, p2, h24, ext_split s 4 8 24 (by omega) (by omega) (by omega), ext_split s 8 16 24 (by omega) (by omega) (by omega), ap_assoc]
    have z4 : (s.extract 4 8).size = 4 := by rw [ByteArray.size_extract]; omega
    constructor
    · intro ⟨_, h2, h3⟩
      exact ⟨by simpa using h3, by rw [h2]⟩
    · intro ⟨h3, h2⟩
      refine ⟨rfl, ?_, by simpa using h3⟩
      have a := ext_left gap4 (s.extract 8 16 ++ s.extract 16 24) 4 rfl
      have b := ext_left (s.extract 4 8) (s.extract 8 16 ++ s.extract 16 24) 4 z4
      rw [← a, ← b, h2]
  · constructor
    · intro hh; exact absurd hh.1 h24
    · intro ⟨_, h2⟩
      have := congrArg ByteArray.size h2
      rw [ByteArray.size_extract] at this
      have hb : (bodyX 2 (readX 2 s x)).size = 20 := by
        show (gap4 ++ pb _ 8 ++ pb _ 8).size = 20
        simp only [ByteArray.size_append, pb_size]
        rfl
      omega
theorem take_1 {s : ByteArray} (h : Pt s 1) (x : Sp) : (s.size = 8 ∧ s.extract 5 s.size = ⟨#[0, 0, 0]⟩ ∧ byteAt s 4 ≠ 0) ↔ partX 1 (readX 1 s x) = s := by
  have hz := h.z
  rw [part_iff h]
  have e : readX 1 s x = { x with go := byteAt s 4 } := by
    show ({ x with go := (rs4 s).num 1 } : Sp) = _
    rw [rs4_1 s hz, nm_byte s 4 (by omega)]
  rw [e]
  show _ ↔ (byteAt s 4 != 0) = true ∧ pb (byteAt s 4) 1 ++ gap3 = s.extract 4 s.size
  have p1 := pb_nm s 4 5 (by omega) (by omega) (by omega)
  rw [show 5 - 4 = 1 from rfl, nm_byte s 4 (by omega)] at p1
  have z1 : (s.extract 4 5).size = 1 := by rw [ByteArray.size_extract]; omega
  rw [p1, ext_split s 4 5 s.size (by omega) (by omega) (by omega)]
  constructor
  · intro ⟨_, h2, h3⟩
    exact ⟨by simpa using h3, by rw [h2]; rfl⟩
  · intro ⟨h3, h2⟩
    have a := ext_from (s.extract 4 5) gap3 1 z1
    have b := ext_from (s.extract 4 5) (s.extract 5 s.size) 1 z1
    have hg : s.extract 5 s.size = gap3 := by rw [← a, ← b, h2]
    refine ⟨?_, hg, by simpa using h3⟩
    have := congrArg ByteArray.size hg
    rw [ByteArray.size_extract] at this
    have g : gap3.size = 3 := rfl
    omega
theorem readX6 {s : ByteArray} (h : Pt s 6) (x : Sp) : readX 6 s x = { x with met := nm s 4 8 } := by
  show ({ x with met := (rs4 s).num 4 } : Sp) = _
  rw [rs4_4 s h.z]
theorem readX2 {s : ByteArray} (h : s.size = 24) (x : Sp) : readX 2 s x = { x with mt := nm s 8 16, mm := nm s 16 24 } := by
  obtain ⟨e1, e2⟩ := mt_24 s h
  show ({ x with mt := ((rs4 s).skip 4).num 8, mm := (((rs4 s).skip 4).skip 8).num 8 } : Sp) = _
  rw [e1, e2]
theorem readX1 {s : ByteArray} (h : Pt s 1) (x : Sp) : readX 1 s x = { x with go := byteAt s 4 } := by
  show ({ x with go := (rs4 s).num 1 } : Sp) = _
  rw [rs4_1 s h.z, nm_byte s 4 (by have := h.z; omega)]
end Go.Proofs.YtcbhkbiofmimbaaDoor

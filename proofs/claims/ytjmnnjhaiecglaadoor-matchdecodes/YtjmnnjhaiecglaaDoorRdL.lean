/-
  How the document reads tests, and that it reads what was written: the plain mathematics.
-/
import Derived.Test.YtjmnnjhaiecglaaDoorTrip
namespace Go.Proofs.YtjmnnjhaiecglaaDoor

def byteAt (q : ByteArray) (i : Nat) : Int := ((q.data.toList.getD i 0).toNat : Int)
theorem byteAt_lt (q : ByteArray) (i : Nat) : 0 ≤ byteAt q i ∧ byteAt q i < 256 := by
  unfold byteAt
  have := (q.data.toList.getD i 0).toNat_lt
  omega
def rdF (q : ByteArray) : Int := fieldV (byteAt q 2 / 2)
def rdN (q : ByteArray) : Nat := szV (rdF q)
def rdLong (q : ByteArray) : Nat := if byteAt q 2 % 2 = 1 then 2 * rdN q else rdN q
def rdBad (q : ByteArray) : Bool := (rdF q == 0) || (byteAt q 3 != (rdLong q : Int)) || decide (q.size < 4 + rdLong q)
def rdV (q : ByteArray) : Int := numOf (q.extract 4 (4 + rdN q)).data.toList
def rdM (q : ByteArray) : Int := numOf (q.extract (4 + rdN q) (4 + 2 * rdN q)).data.toList
def rdT (q : ByteArray) : T := (rdF q, rdV q, if byteAt q 2 % 2 = 1 then rdM q else grV (rdF q))
def rdRest (q : ByteArray) : ByteArray := q.extract (4 + rdLong q) q.size
def rdL : Nat → List T → ByteArray → Option (List T)
  | 0, l, _ => some l
  | n + 1, l, q => if 4 ≤ q.size then (if rdBad q = true then none else rdL n (l ++ [rdT q]) (rdRest q)) else some l
theorem rdL_short (n : Nat) (l : List T) (q : ByteArray) (h : ¬ 4 ≤ q.size) : rdL n l q = some l := by
  cases n with
  | zero => rfl
  | succ n => rw [rdL, if_neg h]
theorem rdL_bad (n : Nat) (l : List T) (q : ByteArray) (h : 4 ≤ q.size) (hb : rdBad q = true) : rdL (n + 1) l q = none := by rw [rdL, if_pos h, if_pos hb]
theorem rdL_good (n : Nat) (l : List T) (q : ByteArray) (h : 4 ≤ q.size) (hb : rdBad q = false) : rdL (n + 1) l q = rdL n (l ++ [rdT q]) (rdRest q) := by rw [rdL, if_pos h, hb]; rfl
theorem rdT_w (q : ByteArray) : TW (rdT q) := by
  have hz := szV_le (rdF q)
  have hn : rdN q ≤ 8 := hz
  have p8 : ∀ x : ByteArray, x.size ≤ 8 → 0 ≤ numOf x.data.toList ∧ numOf x.data.toList < 18446744073709551616 := fun x hx => by
    have hl : x.data.toList.length ≤ 8 := by simpa using hx
    have h := numOf_lt x.data.toList hl
    have h2 := Nat.pow_le_pow_right (show 0 < 256 by decide) hl
    have h3 := Int.ofNat_le.mpr h2
    rw [Int.natCast_pow, Int.natCast_pow] at h3
    exact ⟨h.1, Int.lt_of_lt_of_le h.2 h3⟩
  have hv := p8 (q.extract 4 (4 + rdN q)) (by rw [ByteArray.size_extract]; omega)
  have hm := p8 (q.extract (4 + rdN q) (4 + 2 * rdN q)) (by rw [ByteArray.size_extract]; omega)
  have hg := grV_lt (rdF q)
  refine ⟨hv.1, hv.2, ?_, ?_⟩
  · unfold rdT; simp only; split
    · exact hm.1
    · exact hg.1
  · unfold rdT; simp only; split
    · exact hm.2
    · exact hg.2
theorem ext_shift (A X : ByteArray) (i j : Nat) : (A ++ X).extract (A.size + i) (A.size + j) = X.extract i j := by
  apply ba_ext
  have e1 : A.size = A.data.toList.length := by simp
  simp only [ByteArray.data_extract, Array.toList_extract, ByteArray.data_append]
  rw [List.extract_eq_take_drop, List.extract_eq_take_drop, e1, Array.toList_append, List.drop_append, List.drop_of_length_le (by omega), List.nil_append]
  congr 1
  · omega
  · congr 1; omega
/-- A test's bytes are read. -/
theorem rd_trip {t : T} {l : List T} (h : Fit t l) (hw : TW t) (B : ByteArray) : 4 ≤ (encT t l ++ B).size ∧ rdBad (encT t l ++ B) = false ∧ rdT (encT t l ++ B) = t ∧ rdRest (encT t l ++ B) = B := by
  have hfc := field_code h
  obtain ⟨n0, n1, n2⟩ := fit_num h hw
  have hz1 := szV_pos h.fld
  have hz8 := szV_le t.1
  have hg := gr_pow h.fld
  obtain ⟨k0, k1⟩ := codeV_lt t.1 l
  have hs16 := restT_size t
  have hh0 : 0 ≤ headT t l ∧ headT t l ≤ 255 := by unfold headT; split <;> omega
  have e : encT t l ++ B = (pb 32768 2 ++ pb (headT t l) 1 ++ pb (restT t).size 1) ++ (restT t ++ B) := by unfold encT; simp only [ap_assoc]
  have hsz : (pb 32768 2 ++ pb (headT t l) 1 ++ pb (restT t).size 1).size = 4 := by rw [ByteArray.size_append, ByteArray.size_append, pb_size, pb_size, pb_size]
  have hsum : (encT t l ++ B).size = 4 + ((restT t).size + B.size) := by rw [e, ByteArray.size_append, hsz, ByteArray.size_append]
  have lst : (pb 32768 2 ++ pb (headT t l) 1 ++ pb (restT t).size 1).data.toList = [128, 0, UInt8.ofNat (headT t l).toNat, UInt8.ofNat (restT t).size] := by
    have a1 : (pb (headT t l) 1).data.toList = [UInt8.ofNat (headT t l).toNat] := by
      rw [pb_list]
      simp only [pieces, List.nil_append, List.map_cons, List.map_nil]
      rw [Int.emod_eq_of_lt hh0.1 (by omega)]
    have a2 : (pb (restT t).size 1).data.toList = [UInt8.ofNat (restT t).size] := by
      rw [pb_list]
      simp only [pieces, List.nil_append, List.map_cons, List.map_nil]
      rw [Int.emod_eq_of_lt (by omega) (by omega), Int.toNat_natCast]
    have a3 : (pb 32768 2).data.toList = [128, 0] := by decide +kernel
    simp only [ByteArray.data_append, Array.toList_append]
    rw [a1, a2, a3]
    rfl
  have b2 : byteAt (encT t l ++ B) 2 = headT t l := by
    unfold byteAt
    rw [e, ByteArray.data_append, Array.toList_append, lst]
    simp only [List.cons_append, List.getD_cons_succ, List.getD_cons_zero]
    rw [UInt8.toNat_ofNat']
    omega
  have b3 : byteAt (encT t l ++ B) 3 = (restT t).size := by
    unfold byteAt
    rw [e, ByteArray.data_append, Array.toList_append, lst]
    simp only [List.cons_append, List.getD_cons_succ, List.getD_cons_zero]
    rw [UInt8.toNat_ofNat']
    omega
  have ex : ∀ a b : Nat, (encT t l ++ B).extract (4 + a) (4 + b) = (restT t ++ B).extract a b := fun a b => by
    have := ext_shift (pb 32768 2 ++ pb (headT t l) 1 ++ pb (restT t).size 1) (restT t ++ B) a b
    rw [hsz] at this
    rw [e]
    exact this
  have hall : rdRest (encT t l ++ B) = (restT t ++ B).extract (rdLong (encT t l ++ B)) ((restT t).size + B.size) := by
    unfold rdRest
    rw [hsum, ex]
  cases hx : wholeB t with
  | true =>
    have hh : headT t l = 2 * codeV t.1 l := by unfold headT; rw [hx]; rfl
    have ef : rdF (encT t l ++ B) = t.1 := by
      unfold rdF
      rw [b2, hh, show 2 * codeV t.1 l / 2 = codeV t.1 l by omega, hfc]
    have en : rdN (encT t l ++ B) = szV t.1 := by unfold rdN; rw [ef]
    have hm : t.2.2 = grV t.1 := by simpa [wholeB] using hx
    have er : restT t = pb t.2.1 (szV t.1) := by unfold restT; rw [hx]; rfl
    have es : (restT t).size = szV t.1 := by rw [er, pb_size]
    have hne : ¬ byteAt (encT t l ++ B) 2 % 2 = 1 := by rw [b2, hh]; omega
    have eL : rdLong (encT t l ++ B) = szV t.1 := by unfold rdLong; rw [if_neg hne, en]
    have ev : rdV (encT t l ++ B) = t.2.1 := by
      have x1 := ex 0 (szV t.1)
      unfold rdV
      rw [en, show (4 : Nat) = 4 + 0 from rfl, x1, er]
      have x2 := extract_left (pb t.2.1 (szV t.1)) B
      rw [pb_size] at x2
      rw [x2, pb_list]
      exact numOf_pieces _ _ hz8 hw.v0 (by omega)
    refine ⟨by omega, ?_, ?_, ?_⟩
    · unfold rdBad
      rw [ef, b3, eL, hsum, es]
      have hf0 : (t.1 == 0) = false := by rw [beq_eq_false_iff_ne]; have := h.fld; omega
      rw [hf0, decide_eq_false (by omega)]
      simp
    · unfold rdT
      rw [if_neg hne, ef, ev, ← hm]
    · rw [hall, eL, es, er]
      have x2 := extract_right (pb t.2.1 (szV t.1)) B
      rw [ByteArray.size_append, pb_size] at x2
      exact x2
  | false =>
    have hh : headT t l = 2 * codeV t.1 l + 1 := by unfold headT; rw [hx]; rfl
    have ef : rdF (encT t l ++ B) = t.1 := by
      unfold rdF
      rw [b2, hh, show (2 * codeV t.1 l + 1) / 2 = codeV t.1 l by omega, hfc]
    have en : rdN (encT t l ++ B) = szV t.1 := by unfold rdN; rw [ef]
    have er : restT t = pb t.2.1 (szV t.1) ++ pb t.2.2 (szV t.1) := by unfold restT; rw [hx]; rfl
    have es : (restT t).size = 2 * szV t.1 := by rw [er, ByteArray.size_append, pb_size, pb_size]; omega
    have hne : byteAt (encT t l ++ B) 2 % 2 = 1 := by rw [b2, hh]; omega
    have eL : rdLong (encT t l ++ B) = 2 * szV t.1 := by unfold rdLong; rw [if_pos hne, en]
    have ev : rdV (encT t l ++ B) = t.2.1 := by
      have x1 := ex 0 (szV t.1)
      unfold rdV
      rw [en, show (4 : Nat) = 4 + 0 from rfl, x1, er, ap_assoc]
      have x2 := extract_left (pb t.2.1 (szV t.1)) (pb t.2.2 (szV t.1) ++ B)
      rw [pb_size] at x2
      rw [x2, pb_list]
      exact numOf_pieces _ _ hz8 hw.v0 (by omega)
    have em : rdM (encT t l ++ B) = t.2.2 := by
      have x1 := ex (szV t.1) (2 * szV t.1)
      unfold rdM
      rw [en, x1, er, ap_assoc]
      have x2 := extract_mid (pb t.2.1 (szV t.1)) (pb t.2.2 (szV t.1)) B
      rw [pb_size, pb_size] at x2
      rw [show 2 * szV t.1 = szV t.1 + szV t.1 by omega, x2, pb_list]
      exact numOf_pieces _ _ hz8 hw.m0 (by omega)
    refine ⟨by omega, ?_, ?_, ?_⟩
    · unfold rdBad
      rw [ef, b3, eL, hsum, es]
      have hf0 : (t.1 == 0) = false := by rw [beq_eq_false_iff_ne]; have := h.fld; omega
      rw [hf0, decide_eq_false (by omega)]
      simp
    · unfold rdT
      rw [if_pos hne, ef, ev, em]
    · rw [hall, eL, es]
      have x2 := extract_right (restT t) B
      rw [ByteArray.size_append, es] at x2
      exact x2
theorem rd_body : ∀ (r l : List T), rightGo l r = 0 → TWs r → l.length + r.length ≤ 10 → rdL (10 - l.length) l (bodyGo l r) = some (l ++ r)
  | [], l, _, _, _ => by
    rw [List.append_nil]
    exact rdL_short _ _ _ (by simp [bodyGo, ByteArray.size])
  | t :: r, l, hr, hw, hlen => by
    obtain ⟨h1, h2⟩ := right_cons.1 hr
    obtain ⟨a, b, c, d⟩ := rd_trip (fit_of h1) (hw t (by simp)) (bodyGo (l ++ [t]) r)
    rw [List.length_cons] at hlen
    have e10 : 10 - l.length = (10 - (l ++ [t]).length) + 1 := by rw [List.length_append]; simp; omega
    have e : bodyGo l (t :: r) = encT t l ++ bodyGo (l ++ [t]) r := rfl
    rw [e10, e, rdL_good _ _ _ a b, c, d, rd_body r (l ++ [t]) h2 (fun u hu => hw u (by simp [hu])) (by rw [List.length_append]; simp; omega)]
    simp
end Go.Proofs.YtjmnnjhaiecglaaDoor

/-
  What is encoded is decoded, and what is decoded is encoded again: the plain mathematics of entries (nothing of the program).
-/
import Derived.Test.YtcbhkbiofmimbaaDoorERaP
namespace Go.Proofs.YtcbhkbiofmimbaaDoor

theorem e_ap (t : ByteArray) : (⟨#[]⟩ : ByteArray) ++ t = t := by apply ba_ext; simp
theorem ap_e (t : ByteArray) : t ++ (⟨#[]⟩ : ByteArray) = t := by apply ba_ext; simp
theorem empty_of {d : ByteArray} (h : d.size = 0) : d = ⟨#[]⟩ := by
  obtain ⟨a⟩ := d
  have : a.size = 0 := h
  rw [Array.eq_empty_of_size_eq_zero this]
/-- What is done up to a part, the rest as it is in an entry that does nothing. -/
def upTo (s : Sp) (k : Nat) : Sp :=
  ⟨s.tab, if 1 < k then s.la else [], if 3 < k then s.lw else [], if 2 < k then s.clr else false, if 4 < k then s.mt else 0, if 4 < k then s.mm else 0, if 0 < k then s.met else 0, if 5 < k then s.go else 0⟩
theorem upTo_0 (s : Sp) : upTo s 0 = spT s.tab := rfl
theorem upTo_6 (s : Sp) : upTo s 6 = s := rfl
/-- The parts from one on. -/
def encFr (s : Sp) : Nat → ByteArray
  | 0 => ⟨#[]⟩
  | n + 1 => partX (ordV (5 - n)) s ++ encFr s n
theorem encFr_six (s : Sp) : encFr s 6 = encX s := by
  simp only [encFr, encX, encTo, ap_e, e_ap, ap_assoc]
theorem has_some {p : Int} {s : Sp} (h : hasX p s = true) : partX p s = pb p 2 ++ (pb (4 + ((bodyX p s).size : Int)) 2 ++ bodyX p s) := by
  unfold partX; rw [if_pos h, ap_assoc]
theorem has_none {p : Int} {s : Sp} (h : hasX p s = false) : partX p s = ⟨#[]⟩ := by
  unfold partX; rw [if_neg (by rw [h]; decide)]
theorem body_four (p : Int) (s : Sp) (h : hasX p s = true) : 4 ≤ (bodyX p s).size := by
  have h1 := pb_size
  have z4 : gap4.size = 4 := rfl
  have z3 : gap3.size = 3 := rfl
  rcases part_cases p with rfl | rfl | rfl | rfl | rfl | rfl | ⟨_, _, _, _, _, _, hn⟩
  case inr.inr.inr.inr.inr.inr => rw [hn] at h; cases h
  all_goals
    simp [bodyX, ByteArray.size_append, h1, z4, z3]
/-- The first part of bytes that begin with one. -/
theorem size_of (p z : Int) (r : ByteArray) (h0 : 0 ≤ z) (h1 : z ≤ 65535) : sizeV (pb p 2 ++ (pb z 2 ++ r)) = z := by
  unfold sizeV
  rw [ext_mid _ _ _ (pb_size _ _) (pb_size _ _)]
  have := num2_ap z ⟨#[]⟩ h0 h1
  rwa [ap_e] at this
structure IsFirst (d C R : ByteArray) (p : Int) : Prop where
  e : fszE d = 0
  n : num2 d = p
  c : cutX d = C
  r : restX d = R
theorem is_first {p : Int} {s : Sp} (h : hasX p s = true) (R : ByteArray) : IsFirst (partX p s ++ R) (partX p s) R p := by
  obtain ⟨p0, p1⟩ := has_range h
  have b1 := body_size p s
  have b2 := body_four p s h
  have e := has_some h
  have hz : (partX p s).size = 4 + (bodyX p s).size := by rw [e]; simp only [ByteArray.size_append, pb_size]; omega
  have hs : sizeV (partX p s ++ R) = 4 + ((bodyX p s).size : Int) := by
    rw [e, ap_assoc, ap_assoc]
    exact size_of _ _ _ (by omega) (by omega)
  have hd : (partX p s ++ R).size = 4 + (bodyX p s).size + R.size := by rw [ByteArray.size_append, hz]
  have hE : fszE (partX p s ++ R) = 0 := by
    unfold fszE
    rw [if_neg (by omega), if_neg (by omega), if_neg (by omega)]
  have hZ : (fszZ (partX p s ++ R)).toNat = (partX p s).size := by unfold fszZ; rw [if_pos hE]; omega
  refine ⟨hE, ?_, ?_, ?_⟩
  · unfold num2
    rw [e, ap_assoc]
    exact num2_ap _ _ (by omega) (by omega)
  · unfold cutX; rw [hZ, extract_left]
  · unfold restX; rw [hZ, extract_right]
theorem ext_from (x t : ByteArray) (k : Nat) (h : x.size = k) : (x ++ t).extract k (x ++ t).size = t := ext_right x t k h
theorem rs4_part {p : Int} {s : Sp} (h : hasX p s = true) : rs4 (partX p s) = ⟨bodyX p s, 0⟩ := by
  have e := has_some h
  rw [← ap_assoc] at e
  unfold rs4
  rw [e, ext_from _ _ 4 (by simp only [ByteArray.size_append, pb_size])]
theorem from8_part {p : Int} {s : Sp} (h : hasX p s = true) (l : ByteArray) (hb : bodyX p s = gap4 ++ l) : (partX p s).extract 8 (partX p s).size = l := by
  have e := has_some h
  rw [hb, ← ap_assoc, ← ap_assoc] at e
  rw [e]
  exact ext_from _ _ 8 (by simp only [ByteArray.size_append, pb_size]; rfl)
theorem gap_skip (t : ByteArray) : (⟨gap4 ++ t, 0⟩ : RS).skip 4 = ⟨t, 0⟩ := skip_ap gap4 t 4 rfl (by decide)
/-- A right entry has in its parts what they say. -/
structure Fine (s : Sp) : Prop where
  ok : SOk s
  ra : encodeE s.la = 0
  rw : encodeE s.lw = 0
  va : ∀ a ∈ s.la, 0 ≤ a.2.2
  vw : ∀ a ∈ s.lw, 0 ≤ a.2.2
  mt : s.mm = 0 → s.mt = 0
theorem read_part (k : Nat) (hk : k < 6) {s : Sp} (f : Fine s) (h : hasX (ordV k) s = true) : readX (ordV k) (partX (ordV k) s) (upTo s k) = upTo s (k + 1) := by
  have o := f.ok
  match k, hk with
  | 0, _ =>
    have e := rs4_part h
    have n : (rs4 (partX 6 s)).num 4 = s.met := by
      rw [show rs4 (partX 6 s) = ⟨pb s.met 4, 0⟩ from e]
      have := num4_ap s.met ⟨#[]⟩ o.m0 o.m1
      rwa [ap_e] at this
    show ({ upTo s 0 with met := (rs4 (partX 6 s)).num 4 } : Sp) = _
    rw [n]; rfl
  | 1, _ =>
    have e : decL (partX 4 s) = s.la := by
      have h' : hasX 4 s = true := h
      unfold decL
      rw [from8_part h' (encodeS s.la) rfl, dec_enc s.la f.ra f.va]
    show ({ upTo s 1 with la := decL (partX 4 s) } : Sp) = _
    rw [e]; rfl
  | 2, _ =>
    have hc : s.clr = true := h
    show ({ upTo s 2 with clr := true } : Sp) = _
    simp [upTo, hc]
  | 3, _ =>
    have e : decL (partX 3 s) = s.lw := by
      have h' : hasX 3 s = true := h
      unfold decL
      rw [from8_part h' (encodeS s.lw) rfl, dec_enc s.lw f.rw f.vw]
    show ({ upTo s 3 with lw := decL (partX 3 s) } : Sp) = _
    rw [e]; rfl
  | 4, _ =>
    have e : rs4 (partX 2 s) = ⟨gap4 ++ (pb s.mt 8 ++ pb s.mm 8), 0⟩ := by
      rw [show rs4 (partX 2 s) = ⟨gap4 ++ pb s.mt 8 ++ pb s.mm 8, 0⟩ from rs4_part h, ap_assoc]
    have n1 : ((rs4 (partX 2 s)).skip 4).num 8 = s.mt := by
      rw [e, gap_skip]
      exact num_ap s.mt (pb s.mm 8) 8 (by omega) (by decide) o.t0 (by have := o.t1; omega)
    have n2 : (((rs4 (partX 2 s)).skip 4).skip 8).num 8 = s.mm := by
      rw [e, gap_skip]
      have e2 : (⟨pb s.mt 8 ++ pb s.mm 8, 0⟩ : RS).skip 8 = ⟨pb s.mm 8, 0⟩ := skip_ap _ _ 8 (pb_size _ _) (by decide)
      rw [e2]
      have := num_ap s.mm ⟨#[]⟩ 8 (by omega) (by decide) o.k0 (by have := o.k1; omega)
      rwa [ap_e] at this
    show ({ upTo s 4 with mt := ((rs4 (partX 2 s)).skip 4).num 8, mm := (((rs4 (partX 2 s)).skip 4).skip 8).num 8 } : Sp) = _
    rw [n1, n2]; rfl
  | 5, _ =>
    have n : (rs4 (partX 1 s)).num 1 = s.go := by
      rw [show rs4 (partX 1 s) = ⟨pb s.go 1 ++ gap3, 0⟩ from rs4_part h]
      exact num1_ap s.go gap3 o.g0 (by have := o.g1; omega)
    show ({ upTo s 5 with go := (rs4 (partX 1 s)).num 1 } : Sp) = _
    rw [n]; rfl
theorem skip_part (k : Nat) (hk : k < 6) {s : Sp} (f : Fine s) (h : hasX (ordV k) s = false) : upTo s k = upTo s (k + 1) := by
  match k, hk with
  | 0, _ =>
    have e : s.met = 0 := by have : (s.met != 0) = false := h; simpa using this
    simp [upTo, e]
  | 1, _ =>
    have e : s.la = [] := by have : decide (0 < s.la.length) = false := h; simpa using this
    simp [upTo, e]
  | 2, _ =>
    have e : s.clr = false := h
    simp [upTo, e]
  | 3, _ =>
    have e : s.lw = [] := by have : decide (0 < s.lw.length) = false := h; simpa using this
    simp [upTo, e]
  | 4, _ =>
    have e : s.mm = 0 := by have : (s.mm != 0) = false := h; simpa using this
    simp [upTo, e, f.mt e]
  | 5, _ =>
    have e : s.go = 0 := by have : (s.go != 0) = false := h; simpa using this
    simp [upTo, e]
theorem part_same (k : Nat) (hk : k < 6) (s : Sp) : partX (ordV k) (upTo s (k + 1)) = partX (ordV k) s := by
  match k, hk with
  | 0, _ => rfl
  | 1, _ => rfl
  | 2, _ => rfl
  | 3, _ => rfl
  | 4, _ => rfl
  | 5, _ => rfl
theorem place_ord (k : Nat) (hk : k < 6) : placeX (ordV k) = (k : Int) + 1 := by
  match k, hk with
  | 0, _ => rfl
  | 1, _ => rfl
  | 2, _ => rfl
  | 3, _ => rfl
  | 4, _ => rfl
  | 5, _ => rfl
theorem ra_enc {s : Sp} (f : Fine s) : ∀ (n : Nat), n ≤ 6 → ∀ last : Int, last ≤ 6 - (n : Int) → raGo (encFr s n).size (encFr s n) (upTo s (6 - n)) last = (s, 0)
  | 0, _, last, _ => by
    rw [raGo_end _ _ (show (encFr s 0).size = 0 from rfl)]
    rw [show 6 - 0 = 6 from rfl, upTo_6]
  | n + 1, hn, last, hl => by
    have ek : 6 - (n + 1) = 5 - n := by omega
    have ek1 : 5 - n + 1 = 6 - n := by omega
    rw [ek]
    cases hb : hasX (ordV (5 - n)) s with
    | false =>
      have e : encFr s (n + 1) = encFr s n := by rw [encFr, has_none hb, e_ap]
      rw [e, skip_part (5 - n) (by omega) f hb, ek1]
      exact ra_enc f n (by omega) last (by omega)
    | true =>
      have fi := is_first hb (encFr s n)
      have hz : ¬ (partX (ordV (5 - n)) s ++ encFr s n).size = 0 := by
        rw [ByteArray.size_append, has_some hb]
        simp only [ByteArray.size_append, pb_size]
        omega
      rw [encFr, raGo_un _ _ hz, if_pos fi.e]
      unfold nextX
      rw [fi.n, fi.c, fi.r, read_part (5 - n) (by omega) f hb, if_pos (part_same (5 - n) (by omega) s), place_ord (5 - n) (by omega), if_neg (by omega), ek1]
      exact ra_enc f n (by omega) _ (by omega)
/-- What is encoded is decoded. -/
theorem decX_enc {s : Sp} (f : Fine s) (h : rightX s = 0) : decX s.tab (encX s) = (s, 0) := by
  have e : raR s.tab (encX s) = (s, 0) := by
    have := ra_enc f 6 (by omega) 0 (by omega)
    rwa [encFr_six] at this
  have ht : tabB s.tab = true := by
    cases hb : tabB s.tab with
    | true => rfl
    | false => unfold rightX at h; rw [if_pos hb] at h; cases h
  unfold decX
  rw [e, if_neg (by rw [ht]; decide), if_neg (by simp), if_neg (by simpa using h)]
/-- A part does not turn another one. -/
theorem part_other {p : Int} {C : ByteArray} {s : Sp} (j : Nat) (hj : j < 6) (hne : ordV j ≠ p) : partX (ordV j) (readX p C s) = partX (ordV j) s ∧ hasX (ordV j) (readX p C s) = hasX (ordV j) s := by
  rcases part_cases p with rfl | rfl | rfl | rfl | rfl | rfl | ⟨b1, b2, b3, b4, b5, b6, _⟩
  case inr.inr.inr.inr.inr.inr =>
    have : readX p C s = s := by
      simp at b1 b2 b3 b4 b5 b6
      simp [readX, b1, b2, b3, b4, b5, b6]
    rw [this]
    exact ⟨rfl, rfl⟩
  · rw [show readX 6 C s = { s with met := (rs4 C).num 4 } from rfl]
    generalize (rs4 C).num 4 = v0
    match j, hj with
    | 0, _ => first | exact absurd rfl hne | exact ⟨rfl, rfl⟩
    | 1, _ => first | exact absurd rfl hne | exact ⟨rfl, rfl⟩
    | 2, _ => first | exact absurd rfl hne | exact ⟨rfl, rfl⟩
    | 3, _ => first | exact absurd rfl hne | exact ⟨rfl, rfl⟩
    | 4, _ => first | exact absurd rfl hne | exact ⟨rfl, rfl⟩
    | 5, _ => first | exact absurd rfl hne | exact ⟨rfl, rfl⟩
  · rw [show readX 4 C s = { s with la := decL C } from rfl]
    generalize decL C = v0
    match j, hj with
    | 0, _ => first | exact absurd rfl hne | exact ⟨rfl, rfl⟩
    | 1, _ => first | exact absurd rfl hne | exact ⟨rfl, rfl⟩
    | 2, _ => first | exact absurd rfl hne | exact ⟨rfl, rfl⟩
    | 3, _ => first | exact absurd rfl hne | exact ⟨rfl, rfl⟩
    | 4, _ => first | exact absurd rfl hne | exact ⟨rfl, rfl⟩
    | 5, _ => first | exact absurd rfl hne | exact ⟨rfl, rfl⟩
  · rw [show readX 5 C s = { s with clr := true } from rfl]
    match j, hj with
    | 0, _ => first | exact absurd rfl hne | exact ⟨rfl, rfl⟩
    | 1, _ => first | exact absurd rfl hne | exact ⟨rfl, rfl⟩
    | 2, _ => first | exact absurd rfl hne | exact ⟨rfl, rfl⟩
    | 3, _ => first | exact absurd rfl hne | exact ⟨rfl, rfl⟩
    | 4, _ => first | exact absurd rfl hne | exact ⟨rfl, rfl⟩
    | 5, _ => first | exact absurd rfl hne | exact ⟨rfl, rfl⟩
  · rw [show readX 3 C s = { s with lw := decL C } from rfl]
    generalize decL C = v0
    match j, hj with
    | 0, _ => first | exact absurd rfl hne | exact ⟨rfl, rfl⟩
    | 1, _ => first | exact absurd rfl hne | exact ⟨rfl, rfl⟩
    | 2, _ => first | exact absurd rfl hne | exact ⟨rfl, rfl⟩
    | 3, _ => first | exact absurd rfl hne | exact ⟨rfl, rfl⟩
    | 4, _ => first | exact absurd rfl hne | exact ⟨rfl, rfl⟩
    | 5, _ => first | exact absurd rfl hne | exact ⟨rfl, rfl⟩
  · rw [show readX 2 C s = { s with mt := ((rs4 C).skip 4).num 8, mm := (((rs4 C).skip 4).skip 8).num 8 } from rfl]
    generalize (((rs4 C).skip 4).skip 8).num 8 = v0
    generalize ((rs4 C).skip 4).num 8 = v1
    match j, hj with
    | 0, _ => first | exact absurd rfl hne | exact ⟨rfl, rfl⟩
    | 1, _ => first | exact absurd rfl hne | exact ⟨rfl, rfl⟩
    | 2, _ => first | exact absurd rfl hne | exact ⟨rfl, rfl⟩
    | 3, _ => first | exact absurd rfl hne | exact ⟨rfl, rfl⟩
    | 4, _ => first | exact absurd rfl hne | exact ⟨rfl, rfl⟩
    | 5, _ => first | exact absurd rfl hne | exact ⟨rfl, rfl⟩
  · rw [show readX 1 C s = { s with go := (rs4 C).num 1 } from rfl]
    generalize (rs4 C).num 1 = v0
    match j, hj with
    | 0, _ => first | exact absurd rfl hne | exact ⟨rfl, rfl⟩
    | 1, _ => first | exact absurd rfl hne | exact ⟨rfl, rfl⟩
    | 2, _ => first | exact absurd rfl hne | exact ⟨rfl, rfl⟩
    | 3, _ => first | exact absurd rfl hne | exact ⟨rfl, rfl⟩
    | 4, _ => first | exact absurd rfl hne | exact ⟨rfl, rfl⟩
    | 5, _ => first | exact absurd rfl hne | exact ⟨rfl, rfl⟩
theorem ord_of {p : Int} (h : 1 ≤ p ∧ p ≤ 6) : ∃ k, k < 6 ∧ ordV k = p ∧ placeX p = (k : Int) + 1 := by
  have : p = 6 ∨ p = 4 ∨ p = 5 ∨ p = 3 ∨ p = 2 ∨ p = 1 := by omega
  rcases this with rfl | rfl | rfl | rfl | rfl | rfl
  · exact ⟨0, by omega, rfl, rfl⟩
  · exact ⟨1, by omega, rfl, rfl⟩
  · exact ⟨2, by omega, rfl, rfl⟩
  · exact ⟨3, by omega, rfl, rfl⟩
  · exact ⟨4, by omega, rfl, rfl⟩
  · exact ⟨5, by omega, rfl, rfl⟩
theorem ord_inj {i j : Nat} (hi : i < 6) (hj : j < 6) (h : ordV i = ordV j) : i = j := by
  have a := place_ord i hi
  have b := place_ord j hj
  rw [h] at a
  omega
theorem enc_skip {s : Sp} : ∀ (n k : Nat), k + n ≤ 6 → (∀ j, k ≤ j → j < k + n → hasX (ordV j) s = false) → encTo s (k + n) = encTo s k
  | 0, _, _, _ => rfl
  | n + 1, k, hk, h => by
    show encTo s (k + n) ++ partX (ordV (k + n)) s = encTo s k
    rw [has_none (h (k + n) (by omega) (by omega)), ap_e]
    exact enc_skip n k (by omega) (fun j h1 h2 => h j h1 (by omega))
theorem enc_same {s s' : Sp} : ∀ (k : Nat), (∀ j, j < k → partX (ordV j) s' = partX (ordV j) s) → encTo s' k = encTo s k
  | 0, _ => rfl
  | k + 1, h => by
    show encTo s' k ++ _ = encTo s k ++ _
    rw [h k (by omega), enc_same k (fun j hj => h j (by omega))]
theorem read_tab (p : Int) (C : ByteArray) (s : Sp) : (readX p C s).tab = s.tab := by
  unfold readX
  (repeat' split) <;> rfl
theorem ra_is : ∀ (n : Nat) (d : ByteArray) (s : Sp) (k : Nat), d.size ≤ n → k ≤ 6 → (∀ j, k ≤ j → j < 6 → hasX (ordV j) s = false) → (raGo d.size d s (k : Int)).2 = 0 →
    encX (raGo d.size d s (k : Int)).1 = encTo s k ++ d ∧ (raGo d.size d s (k : Int)).1.tab = s.tab := by
  intro n
  induction n with
  | zero =>
    intro d s k hn hk hs _
    have hd : d.size = 0 := by omega
    rw [raGo_end _ _ hd]
    have e : d = ⟨#[]⟩ := empty_of hd
    refine ⟨?_, rfl⟩
    rw [e, ap_e]
    have := enc_skip (s := s) (6 - k) k (by omega) (fun j h1 h2 => hs j h1 (by omega))
    rwa [show k + (6 - k) = 6 by omega] at this
  | succ n ih =>
    intro d s k hn hk hs h0
    by_cases hd : d.size = 0
    · exact (by
        rw [raGo_end _ _ hd]
        have e : d = ⟨#[]⟩ := empty_of hd
        refine ⟨?_, rfl⟩
        rw [e, ap_e]
        have := enc_skip (s := s) (6 - k) k (by omega) (fun j h1 h2 => hs j h1 (by omega))
        rwa [show k + (6 - k) = 6 by omega] at this)
    · rw [raGo_un _ _ hd] at h0 ⊢
      by_cases hE : fszE d = 0
      · rw [if_pos hE] at h0 ⊢
        by_cases hP : partX (num2 d) (nextX d s) = cutX d
        · rw [if_pos hP] at h0 ⊢
          by_cases hL : placeX (num2 d) ≤ (k : Int)
          · rw [if_pos hL] at h0; cases h0
          · rw [if_neg hL] at h0 ⊢
            have hc := cut_size hE
            have fz := (fsz_of hE).len
            have hb : hasX (num2 d) (nextX d s) = true := by
              cases hb : hasX (num2 d) (nextX d s) with
              | true => rfl
              | false =>
                rw [has_none hb] at hP
                rw [← hP] at hc
                have : (⟨#[]⟩ : ByteArray).size = 0 := rfl
                omega
            obtain ⟨q, hq, e1, e2⟩ := ord_of (has_range hb)
            have hkq : k ≤ q := by omega
            have oth : ∀ j, j < 6 → j ≠ q → partX (ordV j) (nextX d s) = partX (ordV j) s ∧ hasX (ordV j) (nextX d s) = hasX (ordV j) s := fun j hj hjq =>
              part_other j hj (fun h => hjq (ord_inj hj hq (h.trans e1.symm)))
            have hr := rest_size hE
            rw [e2] at h0 ⊢
            rw [show (q : Int) + 1 = ((q + 1 : Nat) : Int) by omega] at h0 ⊢
            obtain ⟨i1, i2⟩ := ih (restX d) (nextX d s) (q + 1) (by omega) (by omega) (fun j h1 h2 => by rw [(oth j h2 (by omega)).2]; exact hs j (by omega) h2) h0
            refine ⟨?_, i2.trans (read_tab _ _ _)⟩
            rw [i1]
            have e3 : encTo (nextX d s) q = encTo s q := enc_same q (fun j hj => (oth j (by omega) (by omega)).1)
            have e4 : encTo s q = encTo s k := by
              have := enc_skip (s := s) (q - k) k (by omega) (fun j h1 h2 => hs j h1 (by omega))
              rwa [show k + (q - k) = q by omega] at this
            show encTo (nextX d s) q ++ partX (ordV q) (nextX d s) ++ restX d = _
            rw [e1, hP, e3, e4, ap_assoc, ← cut_rest hE]
        · rw [if_neg hP] at h0; cases h0
      · rw [if_neg hE] at h0
        exact absurd h0 hE
/-- What is decoded is encoded again. -/
theorem encX_dec (t : Int) (d : ByteArray) (h : (decX t d).2 = 0) : rightX (decX t d).1 = 0 ∧ encX (decX t d).1 = d ∧ (decX t d).1.tab = t := by
  unfold decX at h ⊢
  split at h
  · cases h
  · next h1 =>
    rw [if_neg h1]
    split at h
    · next h2 => exact absurd h h2
    · next h2 =>
      rw [if_neg h2]
      split at h
      · next h3 => exact absurd h h3
      · next h3 =>
        rw [if_neg h3]
        have h2' : (raGo d.size d (spT t) ((0 : Nat) : Int)).2 = 0 := by simpa [raR] using h2
        obtain ⟨i1, i2⟩ := ra_is d.size d (spT t) 0 (Nat.le_refl _) (by omega) (fun j _ hj => by
          match j, hj with
          | 0, _ => rfl
          | 1, _ => rfl
          | 2, _ => rfl
          | 3, _ => rfl
          | 4, _ => rfl
          | 5, _ => rfl) h2'
        exact ⟨by simpa using h3, i1.trans (e_ap d), i2⟩
theorem decX_bad (t : Int) (d : ByteArray) (h : (decX t d).2 ≠ 0) : (decX t d).1 = sp0 := by
  unfold decX at h ⊢
  split
  · rfl
  · next h1 =>
    rw [if_neg h1] at h
    split
    · rfl
    · next h2 =>
      rw [if_neg h2] at h
      split
      · rfl
      · next h3 => rw [if_neg h3] at h; exact absurd rfl h
end Go.Proofs.YtcbhkbiofmimbaaDoor

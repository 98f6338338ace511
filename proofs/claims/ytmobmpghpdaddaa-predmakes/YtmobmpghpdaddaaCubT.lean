/-
  Cubes and tests: which cube tests are, which tests a cube is.
-/
import Derived.Test.YtmobmpghpdaddaaOwn
namespace Go.Proofs.Ytmobmpghpdaddaa
open Go.ChangeShapes Go.WideShapes Go.ChangeAt Go.RowKit
set_option linter.unusedVariables false

def setT (k : K) (t : Tst) : K := ⟨upd k.m t.f.toNat t.m, upd k.v t.f.toNat t.v⟩
def cubF (l : List Tst) : K := l.foldl setT K.top
theorem cubF_snoc (l : List Tst) (t : Tst) : cubF (l ++ [t]) = setT (cubF l) t := by unfold cubF; rw [List.foldl_append]; rfl
def tstF (k : K) (f : Nat) : Tst := ⟨(f : Int), k.v f, k.m f⟩
def toTn (k : K) (n : Nat) : List Tst := ((List.range n).filter fun f => !(k.m f == 0#64)).map (tstF k)
abbrev toT (k : K) : List Tst := toTn k 10
theorem toTn_yes (k : K) (n : Nat) (h : ¬ k.m n = 0#64) : toTn k (n + 1) = toTn k n ++ [tstF k n] := by
  unfold toTn
  rw [List.range_succ, List.filter_append]
  simp [h]
theorem toTn_no (k : K) (n : Nat) (h : k.m n = 0#64) : toTn k (n + 1) = toTn k n := by
  unfold toTn
  rw [List.range_succ, List.filter_append]
  simp [h]
theorem toTn_len (k : K) (n : Nat) : (toTn k n).length ≤ n := by
  unfold toTn
  rw [List.length_map]
  exact Nat.le_trans (List.length_filter_le _ _) (by simp)
/-- A cube's tests are whole. -/
def wholeFrom (lo : Int) : List Tst → Bool
  | [] => true
  | t :: l => trB t && !(t.m == 0#64) && decide (lo < t.f) && wholeFrom t.f l
abbrev wholeB (l : List Tst) : Bool := wholeFrom 0 l
theorem wholeFrom_eq (lo : Int) (t : Tst) (l : List Tst) : wholeFrom lo (t :: l) = (trB t && !(t.m == 0#64) && decide (lo < t.f) && wholeFrom t.f l) := rfl
theorem wholeFrom_cons {lo : Int} {t : Tst} {l : List Tst} : wholeFrom lo (t :: l) = true ↔ trB t = true ∧ ¬ t.m = 0#64 ∧ lo < t.f ∧ wholeFrom t.f l = true := by
  rw [wholeFrom_eq]
  simp [and_assoc]
theorem wholeFrom_app (lo : Int) : ∀ (l m : List Tst), wholeFrom lo (l ++ m) = (wholeFrom lo l && wholeFrom ((l.getLast?.map (·.f)).getD lo) m)
  | [], m => by simp [wholeFrom]
  | t :: l, m => by
    rw [List.cons_append, wholeFrom_eq, wholeFrom_eq, wholeFrom_app t.f l m]
    have : ((t :: l).getLast?.map (·.f)).getD lo = (l.getLast?.map (·.f)).getD t.f := by
      cases l with
      | nil => rfl
      | cons u l => simp [List.getLast?_cons]
    rw [this]
    simp only [Bool.and_assoc]
theorem whole_all {lo : Int} : ∀ {l : List Tst}, wholeFrom lo l = true → ∀ t ∈ l, trB t = true ∧ ¬ t.m = 0#64 ∧ lo < t.f
  | [], _, t, ht => by cases ht
  | u :: l, h, t, ht => by
    obtain ⟨h1, h2, h3, h4⟩ := wholeFrom_cons.1 h
    rcases List.mem_cons.1 ht with rfl | ht
    · exact ⟨h1, h2, h3⟩
    · obtain ⟨g1, g2, g3⟩ := whole_all h4 t ht
      exact ⟨g1, g2, by omega⟩
theorem whole_len {lo : Int} : ∀ {l : List Tst}, 0 ≤ lo → wholeFrom lo l = true → (l.length : Int) + lo ≤ 9 ∨ l = []
  | [], _, _ => .inr rfl
  | u :: l, h0, h => by
    obtain ⟨h1, h2, h3, h4⟩ := wholeFrom_cons.1 h
    have := ((trB_iff u).1 h1).2.1
    left
    rcases whole_len (by omega) h4 with g | g
    · rw [List.length_cons]; omega
    · rw [g]; simp; omega
/-- Of one field the last test counts. -/
theorem cubF_cons_lt : ∀ (l : List Tst) (k : K) {f : Nat}, (∀ t ∈ l, t.f.toNat ≠ f) → (l.foldl setT k).m f = k.m f ∧ (l.foldl setT k).v f = k.v f
  | [], k, f, _ => ⟨rfl, rfl⟩
  | t :: l, k, f, h => by
    have h1 := cubF_cons_lt l (setT k t) (f := f) (fun u hu => h u (List.mem_cons_of_mem _ hu))
    have hne : f ≠ t.f.toNat := fun e => h t (List.mem_cons_self ..) e.symm
    exact ⟨h1.1.trans (upd_other _ _ hne), h1.2.trans (upd_other _ _ hne)⟩
theorem fold_at : ∀ (l : List Tst) (k : K) {lo : Int}, 0 ≤ lo → wholeFrom lo l = true → ∀ t ∈ l, (l.foldl setT k).m t.f.toNat = t.m ∧ (l.foldl setT k).v t.f.toNat = t.v
  | u :: l, k, lo, h0, h, t, ht => by
    obtain ⟨h1, h2, h3, h4⟩ := wholeFrom_cons.1 h
    rcases List.mem_cons.1 ht with rfl | ht
    · have := cubF_cons_lt l (setT k t) (f := t.f.toNat) (fun x hx => by
        have := (whole_all h4 x hx).2.2
        omega)
      exact ⟨this.1.trans (upd_same _ _ _), this.2.trans (upd_same _ _ _)⟩
    · exact fold_at l (setT k u) (by omega) h4 t ht
theorem cubF_vk {l : List Tst} (h : wholeB l = true) : Vk (cubF l) := by
  have key : ∀ f, (∃ t ∈ l, t.f.toNat = f) ∨ ((cubF l).m f = 0#64 ∧ (cubF l).v f = 0#64) := fun f => by
    by_cases hx : ∃ t ∈ l, t.f.toNat = f
    · exact .inl hx
    · right
      have := cubF_cons_lt l K.top (f := f) (fun t ht e => hx ⟨t, ht, e⟩)
      exact this
  refine ⟨fun f hf => ?_, fun f => ?_⟩
  · rcases key f with ⟨t, ht, rfl⟩ | ⟨h1, _⟩
    · have := (trB_iff t).1 (whole_all h t ht).1
      omega
    · exact absurd h1 hf
  · rcases key f with ⟨t, ht, rfl⟩ | ⟨h1, h2⟩
    · obtain ⟨e1, e2⟩ := fold_at l K.top (Int.le_refl 0) h t ht
      show (List.foldl setT K.top l).v _ &&& (List.foldl setT K.top l).m _ = (List.foldl setT K.top l).v _
      rw [e1, e2]
      exact sub_of ((trB_iff t).1 (whole_all h t ht).1).2.2
    · rw [h1, h2]; rfl
/-- Tests between two fields, as a list. -/
theorem toT_from (k : K) : ∀ (l : List Tst) (lo : Nat), wholeFrom (lo : Int) l = true → (∀ t ∈ l, k.m t.f.toNat = t.m ∧ k.v t.f.toNat = t.v) → (∀ f, lo < f → f < 10 → (∀ t ∈ l, t.f.toNat ≠ f) → k.m f = 0#64) → lo < 10 →
    ((List.range' (lo + 1) (9 - lo)).filter fun f => !(k.m f == 0#64)).map (tstF k) = l
  | [], lo, _, _, hz, hlo => by
    have : ((List.range' (lo + 1) (9 - lo)).filter fun f => !(k.m f == 0#64)) = [] := by
      rw [List.filter_eq_nil_iff]
      intro f hf
      obtain ⟨h1, h2⟩ := List.mem_range'_1.1 hf
      simp [hz f (by omega) (by omega) (fun t ht => by cases ht)]
    rw [this]; rfl
  | t :: l, lo, h, hk, hz, hlo => by
    obtain ⟨h1, h2, h3, h4⟩ := wholeFrom_cons.1 h
    obtain ⟨r1, r2, _⟩ := (trB_iff t).1 h1
    obtain ⟨f, hf⟩ : ∃ f : Nat, t.f = (f : Int) := ⟨t.f.toNat, by omega⟩
    have hft : t.f.toNat = f := by omega
    rw [hf] at h4
    have ih := toT_from k l f h4 (fun u hu => hk u (List.mem_cons_of_mem _ hu)) (fun g hg hg2 hn => hz g (by omega) hg2 (fun u hu => by
      rcases List.mem_cons.1 hu with rfl | hu
      · omega
      · exact hn u hu)) (by omega)
    have hs : List.range' (lo + 1) (9 - lo) = List.range' (lo + 1) (f - lo - 1) ++ (f :: List.range' (f + 1) (9 - f)) := by
      rw [show 9 - lo = (f - lo - 1) + (9 - f + 1) by omega, ← List.range'_append, show lo + 1 + 1 * (f - lo - 1) = f by omega, List.range'_succ]
    have hz' : ((List.range' (lo + 1) (f - lo - 1)).filter fun f => !(k.m f == 0#64)) = [] := by
      rw [List.filter_eq_nil_iff]
      intro g hg
      obtain ⟨g1, g2⟩ := List.mem_range'_1.1 hg
      have := hz g (by omega) (by omega) (fun u hu => by
        rcases List.mem_cons.1 hu with rfl | hu
        · omega
        · have := (whole_all h4 u hu).2.2
          omega)
      simp [this]
    obtain ⟨k1, k2⟩ := hk t (List.mem_cons_self ..)
    rw [hft] at k1 k2
    have hm : (!(k.m f == 0#64)) = true := by rw [k1]; simpa using h2
    rw [hs, List.filter_append, hz', List.nil_append, List.filter_cons, if_pos hm, List.map_cons, ih]
    congr 1
    obtain ⟨tf, tv, tm⟩ := t
    simp only at hf k1 k2
    unfold tstF
    rw [hf, k1, k2]
/-- A whole cube's tests are those of its masks and values. -/
theorem toT_cubF {l : List Tst} (h : wholeB l = true) : toT (cubF l) = l := by
  have h0 : (cubF l).m 0 = 0#64 := ((cubF_vk h).v0 (f := 0) (by omega)).1
  have := toT_from (cubF l) l 0 h (fun t ht => fold_at l K.top (Int.le_refl 0) h t ht) (fun f h1 h2 hn => (cubF_cons_lt l K.top hn).1) (by omega)
  unfold toT toTn
  rw [show List.range 10 = 0 :: List.range' 1 9 by rfl, List.filter_cons]
  rw [h0]
  simpa using this
/-- The tests of a cube as each whole one is are whole, and are that cube. -/
theorem toTn_whole {k : K} (h : Vk k) : ∀ n, n ≤ 10 → wholeB (toTn k n) = true ∧ (∀ t ∈ toTn k n, t.f < n)
  | 0, _ => ⟨rfl, fun t ht => by cases ht⟩
  | n + 1, hn => by
    obtain ⟨h1, h2⟩ := toTn_whole h n (by omega)
    by_cases hm : k.m n = 0#64
    · rw [toTn_no k n hm]
      exact ⟨h1, fun t ht => by have := h2 t ht; omega⟩
    · rw [toTn_yes k n hm]
      have hr := h.rng n hm
      refine ⟨?_, fun t ht => ?_⟩
      · unfold wholeB at h1 ⊢
        rw [wholeFrom_app, h1, Bool.true_and]
        have hlast : ((toTn k n).getLast?.map (·.f)).getD 0 < (n : Int) := by
          cases hl : (toTn k n).getLast? with
          | none => simp; omega
          | some t => simpa using h2 t (List.mem_of_getLast? hl)
        refine wholeFrom_cons.2 ⟨(trB_iff _).2 ⟨?_, ?_, of_sub (h.sub n)⟩, hm, hlast, rfl⟩
        · show (1 : Int) ≤ (n : Int); omega
        · show (n : Int) ≤ 9; omega
      · rcases List.mem_append.1 ht with ht | ht
        · have := h2 t ht; omega
        · rw [List.mem_singleton] at ht
          subst ht
          show (n : Int) < _
          omega
theorem toT_whole {k : K} (h : Vk k) : wholeB (toT k) = true := (toTn_whole h 10 (by omega)).1
theorem toT_mem (k : K) (f : Nat) (hf : f < 10) (hm : ¬ k.m f = 0#64) : tstF k f ∈ toT k := by
  unfold toT toTn
  exact List.mem_map.2 ⟨f, List.mem_filter.2 ⟨List.mem_range.2 hf, by simpa using hm⟩, rfl⟩
theorem mem_toT {k : K} {t : Tst} (h : t ∈ toT k) : ∃ f, f < 10 ∧ ¬ k.m f = 0#64 ∧ t = tstF k f := by
  unfold toT toTn at h
  obtain ⟨f, hf, rfl⟩ := List.mem_map.1 h
  obtain ⟨h1, h2⟩ := List.mem_filter.1 hf
  exact ⟨f, List.mem_range.1 h1, by simpa using h2, rfl⟩
theorem cubF_toT {k : K} (h : Vk k) : cubF (toT k) = k := by
  have hw := toT_whole h
  have key : ∀ f, (cubF (toT k)).m f = k.m f ∧ (cubF (toT k)).v f = k.v f := fun f => by
    by_cases hm : k.m f = 0#64
    · have hv : k.v f = 0#64 := by
        have := h.sub f
        rw [hm, BitVec.and_zero] at this
        exact this.symm
      have := cubF_cons_lt (toT k) K.top (f := f) (fun t ht e => by
        obtain ⟨g, _, hg, rfl⟩ := mem_toT ht
        have : g = f := by simpa [tstF] using e
        subst this
        exact hg hm)
      rw [hm, hv]
      exact this
    · have hr := h.rng f hm
      have := fold_at (toT k) K.top (Int.le_refl 0) hw _ (toT_mem k f (by omega) hm)
      exact this
  exact K.ext' (fun f => (key f).1) (fun f => (key f).2)
theorem toT_inj {a b : K} (ha : Vk a) (hb : Vk b) (h : toT a = toT b) : a = b := by rw [← cubF_toT ha, ← cubF_toT hb, h]
end Go.Proofs.Ytmobmpghpdaddaa

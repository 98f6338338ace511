/-
  Tests of packets, when they are right, and the bytes that they are: the plain mathematics (nothing of the program).
-/
import Derived.Test.YtjjfhibkcngphaaGreatDoorNum
namespace Go.Proofs.YtjjfhibkcngphaaGreatDoor.Mt

/-- A test: field, value, mask. -/
abbrev T : Type := Int × Int × Int
/-- Its numbers are of their types. -/
structure TW (t : T) : Prop where
  v0 : 0 ≤ t.2.1
  v1 : t.2.1 < 18446744073709551616
  m0 : 0 ≤ t.2.2
  m1 : t.2.2 < 18446744073709551616
abbrev TWs (l : List T) : Prop := ∀ t ∈ l, TW t

theorem cls9 {f : Int} (h : ¬ (f < 1 ∨ 9 < f)) : f = 1 ∨ f = 2 ∨ f = 3 ∨ f = 4 ∨ f = 5 ∨ f = 6 ∨ f = 7 ∨ f = 8 ∨ f = 9 := by omega
/-- A field's bits, and the greatest number of so many. -/
def wdV (f : Int) : Int := if f = 2 then 64 else if f = 1 ∨ f = 5 ∨ f = 6 then 32 else if f = 4 ∨ f = 8 ∨ f = 9 then 16 else if f = 3 then 13 else if f = 7 then 8 else 0
def grV (f : Int) : Int := if f = 2 then 18446744073709551615 else if f = 1 ∨ f = 5 ∨ f = 6 then 4294967295 else if f = 4 ∨ f = 8 ∨ f = 9 then 65535 else if f = 3 then 8191 else if f = 7 then 255 else 0
theorem none_of {f : Int} (h : f < 1 ∨ 9 < f) : (f == 1) = false ∧ (f == 2) = false ∧ (f == 3) = false ∧ (f == 4) = false ∧ (f == 5) = false ∧ (f == 6) = false ∧ (f == 7) = false ∧ (f == 8) = false ∧ (f == 9) = false := by
  refine ⟨?_, ?_, ?_, ?_, ?_, ?_, ?_, ?_, ?_⟩ <;> (rw [beq_eq_false_iff_ne]; omega)
theorem wdV_none {f : Int} (h : f < 1 ∨ 9 < f) : wdV f = 0 := by unfold wdV; repeat (rw [if_neg (by omega)])
theorem grV_none {f : Int} (h : f < 1 ∨ 9 < f) : grV f = 0 := by unfold grV; repeat (rw [if_neg (by omega)])
theorem wdV_pos {f : Int} (h : ¬ (f < 1 ∨ 9 < f)) : wdV f ≠ 0 := by rcases cls9 h with rfl | rfl | rfl | rfl | rfl | rfl | rfl | rfl | rfl <;> decide
theorem wdV_zero (f : Int) : wdV f = 0 ↔ (f < 1 ∨ 9 < f) := ⟨fun h => Decidable.byContradiction fun g => wdV_pos g h, wdV_none⟩
theorem grV_lt (f : Int) : 0 ≤ grV f ∧ grV f < 18446744073709551616 := by unfold grV; (repeat' split) <;> omega
/-- The lowest bits. -/
theorem and_gr (f a : Int) (hf : ¬ (f < 1 ∨ 9 < f)) (h0 : 0 ≤ a) (h1 : a < 18446744073709551616) : bits .and .u64 a (grV f) = a % (grV f + 1) := by
  rcases cls9 hf with rfl | rfl | rfl | rfl | rfl | rfl | rfl | rfl | rfl
  · exact and_u 32 (by decide) a h0 h1
  · exact and_u 64 (by decide) a h0 h1
  · exact and_u 13 (by decide) a h0 h1
  · exact and_u 16 (by decide) a h0 h1
  · exact and_u 32 (by decide) a h0 h1
  · exact and_u 32 (by decide) a h0 h1
  · exact and_u 8 (by decide) a h0 h1
  · exact and_u 16 (by decide) a h0 h1
  · exact and_u 16 (by decide) a h0 h1
theorem and_gr_iff (f a : Int) (hf : ¬ (f < 1 ∨ 9 < f)) (h0 : 0 ≤ a) (h1 : a < 18446744073709551616) : bits .and .u64 a (grV f) = a ↔ a ≤ grV f := by
  have := (grV_lt f).1
  rw [and_gr f a hf h0 h1]
  constructor
  · intro h
    have := Int.emod_lt_of_pos a (show 0 < grV f + 1 by omega)
    omega
  · intro h
    exact Int.emod_eq_of_lt h0 (by omega)

/-- Whether a test asks for some bits of its field, and for nothing beside them. -/
def fitB (t : T) : Bool := !(t.2.2 == 0) && decide (t.2.2 ≤ grV t.1) && (bits .andNot .u64 t.2.1 t.2.2 == 0)
/-- Whether a test is among some. -/
def hasT (l : List T) (t : T) : Bool := l.any fun u => decide (u = t)
theorem hasT_iff (l : List T) (t : T) : hasT l t = true ↔ t ∈ l := by simp [hasT]
def standB (f : Int) (l : List T) : Bool := if 5 ≤ f ∧ f ≤ 7 then hasT l (4, 2048, 65535) else if f = 8 ∨ f = 9 then hasT l (7, 6, 255) || hasT l (7, 17, 255) else true
def lastF : List T → Int
  | [] => 0
  | [t] => t.1
  | _ :: u :: r => lastF (u :: r)
theorem lastF_snoc : ∀ (l : List T) (t : T), lastF (l ++ [t]) = t.1
  | [], _ => rfl
  | [_], _ => rfl
  | _ :: u :: r, t => by
    show lastF (u :: (r ++ [t])) = t.1
    exact lastF_snoc (u :: r) t
theorem lastF_get (l : List T) (k : Nat) (h : k + 1 = l.length) : lastF l = (l[k]'(by omega)).1 := by
  have hne : l ≠ [] := by intro h0; subst h0; simp at h
  have e := List.dropLast_concat_getLast hne
  have e2 := lastF_snoc l.dropLast (l.getLast hne)
  rw [e] at e2
  rw [e2, List.getLast_eq_getElem]
  congr 2
  omega
/-- What is wrong with a test behind others. -/
def behindE (t : T) (l : List T) : Int := if wdV t.1 = 0 then 20 else if (l ≠ [] ∧ t.1 ≤ lastF l) ∨ fitB t = false ∨ standB t.1 l = false then 21 else 0
def rightGo : List T → List T → Int
  | _, [] => 0
  | l, t :: r => if behindE t l = 0 then rightGo (l ++ [t]) r else behindE t l
def rightE (l : List T) : Int := rightGo [] l

/-- The document's. -/
def wholeV (l : List T) (f : Int) : Option Int := (l.find? fun t => t.1 == f && t.2.2 == grV f).map (·.2.1)
def rfitB (t : T) : Bool := !(t.2.2 == 0) && (bits .and .u64 t.2.2 (grV t.1) == t.2.2) && (bits .and .u64 t.2.1 t.2.2 == t.2.1)
def rstandB (f : Int) (l : List T) : Bool := if 5 ≤ f ∧ f ≤ 7 then decide (wholeV l 4 = some 2048) else if 8 ≤ f then decide (wholeV l 7 = some 6 ∨ wholeV l 7 = some 17) else true
def rbehindE (t : T) (l : List T) : Int := if wdV t.1 = 0 then 20 else if (l ≠ [] ∧ t.1 ≤ lastF l) ∨ rfitB t = false ∨ rstandB t.1 l = false then 21 else 0
def rrightGo : List T → List T → Int
  | _, [] => 0
  | l, t :: r => if rbehindE t l = 0 then rrightGo (l ++ [t]) r else rbehindE t l

/-- The fields rise. -/
abbrev Rises (l : List T) : Prop := l.Pairwise fun a b => a.1 < b.1
theorem rises_last : ∀ (l : List T), Rises l → ∀ a ∈ l, a.1 ≤ lastF l
  | [], _, a, h => by cases h
  | [t], _, a, h => by simp at h; subst h; exact Int.le_refl _
  | t :: u :: r, hr, a, h => by
    show a.1 ≤ lastF (u :: r)
    rw [Rises, List.pairwise_cons] at hr
    rcases List.mem_cons.1 h with rfl | h
    · have h1 := hr.1 u (by simp)
      have h2 := rises_last (u :: r) hr.2 u (by simp)
      omega
    · exact rises_last (u :: r) hr.2 a h
theorem rises_snoc {l : List T} {t : T} (h : Rises l) (ht : l = [] ∨ lastF l < t.1) : Rises (l ++ [t]) := by
  rw [Rises, List.pairwise_append]
  refine ⟨h, by simp, fun a ha b hb => ?_⟩
  simp at hb
  subst hb
  rcases ht with rfl | ht
  · cases ha
  · have := rises_last l h a ha
    omega
theorem whole_has : ∀ (l : List T), Rises l → ∀ f v, (t : T) → t = (f, v, grV f) → (hasT l t = true ↔ wholeV l f = some v)
  | [], _, f, v, t, _ => by simp [hasT, wholeV]
  | a :: l, hr, f, v, t, ht => by
    rw [Rises, List.pairwise_cons] at hr
    have ih := whole_has l hr.2 f v t ht
    by_cases ha : a.1 = f ∧ a.2.2 = grV f
    · have e : wholeV (a :: l) f = some a.2.1 := by simp [wholeV, ha.1, ha.2]
      rw [e, hasT_iff, List.mem_cons]
      constructor
      · rintro (h | h)
        · rw [ht] at h; rw [← h]
        · have := hr.1 t h
          rw [ht] at this
          have := ha.1
          simp at *
          omega
      · intro h
        left
        rw [ht]
        obtain ⟨a1, a2, a3⟩ := a
        simp at h ha ⊢
        exact ⟨ha.1.symm, h.symm, ha.2.symm⟩
    · have e : wholeV (a :: l) f = wholeV l f := by
        have : (a.1 == f && a.2.2 == grV f) = false := by
          rw [Bool.and_eq_false_iff, beq_eq_false_iff_ne, beq_eq_false_iff_ne]
          by_cases h1 : a.1 = f
          · exact .inr fun h2 => ha ⟨h1, h2⟩
          · exact .inl h1
        simp [wholeV, this]
      rw [e, ← ih, hasT_iff, hasT_iff, List.mem_cons]
      constructor
      · rintro (h | h)
        · exfalso
          apply ha
          rw [← h, ht]
          exact ⟨rfl, rfl⟩
        · exact h
      · exact .inr
theorem bool_iff {a b : Bool} (h : a = true ↔ b = true) : a = b := by cases a <;> cases b <;> simp_all
theorem rstand_eq (l : List T) (hr : Rises l) (f : Int) (hf : ¬ (f < 1 ∨ 9 < f)) : rstandB f l = standB f l := by
  unfold rstandB standB
  split
  · apply bool_iff
    rw [whole_has l hr 4 2048 (4, 2048, 65535) rfl]
    simp
  · by_cases h8 : f = 8 ∨ f = 9
    · rw [if_pos h8, if_pos (by omega)]
      apply bool_iff
      rw [Bool.or_eq_true, whole_has l hr 7 6 (7, 6, 255) rfl, whole_has l hr 7 17 (7, 17, 255) rfl]
      simp
    · rw [if_neg h8, if_neg (by omega)]
theorem rfit_eq (t : T) (hw : TW t) (hf : ¬ (t.1 < 1 ∨ 9 < t.1)) : rfitB t = fitB t := by
  obtain ⟨a, b, c, d⟩ := hw
  unfold rfitB fitB
  have h1 : (bits .and .u64 t.2.2 (grV t.1) == t.2.2) = decide (t.2.2 ≤ grV t.1) := by
    apply bool_iff
    rw [beq_iff_eq, decide_eq_true_iff, and_gr_iff t.1 t.2.2 hf c d]
  have h2 : (bits .and .u64 t.2.1 t.2.2 == t.2.1) = (bits .andNot .u64 t.2.1 t.2.2 == 0) := by
    apply bool_iff
    rw [beq_iff_eq, beq_iff_eq, not_iff _ _ a b]
  rw [h1, h2]
theorem rbehind_eq (t : T) (l : List T) (hw : TW t) (hr : Rises l) : rbehindE t l = behindE t l := by
  unfold rbehindE behindE
  by_cases h : wdV t.1 = 0
  · rw [if_pos h, if_pos h]
  · rw [if_neg h, if_neg h]
    have hf : ¬ (t.1 < 1 ∨ 9 < t.1) := fun g => h (wdV_none g)
    rw [rfit_eq t hw hf, rstand_eq l hr t.1 hf]
theorem behind_rises {t : T} {l : List T} (h : behindE t l = 0) (hr : Rises l) : Rises (l ++ [t]) := by
  apply rises_snoc hr
  unfold behindE at h
  by_cases h0 : l = []
  · exact .inl h0
  · right
    split at h
    · cases h
    · split at h
      · cases h
      · rename_i g
        by_cases hl : lastF l < t.1
        · exact hl
        · exact absurd (Or.inl ⟨h0, by omega⟩) g
theorem rright_eq : ∀ (r l : List T), TWs r → Rises l → rrightGo l r = rightGo l r
  | [], _, _, _ => rfl
  | t :: r, l, hw, hr => by
    unfold rrightGo rightGo
    rw [rbehind_eq t l (hw t (by simp)) hr]
    by_cases h : behindE t l = 0
    · rw [if_pos h, if_pos h]
      exact rright_eq r (l ++ [t]) (fun u hu => hw u (by simp [hu])) (behind_rises h hr)
    · rw [if_neg h, if_neg h]
theorem right_cons {t : T} {l r : List T} : rightGo l (t :: r) = 0 ↔ behindE t l = 0 ∧ rightGo (l ++ [t]) r = 0 := by
  rw [rightGo]
  constructor
  · intro h
    split at h
    · rename_i g; exact ⟨g, h⟩
    · rename_i g; exact absurd h g
  · rintro ⟨h, g⟩
    rw [if_pos h]; exact g
/-- What a test is that is right behind others. -/
structure Fit (t : T) (l : List T) : Prop where
  fld : ¬ (t.1 < 1 ∨ 9 < t.1)
  up : l = [] ∨ lastF l < t.1
  fit : fitB t = true
  std : standB t.1 l = true
theorem fit_of {t : T} {l : List T} (h : behindE t l = 0) : Fit t l := by
  unfold behindE at h
  split at h
  · cases h
  · rename_i g
    split at h
    · cases h
    · rename_i g2
      rw [not_or, not_or] at g2
      refine ⟨fun x => g (wdV_none x), ?_, by simpa using g2.2.1, by simpa using g2.2.2⟩
      by_cases h0 : l = []
      · exact .inl h0
      · right
        have := g2.1
        by_cases hl : lastF l < t.1
        · exact hl
        · exact absurd ⟨h0, by omega⟩ this
theorem fit_num {t : T} {l : List T} (h : Fit t l) (hw : TW t) : t.2.2 ≠ 0 ∧ t.2.2 ≤ grV t.1 ∧ t.2.1 ≤ t.2.2 := by
  have h1 := h.fit
  unfold fitB at h1
  simp only [Bool.and_eq_true, Bool.not_eq_true', decide_eq_true_eq, beq_eq_false_iff_ne, beq_iff_eq] at h1
  refine ⟨h1.1.1, h1.1.2, ?_⟩
  exact le_of_and _ _ hw.m0 hw.m1 ((not_iff _ _ hw.v0 hw.v1).1 h1.2)
theorem short : ∀ (l : List T) (c : Int), Rises l → (∀ a ∈ l, c < a.1 ∧ a.1 ≤ 9) → l.length ≤ (9 - c).toNat
  | [], _, _, _ => by simp
  | a :: l, c, hr, h => by
    rw [Rises, List.pairwise_cons] at hr
    have h1 := h a (by simp)
    have := short l a.1 hr.2 (fun b hb => ⟨hr.1 b hb, (h b (by simp [hb])).2⟩)
    rw [List.length_cons]
    omega
theorem right_rises : ∀ (r l : List T), rightGo l r = 0 → Rises l → (∀ a ∈ l, 0 < a.1 ∧ a.1 ≤ 9) → Rises (l ++ r) ∧ ∀ a ∈ l ++ r, 0 < a.1 ∧ a.1 ≤ 9
  | [], l, _, hr, h => by rw [List.append_nil]; exact ⟨hr, h⟩
  | t :: r, l, hg, hr, h => by
    obtain ⟨h1, h2⟩ := right_cons.1 hg
    have := right_rises r (l ++ [t]) h2 (behind_rises h1 hr) (by
      intro a ha
      rcases List.mem_append.1 ha with ha | ha
      · exact h a ha
      · simp at ha
        subst ha
        have := (fit_of h1).fld
        omega)
    simpa using this
theorem right_short (l : List T) (h : rightE l = 0) : l.length ≤ 9 := by
  have := right_rises l [] h (by simp [Rises]) (by simp)
  have := short l 0 (by simpa using this.1) (by simpa using this.2)
  simpa using this

/-- A field's code, how many bytes it has, and a test's bytes. -/
def codeV (f : Int) (l : List T) : Int :=
  if f = 1 then 0 else if f = 2 then 2 else if f = 4 then 5 else if f = 3 then 6 else if f = 7 then 10 else if f = 5 then 11 else if f = 6 then 12 else
  if f = 8 then (if hasT l (7, 6, 255) = true then 13 else if hasT l (7, 17, 255) = true then 15 else 0) else
  if f = 9 then (if hasT l (7, 6, 255) = true then 14 else if hasT l (7, 17, 255) = true then 16 else 0) else 0
theorem codeV_lt (f : Int) (l : List T) : 0 ≤ codeV f l ∧ codeV f l ≤ 16 := by unfold codeV; (repeat' split) <;> omega
def szV (f : Int) : Nat := if f = 2 then 8 else if f = 1 ∨ f = 5 ∨ f = 6 then 4 else if f = 4 ∨ f = 8 ∨ f = 9 ∨ f = 3 then 2 else if f = 7 then 1 else 0
theorem szV_eq (f : Int) : (wdV f + 7) / 8 = (szV f : Int) := by
  by_cases h : f < 1 ∨ 9 < f
  · rw [wdV_none h]; unfold szV; repeat (rw [if_neg (by omega)])
    rfl
  · rcases cls9 h with rfl | rfl | rfl | rfl | rfl | rfl | rfl | rfl | rfl <;> rfl
theorem szV_le (f : Int) : szV f ≤ 8 := by unfold szV; (repeat' split) <;> omega
def wholeB (t : T) : Bool := t.2.2 == grV t.1
def restT (t : T) : ByteArray := if wholeB t = true then pb t.2.1 (szV t.1) else pb t.2.1 (szV t.1) ++ pb t.2.2 (szV t.1)
def headT (t : T) (l : List T) : Int := if wholeB t = true then 2 * codeV t.1 l else 2 * codeV t.1 l + 1
def encT (t : T) (l : List T) : ByteArray := pb 32768 2 ++ pb (headT t l) 1 ++ pb (restT t).size 1 ++ restT t
def bodyGo : List T → List T → ByteArray
  | _, [] => ⟨#[]⟩
  | l, t :: r => encT t l ++ bodyGo (l ++ [t]) r
def padV (n : Int) : Int := (n + 7) / 8 * 8
def zeros (n : Nat) : ByteArray := ⟨(List.replicate n (0 : UInt8)).toArray⟩
def encS (l : List T) : ByteArray := pb 1 2 ++ pb (4 + (bodyGo [] l).size) 2 ++ bodyGo [] l ++ zeros (padV (4 + (bodyGo [] l).size) - (4 + (bodyGo [] l).size)).toNat

theorem restT_size (t : T) : (restT t).size ≤ 16 := by
  have := szV_le t.1
  unfold restT
  split
  · rw [pb_size]; omega
  · rw [ByteArray.size_append, pb_size, pb_size]; omega
theorem encT_size (t : T) (l : List T) : (encT t l).size ≤ 20 := by
  have := restT_size t
  unfold encT
  simp only [ByteArray.size_append, pb_size]
  omega
theorem body_size : ∀ (r l : List T), (bodyGo l r).size ≤ 20 * r.length
  | [], _ => by simp [bodyGo, ByteArray.size]
  | t :: r, l => by
    have h1 := encT_size t l
    have h2 := body_size r (l ++ [t])
    rw [bodyGo, ByteArray.size_append, List.length_cons]
    omega
theorem body_right (l : List T) (h : rightE l = 0) : (bodyGo [] l).size ≤ 180 := by
  have h1 := right_short l h
  have h2 := body_size l []
  omega
theorem gr_pow {f : Int} (h : ¬ (f < 1 ∨ 9 < f)) : grV f < 256 ^ szV f := by
  rcases cls9 h with rfl | rfl | rfl | rfl | rfl | rfl | rfl | rfl | rfl <;> decide
theorem szV_pos {f : Int} (h : ¬ (f < 1 ∨ 9 < f)) : 1 ≤ szV f := by
  rcases cls9 h with rfl | rfl | rfl | rfl | rfl | rfl | rfl | rfl | rfl <;> decide
end Go.Proofs.YtjjfhibkcngphaaGreatDoor.Mt

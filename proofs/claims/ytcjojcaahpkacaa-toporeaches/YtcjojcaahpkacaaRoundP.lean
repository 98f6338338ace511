/-
  The document's Reach, round by round: plain lists and numbers.
-/
import Derived.Test.YtcjojcaahpkacaaPorts
import Derived.Test.YtcjojcaahpkacaaSeek
namespace Go.Proofs.Ytcjojcaahpkacaa
set_option linter.unusedVariables false
/-- A set of switches to which nothing is to be added. -/
def Clo (L : List Lk) (ds : List Int) (F : Nat → Bool) : Prop := ∀ i (h : i < L.length), ((i : Int) + 1) ∉ ds → 0 < L[i].b → (F L[i].a.toNat = true ∨ F L[i].b.toNat = true) → F L[i].a.toNat = true ∧ F L[i].b.toNat = true
def cntF (F : Nat → Bool) : Nat → Nat
  | 0 => 0
  | m + 1 => cntF F m + if F (m + 1) then 1 else 0
theorem cntF_le (F : Nat → Bool) : ∀ m, cntF F m ≤ m
  | 0 => Nat.le_refl _
  | m + 1 => by
    have := cntF_le F m
    unfold cntF
    split <;> omega
theorem cntF_mono {F G : Nat → Bool} : ∀ m, (∀ j, j ≤ m → F j = true → G j = true) → cntF F m ≤ cntF G m
  | 0, _ => Nat.le_refl _
  | m + 1, h => by
    have := cntF_mono m (fun j hj => h j (by omega))
    have h2 := h (m + 1) (Nat.le_refl _)
    unfold cntF
    by_cases e : F (m + 1) = true
    · rw [if_pos e, if_pos (h2 e)]; omega
    · rw [if_neg e]; omega
theorem cntF_more {F G : Nat → Bool} {z : Nat} : ∀ m, (∀ j, j ≤ m → F j = true → G j = true) → 1 ≤ z → z ≤ m → F z = false → G z = true → cntF F m < cntF G m
  | 0, _, h1, h2, _, _ => by omega
  | m + 1, h, h1, h2, h3, h4 => by
    unfold cntF
    by_cases e : z = m + 1
    · have := cntF_mono m (fun j hj => h j (by omega))
      rw [← e, h3, h4]
      simp
      omega
    · have := cntF_more m (fun j hj => h j (by omega)) h1 (by omega) h3 h4
      have h5 := h (m + 1) (Nat.le_refl _)
      by_cases e2 : F (m + 1) = true
      · rw [if_pos e2, if_pos (h5 e2)]; omega
      · rw [if_neg e2]; omega
theorem cntF_one {F : Nat → Bool} {z : Nat} (hz : F z = true) : ∀ m, 1 ≤ z → z ≤ m → 1 ≤ cntF F m
  | 0, h1, h2 => by omega
  | m + 1, h1, h2 => by
    unfold cntF
    by_cases e : z = m + 1
    · rw [← e, if_pos hz]; omega
    · have := cntF_one hz m h1 (by omega)
      omega
/-- Before a round. -/
structure Ro (n : Nat) (L : List Lk) (ds : List Int) (s r : Nat) (F : Nat → Bool) : Prop where
  snd : ∀ j, j ≤ n → F j = true → 1 ≤ j ∧ Rch L ds (s : Int) (j : Int)
  st : F s = true
  more : Clo L ds F ∨ r + 1 ≤ cntF F n
/-- Within a round that began with F, behind i links. -/
structure Rn (n : Nat) (L : List Lk) (ds : List Int) (s : Nat) (F : Nat → Bool) (i : Nat) (G : Nat → Bool) : Prop where
  mono : ∀ j, F j = true → G j = true
  snd : ∀ j, j ≤ n → G j = true → 1 ≤ j ∧ Rch L ds (s : Int) (j : Int)
  did : ∀ j, j < i → ∀ h : j < L.length, ((j : Int) + 1) ∉ ds → 0 < L[j].b → (F L[j].a.toNat = true ∨ F L[j].b.toNat = true) → G L[j].a.toNat = true ∧ G L[j].b.toNat = true
  fix : Clo L ds F → ∀ j, G j = F j
theorem Ro.init {n : Nat} {L : List Lk} {ds : List Int} {s : Nat} {F : Nat → Bool} (hs : 1 ≤ s ∧ s ≤ n) (hF : ∀ j, F j = true ↔ j = s) : Ro n L ds s 0 F :=
  ⟨fun j _ h => by obtain rfl := (hF j).1 h; exact ⟨hs.1, Rch.refl _ _ _⟩, (hF s).2 rfl, .inr (cntF_one ((hF s).2 rfl) n hs.1 hs.2)⟩
theorem Ro.start {n : Nat} {L : List Lk} {ds : List Int} {s r : Nat} {F : Nat → Bool} (h : Ro n L ds s r F) : Rn n L ds s F 0 F := ⟨fun _ h => h, h.snd, fun j hj => by omega, fun _ _ => rfl⟩
theorem Rn.skip {n : Nat} {L : List Lk} {ds : List Int} {s i : Nat} {F G : Nat → Bool} (h : Rn n L ds s F i G) (hi : i < L.length)
    (hc : ¬ 0 < L[i].b ∨ ((i : Int) + 1) ∈ ds ∨ (G L[i].a.toNat = false ∧ G L[i].b.toNat = false)) : Rn n L ds s F (i + 1) G := by
  refine ⟨h.mono, h.snd, fun j hj hl h1 h2 h3 => ?_, h.fix⟩
  by_cases e : j = i
  · subst e
    rcases hc with hc | hc | hc
    · exact absurd h2 hc
    · exact absurd hc h1
    · rcases h3 with h3 | h3
      · have := h.mono _ h3; rw [hc.1] at this; cases this
      · have := h.mono _ h3; rw [hc.2] at this; cases this
  · exact h.did j (by omega) hl h1 h2 h3
theorem Rn.add {n : Nat} {L : List Lk} {ds : List Int} {s i : Nat} {F G G' : Nat → Bool} (hg : goodF n [] L = true) (h : Rn n L ds s F i G) (hi : i < L.length) (hb : 0 < L[i].b) (hd : ((i : Int) + 1) ∉ ds)
    (hc : G L[i].a.toNat = true ∨ G L[i].b.toNat = true) (hG : ∀ j, G' j = if j = L[i].b.toNat then true else if j = L[i].a.toNat then true else G j) : Rn n L ds s F (i + 1) G' := by
  obtain ⟨⟨a1, a2⟩, _, _, hbb⟩ := mayB_true (good_mid hg i hi).1
  have hbn : L[i].b ≤ n := by omega
  have m1 : ∀ j, G j = true → G' j = true := fun j hj => by
    rw [hG j]
    split
    · rfl
    · split
      · rfl
      · exact hj
  have ga : G' L[i].a.toNat = true := by
    rw [hG]
    split
    · rfl
    · rw [if_pos rfl]
  have gb : G' L[i].b.toNat = true := by rw [hG, if_pos rfl]
  refine ⟨fun j hj => m1 j (h.mono j hj), fun j hj hGj => ?_, fun j hj hl h1 h2 h3 => ?_, fun hcl j => ?_⟩
  · have ea : ((L[i].a.toNat : Nat) : Int) = L[i].a := by omega
    have eb : ((L[i].b.toNat : Nat) : Int) = L[i].b := by omega
    have adj : Adj L ds L[i].a L[i].b := ⟨i, hi, hd, hb, .inl ⟨rfl, rfl⟩⟩
    rw [hG j] at hGj
    have both : Rch L ds (s : Int) L[i].a ∧ Rch L ds (s : Int) L[i].b := by
      rcases hc with hc | hc
      · have := (h.snd _ (by omega) hc).2
        rw [ea] at this
        exact ⟨this, this.step adj⟩
      · have := (h.snd _ (by omega) hc).2
        rw [eb] at this
        exact ⟨this.step adj.symm, this⟩
    split at hGj
    · rename_i e
      rw [e, eb]
      exact ⟨by omega, both.2⟩
    · split at hGj
      · rename_i e
        rw [e, ea]
        exact ⟨by omega, both.1⟩
      · exact h.snd j hj hGj
  · by_cases e : j = i
    · subst e
      exact ⟨ga, gb⟩
    · have := h.did j (by omega) hl h1 h2 h3
      exact ⟨m1 _ this.1, m1 _ this.2⟩
  · have hf := h.fix hcl
    rw [hf, hf] at hc
    have := hcl i hi hd hb hc
    rw [hG j]
    split
    · rename_i e; rw [e, this.2]
    · split
      · rename_i e; rw [e, this.1]
      · exact hf j
theorem Rn.done {n : Nat} {L : List Lk} {ds : List Int} {s r : Nat} {F G : Nat → Bool} (hg : goodF n [] L = true) (h0 : Ro n L ds s r F) (h : Rn n L ds s F L.length G) : Ro n L ds s (r + 1) G := by
  refine ⟨h.snd, h.mono _ h0.st, ?_⟩
  by_cases hcl : Clo L ds F
  · left
    intro i hi h1 h2 h3
    have hf := h.fix hcl
    rw [hf, hf] at h3 ⊢
    exact hcl i hi h1 h2 h3
  · right
    have hr : r + 1 ≤ cntF F n := by
      rcases h0.more with h' | h'
      · exact absurd h' hcl
      · exact h'
    obtain ⟨i, hi, h1, h2, h3, h4⟩ : ∃ i, ∃ hi : i < L.length, ((i : Int) + 1) ∉ ds ∧ 0 < L[i].b ∧ (F L[i].a.toNat = true ∨ F L[i].b.toNat = true) ∧ ¬ (F L[i].a.toNat = true ∧ F L[i].b.toNat = true) := by
      refine Decidable.byContradiction fun hne => hcl fun i hi h1 h2 h3 => ?_
      refine Decidable.byContradiction fun h4 => hne ⟨i, hi, h1, h2, h3, h4⟩
    have hd := h.did i hi hi h1 h2 h3
    obtain ⟨⟨a1, a2⟩, _, _, hbb⟩ := mayB_true (good_mid hg i hi).1
    by_cases e : F L[i].a.toNat = true
    · have e2 : F L[i].b.toNat = false := by
        cases hx : F L[i].b.toNat
        · rfl
        · exact absurd ⟨e, hx⟩ h4
      have := cntF_more (z := L[i].b.toNat) n (fun j _ => h.mono j) (by omega) (by omega) e2 hd.2
      omega
    · have e2 : F L[i].a.toNat = false := by simpa using e
      have := cntF_more (z := L[i].a.toNat) n (fun j _ => h.mono j) (by omega) (by omega) e2 hd.1
      omega
/-- The switches of a set, rising. -/
def listF (F : Nat → Bool) (m : Nat) : List Int := linked (fun p => (0, 0, if F (p + 1) then 1 else 0)) m
theorem listF_succ (F : Nat → Bool) (m : Nat) : listF F (m + 1) = listF F m ++ if F (m + 1) = true then [(m : Int) + 1] else [] := by
  unfold listF
  rw [linked_succ]
  congr 1
  by_cases h : F (m + 1) = true <;> simp [h]
theorem Ro.rd {n : Nat} {L : List Lk} {ds : List Int} {s : Nat} {F : Nat → Bool} (hg : goodF n [] L = true) (hs : 1 ≤ s ∧ s ≤ n) (hn : n ≤ 32) (h : Ro n L ds s n F) : Rd n L ds (s : Int) (listF F n) := by
  have hcl : Clo L ds F := by
    rcases h.more with h' | h'
    · exact h'
    · have := cntF_le F n; omega
  have hm : ∀ x, x ∈ listF F n ↔ ∃ p : Nat, p < n ∧ F (p + 1) = true ∧ x = (p : Int) + 1 := fun x => by
    unfold listF
    rw [linked_mem]
    constructor
    · rintro ⟨p, h1, h2, h3⟩
      refine ⟨p, h1, ?_, h3⟩
      cases hx : F (p + 1)
      · simp [hx] at h2
      · rfl
    · rintro ⟨p, h1, h2, h3⟩
      exact ⟨p, h1, by simp [h2], h3⟩
  refine ⟨linked_rise _ _, fun x => ?_, by have := linked_le (fun p => (0, 0, if F (p + 1) then 1 else 0)) n; unfold listF; omega⟩
  rw [hm]
  constructor
  · rintro ⟨p, h1, h2, rfl⟩
    have := (h.snd (p + 1) (by omega) h2).2
    exact ⟨by omega, by simpa using this⟩
  · rintro ⟨_, hr⟩
    refine hr (fun x => ∃ p : Nat, p < n ∧ F (p + 1) = true ∧ x = (p : Int) + 1) ⟨s - 1, by omega, ?_, by omega⟩ (fun y z hy hz => ?_)
    · rw [show s - 1 + 1 = s by omega]
      exact h.st
    · obtain ⟨p, p1, p2, rfl⟩ := hy
      have hin := (adj_in hg hz).2
      obtain ⟨i, hi, h1, h2, h3⟩ := hz
      refine ⟨(z - 1).toNat, by omega, ?_, by omega⟩
      rcases h3 with ⟨h3, h4⟩ | ⟨h3, h4⟩
      · have := (hcl i hi h1 h2 (.inl (by rw [h3]; rw [show ((p : Int) + 1).toNat = p + 1 by omega]; exact p2))).2
        rw [show (z - 1).toNat + 1 = L[i].b.toNat by omega]
        exact this
      · have := (hcl i hi h1 h2 (.inr (by rw [h3]; rw [show ((p : Int) + 1).toNat = p + 1 by omega]; exact p2))).1
        rw [show (z - 1).toNat + 1 = L[i].a.toNat by omega]
        exact this
end Go.Proofs.Ytcjojcaahpkacaa

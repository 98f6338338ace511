/-
  What stays true of a table: what groups lead to is there, and no way comes back: the plain mathematics.
-/
import Derived.Test.YteodlkgbakkjmaaDoorModW
namespace Go.Proofs.YteodlkgbakkjmaaDoor
open Go.ChangeShapes Go.WideShapes Go.ChangeAt Go.RowKit
set_option linter.unusedVariables false
open scoped Classical

abbrev rawG (g : Gr) : List Int := rawL (g.l.map Bk.b3)
theorem rawG_p {g g' : Gr} (h : g'.p = g.p) : rawG g' = rawG g := congrArg (fun p : P3 => rawL p.2.2) h
theorem id_p {g g' : Gr} (h : g'.p = g.p) : g'.id = g.id := congrArg (fun p : P3 => p.1) h
/-- Ranks that fall along the ways. -/
def Rk (L : List Gr) (rk : Int → Nat) : Prop := ∀ g ∈ L, ∀ x ∈ rawG g, rk x < rk g.id
structure Inv (room : Int) (L : List Gr) : Prop where
  cl : Cl L
  rk : ∃ rk, Rk L rk
  ln : (L.length : Int) ≤ room
/-- A rank above those of some numbers. -/
def topR (rk : Int → Nat) (l : List Int) : Nat := l.foldr (fun x n => max (rk x) n) 0
theorem topR_le (rk : Int → Nat) : ∀ (l : List Int) (x : Int), x ∈ l → rk x ≤ topR rk l
  | [], x, h => by cases h
  | y :: l, x, h => by
    unfold topR
    rw [List.foldr_cons]
    rcases List.mem_cons.1 h with rfl | h
    · exact Nat.le_max_left _ _
    · exact Nat.le_trans (topR_le rk l x h) (Nat.le_max_right _ _)
theorem has_put_self (g : Gr) (L : List Gr) : hasP (putG g L) g.id = true := hasP_iff.2 ⟨g, mem_put.2 (.inl rfl), rfl⟩
theorem has_put {g : Gr} {L : List Gr} {x : Int} (h : hasP L x = true) : hasP (putG g L) x = true := by
  by_cases e : x = g.id
  · subst e; exact has_put_self g L
  · obtain ⟨y, hy, hid⟩ := hasP_iff.1 h
    exact hasP_iff.2 ⟨y, mem_put.2 (.inr ⟨hy, by rw [hid]; exact e⟩), hid⟩
theorem add_zero {room : Int} {L : List Gr} {g : Gr} (h : addE room L g = 0) : rightE g.p = 0 ∧ hasP L g.id = false ∧ (∀ x ∈ rawG g, hasP L x = true) ∧ (L.length : Int) < room := by
  unfold addE at h
  by_cases h1 : rightE g.p ≠ 0
  · rw [if_pos h1] at h; exact absurd h h1
  · rw [if_neg h1] at h
    by_cases h2 : hasP L g.id = true
    · rw [if_pos h2] at h; cases h
    · rw [if_neg h2] at h
      by_cases h3 : leadsAll L (g.l.map Bk.b3) = false
      · rw [if_pos h3] at h; cases h
      · rw [if_neg h3] at h
        by_cases h4 : room ≤ L.length
        · rw [if_pos h4] at h; cases h
        · exact ⟨by omega, by simpa using h2, List.all_eq_true.1 (by simpa [leadsAll] using h3), by omega⟩
theorem Inv.add {room : Int} {L : List Gr} {g g' : Gr} (hI : Inv room L) (h : addE room L g = 0) (hp : g'.p = g.p) : Inv room (putG g' L) := by
  obtain ⟨_, hh, hl, hr⟩ := add_zero h
  rw [← id_p hp] at hh
  rw [← rawG_p hp] at hl
  obtain ⟨rk, hrk⟩ := hI.rk
  refine ⟨?_, ⟨fun x => if x = g'.id then topR rk (rawG g') + 1 else rk x, ?_⟩, ?_⟩
  · intro x hx y hy
    rcases mem_put.1 hx with rfl | ⟨hx, _⟩
    · exact has_put (hl y hy)
    · exact has_put (hI.cl x hx y hy)
  · have hne : ∀ y, hasP L y = true → y ≠ g'.id := fun y hy e => by rw [e, hh] at hy; cases hy
    intro x hx y hy
    show (if y = g'.id then topR rk (rawG g') + 1 else rk y) < (if x.id = g'.id then topR rk (rawG g') + 1 else rk x.id)
    rcases mem_put.1 hx with rfl | ⟨hx, hxi⟩
    · rw [if_neg (hne y (hl y hy)), if_pos rfl]
      have := topR_le rk (rawG x) y hy
      omega
    · rw [if_neg (hne y (hI.cl x hx y hy)), if_neg hxi]
      exact hrk x hx y hy
  · unfold putG
    rw [del_none hh, len_ins]
    omega
theorem del_zero {L : List Gr} {i : Int} (h : delE L i = 0) : hasP L i = true ∧ ∀ g ∈ L, i ∉ rawG g := by
  unfold delE at h
  by_cases h1 : hasP L i = false
  · rw [if_pos h1] at h; cases h
  · rw [if_neg h1] at h
    by_cases h2 : ledB L i = true
    · rw [if_pos h2] at h; cases h
    · refine ⟨by simpa using h1, fun g hg hi => h2 ?_⟩
      unfold ledB
      rw [List.any_eq_true]
      exact ⟨g, hg, by simpa using hi⟩
theorem Inv.del {room : Int} {L : List Gr} {i : Int} (hI : Inv room L) (h : delE L i = 0) : Inv room (delG i L) := by
  obtain ⟨_, hn⟩ := del_zero h
  obtain ⟨rk, hrk⟩ := hI.rk
  refine ⟨?_, ⟨rk, fun x hx => hrk x (mem_del.1 hx).1⟩, ?_⟩
  · intro x hx y hy
    obtain ⟨hx, _⟩ := mem_del.1 hx
    obtain ⟨z, hz, hid⟩ := hasP_iff.1 (hI.cl x hx y hy)
    exact hasP_iff.2 ⟨z, mem_del.2 ⟨hz, fun e => hn x hx (by rw [← e, hid]; exact hy)⟩, hid⟩
  · have : (delG i L).length ≤ L.length := List.length_filter_le _ _
    have := hI.ln
    omega
theorem mod_zero {L : List Gr} {g : Gr} (h : modE L g = 0) : rightE g.p = 0 ∧ hasP L g.id = true ∧ (∀ x ∈ rawG g, hasP L x = true) ∧ ¬ Rc (L.map Gr.p) g.p g.id := by
  unfold modE at h
  by_cases h1 : rightE g.p ≠ 0
  · rw [if_pos h1] at h; exact absurd h h1
  · rw [if_neg h1] at h
    by_cases h2 : hasP L g.id = false
    · rw [if_pos h2] at h; cases h
    · rw [if_neg h2] at h
      by_cases h3 : leadsAll L (g.l.map Bk.b3) = false
      · rw [if_pos h3] at h; cases h
      · rw [if_neg h3] at h
        by_cases h4 : rcB L g = true
        · rw [if_pos h4] at h; cases h
        · exact ⟨by omega, by simpa using h2, List.all_eq_true.1 (by simpa [leadsAll] using h3), fun hr => h4 (rcB_iff.2 hr)⟩
open Classical in
theorem Inv.mod {room : Int} {L : List Gr} {g g' : Gr} (hI : Inv room L) (h : modE L g = 0) (hp : g'.p = g.p) : Inv room (putG g' L) := by
  obtain ⟨_, hh, hl, hr⟩ := mod_zero h
  rw [← hp, ← id_p hp] at hr
  rw [← id_p hp] at hh
  rw [← rawG_p hp] at hl
  obtain ⟨rk, hrk⟩ := hI.rk
  refine ⟨?_, ⟨fun x => if Rc (L.map Gr.p) g'.p x then rk x else rk x + (topR rk (rawG g') + 1), ?_⟩, ?_⟩
  · intro x hx y hy
    rcases mem_put.1 hx with rfl | ⟨hx, _⟩
    · exact has_put (hl y hy)
    · exact has_put (hI.cl x hx y hy)
  · intro x hx y hy
    show (if Rc (L.map Gr.p) g'.p y then rk y else rk y + (topR rk (rawG g') + 1)) < (if Rc (L.map Gr.p) g'.p x.id then rk x.id else rk x.id + (topR rk (rawG g') + 1))
    rcases mem_put.1 hx with rfl | ⟨hx, _⟩
    · have hb : Rc (L.map Gr.p) x.p y := Rc.base hy
      rw [if_pos hb, if_neg hr]
      have := topR_le rk (rawG x) y hy
      omega
    · have hlt := hrk x hx y hy
      by_cases hx2 : Rc (L.map Gr.p) g'.p x.id
      · have hb : Rc (L.map Gr.p) g'.p y := Rc.step hx2 (List.mem_map.2 ⟨x, hx, rfl⟩) rfl hy
        rw [if_pos hx2, if_pos hb]
        exact hlt
      · rw [if_neg hx2]
        split <;> omega
  · obtain ⟨z, hz, hid⟩ := hasP_iff.1 hh
    have hlt : (delG g'.id L).length < L.length := by
      unfold delG
      exact List.length_filter_lt_length_iff_exists.2 ⟨z, hz, by simp [hid]⟩
    have := hI.ln
    unfold putG
    rw [len_ins]
    omega
/-- Which groups lead to one that is left; what is left behind so many rounds. -/
def ldB (S : List Gr) (g : Gr) : Bool := (rawG g).any (hasP S)
def stripS (S : List Gr) : List Gr := S.filter (ldB S)
def stripN : Nat → List Gr → List Gr
  | 0, S => S
  | n + 1, S => stripN n (stripS S)
theorem least_of (rk : Int → Nat) : ∀ (S : List Gr), S ≠ [] → ∃ g ∈ S, ∀ h ∈ S, rk g.id ≤ rk h.id
  | [], h => absurd rfl h
  | x :: S, _ => by
    by_cases hS : S = []
    · subst hS
      exact ⟨x, by simp, fun h hh => by simp at hh; subst hh; exact Nat.le_refl _⟩
    · obtain ⟨g, hg, hm⟩ := least_of rk S hS
      by_cases hlt : rk x.id ≤ rk g.id
      · exact ⟨x, by simp, fun h hh => by
          rcases List.mem_cons.1 hh with rfl | hh
          · exact Nat.le_refl _
          · exact Nat.le_trans hlt (hm h hh)⟩
      · exact ⟨g, by simp [hg], fun h hh => by
          rcases List.mem_cons.1 hh with rfl | hh
          · omega
          · exact hm h hh⟩
theorem strip_less {rk : Int → Nat} {S : List Gr} (h : Rk S rk) (hS : S ≠ []) : (stripS S).length < S.length := by
  obtain ⟨g, hg, hm⟩ := least_of rk S hS
  refine List.length_filter_lt_length_iff_exists.2 ⟨g, hg, fun hl => ?_⟩
  unfold ldB at hl
  obtain ⟨x, hx, hh⟩ := List.any_eq_true.1 hl
  obtain ⟨z, hz, hid⟩ := hasP_iff.1 hh
  have h1 := h g hg x hx
  have h2 := hm z hz
  rw [hid] at h2
  omega
theorem strip_none {rk : Int → Nat} : ∀ (n : Nat) (S : List Gr), Rk S rk → S.length ≤ n → stripN n S = []
  | 0, S, _, hl => List.length_eq_zero_iff.1 (Nat.le_zero.1 hl)
  | n + 1, S, h, hl => by
    rw [stripN]
    by_cases hS : S = []
    · subst hS
      exact strip_none (rk := rk) n _ (fun g hg => by cases hg) (by simp [stripS])
    · have := strip_less h hS
      exact strip_none n _ (fun g hg => h g (List.mem_filter.1 hg).1) (by omega)
theorem stripN_succ : ∀ (n : Nat) (S : List Gr), stripN (n + 1) S = stripS (stripN n S)
  | 0, S => rfl
  | n + 1, S => by rw [stripN, stripN_succ n, ← stripN]
theorem Rk.of {L r : List Gr} {rk : Int → Nat} (h : Rk L rk) (hp : r.map Gr.p = L.map Gr.p) : Rk r rk := fun g hg x hx => by
  have hm : g.p ∈ L.map Gr.p := by rw [← hp]; exact List.mem_map.2 ⟨g, hg, rfl⟩
  obtain ⟨q, hq, e⟩ := List.mem_map.1 hm
  rw [← id_p e]
  exact h q hq x (by rw [rawG_p e]; exact hx)
end Go.Proofs.YteodlkgbakkjmaaDoor

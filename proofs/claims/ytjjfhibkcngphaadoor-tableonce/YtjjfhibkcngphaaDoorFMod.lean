/-
  What Modify does, as a contract.
-/
import Derived.Test.YtjjfhibkcngphaaDoorFLook
import Derived.Deep.QuietTactic
import Derived.BigQuiet
namespace Go.Proofs.YtjjfhibkcngphaaDoor
open Go.ChangeShapes Go.WideShapes Go.ChangeAt Go.RowKit
set_option linter.unusedVariables false

/-- What the tables have behind a call. -/
def upd {α : Type} (P : Nat → α) (t : Nat) (l : α) : Nat → α := fun u => if u = t then l else P u
def chgE (x y : Fp) (s : Bool) : Fp := if meansB x y s = true then { x with pri := y.pri, lt := y.lt } else y
def modL (l : List Fp) (x : Fp) (s : Bool) : List Fp := l.map fun y => chgE x y s
def delL (l : List Fp) (x : Fp) (s : Bool) : List Fp := l.filter fun y => !meansB x y s
def modP (P : Nat → List Fp) (x : Fp) (s : Bool) : Nat → List Fp := if wrongE x = 0 then upd P x.tab.toNat (modL (P x.tab.toNat) x s) else P
def delP (P : Nat → List Fp) (x : Fp) (s : Bool) : Nat → List Fp := if wrongE x = 0 then upd P x.tab.toNat (delL (P x.tab.toNat) x s) else P
theorem upd_same {α : Type} (P : Nat → α) (t : Nat) (l : α) : upd P t l t = l := if_pos rfl
theorem upd_other {α : Type} (P : Nat → α) (t : Nat) (l : α) {u : Nat} (h : u ≠ t) : upd P t l u = P u := if_neg h
/-- The blocks behind a call. -/
def more (S : Nat → Prop) (w w' : World) : Nat → Prop := fun b => S b ∨ (w.heap.size ≤ b ∧ b < w'.heap.size)
theorem Fl.update {w w' : World} {f : Nat} {S : Nat → Prop} {room : Int} {V : Nat → Value} {L : Nat → List Fe} (h : Fl w f S room V L) {t : Nat} (ht : t < 8) {v' : Value} {m : List Fe} (hz : w.heap.size ≤ w'.heap.size)
    (hk : ∀ b, b < w.heap.size → b ≠ f → (V t).ownBlock ≠ some b → w'.heap[b]? = w.heap[b]?)
    (hf : ∀ o, o ≠ 1 + t → w'.cell? ⟨f, o, none⟩ = w.cell? ⟨f, o, none⟩) (hft : w'.cell? ⟨f, 1 + t, none⟩ = some v') (hff : ∀ o, w'.frozen? ⟨f, o, none⟩ = w.frozen? ⟨f, o, none⟩)
    (hown : OwnE 0 w' v' m) (hv : v'.ownBlock = (V t).ownBlock ∨ ∃ g, v'.ownBlock = some g ∧ w.heap.size ≤ g)
    (hm : ∀ x ∈ m, FW w' x ∧ ∀ b, InF x b → ((∃ y ∈ L t, InF y b) ∨ w.heap.size ≤ b) ∧ v'.ownBlock ≠ some b) (hn : (m.length : Int) ≤ room) :
    Fl w' f (more S w w') room (upd V t v') (upd L t m) := by
  have hfl : f < w.heap.size := h.lt f h.sf
  have hvl : ∀ u, u < 8 → ∀ g, (V u).ownBlock = some g → g < w.heap.size := fun u hu g hg => h.lt g (h.sr u hu g hg).1
  have hvn : ∀ g, v'.ownBlock = some g → more S w w' g ∧ g ≠ f := fun g hg => by
    rcases hv with e | ⟨g', e, hge⟩
    · have := h.sr t ht g (by rw [← e]; exact hg)
      exact ⟨.inl this.1, this.2⟩
    · have e2 : g = g' := by rw [hg] at e; exact Option.some.inj e
      subst e2
      exact ⟨.inr ⟨hge, (hown.lt g hg).2⟩, by omega⟩
  refine ⟨?_, ?_, fun o => (hff o).trans (h.fz o), ?_, .inl h.sf, ?_, ?_, ?_, ?_, ?_, h.r1, h.r2, ?_⟩
  · rw [hf 0 (by omega)]; exact h.rm
  · intro u hu
    by_cases e : u = t
    · subst e; rw [upd_same]; exact hft
    · rw [upd_other V t v' e, hf (1 + u) (by omega)]; exact h.cv u hu
  · intro u hu
    by_cases e : u = t
    · subst e; rw [upd_same, upd_same]; exact hown
    · rw [upd_other V t v' e, upd_other L t m e]
      have hr := h.row u hu
      refine ⟨hr.1, ?_⟩
      rcases hr.2 with hn | ⟨g', cap, cur, hvv, hb, hgg, rest⟩
      · exact .inl hn
      · have hgo : (V u).ownBlock = some g' := by rw [hvv]; rfl
        exact .inr ⟨g', cap, cur, hvv, hb, (hk g' (hvl u hu g' hgo) (h.sr u hu g' hgo).2 (h.ap u t hu ht e g' hgo)).trans hgg, rest⟩
  · intro u hu g hg
    by_cases e : u = t
    · subst e; rw [upd_same] at hg; exact hvn g hg
    · rw [upd_other V t v' e] at hg
      have := h.sr u hu g hg
      exact ⟨.inl this.1, this.2⟩
  · intro u1 u2 h1 h2 hne g hg
    by_cases e1 : u1 = t
    · subst e1
      rw [upd_same] at hg
      rw [upd_other V u1 v' (Ne.symm hne)]
      rcases hv with e | ⟨g', e, hge⟩
      · exact h.ap u1 u2 h1 h2 hne g (by rw [← e]; exact hg)
      · intro hg2
        have := hvl u2 h2 g hg2
        have e2 : g = g' := by rw [hg] at e; exact Option.some.inj e
        omega
    · rw [upd_other V t v' e1] at hg
      by_cases e2 : u2 = t
      · subst e2
        rw [upd_same]
        rcases hv with e | ⟨g', e, hge⟩
        · rw [e]; exact h.ap u1 u2 h1 h2 hne g hg
        · rw [e]
          intro hg2
          have := hvl u1 h1 g hg
          have e2 : g' = g := Option.some.inj hg2
          omega
      · rw [upd_other V t v' e2]; exact h.ap u1 u2 h1 h2 hne g hg
  · intro u hu x hx
    by_cases e : u = t
    · subst e
      rw [upd_same] at hx
      obtain ⟨x1, x2⟩ := hm x hx
      refine ⟨x1, fun b hb => ?_⟩
      obtain ⟨h1, h2⟩ := x2 b hb
      rcases h1 with ⟨y, hy, hyb⟩ | hfr
      · obtain ⟨s1, s2, s3⟩ := (h.en u hu y hy).2 b hyb
        refine ⟨.inl s1, s2, fun u2 hu2 => ?_⟩
        by_cases e2 : u2 = u
        · subst e2; rw [upd_same]; exact h2
        · rw [upd_other V u v' e2]; exact s3 u2 hu2
      · refine ⟨.inr ⟨hfr, x1.lt hb⟩, by omega, fun u2 hu2 => ?_⟩
        by_cases e2 : u2 = u
        · subst e2; rw [upd_same]; exact h2
        · rw [upd_other V u v' e2]
          intro hg2
          have := hvl u2 hu2 b hg2
          omega
    · rw [upd_other L t m e] at hx
      obtain ⟨x1, x2⟩ := h.en u hu x hx
      refine ⟨x1.stay hz (fun b hb hlt => hk b hlt (x2 b hb).2.1 ((x2 b hb).2.2 t ht)), fun b hb => ?_⟩
      obtain ⟨s1, s2, s3⟩ := x2 b hb
      refine ⟨.inl s1, s2, fun u2 hu2 => ?_⟩
      by_cases e2 : u2 = t
      · subst e2
        rw [upd_same]
        rcases hv with e' | ⟨g', e', hge⟩
        · rw [e']; exact s3 u2 hu2
        · rw [e']
          intro hg2
          have e3 : g' = b := Option.some.inj hg2
          have := h.lt b s1
          omega
      · rw [upd_other V t v' e2]; exact s3 u2 hu2
  · intro b hb
    rcases hb with hb | hb
    · exact Nat.lt_of_lt_of_le (h.lt b hb) hz
    · exact hb.2
  · intro b hb
    rcases hb with hb | hb
    · exact h.lo b hb
    · have := h.lo f h.sf; omega
  · intro u hu
    by_cases e : u = t
    · subst e; rw [upd_same]; exact hn
    · rw [upd_other L t m e]; exact h.nm u hu
theorem more_sub {S : Nat → Prop} {w w' : World} : ∀ b, more S w w' b → S b ∨ w.heap.size ≤ b := fun b hb => by
  rcases hb with hb | hb
  · exact .inl hb
  · exact .inr hb.1
/-- A round of Modify: the first k entries of the row do what x does, where it means them. -/
structure ModI (w1 : World) (g cap : Nat) (l : List Fe) (x : Fp) (s : Bool) (k : Nat) (wr : World) (m : List Fe) : Prop where
  len : m.length = l.length
  own : wr.ownsRow 0 38 10 (.slice (some ⟨g, 0, none⟩) l.length cap) l.length (flatE m)
  done : ∀ i (h : i < m.length) (h2 : i < l.length), i < k → m[i].p = chgE x l[i].p s ∧ FW wr m[i] ∧ ∀ b, InF m[i] b → InF l[i] b ∨ w1.heap.size ≤ b
  left : ∀ i (h : i < m.length) (h2 : i < l.length), k ≤ i → m[i] = l[i]
  gby : w1.grownBy wr (some g)
theorem ModI.step {w1 : World} {g cap : Nat} {l : List Fe} {x : Fp} {s : Bool} {k : Nat} {wr : World} {m : List Fe} (h : ModI w1 g cap l x s k wr m) (hk : k < l.length) (hg : g < w1.heap.size) (hng : ∀ y ∈ l, ∀ b, InF y b → b ≠ g) {w' : World} {z : Fe} (hs : wr.grownBy w' (some g))
    (hown : w'.ownsRow 0 38 10 (.slice (some ⟨g, 0, none⟩) l.length cap) l.length (flatE (m.set k z))) (hz : z.p = chgE x l[k].p s) (hw : FW w' z) (hi : ∀ b, InF z b → InF l[k] b ∨ w1.heap.size ≤ b) : ModI w1 g cap l x s (k + 1) w' (m.set k z) := by
  refine ⟨by simp [h.len], hown, ?_, ?_, gby_trans h.gby hs⟩
  · intro i hi1 hi2 hlt
    by_cases e : i = k
    · subst e
      rw [List.getElem_set_self]
      exact ⟨hz, hw, hi⟩
    · rw [List.getElem_set_ne (Ne.symm e)]
      obtain ⟨a1, a2, a3⟩ := h.done i (by simpa using hi1) hi2 (by omega)
      refine ⟨a1, a2.stay hs.size (fun b hb hlt => hs.block b hlt (fun e => ?_)), a3⟩
      have e' : b = g := Option.some.inj e
      rcases a3 b hb with h1 | h1
      · exact hng _ (List.getElem_mem _) b h1 e'
      · omega
  · intro i hi1 hi2 hle
    rw [List.getElem_set_ne (by omega)]
    exact h.left i (by simpa using hi1) hi2 (by omega)
theorem ModI.all {w1 : World} {g cap : Nat} {l : List Fe} {x : Fp} {s : Bool} {wr : World} {m : List Fe} (h : ModI w1 g cap l x s l.length wr m) : m.map Fe.p = modL (l.map Fe.p) x s := by
  unfold modL
  apply List.ext_getElem
  · simp [h.len]
  · intro i h1 h2
    have hi : i < m.length := by simpa using h1
    have hi2 : i < l.length := by rw [← h.len]; exact hi
    simp only [List.getElem_map]
    exact (h.done i hi hi2 hi2).1
end Go.Proofs.YtjjfhibkcngphaaDoor

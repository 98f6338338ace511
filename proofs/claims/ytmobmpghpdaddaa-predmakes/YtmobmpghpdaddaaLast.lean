/-
  A region that draws its order, and whose last operation waits for all others: these in whatever order, by one walk; then that one.
-/
import Derived.Test.YtmobmpghpdaddaaEql
import Derived.Deep.Quiet
import Derived.Tactics
import Derived.BigFrame
namespace Go.Proofs.Ytmobmpghpdaddaa

section
open Go.ChangeShapes Go.WideShapes Go.ChangeAt Go.RowKit
variable {P : Program} {C : World → Prop} {l1 l2 : List Oper} {os : Oper}
/-- In the place of the store: nothing. -/
def repOp (o : Oper) : Oper := { dst := o.dst, op := .assign (.const undef), type := o.type, pos := o.pos, after := o.after, guard := o.guard }
/-- Each one waits but for earlier ones. -/
def preB (l : List Oper) : Bool := (List.range l.length).all fun i => match l[i]? with
  | some o => o.after.all fun e => !Region.binds .any e || decide (e.on < i)
  | none => true
/-- Whether one waits for another one, through others. -/
def reachB (l : List Oper) : Nat → Nat → Nat → Bool
  | 0, _, _ => false
  | f + 1, i, j => match l[i]? with
    | some o => o.after.any fun e => Region.binds .any e && (e.on == j || reachB l f e.on j)
    | none => false
theorem preB_spec {l : List Oper} (h : preB l = true) {i : Nat} {o : Oper} (ho : l[i]? = some o) : ∀ e ∈ o.after, Region.binds .any e = true → e.on < i := by
  unfold preB at h
  rw [List.all_eq_true] at h
  have hi : i < l.length := (List.getElem?_eq_some_iff.1 ho).1
  have := h i (List.mem_range.2 hi)
  simp only [ho] at this
  intro e he hb
  have := (Array.all_eq_true_iff_forall_mem.1 this) e he
  simpa [hb] using this
theorem getD_of {L : Array Bool} {i : Nat} {b d : Bool} (h : L[i]? = some b) : L.getD i d = b := by
  rw [Array.getD_eq_getD_getElem?, h]; rfl
theorem bool_at {L : Array Bool} {i : Nat} (h : i < L.size) : L[i]? = some true ∨ L[i]? = some false := by
  rw [Array.getElem?_eq_getElem h]
  cases L[i] <;> simp
theorem true_of {L : Array Bool} {i : Nat} (h : L.getD i false = true) : L[i]? = some true := by
  rw [Array.getD_eq_getD_getElem?] at h
  cases hc : L[i]? with
  | none => rw [hc] at h; cases h
  | some b => rw [hc] at h; simp at h; rw [h]
theorem false_of {L : Array Bool} {i : Nat} (h : L.getD i true = false) : L[i]? = some false := by
  rw [Array.getD_eq_getD_getElem?] at h
  cases hc : L[i]? with
  | none => rw [hc] at h; cases h
  | some b => rw [hc] at h; simp at h; rw [h]
/-- One has not come up: one may. -/
theorem ready_some {l : List Oper} (hp : preB l = true) {L : Array Bool} (hs : L.size = l.length) : ∀ i, i < l.length → L[i]? = some false → Region.ready .any l.toArray L ≠ [] := by
  intro i
  induction i using Nat.strongRecOn with
  | ind i ih =>
    intro hi hl hr
    have ho : l[i]? = some l[i] := List.getElem?_eq_getElem hi
    have h1 := preB_spec hp ho
    by_cases hall : ∀ e ∈ l[i].after, Region.binds .any e = true → L.getD e.on false = true
    · have : i ∈ Region.ready .any l.toArray L := mem_ready.2 ⟨getD_of hl, l[i], by simp, hall⟩
      rw [hr] at this
      cases this
    · simp only [Classical.not_forall] at hall
      obtain ⟨e, he, hb, hn⟩ := hall
      have hlt := h1 e he hb
      rcases bool_at (L := L) (i := e.on) (by omega) with h | h
      · exact hn (getD_of h)
      · exact ih e.on hlt (by omega) h hr
/-- What has come up, what it waited for has, too. -/
def Shutd (l : List Oper) (L : Array Bool) : Prop := ∀ (j : Nat) (o : Oper), L[j]? = some true → l[j]? = some o → ∀ e ∈ o.after, Region.binds .any e = true → L[e.on]? = some true
theorem Shutd.reach {l : List Oper} {L : Array Bool} (h : Shutd l L) : ∀ (f i j : Nat), reachB l f i j = true → L[i]? = some true → L[j]? = some true
  | 0, _, _, hr, _ => by cases hr
  | f + 1, i, j, hr, hi => by
    unfold reachB at hr
    cases ho : l[i]? with
    | none => rw [ho] at hr; cases hr
    | some o =>
      simp only [ho] at hr
      obtain ⟨e, he, hb⟩ := Array.any_eq_true'.1 hr
      simp only [Bool.and_eq_true, Bool.or_eq_true, beq_iff_eq] at hb
      have := h i o hi ho e he hb.1
      rcases hb.2 with h2 | h2
      · rw [← h2]; exact this
      · exact h.reach f e.on j h2 this
theorem set_at {L : Array Bool} {i j : Nat} : (L.setIfInBounds i true)[j]? = some true ↔ L[j]? = some true ∨ (i = j ∧ i < L.size) := by
  rw [Array.getElem?_setIfInBounds]
  by_cases e : i = j
  · subst e
    by_cases hb : i < L.size
    · simp [hb]
    · simp [hb]
  · simp [e]
theorem Shutd.set {l : List Oper} {L : Array Bool} (h : Shutd l L) {i : Nat} (hi : i ∈ Region.ready .any l.toArray L) : Shutd l (L.setIfInBounds i true) := by
  obtain ⟨h0, o, ho, hall⟩ := mem_ready.1 hi
  intro j o' hj ho' e he hb
  rw [set_at] at hj ⊢
  refine .inl ?_
  rcases hj with hj | ⟨rfl, _⟩
  · exact h j o' hj ho' e he hb
  · have : o' = o := by simpa using (show some o' = some o from by rw [← ho']; simpa using ho)
    subst this
    exact true_of (hall e he hb)
theorem get_rep (i : Nat) : (l1 ++ repOp os :: l2)[i]? = if i = l1.length then some (repOp os) else (l1 ++ os :: l2)[i]? := by
  by_cases h : i = l1.length
  · subst h; simp
  · rw [if_neg h, List.getElem?_append, List.getElem?_append]
    split
    · rfl
    · obtain ⟨d, hd⟩ : ∃ d, i - l1.length = d + 1 := ⟨i - l1.length - 1, by omega⟩
      rw [hd]; rfl
theorem ready_rep (L : Array Bool) (j : Nat) : j ∈ Region.ready .any (l1 ++ repOp os :: l2).toArray L ↔ j ∈ Region.ready .any (l1 ++ os :: l2).toArray L := by
  rw [mem_ready, mem_ready]
  by_cases h : j = l1.length
  · subst h
    simp [repOp]
  · have : (l1 ++ repOp os :: l2).toArray[j]? = (l1 ++ os :: l2).toArray[j]? := by
      have := get_rep (l1 := l1) (l2 := l2) (os := os) j
      rw [if_neg h] at this
      simpa using this
    rw [this]
theorem wanted_rep (o : Oper) (t : Array Value) : Region.wanted o (yielded (l1 ++ repOp os :: l2).toArray t) = Region.wanted o (yielded (l1 ++ os :: l2).toArray t) := by
  have : yielded (l1 ++ repOp os :: l2).toArray t = yielded (l1 ++ os :: l2).toArray t := by
    funext j
    unfold yielded
    have e : ((l1 ++ repOp os :: l2).toArray[j]?).bind (·.dst) = ((l1 ++ os :: l2).toArray[j]?).bind (·.dst) := by
      have := get_rep (l1 := l1) (l2 := l2) (os := os) j
      by_cases h : j = l1.length
      · subst h; simp [repOp]
      · rw [if_neg h] at this
        simp only [List.getElem?_toArray, this]
    rw [e]
  rw [this]
/-- The last one waits for all others. -/
def lastB (l : List Oper) : Bool := (List.range (l.length - 1)).all fun j => reachB l l.length (l.length - 1) j
variable {Q : Exit → Act → World → Prop}
theorem none_ready {l : List Oper} {L : Array Bool} (h : ∀ j, j < l.length → L[j]? = some true) : Region.ready .any l.toArray L = [] := by
  rw [List.eq_nil_iff_forall_not_mem]
  intro j hj
  obtain ⟨h0, o, ho, _⟩ := mem_ready.1 hj
  have hlt : j < l.length := by
    have := (Array.getElem?_eq_some_iff.1 ho).1
    simpa using this
  rw [getD_of (h j hlt)] at h0
  cases h0
theorem any_last (hp : preB (l1 ++ [os]) = true) (hl : lastB (l1 ++ [os]) = true) (hg : os.guard = none) (hd : os.dst = none) : ∀ (fu : Nat) (L : Array Bool) (a : Act) (w : World), L.size = (l1 ++ [os]).length → Shutd (l1 ++ [os]) L → L[l1.length]? = some false → C w →
    wpAnyQ P .any (l1 ++ [repOp os]).toArray C (fun a' => ∀ w', C w' → Oper.wp P os a' w' (Q .normal) Q) fu L a → wpAny P .any (l1 ++ [os]).toArray Q fu L a w := by
  intro fu
  have dead : ∀ L : Array Bool, L.size = (l1 ++ [os]).length → L[l1.length]? = some false → Region.ready .any (l1 ++ repOp os :: []).toArray L ≠ [] := fun L hz hu hn => by
    have := ready_some hp hz l1.length (by simp) hu
    refine this ?_
    rw [List.eq_nil_iff_forall_not_mem]
    intro j hj
    have := (ready_rep (l1 := l1) (l2 := []) (os := os) L j).2 hj
    rw [hn] at this
    cases this
  induction fu with
  | zero =>
    intro L a w hz _ hu _ h
    exact absurd h.1 (dead L hz hu)
  | succ fu ih =>
    intro L a w hz hs hu hC h
    refine ⟨fun hn => absurd hn (fun hn => ready_some hp hz l1.length (by simp) hu hn), fun i hi => ?_⟩
    obtain ⟨h0, o, ho, hall⟩ := mem_ready.1 hi
    have ho' : (l1 ++ [os])[i]? = some o := by simpa using ho
    have hq := h.2 i ((ready_rep (l1 := l1) (l2 := []) (os := os) L i).2 hi)
    have hs' := hs.set hi
    have hi' : i < L.size := by rw [hz]; exact (List.getElem?_eq_some_iff.1 ho').1
    unfold qOp at hq
    unfold wpOp
    simp only [ho]
    by_cases hne : i = l1.length
    · subst hne
      have eo : o = os := by simpa using ho'.symm
      subst eo
      have hw : Region.wanted o (yielded (l1 ++ [o]).toArray a.tmps) = true := by simp [Region.wanted, hg]
      rw [if_pos hw]
      refine .inl ?_
      have hor' : (l1 ++ [repOp o]).toArray[l1.length]? = some (repOp o) := by simp
      simp only [hor'] at hq
      have hw' : Region.wanted (repOp o) (yielded (l1 ++ [repOp o]).toArray a.tmps) = true := by simp [Region.wanted, repOp, hg]
      rw [if_pos hw'] at hq
      obtain ⟨v, _, h2⟩ := hq
      have e2 : a.put (repOp o).dst v = a := by simp [repOp, hd, Act.put]
      rw [e2] at h2
      have hall' : ∀ j, j < (l1 ++ [o]).length → (L.setIfInBounds l1.length true)[j]? = some true := by
        intro j hj
        by_cases e : j = l1.length
        · subst e; exact set_at.2 (.inr ⟨rfl, hi'⟩)
        · have hlen : (l1 ++ [o]).length = l1.length + 1 := by simp
          unfold lastB at hl
          rw [List.all_eq_true] at hl
          have := hl j (List.mem_range.2 (by omega))
          rw [show (l1 ++ [o]).length - 1 = l1.length by omega] at this
          exact hs'.reach _ _ _ this (set_at.2 (.inr ⟨rfl, hi'⟩))
      have hr1 := none_ready hall'
      have hall2 : ∀ j, j < (l1 ++ [repOp o]).length → (L.setIfInBounds l1.length true)[j]? = some true := fun j hj => hall' j (by simpa using hj)
      have hr2 := none_ready hall2
      have post : ∀ w', C w' → Oper.wp P o a w' (Q .normal) Q := by
        cases fu with
        | zero => exact h2.2
        | succ fu => exact h2.1 hr2
      refine Oper.wp_mono (fun a' w' hQ => ?_) (post w hC)
      cases fu with
      | zero => exact ⟨hr1, hQ⟩
      | succ fu => exact ⟨fun _ => hQ, fun i hi => by rw [hr1] at hi; cases hi⟩
    · have hor2 : (l1 ++ [repOp os]).toArray[i]? = some o := by
        have := get_rep (l1 := l1) (l2 := []) (os := os) i
        rw [if_neg hne, ho'] at this
        simpa using this
      simp only [hor2] at hq
      have hwr := wanted_rep (l1 := l1) (l2 := []) (os := os) o a.tmps
      rw [hwr] at hq
      have hu' : (L.setIfInBounds i true)[l1.length]? = some false := by rw [Array.getElem?_setIfInBounds, if_neg hne]; exact hu
      have hz' : (L.setIfInBounds i true).size = (l1 ++ [os]).length := by simpa using hz
      split
      · next hw =>
        rw [if_pos hw] at hq
        refine .inl ?_
        obtain ⟨v, h1, h2⟩ := hq
        exact Oper.wp_of_quiet (K := fun a' => a' = a.put o.dst v) hC (fun a' w' hw' ha => by subst ha; exact ih _ _ w' hz' hs' hu' hw' h2) ⟨v, h1, rfl⟩
      · next hw =>
        rw [if_neg hw] at hq
        exact ih _ _ w hz' hs' hu' hC hq
/-- A region that draws its order and whose last operation waits for all others. -/
theorem wp_region_last {id : Nat} {a : Act} {w : World} (l1 : List Oper) (os : Oper) (hm : P.follows .mixedOrders = true) (hB : Region.lexB .any (l1 ++ [repOp os]).toArray = true)
    (hp : preB (l1 ++ [os]) = true) (hl : lastB (l1 ++ [os]) = true) (hg : os.guard = none) (hd : os.dst = none) (hC : C { w with drawn := w.drawn + 1 })
    (h : wpQuiet P (l1 ++ [repOp os]).toArray C (fun a' => ∀ w', C w' → Oper.wp P os a' w' (Q .normal) Q) (l1 ++ [repOp os]) a) : (Code.region id (l1 ++ [os]).toArray true).wp P Q a w := by
  simp only [Region.lexB, Bool.and_eq_true] at hB
  have hz1 : (l1 ++ [repOp os]).toArray.size = (l1 ++ [os]).toArray.size := by simp
  have hq := wpAnyQ_lex (C := C) (md := .any) hB.1 (l1 ++ [repOp os]) 0 (Array.replicate (l1 ++ [os]).toArray.size false) a (by simp) (by have := hB.2; rw [hz1] at this; simpa using this) h
  have hu : ∀ i, i < (l1 ++ [os]).toArray.size → (Array.replicate (l1 ++ [os]).toArray.size false)[i]? = some false := fun i hi => by rw [Array.getElem?_replicate, if_pos hi]
  have nt : ∀ i, (Array.replicate (l1 ++ [os]).toArray.size false)[i]? ≠ some true := fun i e => by
    rw [Array.getElem?_replicate] at e
    split at e <;> cases e
  refine wp_region_any hm ?_
  refine any_last hp hl hg hd _ _ a _ (by simp) (fun j o hj => absurd hj (nt j)) (hu _ (by simp)) hC ?_
  have e : (l1 ++ [os]).toArray.size = (l1 ++ [repOp os]).length := by simp
  rw [e] at hq ⊢
  exact hq
end
end Go.Proofs.Ytmobmpghpdaddaa

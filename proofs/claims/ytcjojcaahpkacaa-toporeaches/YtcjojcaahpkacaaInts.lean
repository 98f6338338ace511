/-
  Numbers in a row that the call has made: appended, sought, sorted; numbers that are handed in.
-/
import Derived.Test.YtcjojcaahpkacaaNewW
import Derived.Test.YtcjojcaahpkacaaShelf
import Derived.Sort.OwnSortedInts
namespace Go.Proofs.Ytcjojcaahpkacaa
open Go.ChangeShapes Go.WideShapes Go.ChangeAt Go.RowKit Go.Sort
set_option linter.unusedVariables false

/-- A slice of numbers that the call has made. -/
abbrev OwnI (base : Nat) (w : World) (v : Value) (zs : List Int) : Prop := w.ownsRow base 3 1 v zs.length (zs.map (Value.int .i64))
theorem own_below {base : Nat} {w w' : World} {v : Value} {zs : List Int} (h : OwnI base w v zs) (g : Below w.heap.size w w') : OwnI base w' v zs := h.kept (gby g) (by cases hv : v.ownBlock <;> simp)
theorem own_mono {base base' e size n : Nat} {w : World} {v : Value} {xs : List Value} (h : w.ownsRow base e size v n xs) (hb : base' ≤ base) : w.ownsRow base' e size v n xs := by
  rcases h.2 with ⟨h1, h2⟩ | ⟨g, cap, cur, h1, h2, h3⟩
  · exact ⟨h.1, .inl ⟨h1, h2⟩⟩
  · exact ⟨h.1, .inr ⟨g, cap, cur, h1, by omega, h3⟩⟩
theorem infoI : (Try.prog.info? 3).map (fun i => (i.zero, i.size, i.bytes)) = some (some (.int .i64 0), 1, 8) := by kernel_rfl
/-- One number is appended. -/
theorem wpList_app1 {w : World} {ops : Array Oper} {rest : List Oper} {o : Oper} {a : Go.Act} {Q : Exit → Go.Act → World → Prop} (hgd : o.guard = none) (s x : Operand)
    (ho : o.op = .call { callee := .builtin .append, args := #[s, x], argTypes := #[36, 36] }) (base : Nat) (v : Value) (zs : List Int) (hs : a.eval s = v) (hown : OwnI base w v zs)
    (g : Nat) (z : Int) (hx : a.eval x = .slice (some ⟨g, 0, none⟩) 1 1) (hc : w.cell? ⟨g, 0, none⟩ = some (.int .i64 z)) (hn : zs.length ≤ 100000) (hbase : base ≤ w.heap.size)
    (h : ∀ v' w', OwnI base w' v' (zs ++ [z]) → w.grownBy w' v.ownBlock → wpList Try.prog ops Q rest (a.put o.dst v') w') : wpList Try.prog ops Q (o :: rest) a w := by
  obtain ⟨i0, hi, hz0, hz1, hz2⟩ := info_parts infoI
  exact wpList_append_own w hgd s x 36 ho base 3 i0 (.int .i64 0) 1 8 Try.underlying36 hi hz0 hz1 hz2 rfl (by decide) v zs.length _ hs hown ⟨g, 0, none⟩ 1 1 [.int .i64 z] hx rfl
    (fun j u hj => by
      cases j with
      | zero => simp at hj; subst hj; rw [addP]; exact hc
      | succ j => simp at hj) (fun u hu => by simp at hu; subst hu; rfl) (by unfold maxLen; omega) (by omega) hbase (fun v' w' h1 h2 _ => h v' w' (by
        unfold OwnI
        rw [List.length_append, List.map_append]
        exact h1) h2)
theorem own_form {base : Nat} {w : World} {v : Value} {zs : List Int} (h : OwnI base w v zs) : ∃ a cap, v = .slice a zs.length cap := own_sl h
/-- One number of a row. -/
theorem own_at {base : Nat} {w : World} {v : Value} {zs : List Int} (h : OwnI base w v zs) (k : Nat) (hk : k < zs.length) : ∃ g cap, v = .slice (some ⟨g, 0, none⟩) zs.length cap ∧ base ≤ g ∧ g < w.heap.size ∧ ∀ j (hj : j < zs.length), w.cell? ⟨g, j, none⟩ = some (.int .i64 zs[j]) := by
  have h' := h
  rcases h'.2 with ⟨rfl, h0⟩ | ⟨g, cap, cur, rfl, hb, hg, _⟩
  · omega
  · refine ⟨g, cap, rfl, hb, (Array.getElem?_eq_some_iff.1 hg).1, fun j hj => ?_⟩
    have := h.cells (g := g) rfl j (.int .i64 zs[j]) (by simp [hj])
    rwa [addP, Nat.zero_add] at this
theorem contains_own {base : Nat} {w : World} {v : Value} {zs : List Int} (h : OwnI base w v zs) (hn : zs.length ≤ 100000) (x : Int) : Calls Try.prog 36 #[v, .int .i64 x] w fun e w' => e = .returned (.bool (zs.contains x)) ∧ w' = w := by
  by_cases h0 : 0 < zs.length
  · obtain ⟨g, cap, rfl, _, _, hc⟩ := own_at h 0 h0
    have := Try.slices_Contains_int g 0 zs.length cap zs x w (Nat.le_refl _) (by omega) (fun j hj => by rw [Nat.zero_add, hc j hj]; simp [hj])
    rwa [List.take_length] at this
  · obtain ⟨a, cap, rfl⟩ := own_form h
    have hz : zs = [] := List.length_eq_zero_iff.1 (by omega)
    subst hz
    exact Try.slices_Contains_none a cap x w
theorem sort_own2 (base : Nat) (v : Value) (zs : List Int) (w : World) (hown : OwnI base w v zs) (hn : zs.length ≤ 100000) : Calls Try.prog 37 #[v] w fun e w' => e = .returned (.tuple #[]) ∧ OwnI base w' v (zs.mergeSort fun x y => decide (x ≤ y)) ∧ w.grownBy w' v.ownBlock := by
  rcases hown.2 with ⟨rfl, h0⟩ | ⟨g, cap, cur, rfl, hbg, hb, hnc, hcm, hcs, htk⟩
  · refine (Try.slices_Sort_none none 0 w).mono ?_
    rintro e w' ⟨rfl, rfl⟩
    have hz : zs = [] := List.length_eq_zero_iff.1 h0
    subst hz
    exact ⟨rfl, by rw [List.mergeSort_nil]; exact hown, ⟨rfl, rfl, rfl, Nat.le_refl _, fun _ _ _ => rfl⟩⟩
  · refine (Try.slices_Sort_int g 0 cap zs w (holds_of_blockI hb (by simpa using htk)) (Array.getElem?_eq_some_iff.1 hb).1 (by omega)).mono ?_
    rintro e w' ⟨rfl, n, os, rfl⟩
    have hp : (zs.mergeSort fun x y => decide (x ≤ y)).Perm zs := List.mergeSort_perm _ _
    have hl : (zs.mergeSort fun x y => decide (x ≤ y)).length = zs.length := hp.length_eq
    refine ⟨rfl, ?_, grownBy_sortedI _⟩
    have := ownsRow_sortedI (n := n) (os := os) hl hbg hb hnc hcm hcs
    unfold OwnI
    rw [hl]
    exact this
theorem rise_ext : ∀ {a b : List Int}, a.Pairwise (· < ·) → b.Pairwise (· < ·) → (∀ x, x ∈ a ↔ x ∈ b) → a = b
  | [], [], _, _, _ => rfl
  | [], y :: b, _, _, h => by have := (h y).2 (by simp); cases this
  | x :: a, [], _, _, h => by have := (h x).1 (by simp); cases this
  | x :: a, y :: b, ha, hb, h => by
    obtain ⟨h1, h2⟩ := List.pairwise_cons.1 ha
    obtain ⟨h3, h4⟩ := List.pairwise_cons.1 hb
    have e : x = y := by
      rcases List.mem_cons.1 ((h x).1 (by simp)) with e | hx
      · exact e
      · rcases List.mem_cons.1 ((h y).2 (by simp)) with e | hy
        · exact e.symm
        · have := h1 y hy; have := h3 x hx; omega
    subst e
    rw [rise_ext h2 h4 (fun z => ?_)]
    constructor
    · intro hz
      rcases List.mem_cons.1 ((h z).1 (List.mem_cons_of_mem _ hz)) with e | hz'
      · have := h1 z hz; omega
      · exact hz'
    · intro hz
      rcases List.mem_cons.1 ((h z).2 (List.mem_cons_of_mem _ hz)) with e | hz'
      · have := h3 z hz; omega
      · exact hz'
theorem sort_rise {zs : List Int} (hn : zs.Nodup) : (zs.mergeSort fun x y => decide (x ≤ y)).Pairwise (· < ·) := by
  have hs : (zs.mergeSort fun x y => decide (x ≤ y)).Pairwise (fun x y => decide (x ≤ y) = true) := List.pairwise_mergeSort (fun a b c h1 h2 => by simp at *; omega) (fun a b => by simp; omega) zs
  have hd : (zs.mergeSort fun x y => decide (x ≤ y)).Pairwise (· ≠ ·) := (List.mergeSort_perm zs _).nodup_iff.2 hn
  exact (hs.and hd).imp (fun {a b} h => by simp at h; omega)
/-- Numbers that are handed in. -/
def Is (w : World) (a : Option Addr) (l : List Int) : Prop := l = [] ∨ ∃ g o, a = some ⟨g, o, none⟩ ∧ g < w.heap.size ∧ ∀ i (h : i < l.length), w.cell? ⟨g, o + i, none⟩ = some (.int .i64 l[i])
theorem Is.below {w w' : World} {a : Option Addr} {l : List Int} (h : Is w a l) (g : Below w.heap.size w w') : Is w' a l := by
  rcases h with h | ⟨b, o, ha, hb, hc⟩
  · exact .inl h
  · exact .inr ⟨b, o, ha, Nat.lt_of_lt_of_le hb g.size, fun i hi => (g.cell (p := ⟨b, _, none⟩) hb).trans (hc i hi)⟩
theorem Is.at {w : World} {a : Option Addr} {l : List Int} (h : Is w a l) {k : Nat} (hk : k < l.length) : ∃ g o, a = some ⟨g, o, none⟩ ∧ g < w.heap.size ∧ ∀ i (h : i < l.length), w.cell? ⟨g, o + i, none⟩ = some (.int .i64 l[i]) := by
  rcases h with rfl | h
  · cases hk
  · exact h
theorem OwnI.is {base : Nat} {w : World} {v : Value} {zs : List Int} (h : OwnI base w v zs) : ∃ a cap, v = .slice a zs.length cap ∧ Is w a zs := by
  by_cases h0 : 0 < zs.length
  · obtain ⟨g, cap, rfl, _, hg, hc⟩ := own_at h 0 h0
    exact ⟨_, cap, rfl, .inr ⟨g, 0, rfl, hg, fun i hi => by rw [Nat.zero_add]; exact hc i hi⟩⟩
  · obtain ⟨a, cap, rfl⟩ := own_form h
    exact ⟨a, cap, rfl, .inl (List.length_eq_zero_iff.1 (by omega))⟩
end Go.Proofs.Ytcjojcaahpkacaa

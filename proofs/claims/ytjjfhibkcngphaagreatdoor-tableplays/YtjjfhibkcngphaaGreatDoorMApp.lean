/-
  Tests appended to a row that the call has made.
-/
import Derived.Test.YtjjfhibkcngphaaGreatDoorMBase
import Derived.Test.YtjjfhibkcngphaaGreatDoorMPairs
import Derived.Laws.AppendOwn
import Derived.Laws.OwnMore
import Derived.Lib.AppendZeros
import Derived.Deep.Upon
namespace Go.Proofs.YtjjfhibkcngphaaGreatDoor.Mt
open Go.ChangeShapes Go.WideShapes Go.ChangeAt Go.RowKit

/-- Tests as cells. -/
def flat (l : List T) : List Value := l.flatMap fun t => [.int .i64 t.1, .int .u64 t.2.1, .int .u64 t.2.2]
theorem flat_length : ∀ l : List T, (flat l).length = l.length * 3
  | [] => rfl
  | t :: l => by simp only [flat, List.flatMap_cons, List.length_append, List.length_cons, List.length_nil]; have := flat_length l; unfold flat at this; rw [this]; omega
theorem flat_append (l m : List T) : flat (l ++ m) = flat l ++ flat m := by simp [flat]
theorem flat_at : ∀ (l : List T) (i : Nat) (h : i < l.length), (flat l)[i * 3]? = some (.int .i64 l[i].1) ∧ (flat l)[i * 3 + 1]? = some (.int .u64 l[i].2.1) ∧ (flat l)[i * 3 + 2]? = some (.int .u64 l[i].2.2)
  | t :: l, 0, _ => by simp [flat]
  | t :: l, i + 1, h => by
    have ih := flat_at l i (by simpa using h)
    unfold flat at ih ⊢
    rw [List.flatMap_cons, show (i + 1) * 3 = i * 3 + 3 by omega]
    simpa using ih
theorem flat_cell (l : List T) (j : Nat) (u : Value) (h : (flat l)[j]? = some u) : ∃ i, ∃ hi : i < l.length, (j = i * 3 ∧ u = .int .i64 l[i].1) ∨ (j = i * 3 + 1 ∧ u = .int .u64 l[i].2.1) ∨ (j = i * 3 + 2 ∧ u = .int .u64 l[i].2.2) := by
  have hj : j < (flat l).length := by
    rcases Nat.lt_or_ge j (flat l).length with h' | h'
    · exact h'
    · rw [List.getElem?_eq_none h'] at h; cases h
  rw [flat_length] at hj
  have hi : j / 3 < l.length := by omega
  obtain ⟨x0, x1, x2⟩ := flat_at l (j / 3) hi
  refine ⟨j / 3, hi, ?_⟩
  have : j % 3 = 0 ∨ j % 3 = 1 ∨ j % 3 = 2 := by omega
  rcases this with q | q | q
  · have e : j = j / 3 * 3 := by omega
    refine .inl ⟨e, ?_⟩
    rw [← e] at x0
    exact Option.some.inj (h.symm.trans x0)
  · have e : j = j / 3 * 3 + 1 := by omega
    refine .inr (.inl ⟨e, ?_⟩)
    rw [← e] at x1
    exact Option.some.inj (h.symm.trans x1)
  · have e : j = j / 3 * 3 + 2 := by omega
    refine .inr (.inr ⟨e, ?_⟩)
    rw [← e] at x2
    exact Option.some.inj (h.symm.trans x2)
theorem flat_one (l : List T) : ∀ u ∈ flat l, u.oneCell' = true := by
  intro u hu
  unfold flat at hu
  rw [List.mem_flatMap] at hu
  obtain ⟨t, _, ht⟩ := hu
  simp at ht
  rcases ht with rfl | rfl | rfl <;> rfl
theorem infoT : (Tryz.prog.info? 73).map (fun i => (i.zero, i.size, i.bytes)) = some (some (.agg #[.int .i64 0, .int .u64 0, .int .u64 0]), 3, 24) := by kernel_rfl

theorem addP (g o j : Nat) : (⟨g, o, none⟩ : Addr).add j = ⟨g, o + j, none⟩ := by unfold Addr.add; split <;> simp_all
theorem Ts.news {w : World} {g o : Nat} {l : List T} (h : ∀ i (h : i < l.length), C3 w g (o + i * 3) l[i]) : ∀ j u, (flat l)[j]? = some u → w.cell? ((⟨g, o, none⟩ : Addr).add j) = some u := by
  intro j u hj
  obtain ⟨i, hi, hh⟩ := flat_cell l j u hj
  obtain ⟨c0, c1, c2⟩ := h i hi
  rw [addP]
  rcases hh with ⟨rfl, rfl⟩ | ⟨rfl, rfl⟩ | ⟨rfl, rfl⟩
  · exact c0
  · rw [← Nat.add_assoc]; exact c1
  · rw [← Nat.add_assoc]; exact c2
/-- Append of tests, one by one or many, or none. -/
theorem wpList_app {w : World} {ops : Array Oper} {rest : List Oper} {o : Oper} {a : Act} {Q : Exit → Act → World → Prop} (hgd : o.guard = none) (s x : Operand)
    (ho : o.op = .call { callee := .builtin .append, args := #[s, x], argTypes := #[37, 37] }) (base : Nat) (v : Value) (n : Nat) (xs : List Value) (hs : a.eval s = v) (hown : w.ownsRow base 73 3 v n xs)
    (ad : Option Addr) (cap : Nat) (l : List T) (m : Nat) (hm : m = l.length) (hx : a.eval x = .slice ad m cap) (hT : Ts w ad l) (hn : n + l.length ≤ 100000) (hbase : base ≤ w.heap.size)
    (h : ∀ v' w', w'.ownsRow base 73 3 v' (n + l.length) (xs ++ flat l) → w.grownBy w' v.ownBlock → wpList Tryz.prog ops Q rest (a.put o.dst v') w') : wpList Tryz.prog ops Q (o :: rest) a w := by
  obtain ⟨i0, hi, hz0, hz1, hz2⟩ := info_parts infoT
  subst hm
  rcases hT with rfl | ⟨g, of, rfl, _, hc⟩
  · have src : Src Tryz.prog i0.size 37 (.slice ad 0 cap) 0 [] w := by
      cases ad with
      | none => exact Src.ofNil w Tryz.underlying37 cap
      | some q => exact Src.ofSlice w Tryz.underlying37 q 0 cap [] (by simp) (fun j u hj => by simp at hj) (fun u hu => by simp at hu)
    rcases hown.2 with ⟨rfl, h0⟩ | ⟨g, c, cur, rfl, hbg, hhg, hnc, hcm, hcs, htk⟩
    · refine Lib.wpList_append_run w hgd s x 37 37 ho _ _ hs hx _ _ (run_append_nothing w 37 37 o.type 73 i0 Tryz.underlying37 hi none 0 0 (Nat.le_refl _) _ src) ?_
      refine h _ _ ?_ ⟨rfl, rfl, rfl, Nat.le_refl _, fun _ _ _ => rfl⟩
      simpa [flat] using hown
    · refine Lib.wpList_append_run w hgd s x 37 37 ho _ _ hs hx _ _ (run_append_nothing w 37 37 o.type 73 i0 Tryz.underlying37 hi (some ⟨g, 0, none⟩) n c hnc _ src) ?_
      refine h _ _ ?_ ⟨rfl, rfl, rfl, Nat.le_refl _, fun _ _ _ => rfl⟩
      simpa [flat] using hown
  · exact wpList_append_own w hgd s x 37 ho base 73 i0 (.agg #[.int .i64 0, .int .u64 0, .int .u64 0]) 3 24 Tryz.underlying37 hi hz0 hz1 hz2 rfl (by decide) v n xs hs hown ⟨g, of, none⟩ l.length cap (flat l) hx (flat_length l) (Ts.news hc) (flat_one l) (by unfold maxLen; omega) (by omega) hbase (fun v' w' h1 h2 _ => h v' w' h1 h2)
theorem own_below {base e size : Nat} {w w' : World} {v : Value} {n : Nat} {xs : List Value} (h : w.ownsRow base e size v n xs) (g : Below w.heap.size w w') : w'.ownsRow base e size v n xs :=
  h.kept (row := none) ⟨g.os, g.tape, g.output, g.size, fun k hk _ => g.block k hk⟩ (by cases v.ownBlock <;> simp)
/-- What a call that has made a row of tests leaves. -/
abbrev Own (w0 : World) (w : World) (v : Value) (l : List T) : Prop := w.ownsRow w0.heap.size 73 3 v l.length (flat l)
/-- Tests that lie in a block that was made. -/
def TsF (base : Nat) (w : World) (a : Option Addr) (l : List T) : Prop :=
  l = [] ∨ ∃ g, a = some ⟨g, 0, none⟩ ∧ base ≤ g ∧ g < w.heap.size ∧ ∀ i (h : i < l.length), C3 w g (i * 3) l[i]
theorem TsF.ts {base : Nat} {w : World} {a : Option Addr} {l : List T} (h : TsF base w a l) : Ts w a l := by
  rcases h with h | ⟨g, ha, _, hg, hc⟩
  · exact .inl h
  · exact .inr ⟨g, 0, ha, hg, fun i hi => by rw [Nat.zero_add]; exact hc i hi⟩
theorem TsF.keep {base : Nat} {w w' : World} {a : Option Addr} {l : List T} (h : TsF base w a l) (hz : w.heap.size ≤ w'.heap.size) (hb : ∀ g, base ≤ g → g < w.heap.size → w'.heap[g]? = w.heap[g]?) : TsF base w' a l := by
  rcases h with h | ⟨g, ha, h0, hg, hc⟩
  · exact .inl h
  · exact .inr ⟨g, ha, h0, Nat.lt_of_lt_of_le hg hz, fun i hi => (hc i hi).block (hb g h0 hg)⟩
theorem own_ts {base : Nat} {w : World} {v : Value} {l : List T} (h : w.ownsRow base 73 3 v l.length (flat l)) : ∃ a cap, v = .slice a l.length cap ∧ l.length ≤ cap ∧ TsF base w a l := by
  rcases h.2 with ⟨rfl, h'⟩ | ⟨g, cap, cur, rfl, hbg, _, hnc, _⟩
  · have hl : l = [] := List.length_eq_zero_iff.1 h'
    subst hl
    exact ⟨none, 0, rfl, Nat.le_refl _, .inl rfl⟩
  · have hlt := (h.lt g rfl).2
    have cs : ∀ i (hi : i < l.length), C3 w g (i * 3) l[i] := fun i hi => by
      obtain ⟨x0, x1, x2⟩ := flat_at l i hi
      refine ⟨?_, ?_, ?_⟩
      · rw [h.cellAt (i * 3) (by omega)]; exact x0
      · rw [h.cellAt (i * 3 + 1) (by omega)]; exact x1
      · rw [h.cellAt (i * 3 + 2) (by omega)]; exact x2
    exact ⟨some ⟨g, 0, none⟩, cap, rfl, hnc, .inr ⟨g, rfl, hbg, hlt, cs⟩⟩
end Go.Proofs.YtjjfhibkcngphaaGreatDoor.Mt

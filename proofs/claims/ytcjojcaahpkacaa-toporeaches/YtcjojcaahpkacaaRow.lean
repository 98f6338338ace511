/-
  A row of ends, loaded whole and looked into.
-/
import Derived.Test.YtcjojcaahpkacaaUp
namespace Go.Proofs.Ytcjojcaahpkacaa
open Go.ChangeShapes Go.WideShapes Go.ChangeAt Go.RowKit
set_option linter.unusedVariables false

/-- The cells of a row of ends. -/
def rowC (f : Nat → Int × Int × Int) (m : Nat) : List Value := (List.range m).flatMap fun p => e3C (f p)
theorem rowC_length (f : Nat → Int × Int × Int) : ∀ m, (rowC f m).length = m * 3
  | 0 => rfl
  | m + 1 => by
    have := rowC_length f m
    unfold rowC at this ⊢
    rw [List.range_succ, List.flatMap_append, List.length_append, this]
    simp
    omega
theorem rowC_snoc (f : Nat → Int × Int × Int) (m : Nat) : rowC f (m + 1) = rowC f m ++ e3C (f m) := by
  unfold rowC
  rw [List.range_succ, List.flatMap_append]
  simp
theorem rowC_part (f : Nat → Int × Int × Int) : ∀ (m p : Nat), p < m → (rowC f m).extract (p * 3) (p * 3 + 3) = e3C (f p)
  | 0, p, h => by omega
  | m + 1, p, h => by
    rw [rowC_snoc]
    by_cases e : p = m
    · subst e
      have hl := rowC_length f p
      rw [List.extract_eq_take_drop, List.drop_append_of_le_length (by omega), List.drop_of_length_le (by omega)]
      simp
    · have ih := rowC_part f m p (by omega)
      have hl := rowC_length f m
      rw [List.extract_eq_take_drop] at ih ⊢
      rw [List.drop_append_of_le_length (by omega), List.take_append_of_le_length (by rw [List.length_drop]; omega)]
      exact ih
theorem rowC_at (f : Nat → Int × Int × Int) (m p : Nat) (h : p < m) : (rowC f m)[p * 3]? = some (.int .i64 (f p).1) ∧ (rowC f m)[p * 3 + 1]? = some (.int .i64 (f p).2.1) ∧ (rowC f m)[p * 3 + 2]? = some (.int .i64 (f p).2.2) := by
  have e := rowC_part f m p h
  rw [List.extract_eq_take_drop] at e
  have g : ∀ j, j < 3 → (rowC f m)[p * 3 + j]? = (e3C (f p))[j]? := fun j hj => by
    rw [← e, List.getElem?_take, if_pos (by omega), List.getElem?_drop]
  exact ⟨by rw [show p * 3 = p * 3 + 0 by omega, g 0 (by omega)]; rfl, by rw [g 1 (by omega)]; rfl, by rw [g 2 (by omega)]; rfl⟩
theorem rowC_one (f : Nat → Int × Int × Int) (m : Nat) : ∀ u ∈ rowC f m, u.oneCell' = true := by
  intro u hu
  unfold rowC at hu
  rw [List.mem_flatMap] at hu
  obtain ⟨p, _, hp⟩ := hu
  simp at hp
  rcases hp with rfl | rfl | rfl <;> rfl
/-- What lies end by end lies as one row. -/
theorem range_rows {w : World} {b o m : Nat} {f : Nat → Int × Int × Int} (h : ∀ p, p < m → E3 w b (o + p * 3) (f p)) : w.rangeAt b o (rowC f m) := by
  intro j v hv
  have hj : j < (rowC f m).length := (List.getElem?_eq_some_iff.1 hv).1
  rw [rowC_length] at hj
  have hp : j / 3 < m := by omega
  obtain ⟨x0, x1, x2⟩ := h (j / 3) hp
  obtain ⟨y0, y1, y2⟩ := rowC_at f m (j / 3) hp
  have : j % 3 = 0 ∨ j % 3 = 1 ∨ j % 3 = 2 := by omega
  rcases this with q | q | q
  · have e : j = j / 3 * 3 := by omega
    rw [e] at hv ⊢
    rw [y0] at hv
    exact x0.trans hv
  · have e : j = j / 3 * 3 + 1 := by omega
    rw [e] at hv ⊢
    rw [y1] at hv
    exact x1.trans hv
  · have e : j = j / 3 * 3 + 2 := by omega
    rw [e] at hv ⊢
    rw [y2] at hv
    exact x2.trans hv
theorem load_ends {w : World} {b o : Nat} {f : Nat → Int × Int × Int} (h : ∀ p, p < 16 → E3 w b (o + p * 3) (f p)) : (Instr.loadAt 65 (.pointer (some ⟨b, o, none⟩))).run Try.prog w = .ok (.agg (rowC f 16).toArray) w :=
  run_loadAt_mid w b o 65 _ _ (range_rows h) Try.underlying65 rfl (by rw [rowC_length]; kernel_rfl)
theorem load_homes {w : World} {b o : Nat} {f : Nat → Int × Int × Int} (h : ∀ p, p < 64 → E3 w b (o + p * 3) (f p)) : (Instr.loadAt 57 (.pointer (some ⟨b, o, none⟩))).run Try.prog w = .ok (.agg (rowC f 64).toArray) w :=
  run_loadAt_mid w b o 57 _ _ (range_rows h) Try.underlying57 rfl (by rw [rowC_length]; kernel_rfl)
theorem idx_ends (f : Nat → Int × Int × Int) (p : Nat) (h : p < 16) (w : World) : (Instr.index 65 (.agg (rowC f 16).toArray) (.int .i64 (p : Int))).run Try.prog w = .ok (e3V (f p)) w := by
  have hn : 0 ≤ (p : Int) ∧ (p : Int) < ((16 : Nat) : Int) := by omega
  have hu : Try.prog.underlying 65 = some (.array 16 56) := Try.underlying65
  have e : (rowC f 16).toArray.extract (p * 3) (p * 3 + 3) = (e3C (f p)).toArray := by
    apply Array.toList_inj.1
    simpa using rowC_part f 16 p h
  have z3 := Try.sizeOf56
  have a3 := Try.isAgg56
  generalize (rowC f 16).toArray = R at *
  have ha : Array.extract R (p * 3) (p * 3 + 3) = #[.int .i64 (f p).1, .int .i64 (f p).2.1, .int .i64 (f p).2.2] := e
  clear e
  generalize f p = x at *
  simp [Instr.index, run_underlying hu, asIntOf, hn, part, z3, a3, ha]
  intro h
  omega
theorem idx_homes (f : Nat → Int × Int × Int) (p : Nat) (h : p < 64) (w : World) : (Instr.index 57 (.agg (rowC f 64).toArray) (.int .i64 (p : Int))).run Try.prog w = .ok (e3V (f p)) w := by
  have hn : 0 ≤ (p : Int) ∧ (p : Int) < ((64 : Nat) : Int) := by omega
  have hu : Try.prog.underlying 57 = some (.array 64 56) := Try.underlying57
  have e : (rowC f 64).toArray.extract (p * 3) (p * 3 + 3) = (e3C (f p)).toArray := by
    apply Array.toList_inj.1
    simpa using rowC_part f 64 p h
  have z3 := Try.sizeOf56
  have a3 := Try.isAgg56
  generalize (rowC f 64).toArray = R at *
  have ha : Array.extract R (p * 3) (p * 3 + 3) = #[.int .i64 (f p).1, .int .i64 (f p).2.1, .int .i64 (f p).2.2] := e
  clear e
  generalize f p = x at *
  simp [Instr.index, run_underlying hu, asIntOf, hn, part, z3, a3, ha]
  intro h
  omega
theorem load_row {w : World} {ops : Array Oper} {rest : List Oper} {o : Oper} {a : Go.Act} {Q : Exit → Go.Act → World → Prop} (hgd : o.guard = none) (x : Operand) (ho : o.op = .load 65 x) (b off : Nat) (hx : a.eval x = .pointer (some ⟨b, off, none⟩)) (f : Nat → Int × Int × Int) (h : ∀ p, p < 16 → E3 w b (off + p * 3) (f p))
    (hQ : wpList Try.prog ops Q rest (a.put o.dst (.agg (rowC f 16).toArray)) w) : wpList Try.prog ops Q (o :: rest) a w :=
  wpList_load_mid hgd 65 x ho b off hx _ _ (range_rows h) Try.underlying65 rfl (by rw [rowC_length]; kernel_rfl) hQ
theorem load_hs {w : World} {ops : Array Oper} {rest : List Oper} {o : Oper} {a : Go.Act} {Q : Exit → Go.Act → World → Prop} (hgd : o.guard = none) (x : Operand) (ho : o.op = .load 57 x) (b off : Nat) (hx : a.eval x = .pointer (some ⟨b, off, none⟩)) (f : Nat → Int × Int × Int) (h : ∀ p, p < 64 → E3 w b (off + p * 3) (f p))
    (hQ : wpList Try.prog ops Q rest (a.put o.dst (.agg (rowC f 64).toArray)) w) : wpList Try.prog ops Q (o :: rest) a w :=
  wpList_load_mid hgd 57 x ho b off hx _ _ (range_rows h) Try.underlying57 rfl (by rw [rowC_length]; kernel_rfl) hQ
end Go.Proofs.Ytcjojcaahpkacaa

/-
  A new switch, its State, and how it handles an echo, as contracts.
-/
import Derived.Test.YtoklgdpdeghkpaaGreatDoorE6
namespace Go.Proofs.YtoklgdpdeghkpaaGreatDoor
open Go.ChangeShapes Go.WideShapes Go.ChangeAt Go.RowKit
set_option linter.unusedVariables false
set_option linter.unusedSimpArgs false

/-- At d lies a switch of two ports that has nothing. -/
structure De (w : World) (d f tb mb lv : Nat) : Prop where
  fl : w.cell? ⟨d, 0, none⟩ = some (.pointer (some ⟨f, 0, none⟩))
  gr : w.cell? ⟨d, 1, none⟩ = some (.pointer (some ⟨tb, 0, none⟩))
  me : ∀ i, i < 17 → w.cell? ⟨d, 2 + i, none⟩ = some (.pointer none)
  li : w.cell? ⟨d, 70, none⟩ = some (.slice (some ⟨lv, 0, none⟩) 3 3)
  re : w.cell? ⟨d, 71, none⟩ = some (.string ⟨#[]⟩)
  fz : w.frozen? ⟨d, 71, none⟩ = false
  l1 : w.cell? ⟨lv, 1, none⟩ = some (.bool true)
  l2 : w.cell? ⟨lv, 2, none⟩ = some (.bool true)
  te : Te w tb mb
  fe : Fe w f
  lt : d < w.heap.size
  lv : lv < w.heap.size
theorem De.below {w w' : World} {d f tb mb lv : Nat} (h : De w d f tb mb lv) (g : Below w.heap.size w w') : De w' d f tb mb lv :=
  have c : ∀ o, w'.cell? ⟨d, o, none⟩ = w.cell? ⟨d, o, none⟩ := fun o => g.cell (p := ⟨d, o, none⟩) h.lt
  ⟨(c _).trans h.fl, (c _).trans h.gr, fun i hi => (c _).trans (h.me i hi), (c _).trans h.li, (c _).trans h.re, (g.frozen (p := ⟨d, 71, none⟩) h.lt).trans h.fz, (g.cell (p := ⟨lv, 1, none⟩) h.lv).trans h.l1, (g.cell (p := ⟨lv, 2, none⟩) h.lv).trans h.l2, h.te.below g, h.fe.below g, Nat.lt_of_lt_of_le h.lt g.size, Nat.lt_of_lt_of_le h.lv g.size⟩
theorem mk3 (w : World) : (Instr.makeSlice 40 (.int .i64 3) (.int .i64 3)).run Tryz.prog w = .ok (.slice (some ⟨w.heap.size, 0, none⟩) 3 3) (w.alloc (.cells #[.bool false, .bool false, .bool false] 4)) := by
  have infoL : (Tryz.prog.info? 4).map (fun i => (i.zero, i.size, i.bytes)) = some (some (.bool false), 1, 1) := by kernel_rfl
  obtain ⟨i0, hi, hz0, hz1, hz2⟩ := info_parts infoL
  rw [run_make w 40 4 i0 _ Tryz.underlying40 hi hz0 .i64 .i64 3 3 (by omega) (by omega) (by rw [hz2]; omega) (by omega), hz1]
  have e : madeCells (Value.bool false).cells (Int.toNat 3 * 1) = #[.bool false, .bool false, .bool false] := by kernel_rfl
  rw [e]
  rfl
/-- The new switch's memory. -/
abbrev dvC (f t l : Nat) : Array Value := #[.pointer (some ⟨f, 0, none⟩), .pointer (some ⟨t, 0, none⟩), .pointer none, .pointer none, .pointer none, .pointer none, .pointer none, .pointer none, .pointer none, .pointer none, .pointer none, .pointer none, .pointer none, .pointer none, .pointer none, .pointer none, .pointer none, .pointer none, .pointer none, .int .i64 0, .int .i64 0, .int .i64 0, .int .i64 0, .int .i64 0, .int .i64 0, .int .i64 0, .int .i64 0, .int .i64 0, .int .i64 0, .int .i64 0, .int .i64 0, .int .i64 0, .int .i64 0, .int .i64 0, .int .i64 0, .int .i64 0, .int .i64 0, .int .i64 0, .int .i64 0, .int .i64 0, .int .i64 0, .int .i64 0, .int .i64 0, .int .i64 0, .int .i64 0, .int .i64 0, .int .i64 0, .int .i64 0, .int .i64 0, .int .i64 0, .int .i64 0, .int .i64 0, .int .i64 0, .int .i64 0, .int .i64 0, .int .i64 0, .int .i64 0, .int .i64 0, .int .i64 0, .int .i64 0, .int .i64 0, .int .i64 0, .int .i64 0, .int .i64 0, .int .i64 0, .int .i64 0, .int .i64 0, .int .i64 0, .int .i64 0, .int .i64 0, .slice (some ⟨l, 0, none⟩) 3 3, .string ⟨#[]⟩]
abbrev nW (w : World) : World := ((((((w.alloc (.cells #[.int .i64 9, .slice none 0 0, .slice none 0 0, .slice none 0 0, .slice none 0 0, .slice none 0 0, .slice none 0 0, .slice none 0 0, .slice none 0 0] 179)).alloc (.map #[] 0)).alloc (.cells #[.int .i64 9, .map (some (w.heap.size + 1))] 121)).alloc (.cells #[.bool false, .bool true, .bool true] 4)).alloc (.cells (dvC w.heap.size (w.heap.size + 2) (w.heap.size + 3)) 42)))
theorem old_cell (w : World) (o : Obj) (b k : Nat) (h : b < w.heap.size) : (w.alloc o).cell? ⟨b, k, none⟩ = w.cell? ⟨b, k, none⟩ := World.cell?_of_block (heap_alloc_old _ _ h)
theorem new_cell (w : World) (cs : Array Value) (t : TypeId) (n k : Nat) (v : Value) (hn : w.heap.size = n) (hv : cs.toList[k]? = some v) : (w.alloc (.cells cs t)).cell? ⟨n, k, none⟩ = some v := by
  have := range_new w cs t k v hv
  rw [Nat.zero_add, hn] at this
  exact this
theorem de_of (w V1 V2 V3 V4 V5 : World) (h1 : V1 = w.alloc (.cells #[.int .i64 9, .slice none 0 0, .slice none 0 0, .slice none 0 0, .slice none 0 0, .slice none 0 0, .slice none 0 0, .slice none 0 0, .slice none 0 0] 179)) (h2 : V2 = V1.alloc (.map #[] 0)) (h3 : V3 = V2.alloc (.cells #[.int .i64 9, .map (some (w.heap.size + 1))] 121)) (h4 : V4 = V3.alloc (.cells #[.bool false, .bool true, .bool true] 4)) (h5 : V5 = V4.alloc (.cells (dvC w.heap.size (w.heap.size + 2) (w.heap.size + 3)) 42)) :
    De V5 (w.heap.size + 4) w.heap.size (w.heap.size + 2) (w.heap.size + 1) (w.heap.size + 3) ∧ Below w.heap.size w V5 := by
  have s1 : V1.heap.size = w.heap.size + 1 := by rw [h1]; simp
  have s2 : V2.heap.size = w.heap.size + 2 := by rw [h2]; simp [s1]
  have s3 : V3.heap.size = w.heap.size + 3 := by rw [h3]; simp [s2]
  have s4 : V4.heap.size = w.heap.size + 4 := by rw [h4]; simp [s3]
  have s5 : V5.heap.size = w.heap.size + 5 := by rw [h5]; simp [s4]
  have q : ∀ j v, (dvC w.heap.size (w.heap.size + 2) (w.heap.size + 3)).toList[j]? = some v → V5.cell? ⟨w.heap.size + 4, j, none⟩ = some v := fun j v h => h5 ▸ new_cell V4 _ _ _ j v s4 h
  have F : V5.frozen? ⟨w.heap.size + 4, 71, none⟩ = false := by
    have := (there_new V4 (dvC w.heap.size (w.heap.size + 2) (w.heap.size + 3)) 42) 71 (show 71 < 72 by decide)
    rw [s4, ← h5] at this
    exact this.2
  have e5 : ∀ b k, b < w.heap.size + 4 → V5.cell? ⟨b, k, none⟩ = V4.cell? ⟨b, k, none⟩ := fun b k h => h5 ▸ old_cell V4 _ b k (by omega)
  have e4 : ∀ b k, b < w.heap.size + 3 → V4.cell? ⟨b, k, none⟩ = V3.cell? ⟨b, k, none⟩ := fun b k h => h4 ▸ old_cell V3 _ b k (by omega)
  have e3 : ∀ b k, b < w.heap.size + 2 → V3.cell? ⟨b, k, none⟩ = V2.cell? ⟨b, k, none⟩ := fun b k h => h3 ▸ old_cell V2 _ b k (by omega)
  have e2 : ∀ b k, b < w.heap.size + 1 → V2.cell? ⟨b, k, none⟩ = V1.cell? ⟨b, k, none⟩ := fun b k h => h2 ▸ old_cell V1 _ b k (by omega)
  have hm : V5.heap[w.heap.size + 1]? = some (.map #[] 0) := by
    rw [h5, heap_alloc_old _ _ (by omega), h4, heap_alloc_old _ _ (by omega), h3, heap_alloc_old _ _ (by omega), h2, ← s1]
    exact (MapKept.heap_alloc V1 _).1
  have hb : Below w.heap.size w V5 := by
    rw [h5, h4, h3, h2, h1]
    go_grown
  refine ⟨⟨q 0 _ rfl, q 1 _ rfl, ?_, q 70 _ rfl, q 71 _ rfl, F, ?_, ?_, ⟨?_, hm, by omega, by omega⟩, ⟨?_, by omega⟩, by omega, by omega⟩, hb⟩
  · intro i hi
    have hi' : i = 0 ∨ i = 1 ∨ i = 2 ∨ i = 3 ∨ i = 4 ∨ i = 5 ∨ i = 6 ∨ i = 7 ∨ i = 8 ∨ i = 9 ∨ i = 10 ∨ i = 11 ∨ i = 12 ∨ i = 13 ∨ i = 14 ∨ i = 15 ∨ i = 16 := by omega
    rcases hi' with rfl | rfl | rfl | rfl | rfl | rfl | rfl | rfl | rfl | rfl | rfl | rfl | rfl | rfl | rfl | rfl | rfl <;> exact q _ _ rfl
  · rw [e5 _ _ (by omega), h4]; exact new_cell V3 _ _ _ 1 _ s3 rfl
  · rw [e5 _ _ (by omega), h4]; exact new_cell V3 _ _ _ 2 _ s3 rfl
  · rw [e5 _ _ (by omega), e4 _ _ (by omega), h3]; exact new_cell V2 _ _ _ 1 _ s2 rfl
  · intro i hi
    rw [e5 _ _ (by omega), e4 _ _ (by omega), e3 _ _ (by omega), e2 _ _ (by omega), h1]
    have hi' : i = 0 ∨ i = 1 ∨ i = 2 ∨ i = 3 ∨ i = 4 ∨ i = 5 ∨ i = 6 ∨ i = 7 := by omega
    rcases hi' with rfl | rfl | rfl | rfl | rfl | rfl | rfl | rfl <;> exact new_cell w _ _ _ _ _ rfl rfl
theorem de_new (w : World) : De (nW w) (w.heap.size + 4) w.heap.size (w.heap.size + 2) (w.heap.size + 1) (w.heap.size + 3) ∧ Below w.heap.size w (nW w) := de_of w _ _ _ _ _ rfl rfl rfl rfl rfl
set_option maxRecDepth 20000 in
set_option maxHeartbeats 8000000 in
theorem dnew_e (w : World) : Calls Tryz.prog 25 #[.int .i64 2, .int .i64 9, .int .i64 9] w fun e w' => e = .returned (.tuple #[.pointer (some ⟨w.heap.size + 4, 0, none⟩), .int .i64 0]) ∧ De w' (w.heap.size + 4) w.heap.size (w.heap.size + 2) (w.heap.size + 1) (w.heap.size + 3) ∧ Below w.heap.size w w' := by
  have hm := mk3
  have HD : Hid (De (nW w) (w.heap.size + 4) w.heap.size (w.heap.size + 2) (w.heap.size + 1) (w.heap.size + 3) ∧ Below w.heap.size w (nW w)) := de_new w
  go_enter Tryz.func25, Tryz.ntmps25
  go_wp2_with (first | (go_at_call 47; refine (tnew_9 _).mono ?_; rintro e w' ⟨rfl, rfl⟩) | (go_at_call 48; refine (gnew_9 _).mono ?_; rintro e w' ⟨rfl, rfl⟩))
  go_rounds 3
  go_ret2
  exact ⟨rfl, HD.out.1, HD.out.2⟩
end Go.Proofs.YtoklgdpdeghkpaaGreatDoor

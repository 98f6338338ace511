/-
  Rows that the call has made: values of any number of cells each.
-/
import Derived.Test.YtmobmpghpdaddaaTst
import Derived.Maps.AppendAt
namespace Go.Proofs.Ytmobmpghpdaddaa
open Go.ChangeShapes Go.WideShapes Go.ChangeAt Go.RowKit
set_option linter.unusedVariables false

theorem gby {w w' : World} (g : Below w.heap.size w w') : w.grownBy w' none := ⟨g.os, g.tape, g.output, g.size, fun k hk _ => g.block k hk⟩
theorem info_parts {i : Option TypeInfo} {z : Value} {s b : Nat} (h : i.map (fun i => (i.zero, i.size, i.bytes)) = some (some z, s, b)) : ∃ i0, i = some i0 ∧ i0.zero = some z ∧ i0.size = s ∧ i0.bytes = b := by
  cases i with
  | none => cases h
  | some i0 => simp at h; exact ⟨i0, rfl, h.1, h.2.1, h.2.2⟩
/-- How a kind of value lies in cells. -/
structure Kd {α : Type} (k : α → List Value) (s : Nat) : Prop where
  len : ∀ x, (k x).length = s
  one : ∀ x, ∀ u ∈ k x, u.oneCell' = true
  pos : 0 < s
section
variable {α : Type} {k : α → List Value} {s : Nat}
theorem flat_len (h : Kd k s) : ∀ l : List α, (l.flatMap k).length = l.length * s
  | [] => by simp
  | x :: l => by rw [List.flatMap_cons, List.length_append, h.len, flat_len h l, List.length_cons, Nat.succ_mul]; omega
theorem flat_at (h : Kd k s) : ∀ (l : List α) (j i : Nat) (hj : j < l.length), i < s → (l.flatMap k)[j * s + i]? = (k l[j])[i]?
  | [], j, i, hj, _ => by cases hj
  | x :: l, 0, i, hj, hi => by
    rw [List.flatMap_cons, Nat.zero_mul, Nat.zero_add, List.getElem?_append_left (by rw [h.len]; exact hi)]
    rfl
  | x :: l, j + 1, i, hj, hi => by
    rw [List.flatMap_cons, List.getElem?_append_right (by rw [h.len, Nat.succ_mul]; omega), h.len, show (j + 1) * s + i - s = j * s + i by rw [Nat.succ_mul]; omega, flat_at h l j i (by simpa using hj) hi]
    rfl
theorem flat_one (h : Kd k s) (l : List α) : ∀ u ∈ l.flatMap k, u.oneCell' = true := fun u hu => by
  obtain ⟨x, _, hx⟩ := List.mem_flatMap.1 hu
  exact h.one x u hx
/-- The cells of a slice's values. -/
def Cs (k : α → List Value) (s : Nat) (w : World) (g o : Nat) (l : List α) : Prop := ∀ j (hj : j < l.length) i, i < s → w.cell? ⟨g, o + j * s + i, none⟩ = (k l[j])[i]?
theorem Cs.block {w w' : World} {g o : Nat} {l : List α} (h : Cs k s w g o l) (e : w'.heap[g]? = w.heap[g]?) : Cs k s w' g o l := fun j hj i hi => (World.cell?_of_block (w := w) e).trans (h j hj i hi)
theorem Cs.flat (hk : Kd k s) {w : World} {g o : Nat} {l : List α} (h : Cs k s w g o l) : ∀ j u, (l.flatMap k)[j]? = some u → w.cell? ((⟨g, o, none⟩ : Addr).add j) = some u := by
  intro j u hj
  have hp := hk.pos
  have hjl : j < l.length * s := by
    have := (List.getElem?_eq_some_iff.1 hj).1
    rwa [flat_len hk] at this
  have h1 : j / s < l.length := (Nat.div_lt_iff_lt_mul hp).2 hjl
  have h2 : j % s < s := Nat.mod_lt _ hp
  have e : j / s * s + j % s = j := by rw [Nat.mul_comm]; exact Nat.div_add_mod j s
  rw [addP, ← hj, show o + j = o + j / s * s + j % s by omega, h _ h1 _ h2, ← flat_at hk l _ _ h1 h2, e]
/-- A row of values that the call has made. -/
abbrev Own (e : TypeId) (k : α → List Value) (s : Nat) (base : Nat) (w : World) (v : Value) (zs : List α) : Prop := w.ownsRow base e s v zs.length (zs.flatMap k)
variable {e : TypeId} {base : Nat} {w w' : World} {v : Value} {zs : List α}
theorem own_nil (e : TypeId) (k : α → List Value) (s base : Nat) (w : World) : Own e k s base w (.slice none 0 0) ([] : List α) := World.ownsRow_nil _ _ _ _
theorem own_below (h : Own e k s base w v zs) (g : Below w.heap.size w w') : Own e k s base w' v zs := h.kept (gby g) (by cases hv : v.ownBlock <;> simp)
theorem own_form (h : Own e k s base w v zs) : ∃ a cap, v = .slice a zs.length cap := by
  rcases h.2 with ⟨rfl, h'⟩ | ⟨g, cap, cur, rfl, _⟩
  · exact ⟨none, 0, by rw [h']⟩
  · exact ⟨_, cap, rfl⟩
theorem own_at (hk : Kd k s) (h : Own e k s base w v zs) (h0 : 0 < zs.length) : ∃ g cap, v = .slice (some ⟨g, 0, none⟩) zs.length cap ∧ zs.length ≤ cap ∧ base ≤ g ∧ g < w.heap.size ∧ Cs k s w g 0 zs := by
  have h' := h
  rcases h'.2 with ⟨rfl, h1⟩ | ⟨g, cap, cur, rfl, hb, hg, hnc, _⟩
  · omega
  · refine ⟨g, cap, rfl, hnc, hb, (Array.getElem?_eq_some_iff.1 hg).1, fun j hj i hi => ?_⟩
    have hx : (k zs[j])[i]? = some ((k zs[j])[i]'(by rw [hk.len]; exact hi)) := List.getElem?_eq_getElem _
    have := h.cells (g := g) rfl (j * s + i) _ ((flat_at hk zs j i hj hi).trans hx)
    rw [addP] at this
    rw [hx, ← this]
    congr 2
    omega
/-- A slice's address, and the values that lie there, of any number of cells. -/
def Sk (k : α → List Value) (s : Nat) (w : World) (a : Option Addr) (l : List α) : Prop := l = [] ∨ ∃ g o, a = some ⟨g, o, none⟩ ∧ g < w.heap.size ∧ Cs k s w g o l
theorem Sk.below {a : Option Addr} {l : List α} (h : Sk k s w a l) (g : Below w.heap.size w w') : Sk k s w' a l := by
  rcases h with h | ⟨b, o, ha, hb, hc⟩
  · exact .inl h
  · exact .inr ⟨b, o, ha, Nat.lt_of_lt_of_le hb g.size, hc.block (g.block b hb)⟩
theorem Sk.at {a : Option Addr} {l : List α} (h : Sk k s w a l) {j : Nat} (hj : j < l.length) : ∃ g o, a = some ⟨g, o, none⟩ ∧ g < w.heap.size ∧ Cs k s w g o l := by
  rcases h with rfl | h
  · cases hj
  · exact h
theorem own_sk (hk : Kd k s) (h : Own e k s base w v zs) : ∃ a cap, v = .slice a zs.length cap ∧ zs.length ≤ cap ∧ Sk k s w a zs := by
  by_cases h0 : 0 < zs.length
  · obtain ⟨g, cap, rfl, hc, _, hg, hcs⟩ := own_at hk h h0
    exact ⟨_, cap, rfl, hc, .inr ⟨g, 0, rfl, hg, hcs⟩⟩
  · have hz : zs = [] := List.length_eq_zero_iff.1 (by omega)
    subst hz
    rcases h.2 with ⟨rfl, h1⟩ | ⟨g, cap, cur, rfl, hb, hg, hnc, _⟩
    · exact ⟨none, 0, rfl, Nat.le_refl _, .inl rfl⟩
    · exact ⟨_, cap, rfl, hnc, .inl rfl⟩
end
/-- A kind of rows: the slice's type, its elements'. -/
structure Kt (t e : TypeId) (s : Nat) : Prop where
  ty : Try.prog.underlying t = some (.slice e)
  inf : ∃ z b, (Try.prog.info? e).map (fun i => (i.zero, i.size, i.bytes)) = some (some z, s, b) ∧ z.cells.size = s ∧ b ≤ 160
/-- Values are appended. -/
theorem wpList_appK {α : Type} {k : α → List Value} {s : Nat} (hk : Kd k s) {t e : TypeId} (hT : Kt t e s) {w : World} {ops : Array Oper} {rest : List Oper} {o : Oper} {a : Go.Act} {Q : Exit → Go.Act → World → Prop} (hgd : o.guard = none) (sl x : Operand)
    (ho : o.op = .call { callee := .builtin .append, args := #[sl, x], argTypes := #[t, t] }) (base : Nat) (v : Value) (zs : List α) (hs : a.eval sl = v) (hown : Own e k s base w v zs)
    (g p m c : Nat) (ys : List α) (hx : a.eval x = .slice (some ⟨g, p, none⟩) m c) (hm : m = ys.length) (hc : Cs k s w g p ys) (hn : zs.length + ys.length ≤ 500000000000) (hbase : base ≤ w.heap.size)
    (h : ∀ v' w', Own e k s base w' v' (zs ++ ys) → w.grownBy w' v.ownBlock → (v'.ownBlock = v.ownBlock ∨ v'.ownBlock = some w.heap.size) → wpList Try.prog ops Q rest (a.put o.dst v') w') : wpList Try.prog ops Q (o :: rest) a w := by
  subst hm
  obtain ⟨z, b, hi', hz, hb⟩ := hT.inf
  obtain ⟨i0, hi, hz0, hz1, hz2⟩ := info_parts hi'
  refine wpList_append_own_at w hgd sl x t ho base e i0 z s b hT.ty hi hz0 hz1 hz2 hz hk.pos v zs.length _ hs hown ⟨g, p, none⟩ ys.length c (ys.flatMap k) hx (flat_len hk ys)
    (hc.flat hk) (flat_one hk ys) (by unfold maxLen; omega) (Nat.le_trans (Nat.mul_le_mul hn hb) (by omega)) hbase (fun v' w' h1 h2 _ h4 => h v' w' (by
        unfold Own
        rw [List.length_append, List.flatMap_append]
        exact h1) h2 h4)
/-- A row that a call makes, between two steps. -/
structure RwI {α : Type} (e : TypeId) (k : α → List Value) (s : Nat) (w : World) (v : Value) (zs : List α) (wr : World) : Prop where
  own : Own e k s w.heap.size wr v zs
  bel : Below w.heap.size w wr
section
variable {α : Type} {k : α → List Value} {s : Nat} {e : TypeId}
theorem RwI.app {w wr V w2 : World} {v v' : Value} {zs ts : List α} (h : RwI e k s w v zs wr) (gV : Below wr.heap.size wr V) (o : Own e k s w.heap.size w2 v' ts) (g : V.grownBy w2 v.ownBlock) : RwI e k s w v' ts w2 :=
  ⟨o, (h.bel.trans (gV.mono h.bel.size)).grown g (Nat.le_trans h.bel.size gV.size) (fun j hj => (h.own.lt j hj).1)⟩
theorem RwI.grow {w wr V : World} {v : Value} {zs : List α} (h : RwI e k s w v zs wr) (gV : Below wr.heap.size wr V) : RwI e k s w v zs V := ⟨own_below h.own gV, h.bel.trans (gV.mono h.bel.size)⟩
theorem RwI.nil (w : World) : RwI e k s w (.slice none 0 0) ([] : List α) w := ⟨World.ownsRow_nil _ _ _ _, Below.refl _ _⟩
end
/-- Tests, cubes, lists of numbers: as rows. -/
def tstL (t : Tst) : List Value := [.int .i64 t.f, cv t.v, cv t.m]
theorem kdT : Kd tstL 3 := ⟨fun _ => rfl, fun t u hu => by simp [tstL] at hu; rcases hu with rfl | rfl | rfl <;> rfl, by decide⟩
theorem kdC : Kd cubL 20 := ⟨cubL_len, cubL_one, by decide⟩
def intL (x : Int) : List Value := [.int .i64 x]
theorem kdI : Kd intL 1 := ⟨fun _ => rfl, fun t u hu => by simp [intL] at hu; subst hu; rfl, by decide⟩
theorem ktT : Kt 43 32 3 := ⟨Try.underlying43, .agg #[.int .i64 0, .int .u64 0, .int .u64 0], 24, by kernel_rfl, rfl, by decide⟩
theorem ktC : Kt 84 70 20 := ⟨Try.underlying84, .agg (Array.replicate 20 (.int .u64 0)), 160, by kernel_rfl, rfl, by decide⟩
theorem ktI : Kt 37 3 1 := ⟨Try.underlying37, .int .i64 0, 8, by kernel_rfl, rfl, by decide⟩
abbrev OwnT (base : Nat) (w : World) (v : Value) (zs : List Tst) : Prop := Own 32 tstL 3 base w v zs
abbrev OwnC (base : Nat) (w : World) (v : Value) (zs : List K) : Prop := Own 70 cubL 20 base w v zs
theorem Cs.ts {w : World} {g o : Nat} {l : List Tst} (h : Cs tstL 3 w g o l) : ∀ i (h : i < l.length), C3 w g (o + i * 3) l[i] := fun i hi => ⟨h i hi 0 (by decide), h i hi 1 (by decide), h i hi 2 (by decide)⟩
theorem Cs.of_ts {w : World} {g o : Nat} {l : List Tst} (h : ∀ i (h : i < l.length), C3 w g (o + i * 3) l[i]) : Cs tstL 3 w g o l := fun j hj i hi => by
  obtain ⟨h0, h1, h2⟩ := h j hj
  have : i = 0 ∨ i = 1 ∨ i = 2 := by omega
  rcases this with rfl | rfl | rfl
  · exact h0
  · exact h1
  · exact h2
theorem Sk.ts {w : World} {a : Option Addr} {l : List Tst} (h : Sk tstL 3 w a l) : Ts w a l := by
  rcases h with h | ⟨g, o, ha, hb, hc⟩
  · exact .inl h
  · exact .inr ⟨g, o, ha, hb, hc.ts⟩
theorem Cs.cub {w : World} {g o : Nat} {l : List K} (h : Cs cubL 20 w g o l) {j : Nat} (hj : j < l.length) : C20 w g (o + j * 20) l[j] := C20.of_range fun i v hv => by
  have hi : i < 20 := by have := (List.getElem?_eq_some_iff.1 hv).1; rwa [cubL_len] at this
  rw [h j hj i hi]
  exact hv
end Go.Proofs.Ytmobmpghpdaddaa

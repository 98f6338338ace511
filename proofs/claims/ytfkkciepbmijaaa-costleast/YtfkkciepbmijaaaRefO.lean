/-
  The document's order: one more goes behind all that are not behind it.
-/
import Derived.Test.YtfkkciepbmijaaaOrdP
import Derived.Test.YtfkkciepbmijaaaOwn
namespace Go.Proofs.Ytfkkciepbmijaaa
open Go.ChangeShapes Go.WideShapes Go.ChangeAt Go.RowKit
set_option linter.unusedVariables false

/-- Nothing is appended. -/
theorem run_app_none {w : World} (e : TypeId) (ty t : TypeId) (i : TypeInfo) (ht : Try.prog.underlying t = some (.slice e)) (hi : Try.prog.info? e = some i) (a : Option Addr) (n c : Nat) (h : n ≤ c) : (Builtin.append_ #[t, t] ty #[.slice a n c, .slice none 0 0]).run Try.prog w = .ok (.slice a n c) w := by
  cases a <;> simp [Builtin.append_, run_underlying ht, sizeOf, typeInfo, hi, Builtin.lenOf, Builtin.firstCells, storeCells, h]
theorem wpList_app_none {w : World} {ops : Array Oper} {rest : List Oper} {o : Oper} {a : Go.Act} {Q : Exit → Go.Act → World → Prop} (hgd : o.guard = none) (s x : Operand)
    (ho : o.op = .call { callee := .builtin .append, args := #[s, x], argTypes := #[39, 39] }) (ad : Option Addr) (n c : Nat) (hs : a.eval s = .slice ad n c) (hx : a.eval x = .slice none 0 0) (hn : n ≤ c)
    (h : wpList Try.prog ops Q rest (a.put o.dst (.slice ad n c)) w) : wpList Try.prog ops Q (o :: rest) a w := by
  refine wpList_plain hgd fun K hK => ?_
  obtain ⟨i0, hi, hz0, hz1, hz2⟩ := info_parts infoI
  have hr := run_app_none (w := w) 3 o.type 39 i0 Try.underlying39 hi ad n c hn
  unfold Oper.wp execOp
  simp only [ho, resolve, invoke, builtin, Sem.run_bind, Sem.run_pure, Result.andThen_ok, List.map_toArray, List.map_cons, List.map_nil, hs, hx, hr]
  exact hK _ _ h
/-- Places are appended, of any length that is said. -/
theorem wpList_appM {w : World} {ops : Array Oper} {rest : List Oper} {o : Oper} {a : Go.Act} {Q : Exit → Go.Act → World → Prop} (hgd : o.guard = none) (s x : Operand)
    (ho : o.op = .call { callee := .builtin .append, args := #[s, x], argTypes := #[39, 39] }) (base : Nat) (v : Value) (zs : List Int) (hs : a.eval s = v) (hown : OwnI base w v zs)
    (g p m c : Nat) (hx : a.eval x = .slice (some ⟨g, p, none⟩) m c) (ys : List Int) (hm : m = ys.length) (hc : ∀ j (hj : j < ys.length), w.cell? ⟨g, p + j, none⟩ = some (.int .i64 ys[j])) (hn : zs.length + ys.length ≤ 17592186044416) (hbase : base ≤ w.heap.size)
    (h : ∀ v' w', OwnI base w' v' (zs ++ ys) → w.grownBy w' v.ownBlock → (v'.ownBlock = v.ownBlock ∨ v'.ownBlock = some w.heap.size) → wpList Try.prog ops Q rest (a.put o.dst v') w') : wpList Try.prog ops Q (o :: rest) a w := by
  subst hm
  exact wpList_appI hgd s x ho base v zs hs hown g p c ys hx hc hn hbase h
theorem own_at2 {base : Nat} {w : World} {v : Value} {zs : List Int} (h : OwnI base w v zs) (hj : 0 < zs.length) : ∃ g cap, v = .slice (some ⟨g, 0, none⟩) zs.length cap ∧ zs.length ≤ cap ∧ g < w.heap.size ∧ ∀ j (hj : j < zs.length), w.cell? ⟨g, j, none⟩ = some (.int .i64 zs[j]) := by
  have h' := h
  rcases h'.2 with ⟨rfl, h0⟩ | ⟨g, cap, cur, rfl, hb, hg, hnc, _⟩
  · omega
  · refine ⟨g, cap, rfl, hnc, (Array.getElem?_eq_some_iff.1 hg).1, fun j hj => ?_⟩
    have := h.cells (g := g) rfl j (.int .i64 zs[j]) (by simp [hj])
    rwa [addP, Nat.zero_add] at this
/-- The next row is made, while the old one stands at block g. -/
structure NxI (w : World) (g : Nat) (R : List Int) (v : Value) (zs : List Int) (u : World) : Prop where
  own : OwnI w.heap.size u v zs
  bel : Below w.heap.size w u
  gl : g < u.heap.size
  ne : v.ownBlock ≠ some g
  cells : ∀ j (h : j < R.length), u.cell? ⟨g, j, none⟩ = some (.int .i64 R[j])
theorem NxI.app {w u V w2 : World} {g : Nat} {R : List Int} {v v' : Value} {zs ts : List Int} (h : NxI w g R v zs u) (gV : Below u.heap.size u V) (o : OwnI w.heap.size w2 v' ts) (k : V.grownBy w2 v.ownBlock) (hat : v'.ownBlock = v.ownBlock ∨ v'.ownBlock = some V.heap.size) : NxI w g R v' ts w2 := by
  have hV : g < V.heap.size := Nat.lt_of_lt_of_le h.gl gV.size
  refine ⟨o, (h.bel.trans (gV.mono h.bel.size)).grown k (Nat.le_trans h.bel.size gV.size) (fun j hj => (h.own.lt j hj).1), Nat.lt_of_lt_of_le hV k.size, ?_, fun j hj => ?_⟩
  · rcases hat with e | e
    · rw [e]; exact h.ne
    · rw [e]; intro e2; have := Option.some.inj e2; omega
  · have e1 : V.cell? ⟨g, j, none⟩ = some (.int .i64 R[j]) := (gV.cell (p := ⟨g, j, none⟩) h.gl).trans (h.cells j hj)
    exact (World.cell?_of_block (w := V) (k.block g hV (fun e => h.ne e.symm))).trans e1
/-- The row behind some rounds; none at first. -/
structure RoI (l : List Nat) (w : World) (v : Value) (i : Nat) (wr : World) : Prop where
  own : OwnI w.heap.size wr v (isort (kp l) (places i))
  bel : Below w.heap.size w wr
  nil : i = 0 → v = .slice none 0 0
theorem isort_places_len (l : List Nat) (i : Nat) : (isort (kp l) (places i)).length = i := by rw [isort_len, places_len]
theorem isort_places_mem (l : List Nat) (i : Nat) {x : Int} (h : x ∈ isort (kp l) (places i)) : ∃ p : Nat, x = (p : Int) ∧ p < i := by
  have := (isort_mem _ _ _).1 h
  unfold places at this
  obtain ⟨p, hp, rfl⟩ := List.mem_map.1 this
  exact ⟨p, rfl, List.mem_range.1 hp⟩
/-- Where the next one goes. -/
theorem next_is (l : List Nat) (i k : Nat) (hk : k ≤ i) (h1 : k = 0 ∨ ∃ h : k - 1 < (isort (kp l) (places i)).length, kp l ((isort (kp l) (places i))[k - 1]) ≤ kp l (i : Int))
    (h2 : ∀ j (h : j < (isort (kp l) (places i)).length), k ≤ j → kp l (i : Int) < kp l (isort (kp l) (places i))[j]) :
    isort (kp l) (places (i + 1)) = (isort (kp l) (places i)).take k ++ ((i : Int) :: (isort (kp l) (places i)).drop k) := by
  rw [places_succ, isort_snoc]
  refine ins_at _ _ _ _ (by rw [isort_places_len]; exact hk) (fun j hj hjk => ?_) h2
  rcases h1 with h1 | ⟨h, h1⟩
  · omega
  · by_cases e : j = k - 1
    · subst e; exact h1
    · have := List.pairwise_iff_getElem.1 (isort_sorted (κ := kp l) (places i)) j (k - 1) hj h (by omega)
      omega
end Go.Proofs.Ytfkkciepbmijaaa

/-
  Cut's cubes so far: tests, in rows of their own.
-/
import Derived.Test.YtmobmpghpdaddaaHand
import Derived.Deep.RegionHeld
namespace Go.Proofs.Ytmobmpghpdaddaa
open Go.ChangeShapes Go.WideShapes Go.ChangeAt Go.RowKit
set_option linter.unusedVariables false

/-- A slice's header. -/
structure Hd where
  a : Option Addr
  n : Nat
  c : Nat
abbrev hdV (h : Hd) : Value := .slice h.a h.n h.c
def hdL (h : Hd) : List Value := [hdV h]
theorem kdH : Kd hdL 1 := ⟨fun _ => rfl, fun t u hu => by simp [hdL] at hu; subst hu; rfl, by decide⟩
theorem ktH : Kt 52 43 1 := ⟨Try.underlying52, .slice none 0 0, 24, by kernel_rfl, rfl, by decide⟩
abbrev OwnH (base : Nat) (w : World) (v : Value) (zs : List Hd) : Prop := Own 43 hdL 1 base w v zs
/-- Headers of slices, one of each of a list. -/
def Hs {β : Type} (P : World → Hd → β → Prop) (w : World) (hs : List Hd) (l : List β) : Prop := hs.length = l.length ∧ ∀ i (h : i < hs.length) (h' : i < l.length), P w hs[i] l[i]
theorem Hs.nil {β : Type} {P : World → Hd → β → Prop} (w : World) : Hs P w [] ([] : List β) := ⟨rfl, fun i h => by cases h⟩
theorem Hs.snoc {β : Type} {P : World → Hd → β → Prop} {w : World} {hs : List Hd} {l : List β} (h : Hs P w hs l) {x : Hd} {y : β} (hx : P w x y) : Hs P w (hs ++ [x]) (l ++ [y]) := by
  obtain ⟨h1, h2⟩ := h
  refine ⟨by simp [h1], fun i hi hi' => ?_⟩
  by_cases e : i < hs.length
  · rw [List.getElem_append_left e, List.getElem_append_left (by omega)]
    exact h2 i e (by omega)
  · have e1 : i = hs.length := by simp at hi; omega
    subst e1
    rw [List.getElem_append_right (by omega), List.getElem_append_right (by omega)]
    simp only [h1, Nat.sub_self, List.getElem_cons_zero]
    exact hx
theorem Hs.mono {β : Type} {P P' : World → Hd → β → Prop} {w w' : World} {hs : List Hd} {l : List β} (h : Hs P w hs l) (g : ∀ i (h : i < hs.length) (h' : i < l.length), P w hs[i] l[i] → P' w' hs[i] l[i]) : Hs P' w' hs l := ⟨h.1, fun i h1 h2 => g i h1 h2 (h.2 i h1 h2)⟩
/-- A slice's tests are a cube's. -/
def Tc (w : World) (h : Hd) (k : K) : Prop := h.n = (toT k).length ∧ h.n ≤ h.c ∧ Sk tstL 3 w h.a (toT k)
theorem Tc.below {w w' : World} {h : Hd} {k : K} (t : Tc w h k) (g : Below w.heap.size w w') : Tc w' h k := ⟨t.1, t.2.1, t.2.2.below g⟩
/-- The same, its block in S. -/
def TcS (S : Nat → Prop) (w : World) (h : Hd) (k : K) : Prop := h.n = (toT k).length ∧ h.n ≤ h.c ∧ (toT k = [] ∨ ∃ g o, h.a = some ⟨g, o, none⟩ ∧ g < w.heap.size ∧ S g ∧ Cs tstL 3 w g o (toT k))
theorem TcS.tc {S : Nat → Prop} {w : World} {h : Hd} {k : K} (t : TcS S w h k) : Tc w h k := ⟨t.1, t.2.1, by
  rcases t.2.2 with h | ⟨g, o, h1, h2, h3, h4⟩
  · exact .inl h
  · exact .inr ⟨g, o, h1, h2, h4⟩⟩
theorem TcS.chg {S S' : Nat → Prop} {w w' : World} {h : Hd} {k : K} (t : TcS S w h k) (hs : w.heap.size ≤ w'.heap.size) (hb : ∀ j, j < w.heap.size → S j → S' j ∧ w'.heap[j]? = w.heap[j]?) : TcS S' w' h k := ⟨t.1, t.2.1, by
  rcases t.2.2 with h | ⟨g, o, h1, h2, h3, h4⟩
  · exact .inl h
  · exact .inr ⟨g, o, h1, by omega, (hb g h2 h3).1, h4.block (hb g h2 h3).2⟩⟩
/-- Cut's cubes so far: their slices in a row of its own, whose slice lies in block g; the tests in blocks T. -/
structure CtI (base g : Nat) (l : List K) (S : Nat → Prop) (w : World) : Prop where
  ex : ∃ v hs T, w.cell? ⟨g, 0, none⟩ = some v ∧ OwnH base w v hs ∧ Hs (TcS T) w hs l ∧ v.ownBlock ≠ some g ∧ ¬ T g ∧ (∀ j, v.ownBlock = some j → ¬ T j) ∧ (∀ j, T j → j < w.heap.size ∧ base ≤ j) ∧ (∀ j, S j ↔ j = g ∨ v.ownBlock = some j ∨ T j)
  fz : w.frozen? ⟨g, 0, none⟩ = false
  lt : g < w.heap.size
  bs : base ≤ w.heap.size
theorem step_call {P : Program} {ops : Array Oper} {o : Oper} {a : Go.Act} {w : World} {K : Go.Act → World → Prop} {Q : Exit → Go.Act → World → Prop} {E : Prop} (hw : Region.wanted o (yielded ops a.tmps) = true) (f : FuncId) (vals : Array Value)
    (hrun : (execOp a.eval o).run P w = .ok (.enter f vals) w) (hC : Calls P f vals w fun e w' => ∃ v, e = .returned v ∧ K (a.put o.dst v) w') :
    if Region.wanted o (yielded ops a.tmps) = true then Oper.wp P o a w K Q else E := by
  rw [if_pos hw]
  unfold Oper.wp
  rw [hrun, Oper.upon_enter]
  exact hC.mono fun e w' ⟨v, he, hk⟩ => by subst he; exact hk
theorem step_appK {α : Type} {k : α → List Value} {s : Nat} (hk : Kd k s) {t e : TypeId} (hT : Kt t e s) {w : World} {ops : Array Oper} {o : Oper} {a : Go.Act} {N : Go.Act → World → Prop} {Q : Exit → Go.Act → World → Prop} {E : Prop} (hgd : o.guard = none) (sl x : Operand)
    (ho : o.op = .call { callee := .builtin .append, args := #[sl, x], argTypes := #[t, t] }) (base : Nat) (v : Value) (zs : List α) (hs : a.eval sl = v) (hown : Own e k s base w v zs)
    (g p m c : Nat) (ys : List α) (hx : a.eval x = .slice (some ⟨g, p, none⟩) m c) (hm : m = ys.length) (hc : Cs k s w g p ys) (hn : zs.length + ys.length ≤ 500000000000) (hbase : base ≤ w.heap.size)
    (h : ∀ v' w', Own e k s base w' v' (zs ++ ys) → w.grownBy w' v.ownBlock → (v'.ownBlock = v.ownBlock ∨ v'.ownBlock = some w.heap.size) → N (a.put o.dst v') w') : if Region.wanted o (yielded ops a.tmps) = true then Oper.wp Try.prog o a w N Q else E := by
  have hw : Region.wanted o (yielded ops a.tmps) = true := by simp [Region.wanted, hgd]
  rw [if_pos hw]
  subst hm
  obtain ⟨z, b, hi', hz, hb⟩ := hT.inf
  obtain ⟨i0, hi, hz0, hz1, hz2⟩ := info_parts hi'
  obtain ⟨v', w', hr, h2, h3, _, h5⟩ := run_append_own_at (P := Try.prog) w base t o.type e i0 z s b hT.ty hi hz0 hz1 hz2 hz hk.pos v zs.length _ hown ⟨g, p, none⟩ ys.length c (ys.flatMap k) (flat_len hk ys)
    (hc.flat hk) (flat_one hk ys) (by unfold maxLen; omega) (Nat.le_trans (Nat.mul_le_mul hn hb) (by omega)) hbase
  unfold Oper.wp execOp
  simp only [ho, resolve, invoke, builtin, Sem.run_bind, Sem.run_pure, Result.andThen_ok, List.map_toArray, List.map_cons, List.map_nil, hs, hx, hr]
  exact h v' w' (by
    unfold Own
    rw [List.length_append, List.flatMap_append]
    exact h2) h3 h5
theorem own_sk' {α : Type} {k : α → List Value} {s : Nat} (hk : Kd k s) {e : TypeId} {base : Nat} {w : World} {v : Value} {zs : List α} (h : Own e k s base w v zs) : ∃ a cap, v = .slice a zs.length cap ∧ zs.length ≤ cap ∧ (zs = [] ∨ ∃ g, a = some ⟨g, 0, none⟩ ∧ g < w.heap.size ∧ base ≤ g ∧ Cs k s w g 0 zs) := by
  by_cases h0 : 0 < zs.length
  · obtain ⟨g, cap, rfl, hc, hb, hg, hcs⟩ := own_at hk h h0
    exact ⟨_, cap, rfl, hc, .inr ⟨g, rfl, hg, hb, hcs⟩⟩
  · have hz : zs = [] := List.length_eq_zero_iff.1 (by omega)
    subst hz
    rcases h.2 with ⟨rfl, h1⟩ | ⟨g, cap, cur, rfl, hb, hg, hnc, _⟩
    · exact ⟨none, 0, rfl, Nat.le_refl _, .inl rfl⟩
    · exact ⟨_, cap, rfl, hnc, .inl rfl⟩
/-- One cube more. -/
theorem ct_step {base g : Nat} {l : List K} {S T : Nat → Prop} {w X w1 : World} {v : Value} {hs : List Hd} {k : K} {at' : Option Addr} {ct : Nat}
    (h1 : w.cell? ⟨g, 0, none⟩ = some v) (h2 : OwnH base w v hs) (h3 : Hs (TcS T) w hs l) (h4 : v.ownBlock ≠ some g) (h5 : ¬ T g) (h6 : ∀ j, v.ownBlock = some j → ¬ T j) (h7 : ∀ j, T j → j < w.heap.size ∧ base ≤ j) (h8 : ∀ j, S j ↔ j = g ∨ v.ownBlock = some j ∨ T j)
    (fz : w.frozen? ⟨g, 0, none⟩ = false) (lt : g < w.heap.size) (bs : base ≤ w.heap.size) (gX : Below w.heap.size w X) (hR : RwI 32 tstL 3 X (.slice at' (toT k).length ct) (toT k) w1) :
    OwnH base (w1.alloc (.cells #[.slice at' (toT k).length ct] 43)) v hs ∧ Cs hdL 1 (w1.alloc (.cells #[.slice at' (toT k).length ct] 43)) w1.heap.size 0 [⟨at', (toT k).length, ct⟩] ∧ base ≤ (w1.alloc (.cells #[.slice at' (toT k).length ct] 43)).heap.size ∧
    ∀ v' w2, OwnH base w2 v' (hs ++ [⟨at', (toT k).length, ct⟩]) → (w1.alloc (.cells #[.slice at' (toT k).length ct] 43)).grownBy w2 v.ownBlock → (v'.ownBlock = v.ownBlock ∨ v'.ownBlock = some (w1.alloc (.cells #[.slice at' (toT k).length ct] 43)).heap.size) →
      w2.frozen? ⟨g, 0, none⟩ = false ∧ w2.cell? ⟨g, 0, none⟩ = some v ∧ ∃ S', CtI base g (l ++ [k]) S' (w2.setCell ⟨g, 0, none⟩ v') ∧ (∀ j, S' j → S j ∨ w.heap.size ≤ j) ∧ Chg S w (w2.setCell ⟨g, 0, none⟩ v') := by
  have cY := cs_new (k := hdL) (s := 1) w1 ⟨at', (toT k).length, ct⟩ 43
  have gY : Below w1.heap.size w1 (w1.alloc (.cells #[.slice at' (toT k).length ct] 43)) := by go_grown
  have zY : (w1.alloc (.cells #[.slice at' (toT k).length ct] 43)).heap.size = w1.heap.size + 1 := by simp
  have gw1 : Below w.heap.size w w1 := btr gX hR.bel (by omega)
  have gwY : Below w.heap.size w (w1.alloc (.cells #[.slice at' (toT k).length ct] 43)) := btr gw1 gY (by omega)
  have cY' : Cs hdL 1 (w1.alloc (.cells #[.slice at' (toT k).length ct] 43)) w1.heap.size 0 [⟨at', (toT k).length, ct⟩] := cY
  clear cY
  obtain ⟨Y, hY⟩ : ∃ Y, w1.alloc (.cells #[.slice at' (toT k).length ct] 43) = Y := ⟨_, rfl⟩
  rw [hY] at cY' gY zY gwY ⊢
  clear hY
  have s1 := gw1.size
  have s0 := gX.size
  refine ⟨own_below h2 gwY, cY', by omega, fun v' w2 k1 k2 k3 => ?_⟩
  have eg : w2.heap[g]? = w.heap[g]? := (k2.block g (by omega) (fun e => h4 e.symm)).trans (gwY.block g lt)
  have cg : w2.cell? ⟨g, 0, none⟩ = some v := (World.cell?_of_block (w := w) eg).trans h1
  have hfz := (World.frozen?_of_block (w := w) eg).trans fz
  have hw2 := k2.size
  have ng : v'.ownBlock ≠ some g := by
    rcases k3 with e | e
    · rw [e]; exact h4
    · rw [e]; intro e2; have := Option.some.inj e2; omega
  have z : (w2.setCell ⟨g, 0, none⟩ v').heap.size = w2.heap.size := by simp [World.setCell]
  -- the new one's tests
  obtain ⟨a2, c2, e1, e2, e3⟩ := own_sk' kdT hR.own
  obtain ⟨rfl, rfl⟩ : at' = a2 ∧ ct = c2 := by cases e1; exact ⟨rfl, rfl⟩
  have ho : ∀ j, v'.ownBlock = some j → v.ownBlock = some j ∨ j = Y.heap.size := fun j hj => by
    rcases k3 with e | e
    · exact .inl (by rw [← e]; exact hj)
    · rw [hj] at e; exact .inr (Option.some.inj e)
  have old : ∀ j, j < w.heap.size → T j → w2.heap[j]? = w.heap[j]? := fun j hj ht => (k2.block j (by omega) (fun e => h6 j e.symm ht)).trans (gwY.block j hj)
  have hc : Chg S w (w2.setCell ⟨g, 0, none⟩ v') := by
    have hc := chg_grow gwY k2
    exact Chg.trans (T := fun j => j = g) ⟨hc.os, hc.tape, hc.output, hc.size, fun j hj hn => hc.block j hj (fun e => hn ((h8 j).2 (.inr (.inl e))))⟩ (chg_set w2 g 0 v') (fun j _ e => (h8 j).2 (.inl e))
  have T2 : ∃ T' : Nat → Prop, (∀ j, T j → T' j) ∧ (∀ j, T' j → T j ∨ (X.heap.size ≤ j ∧ j < w1.heap.size)) ∧ TcS T' w1 ⟨at', (toT k).length, ct⟩ k := by
    rcases e3 with e3 | ⟨b, rfl, b1, b2, b3⟩
    · exact ⟨T, fun j h => h, fun j h => .inl h, rfl, e2, .inl e3⟩
    · exact ⟨fun j => T j ∨ j = b, fun j h => .inl h, fun j h => h.elim .inl (fun e => .inr ⟨by omega, by omega⟩), rfl, e2, .inr ⟨b, 0, rfl, b1, .inr rfl, b3⟩⟩
  obtain ⟨T', t1, t2, t3⟩ := T2
  have nT : ∀ j, v'.ownBlock = some j → ¬ T' j := fun j hj ht => by
    rcases t2 j ht with h | ⟨h, h'⟩
    · rcases ho j hj with e | e
      · exact h6 j e h
      · have := (h7 j h).1; omega
    · rcases ho j hj with e | e
      · have := (own_lt h2 e).2; omega
      · omega
  have nT2 : ∀ j, T' j → v.ownBlock ≠ some j := fun j ht e => by
    rcases t2 j ht with h | ⟨h, h'⟩
    · exact h6 j e h
    · have := (own_lt h2 e).2; omega
  have gT : ¬ T' g := fun h => by
    rcases t2 g h with h | ⟨h, _⟩
    · exact h5 h
    · omega
  refine ⟨hfz, cg, fun j => j = g ∨ v'.ownBlock = some j ∨ T' j, ⟨⟨v', hs ++ [⟨at', (toT k).length, ct⟩], T', World.cell?_setCell_same _ _ _ cg, own_chg k1 (fun j hj => setCell_block _ _ _ _ (fun e => by subst e; exact ng hj)), ?_, ng, gT, nT, fun j hj => ?_, fun j => Iff.rfl⟩, by simpa using hfz, by omega, by omega⟩, fun j hj => ?_, hc⟩
  · refine Hs.snoc (Hs.mono (P' := TcS T') (w' := w2.setCell ⟨g, 0, none⟩ v') h3 fun i i1 i2 t => t.chg (by omega) (fun j hj ht => ⟨t1 j ht, (setCell_block _ _ _ _ (fun e => by subst e; exact h5 ht)).trans (old j hj ht)⟩)) ?_
    refine t3.chg (by omega) (fun j hj ht => ⟨ht, (setCell_block _ _ _ _ (fun e => by subst e; exact gT ht)).trans ((k2.block j (by omega) (fun e => nT2 j ht e.symm)).trans (gY.block j hj))⟩)
  · rcases t2 j hj with h | ⟨h, h'⟩
    · have := h7 j h; omega
    · omega
  · rcases hj with rfl | hj | hj
    · exact .inl ((h8 _).2 (.inl rfl))
    · rcases ho j hj with e | e
      · exact .inl ((h8 j).2 (.inr (.inl e)))
      · right; omega
    · rcases t2 j hj with h | ⟨h, _⟩
      · exact .inl ((h8 j).2 (.inr (.inr h)))
      · right; omega
end Go.Proofs.Ytmobmpghpdaddaa

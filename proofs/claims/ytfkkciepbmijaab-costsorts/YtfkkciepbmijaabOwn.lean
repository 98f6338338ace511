/-
  Rows of numbers that the call has made: floats and places, appended; the law's floats.
-/
import Derived.Test.YtfkkciepbmijaabSl
import Derived.Maps.AppendAt
namespace Go.Proofs.Ytfkkciepbmijaab
open Go.ChangeShapes Go.WideShapes Go.ChangeAt Go.RowKit
set_option linter.unusedVariables false

theorem gby {w w' : World} (g : Below w.heap.size w w') : w.grownBy w' none := ⟨g.os, g.tape, g.output, g.size, fun k hk _ => g.block k hk⟩
theorem info_parts {i : Option TypeInfo} {z : Value} {s b : Nat} (h : i.map (fun i => (i.zero, i.size, i.bytes)) = some (some z, s, b)) : ∃ i0, i = some i0 ∧ i0.zero = some z ∧ i0.size = s ∧ i0.bytes = b := by
  cases i with
  | none => cases h
  | some i0 => simp at h; exact ⟨i0, rfl, h.1, h.2.1, h.2.2⟩
theorem infoF : (Try.prog.info? 27).map (fun i => (i.zero, i.size, i.bytes)) = some (some (.float .f64 0), 1, 8) := by kernel_rfl
theorem infoI : (Try.prog.info? 3).map (fun i => (i.zero, i.size, i.bytes)) = some (some (.int .i64 0), 1, 8) := by kernel_rfl
/-- A row of values, one cell each, that the call has made. -/
abbrev Own {α : Type} (e : TypeId) (k : α → Value) (base : Nat) (w : World) (v : Value) (zs : List α) : Prop := w.ownsRow base e 1 v zs.length (zs.map k)
abbrev OwnF (base : Nat) (w : World) (v : Value) (zs : List Nat) : Prop := Own 27 (Value.float .f64) base w v zs
abbrev OwnI (base : Nat) (w : World) (v : Value) (zs : List Int) : Prop := Own 3 (Value.int .i64) base w v zs
section
variable {α : Type} {e : TypeId} {k : α → Value} {base : Nat} {w w' : World} {v : Value} {zs : List α}
theorem own_below (h : Own e k base w v zs) (g : Below w.heap.size w w') : Own e k base w' v zs := h.kept (gby g) (by cases hv : v.ownBlock <;> simp)
theorem own_form (h : Own e k base w v zs) : ∃ a cap, v = .slice a zs.length cap := by
  rcases h.2 with ⟨rfl, h'⟩ | ⟨g, cap, cur, rfl, _⟩
  · exact ⟨none, 0, by rw [h']⟩
  · exact ⟨_, cap, rfl⟩
theorem own_at (h : Own e k base w v zs) (j : Nat) (hj : j < zs.length) : ∃ g cap, v = .slice (some ⟨g, 0, none⟩) zs.length cap ∧ base ≤ g ∧ g < w.heap.size ∧ ∀ j (hj : j < zs.length), w.cell? ⟨g, j, none⟩ = some (k zs[j]) := by
  have h' := h
  rcases h'.2 with ⟨rfl, h0⟩ | ⟨g, cap, cur, rfl, hb, hg, _⟩
  · omega
  · refine ⟨g, cap, rfl, hb, (Array.getElem?_eq_some_iff.1 hg).1, fun j hj => ?_⟩
    have := h.cells (g := g) rfl j (k zs[j]) (by simp [hj])
    rwa [addP, Nat.zero_add] at this
theorem own_sl (h : Own e k base w v zs) : ∃ a cap, v = .slice a zs.length cap ∧ Sl k w a zs := by
  by_cases h0 : 0 < zs.length
  · obtain ⟨g, cap, rfl, _, hg, hc⟩ := own_at h 0 h0
    exact ⟨_, cap, rfl, .inr ⟨g, 0, rfl, hg, fun i hi => by rw [Nat.zero_add]; exact hc i hi⟩⟩
  · obtain ⟨a, cap, rfl⟩ := own_form h
    exact ⟨a, cap, rfl, .inl (List.length_eq_zero_iff.1 (by omega))⟩
end
/-- A row that a call makes, between two steps. -/
structure RwI {α : Type} (e : TypeId) (k : α → Value) (w : World) (v : Value) (zs : List α) (wr : World) : Prop where
  own : Own e k w.heap.size wr v zs
  bel : Below w.heap.size w wr
theorem RwI.app {α : Type} {e : TypeId} {k : α → Value} {w wr V w2 : World} {v v' : Value} {zs ts : List α} (h : RwI e k w v zs wr) (gV : Below wr.heap.size wr V) (o : Own e k w.heap.size w2 v' ts) (g : V.grownBy w2 v.ownBlock) : RwI e k w v' ts w2 :=
  ⟨o, (h.bel.trans (gV.mono h.bel.size)).grown g (Nat.le_trans h.bel.size gV.size) (fun j hj => (h.own.lt j hj).1)⟩
theorem RwI.grow {α : Type} {e : TypeId} {k : α → Value} {w wr V : World} {v : Value} {zs : List α} (h : RwI e k w v zs wr) (gV : Below wr.heap.size wr V) : RwI e k w v zs V := ⟨own_below h.own gV, h.bel.trans (gV.mono h.bel.size)⟩
theorem RwI.nil {α : Type} {e : TypeId} {k : α → Value} (w : World) : RwI e k w (.slice none 0 0) [] w := ⟨World.ownsRow_nil _ _ _ _, Below.refl _ _⟩
/-- One float is appended. -/
theorem wpList_appF {w : World} {ops : Array Oper} {rest : List Oper} {o : Oper} {a : Go.Act} {Q : Exit → Go.Act → World → Prop} (hgd : o.guard = none) (s x : Operand)
    (ho : o.op = .call { callee := .builtin .append, args := #[s, x], argTypes := #[23, 23] }) (base : Nat) (v : Value) (zs : List Nat) (hs : a.eval s = v) (hown : OwnF base w v zs)
    (g : Nat) (z : Nat) (hx : a.eval x = .slice (some ⟨g, 0, none⟩) 1 1) (hc : w.cell? ⟨g, 0, none⟩ = some (.float .f64 z)) (hn : zs.length < 17592186044416) (hbase : base ≤ w.heap.size)
    (h : ∀ v' w', OwnF base w' v' (zs ++ [z]) → w.grownBy w' v.ownBlock → wpList Try.prog ops Q rest (a.put o.dst v') w') : wpList Try.prog ops Q (o :: rest) a w := by
  obtain ⟨i0, hi, hz0, hz1, hz2⟩ := info_parts infoF
  exact wpList_append_own w hgd s x 23 ho base 27 i0 (.float .f64 0) 1 8 Try.underlying23 hi hz0 hz1 hz2 rfl (by decide) v zs.length _ hs hown ⟨g, 0, none⟩ 1 1 [.float .f64 z] hx rfl
    (fun j u hj => by
      cases j with
      | zero => simp at hj; subst hj; rw [addP]; exact hc
      | succ j => simp at hj) (fun u hu => by simp at hu; subst hu; rfl) (by unfold maxLen; omega) (by omega) hbase (fun v' w' h1 h2 _ => h v' w' (by
        unfold OwnF Own
        rw [List.length_append, List.map_append]
        exact h1) h2)
/-- Places are appended. -/
theorem wpList_appI {w : World} {ops : Array Oper} {rest : List Oper} {o : Oper} {a : Go.Act} {Q : Exit → Go.Act → World → Prop} (hgd : o.guard = none) (s x : Operand)
    (ho : o.op = .call { callee := .builtin .append, args := #[s, x], argTypes := #[25, 25] }) (base : Nat) (v : Value) (zs : List Int) (hs : a.eval s = v) (hown : OwnI base w v zs)
    (g p c : Nat) (ys : List Int) (hx : a.eval x = .slice (some ⟨g, p, none⟩) ys.length c) (hc : ∀ j (hj : j < ys.length), w.cell? ⟨g, p + j, none⟩ = some (.int .i64 ys[j])) (hn : zs.length + ys.length ≤ 17592186044416) (hbase : base ≤ w.heap.size)
    (h : ∀ v' w', OwnI base w' v' (zs ++ ys) → w.grownBy w' v.ownBlock → (v'.ownBlock = v.ownBlock ∨ v'.ownBlock = some w.heap.size) → wpList Try.prog ops Q rest (a.put o.dst v') w') : wpList Try.prog ops Q (o :: rest) a w := by
  obtain ⟨i0, hi, hz0, hz1, hz2⟩ := info_parts infoI
  refine wpList_append_own_at w hgd s x 25 ho base 3 i0 (.int .i64 0) 1 8 Try.underlying25 hi hz0 hz1 hz2 rfl (by decide) v zs.length _ hs hown ⟨g, p, none⟩ ys.length c (ys.map (Value.int .i64)) hx (by simp)
    (fun j u hj => ?_) (fun u hu => ?_) (by unfold maxLen; omega) (by omega) hbase (fun v' w' h1 h2 _ h4 => h v' w' (by
        unfold OwnI Own
        rw [List.length_append, List.map_append]
        exact h1) h2 h4)
  · rw [List.getElem?_map] at hj
    by_cases hjl : j < ys.length
    · rw [List.getElem?_eq_getElem hjl] at hj
      simp at hj
      subst hj
      rw [addP]
      exact hc j hjl
    · rw [List.getElem?_eq_none (by omega)] at hj
      simp at hj
  · obtain ⟨y, _, rfl⟩ := List.mem_map.1 hu
    rfl
set_option maxRecDepth 20000 in
set_option maxHeartbeats 4000000 in
theorem floats_any (a : Option Addr) (l : List Nat) (cap : Nat) (w : World) (hs : Us w a l) (hl : l.length < 17592186044416) :
    Calls Try.prog 5 #[.slice a l.length cap] w fun e w' => ∃ v, e = .returned v ∧ OwnF w.heap.size w' v l ∧ Below w.heap.size w w' := by
  have HS : Hid (Us w a l) := hs
  have H0 : Hid (RwI 27 (Value.float .f64) w (.slice none 0 0) (l.take 0) w) := RwI.nil w
  have hf := fun (n : Nat) w => from_run n w
  clear hs
  go_enter Try.func5, Try.ntmps5
  go_wp2
  go_loopw [3, 4] (fun v3 v4 wr => ∃ k : Nat, k ≤ l.length ∧ v4 = .int .i64 k ∧ Hid (RwI 27 (Value.float .f64) w v3 (l.take k) wr)) (fun _ v4 _ => l.length - (intOf v4).toNat)
  case atStart => exact ⟨0, Nat.zero_le _, rfl, H0⟩
  case round =>
    obtain ⟨k, hk, rfl, HJ⟩ := hrel
    by_cases hlt : k < l.length
    · obtain ⟨g, o, rfl, hg, hc⟩ := (HS.out.below HJ.out.bel).at hlt
      have d0 := hc k hlt
      have HT : Hid (l.take (k + 1) = l.take k ++ [l[k]]) := (show _ = _ from List.take_succ_eq_append_getElem hlt)
      have HLe : Hid ((l.take k).length < 17592186044416) := (show _ < _ by rw [List.length_take]; omega)
      generalize l[k] = x at *
      clear hc
      go_wp2_with (at_builtin; refine wpList_appF rfl _ _ rfl w.heap.size u3 (l.take k) rfl (own_below HJ.out.own (by go_grown)) _ x rfl (by simp) HLe.out (by have := HJ.out.bel.size; simp; omega) ?_; intro v' w2 ho2 hg2; have HN : Hid (RwI 27 (Value.float .f64) w v' (l.take (k + 1)) w2) := (show RwI _ _ _ _ _ _ by (rw [HT.out]; exact HJ.out.app (by go_grown) ho2 hg2)); clear ho2 hg2)
      go_roundw
      case rel => exact ⟨k + 1, by omega, by go_num, HN⟩
      case measure => simp [intOf]; omega
    · have HE : Hid (RwI 27 (Value.float .f64) w u3 l wr) := (show RwI _ _ _ _ _ _ by
        have := HJ.out
        rwa [List.take_of_length_le (by omega)] at this)
      go_wp2
      go_ret
      exact ⟨_, rfl, HE.out.own, HE.out.bel⟩
end Go.Proofs.Ytfkkciepbmijaab

/-
  A group in the place of one: the plain mathematics, and the document's list with one group stored.
-/
import Derived.Test.YteodlkgbakkjmaaDoorRDel
namespace Go.Proofs.YteodlkgbakkjmaaDoor
open Go.ChangeShapes Go.WideShapes Go.ChangeAt Go.RowKit
set_option linter.unusedVariables false
open scoped Classical

theorem set_put : ∀ {L : List Gr} {g : Gr} {k : Nat} (hk : k < L.length), SrtG L → L[k].id = g.id → L.set k g = putG g L
  | x :: L, g, 0, _, hs, hid => by
    obtain ⟨h1, h2⟩ := List.pairwise_cons.1 hs
    have hid : x.id = g.id := hid
    have hd : delG g.id (x :: L) = L := by
      have : delG g.id (x :: L) = delG g.id L := by unfold delG; rw [List.filter_cons]; simp [hid]
      rw [this, del_id (fun y hy e => by have := h1 y hy; omega)]
    unfold putG
    rw [hd, List.set_cons_zero]
    cases L with
    | nil => rfl
    | cons y r =>
      rw [insG, if_pos (by have := h1 y (by simp); omega)]
  | x :: L, g, k + 1, hk, hs, hid => by
    obtain ⟨h1, h2⟩ := List.pairwise_cons.1 hs
    have hk' : k < L.length := by simpa using hk
    have hid' : L[k].id = g.id := hid
    have hlt : x.id < g.id := by have := h1 L[k] (List.getElem_mem hk'); omega
    have hd : delG g.id (x :: L) = x :: delG g.id L := by unfold delG; rw [List.filter_cons]; simp [show x.id ≠ g.id by omega]
    rw [List.set_cons_succ, set_put hk' h2 hid']
    unfold putG
    rw [hd, insG, if_neg (by omega)]
theorem flatG_set : ∀ (L : List Gr) (k : Nat) (g : Gr), k < L.length → (((flatG L).set (k * 3) (.int .i64 g.id)).set (k * 3 + 1) (.int .i64 g.kd)).set (k * 3 + 2) (.slice g.a g.l.length g.c) = flatG (L.set k g)
  | x :: L, 0, g, _ => by simp [flatG]
  | x :: L, k + 1, g, h => by
    have ih := flatG_set L k g (by simpa using h)
    have e : flatG (x :: L) = .int .i64 x.id :: .int .i64 x.kd :: .slice x.a x.l.length x.c :: flatG L := by simp [flatG]
    have e2 : flatG (x :: L.set k g) = .int .i64 x.id :: .int .i64 x.kd :: .slice x.a x.l.length x.c :: flatG (L.set k g) := by simp [flatG]
    rw [List.set_cons_succ, e2, ← ih, e, show (k + 1) * 3 = k * 3 + 1 + 1 + 1 by omega]
    simp only [List.set_cons_succ]
theorem srt_idx {L : List Gr} (h : SrtG L) {i j : Nat} (hi : i < L.length) (hj : j < L.length) (e : L[i].id = L[j].id) : i = j := by
  have h1 := List.pairwise_iff_getElem.1 h
  rcases Nat.lt_trichotomy i j with hlt | heq | hgt
  · have := h1 i j hi hj hlt; omega
  · exact heq
  · have := h1 j i hj hi hgt; omega
/-- One group of the document's list is stored. -/
theorem RT.setAt {W : World} {rb b c : Nat} {room : Int} {L : List Gr} {w w7 : World} {g : Gr} {k : Nat} (h : RT W rb room (.slice (some ⟨b, 0, none⟩) L.length c) L w7) (hw : Below w.heap.size w w7) (hk : k < L.length) (hid : L[k].id = g.id) (hg : Bs W g.a g.l ∧ Sm g.l ∧ rightE g.p = 0) :
    RT W rb room (.slice (some ⟨b, 0, none⟩) L.length c) (putG g L) (((w7.setCell ⟨b, k * 3, none⟩ (.int .i64 g.id)).setCell ⟨b, k * 3 + 1, none⟩ (.int .i64 g.kd)).setCell ⟨b, k * 3 + 2, none⟩ (.slice g.a g.l.length g.c)) ∧ w.grownBy (((w7.setCell ⟨b, k * 3, none⟩ (.int .i64 g.id)).setCell ⟨b, k * 3 + 1, none⟩ (.int .i64 g.kd)).setCell ⟨b, k * 3 + 2, none⟩ (.slice g.a g.l.length g.c)) (some b) := by
  have hO := Only.s3 w7 b (k * 3) (.int .i64 g.id) (.int .i64 g.kd) (.slice g.a g.l.length g.c)
  obtain ⟨h1, _⟩ := h.row.stored (k * 3) (.int .i64 g.id)
  obtain ⟨h2, _⟩ := h1.stored (k * 3 + 1) (.int .i64 g.kd)
  obtain ⟨h3, _⟩ := h2.stored (k * 3 + 2) (.slice g.a g.l.length g.c)
  have hlen : (putG g L).length = L.length := by rw [← set_put hk h.srt hid, List.length_set]
  rw [flatG_set L k g hk, set_put hk h.srt hid] at h3
  have hbW : W.heap.size ≤ b := (h.row.lt b rfl).1
  have hne : rb ≠ b := fun e => h.ap (by rw [e]; rfl)
  have hbl := hO.block rb hne
  refine ⟨⟨(World.cell?_of_block (a := ⟨rb, 0, none⟩) hbl).trans h.c0, (World.cell?_of_block (a := ⟨rb, 1, none⟩) hbl).trans h.c1, (World.frozen?_of_block (a := ⟨rb, 0, none⟩) hbl).trans h.f0, by rw [hO.size]; exact h.lt, h.ge, by rw [hlen]; exact h3, h.ap, ?_, srt_put h.srt, hO.below hbW h.bel⟩, ⟨?_, ?_, ?_, ?_, ?_⟩⟩
  · intro x hx
    rcases mem_put.1 hx with rfl | ⟨hx, _⟩
    · exact hg
    · exact h.grp x hx
  · exact hO.os.trans hw.os
  · exact hO.tape.trans hw.tape
  · exact hO.output.trans hw.output
  · rw [hO.size]; exact hw.size
  · intro j hj hne2
    exact (hO.block j (fun e => hne2 (by rw [e]))).trans (hw.block j hj)
theorem rc_no {L : List Gr} {g : Gr} {zs : List Int} (h : ∀ x, x ∈ zs ↔ Rc (L.map Gr.p) g.p x) (hn : ∀ i (hi : i < zs.length), zs[i] ≠ g.id) : rcB L g = false := by
  rw [← rcB_of h]
  cases hc : zs.contains g.id with
  | false => rfl
  | true =>
    obtain ⟨i, hi, e⟩ := List.getElem_of_mem (List.contains_iff_mem.1 hc)
    exact absurd e (hn i hi)
theorem pre_next {zs ts : List Int} {x : Int} {q : Nat} (hp : ∃ t, ts = zs ++ t) (hq : q < zs.length) (h : ∀ i (hi : i < zs.length), i < q → zs[i] ≠ x) (hx : zs[q] ≠ x) : ∀ i (hi : i < ts.length), i < q + 1 → ts[i] ≠ x := by
  obtain ⟨t, rfl⟩ := hp
  intro i hi hlt
  rw [List.getElem_append_left (by omega)]
  by_cases e : i = q
  · subst e; exact hx
  · exact h i (by omega) (by omega)
end Go.Proofs.YteodlkgbakkjmaaDoor

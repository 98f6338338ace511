/-
  join: what is laid, part by part.
-/
import Derived.Test.YtmobmpghpdaddaaIsP
namespace Go.Proofs.Ytmobmpghpdaddaa
open Go.ChangeShapes Go.WideShapes Go.ChangeAt Go.RowKit
set_option linter.unusedVariables false
set_option linter.unusedSimpArgs false

/-- Predicates in a slice. -/
def Ps (w : World) (a : Option Addr) (ls : List (List Nd)) : Prop :=
  ls = [] ∨ ∃ g o, a = some ⟨g, o, none⟩ ∧ g < w.heap.size ∧ ∀ i (h : i < ls.length), ∃ b c, w.cell? ⟨g, o + i, none⟩ = some (.slice b ls[i].length c) ∧ ls[i].length ≤ c ∧ Ns w b ls[i]
theorem Ps.below {w w' : World} {a : Option Addr} {l : List (List Nd)} (h : Ps w a l) (g : Below w.heap.size w w') : Ps w' a l := by
  rcases h with h | ⟨b, o, ha, hb, hc⟩
  · exact .inl h
  · refine .inr ⟨b, o, ha, Nat.lt_of_lt_of_le hb g.size, fun i hi => ?_⟩
    obtain ⟨x, c, h1, h2, h3⟩ := hc i hi
    exact ⟨x, c, (g.cell (p := ⟨b, o + i, none⟩) hb).trans h1, h2, h3.below g⟩
theorem Ps.at {w : World} {a : Option Addr} {l : List (List Nd)} (h : Ps w a l) {j : Nat} (hj : j < l.length) : ∃ g o, a = some ⟨g, o, none⟩ ∧ g < w.heap.size ∧ ∃ b c, w.cell? ⟨g, o + j, none⟩ = some (.slice b l[j].length c) ∧ l[j].length ≤ c ∧ Ns w b l[j] := by
  rcases h with rfl | ⟨g, o, ha, hg, hc⟩
  · cases hj
  · exact ⟨g, o, ha, hg, hc j hj⟩
def zT : Tst := ⟨0, 0#64, 0#64⟩
def joinL : List Nd → List Int → List (List Nd) → Option (List Nd × List Int)
  | acc, tops, [] => some (acc, tops)
  | acc, tops, l :: ls => if rightB l then joinL (acc ++ l.map (mvN acc.length)) (tops ++ [((acc.length + l.length : Nat) : Int) - 1]) ls else none
def endL (k : Int) (r : Option (List Nd × List Int)) : List Nd := match r with | none => [] | some (acc, tops) => if rightB (acc ++ [⟨k, zT, tops⟩]) then acc ++ [⟨k, zT, tops⟩] else []
def madeL (k : Int) (ps : List (List Nd)) : List Nd := if 12 < ps.length then [] else endL k (joinL [] [] ps)
/-- Between two parts. -/
structure JnI (w : World) (B rb wb : Nat) (k : Int) (v5 : Value) (hs : List Nh) (tops : List Int) (wr : World) : Prop where
  nr : NR B wr v5 hs
  top : ∃ ta ct, wr.cell? ⟨wb, 4, none⟩ = some (.slice ta tops.length ct) ∧ Own 3 intL 1 B wr (.slice ta tops.length ct) tops ∧ ∀ q, (Value.slice ta tops.length ct).ownBlock = some q → v5.ownBlock ≠ some q ∧ ∀ h ∈ hs, h.x.s ≠ [] → h.b ≠ some ⟨q, 0, none⟩
  c0 : wr.cell? ⟨wb, 0, none⟩ = some (.int .i64 k)
  c1 : wr.cell? ⟨wb, 1, none⟩ = some (.int .i64 0)
  c2 : wr.cell? ⟨wb, 2, none⟩ = some (.int .u64 0)
  c3 : wr.cell? ⟨wb, 3, none⟩ = some (.int .u64 0)
  fz : wr.frozen? ⟨wb, 4, none⟩ = false
  res : wr.there rb 0 1
  lo : w.heap.size ≤ rb ∧ w.heap.size ≤ wb ∧ rb < B ∧ wb < B ∧ B ≤ wr.heap.size ∧ rb ≠ wb
  bel : Below w.heap.size w wr
section
variable {w wr : World} {B rb wb : Nat} {k : Int} {v5 : Value} {hs : List Nh} {tops : List Int}
theorem JnI.grow {V : World} (h : JnI w B rb wb k v5 hs tops wr) (g : Below wr.heap.size wr V) : JnI w B rb wb k v5 hs tops V := by
  obtain ⟨ta, ct, h1, h2, h3⟩ := h.top
  obtain ⟨l1, l2, l3, l4, l5, l6⟩ := h.lo
  obtain ⟨e1, e2⟩ := bcell g
  have hz := g.size
  exact ⟨h.nr.below g, ⟨ta, ct, (e1 _ _ (by omega)).trans h1, own_below h2 g, h3⟩, (e1 _ _ (by omega)).trans h.c0, (e1 _ _ (by omega)).trans h.c1, (e1 _ _ (by omega)).trans h.c2, (e1 _ _ (by omega)).trans h.c3, (e2 _ _ (by omega)).trans h.fz, there_block h.res (g.block _ (by omega)), ⟨l1, l2, l3, l4, by omega, l6⟩, btr h.bel g (by omega)⟩
/-- The row of nodes has grown. -/
theorem JnI.nodes {V w2 : World} {v' : Value} {ys : List Nh} (h : JnI w B rb wb k v5 hs tops wr) (gV : Below wr.heap.size wr V) (hy : ∀ y ∈ ys, FrI wr.heap.size V y.b y.c y.x.s) (o : Own 39 nhL 5 B w2 v' (hs ++ ys)) (g : V.grownBy w2 v5.ownBlock) (hat : v'.ownBlock = v5.ownBlock ∨ v'.ownBlock = some V.heap.size) : JnI w B rb wb k v' (hs ++ ys) tops w2 := by
  have hV := h.grow gV
  obtain ⟨ta, ct, h1, h2, h3⟩ := hV.top
  obtain ⟨l1, l2, l3, l4, l5, l6⟩ := h.lo
  have hz := gV.size
  have hz2 := g.size
  have ow : ∀ j, v5.ownBlock = some j → B ≤ j ∧ j < wr.heap.size := fun j hj => own_lt h.nr.own hj
  have blk : ∀ q, q < V.heap.size → v5.ownBlock ≠ some q → w2.heap[q]? = V.heap[q]? := fun q hq hn => g.block q hq (fun e => hn e.symm)
  have low : ∀ q, q < B → w2.heap[q]? = V.heap[q]? := fun q hq => blk q (by omega) (fun e => by have := (ow q e).1; omega)
  have nv : ∀ q, q < V.heap.size → v5.ownBlock ≠ some q → v'.ownBlock ≠ some q := fun q hq hn => by
    rcases hat with e | e
    · rw [e]; exact hn
    · rw [e]; intro e2; have := Option.some.inj e2; omega
  have cl : ∀ o, w2.cell? ⟨wb, o, none⟩ = V.cell? ⟨wb, o, none⟩ := fun o => World.cell?_of_block (w := V) (low wb l4)
  refine ⟨⟨o, fun x hx => ?_⟩, ⟨ta, ct, (cl 4).trans h1, own_chg h2 (fun j hj => blk j (own_lt h2 hj).2 (h3 j hj).1), fun q hq => ⟨nv q (own_lt h2 hq).2 (h3 q hq).1, fun x hx => ?_⟩⟩, (cl _).trans hV.c0, (cl _).trans hV.c1, (cl _).trans hV.c2, (cl _).trans hV.c3, (World.frozen?_of_block (w := V) (low wb l4)).trans hV.fz, there_block hV.res (low rb l3), ⟨l1, l2, l3, l4, by omega, l6⟩, (h.bel.trans (gV.mono h.bel.size)).grown g (Nat.le_trans h.bel.size gV.size) (fun j hj => by have := (ow j hj).1; omega)⟩
  · rcases List.mem_append.1 hx with hx | hx
    · have hs := hV.nr.sub x hx
      have hlt : ∀ q, x.b = some ⟨q, 0, none⟩ → x.x.s ≠ [] → q < V.heap.size := fun q hq h0 => by
        rcases hs.1.2 with e | ⟨q', e, _, e3, _⟩
        · exact absurd e h0
        · rw [hq] at e; cases e; exact e3
      exact ⟨hs.1.blk hz2 (fun h0 q hq hq1 _ => blk q hq1 (hs.2 q hq h0)), fun q hq h0 => nv q (hlt q hq h0) (hs.2 q hq h0)⟩
    · have hf := hy x hx
      have hlt : ∀ q, x.b = some ⟨q, 0, none⟩ → x.x.s ≠ [] → q < V.heap.size ∧ v5.ownBlock ≠ some q := fun q hq h0 => by
        rcases hf.2 with e | ⟨q', e, e2, e3, _⟩
        · exact absurd e h0
        · rw [hq] at e; cases e; exact ⟨e3, fun e9 => by have := (ow q e9).2; omega⟩
      exact ⟨(hf.blk hz2 (fun h0 q hq hq1 _ => blk q hq1 (hlt q hq h0).2)).mono (by omega), fun q hq h0 => nv q (hlt q hq h0).1 (hlt q hq h0).2⟩
  · intro h0 e
    rcases List.mem_append.1 hx with hx | hx
    · exact (h3 q hq).2 x hx h0 e
    · rcases (hy x hx).2 with e1 | ⟨q', e1, e2, _⟩
      · exact absurd e1 h0
      · rw [e] at e1
        cases e1
        obtain ⟨ta', ct', k1, k2, k3⟩ := h.top
        have hq2 : (Value.slice ta tops.length ct).ownBlock = some q := hq
        have e5 : V.cell? ⟨wb, 4, none⟩ = some (.slice ta' tops.length ct') := ((bcell gV).1 _ _ (by omega)).trans k1
        rw [h1] at e5
        rw [Option.some.inj e5] at hq2
        have := (own_lt k2 hq2).2
        omega
/-- One top more. -/
theorem JnI.addT {V w2 : World} {ta : Option Addr} {ct : Nat} {v' : Value} {z : Int} (h : JnI w B rb wb k v5 hs tops wr) (hc : wr.cell? ⟨wb, 4, none⟩ = some (.slice ta tops.length ct)) (gV : Below wr.heap.size wr V) (o : Own 3 intL 1 B w2 v' (tops ++ [z])) (g : V.grownBy w2 (Value.slice ta tops.length ct).ownBlock) (hat : v'.ownBlock = (Value.slice ta tops.length ct).ownBlock ∨ v'.ownBlock = some V.heap.size) : w2.cell? ⟨wb, 4, none⟩ = some (.slice ta tops.length ct) ∧ w2.frozen? ⟨wb, 4, none⟩ = false ∧ JnI w B rb wb k v5 hs (tops ++ [z]) (w2.setCell ⟨wb, 4, none⟩ v') := by
  have hV := h.grow gV
  obtain ⟨ta', ct', h1, h2, h3⟩ := h.top
  rw [hc] at h1
  rw [← Option.some.inj h1] at h2 h3
  obtain ⟨l1, l2, l3, l4, l5, l6⟩ := h.lo
  have hz := gV.size
  have hz2 := g.size
  have ow : ∀ j, (Value.slice ta tops.length ct).ownBlock = some j → B ≤ j ∧ j < wr.heap.size := fun j hj => own_lt h2 hj
  have blk : ∀ q, q < V.heap.size → (Value.slice ta tops.length ct).ownBlock ≠ some q → w2.heap[q]? = V.heap[q]? := fun q hq hn => g.block q hq (fun e => hn e.symm)
  have low : ∀ q, q < B → w2.heap[q]? = V.heap[q]? := fun q hq => blk q (by omega) (fun e => by have := (ow q e).1; omega)
  have set : ∀ q, q ≠ wb → (w2.setCell ⟨wb, 4, none⟩ v').heap[q]? = w2.heap[q]? := fun q hq => setCell_block _ _ _ _ hq
  have hzs : (w2.setCell ⟨wb, 4, none⟩ v').heap.size = w2.heap.size := by simp [World.setCell]
  have cw : w2.cell? ⟨wb, 4, none⟩ = some (.slice ta tops.length ct) := (World.cell?_of_block (w := V) (low wb l4)).trans (((bcell gV).1 _ _ (by omega)).trans hc)
  have fw : w2.frozen? ⟨wb, 4, none⟩ = false := (World.frozen?_of_block (w := V) (low wb l4)).trans hV.fz
  have nv : ∀ q, q < V.heap.size → (Value.slice ta tops.length ct).ownBlock ≠ some q → v'.ownBlock ≠ some q := fun q hq hn => by
    rcases hat with e | e
    · rw [e]; exact hn
    · rw [e]; intro e2; have := Option.some.inj e2; omega
  have n5 : ∀ j, v5.ownBlock = some j → (Value.slice ta tops.length ct).ownBlock ≠ some j := fun j hj e => (h3 j e).1 hj
  have cl : ∀ o, o ≠ 4 → (w2.setCell ⟨wb, 4, none⟩ v').cell? ⟨wb, o, none⟩ = V.cell? ⟨wb, o, none⟩ := fun o ho => (World.cell?_setCell_other _ _ _ _ (fun e => ho ((Addr.mk.inj e).2.1).symm)).trans (World.cell?_of_block (w := V) (low wb l4))
  have sb : ∀ x ∈ hs, ∀ q, x.b = some ⟨q, 0, none⟩ → x.x.s ≠ [] → B ≤ q ∧ q < V.heap.size ∧ (Value.slice ta tops.length ct).ownBlock ≠ some q := fun x hx q hq h0 => by
    rcases (hV.nr.sub x hx).1.2 with e | ⟨q', e, e2, e3, _⟩
    · exact absurd e h0
    · rw [hq] at e; cases e; exact ⟨e2, e3, fun e9 => (h3 q e9).2 x hx h0 hq⟩
  refine ⟨cw, fw, ⟨own_chg hV.nr.own (fun j hj => ?_), fun x hx => ⟨(hV.nr.sub x hx).1.blk (by omega) (fun h0 q hq hq1 hB => ?_), (hV.nr.sub x hx).2⟩⟩, ?_, (cl 0 (by decide)).trans hV.c0, (cl 1 (by decide)).trans hV.c1, (cl 2 (by decide)).trans hV.c2, (cl 3 (by decide)).trans hV.c3, by simpa using fw, there_block hV.res ((set rb l6).trans (low rb l3)), ⟨l1, l2, l3, l4, by omega, l6⟩, ((h.bel.trans (gV.mono h.bel.size)).grown g (Nat.le_trans h.bel.size gV.size) (fun j hj => by have := (ow j hj).1; omega)).setCell (by simpa using l2) _⟩
  · have := own_lt hV.nr.own hj
    exact (set j (by omega)).trans (blk j this.2 (n5 j hj))
  · have := sb x hx q hq h0
    exact (set q (by omega)).trans (blk q this.2.1 this.2.2)
  · obtain ⟨at', cap', rfl⟩ := own_form o
    refine ⟨at', cap', World.cell?_setCell_same _ _ _ cw, own_chg o (fun j hj => set j (by have := (own_lt o hj).1; omega)), fun q hq => ⟨fun e => ?_, fun x hx h0 e => ?_⟩⟩
    · have := own_lt hV.nr.own e
      exact nv q this.2 (n5 q e) hq
    · have := sb x hx q e h0
      exact nv q this.2.1 this.2.2 hq
/-- The last node is laid. -/
theorem JnI.fin {V w2 : World} {ta : Option Addr} {ct : Nat} {v' : Value} (h : JnI w B rb wb k v5 hs tops wr) (hc : wr.cell? ⟨wb, 4, none⟩ = some (.slice ta tops.length ct)) (gV : Below wr.heap.size wr V) (o : Own 39 nhL 5 B w2 v' (hs ++ [⟨⟨k, zT, tops⟩, ta, ct⟩])) (g : V.grownBy w2 v5.ownBlock) (hat : v'.ownBlock = v5.ownBlock ∨ v'.ownBlock = some V.heap.size) : NR B w2 v' (hs ++ [⟨⟨k, zT, tops⟩, ta, ct⟩]) ∧ w2.there rb 0 1 ∧ Below w.heap.size w w2 ∧ w.heap.size ≤ B ∧ rb < w2.heap.size := by
  have hV := h.grow gV
  obtain ⟨ta', ct', h1, h2, h3⟩ := h.top
  rw [hc] at h1
  rw [← Option.some.inj h1] at h2 h3
  obtain ⟨l1, l2, l3, l4, l5, l6⟩ := h.lo
  have hz := gV.size
  have hz2 := g.size
  have ow : ∀ j, v5.ownBlock = some j → B ≤ j ∧ j < wr.heap.size := fun j hj => own_lt h.nr.own hj
  have blk : ∀ q, q < V.heap.size → v5.ownBlock ≠ some q → w2.heap[q]? = V.heap[q]? := fun q hq hn => g.block q hq (fun e => hn e.symm)
  have low : ∀ q, q < B → w2.heap[q]? = V.heap[q]? := fun q hq => blk q (by omega) (fun e => by have := (ow q e).1; omega)
  have nv : ∀ q, q < V.heap.size → v5.ownBlock ≠ some q → v'.ownBlock ≠ some q := fun q hq hn => by
    rcases hat with e | e
    · rw [e]; exact hn
    · rw [e]; intro e2; have := Option.some.inj e2; omega
  obtain ⟨b9, c9, e9, hfr⟩ := own_fri h2
  cases e9
  have all : ∀ x : Nh, FrI B V x.b x.c x.x.s → (∀ q, x.b = some ⟨q, 0, none⟩ → x.x.s ≠ [] → v5.ownBlock ≠ some q) → FrI B w2 x.b x.c x.x.s ∧ ∀ q, x.b = some ⟨q, 0, none⟩ → x.x.s ≠ [] → v'.ownBlock ≠ some q := fun x hf hn => by
    have hlt : ∀ q, x.b = some ⟨q, 0, none⟩ → x.x.s ≠ [] → q < V.heap.size := fun q hq h0 => by
      rcases hf.2 with e | ⟨q', e, _, e3, _⟩
      · exact absurd e h0
      · rw [hq] at e; cases e; exact e3
    exact ⟨hf.blk hz2 (fun h0 q hq hq1 _ => blk q hq1 (hn q hq h0)), fun q hq h0 => nv q (hlt q hq h0) (hn q hq h0)⟩
  refine ⟨⟨o, fun x hx => ?_⟩, there_block hV.res (low rb l3), (h.bel.trans (gV.mono h.bel.size)).grown g (Nat.le_trans h.bel.size gV.size) (fun j hj => by have := (ow j hj).1; omega), by omega, by omega⟩
  rcases List.mem_append.1 hx with hx | hx
  · exact all x (hV.nr.sub x hx).1 (hV.nr.sub x hx).2
  · rw [List.mem_singleton] at hx
    subst hx
    exact all _ (hfr.below gV) (fun q hq _ => (h3 q (by simp only at hq; rw [hq]; rfl)).1)
end
end Go.Proofs.Ytmobmpghpdaddaa

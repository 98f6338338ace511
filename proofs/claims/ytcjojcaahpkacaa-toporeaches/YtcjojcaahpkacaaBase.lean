/-
  A topology as the program has it: its cells; a link as a value.
-/
import Derived.Test.YtcjojcaahpkacaaRows
import Derived.Test.YtcjojcaahpkacaaPure
import Derived.WalkKit
import Derived.WalkLawsBesides
import Derived.ProofKit
import Derived.OpenShut
import Derived.Handy
import Derived.Below
import Derived.Deep.QuietTactic
import Derived.BigQuiet
import Derived.Deep.RegionWith
import Derived.Deep.MidRow
import Derived.Laws.AppendOwn
import Derived.Laws.OwnMore
import Derived.Laws.MakeOwn
namespace Go.Proofs.Ytcjojcaahpkacaa
open Go.ChangeShapes Go.WideShapes Go.ChangeAt Go.RowKit

theorem btr {a b c : World} {k : Nat} (h : Below k a b) (g : Below b.heap.size b c) (hk : k ≤ a.heap.size) : Below k a c := h.trans (g.mono (Nat.le_trans hk h.size))
theorem bdr {B : Nat} {a w : World} (h : Below B a w) (k : Nat) : Below B a (w.drewN k) := ⟨h.os, h.tape, h.output, h.size, h.block⟩
theorem bcell {B : Nat} {W w1 : World} (hb : Below B W w1) : (∀ b o, b < B → w1.cell? ⟨b, o, none⟩ = W.cell? ⟨b, o, none⟩) ∧ (∀ b o, b < B → w1.frozen? ⟨b, o, none⟩ = W.frozen? ⟨b, o, none⟩) :=
  ⟨fun b o h => hb.cell (p := ⟨b, o, none⟩) h, fun b o h => hb.frozen (p := ⟨b, o, none⟩) h⟩
theorem addP (g o j : Nat) : (⟨g, o, none⟩ : Addr).add j = ⟨g, o + j, none⟩ := by unfold Addr.add; split <;> simp_all

/-- Three numbers lie one behind the other. -/
abbrev E3 (w : World) (b o : Nat) (x : Int × Int × Int) : Prop :=
  w.cell? ⟨b, o, none⟩ = some (.int .i64 x.1) ∧ w.cell? ⟨b, o + 1, none⟩ = some (.int .i64 x.2.1) ∧ w.cell? ⟨b, o + 2, none⟩ = some (.int .i64 x.2.2)
theorem E3.block {w w' : World} {b o : Nat} {x : Int × Int × Int} (h : E3 w b o x) (g : w'.heap[b]? = w.heap[b]?) : E3 w' b o x := by
  obtain ⟨h0, h1, h2⟩ := h
  have e : ∀ o, w'.cell? ⟨b, o, none⟩ = w.cell? ⟨b, o, none⟩ := fun o => World.cell?_of_block (w := w) g
  exact ⟨(e _).trans h0, (e _).trans h1, (e _).trans h2⟩
abbrev e3V (x : Int × Int × Int) : Value := .agg #[.int .i64 x.1, .int .i64 x.2.1, .int .i64 x.2.2]
abbrev e3C (x : Int × Int × Int) : List Value := [.int .i64 x.1, .int .i64 x.2.1, .int .i64 x.2.2]

/-- A link's value, its box, and that it lies at a place. -/
abbrev lkV (x : Lk) : Value := .agg #[.int .i64 x.a, .int .i64 x.p, .int .i64 x.b, .int .i64 x.q, .float .f64 x.c]
abbrev lkC (x : Lk) : Array Value := #[.int .i64 x.a, .int .i64 x.p, .int .i64 x.b, .int .i64 x.q, .float .f64 x.c]
abbrev lx (w : World) (x : Lk) : World := w.alloc (.cells (lkC x) 52)
abbrev C5 (w : World) (b o : Nat) (x : Lk) : Prop :=
  w.cell? ⟨b, o, none⟩ = some (.int .i64 x.a) ∧ w.cell? ⟨b, o + 1, none⟩ = some (.int .i64 x.p) ∧ w.cell? ⟨b, o + 2, none⟩ = some (.int .i64 x.b) ∧ w.cell? ⟨b, o + 3, none⟩ = some (.int .i64 x.q) ∧ w.cell? ⟨b, o + 4, none⟩ = some (.float .f64 x.c)
theorem C5.new (w : World) (x : Lk) : C5 (lx w x) w.heap.size 0 x := by unfold C5 lx; simp
theorem C5.block {w w' : World} {b o : Nat} {x : Lk} (h : C5 w b o x) (g : w'.heap[b]? = w.heap[b]?) : C5 w' b o x := by
  obtain ⟨h0, h1, h2, h3, h4⟩ := h
  have e : ∀ o, w'.cell? ⟨b, o, none⟩ = w.cell? ⟨b, o, none⟩ := fun o => World.cell?_of_block (w := w) g
  exact ⟨(e _).trans h0, (e _).trans h1, (e _).trans h2, (e _).trans h3, (e _).trans h4⟩
theorem C5.below {w w' : World} {b o B : Nat} {x : Lk} (h : C5 w b o x) (hb : b < B) (g : Below B w w') : C5 w' b o x := h.block (g.block b hb)
/-- The numbers of a link are ints. -/
structure Lw (x : Lk) : Prop where
  a : -9223372036854775808 ≤ x.a ∧ x.a < 9223372036854775808
  p : -9223372036854775808 ≤ x.p ∧ x.p < 9223372036854775808
  b : -9223372036854775808 ≤ x.b ∧ x.b < 9223372036854775808
  q : -9223372036854775808 ≤ x.q ∧ x.q < 9223372036854775808
  c : x.c < 18446744073709551616
/-- A slice's address, and the links that lie there. -/
def Ls (w : World) (a : Option Addr) (l : List Lk) : Prop :=
  l = [] ∨ ∃ g o, a = some ⟨g, o, none⟩ ∧ g < w.heap.size ∧ ∀ i (h : i < l.length), C5 w g (o + i * 5) l[i]
theorem Ls.below {w w' : World} {a : Option Addr} {l : List Lk} (h : Ls w a l) (g : Below w.heap.size w w') : Ls w' a l := by
  rcases h with h | ⟨b, o, ha, hb, hc⟩
  · exact .inl h
  · exact .inr ⟨b, o, ha, Nat.lt_of_lt_of_le hb g.size, fun i hi => (hc i hi).below hb g⟩
theorem Ls.at {w : World} {a : Option Addr} {l : List Lk} (h : Ls w a l) {k : Nat} (hk : k < l.length) : ∃ g o, a = some ⟨g, o, none⟩ ∧ g < w.heap.size ∧ ∀ i (h : i < l.length), C5 w g (o + i * 5) l[i] := by
  rcases h with rfl | h
  · cases hk
  · exact h

/-- The cells of a topology: n switches at block t, their ports at block e, the costs in a row of its own; nothing of it lies below B. -/
structure Tq (B : Nat) (w : World) (t e : Nat) (cv : Value) (n : Nat) (H : Nat → Int × Int × Int) (P : Nat → Nat → Int × Int × Int) (C : List Nat) : Prop where
  c0 : w.cell? ⟨t, 0, none⟩ = some (.slice (some ⟨e, 0, none⟩) n n)
  cc : w.cell? ⟨t, 193, none⟩ = some cv
  ch : ∀ h : Nat, h < 64 → E3 w t (1 + h * 3) (H h)
  ce : ∀ s p : Nat, s < n → p < 16 → E3 w e (s * 48 + p * 3) (P s p)
  own : w.ownsRow B 43 1 cv C.length (C.map (Value.float .f64))
  tB : B ≤ t
  eB : B ≤ e
  tl : t < w.heap.size
  el : e < w.heap.size
  te : t ≠ e
  ct : cv.ownBlock ≠ some t
  ce' : cv.ownBlock ≠ some e
  tf : ∀ o, w.frozen? ⟨t, o, none⟩ = false
  ef : ∀ o, w.frozen? ⟨e, o, none⟩ = false
  n0 : 1 ≤ n
  n1 : n ≤ 32
theorem Tq.kept {B t e n : Nat} {w w' : World} {cv : Value} {H : Nat → Int × Int × Int} {P : Nat → Nat → Int × Int × Int} {C : List Nat} (h : Tq B w t e cv n H P C) (g : w.grownBy w' none) : Tq B w' t e cv n H P C := by
  have ht := g.block t h.tl (by simp)
  have he := g.block e h.el (by simp)
  exact ⟨(World.cell?_of_block (w := w) ht).trans h.c0, (World.cell?_of_block (w := w) ht).trans h.cc, fun i hi => (h.ch i hi).block ht, fun s p hs hp => (h.ce s p hs hp).block he,
    h.own.kept g (by cases hv : cv.ownBlock <;> simp), h.tB, h.eB, Nat.lt_of_lt_of_le h.tl g.size, Nat.lt_of_lt_of_le h.el g.size, h.te, h.ct, h.ce',
    fun o => (World.frozen?_of_block (w := w) ht).trans (h.tf o), fun o => (World.frozen?_of_block (w := w) he).trans (h.ef o), h.n0, h.n1⟩
theorem gby {w w' : World} (g : Below w.heap.size w w') : w.grownBy w' none := ⟨g.os, g.tape, g.output, g.size, fun k hk _ => g.block k hk⟩
theorem Tq.below {B t e n : Nat} {w w' : World} {cv : Value} {H : Nat → Int × Int × Int} {P : Nat → Nat → Int × Int × Int} {C : List Nat} (h : Tq B w t e cv n H P C) (g : Below w.heap.size w w') : Tq B w' t e cv n H P C := h.kept (gby g)
theorem Tq.like {B t e n : Nat} {w : World} {cv : Value} {H H' : Nat → Int × Int × Int} {P P' : Nat → Nat → Int × Int × Int} {C : List Nat} (h : Tq B w t e cv n H P C) (hH : ∀ i, i < 64 → H' i = H i) (hP : ∀ s p, s < n → p < 16 → P' s p = P s p) : Tq B w t e cv n H' P' C :=
  ⟨h.c0, h.cc, fun i hi => by rw [hH i hi]; exact h.ch i hi, fun s p hs hp => by rw [hP s p hs hp]; exact h.ce s p hs hp, h.own, h.tB, h.eB, h.tl, h.el, h.te, h.ct, h.ce', h.tf, h.ef, h.n0, h.n1⟩
/-- A topology of n switches and of links. -/
abbrev Tm (B : Nat) (w : World) (t e : Nat) (cv : Value) (n : Nat) (L : List Lk) : Prop := Tq B w t e cv n (fun h => homeF 0 L ((h : Int) + 1)) (fun s p => peerF 0 L ((s : Int) + 1) ((p : Int) + 1)) (L.map Lk.c)
theorem Tm.ch {B t e n : Nat} {w : World} {cv : Value} {L : List Lk} (h : Tm B w t e cv n L) : ∀ h : Nat, h < 64 → E3 w t (1 + h * 3) (homeF 0 L ((h : Int) + 1)) := Tq.ch h
theorem Tm.ce {B t e n : Nat} {w : World} {cv : Value} {L : List Lk} (h : Tm B w t e cv n L) : ∀ s p : Nat, s < n → p < 16 → E3 w e (s * 48 + p * 3) (peerF 0 L ((s : Int) + 1) ((p : Int) + 1)) := Tq.ce h
theorem Tm.below {B t e n : Nat} {w w' : World} {cv : Value} {L : List Lk} (h : Tm B w t e cv n L) (g : Below w.heap.size w w') : Tm B w' t e cv n L := h.kept (gby g)
theorem Tm.alloc {B t e n : Nat} {w : World} {cv : Value} {L : List Lk} (h : Tm B w t e cv n L) (o : Obj) : Tm B (w.alloc o) t e cv n L := h.below (by go_grown)
theorem Tm.drewN {B t e n : Nat} {w : World} {cv : Value} {L : List Lk} (h : Tm B w t e cv n L) (k : Nat) : Tm B (w.drewN k) t e cv n L := h.below ⟨rfl, rfl, rfl, Nat.le_refl _, fun _ _ => rfl⟩
/-- What a port leads to, of any numbers. -/
def peerX (n : Nat) (L : List Lk) (s p : Int) : Int × Int × Int := if inB s 1 n && inB p 1 16 then peerF 0 L s p else (0, 0, 0)
def homeX (L : List Lk) (h : Int) : Int × Int × Int := if inB h 1 64 then homeF 0 L h else (0, 0, 0)
/-- The costs lie where their slice says. -/
theorem Tm.cost {B t e n : Nat} {w : World} {cv : Value} {L : List Lk} (h : Tm B w t e cv n L) : ∃ a k, cv = .slice a L.length k ∧ ∀ i (hi : i < L.length), ∃ g, a = some ⟨g, 0, none⟩ ∧ w.cell? ⟨g, i, none⟩ = some (.float .f64 L[i].c) := by
  have hown := h.own
  rcases hown.2 with ⟨rfl, h0⟩ | ⟨g, cap, cur, rfl, _, _, _⟩
  · rw [List.length_map] at h0
    exact ⟨none, 0, by rw [h0], fun i hi => by omega⟩
  · refine ⟨some ⟨g, 0, none⟩, cap, by rw [List.length_map], fun i hi => ⟨g, rfl, ?_⟩⟩
    have := hown.cells (g := g) rfl i (.float .f64 L[i].c) (by simp [hi])
    rw [addP, Nat.zero_add] at this
    exact this
end Go.Proofs.Ytcjojcaahpkacaa

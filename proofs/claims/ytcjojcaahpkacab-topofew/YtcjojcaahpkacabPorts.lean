/-
  A switch's ports, and all hosts.
-/
import Derived.Test.YtcjojcaahpkacabRow
namespace Go.Proofs.Ytcjojcaahpkacab
open Go.ChangeShapes Go.WideShapes Go.ChangeAt Go.RowKit
set_option linter.unusedVariables false

/-- The places from 0 to m that have a link, from 1 on. -/
def linked (f : Nat → Int × Int × Int) (m : Nat) : List Int := ((List.range m).filter fun p => decide (0 < (f p).2.2)).map fun p : Nat => (p : Int) + 1
theorem linked_succ (f : Nat → Int × Int × Int) (m : Nat) : linked f (m + 1) = linked f m ++ if 0 < (f m).2.2 then [(m : Int) + 1] else [] := by
  unfold linked
  rw [List.range_succ, List.filter_append, List.map_append]
  congr 1
  by_cases h : 0 < (f m).2.2 <;> simp [h]
theorem linked_le (f : Nat → Int × Int × Int) (m : Nat) : (linked f m).length ≤ m := by
  unfold linked
  rw [List.length_map]
  have := List.length_filter_le (fun p => decide (0 < (f p).2.2)) (List.range m)
  rwa [List.length_range] at this
theorem linked_mem (f : Nat → Int × Int × Int) (m : Nat) (x : Int) : x ∈ linked f m ↔ ∃ p : Nat, p < m ∧ 0 < (f p).2.2 ∧ x = (p : Int) + 1 := by
  unfold linked
  rw [List.mem_map]
  constructor
  · rintro ⟨p, hp, rfl⟩
    rw [List.mem_filter, List.mem_range] at hp
    exact ⟨p, hp.1, by simpa using hp.2, rfl⟩
  · rintro ⟨p, h1, h2, rfl⟩
    exact ⟨p, by rw [List.mem_filter, List.mem_range]; exact ⟨h1, by simpa using h2⟩, rfl⟩
theorem linked_rise (f : Nat → Int × Int × Int) : ∀ m, (linked f m).Pairwise (· < ·)
  | 0 => by simp [linked]
  | m + 1 => by
    rw [linked_succ, List.pairwise_append]
    refine ⟨linked_rise f m, by split <;> simp, fun a ha b hb => ?_⟩
    obtain ⟨p, hp, _, rfl⟩ := (linked_mem f m a).1 ha
    split at hb
    · simp at hb; omega
    · simp at hb
def portsL (n : Nat) (L : List Lk) (s : Int) : List Int := if inB s 1 n then linked (fun p : Nat => peerF 0 L s ((p : Int) + 1)) 16 else []
def hostsL (L : List Lk) : List Int := linked (fun h : Nat => homeF 0 L ((h : Int) + 1)) 64
/-- Between two rounds. -/
structure PtI (w : World) (v : Value) (zs : List Int) (wr : World) : Prop where
  own : OwnI w.heap.size wr v zs
  bel : Below w.heap.size w wr
theorem PtI.app {w wr V w2 : World} {v v' : Value} {zs ts : List Int} (h : PtI w v zs wr) (gV : Below wr.heap.size wr V) (o : OwnI w.heap.size w2 v' ts) (k : V.grownBy w2 v.ownBlock) : PtI w v' ts w2 :=
  ⟨o, (h.bel.trans (gV.mono h.bel.size)).grown k (Nat.le_trans h.bel.size gV.size) (fun j hj => (h.own.lt j hj).1)⟩
theorem PtI.grow {w wr V : World} {v : Value} {zs : List Int} (h : PtI w v zs wr) (gV : Below wr.heap.size wr V) : PtI w v zs V := ⟨own_below h.own gV, h.bel.trans (gV.mono h.bel.size)⟩
end Go.Proofs.Ytcjojcaahpkacab

/-
  A switch's ports, and all hosts.
-/
import Derived.Test.YtcjojcaahpkacaaRow
namespace Go.Proofs.Ytcjojcaahpkacaa
open Go.ChangeShapes Go.WideShapes Go.ChangeAt Go.RowKit
set_option linter.unusedVariables false

/-- The places from 0 to m that have a link, from 1 on. -/
def linked (f : Nat → Int × Int × Int) (m : Nat) : List Int := ((List.range m).filter fun p => decide (0 < (f p).2.2)).map fun p : Nat => (p : Int) + 1
theorem linked_succ (f : Nat → Int × Int × Int) (m : Nat) : linked f (m + 1) = linked f m ++ if 0 < (f m).2.2 then [(m : Int) + 1] else [] := by
  unfold linked
  rw [List.range_succ, List.filter_append, List.map_append]
  congr 1
  by_cases h : 0 < (f m).2.2 <;> simp [h]
theorem linked_le (f : Nat → Int × Int × Int) (m : Nat) : (linked f m).length ≤ m := by
  unfold linked
  rw [List.length_map]
  have := List.length_filter_le (fun p => decide (0 < (f p).2.2)) (List.range m)
  rwa [List.length_range] at this
theorem linked_mem (f : Nat → Int × Int × Int) (m : Nat) (x : Int) : x ∈ linked f m ↔ ∃ p : Nat, p < m ∧ 0 < (f p).2.2 ∧ x = (p : Int) + 1 := by
  unfold linked
  rw [List.mem_map]
  constructor
  · rintro ⟨p, hp, rfl⟩
    rw [List.mem_filter, List.mem_range] at hp
    exact ⟨p, hp.1, by simpa using hp.2, rfl⟩
  · rintro ⟨p, h1, h2, rfl⟩
    exact ⟨p, by rw [List.mem_filter, List.mem_range]; exact ⟨h1, by simpa using h2⟩, rfl⟩
theorem linked_rise (f : Nat → Int × Int × Int) : ∀ m, (linked f m).Pairwise (· < ·)
  | 0 => by simp [linked]
  | m + 1 => by
    rw [linked_succ, List.pairwise_append]
    refine ⟨linked_rise f m, by split <;> simp, fun a ha b hb => ?_⟩
    obtain ⟨p, hp, _, rfl⟩ := (linked_mem f m a).1 ha
    split at hb
    · simp at hb; omega
    · simp at hb
def portsL (n : Nat) (L : List Lk) (s : Int) : List Int := if inB s 1 n then linked (fun p : Nat => peerF 0 L s ((p : Int) + 1)) 16 else []
def hostsL (L : List Lk) : List Int := linked (fun h : Nat => homeF 0 L ((h : Int) + 1)) 64
/-- Between two rounds. -/
structure PtI (w : World) (v : Value) (zs : List Int) (wr : World) : Prop where
  own : OwnI w.heap.size wr v zs
  bel : Below w.heap.size w wr
theorem PtI.app {w wr V w2 : World} {v v' : Value} {zs ts : List Int} (h : PtI w v zs wr) (gV : Below wr.heap.size wr V) (o : OwnI w.heap.size w2 v' ts) (k : V.grownBy w2 v.ownBlock) : PtI w v' ts w2 :=
  ⟨o, (h.bel.trans (gV.mono h.bel.size)).grown k (Nat.le_trans h.bel.size gV.size) (fun j hj => (h.own.lt j hj).1)⟩
theorem PtI.grow {w wr V : World} {v : Value} {zs : List Int} (h : PtI w v zs wr) (gV : Below wr.heap.size wr V) : PtI w v zs V := ⟨own_below h.own gV, h.bel.trans (gV.mono h.bel.size)⟩
set_option maxRecDepth 20000 in
set_option maxHeartbeats 4000000 in
theorem ports_any {B t e n : Nat} {w : World} {cv : Value} {L : List Lk} (h : Tm B w t e cv n L) (s : Int) :
    Calls Try.prog 15 #[.pointer (some ⟨t, 0, none⟩), .int .i64 s] w fun r w' => ∃ v, r = .returned v ∧ OwnI w.heap.size w' v (portsL n L s) ∧ Below w.heap.size w w' := by
  have HH : Hid (∀ s, Calls Try.prog 33 #[.pointer (some ⟨t, 0, none⟩), .int .i64 s] w fun e w' => e = .returned (.bool (inB s 1 n)) ∧ w' = w) := (show ∀ s, _ from fun s => has_any h s)
  unfold portsL
  cases h1 : inB s 1 n
  · simp only [Bool.false_eq_true, if_false]
    have H1 : Hid (inB s 1 n = false) := h1
    clear h1 h
    go_enter Try.func15, Try.ntmps15
    go_wp2_with (go_at_call 33; refine (HH.out _).mono ?_; rw [H1.out]; rintro r u ⟨rfl, z⟩; obtain rfl : w = u := z.symm; clear z)
    go_ret
    exact ⟨_, rfl, World.ownsRow_nil _ _ _ _, Below.refl _ _⟩
  · simp only [if_true]
    obtain ⟨a1, a2⟩ := inB_true.1 h1
    obtain ⟨i, rfl⟩ : ∃ i : Nat, s = (i : Int) + 1 := ⟨(s - 1).toNat, by omega⟩
    have hi : i < n := by omega
    have c0 := h.c0
    obtain ⟨f, hf⟩ : ∃ f : Nat → Int × Int × Int, (fun p : Nat => peerF 0 L ((i : Int) + 1) ((p : Int) + 1)) = f := ⟨_, rfl⟩
    have hrow : ∀ p, p < 16 → E3 w e (i * 48 + p * 3) (f p) := by rw [← hf]; exact fun p hp => h.ce i p hi hp
    have HI : Hid (∀ p, p < 16 → ∀ w, (Instr.index 65 (.agg (rowC f 16).toArray) (.int .i64 ((p : Nat) : Int))).run Try.prog w = .ok (e3V (f p)) w) := (show ∀ p, p < 16 → ∀ w, _ from fun p hp w => idx_ends f p hp w)
    rw [hf]
    have HR : Hid (∀ p, p < 16 → E3 w e (i * 48 + p * 3) (f p)) := hrow
    have hn := h.n1
    have H1 : Hid (inB ((i : Int) + 1) 1 n = true) := h1
    clear h1 h hrow a1 a2 hf
    go_enter Try.func15, Try.ntmps15
    go_wp2_with (first | (refine load_row rfl (.tmp 18) rfl e (i * 48) rfl f HR.out ?_) | (go_at_call 33; refine (HH.out _).mono ?_; rw [H1.out]; rintro r u ⟨rfl, z⟩; obtain rfl : w = u := z.symm; clear z))
    generalize (rowC f 16).toArray = R at HI ⊢
    clear c0
    go_loopw [5, 20] (fun v5 v20 wr => ∃ k : Nat, k ≤ 16 ∧ v20 = .int .i64 k ∧ Hid (PtI w v5 (linked f k) wr)) (fun _ v20 _ => 16 - (intOf v20).toNat)
    case atStart => exact ⟨0, Nat.zero_le _, rfl, (show PtI _ _ _ _ from ⟨World.ownsRow_nil _ _ _ _, Below.refl _ _⟩)⟩
    case round =>
      obtain ⟨k, hk, rfl, HJ⟩ := hrel
      by_cases hlt : k < 16
      · have hx := HI.out k hlt
        have HS : Hid (linked f (k + 1) = linked f k ++ if 0 < (f k).2.2 then [(k : Int) + 1] else []) := linked_succ f k
        have HLe : Hid ((linked f k).length ≤ k) := linked_le f k
        generalize f k = x at hx HS
        by_cases h0 : 0 < x.2.2
        · have HS2 : Hid (linked f (k + 1) = linked f k ++ [(k : Int) + 1]) := (show _ = _ by rw [HS.out, if_pos h0])
          clear HS
          go_wp2_with (at_builtin; refine wpList_app1 rfl _ _ rfl w.heap.size u5 (linked f k) rfl (own_below HJ.out.own (by go_grown)) _ ((k : Int) + 1) rfl (by simp) (by have := HLe.out; omega) (by have := HJ.out.bel.size; simp; omega) ?_; intro v' w2 ho2 hg2; have HN : Hid (PtI w v' (linked f (k + 1)) w2) := (show PtI _ _ _ _ by (rw [HS2.out]; exact HJ.out.app (by go_grown) ho2 hg2)); clear ho2 hg2)
          go_roundw
          case rel => exact ⟨k + 1, by omega, by go_num, HN⟩
          case measure => simp [intOf]; omega
        · have HN : Hid (PtI w u5 (linked f (k + 1)) wr) := (show PtI _ _ _ _ by rw [HS.out, if_neg h0, List.append_nil]; exact HJ.out)
          clear HS
          go_wp2
          go_roundw
          case rel => exact ⟨k + 1, by omega, by go_num, HN.out.grow (by go_grown)⟩
          case measure => simp [intOf]; omega
      · have hk16 : k = 16 := by omega
        subst hk16
        go_wp2
        go_ret
        exact ⟨_, rfl, HJ.out.own, HJ.out.bel⟩
set_option maxRecDepth 20000 in
set_option maxHeartbeats 4000000 in
theorem hosts_any {B t e n : Nat} {w : World} {cv : Value} {L : List Lk} (h : Tm B w t e cv n L) :
    Calls Try.prog 18 #[.pointer (some ⟨t, 0, none⟩)] w fun r w' => ∃ v, r = .returned v ∧ OwnI w.heap.size w' v (hostsL L) ∧ Below w.heap.size w w' := by
  unfold hostsL
  obtain ⟨f, hf⟩ : ∃ f : Nat → Int × Int × Int, (fun p : Nat => homeF 0 L ((p : Int) + 1)) = f := ⟨_, rfl⟩
  have hrow : ∀ p, p < 64 → E3 w t (1 + p * 3) (f p) := by rw [← hf]; exact fun p hp => h.ch p hp
  have HI : Hid (∀ p, p < 64 → ∀ w, (Instr.index 57 (.agg (rowC f 64).toArray) (.int .i64 ((p : Nat) : Int))).run Try.prog w = .ok (e3V (f p)) w) := (show ∀ p, p < 64 → ∀ w, _ from fun p hp w => idx_homes f p hp w)
  rw [hf]
  have HR : Hid (∀ p, p < 64 → E3 w t (1 + p * 3) (f p)) := hrow
  clear h hrow hf
  go_enter Try.func18, Try.ntmps18
  go_wp2_with (refine load_hs rfl (.tmp 10) rfl t 1 rfl f HR.out ?_)
  generalize (rowC f 64).toArray = R at HI ⊢
  go_loopw [3, 12] (fun v5 v20 wr => ∃ k : Nat, k ≤ 64 ∧ v20 = .int .i64 k ∧ Hid (PtI w v5 (linked f k) wr)) (fun _ v20 _ => 64 - (intOf v20).toNat)
  case atStart => exact ⟨0, Nat.zero_le _, rfl, (show PtI _ _ _ _ from ⟨World.ownsRow_nil _ _ _ _, Below.refl _ _⟩)⟩
  case round =>
    obtain ⟨k, hk, rfl, HJ⟩ := hrel
    by_cases hlt : k < 64
    · have hx := HI.out k hlt
      have HS : Hid (linked f (k + 1) = linked f k ++ if 0 < (f k).2.2 then [(k : Int) + 1] else []) := linked_succ f k
      have HLe : Hid ((linked f k).length ≤ k) := linked_le f k
      generalize f k = x at hx HS
      by_cases h0 : 0 < x.2.2
      · have HS2 : Hid (linked f (k + 1) = linked f k ++ [(k : Int) + 1]) := (show _ = _ by rw [HS.out, if_pos h0])
        clear HS
        go_wp2_with (at_builtin; refine wpList_app1 rfl _ _ rfl w.heap.size u3 (linked f k) rfl (own_below HJ.out.own (by go_grown)) _ ((k : Int) + 1) rfl (by simp) (by have := HLe.out; omega) (by have := HJ.out.bel.size; simp; omega) ?_; intro v' w2 ho2 hg2; have HN : Hid (PtI w v' (linked f (k + 1)) w2) := (show PtI _ _ _ _ by (rw [HS2.out]; exact HJ.out.app (by go_grown) ho2 hg2)); clear ho2 hg2)
        go_roundw
        case rel => exact ⟨k + 1, by omega, by go_num, HN⟩
        case measure => simp [intOf]; omega
      · have HN : Hid (PtI w u3 (linked f (k + 1)) wr) := (show PtI _ _ _ _ by rw [HS.out, if_neg h0, List.append_nil]; exact HJ.out)
        clear HS
        go_wp2
        go_roundw
        case rel => exact ⟨k + 1, by omega, by go_num, HN.out.grow (by go_grown)⟩
        case measure => simp [intOf]; omega
    · have hk16 : k = 64 := by omega
      subst hk16
      go_wp2
      go_ret
      exact ⟨_, rfl, HJ.out.own, HJ.out.bel⟩
end Go.Proofs.Ytcjojcaahpkacaa

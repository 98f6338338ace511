/-
  A link that may be, and asks for nothing that is taken, is put: then the topology is that of one link more.
-/
import Derived.Test.YtcjojcaahpkacaaSet
namespace Go.Proofs.Ytcjojcaahpkacaa
open Go.ChangeShapes Go.WideShapes Go.ChangeAt Go.RowKit
set_option linter.unusedVariables false

theorem home_pos : ∀ (l : List Lk) (i : Nat) (h : Int), (∀ x ∈ l, 1 ≤ x.a) → (homeF i l h).2.2 ≠ 0 → 1 ≤ (homeF i l h).1
  | [], i, h, _, k => by simp [homeF] at k
  | x :: l, i, h, hl, k => by
    unfold homeF at k ⊢
    split
    · exact hl x (by simp)
    · rename_i hx
      rw [if_neg hx] at k
      exact home_pos l (i + 1) h (fun y hy => hl y (List.mem_cons_of_mem _ hy)) k
theorem home_big : ∀ (l : List Lk) (i : Nat) (h : Int), (∀ x ∈ l, -64 ≤ x.b) → 64 < h → homeF i l h = (0, 0, 0)
  | [], i, h, _, k => by simp [homeF]
  | x :: l, i, h, hl, k => by
    unfold homeF
    have := hl x (by simp)
    rw [if_neg (by omega)]
    exact home_big l (i + 1) h (fun y hy => hl y (List.mem_cons_of_mem _ hy)) k
theorem may_a {n : Int} {x : Lk} (h : mayB n x = true) : 1 ≤ x.a := (mayB_true h).1.1
theorem may_b {n : Int} {x : Lk} (h : mayB n x = true) : -64 ≤ x.b := by
  obtain ⟨_, _, _, h | h⟩ := mayB_true h
  · exact h.1
  · omega
theorem takX_eq {n : Nat} {L : List Lk} {x : Lk} (hL : goodF n [] L = true) (hx : mayB n x = true) : takX n L x = takenB L x := by
  obtain ⟨⟨a1, a2⟩, ⟨p1, p2⟩, _, hb⟩ := mayB_true hx
  have ha := good_may hL
  unfold takX takenB peerX homeX
  rw [inB_true.2 ⟨a1, a2⟩, inB_true.2 ⟨p1, p2⟩]
  simp only [Bool.and_self, if_true]
  rcases hb with ⟨b1, b2, _⟩ | ⟨_, ⟨b1, b2⟩, q1, q2⟩
  · rw [inB_false.2 (.inl (show x.b < 1 by omega)), inB_true.2 (show 1 ≤ -x.b ∧ -x.b ≤ 64 by omega)]
    have e1 : decide (0 < x.b) = false := by simp; omega
    have e2 : decide (x.b < 0) = true := by simp; omega
    rw [e1, e2]
    simp only [Bool.false_and, Bool.false_eq_true, if_false, if_true, Bool.true_and, Int.lt_irrefl, decide_false]
    have : decide (0 < (homeF 0 L (-x.b)).1) = decide (0 < (homeF 0 L (-x.b)).2.2) := by
      have k1 := homeF_link L 0 (-x.b)
      by_cases hz : (homeF 0 L (-x.b)).2.2 = 0
      · rw [k1.2.1 hz]
      · have := home_pos L 0 (-x.b) (fun y hy => may_a (ha y hy)) hz
        have h2 : 0 < (homeF 0 L (-x.b)).2.2 := by have := k1.1; omega
        rw [decide_eq_true h2, decide_eq_true (show 0 < (homeF 0 L (-x.b)).1 by omega)]
    rw [this]
  · rw [inB_true.2 ⟨b1, b2⟩, inB_true.2 ⟨q1, q2⟩, inB_false.2 (.inl (show -x.b < 1 by omega))]
    have e1 : decide (0 < x.b) = true := by simp; omega
    have e2 : decide (x.b < 0) = false := by simp; omega
    rw [e1, e2]
    simp
theorem put_any {B t e n : Nat} {w : World} {cv : Value} {L : List Lk} (h : Tm B w t e cv n L) (hlen : L.length ≤ 63) (hL : goodF n [] L = true) (x : Lk) (hx : mayB n x = true) (hk : takenB L x = false) :
    Calls Try.prog 30 #[.pointer (some ⟨t, 0, none⟩), lkV x] w fun r w' => r = .returned (.tuple #[]) ∧ ∃ cv', Tm B w' t e cv' n (L ++ [x]) ∧ Below B w w' := by
  obtain ⟨⟨a1, a2⟩, ⟨p1, p2⟩, _, hb⟩ := mayB_true hx
  obtain ⟨i, hi⟩ : ∃ i : Nat, x.a = (i : Int) + 1 := ⟨(x.a - 1).toNat, by omega⟩
  obtain ⟨j, hj⟩ : ∃ j : Nat, x.p = (j : Int) + 1 := ⟨(x.p - 1).toNat, by omega⟩
  have hin : i < n := by omega
  have hj16 : j < 16 := by omega
  have hn := h.n1
  have ln : (L.map Lk.c).length = L.length := List.length_map ..
  unfold takenB at hk
  simp only [Bool.or_eq_false_iff, Bool.and_eq_false_iff, decide_eq_false_iff_not] at hk
  obtain ⟨⟨k1, k2⟩, k3⟩ := hk
  have z1 : (peerF 0 L x.a x.p).2.2 = 0 := by have := (peerF_link L 0 x.a x.p).1; omega
  refine put_walk h (by rw [ln]; omega) x (fun w' => ∃ cv', Tm B w' t e cv' n (L ++ [x]) ∧ Below B w w') ?_
  intro cv' u hu hbel h5 hsz
  rw [ln]
  rw [hi, hj]
  refine (lead_sw i j hin hj16 hn (x.b, x.q, (L.length : Int) + 1) _ hu.el hu.tl hu.c0 (hu.ce i j hin hj16) hu.ef).mono ?_
  rintro r w1 ⟨rfl, g1⟩
  have q1 := hu.put_sw hj16 g1
  have h51 : C5 w1 w.heap.size 0 x := h5.block (g1.block _ hsz (fun e' => by have := h.el; omega))
  have hB : B ≤ u.heap.size := Nat.le_trans hu.tB (Nat.le_of_lt hu.tl)
  have bel1 : Below B w w1 := hbel.trans (g1.bel hu.eB hB)
  refine ⟨rfl, h51, ?_⟩
  rcases hb with ⟨b1, b2, hq⟩ | ⟨hne, ⟨b1, b2⟩, y1, y2⟩
  · obtain ⟨k, hk⟩ : ∃ k : Nat, x.b = -((k : Int) + 1) := ⟨(-x.b - 1).toNat, by omega⟩
    have hk64 : k < 64 := by omega
    have z3 : (homeF 0 L (-x.b)).2.2 = 0 := by have := (homeF_link L 0 (-x.b)).1; omega
    have hl := lead_host (w := w1) k hk64 x.q (x.a, x.p, (L.length : Int) + 1) _ q1.tl (q1.ch k hk64) q1.tf
    rw [← hk] at hl
    rw [← hi, ← hj]
    refine hl.mono ?_
    rintro r w2 ⟨rfl, g2⟩
    have q2 := q1.put_host hk64 g2
    refine ⟨rfl, cv', ?_, bel1.trans (g2.bel q1.tB (Nat.le_trans q1.tB (Nat.le_of_lt q1.tl)))⟩
    unfold Tm
    rw [List.map_append, List.map_singleton]
    refine q2.like (fun s hs => ?_) (fun s p hs hp => ?_)
    · show homeF 0 (L ++ [x]) ((s : Int) + 1) = if s = k then _ else _
      by_cases e1 : s = k
      · rw [if_pos e1, homeF_snoc, show ((s : Int) + 1) = -x.b by omega, if_pos z3]
        unfold home1
        rw [if_pos (by omega), Nat.zero_add]
      · rw [if_neg e1]
        exact home_stay L (by omega)
    · show peerF 0 (L ++ [x]) ((s : Int) + 1) ((p : Int) + 1) = if s = i ∧ p = j then _ else _
      by_cases e1 : s = i ∧ p = j
      · rw [if_pos e1, e1.1, e1.2, ← hi, ← hj, peerF_snoc, if_pos z1]
        unfold peer1
        rw [if_pos ⟨rfl, rfl⟩, Nat.zero_add]
      · rw [if_neg e1]
        exact peer_stay L (by omega) (by omega)
  · obtain ⟨i', hi'⟩ : ∃ i : Nat, x.b = (i : Int) + 1 := ⟨(x.b - 1).toNat, by omega⟩
    obtain ⟨j', hj'⟩ : ∃ j : Nat, x.q = (j : Int) + 1 := ⟨(x.q - 1).toNat, by omega⟩
    have hin' : i' < n := by omega
    have hj16' : j' < 16 := by omega
    have z2 : (peerF 0 L x.b x.q).2.2 = 0 := by have := (peerF_link L 0 x.b x.q).1; omega
    have hl := lead_sw (w := w1) i' j' hin' hj16' hn (x.a, x.p, (L.length : Int) + 1) _ q1.el q1.tl q1.c0 (q1.ce i' j' hin' hj16') q1.ef
    rw [← hi', ← hj'] at hl
    rw [← hi, ← hj]
    refine hl.mono ?_
    rintro r w2 ⟨rfl, g2⟩
    have q2 := q1.put_sw hj16' g2
    refine ⟨rfl, cv', ?_, bel1.trans (g2.bel q1.eB (Nat.le_trans q1.tB (Nat.le_of_lt q1.tl)))⟩
    unfold Tm
    rw [List.map_append, List.map_singleton]
    refine q2.like (fun s hs => ?_) (fun s p hs hp => ?_)
    · show homeF 0 (L ++ [x]) ((s : Int) + 1) = homeF 0 L ((s : Int) + 1)
      exact home_stay L (by omega)
    · show peerF 0 (L ++ [x]) ((s : Int) + 1) ((p : Int) + 1) = if s = i' ∧ p = j' then _ else if s = i ∧ p = j then _ else _
      by_cases e1 : s = i' ∧ p = j'
      · rw [if_pos e1, e1.1, e1.2, ← hi', ← hj', peerF_snoc, if_pos z2]
        unfold peer1
        rw [if_neg (by omega), if_pos ⟨rfl, by omega, rfl⟩, Nat.zero_add]
      · rw [if_neg e1]
        by_cases e2 : s = i ∧ p = j
        · rw [if_pos e2, e2.1, e2.2, ← hi, ← hj, peerF_snoc, if_pos z1]
          unfold peer1
          rw [if_pos ⟨rfl, rfl⟩, Nat.zero_add]
        · rw [if_neg e2]
          exact peer_stay L (by omega) (by omega)
end Go.Proofs.Ytcjojcaahpkacaa

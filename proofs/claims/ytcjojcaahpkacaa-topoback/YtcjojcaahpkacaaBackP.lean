/-
  A Peer's Peer is where one was; how many ends there are: plain lists and numbers.
-/
import Derived.Test.YtcjojcaahpkacaaPorts
import Derived.Test.YtcjojcaahpkacaaGraph
namespace Go.Proofs.Ytcjojcaahpkacaa
set_option linter.unusedVariables false
theorem peer_back {n : Nat} {L : List Lk} (h : goodF n [] L = true) {s p : Int} (hs : 1 ≤ s ∧ s ≤ n) (hp : 1 ≤ p ∧ p ≤ 16) {to port k : Int} (hk : peerF 0 L s p = (to, port, k)) (h0 : k ≠ 0) :
    (1 ≤ k ∧ k ≤ L.length) ∧ ((to < 0 ∧ -64 ≤ to ∧ port = 0 ∧ homeX L (-to) = (s, p, k)) ∨ (1 ≤ to ∧ to ≠ s ∧ peerX n L to port = (s, p, k))) := by
  have hl := peerF_link L 0 s p
  obtain ⟨j, hj, e, r⟩ := peerF_spec L 0 s p (by rw [hk]; exact h0)
  rw [hk] at e r hl
  simp only at e r hl
  obtain ⟨g1, g2, g3⟩ := good_ends h j hj
  obtain ⟨⟨a1, a2⟩, ⟨p1, p2⟩, _, hb⟩ := mayB_true (good_mid h j hj).1
  refine ⟨⟨by omega, by have := hl.2.2.2; omega⟩, ?_⟩
  have ek : k = (j : Int) + 1 := by omega
  rcases r with ⟨r1, r2, r3, r4⟩ | ⟨r1, r2, r3, r4, r5⟩
  · rcases hb with ⟨b1, b2, b3⟩ | ⟨b0, ⟨b1, b2⟩, b3, b4⟩
    · left
      refine ⟨by omega, by omega, by omega, ?_⟩
      unfold homeX
      rw [inB_true.2 (by omega), if_pos rfl, r3, g3 (by omega), r1, r2, ek]
    · right
      refine ⟨by omega, by omega, ?_⟩
      unfold peerX
      rw [inB_true.2 (by omega), inB_true.2 (by omega), Bool.and_self, if_pos rfl, r3, r4, g2 (by omega), r1, r2, ek]
  · right
    rcases hb with ⟨b1, b2, b3⟩ | ⟨b0, ⟨b1, b2⟩, b3, b4⟩
    · omega
    refine ⟨by omega, by omega, ?_⟩
    unfold peerX
    rw [inB_true.2 (by omega), inB_true.2 (by omega), Bool.and_self, if_pos rfl, r4, r5, g1, r1, r3, ek]
/-- What an end counts. -/
def wt (x : Int × Int × Int) : Int := if x.2.2 = 0 then 0 else if x.1 < 0 then 2 else 1
def sumR (f : Nat → Int) (m : Nat) : Int := ((List.range m).map f).sum
theorem sumR_succ (f : Nat → Int) (m : Nat) : sumR f (m + 1) = sumR f m + f m := by
  unfold sumR
  rw [List.range_succ, List.map_append, List.sum_append]
  simp
theorem sumR_same {f g : Nat → Int} : ∀ m, (∀ i, i < m → f i = g i) → sumR f m = sumR g m
  | 0, _ => rfl
  | m + 1, h => by rw [sumR_succ, sumR_succ, sumR_same m (fun i hi => h i (by omega)), h m (by omega)]
theorem sumR_bump {f g : Nat → Int} {j : Nat} : ∀ m, j < m → (∀ i, i < m → i ≠ j → g i = f i) → sumR g m = sumR f m + (g j - f j)
  | 0, h, _ => by omega
  | m + 1, h, e => by
    rw [sumR_succ, sumR_succ]
    by_cases hm : m = j
    · subst hm
      rw [sumR_same m (fun i hi => e i (by omega) (by omega))]
      omega
    · rw [sumR_bump m (by omega) (fun i hi => e i (by omega)), e m (by omega) hm]
      omega
def sumT (n : Nat) (f : Nat → Nat → Int) : Int := sumR (fun s => sumR (fun p => f s p) 16) n
theorem sumT_bump {n : Nat} {f g : Nat → Nat → Int} {i j : Nat} (hi : i < n) (hj : j < 16) (h : ∀ s p, s < n → p < 16 → ¬ (s = i ∧ p = j) → g s p = f s p) : sumT n g = sumT n f + (g i j - f i j) := by
  unfold sumT
  rw [sumR_bump (f := fun s => sumR (fun p => f s p) 16) n hi (fun s hs hne => sumR_same 16 (fun p hp => h s p hs hp (fun e => hne e.1)))]
  rw [sumR_bump (f := fun p => f i p) 16 hj (fun p hp hne => h i p hi hp (fun e => hne e.2))]
  omega
def wts (L : List Lk) (s p : Nat) : Int := wt (peerF 0 L ((s : Int) + 1) ((p : Int) + 1))
theorem wts_snoc {n : Nat} {L : List Lk} {x : Lk} (h : goodF n [] (L ++ [x]) = true) : sumT n (wts (L ++ [x])) = sumT n (wts L) + 2 := by
  rw [good_snoc] at h
  simp only [Bool.and_eq_true, Bool.not_eq_true'] at h
  obtain ⟨hL, hx, hk⟩ := h
  obtain ⟨⟨a1, a2⟩, ⟨p1, p2⟩, _, hb⟩ := mayB_true hx
  obtain ⟨i, hi⟩ : ∃ i : Nat, x.a = (i : Int) + 1 := ⟨(x.a - 1).toNat, by omega⟩
  obtain ⟨j, hj⟩ : ∃ j : Nat, x.p = (j : Int) + 1 := ⟨(x.p - 1).toNat, by omega⟩
  have hin : i < n := by omega
  have hj16 : j < 16 := by omega
  unfold takenB at hk
  simp only [Bool.or_eq_false_iff, Bool.and_eq_false_iff, decide_eq_false_iff_not] at hk
  obtain ⟨⟨k1, k2⟩, k3⟩ := hk
  have z1 : (peerF 0 L x.a x.p).2.2 = 0 := by have := (peerF_link L 0 x.a x.p).1; omega
  have o1 : wts L i j = 0 := by
    unfold wts wt
    rw [← hi, ← hj, if_pos z1]
  have n1 : wts (L ++ [x]) i j = if x.b < 0 then 2 else 1 := by
    have e : peerF 0 (L ++ [x]) x.a x.p = (x.b, x.q, ((0 + L.length : Nat) : Int) + 1) := by
      rw [peerF_snoc, if_pos z1]
      unfold peer1
      rw [if_pos ⟨rfl, rfl⟩]
    unfold wts
    rw [← hi, ← hj, e]
    unfold wt
    rw [if_neg (show ((0 + L.length : Nat) : Int) + 1 ≠ 0 by omega)]
  rcases hb with ⟨b1, b2, hq⟩ | ⟨hne, ⟨b1, b2⟩, y1, y2⟩
  · rw [sumT_bump hin hj16 (f := wts L) (fun s p hs hp hne => by
      unfold wts
      rw [peer_stay L (by omega) (by omega)]), n1, o1, if_pos (by omega)]
    omega
  · obtain ⟨i', hi'⟩ : ∃ i : Nat, x.b = (i : Int) + 1 := ⟨(x.b - 1).toNat, by omega⟩
    obtain ⟨j', hj'⟩ : ∃ j : Nat, x.q = (j : Int) + 1 := ⟨(x.q - 1).toNat, by omega⟩
    have z2 : (peerF 0 L x.b x.q).2.2 = 0 := by have := (peerF_link L 0 x.b x.q).1; omega
    have o2 : wts L i' j' = 0 := by
      unfold wts wt
      rw [← hi', ← hj', if_pos z2]
    have n2 : wts (L ++ [x]) i' j' = 1 := by
      have e : peerF 0 (L ++ [x]) x.b x.q = (x.a, x.p, ((0 + L.length : Nat) : Int) + 1) := by
        rw [peerF_snoc, if_pos z2]
        unfold peer1
        rw [if_neg (by omega), if_pos ⟨rfl, by omega, rfl⟩]
      unfold wts
      rw [← hi', ← hj', e]
      unfold wt
      rw [if_neg (show ((0 + L.length : Nat) : Int) + 1 ≠ 0 by omega), if_neg (show ¬ x.a < 0 by omega)]
    have hap : ¬ (i' = i ∧ j' = j) := by omega
    rw [sumT_bump (i := i') (j := j') (by omega) (by omega) (f := fun s p => if s = i ∧ p = j then 1 else wts L s p) (fun s p hs hp hne2 => by
      by_cases e : s = i ∧ p = j
      · rw [if_pos e, e.1, e.2, n1, if_neg (by omega)]
      · rw [if_neg e]
        unfold wts
        rw [peer_stay L (by omega) (by omega)])]
    rw [sumT_bump (i := i) (j := j) hin hj16 (f := wts L) (fun s p hs hp hne2 => by
      show (if s = i ∧ p = j then 1 else wts L s p) = wts L s p
      rw [if_neg hne2])]
    simp only
    rw [n2, if_neg hap, o2, if_pos ⟨trivial, trivial⟩, o1]
    omega
theorem wts_nil (n : Nat) : sumT n (wts []) = 0 := by
  unfold sumT
  have : ∀ m, sumR (fun s => sumR (fun p => wts [] s p) 16) m = 0 := fun m => by
    induction m with
    | zero => rfl
    | succ m ih =>
      rw [sumR_succ, ih]
      rfl
  exact this n
theorem wts_all {n : Nat} : ∀ (k : Nat) (L : List Lk), L.length = k → goodF n [] L = true → sumT n (wts L) = 2 * (L.length : Int)
  | 0, L, hk, _ => by
    have : L = [] := List.length_eq_zero_iff.1 hk
    subst this
    rw [wts_nil]
    rfl
  | k + 1, L, hk, h => by
    have hd : L = L.take k ++ [L[k]] := by
      rw [← List.take_succ_eq_append_getElem (by omega), List.take_of_length_le (by omega)]
    have hl : (L.take k).length = k := by rw [List.length_take]; omega
    have h2 := h
    rw [hd] at h2
    rw [hd, wts_snoc h2, wts_all k (L.take k) hl (good_take h k), List.length_append, hl]
    simp
    omega
/-- The ends of a switch, port by port. -/
theorem linked_sum (f : Nat → Int × Int × Int) (h : ∀ p, 0 ≤ (f p).2.2) : ∀ m, ((linked f m).map fun x => wt (f (x - 1).toNat)).sum = sumR (fun p => wt (f p)) m
  | 0 => by simp [linked, sumR]
  | m + 1 => by
    rw [linked_succ, List.map_append, List.sum_append, linked_sum f h m, sumR_succ]
    by_cases h0 : 0 < (f m).2.2
    · rw [if_pos h0]
      simp
    · rw [if_neg h0]
      have h1 : (f m).2.2 = 0 := by have := h m; omega
      simp [wt, h1]
end Go.Proofs.Ytcjojcaahpkacaa

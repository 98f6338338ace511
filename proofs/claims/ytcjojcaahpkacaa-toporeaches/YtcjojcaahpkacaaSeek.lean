/-
  A search through switches, step by step: plain lists and numbers.
-/
import Derived.Test.YtcjojcaahpkacaaGraph
namespace Go.Proofs.Ytcjojcaahpkacaa
set_option linter.unusedVariables false
theorem nodup_le : ∀ {ext ids : List Int}, ext.Nodup → (∀ x ∈ ext, x ∈ ids) → ext.length ≤ ids.length
  | [], _, _, _ => Nat.zero_le _
  | x :: ext, ids, hn, hm => by
    obtain ⟨h1, h2⟩ := List.nodup_cons.1 hn
    have hx := hm x (by simp)
    have := nodup_le (ids := ids.erase x) h2 (fun y hy => (List.mem_erase_of_ne (fun e => h1 (by rw [← e]; exact hy))).2 (hm y (by simp [hy])))
    rw [List.length_erase_of_mem hx] at this
    have hp : 0 < ids.length := List.length_pos_of_mem hx
    simp only [List.length_cons]
    omega
theorem nodup_upto {zs : List Int} {n : Nat} (h : zs.Nodup) (hr : ∀ x ∈ zs, 1 ≤ x ∧ x ≤ n) : zs.length ≤ n := by
  have := nodup_le (ids := (List.range n).map fun i : Nat => (i : Int) + 1) h (fun x hx => by
    have := hr x hx
    rw [List.mem_map]
    exact ⟨(x - 1).toNat, by rw [List.mem_range]; omega, by omega⟩)
  simpa using this
/-- What is known of the switches that have been come to: k of them have been looked through. -/
structure Bf (n : Nat) (L : List Lk) (ds : List Int) (s : Int) (k : Nat) (zs : List Int) : Prop where
  nd : zs.Nodup
  rg : ∀ x ∈ zs, 1 ≤ x ∧ x ≤ n
  rc : ∀ x ∈ zs, Rch L ds s x
  st : s ∈ zs
  kl : k ≤ zs.length
  cl : ∀ j (hj : j < k) (h : j < zs.length), ∀ z, Adj L ds zs[j] z → z ∈ zs
theorem Bf.len {n : Nat} {L : List Lk} {ds : List Int} {s : Int} {k : Nat} {zs : List Int} (h : Bf n L ds s k zs) : zs.length ≤ n := nodup_upto h.nd h.rg
theorem Bf.init {n : Nat} {L : List Lk} {ds : List Int} {s : Int} (h : 1 ≤ s ∧ s ≤ n) : Bf n L ds s 0 [s] :=
  ⟨by simp, by simp; exact h, by simp; exact Rch.refl L ds s, by simp, by simp, fun j hj => by omega⟩
/-- One more is looked through, as far as its port p. -/
structure Bg (n : Nat) (L : List Lk) (ds : List Int) (s : Int) (k p : Nat) (zs : List Int) (y : Int) : Prop where
  bf : Bf n L ds s k zs
  kl : k < zs.length
  at_ : zs[k]? = some y
  pt : ∀ q : Nat, q < p → upB L.length ds (peerF 0 L y ((q : Int) + 1)).2.2 = true → inB (peerF 0 L y ((q : Int) + 1)).1 1 n = true → (peerF 0 L y ((q : Int) + 1)).1 ∈ zs
theorem Bg.start {n : Nat} {L : List Lk} {ds : List Int} {s : Int} {k : Nat} {zs : List Int} (h : Bf n L ds s k zs) (hk : k < zs.length) : Bg n L ds s k 0 zs zs[k] := ⟨h, hk, List.getElem?_eq_getElem hk, fun q hq => by omega⟩
theorem Bg.skip {n : Nat} {L : List Lk} {ds : List Int} {s : Int} {k p : Nat} {zs : List Int} {y : Int} (h : Bg n L ds s k p zs y)
    (hc : (upB L.length ds (peerF 0 L y ((p : Int) + 1)).2.2 && inB (peerF 0 L y ((p : Int) + 1)).1 1 n && !zs.contains (peerF 0 L y ((p : Int) + 1)).1) = false) : Bg n L ds s k (p + 1) zs y := by
  refine ⟨h.bf, h.kl, h.at_, fun q hq h1 h2 => ?_⟩
  by_cases e : q = p
  · subst e
    rw [h1, h2] at hc
    simpa using hc
  · exact h.pt q (by omega) h1 h2
theorem up_there {m : Nat} {ds : List Int} {k : Int} (h : upB m ds k = true) : k ≠ 0 ∧ k ∉ ds := by
  unfold upB at h
  simp only [Bool.and_eq_true, Bool.not_eq_true'] at h
  have := inB_true.1 h.1
  exact ⟨by omega, by simpa using h.2⟩
theorem Bg.add {n : Nat} {L : List Lk} {ds : List Int} {s : Int} {k p : Nat} {zs : List Int} {y : Int} (hg : goodF n [] L = true) (hp : p < 16) (h : Bg n L ds s k p zs y)
    (hc : (upB L.length ds (peerF 0 L y ((p : Int) + 1)).2.2 && inB (peerF 0 L y ((p : Int) + 1)).1 1 n && !zs.contains (peerF 0 L y ((p : Int) + 1)).1) = true) : Bg n L ds s k (p + 1) (zs ++ [(peerF 0 L y ((p : Int) + 1)).1]) y := by
  simp only [Bool.and_eq_true, Bool.not_eq_true'] at hc
  obtain ⟨⟨h1, h2⟩, h3⟩ := hc
  have hin := inB_true.1 h2
  have hy : y ∈ zs := List.mem_of_getElem? h.at_
  have hadj : Adj L ds y (peerF 0 L y ((p : Int) + 1)).1 := (adj_peer hg ds y _).2 ⟨(p : Int) + 1, by omega, by omega, (up_there h1).1, (up_there h1).2, rfl, hin.1⟩
  have hnm : (peerF 0 L y ((p : Int) + 1)).1 ∉ zs := by simpa using h3
  have hrc : Rch L ds s (peerF 0 L y ((p : Int) + 1)).1 := (h.bf.rc y hy).step hadj
  generalize hz : (peerF 0 L y ((p : Int) + 1)).1 = z at *
  refine ⟨⟨?_, ?_, ?_, by simp [h.bf.st], by rw [List.length_append]; have := h.bf.kl; simp; omega, ?_⟩, by rw [List.length_append]; have := h.kl; simp; omega, ?_, ?_⟩
  · rw [List.nodup_append]
    exact ⟨h.bf.nd, by simp, fun a ha b hb => by simp at hb; subst hb; intro e; subst e; exact hnm ha⟩
  · intro x hx
    rw [List.mem_append, List.mem_singleton] at hx
    rcases hx with hx | rfl
    · exact h.bf.rg x hx
    · exact hin
  · intro x hx
    rw [List.mem_append, List.mem_singleton] at hx
    rcases hx with hx | rfl
    · exact h.bf.rc x hx
    · exact hrc
  · intro j hj hl z' hz'
    have hkl := h.bf.kl
    rw [List.getElem_append_left (by omega)] at hz'
    exact List.mem_append_left _ (h.bf.cl j hj (by omega) z' hz')
  · rw [List.getElem?_append_left h.kl]
    exact h.at_
  · intro q hq h4 h5
    by_cases e : q = p
    · subst e
      rw [hz]
      simp
    · exact List.mem_append_left _ (h.pt q (by omega) h4 h5)
theorem Bg.done {n : Nat} {L : List Lk} {ds : List Int} {s : Int} {k : Nat} {zs : List Int} {y : Int} (hg : goodF n [] L = true) (h : Bg n L ds s k 16 zs y) : Bf n L ds s (k + 1) zs := by
  refine ⟨h.bf.nd, h.bf.rg, h.bf.rc, h.bf.st, h.kl, fun j hj hl z hz => ?_⟩
  by_cases e : j = k
  · subst e
    have hy : zs[j] = y := by
      have := h.at_
      rw [List.getElem?_eq_getElem hl] at this
      exact Option.some.inj this
    rw [hy] at hz
    have hin := (adj_in hg hz).2
    obtain ⟨p, p1, p2, h1, h2, h3, h4⟩ := (adj_peer hg ds y z).1 hz
    obtain ⟨q, rfl⟩ : ∃ q : Nat, p = (q : Int) + 1 := ⟨(p - 1).toNat, by omega⟩
    have hl2 := peerF_link L 0 y ((q : Int) + 1)
    have hup : upB L.length ds (peerF 0 L y ((q : Int) + 1)).2.2 = true := by
      unfold upB
      rw [inB_true.2 ⟨by have := hl2.1; omega, by have := hl2.2.2.2; omega⟩]
      simpa using h2
    have := h.pt q (by omega) hup (by rw [h3]; exact inB_true.2 hin)
    rwa [h3] at this
  · exact h.bf.cl j (by omega) hl z hz
/-- A rising list of what can be come to. -/
def Rd (n : Nat) (L : List Lk) (ds : List Int) (s : Int) (zs : List Int) : Prop := zs.Pairwise (· < ·) ∧ (∀ x, x ∈ zs ↔ (1 ≤ s ∧ s ≤ n) ∧ Rch L ds s x) ∧ zs.length ≤ 32
theorem Bf.rd {n : Nat} {L : List Lk} {ds : List Int} {s : Int} {zs ts : List Int} (h : Bf n L ds s zs.length zs) (hn : n ≤ 32) (hr : ts.Pairwise (· < ·)) (hp : ts.Perm zs) : Rd n L ds s ts := by
  refine ⟨hr, fun x => ?_, by rw [hp.length_eq]; have := h.len; omega⟩
  rw [hp.mem_iff, rch_closed zs h.st h.rc (fun y hy z hz => by
    obtain ⟨j, hj, rfl⟩ := List.getElem_of_mem hy
    exact h.cl j hj hj z hz) x]
  exact ⟨fun h' => ⟨h.rg s h.st, h'⟩, fun h' => h'.2⟩
theorem rd_none {n : Nat} {L : List Lk} {ds : List Int} {s : Int} (h : inB s 1 n = false) : Rd n L ds s [] := by
  have := inB_false.1 h
  exact ⟨by simp, fun x => by simp; omega, by simp⟩
end Go.Proofs.Ytcjojcaahpkacaa

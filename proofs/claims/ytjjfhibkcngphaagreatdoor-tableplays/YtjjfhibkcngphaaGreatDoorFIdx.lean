/-
  What slices.IndexFunc and slices.ContainsFunc answer of entries, clashes, endOf, as contracts.
-/
import Derived.Test.YtjjfhibkcngphaaGreatDoorFPred
import Derived.Shelf.SlicesQ.IndexFunc
namespace Go.Proofs.YtjjfhibkcngphaaGreatDoor
open Go.ChangeShapes Go.WideShapes Go.ChangeAt Go.RowKit
set_option linter.unusedVariables false
set_option linter.unusedSimpArgs false

/-- The place of the first one, or -1. -/
def idxV {α : Type} (l : List α) (q : α → Bool) : Int := match l.findIdx? q with
  | some i => i
  | none => -1
theorem idxV_some {α : Type} {l : List α} {q : α → Bool} {k : Nat} (hk : k < l.length) (h : q l[k] = true) (h0 : ∀ j (hj : j < l.length), j < k → q l[j] = false) : idxV l q = k := by
  have : l.findIdx? q = some k := by
    rw [List.findIdx?_eq_some_iff_getElem]
    exact ⟨hk, h, fun j hj => by rw [h0 j (by omega) hj]; decide⟩
  unfold idxV; rw [this]
theorem idxV_none {α : Type} {l : List α} {q : α → Bool} (h0 : ∀ j (hj : j < l.length), q l[j] = false) : idxV l q = -1 := by
  have : l.findIdx? q = none := by
    rw [List.findIdx?_eq_none_iff]
    intro x hx
    obtain ⟨j, hj, rfl⟩ := List.mem_iff_getElem.1 hx
    exact h0 j hj
  unfold idxV; rw [this]
theorem idxV_lt {α : Type} (l : List α) (q : α → Bool) : -1 ≤ idxV l q ∧ idxV l q < l.length := by
  unfold idxV
  cases h : l.findIdx? q with
  | none => simp; omega
  | some i =>
    rw [List.findIdx?_eq_some_iff_getElem] at h
    obtain ⟨hk, _⟩ := h
    simp; omega
theorem idxV_any {α : Type} (l : List α) (q : α → Bool) : decide (0 ≤ idxV l q) = l.any q := by
  unfold idxV
  cases h : l.findIdx? q with
  | none =>
    rw [List.findIdx?_eq_none_iff] at h
    have : l.any q = false := by rw [List.any_eq_false]; intro x hx; simp [h x hx]
    rw [this]; decide
  | some i =>
    rw [List.findIdx?_eq_some_iff_getElem] at h
    obtain ⟨hk, h1, _⟩ := h
    have : l.any q = true := by rw [List.any_eq_true]; exact ⟨l[i], List.getElem_mem _, h1⟩
    rw [this]; simp
/-- What is asked of a function that is handed on. -/
def Asks (g : Nat) (lb : Array Value) (q : Fe → Bool) (l : List Fe) (w : World) : Prop :=
  ∀ W x, x ∈ l → Below w.heap.size w W → Calls Tryz.prog g (#[feV x] ++ lb) W fun e w' => e = .returned (.bool (q x)) ∧ Below W.heap.size W w'
set_option maxHeartbeats 4000000 in
theorem idx_any (g : Nat) (lb : Array Value) (eg : ∀ args w, (callFunc g args).run Tryz.prog w = .ok (.enter g args) w) (q : Fe → Bool) (base : Nat) (v : Value) (l : List Fe) (w : World) (hO : OwnE base w v l) (hl : l.length ≤ 100000) (hp : Asks g lb q l w) :
    Calls Tryz.prog 33 #[v, .func (.func g) #[] lb] w fun e w' => e = .returned (.int .i64 (idxV l q)) ∧ Below w.heap.size w w' := by
  obtain ⟨a, cap, rfl, hform⟩ := OwnE.form2 hO
  have HO : Hid (OwnE base w (.slice a l.length cap) l) := hO
  have HP : Hid (Asks g lb q l w) := hp
  have HF : Hid (a = none ∧ l = [] ∧ cap = 0 ∨ ∃ g, a = some ⟨g, 0, none⟩ ∧ base ≤ g ∧ g < w.heap.size ∧ l.length ≤ cap ∧ cap ≤ maxLen) := hform
  clear hO hp hform
  go_enter Tryz.func33, Tryz.ntmps33
  go_wp2
  go_loopw [5, 8] (fun _ i wr => ∃ k : Nat, k ≤ l.length ∧ i = .int .i64 k ∧ Hid (∀ j (hj : j < l.length), j < k → q l[j] = false) ∧ Below w.heap.size w wr) (fun _ i _ => l.length - (intOf i).toNat)
  case atStart => exact ⟨0, Nat.zero_le _, rfl, (show ∀ j, _ from fun j _ hj => absurd hj (Nat.not_lt_zero _)), Below.refl _ _⟩
  case round =>
    obtain ⟨k, hk, rfl, HN, hbel⟩ := hrel
    by_cases hlt : k < l.length
    · obtain ⟨gb, rfl, _, hgb, hnc, _⟩ : ∃ g, a = some ⟨g, 0, none⟩ ∧ base ≤ g ∧ g < w.heap.size ∧ l.length ≤ cap ∧ cap ≤ maxLen := by
        rcases HF.out with ⟨_, h, _⟩ | h
        · subst h; cases hlt
        · exact h
      have HB : Hid (Be wr gb (k * 10) l[k]) := (OwnE.be rfl HO.out k hlt).below hgb hbel
      have HC : Hid (Calls Tryz.prog g (#[feV l[k]] ++ lb) wr fun e w' => e = .returned (.bool (q l[k])) ∧ Below wr.heap.size wr w') := HP.out wr l[k] (List.getElem_mem _) hbel
      cases hq : q l[k] with
      | true =>
        rw [hq] at HC
        have HR : Hid (idxV l q = k) := idxV_some hlt hq HN.out
        clear hq
        go_wp2_with (first | (refine load_E rfl (.tmp 14) rfl gb (k * 10) l[k] (by simp [Act.eval, Act.put]) HB.out ?_) | (go_at_fn g; refine HC.out.mono ?_; rintro e w1 ⟨rfl, g1⟩))
        go_ret
        exact ⟨by rw [HR.out]; rfl, btr hbel g1 (Nat.le_refl _)⟩
      | false =>
        rw [hq] at HC
        have HN2 : Hid (∀ j (hj : j < l.length), j < k + 1 → q l[j] = false) := (show ∀ j, _ from fun j hj h => by
          by_cases e : j = k
          · subst e; exact hq
          · exact HN.out j hj (by omega))
        clear hq
        go_wp2_with (first | (refine load_E rfl (.tmp 14) rfl gb (k * 10) l[k] (by simp [Act.eval, Act.put]) HB.out ?_) | (go_at_fn g; refine HC.out.mono ?_; rintro e w1 ⟨rfl, g1⟩))
        go_roundw
        case rel => exact ⟨k + 1, by omega, by go_num, HN2, btr hbel g1 (Nat.le_refl _)⟩
        case measure => simp [intOf]; omega
    · have hk' : k = l.length := by omega
      subst hk'
      have HR : Hid (idxV l q = -1) := idxV_none (fun j hj => HN.out j hj hj)
      go_wp2
      go_ret
      exact ⟨by rw [HR.out]; rfl, hbel⟩
set_option maxHeartbeats 2000000 in
theorem has_any (g : Nat) (lb : Array Value) (eg : ∀ args w, (callFunc g args).run Tryz.prog w = .ok (.enter g args) w) (q : Fe → Bool) (base : Nat) (v : Value) (l : List Fe) (w : World) (hO : OwnE base w v l) (hl : l.length ≤ 100000) (hp : Asks g lb q l w) :
    Calls Tryz.prog 54 #[v, .func (.func g) #[] lb] w fun e w' => e = .returned (.bool (l.any q)) ∧ Below w.heap.size w w' := by
  have HC : Hid (Calls Tryz.prog 33 #[v, .func (.func g) #[] lb] w fun e w' => e = .returned (.int .i64 (idxV l q)) ∧ Below w.heap.size w w') := idx_any g lb eg q base v l w hO hl hp
  have HR : Hid (decide (0 ≤ idxV l q) = l.any q) := idxV_any l q
  have hb := idxV_lt l q
  clear hO hp
  generalize idxV l q = I at *
  go_enter Tryz.func54, Tryz.ntmps54
  go_wp2_with fail
  refine HC.out.mono ?_
  rintro e w1 ⟨rfl, g1⟩
  go_wp2_with fail
  go_ret
  exact ⟨by rw [← HR.out]; rfl, g1⟩
end Go.Proofs.YtjjfhibkcngphaaGreatDoor

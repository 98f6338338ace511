/-
  What the document's Same answers, as a contract.
-/
import Derived.Test.YtjjfhibkcngphaaGreatDoorBase
namespace Go.Proofs.YtjjfhibkcngphaaGreatDoor
open Go.ChangeShapes Go.WideShapes Go.ChangeAt Go.RowKit

def sameB (l m : List A) : Bool := decide (l = m)
theorem same_stop {l m : List A} {k : Nat} (h1 : k < l.length) (h2 : k < m.length) (h : l[k] ≠ m[k]) : sameB l m = false := by
  unfold sameB; rw [decide_eq_false_iff_not]; intro e; subst e; exact h rfl
theorem same_step {l m : List A} {k : Nat} (h1 : k < l.length) (h2 : k < m.length) (h : l.take k = m.take k) (e : l[k] = m[k]) : l.take (k + 1) = m.take (k + 1) := by
  rw [take_snoc_get l k h1, take_snoc_get m k h2, h, e]
set_option maxHeartbeats 4000000 in
theorem same_any (a b : Option Addr) (l m : List A) (ca cb : Nat) (w : World) (ha : Ts w a l) (hb : Ts w b m) (hl : l.length ≤ 1000) (hm : m.length ≤ 1000) :
    Calls Tryz.prog 50 #[.slice a l.length ca, .slice b m.length cb] w fun e w' => e = .returned (.bool (sameB l m)) ∧ Below w.heap.size w w' := by
  have hE := neT
  have hG := guT
  by_cases hlen : l.length = m.length
  · have hn : ((l.length : Int) != (m.length : Int)) = false := by simp [hlen]
    have HLen : Hid (l.length = m.length) := hlen
    clear hlen
    go_enter Tryz.func50, Tryz.ntmps50
    go_wp2_with fail
    go_loopw [5] (fun i wr => ∃ k : Nat, k ≤ l.length ∧ i = .int .i64 k ∧ Hid (l.take k = m.take k) ∧ Below w.heap.size w wr) (fun i _ => l.length - (intOf i).toNat)
    case atStart => exact ⟨0, Nat.zero_le _, rfl, (show _ = _ by simp), Below.refl _ _⟩
    case round =>
      obtain ⟨k, hk, rfl, HT, hbel⟩ := hrel
      by_cases hlt : k < l.length
      · have hlm : k < m.length := by have := HLen.out; omega
        have tA := ha.below hbel
        have tB := hb.below hbel
        obtain ⟨g, o, rfl, hg, hc⟩ := tA.at hlt
        obtain ⟨g', o', rfl, hg', hc'⟩ := tB.at hlm
        have qa := hc k hlt
        have qb := hc' k hlm
        have HST : Hid (l[k] ≠ m[k] → sameB l m = false) := (show _ → _ from fun h => same_stop hlt hlm h)
        have HGO : Hid (l[k] = m[k] → l.take (k + 1) = m.take (k + 1)) := (show _ → _ from fun h => same_step hlt hlm HT.out h)
        have lm1 : (k : Int) < (m.length : Int) := by omega
        clear hc hc' tA tB HT
        generalize l[k] = X at *
        generalize m[k] = Y at *
        obtain ⟨a0, a1, a2⟩ := qa
        obtain ⟨b0, b1, b2⟩ := qb
        by_cases he : X = Y
        · have hd : eqB X Y = true := eqB_true.2 he
          have HT2 : Hid (l.take (k + 1) = m.take (k + 1)) := HGO.out he
          clear he HGO HST
          go_wp2_with fail
          go_quiet (fail)
          go_wp2_with fail
          go_roundw
          case rel => exact ⟨k + 1, by omega, by go_num, HT2, bdr hbel _⟩
          case measure => simp [intOf]; omega
        · have hd : eqB X Y = false := eqB_false.2 he
          have HT2 : Hid (sameB l m = false) := HST.out he
          clear he HGO HST
          go_wp2_with fail
          go_quiet (fail)
          go_wp2_with fail
          go_ret
          exact ⟨by rw [HT2.out]; rfl, bdr hbel _⟩
      · have hk' : k = l.length := by omega
        subst hk'
        have e : sameB l m = true := by
          have := HT.out
          rw [List.take_length, HLen.out, List.take_length] at this
          unfold sameB; simp [this]
        go_wp2_with fail
        go_ret
        exact ⟨by rw [e]; rfl, hbel⟩
  · have hn : ((l.length : Int) != (m.length : Int)) = true := by simp; omega
    have e : sameB l m = false := by
      unfold sameB; rw [decide_eq_false_iff_not]; intro e; subst e; exact hlen rfl
    rw [e]
    clear e hlen
    go_enter Tryz.func50, Tryz.ntmps50
    go_wp2_with fail
    go_ret
    exact ⟨rfl, Below.refl _ _⟩
end Go.Proofs.YtjjfhibkcngphaaGreatDoor

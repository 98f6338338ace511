/-
  What the document's Same answers, as a contract; the examples.
-/
import Derived.Test.YtmlonfchbkmbcabDoorEnc
import Derived.Test.YtmlonfchbkmbcabDoorMerge
namespace Go.Proofs.YtmlonfchbkmbcabDoor
open Go.ChangeShapes Go.WideShapes Go.ChangeAt Go.RowKit

def sameB (l m : List A) : Bool := decide (l = m)
theorem same_stop {l m : List A} {k : Nat} (h1 : k < l.length) (h2 : k < m.length) (h : l[k] ≠ m[k]) : sameB l m = false := by
  unfold sameB; rw [decide_eq_false_iff_not]; intro e; subst e; exact h rfl
theorem same_step {l m : List A} {k : Nat} (h1 : k < l.length) (h2 : k < m.length) (h : l.take k = m.take k) (e : l[k] = m[k]) : l.take (k + 1) = m.take (k + 1) := by
  rw [take_snoc_get l k h1, take_snoc_get m k h2, h, e]
set_option maxHeartbeats 4000000 in
theorem same_any (a b : Option Addr) (l m : List A) (ca cb : Nat) (w : World) (ha : Ts w a l) (hb : Ts w b m) (hl : l.length ≤ 1000) (hm : m.length ≤ 1000) :
    Calls Tryd.prog 15 #[.slice a l.length ca, .slice b m.length cb] w fun e w' => e = .returned (.bool (sameB l m)) ∧ Below w.heap.size w w' := by
  have hE := neT
  have hG := guT
  by_cases hlen : l.length = m.length
  · have hn : ((l.length : Int) != (m.length : Int)) = false := by simp [hlen]
    have HLen : Hid (l.length = m.length) := hlen
    clear hlen
    go_enter Tryd.func15, Tryd.ntmps15
    go_wp2_with fail
    go_loopw [5] (fun i wr => ∃ k : Nat, k ≤ l.length ∧ i = .int .i64 k ∧ Hid (l.take k = m.take k) ∧ Below w.heap.size w wr) (fun i _ => l.length - (intOf i).toNat)
    case atStart => exact ⟨0, Nat.zero_le _, rfl, (show _ = _ by simp), Below.refl _ _⟩
    case round =>
      obtain ⟨k, hk, rfl, HT, hbel⟩ := hrel
      by_cases hlt : k < l.length
      · have hlm : k < m.length := by have := HLen.out; omega
        have tA := ha.below hbel
        have tB := hb.below hbel
        obtain ⟨g, o, rfl, hg, hc⟩ := tA.at hlt
        obtain ⟨g', o', rfl, hg', hc'⟩ := tB.at hlm
        have qa := hc k hlt
        have qb := hc' k hlm
        have HST : Hid (l[k] ≠ m[k] → sameB l m = false) := (show _ → _ from fun h => same_stop hlt hlm h)
        have HGO : Hid (l[k] = m[k] → l.take (k + 1) = m.take (k + 1)) := (show _ → _ from fun h => same_step hlt hlm HT.out h)
        have lm1 : (k : Int) < (m.length : Int) := by omega
        clear hc hc' tA tB HT
        generalize l[k] = X at *
        generalize m[k] = Y at *
        obtain ⟨a0, a1, a2⟩ := qa
        obtain ⟨b0, b1, b2⟩ := qb
        by_cases he : X = Y
        · have hd : eqB X Y = true := eqB_true.2 he
          have HT2 : Hid (l.take (k + 1) = m.take (k + 1)) := HGO.out he
          clear he HGO HST
          go_wp2_with fail
          go_quiet (fail)
          go_wp2_with fail
          go_roundw
          case rel => exact ⟨k + 1, by omega, by go_num, HT2, bdr hbel _⟩
          case measure => simp [intOf]; omega
        · have hd : eqB X Y = false := eqB_false.2 he
          have HT2 : Hid (sameB l m = false) := HST.out he
          clear he HGO HST
          go_wp2_with fail
          go_quiet (fail)
          go_wp2_with fail
          go_ret
          exact ⟨by rw [HT2.out]; rfl, bdr hbel _⟩
      · have hk' : k = l.length := by omega
        subst hk'
        have e : sameB l m = true := by
          have := HT.out
          rw [List.take_length, HLen.out, List.take_length] at this
          unfold sameB; simp [this]
        go_wp2_with fail
        go_ret
        exact ⟨by rw [e]; rfl, hbel⟩
  · have hn : ((l.length : Int) != (m.length : Int)) = true := by simp; omega
    have e : sameB l m = false := by
      unfold sameB; rw [decide_eq_false_iff_not]; intro e; subst e; exact hlen rfl
    rw [e]
    clear e hlen
    go_enter Tryd.func15, Tryd.ntmps15
    go_wp2_with fail
    go_ret
    exact ⟨rfl, Below.refl _ _⟩
set_option maxHeartbeats 1000000 in
theorem out_any (n : Int) (w : World) : Calls Tryd.prog 13 #[.int .u64 n] w fun e w' => e = .returned (tV (1, 0, n)) ∧ Below w.heap.size w w' := by
  go_enter Tryd.func13, Tryd.ntmps13
  go_wp2
  first
    | (go_ret; exact ⟨rfl, by go_grown⟩)
    | (refine bodyPost_ret (resT (b := w.heap.size) (t := (1, 0, n)) rfl rfl (by unfold C3; simp)) rfl ?_; exact ⟨rfl, by go_grown⟩)
theorem ts_two (w : World) (t u : A) : Ts (w.alloc (.cells #[.int .i64 t.1, .int .i64 t.2.1, .int .u64 t.2.2, .int .i64 u.1, .int .i64 u.2.1, .int .u64 u.2.2] 29)) (some ⟨w.heap.size, 0, none⟩) [t, u] := .inr ⟨w.heap.size, 0, rfl, by simp, fun i hi => by
  have : i = 0 ∨ i = 1 := by simp at hi; omega
  rcases this with rfl | rfl
  · unfold C3; simp
  · unfold C3; simp⟩
theorem ex_enc : encodeS [(1, 0, 1)] = ⟨#[0, 0, 0, 16, 0, 0, 0, 1, 255, 255, 0, 0, 0, 0, 0, 0]⟩ ∧ encodeE [(1, 0, 1)] = 0 := by
  refine ⟨?_, by decide⟩
  apply ba_ext
  decide +kernel
theorem ex_merge : mergeV ([(1, 0, 1)] ++ [(4, 0, 0), (1, 0, 2)]) = [(4, 0, 0), (1, 0, 2)] := by decide +kernel
set_option maxHeartbeats 4000000 in
set_option maxRecDepth 20000 in
theorem awake_any (w : World) (hd : Cd w) : Calls Tryd.prog 6 #[] w fun e w' => e = .returned (.bool true) ∧ Below w.heap.size w w' := by
  have HO : Hid (∀ (n : Int) (w : World), Calls Tryd.prog 13 #[.int .u64 n] w fun e w' => e = .returned (tV (1, 0, n)) ∧ Below w.heap.size w w') := out_any
  have HE : Hid (∀ (a : Option Addr) (w : World), Ts w a [(1, 0, 1)] → Cd w → Calls Tryd.prog 9 #[.slice a 1 1] w fun e w' => e = .returned (.tuple #[.string ⟨#[0, 0, 0, 16, 0, 0, 0, 1, 255, 255, 0, 0, 0, 0, 0, 0]⟩, .int .i64 0]) ∧ Below w.heap.size w w') := (show ∀ a w, _ from fun a w h hd => by
    have := encode_any a [(1, 0, 1)] 1 w h (by decide) hd
    rw [ex_enc.1, ex_enc.2] at this
    exact this)
  have HM : Hid (∀ (a b : Option Addr) (w : World), Ts w a [(1, 0, 1)] → Ts w b [(4, 0, 0), (1, 0, 2)] → Calls Tryd.prog 14 #[.slice a 1 1, .slice b 2 2] w fun e w' => ∃ v, e = .returned v ∧ w'.ownsRow w.heap.size 29 3 v 2 (flat [(4, 0, 0), (1, 0, 2)]) ∧ Below w.heap.size w w') := (show ∀ a b w, _ from fun a b w h1 h2 => by
    have aw : ∀ k n : Int, n = 0 ∨ n = 1 ∨ n = 2 → AW (k, 0, n) := fun k n h => ⟨by simp, by simp, by simp; omega, by simp; omega⟩
    have := merge_any a b [(1, 0, 1)] [(4, 0, 0), (1, 0, 2)] 1 2 w h1 h2 (fun x hx => by simp at hx; subst hx; exact aw 1 1 (by omega)) (fun x hx => by simp at hx; rcases hx with rfl | rfl; exact aw 4 0 (by omega); exact aw 1 2 (by omega)) (by decide)
    rw [ex_merge] at this
    exact this)
  have HS : Hid (∀ (a b : Option Addr) (ca : Nat) (w : World), Ts w a [(4, 0, 0), (1, 0, 2)] → Ts w b [(4, 0, 0), (1, 0, 2)] → Calls Tryd.prog 15 #[.slice a 2 ca, .slice b 2 2] w fun e w' => e = .returned (.bool true) ∧ Below w.heap.size w w') := (show ∀ a b ca w, _ from fun a b ca w h1 h2 => by
    have := same_any a b [(4, 0, 0), (1, 0, 2)] [(4, 0, 0), (1, 0, 2)] ca 2 w h1 h2 (by decide) (by decide)
    rw [show sameB [(4, 0, 0), (1, 0, 2)] [(4, 0, 0), (1, 0, 2)] = true by decide] at this
    exact this)
  have HD : Hid (Cd w) := hd
  clear hd
  go_enter Tryd.func6, Tryd.ntmps6
  go_wp2_with fail
  refine (HO.out _ _).mono ?_
  rintro r w1 ⟨rfl, g1⟩
  go_wp2_with fail
  refine (HE.out _ _ (ts_new w1 (1, 0, 1)) ((HD.out.below g1).alloc _)).mono ?_
  rintro r w2 ⟨rfl, g2⟩
  have b2 : Below w.heap.size w w2 := btr (g1.alloc g1.size _) g2 (Nat.le_refl _)
  clear g1 g2
  go_wp2_with fail
  refine (HO.out _ _).mono ?_
  rintro r w3 ⟨rfl, g3⟩
  have b3 := btr b2 g3 (Nat.le_refl _)
  clear g3 b2
  go_wp2_with fail
  refine (HO.out _ _).mono ?_
  rintro r w4 ⟨rfl, g4⟩
  have t4 := (ts_new w3 (1, 0, 1)).below g4
  have b4 : Below w.heap.size w w4 := btr (b3.alloc b3.size _) g4 (Nat.le_refl _)
  clear g4 b3
  go_wp2_with fail
  refine (HM.out _ _ _ (t4.alloc _) (ts_two w4 (4, 0, 0) (1, 0, 2))).mono ?_
  rintro r w5 ⟨v5, rfl, o5, g5⟩
  obtain ⟨a5, c5, rfl, _, t5, _⟩ := own_ts (l := [(4, 0, 0), (1, 0, 2)]) o5
  have b5 : Below w.heap.size w w5 := btr (b4.alloc b4.size _) g5 (Nat.le_refl _)
  clear g5 b4 o5 t4
  go_wp2_with fail
  refine (HO.out _ _).mono ?_
  rintro r w6 ⟨rfl, g6⟩
  have t6 := t5.below g6
  have b6 := btr b5 g6 (Nat.le_refl _)
  clear g6 b5 t5
  go_wp2_with fail
  refine (HS.out _ _ _ _ (t6.alloc _) (ts_two w6 (4, 0, 0) (1, 0, 2))).mono ?_
  rintro r w7 ⟨rfl, g7⟩
  have b7 : Below w.heap.size w w7 := btr (b6.alloc b6.size _) g7 (Nat.le_refl _)
  go_wp2_with fail
  go_ret
  exact ⟨rfl, b7⟩
end Go.Proofs.YtmlonfchbkmbcabDoor

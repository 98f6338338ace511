/-
  What known and lastOfEach answer, as contracts.
-/
import Derived.Test.YtmlonfchbkmbcabDoorApp
import Derived.Test.YtmlonfchbkmbcabDoorPlace
namespace Go.Proofs.YtmlonfchbkmbcabDoor
open Go.ChangeShapes Go.WideShapes Go.ChangeAt Go.RowKit

theorem known_snoc (l : List A) (k : Nat) (h : k < l.length) : knownL (l.take (k + 1)) = knownL (l.take k) ++ (if knownB l[k] = true then [l[k]] else []) := by
  rw [take_snoc_get l k h, known_append]
  congr 1
  unfold knownL
  rw [List.filter_cons]
  split <;> rfl
theorem known_len (l : List A) : (knownL l).length ≤ l.length := List.length_filter_le _ _
theorem ts_new (w : World) (t : A) : Ts (tx w t) (some ⟨w.heap.size, 0, none⟩) [t] := .inr ⟨w.heap.size, 0, rfl, by simp, fun i hi => by
  have : i = 0 := by simp at hi; omega
  subst this
  exact C3.new w t⟩
set_option maxHeartbeats 4000000 in
theorem known_any (a : Option Addr) (l : List A) (cap : Nat) (w : World) (h : Ts w a l) (hl : l.length ≤ 1000) :
    Calls Tryd.prog 25 #[.slice a l.length cap] w fun e w' => ∃ v, e = .returned v ∧ w'.ownsRow w.heap.size 29 3 v (knownL l).length (flat (knownL l)) ∧ Below w.heap.size w w' := by
  have HP : Hid (∀ k w, Calls Tryd.prog 45 #[.int .i64 k] w fun e w' => e = .returned (.int .i64 (placeV k)) ∧ w' = w) := place_any
  go_enter Tryd.func25, Tryd.ntmps25
  go_wp2_with fail
  go_loopw [3, 8] (fun v i wr => ∃ k : Nat, k ≤ l.length ∧ i = .int .i64 k ∧ wr.ownsRow w.heap.size 29 3 v (knownL (l.take k)).length (flat (knownL (l.take k))) ∧ Below w.heap.size w wr) (fun _ i _ => l.length - (intOf i).toNat)
  case atStart => exact ⟨0, Nat.zero_le _, rfl, World.ownsRow_nil _ _ _ _, Below.refl _ _⟩
  case round =>
    obtain ⟨k, hk, rfl, hown, hbel⟩ := hrel
    by_cases hlt : k < l.length
    · have hT := h.below hbel
      obtain ⟨g, o, rfl, hg, hc⟩ := hT.at hlt
      obtain ⟨c0, c1, c2⟩ := hc k hlt
      have HS : Hid (knownL (l.take (k + 1)) = knownL (l.take k) ++ (if knownB l[k] = true then [l[k]] else [])) := known_snoc l k hlt
      have hkl : (knownL (l.take k)).length ≤ k := Nat.le_trans (known_len _) (by rw [List.length_take]; omega)
      cases hb : (placeV l[k].1 == 0) with
      | true =>
        have hbn : (placeV l[k].1 != 0) = false := by simp [bne, hb]
        have HK : Hid (knownB l[k] = false) := (show knownB l[k] = false by simp [knownB, hb])
        clear hb
        clear hc hT
        generalize l[k] = X at *
        go_wp2_with fail
        refine (HP.out _ _).mono ?_
        rintro r w1 ⟨rfl, rfl⟩
        go_wp2_with fail
        go_roundw
        case rel =>
          refine ⟨k + 1, by omega, by go_num, ?_, hbel.alloc hbel.size _⟩
          rw [HS.out, HK.out]
          simp only [Bool.false_eq_true, if_false, List.append_nil]
          exact hown.alloc _
        case measure => simp [intOf]; omega
      | false =>
        have hbn : (placeV l[k].1 != 0) = true := by simp [bne, hb]
        have HK : Hid (knownB l[k] = true) := (show knownB l[k] = true by simp [knownB, hb])
        clear hb
        clear hc hT
        generalize l[k] = X at *
        go_wp2_with fail
        refine (HP.out _ _).mono ?_
        rintro r w1 ⟨rfl, rfl⟩
        go_wp2_with (at_builtin; refine wpList_app rfl _ _ rfl w.heap.size _ _ _ rfl ((hown.alloc _).alloc _) (some ⟨wr.heap.size + 1, 0, none⟩) 1 [X] 1 rfl rfl ?c0 ?c1 ?c2 ?_)
        case c0 => have := ts_new (tx wr X) X; simpa using this
        case c1 => simp; omega
        case c2 => have := hbel.size; simp; omega
        · intro v' w4 hown' hgrow
          have R1 : w4.ownsRow w.heap.size 29 3 v' (knownL (l.take (k + 1))).length (flat (knownL (l.take (k + 1)))) := by
            rw [HS.out, HK.out]
            simp only [if_true, List.length_append, flat_append]
            exact hown'
          have R2 : Below w.heap.size w w4 := ((hbel.alloc hbel.size _).alloc (by have := hbel.size; simp; omega) _).grown hgrow (by have := hbel.size; simp; omega) (fun q hq => by have := (hown.lt q hq).1; omega)
          clear hown' hgrow hown hbel
          go_wp2_with fail
          go_roundw
          case rel => exact ⟨k + 1, by omega, by go_num, R1, R2⟩
          case measure => simp [intOf]; omega
    · have hk' : k = l.length := by omega
      subst hk'
      rw [List.take_length] at hown
      go_wp2_with fail
      go_ret
      exact ⟨_, rfl, hown, hbel⟩
end Go.Proofs.YtmlonfchbkmbcabDoor

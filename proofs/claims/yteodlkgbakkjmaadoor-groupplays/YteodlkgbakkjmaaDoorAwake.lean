/-
  What the examples' function 'awake' answers: true; what 'few' answers.
-/
import Derived.Test.YteodlkgbakkjmaaDoorAddW
import Derived.Test.YteodlkgbakkjmaaDoorChooseW
namespace Go.Proofs.YteodlkgbakkjmaaDoor
open Go.ChangeShapes Go.WideShapes Go.ChangeAt Go.RowKit
set_option linter.unusedVariables false

def aw1 (a : Option Addr) : Gr := ⟨0, 4, a, [⟨1, 0, none, [], 0⟩, ⟨2, 7, none, [], 0⟩], 2⟩
def aw2 (a b : Option Addr) : Gr := ⟨1, 1, a, [⟨0, 0, b, [(2, 0, 1)], 1⟩], 1⟩
theorem aw1_ch (a : Option Addr) : (chooseL (aw1 a).kd (aw1 a).l [false, false, true] 0).map Bk.b3 = [(2, 7, [])] := rfl
theorem aw2_add (a b : Option Addr) : addE 3 [] (aw2 a b) = 31 := rfl
set_option maxRecDepth 20000 in
set_option maxHeartbeats 8000000 in
theorem awake_any (w : World) (hd : Cd w) : Calls Tryd.prog 10 #[] w fun e w' => e = .returned (.bool true) ∧ Below w.heap.size w w' := by
  obtain ⟨V, hV⟩ : ∃ V, (w.alloc (.cells #[.int .i64 1, .int .i64 0, .slice none 0 0, .int .i64 2, .int .i64 7, .slice none 0 0] 51)).alloc (.cells #[.bool false, .bool false, .bool true] 4) = V := ⟨_, rfl⟩
  have GV : Below w.heap.size w V := by rw [← hV]; go_grown
  have HCh : Hid (Calls Tryd.prog 23 #[.agg #[.int .i64 0, .int .i64 4, .slice (some ⟨w.heap.size, 0, none⟩) 2 2], .slice (some ⟨w.heap.size + 1, 0, none⟩) 3 3, .int .i64 0] V fun e w' => ∃ a' c' r, e = .returned (.slice a' r.length c') ∧ r.map Bk.b3 = [(2, 7, [])] ∧ BsF V.heap.size w' a' r ∧ Below V.heap.size V w') := (show Calls _ _ _ _ _ from
    choose_any (aw1 (some ⟨w.heap.size, 0, none⟩)) (some ⟨w.heap.size + 1, 0, none⟩) [false, false, true] 3 0 V ⟨⟨fun b hb => .inl (by
      simp [aw1] at hb
      rcases hb with rfl | rfl <;> rfl), .inr ⟨w.heap.size, 0, rfl, by rw [← hV]; simp; omega, fun i hi => by
        have hi2 : i = 0 ∨ i = 1 := by simp [aw1] at hi; omega
        rw [← hV]
        rcases hi2 with rfl | rfl <;> simp [aw1, Cb]⟩⟩, ⟨by simp [aw1], fun b hb => by
        simp [aw1] at hb
        rcases hb with rfl | rfl <;> simp⟩, fun b hb => by
        simp [aw1] at hb
        rcases hb with rfl | rfl <;> simp, .inr ⟨w.heap.size + 1, 0, rfl, by rw [← hV]; simp, fun i hi => by
          have hi2 : i = 0 ∨ i = 1 ∨ i = 2 := by simp at hi; omega
          rw [← hV]
          rcases hi2 with rfl | rfl | rfl <;> simp⟩, by simp⟩ (by omega) (by omega))
  have HV : Hid ((w.alloc (.cells #[.int .i64 1, .int .i64 0, .slice none 0 0, .int .i64 2, .int .i64 7, .slice none 0 0] 51)).alloc (.cells #[.bool false, .bool false, .bool true] 4) = V) := hV
  have HNew : Hid (∀ w1, Calls Tryd.prog 8 #[.int .i64 3] w1 fun e w' => e = .returned (.tuple #[ptr (w1.heap.size + 1), .int .i64 0]) ∧ Tb w' (w1.heap.size + 1) w1.heap.size 3 [] ∧ Below w1.heap.size w1 w') := (show ∀ w1, _ from fun w1 => new_yes 3 w1 rfl)
  have HD : Hid (∀ w1, Below w.heap.size w w1 → Cd w1) := (show ∀ w1, _ from fun w1 k => hd.below k)
  have HGV : Hid (Below w.heap.size w V) := GV
  clear hd hV GV
  go_enter Tryd.func10, Tryd.ntmps10
  go_wp2_with fail
  rw [HV.out]
  refine HCh.out.mono ?_
  rintro e w1 ⟨a1, c1, r, rfl, hr, hb, g1⟩
  have hlen : r.length = 1 := by have := congrArg List.length hr; simpa using this
  obtain ⟨x, rfl⟩ : ∃ x, r = [x] := List.length_eq_one_iff.1 hlen
  have hx : x.b3 = (2, 7, []) := by simpa using hr
  have hwe : x.we = 7 := congrArg (fun y : B3 => y.2.1) hx
  obtain ⟨g, rfl, hg0, hg, hcs⟩ : ∃ g, a1 = some ⟨g, 0, none⟩ ∧ V.heap.size ≤ g ∧ g < w1.heap.size ∧ ∀ i (h : i < [x].length), Cb w1 g (i * 3) [x][i] := by
    rcases hb.bs with h | h
    · cases h
    · exact h
  have hc7 : w1.cell? ⟨g, 1, none⟩ = some (.int .i64 7) := by have := (hcs 0 (by simp)).2.1; rw [← hwe]; simpa using this
  have G1 : Below w.heap.size w w1 := btr HGV.out g1 (Nat.le_refl _)
  clear hcs hwe hx hr hb hlen g1 hg0
  go_wp2_with fail
  refine (HNew.out w1).mono ?_
  rintro e w2 ⟨rfl, ht, g2⟩
  have hc8 : w2.cell? ⟨g, 1, none⟩ = some (.int .i64 7) := (g2.cell (p := ⟨g, 1, none⟩) hg).trans hc7
  have HG2 : Hid (Below w.heap.size w w2) := btr G1 g2 (Nat.le_refl _)
  have HT : Hid (Tb w2 (w1.heap.size + 1) w1.heap.size 3 []) := ht
  clear ht g2 G1 hc7
  go_wp2_with fail
  obtain ⟨U, hU⟩ : ∃ U, (w2.alloc (.cells #[.int .i64 2, .int .i64 0, .int .u64 1] 62)).alloc (.cells #[.int .i64 0, .int .i64 0, .slice (some ⟨w2.heap.size, 0, none⟩) 1 1] 51) = U := ⟨_, rfl⟩
  have gU : Below w2.heap.size w2 U := by rw [← hU]; go_grown
  have HAdd := add_any (tb := w1.heap.size + 1) (mb := w1.heap.size) (room := 3) (L := []) (aw2 (some ⟨w2.heap.size + 1, 0, none⟩) (some ⟨w2.heap.size, 0, none⟩)) U (HT.out.below gU) ⟨fun b hb => by
      simp [aw2] at hb
      subst hb
      refine .inr ⟨w2.heap.size, 0, rfl, by rw [← hU]; simp; omega, fun i hi => ?_⟩
      have : i = 0 := by simpa using hi
      subst this
      rw [← hU]
      simp [C3], .inr ⟨w2.heap.size + 1, 0, rfl, by rw [← hU]; simp, fun i hi => by
        have : i = 0 := by simpa [aw2] using hi
        subst this
        rw [← hU]
        simp [aw2, Cb]⟩⟩ ⟨by simp [aw2], fun b hb => by
      simp [aw2] at hb
      subst hb
      simp⟩ (HD.out U (btr HG2.out gU (Nat.le_refl _))) (by simp [aw2]) (by simp [aw2]) (by simp)
  rw [aw2_add] at HAdd
  have HG3 : Hid (Below w.heap.size w U) := btr HG2.out gU (Nat.le_refl _)
  have HAdd2 : Hid (Calls Tryd.prog 12 #[ptr (w1.heap.size + 1), .agg #[.int .i64 1, .int .i64 1, .slice (some ⟨w2.heap.size + 1, 0, none⟩) 1 1]] U fun e w' => e = .returned (.int .i64 31) ∧ Below U.heap.size U w') := (show Calls _ _ _ _ _ from HAdd.mono fun e w' ⟨h1, h2, _⟩ => ⟨h1, h2 (by decide)⟩)
  rw [hU]
  clear HAdd hU gU
  refine HAdd2.out.mono ?_
  rintro e w3 ⟨rfl, g3⟩
  have G3 : Below w.heap.size w w3 := btr HG3.out g3 (Nat.le_refl _)
  clear g3
  go_wp2_with fail
  go_ret
  exact ⟨rfl, G3⟩
end Go.Proofs.YteodlkgbakkjmaaDoor

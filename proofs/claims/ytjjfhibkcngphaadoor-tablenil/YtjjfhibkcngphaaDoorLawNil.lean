/-
  The law TableNil answers true.
-/
import Derived.Test.YtjjfhibkcngphaaDoorFAwake
import Derived.Test.YtjjfhibkcngphaaDoorFOpen
namespace Go.Proofs.YtjjfhibkcngphaaDoor
open Go.ChangeShapes Go.WideShapes Go.ChangeAt Go.RowKit
set_option linter.unusedVariables false
set_option linter.unusedSimpArgs false

set_option maxRecDepth 20000 in
set_option maxHeartbeats 8000000 in
theorem nil_walk (x : Fe) (s : Mt.Sn) (w : World) (hx : FIn w x) (hs : Mt.Wf s) (hd : Cd w) : Calls Tryd.prog 6 #[feV x, Mt.snV s] w fun e w' => e = .returned (.bool true) ∧ Below w.heap.size w w' := by
  obtain ⟨W, hW⟩ : ∃ W, (fx w x).alloc (.cells (Mt.snC s) 28) = W := ⟨_, rfl⟩
  have zW : W.heap.size = w.heap.size + 2 := by rw [← hW]; simp
  have HG : Hid (Below w.heap.size w W) := (show Below _ _ _ by rw [← hW]; go_grown)
  have HX : Hid (Be W w.heap.size 0 x) := (show Be _ _ _ _ by rw [← hW]; exact (Be.new w x).below (B := w.heap.size + 1) (by omega) (by go_grown))
  have HS : Hid (W.rangeAt (w.heap.size + 1) 0 (Mt.snC s).toList) := (show World.rangeAt _ _ _ _ by
    rw [← hW]
    have := range_new (fx w x) (Mt.snC s) 28
    simpa using this)
  have HL : Hid (∀ w1, Calls Tryd.prog 12 #[.pointer none, .int .i64 x.p.tab, Mt.snV s] w1 fun e w' => ∃ y : Fe, e = .returned (.tuple #[feV y, .bool false]) ∧ Below w1.heap.size w1 w') := (show ∀ w1, _ from fun w1 => (look_nil x.p.tab s hs w1).mono fun _ _ ⟨y, a, _, _, _, b⟩ => ⟨y, a, b⟩)
  have HLi : Hid (∀ w1, Calls Tryd.prog 11 #[.pointer none, .int .i64 x.p.tab] w1 fun e w' => ∃ a cap, e = .returned (.slice a 0 cap) ∧ Below w1.heap.size w1 w') := (show ∀ w1, _ from fun w1 => (list_nil x.p.tab w1).mono fun _ _ ⟨v, l, a, hm, hl, b⟩ => by
    obtain ⟨a', cap, hv, _⟩ := OwnE.form2 hm.own
    have hl0 : l = [] := by simpa using hl
    subst hl0
    exact ⟨a', cap, by rw [a, hv]; rfl, b⟩)
  have HA : Hid (∀ w1, Below w.heap.size w w1 → Calls Tryd.prog 8 #[] w1 fun e w' => e = .returned (.bool true) ∧ Below w1.heap.size w1 w') := (show ∀ w1, _ from fun w1 g => awake_any w1 (hd.below g))
  have HFe : Hid (Below W.heap.size W W) := Below.refl _ _
  clear hx hs hd
  obtain ⟨c0, _⟩ := HX.out.cs
  go_enter Tryd.func6, Tryd.ntmps6
  go_wp2_with (refine load_S rfl (.tmp 3) rfl (w.heap.size + 1) s rfl HS.out ?_)
  refine (HL.out W).mono ?_
  rintro e w1 ⟨y, rfl, g1⟩
  have HG1 : Hid (Below W.heap.size W w1) := g1
  have z1 := g1.size
  clear g1 c0
  go_wp2_with (first
    | (refine store_E rfl (.tmp 6) (.tmp 14) rfl w1.heap.size 0 y rfl rfl (there_new w1 zeroE 38) ?_; intro V hV bV tV oV; clear hV; have HGV : Hid (Below W.heap.size W V) := oV.below HG1.out.size (HG1.out.alloc HG1.out.size _); have HXV : Hid (Be V w.heap.size 0 x) := HX.out.below (by omega) HGV.out; clear bV tV oV)
    | (refine load_E rfl (.tmp 2) rfl w.heap.size 0 x rfl HXV.out ?_))
  refine (add_nil x true _).mono ?_
  rintro e w2 ⟨rfl, g2⟩
  have HG2 : Hid (Below W.heap.size W w2) := btr HGV.out g2 (Nat.le_refl _)
  have HX2 : Hid (Be w2 w.heap.size 0 x) := HX.out.below (by omega) HG2.out
  clear g2
  go_wp2_with (refine load_E rfl (.tmp 2) rfl w.heap.size 0 x rfl HX2.out ?_)
  refine (modify_nil x true _).mono ?_
  rintro e w3 ⟨rfl, g3⟩
  have HG3 : Hid (Below W.heap.size W w3) := btr HG2.out g3 (Nat.le_refl _)
  have HX3 : Hid (Be w3 w.heap.size 0 x) := HX.out.below (by omega) HG3.out
  clear g3
  go_wp2_with (refine load_E rfl (.tmp 2) rfl w.heap.size 0 x rfl HX3.out ?_)
  refine (delete_nil x false _).mono ?_
  rintro e w4 ⟨rfl, g4⟩
  have HG4 : Hid (Below W.heap.size W w4) := btr HG3.out g4 (Nat.le_refl _)
  have c4 := (HX.out.below (by omega) HG4.out).cs.1
  clear g4
  go_wp2_with fail
  refine (HLi.out w4).mono ?_
  rintro e w5 ⟨a5, cap5, rfl, g5⟩
  have HG5 : Hid (Below w.heap.size w w5) := btr (btr HG.out HG4.out (by omega)) g5 (by have := HG.out.size; have := HG4.out.size; omega)
  clear g5
  go_wp2_with fail
  refine (HA.out w5 HG5.out).mono ?_
  rintro e w6 ⟨rfl, g6⟩
  have HG6 : Hid (Below w.heap.size w w6) := btr HG5.out g6 (Nat.le_refl _)
  clear g6
  go_wp2_with fail
  go_ret
  exact ⟨rfl, HG6.out⟩
end Go.Proofs.YtjjfhibkcngphaaDoor

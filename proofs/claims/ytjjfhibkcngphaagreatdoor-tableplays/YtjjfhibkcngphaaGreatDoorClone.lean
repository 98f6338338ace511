/-
  What slices.Clone answers of actions, as a contract.
-/
import Derived.Test.YtjjfhibkcngphaaGreatDoorApp
import Derived.Deep.RegionWith
import Derived.Deep.RegionHeld
import Derived.Lib.SliceRun
namespace Go.Proofs.YtjjfhibkcngphaaGreatDoor
open Go.ChangeShapes Go.WideShapes Go.ChangeAt Go.RowKit
set_option linter.unusedVariables false
set_option maxHeartbeats 2000000 in
theorem cloneA (a : Option Addr) (l : List A) (c : Nat) (w : World) (hT : Ts w a l) (hn : l.length ≤ 1000) :
    Calls Tryz.prog 47 #[.slice a l.length c] w fun e w' => ∃ a' c', e = .returned (.slice a' l.length c') ∧ l.length ≤ c' ∧ TsF w.heap.size w' a' l ∧ Below w.heap.size w w' := by
  have q : ∀ (w : World) (a : Option Addr) (n c n' c' : Nat), (binOp .eql 38 (.slice a n c) (.slice none n' c')).run Tryz.prog w = .ok (.bool a.isNone) w := fun w a n c n' c' => Lib.run_eql_slice_nil w _ _ a n c n' c' Tryz.underlying38
  cases a with
  | none =>
    have hl : l = [] := by
      rcases hT with h | ⟨g, o, h, _⟩
      · exact h
      · cases h
    subst hl
    clear hT
    go_enter Tryz.func47, Tryz.ntmps47
    go_wp2
    go_ret
    exact ⟨none, 0, rfl, Nat.le_refl _, .inl rfl, Below.refl _ _⟩
  | some p =>
    have HT : Hid (Ts w (some p) l) := hT
    clear hT
    go_enter Tryz.func47, Tryz.ntmps47
    go_wp2_with (at_builtin; refine wpList_app rfl _ _ rfl w.heap.size (.slice (some ⟨w.heap.size, 0, none⟩) 0 0) 0 [] rfl (World.ownsRow_made w #[] 0 (Nat.le_refl _) (Nat.zero_le _) rfl) (some p) c l l.length rfl rfl (HT.out.alloc _) (by omega) (by simp) ?_; intro v' w1 hown hgrow)
    go_wp2
    go_ret
    rw [Nat.zero_add, List.nil_append] at hown
    obtain ⟨a', c', e, hcap, ht⟩ := own_ts hown
    exact ⟨a', c', by rw [e]; rfl, hcap, ht, ((Below.refl _ w).alloc (Nat.le_refl _) _).grown hgrow (by simp) (by intro k hk; simp [Value.ownBlock] at hk; omega)⟩
end Go.Proofs.YtjjfhibkcngphaaGreatDoor

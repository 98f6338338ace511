/-
  What slices.Grow and slices.Concat of two answer, as contracts.
-/
import Derived.Test.YtmlonfchbkmbcabDoorApp
namespace Go.Proofs.YtmlonfchbkmbcabDoor
open Go.ChangeShapes Go.WideShapes Go.ChangeAt Go.RowKit

theorem own_mono {base base' e size : Nat} {w : World} {v : Value} {n : Nat} {xs : List Value} (h : w.ownsRow base' e size v n xs) (hb : base ≤ base') : w.ownsRow base e size v n xs := by
  refine ⟨h.1, ?_⟩
  rcases h.2 with h' | ⟨g, cap, cur, hv, hg, hr⟩
  · exact .inl h'
  · exact .inr ⟨g, cap, cur, hv, by omega, hr⟩
set_option maxHeartbeats 2000000 in
set_option maxRecDepth 20000 in
theorem grow_any (n : Nat) (w : World) (hn : n ≤ 1000) : Calls Tryd.prog 46 #[.slice none 0 0, .int .i64 n] w fun e w' => ∃ v, e = .returned v ∧ w'.ownsRow w.heap.size 29 3 v 0 [] ∧ Below w.heap.size w w' := by
  by_cases h0 : n = 0
  · subst h0
    go_enter Tryd.func46, Tryd.ntmps46
    go_wp2
    go_ret
    exact ⟨_, rfl, World.ownsRow_nil _ _ _ _, Below.refl _ _⟩
  · obtain ⟨i0, hi, hz0, hz1, hz2⟩ := info_parts infoA
    have happ := Lib.run_append_nil_zeros (P := Tryd.prog) w 42 3 42 29 i0 (.agg #[.int .i64 0, .int .i64 0, .int .u64 0]) .i64 .i64 Tryd.underlying42 Tryd.underlying3 hi hz0 n (by omega) (by omega) (by omega) (by rw [hz2]; omega)
    have hcapge := grownCap_ge w n 0 29
    have hcaple := grownCap_le_maxLen w n 0 29 (by unfold maxLen; omega)
    generalize grownCap w n 0 29 = cap2 at happ hcapge hcaple
    generalize hZ : (Builtin.zeroCells (Value.agg #[.int .i64 0, .int .i64 0, .int .u64 0]).cells n ++ Builtin.zeroCells (Value.agg #[.int .i64 0, .int .i64 0, .int .u64 0]).cells (cap2 - n)) = Z at happ
    have hZs : Z.size = cap2 * 3 := by rw [← hZ]; simp [size_zeroCells, Value.cells]; omega
    have HA : Hid ((Builtin.append_ #[42, 3] 42 #[.slice none 0 0, .int .i64 n]).run Tryd.prog w = .ok (.slice (some ⟨w.heap.size, 0, none⟩) n cap2) (w.drew.alloc (.cells Z 29))) := happ
    have hp : (0 : Int) < (n : Int) := by omega
    have HC : Hid (cap2 ≤ maxLen) := hcaple
    have HZ : Hid (Z.size = cap2 * 3) := hZs
    clear hZ happ hi hz0 hz1 hz2 hcaple hZs
    go_enter Tryd.func46, Tryd.ntmps46
    go_wp2_with (at_builtin; refine Lib.wpList_append_run _ rfl (.tmp 20) (.tmp 21) 42 3 rfl (.slice none 0 0) (.int .i64 n) rfl rfl (.slice (some ⟨w.heap.size, 0, none⟩) n cap2) (w.drew.alloc (.cells Z 29)) HA.out ?_)
    go_ret
    exact ⟨_, rfl, World.ownsRow_made _ _ _ (Nat.le_refl _) HC.out HZ.out, by go_grown⟩
set_option maxHeartbeats 4000000 in
theorem concat_any (q : Nat) (a b : Option Addr) (l m : List A) (ca cb : Nat) (w : World) (hq : q < w.heap.size) (c0 : w.cell? ⟨q, 0, none⟩ = some (.slice a l.length ca)) (c1 : w.cell? ⟨q, 1, none⟩ = some (.slice b m.length cb)) (ha : Ts w a l) (hb : Ts w b m) (hl : l.length + m.length ≤ 1000) :
    Calls Tryd.prog 26 #[.slice (some ⟨q, 0, none⟩) 2 2] w fun e w' => ∃ v, e = .returned v ∧ w'.ownsRow w.heap.size 29 3 v (l ++ m).length (flat (l ++ m)) ∧ Below w.heap.size w w' := by
  have HG : Hid (∀ (n : Nat) (w : World), n ≤ 1000 → Calls Tryd.prog 46 #[.slice none 0 0, .int .i64 n] w fun e w' => ∃ v, e = .returned v ∧ w'.ownsRow w.heap.size 29 3 v 0 [] ∧ Below w.heap.size w w') := grow_any
  go_enter Tryd.func26, Tryd.ntmps26
  go_wp2_with fail
  go_loop [3, 11] (fun s i => (i = .int .i64 0 ∧ s = .int .i64 0) ∨ (i = .int .i64 1 ∧ s = .int .i64 (l.length : Int)) ∨ (i = .int .i64 2 ∧ s = .int .i64 ((l.length + m.length : Nat) : Int))) (fun _ i => 2 - (intOf i).toNat)
  case atStart => exact .inl ⟨rfl, rfl⟩
  case round =>
    rcases hrel with ⟨rfl, rfl⟩ | ⟨rfl, rfl⟩ | ⟨rfl, rfl⟩
    · go_wp2_with fail
      go_round
      case rel => exact .inr (.inl ⟨by go_num, by first | rfl | go_num⟩)
      case measure => simp [intOf]
    · have hs : (l.length : Int) + (m.length : Int) = ((l.length + m.length : Nat) : Int) := by omega
      have hp : ¬ ((l.length + m.length : Nat) : Int) < 0 := by omega
      generalize l.length + m.length = S at *
      go_wp2_with fail
      go_round
      case rel => exact .inr (.inr ⟨by go_num, by first | rfl | go_num⟩)
      case measure => simp [intOf]
    · go_wp2_with fail
      refine (HG.out _ _ hl).mono ?_
      rintro r w1 ⟨v1, rfl, o1, g1⟩
      have d0 := (g1.cell (p := ⟨q, 0, none⟩) hq).trans c0
      have d1 := (g1.cell (p := ⟨q, 1, none⟩) hq).trans c1
      have ta := ha.below g1
      clear c0 c1
      go_wp2_with fail
      go_loopw [6, 27] (fun v i wr => (i = .int .i64 0 ∧ wr.ownsRow w.heap.size 29 3 v 0 (flat []) ∧ Below w.heap.size w wr) ∨ (i = .int .i64 1 ∧ wr.ownsRow w.heap.size 29 3 v l.length (flat l) ∧ Below w.heap.size w wr) ∨ (i = .int .i64 2 ∧ wr.ownsRow w.heap.size 29 3 v (l.length + m.length) (flat (l ++ m)) ∧ Below w.heap.size w wr)) (fun _ i _ => 2 - (intOf i).toNat)
      case atStart => exact .inl ⟨rfl, o1, g1⟩
      case round =>
        rcases hrel with ⟨rfl, hown, hbel⟩ | ⟨rfl, hown, hbel⟩ | ⟨rfl, hown, hbel⟩
        · have e0 := (hbel.cell (p := ⟨q, 0, none⟩) hq).trans ((g1.cell (p := ⟨q, 0, none⟩) hq).symm.trans d0)
          have tA := ha.below hbel
          clear d0 d1 o1 g1 ta
          go_wp2_with (at_builtin; refine wpList_app rfl _ _ rfl w.heap.size _ _ _ rfl hown a ca l l.length rfl rfl tA (by omega) hbel.size ?_)
          intro v' w4 hown' hgrow
          have R2 : Below w.heap.size w w4 := hbel.grown hgrow hbel.size (fun q hq => (hown.lt q hq).1)
          go_wp2_with fail
          go_roundw
          case rel => exact .inr (.inl ⟨by go_num, by simpa [flat] using hown', R2⟩)
          case measure => simp [intOf]
        · have e0 := (hbel.cell (p := ⟨q, 1, none⟩) hq).trans ((g1.cell (p := ⟨q, 1, none⟩) hq).symm.trans d1)
          have tB := hb.below hbel
          clear d0 d1 o1 g1 ta
          go_wp2_with (at_builtin; refine wpList_app rfl _ _ rfl w.heap.size _ _ _ rfl hown b cb m m.length rfl rfl tB hl hbel.size ?_)
          intro v' w4 hown' hgrow
          have R2 : Below w.heap.size w w4 := hbel.grown hgrow hbel.size (fun q hq => (hown.lt q hq).1)
          go_wp2_with fail
          go_roundw
          case rel => exact .inr (.inr ⟨by go_num, by rw [flat_append]; exact hown', R2⟩)
          case measure => simp [intOf]
        · go_wp2_with fail
          go_ret
          exact ⟨_, rfl, by rw [List.length_append]; exact hown, hbel⟩
end Go.Proofs.YtmlonfchbkmbcabDoor

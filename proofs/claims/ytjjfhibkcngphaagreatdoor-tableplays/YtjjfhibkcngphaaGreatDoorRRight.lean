/-
  The document's Right of an entry, as a contract.
-/
import Derived.Test.YtjjfhibkcngphaaGreatDoorREnc
import Derived.Test.YtjjfhibkcngphaaGreatDoorEn
namespace Go.Proofs.YtjjfhibkcngphaaGreatDoor
open Go.ChangeShapes Go.WideShapes Go.ChangeAt Go.RowKit

set_option maxHeartbeats 4000000 in
theorem rrX_any (x : En) (w : World) (h : EW w x) (va : AWs x.la) (vw : AWs x.lw) (t0 : 0 ≤ x.mt) (t1 : x.mt < 18446744073709551616) : Calls Tryz.prog 39 #[enV x] w fun e w' => e = .returned (.int .i64 (rightX x.sp)) ∧ Below w.heap.size w w' := by
  have H1 : Hid (Calls Tryz.prog 59 #[.slice x.aa x.la.length x.ca] (ex w x) fun e w' => e = .returned (.tuple #[.string (encodeS x.la), .int .i64 (encodeE x.la)]) ∧ Below (w.heap.size + 1) (ex w x) w') := (show Calls _ _ _ _ _ from by
    have := rencode_any x.aa x.la x.ca (ex w x) (h.a.alloc _) h.na va
    simpa using this)
  have H2 : Hid (∀ w1, Below (w.heap.size + 1) (ex w x) w1 → Calls Tryz.prog 59 #[.slice x.aw x.lw.length x.cw] w1 fun e w' => e = .returned (.tuple #[.string (encodeS x.lw), .int .i64 (encodeE x.lw)]) ∧ Below w1.heap.size w1 w') := (show ∀ w1, _ from fun w1 g => by
    have g' : Below (ex w x).heap.size (ex w x) w1 := by simpa using g
    exact rencode_any x.aw x.lw x.cw w1 ((h.w.alloc _).below g') h.nw vw)
  have HB : Hid (∀ w1, Below (w.heap.size + 1) (ex w x) w1 → Bn w1 w.heap.size x) := (show ∀ w1, _ from fun w1 g => (Bn.new w x).below (by omega) g)
  have HC : Hid (∀ w1, Below (w.heap.size + 1) (ex w x) w1 → Below w.heap.size w w1) := (show ∀ w1, _ from fun w1 g => (show Below w.heap.size w (ex w x) by go_grown).trans (g.mono (by omega)))
  have HR : Hid (rightX x.sp = if tabB x.tab = false then 26 else if encodeE x.la ≠ 0 then encodeE x.la else if encodeE x.lw ≠ 0 then encodeE x.lw
    else if metB x.met = true then 25 else if bits .andNot .u64 x.mt x.mm ≠ 0 then 23 else if goB x.tab x.go = false then 23 else 0) := (show _ = _ from rfl)
  have HM : Hid (bits .andNot .u64 x.mt x.mm = 0 ↔ bits .and .u64 x.mt x.mm = x.mt) := not_iff x.mt x.mm t0 t1
  clear h va vw t0 t1
  cases ht : tabB x.tab with
  | false =>
    rw [HR.out, if_pos ht]
    have ht' : (x.tab < 0) ∨ ¬ (x.tab < 0) ∧ (7 < x.tab) := by unfold tabB at ht; simp at ht; omega
    clear HR ht
    rcases ht' with ht' | ⟨ht', ht2⟩
    all_goals
      go_enter Tryz.func39, Tryz.ntmps39
      go_wp2_with fail
      go_ret
      exact ⟨rfl, by go_grown⟩
  | true =>
    rw [HR.out, if_neg (by rw [ht]; decide)]
    have k1 : ¬ (x.tab < 0) := by unfold tabB at ht; simp at ht; omega
    have k2 : ¬ (7 < x.tab) := by unfold tabB at ht; simp at ht; omega
    clear HR ht
    by_cases ha : encodeE x.la = 0
    · rw [if_neg (by simpa using ha)]
      rw [ha] at H1
      by_cases hw : encodeE x.lw = 0
      · rw [if_neg (by simpa using hw)]
        rw [hw] at H2
        clear ha hw
        generalize encodeS x.la = S1 at *
        generalize encodeS x.lw = S2 at *
        cases hm : metB x.met with
        | true =>
          rw [if_pos rfl]
          have hm' : (x.met < 0) ∨ ¬ (x.met < 0) ∧ (16 < x.met) := by unfold metB at hm; simp at hm; omega
          clear hm
          rcases hm' with hm' | ⟨hm', hm2⟩
          all_goals
            go_enter Tryz.func39, Tryz.ntmps39
            go_wp2_with fail
            refine H1.out.mono ?_
            rintro r w1 ⟨rfl, g1⟩
            obtain ⟨c0, c1, c2, c3, c4, c5, c6, c7, c8, c9⟩ := HB.out _ g1
            go_wp2_with fail
            refine (H2.out _ g1).mono ?_
            rintro r w2 ⟨rfl, g2'⟩
            have g2 : Below (w.heap.size + 1) (ex w x) w2 := btr g1 g2' (by simp)
            clear c0 c1 c2 c3 c4 c5 c6 c7 c8 c9 g1 g2'
            obtain ⟨c0, c1, c2, c3, c4, c5, c6, c7, c8, c9⟩ := HB.out _ g2
            go_wp2_with fail
            go_ret
            exact ⟨rfl, HC.out _ g2⟩
        | false =>
          rw [if_neg (by decide)]
          have hm1 : ¬ (x.met < 0) := by unfold metB at hm; simp at hm; omega
          have hm2 : ¬ (16 < x.met) := by unfold metB at hm; simp at hm; omega
          clear hm
          by_cases hb : bits .andNot .u64 x.mt x.mm = 0
          · rw [if_neg (by simpa using hb)]
            have hb' : (bits .and .u64 x.mt x.mm != x.mt) = false := by simpa using HM.out.1 hb
            clear hb HM
            have hg : (goB x.tab x.go = true ∧ ((x.go != 0) = false ∨ (x.go != 0) = true ∧ ¬ (x.go ≤ x.tab) ∧ ¬ (7 < x.go))) ∨ (goB x.tab x.go = false ∧ (x.go != 0) = true ∧ (x.go ≤ x.tab ∨ ¬ (x.go ≤ x.tab) ∧ 7 < x.go)) := by
              unfold goB tabB
              simp
              omega
            rcases hg with ⟨hg, h0 | ⟨h0, h1, h2⟩⟩ | ⟨hg, h0, h1 | ⟨h1, h2⟩⟩
            · rw [if_neg (by rw [hg]; decide)]
              clear hg
              go_enter Tryz.func39, Tryz.ntmps39
              go_wp2_with fail
              refine H1.out.mono ?_
              rintro r w1 ⟨rfl, g1⟩
              obtain ⟨c0, c1, c2, c3, c4, c5, c6, c7, c8, c9⟩ := HB.out _ g1
              go_wp2_with fail
              refine (H2.out _ g1).mono ?_
              rintro r w2 ⟨rfl, g2'⟩
              have g2 : Below (w.heap.size + 1) (ex w x) w2 := btr g1 g2' (by simp)
              clear c0 c1 c2 c3 c4 c5 c6 c7 c8 c9 g1 g2'
              obtain ⟨c0, c1, c2, c3, c4, c5, c6, c7, c8, c9⟩ := HB.out _ g2
              go_wp2_with fail
              go_ret
              exact ⟨rfl, HC.out _ g2⟩
            · rw [if_neg (by rw [hg]; decide)]
              clear hg
              go_enter Tryz.func39, Tryz.ntmps39
              go_wp2_with fail
              refine H1.out.mono ?_
              rintro r w1 ⟨rfl, g1⟩
              obtain ⟨c0, c1, c2, c3, c4, c5, c6, c7, c8, c9⟩ := HB.out _ g1
              go_wp2_with fail
              refine (H2.out _ g1).mono ?_
              rintro r w2 ⟨rfl, g2'⟩
              have g2 : Below (w.heap.size + 1) (ex w x) w2 := btr g1 g2' (by simp)
              clear c0 c1 c2 c3 c4 c5 c6 c7 c8 c9 g1 g2'
              obtain ⟨c0, c1, c2, c3, c4, c5, c6, c7, c8, c9⟩ := HB.out _ g2
              go_wp2_with fail
              go_ret
              exact ⟨rfl, HC.out _ g2⟩
            · rw [if_pos hg]
              clear hg
              go_enter Tryz.func39, Tryz.ntmps39
              go_wp2_with fail
              refine H1.out.mono ?_
              rintro r w1 ⟨rfl, g1⟩
              obtain ⟨c0, c1, c2, c3, c4, c5, c6, c7, c8, c9⟩ := HB.out _ g1
              go_wp2_with fail
              refine (H2.out _ g1).mono ?_
              rintro r w2 ⟨rfl, g2'⟩
              have g2 : Below (w.heap.size + 1) (ex w x) w2 := btr g1 g2' (by simp)
              clear c0 c1 c2 c3 c4 c5 c6 c7 c8 c9 g1 g2'
              obtain ⟨c0, c1, c2, c3, c4, c5, c6, c7, c8, c9⟩ := HB.out _ g2
              go_wp2_with fail
              go_ret
              exact ⟨rfl, HC.out _ g2⟩
            · rw [if_pos hg]
              clear hg
              go_enter Tryz.func39, Tryz.ntmps39
              go_wp2_with fail
              refine H1.out.mono ?_
              rintro r w1 ⟨rfl, g1⟩
              obtain ⟨c0, c1, c2, c3, c4, c5, c6, c7, c8, c9⟩ := HB.out _ g1
              go_wp2_with fail
              refine (H2.out _ g1).mono ?_
              rintro r w2 ⟨rfl, g2'⟩
              have g2 : Below (w.heap.size + 1) (ex w x) w2 := btr g1 g2' (by simp)
              clear c0 c1 c2 c3 c4 c5 c6 c7 c8 c9 g1 g2'
              obtain ⟨c0, c1, c2, c3, c4, c5, c6, c7, c8, c9⟩ := HB.out _ g2
              go_wp2_with fail
              go_ret
              exact ⟨rfl, HC.out _ g2⟩
          · rw [if_pos (by simpa using hb)]
            have hb' : (bits .and .u64 x.mt x.mm != x.mt) = true := by
              rw [bne_iff_ne]
              exact fun e => hb (HM.out.2 e)
            clear hb HM
            go_enter Tryz.func39, Tryz.ntmps39
            go_wp2_with fail
            refine H1.out.mono ?_
            rintro r w1 ⟨rfl, g1⟩
            obtain ⟨c0, c1, c2, c3, c4, c5, c6, c7, c8, c9⟩ := HB.out _ g1
            go_wp2_with fail
            refine (H2.out _ g1).mono ?_
            rintro r w2 ⟨rfl, g2'⟩
            have g2 : Below (w.heap.size + 1) (ex w x) w2 := btr g1 g2' (by simp)
            clear c0 c1 c2 c3 c4 c5 c6 c7 c8 c9 g1 g2'
            obtain ⟨c0, c1, c2, c3, c4, c5, c6, c7, c8, c9⟩ := HB.out _ g2
            go_wp2_with fail
            go_ret
            exact ⟨rfl, HC.out _ g2⟩
      · rw [if_pos (by simpa using hw)]
        have hw' : (encodeE x.lw != 0) = true := by simpa using hw
        clear ha hw
        generalize encodeS x.la = S1 at *
        generalize encodeS x.lw = S2 at *
        generalize encodeE x.lw = E2 at *
        go_enter Tryz.func39, Tryz.ntmps39
        go_wp2_with fail
        refine H1.out.mono ?_
        rintro r w1 ⟨rfl, g1⟩
        obtain ⟨c0, c1, c2, c3, c4, c5, c6, c7, c8, c9⟩ := HB.out _ g1
        go_wp2_with fail
        refine (H2.out _ g1).mono ?_
        rintro r w2 ⟨rfl, g2'⟩
        have g2 : Below (w.heap.size + 1) (ex w x) w2 := btr g1 g2' (by simp)
        clear c0 c1 c2 c3 c4 c5 c6 c7 c8 c9 g1 g2'
        obtain ⟨c0, c1, c2, c3, c4, c5, c6, c7, c8, c9⟩ := HB.out _ g2
        go_wp2_with fail
        go_ret
        exact ⟨rfl, HC.out _ g2⟩
    · rw [if_pos (by simpa using ha)]
      have ha' : (encodeE x.la != 0) = true := by simpa using ha
      clear ha
      generalize encodeS x.la = S1 at *
      generalize encodeE x.la = E1 at *
      go_enter Tryz.func39, Tryz.ntmps39
      go_wp2_with fail
      refine H1.out.mono ?_
      rintro r w1 ⟨rfl, g1⟩
      go_wp2_with fail
      go_ret
      exact ⟨rfl, HC.out _ g1⟩
end Go.Proofs.YtjjfhibkcngphaaGreatDoor

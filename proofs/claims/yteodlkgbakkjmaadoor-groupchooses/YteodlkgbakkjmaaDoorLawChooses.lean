/-
  GroupChooses: the law's function, walked.
-/
import Derived.Test.YteodlkgbakkjmaaDoorOpen
import Derived.Test.YteodlkgbakkjmaaDoorFew
import Derived.Test.YteodlkgbakkjmaaDoorRChooseW
namespace Go.Proofs.YteodlkgbakkjmaaDoor
open Go.ChangeShapes Go.WideShapes Go.ChangeAt Go.RowKit
set_option linter.unusedVariables false

set_option maxRecDepth 20000 in
set_option maxHeartbeats 8000000 in
theorem chooses_walk (g : Gr) (la : Option Addr) (live : List Bool) (lc : Nat) (n : Int) (w : World) (hg : GIn w g) (hl : Ls w la live) (hn : -9223372036854775808 ≤ n ∧ n < 9223372036854775808) (hd : Cd w) :
    Calls Tryd.prog 4 #[gV g, .slice la live.length lc, .int .i64 n] w fun e w' => e = .returned (.bool true) ∧ Below w.heap.size w w' := by
  have HAw : Hid (∀ w1, Below w.heap.size w w1 → Calls Tryd.prog 10 #[] w1 fun e w' => e = .returned (.bool true) ∧ Below w1.heap.size w1 w') := (show ∀ w1, _ from fun w1 k => awake_any w1 (hd.below k))
  have HF : Hid (∀ w1, Below w.heap.size w w1 → Calls Tryd.prog 11 #[gV g] w1 fun e w' => e = .returned (.bool (fewB g.l)) ∧ Below w1.heap.size w1 w') := (show ∀ w1, _ from fun w1 k => few_any g w1 (hg.bs.below k))
  have HC : Hid (fewB g.l = true → live.length ≤ 1000 → (∀ b ∈ g.l, b.we ≤ 1099511627776) → ∀ w1, Below w.heap.size w w1 → Calls Tryd.prog 23 #[gV g, .slice la live.length lc, .int .i64 n] w1 fun e w' => ∃ a' c' r, e = .returned (.slice a' r.length c') ∧ r.map Bk.b3 = (chooseL g.kd g.l live n).map Bk.b3 ∧ BsF w1.heap.size w' a' r ∧ Below w1.heap.size w1 w') := (show _ → _ → _ → ∀ w1, _ from fun h1 h2 h3 w1 k => choose_any g la live lc n w1 ⟨hg.bs.below k, fewB_sm h1, h3, hl.below k, h2⟩ (by omega) (by omega))
  have HR : Hid (fewB g.l = true → live.length ≤ 1000 → (∀ b ∈ g.l, b.we ≤ 1099511627776) → ∀ w1, Below w.heap.size w w1 → Calls Tryd.prog 24 #[gV g, .slice la live.length lc, .int .i64 n] w1 fun e w' => ∃ a' c', e = .returned (.slice a' (refL g.kd g.l live n).length c') ∧ Bs w' a' (refL g.kd g.l live n) ∧ Below w1.heap.size w1 w') := (show _ → _ → _ → ∀ w1, _ from fun h1 h2 h3 w1 k => by
    refine (rchoose_any g la live lc n w1 ⟨hg.bs.below k, fewB_sm h1, h3, hl.below k, h2⟩ hg.cl hg.cm (by omega) (by omega)).mono ?_
    rintro e w' ⟨a', c', rfl, h4, h5⟩
    refine ⟨a', c', rfl, bs_sub (hg.bs.below k) (fun b hb => ?_) h5 h4, h5⟩
    rw [← choose_ref h3] at hb
    exact chooseL_mem hb)
  have HE : Hid ((∀ b ∈ g.l, b.we ≤ 1099511627776) → chooseL g.kd g.l live n = refL g.kd g.l live n) := (show _ → _ from fun h => choose_ref h _ _ _)
  have HSm : Hid (fewB g.l = true → Sm (refL g.kd g.l live n) ∨ ¬ (∀ b ∈ g.l, b.we ≤ 1099511627776)) := (show _ → _ from fun h => by
    by_cases hw : ∀ b ∈ g.l, b.we ≤ 1099511627776
    · left
      have hs := fewB_sm h
      rw [← choose_ref hw]
      refine ⟨?_, fun b hb => hs.a b (chooseL_mem hb)⟩
      unfold chooseL
      split
      · exact hs.n
      · split
        · rw [List.length_take]; omega
        · split
          · have := pickL_len ((g.l.filter fun b => alvB live b.wa).filter fun b => decide (0 < b.we)) n; omega
          · simp
    · exact .inr hw)
  have HS : Hid (∀ (a' : Option Addr) (r : List Bk) (c' : Nat) (b' : Option Addr) (s : List Bk) (d' : Nat) w1, Bs w1 a' r → Bs w1 b' s → Sm r → Sm s → r.map Bk.b3 = s.map Bk.b3 → Calls Tryd.prog 20 #[.agg #[.int .i64 0, .int .i64 0, .slice a' r.length c'], .agg #[.int .i64 0, .int .i64 0, .slice b' s.length d']] w1 fun e w' => e = .returned (.bool true) ∧ Below w1.heap.size w1 w') := (show ∀ (a' : Option Addr) (r : List Bk) (c' : Nat) (b' : Option Addr) (s : List Bk) (d' : Nat) w1, _ from fun a' r c' b' s d' w1 h1 h2 h3 h4 h5 => by
    have := sGrp_any 0 0 a' r c' 0 0 b' s d' w1 h1 h2 h3 h4
    rw [h5, sGrp, sBks_refl] at this
    exact this)
  have HBs : Hid (∀ w', Below w.heap.size w w' → Bs w' g.a g.l) := (show ∀ w', _ from fun w' k => hg.bs.below k)
  obtain ⟨V, hV⟩ : ∃ V, gx w g = V := ⟨_, rfl⟩
  have GV : Below w.heap.size w V := by rw [← hV]; go_grown
  have zV : w.heap.size < V.heap.size := by rw [← hV]; simp
  have hc := Cg.new w g
  rw [hV] at hc
  have HX : Hid (∀ w', Below V.heap.size V w' → (w'.cell? ⟨w.heap.size, 0, none⟩ = some (.int .i64 g.id) ∧ w'.cell? ⟨w.heap.size, 1, none⟩ = some (.int .i64 g.kd) ∧ w'.cell? ⟨w.heap.size, 2, none⟩ = some (.slice g.a g.l.length g.c)) ∧ Below w.heap.size w w' ∧ w.heap.size < w'.heap.size) := (show ∀ w', _ from fun w' k => ⟨hc.below zV k, btr GV k (Nat.le_refl _), Nat.lt_of_lt_of_le zV k.size⟩)
  have HV : Hid (w.alloc (.cells #[.int .i64 g.id, .int .i64 g.kd, .slice g.a g.l.length g.c] 33) = V) := hV
  obtain ⟨⟨k0, k1, k2⟩, _, kz⟩ := HX.out V (Below.refl _ _)
  clear hc hV hd hg zV hl
  go_enter Tryd.func4, Tryd.ntmps4
  go_wp2_with fail
  rw [HV.out]
  refine (HF.out V GV).mono ?_
  rintro e w1 ⟨rfl, g1⟩
  obtain ⟨⟨c0, c1, c2⟩, G1, z1⟩ := HX.out w1 g1
  have Hg1 : Hid (Below V.heap.size V w1) := g1
  clear k0 k1 k2 g1 kz
  cases hfw : fewB g.l with
  | false =>
    go_wp2_with fail
    refine (HAw.out w1 G1).mono ?_
    rintro e w2 ⟨rfl, g2⟩
    have G2 := btr G1 g2 (Nat.le_refl _)
    clear g2
    go_wp2_with fail
    go_ret
    exact ⟨rfl, G2⟩
  | true =>
    by_cases hln : live.length ≤ 100
    case neg =>
      have hlb : decide ((100 : Int) < live.length) = true := decide_eq_true (by omega)
      clear hln
      go_wp2_with fail
      refine (HAw.out w1 G1).mono ?_
      rintro e w2 ⟨rfl, g2⟩
      have G2 := btr G1 g2 (Nat.le_refl _)
      clear g2
      go_wp2_with fail
      go_ret
      exact ⟨rfl, G2⟩
    case pos =>
      have hlb : decide ((100 : Int) < live.length) = false := decide_eq_false (by omega)
      have hls : g.l.length ≤ 100 := (fewB_sm hfw).n
      have HLn : Hid (live.length ≤ 1000) := (show _ ≤ _ by omega)
      have HFW : Hid (fewB g.l = true) := hfw
      have HBw : Hid (Bs w1 g.a g.l) := HBs.out w1 G1
      go_wp2_with fail
      go_loopw [7] (fun v wr => ∃ q : Nat, q ≤ g.l.length ∧ v = .int .i64 q ∧ Hid (∀ i (hi : i < g.l.length), i < q → g.l[i].we ≤ 1099511627776) ∧ wr = w1) (fun v _ => g.l.length - (intOf v).toNat)
      case atStart => exact ⟨0, Nat.zero_le _, rfl, (show ∀ i (hi : i < g.l.length), _ from fun i _ h => by omega), rfl⟩
      case round =>
        obtain ⟨q, hq, rfl, HP, rfl⟩ := hrel
        by_cases hlt : q < g.l.length
        · obtain ⟨b, o, ea, hb, hcc⟩ := HBw.out.at hlt
          obtain ⟨d0, d1, d2⟩ := hcc q hlt
          rw [ea] at c2
          have HN : Hid (g.l[q].we ≤ 1099511627776 → ∀ i (hi : i < g.l.length), i < q + 1 → g.l[i].we ≤ 1099511627776) := (show _ → _ from fun h i hi hlt' => by
            by_cases e : i = q
            · subst e; exact h
            · exact HP.out i hi (by omega))
          clear hcc HP
          generalize g.l[q] = X at *
          by_cases hx : X.we ≤ 1099511627776
          · have hxb : decide ((1099511627776 : Int) < X.we) = false := decide_eq_false (by omega)
            have HN' : Hid (∀ i (hi : i < g.l.length), i < q + 1 → g.l[i].we ≤ 1099511627776) := HN.out hx
            clear hx HN
            go_wp2_with fail
            go_roundw
            case rel => exact ⟨q + 1, by omega, by go_num, HN', trivial⟩
            case measure => simp [intOf]; omega
          · have hxb : decide ((1099511627776 : Int) < X.we) = true := decide_eq_true (by omega)
            clear hx HN
            go_wp2_with fail
            refine (HAw.out _ G1).mono ?_
            rintro e w2 ⟨rfl, g2⟩
            have G2 := btr G1 g2 (Nat.le_refl _)
            clear g2
            go_wp2_with fail
            go_ret
            exact ⟨rfl, G2⟩
        · have e : q = g.l.length := by omega
          subst e
          have hwe : ∀ b ∈ g.l, b.we ≤ 1099511627776 := fun b hb => by
            obtain ⟨i, hi, rfl⟩ := List.getElem_of_mem hb
            exact HP.out i hi hi
          have HWe : Hid (∀ b ∈ g.l, b.we ≤ 1099511627776) := hwe
          have HCC : Hid (∀ w1, Below w.heap.size w w1 → Calls Tryd.prog 23 #[gV g, .slice la live.length lc, .int .i64 n] w1 fun e w' => ∃ a' c' r, e = .returned (.slice a' r.length c') ∧ r.map Bk.b3 = (refL g.kd g.l live n).map Bk.b3 ∧ BsF w1.heap.size w' a' r ∧ Below w1.heap.size w1 w') := (show ∀ w1, _ from by
            have := HC.out HFW.out HLn.out hwe
            rwa [HE.out hwe] at this)
          have HRR : Hid (∀ w1, Below w.heap.size w w1 → Calls Tryd.prog 24 #[gV g, .slice la live.length lc, .int .i64 n] w1 fun e w' => ∃ a' c', e = .returned (.slice a' (refL g.kd g.l live n).length c') ∧ Bs w' a' (refL g.kd g.l live n) ∧ Below w1.heap.size w1 w') := HR.out HFW.out HLn.out hwe
          have HSS : Hid (Sm (refL g.kd g.l live n)) := (show Sm _ from (HSm.out HFW.out).resolve_right (fun h => h hwe))
          clear HP hwe hlb hfw HC HR HE HSm hlt hq
          generalize refL g.kd g.l live n = RL at *
          go_wp2_with fail
          refine (HCC.out _ G1).mono ?_
          rintro e w2 ⟨a2, c2', r2, rfl, e2, b2, g2⟩
          have gg2 : Below V.heap.size V w2 := btr Hg1.out g2 (Nat.le_refl _)
          obtain ⟨⟨x0, x1, x2⟩, G2, z2⟩ := HX.out w2 gg2
          have Hg2 : Hid (Below V.heap.size V w2) := gg2
          have HB2 : Hid (Bs w2 a2 r2) := b2.b
          have HE2 : Hid (r2.map Bk.b3 = RL.map Bk.b3) := e2
          clear g2 gg2 b2 e2 c0 c1 c2 z1
          go_wp2_with fail
          obtain ⟨U, hU⟩ : ∃ U, w2.alloc (.cells #[.int .i64 0, .int .i64 0, .slice a2 r2.length c2'] 33) = U := ⟨_, rfl⟩
          have gU : Below w2.heap.size w2 U := by rw [← hU]; go_grown
          have zU : w2.heap.size < U.heap.size := by rw [← hU]; simp
          have u0 : U.cell? ⟨w2.heap.size, 0, none⟩ = some (.int .i64 0) := by rw [← hU]; simp
          have u1 : U.cell? ⟨w2.heap.size, 1, none⟩ = some (.int .i64 0) := by rw [← hU]; simp
          have u2 : U.cell? ⟨w2.heap.size, 2, none⟩ = some (.slice a2 r2.length c2') := by rw [← hU]; simp
          rw [hU]
          refine (HRR.out U (btr G2 gU (Nat.le_refl _))).mono ?_
          rintro e w3 ⟨a3, c3, rfl, b3, g3⟩
          have v0 : w3.cell? ⟨w2.heap.size, 0, none⟩ = some (.int .i64 0) := (g3.cell (p := ⟨w2.heap.size, 0, none⟩) zU).trans u0
          have v1 : w3.cell? ⟨w2.heap.size, 1, none⟩ = some (.int .i64 0) := (g3.cell (p := ⟨w2.heap.size, 1, none⟩) zU).trans u1
          have v2 : w3.cell? ⟨w2.heap.size, 2, none⟩ = some (.slice a2 r2.length c2') := (g3.cell (p := ⟨w2.heap.size, 2, none⟩) zU).trans u2
          have z3 : w2.heap.size < w3.heap.size := Nat.lt_of_lt_of_le zU g3.size
          have HG3 : Hid (Below w.heap.size w w3) := btr (btr G2 gU (Nat.le_refl _)) g3 (Nat.le_refl _)
          have HB3 : Hid (Bs w3 a3 RL) := b3
          have HB2' : Hid (Bs w3 a2 r2) := (show Bs _ _ _ from (HB2.out.below gU).below g3)
          clear hU gU zU u0 u1 u2 b3 g3 x0 x1 x2 z2 HB2
          have hr2 : r2.length = RL.length := by have := congrArg List.length HE2.out; simpa using this
          have HSr : Hid (Sm r2) := (show Sm _ from sm_of (g := ⟨0, 0, none, RL, 0⟩) (g' := ⟨0, 0, none, r2, 0⟩) HSS.out (by unfold Gr.p; rw [HE2.out]))
          clear hr2
          go_wp2_with fail
          have hs := HS.out a2 r2 c2' a3 RL c3 (w3.alloc (.cells #[.int .i64 0, .int .i64 0, .slice a3 RL.length c3] 33)) (HB2'.out.alloc _) (HB3.out.alloc _) HSr.out HSS.out HE2.out
          refine hs.mono ?_
          clear hs
          rintro e w4 ⟨rfl, g4⟩
          have G4 : Below w.heap.size w w4 := btr (btr HG3.out (by go_grown) (Nat.le_refl _)) g4 (Nat.le_refl _)
          clear g4 v0 v1 v2 z3
          go_wp2_with fail
          refine (HAw.out _ G4).mono ?_
          rintro e w5 ⟨rfl, g5⟩
          have G5 := btr G4 g5 (Nat.le_refl _)
          clear g5
          go_wp2_with fail
          go_ret
          exact ⟨rfl, G5⟩
end Go.Proofs.YteodlkgbakkjmaaDoor

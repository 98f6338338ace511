/-
  GroupOne: the law's function, walked.
-/
import Derived.Test.YteodlkgbakkjmaaDoorOpen
import Derived.Test.YteodlkgbakkjmaaDoorFew
import Derived.Test.YteodlkgbakkjmaaDoorRChooseW
namespace Go.Proofs.YteodlkgbakkjmaaDoor
open Go.ChangeShapes Go.WideShapes Go.ChangeAt Go.RowKit
set_option linter.unusedVariables false

/-- The place of the first bucket from q on that is alive; -1: there is none. -/
def Fst (live : List Bool) (l : List Bk) (q : Nat) (m : Int) : Prop :=
  (m = -1 ∧ ∀ i (hi : i < l.length), q ≤ i → alvB live l[i].wa = false) ∨ ∃ k : Nat, m = k ∧ q ≤ k ∧ ∃ hk : k < l.length, alvB live l[k].wa = true ∧ ∀ i (hi : i < l.length), q ≤ i → i < k → alvB live l[i].wa = false
theorem Fst.hit {live : List Bool} {l : List Bk} {q : Nat} (h : q < l.length) (ha : alvB live l[q].wa = true) : Fst live l q q := .inr ⟨q, rfl, Nat.le_refl _, h, ha, fun i _ h1 h2 => by omega⟩
theorem Fst.miss {live : List Bool} {l : List Bk} {q : Nat} {m : Int} (h : q < l.length) (ha : alvB live l[q].wa = false) (hF : Fst live l (q + 1) m) : Fst live l q m := by
  rcases hF with ⟨e, h1⟩ | ⟨k, e, hk, hl, h1, h2⟩
  · refine .inl ⟨e, fun i hi hq => ?_⟩
    by_cases e2 : i = q
    · subst e2; exact ha
    · exact h1 i hi (by omega)
  · refine .inr ⟨k, e, by omega, hl, h1, fun i hi hq hik => ?_⟩
    by_cases e2 : i = q
    · subst e2; exact ha
    · exact h2 i hi (by omega) hik
theorem Fst.none {live : List Bool} {l : List Bk} (h : Fst live l 0 (-1)) : l.filter (fun b => alvB live b.wa) = [] := by
  rcases h with ⟨_, h1⟩ | ⟨k, e, _⟩
  · exact filt_none (f := fun b : Bk => alvB live b.wa) (fun j hj _ => h1 j hj (Nat.zero_le _))
  · omega
theorem Fst.some {live : List Bool} {l : List Bk} {k : Nat} (h : Fst live l 0 k) : ∃ hk : k < l.length, (l.filter fun b => alvB live b.wa).take 1 = [l[k]] := by
  rcases h with ⟨e, _⟩ | ⟨k', e, _, hl, h1, h2⟩
  · omega
  · have : k' = k := by omega
    subst this
    exact ⟨hl, filt_first (f := fun b : Bk => alvB live b.wa) hl (fun j hj hlt => h2 j hj (Nat.zero_le _) hlt) h1⟩
/-- What the law asks of the answer. -/
structure OneW (k : Int) (l : List Bk) (live : List Bool) (n : Int) (r : List Bk) : Prop where
  all : k = 1 ∨ k = 3 → r.length = l.length
  fail : k = 4 → r.map Bk.b3 = ((l.filter fun b => alvB live b.wa).take 1).map Bk.b3
  sel : k = 2 → r.length ≤ 1 ∧ (∀ b ∈ r, 0 < b.we) ∧ (l.filter (fun b => alvB live b.wa) = [] → r = [])
  none : k ≠ 1 → k ≠ 2 → k ≠ 3 → k ≠ 4 → r = []
theorem one_of {k : Int} {l : List Bk} {live : List Bool} {n : Int} {r : List Bk} (h : r.map Bk.b3 = (chooseL k l live n).map Bk.b3) : OneW k l live n r := by
  have hl : r.length = (chooseL k l live n).length := by have := congrArg List.length h; simpa using this
  refine ⟨fun hk => ?_, fun hk => ?_, fun hk => ?_, fun h1 h2 h3 h4 => ?_⟩
  · rw [hl]; unfold chooseL; rw [if_pos hk]
  · subst hk
    rw [h]; unfold chooseL; rw [if_neg (by decide), if_pos rfl]
  · subst hk
    have e : chooseL 2 l live n = pickL ((l.filter fun b => alvB live b.wa).filter fun b => decide (0 < b.we)) n := by unfold chooseL; rw [if_neg (by decide), if_neg (by decide), if_pos rfl]
    rw [e] at h hl
    refine ⟨by rw [hl]; exact pickL_len _ _, fun b hb => ?_, fun he => ?_⟩
    · have hm : b.b3 ∈ (pickL ((l.filter fun b => alvB live b.wa).filter fun b => decide (0 < b.we)) n).map Bk.b3 := by rw [← h]; exact List.mem_map.2 ⟨b, hb, rfl⟩
      obtain ⟨x, hx, ex⟩ := List.mem_map.1 hm
      have hw : x.we = b.we := congrArg (fun y : B3 => y.2.1) ex
      rw [← hw]
      exact of_decide_eq_true (List.mem_filter.1 (pickL_mem hx)).2
    · rw [he] at hl
      have : (pickL (([] : List Bk).filter fun b => decide (0 < b.we)) n).length = 0 := by
        rw [List.filter_nil]
        unfold pickL atL
        split <;> simp
      exact List.length_eq_zero_iff.1 (hl.trans this)
  · have : chooseL k l live n = [] := by unfold chooseL; rw [if_neg (by omega), if_neg h4, if_neg h2]
    rw [this] at hl
    exact List.length_eq_zero_iff.1 hl
set_option maxRecDepth 20000 in
set_option maxHeartbeats 16000000 in
theorem one_walk (g : Gr) (la : Option Addr) (live : List Bool) (lc : Nat) (n : Int) (w : World) (hg : GIn w g) (hl : Ls w la live) (hn : -9223372036854775808 ≤ n ∧ n < 9223372036854775808) (hd : Cd w) :
    Calls Tryd.prog 6 #[gV g, .slice la live.length lc, .int .i64 n] w fun e w' => e = .returned (.bool true) ∧ Below w.heap.size w w' := by
  obtain ⟨id, kd, ga, l, gc⟩ := g
  have HAw : Hid (∀ w1, Below w.heap.size w w1 → Calls Tryd.prog 10 #[] w1 fun e w' => e = .returned (.bool true) ∧ Below w1.heap.size w1 w') := (show ∀ w1, _ from fun w1 k => awake_any w1 (hd.below k))
  have HF : Hid (∀ w1, Below w.heap.size w w1 → Calls Tryd.prog 11 #[.agg #[.int .i64 id, .int .i64 kd, .slice ga l.length gc]] w1 fun e w' => e = .returned (.bool (fewB l)) ∧ Below w1.heap.size w1 w') := (show ∀ w1, _ from fun w1 k => few_any ⟨id, kd, ga, l, gc⟩ w1 (hg.bs.below k))
  have HC : Hid (fewB l = true → live.length ≤ 1000 → (∀ b ∈ l, b.we ≤ 1099511627776) → ∀ w1, Below w.heap.size w w1 → Calls Tryd.prog 23 #[.agg #[.int .i64 id, .int .i64 kd, .slice ga l.length gc], .slice la live.length lc, .int .i64 n] w1 fun e w' => ∃ a' c' r, e = .returned (.slice a' r.length c') ∧ OneW kd l live n r ∧ Sm r ∧ Bs w' a' r ∧ Below w1.heap.size w1 w') := (show _ → _ → _ → ∀ w1, _ from fun h1 h2 h3 w1 k => by
    refine (choose_any ⟨id, kd, ga, l, gc⟩ la live lc n w1 ⟨hg.bs.below k, fewB_sm h1, h3, hl.below k, h2⟩ (by omega) (by omega)).mono ?_
    rintro e w' ⟨a', c', r, rfl, h4, h5, h6⟩
    have hs := fewB_sm h1
    have hsc : Sm (chooseL kd l live n) := ⟨by
      unfold chooseL
      split
      · exact hs.n
      · split
        · rw [List.length_take]; omega
        · split
          · have := pickL_len ((l.filter fun b => alvB live b.wa).filter fun b => decide (0 < b.we)) n; omega
          · simp, fun b hb => hs.a b (chooseL_mem hb)⟩
    exact ⟨a', c', r, rfl, one_of h4, sm_of (g := ⟨0, 0, none, chooseL kd l live n, 0⟩) (g' := ⟨0, 0, none, r, 0⟩) hsc (by unfold Gr.p; rw [h4]), h5.b, h6⟩)
  have HS : Hid (∀ (a' : Option Addr) (r : List Bk) (c' : Nat) (b' : Option Addr) (s : List Bk) (d' : Nat) w1, Bs w1 a' r → Bs w1 b' s → Sm r → Sm s → r.map Bk.b3 = s.map Bk.b3 → Calls Tryd.prog 20 #[.agg #[.int .i64 0, .int .i64 0, .slice a' r.length c'], .agg #[.int .i64 0, .int .i64 0, .slice b' s.length d']] w1 fun e w' => e = .returned (.bool true) ∧ Below w1.heap.size w1 w') := (show ∀ (a' : Option Addr) (r : List Bk) (c' : Nat) (b' : Option Addr) (s : List Bk) (d' : Nat) w1, _ from fun a' r c' b' s d' w1 h1 h2 h3 h4 h5 => by
    have := sGrp_any 0 0 a' r c' 0 0 b' s d' w1 h1 h2 h3 h4
    rw [h5, sGrp, sBks_refl] at this
    exact this)
  have HBs : Hid (∀ w', Below w.heap.size w w' → Bs w' ga l ∧ Ls w' la live) := (show ∀ w', _ from fun w' k => ⟨hg.bs.below k, hl.below k⟩)
  have hcl : l.length ≤ gc := hg.cl
  have hcm : gc ≤ 9223372036854775807 := hg.cm
  obtain ⟨V, hV⟩ : ∃ V, gx w ⟨id, kd, ga, l, gc⟩ = V := ⟨_, rfl⟩
  have GV : Below w.heap.size w V := by rw [← hV]; go_grown
  have zV : w.heap.size < V.heap.size := by rw [← hV]; simp
  have hc := Cg.new w ⟨id, kd, ga, l, gc⟩
  rw [hV] at hc
  have HX : Hid (∀ w', Below V.heap.size V w' → (w'.cell? ⟨w.heap.size, 0, none⟩ = some (.int .i64 id) ∧ w'.cell? ⟨w.heap.size, 1, none⟩ = some (.int .i64 kd) ∧ w'.cell? ⟨w.heap.size, 2, none⟩ = some (.slice ga l.length gc)) ∧ Below w.heap.size w w' ∧ w.heap.size < w'.heap.size) := (show ∀ w', _ from fun w' k => ⟨hc.below zV k, btr GV k (Nat.le_refl _), Nat.lt_of_lt_of_le zV k.size⟩)
  have HV : Hid (w.alloc (.cells #[.int .i64 id, .int .i64 kd, .slice ga l.length gc] 33) = V) := hV
  obtain ⟨⟨k0, k1, k2⟩, _, kz⟩ := HX.out V (Below.refl _ _)
  show Calls Tryd.prog 6 #[.agg #[.int .i64 id, .int .i64 kd, .slice ga l.length gc], .slice la live.length lc, .int .i64 n] w fun e w' => e = .returned (.bool true) ∧ Below w.heap.size w w'
  clear hc hV hd hg zV hl
  go_enter Tryd.func6, Tryd.ntmps6
  go_wp2_with fail
  rw [HV.out]
  refine (HF.out V GV).mono ?_
  rintro e w1 ⟨rfl, g1⟩
  obtain ⟨⟨c0, c1, c2⟩, G1, z1⟩ := HX.out w1 g1
  have Hg1 : Hid (Below V.heap.size V w1) := g1
  clear k0 k1 k2 g1 kz
  cases hfw : fewB l with
  | false =>
    go_wp2_with fail
    refine (HAw.out _ G1).mono ?_
    rintro e w9 ⟨rfl, g9⟩
    have G9 := btr G1 g9 (Nat.le_refl _)
    clear g9
    go_wp2_with fail
    go_ret
    exact ⟨rfl, G9⟩
  | true =>
    by_cases hln : live.length ≤ 100
    case neg =>
      have hlb : decide ((100 : Int) < live.length) = true := decide_eq_true (by omega)
      clear hln
      go_wp2_with fail
      refine (HAw.out _ G1).mono ?_
      rintro e w9 ⟨rfl, g9⟩
      have G9 := btr G1 g9 (Nat.le_refl _)
      clear g9
      go_wp2_with fail
      go_ret
      exact ⟨rfl, G9⟩
    case pos =>
      have hlb : decide ((100 : Int) < live.length) = false := decide_eq_false (by omega)
      have hls : l.length ≤ 100 := (fewB_sm hfw).n
      have HLn : Hid (live.length ≤ 1000) := (show _ ≤ _ by omega)
      have HFW : Hid (fewB l = true) := hfw
      have HBw : Hid (Bs w1 ga l ∧ Ls w1 la live) := HBs.out w1 G1
      have H0 : Hid (Fst live l l.length (-1)) := (show Fst _ _ _ _ from .inl ⟨rfl, fun i hi h => by omega⟩)
      go_wp2_with fail
      go_loopw [7, 8] (fun v7 v wr => ∃ (q : Nat) (m : Int), q ≤ l.length ∧ v = .int .i64 ((q : Int) - 1) ∧ v7 = .int .i64 m ∧ Hid (Fst live l q m) ∧ Hid (∀ i (hi : i < l.length), q ≤ i → l[i].we ≤ 1099511627776) ∧ wr = w1) (fun _ v _ => (intOf v + 1).toNat)
      case atStart => exact ⟨l.length, -1, Nat.le_refl _, rfl, rfl, H0, (show ∀ i (hi : i < l.length), _ from fun i _ h => by omega), rfl⟩
      case round =>
        obtain ⟨q, m, hq, rfl, rfl, HFs, HW, rfl⟩ := hrel
        cases q with
        | succ q =>
          have hlt : q < l.length := by omega
          have eq1 : ((q + 1 : Nat) : Int) - 1 = (q : Int) := by omega
          rw [eq1]
          obtain ⟨b, o, rfl, hb, hcc⟩ := HBw.out.1.at hlt
          obtain ⟨d0, d1, d2⟩ := hcc q hlt
          have HLs : Hid (Ls wr la live) := HBw.out.2
          have HN : Hid (l[q].we ≤ 1099511627776 → ∀ i (hi : i < l.length), q ≤ i → l[i].we ≤ 1099511627776) := (show _ → _ from fun h i hi hlt' => by
            by_cases e : i = q
            · subst e; exact h
            · exact HW.out i hi (by omega))
          obtain ⟨X, hX⟩ : ∃ X, l[q] = X := ⟨_, rfl⟩
          have HX' : Hid (l[q] = X) := hX
          rw [hX] at d0 d1 d2 HN
          clear hcc HW hX
          by_cases hx : X.we ≤ 1099511627776
          case neg =>
            have hxb : decide ((1099511627776 : Int) < X.we) = true := decide_eq_true (by omega)
            clear hx HN
            go_wp2_with fail
            refine (HAw.out _ G1).mono ?_
            rintro e w9 ⟨rfl, g9⟩
            have G9 := btr G1 g9 (Nat.le_refl _)
            clear g9
            go_wp2_with fail
            go_ret
            exact ⟨rfl, G9⟩
          case pos =>
            have hxb : decide ((1099511627776 : Int) < X.we) = false := decide_eq_false (by omega)
            have HWn : Hid (∀ i (hi : i < l.length), q ≤ i → l[i].we ≤ 1099511627776) := HN.out hx
            clear hx HN
            obtain ⟨wa, we, xa, xl, xc⟩ := X
            simp only at d0 d1 d2 hxb
            cases h0 : (wa == 0) with
            | true =>
              have HAV : Hid (alvB live l[q].wa = true) := (show _ = _ by rw [HX'.out]; unfold alvB; simp only; rw [h0]; rfl)
              have HN' : Hid (Fst live l q (q : Int)) := (show Fst _ _ _ _ from Fst.hit hlt HAV.out)
              clear HFs HAV
              go_wp2_with fail
              go_roundw
              case rel => exact ⟨q, (q : Int), by omega, by go_num, rfl, HN', HWn, trivial⟩
              case measure => simp [intOf]
            | false =>
              have hne : wa ≠ 0 := by simpa using h0
              by_cases h1 : 0 < wa
              · have e1 : decide (0 < wa) = true := decide_eq_true h1
                by_cases h2 : wa < live.length
                · have e2 : decide (wa < (live.length : Int)) = true := decide_eq_true h2
                  have hlv : wa.toNat < live.length := by omega
                  obtain ⟨lg, lo, rfl, hlg, hlc⟩ : ∃ g o, la = some ⟨g, o, none⟩ ∧ g < wr.heap.size ∧ ∀ i (h : i < live.length), wr.cell? ⟨g, o + i, none⟩ = some (.bool live[i]) := by
                    rcases HLs.out with h | h
                    · subst h; simp at hlv
                    · exact h
                  have hcell := hlc wa.toNat hlv
                  have HA : Hid (alvB live l[q].wa = live[wa.toNat]) := (show _ = _ by
                    have hi : inB wa 1 ((live.length : Int) - 1) = true := by unfold inB; simp; omega
                    rw [HX'.out]
                    unfold alvB livB
                    simp only
                    rw [h0, hi]
                    simp [List.getD, hlv])
                  clear hlc HLs
                  cases h3 : live[wa.toNat] with
                  | true =>
                    rw [h3] at hcell
                    have HAV : Hid (alvB live l[q].wa = true) := (show _ = _ by rw [HA.out, h3])
                    clear h3 HA
                    have HN' : Hid (Fst live l q (q : Int)) := (show Fst _ _ _ _ from Fst.hit hlt HAV.out)
                    clear HFs HAV
                    go_wp2_with fail
                    go_roundw
                    case rel => exact ⟨q, (q : Int), by omega, by go_num, rfl, HN', HWn, trivial⟩
                    case measure => simp [intOf]
                  | false =>
                    rw [h3] at hcell
                    have HAV : Hid (alvB live l[q].wa = false) := (show _ = _ by rw [HA.out, h3])
                    clear h3 HA
                    have HN' : Hid (Fst live l q m) := (show Fst _ _ _ _ from Fst.miss hlt HAV.out HFs.out)
                    clear HFs HAV
                    go_wp2_with fail
                    go_roundw
                    case rel => exact ⟨q, m, by omega, by go_num, rfl, HN', HWn, trivial⟩
                    case measure => simp [intOf]
                · have e2 : decide (wa < (live.length : Int)) = false := decide_eq_false h2
                  have HAV : Hid (alvB live l[q].wa = false) := (show _ = _ by
                    have hi : inB wa 1 ((live.length : Int) - 1) = false := by unfold inB; simp; omega
                    rw [HX'.out]; unfold alvB; simp only; rw [h0, hi]; rfl)
                  clear h2
                  have HN' : Hid (Fst live l q m) := (show Fst _ _ _ _ from Fst.miss hlt HAV.out HFs.out)
                  clear HFs HAV
                  go_wp2_with fail
                  go_roundw
                  case rel => exact ⟨q, m, by omega, by go_num, rfl, HN', HWn, trivial⟩
                  case measure => simp [intOf]
              · have e1 : decide (0 < wa) = false := decide_eq_false h1
                have HAV : Hid (alvB live l[q].wa = false) := (show _ = _ by
                  have hi : inB wa 1 ((live.length : Int) - 1) = false := by unfold inB; simp; omega
                  rw [HX'.out]; unfold alvB; simp only; rw [h0, hi]; rfl)
                clear h1
                have HN' : Hid (Fst live l q m) := (show Fst _ _ _ _ from Fst.miss hlt HAV.out HFs.out)
                clear HFs HAV
                go_wp2_with fail
                go_roundw
                case rel => exact ⟨q, m, by omega, by go_num, rfl, HN', HWn, trivial⟩
                case measure => simp [intOf]
        | zero =>
          have hwe : ∀ b ∈ l, b.we ≤ 1099511627776 := fun b hb => by
            obtain ⟨i, hi, rfl⟩ := List.getElem_of_mem hb
            exact HW.out i hi (Nat.zero_le _)
          have HCC := HC.out HFW.out HLn.out hwe
          have HCC : Hid (∀ w1, Below w.heap.size w w1 → Calls Tryd.prog 23 #[.agg #[.int .i64 id, .int .i64 kd, .slice ga l.length gc], .slice la live.length lc, .int .i64 n] w1 fun e w' => ∃ a' c' r, e = .returned (.slice a' r.length c') ∧ OneW kd l live n r ∧ Sm r ∧ Bs w' a' r ∧ Below w1.heap.size w1 w') := HCC
          have HSl : Hid (Sm l) := fewB_sm HFW.out
          clear hwe HC HW
          go_wp2_with fail
          refine (HCC.out _ G1).mono ?_
          rintro e w2 ⟨a2, c2', r, rfl, o2, s2, b2, g2⟩
          have gg2 : Below V.heap.size V w2 := btr Hg1.out g2 (Nat.le_refl _)
          obtain ⟨⟨x0, x1, x2⟩, G2, z2⟩ := HX.out w2 gg2
          have HO : Hid (OneW kd l live n r) := o2
          have HSr : Hid (Sm r) := s2
          have HB2 : Hid (Bs w2 a2 r) := b2
          have HBl : Hid (Bs w2 ga l) := (HBs.out w2 G2).1
          clear g2 gg2 b2 s2 o2 c0 c1 c2 z1
          rcases kind4 kd with rfl | rfl | rfl | rfl | ⟨b1, b2, b3, b4, hk⟩
          · have hlen := HO.out.all (.inl rfl)
            have hlb2 : ((r.length : Int) == (l.length : Int)) = true := by simp [hlen]
            clear hlen
            go_wp2_with fail
            refine (HAw.out _ G2).mono ?_
            rintro e w9 ⟨rfl, g9⟩
            have G9 := btr G2 g9 (Nat.le_refl _)
            clear g9
            go_wp2_with fail
            go_ret
            exact ⟨rfl, G9⟩
          · obtain ⟨hl1, hpos, hnone⟩ := HO.out.sel rfl
            rcases HFs.out with ⟨rfl, hno⟩ | ⟨k, rfl, _, hk, _, _⟩
            · have hr : r = [] := hnone (Fst.none (.inl ⟨rfl, hno⟩))
              subst hr
              clear hno hnone hpos hl1
              go_wp2_with fail
              refine (HAw.out _ G2).mono ?_
              rintro e w9 ⟨rfl, g9⟩
              have G9 := btr G2 g9 (Nat.le_refl _)
              clear g9
              go_wp2_with fail
              go_ret
              exact ⟨rfl, G9⟩
            · cases r with
              | nil =>
                clear hnone hpos hl1
                go_wp2_with fail
                refine (HAw.out _ G2).mono ?_
                rintro e w9 ⟨rfl, g9⟩
                have G9 := btr G2 g9 (Nat.le_refl _)
                clear g9
                go_wp2_with fail
                go_ret
                exact ⟨rfl, G9⟩
              | cons x r =>
                have hr : r = [] := by simp at hl1; exact hl1
                subst hr
                have hx := hpos x (by simp)
                have hxb : decide (0 < x.we) = true := decide_eq_true hx
                obtain ⟨b5, o5, rfl, hb5, hc5⟩ := HB2.out.at (k := 0) (by simp)
                have hc7 : w2.cell? ⟨b5, o5 + 1, none⟩ = some (.int .i64 x.we) := by simpa using (hc5 0 (by simp)).2.1
                clear hc5 hnone hpos hl1 hx
                go_wp2_with fail
                refine (HAw.out _ G2).mono ?_
                rintro e w9 ⟨rfl, g9⟩
                have G9 := btr G2 g9 (Nat.le_refl _)
                clear g9
                go_wp2_with fail
                go_ret
                exact ⟨rfl, G9⟩
          · have hlen := HO.out.all (.inr rfl)
            have hlb2 : ((r.length : Int) == (l.length : Int)) = true := by simp [hlen]
            clear hlen
            go_wp2_with fail
            refine (HAw.out _ G2).mono ?_
            rintro e w9 ⟨rfl, g9⟩
            have G9 := btr G2 g9 (Nat.le_refl _)
            clear g9
            go_wp2_with fail
            go_ret
            exact ⟨rfl, G9⟩
          · have hmap := HO.out.fail rfl
            rcases HFs.out with ⟨rfl, hno⟩ | ⟨k, rfl, h0k, hk, hak, hbk⟩
            · rw [Fst.none (.inl ⟨rfl, hno⟩)] at hmap
              have hr : r = [] := by simpa using hmap
              subst hr
              clear hno hmap
              go_wp2_with fail
              refine (HAw.out _ G2).mono ?_
              rintro e w9 ⟨rfl, g9⟩
              have G9 := btr G2 g9 (Nat.le_refl _)
              clear g9
              go_wp2_with fail
              go_ret
              exact ⟨rfl, G9⟩
            · obtain ⟨_, hfs⟩ := Fst.some (k := k) (.inr ⟨k, rfl, h0k, hk, hak, hbk⟩)
              rw [hfs] at hmap
              have hrl : r.length = 1 := by have := congrArg List.length hmap; simpa using this
              obtain ⟨b6, o6, rfl, hb6, hc6⟩ := HBl.out.at hk
              have HSub : Hid (∀ o : Obj, Bs w2 (some ⟨b6, o6 + k * 3, none⟩) [l[k]]) := (show ∀ o : Obj, _ from fun o => bs_sub HBl.out (fun b hb => by simp at hb; subst hb; exact List.getElem_mem hk) (Below.refl _ _) (sub_rs hc6 hb6 k hk))
              have hSm1 : Sm [l[k]] := ⟨by simp, fun b hb => by simp at hb; subst hb; exact HSl.out.a _ (List.getElem_mem hk)⟩
              have HSa : Hid (∀ c' d' : Nat, Calls Tryd.prog 20 #[.agg #[.int .i64 0, .int .i64 0, .slice a2 1 c'], .agg #[.int .i64 0, .int .i64 0, .slice (some ⟨b6, o6 + k * 3, none⟩) 1 d']] w2 fun e w' => e = .returned (.bool true) ∧ Below w2.heap.size w2 w') := (show ∀ c' d' : Nat, _ from fun c' d' => by
                have := HS.out a2 r c' (some ⟨b6, o6 + k * 3, none⟩) [l[k]] d' w2 HB2.out (HSub.out default) HSr.out hSm1 (by simpa using hmap)
                rw [hrl] at this
                exact this)
              rw [hrl]
              clear hmap hfs hak hbk hc6 hSm1 h0k
              go_wp2_with fail
              refine (HSa.out _ _).mono ?_
              rintro e w3 ⟨rfl, g3⟩
              have G3 := btr G2 g3 (Nat.le_refl _)
              clear g3
              go_wp2_with fail
              refine (HAw.out _ G3).mono ?_
              rintro e w9 ⟨rfl, g9⟩
              have G9 := btr G3 g9 (Nat.le_refl _)
              clear g9
              go_wp2_with fail
              go_ret
              exact ⟨rfl, G9⟩
          · have hr : r = [] := HO.out.none (by simpa using b1) (by simpa using b2) (by simpa using b3) (by simpa using b4)
            subst hr
            go_wp2_with fail
            refine (HAw.out _ G2).mono ?_
            rintro e w9 ⟨rfl, g9⟩
            have G9 := btr G2 g9 (Nat.le_refl _)
            clear g9
            go_wp2_with fail
            go_ret
            exact ⟨rfl, G9⟩
end Go.Proofs.YteodlkgbakkjmaaDoor

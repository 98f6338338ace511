/-
  What the document's in, has, leads and Right answer, as contracts.
-/
import Derived.Test.YteodlkgbakkjmaaDoorLeads
import Derived.Test.YteodlkgbakkjmaaDoorAdd
import Derived.Test.YteodlkgbakkjmaaDoorRefR
namespace Go.Proofs.YteodlkgbakkjmaaDoor
open Go.ChangeShapes Go.WideShapes Go.ChangeAt Go.RowKit
set_option linter.unusedVariables false

set_option maxHeartbeats 1000000 in
theorem in_any (n lo hi : Int) (w : World) : Calls Tryd.prog 53 #[.int .i64 n, .int .i64 lo, .int .i64 hi] w fun e w' => e = .returned (.bool (inB n lo hi)) ∧ w' = w := by
  unfold inB
  cases h : decide (lo ≤ n) <;>
  · go_enter Tryd.func53, Tryd.ntmps53
    go_wp2
    go_ret
    exact ⟨rfl, rfl⟩
theorem contains_stop {zs : List Int} {k : Nat} {x : Int} (h : k < zs.length) (e : zs[k] = x) : zs.contains x = true := by rw [List.contains_iff_mem, ← e]; exact List.getElem_mem h
theorem contains_end {zs : List Int} {x : Int} (h : ∀ i (hi : i < zs.length), i < zs.length → zs[i] ≠ x) : zs.contains x = false := by
  cases hc : zs.contains x with
  | false => rfl
  | true =>
    obtain ⟨i, hi, e⟩ := List.getElem_of_mem (List.contains_iff_mem.1 hc)
    exact absurd e (h i hi hi)
set_option maxRecDepth 20000 in
set_option maxHeartbeats 4000000 in
theorem rhas_any (base : Nat) (v : Value) (zs : List Int) (x : Int) (w : World) (ho : OwnI base w v zs) (hn : zs.length ≤ 100000) : Calls Tryd.prog 39 #[v, .int .i64 x] w fun e w' => e = .returned (.bool (zs.contains x)) ∧ w' = w := by
  have HO : Hid (OwnI base w v zs) := ho
  obtain ⟨a, c, e⟩ : ∃ a c, v = .slice a zs.length c := by
    rcases own_cells ho with ⟨rfl, a, c, e⟩ | ⟨g, cap, e, _⟩
    · exact ⟨a, c, e⟩
    · exact ⟨_, _, e⟩
  subst e
  clear ho
  go_enter Tryd.func39, Tryd.ntmps39
  go_wp2_with fail
  go_loopw [5] (fun v wr => ∃ q : Nat, q ≤ zs.length ∧ v = .int .i64 q ∧ Hid (∀ i (hi : i < zs.length), i < q → zs[i] ≠ x) ∧ wr = w) (fun v _ => zs.length - (intOf v).toNat)
  case atStart => exact ⟨0, Nat.zero_le _, rfl, (show ∀ i (hi : i < zs.length), _ from fun i _ h => by omega), rfl⟩
  case round =>
    obtain ⟨q, hq, rfl, HP, rfl⟩ := hrel
    by_cases hlt : q < zs.length
    · obtain ⟨g, cap, e, hg, hcap, hc⟩ : ∃ g cap, Value.slice a zs.length c = .slice (some ⟨g, 0, none⟩) zs.length cap ∧ g < wr.heap.size ∧ zs.length ≤ cap ∧ wr.cell? ⟨g, q, none⟩ = some (.int .i64 zs[q]) := by
        rcases own_cells HO.out with ⟨e, _⟩ | ⟨g, cap, e, h1, h2, h3⟩
        · subst e; cases hlt
        · exact ⟨g, cap, e, h1, h2, h3 q hlt⟩
      cases e
      have HS : Hid (zs[q] = x → zs.contains x = true) := (show _ → _ from fun h => contains_stop hlt h)
      have HN : Hid (zs[q] ≠ x → ∀ i (hi : i < zs.length), i < q + 1 → zs[i] ≠ x) := (show _ → _ from fun h i hi hlt' => by
        by_cases e : i = q
        · subst e; exact h
        · exact HP.out i hi (by omega))
      clear HP HO
      generalize zs[q] = Y at *
      cases hEq : (Y == x) with
      | true =>
        have HE : Hid (zs.contains x = true) := HS.out (by simpa using hEq)
        go_wp2_with fail
        go_ret
        exact ⟨by rw [HE.out]; rfl, rfl⟩
      | false =>
        have HN' : Hid (∀ i (hi : i < zs.length), i < q + 1 → zs[i] ≠ x) := HN.out (by simpa using hEq)
        go_wp2_with fail
        go_roundw
        case rel => exact ⟨q + 1, by omega, by go_num, HN', trivial⟩
        case measure => simp [intOf]; omega
    · have e : q = zs.length := by omega
      subst e
      have HE : Hid (zs.contains x = false) := contains_end HP.out
      clear HP
      go_wp2_with fail
      go_ret
      exact ⟨by rw [HE.out]; rfl, rfl⟩
set_option maxRecDepth 20000 in
set_option maxHeartbeats 8000000 in
theorem rleads_any (g : Gr) (w : World) (hT : Bs w g.a g.l) (hn : Sm g.l) (hLO : LO g.l) : Calls Tryd.prog 38 #[gV g] w fun e w' => ∃ v, e = .returned v ∧ OwnI w.heap.size w' v (rawL (g.l.map Bk.b3)) ∧ (rawL (g.l.map Bk.b3)).length ≤ 10000 ∧ Below w.heap.size w w' := by
  obtain ⟨id, kd, ga, l, gc⟩ := g
  simp only at hT hn hLO
  have HN1 : Hid (l.length ≤ 100) := hn.n
  have HN2 : Hid (∀ b ∈ l, b.l.length ≤ 100) := hn.a
  have HNr : Hid (∀ q, (rawL ((l.take q).map Bk.b3)).length ≤ 10000) := (show ∀ q, _ from rawL_take_le l hn)
  obtain ⟨V, hV⟩ : ∃ V, w.alloc (.cells #[.int .i64 id, .int .i64 kd, .slice ga l.length gc] 33) = V := ⟨_, rfl⟩
  have GV : Below w.heap.size w V := by rw [← hV]; go_grown
  have zV : V.heap.size = w.heap.size + 1 := by rw [← hV]; simp
  have cV : Cg V w.heap.size 0 ⟨id, kd, ga, l, gc⟩ := by rw [← hV]; exact Cg.new w ⟨id, kd, ga, l, gc⟩
  have TV : Bs V ga l := hT.below GV
  have HV : Hid (w.alloc (.cells #[.int .i64 id, .int .i64 kd, .slice ga l.length gc] 33) = V) := hV
  have HT : Hid (∀ w', Below V.heap.size V w' → Bs w' ga l ∧ Below w.heap.size w w' ∧ V.heap.size ≤ w'.heap.size ∧ w.heap.size < w'.heap.size ∧ w'.cell? ⟨w.heap.size, 2, none⟩ = some (.slice ga l.length gc)) := (show ∀ w', _ from fun w' h => ⟨TV.below h, btr GV h (by omega), h.size, by have := h.size; omega, (cV.below (by omega) h).2.2⟩)
  have HZ : Hid (w.heap.size ≤ V.heap.size) := (show _ ≤ _ by omega)
  have HLO : Hid (LO l) := hLO
  have c2 : V.cell? ⟨w.heap.size, 2, none⟩ = some (.slice ga l.length gc) := cV.2.2
  show Calls Tryd.prog 38 #[.agg #[.int .i64 id, .int .i64 kd, .slice ga l.length gc]] w fun e w' => ∃ v, e = .returned v ∧ OwnI w.heap.size w' v (rawL (l.map Bk.b3)) ∧ (rawL (l.map Bk.b3)).length ≤ 10000 ∧ Below w.heap.size w w'
  clear hT TV cV GV zV hV hn hLO
  go_enter Tryd.func38, Tryd.ntmps38
  go_wp2_with fail
  rw [HV.out]
  clear c2 HV
  go_loopw [3, 4] (fun v3 v wr => ∃ q : Nat, q ≤ l.length ∧ v = .int .i64 q ∧ Hid (LdI V v3 (rawL ((l.take q).map Bk.b3)) wr)) (fun _ v _ => l.length - (intOf v).toNat)
  case atStart => exact ⟨0, Nat.zero_le _, rfl, (show LdI _ _ _ _ from ⟨World.ownsRow_nil _ _ _ _, Below.refl _ _⟩)⟩
  case round =>
    obtain ⟨q, hq, rfl, HI⟩ := hrel
    have hn1 := HN1.out
    obtain ⟨hBs, hw, zr, zr2, c2⟩ := HT.out _ HI.out.bel
    by_cases hlt : q < l.length
    · obtain ⟨b, o, rfl, hb, hc⟩ := hBs.at hlt
      obtain ⟨d0, d1, d2⟩ := hc q hlt
      have hTs := hBs.1 l[q] (List.getElem_mem hlt)
      have hn2 := HN2.out l[q] (List.getElem_mem hlt)
      have HLq : Hid (∀ a ∈ l[q].l, a.1 = 2 → 0 ≤ a.2.2 ∧ a.2.2 < 9223372036854775808) := HLO.out l[q] (List.getElem_mem hlt)
      have HRq : Hid (rawL ((l.take (q + 1)).map Bk.b3) = rawL ((l.take q).map Bk.b3) ++ rawA l[q].l) := rawL_snoc l q hlt
      have HNq : Hid ((rawL ((l.take q).map Bk.b3)).length ≤ 10000) := HNr.out q
      have HTs : Hid (∀ w', Below V.heap.size V w' → Ts w' l[q].a l[q].l) := (show ∀ w', _ from fun w' h => (HT.out w' h).1.1 l[q] (List.getElem_mem hlt))
      have HCb : Hid (∀ w', Below V.heap.size V w' → b < w'.heap.size ∧ w'.cell? ⟨b, o + q * 3 + 2, none⟩ = some (.slice l[q].a l[q].l.length l[q].c)) := (show ∀ w', _ from fun w' k => by
        obtain ⟨b', o', e, hb', hc'⟩ := (HT.out w' k).1.at hlt
        cases e
        exact ⟨hb', (hc' q hlt).2.2⟩)
      clear hc hBs hw hTs
      generalize l[q] = X at *
      obtain ⟨wa, we, xa, xl, xc⟩ := X
      simp only at d0 d1 d2 hn2 HLq HRq HTs HCb
      have HU : Hid (LdI V u3 (rawL ((l.take q).map Bk.b3) ++ rawA (xl.take 0)) wr) := (show LdI _ _ _ _ by
        rw [List.take_zero]
        simpa [rawA] using HI.out)
      have HCq : Hid (∀ w', Below V.heap.size V w' → w'.cell? ⟨w.heap.size, 2, none⟩ = some (.slice (some ⟨b, o, none⟩) l.length gc) ∧ w.heap.size < w'.heap.size ∧ b < w'.heap.size ∧ w'.cell? ⟨b, o + q * 3 + 2, none⟩ = some (.slice xa xl.length xc)) := (show ∀ w', _ from fun w' k => ⟨(HT.out w' k).2.2.2.2, (HT.out w' k).2.2.2.1, HCb.out w' k⟩)
      clear HI
      go_wp2_with fail
      clear d0 d1 d2 c2
      go_loopw [3, 5] (fun v3 v wr => ∃ j : Nat, j ≤ xl.length ∧ v = .int .i64 j ∧ Hid (LdI V v3 (rawL ((l.take q).map Bk.b3) ++ rawA (xl.take j)) wr)) (fun _ v _ => xl.length - (intOf v).toNat)
      case atStart => exact ⟨0, Nat.zero_le _, rfl, HU⟩
      case round =>
        obtain ⟨j, hj, rfl, HJ⟩ := hrel
        obtain ⟨cc2, zz2, bb2, cb2⟩ := HCq.out _ HJ.out.bel
        by_cases hjt : j < xl.length
        · obtain ⟨b2, o2, rfl, hb2, hc2⟩ := (HTs.out _ HJ.out.bel).at hjt
          obtain ⟨e0, e1, e2⟩ := hc2 j hjt
          have hz := HJ.out.bel.size
          have HAq : Hid (rawL ((l.take q).map Bk.b3) ++ rawA (xl.take (j + 1)) = (rawL ((l.take q).map Bk.b3) ++ rawA (xl.take j)) ++ leadA xl[j]) := (show _ = _ by rw [rawA_snoc xl j hjt, List.append_assoc])
          have HLj : Hid (xl[j].1 = 2 → 0 ≤ xl[j].2.2 ∧ xl[j].2.2 < 9223372036854775808) := HLq.out xl[j] (List.getElem_mem hjt)
          have HNj : Hid ((rawL ((l.take q).map Bk.b3) ++ rawA (xl.take j)).length ≤ 100000) := (show _ ≤ _ by
            rw [List.length_append]
            have h1 := HNq.out
            have h2 := rawA_le (xl.take j)
            rw [List.length_take] at h2
            omega)
          clear hc2 HU
          generalize xl[j] = Y at *
          obtain ⟨yk, yf, yv⟩ := Y
          simp only at e0 e1 e2 HLj
          by_cases hk : yk = 2
          · have hkb : (yk == 2) = true := by simp [hk]
            have hv := HLj.out hk
            have HA1 : Hid ((rawL ((l.take q).map Bk.b3) ++ rawA (xl.take (j + 1))) = (rawL ((l.take q).map Bk.b3) ++ rawA (xl.take j)) ++ [yv]) := (show _ = _ by rw [HAq.out]; simp [leadA, hk])
            subst hk
            have HJ2 : Hid (LdI V u3 (rawL ((l.take q).map Bk.b3) ++ rawA (xl.take j)) ((wr.alloc (.cells #[.int .i64 2, .int .i64 yf, .int .u64 yv] 62)).alloc (.cells #[.int .i64 yv] 3))) := (show LdI _ _ _ _ from HJ.out.grow (by go_grown))
            clear HJ
            go_wp2_with (at_builtin; refine wpList_app1 rfl _ _ rfl V.heap.size u3 (rawL ((l.take q).map Bk.b3) ++ rawA (xl.take j)) rfl HJ2.out.own (wr.heap.size + 1) yv rfl (by simp) HNj.out HJ2.out.bel.size ?_; intro v' w1 ho hg)
            have HJ3 : Hid (LdI V v' (rawL ((l.take q).map Bk.b3) ++ rawA (xl.take (j + 1))) w1) := (show LdI _ _ _ _ by rw [HA1.out]; exact HJ2.out.app hg ho)
            clear HJ2 ho hg
            go_wp2_with fail
            go_roundw
            case rel => exact ⟨j + 1, by omega, by go_num, HJ3⟩
            case measure => simp [intOf]; omega
          · have hkb : (yk == 2) = false := by simp [hk]
            have HA1 : Hid ((rawL ((l.take q).map Bk.b3) ++ rawA (xl.take (j + 1))) = (rawL ((l.take q).map Bk.b3) ++ rawA (xl.take j))) := (show _ = _ by rw [HAq.out]; simp [leadA, hk])
            have HJ1 : Hid (LdI V u3 (rawL ((l.take q).map Bk.b3) ++ rawA (xl.take (j + 1))) (wr.alloc (.cells #[.int .i64 yk, .int .i64 yf, .int .u64 yv] 62))) := (show LdI _ _ _ _ by rw [HA1.out]; exact HJ.out.grow (by go_grown))
            clear hk
            go_wp2_with fail
            go_roundw
            case rel => exact ⟨j + 1, by omega, by go_num, HJ1⟩
            case measure => simp [intOf]; omega
        · have e : j = xl.length := by omega
          subst e
          have HJ1 : Hid (LdI V u3 (rawL ((l.take (q + 1)).map Bk.b3)) wr) := (show LdI _ _ _ _ by rw [HRq.out]; have := HJ.out; rwa [List.take_length] at this)
          clear HJ HU
          go_wp2_with fail
          go_roundw
          case rel => exact ⟨q + 1, by omega, by go_num, HJ1⟩
          case measure => simp [intOf]; omega
    · have e : q = l.length := by omega
      subst e
      rw [List.take_length] at HI
      have HNq : Hid ((rawL (l.map Bk.b3)).length ≤ 10000) := (show _ ≤ _ by have := HNr.out l.length; rwa [List.take_length] at this)
      clear HNr
      clear hBs hw
      have HF : Hid (OwnI w.heap.size wr u3 (rawL (l.map Bk.b3)) ∧ (rawL (l.map Bk.b3)).length ≤ 10000 ∧ Below w.heap.size w wr) := (show _ ∧ _ ∧ _ from ⟨own_mono HI.out.own HZ.out, HNq.out, (HT.out _ HI.out.bel).2.1⟩)
      clear HI
      go_wp2_with fail
      go_ret
      exact ⟨_, rfl, HF.out.1, HF.out.2.1, HF.out.2.2⟩
end Go.Proofs.YteodlkgbakkjmaaDoor

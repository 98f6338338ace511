/-
  What the law's own 'leads' answers, as a contract.
-/
import Derived.Test.YteodlkgbakkjmaaDoorInv
namespace Go.Proofs.YteodlkgbakkjmaaDoor
open Go.ChangeShapes Go.WideShapes Go.ChangeAt Go.RowKit
set_option linter.unusedVariables false

def noA (S : List Gr) (l : List A) : Prop := ∀ a ∈ l, a.1 = 2 → hasP S a.2.2 = false
theorem ld_false {S : List Gr} {g : Gr} (h : ∀ i (hi : i < g.l.length), i < g.l.length → noA S g.l[i].l) : ldB S g = false := by
  unfold ldB
  rw [List.any_eq_false]
  intro x hx
  obtain ⟨b, hb, a, ha, h2, rfl⟩ := mem_rawL.1 hx
  obtain ⟨b', hb', rfl⟩ := List.mem_map.1 hb
  obtain ⟨i, hi, rfl⟩ := List.getElem_of_mem hb'
  rw [h i hi hi a ha h2]
  simp
theorem ld_true {S : List Gr} {g : Gr} {b : Bk} (hb : b ∈ g.l) {a : A} (ha : a ∈ b.l) (h2 : a.1 = 2) {x : Gr} (hx : x ∈ S) (e : x.id = a.2.2) : ldB S g = true := by
  unfold ldB
  rw [List.any_eq_true]
  exact ⟨a.2.2, mem_rawL.2 ⟨b.b3, List.mem_map.2 ⟨b, hb, rfl⟩, a, ha, h2, rfl⟩, hasP_iff.2 ⟨x, hx, e⟩⟩
theorem no_has {S : List Gr} {x : Int} (h : ∀ i (hi : i < S.length), i < S.length → S[i].id ≠ x) : hasP S x = false := by
  cases hh : hasP S x with
  | false => rfl
  | true =>
    obtain ⟨z, hz, e⟩ := hasP_iff.1 hh
    obtain ⟨i, hi, rfl⟩ := List.getElem_of_mem hz
    exact absurd e (h i hi hi)
theorem right_val0 {a : A} (h : rightB a = true) : 0 ≤ a.2.2 ∧ a.2.2 ≤ 4294967295 := by
  rcases right_cases h with h | h | h | h | ⟨_, h1, h2, h3⟩
  · omega
  · omega
  · omega
  · omega
  · rcases h1 with e | e | e | e | e <;> (rw [e] at h2 h3; simp [grV, leastV] at h2 h3; omega)
set_option maxRecDepth 20000 in
set_option maxHeartbeats 16000000 in
theorem lleads_any (g : Gr) (sa : Option Addr) (S : List Gr) (sc : Nat) (w : World) (hT : Bs w g.a g.l) (hS : Sm g.l) (hok : rightE g.p = 0) (hG : Gs w sa S) (hn : S.length ≤ 100) :
    Calls Tryd.prog 25 #[gV g, .slice sa S.length sc] w fun e w' => e = .returned (.bool (ldB S g)) ∧ Below w.heap.size w w' := by
  have HR : Hid (∀ b ∈ g.l, ∀ a ∈ b.l, 0 ≤ a.2.2 ∧ a.2.2 ≤ 4294967295) := (show ∀ b, _ from fun b hb a ha => right_val0 (acts_at (rightE_acts hok) hb ha))
  have HF : Hid ((∀ i (hi : i < g.l.length), i < g.l.length → noA S g.l[i].l) → ldB S g = false) := (show _ → _ from ld_false)
  have HTr : Hid (∀ b ∈ g.l, ∀ a ∈ b.l, a.1 = 2 → ∀ x ∈ S, x.id = a.2.2 → ldB S g = true) := (show ∀ b, _ from fun b hb a ha h2 x hx e => ld_true hb ha h2 hx e)
  obtain ⟨id, kd, ga, l, gc⟩ := g
  simp only at hT hS HR HF HTr
  obtain ⟨V, hV⟩ : ∃ V, w.alloc (.cells #[.int .i64 id, .int .i64 kd, .slice ga l.length gc] 33) = V := ⟨_, rfl⟩
  have GV : Below w.heap.size w V := by rw [← hV]; go_grown
  have zV : w.heap.size < V.heap.size := by rw [← hV]; simp
  have cV : Cg V w.heap.size 0 ⟨id, kd, ga, l, gc⟩ := by rw [← hV]; exact Cg.new w ⟨id, kd, ga, l, gc⟩
  have TV : Bs V ga l := hT.below GV
  have SV : Gs V sa S := hG.below GV
  have HV : Hid (w.alloc (.cells #[.int .i64 id, .int .i64 kd, .slice ga l.length gc] 33) = V) := hV
  have HX : Hid (∀ w', Below V.heap.size V w' → w'.cell? ⟨w.heap.size, 2, none⟩ = some (.slice ga l.length gc) ∧ w.heap.size < w'.heap.size ∧ Bs w' ga l ∧ Gs w' sa S ∧ Below w.heap.size w w') := (show ∀ w', _ from fun w' k => ⟨(cV.below zV k).2.2, Nat.lt_of_lt_of_le zV k.size, TV.below k, SV.below k, btr GV k (Nat.le_refl _)⟩)
  have HN : Hid (l.length ≤ 100 ∧ S.length ≤ 100 ∧ ∀ b ∈ l, b.l.length ≤ 100) := (show _ ∧ _ ∧ _ from ⟨hS.n, hn, hS.a⟩)
  have HRes : Hid (Calls Tryd.prog 25 #[.agg #[.int .i64 id, .int .i64 kd, .slice ga l.length gc], .slice sa S.length sc] w fun e w' => e = .returned (.bool (ldB S ⟨id, kd, ga, l, gc⟩)) ∧ Below w.heap.size w w') → Calls Tryd.prog 25 #[.agg #[.int .i64 id, .int .i64 kd, .slice ga l.length gc], .slice sa S.length sc] w fun e w' => e = .returned (.bool (ldB S ⟨id, kd, ga, l, gc⟩)) ∧ Below w.heap.size w w' := fun h => h.out
  show Calls Tryd.prog 25 #[.agg #[.int .i64 id, .int .i64 kd, .slice ga l.length gc], .slice sa S.length sc] w fun e w' => e = .returned (.bool (ldB S ⟨id, kd, ga, l, gc⟩)) ∧ Below w.heap.size w w'
  generalize ldB S ⟨id, kd, ga, l, gc⟩ = RES at *
  clear hT hS hok hG hn TV SV cV zV GV hV HRes
  go_enter Tryd.func25, Tryd.ntmps25
  go_wp2_with fail
  rw [HV.out]
  go_loopw [5] (fun v wr => ∃ q : Nat, q ≤ l.length ∧ v = .int .i64 q ∧ Hid (∀ i (hi : i < l.length), i < q → noA S l[i].l) ∧ Below V.heap.size V wr) (fun v _ => l.length - (intOf v).toNat)
  case atStart => exact ⟨0, Nat.zero_le _, rfl, (show ∀ i (hi : i < l.length), _ from fun i _ h => by omega), Below.refl _ _⟩
  case round =>
    obtain ⟨q, hq, rfl, HP, hbel⟩ := hrel
    obtain ⟨hn1, hn2, hn3⟩ := HN.out
    obtain ⟨c2, z0, hBs, _, hw⟩ := HX.out _ hbel
    by_cases hlt : q < l.length
    · have hbm := List.getElem_mem hlt
      have hn4 := hn3 _ hbm
      have HBl : Hid (Below V.heap.size V wr) := hbel
      have HPn : Hid (noA S l[q].l → ∀ i (hi : i < l.length), i < q + 1 → noA S l[i].l) := (show _ → _ from fun h i hi hlt' => by
        by_cases e : i = q
        · subst e; exact h
        · exact HP.out i hi (by omega))
      have HRq : Hid (∀ a ∈ l[q].l, 0 ≤ a.2.2 ∧ a.2.2 ≤ 4294967295) := HR.out _ hbm
      have HTq : Hid (∀ a ∈ l[q].l, a.1 = 2 → ∀ x ∈ S, x.id = a.2.2 → RES = true) := HTr.out _ hbm
      have HCq : Hid (∀ w', Below V.heap.size V w' → ∃ b o, ga = some ⟨b, o, none⟩ ∧ b < w'.heap.size ∧ w'.cell? ⟨b, o + q * 3 + 2, none⟩ = some (.slice l[q].a l[q].l.length l[q].c) ∧ Ts w' l[q].a l[q].l) := (show ∀ w', _ from fun w' k => by
        obtain ⟨b, o, e, hb, hc⟩ := (HX.out w' k).2.2.1.at hlt
        exact ⟨b, o, e, hb, (hc q hlt).2.2, (HX.out w' k).2.2.1.1 _ hbm⟩)
      clear hBs hw HP hbel hn3 hbm
      generalize l[q] = X at *
      obtain ⟨wa, we, xa, xl, xc⟩ := X
      simp only at hn4 HPn HRq HTq HCq
      go_wp2_with fail
      go_loopw [6] (fun v wr => ∃ j : Nat, j ≤ xl.length ∧ v = .int .i64 j ∧ Hid (∀ i (hi : i < xl.length), i < j → xl[i].1 = 2 → hasP S xl[i].2.2 = false) ∧ Below V.heap.size V wr) (fun v _ => xl.length - (intOf v).toNat)
      case atStart => exact ⟨0, Nat.zero_le _, rfl, (show ∀ i (hi : i < xl.length), _ from fun i _ h => by omega), HBl.out⟩
      case round =>
        obtain ⟨j, hj, rfl, HPj, hbj⟩ := hrel
        obtain ⟨c2', z0', _, _, hw'⟩ := HX.out _ hbj
        obtain ⟨gb, go, rfl, hgb, hgc, hTs⟩ := HCq.out _ hbj
        by_cases hjt : j < xl.length
        · obtain ⟨b2, o2, rfl, hb2, hc2⟩ := hTs.at hjt
          obtain ⟨e0, e1, e2⟩ := hc2 j hjt
          have hxm := List.getElem_mem hjt
          have hvr := HRq.out _ hxm
          have HPj2 : Hid ((xl[j].1 = 2 → hasP S xl[j].2.2 = false) → ∀ i (hi : i < xl.length), i < j + 1 → xl[i].1 = 2 → hasP S xl[i].2.2 = false) := (show _ → _ from fun h i hi hlt' => by
            by_cases e : i = j
            · subst e; exact h
            · exact HPj.out i hi (by omega))
          have HTj : Hid (xl[j].1 = 2 → ∀ x ∈ S, x.id = xl[j].2.2 → RES = true) := HTq.out _ hxm
          have HBj : Hid (Below V.heap.size V wr) := hbj
          clear hc2 hTs HPj hbj hw' hxm
          generalize xl[j] = Y at *
          obtain ⟨yk, yf, yv⟩ := Y
          simp only at e0 e1 e2 hvr HPj2 HTj
          obtain ⟨U, hU⟩ : ∃ U, wr.alloc (.cells #[.int .i64 yk, .int .i64 yf, .int .u64 yv] 62) = U := ⟨_, rfl⟩
          have gU : Below wr.heap.size wr U := by rw [← hU]; go_grown
          have u0 : U.cell? ⟨wr.heap.size, 0, none⟩ = some (.int .i64 yk) := by rw [← hU]; simp
          have u2 : U.cell? ⟨wr.heap.size, 2, none⟩ = some (.int .u64 yv) := by rw [← hU]; simp
          have zU : wr.heap.size < U.heap.size := by rw [← hU]; simp
          have HU : Hid (∀ w', Below U.heap.size U w' → w'.cell? ⟨wr.heap.size, 0, none⟩ = some (.int .i64 yk) ∧ w'.cell? ⟨wr.heap.size, 2, none⟩ = some (.int .u64 yv) ∧ wr.heap.size < w'.heap.size ∧ Below V.heap.size V w') := (show ∀ w', _ from fun w' k => ⟨(k.cell (p := ⟨wr.heap.size, 0, none⟩) zU).trans u0, (k.cell (p := ⟨wr.heap.size, 2, none⟩) zU).trans u2, Nat.lt_of_lt_of_le zU k.size, btr (btr HBj.out gU (Nat.le_refl _)) k (Nat.le_refl _)⟩)
          have HUU : Hid (wr.alloc (.cells #[.int .i64 yk, .int .i64 yf, .int .u64 yv] 62) = U) := hU
          clear hU gU zU u0 u2
          go_wp2_with fail
          rw [HUU.out]
          go_loopw [8] (fun v wr => ∃ m : Nat, m ≤ S.length ∧ v = .int .i64 m ∧ Hid (∀ i (hi : i < S.length), i < m → S[i].id ≠ yv) ∧ Below U.heap.size U wr) (fun v _ => S.length - (intOf v).toNat)
          case atStart => exact ⟨0, Nat.zero_le _, rfl, (show ∀ i (hi : i < S.length), _ from fun i _ h => by omega), Below.refl _ _⟩
          case round =>
            obtain ⟨m, hm, rfl, HPm, hbm⟩ := hrel
            obtain ⟨k0, k2, z3, hbV⟩ := HU.out _ hbm
            obtain ⟨_, _, _, hGs, hw3⟩ := HX.out _ hbV
            by_cases hmt : m < S.length
            · by_cases hk : yk = 2
              · have hkb : (yk == 2) = true := by simp [hk]
                obtain ⟨sb, so, rfl, hsb, hsc⟩ := hGs.at hmt
                obtain ⟨f0, _, _⟩ := hsc m hmt
                have HPm2 : Hid (S[m].id ≠ yv → ∀ i (hi : i < S.length), i < m + 1 → S[i].id ≠ yv) := (show _ → _ from fun h i hi hlt' => by
                  by_cases e : i = m
                  · subst e; exact h
                  · exact HPm.out i hi (by omega))
                have HTm : Hid (S[m].id = yv → RES = true) := (show _ → _ from fun e => HTj.out hk _ (List.getElem_mem hmt) e)
                have HBm : Hid (∀ q, Below U.heap.size U (wr.drewN q)) := (show ∀ q, _ from fun q => bdr hbm q)
                clear hsc hGs HPm hk hbm
                generalize S[m].id = SI at *
                go_wp2_with fail
                go_quiet (fail)
                obtain ⟨w5, h5⟩ : ∃ w5, wr.drewN nq = w5 := ⟨_, rfl⟩
                have hb5 : Below U.heap.size U w5 := by rw [← h5]; exact HBm.out nq
                have hw5 := (HX.out _ (HU.out _ hb5).2.2.2).2.2.2.2
                rw [h5]
                clear h5 f0 k0 k2 z3 hbV hw3
                cases hEq : (SI == yv) with
                | true =>
                  have HE : Hid (RES = true) := HTm.out (by simpa using hEq)
                  clear hEq
                  go_wp2_with fail
                  go_ret
                  exact ⟨by rw [HE.out]; rfl, hw5⟩
                | false =>
                  have HN' : Hid (∀ i (hi : i < S.length), i < m + 1 → S[i].id ≠ yv) := HPm2.out (by simpa using hEq)
                  clear hEq
                  go_wp2_with fail
                  go_roundw
                  case rel => exact ⟨m + 1, by omega, by go_num, HN', hb5⟩
                  case measure => simp [intOf]; omega
              · have hkb : (yk == 2) = false := by simp [hk]
                have HNj : Hid (∀ i (hi : i < xl.length), i < j + 1 → xl[i].1 = 2 → hasP S xl[i].2.2 = false) := HPj2.out (fun h => absurd h hk)
                clear hk hGs hbm
                go_wp2_with fail
                go_roundw
                case rel => exact ⟨j + 1, by omega, by go_num, HNj, hbV⟩
                case measure => simp [intOf]; omega
            · have e : m = S.length := by omega
              subst e
              have HNj : Hid (∀ i (hi : i < xl.length), i < j + 1 → xl[i].1 = 2 → hasP S xl[i].2.2 = false) := HPj2.out (fun _ => no_has HPm.out)
              clear hGs hbm HPm
              go_wp2_with fail
              go_roundw
              case rel => exact ⟨j + 1, by omega, by go_num, HNj, hbV⟩
              case measure => simp [intOf]; omega
        · have e : j = xl.length := by omega
          subst e
          have HNq : Hid (∀ i (hi : i < l.length), i < q + 1 → noA S l[i].l) := HPn.out (fun a ha h2 => by
            obtain ⟨i, hi, rfl⟩ := List.getElem_of_mem ha
            exact HPj.out i hi hi h2)
          clear HPj hTs hw'
          go_wp2_with fail
          go_roundw
          case rel => exact ⟨q + 1, by omega, by go_num, HNq, hbj⟩
          case measure => simp [intOf]; omega
    · have e : q = l.length := by omega
      subst e
      have HE : Hid (RES = false) := HF.out HP.out
      clear HP hBs
      go_wp2_with fail
      go_ret
      exact ⟨by rw [HE.out]; rfl, hw⟩
end Go.Proofs.YteodlkgbakkjmaaDoor

/-
  What one node says.
-/
import Derived.Test.YtmobmpghpdaddaaApart
namespace Go.Proofs.Ytmobmpghpdaddaa
open Go.ChangeShapes Go.WideShapes Go.ChangeAt Go.RowKit
set_option linter.unusedVariables false
set_option linter.unusedSimpArgs false

abbrev Bs (w : World) (a : Option Addr) (l : List Bool) : Prop := Sl Value.bool w a l
def yesC (s : List Int) (said : List Bool) : Nat := (s.filter fun i => said.getD i.toNat false).length
def saysB (x : Nd) (said : List Bool) (r : Nat → B64) : Bool :=
  if x.k = 1 then true else if x.k = 3 then hasB (cubF [x.t]) r else if x.k = 4 then decide (yesC x.s said = x.s.length) else if x.k = 5 then decide (0 < yesC x.s said) else if x.k = 6 then decide (yesC x.s said = 0) else false
theorem yesC_snoc (s : List Int) (i : Int) (said : List Bool) : yesC (s ++ [i]) said = yesC s said + if said.getD i.toNat false then 1 else 0 := by
  unfold yesC
  rw [List.filter_append, List.length_append]
  congr 1
  rw [List.filter_cons]
  cases said.getD i.toNat false <;> rfl
theorem yesC_le (s : List Int) (said : List Bool) : yesC s said ≤ s.length := List.length_filter_le _ _
/-- A node and a row, boxed. -/
theorem boxNR (w : World) (x : Nd) (a : Option Addr) (c : Nat) (r : Nat → B64) : ∃ V, (w.alloc (.cells #[.int .i64 x.k, .int .i64 x.t.f, cv x.t.v, cv x.t.m, .slice a x.s.length c] 39)).alloc (.cells (rowA r) 62) = V ∧ N5 V w.heap.size 0 x a c ∧ R10 V (w.heap.size + 1) 0 r ∧ Below w.heap.size w V ∧ V.heap.size = w.heap.size + 2 := by
  obtain ⟨V, hV, h1, h2, h3⟩ := boxN w x a c
  have k2 := R10.new V r 62
  rw [h3] at k2
  refine ⟨_, by rw [hV], h1.block (heap_alloc_old _ _ (by omega)), k2, btr h2 (by go_grown) (by omega), by simp [h3]⟩
set_option maxRecDepth 20000 in
set_option maxHeartbeats 8000000 in
theorem says_any (x : Nd) (a : Option Addr) (c : Nat) (sa : Option Addr) (said : List Bool) (sc : Nat) (r : Nat → B64) (w : World) (hs : Is w a x.s) (hb : Bs w sa said) (hsub : ∀ i ∈ x.s, 0 ≤ i ∧ i < (said.length : Int)) (hf : x.k = 3 → 1 ≤ x.t.f ∧ x.t.f ≤ 9) (hl : x.s.length ≤ 12) (hsl : said.length ≤ 60) :
    Calls Try.prog 41 #[ndV x a c, .slice sa said.length sc, .agg (rowA r)] w fun e w' => e = .returned (.bool (saysB x said r)) ∧ Below w.heap.size w w' := by
  obtain ⟨X, hX, hN, hR, hg, hz⟩ := boxNR w x a c r
  have HX : Hid (N5 X w.heap.size 0 x a c ∧ R10 X (w.heap.size + 1) 0 r ∧ Below w.heap.size w X ∧ X.heap.size = w.heap.size + 2) := ⟨hN, hR, hg, hz⟩
  have HS : Hid (Is X a x.s) := hs.below hg
  have HB : Hid (Bs X sa said) := hb.below hg
  have HSub : Hid (∀ i ∈ x.s, 0 ≤ i ∧ i < (said.length : Int)) := hsub
  have H0 : Hid (0 = yesC (x.s.take 0) said) := (show _ = _ from rfl)
  have HF : Hid (x.k = 3 → 1 ≤ x.t.f ∧ x.t.f ≤ 9) := hf
  obtain ⟨R, hR'⟩ : ∃ R, saysB x said r = R := ⟨_, rfl⟩
  have HR : Hid (R = saysB x said r) := hR'.symm
  rw [hR']
  obtain ⟨d0, d1, d2, d3, d4⟩ := hN
  clear hs hb hsub hf hR hg hz hR'
  go_enter Try.func41, Try.ntmps41
  go_wp2_with fail
  clear hX
  go_loopw [7, 13] (fun v7 v13 wr => ∃ i y : Nat, i ≤ x.s.length ∧ v13 = .int .i64 i ∧ v7 = .int .i64 y ∧ y ≤ i ∧ Hid (y = yesC (x.s.take i) said) ∧ wr = X) (fun _ v13 _ => x.s.length - (intOf v13).toNat)
  case atStart => exact ⟨0, 0, Nat.zero_le _, rfl, rfl, Nat.le_refl _, H0, rfl⟩
  case round =>
    obtain ⟨i, y, hi, rfl, rfl, hyi, HY, hw⟩ := hrel
    obtain rfl : X = wr := hw.symm
    clear H0 hw
    by_cases hlt : i < x.s.length
    · obtain ⟨g, o, rfl, hg, hc⟩ := HS.out.at hlt
      have e0 := hc i hlt
      obtain ⟨m0, m1⟩ := HSub.out _ (List.getElem_mem hlt)
      have HT : Hid (yesC (x.s.take (i + 1)) said = yesC (x.s.take i) said + if said.getD x.s[i].toNat false then 1 else 0) := (show _ = _ by rw [List.take_succ_eq_append_getElem hlt, yesC_snoc])
      generalize x.s[i] = z at *
      obtain ⟨m, rfl⟩ : ∃ m : Nat, z = (m : Int) := ⟨z.toNat, by omega⟩
      have hmk : m < said.length := by omega
      obtain ⟨g2, o2, rfl, hg2, hc2⟩ := HB.out.at hmk
      have f0 := hc2 m hmk
      have HT2 : Hid (yesC (x.s.take (i + 1)) said = y + if said[m] then 1 else 0) := (show _ = _ by rw [HT.out, ← HY.out]; simp [List.getD_eq_getElem?_getD, hmk])
      generalize said[m] = q at *
      clear hc hc2 HT HY
      cases q with
      | true =>
        have HQ : Hid (y + 1 = yesC (x.s.take (i + 1)) said) := (show _ = _ by rw [HT2.out]; rfl)
        clear HT2
        go_wp2_with fail
        go_roundw
        case rel => exact ⟨i + 1, y + 1, by omega, by go_num, by go_num, by omega, HQ, trivial⟩
        case measure => simp [intOf]; omega
      | false =>
        have HQ : Hid (y = yesC (x.s.take (i + 1)) said) := (show _ = _ by rw [HT2.out]; rfl)
        clear HT2
        go_wp2_with fail
        go_roundw
        case rel => exact ⟨i + 1, y, by omega, by go_num, rfl, by omega, HQ, trivial⟩
        case measure => simp [intOf]; omega
    · have HE : Hid (y = yesC x.s said) := (show _ = _ by have := HY.out; rwa [List.take_of_length_le (by omega)] at this)
      clear HY
      have HRu : Hid (R = if x.k = 1 then true else if x.k = 3 then hasB (cubF [x.t]) r else if x.k = 4 then decide (y = x.s.length) else if x.k = 5 then decide (0 < y) else if x.k = 6 then decide (y = 0) else false) := (show _ = _ by rw [HR.out, HE.out]; rfl)
      clear HR HE
      by_cases k1 : x.k = 1
      · have HQ : Hid (R = true) := (show _ = _ by rw [HRu.out, if_pos k1])
        clear HRu
        rw [k1] at d0
        clear k1
        go_wp2_with fail
        go_ret
        exact ⟨by rw [HQ.out]; rfl, HX.out.2.2.1⟩
      by_cases k3 : x.k = 3
      · have HQ : Hid (R = hasB (cubF [x.t]) r) := (show _ = _ by rw [HRu.out, if_neg k1, if_pos k3])
        clear HRu
        have HF3 : Hid (1 ≤ x.t.f ∧ x.t.f ≤ 9) := HF.out k3
        rw [k3] at d0
        clear k1 k3
        go_wp2_with fail
        have HC : Hid (∀ u g, Ts u (some ⟨g, 0, none⟩) [x.t] → Calls Try.prog 46 #[.slice (some ⟨g, 0, none⟩) 1 1] u fun e w' => e = .returned (.agg (cubA (cubF [x.t]))) ∧ Below u.heap.size u w') := (show ∀ u g, _ from fun u g h => cubeOf_any (some ⟨g, 0, none⟩) [x.t] 1 u h (fun t ht => by rw [List.mem_singleton] at ht; subst ht; exact HF3.out) (by simp))
        obtain ⟨G, hG⟩ : ∃ G, cubF [x.t] = G := ⟨_, rfl⟩
        rw [hG] at HC HQ
        have HD : Hid (R10 X (w.heap.size + 1) 0 r ∧ C3 X w.heap.size 1 x.t ∧ w.heap.size + 1 < X.heap.size) := ⟨HX.out.2.1, ⟨d1, d2, d3⟩, by have := HX.out.2.2.2; omega⟩
        have HBe : Hid (Below w.heap.size w X) := HX.out.2.2.1
        have HTs : Hid (∀ u : World, Ts (u.alloc (.cells #[.int .i64 x.t.f, cv x.t.v, cv x.t.m] 32)) (some ⟨u.heap.size, 0, none⟩) [x.t]) := (show ∀ u : World, _ from fun u => (Sk.ts (.inr ⟨_, 0, rfl, by simp, cs_new (k := tstL) (s := 3) u x.t 32⟩)))
        have HK : Hid (∀ W, Below X.heap.size X W → R10 W (w.heap.size + 1) 0 r ∧ C3 W w.heap.size 1 x.t) := (show ∀ W, _ from fun W g => ⟨HD.out.1.below HD.out.2.2 g, HD.out.2.1.below (by have := HD.out.2.2; omega) g⟩)
        clear HX HF HB HS HSub hG d0 d1 d2 d3 d4 hyi hi hlt HF3
        refine wp_region_held_drew (S := fun W => R10 W (w.heap.size + 1) 0 r ∧ C3 W w.heap.size 1 x.t) (by kernel_rfl) (show _ ∧ _ from ⟨HD.out.1, HD.out.2.1⟩) (fun hHeld => ?_)
        refine wpAnyH_take (i := 4) (oi := { dst := some 34, op := Op.load 62 (Operand.tmp 5), type := 62, pos := _, after := #[], guard := none }) (v := .agg (rowA r)) rfl (by kernel_rfl) (by kernel_rfl) (by kernel_rfl) (fun _ _ _ h => h) (yieldsIf_load_mid (by rfl) 62 (.tmp 5) rfl (w.heap.size + 1) 0 rfl (rowL r) _ (fun W hW => hW.1.range) under_row rfl (by rw [rowL_len]; exact info_row)) (by assumption) ?_
        try simp only [Act.put, List.setIfInBounds_toArray, List.set_cons_zero, List.set_cons_succ]
        refine wpAnyH_ready (rs := [0]) (by kernel_rfl) (by simp) ?_
        refine AllReadyH.cons rfl (fun K0 hK => ?_) AllReadyH.nil
        go_simp
        refine hK.out _ _ hHeld (fun hHeld => ?_)
        clear hK
        refine wpAnyH_ready (rs := [1]) (by kernel_rfl) (by simp) ?_
        refine AllReadyH.cons rfl (fun K0 hK => ?_) AllReadyH.nil
        obtain ⟨e0, e1, e2⟩ := hHeld.2
        go_simp
        refine hK.out _ _ ⟨HD.out.1, HD.out.2.1⟩ (fun hHeld => ?_)
        clear hK
        refine wpAnyH_ready (rs := [2]) (by kernel_rfl) (by simp) ?_
        refine AllReadyH.cons rfl (fun K0 hK => ?_) AllReadyH.nil
        go_simp
        have HB1 : Hid (Below X.heap.size X (X.drew.alloc (.cells #[.int .i64 x.t.f, cv x.t.v, cv x.t.m] 32)) ∧ Ts (X.drew.alloc (.cells #[.int .i64 x.t.f, cv x.t.v, cv x.t.m] 32)) (some ⟨X.heap.size, 0, none⟩) [x.t]) := ⟨by go_grown, HTs.out X.drew⟩
        refine hK.out _ _ (HK.out _ HB1.out.1) (fun hHeld => ?_)
        clear hK
        refine wpAnyH_ready (rs := [3]) (by kernel_rfl) (by simp) ?_
        refine AllReadyH.cons rfl (fun K0 hK => ?_) AllReadyH.nil
        refine step_call (by rfl) 46 #[.slice (some ⟨X.heap.size, 0, none⟩) 1 1] (by go_simp) ((HC.out _ _ HB1.out.2).mono ?_)
        rintro e w1 ⟨rfl, hb⟩
        have HB2 : Hid (Below X.heap.size X w1) := (show Below _ _ _ from btr HB1.out.1 hb (Nat.le_refl _))
        clear hb
        refine ⟨_, rfl, ?_⟩
        refine hK.out _ _ (HK.out _ HB2.out) (fun hHeld => ?_)
        clear hK
        try simp only [Act.put, List.setIfInBounds_toArray, List.set_cons_zero, List.set_cons_succ]
        refine wpAnyH_ready (rs := [5]) (by kernel_rfl) (by simp) ?_
        refine AllReadyH.cons rfl (fun K0 hK => ?_) AllReadyH.nil
        refine step_call (by rfl) 47 #[.agg (cubA G), .agg (rowA r)] (by go_simp) ((has_any G r _).mono ?_)
        rintro e w2 ⟨rfl, hb⟩
        have HB3 : Hid (Below X.heap.size X w2) := (show Below _ _ _ from btr HB2.out hb (Nat.le_refl _))
        clear hb
        refine ⟨_, rfl, ?_⟩
        refine hK.out _ _ (HK.out _ HB3.out) (fun hHeld => ?_)
        clear hK
        try simp only [Act.put, List.setIfInBounds_toArray, List.set_cons_zero, List.set_cons_succ]
        refine wpAnyH_ready (rs := [6]) (by kernel_rfl) (by simp) ?_
        refine AllReadyH.cons rfl (fun K0 hK => ?_) AllReadyH.nil
        go_simp
        refine hK.out _ _ (HK.out _ HB3.out) (fun hHeld => ?_)
        clear hK
        refine wpAnyH_done (by kernel_rfl) ?_ _
        go_wp2_with fail
        go_ret
        exact ⟨by rw [HQ.out]; rfl, btr HBe.out (HB3.out.mono (by have := HBe.out.size; omega)) (by omega)⟩
      by_cases k4 : x.k = 4
      · have HQ : Hid (R = ((y : Int) == (x.s.length : Int))) := (show _ = _ by rw [HRu.out, if_neg k1, if_neg k3, if_pos k4, Bool.eq_iff_iff]; simp; omega)
        clear HRu
        rw [k4] at d0
        clear k1 k3 k4
        go_wp2_with fail
        go_ret
        exact ⟨by rw [HQ.out]; rfl, HX.out.2.2.1⟩
      by_cases k5 : x.k = 5
      · have HQ : Hid (R = decide (0 < y)) := (show _ = _ by rw [HRu.out, if_neg k1, if_neg k3, if_neg k4, if_pos k5])
        clear HRu
        rw [k5] at d0
        clear k1 k3 k4 k5
        go_wp2_with fail
        go_ret
        exact ⟨by rw [HQ.out]; rfl, HX.out.2.2.1⟩
      by_cases k6 : x.k = 6
      · have HQ : Hid (R = ((y : Int) == 0)) := (show _ = _ by rw [HRu.out, if_neg k1, if_neg k3, if_neg k4, if_neg k5, if_pos k6, Bool.eq_iff_iff]; simp)
        clear HRu
        rw [k6] at d0
        clear k1 k3 k4 k5 k6
        go_wp2_with fail
        go_ret
        exact ⟨by rw [HQ.out]; rfl, HX.out.2.2.1⟩
      have HQ : Hid (R = false) := (show _ = _ by rw [HRu.out, if_neg k1, if_neg k3, if_neg k4, if_neg k5, if_neg k6])
      clear HRu
      go_wp2_with fail
      go_ret
      exact ⟨by rw [HQ.out]; rfl, HX.out.2.2.1⟩
end Go.Proofs.Ytmobmpghpdaddaa

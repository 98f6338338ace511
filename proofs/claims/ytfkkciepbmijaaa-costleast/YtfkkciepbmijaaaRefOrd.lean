/-
  What the document's Order answers.
-/
import Derived.Test.YtfkkciepbmijaaaRefO
import Derived.Test.YtfkkciepbmijaaaSums
namespace Go.Proofs.Ytfkkciepbmijaaa
open Go.ChangeShapes Go.WideShapes Go.ChangeAt Go.RowKit
set_option linter.unusedVariables false

set_option maxRecDepth 20000 in
set_option maxHeartbeats 32000000 in
theorem rorder_any (a : Option Addr) (l : List Nat) (cap : Nat) (w : World) (hs : Us w a l) (hw : W64 l) (hl : l.length < 17592186044416) :
    Calls Try.prog 21 #[.slice a l.length cap] w fun e w' => ∃ v, e = .returned v ∧ OwnI w.heap.size w' v (ordL l) ∧ Below w.heap.size w w' := by
  have HUs : Hid (Us w a l) := hs
  have HW : Hid (W64 l) := hw
  have HLen : Hid (l.length < 17592186044416) := hl
  have HLs : Hid (∀ (x y : Nat) u, x < 2 ^ 64 → y < 2 ^ 64 → Calls Try.prog 13 #[.int .u64 (x : Int), .int .u64 (y : Int)] u fun e w' => e = .returned (.bool (lessB x y)) ∧ w' = u) := (show ∀ (x y : Nat) u, _ from fun x y u hx hy => rless_any x y hx hy u)
  have H0 : Hid (RoI l w (.slice none 0 0) 0 w) := (show RoI _ _ _ _ _ from ⟨World.ownsRow_nil _ _ _ _, Below.refl _ _, fun _ => rfl⟩)
  clear hs hw hl
  go_enter Try.func21, Try.ntmps21
  go_wp2
  go_loopw [3, 4] (fun v3 v4 wr => ∃ i : Nat, i ≤ l.length ∧ v4 = .int .i64 i ∧ Hid (RoI l w v3 i wr)) (fun _ v4 _ => l.length - (intOf v4).toNat)
  case atStart => exact ⟨0, Nat.zero_le _, rfl, H0⟩
  case round =>
    clear H0
    obtain ⟨i, hi, rfl, HJ⟩ := hrel
    obtain ⟨wo, hwo⟩ : ∃ x, x = wr := ⟨_, rfl⟩
    subst hwo
    by_cases hlt : i < l.length
    · have hlz : (i : Int) < (l.length : Int) := by omega
      have hlz2 : (l.length : Int) < 17592186044416 := by have := HLen.out; omega
      by_cases hi0 : 0 < i
      · have HN : Hid (∀ k, k ≤ i → (k = 0 ∨ ∃ h : k - 1 < (isort (kp l) (places i)).length, kp l ((isort (kp l) (places i))[k - 1]) ≤ kp l (i : Int)) → (∀ j (h : j < (isort (kp l) (places i)).length), k ≤ j → kp l (i : Int) < kp l (isort (kp l) (places i))[j]) → isort (kp l) (places (i + 1)) = (isort (kp l) (places i)).take k ++ ((i : Int) :: (isort (kp l) (places i)).drop k)) := (show ∀ k, _ from fun k hk => next_is l i k hk)
        have HMem : Hid (∀ x, x ∈ isort (kp l) (places i) → ∃ p : Nat, x = (p : Int) ∧ p < i) := (show ∀ x, _ from fun x h => isort_places_mem l i h)
        have hRl := isort_places_len l i
        have hown := HJ.out.own
        have HBel : Hid (Below w.heap.size w wo) := HJ.out.bel
        clear HJ
        generalize isort (kp l) (places i) = R at *
        obtain ⟨g, c, rfl, hic, hg, hc⟩ := own_at2 hown (by rw [hRl]; exact hi0)
        rw [hRl] at hic
        have HC : Hid (∀ wq, Below wo.heap.size wo wq → g < wq.heap.size ∧ ∀ j (h : j < R.length), wq.cell? ⟨g, j, none⟩ = some (.int .i64 R[j])) := (show ∀ wq, _ from fun wq k => ⟨Nat.lt_of_lt_of_le hg k.size, fun j hj => (k.cell (p := ⟨g, _, none⟩) hg).trans (hc j hj)⟩)
        have HRl : Hid (R.length = i) := hRl
        have HK0 : Hid (∀ j (h : j < R.length), i ≤ j → kp l (i : Int) < kp l R[j]) := (show ∀ j (h : j < R.length), _ from fun j hj hij => by omega)
        have HB0 : Hid (Below wo.heap.size wo wo) := Below.refl _ _
        have HBase : Hid (w.heap.size ≤ wo.heap.size) := HBel.out.size
        clear hc hown hg
        rw [hRl]
        clear hRl
        go_wp2_with fail
        go_loopw [5] (fun v5 wq => ∃ k : Nat, k ≤ i ∧ v5 = .int .i64 k ∧ Hid (∀ j (h : j < R.length), k ≤ j → kp l (i : Int) < kp l R[j]) ∧ Hid (Below wo.heap.size wo wq)) (fun v5 _ => (intOf v5).toNat)
        case atStart => exact ⟨i, Nat.le_refl _, rfl, HK0, HB0⟩
        case round =>
          clear HK0 HB0
          obtain ⟨k, hk, rfl, HK, HQ⟩ := hrel
          by_cases hk0 : k = 0
          · have HEq : Hid (isort (kp l) (places (i + 1)) = R.take k ++ ((i : Int) :: R.drop k)) := (show _ = _ from HN.out k hk (.inl hk0) HK.out)
            have hkd : decide ((0 : Int) < (k : Int)) = false := decide_eq_false (by omega)
            have hkd' : ¬ (0 : Int) < (k : Int) := by omega
            have hkn : decide (0 < k) = false := decide_eq_false (by omega)
            clear hk0
            go_wp2_with fail
            refine wp_region_grow (by kernel_rfl) (by kernel_rfl) ?_
            repeat (go_big_quiet_step (fail))
            refine wpQuiet_nil ?_
            rintro w1 hw'
            have HW1 : Hid (Below wo.heap.size wo w1) := (show Below _ _ _ from btr HQ.out (gr_elim hw') (Nat.le_refl _))
            clear hw' HQ HK
            have HX0 : Hid (NxI w g R (.slice none 0 0) [] w1) := (show NxI _ _ _ _ _ _ from ⟨World.ownsRow_nil _ _ _ _, btr HBel.out HW1.out (Nat.le_refl _), (HC.out _ HW1.out).1, by simp [Value.ownBlock], (HC.out _ HW1.out).2⟩)
            have HLt : Hid ((R.take k).length = k) := (show _ = _ by rw [List.length_take, HRl.out]; omega)
            have HLd : Hid ((R.drop k).length = i - k) := (show _ = _ by rw [List.length_drop, HRl.out])
            have HT1 : Hid (∀ u : World, (∀ j (h : j < R.length), u.cell? ⟨g, j, none⟩ = some (.int .i64 R[j])) → ∀ j (hj : j < (R.take k).length), u.cell? ⟨g, 0 + j, none⟩ = some (.int .i64 (R.take k)[j])) := (show ∀ u : World, _ from fun u h j hj => by
              rw [Nat.zero_add, List.getElem_take]
              exact h j (by rw [List.length_take] at hj; omega))
            have HT2 : Hid (∀ u : World, (∀ j (h : j < R.length), u.cell? ⟨g, j, none⟩ = some (.int .i64 R[j])) → ∀ j (hj : j < (R.drop k).length), u.cell? ⟨g, k + j, none⟩ = some (.int .i64 (R.drop k)[j])) := (show ∀ u : World, _ from fun u h j hj => by
              rw [List.getElem_drop]
              exact h (k + j) (by rw [List.length_drop] at hj; omega))
            have HFin : Hid (∀ v3 w4, NxI w g R v3 (R.take k ++ [(i : Int)] ++ R.drop k) w4 → RoI l w v3 (i + 1) w4) := (show ∀ v3 w4, _ from fun v3 w4 h => ⟨by
              have := h.own
              rw [List.append_assoc] at this
              rw [HEq.out]
              exact this, h.bel, fun e => by omega⟩)
            by_cases hck : c = k
            · exfalso; omega
            · have hkc : k < c := by omega
              have hkc' : ¬ c = k := hck
              go_wp2_with (at_builtin; first
              | (refine wpList_appM rfl _ _ rfl w.heap.size v2 (R.take k ++ [(i : Int)]) rfl (own_below HX2.out.own (by first | exact Below.refl _ _ | go_grown)) g k _ _ rfl (R.drop k) (by have e9 := HLd.out; omega) (HT2.out _ HX2.out.cells) (by rw [List.length_append, HLt.out, HLd.out]; have := HLen.out; simp; omega) (by have := HX2.out.bel.size; omega) ?_; intro v3 w4 ho4 hg4 hat4; have HX3 : Hid (NxI w g R v3 (R.take k ++ [(i : Int)] ++ R.drop k) w4) := (show NxI _ _ _ _ _ _ from HX2.out.app (by first | exact Below.refl _ _ | go_grown) ho4 hg4 hat4); clear ho4 hg4 hat4)
              | (refine wpList_appM rfl _ _ rfl w.heap.size v1 (R.take k) rfl (own_below HX1.out.own (by first | exact Below.refl _ _ | go_grown)) _ 0 1 1 rfl [(i : Int)] rfl (fun j hj => by (have hj0 : j = 0 := by simpa using hj); subst hj0; simp) (by rw [HLt.out]; have := HLen.out; simp; omega) (by have := HX1.out.bel.size; simp; omega) ?_; intro v2 w3 ho3 hg3 hat3; have HX2 : Hid (NxI w g R v2 (R.take k ++ [(i : Int)]) w3) := (show NxI _ _ _ _ _ _ from HX1.out.app (by first | exact Below.refl _ _ | go_grown) ho3 hg3 hat3); clear ho3 hg3 hat3)
              | (refine wpList_appM rfl _ _ rfl w.heap.size (.slice none 0 0) [] rfl (own_below HX0.out.own (by first | exact Below.refl _ _ | go_grown)) g 0 k _ rfl (R.take k) HLt.out.symm (HT1.out _ HX0.out.cells) (by rw [HLt.out]; have := HLen.out; simp; omega) (by have := HX0.out.bel.size; omega) ?_; intro v1 w2 ho2 hg2 hat2; have HX1 : Hid (NxI w g R v1 (R.take k) w2) := (show NxI _ _ _ _ _ _ from HX0.out.app (by first | exact Below.refl _ _ | go_grown) ho2 hg2 hat2); clear ho2 hg2 hat2))
              go_roundw
              case rel => exact ⟨i + 1, by omega, by go_num, HFin.out _ _ HX3.out⟩
              case measure => simp [intOf]; omega
          · obtain ⟨P, hP⟩ : ∃ P, k = P + 1 := ⟨k - 1, by omega⟩
            have hPR : P < R.length := by rw [HRl.out]; omega
            obtain ⟨p, hp, hpi⟩ := HMem.out R[P] (List.getElem_mem hPR)
            have hpl : p < l.length := by omega
            obtain ⟨gl, o, rfl, hgl, hcl⟩ := (HUs.out.below (btr HBel.out HQ.out (Nat.le_refl _))).at hlt
            have q0 := cell_gr (hcl i hlt) hgl
            have q1 := cell_gr (hcl p hpl) hgl
            have q2 := cell_gr ((HC.out _ HQ.out).2 P hPR) (HC.out _ HQ.out).1
            rw [hp] at q2
            have hk1 : kp l (i : Int) = ky l[i] := by unfold kp; simp [List.getD_eq_getElem?_getD, hlt]
            have hk2 : kp l R[P] = ky l[p] := by rw [hp]; unfold kp; simp [List.getD_eq_getElem?_getD, hpl]
            have HC1 : Hid (∀ u, Calls Try.prog 13 #[.int .u64 (l[i] : Int), .int .u64 (l[p] : Int)] u fun e w' => e = .returned (.bool (lessB l[i] l[p])) ∧ w' = u) := (show ∀ u, _ from fun u => HLs.out _ _ u (HW.out.at hlt) (HW.out.at hpl))
            have HLe : Hid (lessB l[i] l[p] = true → kp l (i : Int) < kp l R[P]) := (show _ → _ from fun h => by rw [hk1, hk2]; exact of_decide_eq_true h)
            have HNl : Hid (lessB l[i] l[p] = false → kp l R[P] ≤ kp l (i : Int)) := (show _ → _ from fun h => by rw [hk1, hk2]; have := of_decide_eq_false h; omega)
            have eP : (k : Int) - 1 = (P : Int) := by omega
            have zP : (P : Int) < (i : Int) := by omega
            have zp : (p : Int) < (l.length : Int) := by omega
            have hkd : decide ((0 : Int) < (k : Int)) = true := decide_eq_true (by omega)
            have hkd' : (0 : Int) < (k : Int) := by omega
            have hkn : decide (0 < k) = true := decide_eq_true (by omega)
            have HP : Hid (k = P + 1) := hP
            have HPR : Hid (P < R.length) := hPR
            clear hp hk1 hk2 hcl hP hk0
            generalize l[i] = x at *
            generalize l[p] = y at *
            cases hb : lessB x y
            · rw [hb] at HC1 HNl
              have HEq : Hid (isort (kp l) (places (i + 1)) = R.take k ++ ((i : Int) :: R.drop k)) := (show _ = _ from HN.out k hk (.inr ⟨by have := HP.out; have := HPR.out; omega, by
                have e : k - 1 = P := by have := HP.out; omega
                have := HNl.out rfl
                simp only [e]
                exact this⟩) HK.out)
              clear hb HLe HNl
              go_wp2_with fail
              refine wp_region_grow (by kernel_rfl) (by kernel_rfl) ?_
              repeat (go_big_quiet_step ((go_at_call 13; exact quiet_gs (HC1.out _))))
              refine wpQuiet_nil ?_
              rintro w1 hw'
              have HW1 : Hid (Below wo.heap.size wo w1) := (show Below _ _ _ from btr HQ.out (gr_elim hw') (Nat.le_refl _))
              clear hw' HQ HK q0 q1 q2 HC1 hgl
              have HX0 : Hid (NxI w g R (.slice none 0 0) [] w1) := (show NxI _ _ _ _ _ _ from ⟨World.ownsRow_nil _ _ _ _, btr HBel.out HW1.out (Nat.le_refl _), (HC.out _ HW1.out).1, by simp [Value.ownBlock], (HC.out _ HW1.out).2⟩)
              have HLt : Hid ((R.take k).length = k) := (show _ = _ by rw [List.length_take, HRl.out]; omega)
              have HLd : Hid ((R.drop k).length = i - k) := (show _ = _ by rw [List.length_drop, HRl.out])
              have HT1 : Hid (∀ u : World, (∀ j (h : j < R.length), u.cell? ⟨g, j, none⟩ = some (.int .i64 R[j])) → ∀ j (hj : j < (R.take k).length), u.cell? ⟨g, 0 + j, none⟩ = some (.int .i64 (R.take k)[j])) := (show ∀ u : World, _ from fun u h j hj => by
                rw [Nat.zero_add, List.getElem_take]
                exact h j (by rw [List.length_take] at hj; omega))
              have HT2 : Hid (∀ u : World, (∀ j (h : j < R.length), u.cell? ⟨g, j, none⟩ = some (.int .i64 R[j])) → ∀ j (hj : j < (R.drop k).length), u.cell? ⟨g, k + j, none⟩ = some (.int .i64 (R.drop k)[j])) := (show ∀ u : World, _ from fun u h j hj => by
                rw [List.getElem_drop]
                exact h (k + j) (by rw [List.length_drop] at hj; omega))
              have HFin : Hid (∀ v3 w4, NxI w g R v3 (R.take k ++ [(i : Int)] ++ R.drop k) w4 → RoI l w v3 (i + 1) w4) := (show ∀ v3 w4, _ from fun v3 w4 h => ⟨by
                have := h.own
                rw [List.append_assoc] at this
                rw [HEq.out]
                exact this, h.bel, fun e => by omega⟩)
              by_cases hck : c = k
              · have hck2 : k = c := hck.symm
                clear hck
                subst hck2
                go_wp2_with (at_builtin; first
                | (refine wpList_appM rfl _ _ rfl w.heap.size v2 (R.take k ++ [(i : Int)]) rfl (own_below HX2.out.own (by first | exact Below.refl _ _ | go_grown)) g 0 _ _ rfl (R.drop k) (by have e9 := HLd.out; omega) (fun j hj => by rw [HLd.out] at hj; omega) (by rw [List.length_append, HLt.out, HLd.out]; have := HLen.out; simp; omega) (by have := HX2.out.bel.size; omega) ?_; intro v3 w4 ho4 hg4 hat4; have HX3 : Hid (NxI w g R v3 (R.take k ++ [(i : Int)] ++ R.drop k) w4) := (show NxI _ _ _ _ _ _ from HX2.out.app (by first | exact Below.refl _ _ | go_grown) ho4 hg4 hat4); clear ho4 hg4 hat4)
                | (refine wpList_appM rfl _ _ rfl w.heap.size v1 (R.take k) rfl (own_below HX1.out.own (by first | exact Below.refl _ _ | go_grown)) _ 0 1 1 rfl [(i : Int)] rfl (fun j hj => by (have hj0 : j = 0 := by simpa using hj); subst hj0; simp) (by rw [HLt.out]; have := HLen.out; simp; omega) (by have := HX1.out.bel.size; simp; omega) ?_; intro v2 w3 ho3 hg3 hat3; have HX2 : Hid (NxI w g R v2 (R.take k ++ [(i : Int)]) w3) := (show NxI _ _ _ _ _ _ from HX1.out.app (by first | exact Below.refl _ _ | go_grown) ho3 hg3 hat3); clear ho3 hg3 hat3)
                | (refine wpList_appM rfl _ _ rfl w.heap.size (.slice none 0 0) [] rfl (own_below HX0.out.own (by first | exact Below.refl _ _ | go_grown)) g 0 k _ rfl (R.take k) HLt.out.symm (HT1.out _ HX0.out.cells) (by rw [HLt.out]; have := HLen.out; simp; omega) (by have := HX0.out.bel.size; omega) ?_; intro v1 w2 ho2 hg2 hat2; have HX1 : Hid (NxI w g R v1 (R.take k) w2) := (show NxI _ _ _ _ _ _ from HX0.out.app (by first | exact Below.refl _ _ | go_grown) ho2 hg2 hat2); clear ho2 hg2 hat2))
                go_roundw
                case rel => exact ⟨i + 1, by omega, by go_num, HFin.out _ _ HX3.out⟩
                case measure => simp [intOf]; omega
              · have hkc : k < c := by omega
                have hkc' : ¬ c = k := hck
                go_wp2_with (at_builtin; first
                | (refine wpList_appM rfl _ _ rfl w.heap.size v2 (R.take k ++ [(i : Int)]) rfl (own_below HX2.out.own (by first | exact Below.refl _ _ | go_grown)) g k _ _ rfl (R.drop k) (by have e9 := HLd.out; omega) (HT2.out _ HX2.out.cells) (by rw [List.length_append, HLt.out, HLd.out]; have := HLen.out; simp; omega) (by have := HX2.out.bel.size; omega) ?_; intro v3 w4 ho4 hg4 hat4; have HX3 : Hid (NxI w g R v3 (R.take k ++ [(i : Int)] ++ R.drop k) w4) := (show NxI _ _ _ _ _ _ from HX2.out.app (by first | exact Below.refl _ _ | go_grown) ho4 hg4 hat4); clear ho4 hg4 hat4)
                | (refine wpList_appM rfl _ _ rfl w.heap.size v1 (R.take k) rfl (own_below HX1.out.own (by first | exact Below.refl _ _ | go_grown)) _ 0 1 1 rfl [(i : Int)] rfl (fun j hj => by (have hj0 : j = 0 := by simpa using hj); subst hj0; simp) (by rw [HLt.out]; have := HLen.out; simp; omega) (by have := HX1.out.bel.size; simp; omega) ?_; intro v2 w3 ho3 hg3 hat3; have HX2 : Hid (NxI w g R v2 (R.take k ++ [(i : Int)]) w3) := (show NxI _ _ _ _ _ _ from HX1.out.app (by first | exact Below.refl _ _ | go_grown) ho3 hg3 hat3); clear ho3 hg3 hat3)
                | (refine wpList_appM rfl _ _ rfl w.heap.size (.slice none 0 0) [] rfl (own_below HX0.out.own (by first | exact Below.refl _ _ | go_grown)) g 0 k _ rfl (R.take k) HLt.out.symm (HT1.out _ HX0.out.cells) (by rw [HLt.out]; have := HLen.out; simp; omega) (by have := HX0.out.bel.size; omega) ?_; intro v1 w2 ho2 hg2 hat2; have HX1 : Hid (NxI w g R v1 (R.take k) w2) := (show NxI _ _ _ _ _ _ from HX0.out.app (by first | exact Below.refl _ _ | go_grown) ho2 hg2 hat2); clear ho2 hg2 hat2))
                go_roundw
                case rel => exact ⟨i + 1, by omega, by go_num, HFin.out _ _ HX3.out⟩
                case measure => simp [intOf]; omega
            · rw [hb] at HC1 HLe
              have HKN : Hid (∀ j (h : j < R.length), P ≤ j → kp l (i : Int) < kp l R[j]) := (show ∀ j (h : j < R.length), _ from fun j hj hPj => by
                by_cases e : j = P
                · subst e; exact HLe.out rfl
                · exact HK.out j hj (by have := HP.out; omega))
              clear hb HLe HNl HK
              go_wp2_with fail
              refine wp_region_grow (by kernel_rfl) (by kernel_rfl) ?_
              repeat (go_big_quiet_step ((go_at_call 13; exact quiet_gs (HC1.out _))))
              refine wpQuiet_nil ?_
              rintro w1 hw'
              have HW1 : Hid (Below wo.heap.size wo w1) := (show Below _ _ _ from btr HQ.out (gr_elim hw') (Nat.le_refl _))
              clear hw' HQ q0 q1 q2 HC1 hgl
              go_wp2_with fail
              go_roundw
              case rel => exact ⟨P, by omega, by first | rfl | go_num | rw [eP], HKN, HW1⟩
              case measure => simp [intOf]; omega
      · have hz : i = 0 := by omega
        subst hz
        have hv := HJ.out.nil rfl
        subst hv
        have HBel : Hid (Below w.heap.size w wo) := HJ.out.bel
        have HX0 : Hid (OwnI w.heap.size wo (.slice none 0 0) []) := (show OwnI _ _ _ _ from World.ownsRow_nil _ _ _ _)
        have HEq : Hid (isort (kp l) (places 1) = [0]) := (show _ = _ from rfl)
        have HB0 : Hid (Below wo.heap.size wo wo) := Below.refl _ _
        clear HJ HX0
        rw [show ((0 : Nat) : Int) = 0 from rfl]
        go_wp2_with fail
        go_loopw [5] (fun v5 wq => v5 = .int .i64 0 ∧ Hid (Below wo.heap.size wo wq)) (fun v5 _ => 0)
        case atStart => exact ⟨rfl, HB0⟩
        case round =>
          clear HB0
          obtain ⟨rfl, HQ⟩ := hrel
          go_wp2_with fail
          refine wp_region_grow (by kernel_rfl) (by kernel_rfl) ?_
          repeat (go_big_quiet_step (fail))
          refine wpQuiet_nil ?_
          rintro w1 hw'
          have HW1 : Hid (Below w.heap.size w w1) := (show Below _ _ _ from btr HBel.out (btr HQ.out (gr_elim hw') (Nat.le_refl _)) (Nat.le_refl _))
          clear hw' HQ
          have HX1 : Hid (RwI 3 (Value.int .i64) w (.slice none 0 0) [] w1) := (show RwI _ _ _ _ _ _ from ⟨World.ownsRow_nil _ _ _ _, HW1.out⟩)
          go_wp2_with (at_builtin; first
            | (refine wpList_app_none rfl _ _ rfl (some ⟨g2, 0, none⟩) 1 c2 rfl rfl HLc.out ?_)
            | (refine wpList_app_none rfl _ _ rfl none 0 0 rfl rfl (Nat.le_refl _) ?_)
            | (refine wpList_appM rfl _ _ rfl w.heap.size (.slice none 0 0) [] rfl (own_below HX1.out.own (by first | exact Below.refl _ _ | go_grown)) _ 0 1 1 rfl [(0 : Int)] rfl (fun j hj => by (have hj0 : j = 0 := by simpa using hj); subst hj0; simp) (by simp) (by have := HX1.out.bel.size; simp; omega) ?_; intro v2 w3 ho3 hg3 hat3; have hr := HX1.out.app (by first | exact Below.refl _ _ | go_grown) ho3 hg3; obtain ⟨g2, c2, e2, hlc, _, _⟩ := own_at2 ho3 (by simp); subst e2; have HLc : Hid (1 ≤ c2) := hlc; have HX3 : Hid (RoI l w (.slice (some ⟨g2, 0, none⟩) 1 c2) 1 w3) := (show RoI _ _ _ _ _ from ⟨hr.own, hr.bel, fun e => by cases e⟩); clear ho3 hg3 hat3 hr hlc))
          go_roundw
          case rel => exact ⟨1, by omega, by first | rfl | go_num, HX3⟩
          case measure => simp [intOf]; omega
    · have HE : Hid (RoI l w u3 l.length wo) := (show RoI _ _ _ _ _ by
        have := HJ.out
        rwa [show i = l.length by omega] at this)
      go_wp2
      go_ret
      exact ⟨_, rfl, HE.out.own, HE.out.bel⟩
end Go.Proofs.Ytfkkciepbmijaaa

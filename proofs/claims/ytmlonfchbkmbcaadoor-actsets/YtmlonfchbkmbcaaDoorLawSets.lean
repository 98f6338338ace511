/-
  The walk of ActSets.
-/
import Derived.Test.YtmlonfchbkmbcaaDoorAwake
namespace Go.Proofs.YtmlonfchbkmbcaaDoor
open Go.ChangeShapes Go.WideShapes Go.ChangeAt Go.RowKit

theorem merge_len (l : List A) : (mergeV l).length ≤ l.length := by
  have h1 := lastOf_len (isort kap (knownL l))
  rw [isort_len] at h1
  exact Nat.le_trans h1 (known_len l)
theorem merge_next (l : List A) {i : Nat} (hi : i + 1 < (mergeV l).length) (hW : AWs l) : (at' (mergeV l) (i + 1)).1 = (at' (mergeV l) i).1 → (at' (mergeV l) (i + 1)).1 = 5 ∧ (at' (mergeV l) i).2.1 < (at' (mergeV l) (i + 1)).2.1 := by
  intro he
  have hs := merge_strict l
  rw [List.pairwise_iff_getElem] at hs
  have h1 := hs i (i + 1) (by omega) hi (by omega)
  rw [← at_get (mergeV l) i (by omega), ← at_get (mergeV l) (i + 1) hi] at h1
  have w1 : AW (at' (mergeV l) i) := by rw [at_get _ i (by omega)]; exact merge_aws hW _ (List.getElem_mem _)
  have w2 : AW (at' (mergeV l) (i + 1)) := by rw [at_get _ (i + 1) hi]; exact merge_aws hW _ (List.getElem_mem _)
  rw [kap_lt w1 w2, he] at h1
  rcases h1 with h1 | ⟨_, h5, h6⟩
  · omega
  · exact ⟨by rw [he]; exact h5, h6⟩
set_option maxHeartbeats 16000000 in
set_option maxRecDepth 20000 in
theorem sets_in (a b c : Option Addr) (l m n : List A) (ca cb cc : Nat) (w : World) (ha : Ts w a l) (hb : Ts w b m) (hc : Ts w c n) (hla : AWs l) (hlb : AWs m) (hlc : AWs n) (hd : Cd w) (h1 : l.length ≤ 40) (h2 : m.length ≤ 40) (h3 : n.length ≤ 40) :
    Calls Tryd.prog 8 #[.slice a l.length ca, .slice b m.length cb, .slice c n.length cc] w fun e w' => e = .returned (.bool true) ∧ Below w.heap.size w w' := by
  have HA : Hid (∀ w, Cd w → Calls Tryd.prog 9 #[] w fun e w' => e = .returned (.bool true) ∧ Below w.heap.size w w') := (show ∀ w, _ from fun w h => awake_any w h)
  have HD : Hid (Cd w) := hd
  have hLMw : AWs (l ++ m) := fun x hx => (List.mem_append.1 hx).elim (hla x) (hlb x)
  have hALw : AWs ((l ++ m) ++ n) := fun x hx => (List.mem_append.1 hx).elim (hLMw x) (hlc x)
  obtain ⟨L, hL⟩ : ∃ L, mergeV ((l ++ m) ++ n) = L := ⟨_, rfl⟩
  obtain ⟨M, hM⟩ : ∃ M, mergeV (l ++ m) = M := ⟨_, rfl⟩
  obtain ⟨G, hG⟩ : ∃ G, (l ++ m) ++ n = G := ⟨_, rfl⟩
  have lenG : G.length = l.length + m.length + n.length := by rw [← hG]; simp only [List.length_append]
  have lenL : L.length ≤ 120 := by rw [← hL, hG]; have := merge_len G; omega
  have lenM : M.length ≤ 80 := by rw [← hM]; have := merge_len (l ++ m); rw [List.length_append] at this; omega
  have hLw : AWs L := by rw [← hL]; exact merge_aws hALw
  have hMw : AWs M := by rw [← hM]; exact merge_aws hLMw
  have HM0 : Hid (∀ (b : Option Addr) (cb : Nat) (w : World), Ts w b G → Calls Tryd.prog 20 #[.slice none 0 0, .slice b G.length cb] w fun e w' => ∃ v, e = .returned v ∧ w'.ownsRow w.heap.size 31 3 v L.length (flat L) ∧ Below w.heap.size w w') := (show ∀ _, _ from fun b cb w hb => by
    have := merge_any none b [] G 0 cb w (.inl rfl) hb (by simp) (by rw [← hG]; exact hALw) (by simp only [List.length_nil]; omega)
    rw [List.nil_append, ← hG, hL] at this
    rw [hG] at this
    exact this)
  have HM1 : Hid (∀ (w : World), Ts w a l → Ts w b m → Calls Tryd.prog 20 #[.slice a l.length ca, .slice b m.length cb] w fun e w' => ∃ v, e = .returned v ∧ w'.ownsRow w.heap.size 31 3 v M.length (flat M) ∧ Below w.heap.size w w') := (show ∀ _, _ from fun w h1 h2 => by
    have := merge_any a b l m ca cb w h1 h2 hla hlb (by omega)
    rw [hM] at this
    exact this)
  have HM2 : Hid (∀ (a : Option Addr) (ca : Nat) (w : World), Ts w a M → Ts w c n → Calls Tryd.prog 20 #[.slice a M.length ca, .slice c n.length cc] w fun e w' => ∃ v, e = .returned v ∧ w'.ownsRow w.heap.size 31 3 v L.length (flat L) ∧ Below w.heap.size w w') := (show ∀ _, _ from fun a ca w h1 h2 => by
    have := merge_any a c M n ca cc w h1 h2 hMw hlc (by omega)
    rw [← hM, merge_merge, hL, hM] at this
    exact this)
  have HM3 : Hid (∀ (a : Option Addr) (ca : Nat) (w : World), Ts w a L → Calls Tryd.prog 20 #[.slice a L.length ca, .slice a L.length ca] w fun e w' => ∃ v, e = .returned v ∧ w'.ownsRow w.heap.size 31 3 v L.length (flat L) ∧ Below w.heap.size w w') := (show ∀ _, _ from fun a ca w h => by
    have := merge_any a a L L ca ca w h h hLw hLw (by omega)
    rw [← hL, merge_self, hL] at this
    exact this)
  have HSm : Hid (∀ (a b : Option Addr) (ca cb : Nat) (w : World), Ts w a L → Ts w b L → Calls Tryd.prog 16 #[.slice a L.length ca, .slice b L.length cb] w fun e w' => e = .returned (.bool true) ∧ Below w.heap.size w w') := (show ∀ _, _ from fun a b ca cb w h1 h2 => by
    have := same_any a b L L ca cb w h1 h2 (by omega) (by omega)
    rw [show sameB L L = true by simp [sameB]] at this
    exact this)
  have HX : Hid (∀ i, i + 1 < L.length → (at' L (i + 1)).1 = (at' L i).1 → (at' L (i + 1)).1 = 5 ∧ (at' L i).2.1 < (at' L (i + 1)).2.1) := (show ∀ i, _ from fun i hi => by rw [← hL] at hi ⊢; exact merge_next _ hi hALw)
  have HG : Hid (G.length = l.length + m.length + n.length ∧ flat G = (flat l ++ flat m) ++ flat n) := ⟨lenG, by rw [← hG, flat_append, flat_append]⟩
  have z1 : ¬ (40 : Int) < (l.length : Int) := by omega
  have z2 : ¬ (40 : Int) < (m.length : Int) := by omega
  have z3 : ¬ (40 : Int) < (n.length : Int) := by omega
  clear hd hla hlb hlc hLMw hALw hL hM hG lenG lenM hLw hMw
  go_enter Tryd.func8, Tryd.ntmps8
  go_wp2_with (at_builtin; refine wpList_app rfl (.tmp 24) (.tmp 25) rfl w.heap.size _ _ _ rfl (World.ownsRow_made w #[] 0 (Nat.le_refl _) (by decide) rfl) a ca l l.length rfl rfl (ha.alloc _) (by omega) (by simp) ?_)
  intro v1 w1 o1 g1
  have b1 : Below w.heap.size w w1 := (show Below w.heap.size w (w.alloc _) by go_grown).grown g1 (by simp) (fun q hq => by cases hq; exact Nat.le_refl _)
  have o1' : w1.ownsRow w.heap.size 31 3 v1 l.length (flat l) := by simpa using o1
  clear o1 g1
  go_wp2_with (at_builtin; refine wpList_app rfl (.tmp 26) (.tmp 27) rfl w.heap.size _ _ _ rfl o1' b cb m m.length rfl rfl (hb.below b1) (by omega) b1.size ?_)
  intro v2 w2 o2 g2
  have b2 : Below w.heap.size w w2 := b1.grown g2 b1.size (fun q hq => (o1'.lt q hq).1)
  clear b1 o1' g2
  go_wp2_with (at_builtin; refine wpList_app rfl (.tmp 28) (.tmp 29) rfl w.heap.size _ _ _ rfl o2 c cc n n.length rfl rfl (hc.below b2) (by omega) b2.size ?_)
  intro v3 w3 o3 g3
  have b3 : Below w.heap.size w w3 := b2.grown g3 b2.size (fun q hq => (o2.lt q hq).1)
  have o3' : w3.ownsRow w.heap.size 31 3 v3 G.length (flat G) := by
    rw [HG.out.1, HG.out.2]
    first | exact o3 | (rw [List.append_assoc]; exact o3)
  clear b2 o2 o3 g3 HG
  obtain ⟨a3, c3, rfl, _, t3, _⟩ := own_ts o3'
  clear o3'
  go_wp2_with fail
  refine (HM0.out a3 c3 w3 t3).mono ?_
  rintro r w4 ⟨v4, rfl, o4, g4⟩
  have b4 := btr b3 g4 (Nat.le_refl _)
  obtain ⟨a4, c4, rfl, _, t4, _⟩ := own_ts o4
  clear b3 o4 g4 t3
  go_wp2_with fail
  refine (HM1.out w4 (ha.below b4) (hb.below b4)).mono ?_
  rintro r w5 ⟨v5, rfl, o5, g5⟩
  have b5 := btr b4 g5 (Nat.le_refl _)
  have t4a := t4.below g5
  obtain ⟨a5, c5, rfl, _, t5, _⟩ := own_ts o5
  clear b4 o5 g5 t4
  go_wp2_with fail
  refine (HM2.out a5 c5 w5 t5 (hc.below b5)).mono ?_
  rintro r w6 ⟨v6, rfl, o6, g6⟩
  have b6 := btr b5 g6 (Nat.le_refl _)
  have t4b := t4a.below g6
  obtain ⟨a6, c6, rfl, _, t6, _⟩ := own_ts o6
  clear b5 o6 g6 t4a t5
  go_wp2_with fail
  refine (HSm.out _ _ _ _ _ t6 t4b).mono ?_
  rintro r w7 ⟨rfl, g7⟩
  have b7 := btr b6 g7 (Nat.le_refl _)
  have t7 := t4b.below g7
  clear g7 b6 t6 t4b
  go_wp2_with fail
  refine (HM3.out a4 c4 w7 t7).mono ?_
  rintro r w8 ⟨v8, rfl, o8, g8⟩
  have b8 := btr b7 g8 (Nat.le_refl _)
  have t8 := t7.below g8
  obtain ⟨a8, c8, rfl, _, t8b, _⟩ := own_ts o8
  clear o8 g8 b7 t7
  go_wp2_with fail
  refine (HSm.out _ _ _ _ _ t8b t8).mono ?_
  rintro r w9 ⟨rfl, g9⟩
  have b9 := btr b8 g9 (Nat.le_refl _)
  have t9 := t8.below g9
  have hw9 := g9.size
  clear g9 b8 t8 t8b HM0 HM1 HM2 HM3 HSm
  go_wp2_with fail
  go_loopw [9] (fun i wr => ∃ k : Nat, 1 ≤ k ∧ (k ≤ L.length ∨ k = 1) ∧ i = .int .i64 k ∧ Below w9.heap.size w9 wr) (fun i _ => L.length - (intOf i).toNat)
  case atStart => exact ⟨1, by omega, .inr rfl, rfl, Below.refl _ _⟩
  case round =>
    obtain ⟨k, hk1, hk2, rfl, hbel⟩ := hrel
    by_cases hlt : k < L.length
    · obtain ⟨P, hP⟩ : ∃ P, k = P + 1 := ⟨k - 1, by omega⟩
      have tk := t9.below hbel
      obtain ⟨g, o, rfl, hg, hcs⟩ := tk.at hlt
      have q1 := C3.gr (hcs k hlt) hg
      have q2 := C3.gr (hcs P (by omega)) hg
      rw [← at_get L k hlt] at q1
      rw [← at_get L P (by omega)] at q2
      have hx := HX.out P (by omega)
      rw [← hP] at hx
      have eP : (k : Int) - 1 = (P : Int) := by omega
      have lP : (P : Int) < (L.length : Int) := by omega
      have lP' : P < L.length := by omega
      clear hcs tk hP HX
      generalize at' L k = X at *
      generalize at' L P = Y at *
      have q10 := fun n => (q1 n).1
      have q11 := fun n => (q1 n).2.1
      have q12 := fun n => (q1 n).2.2
      have q20 := fun n => (q2 n).1
      have q21 := fun n => (q2 n).2.1
      have q22 := fun n => (q2 n).2.2
      clear q1 q2
      cases hb1 : (X.1 == Y.1) with
      | false =>
        clear hx
        go_wp2_with fail
        refine wp_region_grow (by kernel_rfl) (by kernel_rfl) ?_
        repeat (go_big_quiet_step (fail))
        refine wpQuiet_nil ?_
        rintro w10 hw'
        have g10 := gr_elim hw'
        clear q10 q11 q12 q20 q21 q22 hw'
        go_wp2_with fail
        go_roundw
        case rel => exact ⟨k + 1, by omega, .inl (by omega), by go_num, btr hbel g10 (Nat.le_refl _)⟩
        case measure => simp [intOf]; omega
      | true =>
        obtain ⟨h5, h6⟩ := hx (by simpa using hb1)
        have hb2 : (X.1 != 5) = false := by simp [h5]
        have hb3 : decide (X.2.1 ≤ Y.2.1) = false := decide_eq_false (by omega)
        have hb4 : (Y.1 != 5) = false := by
          have e : X.1 = Y.1 := by simpa using hb1
          rw [← e]; exact hb2
        clear hx h5 h6
        go_wp2_with fail
        refine wp_region_grow (by kernel_rfl) (by kernel_rfl) ?_
        repeat (go_big_quiet_step (fail))
        refine wpQuiet_nil ?_
        rintro w10 hw'
        have g10 := gr_elim hw'
        clear q10 q11 q12 q20 q21 q22 hw'
        go_wp2_with fail
        go_roundw
        case rel => exact ⟨k + 1, by omega, .inl (by omega), by go_num, btr hbel g10 (Nat.le_refl _)⟩
        case measure => simp [intOf]; omega
    · have b10 := btr b9 hbel (Nat.le_refl _)
      go_wp2_with fail
      refine (HA.out _ (HD.out.below b10)).mono ?_
      rintro r w11 ⟨rfl, g11⟩
      go_wp2_with fail
      go_ret
      exact ⟨rfl, btr b10 g11 (Nat.le_refl _)⟩
set_option maxHeartbeats 4000000 in
theorem sets_walk (a : Option Addr) (l : List A) (ca : Nat) (b : Option Addr) (m : List A) (cb : Nat) (c : Option Addr) (n : List A) (cc : Nat) (w : World) (ha : Ts w a l) (_ : l.length ≤ ca) (hla : AWs l) (hb : Ts w b m) (_ : m.length ≤ cb) (hlb : AWs m) (hc : Ts w c n) (_ : n.length ≤ cc) (hlc : AWs n) (hd : Cd w) :
    Calls Tryd.prog 8 #[.slice a l.length ca, .slice b m.length cb, .slice c n.length cc] w fun e w' => e = .returned (.bool true) ∧ Below w.heap.size w w' := by
  by_cases h1 : l.length ≤ 40
  · by_cases h2 : m.length ≤ 40
    · by_cases h3 : n.length ≤ 40
      · exact sets_in a b c l m n ca cb cc w ha hb hc hla hlb hlc hd h1 h2 h3
      · have HA : Hid (∀ w, Cd w → Calls Tryd.prog 9 #[] w fun e w' => e = .returned (.bool true) ∧ Below w.heap.size w w') := (show ∀ w, _ from fun w h => awake_any w h)
        have HD : Hid (Cd w) := hd
        have z1 : ¬ (40 : Int) < (l.length : Int) := by omega
        have z2 : ¬ (40 : Int) < (m.length : Int) := by omega
        have z3 : (40 : Int) < (n.length : Int) := by omega
        clear hd hla hlb hlc
        go_enter Tryd.func8, Tryd.ntmps8
        go_wp2_with fail
        refine (HA.out _ HD.out).mono ?_
        rintro r w11 ⟨rfl, g11⟩
        go_wp2_with fail
        go_ret
        exact ⟨rfl, g11⟩
    · have HA : Hid (∀ w, Cd w → Calls Tryd.prog 9 #[] w fun e w' => e = .returned (.bool true) ∧ Below w.heap.size w w') := (show ∀ w, _ from fun w h => awake_any w h)
      have HD : Hid (Cd w) := hd
      have z1 : ¬ (40 : Int) < (l.length : Int) := by omega
      have z2 : (40 : Int) < (m.length : Int) := by omega
      clear hd hla hlb hlc
      go_enter Tryd.func8, Tryd.ntmps8
      go_wp2_with fail
      refine (HA.out _ HD.out).mono ?_
      rintro r w11 ⟨rfl, g11⟩
      go_wp2_with fail
      go_ret
      exact ⟨rfl, g11⟩
  · have HA : Hid (∀ w, Cd w → Calls Tryd.prog 9 #[] w fun e w' => e = .returned (.bool true) ∧ Below w.heap.size w w') := (show ∀ w, _ from fun w h => awake_any w h)
    have HD : Hid (Cd w) := hd
    have z1 : (40 : Int) < (l.length : Int) := by omega
    clear hd hla hlb hlc
    go_enter Tryd.func8, Tryd.ntmps8
    go_wp2_with fail
    refine (HA.out _ HD.out).mono ?_
    rintro r w11 ⟨rfl, g11⟩
    go_wp2_with fail
    go_ret
    exact ⟨rfl, g11⟩
end Go.Proofs.YtmlonfchbkmbcaaDoor

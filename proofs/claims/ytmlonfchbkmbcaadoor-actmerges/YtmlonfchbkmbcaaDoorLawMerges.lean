/-
  The walk of ActMerges.
-/
import Derived.Test.YtmlonfchbkmbcaaDoorAwake
import Derived.Test.YtmlonfchbkmbcaaDoorRMerge
namespace Go.Proofs.YtmlonfchbkmbcaaDoor
open Go.ChangeShapes Go.WideShapes Go.ChangeAt Go.RowKit

theorem merge_len' (l : List A) : (mergeV l).length ≤ l.length := by
  have h1 := lastOf_len (isort kap (knownL l))
  rw [isort_len] at h1
  exact Nat.le_trans h1 (known_len l)
set_option maxHeartbeats 8000000 in
set_option maxRecDepth 20000 in
theorem merges_in (a b : Option Addr) (l m : List A) (ca cb : Nat) (w : World) (ha : Ts w a l) (hb : Ts w b m) (hla : AWs l) (hlb : AWs m) (hd : Cd w) (h1 : l.length ≤ 60) (h2 : m.length ≤ 60) :
    Calls Tryd.prog 6 #[.slice a l.length ca, .slice b m.length cb] w fun e w' => e = .returned (.bool true) ∧ Below w.heap.size w w' := by
  have HA : Hid (∀ w, Cd w → Calls Tryd.prog 9 #[] w fun e w' => e = .returned (.bool true) ∧ Below w.heap.size w w') := (show ∀ w, _ from fun w h => awake_any w h)
  have HD : Hid (Cd w) := hd
  obtain ⟨L, hL⟩ : ∃ L, mergeV (l ++ m) = L := ⟨_, rfl⟩
  have lenL : L.length ≤ 120 := by rw [← hL]; have := merge_len' (l ++ m); rw [List.length_append] at this; omega
  have HM1 : Hid (∀ (a : Option Addr) (ca : Nat) (w : World), Ts w a l → Ts w b m → Calls Tryd.prog 20 #[.slice a l.length ca, .slice b m.length cb] w fun e w' => ∃ v, e = .returned v ∧ w'.ownsRow w.heap.size 31 3 v L.length (flat L) ∧ Below w.heap.size w w') := (show ∀ _, _ from fun a ca w h1 h2 => by
    have := merge_any a b l m ca cb w h1 h2 hla hlb (by omega)
    rw [hL] at this
    exact this)
  have HM2 : Hid (∀ (w : World), Ts w a l → Ts w b m → Calls Tryd.prog 21 #[.slice a l.length ca, .slice b m.length cb] w fun e w' => ∃ ao co, e = .returned (.slice ao L.length co) ∧ Ts w' ao L ∧ Below w.heap.size w w') := (show ∀ _, _ from fun w h1 h2 => by
    have := rmerge_any a b l m ca cb w h1 h2 hla hlb (by omega)
    rw [hL] at this
    exact this)
  have HSm : Hid (∀ (a b : Option Addr) (ca cb : Nat) (w : World), Ts w a L → Ts w b L → Calls Tryd.prog 16 #[.slice a L.length ca, .slice b L.length cb] w fun e w' => e = .returned (.bool true) ∧ Below w.heap.size w w') := (show ∀ _, _ from fun a b ca cb w h1 h2 => by
    have := same_any a b L L ca cb w h1 h2 (by omega) (by omega)
    rw [show sameB L L = true by simp [sameB]] at this
    exact this)
  have HSl : Hid (∀ (b : Option Addr) (cb : Nat) (w : World), Ts w b l → Ts w a l → Calls Tryd.prog 16 #[.slice b l.length cb, .slice a l.length ca] w fun e w' => e = .returned (.bool true) ∧ Below w.heap.size w w') := (show ∀ _, _ from fun b cb w h1 h2 => by
    have := same_any b a l l cb ca w h1 h2 (by omega) (by omega)
    rw [show sameB l l = true by simp [sameB]] at this
    exact this)
  have z1 : ¬ (60 : Int) < (l.length : Int) := by omega
  have z2 : ¬ (60 : Int) < (m.length : Int) := by omega
  clear hd hla hlb hL
  go_enter Tryd.func6, Tryd.ntmps6
  go_wp2_with (at_builtin; refine wpList_app rfl (.tmp 15) (.tmp 16) rfl w.heap.size _ _ _ rfl (World.ownsRow_made w #[] 0 (Nat.le_refl _) (by decide) rfl) a ca l l.length rfl rfl (ha.alloc _) (by omega) (by simp) ?_)
  intro v1 w1 o1 g1
  have b1 : Below w.heap.size w w1 := (show Below w.heap.size w (w.alloc _) by go_grown).grown g1 (by simp) (fun q hq => by cases hq; exact Nat.le_refl _)
  have o1' : w1.ownsRow w.heap.size 31 3 v1 l.length (flat l) := by simpa using o1
  obtain ⟨a1, c1, rfl, _, t1, _⟩ := own_ts o1'
  clear o1 g1 o1'
  go_wp2_with fail
  refine (HM1.out a1 c1 w1 t1 (hb.below b1)).mono ?_
  rintro r w2 ⟨v2, rfl, o2, g2⟩
  obtain ⟨a2, c2, rfl, _, t2, _⟩ := own_ts o2
  have b2 := btr b1 g2 (Nat.le_refl _)
  have t1a := t1.below g2
  clear o2 g2 b1 t1
  go_wp2_with fail
  refine (HM2.out w2 (ha.below b2) (hb.below b2)).mono ?_
  rintro r w3 ⟨a3, c3, rfl, t3, g3⟩
  have b3 := btr b2 g3 (Nat.le_refl _)
  have t1b := t1a.below g3
  have t2b := t2.below g3
  clear g3 b2 t1a t2
  go_wp2_with fail
  refine (HSm.out _ _ _ _ _ t2b t3).mono ?_
  rintro r w4 ⟨rfl, g4⟩
  have b4 := btr b3 g4 (Nat.le_refl _)
  have t1c := t1b.below g4
  clear g4 b3 t1b t2b t3
  go_wp2_with fail
  refine (HSl.out _ _ _ t1c (ha.below b4)).mono ?_
  rintro r w5 ⟨rfl, g5⟩
  have b5 := btr b4 g5 (Nat.le_refl _)
  clear g5 b4 t1c
  go_wp2_with fail
  refine (HA.out _ (HD.out.below b5)).mono ?_
  rintro r w6 ⟨rfl, g6⟩
  go_wp2_with fail
  go_ret
  exact ⟨rfl, btr b5 g6 (Nat.le_refl _)⟩
set_option maxHeartbeats 4000000 in
theorem merges_walk (a : Option Addr) (l : List A) (ca : Nat) (b : Option Addr) (m : List A) (cb : Nat) (w : World) (ha : Ts w a l) (_ : l.length ≤ ca) (hla : AWs l) (hb : Ts w b m) (_ : m.length ≤ cb) (hlb : AWs m) (hd : Cd w) :
    Calls Tryd.prog 6 #[.slice a l.length ca, .slice b m.length cb] w fun e w' => e = .returned (.bool true) ∧ Below w.heap.size w w' := by
  by_cases h1 : l.length ≤ 60
  · by_cases h2 : m.length ≤ 60
    · exact merges_in a b l m ca cb w ha hb hla hlb hd h1 h2
    · have HA : Hid (∀ w, Cd w → Calls Tryd.prog 9 #[] w fun e w' => e = .returned (.bool true) ∧ Below w.heap.size w w') := (show ∀ w, _ from fun w h => awake_any w h)
      have HD : Hid (Cd w) := hd
      have z1 : ¬ (60 : Int) < (l.length : Int) := by omega
      have z2 : (60 : Int) < (m.length : Int) := by omega
      clear hd hla hlb
      go_enter Tryd.func6, Tryd.ntmps6
      go_wp2_with fail
      refine (HA.out _ HD.out).mono ?_
      rintro r w11 ⟨rfl, g11⟩
      go_wp2_with fail
      go_ret
      exact ⟨rfl, g11⟩
  · have HA : Hid (∀ w, Cd w → Calls Tryd.prog 9 #[] w fun e w' => e = .returned (.bool true) ∧ Below w.heap.size w w') := (show ∀ w, _ from fun w h => awake_any w h)
    have HD : Hid (Cd w) := hd
    have z1 : (60 : Int) < (l.length : Int) := by omega
    clear hd hla hlb
    go_enter Tryd.func6, Tryd.ntmps6
    go_wp2_with fail
    refine (HA.out _ HD.out).mono ?_
    rintro r w11 ⟨rfl, g11⟩
    go_wp2_with fail
    go_ret
    exact ⟨rfl, g11⟩
end Go.Proofs.YtmlonfchbkmbcaaDoor

/-
  The law MatchSound answers true, of any tests and any packet.
-/
import Derived.Test.YtjmnnjhaiecglabDoorTakes
import Derived.Test.YtjmnnjhaiecglabDoorEncode
namespace Go.Proofs.YtjmnnjhaiecglabDoor
open Go.ChangeShapes Go.WideShapes Go.ChangeAt Go.RowKit

theorem sound1 (a b : List T) (s : Sn) (ha : TWs a) (hb : TWs b) (hc : coversB a b = true) (hy : takesB b s = true) : takesB a s = true := by
  unfold coversB at hc
  unfold takesB at hy ⊢
  rw [List.all_eq_true] at hc hy ⊢
  intro t ht
  have h1 := hc t ht
  rw [List.any_eq_true] at h1
  obtain ⟨u, hu, hcov⟩ := h1
  have h2 := hy u hu
  have wt := ha t ht
  have wu := hb u hu
  unfold coverT at hcov
  unfold takeT at h2 ⊢
  simp only [Bool.and_eq_true, beq_iff_eq] at hcov h2 ⊢
  obtain ⟨⟨e1, e2⟩, e3⟩ := hcov
  obtain ⟨g1, g2⟩ := h2
  rw [← e1]
  exact ⟨g1, and_cover _ u.2.2 u.2.1 t.2.2 t.2.1 wt.v0 wt.v1 wt.m0 wt.m1 wu.v0 wu.v1 e2 e3 g2⟩
theorem sound2 (a b : List T) (s : Sn) (ha : TWs a) (hb : TWs b) (hx : takesB a s = true) (hy : takesB b s = true) : meetsB a b = true := by
  unfold meetsB
  unfold takesB at hx hy
  rw [List.all_eq_true] at hx hy ⊢
  intro t ht
  rw [List.all_eq_true]
  intro u hu
  have h1 := hx t ht
  have h2 := hy u hu
  have wt := ha t ht
  have wu := hb u hu
  unfold takeT at h1 h2
  simp only [Bool.and_eq_true, beq_iff_eq] at h1 h2
  rw [Bool.not_eq_true']
  unfold clashT
  by_cases he : u.1 = t.1
  · rw [he] at h2
    have := and_meet (getV s t.1) u.2.2 u.2.1 t.2.2 t.2.1 wt.v0 wt.v1 wu.v0 wu.v1 h1.2 h2.2
    rw [this]
    simp
  · have : (u.1 == t.1) = false := by simpa using he
    rw [this]
    rfl
theorem lawSound_long (a1 : Option Addr) (l : List T) (cap1 : Nat) (a2 : Option Addr) (b : List T) (cap2 : Nat) (s : Sn) (w : World) (hd : Cd w) (hg : 40 < l.length ∨ 40 < b.length) :
    Calls Tryd.prog 3 #[.slice a1 l.length cap1, .slice a2 b.length cap2, snV s] w fun e w' => e = .returned (.bool true) ∧ Below w.heap.size w w' := by
  have HA : Hid (∀ w, Cd w → Calls Tryd.prog 4 #[] w fun e w' => e = .returned (.bool true) ∧ Below w.heap.size w w') := fun w hd => awake_any w hd
  by_cases h1 : (l.length : Int) > 40
  · go_enter Tryd.func3, Tryd.ntmps3
    go_wp2_with fail
    refine (HA.out _ (hd.alloc _)).mono ?_
    rintro r w3 ⟨rfl, g3⟩
    go_wp2_with fail
    go_ret
    exact ⟨rfl, btr (by go_grown) g3 (by simp)⟩
  · have h2 : (b.length : Int) > 40 := by omega
    go_enter Tryd.func3, Tryd.ntmps3
    go_wp2_with fail
    refine (HA.out _ (hd.alloc _)).mono ?_
    rintro r w3 ⟨rfl, g3⟩
    go_wp2_with fail
    go_ret
    exact ⟨rfl, btr (by go_grown) g3 (by simp)⟩

set_option maxRecDepth 20000 in
set_option maxHeartbeats 8000000 in
theorem sound_000 (a1 : Option Addr) (l : List T) (cap1 : Nat) (a2 : Option Addr) (b : List T) (cap2 : Nat) (s : Sn) (w : World) (h1 : Ts w a1 l) (h2 : Ts w a2 b) (hd : Cd w) (hw : Wf s) (hl1 : l.length ≤ 40) (hl2 : b.length ≤ 40)
    (vx : takesB l s = false) (vy : takesB b s = false) (vc : coversB l b = false) :
    Calls Tryd.prog 3 #[.slice a1 l.length cap1, .slice a2 b.length cap2, snV s] w fun e w' => e = .returned (.bool true) ∧ Below w.heap.size w w' := by
  have HA : Hid (∀ w, Cd w → Calls Tryd.prog 4 #[] w fun e w' => e = .returned (.bool true) ∧ Below w.heap.size w w') := fun w hd => awake_any w hd
  have HX : Hid (∀ w, Ts w a1 l → Calls Tryd.prog 5 #[.slice a1 l.length cap1, snV s] w fun e w' => e = .returned (.bool false) ∧ Below w.heap.size w w') := fun w h => vx ▸ takes_any a1 l cap1 s w h (by omega) hw
  have HY : Hid (∀ w, Ts w a2 b → Calls Tryd.prog 5 #[.slice a2 b.length cap2, snV s] w fun e w' => e = .returned (.bool false) ∧ Below w.heap.size w w') := fun w h => vy ▸ takes_any a2 b cap2 s w h (by omega) hw
  have HC : Hid (∀ w, Ts w a1 l → Ts w a2 b → Calls Tryd.prog 6 #[.slice a1 l.length cap1, .slice a2 b.length cap2] w fun e w' => e = .returned (.bool false) ∧ Below w.heap.size w w') := fun w h h' => vc ▸ covers_any a1 l cap1 a2 b cap2 w h (by omega) h' (by omega)
  have N1 : Hid (∀ w, Ts w a2 b → Calls Tryd.prog 6 #[.slice none 0 0, .slice a2 b.length cap2] w fun e w' => e = .returned (.bool true) ∧ Below w.heap.size w w') := fun w h => covers_any none [] 0 a2 b cap2 w (.inl rfl) (by simp) h (by omega)
  have N2 : Hid (∀ w, Calls Tryd.prog 5 #[.slice none 0 0, snV s] w fun e w' => e = .returned (.bool true) ∧ Below w.heap.size w w') := fun w => takes_any none [] 0 s w (.inl rfl) (by simp) hw
  have N3 : Hid (∀ w, Ts w a1 l → Calls Tryd.prog 7 #[.slice a1 l.length cap1, .slice none 0 0] w fun e w' => e = .returned (.bool true) ∧ Below w.heap.size w w') := fun w h => by
    have := meets_any a1 l cap1 none [] 0 w h (by omega) (.inl rfl) (by simp)
    rwa [show meetsB l [] = true by simp [meetsB]] at this
  have N4 : Hid (∀ w, Ts w a1 l → Calls Tryd.prog 8 #[.slice a1 l.length cap1, .slice a1 l.length cap1] w fun e w' => e = .returned (.bool true) ∧ Below w.heap.size w w') := fun w h => by
    have := same_any a1 l cap1 a1 l cap1 w h (by omega) h (by omega)
    rwa [show sameB l l = true from decide_eq_true rfl] at this
  have n1 : ¬ (l.length : Int) > 40 := by omega
  have n2 : ¬ (b.length : Int) > 40 := by omega
  clear vx vy vc
  have hB : ∀ X, Below (bx w s).heap.size (bx w s) X → Bx X w.heap.size s := fun X g => (Bx.new w s).below (by simp) g
  have hW : ∀ X, Below (bx w s).heap.size (bx w s) X → Below w.heap.size w X := fun X g => btr (by go_grown) g (by simp)
  replace hB : Hid _ := hB
  replace hW : Hid _ := hW
  have t0 := h1.alloc (.cells (snC s) 28)
  have u0 := h2.alloc (.cells (snC s) 28)
  have d0 := hd.alloc (.cells (snC s) 28)
  have bx0 := Bx.new w s
  obtain ⟨k0, k1, k2, k3, k4, k5, k6, k7, k8, k9, k10, k11, k12⟩ := bx0
  go_enter Tryd.func3, Tryd.ntmps3
  go_wp2_with fail
  refine (HX.out _ t0).mono ?_
  rintro r w1 ⟨rfl, g1⟩
  clear k0 k1 k2 k3 k4 k5 k6 k7 k8 k9 k10 k11 k12
  have bx1 := hB.out _ g1
  obtain ⟨k0, k1, k2, k3, k4, k5, k6, k7, k8, k9, k10, k11, k12⟩ := bx1
  go_wp2_with fail
  refine (HY.out _ (u0.below g1)).mono ?_
  rintro r w2 ⟨rfl, g2'⟩
  have g2 := btr g1 g2' (Nat.le_refl _)
  clear g2' k0 k1 k2 k3 k4 k5 k6 k7 k8 k9 k10 k11 k12
  go_wp2_with fail
  refine (HC.out _ (t0.below g2) (u0.below g2)).mono ?_
  rintro r w3 ⟨rfl, g3'⟩
  have g3 := btr g2 g3' (Nat.le_refl _)
  clear g3'
  have g4 := g3
  go_wp2_with fail
  refine (N1.out _ (u0.below g4)).mono ?_
  rintro r w5 ⟨rfl, g5'⟩
  have g5 := btr g4 g5' (Nat.le_refl _)
  clear g5'
  have bx1 := hB.out _ g5
  obtain ⟨k0, k1, k2, k3, k4, k5, k6, k7, k8, k9, k10, k11, k12⟩ := bx1
  go_wp2_with fail
  refine (N2.out _).mono ?_
  rintro r w6 ⟨rfl, g6'⟩
  have g6 := btr g5 g6' (Nat.le_refl _)
  clear g6' k0 k1 k2 k3 k4 k5 k6 k7 k8 k9 k10 k11 k12
  go_wp2_with fail
  refine (N3.out _ (t0.below g6)).mono ?_
  rintro r w7 ⟨rfl, g7'⟩
  have g7 := btr g6 g7' (Nat.le_refl _)
  clear g7'
  go_wp2_with fail
  refine (N4.out _ (t0.below g7)).mono ?_
  rintro r w8 ⟨rfl, g8'⟩
  have g8 := btr g7 g8' (Nat.le_refl _)
  clear g8'
  go_wp2_with fail
  refine (HA.out _ (d0.below g8)).mono ?_
  rintro r w9 ⟨rfl, g9'⟩
  have g9 := btr g8 g9' (Nat.le_refl _)
  go_wp2_with fail
  go_ret
  exact ⟨rfl, hW.out _ g9⟩

set_option maxRecDepth 20000 in
set_option maxHeartbeats 8000000 in
theorem sound_001 (a1 : Option Addr) (l : List T) (cap1 : Nat) (a2 : Option Addr) (b : List T) (cap2 : Nat) (s : Sn) (w : World) (h1 : Ts w a1 l) (h2 : Ts w a2 b) (hd : Cd w) (hw : Wf s) (hl1 : l.length ≤ 40) (hl2 : b.length ≤ 40)
    (vx : takesB l s = false) (vy : takesB b s = false) (vc : coversB l b = true) :
    Calls Tryd.prog 3 #[.slice a1 l.length cap1, .slice a2 b.length cap2, snV s] w fun e w' => e = .returned (.bool true) ∧ Below w.heap.size w w' := by
  have HA : Hid (∀ w, Cd w → Calls Tryd.prog 4 #[] w fun e w' => e = .returned (.bool true) ∧ Below w.heap.size w w') := fun w hd => awake_any w hd
  have HX : Hid (∀ w, Ts w a1 l → Calls Tryd.prog 5 #[.slice a1 l.length cap1, snV s] w fun e w' => e = .returned (.bool false) ∧ Below w.heap.size w w') := fun w h => vx ▸ takes_any a1 l cap1 s w h (by omega) hw
  have HY : Hid (∀ w, Ts w a2 b → Calls Tryd.prog 5 #[.slice a2 b.length cap2, snV s] w fun e w' => e = .returned (.bool false) ∧ Below w.heap.size w w') := fun w h => vy ▸ takes_any a2 b cap2 s w h (by omega) hw
  have HC : Hid (∀ w, Ts w a1 l → Ts w a2 b → Calls Tryd.prog 6 #[.slice a1 l.length cap1, .slice a2 b.length cap2] w fun e w' => e = .returned (.bool true) ∧ Below w.heap.size w w') := fun w h h' => vc ▸ covers_any a1 l cap1 a2 b cap2 w h (by omega) h' (by omega)
  have N1 : Hid (∀ w, Ts w a2 b → Calls Tryd.prog 6 #[.slice none 0 0, .slice a2 b.length cap2] w fun e w' => e = .returned (.bool true) ∧ Below w.heap.size w w') := fun w h => covers_any none [] 0 a2 b cap2 w (.inl rfl) (by simp) h (by omega)
  have N2 : Hid (∀ w, Calls Tryd.prog 5 #[.slice none 0 0, snV s] w fun e w' => e = .returned (.bool true) ∧ Below w.heap.size w w') := fun w => takes_any none [] 0 s w (.inl rfl) (by simp) hw
  have N3 : Hid (∀ w, Ts w a1 l → Calls Tryd.prog 7 #[.slice a1 l.length cap1, .slice none 0 0] w fun e w' => e = .returned (.bool true) ∧ Below w.heap.size w w') := fun w h => by
    have := meets_any a1 l cap1 none [] 0 w h (by omega) (.inl rfl) (by simp)
    rwa [show meetsB l [] = true by simp [meetsB]] at this
  have N4 : Hid (∀ w, Ts w a1 l → Calls Tryd.prog 8 #[.slice a1 l.length cap1, .slice a1 l.length cap1] w fun e w' => e = .returned (.bool true) ∧ Below w.heap.size w w') := fun w h => by
    have := same_any a1 l cap1 a1 l cap1 w h (by omega) h (by omega)
    rwa [show sameB l l = true from decide_eq_true rfl] at this
  have n1 : ¬ (l.length : Int) > 40 := by omega
  have n2 : ¬ (b.length : Int) > 40 := by omega
  clear vx vy vc
  have hB : ∀ X, Below (bx w s).heap.size (bx w s) X → Bx X w.heap.size s := fun X g => (Bx.new w s).below (by simp) g
  have hW : ∀ X, Below (bx w s).heap.size (bx w s) X → Below w.heap.size w X := fun X g => btr (by go_grown) g (by simp)
  replace hB : Hid _ := hB
  replace hW : Hid _ := hW
  have t0 := h1.alloc (.cells (snC s) 28)
  have u0 := h2.alloc (.cells (snC s) 28)
  have d0 := hd.alloc (.cells (snC s) 28)
  have bx0 := Bx.new w s
  obtain ⟨k0, k1, k2, k3, k4, k5, k6, k7, k8, k9, k10, k11, k12⟩ := bx0
  go_enter Tryd.func3, Tryd.ntmps3
  go_wp2_with fail
  refine (HX.out _ t0).mono ?_
  rintro r w1 ⟨rfl, g1⟩
  clear k0 k1 k2 k3 k4 k5 k6 k7 k8 k9 k10 k11 k12
  have bx1 := hB.out _ g1
  obtain ⟨k0, k1, k2, k3, k4, k5, k6, k7, k8, k9, k10, k11, k12⟩ := bx1
  go_wp2_with fail
  refine (HY.out _ (u0.below g1)).mono ?_
  rintro r w2 ⟨rfl, g2'⟩
  have g2 := btr g1 g2' (Nat.le_refl _)
  clear g2' k0 k1 k2 k3 k4 k5 k6 k7 k8 k9 k10 k11 k12
  go_wp2_with fail
  refine (HC.out _ (t0.below g2) (u0.below g2)).mono ?_
  rintro r w3 ⟨rfl, g3'⟩
  have g3 := btr g2 g3' (Nat.le_refl _)
  clear g3'
  have g4 := g3
  go_wp2_with fail
  refine (N1.out _ (u0.below g4)).mono ?_
  rintro r w5 ⟨rfl, g5'⟩
  have g5 := btr g4 g5' (Nat.le_refl _)
  clear g5'
  have bx1 := hB.out _ g5
  obtain ⟨k0, k1, k2, k3, k4, k5, k6, k7, k8, k9, k10, k11, k12⟩ := bx1
  go_wp2_with fail
  refine (N2.out _).mono ?_
  rintro r w6 ⟨rfl, g6'⟩
  have g6 := btr g5 g6' (Nat.le_refl _)
  clear g6' k0 k1 k2 k3 k4 k5 k6 k7 k8 k9 k10 k11 k12
  go_wp2_with fail
  refine (N3.out _ (t0.below g6)).mono ?_
  rintro r w7 ⟨rfl, g7'⟩
  have g7 := btr g6 g7' (Nat.le_refl _)
  clear g7'
  go_wp2_with fail
  refine (N4.out _ (t0.below g7)).mono ?_
  rintro r w8 ⟨rfl, g8'⟩
  have g8 := btr g7 g8' (Nat.le_refl _)
  clear g8'
  go_wp2_with fail
  refine (HA.out _ (d0.below g8)).mono ?_
  rintro r w9 ⟨rfl, g9'⟩
  have g9 := btr g8 g9' (Nat.le_refl _)
  go_wp2_with fail
  go_ret
  exact ⟨rfl, hW.out _ g9⟩

set_option maxRecDepth 20000 in
set_option maxHeartbeats 8000000 in
theorem sound_010 (a1 : Option Addr) (l : List T) (cap1 : Nat) (a2 : Option Addr) (b : List T) (cap2 : Nat) (s : Sn) (w : World) (h1 : Ts w a1 l) (h2 : Ts w a2 b) (hd : Cd w) (hw : Wf s) (hl1 : l.length ≤ 40) (hl2 : b.length ≤ 40)
    (vx : takesB l s = false) (vy : takesB b s = true) (vc : coversB l b = false) :
    Calls Tryd.prog 3 #[.slice a1 l.length cap1, .slice a2 b.length cap2, snV s] w fun e w' => e = .returned (.bool true) ∧ Below w.heap.size w w' := by
  have HA : Hid (∀ w, Cd w → Calls Tryd.prog 4 #[] w fun e w' => e = .returned (.bool true) ∧ Below w.heap.size w w') := fun w hd => awake_any w hd
  have HX : Hid (∀ w, Ts w a1 l → Calls Tryd.prog 5 #[.slice a1 l.length cap1, snV s] w fun e w' => e = .returned (.bool false) ∧ Below w.heap.size w w') := fun w h => vx ▸ takes_any a1 l cap1 s w h (by omega) hw
  have HY : Hid (∀ w, Ts w a2 b → Calls Tryd.prog 5 #[.slice a2 b.length cap2, snV s] w fun e w' => e = .returned (.bool true) ∧ Below w.heap.size w w') := fun w h => vy ▸ takes_any a2 b cap2 s w h (by omega) hw
  have HC : Hid (∀ w, Ts w a1 l → Ts w a2 b → Calls Tryd.prog 6 #[.slice a1 l.length cap1, .slice a2 b.length cap2] w fun e w' => e = .returned (.bool false) ∧ Below w.heap.size w w') := fun w h h' => vc ▸ covers_any a1 l cap1 a2 b cap2 w h (by omega) h' (by omega)
  have N1 : Hid (∀ w, Ts w a2 b → Calls Tryd.prog 6 #[.slice none 0 0, .slice a2 b.length cap2] w fun e w' => e = .returned (.bool true) ∧ Below w.heap.size w w') := fun w h => covers_any none [] 0 a2 b cap2 w (.inl rfl) (by simp) h (by omega)
  have N2 : Hid (∀ w, Calls Tryd.prog 5 #[.slice none 0 0, snV s] w fun e w' => e = .returned (.bool true) ∧ Below w.heap.size w w') := fun w => takes_any none [] 0 s w (.inl rfl) (by simp) hw
  have N3 : Hid (∀ w, Ts w a1 l → Calls Tryd.prog 7 #[.slice a1 l.length cap1, .slice none 0 0] w fun e w' => e = .returned (.bool true) ∧ Below w.heap.size w w') := fun w h => by
    have := meets_any a1 l cap1 none [] 0 w h (by omega) (.inl rfl) (by simp)
    rwa [show meetsB l [] = true by simp [meetsB]] at this
  have N4 : Hid (∀ w, Ts w a1 l → Calls Tryd.prog 8 #[.slice a1 l.length cap1, .slice a1 l.length cap1] w fun e w' => e = .returned (.bool true) ∧ Below w.heap.size w w') := fun w h => by
    have := same_any a1 l cap1 a1 l cap1 w h (by omega) h (by omega)
    rwa [show sameB l l = true from decide_eq_true rfl] at this
  have n1 : ¬ (l.length : Int) > 40 := by omega
  have n2 : ¬ (b.length : Int) > 40 := by omega
  clear vx vy vc
  have hB : ∀ X, Below (bx w s).heap.size (bx w s) X → Bx X w.heap.size s := fun X g => (Bx.new w s).below (by simp) g
  have hW : ∀ X, Below (bx w s).heap.size (bx w s) X → Below w.heap.size w X := fun X g => btr (by go_grown) g (by simp)
  replace hB : Hid _ := hB
  replace hW : Hid _ := hW
  have t0 := h1.alloc (.cells (snC s) 28)
  have u0 := h2.alloc (.cells (snC s) 28)
  have d0 := hd.alloc (.cells (snC s) 28)
  have bx0 := Bx.new w s
  obtain ⟨k0, k1, k2, k3, k4, k5, k6, k7, k8, k9, k10, k11, k12⟩ := bx0
  go_enter Tryd.func3, Tryd.ntmps3
  go_wp2_with fail
  refine (HX.out _ t0).mono ?_
  rintro r w1 ⟨rfl, g1⟩
  clear k0 k1 k2 k3 k4 k5 k6 k7 k8 k9 k10 k11 k12
  have bx1 := hB.out _ g1
  obtain ⟨k0, k1, k2, k3, k4, k5, k6, k7, k8, k9, k10, k11, k12⟩ := bx1
  go_wp2_with fail
  refine (HY.out _ (u0.below g1)).mono ?_
  rintro r w2 ⟨rfl, g2'⟩
  have g2 := btr g1 g2' (Nat.le_refl _)
  clear g2' k0 k1 k2 k3 k4 k5 k6 k7 k8 k9 k10 k11 k12
  go_wp2_with fail
  refine (HC.out _ (t0.below g2) (u0.below g2)).mono ?_
  rintro r w3 ⟨rfl, g3'⟩
  have g3 := btr g2 g3' (Nat.le_refl _)
  clear g3'
  have g4 := g3
  go_wp2_with fail
  refine (N1.out _ (u0.below g4)).mono ?_
  rintro r w5 ⟨rfl, g5'⟩
  have g5 := btr g4 g5' (Nat.le_refl _)
  clear g5'
  have bx1 := hB.out _ g5
  obtain ⟨k0, k1, k2, k3, k4, k5, k6, k7, k8, k9, k10, k11, k12⟩ := bx1
  go_wp2_with fail
  refine (N2.out _).mono ?_
  rintro r w6 ⟨rfl, g6'⟩
  have g6 := btr g5 g6' (Nat.le_refl _)
  clear g6' k0 k1 k2 k3 k4 k5 k6 k7 k8 k9 k10 k11 k12
  go_wp2_with fail
  refine (N3.out _ (t0.below g6)).mono ?_
  rintro r w7 ⟨rfl, g7'⟩
  have g7 := btr g6 g7' (Nat.le_refl _)
  clear g7'
  go_wp2_with fail
  refine (N4.out _ (t0.below g7)).mono ?_
  rintro r w8 ⟨rfl, g8'⟩
  have g8 := btr g7 g8' (Nat.le_refl _)
  clear g8'
  go_wp2_with fail
  refine (HA.out _ (d0.below g8)).mono ?_
  rintro r w9 ⟨rfl, g9'⟩
  have g9 := btr g8 g9' (Nat.le_refl _)
  go_wp2_with fail
  go_ret
  exact ⟨rfl, hW.out _ g9⟩

set_option maxRecDepth 20000 in
set_option maxHeartbeats 8000000 in
theorem sound_100 (a1 : Option Addr) (l : List T) (cap1 : Nat) (a2 : Option Addr) (b : List T) (cap2 : Nat) (s : Sn) (w : World) (h1 : Ts w a1 l) (h2 : Ts w a2 b) (hd : Cd w) (hw : Wf s) (hl1 : l.length ≤ 40) (hl2 : b.length ≤ 40)
    (vx : takesB l s = true) (vy : takesB b s = false) (vc : coversB l b = false) :
    Calls Tryd.prog 3 #[.slice a1 l.length cap1, .slice a2 b.length cap2, snV s] w fun e w' => e = .returned (.bool true) ∧ Below w.heap.size w w' := by
  have HA : Hid (∀ w, Cd w → Calls Tryd.prog 4 #[] w fun e w' => e = .returned (.bool true) ∧ Below w.heap.size w w') := fun w hd => awake_any w hd
  have HX : Hid (∀ w, Ts w a1 l → Calls Tryd.prog 5 #[.slice a1 l.length cap1, snV s] w fun e w' => e = .returned (.bool true) ∧ Below w.heap.size w w') := fun w h => vx ▸ takes_any a1 l cap1 s w h (by omega) hw
  have HY : Hid (∀ w, Ts w a2 b → Calls Tryd.prog 5 #[.slice a2 b.length cap2, snV s] w fun e w' => e = .returned (.bool false) ∧ Below w.heap.size w w') := fun w h => vy ▸ takes_any a2 b cap2 s w h (by omega) hw
  have HC : Hid (∀ w, Ts w a1 l → Ts w a2 b → Calls Tryd.prog 6 #[.slice a1 l.length cap1, .slice a2 b.length cap2] w fun e w' => e = .returned (.bool false) ∧ Below w.heap.size w w') := fun w h h' => vc ▸ covers_any a1 l cap1 a2 b cap2 w h (by omega) h' (by omega)
  have N1 : Hid (∀ w, Ts w a2 b → Calls Tryd.prog 6 #[.slice none 0 0, .slice a2 b.length cap2] w fun e w' => e = .returned (.bool true) ∧ Below w.heap.size w w') := fun w h => covers_any none [] 0 a2 b cap2 w (.inl rfl) (by simp) h (by omega)
  have N2 : Hid (∀ w, Calls Tryd.prog 5 #[.slice none 0 0, snV s] w fun e w' => e = .returned (.bool true) ∧ Below w.heap.size w w') := fun w => takes_any none [] 0 s w (.inl rfl) (by simp) hw
  have N3 : Hid (∀ w, Ts w a1 l → Calls Tryd.prog 7 #[.slice a1 l.length cap1, .slice none 0 0] w fun e w' => e = .returned (.bool true) ∧ Below w.heap.size w w') := fun w h => by
    have := meets_any a1 l cap1 none [] 0 w h (by omega) (.inl rfl) (by simp)
    rwa [show meetsB l [] = true by simp [meetsB]] at this
  have N4 : Hid (∀ w, Ts w a1 l → Calls Tryd.prog 8 #[.slice a1 l.length cap1, .slice a1 l.length cap1] w fun e w' => e = .returned (.bool true) ∧ Below w.heap.size w w') := fun w h => by
    have := same_any a1 l cap1 a1 l cap1 w h (by omega) h (by omega)
    rwa [show sameB l l = true from decide_eq_true rfl] at this
  have n1 : ¬ (l.length : Int) > 40 := by omega
  have n2 : ¬ (b.length : Int) > 40 := by omega
  clear vx vy vc
  have hB : ∀ X, Below (bx w s).heap.size (bx w s) X → Bx X w.heap.size s := fun X g => (Bx.new w s).below (by simp) g
  have hW : ∀ X, Below (bx w s).heap.size (bx w s) X → Below w.heap.size w X := fun X g => btr (by go_grown) g (by simp)
  replace hB : Hid _ := hB
  replace hW : Hid _ := hW
  have t0 := h1.alloc (.cells (snC s) 28)
  have u0 := h2.alloc (.cells (snC s) 28)
  have d0 := hd.alloc (.cells (snC s) 28)
  have bx0 := Bx.new w s
  obtain ⟨k0, k1, k2, k3, k4, k5, k6, k7, k8, k9, k10, k11, k12⟩ := bx0
  go_enter Tryd.func3, Tryd.ntmps3
  go_wp2_with fail
  refine (HX.out _ t0).mono ?_
  rintro r w1 ⟨rfl, g1⟩
  clear k0 k1 k2 k3 k4 k5 k6 k7 k8 k9 k10 k11 k12
  have bx1 := hB.out _ g1
  obtain ⟨k0, k1, k2, k3, k4, k5, k6, k7, k8, k9, k10, k11, k12⟩ := bx1
  go_wp2_with fail
  refine (HY.out _ (u0.below g1)).mono ?_
  rintro r w2 ⟨rfl, g2'⟩
  have g2 := btr g1 g2' (Nat.le_refl _)
  clear g2' k0 k1 k2 k3 k4 k5 k6 k7 k8 k9 k10 k11 k12
  go_wp2_with fail
  refine (HC.out _ (t0.below g2) (u0.below g2)).mono ?_
  rintro r w3 ⟨rfl, g3'⟩
  have g3 := btr g2 g3' (Nat.le_refl _)
  clear g3'
  have g4 := g3
  go_wp2_with fail
  refine (N1.out _ (u0.below g4)).mono ?_
  rintro r w5 ⟨rfl, g5'⟩
  have g5 := btr g4 g5' (Nat.le_refl _)
  clear g5'
  have bx1 := hB.out _ g5
  obtain ⟨k0, k1, k2, k3, k4, k5, k6, k7, k8, k9, k10, k11, k12⟩ := bx1
  go_wp2_with fail
  refine (N2.out _).mono ?_
  rintro r w6 ⟨rfl, g6'⟩
  have g6 := btr g5 g6' (Nat.le_refl _)
  clear g6' k0 k1 k2 k3 k4 k5 k6 k7 k8 k9 k10 k11 k12
  go_wp2_with fail
  refine (N3.out _ (t0.below g6)).mono ?_
  rintro r w7 ⟨rfl, g7'⟩
  have g7 := btr g6 g7' (Nat.le_refl _)
  clear g7'
  go_wp2_with fail
  refine (N4.out _ (t0.below g7)).mono ?_
  rintro r w8 ⟨rfl, g8'⟩
  have g8 := btr g7 g8' (Nat.le_refl _)
  clear g8'
  go_wp2_with fail
  refine (HA.out _ (d0.below g8)).mono ?_
  rintro r w9 ⟨rfl, g9'⟩
  have g9 := btr g8 g9' (Nat.le_refl _)
  go_wp2_with fail
  go_ret
  exact ⟨rfl, hW.out _ g9⟩

set_option maxRecDepth 20000 in
set_option maxHeartbeats 8000000 in
theorem sound_101 (a1 : Option Addr) (l : List T) (cap1 : Nat) (a2 : Option Addr) (b : List T) (cap2 : Nat) (s : Sn) (w : World) (h1 : Ts w a1 l) (h2 : Ts w a2 b) (hd : Cd w) (hw : Wf s) (hl1 : l.length ≤ 40) (hl2 : b.length ≤ 40)
    (vx : takesB l s = true) (vy : takesB b s = false) (vc : coversB l b = true) :
    Calls Tryd.prog 3 #[.slice a1 l.length cap1, .slice a2 b.length cap2, snV s] w fun e w' => e = .returned (.bool true) ∧ Below w.heap.size w w' := by
  have HA : Hid (∀ w, Cd w → Calls Tryd.prog 4 #[] w fun e w' => e = .returned (.bool true) ∧ Below w.heap.size w w') := fun w hd => awake_any w hd
  have HX : Hid (∀ w, Ts w a1 l → Calls Tryd.prog 5 #[.slice a1 l.length cap1, snV s] w fun e w' => e = .returned (.bool true) ∧ Below w.heap.size w w') := fun w h => vx ▸ takes_any a1 l cap1 s w h (by omega) hw
  have HY : Hid (∀ w, Ts w a2 b → Calls Tryd.prog 5 #[.slice a2 b.length cap2, snV s] w fun e w' => e = .returned (.bool false) ∧ Below w.heap.size w w') := fun w h => vy ▸ takes_any a2 b cap2 s w h (by omega) hw
  have HC : Hid (∀ w, Ts w a1 l → Ts w a2 b → Calls Tryd.prog 6 #[.slice a1 l.length cap1, .slice a2 b.length cap2] w fun e w' => e = .returned (.bool true) ∧ Below w.heap.size w w') := fun w h h' => vc ▸ covers_any a1 l cap1 a2 b cap2 w h (by omega) h' (by omega)
  have N1 : Hid (∀ w, Ts w a2 b → Calls Tryd.prog 6 #[.slice none 0 0, .slice a2 b.length cap2] w fun e w' => e = .returned (.bool true) ∧ Below w.heap.size w w') := fun w h => covers_any none [] 0 a2 b cap2 w (.inl rfl) (by simp) h (by omega)
  have N2 : Hid (∀ w, Calls Tryd.prog 5 #[.slice none 0 0, snV s] w fun e w' => e = .returned (.bool true) ∧ Below w.heap.size w w') := fun w => takes_any none [] 0 s w (.inl rfl) (by simp) hw
  have N3 : Hid (∀ w, Ts w a1 l → Calls Tryd.prog 7 #[.slice a1 l.length cap1, .slice none 0 0] w fun e w' => e = .returned (.bool true) ∧ Below w.heap.size w w') := fun w h => by
    have := meets_any a1 l cap1 none [] 0 w h (by omega) (.inl rfl) (by simp)
    rwa [show meetsB l [] = true by simp [meetsB]] at this
  have N4 : Hid (∀ w, Ts w a1 l → Calls Tryd.prog 8 #[.slice a1 l.length cap1, .slice a1 l.length cap1] w fun e w' => e = .returned (.bool true) ∧ Below w.heap.size w w') := fun w h => by
    have := same_any a1 l cap1 a1 l cap1 w h (by omega) h (by omega)
    rwa [show sameB l l = true from decide_eq_true rfl] at this
  have n1 : ¬ (l.length : Int) > 40 := by omega
  have n2 : ¬ (b.length : Int) > 40 := by omega
  clear vx vy vc
  have hB : ∀ X, Below (bx w s).heap.size (bx w s) X → Bx X w.heap.size s := fun X g => (Bx.new w s).below (by simp) g
  have hW : ∀ X, Below (bx w s).heap.size (bx w s) X → Below w.heap.size w X := fun X g => btr (by go_grown) g (by simp)
  replace hB : Hid _ := hB
  replace hW : Hid _ := hW
  have t0 := h1.alloc (.cells (snC s) 28)
  have u0 := h2.alloc (.cells (snC s) 28)
  have d0 := hd.alloc (.cells (snC s) 28)
  have bx0 := Bx.new w s
  obtain ⟨k0, k1, k2, k3, k4, k5, k6, k7, k8, k9, k10, k11, k12⟩ := bx0
  go_enter Tryd.func3, Tryd.ntmps3
  go_wp2_with fail
  refine (HX.out _ t0).mono ?_
  rintro r w1 ⟨rfl, g1⟩
  clear k0 k1 k2 k3 k4 k5 k6 k7 k8 k9 k10 k11 k12
  have bx1 := hB.out _ g1
  obtain ⟨k0, k1, k2, k3, k4, k5, k6, k7, k8, k9, k10, k11, k12⟩ := bx1
  go_wp2_with fail
  refine (HY.out _ (u0.below g1)).mono ?_
  rintro r w2 ⟨rfl, g2'⟩
  have g2 := btr g1 g2' (Nat.le_refl _)
  clear g2' k0 k1 k2 k3 k4 k5 k6 k7 k8 k9 k10 k11 k12
  go_wp2_with fail
  refine (HC.out _ (t0.below g2) (u0.below g2)).mono ?_
  rintro r w3 ⟨rfl, g3'⟩
  have g3 := btr g2 g3' (Nat.le_refl _)
  clear g3'
  have g4 := g3
  go_wp2_with fail
  refine (N1.out _ (u0.below g4)).mono ?_
  rintro r w5 ⟨rfl, g5'⟩
  have g5 := btr g4 g5' (Nat.le_refl _)
  clear g5'
  have bx1 := hB.out _ g5
  obtain ⟨k0, k1, k2, k3, k4, k5, k6, k7, k8, k9, k10, k11, k12⟩ := bx1
  go_wp2_with fail
  refine (N2.out _).mono ?_
  rintro r w6 ⟨rfl, g6'⟩
  have g6 := btr g5 g6' (Nat.le_refl _)
  clear g6' k0 k1 k2 k3 k4 k5 k6 k7 k8 k9 k10 k11 k12
  go_wp2_with fail
  refine (N3.out _ (t0.below g6)).mono ?_
  rintro r w7 ⟨rfl, g7'⟩
  have g7 := btr g6 g7' (Nat.le_refl _)
  clear g7'
  go_wp2_with fail
  refine (N4.out _ (t0.below g7)).mono ?_
  rintro r w8 ⟨rfl, g8'⟩
  have g8 := btr g7 g8' (Nat.le_refl _)
  clear g8'
  go_wp2_with fail
  refine (HA.out _ (d0.below g8)).mono ?_
  rintro r w9 ⟨rfl, g9'⟩
  have g9 := btr g8 g9' (Nat.le_refl _)
  go_wp2_with fail
  go_ret
  exact ⟨rfl, hW.out _ g9⟩

set_option maxRecDepth 20000 in
set_option maxHeartbeats 8000000 in
theorem sound_110 (a1 : Option Addr) (l : List T) (cap1 : Nat) (a2 : Option Addr) (b : List T) (cap2 : Nat) (s : Sn) (w : World) (h1 : Ts w a1 l) (h2 : Ts w a2 b) (hd : Cd w) (hw : Wf s) (hl1 : l.length ≤ 40) (hl2 : b.length ≤ 40)
    (vx : takesB l s = true) (vy : takesB b s = true) (vc : coversB l b = false) (vm : meetsB l b = true) :
    Calls Tryd.prog 3 #[.slice a1 l.length cap1, .slice a2 b.length cap2, snV s] w fun e w' => e = .returned (.bool true) ∧ Below w.heap.size w w' := by
  have HA : Hid (∀ w, Cd w → Calls Tryd.prog 4 #[] w fun e w' => e = .returned (.bool true) ∧ Below w.heap.size w w') := fun w hd => awake_any w hd
  have HX : Hid (∀ w, Ts w a1 l → Calls Tryd.prog 5 #[.slice a1 l.length cap1, snV s] w fun e w' => e = .returned (.bool true) ∧ Below w.heap.size w w') := fun w h => vx ▸ takes_any a1 l cap1 s w h (by omega) hw
  have HY : Hid (∀ w, Ts w a2 b → Calls Tryd.prog 5 #[.slice a2 b.length cap2, snV s] w fun e w' => e = .returned (.bool true) ∧ Below w.heap.size w w') := fun w h => vy ▸ takes_any a2 b cap2 s w h (by omega) hw
  have HC : Hid (∀ w, Ts w a1 l → Ts w a2 b → Calls Tryd.prog 6 #[.slice a1 l.length cap1, .slice a2 b.length cap2] w fun e w' => e = .returned (.bool false) ∧ Below w.heap.size w w') := fun w h h' => vc ▸ covers_any a1 l cap1 a2 b cap2 w h (by omega) h' (by omega)
  have HM : Hid (∀ w, Ts w a1 l → Ts w a2 b → Calls Tryd.prog 7 #[.slice a1 l.length cap1, .slice a2 b.length cap2] w fun e w' => e = .returned (.bool true) ∧ Below w.heap.size w w') := fun w h h' => vm ▸ meets_any a1 l cap1 a2 b cap2 w h (by omega) h' (by omega)
  have N1 : Hid (∀ w, Ts w a2 b → Calls Tryd.prog 6 #[.slice none 0 0, .slice a2 b.length cap2] w fun e w' => e = .returned (.bool true) ∧ Below w.heap.size w w') := fun w h => covers_any none [] 0 a2 b cap2 w (.inl rfl) (by simp) h (by omega)
  have N2 : Hid (∀ w, Calls Tryd.prog 5 #[.slice none 0 0, snV s] w fun e w' => e = .returned (.bool true) ∧ Below w.heap.size w w') := fun w => takes_any none [] 0 s w (.inl rfl) (by simp) hw
  have N3 : Hid (∀ w, Ts w a1 l → Calls Tryd.prog 7 #[.slice a1 l.length cap1, .slice none 0 0] w fun e w' => e = .returned (.bool true) ∧ Below w.heap.size w w') := fun w h => by
    have := meets_any a1 l cap1 none [] 0 w h (by omega) (.inl rfl) (by simp)
    rwa [show meetsB l [] = true by simp [meetsB]] at this
  have N4 : Hid (∀ w, Ts w a1 l → Calls Tryd.prog 8 #[.slice a1 l.length cap1, .slice a1 l.length cap1] w fun e w' => e = .returned (.bool true) ∧ Below w.heap.size w w') := fun w h => by
    have := same_any a1 l cap1 a1 l cap1 w h (by omega) h (by omega)
    rwa [show sameB l l = true from decide_eq_true rfl] at this
  have n1 : ¬ (l.length : Int) > 40 := by omega
  have n2 : ¬ (b.length : Int) > 40 := by omega
  clear vx vy vc vm
  have hB : ∀ X, Below (bx w s).heap.size (bx w s) X → Bx X w.heap.size s := fun X g => (Bx.new w s).below (by simp) g
  have hW : ∀ X, Below (bx w s).heap.size (bx w s) X → Below w.heap.size w X := fun X g => btr (by go_grown) g (by simp)
  replace hB : Hid _ := hB
  replace hW : Hid _ := hW
  have t0 := h1.alloc (.cells (snC s) 28)
  have u0 := h2.alloc (.cells (snC s) 28)
  have d0 := hd.alloc (.cells (snC s) 28)
  have bx0 := Bx.new w s
  obtain ⟨k0, k1, k2, k3, k4, k5, k6, k7, k8, k9, k10, k11, k12⟩ := bx0
  go_enter Tryd.func3, Tryd.ntmps3
  go_wp2_with fail
  refine (HX.out _ t0).mono ?_
  rintro r w1 ⟨rfl, g1⟩
  clear k0 k1 k2 k3 k4 k5 k6 k7 k8 k9 k10 k11 k12
  have bx1 := hB.out _ g1
  obtain ⟨k0, k1, k2, k3, k4, k5, k6, k7, k8, k9, k10, k11, k12⟩ := bx1
  go_wp2_with fail
  refine (HY.out _ (u0.below g1)).mono ?_
  rintro r w2 ⟨rfl, g2'⟩
  have g2 := btr g1 g2' (Nat.le_refl _)
  clear g2' k0 k1 k2 k3 k4 k5 k6 k7 k8 k9 k10 k11 k12
  go_wp2_with fail
  refine (HC.out _ (t0.below g2) (u0.below g2)).mono ?_
  rintro r w3 ⟨rfl, g3'⟩
  have g3 := btr g2 g3' (Nat.le_refl _)
  clear g3'
  go_wp2_with fail
  refine (HM.out _ (t0.below g3) (u0.below g3)).mono ?_
  rintro r w4 ⟨rfl, g4'⟩
  have g4 := btr g3 g4' (Nat.le_refl _)
  clear g4'
  go_wp2_with fail
  refine (N1.out _ (u0.below g4)).mono ?_
  rintro r w5 ⟨rfl, g5'⟩
  have g5 := btr g4 g5' (Nat.le_refl _)
  clear g5'
  have bx1 := hB.out _ g5
  obtain ⟨k0, k1, k2, k3, k4, k5, k6, k7, k8, k9, k10, k11, k12⟩ := bx1
  go_wp2_with fail
  refine (N2.out _).mono ?_
  rintro r w6 ⟨rfl, g6'⟩
  have g6 := btr g5 g6' (Nat.le_refl _)
  clear g6' k0 k1 k2 k3 k4 k5 k6 k7 k8 k9 k10 k11 k12
  go_wp2_with fail
  refine (N3.out _ (t0.below g6)).mono ?_
  rintro r w7 ⟨rfl, g7'⟩
  have g7 := btr g6 g7' (Nat.le_refl _)
  clear g7'
  go_wp2_with fail
  refine (N4.out _ (t0.below g7)).mono ?_
  rintro r w8 ⟨rfl, g8'⟩
  have g8 := btr g7 g8' (Nat.le_refl _)
  clear g8'
  go_wp2_with fail
  refine (HA.out _ (d0.below g8)).mono ?_
  rintro r w9 ⟨rfl, g9'⟩
  have g9 := btr g8 g9' (Nat.le_refl _)
  go_wp2_with fail
  go_ret
  exact ⟨rfl, hW.out _ g9⟩

set_option maxRecDepth 20000 in
set_option maxHeartbeats 8000000 in
theorem sound_111 (a1 : Option Addr) (l : List T) (cap1 : Nat) (a2 : Option Addr) (b : List T) (cap2 : Nat) (s : Sn) (w : World) (h1 : Ts w a1 l) (h2 : Ts w a2 b) (hd : Cd w) (hw : Wf s) (hl1 : l.length ≤ 40) (hl2 : b.length ≤ 40)
    (vx : takesB l s = true) (vy : takesB b s = true) (vc : coversB l b = true) (vm : meetsB l b = true) :
    Calls Tryd.prog 3 #[.slice a1 l.length cap1, .slice a2 b.length cap2, snV s] w fun e w' => e = .returned (.bool true) ∧ Below w.heap.size w w' := by
  have HA : Hid (∀ w, Cd w → Calls Tryd.prog 4 #[] w fun e w' => e = .returned (.bool true) ∧ Below w.heap.size w w') := fun w hd => awake_any w hd
  have HX : Hid (∀ w, Ts w a1 l → Calls Tryd.prog 5 #[.slice a1 l.length cap1, snV s] w fun e w' => e = .returned (.bool true) ∧ Below w.heap.size w w') := fun w h => vx ▸ takes_any a1 l cap1 s w h (by omega) hw
  have HY : Hid (∀ w, Ts w a2 b → Calls Tryd.prog 5 #[.slice a2 b.length cap2, snV s] w fun e w' => e = .returned (.bool true) ∧ Below w.heap.size w w') := fun w h => vy ▸ takes_any a2 b cap2 s w h (by omega) hw
  have HC : Hid (∀ w, Ts w a1 l → Ts w a2 b → Calls Tryd.prog 6 #[.slice a1 l.length cap1, .slice a2 b.length cap2] w fun e w' => e = .returned (.bool true) ∧ Below w.heap.size w w') := fun w h h' => vc ▸ covers_any a1 l cap1 a2 b cap2 w h (by omega) h' (by omega)
  have HM : Hid (∀ w, Ts w a1 l → Ts w a2 b → Calls Tryd.prog 7 #[.slice a1 l.length cap1, .slice a2 b.length cap2] w fun e w' => e = .returned (.bool true) ∧ Below w.heap.size w w') := fun w h h' => vm ▸ meets_any a1 l cap1 a2 b cap2 w h (by omega) h' (by omega)
  have N1 : Hid (∀ w, Ts w a2 b → Calls Tryd.prog 6 #[.slice none 0 0, .slice a2 b.length cap2] w fun e w' => e = .returned (.bool true) ∧ Below w.heap.size w w') := fun w h => covers_any none [] 0 a2 b cap2 w (.inl rfl) (by simp) h (by omega)
  have N2 : Hid (∀ w, Calls Tryd.prog 5 #[.slice none 0 0, snV s] w fun e w' => e = .returned (.bool true) ∧ Below w.heap.size w w') := fun w => takes_any none [] 0 s w (.inl rfl) (by simp) hw
  have N3 : Hid (∀ w, Ts w a1 l → Calls Tryd.prog 7 #[.slice a1 l.length cap1, .slice none 0 0] w fun e w' => e = .returned (.bool true) ∧ Below w.heap.size w w') := fun w h => by
    have := meets_any a1 l cap1 none [] 0 w h (by omega) (.inl rfl) (by simp)
    rwa [show meetsB l [] = true by simp [meetsB]] at this
  have N4 : Hid (∀ w, Ts w a1 l → Calls Tryd.prog 8 #[.slice a1 l.length cap1, .slice a1 l.length cap1] w fun e w' => e = .returned (.bool true) ∧ Below w.heap.size w w') := fun w h => by
    have := same_any a1 l cap1 a1 l cap1 w h (by omega) h (by omega)
    rwa [show sameB l l = true from decide_eq_true rfl] at this
  have n1 : ¬ (l.length : Int) > 40 := by omega
  have n2 : ¬ (b.length : Int) > 40 := by omega
  clear vx vy vc vm
  have hB : ∀ X, Below (bx w s).heap.size (bx w s) X → Bx X w.heap.size s := fun X g => (Bx.new w s).below (by simp) g
  have hW : ∀ X, Below (bx w s).heap.size (bx w s) X → Below w.heap.size w X := fun X g => btr (by go_grown) g (by simp)
  replace hB : Hid _ := hB
  replace hW : Hid _ := hW
  have t0 := h1.alloc (.cells (snC s) 28)
  have u0 := h2.alloc (.cells (snC s) 28)
  have d0 := hd.alloc (.cells (snC s) 28)
  have bx0 := Bx.new w s
  obtain ⟨k0, k1, k2, k3, k4, k5, k6, k7, k8, k9, k10, k11, k12⟩ := bx0
  go_enter Tryd.func3, Tryd.ntmps3
  go_wp2_with fail
  refine (HX.out _ t0).mono ?_
  rintro r w1 ⟨rfl, g1⟩
  clear k0 k1 k2 k3 k4 k5 k6 k7 k8 k9 k10 k11 k12
  have bx1 := hB.out _ g1
  obtain ⟨k0, k1, k2, k3, k4, k5, k6, k7, k8, k9, k10, k11, k12⟩ := bx1
  go_wp2_with fail
  refine (HY.out _ (u0.below g1)).mono ?_
  rintro r w2 ⟨rfl, g2'⟩
  have g2 := btr g1 g2' (Nat.le_refl _)
  clear g2' k0 k1 k2 k3 k4 k5 k6 k7 k8 k9 k10 k11 k12
  go_wp2_with fail
  refine (HC.out _ (t0.below g2) (u0.below g2)).mono ?_
  rintro r w3 ⟨rfl, g3'⟩
  have g3 := btr g2 g3' (Nat.le_refl _)
  clear g3'
  go_wp2_with fail
  refine (HM.out _ (t0.below g3) (u0.below g3)).mono ?_
  rintro r w4 ⟨rfl, g4'⟩
  have g4 := btr g3 g4' (Nat.le_refl _)
  clear g4'
  go_wp2_with fail
  refine (N1.out _ (u0.below g4)).mono ?_
  rintro r w5 ⟨rfl, g5'⟩
  have g5 := btr g4 g5' (Nat.le_refl _)
  clear g5'
  have bx1 := hB.out _ g5
  obtain ⟨k0, k1, k2, k3, k4, k5, k6, k7, k8, k9, k10, k11, k12⟩ := bx1
  go_wp2_with fail
  refine (N2.out _).mono ?_
  rintro r w6 ⟨rfl, g6'⟩
  have g6 := btr g5 g6' (Nat.le_refl _)
  clear g6' k0 k1 k2 k3 k4 k5 k6 k7 k8 k9 k10 k11 k12
  go_wp2_with fail
  refine (N3.out _ (t0.below g6)).mono ?_
  rintro r w7 ⟨rfl, g7'⟩
  have g7 := btr g6 g7' (Nat.le_refl _)
  clear g7'
  go_wp2_with fail
  refine (N4.out _ (t0.below g7)).mono ?_
  rintro r w8 ⟨rfl, g8'⟩
  have g8 := btr g7 g8' (Nat.le_refl _)
  clear g8'
  go_wp2_with fail
  refine (HA.out _ (d0.below g8)).mono ?_
  rintro r w9 ⟨rfl, g9'⟩
  have g9 := btr g8 g9' (Nat.le_refl _)
  go_wp2_with fail
  go_ret
  exact ⟨rfl, hW.out _ g9⟩

theorem lawSound_walk (a1 : Option Addr) (l : List T) (cap1 : Nat) (a2 : Option Addr) (b : List T) (cap2 : Nat) (s : Sn) (w : World) (h1 : Ts w a1 l) (_ : l.length ≤ cap1) (u1 : TWs l) (h2 : Ts w a2 b) (_ : b.length ≤ cap2) (u2 : TWs b) (hw : Wf s) (hd : Cd w) :
    Calls Tryd.prog 3 #[.slice a1 l.length cap1, .slice a2 b.length cap2, snV s] w fun e w' => e = .returned (.bool true) ∧ Below w.heap.size w w' := by
  by_cases hg : 40 < l.length ∨ 40 < b.length
  · exact lawSound_long a1 l cap1 a2 b cap2 s w hd hg
  · have hl1 : l.length ≤ 40 := by omega
    have hl2 : b.length ≤ 40 := by omega
    have s1 := sound1 l b s u1 u2
    have s2 := sound2 l b s u1 u2
    cases vx : takesB l s <;> cases vy : takesB b s <;> cases vc : coversB l b
    · exact sound_000 a1 l cap1 a2 b cap2 s w h1 h2 hd hw hl1 hl2 vx vy vc
    · exact sound_001 a1 l cap1 a2 b cap2 s w h1 h2 hd hw hl1 hl2 vx vy vc
    · exact sound_010 a1 l cap1 a2 b cap2 s w h1 h2 hd hw hl1 hl2 vx vy vc
    · exact absurd (s1 vc vy) (by rw [vx]; decide)
    · exact sound_100 a1 l cap1 a2 b cap2 s w h1 h2 hd hw hl1 hl2 vx vy vc
    · exact sound_101 a1 l cap1 a2 b cap2 s w h1 h2 hd hw hl1 hl2 vx vy vc
    · exact sound_110 a1 l cap1 a2 b cap2 s w h1 h2 hd hw hl1 hl2 vx vy vc (s2 vx vy)
    · exact sound_111 a1 l cap1 a2 b cap2 s w h1 h2 hd hw hl1 hl2 vx vy vc (s2 vx vy)
end Go.Proofs.YtjmnnjhaiecglabDoor

/-
  The walk of ActOne.
-/
import Derived.Test.YtmlonfchbkmbcabDoorAwake
import Derived.Test.YtmlonfchbkmbcabDoorFChange
namespace Go.Proofs.YtmlonfchbkmbcabDoor
open Go.ChangeShapes Go.WideShapes Go.ChangeAt Go.RowKit

theorem enc_one_bad {a : A} (h : rightB a = false) : encodeS [a] = ⟨#[]⟩ ∧ encodeE [a] = 22 := by
  have e1 : encodeE [a] = 22 := by unfold encodeE allB; simp [h]
  exact ⟨by unfold encodeS; rw [e1]; simp, e1⟩
theorem enc_one {a : A} (h : rightB a = true) : encodeS [a] = writeV a ∧ encodeE [a] = 0 := by
  have e1 : encodeE [a] = 0 := by unfold encodeE allB; simp [h]
  exact ⟨by unfold encodeS; rw [e1]; simp [encL_one], e1⟩
abbrev two1 (w : World) (a : A) (s : Sn) : World := (tx w a).alloc (.cells (snC s) 27)
theorem C3.two1s (w : World) (a : A) (s : Sn) : C3 (two1 w a s) w.heap.size 0 a := (C3.new w a).below (B := (tx w a).heap.size) (by simp) ((Below.refl _ _).alloc (Nat.le_refl _) _)
theorem Bx.two1s (w : World) (a : A) (s : Sn) : Bx (two1 w a s) (w.heap.size + 1) s := by
  have h := Bx.new (tx w a) s
  have e : (tx w a).heap.size = w.heap.size + 1 := by simp
  rw [e] at h
  exact h
set_option maxHeartbeats 8000000 in
theorem one_bad (a : A) (s : Sn) (w : World) (hd : Cd w) (hr : rightB a = false) : Calls Tryd.prog 4 #[tV a, snV s] w fun x w' => x = .returned (.bool true) ∧ Below w.heap.size w w' := by
  have HA : Hid (∀ w, Cd w → Calls Tryd.prog 6 #[] w fun e w' => e = .returned (.bool true) ∧ Below w.heap.size w w') := (show ∀ w, _ from fun w h => awake_any w h)
  have HD : Hid (Cd w) := hd
  have HE : Hid (∀ (q : Option Addr) (w : World), Ts w q [a] → Cd w → Calls Tryd.prog 9 #[.slice q 1 1] w fun e w' => e = .returned (.tuple #[.string ⟨#[]⟩, .int .i64 22]) ∧ Below w.heap.size w w') := (show ∀ q w, _ from fun q w h hd => by
    have := encode_any q [a] 1 w h (by simp) hd
    rw [(enc_one_bad hr).1, (enc_one_bad hr).2] at this
    exact this)
  have HR : Hid (∀ w, Cd w → Calls Tryd.prog 5 #[tV a] w fun e w' => e = .returned (.bool false) ∧ Below w.heap.size w w') := (show ∀ w, _ from fun w h => hr ▸ right_any a w h)
  have ta := ts_new (two1 w a s) a
  have e0 : (two1 w a s).heap.size = w.heap.size + 2 := by simp
  rw [e0] at ta
  clear hd hr e0
  go_enter Tryd.func4, Tryd.ntmps4
  go_wp2_with fail
  refine (HE.out _ _ ta ((((HD.out.alloc _).alloc _)).alloc _)).mono ?_
  rintro r w1 ⟨rfl, g1⟩
  have b1 : Below w.heap.size w w1 := btr (by go_grown) g1 (by first | (simp; done) | (simp; omega))
  obtain ⟨c0, c1, c2⟩ := ((C3.two1s w a s).below (B := (two1 w a s).heap.size) (by first | (simp; done) | (simp; omega)) ((Below.refl _ _).alloc (Nat.le_refl _) (.cells (tC a) 29))).below (by first | (simp; done) | (simp; omega)) g1
  clear g1 ta
  go_wp2_with fail
  refine (HR.out _ (HD.out.below b1)).mono ?_
  rintro r w2 ⟨rfl, g2⟩
  have b2 := btr b1 g2 (Nat.le_refl _)
  clear c0 c1 c2 g2 b1
  go_wp2_with fail
  refine (HA.out _ (HD.out.below b2)).mono ?_
  rintro r w3 ⟨rfl, g3⟩
  go_wp2_with fail
  go_ret
  exact ⟨rfl, btr b2 g3 (Nat.le_refl _)⟩
theorem chg_same (s : Sn) (k f v : Int) (w : World) (h3 : k ≠ 3) (h4 : k ≠ 4) (h5 : k ≠ 5) (hw : AW (k, f, v)) : Calls Tryd.prog 8 #[snV s, tV (k, f, v)] w fun x w' => x = .returned (snV s) ∧ Below w.heap.size w w' := by
  have := chg_any s (k, f, v) w hw
  rw [show changeV s (k, f, v) = s by simp [changeV, chE, chS, h3, h4, h5]] at this
  exact this
set_option maxHeartbeats 16000000 in
theorem one_1 (f v : Int) (s : Sn) (w : World) (hd : Cd w) (hw : AW (1, f, v)) (hr : rightB (1, f, v) = true) : Calls Tryd.prog 4 #[tV (1, f, v), snV s] w fun x w' => x = .returned (.bool true) ∧ Below w.heap.size w w' := by
  have HA : Hid (∀ w, Cd w → Calls Tryd.prog 6 #[] w fun e w' => e = .returned (.bool true) ∧ Below w.heap.size w w') := (show ∀ w, _ from fun w h => awake_any w h)
  have HD : Hid (Cd w) := hd
  have hz := encS_len1 (1, f, v) hr
  obtain ⟨S, hS⟩ : ∃ S, writeV (1, f, v) = S := ⟨_, rfl⟩
  rw [hS] at hz
  have hz' : S.size = 16 := hz
  have HE : Hid (∀ (q : Option Addr) (w : World), Ts w q [(1, f, v)] → Cd w → Calls Tryd.prog 9 #[.slice q 1 1] w fun e w' => e = .returned (.tuple #[.string S, .int .i64 0]) ∧ Below w.heap.size w w') := (show ∀ q w, _ from fun q w h hd => by
    have := encode_any q [(1, f, v)] 1 w h (by simp) hd
    rw [(enc_one hr).1, (enc_one hr).2, hS] at this
    exact this)
  have HC : Hid (∀ w, Calls Tryd.prog 8 #[snV s, tV (1, f, v)] w fun x w' => x = .returned (snV s) ∧ Below w.heap.size w w') := (show ∀ w, _ from fun w => chg_same s 1 f v w (by decide) (by decide) (by decide) hw)
  have ta := ts_new (two1 w (1, f, v) s) (1, f, v)
  have e0 : (two1 w (1, f, v) s).heap.size = w.heap.size + 2 := by simp
  rw [e0] at ta
  clear hd hr e0 hz hS hw
  go_enter Tryd.func4, Tryd.ntmps4
  go_wp2_with fail
  refine (HE.out _ _ ta ((((HD.out.alloc _).alloc _)).alloc _)).mono ?_
  rintro r w1 ⟨rfl, g1⟩
  have b1 : Below w.heap.size w w1 := btr (by go_grown) g1 (by first | (simp; done) | (simp; omega))
  have ca := ((C3.two1s w (1, f, v) s).below (B := (two1 w (1, f, v) s).heap.size) (by first | (simp; done) | (simp; omega)) ((Below.refl _ _).alloc (Nat.le_refl _) (.cells (tC (1, f, v)) 29))).below (by first | (simp; done) | (simp; omega)) g1
  have cb := ((Bx.two1s w (1, f, v) s).below (B := (two1 w (1, f, v) s).heap.size) (by simp) ((Below.refl _ _).alloc (Nat.le_refl _) (.cells (tC (1, f, v)) 29))).below (by first | (simp; done) | (simp; omega)) g1
  have l1 : w.heap.size + 2 ≤ w1.heap.size := by have := g1.size; simp at this; omega
  have qa := C3.gr ca (by omega)
  have qb : ∀ n : GrT w1, Bx n.w (w.heap.size + 1) s := fun n => cb.below (by omega) n.h
  have HDn : Hid (∀ n : GrT w1, Cd n.w) := (show ∀ n : GrT w1, Cd n.w from fun n => (HD.out.below b1).below n.h)
  obtain ⟨c0, c1, c2⟩ := ca
  clear g1 ta cb
  go_wp2_with fail
  refine wp_region_grow (by kernel_rfl) (by kernel_rfl) ?_
  repeat (go_big_quiet_step ((first | (go_at_call 6; exact quiet_gr (HA.out _ (HDn.out _))) | (go_at_call 8; exact quiet_gr (HC.out _)))))
  refine wpQuiet_nil ?_
  rintro w2 hw'
  have g2 := gr_elim hw'
  clear hw' qa qb
  go_wp2_with fail
  go_ret
  exact ⟨rfl, btr b1 g2 (Nat.le_refl _)⟩
set_option maxHeartbeats 16000000 in
theorem one_2 (f v : Int) (s : Sn) (w : World) (hd : Cd w) (hw : AW (2, f, v)) (hr : rightB (2, f, v) = true) : Calls Tryd.prog 4 #[tV (2, f, v), snV s] w fun x w' => x = .returned (.bool true) ∧ Below w.heap.size w w' := by
  have HA : Hid (∀ w, Cd w → Calls Tryd.prog 6 #[] w fun e w' => e = .returned (.bool true) ∧ Below w.heap.size w w') := (show ∀ w, _ from fun w h => awake_any w h)
  have HD : Hid (Cd w) := hd
  have hz := encS_len1 (2, f, v) hr
  obtain ⟨S, hS⟩ : ∃ S, writeV (2, f, v) = S := ⟨_, rfl⟩
  rw [hS] at hz
  have hz' : S.size = 8 := hz
  have HE : Hid (∀ (q : Option Addr) (w : World), Ts w q [(2, f, v)] → Cd w → Calls Tryd.prog 9 #[.slice q 1 1] w fun e w' => e = .returned (.tuple #[.string S, .int .i64 0]) ∧ Below w.heap.size w w') := (show ∀ q w, _ from fun q w h hd => by
    have := encode_any q [(2, f, v)] 1 w h (by simp) hd
    rw [(enc_one hr).1, (enc_one hr).2, hS] at this
    exact this)
  have HC : Hid (∀ w, Calls Tryd.prog 8 #[snV s, tV (2, f, v)] w fun x w' => x = .returned (snV s) ∧ Below w.heap.size w w') := (show ∀ w, _ from fun w => chg_same s 2 f v w (by decide) (by decide) (by decide) hw)
  have ta := ts_new (two1 w (2, f, v) s) (2, f, v)
  have e0 : (two1 w (2, f, v) s).heap.size = w.heap.size + 2 := by simp
  rw [e0] at ta
  clear hd hr e0 hz hS hw
  go_enter Tryd.func4, Tryd.ntmps4
  go_wp2_with fail
  refine (HE.out _ _ ta ((((HD.out.alloc _).alloc _)).alloc _)).mono ?_
  rintro r w1 ⟨rfl, g1⟩
  have b1 : Below w.heap.size w w1 := btr (by go_grown) g1 (by first | (simp; done) | (simp; omega))
  have ca := ((C3.two1s w (2, f, v) s).below (B := (two1 w (2, f, v) s).heap.size) (by first | (simp; done) | (simp; omega)) ((Below.refl _ _).alloc (Nat.le_refl _) (.cells (tC (2, f, v)) 29))).below (by first | (simp; done) | (simp; omega)) g1
  have cb := ((Bx.two1s w (2, f, v) s).below (B := (two1 w (2, f, v) s).heap.size) (by simp) ((Below.refl _ _).alloc (Nat.le_refl _) (.cells (tC (2, f, v)) 29))).below (by first | (simp; done) | (simp; omega)) g1
  have l1 : w.heap.size + 2 ≤ w1.heap.size := by have := g1.size; simp at this; omega
  have qa := C3.gr ca (by omega)
  have qb : ∀ n : GrT w1, Bx n.w (w.heap.size + 1) s := fun n => cb.below (by omega) n.h
  have HDn : Hid (∀ n : GrT w1, Cd n.w) := (show ∀ n : GrT w1, Cd n.w from fun n => (HD.out.below b1).below n.h)
  obtain ⟨c0, c1, c2⟩ := ca
  clear g1 ta cb
  go_wp2_with fail
  refine wp_region_grow (by kernel_rfl) (by kernel_rfl) ?_
  repeat (go_big_quiet_step ((first | (go_at_call 6; exact quiet_gr (HA.out _ (HDn.out _))) | (go_at_call 8; exact quiet_gr (HC.out _)))))
  refine wpQuiet_nil ?_
  rintro w2 hw'
  have g2 := gr_elim hw'
  clear hw' qa qb
  go_wp2_with fail
  go_ret
  exact ⟨rfl, btr b1 g2 (Nat.le_refl _)⟩
set_option maxHeartbeats 16000000 in
theorem one_3 (f v : Int) (s : Sn) (w : World) (hd : Cd w) (_ : AW (3, f, v)) (hr : rightB (3, f, v) = true) : Calls Tryd.prog 4 #[tV (3, f, v), snV s] w fun x w' => x = .returned (.bool true) ∧ Below w.heap.size w w' := by
  have HA : Hid (∀ w, Cd w → Calls Tryd.prog 6 #[] w fun e w' => e = .returned (.bool true) ∧ Below w.heap.size w w') := (show ∀ w, _ from fun w h => awake_any w h)
  have HD : Hid (Cd w) := hd
  have hz := encS_len1 (3, f, v) hr
  obtain ⟨S, hS⟩ : ∃ S, writeV (3, f, v) = S := ⟨_, rfl⟩
  rw [hS] at hz
  have hz' : S.size = 8 := hz
  have HE : Hid (∀ (q : Option Addr) (w : World), Ts w q [(3, f, v)] → Cd w → Calls Tryd.prog 9 #[.slice q 1 1] w fun e w' => e = .returned (.tuple #[.string S, .int .i64 0]) ∧ Below w.heap.size w w') := (show ∀ q w, _ from fun q w h hd => by
    have := encode_any q [(3, f, v)] 1 w h (by simp) hd
    rw [(enc_one hr).1, (enc_one hr).2, hS] at this
    exact this)
  have ta := ts_new (two1 w (3, f, v) s) (3, f, v)
  have e0 : (two1 w (3, f, v) s).heap.size = w.heap.size + 2 := by simp
  rw [e0] at ta
  clear hd hr e0 hz hS
  go_enter Tryd.func4, Tryd.ntmps4
  go_wp2_with fail
  refine (HE.out _ _ ta ((((HD.out.alloc _).alloc _)).alloc _)).mono ?_
  rintro r w1 ⟨rfl, g1⟩
  have b1 : Below w.heap.size w w1 := btr (by go_grown) g1 (by first | (simp; done) | (simp; omega))
  have ca := ((C3.two1s w (3, f, v) s).below (B := (two1 w (3, f, v) s).heap.size) (by first | (simp; done) | (simp; omega)) ((Below.refl _ _).alloc (Nat.le_refl _) (.cells (tC (3, f, v)) 29))).below (by first | (simp; done) | (simp; omega)) g1
  have cb := ((Bx.two1s w (3, f, v) s).below (B := (two1 w (3, f, v) s).heap.size) (by simp) ((Below.refl _ _).alloc (Nat.le_refl _) (.cells (tC (3, f, v)) 29))).below (by first | (simp; done) | (simp; omega)) g1
  have l1 : w.heap.size + 2 ≤ w1.heap.size := by have := g1.size; simp at this; omega
  have qa := C3.gr ca (by omega)
  have qb : ∀ n : GrT w1, Bx n.w (w.heap.size + 1) s := fun n => cb.below (by omega) n.h
  have HDn : Hid (∀ n : GrT w1, Cd n.w) := (show ∀ n : GrT w1, Cd n.w from fun n => (HD.out.below b1).below n.h)
  obtain ⟨c0, c1, c2⟩ := ca
  clear g1 ta cb
  go_wp2_with fail
  refine wp_region_grow (by kernel_rfl) (by kernel_rfl) ?_
  repeat (go_big_quiet_step ((first | (go_at_call 6; exact quiet_gr (HA.out _ (HDn.out _))))))
  refine wpQuiet_nil ?_
  rintro w2 hw'
  have g2 := gr_elim hw'
  clear hw' qa qb
  go_wp2_with fail
  go_ret
  exact ⟨rfl, btr b1 g2 (Nat.le_refl _)⟩
set_option maxHeartbeats 16000000 in
theorem one_4 (f v : Int) (s : Sn) (w : World) (hd : Cd w) (_ : AW (4, f, v)) (hr : rightB (4, f, v) = true) : Calls Tryd.prog 4 #[tV (4, f, v), snV s] w fun x w' => x = .returned (.bool true) ∧ Below w.heap.size w w' := by
  have HA : Hid (∀ w, Cd w → Calls Tryd.prog 6 #[] w fun e w' => e = .returned (.bool true) ∧ Below w.heap.size w w') := (show ∀ w, _ from fun w h => awake_any w h)
  have HD : Hid (Cd w) := hd
  have hz := encS_len1 (4, f, v) hr
  obtain ⟨S, hS⟩ : ∃ S, writeV (4, f, v) = S := ⟨_, rfl⟩
  rw [hS] at hz
  have hz' : S.size = 8 := hz
  have HE : Hid (∀ (q : Option Addr) (w : World), Ts w q [(4, f, v)] → Cd w → Calls Tryd.prog 9 #[.slice q 1 1] w fun e w' => e = .returned (.tuple #[.string S, .int .i64 0]) ∧ Below w.heap.size w w') := (show ∀ q w, _ from fun q w h hd => by
    have := encode_any q [(4, f, v)] 1 w h (by simp) hd
    rw [(enc_one hr).1, (enc_one hr).2, hS] at this
    exact this)
  have ta := ts_new (two1 w (4, f, v) s) (4, f, v)
  have e0 : (two1 w (4, f, v) s).heap.size = w.heap.size + 2 := by simp
  rw [e0] at ta
  clear hd hr e0 hz hS
  go_enter Tryd.func4, Tryd.ntmps4
  go_wp2_with fail
  refine (HE.out _ _ ta ((((HD.out.alloc _).alloc _)).alloc _)).mono ?_
  rintro r w1 ⟨rfl, g1⟩
  have b1 : Below w.heap.size w w1 := btr (by go_grown) g1 (by first | (simp; done) | (simp; omega))
  have ca := ((C3.two1s w (4, f, v) s).below (B := (two1 w (4, f, v) s).heap.size) (by first | (simp; done) | (simp; omega)) ((Below.refl _ _).alloc (Nat.le_refl _) (.cells (tC (4, f, v)) 29))).below (by first | (simp; done) | (simp; omega)) g1
  have cb := ((Bx.two1s w (4, f, v) s).below (B := (two1 w (4, f, v) s).heap.size) (by simp) ((Below.refl _ _).alloc (Nat.le_refl _) (.cells (tC (4, f, v)) 29))).below (by first | (simp; done) | (simp; omega)) g1
  have l1 : w.heap.size + 2 ≤ w1.heap.size := by have := g1.size; simp at this; omega
  have qa := C3.gr ca (by omega)
  have qb : ∀ n : GrT w1, Bx n.w (w.heap.size + 1) s := fun n => cb.below (by omega) n.h
  have HDn : Hid (∀ n : GrT w1, Cd n.w) := (show ∀ n : GrT w1, Cd n.w from fun n => (HD.out.below b1).below n.h)
  obtain ⟨c0, c1, c2⟩ := ca
  clear g1 ta cb
  go_wp2_with fail
  refine wp_region_grow (by kernel_rfl) (by kernel_rfl) ?_
  repeat (go_big_quiet_step ((first | (go_at_call 6; exact quiet_gr (HA.out _ (HDn.out _))))))
  refine wpQuiet_nil ?_
  rintro w2 hw'
  have g2 := gr_elim hw'
  clear hw' qa qb
  go_wp2_with fail
  go_ret
  exact ⟨rfl, btr b1 g2 (Nat.le_refl _)⟩
set_option maxHeartbeats 16000000 in
theorem one_5 (f v : Int) (s : Sn) (w : World) (hd : Cd w) (_ : AW (5, f, v)) (hr : rightB (5, f, v) = true) : Calls Tryd.prog 4 #[tV (5, f, v), snV s] w fun x w' => x = .returned (.bool true) ∧ Below w.heap.size w w' := by
  have HA : Hid (∀ w, Cd w → Calls Tryd.prog 6 #[] w fun e w' => e = .returned (.bool true) ∧ Below w.heap.size w w') := (show ∀ w, _ from fun w h => awake_any w h)
  have HD : Hid (Cd w) := hd
  have hz := encS_len1 (5, f, v) hr
  obtain ⟨S, hS⟩ : ∃ S, writeV (5, f, v) = S := ⟨_, rfl⟩
  rw [hS] at hz
  have hz' : S.size = 16 := hz
  have HE : Hid (∀ (q : Option Addr) (w : World), Ts w q [(5, f, v)] → Cd w → Calls Tryd.prog 9 #[.slice q 1 1] w fun e w' => e = .returned (.tuple #[.string S, .int .i64 0]) ∧ Below w.heap.size w w') := (show ∀ q w, _ from fun q w h hd => by
    have := encode_any q [(5, f, v)] 1 w h (by simp) hd
    rw [(enc_one hr).1, (enc_one hr).2, hS] at this
    exact this)
  have ta := ts_new (two1 w (5, f, v) s) (5, f, v)
  have e0 : (two1 w (5, f, v) s).heap.size = w.heap.size + 2 := by simp
  rw [e0] at ta
  clear hd hr e0 hz hS
  go_enter Tryd.func4, Tryd.ntmps4
  go_wp2_with fail
  refine (HE.out _ _ ta ((((HD.out.alloc _).alloc _)).alloc _)).mono ?_
  rintro r w1 ⟨rfl, g1⟩
  have b1 : Below w.heap.size w w1 := btr (by go_grown) g1 (by first | (simp; done) | (simp; omega))
  have ca := ((C3.two1s w (5, f, v) s).below (B := (two1 w (5, f, v) s).heap.size) (by first | (simp; done) | (simp; omega)) ((Below.refl _ _).alloc (Nat.le_refl _) (.cells (tC (5, f, v)) 29))).below (by first | (simp; done) | (simp; omega)) g1
  have cb := ((Bx.two1s w (5, f, v) s).below (B := (two1 w (5, f, v) s).heap.size) (by simp) ((Below.refl _ _).alloc (Nat.le_refl _) (.cells (tC (5, f, v)) 29))).below (by first | (simp; done) | (simp; omega)) g1
  have l1 : w.heap.size + 2 ≤ w1.heap.size := by have := g1.size; simp at this; omega
  have qa := C3.gr ca (by omega)
  have qb : ∀ n : GrT w1, Bx n.w (w.heap.size + 1) s := fun n => cb.below (by omega) n.h
  have HDn : Hid (∀ n : GrT w1, Cd n.w) := (show ∀ n : GrT w1, Cd n.w from fun n => (HD.out.below b1).below n.h)
  obtain ⟨c0, c1, c2⟩ := ca
  clear g1 ta cb
  go_wp2_with fail
  refine wp_region_grow (by kernel_rfl) (by kernel_rfl) ?_
  repeat (go_big_quiet_step ((first | (go_at_call 6; exact quiet_gr (HA.out _ (HDn.out _))))))
  refine wpQuiet_nil ?_
  rintro w2 hw'
  have g2 := gr_elim hw'
  clear hw' qa qb
  go_wp2_with fail
  go_ret
  exact ⟨rfl, btr b1 g2 (Nat.le_refl _)⟩
theorem one_walk (a : A) (s : Sn) (w : World) (hw : AW a) (_ : Wf s) (hd : Cd w) : Calls Tryd.prog 4 #[tV a, snV s] w fun x w' => x = .returned (.bool true) ∧ Below w.heap.size w w' := by
  cases hr : rightB a with
  | false => exact one_bad a s w hd hr
  | true =>
    obtain ⟨k, f, v⟩ := a
    rcases right_cases hr with ⟨h1, _⟩ | ⟨h1, _⟩ | ⟨h1, _⟩ | ⟨h1, _⟩ | ⟨h1, _⟩
    · simp only at h1; subst h1; exact one_1 f v s w hd hw hr
    · simp only at h1; subst h1; exact one_2 f v s w hd hw hr
    · simp only at h1; subst h1; exact one_3 f v s w hd hw hr
    · simp only at h1; subst h1; exact one_4 f v s w hd hw hr
    · simp only at h1; subst h1; exact one_5 f v s w hd hw hr
end Go.Proofs.YtmlonfchbkmbcabDoor

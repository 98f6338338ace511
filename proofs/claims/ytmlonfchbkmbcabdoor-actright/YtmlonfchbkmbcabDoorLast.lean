/-
  What lastOfEach answers, as a contract.
-/
import Derived.Test.YtmlonfchbkmbcabDoorKnown
namespace Go.Proofs.YtmlonfchbkmbcabDoor
open Go.ChangeShapes Go.WideShapes Go.ChangeAt Go.RowKit

theorem lastOf_len : ∀ l : List A, (lastOf kap l).length ≤ l.length
  | [] => by simp [lastOf]
  | [x] => by simp [lastOf]
  | x :: y :: t => by
    have := lastOf_len (y :: t)
    unfold lastOf
    split
    · simp only [List.length_cons] at this ⊢; omega
    · simp only [List.length_cons] at this ⊢; omega
theorem last_end (l : List A) (k : Nat) (h : k + 1 = l.length) : lastOf kap (l.drop k) = [at' l k] ++ lastOf kap (l.drop (k + 1)) := by
  rw [List.drop_eq_getElem_cons (show k < l.length by omega), List.drop_of_length_le (show l.length ≤ k + 1 by omega), at_get l k (by omega)]
  rfl
theorem last_mid (l : List A) (k : Nat) (h : k + 1 < l.length) : lastOf kap (l.drop k) = (if kap (at' l k) = kap (at' l (k + 1)) then [] else [at' l k]) ++ lastOf kap (l.drop (k + 1)) := by
  rw [List.drop_eq_getElem_cons (show k < l.length by omega), List.drop_eq_getElem_cons h, at_get l k (by omega), at_get l (k + 1) h]
  conv => lhs; unfold lastOf
  split <;> rfl
theorem at_aw' {d : List A} (h : AWs d) {i : Nat} (hi : i < d.length) : AW (at' d i) := by
  rw [at_get d i hi]; exact h _ (List.getElem_mem hi)
set_option maxHeartbeats 8000000 in
theorem last_any (a : Option Addr) (l : List A) (cap : Nat) (w : World) (h : Ts w a l) (hW : AWs l) (hl : l.length ≤ 1000) :
    Calls Tryd.prog 29 #[.slice a l.length cap] w fun e w' => ∃ v, e = .returned v ∧ w'.ownsRow w.heap.size 29 3 v (lastOf kap l).length (flat (lastOf kap l)) ∧ Below w.heap.size w w' := by
  have HB : Hid (∀ x y w, Calls Tryd.prog 28 #[tV x, tV y] w fun e w' => e = .returned (.int .i64 (bpV x y)) ∧ Below w.heap.size w w') := byPlace_any
  have HWs : Hid (AWs l) := hW
  have hLl := lastOf_len l
  obtain ⟨L, hL⟩ : ∃ L, lastOf kap l = L := ⟨_, rfl⟩
  have HL0 : Hid (L = [] ++ lastOf kap (l.drop 0)) := (show L = [] ++ lastOf kap (l.drop 0) from hL.symm)
  rw [hL] at hLl ⊢
  clear hL hW
  go_enter Tryd.func29, Tryd.ntmps29
  go_wp2_with fail
  go_loopw [3, 8] (fun v i wr => ∃ (k : Nat) (p : List A), k ≤ l.length ∧ i = .int .i64 k ∧ Hid (L = p ++ lastOf kap (l.drop k)) ∧ wr.ownsRow w.heap.size 29 3 v p.length (flat p) ∧ Below w.heap.size w wr) (fun _ i _ => l.length - (intOf i).toNat)
  case atStart => exact ⟨0, [], Nat.zero_le _, rfl, HL0, World.ownsRow_nil _ _ _ _, Below.refl _ _⟩
  case round =>
    clear HL0
    obtain ⟨k, p, hk, rfl, HL, hown, hbel⟩ := hrel
    by_cases hlt : k < l.length
    · have hT := h.below hbel
      obtain ⟨g, o, rfl, hg, hc⟩ := hT.at hlt
      have ck := hc k hlt
      rw [← at_get l k hlt] at ck
      have q := C3.gr (C3.new wr (at' l k)) (by simp)
      by_cases hlast : k + 1 = l.length
      · have hb : ((k : Int) == (l.length : Int) - 1) = true := by simp; omega
        have HN : Hid (L = (p ++ [at' l k]) ++ lastOf kap (l.drop (k + 1))) := (show _ = _ by rw [HL.out, last_end l k hlast, List.append_assoc])
        have hpl : p.length + 1 ≤ 1000 := by
          have := congrArg List.length HN.out
          simp only [List.length_append, List.length_cons, List.length_nil] at this
          omega
        obtain ⟨X, hX⟩ : ∃ X, at' l k = X := ⟨_, rfl⟩
        rw [hX] at HN ck q
        clear hX
        have q0 := fun n => (q n).1
        have q1 := fun n => (q n).2.1
        have q2 := fun n => (q n).2.2
        obtain ⟨c0, c1, c2⟩ := ck
        clear q hc hT
        go_wp2_with fail
        refine wp_region_grow (by kernel_rfl) (by kernel_rfl) ?_
        repeat (go_big_quiet_step ((go_at_call 28; exact quiet_gr (HB.out _ _ _))))
        refine wpQuiet_nil ?_
        rintro w1 hw'
        have g1 := gr_elim hw'
        have hown1 := own_below (hown.alloc (.cells (tC X) 29)) g1
        have hb1 : Below w.heap.size w w1 := btr (hbel.alloc hbel.size _) g1 (Nat.le_refl _)
        clear q0 q1 q2
        obtain ⟨d0, d1, d2⟩ := (C3.new wr X).below (by simp) g1
        have hwr := hbel.size
        clear hw' g1 hown hbel
        go_wp2_with (at_builtin; refine wpList_app rfl _ _ rfl w.heap.size _ _ _ rfl (hown1.alloc _) (some ⟨w1.heap.size, 0, none⟩) 1 [X] 1 rfl rfl ?c0 ?c1 ?c2 ?_)
        case c0 => exact ts_new w1 X
        case c1 => simp; omega
        case c2 => have := hb1.size; simp; omega
        · intro v' w4 hown' hgrow
          have R1 : w4.ownsRow w.heap.size 29 3 v' (p ++ [X]).length (flat (p ++ [X])) := by
            rw [flat_append, List.length_append]
            exact hown'
          have R2 : Below w.heap.size w w4 := (hb1.alloc hb1.size _).grown hgrow (by have := hb1.size; simp; omega) (fun q hq => by have := (hown1.lt q hq).1; omega)
          clear hown' hgrow hown1 hb1 d0 d1 d2
          go_wp2_with fail
          go_roundw
          case rel => exact ⟨k + 1, p ++ [X], by omega, by go_num, HN, R1, R2⟩
          case measure => simp [intOf]; omega
      · have hb : ((k : Int) == (l.length : Int) - 1) = false := by simp; omega
        have hlt1 : k + 1 < l.length := by omega
        have ck1 := hc (k + 1) hlt1
        rw [← at_get l (k + 1) hlt1] at ck1
        have q' := C3.gr (W := tx wr (at' l k)) (ck1.below hg ((Below.refl _ _).alloc (Nat.le_refl _) _)) (by simp; omega)
        have hm := last_mid l k hlt1
        have heq := bpV_eq (at_aw' HWs.out hlt) (at_aw' HWs.out hlt1)
        obtain ⟨P, hP⟩ : ∃ P, k + 1 = P := ⟨_, rfl⟩
        have eP : (k : Int) + 1 = (P : Int) := by omega
        have lP : (P : Int) < (l.length : Int) := by omega
        have lP' : P < l.length := by omega
        rw [hP] at ck1 q' heq
        obtain ⟨X, hX⟩ : ∃ X, at' l k = X := ⟨_, rfl⟩
        obtain ⟨Y, hY⟩ : ∃ Y, at' l P = Y := ⟨_, rfl⟩
        have HM : Hid (lastOf kap (l.drop k) = (if kap X = kap Y then [] else [X]) ++ lastOf kap (l.drop (k + 1))) := (show _ = _ by rw [hm, hP, hX, hY])
        rw [hX] at ck q q' heq
        rw [hY] at ck1 q' heq
        clear hX hY hm
        have q0 := fun n => (q n).1
        have q1 := fun n => (q n).2.1
        have q2 := fun n => (q n).2.2
        have r0 := fun n => (q' n).1
        have r1 := fun n => (q' n).2.1
        have r2 := fun n => (q' n).2.2
        obtain ⟨c0, c1, c2⟩ := ck
        have HP : Hid (k + 1 = P) := hP
        clear q q' hc hT ck1 hP
        by_cases hv : kap X = kap Y
        · have hvb : (bpV X Y != 0) = false := by simp [bne, heq.2 hv]
          have HN : Hid (L = p ++ lastOf kap (l.drop (k + 1))) := (show _ = _ by rw [HL.out, HM.out, if_pos hv]; rfl)
          clear heq hv HM HL
          go_wp2_with fail
          refine wp_region_grow (by kernel_rfl) (by kernel_rfl) ?_
          repeat (go_big_quiet_step ((go_at_call 28; exact quiet_gr (HB.out _ _ _))))
          refine wpQuiet_nil ?_
          rintro w1 hw'
          have g1 := gr_elim hw'
          have hown1 := own_below (hown.alloc (.cells (tC X) 29)) g1
          have hb1 : Below w.heap.size w w1 := btr (hbel.alloc hbel.size _) g1 (Nat.le_refl _)
          clear q0 q1 q2 r0 r1 r2
          clear hw' g1 hown hbel
          go_wp2_with fail
          go_roundw
          case rel => exact ⟨k + 1, p, by omega, by go_num, HN, hown1, hb1⟩
          case measure => simp [intOf]; omega
        · have hvb : (bpV X Y != 0) = true := by
            rw [bne_iff_ne]; exact fun x => hv (heq.1 x)
          have HN : Hid (L = (p ++ [X]) ++ lastOf kap (l.drop (k + 1))) := (show _ = _ by rw [HL.out, HM.out, if_neg hv, List.append_assoc])
          have hpl : p.length + 1 ≤ 1000 := by
            have := congrArg List.length HN.out
            simp only [List.length_append, List.length_cons, List.length_nil] at this
            omega
          clear heq hv HM HL
          go_wp2_with fail
          refine wp_region_grow (by kernel_rfl) (by kernel_rfl) ?_
          repeat (go_big_quiet_step ((go_at_call 28; exact quiet_gr (HB.out _ _ _))))
          refine wpQuiet_nil ?_
          rintro w1 hw'
          have g1 := gr_elim hw'
          have hown1 := own_below (hown.alloc (.cells (tC X) 29)) g1
          have hb1 : Below w.heap.size w w1 := btr (hbel.alloc hbel.size _) g1 (Nat.le_refl _)
          clear q0 q1 q2 r0 r1 r2
          obtain ⟨d0, d1, d2⟩ := (C3.new wr X).below (by simp) g1
          have hwr := hbel.size
          clear hw' g1 hown hbel
          go_wp2_with (at_builtin; refine wpList_app rfl _ _ rfl w.heap.size _ _ _ rfl (hown1.alloc _) (some ⟨w1.heap.size, 0, none⟩) 1 [X] 1 rfl rfl ?c0 ?c1 ?c2 ?_)
          case c0 => exact ts_new w1 X
          case c1 => simp; omega
          case c2 => have := hb1.size; simp; omega
          · intro v' w4 hown' hgrow
            have R1 : w4.ownsRow w.heap.size 29 3 v' (p ++ [X]).length (flat (p ++ [X])) := by
              rw [flat_append, List.length_append]
              exact hown'
            have R2 : Below w.heap.size w w4 := (hb1.alloc hb1.size _).grown hgrow (by have := hb1.size; simp; omega) (fun q hq => by have := (hown1.lt q hq).1; omega)
            clear hown' hgrow hown1 hb1 d0 d1 d2
            go_wp2_with fail
            go_roundw
            case rel => exact ⟨k + 1, p ++ [X], by omega, by go_num, HN, R1, R2⟩
            case measure => simp [intOf]; omega
    · have hk' : k = l.length := by omega
      have e : p = L := by rw [HL.out, List.drop_of_length_le (by omega)]; simp [lastOf]
      subst e
      go_wp2_with fail
      go_ret
      exact ⟨_, rfl, hown, hbel⟩
end Go.Proofs.YtmlonfchbkmbcabDoor

/-
  What rightBehind and Right answer of any tests, as contracts.
-/
import Derived.Test.YtjjfhibkcngphaaGreatDoorMBehind
namespace Go.Proofs.YtjjfhibkcngphaaGreatDoor.Mt
open Go.ChangeShapes Go.WideShapes Go.ChangeAt Go.RowKit

theorem ite21 (b : Bool) : (if b = true then (0 : Int) else 21) = if b = false then 21 else 0 := by cases b <;> rfl
theorem behind_any (t : T) (a : Option Addr) (l : List T) (cap : Nat) (w : World) (h : Ts w a l) (hl : l.length ≤ 100000) :
    Calls Tryz.prog 72 #[tV t, .slice a l.length cap] w fun e w' => e = .returned (.int .i64 (behindE t l)) ∧ Below w.heap.size w w' := by
  unfold behindE
  by_cases h0 : wdV t.1 = 0
  · rw [if_pos h0]; exact behind_none t _ w h0
  · rw [if_neg h0]
    have hb : (wdV t.1 == 0) = false := by simpa using h0
    have HS : Hid (∀ w', Below w.heap.size w w' → Calls Tryz.prog 83 #[.int .i64 t.1, .slice a l.length cap] w' fun e w'' => e = .returned (.bool (standB t.1 l)) ∧ Below w'.heap.size w' w'') := fun w' g => stand_any t.1 a l cap w' (h.below g) hl
    by_cases hn : l = []
    · subst hn
      cases hf : fitB t with
      | false => rw [if_pos (by simp)]; exact behind_first_fit t a cap w hb hf
      | true =>
        have e : (if ([] : List T) ≠ [] ∧ t.1 ≤ lastF [] ∨ true = false ∨ standB t.1 [] = false then (21 : Int) else 0) = if standB t.1 [] = true then 0 else 21 := by
          cases standB t.1 [] <;> simp
        rw [e]
        exact behind_first_std t a cap w hb hf _ HS
    · have hp : 0 < l.length := by cases l with
        | nil => exact absurd rfl hn
        | cons => simp
      obtain ⟨k, hk⟩ : ∃ k, l.length = k + 1 := ⟨l.length - 1, by omega⟩
      obtain ⟨g, o, rfl, hg, hc⟩ := h.at hp
      have hla := lastF_get l k hk.symm
      have hz := (hc k (by omega)).1
      rw [← hla] at hz
      rw [hk] at hl HS ⊢
      by_cases h1 : t.1 ≤ lastF l
      · rw [if_pos (.inl ⟨hn, h1⟩)]
        exact behind_later_le t g o k (lastF l) cap w hb hg hl hz (by simpa using h1)
      · cases hf : fitB t with
        | false => rw [if_pos (by simp)]; exact behind_later_fit t g o k (lastF l) cap w hb hg hl hz (by simpa using h1) hf
        | true =>
          have e : (if l ≠ [] ∧ t.1 ≤ lastF l ∨ true = false ∨ standB t.1 l = false then (21 : Int) else 0) = if standB t.1 l = true then 0 else 21 := by
            cases standB t.1 l <;> simp [h1]
          rw [e]
          exact behind_later_std t g o k (lastF l) cap w hb hg hl hz (by simpa using h1) hf _ HS
theorem rightGo_at (l : List T) (k : Nat) (h : k < l.length) : rightGo (l.take k) (l.drop k) = if behindE l[k] (l.take k) = 0 then rightGo (l.take (k + 1)) (l.drop (k + 1)) else behindE l[k] (l.take k) := by
  rw [List.drop_eq_getElem_cons h, rightGo, take_snoc_get l k h]

set_option maxHeartbeats 4000000 in
theorem right_any (a : Option Addr) (l : List T) (cap : Nat) (w : World) (h : Ts w a l) (hl : l.length ≤ 100000) (hc : l.length ≤ cap) :
    Calls Tryz.prog 52 #[.slice a l.length cap] w fun e w' => e = .returned (.int .i64 (rightE l)) ∧ Below w.heap.size w w' := by
  have HB : Hid (∀ t k w, k ≤ l.length → Ts w a l → Calls Tryz.prog 72 #[tV t, .slice a k cap] w fun e w' => e = .returned (.int .i64 (behindE t (l.take k))) ∧ Below w.heap.size w w') := fun t k w hk h => by
    have hlen : (l.take k).length = k := by rw [List.length_take]; omega
    have := behind_any t a (l.take k) cap w (h.take k) (by omega)
    rwa [hlen] at this
  go_enter Tryz.func52, Tryz.ntmps52
  go_wp2_with fail
  go_loopw [8] (fun i wr => ∃ k : Nat, k ≤ l.length ∧ i = .int .i64 k ∧ rightE l = rightGo (l.take k) (l.drop k) ∧ Below w.heap.size w wr) (fun i _ => l.length - (intOf i).toNat)
  case atStart => exact ⟨0, by omega, rfl, by simp [rightE], Below.refl _ _⟩
  case round =>
    obtain ⟨k, hk, rfl, hr, hbel⟩ := hrel
    by_cases hlt : k < l.length
    · have hT := h.below hbel
      obtain ⟨g, o, rfl, hg, hcs⟩ := hT.at hlt
      obtain ⟨c0, c1, c2⟩ := hcs k hlt
      have q := C3.gr (C3.new wr l[k]) (by simp)
      have q0 := fun n => (q n).1
      have q1 := fun n => (q n).2.1
      have q2 := fun n => (q n).2.2
      clear q
      have hTn : ∀ n : GrT (tx wr l[k]), Ts n.w (some ⟨g, o, none⟩) l := fun n => ((hT.alloc _).below n.h)
      have HR : Hid (rightGo (l.take k) (l.drop k) = if behindE l[k] (l.take k) = 0 then rightGo (l.take (k + 1)) (l.drop (k + 1)) else behindE l[k] (l.take k)) := rightGo_at l k hlt
      have hkl : k ≤ cap := by omega
      go_wp2_with fail
      refine wp_region_grow (by kernel_rfl) (by kernel_rfl) ?_
      repeat (go_big_quiet_step (first | (go_at_call 72; exact quiet_gr (HB.out _ _ _ hk (hTn _)))))
      refine wpQuiet_nil ?_
      rintro w1 hw'
      have g1 := gr_elim hw'
      clear hw'
      have g2 : Below w.heap.size w w1 := btr (hbel.alloc hbel.size _) g1 (Nat.le_refl _)
      generalize hE : behindE l[k] (l.take k) = e at *
      by_cases he : e = 0
      · subst he
        have HR2 : Hid (rightE l = rightGo (l.take (k + 1)) (l.drop (k + 1))) := (show _ = _ by rw [hr, HR.out, if_pos rfl])
        go_wp2_with fail
        go_roundw
        case rel => exact ⟨k + 1, by omega, by go_num, HR2.out, g2⟩
        case measure => simp [intOf]; omega
      · have hne : (e != 0) = true := by simpa using he
        have HR2 : Hid (rightE l = e) := (show _ = _ by rw [hr, HR.out, if_neg he])
        clear hr HR
        go_wp2_with fail
        go_ret
        exact ⟨by rw [HR2.out]; rfl, g2⟩
    · have hk' : k = l.length := by omega
      subst hk'
      have e : rightE l = 0 := by rw [hr]; simp [rightGo]
      go_wp2_with fail
      go_ret
      exact ⟨by rw [e]; rfl, hbel⟩
end Go.Proofs.YtjjfhibkcngphaaGreatDoor.Mt

/-
  Whether a test is among some: what slices.Index and slices.Contains answer, as contracts.
-/
import Derived.Test.YtjjfhibkcngphaaGreatDoorMBase
namespace Go.Proofs.YtjjfhibkcngphaaGreatDoor.Mt
open Go.ChangeShapes Go.WideShapes Go.ChangeAt Go.RowKit

theorem has_snoc (l : List T) (k : Nat) (h : k < l.length) (t : T) : hasT (l.take (k + 1)) t = (hasT (l.take k) t || decide (l[k] = t)) := by
  unfold hasT; rw [take_snoc_get l k h, List.any_append, List.any_cons, List.any_nil, Bool.or_false]
set_option maxHeartbeats 1000000 in
theorem index_any (a : Option Addr) (l : List T) (cap : Nat) (t : T) (w : World) (h : Ts w a l) (hl : l.length ≤ 100000) :
    Calls Tryz.prog 107 #[.slice a l.length cap, tV t] w fun e w' => ∃ n : Int, e = .returned (.int .i64 n) ∧ decide (0 ≤ n) = hasT l t ∧ Below w.heap.size w w' := by
  have hE := eqT
  have hG := guT
  go_enter Tryz.func107, Tryz.ntmps107
  go_wp2
  go_loopw [8] (fun i wr => ∃ k : Nat, k ≤ l.length ∧ i = .int .i64 k ∧ hasT (l.take k) t = false ∧ C3 wr w.heap.size 0 t ∧ Below w.heap.size w wr) (fun i _ => l.length - (intOf i).toNat)
  case atStart => exact ⟨0, by omega, rfl, by simp [hasT], C3.new w t, by go_grown⟩
  case round =>
    obtain ⟨k, hk, rfl, hn, ⟨b0, b1, b2⟩, hbel⟩ := hrel
    by_cases hlt : k < l.length
    · obtain ⟨g, o, rfl, hg, hc⟩ := h.at hlt
      obtain ⟨c0, c1, c2⟩ := (hc k hlt).below hg hbel
      have hs := has_snoc l k hlt t
      go_wp2
      go_quiet (fail)
      by_cases he : t = l[k]
      · have HE : Hid (hasT (l.take (k + 1)) t = true) := show hasT (l.take (k + 1)) t = true by rw [hs]; simp [he]
        have hd : eqB t l[k] = true := eqB_true.2 he
        clear hs he
        rw [hd]
        go_wp2
        go_ret
        refine ⟨k, rfl, ?_, bdr hbel _⟩
        have h1 := (hasT_iff _ _).1 HE.out
        rw [decide_eq_true (by omega)]
        exact ((hasT_iff l t).2 (List.mem_of_mem_take h1)).symm
      · have HE : Hid (hasT (l.take (k + 1)) t = false) := show hasT (l.take (k + 1)) t = false by rw [hs, hn]; simp [Ne.symm he]
        have hd : eqB t l[k] = false := eqB_false.2 he
        clear hs he
        rw [hd]
        go_wp2
        go_roundw
        case rel => exact ⟨k + 1, by omega, by go_num, HE.out, ⟨by simpa using b0, by simpa using b1, by simpa using b2⟩, bdr hbel _⟩
        case measure => simp [intOf]; omega
    · have hk' : k = l.length := by omega
      subst hk'
      go_wp2
      go_ret
      refine ⟨-1, rfl, ?_, hbel⟩
      rw [List.take_length] at hn
      rw [hn]; rfl

set_option maxHeartbeats 1000000 in
theorem contains_any (a : Option Addr) (l : List T) (cap : Nat) (t : T) (w : World) (h : Ts w a l) (hl : l.length ≤ 100000) :
    Calls Tryz.prog 93 #[.slice a l.length cap, tV t] w fun e w' => e = .returned (.bool (hasT l t)) ∧ Below w.heap.size w w' := by
  have HI : Hid (∀ w, Ts w a l → Calls Tryz.prog 107 #[.slice a l.length cap, tV t] w fun e w' => ∃ n : Int, e = .returned (.int .i64 n) ∧ decide (0 ≤ n) = hasT l t ∧ Below w.heap.size w w') := fun w h => index_any a l cap t w h hl
  go_enter Tryz.func93, Tryz.ntmps93
  go_wp2_with fail
  refine (HI.out _ (h.alloc _)).mono ?_
  rintro x w1 ⟨n, rfl, hn, g1⟩
  go_wp2_with fail
  go_ret
  exact ⟨rfl, btr (by go_grown) g1 (by simp)⟩
end Go.Proofs.YtjjfhibkcngphaaGreatDoor.Mt

/-
  The document's Takes: what it answers, as a contract; the law MatchTakes answers true.
-/
import Derived.Test.YtjjfhibkcngphaaGreatDoorMTakes
import Derived.Test.YtjjfhibkcngphaaGreatDoorMRefGet
namespace Go.Proofs.YtjjfhibkcngphaaGreatDoor.Mt
open Go.ChangeShapes Go.WideShapes Go.ChangeAt Go.RowKit

set_option maxRecDepth 20000 in
set_option maxHeartbeats 16000000 in
theorem rtakes_any (a : Option Addr) (l : List T) (cap : Nat) (s : Sn) (w : World) (h : Ts w a l) (hl : l.length ≤ 100000) (hw : Wf s) :
    Calls Tryz.prog 29 #[.slice a l.length cap, snV s] w fun e w' => e = .returned (.bool (takesB l s)) ∧ Below w.heap.size w w' := by
  have HG : Hid (∀ f w, Calls Tryz.prog 49 #[snV s, .int .i64 f] w fun e w' => e = .returned (.tuple #[.int .u64 (getV s f), .int .i64 (getE s f)]) ∧ Below w.heap.size w w') := fun f w => rget_any s f w hw
  unfold takesB
  go_enter Tryz.func29, Tryz.ntmps29
  go_wp2
  go_loopw [5] (fun i wr => ∃ k : Nat, k ≤ l.length ∧ i = .int .i64 k ∧ (l.take k).all (takeT s) = true ∧ Bx wr w.heap.size s ∧ w.heap.size < wr.heap.size ∧ Below w.heap.size w wr) (fun i _ => l.length - (intOf i).toNat)
  case atStart => exact ⟨0, by omega, rfl, by simp, Bx.newr w s, by simp, by go_grown⟩
  case round =>
    obtain ⟨k, hk, rfl, hn, hb, hsz, hbel⟩ := hrel
    by_cases hlt : k < l.length
    · have hT := h.below hbel
      obtain ⟨g, o, rfl, hg, hc⟩ := hT.at hlt
      have hck := hc k hlt
      have hs := all_snoc l (takeT s) k hlt
      rw [hn, Bool.true_and] at hs
      have ht : takeT s l[k] = ((getE s l[k].1 == 0) && (bits .and .u64 (getV s l[k].1) l[k].2.2 == l[k].2.1)) := rfl
      have q : ∀ n : GrT wr, Bx n.w w.heap.size s := fun n => hb.below hsz n.h
      have q0 := fun n => (q n).1
      have q1 := fun n => (q n).2.1
      have q2 := fun n => (q n).2.2.1
      have q3 := fun n => (q n).2.2.2.1
      have q4 := fun n => (q n).2.2.2.2.1
      have q5 := fun n => (q n).2.2.2.2.2.1
      have q6 := fun n => (q n).2.2.2.2.2.2.1
      have q7 := fun n => (q n).2.2.2.2.2.2.2.1
      have q8 := fun n => (q n).2.2.2.2.2.2.2.2.1
      have q9 := fun n => (q n).2.2.2.2.2.2.2.2.2.1
      have q10 := fun n => (q n).2.2.2.2.2.2.2.2.2.2.1
      have q11 := fun n => (q n).2.2.2.2.2.2.2.2.2.2.2.1
      have q12 := fun n => (q n).2.2.2.2.2.2.2.2.2.2.2.2
      clear q
      have p := C3.gr hck hg
      have p0 := fun n => (p n).1
      clear p
      go_wp2
      refine wp_region_grow (by kernel_rfl) (by kernel_rfl) ?_
      repeat (go_big_quiet_step (first | (go_at_call 49; exact quiet_gr (HG.out _ _))))
      refine wpQuiet_nil ?_
      rintro w1 hw'
      have g1 := gr_elim hw'
      clear hw' q0 q1 q2 q3 q4 q5 q6 q7 q8 q9 q10 q11 q12 p0
      have hck1 := C3.below (t := l[k]) hck hg g1
      have hg1 := Nat.lt_of_lt_of_le hg g1.size
      have p := C3.gr hck1 hg1
      have p1 := fun n => (p n).2.1
      have p2 := fun n => (p n).2.2
      clear p
      have hb1 := hb.below hsz g1
      have hsz1 := Nat.lt_of_lt_of_le hsz g1.size
      have b1 := btr hbel g1 (Nat.le_refl _)
      generalize getE s l[k].1 = e at *
      generalize getV s l[k].1 = v at *
      cases f1 : (e != 0)
      · have e0 : (e == 0) = true := by simpa using f1
        cases f2 : (bits .and .u64 v l[k].2.2 != l[k].2.1)
        · have e2 : (bits .and .u64 v l[k].2.2 == l[k].2.1) = true := by simpa using f2
          have HE : Hid ((l.take (k + 1)).all (takeT s) = true) := (show _ = _ by rw [hs, ht, e0, e2]; rfl)
          clear hs ht hn e0 e2
          go_wp2_with fail
          refine wp_region_grow (by kernel_rfl) (by kernel_rfl) ?_
          repeat (go_big_quiet_step (fail))
          refine wpQuiet_nil ?_
          rintro w2 hw'
          have g2 := gr_elim hw'
          clear hw'
          try rw [f2]
          go_wp2_with fail
          go_roundw
          case rel => exact ⟨k + 1, by omega, by go_num, HE.out, hb1.below hsz1 g2, Nat.lt_of_lt_of_le hsz1 g2.size, btr b1 g2 (Nat.le_refl _)⟩
          case measure => simp [intOf]; omega
        · have e2 : (bits .and .u64 v l[k].2.2 == l[k].2.1) = false := by simpa using f2
          have HE : Hid (l.all (takeT s) = false) := (show _ = _ from all_of_take l _ (k + 1) (by rw [hs, ht, e0, e2]; rfl))
          clear hs ht hn e0 e2
          go_wp2_with fail
          refine wp_region_grow (by kernel_rfl) (by kernel_rfl) ?_
          repeat (go_big_quiet_step (fail))
          refine wpQuiet_nil ?_
          rintro w2 hw'
          have g2 := gr_elim hw'
          clear hw'
          try rw [f2]
          go_wp2_with fail
          go_ret
          exact ⟨by rw [HE.out]; rfl, btr b1 g2 (Nat.le_refl _)⟩
      · have e0 : (e == 0) = false := by simpa using f1
        have HE : Hid (l.all (takeT s) = false) := (show _ = _ from all_of_take l _ (k + 1) (by rw [hs, ht, e0]; rfl))
        clear hs ht hn e0
        go_wp2_with fail
        refine wp_region_grow (by kernel_rfl) (by kernel_rfl) ?_
        repeat (go_big_quiet_step (fail))
        refine wpQuiet_nil ?_
        rintro w2 hw'
        have g2 := gr_elim hw'
        clear hw'
        go_wp2_with fail
        go_ret
        exact ⟨by rw [HE.out]; rfl, btr b1 g2 (Nat.le_refl _)⟩
    · have hk' : k = l.length := by omega
      subst hk'
      rw [List.take_length] at hn
      go_wp2
      go_ret
      exact ⟨by rw [hn]; rfl, hbel⟩
end Go.Proofs.YtjjfhibkcngphaaGreatDoor.Mt

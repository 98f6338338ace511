/-
  What Takes answers, as a contract.
-/
import Derived.Test.YtjjfhibkcngphaaGreatDoorMGet
import Derived.Test.YtjjfhibkcngphaaGreatDoorMPairs
namespace Go.Proofs.YtjjfhibkcngphaaGreatDoor.Mt
open Go.ChangeShapes Go.WideShapes Go.ChangeAt Go.RowKit

/-- Whether a packet passes a test, and a match. -/
def takeT (s : Sn) (t : T) : Bool := (getE s t.1 == 0) && (bits .and .u64 (getV s t.1) t.2.2 == t.2.1)
def takesB (l : List T) (s : Sn) : Bool := l.all (takeT s)
theorem Bx.allocd {w : World} {b : Nat} {s : Sn} (h : Bx w b s) (hb : b < w.heap.size) (x : Obj) : Bx (w.alloc x) b s := h.below hb (show Below w.heap.size w (w.alloc x) by go_grown)
set_option maxHeartbeats 8000000 in
theorem takes_any (a : Option Addr) (l : List T) (cap : Nat) (s : Sn) (w : World) (h : Ts w a l) (hl : l.length ≤ 100000) (hw : Wf s) :
    Calls Tryz.prog 28 #[.slice a l.length cap, snV s] w fun e w' => e = .returned (.bool (takesB l s)) ∧ Below w.heap.size w w' := by
  have HG : Hid (∀ f w, Calls Tryz.prog 48 #[snV s, .int .i64 f] w fun e w' => e = .returned (.tuple #[.int .u64 (getV s f), .int .i64 (getE s f)]) ∧ Below w.heap.size w w') := fun f w => get_any s f w hw
  unfold takesB
  go_enter Tryz.func28, Tryz.ntmps28
  go_wp2
  go_loopw [11] (fun i wr => ∃ k : Nat, k ≤ l.length ∧ i = .int .i64 k ∧ (l.take k).all (takeT s) = true ∧ Bx wr w.heap.size s ∧ w.heap.size < wr.heap.size ∧ Below w.heap.size w wr) (fun i _ => l.length - (intOf i).toNat)
  case atStart => exact ⟨0, by omega, rfl, by simp, Bx.new w s, by simp, by go_grown⟩
  case round =>
    obtain ⟨k, hk, rfl, hn, hb, hsz, hbel⟩ := hrel
    by_cases hlt : k < l.length
    · have hT := h.below hbel
      obtain ⟨g, o, rfl, hg, hc⟩ := hT.at hlt
      obtain ⟨c0, c1, c2⟩ := hc k hlt
      have hb' := hb.allocd hsz (.cells (tC l[k]) 73)
      have hbel2 := hbel.alloc hbel.size (.cells (tC l[k]) 73)
      have hs := all_snoc l (takeT s) k hlt
      rw [hn, Bool.true_and] at hs
      have HB : Hid (Bx (tx wr l[k]) w.heap.size s) := hb'
      obtain ⟨h0, h1, h2, h3, h4, h5, h6, h7, h8, h9, h10, h11, h12⟩ := hb'
      have ht : takeT s l[k] = ((getE s l[k].1 == 0) && (bits .and .u64 (getV s l[k].1) l[k].2.2 == l[k].2.1)) := rfl
      go_wp2_with fail
      refine (HG.out _ _).mono ?_
      rintro x w1 ⟨rfl, g1⟩
      have hsz1 : w.heap.size < (tx wr l[k]).heap.size := by simp; omega
      have hb1 := Bx.below HB.out hsz1 g1
      obtain ⟨d0, d1, d2⟩ := (C3.new wr l[k]).below (by simp) g1
      have g2 := btr hbel2 g1 (Nat.le_refl _)
      have hsz2 := Nat.lt_of_lt_of_le hsz1 g1.size
      clear h0 h1 h2 h3 h4 h5 h6 h7 h8 h9 h10 h11 h12
      generalize getE s l[k].1 = e at *
      generalize getV s l[k].1 = v at *
      cases f1 : (e != 0)
      · have e0 : (e == 0) = true := by simpa using f1
        cases f2 : (bits .and .u64 v l[k].2.2 != l[k].2.1)
        · have e2 : (bits .and .u64 v l[k].2.2 == l[k].2.1) = true := by simpa using f2
          have HE : Hid ((l.take (k + 1)).all (takeT s) = true) := (show _ = _ by rw [hs, ht, e0, e2]; rfl)
          clear hs ht hn e0 e2
          go_wp2_with fail
          go_roundw
          case rel => exact ⟨k + 1, by omega, by go_num, HE.out, hb1, hsz2, g2⟩
          case measure => simp [intOf]; omega
        · have e2 : (bits .and .u64 v l[k].2.2 == l[k].2.1) = false := by simpa using f2
          have HE : Hid (l.all (takeT s) = false) := (show _ = _ from all_of_take l _ (k + 1) (by rw [hs, ht, e0, e2]; rfl))
          clear hs ht hn e0 e2
          go_wp2_with fail
          go_ret
          exact ⟨by rw [HE.out]; rfl, g2⟩
      · have e0 : (e == 0) = false := by simpa using f1
        have HE : Hid (l.all (takeT s) = false) := (show _ = _ from all_of_take l _ (k + 1) (by rw [hs, ht, e0]; rfl))
        clear hs ht hn e0
        go_wp2_with fail
        go_ret
        exact ⟨by rw [HE.out]; rfl, g2⟩
    · have hk' : k = l.length := by omega
      subst hk'
      rw [List.take_length] at hn
      go_wp2
      go_ret
      exact ⟨by rw [hn]; rfl, hbel⟩
end Go.Proofs.YtjjfhibkcngphaaGreatDoor.Mt

/-
  The document's Same, Covers and Meets: what they answer, as contracts.
-/
import Derived.Test.YtjjfhibkcngphaaDoorMPairs
namespace Go.Proofs.YtjjfhibkcngphaaDoor.Mt
open Go.ChangeShapes Go.WideShapes Go.ChangeAt Go.RowKit

set_option maxHeartbeats 4000000 in
theorem rsame_any (a1 : Option Addr) (l : List T) (cap1 : Nat) (a2 : Option Addr) (b : List T) (cap2 : Nat) (w : World) (h : Ts w a1 l) (hl : l.length ≤ 100000) (h2 : Ts w a2 b) (hl2 : b.length ≤ 100000) :
    Calls Tryd.prog 16 #[.slice a1 l.length cap1, .slice a2 b.length cap2] w fun e w' => e = .returned (.bool (sameB l b)) ∧ Below w.heap.size w w' := by
  have hE := neT
  have hG := guT
  by_cases hq : l.length = b.length
  · have hne : ((l.length : Int) != (b.length : Int)) = false := by simp [hq]
    go_enter Tryd.func16, Tryd.ntmps16
    go_wp2
    go_loopw [5] (fun i wr => ∃ k : Nat, k ≤ l.length ∧ i = .int .i64 k ∧ l.take k = b.take k ∧ Below w.heap.size w wr) (fun i _ => l.length - (intOf i).toNat)
    case atStart => exact ⟨0, by omega, rfl, by simp, Below.refl _ _⟩
    case round =>
      obtain ⟨k, hk, rfl, hn, hbel⟩ := hrel
      by_cases hlt : k < l.length
      · have hlt2 : k < b.length := by omega
        have hT := h.below hbel
        have hT2 := h2.below hbel
        obtain ⟨g, o, rfl, hg, hc⟩ := hT.at hlt
        obtain ⟨g2, o2, rfl, hg2, hc2⟩ := hT2.at hlt2
        obtain ⟨c0, c1, c2⟩ := hc k hlt
        obtain ⟨d0, d1, d2⟩ := hc2 k hlt2
        go_wp2
        go_quiet (fail)
        by_cases he : l[k] = b[k]
        · have hd : eqB l[k] b[k] = true := eqB_true.2 he
          have HE : Hid (l.take (k + 1) = b.take (k + 1)) := (show _ = _ by rw [take_snoc_get l k hlt, take_snoc_get b k hlt2, hn, he])
          clear he
          rw [hd]
          go_wp2
          go_roundw
          case rel => exact ⟨k + 1, by omega, by go_num, HE.out, bdr hbel _⟩
          case measure => simp [intOf]; omega
        · have hd : eqB l[k] b[k] = false := eqB_false.2 he
          have HE : Hid (sameB l b = false) := (show _ = _ by
            unfold sameB
            rw [decide_eq_false_iff_not]
            intro hh
            apply he
            subst hh
            rfl)
          clear he
          rw [hd]
          go_wp2
          go_ret
          exact ⟨by rw [HE.out]; rfl, bdr hbel _⟩
      · have hk' : k = l.length := by omega
        subst hk'
        rw [List.take_length, hq, List.take_length] at hn
        have e : sameB l b = true := by unfold sameB; exact decide_eq_true hn
        go_wp2
        go_ret
        exact ⟨by rw [e]; rfl, hbel⟩
  · have hne : ((l.length : Int) != (b.length : Int)) = true := by simp; omega
    have e : sameB l b = false := by
      unfold sameB
      rw [decide_eq_false_iff_not]
      intro hh
      exact hq (by rw [hh])
    rw [e]
    go_enter Tryd.func16, Tryd.ntmps16
    go_wp2
    go_ret
    exact ⟨rfl, Below.refl _ _⟩

theorem clash_sym (t u : T) : bits .and .u64 (bits .and .u64 (bits .xor .u64 t.2.1 u.2.1) t.2.2) u.2.2 = bits .and .u64 (bits .and .u64 (bits .xor .u64 u.2.1 t.2.1) u.2.2) t.2.2 := by
  rw [u_and, u_and, bv_nat, u_xor, bv_nat, u_and, u_and, bv_nat, u_xor, bv_nat, BitVec.xor_comm, BitVec.and_assoc, BitVec.and_comm (bv t.2.2), ← BitVec.and_assoc]
theorem feq_sym (a b : Int) : (a == b) = (b == a) := by apply bool_iff; rw [beq_iff_eq, beq_iff_eq]; exact eq_comm
theorem cover_at (t u : T) (x1 x2 x3 : Bool) (f1 : (t.1 == u.1) = x1) (f2 : (bits .and .u64 u.2.2 t.2.2 == t.2.2) = x2) (f3 : (bits .and .u64 u.2.1 t.2.2 == t.2.1) = x3) : coverT t u = (x1 && x2 && x3) := by
  unfold coverT; rw [feq_sym, f1, f2, f3]
theorem clash_at (t u : T) (x1 x2 : Bool) (f1 : (t.1 == u.1) = x1) (f2 : (bits .and .u64 (bits .and .u64 (bits .xor .u64 t.2.1 u.2.1) t.2.2) u.2.2 != 0) = x2) : clashT t u = (x1 && x2) := by
  unfold clashT; rw [feq_sym, f1, ← clash_sym, f2]

end Go.Proofs.YtjjfhibkcngphaaDoor.Mt

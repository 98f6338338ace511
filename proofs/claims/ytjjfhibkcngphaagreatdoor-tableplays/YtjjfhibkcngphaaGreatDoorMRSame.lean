/-
  The document's Same, Covers and Meets: what they answer, as contracts.
-/
import Derived.Test.YtjjfhibkcngphaaGreatDoorMPairs
namespace Go.Proofs.YtjjfhibkcngphaaGreatDoor.Mt
open Go.ChangeShapes Go.WideShapes Go.ChangeAt Go.RowKit

set_option maxHeartbeats 4000000 in
theorem rsame_any (a1 : Option Addr) (l : List T) (cap1 : Nat) (a2 : Option Addr) (b : List T) (cap2 : Nat) (w : World) (h : Ts w a1 l) (hl : l.length ≤ 100000) (h2 : Ts w a2 b) (hl2 : b.length ≤ 100000) :
    Calls Tryz.prog 30 #[.slice a1 l.length cap1, .slice a2 b.length cap2] w fun e w' => e = .returned (.bool (sameB l b)) ∧ Below w.heap.size w w' := by
  have hE := neT
  have hG := guT
  by_cases hq : l.length = b.length
  · have hne : ((l.length : Int) != (b.length : Int)) = false := by simp [hq]
    go_enter Tryz.func30, Tryz.ntmps30
    go_wp2
    go_loopw [5] (fun i wr => ∃ k : Nat, k ≤ l.length ∧ i = .int .i64 k ∧ l.take k = b.take k ∧ Below w.heap.size w wr) (fun i _ => l.length - (intOf i).toNat)
    case atStart => exact ⟨0, by omega, rfl, by simp, Below.refl _ _⟩
    case round =>
      obtain ⟨k, hk, rfl, hn, hbel⟩ := hrel
      by_cases hlt : k < l.length
      · have hlt2 : k < b.length := by omega
        have hT := h.below hbel
        have hT2 := h2.below hbel
        obtain ⟨g, o, rfl, hg, hc⟩ := hT.at hlt
        obtain ⟨g2, o2, rfl, hg2, hc2⟩ := hT2.at hlt2
        obtain ⟨c0, c1, c2⟩ := hc k hlt
        obtain ⟨d0, d1, d2⟩ := hc2 k hlt2
        go_wp2
        go_quiet (fail)
        by_cases he : l[k] = b[k]
        · have hd : eqB l[k] b[k] = true := eqB_true.2 he
          have HE : Hid (l.take (k + 1) = b.take (k + 1)) := (show _ = _ by rw [take_snoc_get l k hlt, take_snoc_get b k hlt2, hn, he])
          clear he
          rw [hd]
          go_wp2
          go_roundw
          case rel => exact ⟨k + 1, by omega, by go_num, HE.out, bdr hbel _⟩
          case measure => simp [intOf]; omega
        · have hd : eqB l[k] b[k] = false := eqB_false.2 he
          have HE : Hid (sameB l b = false) := (show _ = _ by
            unfold sameB
            rw [decide_eq_false_iff_not]
            intro hh
            apply he
            subst hh
            rfl)
          clear he
          rw [hd]
          go_wp2
          go_ret
          exact ⟨by rw [HE.out]; rfl, bdr hbel _⟩
      · have hk' : k = l.length := by omega
        subst hk'
        rw [List.take_length, hq, List.take_length] at hn
        have e : sameB l b = true := by unfold sameB; exact decide_eq_true hn
        go_wp2
        go_ret
        exact ⟨by rw [e]; rfl, hbel⟩
  · have hne : ((l.length : Int) != (b.length : Int)) = true := by simp; omega
    have e : sameB l b = false := by
      unfold sameB
      rw [decide_eq_false_iff_not]
      intro hh
      exact hq (by rw [hh])
    rw [e]
    go_enter Tryz.func30, Tryz.ntmps30
    go_wp2
    go_ret
    exact ⟨rfl, Below.refl _ _⟩

theorem clash_sym (t u : T) : bits .and .u64 (bits .and .u64 (bits .xor .u64 t.2.1 u.2.1) t.2.2) u.2.2 = bits .and .u64 (bits .and .u64 (bits .xor .u64 u.2.1 t.2.1) u.2.2) t.2.2 := by
  rw [u_and, u_and, bv_nat, u_xor, bv_nat, u_and, u_and, bv_nat, u_xor, bv_nat, BitVec.xor_comm, BitVec.and_assoc, BitVec.and_comm (bv t.2.2), ← BitVec.and_assoc]
theorem feq_sym (a b : Int) : (a == b) = (b == a) := by apply bool_iff; rw [beq_iff_eq, beq_iff_eq]; exact eq_comm
theorem cover_at (t u : T) (x1 x2 x3 : Bool) (f1 : (t.1 == u.1) = x1) (f2 : (bits .and .u64 u.2.2 t.2.2 == t.2.2) = x2) (f3 : (bits .and .u64 u.2.1 t.2.2 == t.2.1) = x3) : coverT t u = (x1 && x2 && x3) := by
  unfold coverT; rw [feq_sym, f1, f2, f3]
theorem clash_at (t u : T) (x1 x2 : Bool) (f1 : (t.1 == u.1) = x1) (f2 : (bits .and .u64 (bits .and .u64 (bits .xor .u64 t.2.1 u.2.1) t.2.2) u.2.2 != 0) = x2) : clashT t u = (x1 && x2) := by
  unfold clashT; rw [feq_sym, f1, ← clash_sym, f2]

set_option maxRecDepth 20000 in
set_option maxHeartbeats 16000000 in
theorem rcovers_any (a1 : Option Addr) (l : List T) (cap1 : Nat) (a2 : Option Addr) (b : List T) (cap2 : Nat) (w : World) (h : Ts w a1 l) (hl : l.length ≤ 100000) (h2 : Ts w a2 b) (hl2 : b.length ≤ 100000) :
    Calls Tryz.prog 41 #[.slice a1 l.length cap1, .slice a2 b.length cap2] w fun e w' => e = .returned (.bool (coversB l b)) ∧ Below w.heap.size w w' := by
  unfold coversB
  go_enter Tryz.func41, Tryz.ntmps41
  go_wp2
  go_loopw [5] (fun i wr => ∃ k : Nat, k ≤ l.length ∧ i = .int .i64 k ∧ (l.take k).all (fun t => b.any (coverT t)) = true ∧ Below w.heap.size w wr) (fun i _ => l.length - (intOf i).toNat)
  case atStart => exact ⟨0, by omega, rfl, by simp, Below.refl _ _⟩
  case round =>
    obtain ⟨k, hk, rfl, hn, hbel⟩ := hrel
    by_cases hlt : k < l.length
    · have hs := all_snoc l (fun t => b.any (coverT t)) k hlt
      rw [hn] at hs
      have HS : Hid _ := hs
      clear hs hn
      go_wp2
      go_loopw [6, 7] (fun v j wy => ∃ m : Nat, m ≤ b.length ∧ j = .int .i64 m ∧ v = .bool ((b.take m).any (coverT l[k])) ∧ Below w.heap.size w wy) (fun _ j _ => b.length - (intOf j).toNat)
      case atStart => exact ⟨0, by omega, rfl, by simp, hbel⟩
      case round =>
        obtain ⟨m, hm, rfl, rfl, hbel2⟩ := hrel
        by_cases hlt2 : m < b.length
        · have hs2 := any_snoc b (coverT l[k]) m hlt2
          have hT := h.below hbel2
          have hT2 := h2.below hbel2
          obtain ⟨g, o, rfl, hg, hc⟩ := hT.at hlt
          obtain ⟨g2, o2, rfl, hg2, hc2⟩ := hT2.at hlt2
          obtain ⟨c0, c1, c2⟩ := hc k hlt
          obtain ⟨d0, d1, d2⟩ := hc2 m hlt2
          cases hf : (b.take m).any (coverT l[k])
          · rw [hf, Bool.false_or] at hs2
            cases f1 : (l[k].1 == b[m].1)
            · have HE : Hid ((b.take (m + 1)).any (coverT l[k]) = false) := (show _ = _ by rw [hs2, cover_at _ _ _ _ _ f1 rfl rfl]; rfl)
              clear hs2
              go_wp2
              go_quiet (fail)
              go_wp2
              go_roundw
              case rel => exact ⟨m + 1, by omega, by go_num, by rw [HE.out], bdr hbel2 _⟩
              case measure => simp [intOf]; omega
            · cases f2 : (bits .and .u64 b[m].2.2 l[k].2.2 == l[k].2.2)
              · have HE : Hid ((b.take (m + 1)).any (coverT l[k]) = false) := (show _ = _ by rw [hs2, cover_at _ _ _ _ _ f1 f2 rfl]; rfl)
                clear hs2
                go_wp2
                go_quiet (fail)
                go_wp2
                go_roundw
                case rel => exact ⟨m + 1, by omega, by go_num, by rw [HE.out], bdr hbel2 _⟩
                case measure => simp [intOf]; omega
              · have HE : Hid ((b.take (m + 1)).any (coverT l[k]) = (bits .and .u64 b[m].2.1 l[k].2.2 == l[k].2.1)) := (show _ = _ by rw [hs2, cover_at _ _ _ _ _ f1 f2 rfl]; rfl)
                clear hs2
                go_wp2
                go_quiet (fail)
                go_wp2
                go_roundw
                case rel => exact ⟨m + 1, by omega, by go_num, by rw [HE.out], bdr hbel2 _⟩
                case measure => simp [intOf]; omega
          · have HE : Hid ((b.take (m + 1)).any (coverT l[k]) = true) := (show _ = _ by rw [hs2, hf]; rfl)
            clear hs2
            go_wp2
            go_quiet (fail)
            go_wp2
            go_roundw
            case rel => exact ⟨m + 1, by omega, by go_num, by rw [HE.out], bdr hbel2 _⟩
            case measure => simp [intOf]; omega
        · have hm' : m = b.length := by omega
          subst hm'
          rw [List.take_length]
          cases hv : b.any (coverT l[k])
          · have HE : Hid (l.all (fun t => b.any (coverT t)) = false) := (show _ = _ from all_of_take l _ (k + 1) (by rw [HS.out, hv]; rfl))
            go_wp2
            go_ret
            exact ⟨by rw [HE.out]; rfl, hbel2⟩
          · have HE : Hid ((l.take (k + 1)).all (fun t => b.any (coverT t)) = true) := (show _ = _ by rw [HS.out, hv]; rfl)
            go_wp2
            go_roundw
            case rel => exact ⟨k + 1, by omega, by go_num, HE.out, hbel2⟩
            case measure => simp [intOf]; omega
    · have hk' : k = l.length := by omega
      subst hk'
      rw [List.take_length] at hn
      go_wp2
      go_ret
      exact ⟨by rw [hn]; rfl, hbel⟩

set_option maxRecDepth 20000 in
set_option maxHeartbeats 16000000 in
theorem rmeets_any (a1 : Option Addr) (l : List T) (cap1 : Nat) (a2 : Option Addr) (b : List T) (cap2 : Nat) (w : World) (h : Ts w a1 l) (hl : l.length ≤ 100000) (h2 : Ts w a2 b) (hl2 : b.length ≤ 100000) :
    Calls Tryz.prog 21 #[.slice a1 l.length cap1, .slice a2 b.length cap2] w fun e w' => e = .returned (.bool (meetsB l b)) ∧ Below w.heap.size w w' := by
  unfold meetsB
  go_enter Tryz.func21, Tryz.ntmps21
  go_wp2
  go_loopw [5] (fun i wr => ∃ k : Nat, k ≤ l.length ∧ i = .int .i64 k ∧ (l.take k).all (fun t => b.all fun u => !clashT t u) = true ∧ Below w.heap.size w wr) (fun i _ => l.length - (intOf i).toNat)
  case atStart => exact ⟨0, by omega, rfl, by simp, Below.refl _ _⟩
  case round =>
    obtain ⟨k, hk, rfl, hn, hbel⟩ := hrel
    by_cases hlt : k < l.length
    · have hs := all_snoc l (fun t => b.all fun u => !clashT t u) k hlt
      rw [hn] at hs
      have HS : Hid _ := hs
      clear hs hn
      go_wp2
      go_loopw [6] (fun j wy => ∃ m : Nat, m ≤ b.length ∧ j = .int .i64 m ∧ (b.take m).all (fun u => !clashT l[k] u) = true ∧ Below w.heap.size w wy) (fun j _ => b.length - (intOf j).toNat)
      case atStart => exact ⟨0, by omega, rfl, by simp, hbel⟩
      case round =>
        obtain ⟨m, hm, rfl, hn2, hbel2⟩ := hrel
        by_cases hlt2 : m < b.length
        · have hs2 := all_snoc b (fun u => !clashT l[k] u) m hlt2
          rw [hn2] at hs2
          have hT := h.below hbel2
          have hT2 := h2.below hbel2
          obtain ⟨g, o, rfl, hg, hc⟩ := hT.at hlt
          obtain ⟨g2, o2, rfl, hg2, hc2⟩ := hT2.at hlt2
          obtain ⟨c0, c1, c2⟩ := hc k hlt
          obtain ⟨d0, d1, d2⟩ := hc2 m hlt2
          cases f1 : (l[k].1 == b[m].1)
          · have HE : Hid ((b.take (m + 1)).all (fun u => !clashT l[k] u) = true) := (show _ = _ by rw [hs2, clash_at _ _ _ _ f1 rfl]; rfl)
            clear hs2 hn2
            go_wp2
            go_quiet (fail)
            go_wp2
            go_roundw
            case rel => exact ⟨m + 1, by omega, by go_num, HE.out, bdr hbel2 _⟩
            case measure => simp [intOf]; omega
          · cases f2 : (bits .and .u64 (bits .and .u64 (bits .xor .u64 l[k].2.1 b[m].2.1) l[k].2.2) b[m].2.2 != 0)
            · have HE : Hid ((b.take (m + 1)).all (fun u => !clashT l[k] u) = true) := (show _ = _ by rw [hs2, clash_at _ _ _ _ f1 f2]; rfl)
              clear hs2 hn2
              go_wp2
              go_quiet (fail)
              try rw [f2]
              go_wp2
              go_roundw
              case rel => exact ⟨m + 1, by omega, by go_num, HE.out, bdr hbel2 _⟩
              case measure => simp [intOf]; omega
            · have HE : Hid ((b.take (m + 1)).all (fun u => !clashT l[k] u) = false) := (show _ = _ by rw [hs2, clash_at _ _ _ _ f1 f2]; rfl)
              have HE2 : Hid (l.all (fun t => b.all fun u => !clashT t u) = false) := (show _ = _ from all_of_take l _ (k + 1) (by rw [HS.out, all_of_take b _ (m + 1) HE.out]; rfl))
              clear hs2 hn2
              go_wp2
              go_quiet (fail)
              try rw [f2]
              go_wp2
              go_ret
              exact ⟨by rw [HE2.out]; rfl, bdr hbel2 _⟩
        · have hm' : m = b.length := by omega
          subst hm'
          rw [List.take_length] at hn2
          have HE : Hid ((l.take (k + 1)).all (fun t => b.all fun u => !clashT t u) = true) := (show _ = _ by rw [HS.out, hn2]; rfl)
          go_wp2
          go_roundw
          case rel => exact ⟨k + 1, by omega, by go_num, HE.out, hbel2⟩
          case measure => simp [intOf]; omega
    · have hk' : k = l.length := by omega
      subst hk'
      rw [List.take_length] at hn
      go_wp2
      go_ret
      exact ⟨by rw [hn]; rfl, hbel⟩
end Go.Proofs.YtjjfhibkcngphaaGreatDoor.Mt

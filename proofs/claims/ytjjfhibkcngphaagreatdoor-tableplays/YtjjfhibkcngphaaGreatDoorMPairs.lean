/-
  What Same, Covers and Meets answer, as contracts.
-/
import Derived.Test.YtjjfhibkcngphaaGreatDoorMHas
namespace Go.Proofs.YtjjfhibkcngphaaGreatDoor.Mt
open Go.ChangeShapes Go.WideShapes Go.ChangeAt Go.RowKit

/-- Whether what passes u passes t for that alone; whether t and u ask for a bit to be two. -/
def coverT (t u : T) : Bool := (u.1 == t.1) && (bits .and .u64 u.2.2 t.2.2 == t.2.2) && (bits .and .u64 u.2.1 t.2.2 == t.2.1)
def clashT (t u : T) : Bool := (u.1 == t.1) && (bits .and .u64 (bits .and .u64 (bits .xor .u64 u.2.1 t.2.1) u.2.2) t.2.2 != 0)
def sameB (a b : List T) : Bool := decide (a = b)
def coversB (a b : List T) : Bool := a.all fun t => b.any (coverT t)
def meetsB (a b : List T) : Bool := a.all fun t => b.all fun u => !clashT t u
theorem any_snoc (l : List T) (p : T → Bool) (k : Nat) (h : k < l.length) : (l.take (k + 1)).any p = ((l.take k).any p || p l[k]) := by
  rw [take_snoc_get l k h, List.any_append, List.any_cons, List.any_nil, Bool.or_false]
theorem all_snoc (l : List T) (p : T → Bool) (k : Nat) (h : k < l.length) : (l.take (k + 1)).all p = ((l.take k).all p && p l[k]) := by
  rw [take_snoc_get l k h, List.all_append, List.all_cons, List.all_nil, Bool.and_true]
theorem any_of_take (l : List T) (p : T → Bool) (k : Nat) (h : (l.take k).any p = true) : l.any p = true := by
  rw [List.any_eq_true] at h ⊢
  obtain ⟨x, hx, hp⟩ := h
  exact ⟨x, List.mem_of_mem_take hx, hp⟩
theorem all_of_take (l : List T) (p : T → Bool) (k : Nat) (h : (l.take k).all p = false) : l.all p = false := by
  rw [List.all_eq_false] at h ⊢
  obtain ⟨x, hx, hp⟩ := h
  exact ⟨x, List.mem_of_mem_take hx, hp⟩
theorem C3.allocd {w : World} {b o : Nat} {t : T} (h : C3 w b o t) (hb : b < w.heap.size) (x : Obj) : C3 (w.alloc x) b o t := h.below hb (show Below w.heap.size w (w.alloc x) by go_grown)

set_option maxHeartbeats 4000000 in
theorem equal_any (a1 : Option Addr) (l : List T) (cap1 : Nat) (a2 : Option Addr) (b : List T) (cap2 : Nat) (w : World) (h : Ts w a1 l) (hl : l.length ≤ 100000) (h2 : Ts w a2 b) (hl2 : b.length ≤ 100000) :
    Calls Tryz.prog 73 #[.slice a1 l.length cap1, .slice a2 b.length cap2] w fun e w' => e = .returned (.bool (sameB l b)) ∧ Below w.heap.size w w' := by
  have hE := neT
  have hG := guT
  by_cases hq : l.length = b.length
  · have hne : ((l.length : Int) != (b.length : Int)) = false := by simp [hq]
    go_enter Tryz.func73, Tryz.ntmps73
    go_wp2
    go_loopw [13] (fun i wr => ∃ k : Nat, k ≤ l.length ∧ i = .int .i64 k ∧ l.take k = b.take k ∧ Below w.heap.size w wr) (fun i _ => l.length - (intOf i).toNat)
    case atStart => exact ⟨0, by omega, rfl, by simp, Below.refl _ _⟩
    case round =>
      obtain ⟨k, hk, rfl, hn, hbel⟩ := hrel
      by_cases hlt : k < l.length
      · have hlt2 : k < b.length := by omega
        have hT := h.below hbel
        have hT2 := h2.below hbel
        obtain ⟨g, o, rfl, hg, hc⟩ := hT.at hlt
        obtain ⟨g2, o2, rfl, hg2, hc2⟩ := hT2.at hlt2
        obtain ⟨c0, c1, c2⟩ := hc k hlt
        obtain ⟨d0, d1, d2⟩ := hc2 k hlt2
        go_wp2
        go_quiet (fail)
        by_cases he : l[k] = b[k]
        · have hd : eqB l[k] b[k] = true := eqB_true.2 he
          have HE : Hid (l.take (k + 1) = b.take (k + 1)) := (show _ = _ by rw [take_snoc_get l k hlt, take_snoc_get b k hlt2, hn, he])
          clear he
          rw [hd]
          go_wp2
          go_roundw
          case rel => exact ⟨k + 1, by omega, by go_num, HE.out, bdr hbel _⟩
          case measure => simp [intOf]; omega
        · have hd : eqB l[k] b[k] = false := eqB_false.2 he
          have HE : Hid (sameB l b = false) := (show _ = _ by
            unfold sameB
            rw [decide_eq_false_iff_not]
            intro hh
            apply he
            subst hh
            rfl)
          clear he
          rw [hd]
          go_wp2
          go_ret
          exact ⟨by rw [HE.out]; rfl, bdr hbel _⟩
      · have hk' : k = l.length := by omega
        subst hk'
        rw [List.take_length, hq, List.take_length] at hn
        have e : sameB l b = true := by unfold sameB; exact decide_eq_true hn
        go_wp2
        go_ret
        exact ⟨by rw [e]; rfl, hbel⟩
  · have hne : ((l.length : Int) != (b.length : Int)) = true := by simp; omega
    have e : sameB l b = false := by
      unfold sameB
      rw [decide_eq_false_iff_not]
      intro hh
      exact hq (by rw [hh])
    rw [e]
    go_enter Tryz.func73, Tryz.ntmps73
    go_wp2
    go_ret
    exact ⟨rfl, Below.refl _ _⟩

set_option maxHeartbeats 1000000 in
theorem same_any (a1 : Option Addr) (l : List T) (cap1 : Nat) (a2 : Option Addr) (b : List T) (cap2 : Nat) (w : World) (h : Ts w a1 l) (hl : l.length ≤ 100000) (h2 : Ts w a2 b) (hl2 : b.length ≤ 100000) :
    Calls Tryz.prog 53 #[.slice a1 l.length cap1, .slice a2 b.length cap2] w fun e w' => e = .returned (.bool (sameB l b)) ∧ Below w.heap.size w w' := by
  have H : Hid (Calls Tryz.prog 73 #[.slice a1 l.length cap1, .slice a2 b.length cap2] w fun e w' => e = .returned (.bool (sameB l b)) ∧ Below w.heap.size w w') := equal_any a1 l cap1 a2 b cap2 w h hl h2 hl2
  generalize sameB l b = v at *
  go_enter Tryz.func53, Tryz.ntmps53
  go_wp2_with fail
  refine H.out.mono ?_
  rintro x w1 ⟨rfl, g1⟩
  go_wp2_with fail
  go_ret
  exact ⟨rfl, g1⟩

set_option maxHeartbeats 4000000 in
theorem follows_any (t : T) (a : Option Addr) (l : List T) (cap : Nat) (w : World) (h : Ts w a l) (hl : l.length ≤ 100000) :
    Calls Tryz.prog 78 #[tV t, .slice a l.length cap] w fun e w' => e = .returned (.bool (l.any (coverT t))) ∧ Below w.heap.size w w' := by
  go_enter Tryz.func78, Tryz.ntmps78
  go_wp2
  go_loopw [9] (fun i wr => ∃ k : Nat, k ≤ l.length ∧ i = .int .i64 k ∧ (l.take k).any (coverT t) = false ∧ C3 wr w.heap.size 0 t ∧ w.heap.size < wr.heap.size ∧ Below w.heap.size w wr) (fun i _ => l.length - (intOf i).toNat)
  case atStart => exact ⟨0, by omega, rfl, by simp, C3.new w t, by simp, by go_grown⟩
  case round =>
    obtain ⟨k, hk, rfl, hn, hb, hsz, hbel⟩ := hrel
    by_cases hlt : k < l.length
    · have hT := h.below hbel
      obtain ⟨g, o, rfl, hg, hc⟩ := hT.at hlt
      obtain ⟨c0, c1, c2⟩ := hc k hlt
      have hb' := hb.allocd hsz (.cells (tC l[k]) 73)
      obtain ⟨b0, b1, b2⟩ := hb'
      have hs := any_snoc l ((coverT t)) k hlt
      rw [hn] at hs
      have HB : Hid (C3 (tx wr l[k]) w.heap.size 0 t) := hb.allocd hsz _
      have hbel2 := hbel.alloc hbel.size (.cells (tC l[k]) 73)
      cases f1 : (l[k].1 == t.1)
      · have HE : Hid ((l.take (k + 1)).any (coverT t) = false) := (show _ = _ by rw [hs]; simp [coverT, f1])
        clear hs
        go_wp2
        go_roundw
        case rel => exact ⟨k + 1, by omega, by go_num, HE.out, HB.out, by simp; omega, hbel2⟩
        case measure => simp [intOf]; omega
      · skip
        cases f2 : (bits .and .u64 l[k].2.2 t.2.2 == t.2.2)
        · have HE : Hid ((l.take (k + 1)).any (coverT t) = false) := (show _ = _ by rw [hs]; simp [coverT, f1, f2])
          clear hs
          go_wp2
          go_roundw
          case rel => exact ⟨k + 1, by omega, by go_num, HE.out, HB.out, by simp; omega, hbel2⟩
          case measure => simp [intOf]; omega
        · skip
          cases f3 : (bits .and .u64 l[k].2.1 t.2.2 == t.2.1)
          · have HE : Hid ((l.take (k + 1)).any (coverT t) = false) := (show _ = _ by rw [hs]; simp [coverT, f1, f2, f3])
            clear hs
            go_wp2
            go_roundw
            case rel => exact ⟨k + 1, by omega, by go_num, HE.out, HB.out, by simp; omega, hbel2⟩
            case measure => simp [intOf]; omega
          · have HE : Hid (l.any (coverT t) = true) := (show _ = _ from any_of_take l _ (k + 1) (by rw [hs]; simp [coverT, f1, f2, f3]))
            clear hs
            go_wp2
            go_ret
            exact ⟨by rw [HE.out]; rfl, hbel2⟩
    · have hk' : k = l.length := by omega
      subst hk'
      rw [List.take_length] at hn
      go_wp2
      go_ret
      exact ⟨by rw [hn]; rfl, hbel⟩

set_option maxHeartbeats 4000000 in
theorem agrees_any (t : T) (a : Option Addr) (l : List T) (cap : Nat) (w : World) (h : Ts w a l) (hl : l.length ≤ 100000) :
    Calls Tryz.prog 74 #[tV t, .slice a l.length cap] w fun e w' => e = .returned (.bool (l.all (fun u => !clashT t u))) ∧ Below w.heap.size w w' := by
  go_enter Tryz.func74, Tryz.ntmps74
  go_wp2
  go_loopw [9] (fun i wr => ∃ k : Nat, k ≤ l.length ∧ i = .int .i64 k ∧ (l.take k).all (fun u => !clashT t u) = true ∧ C3 wr w.heap.size 0 t ∧ w.heap.size < wr.heap.size ∧ Below w.heap.size w wr) (fun i _ => l.length - (intOf i).toNat)
  case atStart => exact ⟨0, by omega, rfl, by simp, C3.new w t, by simp, by go_grown⟩
  case round =>
    obtain ⟨k, hk, rfl, hn, hb, hsz, hbel⟩ := hrel
    by_cases hlt : k < l.length
    · have hT := h.below hbel
      obtain ⟨g, o, rfl, hg, hc⟩ := hT.at hlt
      obtain ⟨c0, c1, c2⟩ := hc k hlt
      have hb' := hb.allocd hsz (.cells (tC l[k]) 73)
      obtain ⟨b0, b1, b2⟩ := hb'
      have hs := all_snoc l ((fun u => !clashT t u)) k hlt
      rw [hn] at hs
      have HB : Hid (C3 (tx wr l[k]) w.heap.size 0 t) := hb.allocd hsz _
      have hbel2 := hbel.alloc hbel.size (.cells (tC l[k]) 73)
      cases f1 : (l[k].1 == t.1)
      · have HE : Hid ((l.take (k + 1)).all (fun u => !clashT t u) = true) := (show _ = _ by rw [hs]; simp [clashT, f1])
        clear hs
        go_wp2
        go_roundw
        case rel => exact ⟨k + 1, by omega, by go_num, HE.out, HB.out, by simp; omega, hbel2⟩
        case measure => simp [intOf]; omega
      · skip
        cases f2 : (bits .and .u64 (bits .and .u64 (bits .xor .u64 l[k].2.1 t.2.1) l[k].2.2) t.2.2 != 0)
        · have HE : Hid ((l.take (k + 1)).all (fun u => !clashT t u) = true) := (show _ = _ by rw [hs]; simp [clashT, f1, f2])
          clear hs
          go_wp2
          go_roundw
          case rel => exact ⟨k + 1, by omega, by go_num, HE.out, HB.out, by simp; omega, hbel2⟩
          case measure => simp [intOf]; omega
        · have HE : Hid (l.all (fun u => !clashT t u) = false) := (show _ = _ from all_of_take l _ (k + 1) (by rw [hs]; simp [clashT, f1, f2]))
          clear hs
          go_wp2
          go_ret
          exact ⟨by rw [HE.out]; rfl, hbel2⟩
    · have hk' : k = l.length := by omega
      subst hk'
      rw [List.take_length] at hn
      go_wp2
      go_ret
      exact ⟨by rw [hn]; rfl, hbel⟩

set_option maxHeartbeats 4000000 in
theorem covers_any (a1 : Option Addr) (l : List T) (cap1 : Nat) (a2 : Option Addr) (b : List T) (cap2 : Nat) (w : World) (h : Ts w a1 l) (hl : l.length ≤ 100000) (h2 : Ts w a2 b) (hl2 : b.length ≤ 100000) :
    Calls Tryz.prog 63 #[.slice a1 l.length cap1, .slice a2 b.length cap2] w fun e w' => e = .returned (.bool (coversB l b)) ∧ Below w.heap.size w w' := by
  have HI : Hid (∀ t v w, (b.any (coverT t)) = v → Ts w a2 b → Calls Tryz.prog 78 #[tV t, .slice a2 b.length cap2] w fun e w' => e = .returned (.bool v) ∧ Below w.heap.size w w') := fun t v w hv h => hv ▸ follows_any t a2 b cap2 w h hl2
  unfold coversB
  go_enter Tryz.func63, Tryz.ntmps63
  go_wp2
  go_loopw [9] (fun i wr => ∃ k : Nat, k ≤ l.length ∧ i = .int .i64 k ∧ (l.take k).all (fun t => b.any (coverT t)) = true ∧ Below w.heap.size w wr) (fun i _ => l.length - (intOf i).toNat)
  case atStart => exact ⟨0, by omega, rfl, by simp, Below.refl _ _⟩
  case round =>
    obtain ⟨k, hk, rfl, hn, hbel⟩ := hrel
    by_cases hlt : k < l.length
    · have hT := h.below hbel
      obtain ⟨g, o, rfl, hg, hc⟩ := hT.at hlt
      obtain ⟨c0, c1, c2⟩ := hc k hlt
      have hs := all_snoc l (fun t => b.any (coverT t)) k hlt
      rw [hn] at hs
      have hT2 := (h2.below hbel).alloc (.cells (tC l[k]) 73)
      have hbel2 := hbel.alloc hbel.size (.cells (tC l[k]) 73)
      cases hv : (b.any (coverT l[k]))
      · have HE : Hid (l.all (fun t => b.any (coverT t)) = false) := (show _ = _ from all_of_take l _ (k + 1) (by rw [hs, hv]; rfl))
        clear hs
        go_wp2_with fail
        refine (HI.out _ _ _ hv hT2).mono ?_
        rintro x w1 ⟨rfl, g1⟩
        go_wp2_with fail
        go_ret
        exact ⟨by rw [HE.out]; rfl, btr hbel2 g1 (Nat.le_refl _)⟩
      · have HE : Hid ((l.take (k + 1)).all (fun t => b.any (coverT t)) = true) := (show _ = _ by rw [hs, hv]; rfl)
        clear hs
        go_wp2_with fail
        refine (HI.out _ _ _ hv hT2).mono ?_
        rintro x w1 ⟨rfl, g1⟩
        go_wp2_with fail
        go_roundw
        case rel => exact ⟨k + 1, by omega, by go_num, HE.out, btr hbel2 g1 (Nat.le_refl _)⟩
        case measure => simp [intOf]; omega
    · have hk' : k = l.length := by omega
      subst hk'
      rw [List.take_length] at hn
      go_wp2
      go_ret
      exact ⟨by rw [hn]; rfl, hbel⟩

set_option maxHeartbeats 4000000 in
theorem meets_any (a1 : Option Addr) (l : List T) (cap1 : Nat) (a2 : Option Addr) (b : List T) (cap2 : Nat) (w : World) (h : Ts w a1 l) (hl : l.length ≤ 100000) (h2 : Ts w a2 b) (hl2 : b.length ≤ 100000) :
    Calls Tryz.prog 56 #[.slice a1 l.length cap1, .slice a2 b.length cap2] w fun e w' => e = .returned (.bool (meetsB l b)) ∧ Below w.heap.size w w' := by
  have HI : Hid (∀ t v w, (b.all fun u => !clashT t u) = v → Ts w a2 b → Calls Tryz.prog 74 #[tV t, .slice a2 b.length cap2] w fun e w' => e = .returned (.bool v) ∧ Below w.heap.size w w') := fun t v w hv h => hv ▸ agrees_any t a2 b cap2 w h hl2
  unfold meetsB
  go_enter Tryz.func56, Tryz.ntmps56
  go_wp2
  go_loopw [9] (fun i wr => ∃ k : Nat, k ≤ l.length ∧ i = .int .i64 k ∧ (l.take k).all (fun t => b.all fun u => !clashT t u) = true ∧ Below w.heap.size w wr) (fun i _ => l.length - (intOf i).toNat)
  case atStart => exact ⟨0, by omega, rfl, by simp, Below.refl _ _⟩
  case round =>
    obtain ⟨k, hk, rfl, hn, hbel⟩ := hrel
    by_cases hlt : k < l.length
    · have hT := h.below hbel
      obtain ⟨g, o, rfl, hg, hc⟩ := hT.at hlt
      obtain ⟨c0, c1, c2⟩ := hc k hlt
      have hs := all_snoc l (fun t => b.all fun u => !clashT t u) k hlt
      rw [hn] at hs
      have hT2 := (h2.below hbel).alloc (.cells (tC l[k]) 73)
      have hbel2 := hbel.alloc hbel.size (.cells (tC l[k]) 73)
      cases hv : (b.all fun u => !clashT l[k] u)
      · have HE : Hid (l.all (fun t => b.all fun u => !clashT t u) = false) := (show _ = _ from all_of_take l _ (k + 1) (by rw [hs, hv]; rfl))
        clear hs
        go_wp2_with fail
        refine (HI.out _ _ _ hv hT2).mono ?_
        rintro x w1 ⟨rfl, g1⟩
        go_wp2_with fail
        go_ret
        exact ⟨by rw [HE.out]; rfl, btr hbel2 g1 (Nat.le_refl _)⟩
      · have HE : Hid ((l.take (k + 1)).all (fun t => b.all fun u => !clashT t u) = true) := (show _ = _ by rw [hs, hv]; rfl)
        clear hs
        go_wp2_with fail
        refine (HI.out _ _ _ hv hT2).mono ?_
        rintro x w1 ⟨rfl, g1⟩
        go_wp2_with fail
        go_roundw
        case rel => exact ⟨k + 1, by omega, by go_num, HE.out, btr hbel2 g1 (Nat.le_refl _)⟩
        case measure => simp [intOf]; omega
    · have hk' : k = l.length := by omega
      subst hk'
      rw [List.take_length] at hn
      go_wp2
      go_ret
      exact ⟨by rw [hn]; rfl, hbel⟩
end Go.Proofs.YtjjfhibkcngphaaGreatDoor.Mt

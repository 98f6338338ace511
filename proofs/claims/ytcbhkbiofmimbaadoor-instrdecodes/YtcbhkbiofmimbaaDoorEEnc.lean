/-
  What instr.Encode answers, as a contract.
-/
import Derived.Test.YtcbhkbiofmimbaaDoorEBody
namespace Go.Proofs.YtcbhkbiofmimbaaDoor
open Go.ChangeShapes Go.WideShapes Go.ChangeAt Go.RowKit

/-- The parts in their order. -/
def ordV : Nat → Int
  | 0 => 6
  | 1 => 4
  | 2 => 5
  | 3 => 3
  | 4 => 2
  | 5 => 1
  | _ => 0
def encTo (s : Sp) : Nat → ByteArray
  | 0 => ⟨#[]⟩
  | k + 1 => encTo s k ++ partX (ordV k) s
def encX (s : Sp) : ByteArray := encTo s 6
def encodeX (s : Sp) : ByteArray := if rightX s = 0 then encX s else ⟨#[]⟩
theorem part_size (p : Int) (s : Sp) : (partX p s).size ≤ 1008 := by
  have h1 := body_size p s
  unfold partX
  split
  · simp only [ByteArray.size_append, pb_size]; omega
  · exact Nat.zero_le _
theorem encTo_size (s : Sp) : ∀ k, (encTo s k).size ≤ 1008 * k
  | 0 => Nat.zero_le _
  | k + 1 => by
    have h1 := part_size (ordV k) s
    have h2 := encTo_size s k
    rw [encTo, ByteArray.size_append]
    omega
theorem encX_size (s : Sp) : (encX s).size ≤ 6048 := encTo_size s 6
/-- What is right fits. -/
structure EU (x : En) : Prop where
  t0 : 0 ≤ x.mt
  t1 : x.mt < 18446744073709551616
  k0 : 0 ≤ x.mm
  k1 : x.mm < 18446744073709551616
theorem right_ok {x : En} (u : EU x) (h : rightX x.sp = 0) : SOk x.sp := by
  have hk : metB x.met = false ∧ goB x.tab x.go = true ∧ tabB x.tab = true := by
    unfold rightX En.sp at h
    simp only at h
    split at h
    · cases h
    · next ht =>
      split at h
      · next h' => exact absurd h h'
      · split at h
        · next h' => exact absurd h h'
        · split at h
          · cases h
          · next hm =>
            split at h
            · cases h
            · split at h
              · cases h
              · next hg => exact ⟨by simpa using hm, by simpa using hg, by simpa using ht⟩
  obtain ⟨hm, hg, ht⟩ := hk
  unfold metB at hm
  unfold goB tabB at hg
  simp at hm hg
  exact ⟨show 0 ≤ x.met by omega, show x.met < _ by omega, show 0 ≤ x.go by omega, show x.go < _ by omega, u.t0, u.t1, u.k0, u.k1⟩
theorem idxO (j : Nat) (h : j < 6) (w : World) : (Instr.index 42 (.agg orderA) (.int .i64 (j : Int))).run Tryd.prog w = .ok (.int .i64 (ordV j)) w := by
  have hu : Tryd.prog.underlying 42 = some (.array 6 3) := Tryd.underlying42
  match j, h with
  | 0, _ => simp [Instr.index, run_underlying hu, asIntOf, go_sem, ordV]
  | 1, _ => simp [Instr.index, run_underlying hu, asIntOf, go_sem, ordV]
  | 2, _ => simp [Instr.index, run_underlying hu, asIntOf, go_sem, ordV]
  | 3, _ => simp [Instr.index, run_underlying hu, asIntOf, go_sem, ordV]
  | 4, _ => simp [Instr.index, run_underlying hu, asIntOf, go_sem, ordV]
  | 5, _ => simp [Instr.index, run_underlying hu, asIntOf, go_sem, ordV]
set_option maxRecDepth 20000 in
set_option maxHeartbeats 8000000 in
theorem encodeX_any (x : En) (w : World) (h : EW w x) (u : EU x) (hd : Cd w) : Calls Tryd.prog 12 #[enV x] w fun e w' => e = .returned (.tuple #[.string (encodeX x.sp), .int .i64 (rightX x.sp)]) ∧ Below w.heap.size w w' := by
  have HR : Hid (Calls Tryd.prog 9 #[enV x] (ex w x) fun e w' => e = .returned (.int .i64 (rightX x.sp)) ∧ Below (ex w x).heap.size (ex w x) w') := rightX_any x (ex w x) (h.alloc _) (hd.alloc _)
  by_cases hr : rightX x.sp = 0
  · have e : encodeX x.sp = encX x.sp := by unfold encodeX; rw [if_pos hr]
    rw [e, hr]
    rw [hr] at HR
    have HW : Hid (∀ p w1, Below (ex w x).heap.size (ex w x) w1 → Calls Tryd.prog 21 #[.int .i64 p, enV x] w1 fun e w' => e = .returned (.string (partX p x.sp)) ∧ Below w1.heap.size w1 w') := (show ∀ p w1, _ from fun p w1 g => writeX_any p x w1 ((h.alloc _).below g) (right_ok u hr) ((hd.alloc _).below g))
    have HC : Hid (∀ w1, Below (ex w x).heap.size (ex w x) w1 → Bn w1 w.heap.size x) := (show ∀ w1, _ from fun w1 g => (Bn.new w x).below (by simp) g)
    have HD : Hid (Cd (ex w x)) := hd.alloc _
    clear e hr h u hd
    have HX : Hid (∀ k, encTo x.sp (k + 1) = encTo x.sp k ++ partX (ordV k) x.sp) := (show ∀ k, _ from fun k => rfl)
    have HZ : Hid (∀ k, (encTo x.sp k).size ≤ 1008 * k) := (show ∀ k, _ from encTo_size x.sp)
    have HY : Hid (∀ p, (partX p x.sp).size ≤ 1008) := (show ∀ p, _ from fun p => part_size p x.sp)
    go_enter Tryd.func12, Tryd.ntmps12
    go_wp2_with fail
    refine HR.out.mono ?_
    rintro r w1 ⟨rfl, g1⟩
    obtain ⟨ct, cfr, ho⟩ := (HD.out.below g1).order
    go_wp2_with (refine wpList_load_row rfl 42 (.global 0) rfl 0 rfl ct orderA cfr _ ho Tryd.underlying42 rfl (by kernel_rfl) ?_)
    clear ho
    go_loopw [5, 14] (fun v i wr => ∃ (k : Nat) (s : ByteArray), k ≤ 6 ∧ i = .int .i64 k ∧ v = .string s ∧ Hid (s = encTo x.sp k) ∧ s.size ≤ 1008 * k ∧ Below (ex w x).heap.size (ex w x) wr) (fun _ i _ => 6 - (intOf i).toNat)
    case atStart => exact ⟨0, ⟨#[]⟩, Nat.zero_le _, rfl, rfl, (show _ = _ from rfl), Nat.zero_le _, g1⟩
    case round =>
      obtain ⟨k, s, hk, rfl, rfl, HS, hsz, hbel⟩ := hrel
      by_cases hlt : k < 6
      · have hx := idxO k hlt
        have HN : Hid (encTo x.sp (k + 1) = encTo x.sp k ++ partX (ordV k) x.sp) := HX.out k
        have hps := HY.out (ordV k)
        have HWk : Hid (Calls Tryd.prog 21 #[.int .i64 (ordV k), enV x] wr fun e w' => e = .returned (.string (partX (ordV k) x.sp)) ∧ Below wr.heap.size wr w') := HW.out (ordV k) wr hbel
        generalize ordV k = P at *
        generalize partX P x.sp = B at *
        obtain ⟨c0, c1, c2, c3, c4, c5, c6, c7, c8, c9⟩ := HC.out _ hbel
        go_wp2_with fail
        refine HWk.out.mono ?_
        rintro r w2 ⟨rfl, g2⟩
        have b2 := btr hbel g2 (Nat.le_refl _)
        clear c0 c1 c2 c3 c4 c5 c6 c7 c8 c9
        go_wp2_with fail
        go_roundw
        case rel => exact ⟨k + 1, s ++ B, by omega, by go_num, rfl, (show _ = _ by rw [HN.out, HS.out]), by rw [ByteArray.size_append]; omega, b2⟩
        case measure => simp [intOf]; omega
      · have hk' : k = 6 := by omega
        subst hk'
        have e := HS.out
        subst e
        go_wp2_with fail
        go_ret2
        exact ⟨rfl, btr (by go_grown) hbel (by simp)⟩
  · have e : encodeX x.sp = ⟨#[]⟩ := by unfold encodeX; rw [if_neg hr]
    rw [e]
    have hb : (rightX x.sp != 0) = true := by simpa using hr
    clear e hr h u hd
    generalize rightX x.sp = R at *
    go_enter Tryd.func12, Tryd.ntmps12
    go_wp2_with fail
    refine HR.out.mono ?_
    rintro r w1 ⟨rfl, g1⟩
    go_wp2_with fail
    go_ret2
    exact ⟨rfl, btr (by go_grown) g1 (by simp)⟩
end Go.Proofs.YtcbhkbiofmimbaaDoor

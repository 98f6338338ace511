/-
  What instr's body, write and Encode answer, as contracts.
-/
import Derived.Test.YtcbhkbiofmimbaaDoorECode
namespace Go.Proofs.YtcbhkbiofmimbaaDoor
open Go.ChangeShapes Go.WideShapes Go.ChangeAt Go.RowKit

set_option maxHeartbeats 4000000 in
theorem bodyX_6 (x : En) (w : World) (o : SOk x.sp) : Calls Tryd.prog 33 #[.int .i64 6, enV x] w fun e w' => e = .returned (.string (pb x.met 4)) ∧ Below w.heap.size w w' := by
  have HP : Hid (∀ w, Calls Tryd.prog 34 #[.int .u64 x.met, .int .i64 4] w fun e w' => e = .returned (.string (pb x.met 4)) ∧ Below w.heap.size w w') := (show ∀ w, _ from fun w => iput4 x.met w o.m0 o.m1)
  have h0 : 0 ≤ x.met := o.m0
  have h1 : x.met < 4294967296 := o.m1
  have hw : IntKind.u64.wrap x.met = x.met := wraps_u64 _ h0 (by omega)
  clear o
  go_enter Tryd.func33, Tryd.ntmps33
  go_wp2_with fail
  refine (HP.out _).mono ?_
  rintro r w1 ⟨rfl, g1⟩
  go_wp2_with fail
  go_ret
  exact ⟨rfl, btr (by go_grown) g1 (by simp)⟩
set_option maxHeartbeats 4000000 in
theorem bodyX_4 (x : En) (w : World) (h : EW w x) (hd : Cd w) : Calls Tryd.prog 33 #[.int .i64 4, enV x] w fun e w' => e = .returned (.string (gap4 ++ encodeS x.la)) ∧ Below w.heap.size w w' := by
  have HP : Hid (Calls Tryd.prog 47 #[.slice x.aa x.la.length x.ca] (ex w x) fun e w' => e = .returned (.string (encodeS x.la)) ∧ Below (ex w x).heap.size (ex w x) w') := actions_any _ _ _ _ (h.a.alloc _) h.na (hd.alloc _)
  have hz := enc_long x.la
  unfold gap4
  clear h hd
  generalize encodeS x.la = S at *
  go_enter Tryd.func33, Tryd.ntmps33
  go_wp2_with fail
  refine HP.out.mono ?_
  rintro r w1 ⟨rfl, g1⟩
  go_wp2_with fail
  go_ret
  exact ⟨rfl, btr (by go_grown) g1 (by simp)⟩
set_option maxHeartbeats 4000000 in
theorem bodyX_5 (x : En) (w : World) : Calls Tryd.prog 33 #[.int .i64 5, enV x] w fun e w' => e = .returned (.string gap4) ∧ Below w.heap.size w w' := by
  unfold gap4
  go_enter Tryd.func33, Tryd.ntmps33
  go_wp2_with fail
  go_ret
  exact ⟨rfl, by go_grown⟩
set_option maxHeartbeats 4000000 in
theorem bodyX_3 (x : En) (w : World) (h : EW w x) (hd : Cd w) : Calls Tryd.prog 33 #[.int .i64 3, enV x] w fun e w' => e = .returned (.string (gap4 ++ encodeS x.lw)) ∧ Below w.heap.size w w' := by
  have HP : Hid (Calls Tryd.prog 47 #[.slice x.aw x.lw.length x.cw] (ex w x) fun e w' => e = .returned (.string (encodeS x.lw)) ∧ Below (ex w x).heap.size (ex w x) w') := actions_any _ _ _ _ (h.w.alloc _) h.nw (hd.alloc _)
  have hz := enc_long x.lw
  unfold gap4
  clear h hd
  generalize encodeS x.lw = S at *
  go_enter Tryd.func33, Tryd.ntmps33
  go_wp2_with fail
  refine HP.out.mono ?_
  rintro r w1 ⟨rfl, g1⟩
  go_wp2_with fail
  go_ret
  exact ⟨rfl, btr (by go_grown) g1 (by simp)⟩
set_option maxHeartbeats 4000000 in
theorem bodyX_2 (x : En) (w : World) (o : SOk x.sp) : Calls Tryd.prog 33 #[.int .i64 2, enV x] w fun e w' => e = .returned (.string (gap4 ++ pb x.mt 8 ++ pb x.mm 8)) ∧ Below w.heap.size w w' := by
  have H1 : Hid (∀ w, Calls Tryd.prog 34 #[.int .u64 x.mt, .int .i64 8] w fun e w' => e = .returned (.string (pb x.mt 8)) ∧ Below w.heap.size w w') := (show ∀ w, _ from fun w => iput8 x.mt w o.t0 o.t1)
  have H2 : Hid (∀ w, Calls Tryd.prog 34 #[.int .u64 x.mm, .int .i64 8] w fun e w' => e = .returned (.string (pb x.mm 8)) ∧ Below w.heap.size w w') := (show ∀ w, _ from fun w => iput8 x.mm w o.k0 o.k1)
  have q := Bn.gr (Bn.new w x) (by simp)
  have q6 := fun n => (q n).2.2.2.2.2.2.1
  have q7 := fun n => (q n).2.2.2.2.2.2.2.1
  have hps := pb_size
  clear o q
  unfold gap4
  go_enter Tryd.func33, Tryd.ntmps33
  go_wp2_with fail
  refine wp_region_grow (by kernel_rfl) (by kernel_rfl) ?_
  repeat (go_big_quiet_step ((first | (go_at_call_of 34 (Value.int IntKind.u64 x.mt); exact quiet_gr (H1.out _)) | (go_at_call_of 34 (Value.int IntKind.u64 x.mm); exact quiet_gr (H2.out _)))))
  refine wpQuiet_nil ?_
  rintro w3 hw'
  have g3 := gr_elim hw'
  clear q6 q7 hw'
  go_wp2_with fail
  go_ret
  exact ⟨rfl, btr (by go_grown) g3 (by simp)⟩
set_option maxHeartbeats 4000000 in
theorem bodyX_1 (x : En) (w : World) (o : SOk x.sp) : Calls Tryd.prog 33 #[.int .i64 1, enV x] w fun e w' => e = .returned (.string (pb x.go 1 ++ gap3)) ∧ Below w.heap.size w w' := by
  have H1 : Hid (∀ w, Calls Tryd.prog 34 #[.int .u64 x.go, .int .i64 1] w fun e w' => e = .returned (.string (pb x.go 1)) ∧ Below w.heap.size w w') := (show ∀ w, _ from fun w => iput1 x.go w o.g0 o.g1)
  have q := Bn.gr (Bn.new w x) (by simp)
  have q9 := fun n => (q n).2.2.2.2.2.2.2.2.2
  have hps := pb_size
  have h0 : 0 ≤ x.go := o.g0
  have h1 : x.go < 256 := o.g1
  have hw : IntKind.u64.wrap x.go = x.go := wraps_u64 _ h0 (by omega)
  have hsl : ∀ w, (Instr.slice 9 (.string ⟨#[0, 0, 0, 0]⟩) (some (.int .i64 1)) none none).run Tryd.prog w = .ok (.string ⟨#[0, 0, 0]⟩) w := fun w => by
    simp [go_sem]
    decide +kernel
  clear o q
  unfold gap3
  go_enter Tryd.func33, Tryd.ntmps33
  go_wp2_with fail
  refine wp_region_grow (by kernel_rfl) (by kernel_rfl) ?_
  repeat (go_big_quiet_step ((first | (go_at_call 34; exact quiet_gr (H1.out _)))))
  refine wpQuiet_nil ?_
  rintro w3 hw'
  have g3 := gr_elim hw'
  clear q9 hw'
  go_wp2_with fail
  go_ret
  exact ⟨rfl, btr (by go_grown) g3 (by simp)⟩
theorem bodyX_any (p : Int) (x : En) (w : World) (h : EW w x) (o : SOk x.sp) (hd : Cd w) (hp : hasX p x.sp = true) : Calls Tryd.prog 33 #[.int .i64 p, enV x] w fun e w' => e = .returned (.string (bodyX p x.sp)) ∧ Below w.heap.size w w' := by
  rcases part_cases p with rfl | rfl | rfl | rfl | rfl | rfl | ⟨b1, b2, b3, b4, b5, b6, hn⟩
  · exact bodyX_6 x w o
  · exact bodyX_4 x w h hd
  · exact bodyX_5 x w
  · exact bodyX_3 x w h hd
  · exact bodyX_2 x w o
  · exact bodyX_1 x w o
  · rw [hn] at hp; cases hp
theorem has_range {p : Int} {s : Sp} (hp : hasX p s = true) : 1 ≤ p ∧ p ≤ 6 := by
  rcases part_cases p with rfl | rfl | rfl | rfl | rfl | rfl | ⟨b1, b2, b3, b4, b5, b6, hn⟩
  case inr.inr.inr.inr.inr.inr => rw [hn] at hp; cases hp
  all_goals omega
set_option maxHeartbeats 4000000 in
theorem writeX_any (p : Int) (x : En) (w : World) (h : EW w x) (o : SOk x.sp) (hd : Cd w) : Calls Tryd.prog 21 #[.int .i64 p, enV x] w fun e w' => e = .returned (.string (partX p x.sp)) ∧ Below w.heap.size w w' := by
  have HH : Hid (∀ w, Calls Tryd.prog 32 #[.int .i64 p, enV x] w fun e w' => e = .returned (.bool (hasX p x.sp)) ∧ Below w.heap.size w w') := (show ∀ w, _ from fun w => hasX_any p x w)
  cases hb : hasX p x.sp with
  | false =>
    have e : partX p x.sp = ⟨#[]⟩ := by unfold partX; rw [if_neg (by rw [hb]; decide)]
    rw [e]
    rw [hb] at HH
    clear h o hd hb e
    go_enter Tryd.func21, Tryd.ntmps21
    go_wp2_with fail
    refine (HH.out _).mono ?_
    rintro r w1 ⟨rfl, g1⟩
    go_wp2_with fail
    go_ret
    exact ⟨rfl, btr (by go_grown) g1 (by simp)⟩
  | true =>
    have e : partX p x.sp = pb p 2 ++ pb (4 + ((bodyX p x.sp).size : Int)) 2 ++ bodyX p x.sp := by unfold partX; rw [if_pos hb]
    rw [e]
    obtain ⟨p0, p1⟩ := has_range hb
    have HB : Hid (∀ w1, Below (ex w x).heap.size (ex w x) w1 → Calls Tryd.prog 33 #[.int .i64 p, enV x] w1 fun e w' => e = .returned (.string (bodyX p x.sp)) ∧ Below w1.heap.size w1 w') := (show ∀ w1, _ from fun w1 g => bodyX_any p x w1 ((h.alloc _).below g) o ((hd.alloc _).below g) hb)
    have HC : Hid (∀ w1, Below (ex w x).heap.size (ex w x) w1 → Bn w1 w.heap.size x) := (show ∀ w1, _ from fun w1 g => (Bn.new w x).below (by simp) g)
    have hz := body_size p x.sp
    rw [hb] at HH
    clear h o hd hb e
    generalize bodyX p x.sp = B at *
    have H1 : Hid (∀ w, Calls Tryd.prog 34 #[.int .u64 p, .int .i64 2] w fun e w' => e = .returned (.string (pb p 2)) ∧ Below w.heap.size w w') := (show ∀ w, _ from fun w => iput2 p w (by omega) (by omega))
    have H2 : Hid (∀ w, Calls Tryd.prog 34 #[.int .u64 (4 + (B.size : Int)), .int .i64 2] w fun e w' => e = .returned (.string (pb (4 + (B.size : Int)) 2)) ∧ Below w.heap.size w w') := (show ∀ w, _ from fun w => iput2 _ w (by omega) (by omega))
    have hps := pb_size
    have hw : IntKind.u64.wrap p = p := wraps_u64 _ (by omega) (by omega)
    have hw2 : IntKind.u64.wrap (4 + (B.size : Int)) = 4 + (B.size : Int) := wraps_u64 _ (by omega) (by omega)
    go_enter Tryd.func21, Tryd.ntmps21
    go_wp2_with fail
    refine (HH.out _).mono ?_
    rintro r w1 ⟨rfl, g1⟩
    obtain ⟨c0, c1, c2, c3, c4, c5, c6, c7, c8, c9⟩ := HC.out _ g1
    go_wp2_with fail
    refine (HB.out _ g1).mono ?_
    rintro r w2 ⟨rfl, g2⟩
    have b2 := btr g1 g2 (by simp)
    clear g1 g2 c0 c1 c2 c3 c4 c5 c6 c7 c8 c9
    go_wp2_with fail
    refine (H1.out _).mono ?_
    rintro r w3 ⟨rfl, g3⟩
    have b3 := btr b2 g3 (by simp)
    clear g3 b2
    go_wp2_with fail
    refine (H2.out _).mono ?_
    rintro r w4 ⟨rfl, g4⟩
    have b4 := btr b3 g4 (by simp)
    clear g4 b3
    go_wp2_with fail
    go_ret
    exact ⟨rfl, btr (by go_grown) b4 (by simp)⟩
end Go.Proofs.YtcbhkbiofmimbaaDoor

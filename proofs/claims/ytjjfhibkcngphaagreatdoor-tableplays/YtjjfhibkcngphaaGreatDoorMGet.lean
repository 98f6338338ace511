/-
  A packet in a switch; what field.Get answers, as a contract.
-/
import Derived.Test.YtjjfhibkcngphaaGreatDoorMRight
namespace Go.Proofs.YtjjfhibkcngphaaGreatDoor.Mt
open Go.ChangeShapes Go.WideShapes Go.ChangeAt Go.RowKit

/-- A packet in a switch. -/
structure Sn where
  inp : Int
  mt : Int
  to : Int
  fr : Int
  vl : Int
  ty : Int
  src : Int
  dst : Int
  life : Int
  pro : Int
  sp : Int
  dp : Int
  data : ByteArray

/-- Its value, its packet's value, its cells, and that they lie in block b. -/
abbrev snV (s : Sn) : Value := .agg #[.int .i64 s.inp, .int .u64 s.mt, .int .u64 s.to, .int .u64 s.fr, .int .i64 s.vl, .int .i64 s.ty, .int .u32 s.src, .int .u32 s.dst, .int .i64 s.life, .int .i64 s.pro, .int .i64 s.sp, .int .i64 s.dp, .string s.data]
abbrev pkV (s : Sn) : Value := .agg #[.int .u64 s.to, .int .u64 s.fr, .int .i64 s.vl, .int .i64 s.ty, .int .u32 s.src, .int .u32 s.dst, .int .i64 s.life, .int .i64 s.pro, .int .i64 s.sp, .int .i64 s.dp, .string s.data]
abbrev snC (s : Sn) : Array Value := #[.int .i64 s.inp, .int .u64 s.mt, .int .u64 s.to, .int .u64 s.fr, .int .i64 s.vl, .int .i64 s.ty, .int .u32 s.src, .int .u32 s.dst, .int .i64 s.life, .int .i64 s.pro, .int .i64 s.sp, .int .i64 s.dp, .string s.data]
abbrev bx (w : World) (s : Sn) : World := w.alloc (.cells (snC s) 28)
abbrev rx (w : World) (s : Sn) : World := w.alloc (.cells (snC s) 52)
abbrev Bx (w : World) (b : Nat) (s : Sn) : Prop :=
  w.cell? ⟨b, 0, none⟩ = some (.int .i64 s.inp) ∧ w.cell? ⟨b, 1, none⟩ = some (.int .u64 s.mt) ∧ w.cell? ⟨b, 2, none⟩ = some (.int .u64 s.to) ∧ w.cell? ⟨b, 3, none⟩ = some (.int .u64 s.fr) ∧ w.cell? ⟨b, 4, none⟩ = some (.int .i64 s.vl) ∧ w.cell? ⟨b, 5, none⟩ = some (.int .i64 s.ty) ∧ w.cell? ⟨b, 6, none⟩ = some (.int .u32 s.src) ∧ w.cell? ⟨b, 7, none⟩ = some (.int .u32 s.dst) ∧ w.cell? ⟨b, 8, none⟩ = some (.int .i64 s.life) ∧ w.cell? ⟨b, 9, none⟩ = some (.int .i64 s.pro) ∧ w.cell? ⟨b, 10, none⟩ = some (.int .i64 s.sp) ∧ w.cell? ⟨b, 11, none⟩ = some (.int .i64 s.dp) ∧ w.cell? ⟨b, 12, none⟩ = some (.string s.data)
theorem Bx.new (w : World) (s : Sn) : Bx (bx w s) w.heap.size s := by unfold Bx bx; simp
theorem Bx.newr (w : World) (s : Sn) : Bx (rx w s) w.heap.size s := by unfold Bx rx; simp
theorem Bx.block {w w' : World} {b : Nat} {s : Sn} (h : Bx w b s) (g : w'.heap[b]? = w.heap[b]?) : Bx w' b s := by
  obtain ⟨h0, h1, h2, h3, h4, h5, h6, h7, h8, h9, h10, h11, h12⟩ := h
  have e : ∀ o, w'.cell? ⟨b, o, none⟩ = w.cell? ⟨b, o, none⟩ := fun o => World.cell?_of_block (w := w) g
  exact ⟨(e _).trans h0, (e _).trans h1, (e _).trans h2, (e _).trans h3, (e _).trans h4, (e _).trans h5, (e _).trans h6, (e _).trans h7, (e _).trans h8, (e _).trans h9, (e _).trans h10, (e _).trans h11, (e _).trans h12⟩
theorem Bx.below {w w' : World} {b B : Nat} {s : Sn} (h : Bx w b s) (hb : b < B) (g : Below B w w') : Bx w' b s := h.block (g.block b hb)

theorem load32 (w : World) (b : Nat) (s : Sn) (h : Bx w b s) : (loadVar 52 ⟨b, 0, none⟩).run Tryz.prog w = .ok (snV s) w := by
  obtain ⟨h0, h1, h2, h3, h4, h5, h6, h7, h8, h9, h10, h11, h12⟩ := h
  simp [go_sem, *]
theorem res32 {fn : Func} {t : Tmp} (h : fn.results = #[.cell t 52]) {tmps : Array Value} {w : World} {b : Nat} {s : Sn} (ht : tmps.getD t undef = .pointer (some ⟨b, 0, none⟩)) (hs : Bx w b s) :
    (results fn tmps).run Tryz.prog w = .ok (snV s) w := by
  have ht' : tmps[t]?.getD undef = .pointer (some ⟨b, 0, none⟩) := by simpa using ht
  simp [results, h, ht', asAddr, load32 w b s hs]
/-- Whether there is such a field. -/
def hasB (s : Sn) (f : Int) : Bool := if 1 ≤ f ∧ f ≤ 4 then true else if 5 ≤ f ∧ f ≤ 7 then s.ty == 2048 else if f = 8 ∨ f = 9 then s.ty == 2048 && (s.pro == 6 || s.pro == 17) else false
/-- What stands there. -/
def stV (s : Sn) (f : Int) : Int := if f = 1 then s.inp % 18446744073709551616 else if f = 2 then s.mt else if f = 3 then s.vl % 18446744073709551616 else if f = 4 then s.ty % 18446744073709551616 else if f = 5 then s.src else if f = 6 then s.dst else
  if f = 7 then s.pro % 18446744073709551616 else if f = 8 then s.sp % 18446744073709551616 else if f = 9 then s.dp % 18446744073709551616 else 0
def getV (s : Sn) (f : Int) : Int := if hasB s f = true then stV s f % (grV f + 1) else 0
def getE (s : Sn) (f : Int) : Int := if hasB s f = true then 0 else 20
/-- The numbers are of their types. -/
structure Wf (s : Sn) : Prop where
  m0 : 0 ≤ s.mt
  m1 : s.mt < 18446744073709551616
  a0 : 0 ≤ s.src
  a1 : s.src < 4294967296
  b0 : 0 ≤ s.dst
  b1 : s.dst < 4294967296

theorem hasB_none {f : Int} (s : Sn) (h : f < 1 ∨ 9 < f) : hasB s f = false := by unfold hasB; repeat (rw [if_neg (by omega)])
theorem stV_none {f : Int} (s : Sn) (h : f < 1 ∨ 9 < f) : stV s f = 0 := by unfold stV; repeat (rw [if_neg (by omega)])
set_option maxHeartbeats 2000000 in
theorem has_any (s : Sn) (f : Int) (w : World) : Calls Tryz.prog 64 #[pkV s, .int .i64 f] w fun e w' => e = .returned (.bool (hasB s f)) ∧ Below w.heap.size w w' := by
  by_cases h : f < 1 ∨ 9 < f
  · obtain ⟨b1, b2, b3, b4, b5, b6, b7, b8, b9⟩ := none_of h
    rw [hasB_none s h]
    clear h
    go_enter Tryz.func64, Tryz.ntmps64
    go_wp2
    go_ret
    exact ⟨rfl, by go_grown⟩
  · rcases cls9 h with rfl | rfl | rfl | rfl | rfl | rfl | rfl | rfl | rfl
    all_goals
      clear h
      go_enter Tryz.func64, Tryz.ntmps64
      go_wp2
      all_goals
        go_ret
        exact ⟨ret_bool (by simp [hasB, *]), by go_grown⟩

set_option maxHeartbeats 2000000 in
theorem stands_any (s : Sn) (f : Int) (w : World) (hw : Wf s) : Calls Tryz.prog 65 #[snV s, .int .i64 f] w fun e w' => e = .returned (.int .u64 (stV s f)) ∧ Below w.heap.size w w' := by
  obtain ⟨m0, m1, a0, a1, c0, c1⟩ := hw
  by_cases h : f < 1 ∨ 9 < f
  · obtain ⟨b1, b2, b3, b4, b5, b6, b7, b8, b9⟩ := none_of h
    rw [stV_none s h]
    clear h
    go_enter Tryz.func65, Tryz.ntmps65
    go_wp2
    go_ret
    exact ⟨rfl, by go_grown⟩
  · rcases cls9 h with rfl | rfl | rfl | rfl | rfl | rfl | rfl | rfl | rfl
    all_goals
      clear h
      go_enter Tryz.func65, Tryz.ntmps65
      go_wp2
      all_goals
        go_ret
        exact ⟨ret_int (by simp [stV, wrap_u, *]), by go_grown⟩
set_option maxHeartbeats 2000000 in
theorem fgreatest_any (f : Int) (w : World) : Calls Tryz.prog 66 #[.int .i64 f] w fun e w' => e = .returned (.int .u64 (grV f)) ∧ w' = w := by
  by_cases h : f < 1 ∨ 9 < f
  · have hw := width_any f
    rw [wdV_none h] at hw
    rw [grV_none h]
    clear h
    go_enter Tryz.func66, Tryz.ntmps66
    go_wp2_with fail
    refine (hw _).mono ?_
    rintro x w1 ⟨rfl, rfl⟩
    go_wp2_with fail
    go_ret
    exact ⟨rfl, rfl⟩
  · rcases cls9 h with rfl | rfl | rfl | rfl | rfl | rfl | rfl | rfl | rfl
    all_goals
      clear h
      go_enter Tryz.func66, Tryz.ntmps66
      go_wp2_with fail
      refine (width_any _ _).mono ?_
      rintro x w1 ⟨rfl, rfl⟩
      simp only [show wdV 1 = 32 from rfl, show wdV 2 = 64 from rfl, show wdV 3 = 13 from rfl, show wdV 4 = 16 from rfl, show wdV 5 = 32 from rfl, show wdV 6 = 32 from rfl, show wdV 7 = 8 from rfl, show wdV 8 = 16 from rfl, show wdV 9 = 16 from rfl]
      go_wp2_with fail
      go_ret
      exact ⟨rfl, rfl⟩

theorem stV_lt (s : Sn) (f : Int) (hw : Wf s) : 0 ≤ stV s f ∧ stV s f < 18446744073709551616 := by
  obtain ⟨m0, m1, a0, a1, c0, c1⟩ := hw
  unfold stV
  repeat' split
  all_goals omega
theorem has_field {s : Sn} {f : Int} (h : hasB s f = true) : ¬ (f < 1 ∨ 9 < f) := fun x => by rw [hasB_none s x] at h; cases h

set_option maxHeartbeats 1000000 in
theorem get_any (s : Sn) (f : Int) (w : World) (hw : Wf s) : Calls Tryz.prog 48 #[snV s, .int .i64 f] w fun e w' => e = .returned (.tuple #[.int .u64 (getV s f), .int .i64 (getE s f)]) ∧ Below w.heap.size w w' := by
  have HH : Hid (∀ w, Calls Tryz.prog 64 #[pkV s, .int .i64 f] w fun e w' => e = .returned (.bool (hasB s f)) ∧ Below w.heap.size w w') := fun w => has_any s f w
  have HS : Hid (∀ w, Calls Tryz.prog 65 #[snV s, .int .i64 f] w fun e w' => e = .returned (.int .u64 (stV s f)) ∧ Below w.heap.size w w') := fun w => stands_any s f w hw
  have HG : Hid (∀ w, Calls Tryz.prog 66 #[.int .i64 f] w fun e w' => e = .returned (.int .u64 (grV f)) ∧ w' = w) := fun w => fgreatest_any f w
  obtain ⟨t0, t1⟩ := stV_lt s f hw
  unfold getV getE
  cases hb : hasB s f with
  | false =>
    rw [hb] at HH
    rw [if_neg (by simp), if_neg (by simp)]
    clear HS HG t0 t1 hb hw
    go_enter Tryz.func48, Tryz.ntmps48
    go_wp2_with fail
    refine (HH.out _).mono ?_
    rintro x w1 ⟨rfl, g1⟩
    go_wp2_with fail
    go_ret2
    exact ⟨rfl, btr (by go_grown) g1 (by simp)⟩
  | true =>
    rw [hb] at HH
    have ha := and_gr f _ (has_field hb) t0 t1
    rw [if_pos rfl, if_pos rfl, ← ha]
    clear hb hw ha
    generalize stV s f = x at *
    generalize grV f = y at *
    go_enter Tryz.func48, Tryz.ntmps48
    go_wp2_with fail
    refine (HH.out _).mono ?_
    rintro x w1 ⟨rfl, g1⟩
    have hc := (Bx.new w s).below (by simp) g1
    obtain ⟨h0, h1, h2, h3, h4, h5, h6, h7, h8, h9, h10, h11, h12⟩ := hc
    go_wp2_with fail
    refine (HS.out _).mono ?_
    rintro x w2 ⟨rfl, g2⟩
    go_wp2_with fail
    refine (HG.out _).mono ?_
    rintro x w3 ⟨rfl, rfl⟩
    go_wp2_with fail
    go_ret2
    exact ⟨rfl, btr (btr (by go_grown) g1 (by simp)) g2 (Nat.le_refl _)⟩
end Go.Proofs.YtjjfhibkcngphaaGreatDoor.Mt

/-
  Joined: CFPut, CFBlocks, CFPuts, CFTags.
-/
import Derived.Test.YtgnihbdcdefdgaaGreatDoorZ02
/-
  What with, mayPut, Put, Push and Pop answer, as contracts.
-/
namespace Go.Proofs.YtgnihbdcdefdgaaGreatDoor.Fd
open Mt
open Go.ChangeShapes Go.WideShapes Go.ChangeAt Go.RowKit

/-- A packet in a switch with v in a field. -/
def withV (s : Sn) (f v : Int) : Sn := if f = 2 then { s with mt := v } else if f = 3 then { s with vl := v } else if f = 5 then { s with src := v } else if f = 6 then { s with dst := v } else if f = 8 then { s with sp := v } else if f = 9 then { s with dp := v } else s
def sn0 : Sn := ⟨0, 0, 0, 0, 0, 0, 0, 0, 0, 0, 0, 0, ⟨#[]⟩⟩
def mayB (f : Int) : Bool := f != 1 && f != 4 && f != 7

theorem wr_i (v : Int) (h0 : 0 ≤ v) (h1 : v ≤ 65535) : IntKind.i64.wrap v = v := by rw [IntKind.wrap_i64]; omega
theorem wr_u (v : Int) (h0 : 0 ≤ v) (h1 : v ≤ 4294967295) : IntKind.u32.wrap v = v := by simp [IntKind.wrap, IntKind.bits, IntKind.signed]; omega

set_option maxHeartbeats 2000000 in
theorem with_2 (s : Sn) (v : Int) (w : World) : Calls Tryz.prog 210 #[snV s, .int .i64 2, .int .u64 v] w fun e w' => e = .returned (snV { s with mt := v }) ∧ Below w.heap.size w w' := by
  go_enter Tryz.func210, Tryz.ntmps210
  go_wp2
  refine bodyPost_ret (res27 (b := w.heap.size + 1) (s := { s with mt := v }) rfl rfl (by unfold Bx; simp)) rfl ?_
  exact ⟨rfl, by go_grown⟩
set_option maxHeartbeats 2000000 in
theorem with_3 (s : Sn) (v : Int) (w : World) (h0 : 0 ≤ v) (h1 : v ≤ 8191) : Calls Tryz.prog 210 #[snV s, .int .i64 3, .int .u64 v] w fun e w' => e = .returned (snV { s with vl := v }) ∧ Below w.heap.size w w' := by
  have e := wr_i v h0 (by omega)
  clear h0 h1
  go_enter Tryz.func210, Tryz.ntmps210
  go_wp2
  refine bodyPost_ret (res27 (b := w.heap.size + 1) (s := { s with vl := v }) rfl rfl (by unfold Bx; simp)) rfl ?_
  exact ⟨rfl, by go_grown⟩
set_option maxHeartbeats 2000000 in
theorem with_5 (s : Sn) (v : Int) (w : World) (h0 : 0 ≤ v) (h1 : v ≤ 4294967295) : Calls Tryz.prog 210 #[snV s, .int .i64 5, .int .u64 v] w fun e w' => e = .returned (snV { s with src := v }) ∧ Below w.heap.size w w' := by
  have e := wr_u v h0 h1
  clear h0 h1
  go_enter Tryz.func210, Tryz.ntmps210
  go_wp2
  refine bodyPost_ret (res27 (b := w.heap.size + 1) (s := { s with src := v }) rfl rfl (by unfold Bx; simp)) rfl ?_
  exact ⟨rfl, by go_grown⟩
set_option maxHeartbeats 2000000 in
theorem with_6 (s : Sn) (v : Int) (w : World) (h0 : 0 ≤ v) (h1 : v ≤ 4294967295) : Calls Tryz.prog 210 #[snV s, .int .i64 6, .int .u64 v] w fun e w' => e = .returned (snV { s with dst := v }) ∧ Below w.heap.size w w' := by
  have e := wr_u v h0 h1
  clear h0 h1
  go_enter Tryz.func210, Tryz.ntmps210
  go_wp2
  refine bodyPost_ret (res27 (b := w.heap.size + 1) (s := { s with dst := v }) rfl rfl (by unfold Bx; simp)) rfl ?_
  exact ⟨rfl, by go_grown⟩
set_option maxHeartbeats 2000000 in
theorem with_8 (s : Sn) (v : Int) (w : World) (h0 : 0 ≤ v) (h1 : v ≤ 65535) : Calls Tryz.prog 210 #[snV s, .int .i64 8, .int .u64 v] w fun e w' => e = .returned (snV { s with sp := v }) ∧ Below w.heap.size w w' := by
  have e := wr_i v h0 h1
  clear h0 h1
  go_enter Tryz.func210, Tryz.ntmps210
  go_wp2
  refine bodyPost_ret (res27 (b := w.heap.size + 1) (s := { s with sp := v }) rfl rfl (by unfold Bx; simp)) rfl ?_
  exact ⟨rfl, by go_grown⟩
set_option maxHeartbeats 2000000 in
theorem with_9 (s : Sn) (v : Int) (w : World) (h0 : 0 ≤ v) (h1 : v ≤ 65535) : Calls Tryz.prog 210 #[snV s, .int .i64 9, .int .u64 v] w fun e w' => e = .returned (snV { s with dp := v }) ∧ Below w.heap.size w w' := by
  have e := wr_i v h0 h1
  clear h0 h1
  go_enter Tryz.func210, Tryz.ntmps210
  go_wp2
  refine bodyPost_ret (res27 (b := w.heap.size + 1) (s := { s with dp := v }) rfl rfl (by unfold Bx; simp)) rfl ?_
  exact ⟨rfl, by go_grown⟩
theorem with_any (s : Sn) (f v : Int) (w : World) (hf : f = 2 ∨ f = 3 ∨ f = 5 ∨ f = 6 ∨ f = 8 ∨ f = 9) (h0 : 0 ≤ v) (h1 : v ≤ grV f) : Calls Tryz.prog 210 #[snV s, .int .i64 f, .int .u64 v] w fun e w' => e = .returned (snV (withV s f v)) ∧ Below w.heap.size w w' := by
  rcases hf with rfl | rfl | rfl | rfl | rfl | rfl
  · exact with_2 s v w
  · exact with_3 s v w h0 h1
  · exact with_5 s v w h0 h1
  · exact with_6 s v w h0 h1
  · exact with_8 s v w h0 h1
  · exact with_9 s v w h0 h1

set_option maxHeartbeats 2000000 in
theorem mayPut_any (f : Int) (w : World) : Calls Tryz.prog 211 #[.int .i64 f] w fun e w' => e = .returned (.bool (mayB f)) ∧ w' = w := by
  unfold mayB
  by_cases h1 : f = 1
  · subst h1
    go_enter Tryz.func211, Tryz.ntmps211
    go_wp2
    go_ret
    exact ⟨rfl, rfl⟩
  · have b1 : (f != 1) = true := by simp [h1]
    clear h1
    by_cases h2 : f = 4
    · subst h2
      go_enter Tryz.func211, Tryz.ntmps211
      go_wp2
      go_ret
      exact ⟨rfl, rfl⟩
    · have b2 : (f != 4) = true := by simp [h2]
      clear h2
      rw [b1, b2]
      go_enter Tryz.func211, Tryz.ntmps211
      go_wp2
      go_ret
      exact ⟨rfl, rfl⟩

set_option maxHeartbeats 2000000 in
theorem put_a1 (s : Sn) (f v : Int) (w : World) (HM : Hid (∀ w, Calls Tryz.prog 211 #[.int .i64 f] w fun e w' => e = .returned (.bool false) ∧ w' = w)) : Calls Tryz.prog 169 #[snV s, .int .i64 f, .int .u64 v] w fun e w' => e = .returned (.tuple #[snV sn0, .int .i64 20]) ∧ Below w.heap.size w w' := by
  go_enter Tryz.func169, Tryz.ntmps169
  go_wp2_with fail
  refine (HM.out _).mono ?_
  rintro x w1 ⟨rfl, rfl⟩
  go_wp2_with fail
  refine bodyPost_ret (res27e (b := w.heap.size + 1) (s := sn0) rfl rfl (by unfold Bx sn0; simp)) rfl ?_
  exact ⟨rfl, by go_grown⟩
end Go.Proofs.YtgnihbdcdefdgaaGreatDoor.Fd
/-
  Blocks of a packet in a switch that may be written.
-/
namespace Go.Proofs.YtgnihbdcdefdgaaGreatDoor.Fd
open Mt
open Go.ChangeShapes Go.WideShapes Go.ChangeAt Go.RowKit

/-- A block of a packet in a switch that may be written. -/
abbrev Bw (w : World) (b : Nat) (s : Sn) : Prop := Bx w b s ∧ ∀ i, w.frozen? ⟨b, i, none⟩ = false
theorem Bw.block {w w' : World} {b : Nat} {s : Sn} (h : Bw w b s) (g : w'.heap[b]? = w.heap[b]?) : Bw w' b s :=
  ⟨h.1.block g, fun i => (World.frozen?_of_block (w := w) g).trans (h.2 i)⟩
theorem Bw.below {w w' : World} {b B : Nat} {s : Sn} (h : Bw w b s) (hb : b < B) (g : Below B w w') : Bw w' b s := h.block (g.block b hb)
/-- The two blocks that a function of a packet in a switch has: it, and its answer. -/
abbrev two (w : World) (s : Sn) : World := (bx w s).alloc (.cells (snC sn0) 49)
theorem Bx.two (w : World) (s : Sn) : Bx (two w s) w.heap.size s := by unfold Bx; simp
theorem Bw.two (w : World) (s : Sn) : Bw (two w s) (w.heap.size + 1) sn0 := by unfold Bw Bx; simp
theorem Bw.new (w : World) (s : Sn) : Bw (bx w s) w.heap.size s := by unfold Bw Bx bx; simp

theorem Bw.set0 {w : World} {b : Nat} {s : Sn} (h : Bw w b s) (x : Int) : Bw (w.setCell ⟨b, 0, none⟩ (.int .i64 x)) b { s with inp := x } := by
  obtain ⟨⟨h0, h1, h2, h3, h4, h5, h6, h7, h8, h9, h10, h11, h12⟩, hf⟩ := h
  exact ⟨⟨World.cell?_setCell_same _ _ _ h0, (World.cell?_setCell_other _ _ _ _ (by simp)).trans h1, (World.cell?_setCell_other _ _ _ _ (by simp)).trans h2, (World.cell?_setCell_other _ _ _ _ (by simp)).trans h3, (World.cell?_setCell_other _ _ _ _ (by simp)).trans h4, (World.cell?_setCell_other _ _ _ _ (by simp)).trans h5, (World.cell?_setCell_other _ _ _ _ (by simp)).trans h6, (World.cell?_setCell_other _ _ _ _ (by simp)).trans h7, (World.cell?_setCell_other _ _ _ _ (by simp)).trans h8, (World.cell?_setCell_other _ _ _ _ (by simp)).trans h9, (World.cell?_setCell_other _ _ _ _ (by simp)).trans h10, (World.cell?_setCell_other _ _ _ _ (by simp)).trans h11, (World.cell?_setCell_other _ _ _ _ (by simp)).trans h12⟩, fun i => by simp [hf]⟩
theorem Bw.set1 {w : World} {b : Nat} {s : Sn} (h : Bw w b s) (x : Int) : Bw (w.setCell ⟨b, 1, none⟩ (.int .u64 x)) b { s with mt := x } := by
  obtain ⟨⟨h0, h1, h2, h3, h4, h5, h6, h7, h8, h9, h10, h11, h12⟩, hf⟩ := h
  exact ⟨⟨(World.cell?_setCell_other _ _ _ _ (by simp)).trans h0, World.cell?_setCell_same _ _ _ h1, (World.cell?_setCell_other _ _ _ _ (by simp)).trans h2, (World.cell?_setCell_other _ _ _ _ (by simp)).trans h3, (World.cell?_setCell_other _ _ _ _ (by simp)).trans h4, (World.cell?_setCell_other _ _ _ _ (by simp)).trans h5, (World.cell?_setCell_other _ _ _ _ (by simp)).trans h6, (World.cell?_setCell_other _ _ _ _ (by simp)).trans h7, (World.cell?_setCell_other _ _ _ _ (by simp)).trans h8, (World.cell?_setCell_other _ _ _ _ (by simp)).trans h9, (World.cell?_setCell_other _ _ _ _ (by simp)).trans h10, (World.cell?_setCell_other _ _ _ _ (by simp)).trans h11, (World.cell?_setCell_other _ _ _ _ (by simp)).trans h12⟩, fun i => by simp [hf]⟩
theorem Bw.set2 {w : World} {b : Nat} {s : Sn} (h : Bw w b s) (x : Int) : Bw (w.setCell ⟨b, 2, none⟩ (.int .u64 x)) b { s with to := x } := by
  obtain ⟨⟨h0, h1, h2, h3, h4, h5, h6, h7, h8, h9, h10, h11, h12⟩, hf⟩ := h
  exact ⟨⟨(World.cell?_setCell_other _ _ _ _ (by simp)).trans h0, (World.cell?_setCell_other _ _ _ _ (by simp)).trans h1, World.cell?_setCell_same _ _ _ h2, (World.cell?_setCell_other _ _ _ _ (by simp)).trans h3, (World.cell?_setCell_other _ _ _ _ (by simp)).trans h4, (World.cell?_setCell_other _ _ _ _ (by simp)).trans h5, (World.cell?_setCell_other _ _ _ _ (by simp)).trans h6, (World.cell?_setCell_other _ _ _ _ (by simp)).trans h7, (World.cell?_setCell_other _ _ _ _ (by simp)).trans h8, (World.cell?_setCell_other _ _ _ _ (by simp)).trans h9, (World.cell?_setCell_other _ _ _ _ (by simp)).trans h10, (World.cell?_setCell_other _ _ _ _ (by simp)).trans h11, (World.cell?_setCell_other _ _ _ _ (by simp)).trans h12⟩, fun i => by simp [hf]⟩
theorem Bw.set3 {w : World} {b : Nat} {s : Sn} (h : Bw w b s) (x : Int) : Bw (w.setCell ⟨b, 3, none⟩ (.int .u64 x)) b { s with fr := x } := by
  obtain ⟨⟨h0, h1, h2, h3, h4, h5, h6, h7, h8, h9, h10, h11, h12⟩, hf⟩ := h
  exact ⟨⟨(World.cell?_setCell_other _ _ _ _ (by simp)).trans h0, (World.cell?_setCell_other _ _ _ _ (by simp)).trans h1, (World.cell?_setCell_other _ _ _ _ (by simp)).trans h2, World.cell?_setCell_same _ _ _ h3, (World.cell?_setCell_other _ _ _ _ (by simp)).trans h4, (World.cell?_setCell_other _ _ _ _ (by simp)).trans h5, (World.cell?_setCell_other _ _ _ _ (by simp)).trans h6, (World.cell?_setCell_other _ _ _ _ (by simp)).trans h7, (World.cell?_setCell_other _ _ _ _ (by simp)).trans h8, (World.cell?_setCell_other _ _ _ _ (by simp)).trans h9, (World.cell?_setCell_other _ _ _ _ (by simp)).trans h10, (World.cell?_setCell_other _ _ _ _ (by simp)).trans h11, (World.cell?_setCell_other _ _ _ _ (by simp)).trans h12⟩, fun i => by simp [hf]⟩
theorem Bw.set4 {w : World} {b : Nat} {s : Sn} (h : Bw w b s) (x : Int) : Bw (w.setCell ⟨b, 4, none⟩ (.int .i64 x)) b { s with vl := x } := by
  obtain ⟨⟨h0, h1, h2, h3, h4, h5, h6, h7, h8, h9, h10, h11, h12⟩, hf⟩ := h
  exact ⟨⟨(World.cell?_setCell_other _ _ _ _ (by simp)).trans h0, (World.cell?_setCell_other _ _ _ _ (by simp)).trans h1, (World.cell?_setCell_other _ _ _ _ (by simp)).trans h2, (World.cell?_setCell_other _ _ _ _ (by simp)).trans h3, World.cell?_setCell_same _ _ _ h4, (World.cell?_setCell_other _ _ _ _ (by simp)).trans h5, (World.cell?_setCell_other _ _ _ _ (by simp)).trans h6, (World.cell?_setCell_other _ _ _ _ (by simp)).trans h7, (World.cell?_setCell_other _ _ _ _ (by simp)).trans h8, (World.cell?_setCell_other _ _ _ _ (by simp)).trans h9, (World.cell?_setCell_other _ _ _ _ (by simp)).trans h10, (World.cell?_setCell_other _ _ _ _ (by simp)).trans h11, (World.cell?_setCell_other _ _ _ _ (by simp)).trans h12⟩, fun i => by simp [hf]⟩
theorem Bw.set5 {w : World} {b : Nat} {s : Sn} (h : Bw w b s) (x : Int) : Bw (w.setCell ⟨b, 5, none⟩ (.int .i64 x)) b { s with ty := x } := by
  obtain ⟨⟨h0, h1, h2, h3, h4, h5, h6, h7, h8, h9, h10, h11, h12⟩, hf⟩ := h
  exact ⟨⟨(World.cell?_setCell_other _ _ _ _ (by simp)).trans h0, (World.cell?_setCell_other _ _ _ _ (by simp)).trans h1, (World.cell?_setCell_other _ _ _ _ (by simp)).trans h2, (World.cell?_setCell_other _ _ _ _ (by simp)).trans h3, (World.cell?_setCell_other _ _ _ _ (by simp)).trans h4, World.cell?_setCell_same _ _ _ h5, (World.cell?_setCell_other _ _ _ _ (by simp)).trans h6, (World.cell?_setCell_other _ _ _ _ (by simp)).trans h7, (World.cell?_setCell_other _ _ _ _ (by simp)).trans h8, (World.cell?_setCell_other _ _ _ _ (by simp)).trans h9, (World.cell?_setCell_other _ _ _ _ (by simp)).trans h10, (World.cell?_setCell_other _ _ _ _ (by simp)).trans h11, (World.cell?_setCell_other _ _ _ _ (by simp)).trans h12⟩, fun i => by simp [hf]⟩
theorem Bw.set6 {w : World} {b : Nat} {s : Sn} (h : Bw w b s) (x : Int) : Bw (w.setCell ⟨b, 6, none⟩ (.int .u32 x)) b { s with src := x } := by
  obtain ⟨⟨h0, h1, h2, h3, h4, h5, h6, h7, h8, h9, h10, h11, h12⟩, hf⟩ := h
  exact ⟨⟨(World.cell?_setCell_other _ _ _ _ (by simp)).trans h0, (World.cell?_setCell_other _ _ _ _ (by simp)).trans h1, (World.cell?_setCell_other _ _ _ _ (by simp)).trans h2, (World.cell?_setCell_other _ _ _ _ (by simp)).trans h3, (World.cell?_setCell_other _ _ _ _ (by simp)).trans h4, (World.cell?_setCell_other _ _ _ _ (by simp)).trans h5, World.cell?_setCell_same _ _ _ h6, (World.cell?_setCell_other _ _ _ _ (by simp)).trans h7, (World.cell?_setCell_other _ _ _ _ (by simp)).trans h8, (World.cell?_setCell_other _ _ _ _ (by simp)).trans h9, (World.cell?_setCell_other _ _ _ _ (by simp)).trans h10, (World.cell?_setCell_other _ _ _ _ (by simp)).trans h11, (World.cell?_setCell_other _ _ _ _ (by simp)).trans h12⟩, fun i => by simp [hf]⟩
theorem Bw.set7 {w : World} {b : Nat} {s : Sn} (h : Bw w b s) (x : Int) : Bw (w.setCell ⟨b, 7, none⟩ (.int .u32 x)) b { s with dst := x } := by
  obtain ⟨⟨h0, h1, h2, h3, h4, h5, h6, h7, h8, h9, h10, h11, h12⟩, hf⟩ := h
  exact ⟨⟨(World.cell?_setCell_other _ _ _ _ (by simp)).trans h0, (World.cell?_setCell_other _ _ _ _ (by simp)).trans h1, (World.cell?_setCell_other _ _ _ _ (by simp)).trans h2, (World.cell?_setCell_other _ _ _ _ (by simp)).trans h3, (World.cell?_setCell_other _ _ _ _ (by simp)).trans h4, (World.cell?_setCell_other _ _ _ _ (by simp)).trans h5, (World.cell?_setCell_other _ _ _ _ (by simp)).trans h6, World.cell?_setCell_same _ _ _ h7, (World.cell?_setCell_other _ _ _ _ (by simp)).trans h8, (World.cell?_setCell_other _ _ _ _ (by simp)).trans h9, (World.cell?_setCell_other _ _ _ _ (by simp)).trans h10, (World.cell?_setCell_other _ _ _ _ (by simp)).trans h11, (World.cell?_setCell_other _ _ _ _ (by simp)).trans h12⟩, fun i => by simp [hf]⟩
theorem Bw.set8 {w : World} {b : Nat} {s : Sn} (h : Bw w b s) (x : Int) : Bw (w.setCell ⟨b, 8, none⟩ (.int .i64 x)) b { s with life := x } := by
  obtain ⟨⟨h0, h1, h2, h3, h4, h5, h6, h7, h8, h9, h10, h11, h12⟩, hf⟩ := h
  exact ⟨⟨(World.cell?_setCell_other _ _ _ _ (by simp)).trans h0, (World.cell?_setCell_other _ _ _ _ (by simp)).trans h1, (World.cell?_setCell_other _ _ _ _ (by simp)).trans h2, (World.cell?_setCell_other _ _ _ _ (by simp)).trans h3, (World.cell?_setCell_other _ _ _ _ (by simp)).trans h4, (World.cell?_setCell_other _ _ _ _ (by simp)).trans h5, (World.cell?_setCell_other _ _ _ _ (by simp)).trans h6, (World.cell?_setCell_other _ _ _ _ (by simp)).trans h7, World.cell?_setCell_same _ _ _ h8, (World.cell?_setCell_other _ _ _ _ (by simp)).trans h9, (World.cell?_setCell_other _ _ _ _ (by simp)).trans h10, (World.cell?_setCell_other _ _ _ _ (by simp)).trans h11, (World.cell?_setCell_other _ _ _ _ (by simp)).trans h12⟩, fun i => by simp [hf]⟩
theorem Bw.set9 {w : World} {b : Nat} {s : Sn} (h : Bw w b s) (x : Int) : Bw (w.setCell ⟨b, 9, none⟩ (.int .i64 x)) b { s with pro := x } := by
  obtain ⟨⟨h0, h1, h2, h3, h4, h5, h6, h7, h8, h9, h10, h11, h12⟩, hf⟩ := h
  exact ⟨⟨(World.cell?_setCell_other _ _ _ _ (by simp)).trans h0, (World.cell?_setCell_other _ _ _ _ (by simp)).trans h1, (World.cell?_setCell_other _ _ _ _ (by simp)).trans h2, (World.cell?_setCell_other _ _ _ _ (by simp)).trans h3, (World.cell?_setCell_other _ _ _ _ (by simp)).trans h4, (World.cell?_setCell_other _ _ _ _ (by simp)).trans h5, (World.cell?_setCell_other _ _ _ _ (by simp)).trans h6, (World.cell?_setCell_other _ _ _ _ (by simp)).trans h7, (World.cell?_setCell_other _ _ _ _ (by simp)).trans h8, World.cell?_setCell_same _ _ _ h9, (World.cell?_setCell_other _ _ _ _ (by simp)).trans h10, (World.cell?_setCell_other _ _ _ _ (by simp)).trans h11, (World.cell?_setCell_other _ _ _ _ (by simp)).trans h12⟩, fun i => by simp [hf]⟩
theorem Bw.set10 {w : World} {b : Nat} {s : Sn} (h : Bw w b s) (x : Int) : Bw (w.setCell ⟨b, 10, none⟩ (.int .i64 x)) b { s with sp := x } := by
  obtain ⟨⟨h0, h1, h2, h3, h4, h5, h6, h7, h8, h9, h10, h11, h12⟩, hf⟩ := h
  exact ⟨⟨(World.cell?_setCell_other _ _ _ _ (by simp)).trans h0, (World.cell?_setCell_other _ _ _ _ (by simp)).trans h1, (World.cell?_setCell_other _ _ _ _ (by simp)).trans h2, (World.cell?_setCell_other _ _ _ _ (by simp)).trans h3, (World.cell?_setCell_other _ _ _ _ (by simp)).trans h4, (World.cell?_setCell_other _ _ _ _ (by simp)).trans h5, (World.cell?_setCell_other _ _ _ _ (by simp)).trans h6, (World.cell?_setCell_other _ _ _ _ (by simp)).trans h7, (World.cell?_setCell_other _ _ _ _ (by simp)).trans h8, (World.cell?_setCell_other _ _ _ _ (by simp)).trans h9, World.cell?_setCell_same _ _ _ h10, (World.cell?_setCell_other _ _ _ _ (by simp)).trans h11, (World.cell?_setCell_other _ _ _ _ (by simp)).trans h12⟩, fun i => by simp [hf]⟩
theorem Bw.set11 {w : World} {b : Nat} {s : Sn} (h : Bw w b s) (x : Int) : Bw (w.setCell ⟨b, 11, none⟩ (.int .i64 x)) b { s with dp := x } := by
  obtain ⟨⟨h0, h1, h2, h3, h4, h5, h6, h7, h8, h9, h10, h11, h12⟩, hf⟩ := h
  exact ⟨⟨(World.cell?_setCell_other _ _ _ _ (by simp)).trans h0, (World.cell?_setCell_other _ _ _ _ (by simp)).trans h1, (World.cell?_setCell_other _ _ _ _ (by simp)).trans h2, (World.cell?_setCell_other _ _ _ _ (by simp)).trans h3, (World.cell?_setCell_other _ _ _ _ (by simp)).trans h4, (World.cell?_setCell_other _ _ _ _ (by simp)).trans h5, (World.cell?_setCell_other _ _ _ _ (by simp)).trans h6, (World.cell?_setCell_other _ _ _ _ (by simp)).trans h7, (World.cell?_setCell_other _ _ _ _ (by simp)).trans h8, (World.cell?_setCell_other _ _ _ _ (by simp)).trans h9, (World.cell?_setCell_other _ _ _ _ (by simp)).trans h10, World.cell?_setCell_same _ _ _ h11, (World.cell?_setCell_other _ _ _ _ (by simp)).trans h12⟩, fun i => by simp [hf]⟩
theorem Bw.set12 {w : World} {b : Nat} {s : Sn} (h : Bw w b s) (x : ByteArray) : Bw (w.setCell ⟨b, 12, none⟩ (.string x)) b { s with data := x } := by
  obtain ⟨⟨h0, h1, h2, h3, h4, h5, h6, h7, h8, h9, h10, h11, h12⟩, hf⟩ := h
  exact ⟨⟨(World.cell?_setCell_other _ _ _ _ (by simp)).trans h0, (World.cell?_setCell_other _ _ _ _ (by simp)).trans h1, (World.cell?_setCell_other _ _ _ _ (by simp)).trans h2, (World.cell?_setCell_other _ _ _ _ (by simp)).trans h3, (World.cell?_setCell_other _ _ _ _ (by simp)).trans h4, (World.cell?_setCell_other _ _ _ _ (by simp)).trans h5, (World.cell?_setCell_other _ _ _ _ (by simp)).trans h6, (World.cell?_setCell_other _ _ _ _ (by simp)).trans h7, (World.cell?_setCell_other _ _ _ _ (by simp)).trans h8, (World.cell?_setCell_other _ _ _ _ (by simp)).trans h9, (World.cell?_setCell_other _ _ _ _ (by simp)).trans h10, (World.cell?_setCell_other _ _ _ _ (by simp)).trans h11, World.cell?_setCell_same _ _ _ h12⟩, fun i => by simp [hf]⟩
/-- All of a packet in a switch is written into block b. -/
abbrev setAll (w : World) (b : Nat) (s : Sn) : World := ((((((((((((w.setCell ⟨b, 0, none⟩ (.int .i64 s.inp)).setCell ⟨b, 1, none⟩ (.int .u64 s.mt)).setCell ⟨b, 2, none⟩ (.int .u64 s.to)).setCell ⟨b, 3, none⟩ (.int .u64 s.fr)).setCell ⟨b, 4, none⟩ (.int .i64 s.vl)).setCell ⟨b, 5, none⟩ (.int .i64 s.ty)).setCell ⟨b, 6, none⟩ (.int .u32 s.src)).setCell ⟨b, 7, none⟩ (.int .u32 s.dst)).setCell ⟨b, 8, none⟩ (.int .i64 s.life)).setCell ⟨b, 9, none⟩ (.int .i64 s.pro)).setCell ⟨b, 10, none⟩ (.int .i64 s.sp)).setCell ⟨b, 11, none⟩ (.int .i64 s.dp)).setCell ⟨b, 12, none⟩ (.string s.data)
theorem Bw.setAll {w : World} {b : Nat} {t : Sn} (s : Sn) (h : Bw w b t) : Bw (setAll w b s) b s := ((((((((((((h.set0 s.inp).set1 s.mt).set2 s.to).set3 s.fr).set4 s.vl).set5 s.ty).set6 s.src).set7 s.dst).set8 s.life).set9 s.pro).set10 s.sp).set11 s.dp).set12 s.data
theorem below_setAll {a w : World} {k b : Nat} (s : Sn) (g : Below k a w) (hk : k ≤ b) : Below k a (setAll w b s) := ((((((((((((g.setCell hk _).setCell hk _).setCell hk _).setCell hk _).setCell hk _).setCell hk _).setCell hk _).setCell hk _).setCell hk _).setCell hk _).setCell hk _).setCell hk _).setCell hk _
end Go.Proofs.YtgnihbdcdefdgaaGreatDoor.Fd
/-
  What Put answers, as a contract.
-/
namespace Go.Proofs.YtgnihbdcdefdgaaGreatDoor.Fd
open Mt
open Go.ChangeShapes Go.WideShapes Go.ChangeAt Go.RowKit

set_option maxHeartbeats 4000000 in
theorem put_a2 (s : Sn) (f v : Int) (w : World) (HM : Hid (∀ w, Calls Tryz.prog 211 #[.int .i64 f] w fun e w' => e = .returned (.bool true) ∧ w' = w)) (HH : Hid (∀ w, Calls Tryz.prog 192 #[pkV s, .int .i64 f] w fun e w' => e = .returned (.bool false) ∧ Below w.heap.size w w')) : Calls Tryz.prog 169 #[snV s, .int .i64 f, .int .u64 v] w fun e w' => e = .returned (.tuple #[snV sn0, .int .i64 20]) ∧ Below w.heap.size w w' := by
  go_enter Tryz.func169, Tryz.ntmps169
  go_wp2_with fail
  refine (HM.out _).mono ?_
  rintro x w1 ⟨rfl, rfl⟩
  go_wp2_with fail
  refine (HH.out _).mono ?_
  rintro x w1 ⟨rfl, g1⟩
  have A1 := (Bx.two w s).below (by simp <;> omega) g1
  have B1 := (Bw.two w s).below (by simp) g1
  have G1 : Below w.heap.size w w1 := btr (by go_grown) g1 (by simp)
  have L1 : w.heap.size + 2 ≤ w1.heap.size := by have := g1.size; simp at this; omega
  clear g1
  have D1 := B1
  obtain ⟨⟨c0, c1, c2, c3, c4, c5, c6, c7, c8, c9, c10, c11, c12⟩, cf⟩ := B1
  obtain ⟨a0, a1, a2, a3, a4, a5, a6, a7, a8, a9, a10, a11, a12⟩ := A1
  go_wp2_with fail
  refine bodyPost_ret (res27e (b := w.heap.size + 1) (s := sn0) rfl rfl (D1.setAll sn0).1) rfl ?_
  exact ⟨rfl, below_setAll sn0 G1 (by omega)⟩

set_option maxHeartbeats 4000000 in
theorem put_b1 (s : Sn) (f v : Int) (w : World) (HM : Hid (∀ w, Calls Tryz.prog 211 #[.int .i64 f] w fun e w' => e = .returned (.bool true) ∧ w' = w)) (HH : Hid (∀ w, Calls Tryz.prog 192 #[pkV s, .int .i64 f] w fun e w' => e = .returned (.bool true) ∧ Below w.heap.size w w')) (g : Int) (HG : Hid (∀ w, Calls Tryz.prog 194 #[.int .i64 f] w fun e w' => e = .returned (.int .u64 g) ∧ w' = w)) (hv : v > g) : Calls Tryz.prog 169 #[snV s, .int .i64 f, .int .u64 v] w fun e w' => e = .returned (.tuple #[snV sn0, .int .i64 1]) ∧ Below w.heap.size w w' := by
  go_enter Tryz.func169, Tryz.ntmps169
  go_wp2_with fail
  refine (HM.out _).mono ?_
  rintro x w1 ⟨rfl, rfl⟩
  go_wp2_with fail
  refine (HH.out _).mono ?_
  rintro x w1 ⟨rfl, g1⟩
  have A1 := (Bx.two w s).below (by simp <;> omega) g1
  have B1 := (Bw.two w s).below (by simp) g1
  have G1 : Below w.heap.size w w1 := btr (by go_grown) g1 (by simp)
  have L1 : w.heap.size + 2 ≤ w1.heap.size := by have := g1.size; simp at this; omega
  clear g1
  have D1 := B1
  obtain ⟨⟨c0, c1, c2, c3, c4, c5, c6, c7, c8, c9, c10, c11, c12⟩, cf⟩ := B1
  obtain ⟨a0, a1, a2, a3, a4, a5, a6, a7, a8, a9, a10, a11, a12⟩ := A1
  go_wp2_with fail
  refine (HG.out _).mono ?_
  rintro x w2 ⟨rfl, rfl⟩
  go_wp2_with fail
  refine bodyPost_ret (res27e (b := w.heap.size + 1) (s := sn0) rfl rfl (D1.setAll sn0).1) rfl ?_
  exact ⟨rfl, below_setAll sn0 G1 (by omega)⟩

set_option maxHeartbeats 4000000 in
theorem put_b2 (s : Sn) (f v : Int) (w : World) (HM : Hid (∀ w, Calls Tryz.prog 211 #[.int .i64 f] w fun e w' => e = .returned (.bool true) ∧ w' = w)) (HH : Hid (∀ w, Calls Tryz.prog 192 #[pkV s, .int .i64 f] w fun e w' => e = .returned (.bool true) ∧ Below w.heap.size w w')) (g : Int) (HG : Hid (∀ w, Calls Tryz.prog 194 #[.int .i64 f] w fun e w' => e = .returned (.int .u64 g) ∧ w' = w)) (hv : v ≤ g) (b3 : (f == 3) = true) (h4 : v < 4096) : Calls Tryz.prog 169 #[snV s, .int .i64 f, .int .u64 v] w fun e w' => e = .returned (.tuple #[snV sn0, .int .i64 1]) ∧ Below w.heap.size w w' := by
  go_enter Tryz.func169, Tryz.ntmps169
  go_wp2_with fail
  refine (HM.out _).mono ?_
  rintro x w1 ⟨rfl, rfl⟩
  go_wp2_with fail
  refine (HH.out _).mono ?_
  rintro x w1 ⟨rfl, g1⟩
  have A1 := (Bx.two w s).below (by simp <;> omega) g1
  have B1 := (Bw.two w s).below (by simp) g1
  have G1 : Below w.heap.size w w1 := btr (by go_grown) g1 (by simp)
  have L1 : w.heap.size + 2 ≤ w1.heap.size := by have := g1.size; simp at this; omega
  clear g1
  have D1 := B1
  obtain ⟨⟨c0, c1, c2, c3, c4, c5, c6, c7, c8, c9, c10, c11, c12⟩, cf⟩ := B1
  obtain ⟨a0, a1, a2, a3, a4, a5, a6, a7, a8, a9, a10, a11, a12⟩ := A1
  go_wp2_with fail
  refine (HG.out _).mono ?_
  rintro x w2 ⟨rfl, rfl⟩
  go_wp2_with fail
  refine bodyPost_ret (res27e (b := w.heap.size + 1) (s := sn0) rfl rfl (D1.setAll sn0).1) rfl ?_
  exact ⟨rfl, below_setAll sn0 G1 (by omega)⟩

set_option maxHeartbeats 4000000 in
theorem put_c (s : Sn) (f v : Int) (w : World) (HM : Hid (∀ w, Calls Tryz.prog 211 #[.int .i64 f] w fun e w' => e = .returned (.bool true) ∧ w' = w)) (HH : Hid (∀ w, Calls Tryz.prog 192 #[pkV s, .int .i64 f] w fun e w' => e = .returned (.bool true) ∧ Below w.heap.size w w')) (g : Int) (HG : Hid (∀ w, Calls Tryz.prog 194 #[.int .i64 f] w fun e w' => e = .returned (.int .u64 g) ∧ w' = w)) (hv : v ≤ g) (b3 : (f == 3) = true) (h4 : 4096 ≤ v) (bl : (s.vl == 0) = true) : Calls Tryz.prog 169 #[snV s, .int .i64 f, .int .u64 v] w fun e w' => e = .returned (.tuple #[snV sn0, .int .i64 31]) ∧ Below w.heap.size w w' := by
  go_enter Tryz.func169, Tryz.ntmps169
  go_wp2_with fail
  refine (HM.out _).mono ?_
  rintro x w1 ⟨rfl, rfl⟩
  go_wp2_with fail
  refine (HH.out _).mono ?_
  rintro x w1 ⟨rfl, g1⟩
  have A1 := (Bx.two w s).below (by simp <;> omega) g1
  have B1 := (Bw.two w s).below (by simp) g1
  have G1 : Below w.heap.size w w1 := btr (by go_grown) g1 (by simp)
  have L1 : w.heap.size + 2 ≤ w1.heap.size := by have := g1.size; simp at this; omega
  clear g1
  have D1 := B1
  obtain ⟨⟨c0, c1, c2, c3, c4, c5, c6, c7, c8, c9, c10, c11, c12⟩, cf⟩ := B1
  obtain ⟨a0, a1, a2, a3, a4, a5, a6, a7, a8, a9, a10, a11, a12⟩ := A1
  go_wp2_with fail
  refine (HG.out _).mono ?_
  rintro x w2 ⟨rfl, rfl⟩
  go_wp2_with fail
  refine bodyPost_ret (res27e (b := w.heap.size + 1) (s := sn0) rfl rfl (D1.setAll sn0).1) rfl ?_
  exact ⟨rfl, below_setAll sn0 G1 (by omega)⟩

set_option maxHeartbeats 4000000 in
theorem put_d1 (s : Sn) (f v : Int) (w : World) (HM : Hid (∀ w, Calls Tryz.prog 211 #[.int .i64 f] w fun e w' => e = .returned (.bool true) ∧ w' = w)) (HH : Hid (∀ w, Calls Tryz.prog 192 #[pkV s, .int .i64 f] w fun e w' => e = .returned (.bool true) ∧ Below w.heap.size w w')) (g : Int) (HG : Hid (∀ w, Calls Tryz.prog 194 #[.int .i64 f] w fun e w' => e = .returned (.int .u64 g) ∧ w' = w)) (hv : v ≤ g) (b3 : (f == 3) = true) (h4 : 4096 ≤ v) (bl : (s.vl == 0) = false) (t : Sn) (HW : Hid (∀ w, Calls Tryz.prog 210 #[snV s, .int .i64 f, .int .u64 v] w fun e w' => e = .returned (snV t) ∧ Below w.heap.size w w')) : Calls Tryz.prog 169 #[snV s, .int .i64 f, .int .u64 v] w fun e w' => e = .returned (.tuple #[snV t, .int .i64 0]) ∧ Below w.heap.size w w' := by
  go_enter Tryz.func169, Tryz.ntmps169
  go_wp2_with fail
  refine (HM.out _).mono ?_
  rintro x w1 ⟨rfl, rfl⟩
  go_wp2_with fail
  refine (HH.out _).mono ?_
  rintro x w1 ⟨rfl, g1⟩
  have A1 := (Bx.two w s).below (by simp <;> omega) g1
  have B1 := (Bw.two w s).below (by simp) g1
  have G1 : Below w.heap.size w w1 := btr (by go_grown) g1 (by simp)
  have L1 : w.heap.size + 2 ≤ w1.heap.size := by have := g1.size; simp at this; omega
  clear g1
  have D1 := B1
  obtain ⟨⟨c0, c1, c2, c3, c4, c5, c6, c7, c8, c9, c10, c11, c12⟩, cf⟩ := B1
  obtain ⟨a0, a1, a2, a3, a4, a5, a6, a7, a8, a9, a10, a11, a12⟩ := A1
  go_wp2_with fail
  refine (HG.out _).mono ?_
  rintro x w2 ⟨rfl, rfl⟩
  go_wp2_with fail
  refine (HW.out _).mono ?_
  rintro x w3 ⟨rfl, g3⟩
  have D3 := D1.below (by omega) g3
  have G3 : Below w.heap.size w w3 := btr G1 g3 (Nat.le_refl _)
  clear g3 c0 c1 c2 c3 c4 c5 c6 c7 c8 c9 c10 c11 c12 cf D1 G1
  have D4 := D3
  obtain ⟨⟨c0, c1, c2, c3, c4, c5, c6, c7, c8, c9, c10, c11, c12⟩, cf⟩ := D3
  go_wp2_with fail
  refine bodyPost_ret (res27e (b := w.heap.size + 1) (s := t) rfl rfl (D4.setAll t).1) rfl ?_
  exact ⟨rfl, below_setAll t G3 (by omega)⟩

set_option maxHeartbeats 4000000 in
theorem put_d2 (s : Sn) (f v : Int) (w : World) (HM : Hid (∀ w, Calls Tryz.prog 211 #[.int .i64 f] w fun e w' => e = .returned (.bool true) ∧ w' = w)) (HH : Hid (∀ w, Calls Tryz.prog 192 #[pkV s, .int .i64 f] w fun e w' => e = .returned (.bool true) ∧ Below w.heap.size w w')) (g : Int) (HG : Hid (∀ w, Calls Tryz.prog 194 #[.int .i64 f] w fun e w' => e = .returned (.int .u64 g) ∧ w' = w)) (hv : v ≤ g) (b3 : (f == 3) = false) (t : Sn) (HW : Hid (∀ w, Calls Tryz.prog 210 #[snV s, .int .i64 f, .int .u64 v] w fun e w' => e = .returned (snV t) ∧ Below w.heap.size w w')) : Calls Tryz.prog 169 #[snV s, .int .i64 f, .int .u64 v] w fun e w' => e = .returned (.tuple #[snV t, .int .i64 0]) ∧ Below w.heap.size w w' := by
  go_enter Tryz.func169, Tryz.ntmps169
  go_wp2_with fail
  refine (HM.out _).mono ?_
  rintro x w1 ⟨rfl, rfl⟩
  go_wp2_with fail
  refine (HH.out _).mono ?_
  rintro x w1 ⟨rfl, g1⟩
  have A1 := (Bx.two w s).below (by simp <;> omega) g1
  have B1 := (Bw.two w s).below (by simp) g1
  have G1 : Below w.heap.size w w1 := btr (by go_grown) g1 (by simp)
  have L1 : w.heap.size + 2 ≤ w1.heap.size := by have := g1.size; simp at this; omega
  clear g1
  have D1 := B1
  obtain ⟨⟨c0, c1, c2, c3, c4, c5, c6, c7, c8, c9, c10, c11, c12⟩, cf⟩ := B1
  obtain ⟨a0, a1, a2, a3, a4, a5, a6, a7, a8, a9, a10, a11, a12⟩ := A1
  go_wp2_with fail
  refine (HG.out _).mono ?_
  rintro x w2 ⟨rfl, rfl⟩
  go_wp2_with fail
  refine (HW.out _).mono ?_
  rintro x w3 ⟨rfl, g3⟩
  have D3 := D1.below (by omega) g3
  have G3 : Below w.heap.size w w3 := btr G1 g3 (Nat.le_refl _)
  clear g3 c0 c1 c2 c3 c4 c5 c6 c7 c8 c9 c10 c11 c12 cf D1 G1
  have D4 := D3
  obtain ⟨⟨c0, c1, c2, c3, c4, c5, c6, c7, c8, c9, c10, c11, c12⟩, cf⟩ := D3
  go_wp2_with fail
  refine bodyPost_ret (res27e (b := w.heap.size + 1) (s := t) rfl rfl (D4.setAll t).1) rfl ?_
  exact ⟨rfl, below_setAll t G3 (by omega)⟩

/-- What Put answers. -/
def putE (s : Sn) (f v : Int) : Int := if mayB f = true ∧ hasB s f = true then (if v > grV f ∨ (f = 3 ∧ v < 4096) then 1 else if f = 3 ∧ s.vl = 0 then 31 else 0) else 20
def putS (s : Sn) (f v : Int) : Sn := if putE s f v = 0 then withV s f v else sn0
theorem may_six {f : Int} (h : mayB f = true) (hf : ¬ (f < 1 ∨ 9 < f)) : f = 2 ∨ f = 3 ∨ f = 5 ∨ f = 6 ∨ f = 8 ∨ f = 9 := by
  simp [mayB] at h; omega
theorem fput_any (s : Sn) (f v : Int) (w : World) (h0 : 0 ≤ v) : Calls Tryz.prog 169 #[snV s, .int .i64 f, .int .u64 v] w fun e w' => e = .returned (.tuple #[snV (putS s f v), .int .i64 (putE s f v)]) ∧ Below w.heap.size w w' := by
  have hm := mayPut_any f
  have hh := has_any s f
  have hg := fgreatest_any f
  unfold putS
  by_cases c1 : mayB f = true
  · rw [c1] at hm
    by_cases c2 : hasB s f = true
    · rw [c2] at hh
      have e : putE s f v = (if v > grV f ∨ (f = 3 ∧ v < 4096) then 1 else if f = 3 ∧ s.vl = 0 then 31 else 0) := if_pos ⟨c1, c2⟩
      by_cases c3 : v > grV f
      · rw [if_pos (Or.inl c3)] at e
        rw [e, if_neg (by decide)]
        exact put_b1 s f v w hm hh _ hg c3
      · by_cases c4 : f = 3
        · have b3 : (f == 3) = true := by simp [c4]
          by_cases c5 : v < 4096
          · rw [if_pos (Or.inr ⟨c4, c5⟩)] at e
            rw [e, if_neg (by decide)]
            exact put_b2 s f v w hm hh _ hg (by omega) b3 c5
          · rw [if_neg (by omega)] at e
            by_cases c6 : s.vl = 0
            · rw [if_pos ⟨c4, c6⟩] at e
              rw [e, if_neg (by decide)]
              exact put_c s f v w hm hh _ hg (by omega) b3 (by omega) (by simp [c6])
            · rw [if_neg (fun x => c6 x.2)] at e
              rw [e, if_pos rfl]
              exact put_d1 s f v w hm hh _ hg (by omega) b3 (by omega) (by simp [c6]) _ (fun w => with_any s f v w (may_six c1 (has_field c2)) h0 (by omega))
        · rw [if_neg (by omega), if_neg (fun x => c4 x.1)] at e
          rw [e, if_pos rfl]
          exact put_d2 s f v w hm hh _ hg (by omega) (by simp [c4]) _ (fun w => with_any s f v w (may_six c1 (has_field c2)) h0 (by omega))
    · have e : putE s f v = 20 := if_neg (fun x => c2 x.2)
      rw [e, if_neg (by decide)]
      rw [Bool.eq_false_iff.mpr c2] at hh
      exact put_a2 s f v w hm hh
  · have e : putE s f v = 20 := if_neg (fun x => c1 x.1)
    rw [e, if_neg (by decide)]
    rw [Bool.eq_false_iff.mpr c1] at hm
    exact put_a1 s f v w hm
end Go.Proofs.YtgnihbdcdefdgaaGreatDoor.Fd
/-
  What Push and Pop answer, and the document's, as contracts.
-/
namespace Go.Proofs.YtgnihbdcdefdgaaGreatDoor.Fd
open Mt
open Go.ChangeShapes Go.WideShapes Go.ChangeAt Go.RowKit

def pushE (s : Sn) (n : Int) : Int := if s.vl = 0 then (if n > 4095 then 1 else 0) else 29
def pushS (s : Sn) (n : Int) : Sn := if pushE s n = 0 then { s with vl := 4096 + n } else sn0
def popE (s : Sn) : Int := if s.vl = 0 then 31 else 0
def popS (s : Sn) : Sn := if s.vl = 0 then sn0 else { s with vl := 0 }

set_option maxHeartbeats 4000000 in
theorem push_a (s : Sn) (n : Int) (w : World) (bl : (s.vl != 0) = true) : Calls Tryz.prog 167 #[snV s, .int .u64 n] w fun e w' => e = .returned (.tuple #[snV sn0, .int .i64 29]) ∧ Below w.heap.size w w' := by
  go_enter Tryz.func167, Tryz.ntmps167
  go_wp2_with fail
  refine bodyPost_ret (res27e (b := w.heap.size + 1) (s := sn0) rfl rfl (by unfold Bx sn0; simp)) rfl ?_
  exact ⟨rfl, by go_grown⟩
set_option maxHeartbeats 4000000 in
theorem push_b (s : Sn) (n : Int) (w : World) (bl : (s.vl != 0) = false) (hn : n > 4095) : Calls Tryz.prog 167 #[snV s, .int .u64 n] w fun e w' => e = .returned (.tuple #[snV sn0, .int .i64 1]) ∧ Below w.heap.size w w' := by
  go_enter Tryz.func167, Tryz.ntmps167
  go_wp2_with fail
  refine bodyPost_ret (res27e (b := w.heap.size + 1) (s := sn0) rfl rfl (by unfold Bx sn0; simp)) rfl ?_
  exact ⟨rfl, by go_grown⟩
set_option maxHeartbeats 4000000 in
theorem push_c (s t : Sn) (n : Int) (w : World) (bl : (s.vl != 0) = false) (h0 : 0 ≤ n) (hn : n ≤ 4095)
    (HW : Hid (∀ w, Calls Tryz.prog 210 #[snV s, .int .i64 3, .int .u64 (4096 + n)] w fun e w' => e = .returned (snV t) ∧ Below w.heap.size w w')) :
    Calls Tryz.prog 167 #[snV s, .int .u64 n] w fun e w' => e = .returned (.tuple #[snV t, .int .i64 0]) ∧ Below w.heap.size w w' := by
  go_enter Tryz.func167, Tryz.ntmps167
  go_wp2_with fail
  refine (HW.out _).mono ?_
  rintro x w1 ⟨rfl, g1⟩
  have D1 := (Bw.two w s).below (by simp) g1
  have G1 : Below w.heap.size w w1 := btr (by go_grown) g1 (by simp)
  clear g1
  have D2 := D1
  obtain ⟨⟨c0, c1, c2, c3, c4, c5, c6, c7, c8, c9, c10, c11, c12⟩, cf⟩ := D1
  go_wp2_with fail
  refine bodyPost_ret (res27e (b := w.heap.size + 1) (s := t) rfl rfl (D2.setAll t).1) rfl ?_
  exact ⟨rfl, below_setAll t G1 (by omega)⟩
theorem push_any (s : Sn) (n : Int) (w : World) (h0 : 0 ≤ n) : Calls Tryz.prog 167 #[snV s, .int .u64 n] w fun e w' => e = .returned (.tuple #[snV (pushS s n), .int .i64 (pushE s n)]) ∧ Below w.heap.size w w' := by
  unfold pushS
  by_cases c1 : s.vl = 0
  · have e : pushE s n = (if n > 4095 then 1 else 0) := if_pos c1
    by_cases c2 : n > 4095
    · rw [if_pos c2] at e
      rw [e, if_neg (by decide)]
      exact push_b s n w (by simp [c1]) c2
    · rw [if_neg c2] at e
      rw [e, if_pos rfl]
      exact push_c s _ n w (by simp [c1]) h0 (by omega) (fun w => with_3 s (4096 + n) w (by omega) (by omega))
  · have e : pushE s n = 29 := if_neg c1
    rw [e, if_neg (by decide)]
    exact push_a s n w (by simp [c1])

set_option maxHeartbeats 4000000 in
theorem pop_a (s : Sn) (w : World) (bl : (s.vl == 0) = true) : Calls Tryz.prog 168 #[snV s] w fun e w' => e = .returned (.tuple #[snV sn0, .int .i64 31]) ∧ Below w.heap.size w w' := by
  go_enter Tryz.func168, Tryz.ntmps168
  go_wp2_with fail
  refine bodyPost_ret (res27e (b := w.heap.size + 1) (s := sn0) rfl rfl (by unfold Bx sn0; simp)) rfl ?_
  exact ⟨rfl, by go_grown⟩
set_option maxHeartbeats 4000000 in
theorem pop_b (s t : Sn) (w : World) (bl : (s.vl == 0) = false)
    (HW : Hid (∀ w, Calls Tryz.prog 210 #[snV s, .int .i64 3, .int .u64 0] w fun e w' => e = .returned (snV t) ∧ Below w.heap.size w w')) :
    Calls Tryz.prog 168 #[snV s] w fun e w' => e = .returned (.tuple #[snV t, .int .i64 0]) ∧ Below w.heap.size w w' := by
  go_enter Tryz.func168, Tryz.ntmps168
  go_wp2_with fail
  refine (HW.out _).mono ?_
  rintro x w1 ⟨rfl, g1⟩
  have D1 := (Bw.two w s).below (by simp) g1
  have G1 : Below w.heap.size w w1 := btr (by go_grown) g1 (by simp)
  clear g1
  have D2 := D1
  obtain ⟨⟨c0, c1, c2, c3, c4, c5, c6, c7, c8, c9, c10, c11, c12⟩, cf⟩ := D1
  go_wp2_with fail
  refine bodyPost_ret (res27e (b := w.heap.size + 1) (s := t) rfl rfl (D2.setAll t).1) rfl ?_
  exact ⟨rfl, below_setAll t G1 (by omega)⟩
theorem pop_any (s : Sn) (w : World) : Calls Tryz.prog 168 #[snV s] w fun e w' => e = .returned (.tuple #[snV (popS s), .int .i64 (popE s)]) ∧ Below w.heap.size w w' := by
  unfold popS popE
  by_cases c1 : s.vl = 0
  · rw [if_pos c1, if_pos c1]
    exact pop_a s w (by simp [c1])
  · rw [if_neg c1, if_neg c1]
    exact pop_b s _ w (by simp [c1]) (fun w => with_3 s 0 w (by omega) (by omega))

end Go.Proofs.YtgnihbdcdefdgaaGreatDoor.Fd

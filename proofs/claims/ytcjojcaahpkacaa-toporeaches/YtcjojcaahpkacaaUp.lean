/-
  Which links are there, and not down.
-/
import Derived.Test.YtcjojcaahpkacaaInts
import Derived.Test.YtcjojcaahpkacaaGraph
namespace Go.Proofs.Ytcjojcaahpkacaa
open Go.ChangeShapes Go.WideShapes Go.ChangeAt Go.RowKit
set_option linter.unusedVariables false

theorem infoB : (Try.prog.info? 4).map (fun i => (i.zero, i.size, i.bytes)) = some (some (.bool false), 1, 1) := by kernel_rfl
/-- A row of bools, made. -/
def boolZ (m : Nat) : Array Value := madeCells #[Value.bool false] (m * 1)
theorem boolZ_at (m i : Nat) (h : i < m) : (boolZ m)[i]? = some (.bool false) := by
  unfold boolZ madeCells
  simp [h, Nat.mod_one]
theorem wpList_bools {w : World} {ops : Array Oper} {rest : List Oper} {o : Oper} {a : Go.Act} {Q : Exit → Go.Act → World → Prop} (hgd : o.guard = none) (x y : Operand) (ho : o.op = .makeSlice 66 x y) (z : Int) (n : Nat) (hz : z = n) (hn : n ≤ 1000) (hx : a.eval x = .int .i64 z) (hy : a.eval y = .int .i64 z)
    (h : wpList Try.prog ops Q rest (a.put o.dst (.slice (some ⟨w.heap.size, 0, none⟩) n n)) (w.alloc (.cells (boolZ n) 4))) : wpList Try.prog ops Q (o :: rest) a w := by
  subst hz
  refine wpList_plain hgd fun K hK => ?_
  obtain ⟨i0, hi, hz0, hz1, hz2⟩ := info_parts infoB
  have hr := run_make (P := Try.prog) w 66 4 i0 _ Try.underlying66 hi hz0 .i64 .i64 n n (by omega) (by omega) (by rw [hz2]; omega) (by omega)
  rw [hz1] at hr
  simp only [Int.toNat_natCast] at hr
  unfold Oper.wp execOp
  simp only [ho, hx, hy, Sem.run_bind, hr, Result.andThen_ok]
  exact hK _ _ h
/-- A row of bools at block u, between two steps. -/
structure UpI (w : World) (u m : Nat) (f : Nat → Bool) (wr : World) : Prop where
  cell : ∀ j, j ≤ m → wr.cell? ⟨u, j, none⟩ = some (.bool (f j))
  fz : ∀ j, wr.frozen? ⟨u, j, none⟩ = false
  lt : u < wr.heap.size
  bel : Below w.heap.size w wr
theorem UpI.set {w wr : World} {u m : Nat} {f : Nat → Bool} (h : UpI w u m f wr) (hu : w.heap.size ≤ u) {i : Nat} (hi : i ≤ m) (b : Bool) : UpI w u m (fun j => if j = i then b else f j) (wr.setCell ⟨u, i, none⟩ (.bool b)) := by
  refine ⟨fun j hj => ?_, fun j => by simpa using h.fz j, by simpa [World.setCell] using h.lt, h.bel.setCell hu _⟩
  by_cases e : j = i
  · subst e
    rw [if_pos rfl]
    exact World.cell?_setCell_same _ _ _ (h.cell j hj)
  · rw [if_neg e]
    exact (World.cell?_setCell_other _ _ _ _ (fun e' => e (by cases e'; rfl))).trans (h.cell j hj)
theorem UpI.like {w wr : World} {u m : Nat} {f f' : Nat → Bool} (h : UpI w u m f wr) (e : ∀ j, j ≤ m → f' j = f j) : UpI w u m f' wr := ⟨fun j hj => by rw [e j hj]; exact h.cell j hj, h.fz, h.lt, h.bel⟩
theorem UpI.new {w : World} (m : Nat) : UpI w w.heap.size m (fun _ => false) (w.alloc (.cells (boolZ (m + 1)) 4)) := by
  refine ⟨fun j hj => ?_, fun j => by simp, by simp, by go_grown⟩
  have h : (w.alloc (.cells (boolZ (m + 1)) 4)).heap[w.heap.size]? = some (.cells (boolZ (m + 1)) 4 (0, 0)) := heap_alloc_new w _
  rw [cell_of_row _ _ _ _ _ _ h]
  exact boolZ_at _ _ (by omega)
set_option maxRecDepth 20000 in
set_option maxHeartbeats 4000000 in
theorem up_any {B t e n : Nat} {w : World} {cv : Value} {L : List Lk} (h : Tm B w t e cv n L) (hL : L.length ≤ 64) (a : Option Addr) (ds : List Int) (cap : Nat) (hd : Is w a ds) (hdl : ds.length ≤ 1000) :
    Calls Try.prog 35 #[.pointer (some ⟨t, 0, none⟩), .slice a ds.length cap] w fun r w' => r = .returned (.slice (some ⟨w.heap.size, 0, none⟩) (L.length + 1) (L.length + 1)) ∧ UpI w w.heap.size L.length (fun j => upB L.length ds j) w' := by
  obtain ⟨ca, ck, rfl, hcs⟩ := h.cost
  have cc := h.cc
  have tl := h.tl
  have HC : Hid (∀ w', Below w.heap.size w w' → w'.cell? ⟨t, 193, none⟩ = some (.slice ca L.length ck) ∧ Is w' a ds) := (show ∀ w', _ from fun w' g => ⟨(g.cell (p := ⟨t, 193, none⟩) tl).trans cc, hd.below g⟩)
  clear h hd hcs cc
  generalize L.length = m at *
  obtain ⟨cc, _⟩ := HC.out w (Below.refl _ _)
  have fit : 1 ≤ m + 1 := by omega
  go_enter Try.func35, Try.ntmps35
  go_wp2_with (at_make; refine wpList_bools rfl _ _ rfl _ (m + 1) (by omega) (by omega) rfl rfl ?_)
  obtain ⟨U, hU⟩ : ∃ U, w.alloc (.cells (boolZ (m + 1)) 4) = U := ⟨_, rfl⟩
  have H0 : Hid (UpI w w.heap.size m (fun j => decide (1 ≤ j ∧ j ≤ 0)) U) := (show UpI _ _ _ _ _ by
    rw [← hU]
    exact (UpI.new m).like (fun j hj => by simp; omega))
  rw [hU]
  clear hU cc tl
  go_loopw [21] (fun v21 wr => ∃ k : Nat, k ≤ m ∧ v21 = .int .i64 k ∧ Hid (UpI w w.heap.size m (fun j => decide (1 ≤ j ∧ j ≤ k)) wr)) (fun v21 _ => m - (intOf v21).toNat)
  case atStart => exact ⟨0, Nat.zero_le _, rfl, H0⟩
  case round =>
    obtain ⟨k, hk, rfl, HI⟩ := hrel
    by_cases hlt : k < m
    · have d0 := HI.out.cell (k + 1) (by omega)
      have f0 := HI.out.fz (k + 1)
      have HN : Hid (UpI w w.heap.size m (fun j => decide (1 ≤ j ∧ j ≤ k + 1)) (wr.setCell ⟨w.heap.size, k + 1, none⟩ (.bool true))) := (show UpI _ _ _ _ _ from (HI.out.set (Nat.le_refl _) (show k + 1 ≤ m by omega) true).like (fun j hj => by
        by_cases e : j = k + 1
        · rw [if_pos e]; simp; omega
        · rw [if_neg e, Bool.eq_iff_iff]; simp; omega))
      go_wp2
      go_roundw
      case rel => exact ⟨k + 1, by omega, by go_num, HN⟩
      case measure => simp [intOf]; omega
    · have hkm : k = m := by omega
      have H1 : Hid (UpI w w.heap.size m (fun j => upB m (ds.take 0) j) wr) := (show UpI _ _ _ _ _ from HI.out.like (fun j hj => by unfold upB inB; rw [Bool.eq_iff_iff]; simp; omega))
      clear hkm
      go_wp2
      go_loopw [31] (fun v31 wr => ∃ k : Nat, k ≤ ds.length ∧ v31 = .int .i64 k ∧ Hid (UpI w w.heap.size m (fun j => upB m (ds.take k) j) wr)) (fun v31 _ => ds.length - (intOf v31).toNat)
      case atStart => exact ⟨0, Nat.zero_le _, rfl, H1⟩
      case round =>
        obtain ⟨k2, hk2, rfl, HJ⟩ := hrel
        obtain ⟨cc, hIs⟩ := HC.out _ HJ.out.bel
        by_cases hl2 : k2 < ds.length
        · obtain ⟨g, o, rfl, hg, hc⟩ := hIs.at hl2
          have d0 := hc k2 hl2
          have htk : ds.take (k2 + 1) = ds.take k2 ++ [ds[k2]] := List.take_succ_eq_append_getElem hl2
          obtain ⟨x, hx⟩ : ∃ x, ds[k2] = x := ⟨_, rfl⟩
          rw [hx] at d0 htk
          have HTK : Hid (ds.take (k2 + 1) = ds.take k2 ++ [x]) := htk
          clear htk hx hc
          cases hb : inB x 1 m
          · have HB : Hid (inB x 1 m = false) := hb
            have HN : Hid (UpI w w.heap.size m (fun j => upB m (ds.take (k2 + 1)) j) wr) := (show UpI _ _ _ _ _ from HJ.out.like (fun j hj => by
              unfold upB
              rw [HTK.out]
              have hb' := inB_false.1 hb
              by_cases e : (j : Int) = x
              · rw [e, hb]; rfl
              · simp [e]))
            clear hb hIs
            go_wp2_with (go_at_call 27; refine (within_any _ _ _ _).mono ?_; rw [HB.out]; rintro r u ⟨rfl, z⟩; obtain rfl : wr = u := z.symm; clear z)
            go_roundw
            case rel => exact ⟨k2 + 1, by omega, by go_num, HN⟩
            case measure => simp [intOf]; omega
          · have HB : Hid (inB x 1 m = true) := hb
            obtain ⟨b1, b2⟩ := inB_true.1 hb
            obtain ⟨i, rfl⟩ : ∃ i : Nat, x = (i : Int) := ⟨x.toNat, by omega⟩
            have him : i ≤ m := by omega
            have e0 := HJ.out.cell i him
            have f0 := HJ.out.fz i
            have HN : Hid (UpI w w.heap.size m (fun j => upB m (ds.take (k2 + 1)) j) (wr.setCell ⟨w.heap.size, i, none⟩ (.bool false))) := (show UpI _ _ _ _ _ from (HJ.out.set (Nat.le_refl _) him false).like (fun j hj => by
              unfold upB
              rw [HTK.out]
              by_cases e : j = i
              · rw [if_pos e, e]; simp
              · have e' : (j : Int) ≠ (i : Int) := by omega
                rw [if_neg e]; simp [e']))
            clear hb hIs
            go_wp2_with (go_at_call 27; refine (within_any _ _ _ _).mono ?_; rw [HB.out]; rintro r u ⟨rfl, z⟩; obtain rfl : wr = u := z.symm; clear z)
            go_roundw
            case rel => exact ⟨k2 + 1, by omega, by go_num, HN⟩
            case measure => simp [intOf]; omega
        · have HF : Hid (UpI w w.heap.size m (fun j => upB m ds j) wr) := (show UpI _ _ _ _ _ by
            have := HJ.out
            rwa [List.take_of_length_le (by omega)] at this)
          clear hIs
          go_wp2
          go_ret
          exact ⟨rfl, HF.out⟩
end Go.Proofs.Ytcjojcaahpkacaa

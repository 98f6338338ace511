/-
  The bits of a row that a mask has; the bits of two rows.
-/
import Derived.Test.YtmobmpghpdaddaaRow
namespace Go.Proofs.Ytmobmpghpdaddaa
open Go.ChangeShapes Go.WideShapes Go.ChangeAt Go.RowKit
set_option linter.unusedVariables false

/-- A row whose first k places are worked over. -/
def mixR (r m : Nat → B64) (g : B64 → B64 → B64) (k : Nat) : Nat → B64 := fun f => if f < k then g (r f) (m f) else r f
theorem mixR_at (r m : Nat → B64) (g : B64 → B64 → B64) (k : Nat) : mixR r m g k k = r k := by unfold mixR; rw [if_neg (Nat.lt_irrefl k)]
theorem mixR_lt (r m : Nat → B64) (g : B64 → B64 → B64) {k f : Nat} (h : f < k) : mixR r m g k f = g (r f) (m f) := by unfold mixR; rw [if_pos h]
theorem mixR_set (r m : Nat → B64) (g : B64 → B64 → B64) (k f : Nat) : upd (mixR r m g k) k (g (r k) (m k)) f = mixR r m g (k + 1) f := by
  by_cases e : f = k
  · subst e; rw [upd_same, mixR_lt _ _ _ (Nat.lt_succ_self f)]
  · rw [upd_other _ _ e]
    unfold mixR
    by_cases e2 : f < k
    · rw [if_pos e2, if_pos (by omega)]
    · rw [if_neg e2, if_neg (by omega)]
/-- A row is worked over, place by place: the first k are done. -/
structure UnI (w : World) (r m : Nat → B64) (g : B64 → B64 → B64) (k : Nat) (wr : World) : Prop where
  row : R10 wr w.heap.size 0 (mixR r m g k)
  msk : R10 wr (w.heap.size + 1) 0 m
  wri : wr.there w.heap.size 0 10
  res : wr.there (w.heap.size + 2) 0 10
  bel : Below w.heap.size w wr
theorem UnI.new (w : World) (r m : Nat → B64) (g : B64 → B64 → B64) : UnI w r m g 0 (((w.alloc (.cells (rowA r) 62)).alloc (.cells (rowA m) 62)).alloc (.cells (rowA zeroR) 62)) := by
  have h1 := R10.new w r 62
  have h2 := R10.new (w.alloc (.cells (rowA r) 62)) m 62
  have h3 := there_new ((w.alloc (.cells (rowA r) 62)).alloc (.cells (rowA m) 62)) (rowA zeroR) 62 10 (rowA_size _)
  have h4 := there_new w (rowA r) 62 10 (rowA_size _)
  simp only [World.size_alloc] at h2 h3
  have e1 : ((w.alloc (.cells (rowA r) 62)).alloc (.cells (rowA m) 62)).heap[w.heap.size]? = (w.alloc (.cells (rowA r) 62)).heap[w.heap.size]? := heap_alloc_old _ _ (by simp)
  have e2 : (((w.alloc (.cells (rowA r) 62)).alloc (.cells (rowA m) 62)).alloc (.cells (rowA zeroR) 62)).heap[w.heap.size]? = ((w.alloc (.cells (rowA r) 62)).alloc (.cells (rowA m) 62)).heap[w.heap.size]? := heap_alloc_old _ _ (by simp; omega)
  have e3 : (((w.alloc (.cells (rowA r) 62)).alloc (.cells (rowA m) 62)).alloc (.cells (rowA zeroR) 62)).heap[w.heap.size + 1]? = ((w.alloc (.cells (rowA r) 62)).alloc (.cells (rowA m) 62)).heap[w.heap.size + 1]? := heap_alloc_old _ _ (by simp)
  exact ⟨(h1.block e1).block e2, h2.block e3, there_block (there_block h4 e1) e2, h3, by go_grown⟩
theorem UnI.set {w wr : World} {r m : Nat → B64} {g : B64 → B64 → B64} {k : Nat} (h : UnI w r m g k wr) (hk : k < 10) : UnI w r m g (k + 1) (wr.setCell ⟨w.heap.size, k, none⟩ (cv (g (r k) (m k)))) := by
  refine ⟨?_, h.msk.beside (.inl (by omega)) _, there_set h.wri _ _, there_set h.res _ _, h.bel.setCell (Nat.le_refl _) _⟩
  have := h.row.set hk (g (r k) (m k))
  rw [Nat.zero_add] at this
  exact fun f hf => by rw [← mixR_set]; exact this f hf
theorem UnI.drew {w wr : World} {r m : Nat → B64} {g : B64 → B64 → B64} {k : Nat} (h : UnI w r m g k wr) : UnI w r m g k wr.drew := ⟨h.row.drew, h.msk.drew, there_drew h.wri, there_drew h.res, h.bel.drew⟩
set_option maxRecDepth 20000 in
set_option maxHeartbeats 2000000 in
theorem under_any (r m : Nat → B64) (w : World) :
    Calls Try.prog 60 #[.agg (rowA r), .agg (rowA m)] w fun e w' => e = .returned (.agg (rowA fun f => r f &&& m f)) ∧ Below w.heap.size w w' := by
  go_enter Try.func60, Try.ntmps60
  go_wp2
  rw [zero_row]
  have H0 : Hid (UnI w r m (fun x y => x &&& y) 0 (((w.alloc (.cells (rowA r) 62)).alloc (.cells (rowA m) 62)).alloc (.cells (rowA zeroR) 62))) := UnI.new w r m _
  obtain ⟨U, hU⟩ : ∃ U, ((w.alloc (.cells (rowA r) 62)).alloc (.cells (rowA m) 62)).alloc (.cells (rowA zeroR) 62) = U := ⟨_, rfl⟩
  rw [hU] at H0 ⊢
  clear hU
  go_loopw [6] (fun v6 wr => ∃ k : Nat, k ≤ 10 ∧ v6 = .int .i64 k ∧ Hid (UnI w r m (fun x y => x &&& y) k wr)) (fun v6 _ => 10 - (intOf v6).toNat)
  case atStart => exact ⟨0, by omega, rfl, H0⟩
  case round =>
    obtain ⟨k, hk, rfl, HI⟩ := hrel
    by_cases hlt : k < 10
    · have c1 := HI.out.row k hlt
      have c2 := HI.out.msk k hlt
      have c3 := (HI.out.wri k hlt).2
      rw [Nat.zero_add] at c1 c2 c3
      rw [mixR_at] at c1
      have HN : Hid (UnI w r m (fun x y => x &&& y) (k + 1) (wr.setCell ⟨w.heap.size, k, none⟩ (cv (r k &&& m k))).drew) := HI.out.set hlt |>.drew
      have hb := b_and (r k) (m k)
      generalize r k = x at *
      generalize m k = y at *
      go_wp2_with fail
      go_region
      go_wp2
      go_roundw
      case rel => exact ⟨k + 1, by omega, by go_num, HN⟩
      case measure => simp [intOf]; omega
    · have hk10 : k = 10 := by omega
      subst hk10
      have HR : Hid (R10 wr w.heap.size 0 (fun f => r f &&& m f)) := (show R10 _ _ _ _ from fun f hf => by have := HI.out.row f hf; rwa [mixR_lt _ _ _ hf] at this)
      have HS : Hid (R10 (wr.setCells (w.heap.size + 2) 0 (rowL fun f => r f &&& m f)) (w.heap.size + 2) 0 (fun f => r f &&& m f) ∧ Below w.heap.size w (wr.setCells (w.heap.size + 2) 0 (rowL fun f => r f &&& m f))) := ⟨stored_row HI.out.res _, below_setCells HI.out.bel (by omega) _ _⟩
      go_wp2_with (first | (refine load_row rfl (.tmp 2) rfl w.heap.size 0 rfl (fun f => r f &&& m f) HR.out ?_) | (refine store_row rfl (.tmp 4) (.tmp 18) rfl (w.heap.size + 2) 0 rfl (fun f => r f &&& m f) rfl HI.out.res ?_; generalize wr.setCells (w.heap.size + 2) 0 (rowL fun f => r f &&& m f) = V at *))
      exact bodyPost_ret (results_row rfl _ _ _ _ _ rfl HS.out.1) rfl ⟨rfl, HS.out.2⟩
set_option maxRecDepth 20000 in
set_option maxHeartbeats 2000000 in
theorem with_any (r m : Nat → B64) (w : World) :
    Calls Try.prog 61 #[.agg (rowA r), .agg (rowA m)] w fun e w' => e = .returned (.agg (rowA fun f => r f ||| m f)) ∧ Below w.heap.size w w' := by
  go_enter Try.func61, Try.ntmps61
  go_wp2
  rw [zero_row]
  have H0 : Hid (UnI w r m (fun x y => x ||| y) 0 (((w.alloc (.cells (rowA r) 62)).alloc (.cells (rowA m) 62)).alloc (.cells (rowA zeroR) 62))) := UnI.new w r m _
  obtain ⟨U, hU⟩ : ∃ U, ((w.alloc (.cells (rowA r) 62)).alloc (.cells (rowA m) 62)).alloc (.cells (rowA zeroR) 62) = U := ⟨_, rfl⟩
  rw [hU] at H0 ⊢
  clear hU
  go_loopw [6] (fun v6 wr => ∃ k : Nat, k ≤ 10 ∧ v6 = .int .i64 k ∧ Hid (UnI w r m (fun x y => x ||| y) k wr)) (fun v6 _ => 10 - (intOf v6).toNat)
  case atStart => exact ⟨0, by omega, rfl, H0⟩
  case round =>
    obtain ⟨k, hk, rfl, HI⟩ := hrel
    by_cases hlt : k < 10
    · have c1 := HI.out.row k hlt
      have c2 := HI.out.msk k hlt
      have c3 := (HI.out.wri k hlt).2
      rw [Nat.zero_add] at c1 c2 c3
      rw [mixR_at] at c1
      have HN : Hid (UnI w r m (fun x y => x ||| y) (k + 1) (wr.setCell ⟨w.heap.size, k, none⟩ (cv (r k ||| m k))).drew) := HI.out.set hlt |>.drew
      have hb := b_or (r k) (m k)
      generalize r k = x at *
      generalize m k = y at *
      go_wp2_with fail
      go_region
      go_wp2
      go_roundw
      case rel => exact ⟨k + 1, by omega, by go_num, HN⟩
      case measure => simp [intOf]; omega
    · have hk10 : k = 10 := by omega
      subst hk10
      have HR : Hid (R10 wr w.heap.size 0 (fun f => r f ||| m f)) := (show R10 _ _ _ _ from fun f hf => by have := HI.out.row f hf; rwa [mixR_lt _ _ _ hf] at this)
      have HS : Hid (R10 (wr.setCells (w.heap.size + 2) 0 (rowL fun f => r f ||| m f)) (w.heap.size + 2) 0 (fun f => r f ||| m f) ∧ Below w.heap.size w (wr.setCells (w.heap.size + 2) 0 (rowL fun f => r f ||| m f))) := ⟨stored_row HI.out.res _, below_setCells HI.out.bel (by omega) _ _⟩
      go_wp2_with (first | (refine load_row rfl (.tmp 2) rfl w.heap.size 0 rfl (fun f => r f ||| m f) HR.out ?_) | (refine store_row rfl (.tmp 4) (.tmp 18) rfl (w.heap.size + 2) 0 rfl (fun f => r f ||| m f) rfl HI.out.res ?_; generalize wr.setCells (w.heap.size + 2) 0 (rowL fun f => r f ||| m f) = V at *))
      exact bodyPost_ret (results_row rfl _ _ _ _ _ rfl HS.out.1) rfl ⟨rfl, HS.out.2⟩
end Go.Proofs.Ytmobmpghpdaddaa

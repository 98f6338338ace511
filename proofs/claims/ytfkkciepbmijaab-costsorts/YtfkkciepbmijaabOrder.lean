/-
  What Order answers: the places of a row in order, in a row of its own.
-/
import Derived.Test.YtfkkciepbmijaabSStable
import Derived.Test.YtfkkciepbmijaabOrdP
import Derived.Test.YtfkkciepbmijaabOwn
namespace Go.Proofs.Ytfkkciepbmijaab
open Go.ChangeShapes Go.WideShapes Go.ChangeAt Go.RowKit
set_option linter.unusedVariables false

/-- A row of places, made. -/
def intZ (m : Nat) : Array Value := madeCells #[Value.int .i64 0] (m * 1)
theorem intZ_at (m i : Nat) (h : i < m) : (intZ m)[i]? = some (.int .i64 0) := by
  unfold intZ madeCells
  simp [h, Nat.mod_one]
theorem wpList_ints {w : World} {ops : Array Oper} {rest : List Oper} {o : Oper} {a : Go.Act} {Q : Exit → Go.Act → World → Prop} (hgd : o.guard = none) (x y : Operand) (ho : o.op = .makeSlice 25 x y) (z : Int) (n : Nat) (hz : z = n) (hn : n < 17592186044416) (hx : a.eval x = .int .i64 z) (hy : a.eval y = .int .i64 z)
    (h : wpList Try.prog ops Q rest (a.put o.dst (.slice (some ⟨w.heap.size, 0, none⟩) n n)) (w.alloc (.cells (intZ n) 3))) : wpList Try.prog ops Q (o :: rest) a w := by
  subst hz
  refine wpList_plain hgd fun K hK => ?_
  obtain ⟨i0, hi, hz0, hz1, hz2⟩ := info_parts infoI
  have hr := run_make (P := Try.prog) w 25 3 i0 _ Try.underlying25 hi hz0 .i64 .i64 n n (by omega) (by omega) (by rw [hz2]; omega) (by omega)
  rw [hz1] at hr
  simp only [Int.toNat_natCast] at hr
  unfold Oper.wp execOp
  simp only [ho, hx, hy, Sem.run_bind, hr, Result.andThen_ok]
  exact hK _ _ h
/-- A row of n places at block b, the first k of which are written. -/
structure FiI (b n k : Nat) (U wr : World) : Prop where
  cell : ∀ j, j < n → wr.cell? ⟨b, j, none⟩ = some (.int .i64 (if j < k then (j : Int) else 0))
  fz : ∀ j, wr.frozen? ⟨b, j, none⟩ = false
  lt : b < wr.heap.size
  bel : Below b U wr
theorem FiI.set {b n k : Nat} {U wr : World} (h : FiI b n k U wr) (hk : k < n) : FiI b n (k + 1) U (wr.setCell ⟨b, k, none⟩ (.int .i64 k)) := by
  refine ⟨fun j hj => ?_, fun j => by simpa using h.fz j, by simpa [World.setCell] using h.lt, h.bel.setCell (Nat.le_refl _) _⟩
  by_cases e : j = k
  · subst e
    rw [if_pos (by omega)]
    exact World.cell?_setCell_same _ _ _ (h.cell j hj)
  · have : (if j < k + 1 then (j : Int) else 0) = if j < k then (j : Int) else 0 := by
      by_cases g : j < k
      · rw [if_pos g, if_pos (by omega)]
      · rw [if_neg g, if_neg (by omega)]
    rw [this]
    exact (World.cell?_setCell_other _ _ _ _ (fun e' => e (by cases e'; rfl))).trans (h.cell j hj)
theorem FiI.new {w : World} (n : Nat) : FiI w.heap.size n 0 (w.alloc (.cells (intZ n) 3)) (w.alloc (.cells (intZ n) 3)) := by
  refine ⟨fun j hj => ?_, fun j => by simp, by simp, Below.refl _ _⟩
  rw [if_neg (by omega)]
  have h : (w.alloc (.cells (intZ n) 3)).heap[w.heap.size]? = some (.cells (intZ n) 3 (0, 0)) := heap_alloc_new w _
  rw [cell_of_row _ _ _ _ _ _ h]
  exact intZ_at _ _ hj
/-- What Order leaves: a row of its own. -/
structure OrR (w w' : World) (b : Nat) (d : List Int) : Prop where
  lo : w.heap.size ≤ b
  lt : b < w'.heap.size
  cells : ∀ i, i < d.length → w'.cell? ⟨b, i, none⟩ = some (.int .i64 (at' d i))
  fz : ∀ j, w'.frozen? ⟨b, j, none⟩ = false
  bel : Below w.heap.size w w'
set_option maxRecDepth 20000 in
set_option maxHeartbeats 4000000 in
theorem order_any (a : Option Addr) (l : List Nat) (cap : Nat) (w : World) (hs : Fs w a l) (hw : W64 l) (hl : l.length < 17592186044416) :
    Calls Try.prog 6 #[.slice a l.length cap] w fun e w' => ∃ b, e = .returned (.slice (some ⟨b, 0, none⟩) l.length l.length) ∧ OrR w w' b (ordL l) := by
  obtain ⟨X, hX⟩ : ∃ X, w.alloc (.cells #[.slice a l.length cap] 23) = X := ⟨_, rfl⟩
  have zX : X.heap.size = w.heap.size + 1 := by rw [← hX]; simp
  have gX : Below w.heap.size w X := by rw [← hX]; go_grown
  have cX : X.cell? ⟨w.heap.size, 0, none⟩ = some (.slice a l.length cap) := by rw [← hX]; simp
  obtain ⟨U, hU⟩ : ∃ U, X.alloc (.cells (intZ l.length) 3) = U := ⟨_, rfl⟩
  have zU : U.heap.size = w.heap.size + 2 := by rw [← hU]; simp [zX]
  have gU : Below X.heap.size X U := by rw [← hU]; go_grown
  have HF0 : Hid (FiI (w.heap.size + 1) l.length 0 U U) := (show FiI _ _ _ _ _ by
    rw [← hU, ← zX]; exact FiI.new l.length)
  have HE : Hid (0 < l.length → Ev l w.heap.size (w.heap.size + 1) U) := (show _ → _ from fun h0 => by
    obtain ⟨g, o, rfl, hg, hc⟩ := (hs.below gX).at h0
    have gX' : g < w.heap.size := by
      rcases hs with e | ⟨g', o', e, hg', _⟩
      · rw [e] at h0; cases h0
      · cases e; exact hg'
    exact ⟨by omega, by omega, hw, g, o, cap, (gU.cell (p := ⟨w.heap.size, 0, none⟩) (show w.heap.size < X.heap.size by omega)).trans cX, by omega, fun i hi => (gU.cell (p := ⟨g, _, none⟩) hg).trans (hc i hi)⟩)
  have HGU : Hid (Below w.heap.size w U) := (show Below _ _ _ from btr gX gU (by omega))
  have HSrt : Hid (∀ (wr : World), FiI (w.heap.size + 1) l.length l.length U wr → Calls Try.prog 16 #[.slice (some ⟨w.heap.size + 1, 0, none⟩) l.length l.length, fvP w.heap.size] wr fun e w' => e = .returned (.tuple #[]) ∧ OrR w w' (w.heap.size + 1) (ordL l)) := (show ∀ wr, _ from fun wr h => by
    have hbel : Below w.heap.size w wr := btr' HGU.out (h.bel.mono (Nat.le_succ _))
    by_cases h0 : 0 < l.length
    · have hR : Rw l w.heap.size wr (w.heap.size + 1) (places l.length) := ⟨fun i hi => by
        rw [places_len] at hi
        rw [places_at _ _ hi, h.cell i hi, if_pos hi], h.fz, h.lt, (HE.out h0).below h.bel⟩
      refine (sortStable_any (w.heap.size + 1) (places l.length) l.length l.length (places_len _).symm wr hR (places_aw l) (by omega)).mono ?_
      rintro e w' ⟨h1, h2, h3⟩
      exact ⟨h1, by omega, h2.lt, h2.cells, h2.mark, btr' hbel (h3.mono (Nat.le_succ _))⟩
    · have hz : l.length = 0 := by omega
      have hR : ordL l = [] := by rw [List.length_eq_zero_iff.1 hz]; rfl
      rw [hR, hz]
      refine (sortStable_none _ _ wr).mono ?_
      rintro e w' ⟨h1, rfl⟩
      exact ⟨h1, by omega, h.lt, fun i hi => by simp at hi, h.fz, hbel⟩)
  clear hs hw gX gU HE HGU
  generalize ordL l = R at *
  generalize l.length = n at *
  go_enter Try.func6, Try.ntmps6
  go_wp2_with (at_make; refine wpList_ints rfl _ _ rfl _ n rfl hl rfl rfl ?_)
  clear hX hU zX zU cX
  go_loopw [10] (fun v10 wr => ∃ k : Nat, k ≤ n ∧ v10 = .int .i64 k ∧ Hid (FiI (w.heap.size + 1) n k U wr)) (fun v10 _ => n - (intOf v10).toNat)
  case atStart => exact ⟨0, Nat.zero_le _, rfl, HF0⟩
  case round =>
    obtain ⟨k, hk, rfl, HJ⟩ := hrel
    by_cases hlt : k < n
    · have d0 := HJ.out.cell k hlt
      have f0 := HJ.out.fz k
      have HN : Hid (FiI (w.heap.size + 1) n (k + 1) U (wr.setCell ⟨w.heap.size + 1, k, none⟩ (.int .i64 k))) := (show FiI _ _ _ _ _ from HJ.out.set hlt)
      rw [if_neg (Nat.lt_irrefl k)] at d0
      go_wp2
      go_roundw
      case rel => exact ⟨k + 1, by omega, by go_num, HN⟩
      case measure => simp [intOf]; omega
    · have HE : Hid (FiI (w.heap.size + 1) n n U wr) := (show FiI _ _ _ _ _ by
        have := HJ.out
        rwa [show k = n by omega] at this)
      clear HJ
      go_wp2_with (go_at_call 16; refine (HSrt.out _ HE.out).mono ?_; rintro r u ⟨rfl, ho⟩; have HO : Hid (OrR w u (w.heap.size + 1) R) := ho; clear ho)
      go_ret
      exact ⟨_, rfl, HO.out⟩
end Go.Proofs.Ytfkkciepbmijaab

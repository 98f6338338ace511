/-
  And, Or, Not.
-/
import Derived.Test.YtmobmpghpdaddaaJoin
namespace Go.Proofs.Ytmobmpghpdaddaa
open Go.ChangeShapes Go.WideShapes Go.ChangeAt Go.RowKit
set_option linter.unusedVariables false
set_option linter.unusedSimpArgs false

theorem PrR.from {w X w' : World} {L : List Nd} {e : Ending} (h : PrR X L e w') (g : Below w.heap.size w X) : PrR w L e w' := by
  obtain ⟨v, hs, h1, h2, h3, h4⟩ := h
  exact ⟨v, hs, h1, h2.mono g.size, h3, btr g h4 (Nat.le_refl _)⟩
/-- What is answered is laid in the cell of the answer. -/
theorem PrR.store {w X w' : World} {b : Nat} {L : List Nd} {v : Value} {hs : List Nh} (h1 : NR X.heap.size w' v hs) (h2 : hs.map (·.x) = L) (h3 : Below X.heap.size X w') (g : Below w.heap.size w X) (hb : b < X.heap.size) (hb2 : w.heap.size ≤ b) : PrR w L (.returned (.agg #[v])) (w'.setCell ⟨b, 0, none⟩ v) :=
  ⟨v, hs, rfl, (h1.set hb).mono g.size, h2, (btr g h3 (Nat.le_refl _)).setCell (by simpa using hb2) _⟩
set_option maxRecDepth 20000 in
set_option maxHeartbeats 4000000 in
theorem and_any (a : Option Addr) (ps : List (List Nd)) (cap : Nat) (w : World) (hs : Ps w a ps) (hl : ps.length ≤ 9223372036854775807) (hll : ∀ l ∈ ps, l.length ≤ 9223372036854775807 ∧ ∀ x ∈ l, x.s.length ≤ 9223372036854775807) :
    Calls Try.prog 14 #[.slice a ps.length cap] w fun e w' => PrR w (madeL 4 ps) e w' := by
  obtain ⟨X, hX⟩ : ∃ X, w.alloc (.cells #[.slice none 0 0] 24) = X := ⟨_, rfl⟩
  have gX : Below w.heap.size w X := by rw [← hX]; go_grown
  have zX : X.heap.size = w.heap.size + 1 := by rw [← hX]; simp
  have tX : X.there w.heap.size 0 1 := by rw [← hX]; exact there_new w #[.slice none 0 0] 24 1 rfl
  have HG : Hid (Below w.heap.size w X ∧ X.heap.size = w.heap.size + 1) := ⟨gX, zX⟩
  have HJ : Hid (Calls Try.prog 43 #[.int .i64 4, .slice a ps.length cap] X fun e w' => ∃ v hs, e = .returned (.agg #[v]) ∧ NR X.heap.size w' v hs ∧ hs.map (·.x) = madeL 4 ps ∧ Below X.heap.size X w' ∧ w'.there w.heap.size 0 1) := (show Calls _ _ _ _ _ from (join_any 4 a ps cap X (hs.below gX) hl hll).mono fun e w' ⟨v, hs, h1, h2, h3, h4⟩ => ⟨v, hs, h1, h2, h3, h4, there_block tX (h4.block _ (by omega))⟩)
  obtain ⟨R, hR⟩ : ∃ R, madeL 4 ps = R := ⟨_, rfl⟩
  rw [hR] at HJ ⊢
  clear hs hR gX zX tX hll hl
  go_enter Try.func14, Try.ntmps14
  go_wp2_with (first
    | (go_at_call 43; refine (show Calls _ _ _ _ _ from HJ.out).mono ?_; rintro e w1 ⟨v, hs, rfl, h1, h2, h3, h4⟩; (obtain ⟨va, vc, hv, _⟩ := h1.ns); subst hv; have HQ : Hid (NR X.heap.size w1 (.slice va hs.length vc) hs ∧ hs.map (·.x) = R ∧ Below X.heap.size X w1 ∧ w1.there w.heap.size 0 1) := ⟨h1, h2, h3, h4⟩; clear h1 h2 h3 h4)
    | (refine store_pred rfl (.tmp 2) (.tmp 4) rfl w.heap.size 0 rfl (.slice va hs.length vc) rfl rfl HQ.out.2.2.2 ?_))
  have c0 := HQ.out.2.2.2 0 (by decide)
  obtain ⟨v0, hv0⟩ := Option.isSome_iff_exists.1 c0.1
  exact bodyPost_ret (results_pred rfl _ _ w.heap.size (.slice va hs.length vc) rfl (World.cell?_setCell_same _ _ _ hv0)) rfl (PrR.store HQ.out.1 HQ.out.2.1 HQ.out.2.2.1 HG.out.1 (by have := HG.out.2; omega) (Nat.le_refl _))
set_option maxRecDepth 20000 in
set_option maxHeartbeats 4000000 in
theorem or_any (a : Option Addr) (ps : List (List Nd)) (cap : Nat) (w : World) (hs : Ps w a ps) (hl : ps.length ≤ 9223372036854775807) (hll : ∀ l ∈ ps, l.length ≤ 9223372036854775807 ∧ ∀ x ∈ l, x.s.length ≤ 9223372036854775807) :
    Calls Try.prog 15 #[.slice a ps.length cap] w fun e w' => PrR w (madeL 5 ps) e w' := by
  obtain ⟨X, hX⟩ : ∃ X, w.alloc (.cells #[.slice none 0 0] 24) = X := ⟨_, rfl⟩
  have gX : Below w.heap.size w X := by rw [← hX]; go_grown
  have zX : X.heap.size = w.heap.size + 1 := by rw [← hX]; simp
  have tX : X.there w.heap.size 0 1 := by rw [← hX]; exact there_new w #[.slice none 0 0] 24 1 rfl
  have HG : Hid (Below w.heap.size w X ∧ X.heap.size = w.heap.size + 1) := ⟨gX, zX⟩
  have HJ : Hid (Calls Try.prog 43 #[.int .i64 5, .slice a ps.length cap] X fun e w' => ∃ v hs, e = .returned (.agg #[v]) ∧ NR X.heap.size w' v hs ∧ hs.map (·.x) = madeL 5 ps ∧ Below X.heap.size X w' ∧ w'.there w.heap.size 0 1) := (show Calls _ _ _ _ _ from (join_any 5 a ps cap X (hs.below gX) hl hll).mono fun e w' ⟨v, hs, h1, h2, h3, h4⟩ => ⟨v, hs, h1, h2, h3, h4, there_block tX (h4.block _ (by omega))⟩)
  obtain ⟨R, hR⟩ : ∃ R, madeL 5 ps = R := ⟨_, rfl⟩
  rw [hR] at HJ ⊢
  clear hs hR gX zX tX hll hl
  go_enter Try.func15, Try.ntmps15
  go_wp2_with (first
    | (go_at_call 43; refine (show Calls _ _ _ _ _ from HJ.out).mono ?_; rintro e w1 ⟨v, hs, rfl, h1, h2, h3, h4⟩; (obtain ⟨va, vc, hv, _⟩ := h1.ns); subst hv; have HQ : Hid (NR X.heap.size w1 (.slice va hs.length vc) hs ∧ hs.map (·.x) = R ∧ Below X.heap.size X w1 ∧ w1.there w.heap.size 0 1) := ⟨h1, h2, h3, h4⟩; clear h1 h2 h3 h4)
    | (refine store_pred rfl (.tmp 2) (.tmp 4) rfl w.heap.size 0 rfl (.slice va hs.length vc) rfl rfl HQ.out.2.2.2 ?_))
  have c0 := HQ.out.2.2.2 0 (by decide)
  obtain ⟨v0, hv0⟩ := Option.isSome_iff_exists.1 c0.1
  exact bodyPost_ret (results_pred rfl _ _ w.heap.size (.slice va hs.length vc) rfl (World.cell?_setCell_same _ _ _ hv0)) rfl (PrR.store HQ.out.1 HQ.out.2.1 HQ.out.2.2.1 HG.out.1 (by have := HG.out.2; omega) (Nat.le_refl _))
set_option maxRecDepth 20000 in
set_option maxHeartbeats 4000000 in
theorem not_any (a : Option Addr) (l : List Nd) (cap : Nat) (w : World) (hs : Ns w a l) (hc : l.length ≤ cap) (hl : l.length ≤ 9223372036854775807) (hll : ∀ x ∈ l, x.s.length ≤ 9223372036854775807) :
    Calls Try.prog 18 #[.agg #[.slice a l.length cap]] w fun e w' => PrR w (madeL 6 [l]) e w' := by
  obtain ⟨X, hX⟩ : ∃ X, ((w.alloc (.cells #[.slice a l.length cap] 24)).alloc (.cells #[.slice none 0 0] 24)).alloc (.cells #[.slice a l.length cap] 24) = X := ⟨_, rfl⟩
  have gX : Below w.heap.size w X := by rw [← hX]; go_grown
  have zX : X.heap.size = w.heap.size + 3 := by rw [← hX]; simp
  have tX : X.there (w.heap.size + 1) 0 1 := by
    rw [← hX]
    have := there_new (w.alloc (.cells #[.slice a l.length cap] 24)) #[.slice none 0 0] 24 1 rfl
    simp only [World.size_alloc] at this
    exact there_block this (heap_alloc_old _ _ (by simp))
  have cX : X.cell? ⟨w.heap.size + 2, 0, none⟩ = some (.slice a l.length cap) := by
    have hY : ∀ Y : World, Y.heap.size = w.heap.size + 2 → (Y.alloc (.cells #[.slice a l.length cap] 24)).cell? ⟨w.heap.size + 2, 0, none⟩ = some (.slice a l.length cap) := fun Y hY => by rw [← hY]; simp
    rw [← hX]
    exact hY _ (by simp)
  have HG : Hid (Below w.heap.size w X ∧ X.heap.size = w.heap.size + 3) := ⟨gX, zX⟩
  have HJ : Hid (Calls Try.prog 43 #[.int .i64 6, .slice (some ⟨w.heap.size + 2, 0, none⟩) 1 1] X fun e w' => ∃ v hs, e = .returned (.agg #[v]) ∧ NR X.heap.size w' v hs ∧ hs.map (·.x) = madeL 6 [l] ∧ Below X.heap.size X w' ∧ w'.there (w.heap.size + 1) 0 1) := (show Calls _ _ _ _ _ from (join_any 6 (some ⟨w.heap.size + 2, 0, none⟩) [l] 1 X (.inr ⟨w.heap.size + 2, 0, rfl, by omega, fun i hi => by
      obtain rfl : i = 0 := by simp at hi; omega
      exact ⟨a, cap, cX, hc, hs.below gX⟩⟩) (by simp) (fun x hx => by rw [List.mem_singleton] at hx; subst hx; exact ⟨hl, hll⟩)).mono fun e w' ⟨v, hs, h1, h2, h3, h4⟩ => ⟨v, hs, h1, h2, h3, h4, there_block tX (h4.block _ (by omega))⟩)
  obtain ⟨R, hR⟩ : ∃ R, madeL 6 [l] = R := ⟨_, rfl⟩
  rw [hR] at HJ ⊢
  clear hs hR gX zX tX hll hl cX
  go_enter Try.func18, Try.ntmps18
  go_wp2_with (first
    | (go_at_call 43; refine (show Calls _ _ _ _ _ from HJ.out).mono ?_; rintro e w1 ⟨v, hs, rfl, h1, h2, h3, h4⟩; (obtain ⟨va, vc, hv, _⟩ := h1.ns); subst hv; have HQ : Hid (NR X.heap.size w1 (.slice va hs.length vc) hs ∧ hs.map (·.x) = R ∧ Below X.heap.size X w1 ∧ w1.there (w.heap.size + 1) 0 1) := ⟨h1, h2, h3, h4⟩; clear h1 h2 h3 h4)
    | (refine store_pred rfl (.tmp 2) (.tmp 5) rfl (w.heap.size + 1) 0 rfl (.slice va hs.length vc) rfl rfl HQ.out.2.2.2 ?_))
  have c0 := HQ.out.2.2.2 0 (by decide)
  obtain ⟨v0, hv0⟩ := Option.isSome_iff_exists.1 c0.1
  exact bodyPost_ret (results_pred rfl _ _ (w.heap.size + 1) (.slice va hs.length vc) rfl (World.cell?_setCell_same _ _ _ hv0)) rfl (PrR.store HQ.out.1 HQ.out.2.1 HQ.out.2.2.1 HG.out.1 (by have := HG.out.2; omega) (by omega))
end Go.Proofs.Ytmobmpghpdaddaa

/-
  A row of places in a block that may be written; two of them exchanged.
-/
import Derived.Test.YtfkkciepbmijaabSKey
import Derived.Test.YtfkkciepbmijaabMrg
import Derived.BigRegion
namespace Go.Proofs.Ytfkkciepbmijaab
open Go.ChangeShapes Go.WideShapes Go.ChangeAt Go.RowKit
variable {L : List Nat} {qv : Nat}

/-- The places d lie in block b from its first cell on; the row that they are of lies below b. -/
structure Rw (L : List Nat) (qv : Nat) (w : World) (b : Nat) (d : List A) : Prop where
  cells : ∀ i, i < d.length → w.cell? ⟨b, i, none⟩ = some (.int .i64 (at' d i))
  mark : ∀ o, w.frozen? ⟨b, o, none⟩ = false
  lt : b < w.heap.size
  ev : Ev L qv b w
theorem Rw.below {w w' : World} {b : Nat} {d : List A} (h : Rw L qv w b d) (g : Below w.heap.size w w') : Rw L qv w' b d :=
  ⟨fun i hi => (g.cell (p := ⟨b, _, none⟩) h.lt).trans (h.cells i hi), fun o => (World.frozen?_of_block (w := w) (g.block b h.lt)).trans (h.mark o), Nat.lt_of_lt_of_le h.lt g.size, h.ev.below (g.mono (Nat.le_of_lt h.lt))⟩
/-- A place is written. -/
abbrev put1 (w : World) (b o : Nat) (t : A) : World := w.setCell ⟨b, o, none⟩ (.int .i64 t)
theorem put1_below {a w : World} {k b o : Nat} (t : A) (g : Below k a w) (hk : k ≤ b) : Below k a (put1 w b o t) := g.setCell hk _
theorem Rw.swap {w : World} {b : Nat} {d : List A} (h : Rw L qv w b d) {i j : Nat} (hi : i < d.length) (hj : j < d.length) (hij : i ≠ j) : Rw L qv (put1 (put1 w b i (at' d j)) b j (at' d i)) b (swp d i j) := by
  refine ⟨fun t ht => ?_, fun o => by simp [h.mark o], by simpa using h.lt, h.ev.below (put1_below _ (put1_below _ (Below.refl _ _) (Nat.le_refl _)) (Nat.le_refl _))⟩
  rw [swp_len] at ht
  rw [swp_at d i j t hi hj]
  have cj : (put1 w b i (at' d j)).cell? ⟨b, j, none⟩ = some (.int .i64 (at' d j)) := (World.cell?_setCell_other _ _ _ _ (by first | (simp; done) | (simp; omega))).trans (h.cells j hj)
  by_cases e : j = t
  · subst e
    rw [if_pos rfl]
    exact World.cell?_setCell_same _ _ _ cj
  · rw [if_neg e]
    refine (World.cell?_setCell_other _ _ _ _ (by first | (simp; done) | (simp; omega))).trans ?_
    by_cases f : i = t
    · subst f
      rw [if_pos rfl]
      exact World.cell?_setCell_same _ _ _ (h.cells i hi)
    · rw [if_neg f]
      exact (World.cell?_setCell_other _ _ _ _ (by first | (simp; done) | (simp; omega))).trans (h.cells t ht)
theorem bpV_lt {x y : Int} (_ : AW L x) (_ : AW L y) : cmV L x y < 0 ↔ kp L x < kp L y := cmV_lt L x y
theorem Rw.drewN {w : World} {b : Nat} {d : List A} (h : Rw L qv w b d) (n : Nat) : Rw L qv (w.drewN n) b d := ⟨h.cells, h.mark, h.lt, h.ev.below (bdr (Below.refl _ _) n)⟩
set_option maxHeartbeats 4000000 in
theorem swapRange_any (b a c n : Nat) (d : List A) (cap : Nat) (fv : Value) (w : World) (hr : Rw L qv w b d) (hd : d.length ≤ 35184372088832) (h1 : a + n ≤ c) (h2 : c + n ≤ d.length) (D : Nat → List A) (hD0 : D 0 = d) (hD : ∀ k, k < n → D (k + 1) = swp (D k) (a + k) (c + k)) :
    Calls Try.prog 26 #[.slice (some ⟨b, 0, none⟩) d.length cap, .int .i64 a, .int .i64 c, .int .i64 n, fv] w fun e w' => e = .returned (.tuple #[]) ∧ Rw L qv w' b (D n) ∧ Below b w w' := by
  have HD : Hid (∀ k, k < n → D (k + 1) = swp (D k) (a + k) (c + k)) := hD
  have HL : Hid (∀ k, k ≤ n → (D k).length = d.length) := (show ∀ k, k ≤ n → (D k).length = d.length from fun k => by
    induction k with
    | zero => intro _; rw [hD0]
    | succ k ih => intro h; rw [hD k (by omega), swp_len]; exact ih (by omega))
  clear hD
  have HR : Hid (Rw L qv w b (D 0)) := (show Rw L qv w b (D 0) by rw [hD0]; exact hr)
  clear hr hD0
  go_enter Try.func26, Try.ntmps26
  go_wp2
  go_loopw [10] (fun i wr => ∃ k : Nat, k ≤ n ∧ i = .int .i64 k ∧ Hid (Rw L qv wr b (D k)) ∧ Below b w wr) (fun i _ => n - (intOf i).toNat)
  case atStart => exact ⟨0, by omega, rfl, HR, Below.refl _ _⟩
  case round =>
    obtain ⟨k, hk, rfl, HK, hbel⟩ := hrel
    by_cases hlt : k < n
    · have hl := HL.out k hk
      have ci := HK.out.cells (a + k) (by omega)
      have cj := HK.out.cells (c + k) (by omega)
      have hfz := HK.out.mark
      have HN : Hid (Rw L qv (put1 (put1 wr b (a + k) (at' (D k) (c + k))) b (c + k) (at' (D k) (a + k))) b (D (k + 1))) := (show Rw L qv _ b (D (k + 1)) by
        rw [HD.out k hlt]; exact HK.out.swap (by omega) (by omega) (by omega))
      have hI : (a : Int) + (k : Int) = ((a + k : Nat) : Int) := by omega
      have hJ : (c : Int) + (k : Int) = ((c + k : Nat) : Int) := by omega
      have hi2 : a + k < d.length := by omega
      have hj2 : c + k < d.length := by omega
      have hne : a + k < c + k := by omega
      generalize a + k = I at *
      generalize c + k = J at *
      generalize at' (D k) I = X at *
      generalize at' (D k) J = Y at *
      go_wp2_with fail
      go_big_region
      have hb2 : Below b w (put1 (put1 wr b I Y) b J X).drew := (put1_below X (put1_below Y hbel (Nat.le_refl _)) (Nat.le_refl _)).drew
      have HN2 : Hid (Rw L qv (put1 (put1 wr b I Y) b J X).drew b (D (k + 1))) := (show Rw L qv _ b _ from HN.out.drewN 1)
      clear ci cj HN HK hbel
      generalize (put1 (put1 wr b I Y) b J X).drew = w2 at *
      go_wp2_with fail
      go_roundw
      case rel => exact ⟨k + 1, by omega, by go_num, HN2, hb2⟩
      case measure => simp [intOf]; omega
    · have hkn : k = n := by omega
      subst hkn
      go_wp2_with fail
      go_end0
      exact ⟨rfl, HK.out, hbel⟩
/-- Two parts of one length change places. -/
theorem swapRange_lists (b a c : Nat) (x p q r y : List A) (cap : Nat) (fv : Value) (w : World) (len : Nat) (hlen : len = (x ++ (p ++ (q ++ (r ++ y)))).length) (hr : Rw L qv w b (x ++ (p ++ (q ++ (r ++ y))))) (hd : len ≤ 35184372088832) (n : Nat) (hp : p.length = n) (hq : r.length = n) (ha : a = x.length) (hc : c = x.length + n + q.length) :
    Calls Try.prog 26 #[.slice (some ⟨b, 0, none⟩) len cap, .int .i64 a, .int .i64 c, .int .i64 n, fv] w fun e w' => e = .returned (.tuple #[]) ∧ Rw L qv w' b (x ++ (r ++ (q ++ (p ++ y)))) ∧ Below b w w' := by
  have key := swapRange_any b a c n (x ++ (p ++ (q ++ (r ++ y)))) cap fv w hr (by omega) (by omega) (by simp only [List.length_append] at hlen ⊢; omega)
    (fun k => (x ++ r.take k) ++ (p.drop k ++ (q ++ (p.take k ++ (r.drop k ++ y))))) (by simp) (fun k hk => by
      have e1 : p.drop k = p[k] :: p.drop (k + 1) := List.drop_eq_getElem_cons (by omega)
      have e2 : r.drop k = r[k] :: r.drop (k + 1) := List.drop_eq_getElem_cons (by omega)
      have e3 : p.take (k + 1) = p.take k ++ [p[k]] := List.take_succ_eq_append_getElem (by omega)
      have e4 : r.take (k + 1) = r.take k ++ [r[k]] := List.take_succ_eq_append_getElem (by omega)
      have l1 : (x ++ r.take k).length = a + k := by rw [List.length_append, List.length_take]; omega
      have l2 : (p.drop (k + 1) ++ (q ++ p.take k)).length + (a + k + 1) = c + k := by simp only [List.length_append, List.length_drop, List.length_take]; omega
      have := swp_parts (x ++ r.take k) (p.drop (k + 1) ++ (q ++ p.take k)) (r.drop (k + 1) ++ y) p[k] r[k]
      rw [l1, show a + k + 1 + (p.drop (k + 1) ++ (q ++ p.take k)).length = c + k by omega] at this
      rw [e1, e2, e3, e4]
      simp only [List.append_assoc, List.cons_append, List.nil_append] at this ⊢
      exact this.symm)
  rw [hlen]
  refine key.mono fun e w' ⟨h1, h2, h3⟩ => ⟨h1, ?_, h3⟩
  have e1 : p.take n = p := List.take_of_length_le (by omega)
  have e2 : r.take n = r := List.take_of_length_le (by omega)
  have e3 : p.drop n = [] := List.drop_of_length_le (by omega)
  have e4 : r.drop n = [] := List.drop_of_length_le (by omega)
  simp only [e1, e2, e3, e4, List.nil_append, List.append_assoc] at h2
  exact h2
end Go.Proofs.Ytfkkciepbmijaab

/-
  Tests and slices of them; rightTest, the document's TestRight; rowOf.
-/
import Derived.Test.YtmobmpghpdaddaaBoth
import Derived.Laws.CopyOwn
namespace Go.Proofs.Ytmobmpghpdaddaa
open Go.ChangeShapes Go.WideShapes Go.ChangeAt Go.RowKit
set_option linter.unusedVariables false

structure Tst where
  f : Int
  v : B64
  m : B64
/-- A test's value, and that it lies at a place. -/
abbrev tV (t : Tst) : Value := .agg #[.int .i64 t.f, cv t.v, cv t.m]
abbrev C3 (w : World) (b o : Nat) (t : Tst) : Prop := w.cell? ⟨b, o, none⟩ = some (.int .i64 t.f) ∧ w.cell? ⟨b, o + 1, none⟩ = some (cv t.v) ∧ w.cell? ⟨b, o + 2, none⟩ = some (cv t.m)
theorem C3.block {w w' : World} {b o : Nat} {t : Tst} (h : C3 w b o t) (g : w'.heap[b]? = w.heap[b]?) : C3 w' b o t := by
  obtain ⟨h0, h1, h2⟩ := h
  have e : ∀ o, w'.cell? ⟨b, o, none⟩ = w.cell? ⟨b, o, none⟩ := fun o => World.cell?_of_block (w := w) g
  exact ⟨(e _).trans h0, (e _).trans h1, (e _).trans h2⟩
theorem C3.below {w w' : World} {b o B : Nat} {t : Tst} (h : C3 w b o t) (hb : b < B) (g : Below B w w') : C3 w' b o t := h.block (g.block b hb)
/-- A slice's address, and what lies there: values of one cell; tests. -/
def Sl {α : Type} (k : α → Value) (w : World) (a : Option Addr) (l : List α) : Prop :=
  l = [] ∨ ∃ g o, a = some ⟨g, o, none⟩ ∧ g < w.heap.size ∧ ∀ i (h : i < l.length), w.cell? ⟨g, o + i, none⟩ = some (k l[i])
theorem Sl.below {α : Type} {k : α → Value} {w w' : World} {a : Option Addr} {l : List α} (h : Sl k w a l) (g : Below w.heap.size w w') : Sl k w' a l := by
  rcases h with h | ⟨b, o, ha, hb, hc⟩
  · exact .inl h
  · exact .inr ⟨b, o, ha, Nat.lt_of_lt_of_le hb g.size, fun i hi => (g.cell (p := ⟨b, _, none⟩) hb).trans (hc i hi)⟩
theorem Sl.at {α : Type} {k : α → Value} {w : World} {a : Option Addr} {l : List α} (h : Sl k w a l) {j : Nat} (hj : j < l.length) : ∃ g o, a = some ⟨g, o, none⟩ ∧ g < w.heap.size ∧ ∀ i (h : i < l.length), w.cell? ⟨g, o + i, none⟩ = some (k l[i]) := by
  rcases h with rfl | h
  · cases hj
  · exact h
abbrev Vs (w : World) (a : Option Addr) (l : List B64) : Prop := Sl cv w a l
abbrev Is (w : World) (a : Option Addr) (l : List Int) : Prop := Sl (Value.int .i64) w a l
def Ts (w : World) (a : Option Addr) (l : List Tst) : Prop :=
  l = [] ∨ ∃ g o, a = some ⟨g, o, none⟩ ∧ g < w.heap.size ∧ ∀ i (h : i < l.length), C3 w g (o + i * 3) l[i]
theorem Ts.below {w w' : World} {a : Option Addr} {l : List Tst} (h : Ts w a l) (g : Below w.heap.size w w') : Ts w' a l := by
  rcases h with h | ⟨b, o, ha, hb, hc⟩
  · exact .inl h
  · exact .inr ⟨b, o, ha, Nat.lt_of_lt_of_le hb g.size, fun i hi => (hc i hi).below hb g⟩
theorem Ts.at {w : World} {a : Option Addr} {l : List Tst} (h : Ts w a l) {j : Nat} (hj : j < l.length) : ∃ g o, a = some ⟨g, o, none⟩ ∧ g < w.heap.size ∧ ∀ i (h : i < l.length), C3 w g (o + i * 3) l[i] := by
  rcases h with rfl | h
  · cases hj
  · exact h
/-- A test may be. -/
def trB (t : Tst) : Bool := decide (1 ≤ t.f) && decide (t.f ≤ 9) && (t.v &&& ~~~ t.m == 0#64)
theorem trB_iff (t : Tst) : trB t = true ↔ 1 ≤ t.f ∧ t.f ≤ 9 ∧ t.v &&& ~~~ t.m = 0#64 := by
  unfold trB
  simp [and_assoc]
theorem sub_of {v m : B64} (h : v &&& ~~~ m = 0#64) : v &&& m = v := by
  refine bv_ext fun i hi => ?_
  have := congrArg (fun x => x.getLsbD i) h
  simp only [BitVec.getLsbD_and, BitVec.getLsbD_not] at this ⊢
  revert this
  cases v.getLsbD i <;> cases m.getLsbD i <;> simp [hi]
theorem of_sub {v m : B64} (h : v &&& m = v) : v &&& ~~~ m = 0#64 := by
  refine bv_ext fun i hi => ?_
  have := congrArg (fun x => x.getLsbD i) h
  simp only [BitVec.getLsbD_and, BitVec.getLsbD_not] at this ⊢
  revert this
  cases v.getLsbD i <;> cases m.getLsbD i <;> simp
theorem nb_is0 (b : B64) : (nb b == 0) = (b == 0#64) := by
  rw [← nb_zero, Bool.eq_iff_iff, beq_iff_eq, beq_iff_eq, nb_inj]
theorem nb_eq0 (b : B64) : nb b = 0 ↔ b = 0#64 := by rw [← nb_zero, nb_inj]
set_option maxHeartbeats 2000000 in
theorem right_test (t : Tst) (w : World) : Calls Try.prog 44 #[tV t] w fun e w' => e = .returned (.bool (trB t)) ∧ Below w.heap.size w w' := by
  obtain ⟨f, v, m⟩ := t
  have hb := b_not v m
  unfold trB
  simp only
  by_cases h1 : 1 ≤ f
  · by_cases h2 : f ≤ 9
    · by_cases h3 : v &&& ~~~ m = 0#64
      · have h4 : nb (v &&& ~~~ m) = 0 := (nb_eq0 _).2 h3
        rw [h4] at hb
        have hE : (decide (1 ≤ f) && decide (f ≤ 9) && (v &&& ~~~ m == 0#64)) = true := by simp [h1, h2, h3]
        rw [hE]
        clear hE h3 h4
        go_enter Try.func44, Try.ntmps44
        go_wp2
        go_ret
        exact ⟨rfl, by go_grown⟩
      · have h4 : ¬ nb (v &&& ~~~ m) = 0 := fun h => h3 ((nb_eq0 _).1 h)
        have hE : (decide (1 ≤ f) && decide (f ≤ 9) && (v &&& ~~~ m == 0#64)) = false := by simp [h3]
        rw [hE]
        clear hE h3
        generalize nb (v &&& ~~~ m) = z at *
        have h5 : decide (z = 0) = false := decide_eq_false h4
        have h6 : (z == 0) = false := by simpa using h4
        go_enter Try.func44, Try.ntmps44
        go_wp2
        go_ret
        exact ⟨by first | rfl | simp [h4], by go_grown⟩
    · have hE : (decide (1 ≤ f) && decide (f ≤ 9) && (v &&& ~~~ m == 0#64)) = false := by simp [h2]
      rw [hE]
      clear hE hb
      go_enter Try.func44, Try.ntmps44
      go_wp2
      go_ret
      exact ⟨rfl, by go_grown⟩
  · have hE : (decide (1 ≤ f) && decide (f ≤ 9) && (v &&& ~~~ m == 0#64)) = false := by simp [h1]
    rw [hE]
    clear hE hb
    go_enter Try.func44, Try.ntmps44
    go_wp2
    go_ret
    exact ⟨rfl, by go_grown⟩
set_option maxHeartbeats 2000000 in
theorem rright_test (t : Tst) (w : World) : Calls Try.prog 45 #[tV t] w fun e w' => e = .returned (.bool (trB t)) ∧ Below w.heap.size w w' := by
  obtain ⟨f, v, m⟩ := t
  have hb := b_not v m
  unfold trB
  simp only
  by_cases h1 : 1 ≤ f
  · by_cases h2 : f ≤ 9
    · by_cases h3 : v &&& ~~~ m = 0#64
      · have h4 : nb (v &&& ~~~ m) = 0 := (nb_eq0 _).2 h3
        rw [h4] at hb
        have hE : (decide (1 ≤ f) && decide (f ≤ 9) && (v &&& ~~~ m == 0#64)) = true := by simp [h1, h2, h3]
        rw [hE]
        clear hE h3 h4
        go_enter Try.func45, Try.ntmps45
        go_wp2
        go_ret
        exact ⟨rfl, by go_grown⟩
      · have h4 : ¬ nb (v &&& ~~~ m) = 0 := fun h => h3 ((nb_eq0 _).1 h)
        have hE : (decide (1 ≤ f) && decide (f ≤ 9) && (v &&& ~~~ m == 0#64)) = false := by simp [h3]
        rw [hE]
        clear hE h3
        generalize nb (v &&& ~~~ m) = z at *
        have h5 : decide (z = 0) = false := decide_eq_false h4
        have h6 : (z == 0) = false := by simpa using h4
        go_enter Try.func45, Try.ntmps45
        go_wp2
        go_ret
        exact ⟨by first | rfl | simp [h4], by go_grown⟩
    · have hE : (decide (1 ≤ f) && decide (f ≤ 9) && (v &&& ~~~ m == 0#64)) = false := by simp [h2]
      rw [hE]
      clear hE hb
      go_enter Try.func45, Try.ntmps45
      go_wp2
      go_ret
      exact ⟨rfl, by go_grown⟩
  · have hE : (decide (1 ≤ f) && decide (f ≤ 9) && (v &&& ~~~ m == 0#64)) = false := by simp [h1]
    rw [hE]
    clear hE hb
    go_enter Try.func45, Try.ntmps45
    go_wp2
    go_ret
    exact ⟨rfl, by go_grown⟩
/-- The values of a packet, field by field. -/
def valR (l : List B64) : Nat → B64 := fun f => l.getD f 0#64
theorem splice_val (l : List B64) : splice (rowL zeroR) 0 ((l.take 10).map cv) = rowL (valR l) := by
  apply List.ext_getElem?
  intro i
  unfold splice
  rw [List.take_zero, List.nil_append, Nat.zero_add, List.length_map, List.length_take]
  by_cases hi : i < 10
  · rw [rowL_at _ _ hi]
    by_cases hl : i < l.length
    · rw [List.getElem?_append_left (by rw [List.length_map, List.length_take]; omega), List.getElem?_map, List.getElem?_take, if_pos hi]
      simp [valR, hl]
    · rw [List.getElem?_append_right (by rw [List.length_map, List.length_take]; omega), List.length_map, List.length_take, List.getElem?_drop, show min 10 l.length + (i - min 10 l.length) = i by omega, rowL_at _ _ hi]
      have : valR l i = 0#64 := by unfold valR; rw [List.getD_eq_getElem?_getD, List.getElem?_eq_none (by omega)]; rfl
      rw [this]
      rfl
  · rw [List.getElem?_eq_none (by simp [rowL_len]; omega), List.getElem?_eq_none (by rw [rowL_len]; omega)]
theorem info_u64s : (Try.prog.info? 30).map (·.size) = some 1 := by kernel_rfl
set_option maxRecDepth 20000 in
set_option maxHeartbeats 2000000 in
theorem rowOf_any (a : Option Addr) (l : List B64) (cap : Nat) (w : World) (hs : Vs w a l) : Calls Try.prog 40 #[.slice a l.length cap] w fun e w' => e = .returned (.agg (rowA (valR l))) ∧ Below w.heap.size w w' := by
  have HL : Hid (splice (rowL zeroR) 0 ((l.take 10).map cv) = rowL (valR l)) := splice_val l
  obtain ⟨X, hX⟩ : ∃ X, (w.alloc (.cells #[.int .u64 0, .int .u64 0, .int .u64 0, .int .u64 0, .int .u64 0, .int .u64 0, .int .u64 0, .int .u64 0, .int .u64 0, .int .u64 0] 62)).alloc (.cells #[.int .u64 0, .int .u64 0, .int .u64 0, .int .u64 0, .int .u64 0, .int .u64 0, .int .u64 0, .int .u64 0, .int .u64 0, .int .u64 0] 62) = X := ⟨_, rfl⟩
  have gX : Below w.heap.size w X := by rw [← hX]; go_grown
  have zX : X.heap.size = w.heap.size + 2 := by rw [← hX]; simp
  have x1 : X.heap[w.heap.size + 1]? = some (.cells (rowL zeroR).toArray 62 (0, 0)) := by rw [← hX]; exact heap_alloc2_new w _ _
  have x0 : X.there w.heap.size 0 10 := by rw [← hX]; exact there_block (there_new w _ 62 10 rfl) (heap_alloc_old _ _ (by simp))
  have HX : Hid (Below w.heap.size w X ∧ X.heap.size = w.heap.size + 2 ∧ X.heap[w.heap.size + 1]? = some (.cells (rowL zeroR).toArray 62 (0, 0)) ∧ X.there w.heap.size 0 10) := ⟨gX, zX, x1, x0⟩
  have HS : Hid (Vs X a l) := (show Sl _ _ _ _ from hs.below gX)
  have HP : Hid (∀ n, l.length = n → ((l.take 10).map cv).length = Nat.min n 10 ∧ (0 < ((l.take 10).map cv).length → ∃ ad, a = some ad ∧ ∀ j v, ((l.take 10).map cv)[j]? = some v → X.cell? (ad.add j) = some v)) := (show ∀ n, _ from fun n hn => by
    subst hn
    refine ⟨by rw [List.length_map, List.length_take]; show _ = min _ _; omega, fun h0 => ?_⟩
    rw [List.length_map, List.length_take] at h0
    obtain ⟨g, o, rfl, hg, hc⟩ := HS.out.at (j := 0) (by omega)
    refine ⟨_, rfl, fun j v hj => ?_⟩
    have hjl : j < ((l.take 10).map cv).length := (List.getElem?_eq_some_iff.1 hj).1
    rw [List.length_map, List.length_take] at hjl
    rw [addP, hc j (by omega)]
    rw [List.getElem?_map, List.getElem?_take, if_pos (by omega), List.getElem?_eq_getElem (by omega)] at hj
    exact hj)
  have HF : Hid (0 + ((l.take 10).map cv).length ≤ (rowL zeroR).length) := (show _ ≤ _ by rw [List.length_map, List.length_take, rowL_len]; omega)
  have HO : Hid (∀ v ∈ (l.take 10).map cv, v.oneCell' = true) := (show ∀ v ∈ _, _ from fun v hv => by
    obtain ⟨y, _, rfl⟩ := List.mem_map.1 hv
    rfl)
  clear hs gX zX x1 x0
  obtain ⟨cs, hcs⟩ : ∃ cs, (l.take 10).map cv = cs := ⟨_, rfl⟩
  rw [hcs] at HL HP HF HO
  obtain ⟨n, hn⟩ : ∃ n, l.length = n := ⟨_, rfl⟩
  have HQ : Hid (cs.length = Nat.min n 10 ∧ (0 < cs.length → ∃ ad, a = some ad ∧ ∀ j v, cs[j]? = some v → X.cell? (ad.add j) = some v)) := HP.out n hn
  rw [hn]
  clear hn HP hcs
  go_enter Try.func40, Try.ntmps40
  go_wp2_with (first
    | (refine wpList_copy_splice rfl (.tmp 4) (.tmp 5) 25 25 rfl 30 Try.underlying25 info_u64s _ _ 10 10 n cap rfl rfl (w.heap.size + 1) 0 (rowL zeroR) 62 HX.out.2.2.1 cs HQ.out.1 (fun h0 => ⟨rfl, HQ.out.2 h0⟩) HF.out HO.out (w.heap.size + 1) X (Below.refl _ _) (Nat.le_refl _) ?_; intro V HV hB; rw [HL.out] at HV; have HB : Hid (Below (w.heap.size + 1) X V) := hB; clear hB hX HQ HF HO; have HR : Hid (R10 V (w.heap.size + 1) 0 (valR l)) := (show R10 _ _ _ _ from R10.of_range (fun j v hj => by (have hV := HV.out); rw [cell_of_row _ _ _ _ _ _ hV, Nat.zero_add, List.getElem?_toArray]; exact hj)); have HT : Hid (V.there w.heap.size 0 10) := (show V.there _ _ _ from there_block HX.out.2.2.2 (HB.out.block _ (by omega))); have HG : Hid (Below w.heap.size w V) := (show Below _ _ _ from btr' HX.out.1 (HB.out.mono (by omega))))
    | (refine load_row rfl (.tmp 3) rfl (w.heap.size + 1) 0 rfl (valR l) HR.out ?_)
    | (refine store_row rfl (.tmp 2) (.tmp 7) rfl w.heap.size 0 rfl (valR l) rfl HT.out ?_; have HW : Hid (R10 (V.setCells w.heap.size 0 (rowL (valR l))) w.heap.size 0 (valR l) ∧ Below w.heap.size w (V.setCells w.heap.size 0 (rowL (valR l)))) := ⟨stored_row HT.out _, below_setCells HG.out (Nat.le_refl _) _ _⟩; generalize V.setCells w.heap.size 0 (rowL (valR l)) = W at *))
  exact bodyPost_ret (results_row rfl _ _ w.heap.size 0 _ rfl HW.out.1) rfl ⟨rfl, HW.out.2⟩
end Go.Proofs.Ytmobmpghpdaddaa

/-
  slices.Clone of nodes and of ints.
-/
import Derived.Test.YtmobmpghpdaddaaEval
import Derived.Lib.SliceRun
namespace Go.Proofs.Ytmobmpghpdaddaa
open Go.ChangeShapes Go.WideShapes Go.ChangeAt Go.RowKit
set_option linter.unusedVariables false
set_option linter.unusedSimpArgs false

/-- A node with its slice's address and cap, as it lies in five cells. -/
structure Nh where
  x : Nd
  b : Option Addr
  c : Nat
def nhL (h : Nh) : List Value := [.int .i64 h.x.k, .int .i64 h.x.t.f, cv h.x.t.v, cv h.x.t.m, .slice h.b h.x.s.length h.c]
theorem kdN : Kd nhL 5 := ⟨fun _ => rfl, fun t u hu => by simp [nhL] at hu; rcases hu with rfl | rfl | rfl | rfl | rfl <;> rfl, by decide⟩
theorem ktN : Kt 22 39 5 := ⟨Try.underlying22, .agg #[.int .i64 0, .int .i64 0, .int .u64 0, .int .u64 0, .slice none 0 0], 56, by kernel_rfl, rfl, by decide⟩
theorem Cs.n5 {w : World} {g o : Nat} {l : List Nh} (h : Cs nhL 5 w g o l) {j : Nat} (hj : j < l.length) : N5 w g (o + j * 5) l[j].x l[j].b l[j].c := ⟨h j hj 0 (by decide), h j hj 1 (by decide), h j hj 2 (by decide), h j hj 3 (by decide), h j hj 4 (by decide)⟩
theorem Cs.of_n5 {w : World} {g o : Nat} {l : List Nh} (h : ∀ j (hj : j < l.length), N5 w g (o + j * 5) l[j].x l[j].b l[j].c) : Cs nhL 5 w g o l := fun j hj i hi => by
  obtain ⟨h0, h1, h2, h3, h4⟩ := h j hj
  have : i = 0 ∨ i = 1 ∨ i = 2 ∨ i = 3 ∨ i = 4 := by omega
  rcases this with rfl | rfl | rfl | rfl | rfl
  · exact h0
  · exact h1
  · exact h2
  · exact h3
  · exact h4
theorem list_of {α : Type} {P : Nat → α → Prop} : ∀ n, (∀ i, i < n → ∃ y, P i y) → ∃ ys : List α, ys.length = n ∧ ∀ i (h : i < ys.length), P i ys[i]
  | 0, _ => ⟨[], rfl, fun i h => by cases h⟩
  | n + 1, h => by
    obtain ⟨ys, h1, h2⟩ := list_of n (fun i hi => h i (by omega))
    obtain ⟨y, hy⟩ := h n (by omega)
    refine ⟨ys ++ [y], by simp [h1], fun i hi => ?_⟩
    by_cases e : i < ys.length
    · rw [List.getElem_append_left e]; exact h2 i e
    · have e1 : i = n := by simp at hi; omega
      subst e1
      rw [List.getElem_append_right (by omega)]
      simpa [h1] using hy
/-- Nodes that came in, with their slices' heads. -/
theorem Ns.heads {w : World} {a : Option Addr} {l : List Nd} (h : Ns w a l) : ∃ hs : List Nh, hs.map (·.x) = l ∧ Sk nhL 5 w a hs ∧ ∀ h ∈ hs, h.x.s.length ≤ h.c ∧ Is w h.b h.x.s := by
  rcases h with rfl | ⟨g, o, ha, hg, hc⟩
  · exact ⟨[], rfl, .inl rfl, fun h hh => by cases hh⟩
  · have hq : ∀ i, i < l.length → ∃ y : Nh, ∃ hi : i < l.length, y.x = l[i] ∧ N5 w g (o + i * 5) y.x y.b y.c ∧ y.x.s.length ≤ y.c ∧ Is w y.b y.x.s := fun i hi => by
      obtain ⟨b, c, h1, h2, h3⟩ := hc i hi
      exact ⟨⟨l[i], b, c⟩, hi, rfl, h1, h2, h3⟩
    obtain ⟨ys, h1, h2⟩ := list_of l.length hq
    refine ⟨ys, ?_, .inr ⟨g, o, ha, hg, Cs.of_n5 fun j hj => ?_⟩, fun h hh => ?_⟩
    · apply List.ext_getElem (by simp [h1])
      intro i hi1 hi2
      obtain ⟨_, e, _⟩ := h2 i (by omega)
      simpa using e
    · obtain ⟨_, _, e, _⟩ := h2 j hj
      exact e
    · obtain ⟨j, hj, rfl⟩ := List.mem_iff_getElem.1 hh
      obtain ⟨_, _, _, e⟩ := h2 j hj
      exact e
theorem Sk.ns {w : World} {a : Option Addr} {hs : List Nh} (h : Sk nhL 5 w a hs) (g : ∀ h ∈ hs, h.x.s.length ≤ h.c ∧ Is w h.b h.x.s) : Ns w a (hs.map (·.x)) := by
  rcases h with rfl | ⟨b, o, ha, hb, hc⟩
  · exact .inl rfl
  · refine .inr ⟨b, o, ha, hb, fun i hi => ?_⟩
    have hi' : i < hs.length := by simpa using hi
    have := g _ (List.getElem_mem hi')
    rw [List.getElem_map]
    exact ⟨hs[i].b, hs[i].c, hc.n5 hi', this.1, this.2⟩
/-- Ints in a block of their own. -/
def FrI (B : Nat) (w : World) (b : Option Addr) (c : Nat) (s : List Int) : Prop := s.length ≤ c ∧ (s = [] ∨ ∃ q, b = some ⟨q, 0, none⟩ ∧ B ≤ q ∧ q < w.heap.size ∧ (∀ o, w.frozen? ⟨q, o, none⟩ = false) ∧ ∀ i (hi : i < s.length), w.cell? ⟨q, i, none⟩ = some (.int .i64 s[i]))
theorem FrI.is {B : Nat} {w : World} {b : Option Addr} {c : Nat} {s : List Int} (h : FrI B w b c s) : Is w b s := by
  rcases h.2 with h | ⟨q, h1, _, h3, _, h4⟩
  · exact .inl h
  · exact .inr ⟨q, 0, h1, h3, fun i hi => by rw [Nat.zero_add]; exact h4 i hi⟩
theorem FrI.blk {B : Nat} {w w' : World} {b : Option Addr} {c : Nat} {s : List Int} (h : FrI B w b c s) (hz : w.heap.size ≤ w'.heap.size) (hb : s ≠ [] → ∀ q, b = some ⟨q, 0, none⟩ → q < w.heap.size → B ≤ q → w'.heap[q]? = w.heap[q]?) : FrI B w' b c s := by
  refine ⟨h.1, ?_⟩
  by_cases h0 : s = []
  · exact .inl h0
  rcases h.2 with h | ⟨q, h1, h2, h3, h4, h5⟩
  · exact .inl h
  · have e := hb h0 q h1 h3 h2
    exact .inr ⟨q, h1, h2, by omega, fun o => (World.frozen?_of_block (w := w) e).trans (h4 o), fun i hi => (World.cell?_of_block (w := w) e).trans (h5 i hi)⟩
theorem FrI.below {B : Nat} {w w' : World} {b : Option Addr} {c : Nat} {s : List Int} (h : FrI B w b c s) (g : Below w.heap.size w w') : FrI B w' b c s := h.blk g.size (fun _ q _ hq _ => g.block q hq)
theorem FrI.mono {B B' : Nat} {w : World} {b : Option Addr} {c : Nat} {s : List Int} (h : FrI B w b c s) (hB : B' ≤ B) : FrI B' w b c s := by
  refine ⟨h.1, ?_⟩
  rcases h.2 with h | ⟨q, h1, h2, h3⟩
  · exact .inl h
  · exact .inr ⟨q, h1, by omega, h3⟩
theorem own_fri {B : Nat} {w : World} {v : Value} {s : List Int} (h : Own 3 intL 1 B w v s) : ∃ b c, v = .slice b s.length c ∧ FrI B w b c s := by
  obtain ⟨a, cap, rfl, hc, hsk⟩ := own_sk kdI h
  refine ⟨a, cap, rfl, hc, ?_⟩
  by_cases h0 : s = []
  · exact .inl h0
  · rcases h.2 with ⟨h1, h2⟩ | ⟨g, cap', cur, h1, h2, h3, _⟩
    · exact absurd (List.length_eq_zero_iff.1 h2) h0
    · obtain ⟨e1, _, _⟩ := Value.slice.inj h1
      rcases hsk with hs | ⟨g', o', e', h5, h6⟩
      · exact absurd hs h0
      · rw [e1] at e'
        cases e'
        exact .inr ⟨g, e1, h2, h5, fun o => by simp [World.frozen?, h3], fun i hi => by have := h6 i hi 0 (by decide); simpa [intL] using this⟩
theorem own_there {α : Type} {k : α → List Value} {s : Nat} (hk : Kd k s) {e : TypeId} {B : Nat} {w : World} {g c : Nat} {zs : List α} (h : Own e k s B w (.slice (some ⟨g, 0, none⟩) zs.length c) zs) : w.there g 0 (zs.length * s) := by
  rcases h.2 with ⟨h1, h2⟩ | ⟨g', cap', cur, h1, h2, h3, h4, h5, h6, h7⟩
  · cases h1
  · cases h1
    intro j hj
    refine ⟨?_, by simp [World.frozen?, h3]⟩
    rw [cell_of_row _ _ _ _ _ _ h3, Nat.zero_add]
    have : zs.length * s ≤ c * s := Nat.mul_le_mul_right s h4
    have hh : j < cur.size := by omega
    simp [hh]
/-- An empty row that is no nil. -/
theorem own_empty {α : Type} {k : α → List Value} {s : Nat} (e : TypeId) (w : World) : Own e k s w.heap.size (w.alloc (.cells #[] e)) (.slice (some ⟨w.heap.size, 0, none⟩) 0 0) ([] : List α) := by
  refine ⟨by simp, .inr ⟨w.heap.size, 0, #[], rfl, Nat.le_refl _, heap_alloc_new w _, Nat.le_refl _, by simp, by simp, by simp⟩⟩
set_option maxRecDepth 20000 in
set_option maxHeartbeats 4000000 in
theorem cloneN_any (a : Option Addr) (hs : List Nh) (cap : Nat) (w : World) (h : Sk nhL 5 w a hs) (hl : hs.length ≤ 100000000) :
    Calls Try.prog 67 #[.slice a hs.length cap] w fun e w' => ∃ v, e = .returned v ∧ Own 39 nhL 5 w.heap.size w' v hs ∧ Below w.heap.size w w' := by
  have q : ∀ (w : World) (a : Option Addr) (n c n' c' : Nat), (binOp .eql 22 (.slice a n c) (.slice none n' c')).run Try.prog w = .ok (.bool a.isNone) w := fun w a n c n' c' => Lib.run_eql_slice_nil w _ _ a n c n' c' Try.underlying22
  cases a with
  | none =>
    have h0 : hs = [] := by
      rcases h with h | ⟨g, o, e, _⟩
      · exact h
      · cases e
    subst h0
    go_enter Try.func67, Try.ntmps67
    go_wp2_with fail
    go_ret
    exact ⟨_, rfl, own_nil _ _ _ _ _, Below.refl _ _⟩
  | some p =>
    have HL : Hid (hs.length ≤ 100000000) := hl
    obtain ⟨n, hn⟩ : ∃ n, hs.length = n := ⟨_, rfl⟩
    have HN : Hid (hs.length = n) := hn
    rw [hn]
    obtain ⟨X, hX⟩ : ∃ X, w.alloc (.cells #[] 39) = X := ⟨_, rfl⟩
    have HO : Hid (Own 39 nhL 5 w.heap.size X (.slice (some ⟨w.heap.size, 0, none⟩) 0 0) ([] : List Nh) ∧ Below w.heap.size w X ∧ Sk nhL 5 X (some p) hs ∧ w.heap.size ≤ X.heap.size) := by
      rw [← hX]
      exact ⟨own_empty 39 w, by go_grown, h.below (by go_grown), by simp⟩
    have HLn : Hid (([] : List Nh).length + hs.length ≤ 500000000000) := (show _ ≤ _ by have := HL.out; simp; omega)
    have HOb : Hid (∀ j, (Value.slice (some ⟨w.heap.size, 0, none⟩) 0 0).ownBlock = some j → w.heap.size ≤ j) := (show ∀ j, _ from fun j hj => by simp [Value.ownBlock] at hj; omega)
    clear hn h hl
    go_enter Try.func67, Try.ntmps67
    go_wp2_with (at_builtin; (try rw [hX]); refine wpList_appS kdN ktN rfl (.tmp 5) (.tmp 6) rfl w.heap.size (.slice (some ⟨w.heap.size, 0, none⟩) 0 0) [] rfl HO.out.1 (some p) n cap hs rfl HN.out.symm HO.out.2.2.1 HLn.out HO.out.2.2.2 ?_; intro v' w4 ho2 hg2 hat; have HN1 : Hid (Own 39 nhL 5 w.heap.size w4 v' hs ∧ Below w.heap.size w w4) := (show _ ∧ _ from ⟨ho2, (HO.out.2.1).grown hg2 HO.out.2.2.2 HOb.out⟩); clear ho2 hg2 hat; (obtain ⟨a5, c5, hf5⟩ := own_form HN1.out.1); subst hf5)
    go_ret
    exact ⟨_, rfl, HN1.out.1, HN1.out.2⟩
set_option maxRecDepth 20000 in
set_option maxHeartbeats 4000000 in
theorem cloneI_any (a : Option Addr) (s : List Int) (cap : Nat) (w : World) (h : Is w a s) (hl : s.length ≤ 100000000) :
    Calls Try.prog 68 #[.slice a s.length cap] w fun e w' => ∃ b c, e = .returned (.slice b s.length c) ∧ FrI w.heap.size w' b c s ∧ Below w.heap.size w w' := by
  have q : ∀ (w : World) (a : Option Addr) (n c n' c' : Nat), (binOp .eql 37 (.slice a n c) (.slice none n' c')).run Try.prog w = .ok (.bool a.isNone) w := fun w a n c n' c' => Lib.run_eql_slice_nil w _ _ a n c n' c' Try.underlying37
  have hsk : Sk intL 1 w a s := by
    rcases h with h | ⟨g, o, e, hg, hc⟩
    · exact .inl h
    · refine .inr ⟨g, o, e, hg, fun j hj i hi => ?_⟩
      obtain rfl : i = 0 := by omega
      rw [Nat.mul_one, Nat.add_zero, hc j hj]
      rfl
  cases a with
  | none =>
    have h0 : s = [] := by
      rcases h with h | ⟨g, o, e, _⟩
      · exact h
      · cases e
    subst h0
    go_enter Try.func68, Try.ntmps68
    go_wp2_with fail
    go_ret
    exact ⟨none, 0, rfl, ⟨Nat.le_refl _, .inl rfl⟩, Below.refl _ _⟩
  | some p =>
    have HL : Hid (s.length ≤ 100000000) := hl
    obtain ⟨n, hn⟩ : ∃ n, s.length = n := ⟨_, rfl⟩
    have HN : Hid (s.length = n) := hn
    rw [hn]
    obtain ⟨X, hX⟩ : ∃ X, w.alloc (.cells #[] 3) = X := ⟨_, rfl⟩
    have HO : Hid (Own 3 intL 1 w.heap.size X (.slice (some ⟨w.heap.size, 0, none⟩) 0 0) ([] : List Int) ∧ Below w.heap.size w X ∧ Sk intL 1 X (some p) s ∧ w.heap.size ≤ X.heap.size) := by
      rw [← hX]
      exact ⟨own_empty 3 w, by go_grown, hsk.below (by go_grown), by simp⟩
    have HLn : Hid (([] : List Int).length + s.length ≤ 500000000000) := (show _ ≤ _ by have := HL.out; simp; omega)
    have HOb : Hid (∀ j, (Value.slice (some ⟨w.heap.size, 0, none⟩) 0 0).ownBlock = some j → w.heap.size ≤ j) := (show ∀ j, _ from fun j hj => by simp [Value.ownBlock] at hj; omega)
    clear hn h hl hsk
    go_enter Try.func68, Try.ntmps68
    go_wp2_with (at_builtin; (try rw [hX]); refine wpList_appS kdI ktI rfl (.tmp 5) (.tmp 6) rfl w.heap.size (.slice (some ⟨w.heap.size, 0, none⟩) 0 0) [] rfl HO.out.1 (some p) n cap s rfl HN.out.symm HO.out.2.2.1 HLn.out HO.out.2.2.2 ?_; intro v' w4 ho2 hg2 hat; have HN1 : Hid (Own 3 intL 1 w.heap.size w4 v' s ∧ Below w.heap.size w w4) := (show _ ∧ _ from ⟨ho2, (HO.out.2.1).grown hg2 HO.out.2.2.2 HOb.out⟩); clear ho2 hg2 hat; (obtain ⟨b5, c5, hf5, hfr⟩ := own_fri HN1.out.1); subst hf5; have HFr : Hid (FrI w.heap.size w4 b5 c5 s) := hfr; clear hfr)
    go_ret
    exact ⟨b5, c5, by rw [HN.out]; rfl, HFr.out, HN1.out.2⟩
end Go.Proofs.Ytmobmpghpdaddaa

/-
  Nodes, moved.
-/
import Derived.Test.YtmobmpghpdaddaaClo
namespace Go.Proofs.Ytmobmpghpdaddaa
open Go.ChangeShapes Go.WideShapes Go.ChangeAt Go.RowKit
set_option linter.unusedVariables false
set_option linter.unusedSimpArgs false

def mvN (p : Int) (x : Nd) : Nd := ⟨x.k, x.t, x.s.map (· + p)⟩
/-- Nodes in a block that may be written; the first ones' slices are moved already. -/
structure MvI (U : World) (g : Nat) (p : Int) (hs : List Nh) (i : Nat) (wr : World) : Prop where
  ex : ∃ ds : List Nh, ds.length = i ∧ ds.map (·.x) = (hs.take i).map (fun h => mvN p h.x) ∧ Cs nhL 5 wr g 0 (ds ++ hs.drop i) ∧ ∀ h ∈ ds, FrI U.heap.size wr h.b h.c h.x.s ∧ ∀ q, h.b = some ⟨q, 0, none⟩ → h.x.s ≠ [] → q ≠ g
  wri : wr.there g 0 (hs.length * 5)
  lo : U.heap.size ≤ g
  lt : g < wr.heap.size
  bel : Below U.heap.size U wr
/-- The head of the i-th slice is written. -/
theorem Cs.set4 {w : World} {g : Nat} {ds : List Nh} {h : Nh} {l : List Nh} (hc : Cs nhL 5 w g 0 (ds ++ h :: l)) (x : Nd) (hx : x.k = h.x.k ∧ x.t = h.x.t) (b : Option Addr) (c : Nat) : Cs nhL 5 (w.setCell ⟨g, ds.length * 5 + 4, none⟩ (.slice b x.s.length c)) g 0 (ds ++ ⟨x, b, c⟩ :: l) := by
  refine Cs.of_n5 fun j hj => ?_
  have hj' : j < (ds ++ h :: l).length := by simpa using hj
  have h0 := hc.n5 hj'
  rw [Nat.zero_add] at h0 ⊢
  by_cases e : j = ds.length
  · subst e
    have e1 : (ds ++ h :: l)[ds.length]'hj' = h := by simp
    have e2 : (ds ++ (⟨x, b, c⟩ : Nh) :: l)[ds.length]'hj = ⟨x, b, c⟩ := by simp
    rw [e1] at h0
    rw [e2]
    have far : ∀ o, o ≠ ds.length * 5 + 4 → (w.setCell ⟨g, ds.length * 5 + 4, none⟩ (.slice b x.s.length c)).cell? ⟨g, o, none⟩ = w.cell? ⟨g, o, none⟩ := fun o ho => World.cell?_setCell_other _ _ _ _ (fun e' => ho (by have := (Addr.mk.inj e').2.1; omega))
    refine ⟨?_, ?_, ?_, ?_, World.cell?_setCell_same _ _ _ h0.c4⟩
    · rw [far _ (by omega), h0.c0, hx.1]
    · rw [far _ (by omega), h0.c1, hx.2]
    · rw [far _ (by omega), h0.c2, hx.2]
    · rw [far _ (by omega), h0.c3, hx.2]
  · have e1 : (ds ++ (⟨x, b, c⟩ : Nh) :: l)[j]'hj = (ds ++ h :: l)[j]'hj' := by
      by_cases h1 : j < ds.length
      · rw [List.getElem_append_left h1, List.getElem_append_left h1]
      · rw [List.getElem_append_right (by omega), List.getElem_append_right (by omega)]
        obtain ⟨m, hm⟩ : ∃ m, j - ds.length = m + 1 := ⟨j - ds.length - 1, by omega⟩
        simp only [hm, List.getElem_cons_succ]
    rw [e1]
    have far : ∀ d, d < 5 → (w.setCell ⟨g, ds.length * 5 + 4, none⟩ (.slice b x.s.length c)).cell? ⟨g, j * 5 + d, none⟩ = w.cell? ⟨g, j * 5 + d, none⟩ := fun d hd => World.cell?_setCell_other _ _ _ _ (fun e' => by have := (Addr.mk.inj e').2.1; omega)
    exact ⟨(far 0 (by omega)).trans h0.c0, (far 1 (by omega)).trans h0.c1, (far 2 (by omega)).trans h0.c2, (far 3 (by omega)).trans h0.c3, (far 4 (by omega)).trans h0.c4⟩
theorem MvI.grow {U wr w' : World} {g i : Nat} {p : Int} {hs : List Nh} (h : MvI U g p hs i wr) (gg : Below wr.heap.size wr w') : MvI U g p hs i w' := by
  obtain ⟨ds, h1, h2, h3, h4⟩ := h.ex
  exact ⟨⟨ds, h1, h2, h3.block (gg.block _ h.lt), fun x hx => ⟨(h4 x hx).1.below gg, (h4 x hx).2⟩⟩, there_block h.wri (gg.block _ h.lt), h.lo, Nat.lt_of_lt_of_le h.lt gg.size, btr h.bel gg (Nat.le_refl _)⟩
/-- The same, while one slice is moved. -/
structure MvJ (U : World) (g : Nat) (p : Int) (hs : List Nh) (i : Nat) (x : Nd) (b : Option Addr) (c : Nat) (s : List Int) (wr : World) : Prop where
  ex : ∃ ds : List Nh, ds.length = i ∧ ds.map (·.x) = (hs.take i).map (fun h => mvN p h.x) ∧ Cs nhL 5 wr g 0 (ds ++ ⟨x, b, c⟩ :: hs.drop (i + 1)) ∧ ∀ h ∈ ds, FrI U.heap.size wr h.b h.c h.x.s ∧ ∀ q, h.b = some ⟨q, 0, none⟩ → h.x.s ≠ [] → q ≠ g ∧ (s ≠ [] → b ≠ some ⟨q, 0, none⟩)
  fr : FrI U.heap.size wr b c s
  ne : ∀ q, b = some ⟨q, 0, none⟩ → s ≠ [] → q ≠ g
  wri : wr.there g 0 (hs.length * 5)
  lo : U.heap.size ≤ g
  lt : g < wr.heap.size
  bel : Below U.heap.size U wr
theorem MvI.start {U wr w2 : World} {g i : Nat} {p : Int} {hs : List Nh} (h : MvI U g p hs i wr) (gg : Below wr.heap.size wr w2) (hi : i < hs.length) {y : Nh} (hy : hs[i] = y) {b : Option Addr} {c : Nat} (hf : FrI wr.heap.size w2 b c y.x.s) :
    MvJ U g p hs i y.x b c y.x.s (w2.setCell ⟨g, i * 5 + 4, none⟩ (.slice b y.x.s.length c)) := by
  have h' := h.grow gg
  obtain ⟨ds, h1, h2, h3, h4⟩ := h.ex
  have hz : (w2.setCell ⟨g, i * 5 + 4, none⟩ (.slice b y.x.s.length c)).heap.size = w2.heap.size := by simp [World.setCell]
  have hblk : ∀ j, j ≠ g → (w2.setCell ⟨g, i * 5 + 4, none⟩ (.slice b y.x.s.length c)).heap[j]? = w2.heap[j]? := fun j hj => setCell_block _ _ _ _ hj
  have hne : ∀ q, b = some ⟨q, 0, none⟩ → y.x.s ≠ [] → wr.heap.size ≤ q := fun q hq h0 => by
    rcases hf.2 with h | ⟨q', e, h5, _⟩
    · exact absurd h h0
    · rw [hq] at e; cases e; exact h5
  have hlt := h.lt
  refine ⟨⟨ds, h1, h2, ?_, fun x hx => ⟨((h4 x hx).1.below gg).blk (by omega) (fun h0 q hq _ _ => hblk q ((h4 x hx).2 q hq h0)), fun q hq h0 => ⟨(h4 x hx).2 q hq h0, fun h9 e => ?_⟩⟩⟩, (hf.blk (by omega) (fun h0 q hq _ _ => hblk q (by have := hne q hq h0; omega))).mono h.bel.size, fun q hq h0 => by have := hne q hq h0; omega, there_set h'.wri _ _, h.lo, by rw [hz]; exact h'.lt, h'.bel.setCell (by simpa using h.lo) _⟩
  · have := h3.block (w' := w2) (gg.block _ h.lt)
    rw [List.drop_eq_getElem_cons hi, hy] at this
    have h5 := Cs.set4 this y.x ⟨rfl, rfl⟩ b c
    rw [h1] at h5
    exact h5
  · rcases (h4 x hx).1.2 with h | ⟨q', e', h5, h6, _⟩
    · exact h0 h
    · rw [hq] at e'
      cases e'
      have := hne q e h9
      omega
/-- One number of the slice is moved. -/
theorem MvJ.put {U wr : World} {g i : Nat} {p : Int} {hs : List Nh} {x : Nd} {q c k : Nat} {s : List Int} (h : MvJ U g p hs i x (some ⟨q, 0, none⟩) c s wr) (hk : k < s.length) (z : Int) : MvJ U g p hs i x (some ⟨q, 0, none⟩) c (s.set k z) (wr.setCell ⟨q, k, none⟩ (.int .i64 z)) := by
  obtain ⟨ds, h1, h2, h3, h4⟩ := h.ex
  have hs0 : s ≠ [] := fun e => by rw [e] at hk; cases hk
  have hqg := h.ne q rfl hs0
  have hz : (wr.setCell ⟨q, k, none⟩ (.int .i64 z)).heap.size = wr.heap.size := by simp [World.setCell]
  have hblk : ∀ j, j ≠ q → (wr.setCell ⟨q, k, none⟩ (.int .i64 z)).heap[j]? = wr.heap[j]? := fun j hj => setCell_block _ _ _ _ hj
  refine ⟨⟨ds, h1, h2, h3.block (hblk g (fun e => hqg e.symm)), fun y hy => ⟨(h4 y hy).1.blk (by omega) (fun h0 q' hq' _ _ => hblk q' (fun e => ((h4 y hy).2 q' hq' h0).2 hs0 (by rw [e]))), fun q' hq' h0 => ⟨((h4 y hy).2 q' hq' h0).1, fun _ => ((h4 y hy).2 q' hq' h0).2 hs0⟩⟩⟩, ?_, fun q' hq' _ => by cases hq'; exact hqg, there_set h.wri _ _, h.lo, by rw [hz]; exact h.lt, h.bel.setCell ?_ _⟩
  · refine ⟨by rw [List.length_set]; exact h.fr.1, .inr ?_⟩
    rcases h.fr.2 with e | ⟨q', e, h5, h6, h7, h8⟩
    · exact absurd e hs0
    · cases e
      refine ⟨q, rfl, h5, by omega, fun o => by simpa using h7 o, fun j hj => ?_⟩
      have hj' : j < s.length := by simpa using hj
      by_cases e : j = k
      · subst e
        rw [World.cell?_setCell_same _ _ _ (h8 j hj')]
        simp
      · rw [World.cell?_setCell_other _ _ _ _ (fun e' => e (by have := (Addr.mk.inj e').2.1; omega)), h8 j hj', List.getElem_set_ne (fun h => e h.symm)]
  · rcases h.fr.2 with e | ⟨q', e, h5, _⟩
    · exact absurd e hs0
    · cases e; simpa using h5
theorem MvJ.fin {U wr : World} {g i : Nat} {p : Int} {hs : List Nh} {y : Nh} {b : Option Addr} {c : Nat} (h : MvJ U g p hs i y.x b c (y.x.s.map (· + p)) wr) (hi : i < hs.length) (hy : hs[i] = y) : MvI U g p hs (i + 1) wr := by
  obtain ⟨ds, h1, h2, h3, h4⟩ := h.ex
  have e : nhL ⟨y.x, b, c⟩ = nhL ⟨mvN p y.x, b, c⟩ := by
    unfold nhL mvN
    simp
  refine ⟨⟨ds ++ [⟨mvN p y.x, b, c⟩], by simp [h1], ?_, ?_, fun x hx => ?_⟩, h.wri, h.lo, h.lt, h.bel⟩
  · rw [List.map_append, h2, List.take_succ_eq_append_getElem hi, List.map_append, hy]
    rfl
  · rw [List.append_assoc]
    intro j hj d hd
    have hj' : j < (ds ++ ⟨y.x, b, c⟩ :: hs.drop (i + 1)).length := by simpa using hj
    have em : (ds ++ (⟨y.x, b, c⟩ : Nh) :: hs.drop (i + 1)).map nhL = (ds ++ ([(⟨mvN p y.x, b, c⟩ : Nh)] ++ hs.drop (i + 1))).map nhL := by simp [e]
    have em2 := congrArg (fun l => l[j]?) em
    simp only [List.getElem?_map, List.getElem?_eq_getElem hj', List.getElem?_eq_getElem hj, Option.map_some] at em2
    rw [h3 j hj' d hd, Option.some.inj em2]
  · rcases List.mem_append.1 hx with hx | hx
    · exact ⟨(h4 x hx).1, fun q hq h0 => ((h4 x hx).2 q hq h0).1⟩
    · rw [List.mem_singleton] at hx
      subst hx
      exact ⟨h.fr, fun q hq h0 => h.ne q hq h0⟩
theorem MvJ.c4 {U wr : World} {g i : Nat} {p : Int} {hs : List Nh} {x : Nd} {b : Option Addr} {c : Nat} {s : List Int} (h : MvJ U g p hs i x b c s wr) : wr.cell? ⟨g, i * 5 + 4, none⟩ = some (.slice b x.s.length c) := by
  obtain ⟨ds, h1, h2, h3, h4⟩ := h.ex
  have := (h3.n5 (j := i) (by simp; omega)).c4
  subst h1
  rw [Nat.zero_add] at this
  simpa using this
theorem MvI.c4 {U wr : World} {g i : Nat} {p : Int} {hs : List Nh} (h : MvI U g p hs i wr) (hi : i < hs.length) {y : Nh} (hy : hs[i] = y) : wr.cell? ⟨g, i * 5 + 4, none⟩ = some (.slice y.b y.x.s.length y.c) := by
  obtain ⟨ds, h1, h2, h3, h4⟩ := h.ex
  rw [List.drop_eq_getElem_cons hi, hy] at h3
  have := (h3.n5 (j := i) (by simp; omega)).c4
  subst h1
  rw [Nat.zero_add] at this
  simpa using this
theorem MvI.new {w w1 : World} {g c : Nat} {p : Int} {hs : List Nh} (h : Own 39 nhL 5 w.heap.size w1 (.slice (some ⟨g, 0, none⟩) hs.length c) hs) (gg : Below w.heap.size w w1) (h0 : 0 < hs.length) : MvI w g p hs 0 w1 := by
  obtain ⟨g', cap, e, h1, h2, h3, h4⟩ := own_at kdN h h0
  cases e
  exact ⟨⟨[], rfl, rfl, h4, fun x hx => by cases hx⟩, own_there kdN h, h2, h3, gg⟩
theorem take_set_map (s : List Int) (p : Int) (k : Nat) (hk : k < s.length) : ((s.take k).map (· + p) ++ s.drop k).set k (s[k] + p) = (s.take (k + 1)).map (· + p) ++ s.drop (k + 1) := by
  have hl : ((s.take k).map (· + p)).length = k := by rw [List.length_map, List.length_take]; omega
  have e1 : s.drop k = s[k] :: s.drop (k + 1) := List.drop_eq_getElem_cons hk
  rw [List.set_append_right _ _ (by omega), hl, Nat.sub_self, e1, List.set_cons_zero, List.take_succ_eq_append_getElem hk, List.map_append, List.append_assoc]
  rfl
set_option maxRecDepth 20000 in
set_option maxHeartbeats 8000000 in
theorem moved_any (a : Option Addr) (hs : List Nh) (cap : Nat) (p : Int) (w : World) (h : Sk nhL 5 w a hs) (hi : ∀ y ∈ hs, y.x.s.length ≤ y.c ∧ Is w y.b y.x.s) (h0 : 0 < hs.length) (h60 : hs.length ≤ 60) (hs12 : ∀ y ∈ hs, y.x.s.length ≤ 12 ∧ ∀ i ∈ y.x.s, 0 ≤ i ∧ i < 60) (hp0 : 0 ≤ p) (hp1 : p ≤ 1000) :
    Calls Try.prog 59 #[.slice a hs.length cap, .int .i64 p] w fun e w' => ∃ a' c' hs', e = .returned (.slice a' hs.length c') ∧ hs'.length = hs.length ∧ Sk nhL 5 w' a' hs' ∧ hs'.map (·.x) = hs.map (fun h => mvN p h.x) ∧ (∀ y ∈ hs', FrI w.heap.size w' y.b y.c y.x.s) ∧ Below w.heap.size w w' := by
  have HC : Hid (Calls Try.prog 67 #[.slice a hs.length cap] w fun e w' => ∃ g c, e = .returned (.slice (some ⟨g, 0, none⟩) hs.length c) ∧ MvI w g p hs 0 w') := (show Calls _ _ _ _ _ from (cloneN_any a hs cap w h (by omega)).mono fun e w' ⟨v, h1, h2, h3⟩ => by
    obtain ⟨g, c, e', _⟩ := own_at kdN h2 h0
    subst e'
    exact ⟨g, c, h1, MvI.new h2 h3 h0⟩)
  have HI : Hid (∀ y ∈ hs, y.x.s.length ≤ y.c ∧ Is w y.b y.x.s) := hi
  have HF : Hid (∀ y ∈ hs, y.x.s.length ≤ 12 ∧ ∀ i ∈ y.x.s, 0 ≤ i ∧ i < 60) := hs12
  obtain ⟨n, hn⟩ : ∃ n, hs.length = n := ⟨_, rfl⟩
  have HN : Hid (hs.length = n) := hn
  rw [hn] at HC h0 h60 ⊢
  clear h hi hs12 hn
  go_enter Try.func59, Try.ntmps59
  go_wp2_with (go_at_call 67; refine HC.out.mono ?_; rintro e w1 ⟨g, c, rfl, hI⟩; have HI1 : Hid (MvI w g p hs 0 w1) := hI; clear hI)
  go_loopw [12] (fun v12 wr => ∃ i : Nat, i ≤ n ∧ v12 = .int .i64 i ∧ Hid (MvI w g p hs i wr)) (fun v12 _ => n - (intOf v12).toNat)
  case atStart => exact ⟨0, Nat.zero_le _, rfl, HI1⟩
  case round =>
    obtain ⟨i, hik, rfl, HM⟩ := hrel
    clear HI1
    by_cases hlt : i < n
    · have hil : i < hs.length := by have := HN.out; omega
      obtain ⟨y, hy⟩ : ∃ y, hs[i] = y := ⟨_, rfl⟩
      have c4 := HM.out.c4 hil hy
      have hym : y ∈ hs := by rw [← hy]; exact List.getElem_mem hil
      obtain ⟨hyl, hyi⟩ := HF.out y hym
      have HCl : Hid (Calls Try.prog 68 #[.slice y.b y.x.s.length y.c] wr fun e w' => ∃ b c, e = .returned (.slice b y.x.s.length c) ∧ w'.cell? ⟨g, i * 5 + 4, none⟩ = some (.slice y.b y.x.s.length y.c) ∧ w'.frozen? ⟨g, i * 5 + 4, none⟩ = false ∧ MvJ w g p hs i y.x b c y.x.s (w'.setCell ⟨g, i * 5 + 4, none⟩ (.slice b y.x.s.length c))) := (show Calls _ _ _ _ _ from (cloneI_any y.b y.x.s y.c wr ((HI.out y hym).2.below HM.out.bel) (by omega)).mono fun e w' ⟨b, c, h1, h2, h3⟩ => by
        have hq := (HM.out.grow h3).wri (i * 5 + 4) (by omega)
        rw [Nat.zero_add] at hq
        exact ⟨b, c, h1, (HM.out.grow h3).c4 hil hy, hq.2, HM.out.start h3 hil hy h2⟩)
      have HYi : Hid (∀ i ∈ y.x.s, 0 ≤ i ∧ i < 60) := hyi
      have HY : Hid (hs[i] = y) := hy
      obtain ⟨m, hm⟩ : ∃ m, y.x.s.length = m := ⟨_, rfl⟩
      have HMl : Hid (y.x.s.length = m) := hm
      rw [hm] at c4 HCl hyl
      clear hm hy hyi hym
      go_wp2_with (go_at_call 68; refine HCl.out.mono ?_; rintro e w2 ⟨b, c', rfl, e4, f4, hJ⟩; have HJ : Hid (MvJ w g p hs i y.x b c' y.x.s (w2.setCell ⟨g, i * 5 + 4, none⟩ (.slice b m c'))) := hJ; clear hJ)
      have HJ0 : Hid (MvJ w g p hs i y.x b c' ((y.x.s.take 0).map (· + p) ++ y.x.s.drop 0) (w2.setCell ⟨g, i * 5 + 4, none⟩ (.slice b m c'))) := (show MvJ _ _ _ _ _ _ _ _ _ _ from HJ.out)
      generalize w2.setCell ⟨g, i * 5 + 4, none⟩ (.slice b m c') = W1 at *
      clear HJ e4 f4 c4 HCl HM
      go_loopw [31] (fun v31 wr => ∃ k : Nat, k ≤ m ∧ v31 = .int .i64 k ∧ Hid (MvJ w g p hs i y.x b c' ((y.x.s.take k).map (· + p) ++ y.x.s.drop k) wr)) (fun v31 _ => m - (intOf v31).toNat)
      case atStart => exact ⟨0, Nat.zero_le _, rfl, HJ0⟩
      case round =>
        obtain ⟨k, hk, rfl, HK⟩ := hrel
        clear HJ0
        have e4 := HK.out.c4
        rw [HMl.out] at e4
        by_cases hlt2 : k < m
        · have hks : k < y.x.s.length := by have := HMl.out; omega
          have hb := HYi.out _ (List.getElem_mem hks)
          have hlen : ((y.x.s.take k).map (· + p)).length = k := by rw [List.length_map, List.length_take]; omega
          have hat : ((y.x.s.take k).map (· + p) ++ y.x.s.drop k)[k]? = some y.x.s[k] := by
            rw [List.getElem?_append_right (by omega), hlen, Nat.sub_self, List.getElem?_drop, Nat.add_zero, List.getElem?_eq_getElem hks]
          obtain ⟨hkl, hat'⟩ := List.getElem?_eq_some_iff.1 hat
          have hset := take_set_map y.x.s p k hks
          rcases HK.out.fr.2 with e | ⟨q, e, h5, h6, h7, h8⟩
          · exact absurd e (fun e => by rw [e] at hkl; cases hkl)
          · subst e
            have d1 := h8 k hkl
            rw [hat'] at d1
            have d2 := h7 k
            have HP : Hid (MvJ w g p hs i y.x (some ⟨q, 0, none⟩) c' ((y.x.s.take (k + 1)).map (· + p) ++ y.x.s.drop (k + 1)) (wr.setCell ⟨q, k, none⟩ (.int .i64 (y.x.s[k] + p)))) := (show MvJ _ _ _ _ _ _ _ _ _ _ by
              rw [← hset]
              exact HK.out.put hkl _)
            obtain ⟨z, hz⟩ : ∃ z, y.x.s[k] = z := ⟨_, rfl⟩
            rw [hz] at hb d1 HP
            have hwz : wrap64 (z + p) = z + p := by unfold wrap64; omega
            clear hat hat' hset hz h7 h8 hlen hkl
            go_wp2_with fail
            go_roundw
            case rel => exact ⟨k + 1, by omega, by go_num, HP⟩
            case measure => simp [intOf]; omega
        · have HE : Hid (MvI w g p hs (i + 1) wr) := (show MvI _ _ _ _ _ _ by
            have := HK.out
            rw [List.take_of_length_le (by have := HMl.out; omega), List.drop_of_length_le (by have := HMl.out; omega), List.append_nil] at this
            exact this.fin hil HY.out)
          clear HK
          go_wp2_with fail
          refine ⟨⟨i + 1, by omega, by go_num, HE⟩, by simp [intOf]; omega⟩
    · have HE : Hid (MvI w g p hs n wr) := (show MvI _ _ _ _ _ _ by have := HM.out; rwa [show i = n by omega] at this)
      clear HM
      go_wp2_with fail
      go_ret
      obtain ⟨ds, h1, h2, h3, h4⟩ := HE.out.ex
      have hn := HN.out
      rw [← hn, List.drop_length, List.append_nil] at h3
      rw [← hn, List.take_length] at h2
      exact ⟨_, _, ds, rfl, h1, .inr ⟨g, 0, rfl, HE.out.lt, h3⟩, h2, fun y hy => (h4 y hy).1, HE.out.bel⟩
end Go.Proofs.Ytmobmpghpdaddaa

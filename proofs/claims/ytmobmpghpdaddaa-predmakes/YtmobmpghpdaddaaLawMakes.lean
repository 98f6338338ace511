/-
  PredMakes, walked.
-/
import Derived.Test.YtmobmpghpdaddaaRefS
import Derived.Test.YtmobmpghpdaddaaLawUse
import Derived.Deep.CutBlock
import Derived.Deep.CutRange
import Derived.Deep.RegionHeld
import Derived.Deep.RegionHeldLaw
namespace Go.Proofs.Ytmobmpghpdaddaa
open Go.ChangeShapes Go.WideShapes Go.ChangeAt Go.RowKit
set_option linter.unusedVariables false
set_option linter.unusedSimpArgs false

/-- A row of nodes that may be written over. -/
structure OvN (B q g : Nat) (hs : List Nh) (u : World) : Prop where
  lt : g < u.heap.size
  row : u.there g 0 (hs.length * 5)
  hd : ∀ i (h : i < hs.length), u.cell? ⟨g, i * 5 + 4, none⟩ = some (.slice hs[i].b hs[i].x.s.length hs[i].c)
  sub : ∀ i (h : i < hs.length), hs[i].x.s ≠ [] → ∃ p, hs[i].b = some ⟨p, 0, none⟩ ∧ B ≤ p ∧ p ≠ g ∧ p ≠ q ∧ p < u.heap.size ∧ u.there p 0 hs[i].x.s.length
/-- An answered predicate in its box, while it is written over. -/
structure WrN (X : World) (q : Nat) (x : Option Addr) (n c : Nat) (hs : List Nh) (u : World) : Prop where
  bel : Below X.heap.size X u
  box : u.cell? ⟨q, 0, none⟩ = some (.slice x n c)
  lt : X.heap.size ≤ q ∧ q < u.heap.size
  len : hs.length = n
  few : ∀ y ∈ hs, y.x.s.length ≤ 1000
  ov : hs ≠ [] → ∃ g, x = some ⟨g, 0, none⟩ ∧ X.heap.size ≤ g ∧ g ≠ q ∧ OvN X.heap.size q g hs u
section
variable {X u V : World} {q n c : Nat} {x : Option Addr} {hs : List Nh}
theorem WrN.grow (h : WrN X q x n c hs u) (g : Below u.heap.size u V) : WrN X q x n c hs V := by
  refine ⟨btr h.bel g (Nat.le_refl _), (g.cell (p := ⟨q, 0, none⟩) h.lt.2).trans h.box, ⟨h.lt.1, Nat.lt_of_lt_of_le h.lt.2 g.size⟩, h.len, h.few, fun h0 => ?_⟩
  obtain ⟨r, e, h1, h2, h3⟩ := h.ov h0
  refine ⟨r, e, h1, h2, Nat.lt_of_lt_of_le h3.lt g.size, there_block h3.row (g.block r h3.lt), fun i hi => (g.cell (p := ⟨r, i * 5 + 4, none⟩) h3.lt).trans (h3.hd i hi), fun i hi hn => ?_⟩
  obtain ⟨p, e2, k1, k2, k3, k4, k5⟩ := h3.sub i hi hn
  exact ⟨p, e2, k1, k2, k3, Nat.lt_of_lt_of_le k4 g.size, there_block k5 (g.block p k4)⟩
theorem WrN.set (h : WrN X q x n c hs u) (p o : Nat) (v : Value) (hp : X.heap.size ≤ p) (hq : p ≠ q) (hg : ∀ g, x = some ⟨g, 0, none⟩ → p ≠ g ∨ ∀ i, o ≠ i * 5 + 4) : WrN X q x n c hs (u.setCell ⟨p, o, none⟩ v) := by
  refine ⟨h.bel.setCell hp v, (World.cell?_setCell_other _ _ _ _ (fun e => hq (Addr.mk.inj e).1)).trans h.box, ⟨h.lt.1, by simpa [World.setCell] using h.lt.2⟩, h.len, h.few, fun h0 => ?_⟩
  obtain ⟨r, e, h1, h2, h3⟩ := h.ov h0
  refine ⟨r, e, h1, h2, by simpa [World.setCell] using h3.lt, there_set h3.row _ _, fun i hi => (World.cell?_setCell_other _ _ _ _ (fun e2 => ?_)).trans (h3.hd i hi), fun i hi hn => ?_⟩
  · rcases hg r e with h5 | h5
    · exact h5 (Addr.mk.inj e2).1
    · exact h5 i (Addr.mk.inj e2).2.1
  · obtain ⟨p', e2, k1, k2, k3, k4, k5⟩ := h3.sub i hi hn
    exact ⟨p', e2, k1, k2, k3, by simpa [World.setCell] using k4, there_set k5 _ _⟩
theorem NR.wr (h : NR X.heap.size u (.slice x hs.length c) hs) (g : Below X.heap.size X u) (hf : ∀ y ∈ hs, y.x.s.length ≤ 1000) : WrN X u.heap.size x hs.length c hs (u.alloc (.cells #[.slice x hs.length c] 24)) := by
  have gu : Below u.heap.size u (u.alloc (.cells #[.slice x hs.length c] 24)) := by go_grown
  have h' := h.below gu
  refine ⟨btr g gu (Nat.le_refl _), by simp, ⟨g.size, by simp⟩, rfl, hf, fun h0 => ?_⟩
  have hpos : 0 < hs.length := List.length_pos_iff.2 h0
  obtain ⟨r, cap, e, hc, hb, hr, hcs⟩ := own_at kdN h.own hpos
  cases e
  have hth := own_there kdN h.own
  have hne : ∀ j, j < u.heap.size → j ≠ u.heap.size := fun j hj => by omega
  refine ⟨r, rfl, hb, hne r hr, ⟨Nat.lt_of_lt_of_le hr gu.size, there_block hth (gu.block r hr), fun i hi => ?_, fun i hi hn => ?_⟩⟩
  · refine (gu.cell (p := ⟨r, i * 5 + 4, none⟩) hr).trans ?_
    have := hcs i hi 4 (by decide)
    rw [Nat.zero_add] at this
    exact this
  · obtain ⟨h1, h2⟩ := h.sub _ (List.getElem_mem hi)
    rcases h1.2 with h3 | ⟨p, e2, k1, k2, k3, k4⟩
    · exact absurd h3 hn
    · refine ⟨p, e2, k1, fun e3 => h2 p e2 hn (by rw [e3]; rfl), hne p k2, Nat.lt_of_lt_of_le k2 gu.size, there_block (fun j hj => ?_) (gu.block p k2)⟩
      rw [Nat.zero_add]
      exact ⟨by rw [k4 j hj]; rfl, k3 j⟩
end
theorem PrR.ns3 {w w' : World} {L : List Nd} {e : Ending} (h : PrR w L e w') : ∃ x c, e = .returned (.agg #[.slice x L.length c]) ∧ Ns w' x L ∧ Below w.heap.size w w' := by
  obtain ⟨v, hs, rfl, h1, h2, h3⟩ := h
  obtain ⟨x, c, rfl, _, h4⟩ := h1.ns
  rw [← h2, List.length_map]
  exact ⟨x, c, rfl, h4, h3⟩
theorem PrR.wr {X w' : World} {L : List Nd} {e : Ending} (h : PrR X L e w') (hf : ∀ y ∈ L, y.s.length ≤ 1000) : ∃ x c hs, e = .returned (.agg #[.slice x L.length c]) ∧ WrN X w'.heap.size x L.length c hs (w'.alloc (.cells #[.slice x L.length c] 24)) ∧ Ns (w'.alloc (.cells #[.slice x L.length c] 24)) x L := by
  obtain ⟨v, hs, rfl, h1, h2, h3⟩ := h
  obtain ⟨x, c, rfl, _, h4⟩ := h1.ns
  have h5 := h1.wr h3 (fun y hy => hf _ (by rw [← h2]; exact List.mem_map_of_mem hy))
  have h6 := h4.below (show Below w'.heap.size w' (w'.alloc (.cells #[.slice x hs.length c] 24)) by go_grown)
  rw [show L.length = hs.length by rw [← h2, List.length_map]]
  rw [h2] at h6
  exact ⟨x, c, hs, rfl, h5, h6⟩
theorem made_few (k : Int) (ps : List (List Nd)) : (madeL k ps).length ≤ 1000 ∧ ∀ x ∈ madeL k ps, x.s.length ≤ 1000 := by
  have hE : ∀ r, (endL k r).length ≤ 1000 ∧ ∀ x ∈ endL k r, x.s.length ≤ 1000 := fun r => by
    cases r with
    | none => exact ⟨by simp [endL], fun x hx => by cases hx⟩
    | some p =>
      obtain ⟨acc, tops⟩ := p
      show (if rightB (acc ++ [⟨k, zT, tops⟩]) then acc ++ [⟨k, zT, tops⟩] else []).length ≤ 1000 ∧ ∀ x ∈ (if rightB (acc ++ [⟨k, zT, tops⟩]) then acc ++ [⟨k, zT, tops⟩] else []), x.s.length ≤ 1000
      split
      · rename_i h
        exact ⟨by have := (rightB_len h).2; omega, fun x hx => by have := (right_few h x hx).1; omega⟩
      · exact ⟨by simp, fun x hx => by cases hx⟩
  unfold madeL
  split
  · exact ⟨by simp, fun x hx => by cases hx⟩
  · exact hE _
theorem isL_few (t : Tst) : (isL t).length ≤ 1000 ∧ ∀ x ∈ isL t, x.s.length ≤ 1000 := by
  unfold isL
  split
  · exact ⟨by simp, fun x hx => by rw [List.mem_singleton] at hx; subst hx; simp⟩
  · exact ⟨by simp, fun x hx => by cases hx⟩
/-- One of the predicates that were handed in, as a slice of its own. -/
theorem ps_one {u : World} {g o i : Nat} {b : Option Addr} {l : List Nd} {c : Nat} (hg : g < u.heap.size) (h : u.cell? ⟨g, o + i, none⟩ = some (.slice b l.length c)) (hc : l.length ≤ c) (hn : Ns u b l) : Ps u (some ⟨g, o + i, none⟩) [l] :=
  .inr ⟨g, o + i, rfl, hg, fun j hj => by
    have : j = 0 := by simp at hj; omega
    subst this
    exact ⟨b, c, h, hc, hn⟩⟩
/-- What stands while the first answers are looked at. -/
structure MkI (X : World) (q : Nat) (x : Option Addr) (n c : Nat) (hs : List Nh) (q2 : Nat) (y : Option Addr) (n2 d : Nat) (LA LO : List Nd) (u : World) : Prop where
  wr : WrN X q x n c hs u
  na : Ns u x LA
  box : u.cell? ⟨q2, 0, none⟩ = some (.slice y n2 d)
  no : Ns u y LO
  lt : q2 < u.heap.size
theorem MkI.grow {X u V : World} {q n c q2 n2 d : Nat} {x y : Option Addr} {hs : List Nh} {LA LO : List Nd} (h : MkI X q x n c hs q2 y n2 d LA LO u) (g : Below u.heap.size u V) : MkI X q x n c hs q2 y n2 d LA LO V :=
  ⟨h.wr.grow g, h.na.below g, (g.cell (p := ⟨q2, 0, none⟩) h.lt).trans h.box, h.no.below g, Nat.lt_of_lt_of_le h.lt g.size⟩
set_option maxRecDepth 20000 in
set_option maxHeartbeats 8000000 in
theorem makes_walk (a : Option Addr) (ps : List (List Nd)) (cap : Nat) (t : Tst) (w : World) (hs0 : Ps w a ps) (hll : ∀ l ∈ ps, l.length ≤ 9223372036854775807 ∧ ∀ x ∈ l, x.s.length ≤ 9223372036854775807) (hl : ps.length ≤ 9223372036854775807) (hlc : ps.length ≤ cap) :
    Calls Try.prog 4 #[.slice a ps.length cap, tV t] w fun e w' => e = .returned (.bool true) ∧ Below w.heap.size w w' := by
  obtain ⟨X, hX⟩ : ∃ X, w.alloc (.cells #[.int .i64 t.f, cv t.v, cv t.m] 32) = X := ⟨_, rfl⟩
  have gX : Below w.heap.size w X := by rw [← hX]; go_grown
  have zX : X.heap.size = w.heap.size + 1 := by rw [← hX]; simp
  have d0 : X.cell? ⟨w.heap.size, 0, none⟩ = some (.int .i64 t.f) := by rw [← hX]; simp
  have d1 : X.cell? ⟨w.heap.size, 1, none⟩ = some (cv t.v) := by rw [← hX]; simp
  have d2 : X.cell? ⟨w.heap.size, 2, none⟩ = some (cv t.m) := by rw [← hX]; simp
  have HX : Hid (Below w.heap.size w X ∧ X.heap.size = w.heap.size + 1) := ⟨gX, zX⟩
  have HBt : Hid (∀ u, Below X.heap.size X u → u.cell? ⟨w.heap.size, 0, none⟩ = some (.int .i64 t.f) ∧ u.cell? ⟨w.heap.size, 1, none⟩ = some (cv t.v) ∧ u.cell? ⟨w.heap.size, 2, none⟩ = some (cv t.m)) := (show ∀ u, _ from fun u g => by
    have hlt : w.heap.size < X.heap.size := by omega
    exact ⟨(g.cell (p := ⟨w.heap.size, 0, none⟩) hlt).trans d0, (g.cell (p := ⟨w.heap.size, 1, none⟩) hlt).trans d1, (g.cell (p := ⟨w.heap.size, 2, none⟩) hlt).trans d2⟩)
  have HPs : Hid (∀ u, Below X.heap.size X u → Ps u a ps) := (show ∀ u, _ from fun u g => (hs0.below gX).below g)
  have HLL : Hid (∀ l ∈ ps, l.length ≤ 9223372036854775807 ∧ ∀ x ∈ l, x.s.length ≤ 9223372036854775807) := hll
  have fA := made_few 4 ps
  have fO := made_few 5 ps
  have HA1 : Hid (Calls Try.prog 14 #[.slice a ps.length cap] X fun e w' => ∃ x c hs, e = .returned (.agg #[.slice x (madeL 4 ps).length c]) ∧ WrN X w'.heap.size x (madeL 4 ps).length c hs (w'.alloc (.cells #[.slice x (madeL 4 ps).length c] 24)) ∧ Ns (w'.alloc (.cells #[.slice x (madeL 4 ps).length c] 24)) x (madeL 4 ps)) := (show Calls _ _ _ _ _ from (and_any a ps cap X (hs0.below gX) hl hll).mono fun e w' h => h.wr fA.2)
  have HA2 : Hid (∀ u, Below X.heap.size X u → Calls Try.prog 14 #[.slice a ps.length cap] u fun e w' => ∃ x c, e = .returned (.agg #[.slice x (madeL 4 ps).length c]) ∧ Ns w' x (madeL 4 ps) ∧ Below u.heap.size u w') := (show ∀ u, _ from fun u g => (and_any a ps cap u (HPs.out u g) hl hll).mono fun e w' h => h.ns3)
  have HO : Hid (∀ u, Below X.heap.size X u → Calls Try.prog 15 #[.slice a ps.length cap] u fun e w' => ∃ x c, e = .returned (.agg #[.slice x (madeL 5 ps).length c]) ∧ Ns w' x (madeL 5 ps) ∧ Below u.heap.size u w') := (show ∀ u, _ from fun u g => (or_any a ps cap u (HPs.out u g) hl hll).mono fun e w' h => h.ns3)
  have HM4 : Hid (∀ u, Below X.heap.size X u → Calls Try.prog 17 #[.int .i64 4, .slice a ps.length cap] u fun e w' => ∃ x c, e = .returned (.agg #[.slice x (madeL 4 ps).length c]) ∧ Ns w' x (madeL 4 ps) ∧ Below u.heap.size u w') := (show ∀ u, _ from fun u g => (rmade_any 4 a ps cap u (HPs.out u g) hl hll).mono fun e w' h => h.ns3)
  have HM5 : Hid (∀ u, Below X.heap.size X u → Calls Try.prog 17 #[.int .i64 5, .slice a ps.length cap] u fun e w' => ∃ x c, e = .returned (.agg #[.slice x (madeL 5 ps).length c]) ∧ Ns w' x (madeL 5 ps) ∧ Below u.heap.size u w') := (show ∀ u, _ from fun u g => (rmade_any 5 a ps cap u (HPs.out u g) hl hll).mono fun e w' h => h.ns3)
  have HSA : Hid (∀ u x c y d, Ns u x (madeL 4 ps) → Ns u y (madeL 4 ps) → Calls Try.prog 16 #[.agg #[.slice x (madeL 4 ps).length c], .agg #[.slice y (madeL 4 ps).length d]] u fun e w' => e = .returned (.bool true) ∧ Below u.heap.size u w') := (show ∀ u x c y d, _ from fun u x c y d h1 h2 => rsame_any x _ c y d u h1 h2 fA.1 fA.2)
  have HSO : Hid (∀ u x c y d, Ns u x (madeL 5 ps) → Ns u y (madeL 5 ps) → Calls Try.prog 16 #[.agg #[.slice x (madeL 5 ps).length c], .agg #[.slice y (madeL 5 ps).length d]] u fun e w' => e = .returned (.bool true) ∧ Below u.heap.size u w') := (show ∀ u x c y d, _ from fun u x c y d h1 h2 => rsame_any x _ c y d u h1 h2 fO.1 fO.2)
  have HIp : Hid (∀ u, Calls Try.prog 19 #[.agg #[.int .i64 t.f, cv t.v, cv t.m]] u fun e w' => ∃ x c, e = .returned (.agg #[.slice x (isL t).length c]) ∧ Ns w' x (isL t) ∧ Below u.heap.size u w') := (show ∀ u, _ from fun u => (is_any t u).mono fun e w' h => h.ns3)
  have HIr : Hid (∀ u, Calls Try.prog 20 #[.agg #[.int .i64 t.f, cv t.v, cv t.m]] u fun e w' => ∃ x c, e = .returned (.agg #[.slice x (isL t).length c]) ∧ Ns w' x (isL t) ∧ Below u.heap.size u w') := (show ∀ u, _ from fun u => (ris_any t u).mono fun e w' h => h.ns3)
  have HSI : Hid (∀ u x c y d, Ns u x (isL t) → Ns u y (isL t) → Calls Try.prog 16 #[.agg #[.slice x (isL t).length c], .agg #[.slice y (isL t).length d]] u fun e w' => e = .returned (.bool true) ∧ Below u.heap.size u w') := (show ∀ u x c y d, _ from fun u x c y d h1 h2 => rsame_any x _ c y d u h1 h2 (isL_few t).1 (isL_few t).2)
  have HAw : Hid (∀ u, Below X.heap.size X u → Calls Try.prog 13 #[] u fun e w' => e = .returned (.bool true) ∧ Below X.heap.size X w') := (show ∀ u, _ from fun u g => (awake_any u).mono fun e w' ⟨h1, h2⟩ => ⟨h1, btr g h2 (Nat.le_refl _)⟩)
  obtain ⟨LI, hLI⟩ : ∃ L, isL t = L := ⟨_, rfl⟩
  rw [hLI] at HIp HIr HSI
  obtain ⟨LA, hLA⟩ : ∃ L, madeL 4 ps = L := ⟨_, rfl⟩
  rw [hLA] at HA1 HA2 HM4 HSA
  obtain ⟨LO, hLO⟩ : ∃ L, madeL 5 ps = L := ⟨_, rfl⟩
  rw [hLO] at HO HM5 HSO
  have HFA : Hid (LA.length ≤ 1000) := (show _ ≤ _ by rw [← hLA]; exact fA.1)
  generalize LI.length = nI at *
  generalize LA.length = nA at *
  generalize LO.length = nO at *
  obtain ⟨n, hn⟩ : ∃ n, ps.length = n := ⟨_, rfl⟩
  have HN : Hid (ps.length = n ∧ n ≤ cap) := ⟨hn, by omega⟩
  rw [hn] at HA1 HA2 HO HM4 HM5 hl hlc
  show Calls Try.prog 4 #[.slice a ps.length cap, .agg #[.int .i64 t.f, cv t.v, cv t.m]] w _
  rw [hn]
  clear hs0 hll gX zX fA fO hLI hLA hLO hn d0 d1 d2
  go_enter Try.func4, Try.ntmps4
  go_upto_region 3 with (first
    | (go_at_call 14; refine HA1.out.mono ?_; rintro e w1 ⟨x, c, hs, rfl, h1, h2⟩; have HW1 : Hid (WrN X w1.heap.size x nA c hs (w1.alloc (.cells #[.slice x nA c] 24)) ∧ Ns (w1.alloc (.cells #[.slice x nA c] 24)) x LA) := ⟨h1, h2⟩; clear h1 h2 HA1)
    | (go_at_call 15; refine (HO.out _ HW1.out.1.bel).mono ?_; rintro e w2 ⟨y, d, rfl, h1, h2⟩; have gV2 : Below w2.heap.size w2 (w2.alloc (.cells #[.slice y nO d] 24)) := (by go_grown); have HW2 : Hid (MkI X w1.heap.size x nA c hs w2.heap.size y nO d LA LO (w2.alloc (.cells #[.slice y nO d] 24))) := ⟨(HW1.out.1.grow h2).grow gV2, (HW1.out.2.below h2).below gV2, by simp, h1.below gV2, by simp⟩; clear h1 h2 gV2 HO)
    | fail)
  obtain ⟨W0, hW0⟩ : ∃ W0, w2.alloc (.cells #[.slice y nO d] 24) = W0 := ⟨_, rfl⟩
  rw [hW0] at HW2 ⊢
  clear hW0 HW1 hX
  generalize w1.heap.size = q1 at *
  generalize w2.heap.size = q2 at *
  have HDr : Hid (MkI X q1 x nA c hs q2 y nO d LA LO W0.drew) := (show MkI _ _ _ _ _ _ _ _ _ _ _ _ _ from HW2.out.grow (Below.refl _ _).drew)
  have kA := HW2.out.wr.box
  have kB := HW2.out.box
  go_region_held_law (fun W => W.cell? ⟨q1, 0, none⟩ = some (.slice x nA c) ∧ W.cell? ⟨q2, 0, none⟩ = some (.slice y nO d)) (first | assumption | exact ⟨by assumption, by assumption⟩ | exact ⟨kA, kB⟩ | exact ⟨HQ3.out.1.wr.box, HQ3.out.1.box⟩ | exact ⟨HQ4.out.wr.box, HQ4.out.box⟩ | exact ⟨HQ5.out.1.wr.box, HQ5.out.1.box⟩ | exact ⟨HQ6.out.wr.box, HQ6.out.box⟩) (first
    | (go_at_call_of 17 (Value.int .i64 4); refine (HM4.out _ HDr.out.wr.bel).mono ?_; rintro e w3 ⟨z, f, rfl, h1, h2⟩; have HQ3 : Hid (MkI X q1 x nA c hs q2 y nO d LA LO w3 ∧ Ns w3 z LA) := ⟨HDr.out.grow h2, h1⟩; clear h1 h2)
    | (go_at_call_of 17 (Value.int .i64 5); refine (HM5.out _ HQ4.out.wr.bel).mono ?_; rintro e w5 ⟨z5, f5, rfl, h1, h2⟩; have HQ5 : Hid (MkI X q1 x nA c hs q2 y nO d LA LO w5 ∧ Ns w5 z5 LO) := ⟨HQ4.out.grow h2, h1⟩; clear h1 h2)
    | (go_at_call 16; refine (HSO.out _ y d z5 f5 HQ5.out.1.no HQ5.out.2).mono ?_; rintro e w6 ⟨rfl, h1⟩; have HQ6 : Hid (MkI X q1 x nA c hs q2 y nO d LA LO w6) := HQ5.out.1.grow h1; clear h1)
    | (go_at_call 16; refine (HSA.out _ x c z f HQ3.out.1.na HQ3.out.2).mono ?_; rintro e w4 ⟨rfl, h1⟩; have HQ4 : Hid (MkI X q1 x nA c hs q2 y nO d LA LO w4) := HQ3.out.1.grow h1; clear h1)
    | fail)
  try simp only [Act.put, List.setIfInBounds_toArray, List.set_cons_zero, List.set_cons_succ]
  have HW6 : Hid (WrN X q1 x nA c hs w6) := HQ6.out.wr
  clear HQ3 HQ4 HQ5 HQ6 HDr kA kB HW2 HM5 HSO
  go_wp2_with fail
  go_loopw [7] (fun v7 wr => ∃ (i : Nat), i ≤ n ∧ v7 = .int .i64 i ∧ Hid (WrN X q1 x nA c hs wr)) (fun v7 _ => n - (intOf v7).toNat)
  case atStart => exact ⟨0, Nat.zero_le _, rfl, HW6⟩
  case round =>
    obtain ⟨i, hi, rfl, HW⟩ := hrel
    clear HW6
    go_upto_region 6 with fail
    go_cut [33] from 26 to 33 (fun c wx => c = .bool (decide (i < n ∧ i < 3)) ∧ wx = wr)
    case first =>
      rcases (show (i < n ∧ i < 3) ∨ ¬ i < n ∨ (i < n ∧ ¬ i < 3) by omega) with ⟨h1, h2⟩ | h1 | ⟨h1, h2⟩
      all_goals
        go_wp2_with fail
        go_meet
        first | (simp [*]; done) | (simp [*]; omega)
    case rest =>
    obtain ⟨rfl, hwc⟩ := hcut
    obtain rfl := hwc.symm
    by_cases hin : i < n ∧ i < 3
    · have hd := decide_eq_true hin
      obtain ⟨hlt, h3⟩ := hin
      rw [hd]
      clear hd
      have hip : i < ps.length := by have := HN.out.1; omega
      obtain ⟨g, o, rfl, hg, b, cb, hc, hlb, hns⟩ := (HPs.out wr HW.out.bel).at hip
      have hlx := HLL.out _ (List.getElem_mem hip)
      obtain ⟨l, hl'⟩ : ∃ l, ps[i] = l := ⟨_, rfl⟩
      rw [hl'] at hc hlb hns hlx
      have fN := made_few 6 [l]
      have HNo : Hid (∀ u, Below wr.heap.size wr u → Calls Try.prog 18 #[.agg #[.slice b l.length cb]] u fun e w' => ∃ x c, e = .returned (.agg #[.slice x (madeL 6 [l]).length c]) ∧ Ns w' x (madeL 6 [l]) ∧ Below wr.heap.size wr w' ∧ Below u.heap.size u w') := (show ∀ u, _ from fun u g2 => (not_any b l cb u (hns.below g2) hlb hlx.1 hlx.2).mono fun e w' h => by
        obtain ⟨x, c, h1, h2, h3⟩ := h.ns3
        exact ⟨x, c, h1, h2, btr g2 h3 (Nat.le_refl _), h3⟩)
      have HMo : Hid (∀ u, Below wr.heap.size wr u → Calls Try.prog 17 #[.int .i64 6, .slice (some ⟨g, o + i, none⟩) 1 (cap - i)] u fun e w' => ∃ x c, e = .returned (.agg #[.slice x (madeL 6 [l]).length c]) ∧ Ns w' x (madeL 6 [l]) ∧ Below wr.heap.size wr w' ∧ Below u.heap.size u w') := (show ∀ u, _ from fun u g2 => (rmade_any 6 (some ⟨g, o + i, none⟩) [l] (cap - i) u (ps_one (Nat.lt_of_lt_of_le hg g2.size) ((g2.cell (p := ⟨g, o + i, none⟩) hg).trans hc) hlb (hns.below g2)) (by simp) (fun l' hl' => by rw [List.mem_singleton] at hl'; subst hl'; exact hlx)).mono fun e w' h => by
        obtain ⟨x, c, h1, h2, h3⟩ := h.ns3
        exact ⟨x, c, h1, h2, btr g2 h3 (Nat.le_refl _), h3⟩)
      have HSN : Hid (∀ u x c y d, Ns u x (madeL 6 [l]) → Ns u y (madeL 6 [l]) → Calls Try.prog 16 #[.agg #[.slice x (madeL 6 [l]).length c], .agg #[.slice y (madeL 6 [l]).length d]] u fun e w' => e = .returned (.bool true) ∧ Below u.heap.size u w') := (show ∀ u x c y d, _ from fun u x c y d h1 h2 => rsame_any x _ c y d u h1 h2 fN.1 fN.2)
      have HCl : Hid (∀ u, Below wr.heap.size wr u → u.cell? ⟨g, o + i, none⟩ = some (.slice b l.length cb)) := (show ∀ u, _ from fun u g2 => (g2.cell (p := ⟨g, o + i, none⟩) hg).trans hc)
      generalize madeL 6 [l] = LN at *
      generalize LN.length = nN at *
      generalize l.length = nl at *
      have HDr : Hid (Below wr.heap.size wr wr.drew) := (show Below _ _ _ from (Below.refl _ _).drew)
      have j1 : (i : Int) + 1 ≤ (cap : Int) := by have := HN.out.2; omega
      have j2 : ¬ cap = i := by have := HN.out.2; omega
      have j3 : (0 : Int) ≤ (i : Int) + 1 := by omega
      have jw : IntKind.i64.wrap ((i : Int) + 1) = (i : Int) + 1 := by rw [IntKind.wrap_i64]; omega
      have j4 : i + 1 ≤ cap := by have := HN.out.2; omega
      clear fN hlx hns hlb hl' hg hip
      go_wp2_with fail
      go_region_held_law (fun W => W.cell? ⟨g, o + i, none⟩ = some (.slice b nl cb)) (first | assumption | exact hc | exact HCl.out _ HQm.out.1 | exact HCl.out _ HQn.out.1 | exact HCl.out _ HQ2.out.1 | exact HCl.out _ HQ5.out) (first
        | (go_at_call 18; refine (HNo.out _ HQm.out.1).mono ?_; rintro e w4 ⟨z, f, rfl, h1, h2, h3⟩; have HQ2 : Hid (Below wr.heap.size wr w4 ∧ Ns w4 z LN ∧ Ns w4 z2 LN) := ⟨h2, h1, HQm.out.2.below h3⟩; clear h1 h2 h3)
        | (go_at_call 18; refine (HNo.out _ HDr.out).mono ?_; rintro e w3 ⟨z, f, rfl, h1, h2, h3⟩; have HQn : Hid (Below wr.heap.size wr w3 ∧ Ns w3 z LN) := ⟨h2, h1⟩; clear h1 h2 h3)
        | (go_at_call 17; refine (HMo.out _ HQn.out.1).mono ?_; rintro e w4 ⟨z2, f2, rfl, h1, h2, h3⟩; have HQ2 : Hid (Below wr.heap.size wr w4 ∧ Ns w4 z LN ∧ Ns w4 z2 LN) := ⟨h2, HQn.out.2.below h3, h1⟩; clear h1 h2 h3)
        | (go_at_call 17; refine (HMo.out _ HDr.out).mono ?_; rintro e w3 ⟨z2, f2, rfl, h1, h2, h3⟩; have HQm : Hid (Below wr.heap.size wr w3 ∧ Ns w3 z2 LN) := ⟨h2, h1⟩; clear h1 h2 h3)
        | (go_at_call 16; refine (HSN.out _ z f z2 f2 HQ2.out.2.1 HQ2.out.2.2).mono ?_; rintro e w5 ⟨rfl, h1⟩; have HQ5 : Hid (Below wr.heap.size wr w5) := (show Below _ _ _ from btr HQ2.out.1 h1 (Nat.le_refl _)); clear h1)
        | fail)
      all_goals
        try simp only [Act.put, List.setIfInBounds_toArray, List.set_cons_zero, List.set_cons_succ]
        go_wp2_with fail
        go_roundw
        case rel => exact ⟨i + 1, by omega, by go_num, HW.out.grow HQ5.out⟩
        case measure => simp [intOf]; omega
    · rw [decide_eq_false hin]
      clear hin
      go_wp2_with fail
      go_loopw [8] (fun v8 wr => ∃ (i : Nat), i ≤ nA ∧ v8 = .int .i64 i ∧ Hid (WrN X q1 x nA c hs wr)) (fun v8 _ => nA - (intOf v8).toNat)
      case atStart => exact ⟨0, Nat.zero_le _, rfl, HW⟩
      case round =>
        obtain ⟨j, hj, rfl, HV⟩ := hrel
        clear HW
        have kb := HV.out.box
        have hnA : nA ≤ 1000 := HFA.out
        by_cases hlt : j < nA
        · have hjl : j < hs.length := by have := HV.out.len; omega
          obtain ⟨g, hxg, hgX, hgq, _⟩ := HV.out.ov (fun e => by rw [e] at hjl; cases hjl)
          subst hxg
          obtain ⟨sb, hsb⟩ : ∃ s, hs[j].b = s := ⟨_, rfl⟩
          obtain ⟨sc, hsc⟩ : ∃ s, hs[j].c = s := ⟨_, rfl⟩
          have hfew := HV.out.few _ (List.getElem_mem hjl)
          obtain ⟨sn, hsn⟩ : ∃ s, hs[j].x.s.length = s := ⟨_, rfl⟩
          have HAt : Hid (∀ u, WrN X q1 (some ⟨g, 0, none⟩) nA c hs u → u.cell? ⟨g, j * 5 + 4, none⟩ = some (.slice sb sn sc) ∧ (0 < sn → ∃ p, sb = some ⟨p, 0, none⟩ ∧ X.heap.size ≤ p ∧ p ≠ g ∧ p ≠ q1 ∧ u.there p 0 sn) ∧ (∃ v0, u.cell? ⟨g, j * 5, none⟩ = some v0) ∧ u.frozen? ⟨g, j * 5, none⟩ = false) := (show ∀ u, _ from fun u h => by
            obtain ⟨g', e, _, _, h2⟩ := h.ov (fun e => by rw [e] at hjl; cases hjl)
            cases e
            have h3 := h2.hd j hjl
            rw [hsb, hsc, hsn] at h3
            have h4 := h2.row (j * 5) (by omega)
            rw [Nat.zero_add] at h4
            refine ⟨h3, fun h0 => ?_, Option.isSome_iff_exists.1 h4.1, h4.2⟩
            obtain ⟨p, e2, k1, k2, k3, _, k5⟩ := h2.sub j hjl (fun e => by rw [e] at hsn; simp at hsn; omega)
            rw [hsb] at e2
            rw [hsn] at k5
            exact ⟨p, e2, k1, k2, k3, k5⟩)
          rw [hsn] at hfew
          have HGg : Hid (X.heap.size ≤ g ∧ g ≠ q1) := ⟨hgX, hgq⟩
          have kh := (HAt.out wr HV.out).1
          clear hsb hsc hsn hjl hgX hgq
          go_wp2_with fail
          go_loopw [9] (fun v9 wr => ∃ (k : Nat), k ≤ sn ∧ v9 = .int .i64 k ∧ Hid (WrN X q1 (some ⟨g, 0, none⟩) nA c hs wr)) (fun v9 _ => sn - (intOf v9).toNat)
          case atStart => exact ⟨0, Nat.zero_le _, rfl, HV⟩
          case round =>
            obtain ⟨k, hk, rfl, HV2⟩ := hrel
            clear HV kb kh
            have kb := HV2.out.box
            obtain ⟨kh, hp, ⟨v1, kv1⟩, kf1⟩ := HAt.out wr HV2.out
            by_cases hlt2 : k < sn
            · obtain ⟨p, rfl, p1, p2, p3, p4⟩ := hp (by omega)
              have q4 := p4 k hlt2
              rw [Nat.zero_add] at q4
              obtain ⟨v0, hv0⟩ := Option.isSome_iff_exists.1 q4.1
              have hf0 := q4.2
              have HQ : Hid (WrN X q1 (some ⟨g, 0, none⟩) nA c hs (wr.setCell ⟨p, k, none⟩ (.int .i64 (-7)))) := (show WrN _ _ _ _ _ _ _ from HV2.out.set p k _ p1 p3 (fun g' e => by cases e; exact .inl p2))
              clear q4 p1 p2 p3 p4 hp kv1 kf1 HV2
              go_wp2_with fail
              refine ⟨⟨k + 1, by omega, by go_num, HQ⟩, by simp [intOf]; omega⟩
            · have hkn : k = sn := by omega
              subst hkn
              have HQ : Hid (WrN X q1 (some ⟨g, 0, none⟩) nA c hs (wr.setCell ⟨g, j * 5, none⟩ (.int .i64 77))) := (show WrN _ _ _ _ _ _ _ from HV2.out.set g (j * 5) _ HGg.out.1 HGg.out.2 (fun g' e => .inr (fun i => by omega)))
              clear hp HV2
              go_wp2_with fail
              refine ⟨⟨j + 1, by omega, by go_num, HQ⟩, by simp [intOf]; omega⟩
        · have hjn : j = nA := by omega
          subst hjn
          obtain ⟨d0, d1, d2⟩ := HBt.out wr HV.out.bel
          have HDr : Hid (Below X.heap.size X wr.drew) := (show Below _ _ _ from HV.out.bel.drew)
          have HBx : Hid (∀ u, Below X.heap.size X u → u.cell? ⟨w.heap.size, 0, none⟩ = some (.int .i64 t.f) ∧ u.cell? ⟨w.heap.size, 1, none⟩ = some (cv t.v) ∧ u.cell? ⟨w.heap.size, 2, none⟩ = some (cv t.m)) := HBt.out
          generalize t.f = tf at *
          generalize cv t.v = tv at *
          generalize cv t.m = tm at *
          clear HLL HPs HFA HV
          go_wp2_with fail
          go_region_held_law (fun W => W.cell? ⟨w.heap.size, 0, none⟩ = some (.int .i64 tf) ∧ W.cell? ⟨w.heap.size, 1, none⟩ = some tv ∧ W.cell? ⟨w.heap.size, 2, none⟩ = some tm) (first | assumption | exact ⟨d0, d1, d2⟩ | exact HBx.out _ HQy.out | exact HBx.out _ HQz.out | exact HBx.out _ HQ8.out.1 | exact HBx.out _ HQi.out.1 | exact HBx.out _ HQj.out.1 | exact HBx.out _ HQ5.out | exact HBx.out _ HQ2.out.1 | exact HBx.out _ HQm.out.1 | exact HBx.out _ HQn.out.1) (first
            | (go_at_call 13; refine (HAw.out _ HQz.out).mono ?_; rintro e w9 ⟨rfl, h1⟩; have HQy : Hid (Below X.heap.size X w9) := h1; clear h1)
            | (go_at_call 16; refine (HSI.out _ zi fi zj fj HQ8.out.2.1 HQ8.out.2.2).mono ?_; rintro e w8 ⟨rfl, h1⟩; have HQz : Hid (Below X.heap.size X w8) := (show Below _ _ _ from btr HQ8.out.1 h1 (Nat.le_refl _)); clear h1)
            | (go_at_call 16; refine (HSA.out _ za fa zm fm HQ2.out.2.1 HQ2.out.2.2).mono ?_; rintro e w5 ⟨rfl, h1⟩; have HQ5 : Hid (Below X.heap.size X w5) := (show Below _ _ _ from btr HQ2.out.1 h1 (Nat.le_refl _)); clear h1)
            | (go_at_call 19; refine (HIp.out _).mono ?_; rintro e w7 ⟨zi, fi, rfl, h1, h2⟩; have HQ8 : Hid (Below X.heap.size X w7 ∧ Ns w7 zi LI ∧ Ns w7 zj LI) := ⟨btr HQj.out.1 h2 (Nat.le_refl _), h1, HQj.out.2.below h2⟩; clear h1 h2)
            | (go_at_call 19; refine (HIp.out _).mono ?_; rintro e w6 ⟨zi, fi, rfl, h1, h2⟩; have HQi : Hid (Below X.heap.size X w6 ∧ Ns w6 zi LI) := ⟨btr HQ5.out h2 (Nat.le_refl _), h1⟩; clear h1 h2)
            | (go_at_call 20; refine (HIr.out _).mono ?_; rintro e w7 ⟨zj, fj, rfl, h1, h2⟩; have HQ8 : Hid (Below X.heap.size X w7 ∧ Ns w7 zi LI ∧ Ns w7 zj LI) := ⟨btr HQi.out.1 h2 (Nat.le_refl _), HQi.out.2.below h2, h1⟩; clear h1 h2)
            | (go_at_call 20; refine (HIr.out _).mono ?_; rintro e w6 ⟨zj, fj, rfl, h1, h2⟩; have HQj : Hid (Below X.heap.size X w6 ∧ Ns w6 zj LI) := ⟨btr HQ5.out h2 (Nat.le_refl _), h1⟩; clear h1 h2)
            | (go_at_call 14; refine (HA2.out _ HQm.out.1).mono ?_; rintro e w4 ⟨za, fa, rfl, h1, h2⟩; have HQ2 : Hid (Below X.heap.size X w4 ∧ Ns w4 za LA ∧ Ns w4 zm LA) := ⟨btr HQm.out.1 h2 (Nat.le_refl _), h1, HQm.out.2.below h2⟩; clear h1 h2)
            | (go_at_call 14; refine (HA2.out _ HDr.out).mono ?_; rintro e w3 ⟨za, fa, rfl, h1, h2⟩; have HQn : Hid (Below X.heap.size X w3 ∧ Ns w3 za LA) := ⟨btr HDr.out h2 (Nat.le_refl _), h1⟩; clear h1 h2)
            | (go_at_call 17; refine (HM4.out _ HQn.out.1).mono ?_; rintro e w4 ⟨zm, fm, rfl, h1, h2⟩; have HQ2 : Hid (Below X.heap.size X w4 ∧ Ns w4 za LA ∧ Ns w4 zm LA) := ⟨btr HQn.out.1 h2 (Nat.le_refl _), HQn.out.2.below h2, h1⟩; clear h1 h2)
            | (go_at_call 17; refine (HM4.out _ HDr.out).mono ?_; rintro e w3 ⟨zm, fm, rfl, h1, h2⟩; have HQm : Hid (Below X.heap.size X w3 ∧ Ns w3 zm LA) := ⟨btr HDr.out h2 (Nat.le_refl _), h1⟩; clear h1 h2)
            | fail)
          all_goals
            try simp only [Act.put, List.setIfInBounds_toArray, List.set_cons_zero, List.set_cons_succ]
            go_wp2_with fail
            go_ret
            exact ⟨rfl, btr HX.out.1 HQy.out (by have := HX.out.2; omega)⟩
end Go.Proofs.Ytmobmpghpdaddaa

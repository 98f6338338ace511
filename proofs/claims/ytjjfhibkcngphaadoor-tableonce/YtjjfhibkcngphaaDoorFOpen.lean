/-
  What the rows hand to the walks: an entry, a slice of entries, a slice of calls, a packet in a switch.
-/
import Derived.Test.YtjjfhibkcngphaaDoorOpen
import Derived.Test.YtjjfhibkcngphaaDoorFSmall
import Derived.ShutString
import Derived.ChangeOld
import Derived.Below
import Derived.SizedLaws
import Derived.Carry
namespace Go.Proofs.YtjjfhibkcngphaaDoor
open Go.ChangeShapes Go.WideShapes Go.ChangeAt Go.RowKit
set_option linter.unusedVariables false
set_option linter.unusedSimpArgs false

theorem cellsTest : Tryd.prog.cellsOf 64 = 3 := by kernel_rfl
theorem cellsActs : Tryd.prog.cellsOf 36 = 1 := by kernel_rfl
theorem cellsTests : Tryd.prog.cellsOf 35 = 1 := by kernel_rfl
theorem cellsBool : Tryd.prog.cellsOf 4 = 1 := by kernel_rfl
theorem cellsEntry : Tryd.prog.cellsOf 38 = 10 := by kernel_rfl
theorem cellsOp : Tryd.prog.cellsOf 40 = 12 := by kernel_rfl
set_option maxRecDepth 100000 in
theorem mtests_of {H : Type} {enc : TypeId × Value → H} {W : World} {a : Option Addr} {len cap fuel : Nat} {x : DataW H × List MemPlace} (hlt : ∀ p ∈ x.2, p.block < W.heap.size)
    (h : DataW.trod enc Tryd.prog W 0 (fun _ => true) true fuel 35 [.slice a len cap] = some x) : ∃ l : List Mt.T, l.length = len ∧ Mt.Ts W a l ∧ Mt.TWs l ∧ len ≤ cap ∧ len ≤ maxLen := by
  rcases Deep.open_slice Tryd.underlying35 h with ⟨hcs, _⟩ | ⟨ad, ln, cp, m, n, D, Pl, hcs, hb, hl, hm, hmm, hx, hel⟩
  · simp at hcs
    exact ⟨[], hcs.2.1.symm, .inl rfl, by simp, by omega, by unfold maxLen; omega⟩
  · simp at hcs
    obtain ⟨rfl, rfl, rfl⟩ := hcs
    have hm' : m = cap := by simpa using hmm
    subst hm'
    have one : ∀ i, i < len → ∃ t : Mt.T, W.cell? (ad.add (i * 3)) = some (.int .i64 t.1) ∧ W.cell? (ad.add (i * 3 + 1)) = some (.int .u64 t.2.1) ∧ W.cell? (ad.add (i * 3 + 2)) = some (.int .u64 t.2.2) ∧ Mt.TW t := by
      intro i hi
      obtain ⟨cs', h1, h2⟩ := hel i (by omega)
      rw [cellsTest] at h1
      obtain ⟨_, hlen, hcell⟩ := World.cells?_some h1
      obtain ⟨xs, k, hk, hxy, _, hxl, hf⟩ := DataW.trod_struct Tryd.underlying64 h2
      match xs, hxl, cs', hlen with
      | [y0, y1, y2], _, [v0, v1, v2], _ =>
        have g0 := hf 0 _ rfl
        have g1 := hf 1 _ rfl
        have g2 := hf 2 _ rfl
        simp [cellsInt, cellsU] at g0 g1 g2
        obtain ⟨n0, e0, d0, r0⟩ := DataW.trod_int Tryd.underlying3 g0
        obtain ⟨n1, e1, d1, r1⟩ := DataW.trod_int Tryd.underlying23 g1
        obtain ⟨n2, e2, d2, r2⟩ := DataW.trod_int Tryd.underlying23 g2
        simp at e0 e1 e2
        have c0 := hcell 0 (by omega)
        have c1 := hcell 1 (by omega)
        have c2 := hcell 2 (by omega)
        rw [Deep.add_add] at c0 c1 c2
        refine ⟨(n0, n1, n2), by simpa [e0] using c0, by simpa [e1] using c1, by simpa [e2] using c2, ?_⟩
        obtain ⟨a0, a1⟩ := wf_u64 r1
        obtain ⟨b0, b1⟩ := wf_u64 r2
        exact ⟨a0, a1, b0, b1⟩
    obtain ⟨f, hf⟩ := Deep.choose_lt one
    by_cases h0 : len = 0
    · subst h0
      exact ⟨[], rfl, .inl rfl, by simp, hl, by unfold maxLen; omega⟩
    · obtain ⟨g, o, spot⟩ := ad
      have hsp : spot = none := by simpa [Addr.add] using World.cell?_spot (hf 0 (by omega)).1
      subst hsp
      have hg : g < W.heap.size := hlt (.cell g (o + 0)) (by rw [hx, cellsTest]; exact List.mem_append_left _ (by simp [MemPlace.row]; omega))
      refine ⟨(List.range len).map f, by simp, .inr ⟨g, o, rfl, hg, fun i hi => ?_⟩, ?_, hl, by unfold maxLen at hm ⊢; omega⟩
      · have hi' : i < len := by simpa using hi
        obtain ⟨x0, x1, x2, _⟩ := hf i hi'
        rw [plain] at x0 x1 x2
        simp only [List.getElem_map, List.getElem_range]
        exact ⟨x0, by rw [← Nat.add_assoc] at x1; exact x1, by rw [← Nat.add_assoc] at x2; exact x2⟩
      · intro t ht
        rw [List.mem_map] at ht
        obtain ⟨i, hi, rfl⟩ := ht
        exact (hf i (List.mem_range.1 hi)).2.2.2
theorem mtests_in {H : Type} {enc : TypeId × Value → H} {W : World} {c : Value} {fuel : Nat} {x : DataW H × List MemPlace}
    (h : DataW.trod enc Tryd.prog W 0 (fun _ => true) true fuel 35 [c] = some x) : ∃ a, ∃ l : List Mt.T, ∃ cap, c = .slice a l.length cap ∧ Mt.Ts W a l ∧ Mt.TWs l ∧ l.length ≤ cap ∧ l.length ≤ maxLen := by
  have hlt : ∀ p ∈ x.2, p.block < W.heap.size := DataW.trod_lt fuel _ _ _ h
  rcases Deep.open_slice Tryd.underlying35 h with ⟨hcs, _⟩ | ⟨ad, ln, cp, _, _, _, _, hcs, _⟩
  · have hc : c = .slice none 0 0 := (List.cons.inj hcs).1
    subst hc
    exact ⟨none, [], 0, rfl, .inl rfl, by simp, by simp, by simp⟩
  · have hc : c = .slice (some ad) ln cp := (List.cons.inj hcs).1
    subst hc
    obtain ⟨l, h1, h2, h3, h4, h5⟩ := mtests_of hlt h
    exact ⟨some ad, l, cp, by rw [h1], h2, h3, by rw [h1]; exact h4, by rw [h1]; exact h5⟩
theorem acts_in {H : Type} {enc : TypeId × Value → H} {W : World} {c : Value} {fuel : Nat} {x : DataW H × List MemPlace}
    (h : DataW.trod enc Tryd.prog W 0 (fun _ => true) true fuel 36 [c] = some x) : ∃ a, ∃ l : List A, ∃ cap, c = .slice a l.length cap ∧ Ts W a l ∧ AWs l ∧ l.length ≤ maxLen := by
  have hlt : ∀ p ∈ x.2, p.block < W.heap.size := DataW.trod_lt fuel _ _ _ h
  rcases Deep.open_slice Tryd.underlying36 h with ⟨hcs, _⟩ | ⟨ad, ln, cp, _, _, _, _, hcs, _⟩
  · have hc : c = .slice none 0 0 := (List.cons.inj hcs).1
    subst hc
    exact ⟨none, [], 0, rfl, .inl rfl, by simp, by simp⟩
  · have hc : c = .slice (some ad) ln cp := (List.cons.inj hcs).1
    subst hc
    obtain ⟨l, h1, h2, h3, _, h5⟩ := acts_of hlt h
    exact ⟨some ad, l, cp, by rw [h1], h2, h3, by rw [h1]; exact h5⟩
/-- An entry that is handed in. -/
structure FIn (w : World) (x : Fe) : Prop where
  t : Mt.Ts w x.ta x.p.lt
  a : Ts w x.aa x.p.la
  w : Ts w x.aw x.p.lw
  ct : x.p.lt.length ≤ x.tc
  nt : x.p.lt.length ≤ maxLen
  na : x.p.la.length ≤ maxLen
  nw : x.p.lw.length ≤ maxLen
  vt : Mt.TWs x.p.lt
  va : AWs x.p.la
  vw : AWs x.p.lw
  m0 : 0 ≤ x.p.mt ∧ x.p.mt < 18446744073709551616
  m1 : 0 ≤ x.p.mm ∧ x.p.mm < 18446744073709551616
  i0 : -9223372036854775808 ≤ x.p.tab ∧ x.p.tab < 9223372036854775808
  i1 : -9223372036854775808 ≤ x.p.pri ∧ x.p.pri < 9223372036854775808
  i2 : -9223372036854775808 ≤ x.p.met ∧ x.p.met < 9223372036854775808
  i3 : -9223372036854775808 ≤ x.p.go ∧ x.p.go < 9223372036854775808
theorem FIn.fw {w : World} {x : Fe} (h : FIn w x) (hf : fewB x.p = true) : FW w x := by
  unfold fewB at hf
  simp at hf
  exact ⟨h.t, h.a, h.w, by omega, by omega, by omega, h.ct⟩
theorem FIn.lt {w : World} {x : Fe} (h : FIn w x) {b : Nat} (hb : InF x b) : b < w.heap.size := by
  rcases hb with hb | hb | hb
  · exact h.t.lt hb
  · exact h.a.lt hb
  · exact h.w.lt hb
set_option maxRecDepth 100000 in
theorem en_in {H : Type} {enc : TypeId × Value → H} {W : World} {c0 c1 c2 c3 c4 c5 c6 c7 c8 c9 : Value} {fuel : Nat} {x : DataW H × List MemPlace} (h : DataW.trod enc Tryd.prog W 0 (fun _ => true) true fuel 38 [c0, c1, c2, c3, c4, c5, c6, c7, c8, c9] = some x) :
    ∃ y : Fe, [c0, c1, c2, c3, c4, c5, c6, c7, c8, c9] = (feC y).toList ∧ FIn W y := by
  obtain ⟨xs, m, _, _, _, hlen, hfs⟩ := DataW.trod_struct Tryd.underlying38 h
  match xs, hlen with
  | [y0, y1, y2, y3, y4, y5, y6, y7, y8, y9], _ =>
    have t0 : DataW.trod enc Tryd.prog W 0 (fun _ => true) true m 3 [c0] = some y0 := by simpa [cellsInt, cellsTests, cellsActs, cellsBool, cellsU] using hfs 0 _ rfl
    have t1 : DataW.trod enc Tryd.prog W 0 (fun _ => true) true m 3 [c1] = some y1 := by simpa [cellsInt, cellsTests, cellsActs, cellsBool, cellsU] using hfs 1 _ rfl
    have t2 : DataW.trod enc Tryd.prog W 0 (fun _ => true) true m 35 [c2] = some y2 := by simpa [cellsInt, cellsTests, cellsActs, cellsBool, cellsU] using hfs 2 _ rfl
    have t3 : DataW.trod enc Tryd.prog W 0 (fun _ => true) true m 36 [c3] = some y3 := by simpa [cellsInt, cellsTests, cellsActs, cellsBool, cellsU] using hfs 3 _ rfl
    have t4 : DataW.trod enc Tryd.prog W 0 (fun _ => true) true m 36 [c4] = some y4 := by simpa [cellsInt, cellsTests, cellsActs, cellsBool, cellsU] using hfs 4 _ rfl
    have t5 : DataW.trod enc Tryd.prog W 0 (fun _ => true) true m 4 [c5] = some y5 := by simpa [cellsInt, cellsTests, cellsActs, cellsBool, cellsU] using hfs 5 _ rfl
    have t6 : DataW.trod enc Tryd.prog W 0 (fun _ => true) true m 23 [c6] = some y6 := by simpa [cellsInt, cellsTests, cellsActs, cellsBool, cellsU] using hfs 6 _ rfl
    have t7 : DataW.trod enc Tryd.prog W 0 (fun _ => true) true m 23 [c7] = some y7 := by simpa [cellsInt, cellsTests, cellsActs, cellsBool, cellsU] using hfs 7 _ rfl
    have t8 : DataW.trod enc Tryd.prog W 0 (fun _ => true) true m 3 [c8] = some y8 := by simpa [cellsInt, cellsTests, cellsActs, cellsBool, cellsU] using hfs 8 _ rfl
    have t9 : DataW.trod enc Tryd.prog W 0 (fun _ => true) true m 3 [c9] = some y9 := by simpa [cellsInt, cellsTests, cellsActs, cellsBool, cellsU] using hfs 9 _ rfl
    obtain ⟨n0, q0, _, w0⟩ := DataW.trod_int Tryd.underlying3 t0
    have z0 := (List.cons.inj q0).1
    obtain ⟨n1, q1, _, w1⟩ := DataW.trod_int Tryd.underlying3 t1
    have z1 := (List.cons.inj q1).1
    obtain ⟨ta, lt, tc, z2, ht, vt, hct, hnt⟩ := mtests_in t2
    obtain ⟨aa, la, ca, z3, ha, va, hna⟩ := acts_in t3
    obtain ⟨aw, lw, cw, z4, hw, vw, hnw⟩ := acts_in t4
    obtain ⟨b5, q5, _⟩ := DataW.trod_bool Tryd.underlying4 t5
    have z5 := (List.cons.inj q5).1
    obtain ⟨n6, q6, _, w6⟩ := DataW.trod_int Tryd.underlying23 t6
    have z6 := (List.cons.inj q6).1
    obtain ⟨n7, q7, _, w7⟩ := DataW.trod_int Tryd.underlying23 t7
    have z7 := (List.cons.inj q7).1
    obtain ⟨n8, q8, _, w8⟩ := DataW.trod_int Tryd.underlying3 t8
    have z8 := (List.cons.inj q8).1
    obtain ⟨n9, q9, _, w9⟩ := DataW.trod_int Tryd.underlying3 t9
    have z9 := (List.cons.inj q9).1
    refine ⟨⟨⟨n0, n1, lt, la, lw, b5, n6, n7, n8, n9⟩, ta, tc, aa, ca, aw, cw⟩, by rw [z0, z1, z2, z3, z4, z5, z6, z7, z8, z9], ⟨ht, ha, hw, hct, hnt, hna, hnw, vt, va, vw, wf_u64 w6, wf_u64 w7, wf_i64 w0, wf_i64 w1, wf_i64 w8, wf_i64 w9⟩⟩
theorem array10 {α : Type} {cs : Array α} (h : cs.size = 10) : ∃ c0 c1 c2 c3 c4 c5 c6 c7 c8 c9, cs = #[c0, c1, c2, c3, c4, c5, c6, c7, c8, c9] := by
  obtain ⟨l⟩ := cs
  match l, h with
  | [c0, c1, c2, c3, c4, c5, c6, c7, c8, c9], _ => exact ⟨c0, c1, c2, c3, c4, c5, c6, c7, c8, c9, rfl⟩
set_option maxRecDepth 100000 in
/-- An entry that is handed in. -/
theorem open_fe {H : Type} {enc : TypeId × Value → H} {W : World} {r : Reach} {b0 : Nat} {v : Value} {d : DataW H} {ps : List MemPlace} (hv : Value.okWide Tryd.prog W r b0 38 v) (h : DataW.Trod enc Tryd.prog W 0 (fun _ => true) true 38 v d ps) :
    ∃ x : Fe, v = feV x ∧ FIn W x := by
  obtain ⟨cs, rfl, hsz⟩ := okWide_struct Tryd.underlying38 hv
  obtain ⟨c0, c1, c2, c3, c4, c5, c6, c7, c8, c9, rfl⟩ := array10 (hsz.trans (by kernel_rfl))
  obtain ⟨fuel, hf⟩ := h
  obtain ⟨y, hy, hi⟩ := en_in (by simpa [Value.cells] using hf)
  refine ⟨y, ?_, hi⟩
  have e : (#[c0, c1, c2, c3, c4, c5, c6, c7, c8, c9] : Array Value) = feC y := Array.toList_inj.1 (by simpa using hy)
  show Value.agg _ = Value.agg (feC y)
  rw [e]
/-- Parts, for choosing. -/
abbrev Tup := Int × Int × List Mt.T × List A × List A × Bool × Int × Int × Int × Int × Option Addr × Nat × Option Addr × Nat × Option Addr × Nat
def ofT (t : Tup) : Fe := ⟨⟨t.1, t.2.1, t.2.2.1, t.2.2.2.1, t.2.2.2.2.1, t.2.2.2.2.2.1, t.2.2.2.2.2.2.1, t.2.2.2.2.2.2.2.1, t.2.2.2.2.2.2.2.2.1, t.2.2.2.2.2.2.2.2.2.1⟩, t.2.2.2.2.2.2.2.2.2.2.1, t.2.2.2.2.2.2.2.2.2.2.2.1, t.2.2.2.2.2.2.2.2.2.2.2.2.1, t.2.2.2.2.2.2.2.2.2.2.2.2.2.1, t.2.2.2.2.2.2.2.2.2.2.2.2.2.2.1, t.2.2.2.2.2.2.2.2.2.2.2.2.2.2.2⟩
def toT (x : Fe) : Tup := (x.p.tab, x.p.pri, x.p.lt, x.p.la, x.p.lw, x.p.clr, x.p.mt, x.p.mm, x.p.met, x.p.go, x.ta, x.tc, x.aa, x.ca, x.aw, x.cw)
theorem of_to (x : Fe) : ofT (toT x) = x := rfl
/-- Entries that are handed in. -/
def EnAt (w : World) (a : Option Addr) (l : List Fe) : Prop := l = [] ∨ ∃ g o, a = some ⟨g, o, none⟩ ∧ g < w.heap.size ∧ ∀ i (h : i < l.length), Be w g (o + i * 10) l[i]
/-- Calls that are handed in. -/
def OpAt (w : World) (a : Option Addr) (l : List Opn) : Prop := l = [] ∨ ∃ g o, a = some ⟨g, o, none⟩ ∧ g < w.heap.size ∧ ∀ i (h : i < l.length), w.rangeAt g (o + i * 12) (opC l[i]).toList
def ofO (t : Int × Tup × Bool) : Opn := ⟨t.1, ofT t.2.1, t.2.2⟩
def toO (x : Opn) : Int × Tup × Bool := (x.ask, toT x.x, x.hard)
theorem of_toO (x : Opn) : ofO (toO x) = x := rfl
set_option maxRecDepth 100000 in
theorem entries_of {H : Type} {enc : TypeId × Value → H} {W : World} {a : Option Addr} {len cap fuel : Nat} {x : DataW H × List MemPlace} (hlt : ∀ p ∈ x.2, p.block < W.heap.size)
    (h : DataW.trod enc Tryd.prog W 0 (fun _ => true) true fuel 42 [.slice a len cap] = some x) : ∃ l : List Fe, l.length = len ∧ EnAt W a l ∧ (∀ y ∈ l, FIn W y) ∧ len ≤ maxLen ∧ len ≤ cap := by
  rcases Deep.open_slice Tryd.underlying42 h with ⟨hcs, _⟩ | ⟨ad, ln, cp, m, n, D, Pl, hcs, hb, hl, hm, hmm, hx, hel⟩
  · simp at hcs
    exact ⟨[], hcs.2.1.symm, .inl rfl, by simp, by unfold maxLen; omega, by omega⟩
  · simp at hcs
    obtain ⟨rfl, rfl, rfl⟩ := hcs
    have hm' : m = cap := by simpa using hmm
    subst hm'
    have one : ∀ i, i < len → ∃ t : Tup, (∀ j v, (feC (ofT t)).toList[j]? = some v → W.cell? (ad.add (i * 10 + j)) = some v) ∧ FIn W (ofT t) := by
      intro i hi
      obtain ⟨cs', h1, h2⟩ := hel i (by omega)
      rw [cellsEntry] at h1
      obtain ⟨_, hlen, hcell⟩ := World.cells?_some h1
      match cs', hlen with
      | [v0, v1, v2, v3, v4, v5, v6, v7, v8, v9], _ =>
        obtain ⟨y, hy, hiy⟩ := en_in h2
        refine ⟨toT y, fun j v hj => ?_, by rw [of_to]; exact hiy⟩
        rw [of_to, ← hy] at hj
        have hj10 : j < 10 := by have := (List.getElem?_eq_some_iff.1 hj).1; simpa using this
        have c := hcell j hj10
        rw [Deep.add_add] at c
        rw [c]
        exact hj
    obtain ⟨f, hf⟩ := Deep.choose_lt one
    by_cases h0 : len = 0
    · subst h0
      exact ⟨[], rfl, .inl rfl, by simp, by unfold maxLen; omega, hl⟩
    · obtain ⟨g, o, spot⟩ := ad
      have hsp : spot = none := by simpa [Addr.add] using World.cell?_spot ((hf 0 (by omega)).1 0 _ rfl)
      subst hsp
      have hg : g < W.heap.size := hlt (.cell g (o + 0)) (by rw [hx, cellsEntry]; exact List.mem_append_left _ (by simp [MemPlace.row]; omega))
      refine ⟨(List.range len).map fun i => ofT (f i), by simp, .inr ⟨g, o, rfl, hg, fun i hi => ?_⟩, ?_, by unfold maxLen at hm ⊢; omega, hl⟩
      · have hi' : i < len := by simpa using hi
        simp only [List.getElem_map, List.getElem_range]
        intro j v hj
        have := (hf i hi').1 j v hj
        rw [plain] at this
        rwa [Nat.add_assoc]
      · intro t ht
        rw [List.mem_map] at ht
        obtain ⟨i, hi, rfl⟩ := ht
        exact (hf i (List.mem_range.1 hi)).2
set_option maxRecDepth 100000 in
theorem ops_of {H : Type} {enc : TypeId × Value → H} {W : World} {a : Option Addr} {len cap fuel : Nat} {x : DataW H × List MemPlace} (hlt : ∀ p ∈ x.2, p.block < W.heap.size)
    (h : DataW.trod enc Tryd.prog W 0 (fun _ => true) true fuel 22 [.slice a len cap] = some x) : ∃ l : List Opn, l.length = len ∧ OpAt W a l ∧ (∀ y ∈ l, FIn W y.x) ∧ len ≤ maxLen ∧ len ≤ cap := by
  rcases Deep.open_slice Tryd.underlying22 h with ⟨hcs, _⟩ | ⟨ad, ln, cp, m, n, D, Pl, hcs, hb, hl, hm, hmm, hx, hel⟩
  · simp at hcs
    exact ⟨[], hcs.2.1.symm, .inl rfl, by simp, by unfold maxLen; omega, by omega⟩
  · simp at hcs
    obtain ⟨rfl, rfl, rfl⟩ := hcs
    have hm' : m = cap := by simpa using hmm
    subst hm'
    have one : ∀ i, i < len → ∃ t : Int × Tup × Bool, (∀ j v, (opC (ofO t)).toList[j]? = some v → W.cell? (ad.add (i * 12 + j)) = some v) ∧ FIn W (ofO t).x := by
      intro i hi
      obtain ⟨cs', h1, h2⟩ := hel i (by omega)
      rw [cellsOp] at h1
      obtain ⟨_, hlen, hcell⟩ := World.cells?_some h1
      obtain ⟨xs, k, hk, hxy, _, hxl, hf⟩ := DataW.trod_struct Tryd.underlying40 h2
      match xs, hxl, cs', hlen with
      | [y0, y1, y2], _, [v0, v1, v2, v3, v4, v5, v6, v7, v8, v9, v10, v11], _ =>
        have g0 : DataW.trod enc Tryd.prog W 0 (fun _ => true) true k 3 [v0] = some y0 := by simpa [cellsInt, cellsEntry, cellsBool] using hf 0 _ rfl
        have g1 : DataW.trod enc Tryd.prog W 0 (fun _ => true) true k 38 [v1, v2, v3, v4, v5, v6, v7, v8, v9, v10] = some y1 := by simpa [cellsInt, cellsEntry, cellsBool] using hf 1 _ rfl
        have g2 : DataW.trod enc Tryd.prog W 0 (fun _ => true) true k 4 [v11] = some y2 := by simpa [cellsInt, cellsEntry, cellsBool] using hf 2 _ rfl
        obtain ⟨n0, e0, _, _⟩ := DataW.trod_int Tryd.underlying3 g0
        obtain ⟨b2, e2, _⟩ := DataW.trod_bool Tryd.underlying4 g2
        obtain ⟨y, hy, hiy⟩ := en_in g1
        have z0 := (List.cons.inj e0).1
        have z2 := (List.cons.inj e2).1
        refine ⟨toO ⟨n0, y, b2⟩, fun j v hj => ?_, by rw [of_toO]; exact hiy⟩
        rw [of_toO] at hj
        have el : (opC ⟨n0, y, b2⟩).toList = [v0, v1, v2, v3, v4, v5, v6, v7, v8, v9, v10, v11] := by
          have e : (opC ⟨n0, y, b2⟩).toList = .int .i64 n0 :: ((feC y).toList ++ [.bool b2]) := rfl
          rw [e, ← hy, z0, z2]
          rfl
        rw [el] at hj
        have hj12 : j < 12 := by have := (List.getElem?_eq_some_iff.1 hj).1; simpa using this
        have c := hcell j hj12
        rw [Deep.add_add] at c
        rw [c]
        exact hj
    obtain ⟨f, hf⟩ := Deep.choose_lt one
    by_cases h0 : len = 0
    · subst h0
      exact ⟨[], rfl, .inl rfl, by simp, by unfold maxLen; omega, hl⟩
    · obtain ⟨g, o, spot⟩ := ad
      have hsp : spot = none := by simpa [Addr.add] using World.cell?_spot ((hf 0 (by omega)).1 0 _ rfl)
      subst hsp
      have hg : g < W.heap.size := hlt (.cell g (o + 0)) (by rw [hx, cellsOp]; exact List.mem_append_left _ (by simp [MemPlace.row]; omega))
      refine ⟨(List.range len).map fun i => ofO (f i), by simp, .inr ⟨g, o, rfl, hg, fun i hi => ?_⟩, ?_, by unfold maxLen at hm ⊢; omega, hl⟩
      · have hi' : i < len := by simpa using hi
        simp only [List.getElem_map, List.getElem_range]
        intro j v hj
        have := (hf i hi').1 j v hj
        rw [plain] at this
        rwa [Nat.add_assoc]
      · intro t ht
        rw [List.mem_map] at ht
        obtain ⟨i, hi, rfl⟩ := ht
        exact (hf i (List.mem_range.1 hi)).2
theorem array13 {α : Type} {cs : Array α} (h : cs.size = 13) : ∃ c0 c1 c2 c3 c4 c5 c6 c7 c8 c9 c10 c11 c12, cs = #[c0, c1, c2, c3, c4, c5, c6, c7, c8, c9, c10, c11, c12] := by
  obtain ⟨l⟩ := cs
  match l, h with
  | [c0, c1, c2, c3, c4, c5, c6, c7, c8, c9, c10, c11, c12], _ => exact ⟨c0, c1, c2, c3, c4, c5, c6, c7, c8, c9, c10, c11, c12, rfl⟩
theorem wf_u32 {n : Int} (h : (Lit.int .u32 n).wf = true) : 0 ≤ n ∧ n < 4294967296 := by
  simp [Lit.wf, IntKind.min, IntKind.max, IntKind.signed, IntKind.bits] at h; omega
theorem e22 : Tryd.prog.cellsOf 23 = 1 := by kernel_rfl
theorem e23 : Tryd.prog.cellsOf 24 = 1 := by kernel_rfl
theorem e3 : Tryd.prog.cellsOf 3 = 1 := by kernel_rfl
theorem e9 : Tryd.prog.cellsOf 9 = 1 := by kernel_rfl
theorem e25 : Tryd.prog.cellsOf 26 = 11 := by kernel_rfl
set_option maxRecDepth 100000 in
theorem open_sn {H : Type} {enc : TypeId × Value → H} {W : World} {r : Reach} {b0 base : Nat} {sp : Nat → Bool} {held : Bool} {v : Value} {d : DataW H} {ps : List MemPlace} (hv : Value.okWide Tryd.prog W r b0 28 v) (h : DataW.Trod enc Tryd.prog W base sp held 28 v d ps) :
    ∃ s : Mt.Sn, v = Mt.snV s ∧ Mt.Wf s ∧ s.data.size ≤ maxLen := by
  obtain ⟨cs, rfl, hsz⟩ := okWide_struct Tryd.underlying28 hv
  obtain ⟨c0, c1, c2, c3, c4, c5, c6, c7, c8, c9, c10, c11, c12, rfl⟩ := array13 (hsz.trans (by kernel_rfl))
  obtain ⟨fuel, hf⟩ := h
  obtain ⟨xs, m, _, _, _, hlen, hfs⟩ := DataW.trod_struct Tryd.underlying28 hf
  match xs, hlen with
  | [y0, y1, yp], _ =>
    have tp : DataW.trod enc Tryd.prog W base sp held m 26 [c2, c3, c4, c5, c6, c7, c8, c9, c10, c11, c12] = some yp := by simpa [Value.cells, e25] using hfs 2 _ rfl
    obtain ⟨zs, n, _, _, _, hlen2, hgs⟩ := DataW.trod_struct Tryd.underlying26 tp
    match zs, hlen2 with
    | [y2, y3, y4, y5, y6, y7, y8, y9, y10, y11, y12], _ =>
      have t0 : DataW.trod enc Tryd.prog W base sp held m 3 [c0] = some y0 := by simpa [Value.cells, e3] using hfs 0 _ rfl
      obtain ⟨n0, q0, _, w0⟩ := DataW.trod_int Tryd.underlying3 t0
      have z0 := (List.cons.inj q0).1
      have t1 : DataW.trod enc Tryd.prog W base sp held m 23 [c1] = some y1 := by simpa [Value.cells, e22] using hfs 1 _ rfl
      obtain ⟨n1, q1, _, w1⟩ := DataW.trod_int Tryd.underlying23 t1
      have z1 := (List.cons.inj q1).1
      have t2 : DataW.trod enc Tryd.prog W base sp held n 23 [c2] = some y2 := by simpa [Value.cells, e22] using hgs 0 _ rfl
      obtain ⟨n2, q2, _, w2⟩ := DataW.trod_int Tryd.underlying23 t2
      have z2 := (List.cons.inj q2).1
      have t3 : DataW.trod enc Tryd.prog W base sp held n 23 [c3] = some y3 := by simpa [Value.cells, e22] using hgs 1 _ rfl
      obtain ⟨n3, q3, _, w3⟩ := DataW.trod_int Tryd.underlying23 t3
      have z3 := (List.cons.inj q3).1
      have t4 : DataW.trod enc Tryd.prog W base sp held n 3 [c4] = some y4 := by simpa [Value.cells, e3] using hgs 2 _ rfl
      obtain ⟨n4, q4, _, w4⟩ := DataW.trod_int Tryd.underlying3 t4
      have z4 := (List.cons.inj q4).1
      have t5 : DataW.trod enc Tryd.prog W base sp held n 3 [c5] = some y5 := by simpa [Value.cells, e3] using hgs 3 _ rfl
      obtain ⟨n5, q5, _, w5⟩ := DataW.trod_int Tryd.underlying3 t5
      have z5 := (List.cons.inj q5).1
      have t6 : DataW.trod enc Tryd.prog W base sp held n 24 [c6] = some y6 := by simpa [Value.cells, e23] using hgs 4 _ rfl
      obtain ⟨n6, q6, _, w6⟩ := DataW.trod_int Tryd.underlying24 t6
      have z6 := (List.cons.inj q6).1
      have t7 : DataW.trod enc Tryd.prog W base sp held n 24 [c7] = some y7 := by simpa [Value.cells, e23] using hgs 5 _ rfl
      obtain ⟨n7, q7, _, w7⟩ := DataW.trod_int Tryd.underlying24 t7
      have z7 := (List.cons.inj q7).1
      have t8 : DataW.trod enc Tryd.prog W base sp held n 3 [c8] = some y8 := by simpa [Value.cells, e3] using hgs 6 _ rfl
      obtain ⟨n8, q8, _, w8⟩ := DataW.trod_int Tryd.underlying3 t8
      have z8 := (List.cons.inj q8).1
      have t9 : DataW.trod enc Tryd.prog W base sp held n 3 [c9] = some y9 := by simpa [Value.cells, e3] using hgs 7 _ rfl
      obtain ⟨n9, q9, _, w9⟩ := DataW.trod_int Tryd.underlying3 t9
      have z9 := (List.cons.inj q9).1
      have t10 : DataW.trod enc Tryd.prog W base sp held n 3 [c10] = some y10 := by simpa [Value.cells, e3] using hgs 8 _ rfl
      obtain ⟨n10, q10, _, w10⟩ := DataW.trod_int Tryd.underlying3 t10
      have z10 := (List.cons.inj q10).1
      have t11 : DataW.trod enc Tryd.prog W base sp held n 3 [c11] = some y11 := by simpa [Value.cells, e3] using hgs 9 _ rfl
      obtain ⟨n11, q11, _, w11⟩ := DataW.trod_int Tryd.underlying3 t11
      have z11 := (List.cons.inj q11).1
      have t12 : DataW.trod enc Tryd.prog W base sp held n 9 [c12] = some y12 := by simpa [Value.cells, e9] using hgs 10 _ rfl
      obtain ⟨n12, q12, _, w12⟩ := DataW.trod_string Tryd.underlying9 t12
      have z12 := (List.cons.inj q12).1
      have a0 := wf_u64 w1
      have a4 := wf_u32 w6
      have a5 := wf_u32 w7
      exact ⟨⟨n0, n1, n2, n3, n4, n5, n6, n7, n8, n9, n10, n11, n12⟩, by rw [z0, z1, z2, z3, z4, z5, z6, z7, z8, z9, z10, z11, z12], ⟨a0.1, a0.2, a4.1, a4.2, a5.1, a5.2⟩, w12⟩
end Go.Proofs.YtjjfhibkcngphaaDoor

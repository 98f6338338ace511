/-
  What is handed in: tests, cubes, values, predicates.
-/
import Derived.Test.YtmobmpghpdaddaaSem
import Derived.ShutString
import Derived.ChangeOld
import Derived.SizedLaws
import Derived.Carry
import Derived.Deep.Slices
namespace Go.Proofs.Ytmobmpghpdaddaa
open Go.ChangeShapes Go.WideShapes Go.ChangeAt Go.RowKit
set_option linter.unusedVariables false
set_option linter.unusedSimpArgs false

theorem cellsU : Try.prog.cellsOf 30 = 1 := by kernel_rfl
theorem cellsInt : Try.prog.cellsOf 3 = 1 := by kernel_rfl
theorem cellsInts : Try.prog.cellsOf 37 = 1 := by kernel_rfl
theorem cellsTest : Try.prog.cellsOf 32 = 3 := by kernel_rfl
theorem cellsNode : Try.prog.cellsOf 39 = 5 := by kernel_rfl
theorem cellsNodes : Try.prog.cellsOf 22 = 1 := by kernel_rfl
theorem cellsPred : Try.prog.cellsOf 24 = 1 := by kernel_rfl
theorem wf_u64 {n : Int} (h : (Lit.int .u64 n).wf = true) : 0 ≤ n ∧ n < 18446744073709551616 := by
  simp [Lit.wf, IntKind.min, IntKind.max, IntKind.signed, IntKind.bits] at h; omega
theorem of_nb {n : Int} (h : 0 ≤ n ∧ n < 18446744073709551616) : ∃ b : B64, n = nb b := ⟨BitVec.ofNat 64 n.toNat, by unfold nb; rw [BitVec.toNat_ofNat]; omega⟩
theorem array1 {α : Type} {cs : Array α} (h : cs.size = 1) : ∃ c0, cs = #[c0] := by
  obtain ⟨l⟩ := cs
  match l, h with
  | [c0], _ => exact ⟨c0, rfl⟩
theorem array3 {α : Type} {cs : Array α} (h : cs.size = 3) : ∃ c0 c1 c2, cs = #[c0, c1, c2] := by
  obtain ⟨l⟩ := cs
  match l, h with
  | [c0, c1, c2], _ => exact ⟨c0, c1, c2, rfl⟩
/-- A test out of its cells. -/
theorem test_in {H : Type} {enc : TypeId × Value → H} {W : World} {c0 c1 c2 : Value} {fuel : Nat} {x : DataW H × List MemPlace} (h : DataW.trod enc Try.prog W 0 (fun _ => true) true fuel 32 [c0, c1, c2] = some x) :
    ∃ t : Tst, c0 = .int .i64 t.f ∧ c1 = cv t.v ∧ c2 = cv t.m := by
  obtain ⟨xs, m, _, _, _, hlen, hfs⟩ := DataW.trod_struct Try.underlying32 h
  match xs, hlen with
  | [y0, y1, y2], _ =>
    have t0 : DataW.trod enc Try.prog W 0 (fun _ => true) true m 3 [c0] = some y0 := by simpa [cellsInt, cellsU] using hfs 0 _ rfl
    have t1 : DataW.trod enc Try.prog W 0 (fun _ => true) true m 30 [c1] = some y1 := by simpa [cellsInt, cellsU] using hfs 1 _ rfl
    have t2 : DataW.trod enc Try.prog W 0 (fun _ => true) true m 30 [c2] = some y2 := by simpa [cellsInt, cellsU] using hfs 2 _ rfl
    obtain ⟨n0, q0, _, w0⟩ := DataW.trod_int Try.underlying3 t0
    obtain ⟨n1, q1, _, w1⟩ := DataW.trod_int Try.underlying30 t1
    obtain ⟨n2, q2, _, w2⟩ := DataW.trod_int Try.underlying30 t2
    obtain ⟨b1, rfl⟩ := of_nb (wf_u64 w1)
    obtain ⟨b2, rfl⟩ := of_nb (wf_u64 w2)
    exact ⟨⟨n0, b1, b2⟩, (List.cons.inj q0).1, (List.cons.inj q1).1, (List.cons.inj q2).1⟩
theorem open_test {H : Type} {enc : TypeId × Value → H} {W : World} {r : Reach} {b0 : Nat} {v : Value} {d : DataW H} {ps : List MemPlace} (hv : Value.okWide Try.prog W r b0 32 v) (h : DataW.Trod enc Try.prog W 0 (fun _ => true) true 32 v d ps) :
    ∃ t : Tst, v = tV t := by
  obtain ⟨cs, rfl, hsz⟩ := okWide_struct Try.underlying32 hv
  obtain ⟨c0, c1, c2, rfl⟩ := array3 (hsz.trans (by kernel_rfl))
  obtain ⟨fuel, hf⟩ := h
  obtain ⟨t, z0, z1, z2⟩ := test_in (by simpa [Value.cells] using hf)
  exact ⟨t, by rw [z0, z1, z2]⟩
set_option maxRecDepth 100000 in
theorem u64s_of {H : Type} {enc : TypeId × Value → H} {W : World} {a : Option Addr} {len cap fuel : Nat} {x : DataW H × List MemPlace} (hlt : ∀ p ∈ x.2, p.block < W.heap.size)
    (h : DataW.trod enc Try.prog W 0 (fun _ => true) true fuel 25 [.slice a len cap] = some x) : ∃ l : List B64, l.length = len ∧ Vs W a l ∧ len ≤ cap ∧ cap ≤ 9223372036854775807 := by
  rcases Deep.open_slice Try.underlying25 h with ⟨hcs, _⟩ | ⟨ad, ln, cp, m, n, D, Pl, hcs, hb, hl, hm, hmm, hx, hel⟩
  · simp at hcs
    exact ⟨[], hcs.2.1.symm, .inl rfl, by omega, by omega⟩
  · simp at hcs
    obtain ⟨rfl, rfl, rfl⟩ := hcs
    have hm' : m = cap := by simpa using hmm
    subst hm'
    have one : ∀ i, i < len → ∃ t : B64, W.cell? (ad.add i) = some (cv t) := by
      intro i hi
      obtain ⟨cs', h1, h2⟩ := hel i (by omega)
      rw [cellsU] at h1
      obtain ⟨_, hlen, hcell⟩ := World.cells?_some h1
      match cs', hlen with
      | [v0], _ =>
        obtain ⟨b, e0, _, wf⟩ := DataW.trod_int Try.underlying30 h2
        simp at e0
        have c0 := hcell 0 (by omega)
        rw [Deep.add_add] at c0
        obtain ⟨t, rfl⟩ := of_nb (wf_u64 wf)
        exact ⟨t, by simpa [e0] using c0⟩
    obtain ⟨ys, h1, h2⟩ := list_of len one
    refine ⟨ys, h1, ?_, hl, by unfold maxLen at hm; omega⟩
    by_cases h0 : len = 0
    · exact .inl (List.length_eq_zero_iff.1 (by omega))
    · obtain ⟨g, o, spot⟩ := ad
      have hsp : spot = none := by simpa [Addr.add] using World.cell?_spot (h2 0 (by omega))
      subst hsp
      have hg : g < W.heap.size := hlt (.cell g (o + 0)) (by rw [hx, cellsU]; exact List.mem_append_left _ (by simp [MemPlace.row]; omega))
      exact .inr ⟨g, o, rfl, hg, fun i hi => by have := h2 i hi; rwa [addP] at this⟩
set_option maxRecDepth 100000 in
theorem ints_of {H : Type} {enc : TypeId × Value → H} {W : World} {a : Option Addr} {len cap fuel : Nat} {x : DataW H × List MemPlace} (hlt : ∀ p ∈ x.2, p.block < W.heap.size)
    (h : DataW.trod enc Try.prog W 0 (fun _ => true) true fuel 37 [.slice a len cap] = some x) : ∃ l : List Int, l.length = len ∧ Is W a l ∧ len ≤ cap ∧ cap ≤ 9223372036854775807 := by
  rcases Deep.open_slice Try.underlying37 h with ⟨hcs, _⟩ | ⟨ad, ln, cp, m, n, D, Pl, hcs, hb, hl, hm, hmm, hx, hel⟩
  · simp at hcs
    exact ⟨[], hcs.2.1.symm, .inl rfl, by omega, by omega⟩
  · simp at hcs
    obtain ⟨rfl, rfl, rfl⟩ := hcs
    have hm' : m = cap := by simpa using hmm
    subst hm'
    have one : ∀ i, i < len → ∃ t : Int, W.cell? (ad.add i) = some (.int .i64 t) := by
      intro i hi
      obtain ⟨cs', h1, h2⟩ := hel i (by omega)
      rw [cellsInt] at h1
      obtain ⟨_, hlen, hcell⟩ := World.cells?_some h1
      match cs', hlen with
      | [v0], _ =>
        obtain ⟨b, e0, _⟩ := DataW.trod_int Try.underlying3 h2
        simp at e0
        have c0 := hcell 0 (by omega)
        rw [Deep.add_add] at c0
        exact ⟨b, by simpa [e0] using c0⟩
    obtain ⟨ys, h1, h2⟩ := list_of len one
    refine ⟨ys, h1, ?_, hl, by unfold maxLen at hm; omega⟩
    by_cases h0 : len = 0
    · exact .inl (List.length_eq_zero_iff.1 (by omega))
    · obtain ⟨g, o, spot⟩ := ad
      have hsp : spot = none := by simpa [Addr.add] using World.cell?_spot (h2 0 (by omega))
      subst hsp
      have hg : g < W.heap.size := hlt (.cell g (o + 0)) (by rw [hx, cellsInt]; exact List.mem_append_left _ (by simp [MemPlace.row]; omega))
      exact .inr ⟨g, o, rfl, hg, fun i hi => by have := h2 i hi; rwa [addP] at this⟩
theorem ints_in {H : Type} {enc : TypeId × Value → H} {W : World} {c : Value} {fuel : Nat} {x : DataW H × List MemPlace}
    (h : DataW.trod enc Try.prog W 0 (fun _ => true) true fuel 37 [c] = some x) : ∃ a, ∃ l : List Int, ∃ cap, c = .slice a l.length cap ∧ Is W a l ∧ l.length ≤ cap ∧ cap ≤ 9223372036854775807 := by
  have hlt : ∀ p ∈ x.2, p.block < W.heap.size := DataW.trod_lt fuel _ _ _ h
  rcases Deep.open_slice Try.underlying37 h with ⟨hcs, _⟩ | ⟨ad, ln, cp, _, _, _, _, hcs, _⟩
  · have hc : c = .slice none 0 0 := (List.cons.inj hcs).1
    subst hc
    exact ⟨none, [], 0, rfl, .inl rfl, Nat.le_refl _, by omega⟩
  · have hc : c = .slice (some ad) ln cp := (List.cons.inj hcs).1
    subst hc
    obtain ⟨l, h1, h2, h3, h4⟩ := ints_of hlt h
    exact ⟨some ad, l, cp, by rw [h1], h2, by rw [h1]; exact h3, h4⟩
set_option maxRecDepth 100000 in
theorem tcube_of {H : Type} {enc : TypeId × Value → H} {W : World} {a : Option Addr} {len cap fuel : Nat} {x : DataW H × List MemPlace} (hlt : ∀ p ∈ x.2, p.block < W.heap.size)
    (h : DataW.trod enc Try.prog W 0 (fun _ => true) true fuel 43 [.slice a len cap] = some x) : ∃ l : List Tst, l.length = len ∧ Ts W a l ∧ len ≤ cap ∧ cap ≤ 9223372036854775807 := by
  rcases Deep.open_slice Try.underlying43 h with ⟨hcs, _⟩ | ⟨ad, ln, cp, m, n, D, Pl, hcs, hb, hl, hm, hmm, hx, hel⟩
  · simp at hcs
    exact ⟨[], hcs.2.1.symm, .inl rfl, by omega, by omega⟩
  · simp at hcs
    obtain ⟨rfl, rfl, rfl⟩ := hcs
    have hm' : m = cap := by simpa using hmm
    subst hm'
    have one : ∀ i, i < len → ∃ t : Tst, W.cell? (ad.add (i * 3)) = some (.int .i64 t.f) ∧ W.cell? (ad.add (i * 3 + 1)) = some (cv t.v) ∧ W.cell? (ad.add (i * 3 + 2)) = some (cv t.m) := by
      intro i hi
      obtain ⟨cs', h1, h2⟩ := hel i (by omega)
      rw [cellsTest] at h1
      obtain ⟨_, hlen, hcell⟩ := World.cells?_some h1
      match cs', hlen with
      | [v0, v1, v2], _ =>
        obtain ⟨t, z0, z1, z2⟩ := test_in h2
        have c0 := hcell 0 (by omega)
        have c1 := hcell 1 (by omega)
        have c2 := hcell 2 (by omega)
        rw [Deep.add_add] at c0 c1 c2
        exact ⟨t, by simpa [z0] using c0, by simpa [z1] using c1, by simpa [z2] using c2⟩
    obtain ⟨ys, h1, h2⟩ := list_of len one
    refine ⟨ys, h1, ?_, hl, by unfold maxLen at hm; omega⟩
    by_cases h0 : len = 0
    · exact .inl (List.length_eq_zero_iff.1 (by omega))
    · obtain ⟨g, o, spot⟩ := ad
      have hsp : spot = none := by simpa [Addr.add] using World.cell?_spot (h2 0 (by omega)).1
      subst hsp
      have hg : g < W.heap.size := hlt (.cell g (o + 0)) (by rw [hx, cellsTest]; exact List.mem_append_left _ (by simp [MemPlace.row]; omega))
      refine .inr ⟨g, o, rfl, hg, fun i hi => ?_⟩
      obtain ⟨x0, x1, x2⟩ := h2 i hi
      rw [addP] at x0 x1 x2
      exact ⟨x0, by rw [← Nat.add_assoc] at x1; exact x1, by rw [← Nat.add_assoc] at x2; exact x2⟩
set_option maxRecDepth 100000 in
theorem nodes_of {H : Type} {enc : TypeId × Value → H} {W : World} {a : Option Addr} {len cap fuel : Nat} {x : DataW H × List MemPlace} (hlt : ∀ p ∈ x.2, p.block < W.heap.size)
    (h : DataW.trod enc Try.prog W 0 (fun _ => true) true fuel 22 [.slice a len cap] = some x) : ∃ l : List Nd, l.length = len ∧ Ns W a l ∧ (∀ x ∈ l, x.s.length ≤ 9223372036854775807) ∧ len ≤ cap ∧ cap ≤ 9223372036854775807 := by
  rcases Deep.open_slice Try.underlying22 h with ⟨hcs, _⟩ | ⟨ad, ln, cp, m, n, D, Pl, hcs, hb, hl, hm, hmm, hx, hel⟩
  · simp at hcs
    exact ⟨[], hcs.2.1.symm, .inl rfl, by simp, by omega, by omega⟩
  · simp at hcs
    obtain ⟨rfl, rfl, rfl⟩ := hcs
    have hm' : m = cap := by simpa using hmm
    subst hm'
    have one : ∀ i, i < len → ∃ y : Nh, (W.cell? (ad.add (i * 5)) = some (.int .i64 y.x.k) ∧ W.cell? (ad.add (i * 5 + 1)) = some (.int .i64 y.x.t.f) ∧ W.cell? (ad.add (i * 5 + 2)) = some (cv y.x.t.v) ∧ W.cell? (ad.add (i * 5 + 3)) = some (cv y.x.t.m) ∧ W.cell? (ad.add (i * 5 + 4)) = some (.slice y.b y.x.s.length y.c)) ∧ y.x.s.length ≤ y.c ∧ y.c ≤ 9223372036854775807 ∧ Is W y.b y.x.s := by
      intro i hi
      obtain ⟨cs', h1, h2⟩ := hel i (by omega)
      rw [cellsNode] at h1
      obtain ⟨_, hlen, hcell⟩ := World.cells?_some h1
      obtain ⟨xs, k, hk, hxy, _, hxl, hf⟩ := DataW.trod_struct Try.underlying39 h2
      match xs, hxl, cs', hlen with
      | [y0, y1, y2], _, [v0, v1, v2, v3, v4], _ =>
        have g0 := hf 0 _ rfl
        have g1 := hf 1 _ rfl
        have g2 := hf 2 _ rfl
        simp [cellsInt, cellsTest, cellsInts] at g0 g1 g2
        obtain ⟨n0, e0, _, _⟩ := DataW.trod_int Try.underlying3 g0
        obtain ⟨t, z1, z2, z3⟩ := test_in g1
        obtain ⟨b, s, c, z4, hs, hc1, hc2⟩ := ints_in g2
        simp at e0
        have c0 := hcell 0 (by omega)
        have c1 := hcell 1 (by omega)
        have c2 := hcell 2 (by omega)
        have c3 := hcell 3 (by omega)
        have c4 := hcell 4 (by omega)
        rw [Deep.add_add] at c0 c1 c2 c3 c4
        exact ⟨⟨⟨n0, t, s⟩, b, c⟩, ⟨by simpa [e0] using c0, by simpa [z1] using c1, by simpa [z2] using c2, by simpa [z3] using c3, by simpa [z4] using c4⟩, hc1, hc2, hs⟩
    obtain ⟨ys, h1, h2⟩ := list_of len one
    refine ⟨ys.map (·.x), by rw [List.length_map, h1], ?_, fun x hx => ?_, hl, by unfold maxLen at hm; omega⟩
    · by_cases h0 : len = 0
      · exact .inl (by rw [List.length_eq_zero_iff.1 (show ys.length = 0 by omega)]; rfl)
      · obtain ⟨g, o, spot⟩ := ad
        have hsp : spot = none := by simpa [Addr.add] using World.cell?_spot (h2 0 (by omega)).1.1
        subst hsp
        have hg : g < W.heap.size := hlt (.cell g (o + 0)) (by rw [hx, cellsNode]; exact List.mem_append_left _ (by simp [MemPlace.row]; omega))
        refine .inr ⟨g, o, rfl, hg, fun i hi => ?_⟩
        have hi' : i < ys.length := by simpa using hi
        obtain ⟨⟨x0, x1, x2, x3, x4⟩, x5, _, x6⟩ := h2 i hi'
        rw [addP] at x0 x1 x2 x3 x4
        rw [List.getElem_map]
        rw [← Nat.add_assoc] at x1 x2 x3 x4
        exact ⟨ys[i].b, ys[i].c, ⟨x0, x1, x2, x3, x4⟩, x5, x6⟩
    · obtain ⟨y, hy, rfl⟩ := List.mem_map.1 hx
      obtain ⟨i, hi, rfl⟩ := List.mem_iff_getElem.1 hy
      obtain ⟨_, x5, x6, _⟩ := h2 i hi
      omega
theorem nodes_in {H : Type} {enc : TypeId × Value → H} {W : World} {c : Value} {fuel : Nat} {x : DataW H × List MemPlace}
    (h : DataW.trod enc Try.prog W 0 (fun _ => true) true fuel 22 [c] = some x) : ∃ a, ∃ l : List Nd, ∃ cap, c = .slice a l.length cap ∧ Ns W a l ∧ (∀ x ∈ l, x.s.length ≤ 9223372036854775807) ∧ l.length ≤ cap ∧ cap ≤ 9223372036854775807 := by
  have hlt : ∀ p ∈ x.2, p.block < W.heap.size := DataW.trod_lt fuel _ _ _ h
  rcases Deep.open_slice Try.underlying22 h with ⟨hcs, _⟩ | ⟨ad, ln, cp, _, _, _, _, hcs, _⟩
  · have hc : c = .slice none 0 0 := (List.cons.inj hcs).1
    subst hc
    exact ⟨none, [], 0, rfl, .inl rfl, by simp, Nat.le_refl _, by omega⟩
  · have hc : c = .slice (some ad) ln cp := (List.cons.inj hcs).1
    subst hc
    obtain ⟨l, h1, h2, h3, h4, h5⟩ := nodes_of hlt h
    exact ⟨some ad, l, cp, by rw [h1], h2, h3, by rw [h1]; exact h4, h5⟩
theorem pred_in {H : Type} {enc : TypeId × Value → H} {W : World} {c : Value} {fuel : Nat} {x : DataW H × List MemPlace}
    (h : DataW.trod enc Try.prog W 0 (fun _ => true) true fuel 24 [c] = some x) : ∃ a, ∃ l : List Nd, ∃ cap, c = .slice a l.length cap ∧ Ns W a l ∧ (∀ x ∈ l, x.s.length ≤ 9223372036854775807) ∧ l.length ≤ cap ∧ cap ≤ 9223372036854775807 := by
  obtain ⟨xs, m, _, _, _, hlen, hfs⟩ := DataW.trod_struct Try.underlying24 h
  match xs, hlen with
  | [y0], _ => exact nodes_in (show DataW.trod enc Try.prog W 0 (fun _ => true) true m 22 [c] = some y0 by simpa [cellsNodes] using hfs 0 _ rfl)
/-- A predicate that is handed in. -/
theorem open_pred {H : Type} {enc : TypeId × Value → H} {W : World} {r : Reach} {b0 : Nat} {v : Value} {d : DataW H} {ps : List MemPlace} (hv : Value.okWide Try.prog W r b0 24 v) (h : DataW.Trod enc Try.prog W 0 (fun _ => true) true 24 v d ps) :
    ∃ a, ∃ l : List Nd, ∃ cap, v = .agg #[.slice a l.length cap] ∧ Ns W a l ∧ (∀ x ∈ l, x.s.length ≤ 9223372036854775807) ∧ l.length ≤ cap ∧ cap ≤ 9223372036854775807 := by
  obtain ⟨cs, rfl, hsz⟩ := okWide_struct Try.underlying24 hv
  obtain ⟨c0, rfl⟩ := array1 (hsz.trans (by kernel_rfl))
  obtain ⟨fuel, hf⟩ := h
  obtain ⟨a, l, cap, z, hg⟩ := pred_in (c := c0) (by simpa [Value.cells] using hf)
  exact ⟨a, l, cap, by rw [z], hg⟩
set_option maxRecDepth 100000 in
theorem preds_of {H : Type} {enc : TypeId × Value → H} {W : World} {a : Option Addr} {len cap fuel : Nat} {x : DataW H × List MemPlace} (hlt : ∀ p ∈ x.2, p.block < W.heap.size)
    (h : DataW.trod enc Try.prog W 0 (fun _ => true) true fuel 29 [.slice a len cap] = some x) : ∃ l : List (List Nd), l.length = len ∧ Ps W a l ∧ (∀ p ∈ l, p.length ≤ 9223372036854775807 ∧ ∀ x ∈ p, x.s.length ≤ 9223372036854775807) ∧ len ≤ cap ∧ cap ≤ 9223372036854775807 := by
  rcases Deep.open_slice Try.underlying29 h with ⟨hcs, _⟩ | ⟨ad, ln, cp, m, n, D, Pl, hcs, hb, hl, hm, hmm, hx, hel⟩
  · simp at hcs
    exact ⟨[], hcs.2.1.symm, .inl rfl, by simp, by omega, by omega⟩
  · simp at hcs
    obtain ⟨rfl, rfl, rfl⟩ := hcs
    have hm' : m = cap := by simpa using hmm
    subst hm'
    have one : ∀ i, i < len → ∃ y : Option Addr × List Nd × Nat, W.cell? (ad.add i) = some (.slice y.1 y.2.1.length y.2.2) ∧ Ns W y.1 y.2.1 ∧ (∀ x ∈ y.2.1, x.s.length ≤ 9223372036854775807) ∧ y.2.1.length ≤ y.2.2 ∧ y.2.2 ≤ 9223372036854775807 := by
      intro i hi
      obtain ⟨cs', h1, h2⟩ := hel i (by omega)
      rw [cellsPred] at h1
      obtain ⟨_, hlen, hcell⟩ := World.cells?_some h1
      match cs', hlen with
      | [v0], _ =>
        obtain ⟨b, l, c, z, hN⟩ := pred_in h2
        have c0 := hcell 0 (by omega)
        rw [Deep.add_add] at c0
        exact ⟨(b, l, c), by simpa [z] using c0, hN⟩
    obtain ⟨ys, h1, h2⟩ := list_of len one
    refine ⟨ys.map (·.2.1), by rw [List.length_map, h1], ?_, fun p hp => ?_, hl, by unfold maxLen at hm; omega⟩
    · by_cases h0 : len = 0
      · exact .inl (by rw [List.length_eq_zero_iff.1 (show ys.length = 0 by omega)]; rfl)
      · obtain ⟨g, o, spot⟩ := ad
        have hsp : spot = none := by simpa [Addr.add] using World.cell?_spot (h2 0 (by omega)).1
        subst hsp
        have hg : g < W.heap.size := hlt (.cell g (o + 0)) (by rw [hx, cellsPred]; exact List.mem_append_left _ (by simp [MemPlace.row]; omega))
        refine .inr ⟨g, o, rfl, hg, fun i hi => ?_⟩
        have hi' : i < ys.length := by simpa using hi
        obtain ⟨x0, x1, _, x3, _⟩ := h2 i hi'
        rw [addP] at x0
        rw [List.getElem_map]
        exact ⟨ys[i].1, ys[i].2.2, x0, x3, x1⟩
    · obtain ⟨y, hy, rfl⟩ := List.mem_map.1 hp
      obtain ⟨i, hi, rfl⟩ := List.mem_iff_getElem.1 hy
      obtain ⟨_, _, x2, x3, x4⟩ := h2 i hi
      exact ⟨by omega, x2⟩
end Go.Proofs.Ytmobmpghpdaddaa

/-
  What the rows hand to the walks: the table, a group, ports, calls.
-/
import Derived.Test.YteodlkgbakkjmaaDoorAwake
import Derived.WalkKit
import Derived.ProofKit
import Derived.OpenShut
import Derived.ShutString
import Derived.ChangeOld
import Derived.Below
import Derived.LaidMore
import Derived.Stop.Joined
import Derived.Deep.Slices
namespace Go.Proofs.YteodlkgbakkjmaaDoor
open Go.ChangeShapes Go.WideShapes Go.ChangeAt Go.RowKit
theorem own : ownKnob Tryd.prog.godebug = none := by kernel_rfl
theorem laidOut : laidOutB Tryd.prog = true := by kernel_rfl
theorem gCodes : Tryd.prog.globalNamed (Rows.groupNilRow.named.headD "") = some 0 := by kernel_rfl
theorem tCodes : (Tryd.prog.globals[0]?).map (·.type) = some 109 := by kernel_rfl
theorem cellsCode : Tryd.prog.cellsOf 108 = 2 := by kernel_rfl
theorem cellsCodes : Tryd.prog.cellsOf 109 = 10 := by kernel_rfl
theorem cellsInt : Tryd.prog.cellsOf 3 = 1 := by kernel_rfl
theorem cellsBool : Tryd.prog.cellsOf 4 = 1 := by kernel_rfl
theorem cellsAct : Tryd.prog.cellsOf 62 = 3 := by kernel_rfl
theorem cellsU : Tryd.prog.cellsOf 60 = 1 := by kernel_rfl
theorem cellsActs : Tryd.prog.cellsOf 49 = 1 := by kernel_rfl
theorem cellsBk : Tryd.prog.cellsOf 51 = 3 := by kernel_rfl
theorem cellsBks : Tryd.prog.cellsOf 31 = 1 := by kernel_rfl
theorem cellsGr : Tryd.prog.cellsOf 33 = 3 := by kernel_rfl
theorem cellsOp : Tryd.prog.cellsOf 35 = 4 := by kernel_rfl
/-- The rows' condition. -/
abbrev laidL : List (String × DataW Unit) := Rows.groupNilRow.laid
set_option maxRecDepth 100000 in
theorem code_cells {W : World} {cs : List Value} {p : List MemPlace} {m : Nat} {a b : Int} (h : DataW.trod (fun _ => ()) Tryd.prog W 0 (fun _ => true) false m 108 cs = some (.agg [.lit (.int .i64 a), .lit (.int .i64 b)], p)) :
    cs = [.int .i64 a, .int .i64 b] := by
  obtain ⟨xs, k, _, hxy, hcl, hxl, hf⟩ := DataW.trod_struct Tryd.underlying108 h
  rw [cellsCode] at hcl
  match xs, hxl, cs, hcl with
  | [y0, y1], _, [v0, v1], _ =>
    have g0 := hf 0 _ rfl
    have g1 := hf 1 _ rfl
    simp [cellsInt] at g0 g1
    obtain ⟨n0, e0, d0, _⟩ := DataW.trod_int Tryd.underlying3 g0
    obtain ⟨n1, e1, d1, _⟩ := DataW.trod_int Tryd.underlying3 g1
    subst d0 d1
    simp at e0 e1 hxy
    obtain ⟨⟨rfl, rfl⟩, _⟩ := hxy
    rw [e0, e1]
theorem ct_of_laid {W : World} (h : laidMetH Tryd.prog laidL W) : Cd W := by
  rw [MakeChecks.laidMetH_plain _ _ _ (by kernel_rfl)] at h
  obtain ⟨ps, ⟨g0, t0, cs0, f0, p0, q0, hg0, ht0, hv0, hd0, _⟩, _, _⟩ := h
  obtain rfl := Option.some.inj (gCodes.symm.trans hg0)
  obtain rfl := Option.some.inj (tCodes.symm.trans ht0)
  refine ⟨?_⟩
  obtain ⟨xs, m1, rfl, hx1, hlen, hn, hel⟩ := DataW.trod_array Tryd.underlying109 hd0
  rw [cellsCodes] at hlen
  rw [cellsCode] at hel
  have hx := (Prod.mk.inj hx1).1
  unfold Rows.laid_drover_act_codes at hx
  simp only [DataW.agg.injEq] at hx
  have at_ : ∀ (i : Nat) (d : DataW Unit), i < 5 → (xs.map (fun x => x.fst))[i]? = some d → ∃ p, DataW.trod (fun _ => ()) Tryd.prog W 0 (fun _ => true) false m1 108 (List.take 2 (List.drop (i * 2) cs0.toList)) = some (d, p) := by
    intro i d hi hd
    rw [List.getElem?_map, Option.map_eq_some_iff] at hd
    obtain ⟨y, hy, rfl⟩ := hd
    exact ⟨y.2, (hel i hi).trans hy⟩
  rw [← hx] at at_
  have key : cs0.toList = codesA.toList := by
    generalize cs0.toList = L at *
    have step : ∀ i, L.drop (i * 2) = (L.drop (i * 2)).take 2 ++ L.drop ((i + 1) * 2) := fun i => by
      have := (List.take_append_drop 2 (L.drop (i * 2))).symm
      rwa [List.drop_drop, show i * 2 + 2 = (i + 1) * 2 by omega] at this
    have s0 := step 0
    rw [code_cells (at_ 0 _ (by decide) rfl).choose_spec] at s0
    have s1 := step 1
    rw [code_cells (at_ 1 _ (by decide) rfl).choose_spec] at s1
    have s2 := step 2
    rw [code_cells (at_ 2 _ (by decide) rfl).choose_spec] at s2
    have s3 := step 3
    rw [code_cells (at_ 3 _ (by decide) rfl).choose_spec] at s3
    have s4 := step 4
    rw [code_cells (at_ 4 _ (by decide) rfl).choose_spec] at s4
    have s5 : L.drop (5 * 2) = [] := List.drop_of_length_le (by omega)
    have z : L = L.drop (0 * 2) := rfl
    rw [z, s0, s1, s2, s3, s4, s5]
    rfl
  have e : cs0 = codesA := Array.toList_inj.1 key
  subst e
  simp only [World.var?, hg0, Option.bind_some] at hv0
  split at hv0
  · rename_i c t fr hb
    cases hv0
    exact ⟨t, fr, hb⟩
  · cases hv0
/-- The door's own heap meets the condition. -/
theorem door_met (os : Os) (args : Array Value) : laidMetH Tryd.prog laidL ((World.doorLaid Tryd.prog 400 os).forCall (fun _ _ => 0) ⟨#[], args, []⟩).memory :=
  laidMetH_of_parts3 (fuel := 8) (laidMet_of_run' 8 (by kernel_rfl) (by kernel_rfl)) (by kernel_rfl) (by kernel_rfl)

theorem plain (g o j : Nat) : (⟨g, o, none⟩ : Addr).add j = ⟨g, o + j, none⟩ := by unfold Addr.add; split <;> simp_all
theorem wf_u64 {n : Int} (h : (Lit.int .u64 n).wf = true) : 0 ≤ n ∧ n < 18446744073709551616 := by
  simp [Lit.wf, IntKind.min, IntKind.max, IntKind.signed, IntKind.bits] at h; omega
theorem wf_i64 {n : Int} (h : (Lit.int .i64 n).wf = true) : -9223372036854775808 ≤ n ∧ n < 9223372036854775808 := by
  simp [Lit.wf, IntKind.min, IntKind.max, IntKind.signed, IntKind.bits] at h; omega
set_option maxRecDepth 100000 in
/-- The actions of a slice that is read. -/
theorem acts_of {H : Type} {enc : TypeId × Value → H} {W : World} {a : Option Addr} {len cap fuel : Nat} {x : DataW H × List MemPlace} (hlt : ∀ p ∈ x.2, p.block < W.heap.size)
    (h : DataW.trod enc Tryd.prog W 0 (fun _ => true) true fuel 49 [.slice a len cap] = some x) : ∃ l : List A, l.length = len ∧ Ts W a l ∧ AWs l ∧ len ≤ cap := by
  rcases Deep.open_slice Tryd.underlying49 h with ⟨hcs, _⟩ | ⟨ad, ln, cp, m, n, D, Pl, hcs, hb, hl, hm, hmm, hx, hel⟩
  · simp at hcs
    exact ⟨[], hcs.2.1.symm, .inl rfl, by simp, by omega⟩
  · simp at hcs
    obtain ⟨rfl, rfl, rfl⟩ := hcs
    have hm' : m = cap := by simpa using hmm
    subst hm'
    have one : ∀ i, i < len → ∃ t : A, W.cell? (ad.add (i * 3)) = some (.int .i64 t.1) ∧ W.cell? (ad.add (i * 3 + 1)) = some (.int .i64 t.2.1) ∧ W.cell? (ad.add (i * 3 + 2)) = some (.int .u64 t.2.2) ∧ AW t := by
      intro i hi
      obtain ⟨cs', h1, h2⟩ := hel i (by omega)
      rw [cellsAct] at h1
      obtain ⟨_, hlen, hcell⟩ := World.cells?_some h1
      obtain ⟨xs, k, hk, hxy, _, hxl, hf⟩ := DataW.trod_struct Tryd.underlying62 h2
      match xs, hxl, cs', hlen with
      | [y0, y1, y2], _, [v0, v1, v2], _ =>
        have g0 := hf 0 _ rfl
        have g1 := hf 1 _ rfl
        have g2 := hf 2 _ rfl
        simp [cellsInt, cellsU] at g0 g1 g2
        obtain ⟨n0, e0, d0, r0⟩ := DataW.trod_int Tryd.underlying3 g0
        obtain ⟨n1, e1, d1, r1⟩ := DataW.trod_int Tryd.underlying3 g1
        obtain ⟨n2, e2, d2, r2⟩ := DataW.trod_int Tryd.underlying60 g2
        simp at e0 e1 e2
        have c0 := hcell 0 (by omega)
        have c1 := hcell 1 (by omega)
        have c2 := hcell 2 (by omega)
        rw [Deep.add_add] at c0 c1 c2
        refine ⟨(n0, n1, n2), by simpa [e0] using c0, by simpa [e1] using c1, by simpa [e2] using c2, ?_⟩
        obtain ⟨a0, a1⟩ := wf_i64 r1
        obtain ⟨b0, b1⟩ := wf_u64 r2
        exact ⟨a0, a1, b0, b1⟩
    obtain ⟨f, hf⟩ := Deep.choose_lt one
    by_cases h0 : len = 0
    · subst h0
      exact ⟨[], rfl, .inl rfl, by simp, hl⟩
    · obtain ⟨g, o, spot⟩ := ad
      have hsp : spot = none := by simpa [Addr.add] using World.cell?_spot (hf 0 (by omega)).1
      subst hsp
      have hg : g < W.heap.size := hlt (.cell g (o + 0)) (by rw [hx, cellsAct]; exact List.mem_append_left _ (by simp [MemPlace.row]; omega))
      refine ⟨(List.range len).map f, by simp, .inr ⟨g, o, rfl, hg, fun i hi => ?_⟩, ?_, hl⟩
      · have hi' : i < len := by simpa using hi
        obtain ⟨x0, x1, x2, _⟩ := hf i hi'
        rw [plain] at x0 x1 x2
        simp only [List.getElem_map, List.getElem_range]
        exact ⟨x0, by rw [← Nat.add_assoc] at x1; exact x1, by rw [← Nat.add_assoc] at x2; exact x2⟩
      · intro t ht
        rw [List.mem_map] at ht
        obtain ⟨i, hi, rfl⟩ := ht
        exact (hf i (List.mem_range.1 hi)).2.2.2
theorem array3 {α : Type} {cs : Array α} (h : cs.size = 3) : ∃ c0 c1 c2, cs = #[c0, c1, c2] := by
  obtain ⟨l⟩ := cs
  match l, h with
  | [c0, c1, c2], _ => exact ⟨c0, c1, c2, rfl⟩
theorem acts_in {H : Type} {enc : TypeId × Value → H} {W : World} {c : Value} {fuel : Nat} {x : DataW H × List MemPlace}
    (h : DataW.trod enc Tryd.prog W 0 (fun _ => true) true fuel 49 [c] = some x) : ∃ a, ∃ l : List A, ∃ cap, c = .slice a l.length cap ∧ Ts W a l ∧ AWs l := by
  have hlt : ∀ p ∈ x.2, p.block < W.heap.size := DataW.trod_lt fuel _ _ _ h
  rcases Deep.open_slice Tryd.underlying49 h with ⟨hcs, _⟩ | ⟨ad, ln, cp, _, _, _, _, hcs, _⟩
  · have hc : c = .slice none 0 0 := (List.cons.inj hcs).1
    subst hc
    exact ⟨none, [], 0, rfl, .inl rfl, by simp⟩
  · have hc : c = .slice (some ad) ln cp := (List.cons.inj hcs).1
    subst hc
    obtain ⟨l, h1, h2, h3, _⟩ := acts_of hlt h
    exact ⟨some ad, l, cp, by rw [h1], h2, h3⟩
def bkOf (t : Int × Int × Option Addr × List A × Nat) : Bk := ⟨t.1, t.2.1, t.2.2.1, t.2.2.2.1, t.2.2.2.2⟩
set_option maxRecDepth 100000 in
/-- The buckets of a slice that is read. -/
theorem bks_of {H : Type} {enc : TypeId × Value → H} {W : World} {a : Option Addr} {len cap fuel : Nat} {x : DataW H × List MemPlace} (hlt : ∀ p ∈ x.2, p.block < W.heap.size)
    (h : DataW.trod enc Tryd.prog W 0 (fun _ => true) true fuel 31 [.slice a len cap] = some x) : ∃ l : List Bk, l.length = len ∧ (l = [] ∨ ∃ g o, a = some ⟨g, o, none⟩ ∧ g < W.heap.size ∧ ∀ i (h : i < l.length), Cb W g (o + i * 3) l[i]) ∧ (∀ b ∈ l, Ts W b.a b.l ∧ AWs b.l) ∧ len ≤ cap ∧ cap ≤ 9223372036854775807 := by
  rcases Deep.open_slice Tryd.underlying31 h with ⟨hcs, _⟩ | ⟨ad, ln, cp, m, n, D, Pl, hcs, hb, hl, hm, hmm, hx, hel⟩
  · simp at hcs
    exact ⟨[], hcs.2.1.symm, .inl rfl, by simp, by omega, by omega⟩
  · simp at hcs
    obtain ⟨rfl, rfl, rfl⟩ := hcs
    have hm' : m = cap := by simpa using hmm
    subst hm'
    have one : ∀ i, i < len → ∃ b : Bk, W.cell? (ad.add (i * 3)) = some (.int .i64 b.wa) ∧ W.cell? (ad.add (i * 3 + 1)) = some (.int .i64 b.we) ∧ W.cell? (ad.add (i * 3 + 2)) = some (.slice b.a b.l.length b.c) ∧ Ts W b.a b.l ∧ AWs b.l := by
      intro i hi
      obtain ⟨cs', h1, h2⟩ := hel i (by omega)
      rw [cellsBk] at h1
      obtain ⟨_, hlen, hcell⟩ := World.cells?_some h1
      obtain ⟨xs, k, hk, hxy, _, hxl, hf⟩ := DataW.trod_struct Tryd.underlying51 h2
      match xs, hxl, cs', hlen with
      | [y0, y1, y2], _, [v0, v1, v2], _ =>
        have g0 := hf 0 _ rfl
        have g1 := hf 1 _ rfl
        have g2 := hf 2 _ rfl
        simp [cellsInt, cellsActs] at g0 g1 g2
        obtain ⟨n0, e0, d0, r0⟩ := DataW.trod_int Tryd.underlying3 g0
        obtain ⟨n1, e1, d1, r1⟩ := DataW.trod_int Tryd.underlying3 g1
        obtain ⟨aa, la, ca, z2, ha, va⟩ := acts_in g2
        simp at e0 e1
        have c0 := hcell 0 (by omega)
        have c1 := hcell 1 (by omega)
        have c2 := hcell 2 (by omega)
        rw [Deep.add_add] at c0 c1 c2
        exact ⟨⟨n0, n1, aa, la, ca⟩, by simpa [e0] using c0, by simpa [e1] using c1, by simpa [z2] using c2, ha, va⟩
    have one' : ∀ i, i < len → ∃ t : Int × Int × Option Addr × List A × Nat, W.cell? (ad.add (i * 3)) = some (.int .i64 (bkOf t).wa) ∧ W.cell? (ad.add (i * 3 + 1)) = some (.int .i64 (bkOf t).we) ∧ W.cell? (ad.add (i * 3 + 2)) = some (.slice (bkOf t).a (bkOf t).l.length (bkOf t).c) ∧ Ts W (bkOf t).a (bkOf t).l ∧ AWs (bkOf t).l := fun i hi => by
      obtain ⟨b, hb⟩ := one i hi
      exact ⟨(b.wa, b.we, b.a, b.l, b.c), hb⟩
    obtain ⟨f0, hf⟩ := Deep.choose_lt one'
    by_cases h0 : len = 0
    · subst h0
      exact ⟨[], rfl, .inl rfl, by simp, hl, by unfold maxLen at hm; omega⟩
    · obtain ⟨g, o, spot⟩ := ad
      have hsp : spot = none := by simpa [Addr.add] using World.cell?_spot (hf 0 (by omega)).1
      subst hsp
      have hg : g < W.heap.size := hlt (.cell g (o + 0)) (by rw [hx, cellsBk]; exact List.mem_append_left _ (by simp [MemPlace.row]; omega))
      refine ⟨(List.range len).map fun i => bkOf (f0 i), by simp, .inr ⟨g, o, rfl, hg, fun i hi => ?_⟩, ?_, hl, by unfold maxLen at hm; omega⟩
      · have hi' : i < len := by simpa using hi
        obtain ⟨x0, x1, x2, _⟩ := hf i hi'
        rw [plain] at x0 x1 x2
        simp only [List.getElem_map, List.getElem_range]
        exact ⟨x0, by rw [← Nat.add_assoc] at x1; exact x1, by rw [← Nat.add_assoc] at x2; exact x2⟩
      · intro t ht
        rw [List.mem_map] at ht
        obtain ⟨i, hi, rfl⟩ := ht
        exact (hf i (List.mem_range.1 hi)).2.2.2
theorem bks_in {H : Type} {enc : TypeId × Value → H} {W : World} {c : Value} {fuel : Nat} {x : DataW H × List MemPlace}
    (h : DataW.trod enc Tryd.prog W 0 (fun _ => true) true fuel 31 [c] = some x) : ∃ a, ∃ l : List Bk, ∃ cap, c = .slice a l.length cap ∧ (l = [] ∨ ∃ g o, a = some ⟨g, o, none⟩ ∧ g < W.heap.size ∧ ∀ i (h : i < l.length), Cb W g (o + i * 3) l[i]) ∧ (∀ b ∈ l, Ts W b.a b.l ∧ AWs b.l) ∧ l.length ≤ cap ∧ cap ≤ 9223372036854775807 := by
  have hlt : ∀ p ∈ x.2, p.block < W.heap.size := DataW.trod_lt fuel _ _ _ h
  rcases Deep.open_slice Tryd.underlying31 h with ⟨hcs, _⟩ | ⟨ad, ln, cp, _, _, _, _, hcs, _⟩
  · have hc : c = .slice none 0 0 := (List.cons.inj hcs).1
    subst hc
    exact ⟨none, [], 0, rfl, .inl rfl, by simp, Nat.le_refl _, by omega⟩
  · have hc : c = .slice (some ad) ln cp := (List.cons.inj hcs).1
    subst hc
    obtain ⟨l, h1, h2, h3, h4, h5⟩ := bks_of hlt h
    exact ⟨some ad, l, cp, by rw [h1], h2, h3, by rw [h1]; exact h4, h5⟩
/-- What is handed in as a group. -/
structure GIn (W : World) (g : Gr) : Prop where
  bs : Bs W g.a g.l
  u : ∀ b ∈ g.l, AWs b.l
  i0 : -9223372036854775808 ≤ g.id
  i1 : g.id ≤ 9223372036854775807
  cl : g.l.length ≤ g.c
  cm : g.c ≤ 9223372036854775807
theorem gr_in {H : Type} {enc : TypeId × Value → H} {W : World} {c0 c1 c2 : Value} {fuel : Nat} {x : DataW H × List MemPlace} (h : DataW.trod enc Tryd.prog W 0 (fun _ => true) true fuel 33 [c0, c1, c2] = some x) :
    ∃ g : Gr, c0 = .int .i64 g.id ∧ c1 = .int .i64 g.kd ∧ c2 = .slice g.a g.l.length g.c ∧ GIn W g := by
  obtain ⟨xs, m, _, _, _, hlen, hfs⟩ := DataW.trod_struct Tryd.underlying33 h
  match xs, hlen with
  | [y0, y1, y2], _ =>
    have t0 : DataW.trod enc Tryd.prog W 0 (fun _ => true) true m 3 [c0] = some y0 := by simpa [cellsInt, cellsBks] using hfs 0 _ rfl
    have t1 : DataW.trod enc Tryd.prog W 0 (fun _ => true) true m 3 [c1] = some y1 := by simpa [cellsInt, cellsBks] using hfs 1 _ rfl
    have t2 : DataW.trod enc Tryd.prog W 0 (fun _ => true) true m 31 [c2] = some y2 := by simpa [cellsInt, cellsBks] using hfs 2 _ rfl
    obtain ⟨n0, q0, _, w0⟩ := DataW.trod_int Tryd.underlying3 t0
    obtain ⟨n1, q1, _, w1⟩ := DataW.trod_int Tryd.underlying3 t1
    obtain ⟨ga, gl, gc, z2, hg, hb, h1, h2⟩ := bks_in t2
    have z0 := (List.cons.inj q0).1
    have z1 := (List.cons.inj q1).1
    obtain ⟨a0, a1⟩ := wf_i64 w0
    exact ⟨⟨n0, n1, ga, gl, gc⟩, z0, z1, z2, ⟨⟨fun b h => (hb b h).1, hg⟩, fun b h => (hb b h).2, a0, by simp only; omega, h1, h2⟩⟩
set_option maxRecDepth 100000 in
/-- A group that is handed in. -/
theorem open_gr {H : Type} {enc : TypeId × Value → H} {W : World} {r : Reach} {b0 : Nat} {v : Value} {d : DataW H} {ps : List MemPlace} (hv : Value.okWide Tryd.prog W r b0 33 v) (h : DataW.Trod enc Tryd.prog W 0 (fun _ => true) true 33 v d ps) :
    ∃ g : Gr, v = gV g ∧ GIn W g := by
  obtain ⟨cs, rfl, hsz⟩ := okWide_struct Tryd.underlying33 hv
  obtain ⟨c0, c1, c2, rfl⟩ := array3 (hsz.trans (by kernel_rfl))
  obtain ⟨fuel, hf⟩ := h
  obtain ⟨g, z0, z1, z2, hg⟩ := gr_in (by simpa [Value.cells] using hf)
  exact ⟨g, by rw [z0, z1, z2], hg⟩
set_option maxRecDepth 100000 in
/-- The booleans of a slice that is read. -/
theorem bools_of {H : Type} {enc : TypeId × Value → H} {W : World} {a : Option Addr} {len cap fuel : Nat} {x : DataW H × List MemPlace} (hlt : ∀ p ∈ x.2, p.block < W.heap.size)
    (h : DataW.trod enc Tryd.prog W 0 (fun _ => true) true fuel 48 [.slice a len cap] = some x) : ∃ l : List Bool, l.length = len ∧ Ls W a l := by
  rcases Deep.open_slice Tryd.underlying48 h with ⟨hcs, _⟩ | ⟨ad, ln, cp, m, n, D, Pl, hcs, hb, hl, hm, hmm, hx, hel⟩
  · simp at hcs
    exact ⟨[], hcs.2.1.symm, .inl rfl⟩
  · simp at hcs
    obtain ⟨rfl, rfl, rfl⟩ := hcs
    have hm' : m = cap := by simpa using hmm
    subst hm'
    have one : ∀ i, i < len → ∃ t : Bool, W.cell? (ad.add i) = some (.bool t) := by
      intro i hi
      obtain ⟨cs', h1, h2⟩ := hel i (by omega)
      rw [cellsBool] at h1
      obtain ⟨_, hlen, hcell⟩ := World.cells?_some h1
      match cs', hlen with
      | [v0], _ =>
        obtain ⟨b, e0, _⟩ := DataW.trod_bool Tryd.underlying4 h2
        simp at e0
        have c0 := hcell 0 (by omega)
        rw [Deep.add_add] at c0
        exact ⟨b, by simpa [e0] using c0⟩
    obtain ⟨f, hf⟩ := Deep.choose_lt one
    by_cases h0 : len = 0
    · subst h0
      exact ⟨[], rfl, .inl rfl⟩
    · obtain ⟨g, o, spot⟩ := ad
      have hsp : spot = none := by simpa [Addr.add] using World.cell?_spot (hf 0 (by omega))
      subst hsp
      have hg : g < W.heap.size := hlt (.cell g (o + 0)) (by rw [hx, cellsBool]; exact List.mem_append_left _ (by simp [MemPlace.row]; omega))
      refine ⟨(List.range len).map f, by simp, .inr ⟨g, o, rfl, hg, fun i hi => ?_⟩⟩
      have hi' : i < len := by simpa using hi
      have x0 := hf i hi'
      rw [plain] at x0
      simp only [List.getElem_map, List.getElem_range]
      exact x0
/-- A call: what is asked, and the group. -/
structure Ask where
  ask : Int
  g : Gr
abbrev Co (w : World) (b o : Nat) (t : Ask) : Prop := w.cell? ⟨b, o, none⟩ = some (.int .i64 t.ask) ∧ Cg w b (o + 1) t.g
def AsksAt (w : World) (a : Option Addr) (l : List Ask) : Prop :=
  l = [] ∨ ∃ g o, a = some ⟨g, o, none⟩ ∧ g < w.heap.size ∧ ∀ i (h : i < l.length), Co w g (o + i * 4) l[i]
def opOf (t : Int × Int × Int × Option Addr × List (Int × Int × Option Addr × List A × Nat) × Nat) : Ask := ⟨t.1, ⟨t.2.1, t.2.2.1, t.2.2.2.1, t.2.2.2.2.1.map bkOf, t.2.2.2.2.2⟩⟩
def opTo (t : Ask) : Int × Int × Int × Option Addr × List (Int × Int × Option Addr × List A × Nat) × Nat := (t.ask, t.g.id, t.g.kd, t.g.a, t.g.l.map fun b => (b.wa, b.we, b.a, b.l, b.c), t.g.c)
theorem opOf_to (t : Ask) : opOf (opTo t) = t := by
  obtain ⟨a, ⟨i, k, ga, l, c⟩⟩ := t
  have : (l.map fun b => (b.wa, b.we, b.a, b.l, b.c)).map bkOf = l := by
    rw [List.map_map]
    conv => rhs; rw [← List.map_id l]
    rfl
  simp only [opTo, opOf, this]
set_option maxRecDepth 100000 in
/-- The calls of a slice that is read. -/
theorem ops_of {H : Type} {enc : TypeId × Value → H} {W : World} {a : Option Addr} {len cap fuel : Nat} {x : DataW H × List MemPlace} (hlt : ∀ p ∈ x.2, p.block < W.heap.size)
    (h : DataW.trod enc Tryd.prog W 0 (fun _ => true) true fuel 22 [.slice a len cap] = some x) : ∃ l : List Ask, l.length = len ∧ AsksAt W a l ∧ ∀ t ∈ l, GIn W t.g := by
  rcases Deep.open_slice Tryd.underlying22 h with ⟨hcs, _⟩ | ⟨ad, ln, cp, m, n, D, Pl, hcs, hb, hl, hm, hmm, hx, hel⟩
  · simp at hcs
    exact ⟨[], hcs.2.1.symm, .inl rfl, by simp⟩
  · simp at hcs
    obtain ⟨rfl, rfl, rfl⟩ := hcs
    have hm' : m = cap := by simpa using hmm
    subst hm'
    have one : ∀ i, i < len → ∃ t : Ask, W.cell? (ad.add (i * 4)) = some (.int .i64 t.ask) ∧ W.cell? (ad.add (i * 4 + 1)) = some (.int .i64 t.g.id) ∧ W.cell? (ad.add (i * 4 + 2)) = some (.int .i64 t.g.kd) ∧ W.cell? (ad.add (i * 4 + 3)) = some (.slice t.g.a t.g.l.length t.g.c) ∧ GIn W t.g := by
      intro i hi
      obtain ⟨cs', h1, h2⟩ := hel i (by omega)
      rw [cellsOp] at h1
      obtain ⟨_, hlen, hcell⟩ := World.cells?_some h1
      obtain ⟨xs, k, hk, hxy, _, hxl, hf⟩ := DataW.trod_struct Tryd.underlying35 h2
      match xs, hxl, cs', hlen with
      | [y0, y1], _, [v0, v1, v2, v3], _ =>
        have g0 := hf 0 _ rfl
        have g1 := hf 1 _ rfl
        simp [cellsInt, cellsGr] at g0 g1
        obtain ⟨n0, e0, d0, r0⟩ := DataW.trod_int Tryd.underlying3 g0
        obtain ⟨g, z0, z1, z2, hg⟩ := gr_in g1
        simp at e0
        have c0 := hcell 0 (by omega)
        have c1 := hcell 1 (by omega)
        have c2 := hcell 2 (by omega)
        have c3 := hcell 3 (by omega)
        rw [Deep.add_add] at c0 c1 c2 c3
        exact ⟨⟨n0, g⟩, by simpa [e0] using c0, by simpa [z0] using c1, by simpa [z1] using c2, by simpa [z2] using c3, hg⟩
    have one' : ∀ i, i < len → ∃ t : Int × Int × Int × Option Addr × List (Int × Int × Option Addr × List A × Nat) × Nat, W.cell? (ad.add (i * 4)) = some (.int .i64 (opOf t).ask) ∧ W.cell? (ad.add (i * 4 + 1)) = some (.int .i64 (opOf t).g.id) ∧ W.cell? (ad.add (i * 4 + 2)) = some (.int .i64 (opOf t).g.kd) ∧ W.cell? (ad.add (i * 4 + 3)) = some (.slice (opOf t).g.a (opOf t).g.l.length (opOf t).g.c) ∧ GIn W (opOf t).g := fun i hi => by
      obtain ⟨b, hb⟩ := one i hi
      exact ⟨opTo b, by rw [opOf_to]; exact hb⟩
    obtain ⟨f0, hf⟩ := Deep.choose_lt one'
    by_cases h0 : len = 0
    · subst h0
      exact ⟨[], rfl, .inl rfl, by simp⟩
    · obtain ⟨g, o, spot⟩ := ad
      have hsp : spot = none := by simpa [Addr.add] using World.cell?_spot (hf 0 (by omega)).1
      subst hsp
      have hg : g < W.heap.size := hlt (.cell g (o + 0)) (by rw [hx, cellsOp]; exact List.mem_append_left _ (by simp [MemPlace.row]; omega))
      refine ⟨(List.range len).map fun i => opOf (f0 i), by simp, .inr ⟨g, o, rfl, hg, fun i hi => ?_⟩, ?_⟩
      · have hi' : i < len := by simpa using hi
        obtain ⟨x0, x1, x2, x3, _⟩ := hf i hi'
        rw [plain] at x0 x1 x2 x3
        simp only [List.getElem_map, List.getElem_range]
        rw [← Nat.add_assoc] at x1 x2 x3
        exact ⟨x0, x1, x2, x3⟩
      · intro t ht
        rw [List.mem_map] at ht
        obtain ⟨i, hi, rfl⟩ := ht
        exact (hf i (List.mem_range.1 hi)).2.2.2.2
end Go.Proofs.YteodlkgbakkjmaaDoor

/-
  Joined: Open, OpenE, OpenM.
-/
import Derived.Test.YtlcbfdiohcbpbaaGreatDoorZW
import Derived.Test.YtlcbfdiohcbpbaaGreatDoorZA2
import Derived.Test.YtlcbfdiohcbpbaaGreatDoorZW2
import Derived.WalkKit
import Derived.ProofKit
import Derived.OpenShut
import Derived.ShutString
import Derived.ChangeOld
import Derived.Below
import Derived.LaidMore
import Derived.Stop.Joined
import Derived.Deep.Slices
namespace Go.Proofs.YtlcbfdiohcbpbaaGreatDoor
/-
  What the rows hand to the walks: the tables, a slice of actions, an action.
-/
open Go.ChangeShapes Go.WideShapes Go.ChangeAt Go.RowKit
theorem own : ownKnob Tryz.prog.godebug = none := by kernel_rfl
theorem laidOut : laidOutB Tryz.prog = true := by kernel_rfl
theorem gKinds : Tryz.prog.globalNamed ((Rows.wireHeadRow.named.drop 1).headD "") = some 1 := by kernel_rfl
theorem gCodes : Tryz.prog.globalNamed (Rows.wireHeadRow.named.headD "") = some 4 := by kernel_rfl
theorem gOrder : Tryz.prog.globalNamed ((Rows.wireHeadRow.named.drop 3).headD "") = some 0 := by kernel_rfl
theorem gMcodes : Tryz.prog.globalNamed ((Rows.wireHeadRow.named.drop 2).headD "") = some 2 := by kernel_rfl
theorem tMcodes : (Tryz.prog.globals[2]?).map (·.type) = some 181 := by kernel_rfl
theorem cellsMcode : Tryz.prog.cellsOf 180 = 3 := by kernel_rfl
theorem cellsMcodes : Tryz.prog.cellsOf 181 = 33 := by kernel_rfl
theorem tKinds : (Tryz.prog.globals[1]?).map (·.type) = some 175 := by kernel_rfl
theorem tCodes : (Tryz.prog.globals[4]?).map (·.type) = some 186 := by kernel_rfl
theorem tOrder : (Tryz.prog.globals[0]?).map (·.type) = some 150 := by kernel_rfl
theorem cellsOrder : Tryz.prog.cellsOf 150 = 6 := by kernel_rfl
theorem cellsKind : Tryz.prog.cellsOf 174 = 3 := by kernel_rfl
theorem cellsKinds : Tryz.prog.cellsOf 175 = 15 := by kernel_rfl
theorem cellsCode : Tryz.prog.cellsOf 185 = 2 := by kernel_rfl
theorem cellsCodes : Tryz.prog.cellsOf 186 = 10 := by kernel_rfl
theorem cellsInt : Tryz.prog.cellsOf 3 = 1 := by kernel_rfl
theorem cellsAct : Tryz.prog.cellsOf 106 = 3 := by kernel_rfl
theorem cellsU : Tryz.prog.cellsOf 24 = 1 := by kernel_rfl
/-- The rows' condition. -/
abbrev laidL : List (String × DataW Unit) := Rows.wireHeadRow.laid
set_option maxRecDepth 100000 in
theorem kind_cells {W : World} {cs : List Value} {p : List MemPlace} {m : Nat} {a b c : Int} (h : DataW.trod (fun _ => ()) Tryz.prog W 0 (fun _ => true) false m 174 cs = some (.agg [.lit (.int .i64 a), .lit (.int .i64 b), .lit (.int .i64 c)], p)) :
    cs = [.int .i64 a, .int .i64 b, .int .i64 c] := by
  obtain ⟨xs, k, _, hxy, hcl, hxl, hf⟩ := DataW.trod_struct Tryz.underlying174 h
  rw [cellsKind] at hcl
  match xs, hxl, cs, hcl with
  | [y0, y1, y2], _, [v0, v1, v2], _ =>
    have g0 := hf 0 _ rfl
    have g1 := hf 1 _ rfl
    have g2 := hf 2 _ rfl
    simp [cellsInt] at g0 g1 g2
    obtain ⟨n0, e0, d0, _⟩ := DataW.trod_int Tryz.underlying3 g0
    obtain ⟨n1, e1, d1, _⟩ := DataW.trod_int Tryz.underlying3 g1
    obtain ⟨n2, e2, d2, _⟩ := DataW.trod_int Tryz.underlying3 g2
    subst d0 d1 d2
    simp at e0 e1 e2 hxy
    obtain ⟨⟨rfl, rfl, rfl⟩, _⟩ := hxy
    rw [e0, e1, e2]
set_option maxRecDepth 100000 in
theorem mcode_cells {W : World} {cs : List Value} {p : List MemPlace} {m : Nat} {a b c : Int} (h : DataW.trod (fun _ => ()) Tryz.prog W 0 (fun _ => true) false m 180 cs = some (.agg [.lit (.int .i64 a), .lit (.int .i64 b), .lit (.int .i64 c)], p)) :
    cs = [.int .i64 a, .int .i64 b, .int .i64 c] := by
  obtain ⟨xs, k, _, hxy, hcl, hxl, hf⟩ := DataW.trod_struct Tryz.underlying180 h
  rw [cellsMcode] at hcl
  match xs, hxl, cs, hcl with
  | [y0, y1, y2], _, [v0, v1, v2], _ =>
    have g0 := hf 0 _ rfl
    have g1 := hf 1 _ rfl
    have g2 := hf 2 _ rfl
    simp [cellsInt] at g0 g1 g2
    obtain ⟨n0, e0, d0, _⟩ := DataW.trod_int Tryz.underlying3 g0
    obtain ⟨n1, e1, d1, _⟩ := DataW.trod_int Tryz.underlying3 g1
    obtain ⟨n2, e2, d2, _⟩ := DataW.trod_int Tryz.underlying3 g2
    subst d0 d1 d2
    simp at e0 e1 e2 hxy
    obtain ⟨⟨rfl, rfl, rfl⟩, _⟩ := hxy
    rw [e0, e1, e2]
set_option maxRecDepth 100000 in
theorem code_cells {W : World} {cs : List Value} {p : List MemPlace} {m : Nat} {a b : Int} (h : DataW.trod (fun _ => ()) Tryz.prog W 0 (fun _ => true) false m 185 cs = some (.agg [.lit (.int .i64 a), .lit (.int .i64 b)], p)) :
    cs = [.int .i64 a, .int .i64 b] := by
  obtain ⟨xs, k, _, hxy, hcl, hxl, hf⟩ := DataW.trod_struct Tryz.underlying185 h
  rw [cellsCode] at hcl
  match xs, hxl, cs, hcl with
  | [y0, y1], _, [v0, v1], _ =>
    have g0 := hf 0 _ rfl
    have g1 := hf 1 _ rfl
    simp [cellsInt] at g0 g1
    obtain ⟨n0, e0, d0, _⟩ := DataW.trod_int Tryz.underlying3 g0
    obtain ⟨n1, e1, d1, _⟩ := DataW.trod_int Tryz.underlying3 g1
    subst d0 d1
    simp at e0 e1 hxy
    obtain ⟨⟨rfl, rfl⟩, _⟩ := hxy
    rw [e0, e1]
theorem ct_of_laid {W : World} (h : laidMetH Tryz.prog laidL W) : Ct W := by
  rw [MakeChecks.laidMetH_plain _ _ _ (by kernel_rfl)] at h
  obtain ⟨ps, ⟨g0, t0, cs0, f0, p0, q0, hg0, ht0, hv0, hd0, ⟨g1, t1, cs1, f1, p1, q1, hg1, ht1, hv1, hd1, ⟨g2, t2, cs2, f2, p2, q2, hg2, ht2, hv2, hd2, ⟨g3, t3, cs3, f3, p3, q3, hg3, ht3, hv3, hd3, _, _⟩, _⟩, _⟩, _⟩, _, _⟩ := h
  obtain rfl := Option.some.inj (gKinds.symm.trans hg0)
  obtain rfl := Option.some.inj (tKinds.symm.trans ht0)
  obtain rfl := Option.some.inj (gCodes.symm.trans hg1)
  obtain rfl := Option.some.inj (tCodes.symm.trans ht1)
  obtain rfl := Option.some.inj (gOrder.symm.trans hg2)
  obtain rfl := Option.some.inj (tOrder.symm.trans ht2)
  obtain rfl := Option.some.inj (gMcodes.symm.trans hg3)
  obtain rfl := Option.some.inj (tMcodes.symm.trans ht3)
  refine ⟨⟨?_, ?_, ?_⟩, ?_⟩
  · clear hd1 hv1 hg1 ht1 hd2 hv2 hg2 ht2 hd3 hv3 hg3 ht3
    obtain ⟨xs, m1, rfl, hx1, hlen, hn, hel⟩ := DataW.trod_array Tryz.underlying175 hd0
    rw [cellsKinds] at hlen
    rw [cellsKind] at hel
    have hx := (Prod.mk.inj hx1).1
    unfold Rows.laid_drover_act_kinds at hx
    simp only [DataW.agg.injEq] at hx
    have at_ : ∀ (i : Nat) (d : DataW Unit), i < 5 → (xs.map (fun x => x.fst))[i]? = some d → ∃ p, DataW.trod (fun _ => ()) Tryz.prog W 0 (fun _ => true) false m1 174 (List.take 3 (List.drop (i * 3) cs0.toList)) = some (d, p) := by
      intro i d hi hd
      rw [List.getElem?_map, Option.map_eq_some_iff] at hd
      obtain ⟨y, hy, rfl⟩ := hd
      exact ⟨y.2, (hel i hi).trans hy⟩
    rw [← hx] at at_
    have key : cs0.toList = kindsA.toList := by
      generalize cs0.toList = L at *
      have step : ∀ i, L.drop (i * 3) = (L.drop (i * 3)).take 3 ++ L.drop ((i + 1) * 3) := fun i => by
        have := (List.take_append_drop 3 (L.drop (i * 3))).symm
        rwa [List.drop_drop, show i * 3 + 3 = (i + 1) * 3 by omega] at this
      have s0 := step 0
      rw [kind_cells (at_ 0 _ (by decide) rfl).choose_spec] at s0
      have s1 := step 1
      rw [kind_cells (at_ 1 _ (by decide) rfl).choose_spec] at s1
      have s2 := step 2
      rw [kind_cells (at_ 2 _ (by decide) rfl).choose_spec] at s2
      have s3 := step 3
      rw [kind_cells (at_ 3 _ (by decide) rfl).choose_spec] at s3
      have s4 := step 4
      rw [kind_cells (at_ 4 _ (by decide) rfl).choose_spec] at s4
      have s5 : L.drop (5 * 3) = [] := List.drop_of_length_le (by omega)
      have z : L = L.drop (0 * 3) := rfl
      rw [z, s0, s1, s2, s3, s4, s5]
      rfl
    have e : cs0 = kindsA := Array.toList_inj.1 key
    subst e
    simp only [World.var?, hg0, Option.bind_some] at hv0
    split at hv0
    · rename_i c t fr hb
      cases hv0
      exact ⟨t, fr, hb⟩
    · cases hv0
  · clear hd0 hv0 hg0 ht0 hd2 hv2 hg2 ht2 hd3 hv3 hg3 ht3
    obtain ⟨xs, m1, rfl, hx1, hlen, hn, hel⟩ := DataW.trod_array Tryz.underlying186 hd1
    rw [cellsCodes] at hlen
    rw [cellsCode] at hel
    have hx := (Prod.mk.inj hx1).1
    unfold Rows.laid_drover_act_codes at hx
    simp only [DataW.agg.injEq] at hx
    have at_ : ∀ (i : Nat) (d : DataW Unit), i < 5 → (xs.map (fun x => x.fst))[i]? = some d → ∃ p, DataW.trod (fun _ => ()) Tryz.prog W 0 (fun _ => true) false m1 185 (List.take 2 (List.drop (i * 2) cs1.toList)) = some (d, p) := by
      intro i d hi hd
      rw [List.getElem?_map, Option.map_eq_some_iff] at hd
      obtain ⟨y, hy, rfl⟩ := hd
      exact ⟨y.2, (hel i hi).trans hy⟩
    rw [← hx] at at_
    have key : cs1.toList = codesA.toList := by
      generalize cs1.toList = L at *
      have step : ∀ i, L.drop (i * 2) = (L.drop (i * 2)).take 2 ++ L.drop ((i + 1) * 2) := fun i => by
        have := (List.take_append_drop 2 (L.drop (i * 2))).symm
        rwa [List.drop_drop, show i * 2 + 2 = (i + 1) * 2 by omega] at this
      have s0 := step 0
      rw [code_cells (at_ 0 _ (by decide) rfl).choose_spec] at s0
      have s1 := step 1
      rw [code_cells (at_ 1 _ (by decide) rfl).choose_spec] at s1
      have s2 := step 2
      rw [code_cells (at_ 2 _ (by decide) rfl).choose_spec] at s2
      have s3 := step 3
      rw [code_cells (at_ 3 _ (by decide) rfl).choose_spec] at s3
      have s4 := step 4
      rw [code_cells (at_ 4 _ (by decide) rfl).choose_spec] at s4
      have s5 : L.drop (5 * 2) = [] := List.drop_of_length_le (by omega)
      have z : L = L.drop (0 * 2) := rfl
      rw [z, s0, s1, s2, s3, s4, s5]
      rfl
    have e : cs1 = codesA := Array.toList_inj.1 key
    subst e
    simp only [World.var?, hg1, Option.bind_some] at hv1
    split at hv1
    · rename_i c t fr hb
      cases hv1
      exact ⟨t, fr, hb⟩
    · cases hv1
  · clear hd0 hv0 hg0 ht0 hd1 hv1 hg1 ht1 hd3 hv3 hg3 ht3
    obtain ⟨xs, m1, rfl, hx1, hlen, hn, hel⟩ := DataW.trod_array Tryz.underlying150 hd2
    rw [cellsOrder] at hlen
    rw [cellsInt] at hel
    have hx := (Prod.mk.inj hx1).1
    unfold Rows.laid_drover_instr_order at hx
    simp only [DataW.agg.injEq] at hx
    have at_ : ∀ (i : Nat) (n : Int), i < 6 → (xs.map (fun x => x.fst))[i]? = some (.lit (.int .i64 n)) → List.take 1 (List.drop (i * 1) cs2.toList) = [.int .i64 n] := by
      intro i n hi hd
      rw [List.getElem?_map, Option.map_eq_some_iff] at hd
      obtain ⟨y, hy, hyn⟩ := hd
      obtain ⟨n0, e0, d0, _⟩ := DataW.trod_int Tryz.underlying3 ((hel i hi).trans hy)
      rw [d0] at hyn
      simp at hyn
      rw [e0, hyn]
    rw [← hx] at at_
    have key : cs2.toList = orderA.toList := by
      generalize cs2.toList = L at *
      have step : ∀ i, L.drop (i * 1) = (L.drop (i * 1)).take 1 ++ L.drop ((i + 1) * 1) := fun i => by
        have := (List.take_append_drop 1 (L.drop (i * 1))).symm
        rwa [List.drop_drop, show i * 1 + 1 = (i + 1) * 1 by omega] at this
      have s0 := step 0
      rw [at_ 0 _ (by decide) rfl] at s0
      have s1 := step 1
      rw [at_ 1 _ (by decide) rfl] at s1
      have s2 := step 2
      rw [at_ 2 _ (by decide) rfl] at s2
      have s3 := step 3
      rw [at_ 3 _ (by decide) rfl] at s3
      have s4 := step 4
      rw [at_ 4 _ (by decide) rfl] at s4
      have s5 := step 5
      rw [at_ 5 _ (by decide) rfl] at s5
      have s6 : L.drop (6 * 1) = [] := List.drop_of_length_le (by omega)
      have z : L = L.drop (0 * 1) := rfl
      rw [z, s0, s1, s2, s3, s4, s5, s6]
      rfl
    have e : cs2 = orderA := Array.toList_inj.1 key
    subst e
    simp only [World.var?, hg2, Option.bind_some] at hv2
    split at hv2
    · rename_i c t fr hb
      cases hv2
      exact ⟨t, fr, hb⟩
    · cases hv2
  · clear hd0 hv0 hg0 ht0 hd1 hv1 hg1 ht1 hd2 hv2 hg2 ht2
    obtain ⟨xs, m1, rfl, hx1, hlen, hn, hel⟩ := DataW.trod_array Tryz.underlying181 hd3
    rw [cellsMcodes] at hlen
    rw [cellsMcode] at hel
    have hx := (Prod.mk.inj hx1).1
    unfold Rows.laid_drover_match_codes at hx
    simp only [DataW.agg.injEq] at hx
    have at_ : ∀ (i : Nat) (d : DataW Unit), i < 11 → (xs.map (fun x => x.fst))[i]? = some d → ∃ p, DataW.trod (fun _ => ()) Tryz.prog W 0 (fun _ => true) false m1 180 (List.take 3 (List.drop (i * 3) cs3.toList)) = some (d, p) := by
      intro i d hi hd
      rw [List.getElem?_map, Option.map_eq_some_iff] at hd
      obtain ⟨y, hy, rfl⟩ := hd
      exact ⟨y.2, (hel i hi).trans hy⟩
    rw [← hx] at at_
    have key : cs3.toList = Mt.codesA.toList := by
      generalize cs3.toList = L at *
      have step : ∀ i, L.drop (i * 3) = (L.drop (i * 3)).take 3 ++ L.drop ((i + 1) * 3) := fun i => by
        have := (List.take_append_drop 3 (L.drop (i * 3))).symm
        rwa [List.drop_drop, show i * 3 + 3 = (i + 1) * 3 by omega] at this
      have s0 := step 0
      rw [mcode_cells (at_ 0 _ (by decide) rfl).choose_spec] at s0
      have s1 := step 1
      rw [mcode_cells (at_ 1 _ (by decide) rfl).choose_spec] at s1
      have s2 := step 2
      rw [mcode_cells (at_ 2 _ (by decide) rfl).choose_spec] at s2
      have s3 := step 3
      rw [mcode_cells (at_ 3 _ (by decide) rfl).choose_spec] at s3
      have s4 := step 4
      rw [mcode_cells (at_ 4 _ (by decide) rfl).choose_spec] at s4
      have s5 := step 5
      rw [mcode_cells (at_ 5 _ (by decide) rfl).choose_spec] at s5
      have s6 := step 6
      rw [mcode_cells (at_ 6 _ (by decide) rfl).choose_spec] at s6
      have s7 := step 7
      rw [mcode_cells (at_ 7 _ (by decide) rfl).choose_spec] at s7
      have s8 := step 8
      rw [mcode_cells (at_ 8 _ (by decide) rfl).choose_spec] at s8
      have s9 := step 9
      rw [mcode_cells (at_ 9 _ (by decide) rfl).choose_spec] at s9
      have s10 := step 10
      rw [mcode_cells (at_ 10 _ (by decide) rfl).choose_spec] at s10
      have s11 : L.drop (11 * 3) = [] := List.drop_of_length_le (by omega)
      have z : L = L.drop (0 * 3) := rfl
      rw [z, s0, s1, s2, s3, s4, s5, s6, s7, s8, s9, s10, s11]
      rfl
    have e : cs3 = Mt.codesA := Array.toList_inj.1 key
    subst e
    simp only [World.var?, hg3, Option.bind_some] at hv3
    split at hv3
    · rename_i c t fr hb
      cases hv3
      exact ⟨t, fr, hb⟩
    · cases hv3
/-- The door's own heap meets the condition. -/
theorem door_met (os : Os) (args : Array Value) : laidMetH Tryz.prog laidL ((World.doorLaid Tryz.prog 400 os).forCall (fun _ _ => 0) ⟨#[], args, []⟩).memory :=
  laidMetH_of_parts3 (fuel := 8) (laidMet_of_run' 8 (by kernel_rfl) (by kernel_rfl)) (by kernel_rfl) (by kernel_rfl)

theorem plain (g o j : Nat) : (⟨g, o, none⟩ : Addr).add j = ⟨g, o + j, none⟩ := by unfold Addr.add; split <;> simp_all
theorem wf_u64 {n : Int} (h : (Lit.int .u64 n).wf = true) : 0 ≤ n ∧ n < 18446744073709551616 := by
  simp [Lit.wf, IntKind.min, IntKind.max, IntKind.signed, IntKind.bits] at h; omega
theorem wf_i64 {n : Int} (h : (Lit.int .i64 n).wf = true) : -9223372036854775808 ≤ n ∧ n < 9223372036854775808 := by
  simp [Lit.wf, IntKind.min, IntKind.max, IntKind.signed, IntKind.bits] at h; omega
set_option maxRecDepth 100000 in
/-- The actions of a slice that is read. -/
theorem acts_of {H : Type} {enc : TypeId × Value → H} {W : World} {a : Option Addr} {len cap fuel : Nat} {x : DataW H × List MemPlace} (hlt : ∀ p ∈ x.2, p.block < W.heap.size)
    (h : DataW.trod enc Tryz.prog W 0 (fun _ => true) true fuel 23 [.slice a len cap] = some x) : ∃ l : List A, l.length = len ∧ Ts W a l ∧ AWs l ∧ len ≤ cap := by
  rcases Deep.open_slice Tryz.underlying23 h with ⟨hcs, _⟩ | ⟨ad, ln, cp, m, n, D, Pl, hcs, hb, hl, hm, hmm, hx, hel⟩
  · simp at hcs
    exact ⟨[], hcs.2.1.symm, .inl rfl, by simp, by omega⟩
  · simp at hcs
    obtain ⟨rfl, rfl, rfl⟩ := hcs
    have hm' : m = cap := by simpa using hmm
    subst hm'
    have one : ∀ i, i < len → ∃ t : A, W.cell? (ad.add (i * 3)) = some (.int .i64 t.1) ∧ W.cell? (ad.add (i * 3 + 1)) = some (.int .i64 t.2.1) ∧ W.cell? (ad.add (i * 3 + 2)) = some (.int .u64 t.2.2) ∧ AW t := by
      intro i hi
      obtain ⟨cs', h1, h2⟩ := hel i (by omega)
      rw [cellsAct] at h1
      obtain ⟨_, hlen, hcell⟩ := World.cells?_some h1
      obtain ⟨xs, k, hk, hxy, _, hxl, hf⟩ := DataW.trod_struct Tryz.underlying106 h2
      match xs, hxl, cs', hlen with
      | [y0, y1, y2], _, [v0, v1, v2], _ =>
        have g0 := hf 0 _ rfl
        have g1 := hf 1 _ rfl
        have g2 := hf 2 _ rfl
        simp [cellsInt, cellsU] at g0 g1 g2
        obtain ⟨n0, e0, d0, r0⟩ := DataW.trod_int Tryz.underlying3 g0
        obtain ⟨n1, e1, d1, r1⟩ := DataW.trod_int Tryz.underlying3 g1
        obtain ⟨n2, e2, d2, r2⟩ := DataW.trod_int Tryz.underlying24 g2
        simp at e0 e1 e2
        have c0 := hcell 0 (by omega)
        have c1 := hcell 1 (by omega)
        have c2 := hcell 2 (by omega)
        rw [Deep.add_add] at c0 c1 c2
        refine ⟨(n0, n1, n2), by simpa [e0] using c0, by simpa [e1] using c1, by simpa [e2] using c2, ?_⟩
        obtain ⟨a0, a1⟩ := wf_i64 r1
        obtain ⟨b0, b1⟩ := wf_u64 r2
        exact ⟨a0, a1, b0, b1⟩
    obtain ⟨f, hf⟩ := Deep.choose_lt one
    by_cases h0 : len = 0
    · subst h0
      exact ⟨[], rfl, .inl rfl, by simp, hl⟩
    · obtain ⟨g, o, spot⟩ := ad
      have hsp : spot = none := by simpa [Addr.add] using World.cell?_spot (hf 0 (by omega)).1
      subst hsp
      have hg : g < W.heap.size := hlt (.cell g (o + 0)) (by rw [hx, cellsAct]; exact List.mem_append_left _ (by simp [MemPlace.row]; omega))
      refine ⟨(List.range len).map f, by simp, .inr ⟨g, o, rfl, hg, fun i hi => ?_⟩, ?_, hl⟩
      · have hi' : i < len := by simpa using hi
        obtain ⟨x0, x1, x2, _⟩ := hf i hi'
        rw [plain] at x0 x1 x2
        simp only [List.getElem_map, List.getElem_range]
        exact ⟨x0, by rw [← Nat.add_assoc] at x1; exact x1, by rw [← Nat.add_assoc] at x2; exact x2⟩
      · intro t ht
        rw [List.mem_map] at ht
        obtain ⟨i, hi, rfl⟩ := ht
        exact (hf i (List.mem_range.1 hi)).2.2.2
theorem array3 {α : Type} {cs : Array α} (h : cs.size = 3) : ∃ c0 c1 c2, cs = #[c0, c1, c2] := by
  obtain ⟨l⟩ := cs
  match l, h with
  | [c0, c1, c2], _ => exact ⟨c0, c1, c2, rfl⟩
set_option maxRecDepth 100000 in
/-- An action that is handed in. -/
theorem open_act {H : Type} {enc : TypeId × Value → H} {W : World} {r : Reach} {b0 base : Nat} {sp : Nat → Bool} {held : Bool} {v : Value} {d : DataW H} {ps : List MemPlace} (hv : Value.okWide Tryz.prog W r b0 106 v) (h : DataW.Trod enc Tryz.prog W base sp held 106 v d ps) :
    ∃ a : A, v = tV a ∧ AW a := by
  obtain ⟨cs, rfl, hsz⟩ := okWide_struct Tryz.underlying106 hv
  obtain ⟨c0, c1, c2, rfl⟩ := array3 (hsz.trans (by kernel_rfl))
  obtain ⟨fuel, hf⟩ := h
  obtain ⟨xs, m, _, _, _, hlen, hfs⟩ := DataW.trod_struct Tryz.underlying106 hf
  match xs, hlen with
  | [y0, y1, y2], _ =>
    have t0 : DataW.trod enc Tryz.prog W base sp held m 3 [c0] = some y0 := by simpa [Value.cells, cellsInt] using hfs 0 _ rfl
    obtain ⟨n0, q0, _, w0⟩ := DataW.trod_int Tryz.underlying3 t0
    have t1 : DataW.trod enc Tryz.prog W base sp held m 3 [c1] = some y1 := by simpa [Value.cells, cellsInt] using hfs 1 _ rfl
    obtain ⟨n1, q1, _, w1⟩ := DataW.trod_int Tryz.underlying3 t1
    have t2 : DataW.trod enc Tryz.prog W base sp held m 24 [c2] = some y2 := by simpa [Value.cells, cellsInt, cellsU] using hfs 2 _ rfl
    obtain ⟨n2, q2, _, w2⟩ := DataW.trod_int Tryz.underlying24 t2
    have z0 := (List.cons.inj q0).1
    have z1 := (List.cons.inj q1).1
    have z2 := (List.cons.inj q2).1
    obtain ⟨a0, a1⟩ := wf_i64 w1
    obtain ⟨b0', b1⟩ := wf_u64 w2
    exact ⟨(n0, n1, n2), by rw [z0, z1, z2], ⟨a0, a1, b0', b1⟩⟩
/-
  What the rows hand to the walks: an entry.
-/
open Go.ChangeShapes Go.WideShapes Go.ChangeAt Go.RowKit

/-- An entry that is handed in. -/
structure EIn (w : World) (x : En) : Prop where
  a : Ts w x.aa x.la
  w : Ts w x.aw x.lw
  va : AWs x.la
  vw : AWs x.lw
  u : EU x
  mt : -9223372036854775808 ≤ x.met ∧ x.met < 9223372036854775808
  gt : -9223372036854775808 ≤ x.go ∧ x.go < 9223372036854775808
theorem acts_in {H : Type} {enc : TypeId × Value → H} {W : World} {c : Value} {fuel : Nat} {x : DataW H × List MemPlace}
    (h : DataW.trod enc Tryz.prog W 0 (fun _ => true) true fuel 23 [c] = some x) : ∃ a, ∃ l : List A, ∃ cap, c = .slice a l.length cap ∧ Ts W a l ∧ AWs l := by
  have hlt : ∀ p ∈ x.2, p.block < W.heap.size := DataW.trod_lt fuel _ _ _ h
  rcases Deep.open_slice Tryz.underlying23 h with ⟨hcs, _⟩ | ⟨ad, ln, cp, _, _, _, _, hcs, _⟩
  · have hc : c = .slice none 0 0 := (List.cons.inj hcs).1
    subst hc
    exact ⟨none, [], 0, rfl, .inl rfl, by simp⟩
  · have hc : c = .slice (some ad) ln cp := (List.cons.inj hcs).1
    subst hc
    obtain ⟨l, h1, h2, h3, _⟩ := acts_of hlt h
    exact ⟨some ad, l, cp, by rw [h1], h2, h3⟩
theorem tests_in {H : Type} {enc : TypeId × Value → H} {W : World} {c : Value} {fuel : Nat} {x : DataW H × List MemPlace}
    (h : DataW.trod enc Tryz.prog W 0 (fun _ => true) true fuel 22 [c] = some x) : ∃ a n cap, c = .slice a n cap := by
  rcases Deep.open_slice Tryz.underlying22 h with ⟨hcs, _⟩ | ⟨ad, ln, cp, _, _, _, _, hcs, _⟩
  · exact ⟨none, 0, 0, (List.cons.inj hcs).1⟩
  · exact ⟨some ad, ln, cp, (List.cons.inj hcs).1⟩
theorem array10 {α : Type} {cs : Array α} (h : cs.size = 10) : ∃ c0 c1 c2 c3 c4 c5 c6 c7 c8 c9, cs = #[c0, c1, c2, c3, c4, c5, c6, c7, c8, c9] := by
  obtain ⟨l⟩ := cs
  match l, h with
  | [c0, c1, c2, c3, c4, c5, c6, c7, c8, c9], _ => exact ⟨c0, c1, c2, c3, c4, c5, c6, c7, c8, c9, rfl⟩
theorem cellsActs : Tryz.prog.cellsOf 23 = 1 := by kernel_rfl
theorem cellsTests : Tryz.prog.cellsOf 22 = 1 := by kernel_rfl
theorem cellsBool : Tryz.prog.cellsOf 4 = 1 := by kernel_rfl
set_option maxRecDepth 100000 in
theorem open_en {H : Type} {enc : TypeId × Value → H} {W : World} {r : Reach} {b0 : Nat} {v : Value} {d : DataW H} {ps : List MemPlace} (_ : ∀ p ∈ ps, p.block < W.heap.size) (hv : Value.okWide Tryz.prog W r b0 26 v) (h : DataW.Trod enc Tryz.prog W 0 (fun _ => true) true 26 v d ps) :
    ∃ x : En, v = enV x ∧ EIn W x := by
  obtain ⟨cs, rfl, hsz⟩ := okWide_struct Tryz.underlying26 hv
  obtain ⟨c0, c1, c2, c3, c4, c5, c6, c7, c8, c9, rfl⟩ := array10 (hsz.trans (by kernel_rfl))
  obtain ⟨fuel, hf⟩ := h
  obtain ⟨xs, m, _, _, _, hlen, hfs⟩ := DataW.trod_struct Tryz.underlying26 hf
  match xs, hlen with
  | [y0, y1, y2, y3, y4, y5, y6, y7, y8, y9], _ =>
    have t0 : DataW.trod enc Tryz.prog W 0 (fun _ => true) true m 3 [c0] = some y0 := by simpa [Value.cells, cellsInt] using hfs 0 _ rfl
    have t1 : DataW.trod enc Tryz.prog W 0 (fun _ => true) true m 3 [c1] = some y1 := by simpa [Value.cells, cellsInt] using hfs 1 _ rfl
    have t2 : DataW.trod enc Tryz.prog W 0 (fun _ => true) true m 22 [c2] = some y2 := by simpa [Value.cells, cellsTests] using hfs 2 _ rfl
    have t3 : DataW.trod enc Tryz.prog W 0 (fun _ => true) true m 23 [c3] = some y3 := by simpa [Value.cells, cellsActs] using hfs 3 _ rfl
    have t4 : DataW.trod enc Tryz.prog W 0 (fun _ => true) true m 23 [c4] = some y4 := by simpa [Value.cells, cellsActs] using hfs 4 _ rfl
    have t5 : DataW.trod enc Tryz.prog W 0 (fun _ => true) true m 4 [c5] = some y5 := by simpa [Value.cells, cellsBool] using hfs 5 _ rfl
    have t6 : DataW.trod enc Tryz.prog W 0 (fun _ => true) true m 24 [c6] = some y6 := by simpa [Value.cells, cellsU] using hfs 6 _ rfl
    have t7 : DataW.trod enc Tryz.prog W 0 (fun _ => true) true m 24 [c7] = some y7 := by simpa [Value.cells, cellsU] using hfs 7 _ rfl
    have t8 : DataW.trod enc Tryz.prog W 0 (fun _ => true) true m 3 [c8] = some y8 := by simpa [Value.cells, cellsInt] using hfs 8 _ rfl
    have t9 : DataW.trod enc Tryz.prog W 0 (fun _ => true) true m 3 [c9] = some y9 := by simpa [Value.cells, cellsInt] using hfs 9 _ rfl
    obtain ⟨n0, q0, _, w0⟩ := DataW.trod_int Tryz.underlying3 t0
    obtain ⟨n1, q1, _, w1⟩ := DataW.trod_int Tryz.underlying3 t1
    obtain ⟨ta, tl, tc, z2⟩ := tests_in t2
    obtain ⟨aa, la, ca, z3, ha, va⟩ := acts_in t3
    obtain ⟨aw, lw, cw, z4, hw, vw⟩ := acts_in t4
    obtain ⟨b5, q5, _⟩ := DataW.trod_bool Tryz.underlying4 t5
    obtain ⟨n6, q6, _, w6⟩ := DataW.trod_int Tryz.underlying24 t6
    obtain ⟨n7, q7, _, w7⟩ := DataW.trod_int Tryz.underlying24 t7
    obtain ⟨n8, q8, _, w8⟩ := DataW.trod_int Tryz.underlying3 t8
    obtain ⟨n9, q9, _, w9⟩ := DataW.trod_int Tryz.underlying3 t9
    have z0 := (List.cons.inj q0).1
    have z1 := (List.cons.inj q1).1
    have z5 := (List.cons.inj q5).1
    have z6 := (List.cons.inj q6).1
    have z7 := (List.cons.inj q7).1
    have z8 := (List.cons.inj q8).1
    have z9 := (List.cons.inj q9).1
    obtain ⟨a0, a1⟩ := wf_u64 w6
    obtain ⟨b0', b1⟩ := wf_u64 w7
    exact ⟨⟨n0, n1, ta, tl, tc, aa, la, ca, aw, lw, cw, b5, n6, n7, n8, n9⟩, by rw [z0, z1, z2, z3, z4, z5, z6, z7, z8, z9], ⟨ha, hw, va, vw, ⟨a0, a1, b0', b1⟩, wf_i64 w8, wf_i64 w9⟩⟩
/-
  What the rows hand to the walks: a message.
-/
open Go.ChangeShapes Go.WideShapes Go.ChangeAt Go.RowKit
theorem cellsTest : Tryz.prog.cellsOf 131 = 3 := by kernel_rfl
theorem cellsBk : Tryz.prog.cellsOf 53 = 3 := by kernel_rfl
theorem cellsBks : Tryz.prog.cellsOf 27 = 1 := by kernel_rfl
theorem cellsEn : Tryz.prog.cellsOf 26 = 10 := by kernel_rfl
theorem cellsGr : Tryz.prog.cellsOf 29 = 3 := by kernel_rfl
theorem cellsMe : Tryz.prog.cellsOf 31 = 3 := by kernel_rfl
theorem cellsStr : Tryz.prog.cellsOf 9 = 1 := by kernel_rfl
set_option maxRecDepth 100000 in
theorem mtests_of {H : Type} {enc : TypeId × Value → H} {W : World} {a : Option Addr} {len cap fuel : Nat} {x : DataW H × List MemPlace} (hlt : ∀ p ∈ x.2, p.block < W.heap.size)
    (h : DataW.trod enc Tryz.prog W 0 (fun _ => true) true fuel 22 [.slice a len cap] = some x) : ∃ l : List Mt.T, l.length = len ∧ Mt.Ts W a l ∧ Mt.TWs l ∧ len ≤ cap := by
  rcases Deep.open_slice Tryz.underlying22 h with ⟨hcs, _⟩ | ⟨ad, ln, cp, m, n, D, Pl, hcs, hb, hl, hm, hmm, hx, hel⟩
  · simp at hcs
    exact ⟨[], hcs.2.1.symm, .inl rfl, by simp, by omega⟩
  · simp at hcs
    obtain ⟨rfl, rfl, rfl⟩ := hcs
    have hm' : m = cap := by simpa using hmm
    subst hm'
    have one : ∀ i, i < len → ∃ t : Mt.T, W.cell? (ad.add (i * 3)) = some (.int .i64 t.1) ∧ W.cell? (ad.add (i * 3 + 1)) = some (.int .u64 t.2.1) ∧ W.cell? (ad.add (i * 3 + 2)) = some (.int .u64 t.2.2) ∧ Mt.TW t := by
      intro i hi
      obtain ⟨cs', h1, h2⟩ := hel i (by omega)
      rw [cellsTest] at h1
      obtain ⟨_, hlen, hcell⟩ := World.cells?_some h1
      obtain ⟨xs, k, hk, hxy, _, hxl, hf⟩ := DataW.trod_struct Tryz.underlying131 h2
      match xs, hxl, cs', hlen with
      | [y0, y1, y2], _, [v0, v1, v2], _ =>
        have g0 := hf 0 _ rfl
        have g1 := hf 1 _ rfl
        have g2 := hf 2 _ rfl
        simp [cellsInt, cellsU] at g0 g1 g2
        obtain ⟨n0, e0, d0, r0⟩ := DataW.trod_int Tryz.underlying3 g0
        obtain ⟨n1, e1, d1, r1⟩ := DataW.trod_int Tryz.underlying24 g1
        obtain ⟨n2, e2, d2, r2⟩ := DataW.trod_int Tryz.underlying24 g2
        simp at e0 e1 e2
        have c0 := hcell 0 (by omega)
        have c1 := hcell 1 (by omega)
        have c2 := hcell 2 (by omega)
        rw [Deep.add_add] at c0 c1 c2
        refine ⟨(n0, n1, n2), by simpa [e0] using c0, by simpa [e1] using c1, by simpa [e2] using c2, ?_⟩
        obtain ⟨a0, a1⟩ := wf_u64 r1
        obtain ⟨b0, b1⟩ := wf_u64 r2
        exact ⟨a0, a1, b0, b1⟩
    obtain ⟨f, hf⟩ := Deep.choose_lt one
    by_cases h0 : len = 0
    · subst h0
      exact ⟨[], rfl, .inl rfl, by simp, hl⟩
    · obtain ⟨g, o, spot⟩ := ad
      have hsp : spot = none := by simpa [Addr.add] using World.cell?_spot (hf 0 (by omega)).1
      subst hsp
      have hg : g < W.heap.size := hlt (.cell g (o + 0)) (by rw [hx, cellsTest]; exact List.mem_append_left _ (by simp [MemPlace.row]; omega))
      refine ⟨(List.range len).map f, by simp, .inr ⟨g, o, rfl, hg, fun i hi => ?_⟩, ?_, hl⟩
      · have hi' : i < len := by simpa using hi
        obtain ⟨x0, x1, x2, _⟩ := hf i hi'
        rw [plain] at x0 x1 x2
        simp only [List.getElem_map, List.getElem_range]
        exact ⟨x0, by rw [← Nat.add_assoc] at x1; exact x1, by rw [← Nat.add_assoc] at x2; exact x2⟩
      · intro t ht
        rw [List.mem_map] at ht
        obtain ⟨i, hi, rfl⟩ := ht
        exact (hf i (List.mem_range.1 hi)).2.2.2
theorem mtests_in {H : Type} {enc : TypeId × Value → H} {W : World} {c : Value} {fuel : Nat} {x : DataW H × List MemPlace}
    (h : DataW.trod enc Tryz.prog W 0 (fun _ => true) true fuel 22 [c] = some x) : ∃ a, ∃ l : List Mt.T, ∃ cap, c = .slice a l.length cap ∧ Mt.Ts W a l ∧ Mt.TWs l ∧ l.length ≤ cap := by
  have hlt : ∀ p ∈ x.2, p.block < W.heap.size := DataW.trod_lt fuel _ _ _ h
  rcases Deep.open_slice Tryz.underlying22 h with ⟨hcs, _⟩ | ⟨ad, ln, cp, _, _, _, _, hcs, _⟩
  · have hc : c = .slice none 0 0 := (List.cons.inj hcs).1
    subst hc
    exact ⟨none, [], 0, rfl, .inl rfl, by simp, Nat.le_refl _⟩
  · have hc : c = .slice (some ad) ln cp := (List.cons.inj hcs).1
    subst hc
    obtain ⟨l, h1, h2, h3, h4⟩ := mtests_of hlt h
    exact ⟨some ad, l, cp, by rw [h1], h2, h3, by rw [h1]; exact h4⟩
def bkOf (t : Int × Int × Option Addr × List A × Nat) : Bk := ⟨t.1, t.2.1, t.2.2.1, t.2.2.2.1, t.2.2.2.2⟩
set_option maxRecDepth 100000 in
/-- The buckets of a slice that is read. -/
theorem bks_of {H : Type} {enc : TypeId × Value → H} {W : World} {a : Option Addr} {len cap fuel : Nat} {x : DataW H × List MemPlace} (hlt : ∀ p ∈ x.2, p.block < W.heap.size)
    (h : DataW.trod enc Tryz.prog W 0 (fun _ => true) true fuel 27 [.slice a len cap] = some x) : ∃ l : List Bk, l.length = len ∧ (l = [] ∨ ∃ g o, a = some ⟨g, o, none⟩ ∧ g < W.heap.size ∧ ∀ i (h : i < l.length), Cb W g (o + i * 3) l[i]) ∧ ∀ b ∈ l, Ts W b.a b.l ∧ AWs b.l := by
  rcases Deep.open_slice Tryz.underlying27 h with ⟨hcs, _⟩ | ⟨ad, ln, cp, m, n, D, Pl, hcs, hb, hl, hm, hmm, hx, hel⟩
  · simp at hcs
    exact ⟨[], hcs.2.1.symm, .inl rfl, by simp⟩
  · simp at hcs
    obtain ⟨rfl, rfl, rfl⟩ := hcs
    have hm' : m = cap := by simpa using hmm
    subst hm'
    have one : ∀ i, i < len → ∃ b : Bk, W.cell? (ad.add (i * 3)) = some (.int .i64 b.wa) ∧ W.cell? (ad.add (i * 3 + 1)) = some (.int .i64 b.we) ∧ W.cell? (ad.add (i * 3 + 2)) = some (.slice b.a b.l.length b.c) ∧ Ts W b.a b.l ∧ AWs b.l := by
      intro i hi
      obtain ⟨cs', h1, h2⟩ := hel i (by omega)
      rw [cellsBk] at h1
      obtain ⟨_, hlen, hcell⟩ := World.cells?_some h1
      obtain ⟨xs, k, hk, hxy, _, hxl, hf⟩ := DataW.trod_struct Tryz.underlying53 h2
      match xs, hxl, cs', hlen with
      | [y0, y1, y2], _, [v0, v1, v2], _ =>
        have g0 := hf 0 _ rfl
        have g1 := hf 1 _ rfl
        have g2 := hf 2 _ rfl
        simp [cellsInt, cellsActs] at g0 g1 g2
        obtain ⟨n0, e0, d0, r0⟩ := DataW.trod_int Tryz.underlying3 g0
        obtain ⟨n1, e1, d1, r1⟩ := DataW.trod_int Tryz.underlying3 g1
        obtain ⟨aa, la, ca, z2, ha, va⟩ := acts_in g2
        simp at e0 e1
        have c0 := hcell 0 (by omega)
        have c1 := hcell 1 (by omega)
        have c2 := hcell 2 (by omega)
        rw [Deep.add_add] at c0 c1 c2
        exact ⟨⟨n0, n1, aa, la, ca⟩, by simpa [e0] using c0, by simpa [e1] using c1, by simpa [z2] using c2, ha, va⟩
    have one' : ∀ i, i < len → ∃ t : Int × Int × Option Addr × List A × Nat, W.cell? (ad.add (i * 3)) = some (.int .i64 (bkOf t).wa) ∧ W.cell? (ad.add (i * 3 + 1)) = some (.int .i64 (bkOf t).we) ∧ W.cell? (ad.add (i * 3 + 2)) = some (.slice (bkOf t).a (bkOf t).l.length (bkOf t).c) ∧ Ts W (bkOf t).a (bkOf t).l ∧ AWs (bkOf t).l := fun i hi => by
      obtain ⟨b, hb⟩ := one i hi
      exact ⟨(b.wa, b.we, b.a, b.l, b.c), hb⟩
    obtain ⟨f0, hf⟩ := Deep.choose_lt one'
    by_cases h0 : len = 0
    · subst h0
      exact ⟨[], rfl, .inl rfl, by simp⟩
    · obtain ⟨g, o, spot⟩ := ad
      have hsp : spot = none := by simpa [Addr.add] using World.cell?_spot (hf 0 (by omega)).1
      subst hsp
      have hg : g < W.heap.size := hlt (.cell g (o + 0)) (by rw [hx, cellsBk]; exact List.mem_append_left _ (by simp [MemPlace.row]; omega))
      refine ⟨(List.range len).map fun i => bkOf (f0 i), by simp, .inr ⟨g, o, rfl, hg, fun i hi => ?_⟩, ?_⟩
      · have hi' : i < len := by simpa using hi
        obtain ⟨x0, x1, x2, _⟩ := hf i hi'
        rw [plain] at x0 x1 x2
        simp only [List.getElem_map, List.getElem_range]
        exact ⟨x0, by rw [← Nat.add_assoc] at x1; exact x1, by rw [← Nat.add_assoc] at x2; exact x2⟩
      · intro t ht
        rw [List.mem_map] at ht
        obtain ⟨i, hi, rfl⟩ := ht
        exact (hf i (List.mem_range.1 hi)).2.2.2
theorem bks_in {H : Type} {enc : TypeId × Value → H} {W : World} {c : Value} {fuel : Nat} {x : DataW H × List MemPlace}
    (h : DataW.trod enc Tryz.prog W 0 (fun _ => true) true fuel 27 [c] = some x) : ∃ a, ∃ l : List Bk, ∃ cap, c = .slice a l.length cap ∧ (l = [] ∨ ∃ g o, a = some ⟨g, o, none⟩ ∧ g < W.heap.size ∧ ∀ i (h : i < l.length), Cb W g (o + i * 3) l[i]) ∧ ∀ b ∈ l, Ts W b.a b.l ∧ AWs b.l := by
  have hlt : ∀ p ∈ x.2, p.block < W.heap.size := DataW.trod_lt fuel _ _ _ h
  rcases Deep.open_slice Tryz.underlying27 h with ⟨hcs, _⟩ | ⟨ad, ln, cp, _, _, _, _, hcs, _⟩
  · have hc : c = .slice none 0 0 := (List.cons.inj hcs).1
    subst hc
    exact ⟨none, [], 0, rfl, .inl rfl, by simp⟩
  · have hc : c = .slice (some ad) ln cp := (List.cons.inj hcs).1
    subst hc
    obtain ⟨l, h1, h2, h3⟩ := bks_of hlt h
    exact ⟨some ad, l, cp, by rw [h1], h2, h3⟩
set_option maxRecDepth 100000 in
theorem en_in {H : Type} {enc : TypeId × Value → H} {W : World} {c0 c1 c2 c3 c4 c5 c6 c7 c8 c9 : Value} {fuel : Nat} {x : DataW H × List MemPlace} (h : DataW.trod enc Tryz.prog W 0 (fun _ => true) true fuel 26 [c0, c1, c2, c3, c4, c5, c6, c7, c8, c9] = some x) :
    ∃ y : En, ∃ ts : List Mt.T, [c0, c1, c2, c3, c4, c5, c6, c7, c8, c9] = (enC y).toList ∧ Ts W y.aa y.la ∧ Ts W y.aw y.lw ∧ Mt.Ts W y.ta ts ∧ y.tl = ts.length ∧ ts.length ≤ y.tc ∧ EU y ∧ Mt.TWs ts ∧ AWs y.la ∧ AWs y.lw := by
  obtain ⟨xs, m, _, _, _, hlen, hfs⟩ := DataW.trod_struct Tryz.underlying26 h
  match xs, hlen with
  | [y0, y1, y2, y3, y4, y5, y6, y7, y8, y9], _ =>
    have t0 : DataW.trod enc Tryz.prog W 0 (fun _ => true) true m 3 [c0] = some y0 := by simpa [cellsInt, cellsTests, cellsActs, cellsBool, cellsU] using hfs 0 _ rfl
    have t1 : DataW.trod enc Tryz.prog W 0 (fun _ => true) true m 3 [c1] = some y1 := by simpa [cellsInt, cellsTests, cellsActs, cellsBool, cellsU] using hfs 1 _ rfl
    have t2 : DataW.trod enc Tryz.prog W 0 (fun _ => true) true m 22 [c2] = some y2 := by simpa [cellsInt, cellsTests, cellsActs, cellsBool, cellsU] using hfs 2 _ rfl
    have t3 : DataW.trod enc Tryz.prog W 0 (fun _ => true) true m 23 [c3] = some y3 := by simpa [cellsInt, cellsTests, cellsActs, cellsBool, cellsU] using hfs 3 _ rfl
    have t4 : DataW.trod enc Tryz.prog W 0 (fun _ => true) true m 23 [c4] = some y4 := by simpa [cellsInt, cellsTests, cellsActs, cellsBool, cellsU] using hfs 4 _ rfl
    have t5 : DataW.trod enc Tryz.prog W 0 (fun _ => true) true m 4 [c5] = some y5 := by simpa [cellsInt, cellsTests, cellsActs, cellsBool, cellsU] using hfs 5 _ rfl
    have t6 : DataW.trod enc Tryz.prog W 0 (fun _ => true) true m 24 [c6] = some y6 := by simpa [cellsInt, cellsTests, cellsActs, cellsBool, cellsU] using hfs 6 _ rfl
    have t7 : DataW.trod enc Tryz.prog W 0 (fun _ => true) true m 24 [c7] = some y7 := by simpa [cellsInt, cellsTests, cellsActs, cellsBool, cellsU] using hfs 7 _ rfl
    have t8 : DataW.trod enc Tryz.prog W 0 (fun _ => true) true m 3 [c8] = some y8 := by simpa [cellsInt, cellsTests, cellsActs, cellsBool, cellsU] using hfs 8 _ rfl
    have t9 : DataW.trod enc Tryz.prog W 0 (fun _ => true) true m 3 [c9] = some y9 := by simpa [cellsInt, cellsTests, cellsActs, cellsBool, cellsU] using hfs 9 _ rfl
    obtain ⟨n0, q0, _, w0⟩ := DataW.trod_int Tryz.underlying3 t0
    obtain ⟨n1, q1, _, w1⟩ := DataW.trod_int Tryz.underlying3 t1
    obtain ⟨ta, ts, tc, z2, ht, tw, hc⟩ := mtests_in t2
    obtain ⟨aa, la, ca, z3, ha, va⟩ := acts_in t3
    obtain ⟨aw, lw, cw, z4, hw, vw⟩ := acts_in t4
    obtain ⟨b5, q5, _⟩ := DataW.trod_bool Tryz.underlying4 t5
    obtain ⟨n6, q6, _, w6⟩ := DataW.trod_int Tryz.underlying24 t6
    obtain ⟨n7, q7, _, w7⟩ := DataW.trod_int Tryz.underlying24 t7
    obtain ⟨n8, q8, _, w8⟩ := DataW.trod_int Tryz.underlying3 t8
    obtain ⟨n9, q9, _, w9⟩ := DataW.trod_int Tryz.underlying3 t9
    have z0 := (List.cons.inj q0).1
    have z1 := (List.cons.inj q1).1
    have z5 := (List.cons.inj q5).1
    have z6 := (List.cons.inj q6).1
    have z7 := (List.cons.inj q7).1
    have z8 := (List.cons.inj q8).1
    have z9 := (List.cons.inj q9).1
    obtain ⟨a0, a1⟩ := wf_u64 w6
    obtain ⟨b0', b1⟩ := wf_u64 w7
    exact ⟨⟨n0, n1, ta, ts.length, tc, aa, la, ca, aw, lw, cw, b5, n6, n7, n8, n9⟩, ts, by rw [z0, z1, z2, z3, z4, z5, z6, z7, z8, z9], ha, hw, ht, rfl, hc, ⟨a0, a1, b0', b1⟩, tw, va, vw⟩
theorem array26 {α : Type} {cs : Array α} (h : cs.size = 26) : ∃ c0 c1 c2 c3 c4 c5 c6 c7 c8 c9 c10 c11 c12 c13 c14 c15 c16 c17 c18 c19 c20 c21 c22 c23 c24 c25, cs = #[c0, c1, c2, c3, c4, c5, c6, c7, c8, c9, c10, c11, c12, c13, c14, c15, c16, c17, c18, c19, c20, c21, c22, c23, c24, c25] := by
  obtain ⟨l⟩ := cs
  match l, h with
  | [c0, c1, c2, c3, c4, c5, c6, c7, c8, c9, c10, c11, c12, c13, c14, c15, c16, c17, c18, c19, c20, c21, c22, c23, c24, c25], _ => exact ⟨c0, c1, c2, c3, c4, c5, c6, c7, c8, c9, c10, c11, c12, c13, c14, c15, c16, c17, c18, c19, c20, c21, c22, c23, c24, c25, rfl⟩
set_option maxRecDepth 100000 in
set_option maxHeartbeats 2000000 in
theorem open_ms {H : Type} {enc : TypeId × Value → H} {W : World} {r : Reach} {b0 : Nat} {v : Value} {d : DataW H} {ps : List MemPlace} (hv : Value.okWide Tryz.prog W r b0 33 v) (h : DataW.Trod enc Tryz.prog W 0 (fun _ => true) true 33 v d ps) :
    ∃ m : Ms, v = msV m ∧ MI W m := by
  obtain ⟨cs, rfl, hsz⟩ := okWide_struct Tryz.underlying33 hv
  obtain ⟨c0, c1, c2, c3, c4, c5, c6, c7, c8, c9, c10, c11, c12, c13, c14, c15, c16, c17, c18, c19, c20, c21, c22, c23, c24, c25, rfl⟩ := array26 (hsz.trans (by kernel_rfl))
  obtain ⟨fuel, hf⟩ := h
  obtain ⟨xs, m, _, _, _, hlen, hfs⟩ := DataW.trod_struct Tryz.underlying33 hf
  match xs, hlen with
  | [y0, y1, y2, y3, y4, y5, y6, y7, y8, y9, y10, y11, y12], _ =>
    have t0 : DataW.trod enc Tryz.prog W 0 (fun _ => true) true m 3 [c0] = some y0 := by simpa [Value.cells, cellsInt, cellsBool, cellsEn, cellsGr, cellsMe, cellsActs, cellsStr] using hfs 0 _ rfl
    have t1 : DataW.trod enc Tryz.prog W 0 (fun _ => true) true m 3 [c1] = some y1 := by simpa [Value.cells, cellsInt, cellsBool, cellsEn, cellsGr, cellsMe, cellsActs, cellsStr] using hfs 1 _ rfl
    have t2 : DataW.trod enc Tryz.prog W 0 (fun _ => true) true m 3 [c2] = some y2 := by simpa [Value.cells, cellsInt, cellsBool, cellsEn, cellsGr, cellsMe, cellsActs, cellsStr] using hfs 2 _ rfl
    have t3 : DataW.trod enc Tryz.prog W 0 (fun _ => true) true m 4 [c3] = some y3 := by simpa [Value.cells, cellsInt, cellsBool, cellsEn, cellsGr, cellsMe, cellsActs, cellsStr] using hfs 3 _ rfl
    have t4 : DataW.trod enc Tryz.prog W 0 (fun _ => true) true m 26 [c4, c5, c6, c7, c8, c9, c10, c11, c12, c13] = some y4 := by simpa [Value.cells, cellsInt, cellsBool, cellsEn, cellsGr, cellsMe, cellsActs, cellsStr] using hfs 4 _ rfl
    have t5 : DataW.trod enc Tryz.prog W 0 (fun _ => true) true m 29 [c14, c15, c16] = some y5 := by simpa [Value.cells, cellsInt, cellsBool, cellsEn, cellsGr, cellsMe, cellsActs, cellsStr] using hfs 5 _ rfl
    have t6 : DataW.trod enc Tryz.prog W 0 (fun _ => true) true m 31 [c17, c18, c19] = some y6 := by simpa [Value.cells, cellsInt, cellsBool, cellsEn, cellsGr, cellsMe, cellsActs, cellsStr] using hfs 6 _ rfl
    have t7 : DataW.trod enc Tryz.prog W 0 (fun _ => true) true m 3 [c20] = some y7 := by simpa [Value.cells, cellsInt, cellsBool, cellsEn, cellsGr, cellsMe, cellsActs, cellsStr] using hfs 7 _ rfl
    have t8 : DataW.trod enc Tryz.prog W 0 (fun _ => true) true m 3 [c21] = some y8 := by simpa [Value.cells, cellsInt, cellsBool, cellsEn, cellsGr, cellsMe, cellsActs, cellsStr] using hfs 8 _ rfl
    have t9 : DataW.trod enc Tryz.prog W 0 (fun _ => true) true m 3 [c22] = some y9 := by simpa [Value.cells, cellsInt, cellsBool, cellsEn, cellsGr, cellsMe, cellsActs, cellsStr] using hfs 9 _ rfl
    have t10 : DataW.trod enc Tryz.prog W 0 (fun _ => true) true m 4 [c23] = some y10 := by simpa [Value.cells, cellsInt, cellsBool, cellsEn, cellsGr, cellsMe, cellsActs, cellsStr] using hfs 10 _ rfl
    have t11 : DataW.trod enc Tryz.prog W 0 (fun _ => true) true m 23 [c24] = some y11 := by simpa [Value.cells, cellsInt, cellsBool, cellsEn, cellsGr, cellsMe, cellsActs, cellsStr] using hfs 11 _ rfl
    have t12 : DataW.trod enc Tryz.prog W 0 (fun _ => true) true m 9 [c25] = some y12 := by simpa [Value.cells, cellsInt, cellsBool, cellsEn, cellsGr, cellsMe, cellsActs, cellsStr] using hfs 12 _ rfl
    clear hfs hf
    obtain ⟨n0, q0, _, w0⟩ := DataW.trod_int Tryz.underlying3 t0
    have z0 := (List.cons.inj q0).1
    obtain ⟨n1, q1, _, w1⟩ := DataW.trod_int Tryz.underlying3 t1
    have z1 := (List.cons.inj q1).1
    obtain ⟨n2, q2, _, w2⟩ := DataW.trod_int Tryz.underlying3 t2
    have z2 := (List.cons.inj q2).1
    obtain ⟨n7, q7, _, w7⟩ := DataW.trod_int Tryz.underlying3 t7
    have z7 := (List.cons.inj q7).1
    obtain ⟨n8, q8, _, w8⟩ := DataW.trod_int Tryz.underlying3 t8
    have z8 := (List.cons.inj q8).1
    obtain ⟨n9, q9, _, w9⟩ := DataW.trod_int Tryz.underlying3 t9
    have z9 := (List.cons.inj q9).1
    obtain ⟨n3, q3, _⟩ := DataW.trod_bool Tryz.underlying4 t3
    have z3 := (List.cons.inj q3).1
    obtain ⟨n10, q10, _⟩ := DataW.trod_bool Tryz.underlying4 t10
    have z10 := (List.cons.inj q10).1
    obtain ⟨en, ts, ez, ha, hw, ht, htl, htc, hu, tw, va, vw⟩ := en_in t4
    obtain ⟨aa, la, ca, z11, hla, vla⟩ := acts_in t11
    obtain ⟨dat, q12, _⟩ := DataW.trod_string Tryz.underlying9 t12
    have z12 := (List.cons.inj q12).1
    obtain ⟨xg, mg, _, _, _, hleng, hfg⟩ := DataW.trod_struct Tryz.underlying29 t5
    obtain ⟨xm, mm, _, _, _, hlenm, hfm⟩ := DataW.trod_struct Tryz.underlying31 t6
    match xg, hleng, xm, hlenm with
    | [u0, u1, u2], _, [v0, v1, v2], _ =>
      have s0 : DataW.trod enc Tryz.prog W 0 (fun _ => true) true mg 3 [c14] = some u0 := by simpa [cellsInt, cellsBks] using hfg 0 _ rfl
      have s1 : DataW.trod enc Tryz.prog W 0 (fun _ => true) true mg 3 [c15] = some u1 := by simpa [cellsInt, cellsBks] using hfg 1 _ rfl
      have s2 : DataW.trod enc Tryz.prog W 0 (fun _ => true) true mg 27 [c16] = some u2 := by simpa [cellsInt, cellsBks] using hfg 2 _ rfl
      have p0 : DataW.trod enc Tryz.prog W 0 (fun _ => true) true mm 3 [c17] = some v0 := by simpa [cellsInt] using hfm 0 _ rfl
      have p1 : DataW.trod enc Tryz.prog W 0 (fun _ => true) true mm 3 [c18] = some v1 := by simpa [cellsInt] using hfm 1 _ rfl
      have p2 : DataW.trod enc Tryz.prog W 0 (fun _ => true) true mm 3 [c19] = some v2 := by simpa [cellsInt] using hfm 2 _ rfl
      obtain ⟨g0, gq0, _, _⟩ := DataW.trod_int Tryz.underlying3 s0
      obtain ⟨g1, gq1, _, _⟩ := DataW.trod_int Tryz.underlying3 s1
      obtain ⟨ga, gb, gc, gz2, hgc, hgb⟩ := bks_in s2
      obtain ⟨m0, mq0, _, _⟩ := DataW.trod_int Tryz.underlying3 p0
      obtain ⟨m1, mq1, _, _⟩ := DataW.trod_int Tryz.underlying3 p1
      obtain ⟨m2, mq2, _, _⟩ := DataW.trod_int Tryz.underlying3 p2
      have gz0 := (List.cons.inj gq0).1
      have gz1 := (List.cons.inj gq1).1
      have mz0 := (List.cons.inj mq0).1
      have mz1 := (List.cons.inj mq1).1
      have mz2 := (List.cons.inj mq2).1
      simp only [List.cons.injEq, and_true] at ez
      obtain ⟨e4, e5, e6, e7, e8, e9, e10, e11, e12, e13⟩ := ez
      exact ⟨⟨n0, n1, n2, n3, en, ts, g0, g1, ga, gb, gc, m0, m1, m2, n7, n8, n9, n10, aa, la, ca, dat⟩, by rw [z0, z1, z2, z3, e4, e5, e6, e7, e8, e9, e10, e11, e12, e13, gz0, gz1, gz2, mz0, mz1, mz2, z7, z8, z9, z10, z11, z12],
        ⟨ha, hw, ht, htl, htc, hgc, fun b hb => (hgb b hb).1, hla, ⟨hu, tw, va, vw, vla, fun b hb => (hgb b hb).2⟩⟩⟩
end Go.Proofs.YtlcbfdiohcbpbaaGreatDoor

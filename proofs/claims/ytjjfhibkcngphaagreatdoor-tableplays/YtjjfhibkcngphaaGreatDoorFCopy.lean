/-
  What copyOf and changed answer, as contracts.
-/
import Derived.Test.YtjjfhibkcngphaaGreatDoorFMem
namespace Go.Proofs.YtjjfhibkcngphaaGreatDoor
open Go.ChangeShapes Go.WideShapes Go.ChangeAt Go.RowKit
set_option linter.unusedVariables false
set_option linter.unusedSimpArgs false

theorem range_set {w : World} {b : Nat} {cs : List Value} (h : w.rangeAt b 0 cs) (k : Nat) (v : Value) (hk : k < cs.length) : (w.setCell ⟨b, k, none⟩ v).rangeAt b 0 (cs.set k v) := fun j u hu => by
  rw [Nat.zero_add]
  by_cases e : j = k
  · subst e
    rw [List.getElem?_set_self hk] at hu
    cases hu
    have := h j cs[j] (List.getElem?_eq_getElem hk)
    rw [Nat.zero_add] at this
    exact World.cell?_setCell_same _ _ _ this
  · rw [List.getElem?_set_ne (Ne.symm e)] at hu
    rw [World.cell?_setCell_other _ _ _ _ (by simp)]
    have := h j u hu
    rwa [Nat.zero_add] at this
theorem Be.tests {w : World} {b : Nat} {x : Fe} (h : Be w b 0 x) (a : Option Addr) (c : Nat) : Be (w.setCell ⟨b, 2, none⟩ (.slice a x.p.lt.length c)) b 0 { x with ta := a, tc := c } := range_set h 2 _ (by simp)
theorem Be.apply {w : World} {b : Nat} {x : Fe} (h : Be w b 0 x) (a : Option Addr) (c : Nat) : Be (w.setCell ⟨b, 3, none⟩ (.slice a x.p.la.length c)) b 0 { x with aa := a, ca := c } := range_set h 3 _ (by simp)
theorem Be.write {w : World} {b : Nat} {x : Fe} (h : Be w b 0 x) (a : Option Addr) (c : Nat) : Be (w.setCell ⟨b, 4, none⟩ (.slice a x.p.lw.length c)) b 0 { x with aw := a, cw := c } := range_set h 4 _ (by simp)
theorem there_set {w : World} {b o n : Nat} (h : w.there b o n) (q : Addr) (v : Value) (hs : q.spot = none) : (w.setCell q v).there b o n := by
  obtain ⟨qb, qo, qs⟩ := q
  cases hs
  exact World.there_setCells h qb qo [v]
theorem there_frozen {w : World} {b n : Nat} (h : w.there b 0 n) (j : Nat) (hj : j < n) : w.frozen? ⟨b, j, none⟩ = false := by
  have := (h j hj).2
  rwa [Nat.zero_add] at this
abbrev zeroE : Array Value := #[.int .i64 0, .int .i64 0, .slice none 0 0, .slice none 0 0, .slice none 0 0, .bool false, .int .u64 0, .int .u64 0, .int .i64 0, .int .i64 0]
set_option maxHeartbeats 4000000 in
theorem copyOf_any (x : Fe) (w : World) (h : FW w x) :
    Calls Tryz.prog 27 #[feV x] w fun e w' => ∃ y : Fe, e = .returned (feV y) ∧ y.p = x.p ∧ FW w' y ∧ (∀ b, InF y b → w.heap.size ≤ b) ∧ Below w.heap.size w w' := by
  have HT : Hid (∀ w1, Below w.heap.size w w1 → Calls Tryz.prog 46 #[.slice x.ta x.p.lt.length x.tc] w1 fun e w' => ∃ a' c', e = .returned (.slice a' x.p.lt.length c') ∧ x.p.lt.length ≤ c' ∧ Mt.TsF w1.heap.size w' a' x.p.lt ∧ Below w1.heap.size w1 w') := (show ∀ w1, _ from fun w1 g => Mt.cloneT x.ta x.p.lt x.tc w1 (h.t.below g) (by have := h.nt; omega))
  have HA : Hid (∀ w1, Below w.heap.size w w1 → Calls Tryz.prog 47 #[.slice x.aa x.p.la.length x.ca] w1 fun e w' => ∃ a' c', e = .returned (.slice a' x.p.la.length c') ∧ x.p.la.length ≤ c' ∧ TsF w1.heap.size w' a' x.p.la ∧ Below w1.heap.size w1 w') := (show ∀ w1, _ from fun w1 g => cloneA x.aa x.p.la x.ca w1 (h.a.below g) h.na)
  have HW : Hid (∀ w1, Below w.heap.size w w1 → Calls Tryz.prog 47 #[.slice x.aw x.p.lw.length x.cw] w1 fun e w' => ∃ a' c', e = .returned (.slice a' x.p.lw.length c') ∧ x.p.lw.length ≤ c' ∧ TsF w1.heap.size w' a' x.p.lw ∧ Below w1.heap.size w1 w') := (show ∀ w1, _ from fun w1 g => cloneA x.aw x.p.lw x.cw w1 (h.w.below g) h.nw)
  have HN : Hid (FW w x) := h
  clear h
  obtain ⟨W2, hW2⟩ : ∃ W2, (fx w x).alloc (.cells zeroE 40) = W2 := ⟨_, rfl⟩
  have z2 : W2.heap.size = w.heap.size + 2 := by rw [← hW2]; simp
  have HG2 : Hid (Below w.heap.size w W2) := (show Below _ _ _ by rw [← hW2]; go_grown)
  have HB2 : Hid (Be W2 w.heap.size 0 x) := (show Be _ _ _ _ by rw [← hW2]; exact (Be.new w x).below (B := w.heap.size + 1) (by omega) (by go_grown))
  have HX2 : Hid (W2.there w.heap.size 0 10) := (show World.there _ _ _ _ by rw [← hW2]; exact there_below (B := w.heap.size + 1) (there_new w (feC x) 40) (by omega) (by go_grown))
  have HY2 : Hid (W2.there (w.heap.size + 1) 0 10) := (show World.there _ _ _ _ by rw [← hW2]; have := there_new (fx w x) zeroE 40; simpa using this)
  obtain ⟨_, _, c2, c3, c4, _⟩ := HB2.out.cs
  go_enter Tryz.func27, Tryz.ntmps27
  go_wp2_with fail
  refine (HT.out W2 HG2.out).mono ?_
  rintro e w3 ⟨a1, n1, rfl, l1, T1, g3⟩
  have HT1 : Hid (Mt.TsF W2.heap.size w3 a1 x.p.lt) := T1
  have HG3 : Hid (Below W2.heap.size W2 w3) := g3
  obtain ⟨W4, h4⟩ : ∃ W4, w3.setCell ⟨w.heap.size, 2, none⟩ (.slice a1 x.p.lt.length n1) = W4 := ⟨_, rfl⟩
  have HB4 : Hid (Be W4 w.heap.size 0 { x with ta := a1, tc := n1 }) := (show Be _ _ _ _ by rw [← h4]; exact (HB2.out.below (by omega) g3).tests a1 n1)
  have HX4 : Hid (W4.there w.heap.size 0 10) := (show World.there _ _ _ _ by rw [← h4]; exact there_set (there_below HX2.out (by omega) g3) _ _ rfl)
  have HY4 : Hid (W4.there (w.heap.size + 1) 0 10) := (show World.there _ _ _ _ by rw [← h4]; exact there_set (there_below HY2.out (by omega) g3) _ _ rfl)
  have O4 : Only w.heap.size w3 W4 := by rw [← h4]; exact (Only.refl _ _).setCell _ _
  have f2 := there_frozen (there_below HX2.out (by omega) g3) 2 (by omega)
  have z3 := g3.size
  have c2' := (HB2.out.below (by omega) g3).cs.2.2.1
  clear T1 g3 c2 c3 c4
  have HG4 : Hid (Below w.heap.size w W4) := O4.below (Nat.le_refl _) (btr HG2.out HG3.out (by omega))
  obtain ⟨_, _, _, c3, c4, _⟩ := HB4.out.cs
  go_wp2_with fail
  refine (HA.out W4 HG4.out).mono ?_
  rintro e w5 ⟨a2, n2, rfl, l2, T2, g5⟩
  have HT2 : Hid (TsF W4.heap.size w5 a2 x.p.la) := T2
  have HG5 : Hid (Below W4.heap.size W4 w5) := g5
  have z4 : W4.heap.size = w3.heap.size := O4.size
  obtain ⟨W6, h6⟩ : ∃ W6, w5.setCell ⟨w.heap.size, 3, none⟩ (.slice a2 x.p.la.length n2) = W6 := ⟨_, rfl⟩
  have HB6 : Hid (Be W6 w.heap.size 0 { x with ta := a1, tc := n1, aa := a2, ca := n2 }) := (show Be _ _ _ _ by rw [← h6]; exact (HB4.out.below (by omega) g5).apply a2 n2)
  have HX6 : Hid (W6.there w.heap.size 0 10) := (show World.there _ _ _ _ by rw [← h6]; exact there_set (there_below HX4.out (by omega) g5) _ _ rfl)
  have HY6 : Hid (W6.there (w.heap.size + 1) 0 10) := (show World.there _ _ _ _ by rw [← h6]; exact there_set (there_below HY4.out (by omega) g5) _ _ rfl)
  have O6 : Only w.heap.size w5 W6 := by rw [← h6]; exact (Only.refl _ _).setCell _ _
  have f3 := there_frozen (there_below HX4.out (by omega) g5) 3 (by omega)
  have z5 := g5.size
  have c3' := (HB4.out.below (by omega) g5).cs.2.2.2.1
  clear T2 g5 c3 c4 f2 c2' h4
  have HG6 : Hid (Below w.heap.size w W6) := O6.below (Nat.le_refl _) (btr HG4.out HG5.out (by omega))
  obtain ⟨_, _, _, _, c4, _⟩ := HB6.out.cs
  go_wp2_with fail
  refine (HW.out W6 HG6.out).mono ?_
  rintro e w7 ⟨a3, n3, rfl, l3, T3, g7⟩
  have HT3 : Hid (TsF W6.heap.size w7 a3 x.p.lw) := T3
  have HG7 : Hid (Below W6.heap.size W6 w7) := g7
  have z6 : W6.heap.size = w5.heap.size := O6.size
  obtain ⟨W8, h8⟩ : ∃ W8, w7.setCell ⟨w.heap.size, 4, none⟩ (.slice a3 x.p.lw.length n3) = W8 := ⟨_, rfl⟩
  have HB8 : Hid (Be W8 w.heap.size 0 { x with ta := a1, tc := n1, aa := a2, ca := n2, aw := a3, cw := n3 }) := (show Be _ _ _ _ by rw [← h8]; exact (HB6.out.below (by omega) g7).write a3 n3)
  have HY8 : Hid (W8.there (w.heap.size + 1) 0 10) := (show World.there _ _ _ _ by rw [← h8]; exact there_set (there_below HY6.out (by omega) g7) _ _ rfl)
  have O8 : Only w.heap.size w7 W8 := by rw [← h8]; exact (Only.refl _ _).setCell _ _
  have f4 := there_frozen (there_below HX6.out (by omega) g7) 4 (by omega)
  have z7 := g7.size
  have c4' := (HB6.out.below (by omega) g7).cs.2.2.2.2.1
  clear T3 g7 c4 f3 c3' h6
  have HG8 : Hid (Below w.heap.size w W8) := O8.below (Nat.le_refl _) (btr HG6.out HG7.out (by omega))
  have z8 : W8.heap.size = w7.heap.size := O8.size
  have HO : Hid (Only w.heap.size w3 W4 ∧ Only w.heap.size w5 W6 ∧ Only w.heap.size w7 W8) := (show _ ∧ _ from ⟨O4, O6, O8⟩)
  clear O4 O6 O8
  go_wp2_with (first
    | (refine load_E rfl (.tmp 1) rfl w.heap.size 0 { x with ta := a1, tc := n1, aa := a2, ca := n2, aw := a3, cw := n3 } rfl HB8.out ?_)
    | (refine store_E rfl (.tmp 2) (.tmp 15) rfl (w.heap.size + 1) 0 { x with ta := a1, tc := n1, aa := a2, ca := n2, aw := a3, cw := n3 } rfl rfl HY8.out ?_; intro V hV bV tV oV; clear hV))
  refine bodyPost_ret (resF (b := w.heap.size + 1) (x := { x with ta := a1, tc := n1, aa := a2, ca := n2, aw := a3, cw := n3 }) rfl rfl bV) rfl ?_
  obtain ⟨O4, O6, O8⟩ := HO.out
  have zV := oV.size
  -- blocks from W2's size on stay
  have k4 : ∀ b, W2.heap.size ≤ b → b < w3.heap.size → W4.heap[b]? = w3.heap[b]? := fun b h1 h2 => O4.block b (by omega)
  have k5 : ∀ b, b < W4.heap.size → w5.heap[b]? = W4.heap[b]? := fun b h => HG5.out.block b h
  have k6 : ∀ b, W2.heap.size ≤ b → W6.heap[b]? = w5.heap[b]? := fun b h1 => O6.block b (by omega)
  have k7 : ∀ b, b < W6.heap.size → w7.heap[b]? = W6.heap[b]? := fun b h => HG7.out.block b h
  have k8 : ∀ b, W2.heap.size ≤ b → W8.heap[b]? = w7.heap[b]? := fun b h1 => O8.block b (by omega)
  have k9 : ∀ b, W2.heap.size ≤ b → V.heap[b]? = W8.heap[b]? := fun b h1 => oV.block b (by omega)
  have t1 : Mt.TsF W2.heap.size V a1 x.p.lt := HT1.out.keep (by omega) (fun b h1 h2 => by
    rw [k9 b h1, k8 b h1, k7 b (by omega), k6 b h1, k5 b (by omega), k4 b h1 h2])
  have t2 : TsF W4.heap.size V a2 x.p.la := HT2.out.keep (by omega) (fun b h1 h2 => by
    rw [k9 b (by omega), k8 b (by omega), k7 b (by omega), k6 b (by omega)])
  have t3 : TsF W6.heap.size V a3 x.p.lw := HT3.out.keep (by omega) (fun b h1 h2 => by
    rw [k9 b (by omega), k8 b (by omega)])
  refine ⟨_, rfl, rfl, ⟨t1.ts, t2.ts, t3.ts, HN.out.nt, HN.out.na, HN.out.nw, l1⟩, ?_, oV.below (by omega) HG8.out⟩
  intro b hb
  rcases hb with hb | hb | hb
  · have := t1.new hb; omega
  · have := t2.new hb; omega
  · have := t3.new hb; omega
set_option maxHeartbeats 4000000 in
theorem changed_any (y x : Fe) (w : World) (hy : FW w y) (hx : FW w x) :
    Calls Tryz.prog 43 #[feV y, feV x] w fun e w' => ∃ z : Fe, e = .returned (feV z) ∧ z.p = { x.p with pri := y.p.pri, lt := y.p.lt } ∧ FW w' z ∧ (∀ b, InF z b → w.heap.size ≤ b) ∧ Below w.heap.size w w' := by
  obtain ⟨q, hq⟩ : ∃ q : Fe, q = ⟨{ x.p with pri := y.p.pri, lt := y.p.lt }, y.ta, y.tc, x.aa, x.ca, x.aw, x.cw⟩ := ⟨_, rfl⟩
  have hqw : FW w q := by rw [hq]; exact ⟨hy.t, hx.a, hx.w, hy.nt, hx.na, hx.nw, hy.ct⟩
  have HC : Hid (∀ w1, Below w.heap.size w w1 → Calls Tryz.prog 27 #[feV q] w1 fun e w' => ∃ y : Fe, e = .returned (feV y) ∧ y.p = q.p ∧ FW w' y ∧ (∀ b, InF y b → w1.heap.size ≤ b) ∧ Below w1.heap.size w1 w') := (show ∀ w1, _ from fun w1 g => copyOf_any q w1 (hqw.below g))
  have HP : Hid (q.p = { x.p with pri := y.p.pri, lt := y.p.lt }) := (show _ = _ by rw [hq])
  clear hy hx hqw
  obtain ⟨W3, hW3⟩ : ∃ W3, ((fx w y).alloc (.cells (feC x) 40)).alloc (.cells zeroE 40) = W3 := ⟨_, rfl⟩
  have z3 : W3.heap.size = w.heap.size + 3 := by rw [← hW3]; simp
  have HG3 : Hid (Below w.heap.size w W3) := (show Below _ _ _ by rw [← hW3]; go_grown)
  have HB0 : Hid (Be W3 w.heap.size 0 y) := (show Be _ _ _ _ by rw [← hW3]; exact (Be.new w y).below (B := w.heap.size + 1) (by omega) (by go_grown))
  have HB1 : Hid (Be W3 (w.heap.size + 1) 0 x) := (show Be _ _ _ _ by
    rw [← hW3]
    have := (Be.new (fx w y) x).below (B := (fx w y).heap.size + 1) (w' := ((fx w y).alloc (.cells (feC x) 40)).alloc (.cells zeroE 40)) (by simp) (by go_grown)
    simpa using this)
  have HX1 : Hid (W3.there (w.heap.size + 1) 0 10) := (show World.there _ _ _ _ by
    rw [← hW3]
    have := there_below (there_new (fx w y) (feC x) 40) (B := (fx w y).heap.size + 1) (w' := ((fx w y).alloc (.cells (feC x) 40)).alloc (.cells zeroE 40)) (by simp) (by go_grown)
    simpa using this)
  have HY2 : Hid (W3.there (w.heap.size + 2) 0 10) := (show World.there _ _ _ _ by rw [← hW3]; have := there_new ((fx w y).alloc (.cells (feC x) 40)) zeroE 40; simpa using this)
  obtain ⟨_, c1, c2, _⟩ := HB0.out.cs
  obtain ⟨_, d1, d2, _⟩ := HB1.out.cs
  have f1 := there_frozen HX1.out 1 (by omega)
  have f2 := there_frozen HX1.out 2 (by omega)
  go_enter Tryz.func43, Tryz.ntmps43
  go_wp2_with fail
  go_region
  obtain ⟨V, hV⟩ : ∃ V, ((W3.setCell ⟨w.heap.size + 1, 1, none⟩ (.int .i64 y.p.pri)).setCell ⟨w.heap.size + 1, 2, none⟩ (.slice y.ta y.p.lt.length y.tc)).drew = V := ⟨_, rfl⟩
  rw [hV]
  have HBV : Hid (Be V (w.heap.size + 1) 0 q) := (show Be _ _ _ _ by
    rw [← hV, hq]
    have h1 : World.rangeAt _ _ _ _ := range_set (range_set HB1.out 1 (.int .i64 y.p.pri) (by simp)) 2 (.slice y.ta y.p.lt.length y.tc) (by simp)
    exact h1)
  have OV : Only (w.heap.size + 1) W3 V := by
    have h1 := ((Only.refl (w.heap.size + 1) W3).setCell 1 (.int .i64 y.p.pri)).setCell 2 (.slice y.ta y.p.lt.length y.tc)
    rw [← hV]
    exact ⟨h1.os, h1.tape, h1.output, h1.size, h1.block⟩
  have HYV : Hid (V.there (w.heap.size + 2) 0 10) := there_block HY2.out (OV.block _ (by omega))
  have HGV : Hid (Below w.heap.size w V) := OV.below (by omega) HG3.out
  have zV : V.heap.size = w.heap.size + 3 := by rw [OV.size, z3]
  have HQ : Hid (q = ⟨{ x.p with pri := y.p.pri, lt := y.p.lt }, y.ta, y.tc, x.aa, x.ca, x.aw, x.cw⟩) := hq
  clear hq hV OV c1 c2 d1 d2 f1 f2 hW3
  go_wp2_with (refine load_E rfl (.tmp 3) rfl (w.heap.size + 1) 0 q rfl HBV.out ?_)
  refine (HC.out V HGV.out).mono ?_
  rintro e w5 ⟨u, rfl, hup, hu, hui, g5⟩
  have HU : Hid (u.p = q.p ∧ FW w5 u ∧ (∀ b, InF u b → V.heap.size ≤ b) ∧ Below V.heap.size V w5) := (show _ ∧ _ from ⟨hup, hu, hui, g5⟩)
  have z5 := g5.size
  clear hup hu hui g5
  go_wp2_with (refine store_E rfl (.tmp 4) (.tmp 12) rfl (w.heap.size + 2) 0 u rfl rfl (there_below HYV.out (by omega) HU.out.2.2.2) ?_; intro V2 hV2 bV tV oV; clear hV2)
  refine bodyPost_ret (resF (b := w.heap.size + 2) (x := u) rfl rfl bV) rfl ?_
  obtain ⟨h1, h2, h3, h4⟩ := HU.out
  refine ⟨u, rfl, h1.trans HP.out, h2.stay (by rw [oV.size]; exact Nat.le_refl _) (fun b hb _ => oV.block b (by have := h3 b hb; omega)), fun b hb => by have := h3 b hb; omega, oV.below (by omega) (btr HGV.out h4 (by omega))⟩
end Go.Proofs.YtjjfhibkcngphaaGreatDoor

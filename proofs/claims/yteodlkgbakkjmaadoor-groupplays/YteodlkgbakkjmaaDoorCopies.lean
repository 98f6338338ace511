/-
  What copies and copyOf answer, as contracts.
-/
import Derived.Test.YteodlkgbakkjmaaDoorCopy
namespace Go.Proofs.YteodlkgbakkjmaaDoor
open Go.ChangeShapes Go.WideShapes Go.ChangeAt Go.RowKit
set_option linter.unusedVariables false

set_option maxRecDepth 20000 in
set_option maxHeartbeats 4000000 in
theorem copies_any (a : Option Addr) (l : List Bk) (c : Nat) (w : World) (hT : Bs w a l) (hn : Sm l) :
    Calls Tryd.prog 43 #[.slice a l.length c] w fun e w' => ∃ a' c' r, e = .returned (.slice a' r.length c') ∧ r.map Bk.b3 = l.map Bk.b3 ∧ BsF w.heap.size w' a' r ∧ Below w.heap.size w w' := by
  have HB : Hid (Calls Tryd.prog 56 #[.slice a l.length c] w fun e w' => ∃ v, e = .returned v ∧ w'.ownsRow w.heap.size 51 3 v l.length (flatB l) ∧ Below w.heap.size w w') := cloneB a l c w hT (by have := hn.n; omega)
  have HC : Hid (∀ (x : Bk) w1, x ∈ l → Below w.heap.size w w1 → Calls Tryd.prog 57 #[.slice x.a x.l.length x.c] w1 fun e w' => ∃ a' c', e = .returned (.slice a' x.l.length c') ∧ TsF w1.heap.size w' a' x.l ∧ Below w1.heap.size w1 w') := (show ∀ (x : Bk) w1, _ from fun x w1 hx g => cloneA x.a x.l x.c w1 ((hT.1 x hx).below g) (by have := hn.a x hx; omega))
  have HN : Hid (l.length ≤ 100) := hn.n
  clear hT hn
  go_enter Tryd.func43, Tryd.ntmps43
  go_wp2_with fail
  refine HB.out.mono ?_
  rintro e w1 ⟨v, rfl, hrow, g1⟩
  rcases hrow.2 with ⟨rfl, h0⟩ | ⟨g, cap, cur, rfl, hbg, hhg, hnc, hcm, hcs, htk⟩
  · have hl : l = [] := List.length_eq_zero_iff.1 h0
    subst hl
    clear hrow HB HC
    go_wp2_with fail
    go_loopw [8] (fun v wr => v = .int .i64 0 ∧ wr = w1) (fun _ _ => 0)
    case atStart => exact ⟨rfl, rfl⟩
    case round =>
      obtain ⟨rfl, rfl⟩ := hrel
      go_wp2_with fail
      go_ret
      exact ⟨none, 0, [], rfl, rfl, ⟨by simp, .inl rfl⟩, g1⟩
  · have hI : CpI w g cap l 0 w1 l := ⟨rfl, hrow, fun i _ h => by omega, rfl, fun i _ _ _ => rfl, g1⟩
    have H0 : Hid (CpI w g cap l 0 w1 l) := hI
    clear hI HB hbg hhg hcm hcs htk g1 hrow
    go_wp2_with fail
    go_loopw [8] (fun v wr => ∃ (q : Nat) (r : List Bk), q ≤ l.length ∧ v = .int .i64 q ∧ Hid (CpI w g cap l q wr r)) (fun v _ => l.length - (intOf v).toNat)
    case atStart => exact ⟨0, l, Nat.zero_le _, rfl, H0⟩
    case round =>
      obtain ⟨q, r, hq, rfl, HI⟩ := hrel
      have h100 := HN.out
      by_cases hlt : q < l.length
      · have hr : q < r.length := by have := HI.out.len; omega
        have hcell := (rowB_cells (by rw [HI.out.len]) HI.out.row q hr).2.2
        have hbel := HI.out.bel
        have hfr := HI.out.row.frozenAt (q * 3 + 2)
        have hg := (HI.out.row.lt g rfl).2
        have hmem : r[q] ∈ l := by rw [HI.out.left q hr hlt (Nat.le_refl _)]; exact List.getElem_mem hlt
        have HCq : Hid (∀ n : GrT wr, Calls Tryd.prog 57 #[.slice r[q].a r[q].l.length r[q].c] n.w fun e w' => ∃ a' c', e = .returned (.slice a' r[q].l.length c') ∧ TsF n.w.heap.size w' a' r[q].l ∧ Below n.w.heap.size n.w w') := (show ∀ n : GrT wr, _ from fun n => HC.out r[q] n.w hmem (btr hbel n.h (by have := hbel.size; omega)))
        go_wp2_with fail
        refine (HCq.out none).mono ?_
        rintro e w2 ⟨a', c', rfl, ht, g2⟩
        have hS : CpI w g cap l (q + 1) (w2.setCell ⟨g, q * 3 + 2, none⟩ (.slice a' r[q].l.length c')) _ := HI.out.step hr a' c' ht g2
        have HS : Hid (CpI w g cap l (q + 1) (w2.setCell ⟨g, q * 3 + 2, none⟩ (.slice a' r[q].l.length c')) (r.set q { r[q] with a := a', c := c' })) := hS
        have hcell2 : w2.cell? ⟨g, q * 3 + 2, none⟩ = some (.slice r[q].a r[q].l.length r[q].c) := (g2.cell (p := ⟨g, q * 3 + 2, none⟩) hg).trans hcell
        have hfr2 : w2.frozen? ⟨g, q * 3 + 2, none⟩ = false := (World.frozen?_of_block (a := ⟨g, q * 3 + 2, none⟩) (g2.block g hg)).trans hfr
        clear hS ht g2 hcell hfr HCq hbel
        go_wp2_with fail
        go_roundw
        case rel => exact ⟨q + 1, _, by omega, by go_num, HS⟩
        case measure => simp [intOf]; omega
      · have e : q = l.length := by omega
        subst e
        have hlen := HI.out.len
        go_wp2_with fail
        go_ret
        exact ⟨some ⟨g, 0, none⟩, cap, r, by rw [hlen]; rfl, HI.out.same, HI.out.end_ (Nat.le_refl _), HI.out.bel⟩
set_option maxRecDepth 20000 in
set_option maxHeartbeats 4000000 in
theorem copyOf_any (g : Gr) (w : World) (hT : Bs w g.a g.l) (hn : Sm g.l) :
    Calls Tryd.prog 32 #[gV g] w fun e w' => ∃ g' : Gr, e = .returned (gV g') ∧ g'.p = g.p ∧ BsF w.heap.size w' g'.a g'.l ∧ Below w.heap.size w w' := by
  have HC : Hid (∀ w1, Below w.heap.size w w1 → Calls Tryd.prog 43 #[.slice g.a g.l.length g.c] w1 fun e w' => ∃ a' c' r, e = .returned (.slice a' r.length c') ∧ r.map Bk.b3 = g.l.map Bk.b3 ∧ BsF w1.heap.size w' a' r ∧ Below w1.heap.size w1 w') := (show ∀ w1, _ from fun w1 h => copies_any g.a g.l g.c w1 (hT.below h) hn)
  clear hT hn
  go_enter Tryd.func32, Tryd.ntmps32
  go_wp2_with fail
  obtain ⟨V, hV⟩ : ∃ V, (w.alloc (.cells #[.int .i64 g.id, .int .i64 g.kd, .slice g.a g.l.length g.c] 33)).alloc (.cells #[.int .i64 0, .int .i64 0, .slice none 0 0] 33) = V := ⟨_, rfl⟩
  have gV : Below w.heap.size w V := by rw [← hV]; go_grown
  have zV : V.heap.size = w.heap.size + 2 := by rw [← hV]; simp
  have b0 : V.cell? ⟨w.heap.size, 0, none⟩ = some (.int .i64 g.id) ∧ V.cell? ⟨w.heap.size, 1, none⟩ = some (.int .i64 g.kd) ∧ V.cell? ⟨w.heap.size, 2, none⟩ = some (.slice g.a g.l.length g.c) ∧ V.frozen? ⟨w.heap.size, 2, none⟩ = false := by rw [← hV]; simp
  have b1 : V.cell? ⟨w.heap.size + 1, 0, none⟩ = some (.int .i64 0) ∧ V.cell? ⟨w.heap.size + 1, 1, none⟩ = some (.int .i64 0) ∧ V.cell? ⟨w.heap.size + 1, 2, none⟩ = some (.slice none 0 0) ∧ ∀ o, V.frozen? ⟨w.heap.size + 1, o, none⟩ = false := by rw [← hV]; simp
  rw [hV]
  clear hV
  refine (HC.out V gV).mono ?_
  rintro e w3 ⟨a', c', r, rfl, hr, hb, g3⟩
  have hc : ∀ (b o : Nat), b < V.heap.size → w3.cell? ⟨b, o, none⟩ = V.cell? ⟨b, o, none⟩ := fun b o h => g3.cell (p := ⟨b, o, none⟩) h
  have hf : ∀ (b o : Nat), b < V.heap.size → w3.frozen? ⟨b, o, none⟩ = V.frozen? ⟨b, o, none⟩ := fun b o h => g3.frozen (p := ⟨b, o, none⟩) h
  obtain ⟨x0, x1, x2, x3⟩ := b0
  obtain ⟨y0, y1, y2, y3⟩ := b1
  have c0 := (hc w.heap.size 0 (by omega)).trans x0
  have c1 := (hc w.heap.size 1 (by omega)).trans x1
  have c2 := (hc w.heap.size 2 (by omega)).trans x2
  have f2 := (hf w.heap.size 2 (by omega)).trans x3
  have d0 := (hc (w.heap.size + 1) 0 (by omega)).trans y0
  have d1 := (hc (w.heap.size + 1) 1 (by omega)).trans y1
  have d2 := (hc (w.heap.size + 1) 2 (by omega)).trans y2
  have g0 := fun o => (hf (w.heap.size + 1) o (by omega)).trans (y3 o)
  obtain ⟨w4, h4⟩ : ∃ w4, w3.setCell ⟨w.heap.size, 2, none⟩ (.slice a' r.length c') = w4 := ⟨_, rfl⟩
  have k0 : w4.cell? ⟨w.heap.size, 0, none⟩ = some (.int .i64 g.id) := by rw [← h4, World.cell?_setCell_other _ _ _ _ (by simp)]; exact c0
  have k1 : w4.cell? ⟨w.heap.size, 1, none⟩ = some (.int .i64 g.kd) := by rw [← h4, World.cell?_setCell_other _ _ _ _ (by simp)]; exact c1
  have k2 : w4.cell? ⟨w.heap.size, 2, none⟩ = some (.slice a' r.length c') := by rw [← h4]; exact World.cell?_setCell_same _ _ _ c2
  have m0 : w4.cell? ⟨w.heap.size + 1, 0, none⟩ = some (.int .i64 0) := by rw [← h4, World.cell?_setCell_other _ _ _ _ (by simp)]; exact d0
  have m1 : w4.cell? ⟨w.heap.size + 1, 1, none⟩ = some (.int .i64 0) := by rw [← h4, World.cell?_setCell_other _ _ _ _ (by simp)]; exact d1
  have m2 : w4.cell? ⟨w.heap.size + 1, 2, none⟩ = some (.slice none 0 0) := by rw [← h4, World.cell?_setCell_other _ _ _ _ (by simp)]; exact d2
  have n0 : ∀ o, w4.frozen? ⟨w.heap.size + 1, o, none⟩ = false := fun o => by rw [← h4]; simp [g0 o]
  have HB : Hid (BsF V.heap.size w3 a' r) := hb
  have HG : Hid (Below V.heap.size V w3) := g3
  have HV : Hid (Below w.heap.size w V ∧ V.heap.size = w.heap.size + 2) := (show _ ∧ _ from ⟨gV, zV⟩)
  have HR : Hid (r.map Bk.b3 = g.l.map Bk.b3) := hr
  have H4 : Hid (w3.setCell ⟨w.heap.size, 2, none⟩ (.slice a' r.length c') = w4) := h4
  clear hb g3 gV zV hr HC hc hf x0 x1 x2 x3 y0 y1 y2 y3 d0 d1 d2 g0 c0 c1
  go_wp2_with fail
  obtain ⟨s0, s1, s2⟩ := s3_cells (o := 0) (x := .int .i64 g.id) (y := .int .i64 g.kd) (z := .slice a' r.length c') m0 m1 m2
  have O4 : Only w.heap.size w3 w4 := by rw [← H4.out]; exact (Only.refl _ _).setCell _ _
  have O5 := Only.s3 w4 (w.heap.size + 1) 0 (.int .i64 g.id) (.int .i64 g.kd) (.slice a' r.length c')
  obtain ⟨hV1, hV2⟩ := HV.out
  refine bodyPost_ret (resG (b := w.heap.size + 1) (t := ⟨g.id, g.kd, a', r, c'⟩) rfl rfl ⟨s0, s1, s2⟩) rfl ?_
  refine ⟨⟨g.id, g.kd, a', r, c'⟩, rfl, by simp [Gr.p, HR.out], HB.out.mono (by omega) (by rw [O5.size, O4.size]; exact Nat.le_refl _) (fun b h1 h2 => (O5.block b (by omega)).trans (O4.block b (by omega))), ?_⟩
  exact O5.below (by omega) (O4.below (Nat.le_refl _) (hV1.trans (HG.out.mono (by omega))))
end Go.Proofs.YteodlkgbakkjmaaDoor

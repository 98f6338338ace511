/-
  What 'few' and the document's SameGroup answer, as contracts.
-/
import Derived.Test.YteodlkgbakkjmaaDoorFormR
import Derived.Test.YteodlkgbakkjmaaDoorSame
namespace Go.Proofs.YteodlkgbakkjmaaDoor
open Go.ChangeShapes Go.WideShapes Go.ChangeAt Go.RowKit
set_option linter.unusedVariables false
set_option linter.unusedSimpArgs false

def sBk (b c : B3) : Bool := b.1 == c.1 && b.2.1 == c.2.1 && sameB b.2.2 c.2.2
def sBks : List B3 → List B3 → Bool
  | [], [] => true
  | b :: l, c :: k => sBk b c && sBks l k
  | _, _ => false
def sGrp (i k : Int) (l : List B3) (j n : Int) (r : List B3) : Bool := i == j && k == n && sBks l r
theorem sameB_refl (l : List A) : sameB l l = true := by simp [sameB]
theorem sBks_refl : ∀ l : List B3, sBks l l = true
  | [] => rfl
  | b :: l => by simp [sBks, sBk, sameB_refl, sBks_refl l]
theorem sBks_len : ∀ (l k : List B3), l.length ≠ k.length → sBks l k = false
  | [], [], h => absurd rfl h
  | [], _ :: _, _ => rfl
  | _ :: _, [], _ => rfl
  | b :: l, c :: k, h => by
    rw [sBks, sBks_len l k (by simpa using h), Bool.and_false]
theorem sBks_at : ∀ (l k : List B3) (i : Nat) (hl : i < l.length) (hk : i < k.length), sBk l[i] k[i] = false → sBks l k = false
  | b :: l, c :: k, 0, _, _, h => by
    rw [sBks]
    simp only [List.getElem_cons_zero] at h
    rw [h, Bool.false_and]
  | b :: l, c :: k, i + 1, hl, hk, h => by
    rw [sBks]
    simp only [List.getElem_cons_succ] at h
    rw [sBks_at l k i (by simpa using hl) (by simpa using hk) h, Bool.and_false]
theorem sBks_all : ∀ (l k : List B3), l.length = k.length → (∀ i (hl : i < l.length) (hk : i < k.length), sBk l[i] k[i] = true) → sBks l k = true
  | [], [], _, _ => rfl
  | [], _ :: _, h, _ => by cases h
  | _ :: _, [], h, _ => by cases h
  | b :: l, c :: k, h, g => by
    rw [sBks, sBks_all l k (by simpa using h) (fun i hl hk => g (i + 1) (by simpa using hl) (by simpa using hk))]
    have := g 0 (by simp) (by simp)
    simp only [List.getElem_cons_zero] at this
    rw [this]
    rfl
theorem sBks_eq : ∀ {l k : List B3}, sBks l k = true → l = k
  | [], [], _ => rfl
  | [], _ :: _, h => by cases h
  | _ :: _, [], h => by cases h
  | b :: l, c :: k, h => by
    rw [sBks, Bool.and_eq_true] at h
    have h2 := sBks_eq h.2
    have h1 := h.1
    obtain ⟨b1, b2, b3⟩ := b
    obtain ⟨c1, c2, c3⟩ := c
    simp only [sBk, Bool.and_eq_true, beq_iff_eq, sameB, decide_eq_true_eq] at h1
    obtain ⟨⟨e1, e2⟩, e3⟩ := h1
    rw [e1, e2, e3, h2]
set_option maxRecDepth 20000 in
set_option maxHeartbeats 8000000 in
theorem sGrp_any (i k : Int) (ga : Option Addr) (l : List Bk) (gc : Nat) (j n : Int) (gb : Option Addr) (r : List Bk) (gd : Nat) (w : World) (hl : Bs w ga l) (hr : Bs w gb r) (sl : Sm l) (sr : Sm r) :
    Calls Tryd.prog 20 #[.agg #[.int .i64 i, .int .i64 k, .slice ga l.length gc], .agg #[.int .i64 j, .int .i64 n, .slice gb r.length gd]] w fun e w' => e = .returned (.bool (sGrp i k (l.map Bk.b3) j n (r.map Bk.b3))) ∧ Below w.heap.size w w' := by
  have HS : Hid (∀ (x y : Bk) w1, Ts w1 x.a x.l → x.l.length ≤ 100 → Ts w1 y.a y.l → y.l.length ≤ 100 → Calls Tryd.prog 41 #[.slice x.a x.l.length x.c, .slice y.a y.l.length y.c] w1 fun e w' => e = .returned (.bool (sameB x.l y.l)) ∧ Below w1.heap.size w1 w') := (show ∀ (x y : Bk) w1, _ from fun x y w1 hx nx hy ny => same_any x.a y.a x.l y.l x.c y.c w1 hx hy (by omega) (by omega))
  have HSl : Hid (∀ b ∈ l, b.l.length ≤ 100) := sl.a
  have HSr : Hid (∀ b ∈ r, b.l.length ≤ 100) := sr.a
  have nl : l.length ≤ 100000 := by have := sl.n; omega
  have nr : r.length ≤ 100000 := by have := sr.n; omega
  clear sl sr
  have HR : Hid (sGrp i k (l.map Bk.b3) j n (r.map Bk.b3) = (i == j && k == n && sBks (l.map Bk.b3) (r.map Bk.b3))) := (show _ = _ from rfl)
  rw [HR.out]
  clear HR
  cases h1 : (i == j) with
  | false =>
    have h1' : (i != j) = true := by rw [bne, h1]; rfl
    clear HS hl hr
    go_enter Tryd.func20, Tryd.ntmps20
    go_wp2_with fail
    go_ret
    exact ⟨rfl, by go_grown⟩
  | true =>
    have h1' : (i != j) = false := by rw [bne, h1]; rfl
    cases h2 : (k == n) with
    | false =>
      have h2' : (k != n) = true := by rw [bne, h2]; rfl
      clear HS hl hr
      go_enter Tryd.func20, Tryd.ntmps20
      go_wp2_with fail
      go_ret
      exact ⟨rfl, by go_grown⟩
    | true =>
      have h2' : (k != n) = false := by rw [bne, h2]; rfl
      by_cases h3 : l.length = r.length
      · have h3' : ((l.length : Int) != (r.length : Int)) = false := by simp [h3]
        obtain ⟨W2, hW2⟩ : ∃ W2, (w.alloc (.cells #[.int .i64 i, .int .i64 k, .slice ga l.length gc] 33)).alloc (.cells #[.int .i64 j, .int .i64 n, .slice gb r.length gd] 33) = W2 := ⟨_, rfl⟩
        have G2 : Below w.heap.size w W2 := by rw [← hW2]; go_grown
        have z2 : W2.heap.size = w.heap.size + 2 := by rw [← hW2]; simp
        have x2 : W2.cell? ⟨w.heap.size, 2, none⟩ = some (.slice ga l.length gc) := by rw [← hW2]; simp
        have y2 : W2.cell? ⟨w.heap.size + 1, 2, none⟩ = some (.slice gb r.length gd) := by
          rw [← hW2]
          simp
        have HX : Hid (∀ w', Below W2.heap.size W2 w' → w.heap.size + 1 < w'.heap.size ∧ w'.cell? ⟨w.heap.size, 2, none⟩ = some (.slice ga l.length gc) ∧ w'.cell? ⟨w.heap.size + 1, 2, none⟩ = some (.slice gb r.length gd)) := (show ∀ w', _ from fun w' g => ⟨by have := g.size; omega, (g.cell (p := ⟨w.heap.size, 2, none⟩) (show w.heap.size < W2.heap.size by omega)).trans x2, (g.cell (p := ⟨w.heap.size + 1, 2, none⟩) (show w.heap.size + 1 < W2.heap.size by omega)).trans y2⟩)
        have HL : Hid (Bs W2 ga l) := (show Bs _ _ _ from hl.below G2)
        have HRr : Hid (Bs W2 gb r) := (show Bs _ _ _ from hr.below G2)
        have HG2 : Hid (Below w.heap.size w W2) := G2
        have HGo : Hid (∀ w', Below W2.heap.size W2 w' → Below w.heap.size w w') := (show ∀ w', _ from fun w' g => btr G2 g (Nat.le_refl _))
        have HBad : Hid (∀ q (hq : q < l.length) (hq2 : q < r.length), sBk l[q].b3 r[q].b3 = false → sBks (l.map Bk.b3) (r.map Bk.b3) = false) := (show ∀ q (hq : q < l.length) (hq2 : q < r.length), _ from fun q hq hq2 hf => sBks_at _ _ q (by simpa using hq) (by simpa using hq2) (by simpa using hf))
        have HAll : Hid ((∀ q (hq : q < l.length) (hq2 : q < r.length), sBk l[q].b3 r[q].b3 = true) → sBks (l.map Bk.b3) (r.map Bk.b3) = true) := (show (∀ q (hq : q < l.length) (hq2 : q < r.length), sBk l[q].b3 r[q].b3 = true) → _ from fun hh => sBks_all _ _ (by simpa using h3) (fun q hq hq2 => by simpa using hh q (by simpa using hq) (by simpa using hq2)))
        have HW2 : Hid ((w.alloc (.cells #[.int .i64 i, .int .i64 k, .slice ga l.length gc] 33)).alloc (.cells #[.int .i64 j, .int .i64 n, .slice gb r.length gd] 33) = W2) := hW2
        have H3 : Hid (l.length = r.length) := h3
        clear hW2 G2 z2 hl hr h1 h2 h3
        go_enter Tryd.func20, Tryd.ntmps20
        go_wp2_with fail
        rw [HW2.out]
        clear x2 y2
        go_loopw [5] (fun v wr => ∃ q : Nat, q ≤ l.length ∧ v = .int .i64 q ∧ Hid (∀ p (hp : p < l.length) (hp2 : p < r.length), p < q → sBk l[p].b3 r[p].b3 = true) ∧ Below W2.heap.size W2 wr) (fun v _ => l.length - (intOf v).toNat)
        case atStart => exact ⟨0, Nat.zero_le _, rfl, (show ∀ p (hp : p < l.length) (hp2 : p < r.length), p < 0 → _ from fun p _ _ h => by omega), Below.refl _ _⟩
        case round =>
          obtain ⟨q, hq, rfl, HP, hbel⟩ := hrel
          obtain ⟨zr, x2, y2⟩ := HX.out _ hbel
          by_cases hlt : q < l.length
          · have hlt2 : q < r.length := by have := H3.out; omega
            have hT := HL.out.below hbel
            have hU := HRr.out.below hbel
            obtain ⟨g, o, rfl, hg, hc⟩ := hT.at hlt
            obtain ⟨g2, o2, rfl, hg2, hc2⟩ := hU.at hlt2
            obtain ⟨c0, c1, c2⟩ := hc q hlt
            obtain ⟨d0, d1, d2⟩ := hc2 q hlt2
            have hWx := hT.1 l[q] (List.getElem_mem hlt)
            have hWy := hU.1 r[q] (List.getElem_mem hlt2)
            have HSq : Hid (∀ w', Below wr.heap.size wr w' → Calls Tryd.prog 41 #[.slice l[q].a l[q].l.length l[q].c, .slice r[q].a r[q].l.length r[q].c] w' fun e w'' => e = .returned (.bool (sameB l[q].l r[q].l)) ∧ Below w'.heap.size w' w'') := (show ∀ w', _ from fun w' gw => HS.out l[q] r[q] w' (hWx.below gw) (HSl.out _ (List.getElem_mem hlt)) (hWy.below gw) (HSr.out _ (List.getElem_mem hlt2)))
            have HBq : Hid (sBk l[q].b3 r[q].b3 = false → sBks (l.map Bk.b3) (r.map Bk.b3) = false) := HBad.out q hlt hlt2
            have HNq : Hid (sBk l[q].b3 r[q].b3 = true → ∀ p (hp : p < l.length) (hp2 : p < r.length), p < q + 1 → sBk l[p].b3 r[p].b3 = true) := (show _ → _ from fun hh p hp hp2 hpq => by
              by_cases e : p = q
              · subst e; exact hh
              · exact HP.out p hp hp2 (by omega))
            have HBk : Hid (sBk l[q].b3 r[q].b3 = (l[q].wa == r[q].wa && l[q].we == r[q].we && sameB l[q].l r[q].l)) := (show _ = _ from rfl)
            have HCo : Hid (∀ w', Below wr.heap.size wr w' → Below W2.heap.size W2 w') := (show ∀ w', _ from fun w' gw => btr hbel gw (Nat.le_refl _))
            clear hc hc2 hT hU hWx hWy
            generalize l[q] = X at *
            generalize r[q] = Y at *
            cases e1 : (X.wa == Y.wa) with
            | false =>
              have e1' : (X.wa != Y.wa) = true := by rw [bne, e1]; rfl
              have f : sBk X.b3 Y.b3 = false := by rw [HBk.out, e1]; rfl
              have HF : Hid (sBks (l.map Bk.b3) (r.map Bk.b3) = false) := HBq.out f
              clear f e1
              go_wp2_with fail
              go_ret
              exact ⟨by rw [HF.out]; rfl, HGo.out _ (HCo.out _ (by go_grown))⟩
            | true =>
              have e1' : (X.wa != Y.wa) = false := by rw [bne, e1]; rfl
              cases e2 : (X.we == Y.we) with
              | false =>
                have e2' : (X.we != Y.we) = true := by rw [bne, e2]; rfl
                have f : sBk X.b3 Y.b3 = false := by rw [HBk.out, e1, e2]; rfl
                have HF : Hid (sBks (l.map Bk.b3) (r.map Bk.b3) = false) := HBq.out f
                clear f e1 e2
                go_wp2_with fail
                go_ret
                exact ⟨by rw [HF.out]; rfl, HGo.out _ (HCo.out _ (by go_grown))⟩
              | true =>
                have e2' : (X.we != Y.we) = false := by rw [bne, e2]; rfl
                cases e3 : sameB X.l Y.l with
                | false =>
                  have f : sBk X.b3 Y.b3 = false := by rw [HBk.out, e1, e2, e3]; rfl
                  rw [e3] at HSq
                  have HF : Hid (sBks (l.map Bk.b3) (r.map Bk.b3) = false) := HBq.out f
                  clear f e1 e2 e3
                  go_wp2_with fail
                  refine (HSq.out _ (by go_grown)).mono ?_
                  rintro v w1 ⟨rfl, g1⟩
                  have b1 : Below wr.heap.size wr w1 := btr (by go_grown) g1 (Nat.le_refl _)
                  clear g1
                  go_wp2_with fail
                  go_ret
                  exact ⟨by rw [HF.out]; rfl, HGo.out _ (HCo.out _ b1)⟩
                | true =>
                  have f : sBk X.b3 Y.b3 = true := by rw [HBk.out, e1, e2, e3]; rfl
                  have HN' : Hid (∀ p (hp : p < l.length) (hp2 : p < r.length), p < q + 1 → sBk l[p].b3 r[p].b3 = true) := HNq.out f
                  rw [e3] at HSq
                  clear f e1 e2 e3
                  go_wp2_with fail
                  refine (HSq.out _ (by go_grown)).mono ?_
                  rintro v w1 ⟨rfl, g1⟩
                  have b1 : Below wr.heap.size wr w1 := btr (by go_grown) g1 (Nat.le_refl _)
                  have B1 := HCo.out _ b1
                  clear g1
                  go_wp2_with fail
                  go_roundw
                  case rel => exact ⟨q + 1, by omega, by go_num, HN', B1⟩
                  case measure => simp [intOf]; omega
          · have hq' : q = l.length := by omega
            have f := HAll.out (fun p hp hp2 => HP.out p hp hp2 (by omega))
            have HF : Hid (sBks (l.map Bk.b3) (r.map Bk.b3) = true) := f
            clear f
            go_wp2_with fail
            go_ret
            exact ⟨by rw [HF.out]; rfl, HGo.out _ hbel⟩
      · have h3' : ((l.length : Int) != (r.length : Int)) = true := by simp; omega
        have f : sBks (l.map Bk.b3) (r.map Bk.b3) = false := sBks_len _ _ (by simpa using h3)
        rw [f]
        clear HS hl hr f
        go_enter Tryd.func20, Tryd.ntmps20
        go_wp2_with fail
        go_ret
        exact ⟨rfl, by go_grown⟩
/-- Whether a group is not too much. -/
def fewB (l : List Bk) : Bool := decide (l.length ≤ 20) && l.all fun b => decide (b.l.length ≤ 20)
theorem fewB_sm {l : List Bk} (h : fewB l = true) : Sm l := by
  unfold fewB at h
  simp only [Bool.and_eq_true, decide_eq_true_eq, List.all_eq_true] at h
  exact ⟨by omega, fun b hb => by have := h.2 b hb; omega⟩
set_option maxRecDepth 20000 in
set_option maxHeartbeats 8000000 in
theorem few_any (g : Gr) (w : World) (hT : Bs w g.a g.l) : Calls Tryd.prog 11 #[gV g] w fun e w' => e = .returned (.bool (fewB g.l)) ∧ Below w.heap.size w w' := by
  obtain ⟨id, kd, ga, l, gc⟩ := g
  simp only at hT
  obtain ⟨V, hV⟩ : ∃ V, w.alloc (.cells #[.int .i64 id, .int .i64 kd, .slice ga l.length gc] 33) = V := ⟨_, rfl⟩
  have GV : Below w.heap.size w V := by rw [← hV]; go_grown
  have cV : Cg V w.heap.size 0 ⟨id, kd, ga, l, gc⟩ := by rw [← hV]; exact Cg.new w ⟨id, kd, ga, l, gc⟩
  have TV : Bs V ga l := hT.below GV
  have zV : w.heap.size < V.heap.size := by rw [← hV]; simp
  have HV : Hid (w.alloc (.cells #[.int .i64 id, .int .i64 kd, .slice ga l.length gc] 33) = V) := hV
  have c2 : V.cell? ⟨w.heap.size, 2, none⟩ = some (.slice ga l.length gc) := cV.2.2
  have HG : Hid (Below w.heap.size w V) := GV
  have HT : Hid (Bs V ga l) := TV
  show Calls Tryd.prog 11 #[.agg #[.int .i64 id, .int .i64 kd, .slice ga l.length gc]] w fun e w' => e = .returned (.bool (fewB l)) ∧ Below w.heap.size w w'
  clear hT TV cV GV hV
  by_cases hn : l.length ≤ 20
  · have HF : Hid (fewB l = l.all fun b => decide (b.l.length ≤ 20)) := (show _ = _ by unfold fewB; simp [hn])
    have hb : decide ((20 : Int) < l.length) = false := decide_eq_false (by omega)
    go_enter Tryd.func11, Tryd.ntmps11
    go_wp2_with fail
    rw [HV.out]
    go_loopw [3] (fun v wr => ∃ q : Nat, q ≤ l.length ∧ v = .int .i64 q ∧ Hid (∀ i (hi : i < l.length), i < q → decide (l[i].l.length ≤ 20) = true) ∧ wr = V) (fun v _ => l.length - (intOf v).toNat)
    case atStart => exact ⟨0, Nat.zero_le _, rfl, (show ∀ i (hi : i < l.length), _ from fun i _ h => by omega), rfl⟩
    case round =>
      obtain ⟨q, hq, rfl, HP, rfl⟩ := hrel
      by_cases hlt : q < l.length
      · obtain ⟨b, o, rfl, hb, hc⟩ := HT.out.at hlt
        obtain ⟨d0, d1, d2⟩ := hc q hlt
        have HN : Hid (decide (l[q].l.length ≤ 20) = true → ∀ i (hi : i < l.length), i < q + 1 → decide (l[i].l.length ≤ 20) = true) := (show _ → _ from fun h => all_step (f := fun x : Bk => decide (x.l.length ≤ 20)) hlt HP.out h)
        have HS : Hid (decide (l[q].l.length ≤ 20) = false → (l.all fun x => decide (x.l.length ≤ 20)) = false) := (show _ → _ from fun h => all_stop (f := fun x : Bk => decide (x.l.length ≤ 20)) hlt h)
        clear hc HP
        generalize l[q] = X at *
        by_cases hx : X.l.length ≤ 20
        · have hxb : decide ((20 : Int) < X.l.length) = false := decide_eq_false (by omega)
          have HN' : Hid (∀ i (hi : i < l.length), i < q + 1 → decide (l[i].l.length ≤ 20) = true) := HN.out (by simp [hx])
          clear hx HN HS
          go_wp2_with fail
          go_roundw
          case rel => exact ⟨q + 1, by omega, by go_num, HN', trivial⟩
          case measure => simp [intOf]; omega
        · have hxb : decide ((20 : Int) < X.l.length) = true := decide_eq_true (by omega)
          have HE : Hid (fewB l = false) := (show _ = _ by rw [HF.out]; exact HS.out (by simp [hx]))
          clear hx HN HS
          go_wp2_with fail
          go_ret
          exact ⟨by rw [HE.out]; rfl, HG.out⟩
      · have e : q = l.length := by omega
        subst e
        have HE : Hid (fewB l = true) := (show _ = _ by rw [HF.out]; exact all_end (f := fun x : Bk => decide (x.l.length ≤ 20)) HP.out)
        clear HP
        go_wp2_with fail
        go_ret
        exact ⟨by rw [HE.out]; rfl, HG.out⟩
  · have HF : Hid (fewB l = false) := (show _ = _ by unfold fewB; simp [hn])
    have hb : decide ((20 : Int) < l.length) = true := decide_eq_true (by omega)
    clear hn
    go_enter Tryd.func11, Tryd.ntmps11
    go_wp2_with fail
    go_ret
    exact ⟨by rw [HF.out]; rfl, by rw [HV.out]; exact HG.out⟩
end Go.Proofs.YteodlkgbakkjmaaDoor

/-
  The document's table as it lies in memory; what its at, there and Get answer.
-/
import Derived.Test.YteodlkgbakkjmaaDoorRunP
import Derived.Test.YteodlkgbakkjmaaDoorRRight10
namespace Go.Proofs.YteodlkgbakkjmaaDoor
open Go.ChangeShapes Go.WideShapes Go.ChangeAt Go.RowKit
set_option linter.unusedVariables false

/-- The document's table at block rb, its list the slice v: the groups have what was handed in. -/
structure RT (W : World) (rb : Nat) (room : Int) (v : Value) (L : List Gr) (wr : World) : Prop where
  c0 : wr.cell? ⟨rb, 0, none⟩ = some v
  c1 : wr.cell? ⟨rb, 1, none⟩ = some (.int .i64 room)
  f0 : wr.frozen? ⟨rb, 0, none⟩ = false
  lt : rb < wr.heap.size
  ge : W.heap.size ≤ rb
  row : wr.ownsRow W.heap.size 33 3 v L.length (flatG L)
  ap : v.ownBlock ≠ some rb
  grp : ∀ g ∈ L, Bs W g.a g.l ∧ Sm g.l ∧ rightE g.p = 0
  srt : SrtG L
  bel : Below W.heap.size W wr
theorem RT.below {W : World} {rb : Nat} {room : Int} {v : Value} {L : List Gr} {wr w2 : World} (h : RT W rb room v L wr) (k : Below wr.heap.size wr w2) : RT W rb room v L w2 :=
  ⟨(k.cell (p := ⟨rb, 0, none⟩) h.lt).trans h.c0, (k.cell (p := ⟨rb, 1, none⟩) h.lt).trans h.c1, (k.frozen (p := ⟨rb, 0, none⟩) h.lt).trans h.f0, Nat.lt_of_lt_of_le h.lt k.size, h.ge, own_below h.row k, h.ap, h.grp, h.srt, btr h.bel k (Nat.le_refl _)⟩
theorem RT.other {W : World} {rb mb : Nat} {room : Int} {v : Value} {L : List Gr} {wr w2 : World} (h : RT W rb room v L wr) (k : wr.grownBy w2 (some mb)) (hm : W.heap.size ≤ mb) (h1 : rb ≠ mb) (h2 : v.ownBlock ≠ some mb) : RT W rb room v L w2 := by
  have hb := k.block rb h.lt (fun e => by cases e; exact h1 rfl)
  refine ⟨(World.cell?_of_block (a := ⟨rb, 0, none⟩) hb).trans h.c0, (World.cell?_of_block (a := ⟨rb, 1, none⟩) hb).trans h.c1, (World.frozen?_of_block (a := ⟨rb, 0, none⟩) hb).trans h.f0, Nat.lt_of_lt_of_le h.lt k.size, h.ge, h.row.kept k ?_, h.ap, h.grp, h.srt, h.bel.grown k h.bel.size (fun j hj => by cases hj; exact hm)⟩
  exact .inr h2
theorem RT.slice {W : World} {rb : Nat} {room : Int} {v : Value} {L : List Gr} {wr : World} (h : RT W rb room v L wr) : ∃ a c, v = .slice a L.length c ∧ L.length ≤ c ∧ c ≤ 9223372036854775807 ∧ (L = [] ∨ ∃ g, a = some ⟨g, 0, none⟩ ∧ g < wr.heap.size ∧ ∀ i (h : i < L.length), Cg wr g (i * 3) L[i]) := by
  rcases h.row.2 with ⟨e, h0⟩ | ⟨g, cap, cur, e, hbg, hbb, hnc, hcm, _⟩
  · have e2 : L = [] := List.length_eq_zero_iff.1 h0
    subst e2
    exact ⟨none, 0, e, Nat.le_refl _, by omega, .inl rfl⟩
  · have hr := h.row
    rw [e] at hr
    exact ⟨_, _, e, hnc, by unfold maxLen at hcm; omega, .inr ⟨g, rfl, (Array.getElem?_eq_some_iff.1 hbb).1, fun i hi => rowG_cells rfl hr i hi⟩⟩
def AtR (L : List Gr) (i m : Int) : Prop := (m = -1 ∧ hasP L i = false) ∨ ∃ k : Nat, m = k ∧ ∃ h : k < L.length, L[k].id = i
theorem AtR.neg {L : List Gr} {i m : Int} (h : AtR L i m) : decide (m < 0) = !hasP L i := by
  rcases h with ⟨rfl, hf⟩ | ⟨k, rfl, hk, e⟩
  · rw [hf]; rfl
  · rw [hasP_iff.2 ⟨_, List.getElem_mem hk, e⟩]
    have : ¬ ((k : Int) < 0) := by omega
    simp [this]
theorem AtR.pos {L : List Gr} {i m : Int} (h : AtR L i m) : decide (0 ≤ m) = hasP L i := by
  rcases h with ⟨rfl, hf⟩ | ⟨k, rfl, hk, e⟩
  · rw [hf]; rfl
  · rw [hasP_iff.2 ⟨_, List.getElem_mem hk, e⟩]
    simp
set_option maxRecDepth 20000 in
set_option maxHeartbeats 8000000 in
theorem rat_any {W : World} {rb : Nat} {room : Int} {v : Value} {L : List Gr} (i : Int) (w : World) (h : RT W rb room v L w) (hL : L.length ≤ 64) : Calls Tryd.prog 34 #[ptr rb, .int .i64 i] w fun e w' => ∃ m, e = .returned (.int .i64 m) ∧ AtR L i m ∧ w' = w := by
  have c0 := h.c0
  have lt := h.lt
  obtain ⟨a, c, rfl, hlc, hc2, hcs⟩ := h.slice
  have HC : Hid (L = [] ∨ ∃ g, a = some ⟨g, 0, none⟩ ∧ g < w.heap.size ∧ ∀ i (h : i < L.length), Cg w g (i * 3) L[i]) := hcs
  have HL : Hid (L.length ≤ 64) := hL
  clear h hcs
  go_enter Tryd.func34, Tryd.ntmps34
  go_wp2_with fail
  go_loopw [5] (fun v wr => ∃ q : Nat, q ≤ L.length ∧ v = .int .i64 q ∧ Hid (∀ j (hj : j < L.length), j < q → L[j].id ≠ i) ∧ wr = w) (fun v _ => L.length - (intOf v).toNat)
  case atStart => exact ⟨0, Nat.zero_le _, rfl, (show ∀ j (hj : j < L.length), _ from fun j _ h => by omega), rfl⟩
  case round =>
    obtain ⟨q, hq, rfl, HP, rfl⟩ := hrel
    by_cases hlt : q < L.length
    · obtain ⟨b, rfl, hb, hcs⟩ : ∃ g, a = some ⟨g, 0, none⟩ ∧ g < wr.heap.size ∧ ∀ i (h : i < L.length), Cg wr g (i * 3) L[i] := by
        rcases HC.out with e | h
        · subst e; cases hlt
        · exact h
      have d0 := (hcs q hlt).1
      have HS : Hid (L[q].id = i → AtR L i q) := (show _ → _ from fun h => .inr ⟨q, rfl, hlt, h⟩)
      have HN : Hid (L[q].id ≠ i → ∀ j (hj : j < L.length), j < q + 1 → L[j].id ≠ i) := (show _ → _ from fun h j hj hlt' => by
        by_cases e : j = q
        · subst e; exact h
        · exact HP.out j hj (by omega))
      clear HP HC hcs
      generalize L[q].id = Y at *
      cases hEq : (Y == i) with
      | true =>
        have HE : Hid (AtR L i q) := HS.out (by simpa using hEq)
        go_wp2_with fail
        go_ret
        exact ⟨_, rfl, HE.out, rfl⟩
      | false =>
        have HN' : Hid (∀ j (hj : j < L.length), j < q + 1 → L[j].id ≠ i) := HN.out (by simpa using hEq)
        go_wp2_with fail
        go_roundw
        case rel => exact ⟨q + 1, by omega, by go_num, HN', trivial⟩
        case measure => simp [intOf]; omega
    · have e : q = L.length := by omega
      subst e
      have HE : Hid (AtR L i (-1)) := (show AtR _ _ _ from .inl ⟨rfl, no_has HP.out⟩)
      clear HP
      go_wp2_with fail
      go_ret
      exact ⟨_, rfl, HE.out, rfl⟩
set_option maxRecDepth 20000 in
set_option maxHeartbeats 8000000 in
theorem rthere_any {W : World} {rb : Nat} {room : Int} {v : Value} {L : List Gr} (g : Gr) (w : World) (h : RT W rb room v L w) (hL : L.length ≤ 64) (hT : Bs w g.a g.l) (hS : Sm g.l) (hok : rightE g.p = 0) : Calls Tryd.prog 35 #[ptr rb, gV g] w fun e w' => e = .returned (.bool (leadsAll L (g.l.map Bk.b3))) ∧ Below w.heap.size w w' := by
  have HLd : Hid (∀ w1, Below w.heap.size w w1 → Calls Tryd.prog 38 #[gV g] w1 fun e w' => ∃ v, e = .returned v ∧ OwnI w1.heap.size w' v (rawL (g.l.map Bk.b3)) ∧ (rawL (g.l.map Bk.b3)).length ≤ 10000 ∧ Below w1.heap.size w1 w') := (show ∀ w1, _ from fun w1 k => rleads_any g w1 (hT.below k) hS (LO_of hok))
  have HAt : Hid (∀ (i : Int) w1, Below w.heap.size w w1 → Calls Tryd.prog 34 #[ptr rb, .int .i64 i] w1 fun e w' => ∃ m, e = .returned (.int .i64 m) ∧ decide (m < 0) = !hasP L i ∧ w' = w1) := (show ∀ (i : Int) w1, _ from fun i w1 k => by
    refine (rat_any i w1 (h.below k) hL).mono ?_
    rintro e w' ⟨m, rfl, h1, h2⟩
    exact ⟨m, rfl, h1.neg, h2⟩)
  obtain ⟨V, hV⟩ : ∃ V, gx w g = V := ⟨_, rfl⟩
  have GV : Below w.heap.size w V := by rw [← hV]; go_grown
  have hc := Cg.new w g
  rw [hV] at hc
  obtain ⟨k0, k1, k2⟩ := hc
  rw [Nat.zero_add] at k1 k2
  have HV : Hid (w.alloc (.cells #[.int .i64 g.id, .int .i64 g.kd, .slice g.a g.l.length g.c] 33) = V) := hV
  have HLA : Hid (leadsAll L (g.l.map Bk.b3) = (rawL (g.l.map Bk.b3)).all (hasP L)) := (show _ = _ from rfl)
  generalize leadsAll L (g.l.map Bk.b3) = LA at *
  clear h hL hT hS hok hV
  go_enter Tryd.func35, Tryd.ntmps35
  go_wp2_with fail
  rw [HV.out]
  refine (HLd.out V GV).mono ?_
  rintro e w1 ⟨v1, rfl, ho, hn, g1⟩
  have G1 : Below w.heap.size w w1 := btr GV g1 (Nat.le_refl _)
  generalize rawL (g.l.map Bk.b3) = zs at *
  obtain ⟨a, c, e⟩ := own_len_eq ho
  subst e
  have HO : Hid (OwnI V.heap.size w1 (.slice a zs.length c) zs) := ho
  clear ho k0 k1 k2 g1
  go_wp2_with fail
  go_loopw [6] (fun v wr => ∃ q : Nat, q ≤ zs.length ∧ v = .int .i64 q ∧ Hid (∀ j (hj : j < zs.length), j < q → hasP L zs[j] = true) ∧ wr = w1) (fun v _ => zs.length - (intOf v).toNat)
  case atStart => exact ⟨0, Nat.zero_le _, rfl, (show ∀ j (hj : j < zs.length), _ from fun j _ h => by omega), rfl⟩
  case round =>
    obtain ⟨q, hq, rfl, HP, rfl⟩ := hrel
    by_cases hlt : q < zs.length
    · obtain ⟨b, cap, e, hb, hcap, hcell⟩ := own_at HO.out hlt
      cases e
      have HNx : Hid (hasP L zs[q] = true → ∀ i (hi : i < zs.length), i < q + 1 → hasP L zs[i] = true) := (show _ → _ from fun h => all_step (f := hasP L) hlt HP.out h)
      have HS : Hid (hasP L zs[q] = false → LA = false) := (show _ → _ from fun h => by rw [HLA.out]; exact all_stop (f := hasP L) hlt h)
      have HAq : Hid (Calls Tryd.prog 34 #[ptr rb, .int .i64 zs[q]] wr fun e w' => ∃ m, e = .returned (.int .i64 m) ∧ decide (m < 0) = !hasP L zs[q] ∧ w' = wr) := HAt.out _ wr G1
      clear HP HO
      generalize hasP L zs[q] = R at *
      generalize zs[q] = X at *
      go_wp2_with fail
      refine HAq.out.mono ?_
      rintro e w2 ⟨m, rfl, hm, rfl⟩
      cases R with
      | false =>
        have hm' : decide (m < 0) = true := hm
        have HF : Hid (LA = false) := HS.out rfl
        clear hm
        go_wp2_with fail
        go_ret
        exact ⟨by rw [HF.out]; rfl, G1⟩
      | true =>
        have hm' : decide (m < 0) = false := hm
        have HN' : Hid (∀ i (hi : i < zs.length), i < q + 1 → hasP L zs[i] = true) := HNx.out rfl
        clear hm
        go_wp2_with fail
        go_roundw
        case rel => exact ⟨q + 1, by omega, by go_num, HN', trivial⟩
        case measure => simp [intOf]; omega
    · have e : q = zs.length := by omega
      subst e
      have HE : Hid (LA = true) := (show _ = _ by rw [HLA.out]; exact all_end (f := hasP L) HP.out)
      clear HP
      go_wp2_with fail
      go_ret
      exact ⟨by rw [HE.out]; rfl, G1⟩
end Go.Proofs.YteodlkgbakkjmaaDoor

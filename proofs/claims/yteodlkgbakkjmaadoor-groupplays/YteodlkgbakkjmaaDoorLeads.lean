/-
  What leads answers, as a contract: numbers that are just those of the ToGroup actions.
-/
import Derived.Test.YteodlkgbakkjmaaDoorFormR
import Derived.Test.YteodlkgbakkjmaaDoorShelf
import Derived.Sort.OwnSortedInts
namespace Go.Proofs.YteodlkgbakkjmaaDoor
open Go.ChangeShapes Go.WideShapes Go.ChangeAt Go.RowKit Go.Sort
set_option linter.unusedVariables false

/-- The groups that actions lead to. -/
def leadA (a : A) : List Int := if a.1 = 2 then [a.2.2] else []
def rawA (l : List A) : List Int := l.flatMap leadA
def rawL (l : List B3) : List Int := l.flatMap fun b => rawA b.2.2
/-- Whom ToGroup actions name can be a number. -/
def LO (l : List Bk) : Prop := ∀ b ∈ l, ∀ a ∈ b.l, a.1 = 2 → 0 ≤ a.2.2 ∧ a.2.2 < 9223372036854775808
theorem rawA_le : ∀ l : List A, (rawA l).length ≤ l.length
  | [] => Nat.le_refl _
  | a :: l => by
    have := rawA_le l
    unfold rawA at this ⊢
    rw [List.flatMap_cons, List.length_append, List.length_cons]
    have h1 : (leadA a).length ≤ 1 := by unfold leadA; split <;> simp
    omega
theorem rawA_snoc (l : List A) (k : Nat) (h : k < l.length) : rawA (l.take (k + 1)) = rawA (l.take k) ++ leadA l[k] := by
  rw [List.take_succ_eq_append_getElem h]
  unfold rawA
  rw [List.flatMap_append]
  simp only [List.flatMap_cons, List.flatMap_nil, List.append_nil]
theorem rawL_snoc (l : List Bk) (k : Nat) (h : k < l.length) : rawL ((l.take (k + 1)).map Bk.b3) = rawL ((l.take k).map Bk.b3) ++ rawA l[k].l := by
  rw [List.take_succ_eq_append_getElem h, List.map_append]
  unfold rawL
  rw [List.flatMap_append]
  simp only [List.map_cons, List.map_nil, List.flatMap_cons, List.flatMap_nil, List.append_nil]
  rfl
theorem rawL_le : ∀ (l : List Bk) (n : Nat), (∀ b ∈ l, b.l.length ≤ n) → (rawL (l.map Bk.b3)).length ≤ l.length * n
  | [], n, _ => by simp [rawL]
  | b :: l, n, h => by
    have := rawL_le l n (fun x hx => h x (by simp [hx]))
    have h0 := Nat.le_trans (rawA_le b.l) (h b (by simp))
    unfold rawL at this ⊢
    rw [List.map_cons, List.flatMap_cons, List.length_append, List.length_cons, Nat.add_mul, Nat.one_mul]
    have e : b.b3.2.2 = b.l := rfl
    rw [e]
    omega
theorem rawL_take_le (l : List Bk) (h : Sm l) (q : Nat) : (rawL ((l.take q).map Bk.b3)).length ≤ 10000 := by
  have := rawL_le (l.take q) 100 (fun b hb => h.a b (List.mem_of_mem_take hb))
  have h2 : (l.take q).length ≤ 100 := by rw [List.length_take]; have := h.n; omega
  have h3 := Nat.mul_le_mul_right 100 h2
  omega
/-- A slice of numbers that the call has made. -/
abbrev OwnI (base : Nat) (w : World) (v : Value) (zs : List Int) : Prop := w.ownsRow base 3 1 v zs.length (zs.map (Value.int .i64))
theorem infoI : (Tryd.prog.info? 3).map (fun i => (i.zero, i.size, i.bytes)) = some (some (.int .i64 0), 1, 8) := by kernel_rfl
/-- One number is appended. -/
theorem wpList_app1 {w : World} {ops : Array Oper} {rest : List Oper} {o : Oper} {a : Act} {Q : Exit → Act → World → Prop} (hgd : o.guard = none) (s x : Operand)
    (ho : o.op = .call { callee := .builtin .append, args := #[s, x], argTypes := #[65, 65] }) (base : Nat) (v : Value) (zs : List Int) (hs : a.eval s = v) (hown : OwnI base w v zs)
    (g : Nat) (z : Int) (hx : a.eval x = .slice (some ⟨g, 0, none⟩) 1 1) (hc : w.cell? ⟨g, 0, none⟩ = some (.int .i64 z)) (hn : zs.length ≤ 100000) (hbase : base ≤ w.heap.size)
    (h : ∀ v' w', OwnI base w' v' (zs ++ [z]) → w.grownBy w' v.ownBlock → wpList Tryd.prog ops Q rest (a.put o.dst v') w') : wpList Tryd.prog ops Q (o :: rest) a w := by
  obtain ⟨i0, hi, hz0, hz1, hz2⟩ := info_parts infoI
  exact wpList_append_own w hgd s x 65 ho base 3 i0 (.int .i64 0) 1 8 Tryd.underlying65 hi hz0 hz1 hz2 rfl (by decide) v zs.length _ hs hown ⟨g, 0, none⟩ 1 1 [.int .i64 z] hx rfl
    (fun j u hj => by
      cases j with
      | zero => simp at hj; subst hj; rw [addP]; exact hc
      | succ j => simp at hj) (fun u hu => by simp at hu; subst hu; rfl) (by unfold maxLen; omega) (by omega) hbase (fun v' w' h1 h2 _ => h v' w' (by
        unfold OwnI
        rw [List.length_append, List.map_append]
        exact h1) h2)
/-- The row behind a call that has put numbers into it. -/
theorem own_put {w : World} {base g cap n n' : Nat} {os : Array Obj} {cur : Array Value} {d : List Int} (hbase : base ≤ g) (hb : w.heap[g]? = some (.cells cur 3 (0, 0))) (h1 : d.length ≤ cap) (h2 : cap ≤ maxLen) (h3 : cur.size = cap * 1) (hn : n ≤ d.length) :
    (grow (putRow (Value.int .i64) (Sort.ahead w n') g 0 d.toArray) os).ownsRow base 3 1 (.slice (some ⟨g, 0, none⟩) n cap) n ((d.take n).map (Value.int .i64)) := by
  refine ⟨by simp; omega, .inr ⟨g, cap, _, rfl, hbase, heap_sortedI _ hb, by omega, h2, by simp [putCells, h3], ?_⟩⟩
  have := take_putCellsI cur d (by omega)
  rw [Nat.mul_one, List.map_take, ← this, List.take_take]
  congr 1
  omega
theorem compact_mem (d : Array Int) (x : Int) : ∀ m, m ≤ d.size → ((∃ j, j < m ∧ d[j]! = x) ↔ x ∈ Lib.compactUpTo d m)
  | 0, _ => by simp [Lib.compactUpTo]
  | m + 1, hm => by
    rw [Lib.compactUpTo_succ, List.mem_append, ← compact_mem d x m (by omega)]
    constructor
    · rintro ⟨j, hj, e⟩
      by_cases hjm : j < m
      · exact .inl ⟨j, hjm, e⟩
      · have : j = m := by omega
        subst this
        by_cases hk : Lib.keeps d j = true
        · right; simp [hk, e]
        · left
          unfold Lib.keeps at hk
          simp only [decide_eq_true_eq] at hk
          by_cases h0 : j = 0
          · exact absurd (.inl h0) hk
          · refine ⟨j - 1, by omega, ?_⟩
            rw [← e]
            exact Decidable.byContradiction fun hne => hk (.inr fun e2 => hne e2.symm)
    · rintro (⟨j, hj, e⟩ | h)
      · exact ⟨j, by omega, e⟩
      · by_cases hk : Lib.keeps d m = true
        · simp [hk] at h; exact ⟨m, by omega, h.symm⟩
        · simp [hk] at h
theorem compact_all_mem (zs : List Int) (x : Int) : x ∈ Lib.compactUpTo zs.toArray zs.toArray.size ↔ x ∈ zs := by
  rw [← compact_mem zs.toArray x _ (Nat.le_refl _)]
  constructor
  · rintro ⟨j, hj, e⟩
    have hj' : j < zs.length := by simpa using hj
    rw [← e]
    simp [hj']
  · intro h
    obtain ⟨j, hj, e⟩ := List.getElem_of_mem h
    exact ⟨j, by simpa using hj, by simp [hj, e]⟩
theorem compact_len (d : Array Int) : ∀ m, (Lib.compactUpTo d m).length ≤ m
  | 0 => by simp [Lib.compactUpTo]
  | m + 1 => by
    have := compact_len d m
    rw [Lib.compactUpTo_succ, List.length_append]
    split <;> simp <;> omega
/-- slices.Sort, then slices.Compact, of numbers that the call has made. -/
theorem sort_own (base : Nat) (v : Value) (zs : List Int) (w : World) (hown : OwnI base w v zs) (hn : zs.length ≤ 100000) : Calls Tryd.prog 51 #[v] w fun e w' => e = .returned (.tuple #[]) ∧ (∃ ts, OwnI base w' v ts ∧ ts.length = zs.length ∧ ∀ x, x ∈ ts ↔ x ∈ zs) ∧ w.grownBy w' v.ownBlock := by
  rcases hown.2 with ⟨rfl, h0⟩ | ⟨g, cap, cur, rfl, hbg, hb, hnc, hcm, hcs, htk⟩
  · refine (Tryd.slices_Sort_none none 0 w).mono ?_
    rintro e w' ⟨rfl, rfl⟩
    exact ⟨rfl, ⟨zs, hown, rfl, fun x => Iff.rfl⟩, World.grownBy.refl _ _⟩
  · refine (Tryd.slices_Sort_int g 0 cap zs w (holds_of_blockI hb (by simpa using htk)) (Array.getElem?_eq_some_iff.1 hb).1 (by omega)).mono ?_
    rintro e w' ⟨rfl, n, os, rfl⟩
    have hp : (zs.mergeSort fun x y => decide (x ≤ y)).Perm zs := List.mergeSort_perm _ _
    have hl : (zs.mergeSort fun x y => decide (x ≤ y)).length = zs.length := hp.length_eq
    refine ⟨rfl, ⟨_, ?_, hl, fun x => hp.mem_iff⟩, grownBy_sortedI _⟩
    have := ownsRow_sortedI (n := n) (os := os) hl hbg hb hnc hcm hcs
    unfold OwnI
    rw [hl]
    exact this
theorem compact_own (base : Nat) (v : Value) (zs : List Int) (w : World) (hown : OwnI base w v zs) (hn : zs.length ≤ 100000) : Calls Tryd.prog 52 #[v] w fun e w' => ∃ v', e = .returned v' ∧ (∃ ts, OwnI base w' v' ts ∧ ts.length ≤ zs.length ∧ ∀ x, x ∈ ts ↔ x ∈ zs) ∧ w.grownBy w' v.ownBlock := by
  rcases hown.2 with ⟨rfl, h0⟩ | ⟨g, cap, cur, rfl, hbg, hb, hnc, hcm, hcs, htk⟩
  · refine (Tryd.slices_Compact_none none 0 w).mono ?_
    rintro e w' ⟨rfl, rfl⟩
    exact ⟨_, rfl, ⟨zs, hown, Nat.le_refl _, fun x => Iff.rfl⟩, World.grownBy.refl _ _⟩
  · have hc := Tryd.slices_Compact_int g 0 cap zs.toArray w (holds_of_blockI hb (by simpa using htk)) (by simp; omega) (by simpa using hnc)
    rw [show zs.toArray.size = zs.length by simp] at hc
    refine hc.mono ?_
    rintro e w' ⟨rfl, q, rfl⟩
    have hl := compact_len zs.toArray zs.length
    have hm := compact_all_mem zs
    rw [show zs.toArray.size = zs.length by simp] at hm
    generalize Lib.compactUpTo zs.toArray zs.length = ts at hl hm ⊢
    have e1 := grow_empty (putRow encI (Sort.ahead w q) g 0 (ts ++ List.replicate (zs.length - ts.length) 0).toArray)
    rw [← e1]
    refine ⟨_, rfl, ⟨ts, ?_, hl, hm⟩, grownBy_sortedI _⟩
    have := own_put (n := ts.length) (n' := q) (os := #[]) (d := ts ++ List.replicate (zs.length - ts.length) 0) hbg hb (by simp; omega) hcm hcs (by simp)
    rw [List.take_left' rfl] at this
    exact this
/-- A round of leads: what it has made, behind world V. -/
structure LdI (V : World) (v : Value) (zs : List Int) (wr : World) : Prop where
  own : OwnI V.heap.size wr v zs
  bel : Below V.heap.size V wr
theorem LdI.grow {V : World} {v : Value} {zs : List Int} {wr w2 : World} (h : LdI V v zs wr) (g : Below wr.heap.size wr w2) : LdI V v zs w2 :=
  ⟨own_below h.own g, h.bel.trans (g.mono h.bel.size)⟩
theorem LdI.app {V : World} {v v' : Value} {zs ts : List Int} {wr w2 : World} (h : LdI V v zs wr) (k : wr.grownBy w2 v.ownBlock) (o : OwnI V.heap.size w2 v' ts) : LdI V v' ts w2 :=
  ⟨o, h.bel.grown k h.bel.size (fun j hj => (h.own.lt j hj).1)⟩
theorem own_mono {base base' e size n : Nat} {w : World} {v : Value} {xs : List Value} (h : w.ownsRow base e size v n xs) (hb : base' ≤ base) : w.ownsRow base' e size v n xs := by
  rcases h.2 with ⟨h1, h2⟩ | ⟨g, cap, cur, h1, h2, h3⟩
  · exact ⟨h.1, .inl ⟨h1, h2⟩⟩
  · exact ⟨h.1, .inr ⟨g, cap, cur, h1, by omega, h3⟩⟩
set_option maxRecDepth 20000 in
set_option maxHeartbeats 8000000 in
theorem leads_any (g : Gr) (w : World) (hT : Bs w g.a g.l) (hn : Sm g.l) (hLO : LO g.l) : Calls Tryd.prog 31 #[gV g] w fun e w' => ∃ v zs, e = .returned v ∧ OwnI w.heap.size w' v zs ∧ (∀ x, x ∈ zs ↔ x ∈ rawL (g.l.map Bk.b3)) ∧ zs.length ≤ 10000 ∧ Below w.heap.size w w' := by
  obtain ⟨id, kd, ga, l, gc⟩ := g
  simp only at hT hn hLO
  have HN1 : Hid (l.length ≤ 100) := hn.n
  have HN2 : Hid (∀ b ∈ l, b.l.length ≤ 100) := hn.a
  have HNr : Hid (∀ q, (rawL ((l.take q).map Bk.b3)).length ≤ 10000) := (show ∀ q, _ from rawL_take_le l hn)
  obtain ⟨V, hV⟩ : ∃ V, w.alloc (.cells #[.int .i64 id, .int .i64 kd, .slice ga l.length gc] 33) = V := ⟨_, rfl⟩
  have GV : Below w.heap.size w V := by rw [← hV]; go_grown
  have zV : V.heap.size = w.heap.size + 1 := by rw [← hV]; simp
  have cV : Cg V w.heap.size 0 ⟨id, kd, ga, l, gc⟩ := by rw [← hV]; exact Cg.new w ⟨id, kd, ga, l, gc⟩
  have TV : Bs V ga l := hT.below GV
  have HV : Hid (w.alloc (.cells #[.int .i64 id, .int .i64 kd, .slice ga l.length gc] 33) = V) := hV
  have HT : Hid (∀ w', Below V.heap.size V w' → Bs w' ga l ∧ Below w.heap.size w w' ∧ V.heap.size ≤ w'.heap.size ∧ w.heap.size < w'.heap.size) := (show ∀ w', _ from fun w' h => ⟨TV.below h, btr GV h (by omega), h.size, by have := h.size; omega⟩)
  have HZ : Hid (w.heap.size ≤ V.heap.size) := (show _ ≤ _ by omega)
  have HLO : Hid (LO l) := hLO
  have c2 : V.cell? ⟨w.heap.size, 2, none⟩ = some (.slice ga l.length gc) := cV.2.2
  show Calls Tryd.prog 31 #[.agg #[.int .i64 id, .int .i64 kd, .slice ga l.length gc]] w fun e w' => ∃ v zs, e = .returned v ∧ OwnI w.heap.size w' v zs ∧ (∀ x, x ∈ zs ↔ x ∈ rawL (l.map Bk.b3)) ∧ zs.length ≤ 10000 ∧ Below w.heap.size w w'
  clear hT TV cV GV zV hV hn hLO
  go_enter Tryd.func31, Tryd.ntmps31
  go_wp2_with fail
  rw [HV.out]
  clear c2 HV
  go_loopw [3, 11] (fun v3 v wr => ∃ q : Nat, q ≤ l.length ∧ v = .int .i64 q ∧ Hid (LdI V v3 (rawL ((l.take q).map Bk.b3)) wr)) (fun _ v _ => l.length - (intOf v).toNat)
  case atStart => exact ⟨0, Nat.zero_le _, rfl, (show LdI _ _ _ _ from ⟨World.ownsRow_nil _ _ _ _, Below.refl _ _⟩)⟩
  case round =>
    obtain ⟨q, hq, rfl, HI⟩ := hrel
    have hn1 := HN1.out
    obtain ⟨hBs, hw, zr, zr2⟩ := HT.out _ HI.out.bel
    by_cases hlt : q < l.length
    · obtain ⟨b, o, rfl, hb, hc⟩ := hBs.at hlt
      obtain ⟨d0, d1, d2⟩ := hc q hlt
      have hTs := hBs.1 l[q] (List.getElem_mem hlt)
      have hn2 := HN2.out l[q] (List.getElem_mem hlt)
      have HLq : Hid (∀ a ∈ l[q].l, a.1 = 2 → 0 ≤ a.2.2 ∧ a.2.2 < 9223372036854775808) := HLO.out l[q] (List.getElem_mem hlt)
      have HRq : Hid (rawL ((l.take (q + 1)).map Bk.b3) = rawL ((l.take q).map Bk.b3) ++ rawA l[q].l) := rawL_snoc l q hlt
      have HNq : Hid ((rawL ((l.take q).map Bk.b3)).length ≤ 10000) := HNr.out q
      have HTs : Hid (∀ w', Below V.heap.size V w' → Ts w' l[q].a l[q].l) := (show ∀ w', _ from fun w' h => (HT.out w' h).1.1 l[q] (List.getElem_mem hlt))
      clear hc hBs hw hTs
      generalize l[q] = X at *
      obtain ⟨wa, we, xa, xl, xc⟩ := X
      simp only at d0 d1 d2 hn2 HLq HRq HTs
      have HU : Hid (LdI V u3 (rawL ((l.take q).map Bk.b3) ++ rawA (xl.take 0)) (wr.alloc (.cells #[.int .i64 wa, .int .i64 we, .slice xa xl.length xc] 51))) := (show LdI _ _ _ _ by
        rw [List.take_zero]
        simpa [rawA] using HI.out.grow (by go_grown))
      clear HI
      go_wp2_with fail
      go_loopw [3, 18] (fun v3 v wr => ∃ j : Nat, j ≤ xl.length ∧ v = .int .i64 j ∧ Hid (LdI V v3 (rawL ((l.take q).map Bk.b3) ++ rawA (xl.take j)) wr)) (fun _ v _ => xl.length - (intOf v).toNat)
      case atStart => exact ⟨0, Nat.zero_le _, rfl, HU⟩
      case round =>
        obtain ⟨j, hj, rfl, HJ⟩ := hrel
        by_cases hjt : j < xl.length
        · obtain ⟨b2, o2, rfl, hb2, hc2⟩ := (HTs.out _ HJ.out.bel).at hjt
          obtain ⟨e0, e1, e2⟩ := hc2 j hjt
          have hz := HJ.out.bel.size
          have HAq : Hid (rawL ((l.take q).map Bk.b3) ++ rawA (xl.take (j + 1)) = (rawL ((l.take q).map Bk.b3) ++ rawA (xl.take j)) ++ leadA xl[j]) := (show _ = _ by rw [rawA_snoc xl j hjt, List.append_assoc])
          have HLj : Hid (xl[j].1 = 2 → 0 ≤ xl[j].2.2 ∧ xl[j].2.2 < 9223372036854775808) := HLq.out xl[j] (List.getElem_mem hjt)
          have HNj : Hid ((rawL ((l.take q).map Bk.b3) ++ rawA (xl.take j)).length ≤ 100000) := (show _ ≤ _ by
            rw [List.length_append]
            have h1 := HNq.out
            have h2 := rawA_le (xl.take j)
            rw [List.length_take] at h2
            omega)
          clear hc2 HU d0 d1 d2
          generalize xl[j] = Y at *
          obtain ⟨yk, yf, yv⟩ := Y
          simp only at e0 e1 e2 HLj
          by_cases hk : yk = 2
          · have hkb : (yk == 2) = true := by simp [hk]
            have hv := HLj.out hk
            have HA1 : Hid ((rawL ((l.take q).map Bk.b3) ++ rawA (xl.take (j + 1))) = (rawL ((l.take q).map Bk.b3) ++ rawA (xl.take j)) ++ [yv]) := (show _ = _ by rw [HAq.out]; simp [leadA, hk])
            subst hk
            have HJ2 : Hid (LdI V u3 (rawL ((l.take q).map Bk.b3) ++ rawA (xl.take j)) ((wr.alloc (.cells #[.int .i64 2, .int .i64 yf, .int .u64 yv] 62)).alloc (.cells #[.int .i64 yv] 3))) := (show LdI _ _ _ _ from HJ.out.grow (by go_grown))
            clear HJ
            go_wp2_with (at_builtin; refine wpList_app1 rfl _ _ rfl V.heap.size u3 (rawL ((l.take q).map Bk.b3) ++ rawA (xl.take j)) rfl HJ2.out.own (wr.heap.size + 1) yv rfl (by simp) HNj.out HJ2.out.bel.size ?_; intro v' w1 ho hg)
            have HJ3 : Hid (LdI V v' (rawL ((l.take q).map Bk.b3) ++ rawA (xl.take (j + 1))) w1) := (show LdI _ _ _ _ by rw [HA1.out]; exact HJ2.out.app hg ho)
            clear HJ2 ho hg
            go_wp2_with fail
            go_roundw
            case rel => exact ⟨j + 1, by omega, by go_num, HJ3⟩
            case measure => simp [intOf]; omega
          · have hkb : (yk == 2) = false := by simp [hk]
            have HA1 : Hid ((rawL ((l.take q).map Bk.b3) ++ rawA (xl.take (j + 1))) = (rawL ((l.take q).map Bk.b3) ++ rawA (xl.take j))) := (show _ = _ by rw [HAq.out]; simp [leadA, hk])
            have HJ1 : Hid (LdI V u3 (rawL ((l.take q).map Bk.b3) ++ rawA (xl.take (j + 1))) (wr.alloc (.cells #[.int .i64 yk, .int .i64 yf, .int .u64 yv] 62))) := (show LdI _ _ _ _ by rw [HA1.out]; exact HJ.out.grow (by go_grown))
            clear hk
            go_wp2_with fail
            go_roundw
            case rel => exact ⟨j + 1, by omega, by go_num, HJ1⟩
            case measure => simp [intOf]; omega
        · have e : j = xl.length := by omega
          subst e
          have HJ1 : Hid (LdI V u3 (rawL ((l.take (q + 1)).map Bk.b3)) wr) := (show LdI _ _ _ _ by rw [HRq.out]; have := HJ.out; rwa [List.take_length] at this)
          clear HJ HU
          go_wp2_with fail
          go_roundw
          case rel => exact ⟨q + 1, by omega, by go_num, HJ1⟩
          case measure => simp [intOf]; omega
    · have e : q = l.length := by omega
      subst e
      rw [List.take_length] at HI
      have HNq : Hid ((rawL (l.map Bk.b3)).length ≤ 10000) := (show _ ≤ _ by have := HNr.out l.length; rwa [List.take_length] at this)
      clear HNr
      go_wp2_with fail
      refine (sort_own V.heap.size u3 (rawL (l.map Bk.b3)) wr HI.out.own (by have := HNq.out; omega)).mono ?_
      rintro e w1 ⟨rfl, ⟨ts, o1, l1, m1⟩, k1⟩
      have J1 : LdI V u3 ts w1 := HI.out.app k1 o1
      have HJ1 : Hid (LdI V u3 ts w1) := J1
      clear J1 o1 k1
      go_wp2_with fail
      refine (compact_own V.heap.size u3 ts w1 HJ1.out.own (by have := HNq.out; omega)).mono ?_
      rintro e w2 ⟨v', rfl, ⟨zs, o2, l2, m2⟩, k2⟩
      have HJ2 : Hid (LdI V v' zs w2) := HJ1.out.app k2 o2
      clear o2 k2 HJ1
      go_wp2_with fail
      go_ret
      exact ⟨v', zs, rfl, own_mono HJ2.out.own HZ.out, fun x => (m2 x).trans (m1 x), by have := HNq.out; omega, (HT.out _ HJ2.out.bel).2.1⟩
end Go.Proofs.YteodlkgbakkjmaaDoor

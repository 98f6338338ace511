/-
  What slices.DeleteFunc answers of entries, as a contract.
-/
import Derived.Test.YtjjfhibkcngphaaGreatDoorFEnd
import Derived.Lib.SliceRun
namespace Go.Proofs.YtjjfhibkcngphaaGreatDoor
open Go.ChangeShapes Go.WideShapes Go.ChangeAt Go.RowKit
set_option linter.unusedVariables false
set_option linter.unusedSimpArgs false

theorem gby_below {w a b : World} {row : Option Nat} (h : w.grownBy a row) (g : Below a.heap.size a b) : w.grownBy b row :=
  ⟨g.os.trans h.os, g.tape.trans h.tape, g.output.trans h.output, Nat.le_trans h.size g.size, fun k hk hne => (g.block k (Nat.lt_of_lt_of_le hk h.size)).trans (h.block k hk hne)⟩
theorem gby_only {w a b : World} {row : Option Nat} {i : Nat} (h : w.grownBy a row) (g : Only i a b) (hi : w.heap.size ≤ i ∨ row = some i) : w.grownBy b row :=
  ⟨g.os.trans h.os, g.tape.trans h.tape, g.output.trans h.output, by rw [g.size]; exact h.size, fun k hk hne => (g.block k (by
    rcases hi with hi | hi
    · omega
    · intro e; exact hne (by rw [hi, e]))).trans (h.block k hk hne)⟩
theorem gby_of_below {w b : World} (row : Option Nat) (g : Below w.heap.size w b) : w.grownBy b row := gby_below ⟨rfl, rfl, rfl, Nat.le_refl _, fun _ _ _ => rfl⟩ g
theorem gby_trans {w a b : World} {row : Option Nat} (h : w.grownBy a row) (g : a.grownBy b row) : w.grownBy b row :=
  ⟨g.os.trans h.os, g.tape.trans h.tape, g.output.trans h.output, Nat.le_trans h.size g.size, fun k hk hne => (g.block k (Nat.lt_of_lt_of_le hk h.size) hne).trans (h.block k hk hne)⟩
/-- What is asked of a function that is handed on, while the row is written. -/
def AsksR (g : Nat) (lb : Array Value) (q : Fe → Bool) (l : List Fe) (w : World) (row : Option Nat) : Prop :=
  ∀ W x, x ∈ l → w.grownBy W row → Calls Tryz.prog g (#[feV x] ++ lb) W fun e w' => e = .returned (.bool (q x)) ∧ Below W.heap.size W w'
theorem AsksR.plain {g : Nat} {lb : Array Value} {q : Fe → Bool} {l : List Fe} {w : World} {row : Option Nat} (h : AsksR g lb q l w row) : Asks g lb q l w := fun W x hx hb => h W x hx (gby_of_below row hb)
/-- 'clear' of entries. -/
abbrev zeroV : Value := .agg zeroE
theorem zeroFe (w : World) : (zeroValue 40).run Tryz.prog w = .ok zeroV w := by kernel_rfl
theorem zeros_one (n : Nat) : ∀ v ∈ (Builtin.zeroCells zeroV.cells n).toList, v.oneCell' = true := by
  intro v hv
  simp only [Builtin.zeroCells, Array.mem_toList_iff, Array.mem_map] at hv
  obtain ⟨i, _, rfl⟩ := hv
  have h : ∀ k : Fin 10, (zeroE[k]).oneCell' = true := by decide
  have hl : i % 10 < 10 := Nat.mod_lt _ (by decide)
  have h2 := h ⟨i % 10, hl⟩
  show (zeroE[i % 10]!).oneCell' = true
  rw [getElem!_pos zeroE (i % 10) hl]
  exact h2
theorem run_clear10 (w : World) (ty : TypeId) (b o n c : Nat) (hn : 0 < n) (ht : w.there b o (n * 10)) :
    (Builtin.clear_ #[47] ty #[.slice (some ⟨b, o, none⟩) n c]).run Tryz.prog w = .ok (.tuple #[]) (w.setCells b o (Builtin.zeroCells zeroV.cells n).toList) := by
  have hl : (Builtin.zeroCells zeroV.cells n).toList.length = n * 10 := by simp [Builtin.zeroCells, Value.cells]
  have hst := run_storeCells_cells (P := Tryz.prog) b o (Builtin.zeroCells zeroV.cells n).toList 0 w (fun j hj => by rw [Nat.add_zero]; exact (ht j (by omega)).1) (fun j hj => by rw [Nat.add_zero]; exact (ht j (by omega)).2) (zeros_one n)
  simp only [Nat.add_zero] at hst
  obtain ⟨m, rfl⟩ : ∃ m, n = m + 1 := ⟨n - 1, by omega⟩
  simp [Builtin.clear_, run_underlying Tryz.underlying47, hst]
/-- How far the row is written. -/
structure DI (p : Fe → Bool) (l m : List Fe) (i j : Nat) : Prop where
  len : m.length = l.length
  pre : m.take i = (l.take j).filter p
  post : ∀ k, j ≤ k → m[k]? = l[k]?
  lt : i < j
theorem DI.keep {p : Fe → Bool} {l m : List Fe} {i j : Nat} (h : DI p l m i j) (hj : j < l.length) (hp : p l[j] = true) : DI p l (m.set i l[j]) (i + 1) (j + 1) := by
  have hi : i < m.length := by have := h.len; have := h.lt; omega
  refine ⟨by simp [h.len], ?_, ?_, by have := h.lt; omega⟩
  · rw [List.take_succ_eq_append_getElem (by simpa using hi), List.getElem_set_self, List.take_set_of_le (Nat.le_refl _), h.pre, List.take_succ_eq_append_getElem hj, List.filter_append]
    simp [hp]
  · intro k hk
    rw [List.getElem?_set_ne (by have := h.lt; omega)]
    exact h.post k (by omega)
theorem DI.skip {p : Fe → Bool} {l m : List Fe} {i j : Nat} (h : DI p l m i j) (hj : j < l.length) (hp : p l[j] = false) : DI p l m i (j + 1) := by
  refine ⟨h.len, ?_, fun k hk => h.post k (by omega), by have := h.lt; omega⟩
  rw [h.pre, List.take_succ_eq_append_getElem hj, List.filter_append]
  simp [hp]
theorem DI.start {p : Fe → Bool} {l : List Fe} {k : Nat} (hk : k < l.length) (h0 : ∀ j (hj : j < l.length), j < k → p l[j] = true) (h1 : p l[k] = false) : DI p l l k (k + 1) := by
  refine ⟨rfl, ?_, fun _ _ => rfl, by omega⟩
  rw [List.take_succ_eq_append_getElem hk, List.filter_append]
  have : (l.take k).filter p = l.take k := by
    rw [List.filter_eq_self]
    intro x hx
    obtain ⟨j, hj, rfl⟩ := List.mem_iff_getElem.1 hx
    rw [List.length_take] at hj
    rw [List.getElem_take]
    exact h0 j (by omega) (by omega)
  rw [this]; simp [h1]
/-- A row that is cut. -/
theorem OwnE.cut {base : Nat} {w : World} {g cap : Nat} {l : List Fe} (h : w.ownsRow base 40 10 (.slice (some ⟨g, 0, none⟩) l.length cap) l.length (flatE l)) (i : Nat) (hi : i ≤ l.length) (vs : List Value) (hv : i * 10 + vs.length ≤ cap * 10) :
    OwnE base (w.setCells g (i * 10) vs) (.slice (some ⟨g, 0, none⟩) i cap) (l.take i) := by
  rcases h.2 with ⟨h', _⟩ | ⟨g', cap', cur, h', hb, hg, hnc, hcm, hcs, htake⟩
  · simp at h'
  simp only [Value.slice.injEq, Option.some.injEq, Addr.mk.injEq, and_true, true_and] at h'
  obtain ⟨rfl, rfl⟩ := h'
  have hcl : cur.toList.length = cap * 10 := by simpa using hcs
  obtain ⟨cur', h1, h2⟩ := cells_block vs (i * 10) w g cur _ hg (by omega)
  have hti : (l.take i).length = i := by rw [List.length_take]; omega
  unfold OwnE
  rw [hti]
  refine ⟨by rw [flatE_length, hti], .inr ⟨g, cap, cur', rfl, hb, h1, by omega, hcm, ?_, ?_⟩⟩
  · have := congrArg List.length h2
    simp at this
    rw [this]; omega
  · have l1 : (cur.toList.take (i * 10)).length = i * 10 := by rw [List.length_take]; omega
    rw [h2, List.append_assoc, List.take_append, l1, List.take_of_length_le (by omega), Nat.sub_self, List.take_zero, List.append_nil, ← flatE_take, ← htake, List.take_take, Nat.min_eq_left (by omega)]
set_option maxHeartbeats 8000000 in
theorem delFunc_any (g : Nat) (lb : Array Value) (eg : ∀ args w, (callFunc g args).run Tryz.prog w = .ok (.enter g args) w) (q : Fe → Bool) (base : Nat) (v : Value) (l : List Fe) (w : World) (hO : OwnE base w v l) (hl : l.length ≤ 100000) (hp : AsksR g lb q l w v.ownBlock) :
    Calls Tryz.prog 44 #[v, .func (.func g) #[] lb] w fun e w' => ∃ v', e = .returned v' ∧ OwnE base w' v' (l.filter fun x => !q x) ∧ v'.ownBlock = v.ownBlock ∧ w.grownBy w' v.ownBlock := by
  have HI : Hid (Calls Tryz.prog 33 #[v, .func (.func g) #[] lb] w fun e w' => e = .returned (.int .i64 (idxV l q)) ∧ Below w.heap.size w w') := idx_any g lb eg q base v l w hO hl hp.plain
  have hb := idxV_lt l q
  cases hf : l.findIdx? q with
  | none =>
    have e1 : idxV l q = -1 := by unfold idxV; rw [hf]
    rw [e1] at HI
    rw [List.findIdx?_eq_none_iff] at hf
    have e2 : l.filter (fun x => !q x) = l := by rw [List.filter_eq_self]; intro x hx; simp [hf x hx]
    rw [e2]
    have HO : Hid (OwnE base w v l) := hO
    clear hO hp e1 e2 hf hb
    go_enter Tryz.func44, Tryz.ntmps44
    go_wp2_with fail
    refine HI.out.mono ?_
    rintro e w1 ⟨rfl, g1⟩
    go_wp2_with fail
    go_ret
    exact ⟨v, rfl, ownE_below HO.out g1, rfl, gby_of_below _ g1⟩
  | some k0 =>
    have e1 : idxV l q = k0 := by unfold idxV; rw [hf]
    rw [e1] at HI
    rw [List.findIdx?_eq_some_iff_getElem] at hf
    obtain ⟨hk0, hq0, hall⟩ := hf
    have HST : Hid (DI (fun x => !q x) l l k0 (k0 + 1)) := DI.start hk0 (fun j hj h => by simpa using hall j h) (by simp [hq0])
    have hne : l ≠ [] := by intro e; subst e; cases hk0
    obtain ⟨gb, cap, rfl, hbg, hgb, hnc, hcm⟩ := OwnE.form hO hne
    have HO : Hid (OwnE base w (.slice (some ⟨gb, 0, none⟩) l.length cap) l) := hO
    have HP : Hid (AsksR g lb q l w (some gb)) := hp
    have hne1 : ((k0 : Int) == -1) = false := beq_eq_false_iff_ne.2 (by omega)
    unfold maxLen at hcm
    clear hO hp e1 hb hall hq0 hne
    go_enter Tryz.func44, Tryz.ntmps44
    go_wp2_with fail
    refine HI.out.mono ?_
    rintro e w1 ⟨rfl, g1⟩
    have HG1 : Hid (Below w.heap.size w w1) := g1
    clear g1
    go_wp2_with fail
    go_loopw [5, 6, 7] (fun s5 s6 _ wr => ∃ (i j : Nat) (m : List Fe), s5 = .int .i64 i ∧ s6 = .int .i64 j ∧ j ≤ l.length ∧ Hid (DI (fun x => !q x) l m i j) ∧ Hid (wr.ownsRow base 40 10 (.slice (some ⟨gb, 0, none⟩) l.length cap) l.length (flatE m)) ∧ Hid (w.grownBy wr (some gb))) (fun _ s6 _ _ => l.length - (intOf s6).toNat)
    case atStart => exact ⟨k0, k0 + 1, l, rfl, by go_num, by omega, HST, ownE_below HO.out HG1.out, gby_of_below _ HG1.out⟩
    case round =>
      obtain ⟨i, j, m, rfl, rfl, hj, HD, HR, HG⟩ := hrel
      have hml := HD.out.len
      have hij := HD.out.lt
      have zr := HG.out.size
      by_cases hlt : j < l.length
      · have hmj : m[j]'(by omega) = l[j] := by
          have := HD.out.post j (Nat.le_refl _)
          rw [List.getElem?_eq_getElem (by omega), List.getElem?_eq_getElem hlt] at this
          exact Option.some.inj this
        have HB : Hid (Be wr gb (j * 10) l[j]) := (show Be _ _ _ _ by rw [← hmj]; exact OwnE.be hml.symm HR.out j (by omega))
        have HTH : Hid (wr.there gb (i * 10) 10) := OwnE.there hml.symm HR.out i (by omega)
        have hltz : (j : Int) < (l.length : Int) := by omega
        clear hmj
        cases hq : q l[j] with
        | false =>
          have HD2 : Hid (DI (fun x => !q x) l (m.set i l[j]) (i + 1) (j + 1)) := HD.out.keep hlt (by simp [hq])
          go_wp2_with (first
            | (refine load_E rfl (.tmp 24) rfl gb (j * 10) l[j] (by simp [Act.eval, Act.put]) HB.out ?_)
            | (refine store_E rfl (.tmp 7) (.tmp 25) rfl wr.heap.size 0 l[j] rfl rfl (there_new wr zeroE 40) ?_; intro V hV bV tV oV; clear hV; have HBV : Hid (Be V wr.heap.size 0 l[j]) := bV; have HOV : Hid (Only wr.heap.size (wr.alloc (.cells zeroE 40)) V) := oV; have zV : V.heap.size = wr.heap.size + 1 := (by rw [oV.size]; simp); clear bV tV oV)
            | (refine load_E rfl (.tmp 7) rfl wr.heap.size 0 l[j] rfl HBV.out ?_))
          have GV : w.grownBy V (some gb) := gby_only (gby_below HG.out (show Below wr.heap.size wr (wr.alloc (.cells zeroE 40)) by go_grown)) HOV.out (.inl zr)
          have HRV : Hid (V.ownsRow base 40 10 (.slice (some ⟨gb, 0, none⟩) l.length cap) l.length (flatE m)) := (show World.ownsRow _ _ _ _ _ _ _ from own_below HR.out (HOV.out.below (Nat.le_refl _) (show Below wr.heap.size wr (wr.alloc (.cells zeroE 40)) by go_grown)))
          have HC : Hid (Calls Tryz.prog g (#[feV l[j]] ++ lb) V fun e w' => e = .returned (.bool (q l[j])) ∧ Below V.heap.size V w') := HP.out V l[j] (List.getElem_mem _) GV
          rw [hq] at HC
          have HGV : Hid (w.grownBy V (some gb)) := GV
          clear GV hq
          refine HC.out.mono ?_
          rintro e w2 ⟨rfl, g2⟩
          have HR2 : Hid (w2.ownsRow base 40 10 (.slice (some ⟨gb, 0, none⟩) l.length cap) l.length (flatE m)) := (show World.ownsRow _ _ _ _ _ _ _ from own_below HRV.out g2)
          have HG2 : Hid (w.grownBy w2 (some gb)) := gby_below HGV.out g2
          have HB2 : Hid (Be w2 wr.heap.size 0 l[j]) := HBV.out.below (by omega) g2
          clear g2
          go_wp2_with (first
            | (refine load_E rfl (.tmp 7) rfl wr.heap.size 0 l[j] rfl HB2.out ?_)
            | (refine store_E rfl (.tmp 33) (.tmp 32) rfl gb (i * 10) l[j] (by simp [Act.eval, Act.put]) rfl (OwnE.there hml.symm HR2.out i (by omega)) ?_; intro U hU bU tU oU; have HRU : Hid (U.ownsRow base 40 10 (.slice (some ⟨gb, 0, none⟩) l.length cap) l.length (flatE (m.set i l[j]))) := (show World.ownsRow _ _ _ _ _ _ _ from (by rw [hU]; exact OwnE.set hml.symm HR2.out i (by omega) l[j])); have HGU : Hid (w.grownBy U (some gb)) := gby_only HG2.out oU (.inr rfl); clear hU bU tU oU))
          go_roundw
          case rel => exact ⟨i + 1, j + 1, m.set i l[j], by go_num, by go_num, by omega, HD2, HRU, HGU⟩
          case measure => simp [intOf]; omega
        | true =>
          have HD2 : Hid (DI (fun x => !q x) l m i (j + 1)) := HD.out.skip hlt (by simp [hq])
          go_wp2_with (first
            | (refine load_E rfl (.tmp 24) rfl gb (j * 10) l[j] (by simp [Act.eval, Act.put]) HB.out ?_)
            | (refine store_E rfl (.tmp 7) (.tmp 25) rfl wr.heap.size 0 l[j] rfl rfl (there_new wr zeroE 40) ?_; intro V hV bV tV oV; clear hV; have HBV : Hid (Be V wr.heap.size 0 l[j]) := bV; have HOV : Hid (Only wr.heap.size (wr.alloc (.cells zeroE 40)) V) := oV; have zV : V.heap.size = wr.heap.size + 1 := (by rw [oV.size]; simp); clear bV tV oV)
            | (refine load_E rfl (.tmp 7) rfl wr.heap.size 0 l[j] rfl HBV.out ?_))
          have GV : w.grownBy V (some gb) := gby_only (gby_below HG.out (show Below wr.heap.size wr (wr.alloc (.cells zeroE 40)) by go_grown)) HOV.out (.inl zr)
          have HRV : Hid (V.ownsRow base 40 10 (.slice (some ⟨gb, 0, none⟩) l.length cap) l.length (flatE m)) := (show World.ownsRow _ _ _ _ _ _ _ from own_below HR.out (HOV.out.below (Nat.le_refl _) (show Below wr.heap.size wr (wr.alloc (.cells zeroE 40)) by go_grown)))
          have HC : Hid (Calls Tryz.prog g (#[feV l[j]] ++ lb) V fun e w' => e = .returned (.bool (q l[j])) ∧ Below V.heap.size V w') := HP.out V l[j] (List.getElem_mem _) GV
          rw [hq] at HC
          have HGV : Hid (w.grownBy V (some gb)) := GV
          clear GV hq
          refine HC.out.mono ?_
          rintro e w2 ⟨rfl, g2⟩
          have HR2 : Hid (w2.ownsRow base 40 10 (.slice (some ⟨gb, 0, none⟩) l.length cap) l.length (flatE m)) := (show World.ownsRow _ _ _ _ _ _ _ from own_below HRV.out g2)
          have HG2 : Hid (w.grownBy w2 (some gb)) := gby_below HGV.out g2
          clear g2
          go_wp2_with fail
          go_roundw
          case rel => exact ⟨i, j + 1, m, rfl, by go_num, by omega, HD2, HR2, HG2⟩
          case measure => simp [intOf]; omega
      · obtain rfl : j = l.length := by omega
        have hltz : ¬ (l.length : Int) < (l.length : Int) := by omega
        have hth : wr.there gb (i * 10) ((l.length - i) * 10) := by
          intro t ht
          refine ⟨?_, HR.out.frozenAt _⟩
          rw [HR.out.cellAt (i * 10 + t) (by omega)]
          have : i * 10 + t < (flatE m).length := by rw [flatE_length, hml]; omega
          rw [List.getElem?_eq_getElem this]; rfl
        have hcl : ∀ ty, (Builtin.clear_ #[47] ty #[.slice (some ⟨gb, i * 10, none⟩) (l.length - i) (cap - i)]).run Tryz.prog wr = .ok (.tuple #[]) (wr.setCells gb (i * 10) (Builtin.zeroCells zeroV.cells (l.length - i)).toList) := fun ty => run_clear10 wr ty gb (i * 10) (l.length - i) (cap - i) (by omega) hth
        have hci : ¬ (cap = i) := by omega
        have hle : (i : Int) ≤ (l.length : Int) := by omega
        obtain ⟨U, hU⟩ : ∃ U, wr.setCells gb (i * 10) (Builtin.zeroCells zeroV.cells (l.length - i)).toList = U := ⟨_, rfl⟩
        have HRU : Hid (OwnE base U (.slice (some ⟨gb, 0, none⟩) i cap) (m.take i)) := (show World.ownsRow _ _ _ _ _ _ _ from by
          rw [← hU]
          refine OwnE.cut (by rw [hml]; exact HR.out) i (by omega) _ ?_
          simp [Builtin.zeroCells, Value.cells]; omega)
        have HGU : Hid (w.grownBy U (some gb)) := (show World.grownBy _ _ _ by rw [← hU]; exact gby_only HG.out (only_cells gb _ _ _ _ (Only.refl _ _)) (.inr rfl))
        have HE : Hid (m.take i = l.filter fun x => !q x) := (show _ = _ by rw [HD.out.pre, List.take_length])
        rw [hU] at hcl
        clear hU hth
        go_wp2
        go_ret
        exact ⟨.slice (some ⟨gb, 0, none⟩) i cap, rfl, by rw [← HE.out]; exact HRU.out, rfl, HGU.out⟩
end Go.Proofs.YtjjfhibkcngphaaGreatDoor

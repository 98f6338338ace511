/-
  New: what it answers, as a contract.
-/
import Derived.Test.YtcjojcaahpkacaaPutP
namespace Go.Proofs.Ytcjojcaahpkacaa
open Go.ChangeShapes Go.WideShapes Go.ChangeAt Go.RowKit
set_option linter.unusedVariables false

theorem infoE : (Try.prog.info? 65).map (fun i => (i.zero, i.size, i.bytes)) = some (some (.agg (Array.replicate 48 (.int .i64 0))), 48, 384) := by kernel_rfl
/-- A new topology's cells. -/
def topZ (v : Value) : Array Value := (v :: (List.replicate 192 (Value.int .i64 0) ++ [Value.slice none 0 0])).toArray
theorem built_top (b n : Nat) : Try.prog.built 60 [(0, .slice (some ⟨b, 0, none⟩) n n)] = some (topZ (.slice (some ⟨b, 0, none⟩) n n)) := by kernel_rfl
/-- New's ports' cells. -/
def endZ (n : Nat) : Array Value := madeCells (Array.replicate 48 (Value.int .i64 0)) (n * 48)
set_option maxHeartbeats 2000000 in
theorem run_ends (n : Nat) (hn : n ≤ 32) (w : World) : (Instr.makeSlice 54 (.int .i64 n) (.int .i64 n)).run Try.prog w = .ok (.slice (some ⟨w.heap.size, 0, none⟩) n n) (w.alloc (.cells (endZ n) 65)) := by
  obtain ⟨i0, hi, hz0, hz1, hz2⟩ := info_parts infoE
  have := run_make (P := Try.prog) w 54 65 i0 _ Try.underlying54 hi hz0 .i64 .i64 n n (by omega) (by omega) (by rw [hz2]; omega) (by omega)
  rw [hz1] at this
  simp only [Int.toNat_natCast] at this
  exact this
theorem endZ_at (n i : Nat) (h : i < n * 48) : (endZ n)[i]? = some (.int .i64 0) := by
  unfold endZ madeCells
  have h48 : i % 48 < 48 := Nat.mod_lt _ (by decide)
  simp [h, h48]
theorem topZ_list (v : Value) (k : Nat) : (topZ v)[k + 1]? = (List.replicate 192 (Value.int .i64 0) ++ [Value.slice none 0 0])[k]? := by
  unfold topZ
  rw [List.getElem?_toArray, List.getElem?_cons_succ]
theorem topZ_at (v : Value) (o : Nat) (h0 : 1 ≤ o) (h1 : o ≤ 192) : (topZ v)[o]? = some (.int .i64 0) := by
  obtain ⟨k, rfl⟩ : ∃ k, o = k + 1 := ⟨o - 1, by omega⟩
  rw [topZ_list, List.getElem?_append_left (by rw [List.length_replicate]; omega), List.getElem?_replicate, if_pos (by omega)]
theorem topZ_0 (v : Value) : (topZ v)[0]? = some v := by
  unfold topZ
  rw [List.getElem?_toArray, List.getElem?_cons_zero]
theorem topZ_193 (v : Value) : (topZ v)[193]? = some (.slice none 0 0) := by
  rw [show 193 = 192 + 1 from rfl, topZ_list, List.getElem?_append_right (by rw [List.length_replicate]; omega), List.length_replicate]
  rfl
/-- A new topology has no links. -/
theorem Tm.new {w : World} (n : Nat) (h0 : 1 ≤ n) (hn : n ≤ 32) : Tm w.heap.size ((w.alloc (.cells (endZ n) 65)).alloc (.cells (topZ (.slice (some ⟨w.heap.size, 0, none⟩) n n)) 60)) (w.heap.size + 1) w.heap.size (.slice none 0 0) n [] := by
  have e1 : ∀ o, ((w.alloc (.cells (endZ n) 65)).alloc (.cells (topZ (.slice (some ⟨w.heap.size, 0, none⟩) n n)) 60)).cell? ⟨w.heap.size + 1, o, none⟩ = (topZ (.slice (some ⟨w.heap.size, 0, none⟩) n n))[o]? := fun o => by
    have h : ((w.alloc (.cells (endZ n) 65)).alloc (.cells (topZ (.slice (some ⟨w.heap.size, 0, none⟩) n n)) 60)).heap[w.heap.size + 1]? = some (.cells (topZ (.slice (some ⟨w.heap.size, 0, none⟩) n n)) 60 (0, 0)) := by simpa using heap_alloc_new (w.alloc (.cells (endZ n) 65)) (.cells (topZ (.slice (some ⟨w.heap.size, 0, none⟩) n n)) 60)
    exact cell_of_row _ _ _ _ _ _ h
  have e2 : ∀ o, ((w.alloc (.cells (endZ n) 65)).alloc (.cells (topZ (.slice (some ⟨w.heap.size, 0, none⟩) n n)) 60)).cell? ⟨w.heap.size, o, none⟩ = (endZ n)[o]? := fun o => by
    have h : ((w.alloc (.cells (endZ n) 65)).alloc (.cells (topZ (.slice (some ⟨w.heap.size, 0, none⟩) n n)) 60)).heap[w.heap.size]? = some (.cells (endZ n) 65 (0, 0)) := (heap_alloc_old _ _ (by simp)).trans (heap_alloc_new w _)
    exact cell_of_row _ _ _ _ _ _ h
  refine ⟨(e1 0).trans (topZ_0 _), (e1 193).trans (topZ_193 _), fun h hh => ?_, fun s p hs hp => ?_, World.ownsRow_nil _ _ _ _, by omega, by omega, by simp, by simp; omega, by omega, by simp [Value.ownBlock], by simp [Value.ownBlock], fun o => by simp, fun o => by simp, h0, hn⟩
  · exact ⟨(e1 _).trans (topZ_at _ _ (by omega) (by omega)), (e1 _).trans (topZ_at _ _ (by omega) (by omega)), (e1 _).trans (topZ_at _ _ (by omega) (by omega))⟩
  · exact ⟨(e2 _).trans (endZ_at _ _ (by omega)), (e2 _).trans (endZ_at _ _ (by omega)), (e2 _).trans (endZ_at _ _ (by omega))⟩
theorem wpList_built {w : World} {ops : Array Oper} {rest : List Oper} {o : Oper} {a : Go.Act} {Q : Exit → Go.Act → World → Prop} (hgd : o.guard = none) (x : Operand) (ho : o.op = .build 60 #[(0, x)]) (b n : Nat) (hx : a.eval x = .slice (some ⟨b, 0, none⟩) n n)
    (h : wpList Try.prog ops Q rest (a.put o.dst (.agg (topZ (.slice (some ⟨b, 0, none⟩) n n)))) w) : wpList Try.prog ops Q (o :: rest) a w := by
  refine wpList_plain hgd fun K hK => wp_build _ _ ho ?_ ?_
  · simp [hx, built_top]
  · simp only [List.map_toArray, List.map_cons, List.map_nil, hx, built_top, Option.getD_some]
    exact hK _ _ h
theorem newVar_top (v : Value) (w : World) : (Instr.box 60 (.agg (topZ v))).run Try.prog w = .ok (.pointer (some ⟨w.heap.size, 0, none⟩)) (w.alloc (.cells (topZ v) 60)) := by
  unfold Instr.box newVar
  simp [newRow, Value.cells]
theorem wpList_ends {w : World} {ops : Array Oper} {rest : List Oper} {o : Oper} {a : Go.Act} {Q : Exit → Go.Act → World → Prop} (hgd : o.guard = none) (x y : Operand) (ho : o.op = .makeSlice 54 x y) (n : Nat) (hn : n ≤ 32) (hx : a.eval x = .int .i64 n) (hy : a.eval y = .int .i64 n)
    (h : wpList Try.prog ops Q rest (a.put o.dst (.slice (some ⟨w.heap.size, 0, none⟩) n n)) (w.alloc (.cells (endZ n) 65))) : wpList Try.prog ops Q (o :: rest) a w := by
  refine wpList_plain hgd fun K hK => ?_
  unfold Oper.wp execOp
  simp only [ho, hx, hy, Sem.run_bind, run_ends n hn, Result.andThen_ok]
  exact hK _ _ h
theorem wpList_boxed {w : World} {ops : Array Oper} {rest : List Oper} {o : Oper} {a : Go.Act} {Q : Exit → Go.Act → World → Prop} (hgd : o.guard = none) (x : Operand) (ho : o.op = .box 60 x) (v : Value) (hx : a.eval x = .agg (topZ v))
    (h : wpList Try.prog ops Q rest (a.put o.dst (.pointer (some ⟨w.heap.size, 0, none⟩))) (w.alloc (.cells (topZ v) 60))) : wpList Try.prog ops Q (o :: rest) a w := by
  refine wpList_plain hgd fun K hK => ?_
  unfold Oper.wp execOp
  simp only [ho, hx, Sem.run_bind, newVar_top, Result.andThen_ok]
  exact hK _ _ h
/-- A float is stored in one cell. -/
theorem stored_float (c : Nat) : ∀ (w : World) (a : Addr) (m : Mode), (store a (.float .f64 c) m).run Try.prog w = stored Try.prog w a (.float .f64 c) m := fun w a m => run_store Try.prog w a _ m rfl
/-- New, between two rounds. -/
structure NwI (w : World) (n : Nat) (l : List Lk) (k : Nat) (wr : World) : Prop where
  tm : ∃ cv, Tm w.heap.size wr (w.heap.size + 1) w.heap.size cv n (l.take k)
  bel : Below w.heap.size w wr
  good : goodF n [] (l.take k) = true
/-- What New answers. -/
def NwR (w : World) (n : Int) (l : List Lk) (r : Ending) (w' : World) : Prop :=
  Below w.heap.size w w' ∧ ((goodB n l = true ∧ (∃ cv, ∃ N : Nat, (N : Int) = n ∧ Tm w.heap.size w' (w.heap.size + 1) w.heap.size cv N l) ∧ r = .returned (.tuple #[.pointer (some ⟨w.heap.size + 1, 0, none⟩), .int .i64 0])) ∨ (goodB n l = false ∧ r = .returned (.tuple #[.pointer none, .int .i64 42])))
set_option maxRecDepth 20000 in
set_option maxHeartbeats 4000000 in
theorem new_any (n : Int) (a : Option Addr) (l : List Lk) (cap : Nat) (w : World) (hl : Ls w a l) (hlen : l.length ≤ 100) :
    Calls Try.prog 10 #[.int .i64 n, .slice a l.length cap] w fun r w' => NwR w n l r w' := by
  cases h1 : inB n 1 32
  · have hno : Hid (∀ w', Below w.heap.size w w' → NwR w n l (.returned (.tuple #[.pointer none, .int .i64 42])) w') := (show ∀ w', _ from fun w' g => ⟨g, .inr ⟨by unfold goodB; rw [h1]; rfl, rfl⟩⟩)
    have H1 : Hid (inB n 1 32 = false) := h1
    clear h1 hl
    go_enter Try.func10, Try.ntmps10
    go_wp2_with (go_at_call 27; refine (within_any _ _ _ _).mono ?_; rw [H1.out]; rintro r w' ⟨rfl, rfl⟩)
    go_ret2
    exact hno.out _ (Below.refl _ _)
  by_cases h2 : l.length ≤ 64
  · obtain ⟨n0, n32⟩ := inB_true.1 h1
    obtain ⟨N, rfl⟩ : ∃ N : Nat, n = (N : Int) := ⟨n.toNat, by omega⟩
    have hN0 : 1 ≤ N := by omega
    have hN : N ≤ 32 := by omega
    have H1 : Hid (inB (N : Int) 1 32 = true) := h1
    have HL : Hid (Ls w a l) := hl
    have hno : Hid (∀ w', goodF N [] l = false → Below w.heap.size w w' → NwR w N l (.returned (.tuple #[.pointer none, .int .i64 42])) w') := (show ∀ w', _ from fun w' hb g => ⟨g, .inr ⟨by unfold goodB; rw [hb, Bool.and_false], rfl⟩⟩)
    have hyes : Hid (∀ w', goodF N [] l = true → Below w.heap.size w w' → (∃ cv, Tm w.heap.size w' (w.heap.size + 1) w.heap.size cv N l) → NwR w N l (.returned (.tuple #[.pointer (some ⟨w.heap.size + 1, 0, none⟩), .int .i64 0])) w') := (show ∀ w', _ from fun w' hb g ⟨cv, ht⟩ => ⟨g, .inl ⟨by unfold goodB; rw [hb, h1, decide_eq_true h2]; rfl, ⟨cv, N, rfl, ht⟩, rfl⟩⟩)
    clear h1 hl n0 n32
    go_enter Try.func10, Try.ntmps10
    go_wp2_with (first | (go_at_call 27; refine (within_any _ _ _ _).mono ?_; rw [H1.out]; rintro r u ⟨rfl, z⟩; obtain rfl : w = u := z.symm; clear z) | (at_make; refine wpList_ends rfl _ _ rfl N hN rfl rfl ?_; refine wpList_built rfl _ rfl w.heap.size N rfl ?_; refine wpList_boxed rfl _ rfl (.slice (some ⟨w.heap.size, 0, none⟩) N N) rfl ?_))
    obtain ⟨U, hU⟩ : ∃ U, (w.alloc (.cells (endZ N) 65)).alloc (.cells (topZ (.slice (some ⟨w.heap.size, 0, none⟩) N N)) 60) = U := ⟨_, rfl⟩
    have H0 : Hid (NwI w N l 0 U) := (show NwI _ _ _ _ _ by
      rw [← hU]
      exact ⟨⟨_, by rw [List.take_zero]; exact Tm.new N hN0 hN⟩, by go_grown, by rw [List.take_zero]; rfl⟩)
    rw [hU]
    clear hU
    go_loopw [23] (fun v23 wr => ∃ k : Nat, k ≤ l.length ∧ v23 = .int .i64 k ∧ Hid (NwI w N l k wr)) (fun v23 _ => l.length - (intOf v23).toNat)
    case atStart => exact ⟨0, Nat.zero_le _, rfl, H0⟩
    case round =>
      obtain ⟨k, hk, rfl, HI⟩ := hrel
      by_cases hlt : k < l.length
      · obtain ⟨g, o, rfl, hg, hc⟩ := (HL.out).at hlt
        have hgw : g < wr.heap.size := Nat.lt_of_lt_of_le hg HI.out.bel.size
        obtain ⟨c0, c1, c2, c3, c4⟩ := (hc k hlt).below hg HI.out.bel
        obtain ⟨x, hx⟩ : ∃ x, l[k] = x := ⟨_, rfl⟩
        rw [hx] at c0 c1 c2 c3 c4
        have HX : Hid (l[k] = x) := hx
        have fo := stored_float x.c
        clear hc hx
        obtain ⟨V, hV⟩ : ∃ V, lx wr x = V := ⟨_, rfl⟩
        have hc5 := C5.new wr x
        have gV : Below wr.heap.size wr V := by rw [← hV]; go_grown
        have zV : wr.heap.size < V.heap.size := by rw [← hV]; simp
        rw [hV] at hc5
        obtain ⟨cv, htm⟩ := HI.out.tm
        have HTM : Hid (Tm w.heap.size V (w.heap.size + 1) w.heap.size cv N (l.take k)) := htm.below gV
        have HG : Hid (Below w.heap.size w V) := (show Below _ _ _ from HI.out.bel.trans (gV.mono HI.out.bel.size))
        have HX5 : Hid (∀ w', Below V.heap.size V w' → C5 w' wr.heap.size 0 x ∧ Below w.heap.size w w') := (show ∀ w', _ from fun w' g => ⟨hc5.below zV g, HG.out.trans (g.mono (Nat.le_trans HI.out.bel.size (Nat.le_of_lt zV)))⟩)
        have HM : Hid (∀ b, mayB N x = b → Calls Try.prog 28 #[.pointer (some ⟨w.heap.size + 1, 0, none⟩), lkV x] V fun r w' => r = .returned (.bool b) ∧ Below V.heap.size V w') := (show ∀ b, _ from fun b hb => by subst hb; exact may_any HTM.out x)
        have HK : Hid (∀ b w', takX N (l.take k) x = b → mayB N x = true → Below V.heap.size V w' → Calls Try.prog 29 #[.pointer (some ⟨w.heap.size + 1, 0, none⟩), lkV x] w' fun r w'' => r = .returned (.bool b) ∧ Below w'.heap.size w' w'') := (show ∀ b w', _ from fun b w' hb hm g => by
          subst hb
          refine taken_any (HTM.out.below g) x (may_b hm) ?_
          obtain ⟨_, _, _, h | h⟩ := mayB_true hm <;> omega)
        have HE : Hid (mayB N x = true → takX N (l.take k) x = takenB (l.take k) x) := (show _ → _ from fun hm => takX_eq HI.out.good hm)
        have HBad : Hid ((mayB N x && !takenB (l.take k) x) = false → goodF N [] l = false) := (show _ → _ from fun h => bad_at k hlt (by rw [HX.out]; exact h))
        have HV : Hid (wr.alloc (.cells #[.int .i64 x.a, .int .i64 x.p, .int .i64 x.b, .int .i64 x.q, .float .f64 x.c] 52) = V) := hV
        clear hV hc5 gV zV htm
        cases hm : mayB N x
        · have HQ : Hid (goodF N [] l = false) := (show _ = _ from HBad.out (by rw [hm]; rfl))
          have HC := HM.out false hm
          clear hm
          go_wp2_with fail
          rw [HV.out]
          refine HC.mono ?_
          rintro r w1 ⟨rfl, g1⟩
          have H1 : Hid (Below w.heap.size w w1) := (HX5.out _ g1).2
          clear g1 HC c0 c1 c2 c3 c4
          go_wp2
          go_ret2
          exact hno.out _ HQ.out H1.out
        have hBM : Hid (mayB N x = true) := hm
        have HC := HM.out true hm
        clear hm
        cases ht : takX N (l.take k) x
        · have HNT : Hid (takenB (l.take k) x = false) := (show _ = _ by rw [← HE.out hBM.out]; exact ht)
          have HT := HK.out false
          have HT2 : Hid (∀ w', Below V.heap.size V w' → Calls Try.prog 29 #[.pointer (some ⟨w.heap.size + 1, 0, none⟩), lkV x] w' fun r w'' => r = .returned (.bool false) ∧ Below w'.heap.size w' w'') := (show ∀ w', _ from fun w' g => HT w' ht hBM.out g)
          clear ht HT
          go_wp2_with fail
          rw [HV.out]
          refine HC.mono ?_
          rintro r w1 ⟨rfl, g1⟩
          clear HC c0 c1 c2 c3 c4
          have G1 : Hid (Below V.heap.size V w1) := g1
          clear g1
          obtain ⟨⟨c0, c1, c2, c3, c4⟩, _⟩ := HX5.out _ G1.out
          go_wp2_with fail
          refine (HT2.out _ G1.out).mono ?_
          rintro r w2 ⟨rfl, g2⟩
          have G2 : Hid (Below V.heap.size V w2) := (show Below _ _ _ from btr G1.out g2 (Nat.le_refl _))
          clear g2 c0 c1 c2 c3 c4
          obtain ⟨⟨c0, c1, c2, c3, c4⟩, b2⟩ := HX5.out _ G2.out
          have HB2 : Hid (Below w.heap.size w w2) := b2
          clear b2
          go_wp2_with fail
          refine (put_any (HTM.out.below G2.out) (by rw [List.length_take]; omega) HI.out.good x hBM.out HNT.out).mono ?_
          rintro r w3 ⟨rfl, cv', tm3, g3⟩
          have HN : Hid (NwI w N l (k + 1) w3) := (show NwI _ _ _ _ _ by
            have e : l.take (k + 1) = l.take k ++ [x] := by rw [List.take_succ_eq_append_getElem hlt, HX.out]
            exact ⟨⟨cv', by rw [e]; exact tm3⟩, HB2.out.trans g3, by rw [e, good_snoc, HI.out.good, hBM.out, HNT.out]; rfl⟩)
          clear tm3 g3 c0 c1 c2 c3 c4
          go_wp2
          go_roundw
          case rel => exact ⟨k + 1, by omega, by go_num, HN⟩
          case measure => simp [intOf]; omega
        · have HQ : Hid (goodF N [] l = false) := (show _ = _ from HBad.out (by rw [← HE.out hBM.out, ht, hBM.out]; rfl))
          have HT := HK.out true
          have HT2 : Hid (∀ w', Below V.heap.size V w' → Calls Try.prog 29 #[.pointer (some ⟨w.heap.size + 1, 0, none⟩), lkV x] w' fun r w'' => r = .returned (.bool true) ∧ Below w'.heap.size w' w'') := (show ∀ w', _ from fun w' g => HT w' ht hBM.out g)
          clear ht HT
          go_wp2_with fail
          rw [HV.out]
          refine HC.mono ?_
          rintro r w1 ⟨rfl, g1⟩
          clear HC c0 c1 c2 c3 c4
          have G1 : Hid (Below V.heap.size V w1) := g1
          clear g1
          obtain ⟨⟨c0, c1, c2, c3, c4⟩, _⟩ := HX5.out _ G1.out
          go_wp2_with fail
          refine (HT2.out _ G1.out).mono ?_
          rintro r w2 ⟨rfl, g2⟩
          have H2 : Hid (Below w.heap.size w w2) := (HX5.out _ (btr G1.out g2 (Nat.le_refl _))).2
          clear g2 c0 c1 c2 c3 c4
          go_wp2
          go_ret2
          exact hno.out _ HQ.out H2.out
      · have e : l.take k = l := List.take_of_length_le (by omega)
        have HF : Hid (goodF N [] l = true ∧ Below w.heap.size w wr ∧ ∃ cv, Tm w.heap.size wr (w.heap.size + 1) w.heap.size cv N l) := (show _ ∧ _ ∧ _ by
          obtain ⟨h1, h2, h3⟩ := HI.out
          rw [e] at h1 h3
          exact ⟨h3, h2, h1⟩)
        clear e
        go_wp2
        go_ret2
        exact hyes.out _ HF.out.1 HF.out.2.1 HF.out.2.2
  · have hno : Hid (∀ w', Below w.heap.size w w' → NwR w n l (.returned (.tuple #[.pointer none, .int .i64 42])) w') := (show ∀ w', _ from fun w' g => ⟨g, .inr ⟨by unfold goodB; rw [decide_eq_false h2]; simp, rfl⟩⟩)
    have H1 : Hid (inB n 1 32 = true) := h1
    clear h1 hl
    go_enter Try.func10, Try.ntmps10
    go_wp2_with (go_at_call 27; refine (within_any _ _ _ _).mono ?_; rw [H1.out]; rintro r w' ⟨rfl, rfl⟩)
    go_ret2
    exact hno.out _ (Below.refl _ _)
end Go.Proofs.Ytcjojcaahpkacaa

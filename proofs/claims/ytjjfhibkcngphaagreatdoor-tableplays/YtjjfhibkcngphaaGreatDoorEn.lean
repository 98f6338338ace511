/-
  Entries as the program has them: values, cells; when one is right; what isTable, mayGo and Right answer, as contracts.
-/
import Derived.Test.YtjjfhibkcngphaaGreatDoorEnc
namespace Go.Proofs.YtjjfhibkcngphaaGreatDoor
open Go.ChangeShapes Go.WideShapes Go.ChangeAt Go.RowKit

/-- What an entry does. -/
structure Sp where
  tab : Int
  la : List A
  lw : List A
  clr : Bool
  mt : Int
  mm : Int
  met : Int
  go : Int
/-- An entry as it lies in memory. -/
structure En where
  tab : Int
  pri : Int
  ta : Option Addr
  tl : Nat
  tc : Nat
  aa : Option Addr
  la : List A
  ca : Nat
  aw : Option Addr
  lw : List A
  cw : Nat
  clr : Bool
  mt : Int
  mm : Int
  met : Int
  go : Int
def En.sp (x : En) : Sp := ⟨x.tab, x.la, x.lw, x.clr, x.mt, x.mm, x.met, x.go⟩
/-- Its value, its cells, and that they lie in block b. -/
abbrev enV (x : En) : Value := .agg #[.int .i64 x.tab, .int .i64 x.pri, .slice x.ta x.tl x.tc, .slice x.aa x.la.length x.ca, .slice x.aw x.lw.length x.cw, .bool x.clr, .int .u64 x.mt, .int .u64 x.mm, .int .i64 x.met, .int .i64 x.go]
abbrev enC (x : En) : Array Value := #[.int .i64 x.tab, .int .i64 x.pri, .slice x.ta x.tl x.tc, .slice x.aa x.la.length x.ca, .slice x.aw x.lw.length x.cw, .bool x.clr, .int .u64 x.mt, .int .u64 x.mm, .int .i64 x.met, .int .i64 x.go]
abbrev ex (w : World) (x : En) : World := w.alloc (.cells (enC x) 40)
abbrev Bn (w : World) (b : Nat) (x : En) : Prop :=
  w.cell? ⟨b, 0, none⟩ = some (.int .i64 x.tab) ∧ w.cell? ⟨b, 1, none⟩ = some (.int .i64 x.pri) ∧ w.cell? ⟨b, 2, none⟩ = some (.slice x.ta x.tl x.tc) ∧ w.cell? ⟨b, 3, none⟩ = some (.slice x.aa x.la.length x.ca) ∧ w.cell? ⟨b, 4, none⟩ = some (.slice x.aw x.lw.length x.cw) ∧ w.cell? ⟨b, 5, none⟩ = some (.bool x.clr) ∧ w.cell? ⟨b, 6, none⟩ = some (.int .u64 x.mt) ∧ w.cell? ⟨b, 7, none⟩ = some (.int .u64 x.mm) ∧ w.cell? ⟨b, 8, none⟩ = some (.int .i64 x.met) ∧ w.cell? ⟨b, 9, none⟩ = some (.int .i64 x.go)
theorem Bn.new (w : World) (x : En) : Bn (ex w x) w.heap.size x := by unfold Bn ex; simp
theorem Bn.block {w w' : World} {b : Nat} {x : En} (h : Bn w b x) (g : w'.heap[b]? = w.heap[b]?) : Bn w' b x := by
  obtain ⟨h0, h1, h2, h3, h4, h5, h6, h7, h8, h9⟩ := h
  have e : ∀ o, w'.cell? ⟨b, o, none⟩ = w.cell? ⟨b, o, none⟩ := fun o => World.cell?_of_block (w := w) g
  exact ⟨(e _).trans h0, (e _).trans h1, (e _).trans h2, (e _).trans h3, (e _).trans h4, (e _).trans h5, (e _).trans h6, (e _).trans h7, (e _).trans h8, (e _).trans h9⟩
theorem Bn.below {w w' : World} {b B : Nat} {x : En} (h : Bn w b x) (hb : b < B) (g : Below B w w') : Bn w' b x := h.block (g.block b hb)
theorem Bn.gr {W : World} {b : Nat} {x : En} (h : Bn W b x) (hb : b < W.heap.size) (n : GrT W) : Bn n.w b x := h.below hb n.h
theorem loadE (w : World) (b : Nat) (x : En) (h : Bn w b x) : (loadVar 40 ⟨b, 0, none⟩).run Tryz.prog w = .ok (enV x) w := by
  obtain ⟨h0, h1, h2, h3, h4, h5, h6, h7, h8, h9⟩ := h
  simp [go_sem, *]
theorem resE {fn : Func} {t : Tmp} (h : fn.results = #[.cell t 40]) {tmps : Array Value} {w : World} {b : Nat} {x : En} (ht : tmps.getD t undef = .pointer (some ⟨b, 0, none⟩)) (hs : Bn w b x) :
    (results fn tmps).run Tryz.prog w = .ok (enV x) w := by
  have ht' : tmps[t]?.getD undef = .pointer (some ⟨b, 0, none⟩) := by simpa using ht
  simp [results, h, ht', asAddr, loadE w b x hs]
theorem resEe {fn : Func} {t u : Tmp} (h : fn.results = #[.cell t 40, .tmp u]) {tmps : Array Value} {w : World} {b : Nat} {x : En} (ht : tmps.getD t undef = .pointer (some ⟨b, 0, none⟩)) (hs : Bn w b x) :
    (results fn tmps).run Tryz.prog w = .ok (.tuple #[enV x, tmps.getD u undef]) w := by
  have ht' : tmps[t]?.getD undef = .pointer (some ⟨b, 0, none⟩) := by simpa using ht
  simp [results, h, ht', asAddr, loadE w b x hs]
/-- Its actions lie in memory, and are few. -/
structure EW (w : World) (x : En) : Prop where
  a : Ts w x.aa x.la
  w : Ts w x.aw x.lw
  na : x.la.length ≤ 1000
  nw : x.lw.length ≤ 1000
theorem EW.below {w w' : World} {x : En} (h : EW w x) (g : Below w.heap.size w w') : EW w' x := ⟨h.a.below g, h.w.below g, h.na, h.nw⟩
theorem EW.alloc {w : World} {x : En} (h : EW w x) (o : Obj) : EW (w.alloc o) x := h.below (by go_grown)
/-- Whether there is such a table, whether one may go to another one; what is wrong with what an entry does. -/
def tabB (n : Int) : Bool := decide (0 ≤ n) && decide (n < 8)
def goB (f t : Int) : Bool := t == 0 || (decide (f < t) && tabB t)
def metB (n : Int) : Bool := decide (n < 0) || decide (16 < n)
def rightX (s : Sp) : Int :=
  if tabB s.tab = false then 26 else if encodeE s.la ≠ 0 then encodeE s.la else if encodeE s.lw ≠ 0 then encodeE s.lw
  else if metB s.met = true then 25 else if bits .andNot .u64 s.mt s.mm ≠ 0 then 23 else if goB s.tab s.go = false then 23 else 0
set_option maxHeartbeats 400000 in
theorem isTable_any (n : Int) (w : World) : Calls Tryz.prog 69 #[.int .i64 n] w fun e w' => e = .returned (.bool (tabB n)) ∧ w' = w := by
  unfold tabB
  by_cases h1 : 0 ≤ n <;> by_cases h2 : n < 8 <;>
  · go_enter Tryz.func69, Tryz.ntmps69
    go_wp2
    go_ret
    simp [h1, h2]
set_option maxHeartbeats 1000000 in
theorem mayGo_any (f t : Int) (w : World) : Calls Tryz.prog 71 #[.int .i64 f, .int .i64 t] w fun e w' => e = .returned (.bool (goB f t)) ∧ w' = w := by
  have HT : Hid (∀ w, Calls Tryz.prog 69 #[.int .i64 t] w fun e w' => e = .returned (.bool (tabB t)) ∧ w' = w) := (show ∀ w, _ from fun w => isTable_any t w)
  unfold goB
  cases h0 : (t == 0) with
  | true =>
    go_enter Tryz.func71, Tryz.ntmps71
    go_wp2_with fail
    go_ret
    exact ⟨rfl, rfl⟩
  | false =>
    cases h1 : decide (f < t) with
    | false =>
      go_enter Tryz.func71, Tryz.ntmps71
      go_wp2_with fail
      go_ret
      exact ⟨rfl, rfl⟩
    | true =>
      generalize tabB t = B at *
      go_enter Tryz.func71, Tryz.ntmps71
      go_wp2_with fail
      refine (HT.out _).mono ?_
      rintro r w1 ⟨rfl, rfl⟩
      go_wp2_with fail
      go_ret
      exact ⟨rfl, rfl⟩
set_option maxHeartbeats 4000000 in
theorem rightX_any (x : En) (w : World) (h : EW w x) (hd : Cd w) : Calls Tryz.prog 51 #[enV x] w fun e w' => e = .returned (.int .i64 (rightX x.sp)) ∧ Below w.heap.size w w' := by
  have HT : Hid (∀ w, Calls Tryz.prog 69 #[.int .i64 x.tab] w fun e w' => e = .returned (.bool (tabB x.tab)) ∧ w' = w) := (show ∀ w, _ from fun w => isTable_any _ w)
  have HG : Hid (∀ w, Calls Tryz.prog 71 #[.int .i64 x.tab, .int .i64 x.go] w fun e w' => e = .returned (.bool (goB x.tab x.go)) ∧ w' = w) := (show ∀ w, _ from fun w => mayGo_any _ _ w)
  have H1 : Hid (Calls Tryz.prog 70 #[.slice x.aa x.la.length x.ca] (ex w x) fun e w' => e = .returned (.tuple #[.string (encodeS x.la), .int .i64 (encodeE x.la)]) ∧ Below (w.heap.size + 1) (ex w x) w') := (show Calls _ _ _ _ _ from by
    have := encode_any x.aa x.la x.ca (ex w x) (h.a.alloc _) h.na (hd.alloc _)
    simpa using this)
  have H2 : Hid (∀ w1, Below (w.heap.size + 1) (ex w x) w1 → Calls Tryz.prog 70 #[.slice x.aw x.lw.length x.cw] w1 fun e w' => e = .returned (.tuple #[.string (encodeS x.lw), .int .i64 (encodeE x.lw)]) ∧ Below w1.heap.size w1 w') := (show ∀ w1, _ from fun w1 g => by
    have g' : Below (ex w x).heap.size (ex w x) w1 := by simpa using g
    exact encode_any x.aw x.lw x.cw w1 ((h.w.alloc _).below g') h.nw ((hd.alloc _).below g'))
  have HB : Hid (∀ w1, Below (w.heap.size + 1) (ex w x) w1 → Bn w1 w.heap.size x) := (show ∀ w1, _ from fun w1 g => (Bn.new w x).below (by omega) g)
  have HC : Hid (∀ w1, Below (w.heap.size + 1) (ex w x) w1 → Below w.heap.size w w1) := (show ∀ w1, _ from fun w1 g => (show Below w.heap.size w (ex w x) by go_grown).trans (g.mono (by omega)))
  have HR : Hid (rightX x.sp = if tabB x.tab = false then 26 else if encodeE x.la ≠ 0 then encodeE x.la else if encodeE x.lw ≠ 0 then encodeE x.lw
    else if metB x.met = true then 25 else if bits .andNot .u64 x.mt x.mm ≠ 0 then 23 else if goB x.tab x.go = false then 23 else 0) := (show _ = _ from rfl)
  clear h hd
  cases ht : tabB x.tab with
  | false =>
    rw [HR.out, if_pos ht]
    rw [ht] at HT
    clear HR
    go_enter Tryz.func51, Tryz.ntmps51
    go_wp2_with fail
    refine (HT.out _).mono ?_
    rintro r w1 ⟨rfl, rfl⟩
    go_wp2_with fail
    go_ret
    exact ⟨rfl, by go_grown⟩
  | true =>
    rw [HR.out, if_neg (by rw [ht]; decide)]
    rw [ht] at HT
    clear HR ht
    by_cases ha : encodeE x.la = 0
    · rw [if_neg (by simpa using ha)]
      by_cases hw : encodeE x.lw = 0
      · rw [if_neg (by simpa using hw)]
        rw [ha] at H1
        rw [hw] at H2
        clear ha hw
        generalize encodeS x.la = S1 at *
        generalize encodeS x.lw = S2 at *
        cases hm : metB x.met with
        | true =>
          rw [if_pos rfl]
          have hm' : (x.met < 0) ∨ ¬ (x.met < 0) ∧ (16 < x.met) := by unfold metB at hm; simp at hm; omega
          clear hm
          rcases hm' with hm' | ⟨hm', hm2⟩
          all_goals
            go_enter Tryz.func51, Tryz.ntmps51
            go_wp2_with fail
            refine (HT.out _).mono ?_
            rintro r w1 ⟨rfl, rfl⟩
            go_wp2_with fail
            refine H1.out.mono ?_
            rintro r w1 ⟨rfl, g1⟩
            obtain ⟨c0, c1, c2, c3, c4, c5, c6, c7, c8, c9⟩ := HB.out _ g1
            go_wp2_with fail
            refine (H2.out _ g1).mono ?_
            rintro r w2 ⟨rfl, g2'⟩
            have g2 : Below (w.heap.size + 1) (ex w x) w2 := btr g1 g2' (by simp)
            clear c0 c1 c2 c3 c4 c5 c6 c7 c8 c9 g1 g2'
            obtain ⟨c0, c1, c2, c3, c4, c5, c6, c7, c8, c9⟩ := HB.out _ g2
            go_wp2_with fail
            go_ret
            exact ⟨rfl, HC.out _ g2⟩
        | false =>
          rw [if_neg (by decide)]
          have hm1 : ¬ (x.met < 0) := by unfold metB at hm; simp at hm; omega
          have hm2 : ¬ (16 < x.met) := by unfold metB at hm; simp at hm; omega
          clear hm
          by_cases hb : bits .andNot .u64 x.mt x.mm = 0
          · rw [if_neg (by simpa using hb)]
            have hb' : (bits .andNot .u64 x.mt x.mm != 0) = false := by simpa using hb
            clear hb
            cases hg : goB x.tab x.go with
            | false =>
              rw [if_pos rfl]
              rw [hg] at HG
              clear hg
              go_enter Tryz.func51, Tryz.ntmps51
              go_wp2_with fail
              refine (HT.out _).mono ?_
              rintro r w1 ⟨rfl, rfl⟩
              go_wp2_with fail
              refine H1.out.mono ?_
              rintro r w1 ⟨rfl, g1⟩
              obtain ⟨c0, c1, c2, c3, c4, c5, c6, c7, c8, c9⟩ := HB.out _ g1
              go_wp2_with fail
              refine (H2.out _ g1).mono ?_
              rintro r w2 ⟨rfl, g2'⟩
              have g2 : Below (w.heap.size + 1) (ex w x) w2 := btr g1 g2' (by simp)
              clear c0 c1 c2 c3 c4 c5 c6 c7 c8 c9 g1 g2'
              obtain ⟨c0, c1, c2, c3, c4, c5, c6, c7, c8, c9⟩ := HB.out _ g2
              go_wp2_with fail
              refine (HG.out _).mono ?_
              rintro r w1 ⟨rfl, rfl⟩
              go_wp2_with fail
              go_ret
              exact ⟨rfl, HC.out _ g2⟩
            | true =>
              rw [if_neg (by decide)]
              rw [hg] at HG
              clear hg
              go_enter Tryz.func51, Tryz.ntmps51
              go_wp2_with fail
              refine (HT.out _).mono ?_
              rintro r w1 ⟨rfl, rfl⟩
              go_wp2_with fail
              refine H1.out.mono ?_
              rintro r w1 ⟨rfl, g1⟩
              obtain ⟨c0, c1, c2, c3, c4, c5, c6, c7, c8, c9⟩ := HB.out _ g1
              go_wp2_with fail
              refine (H2.out _ g1).mono ?_
              rintro r w2 ⟨rfl, g2'⟩
              have g2 : Below (w.heap.size + 1) (ex w x) w2 := btr g1 g2' (by simp)
              clear c0 c1 c2 c3 c4 c5 c6 c7 c8 c9 g1 g2'
              obtain ⟨c0, c1, c2, c3, c4, c5, c6, c7, c8, c9⟩ := HB.out _ g2
              go_wp2_with fail
              refine (HG.out _).mono ?_
              rintro r w1 ⟨rfl, rfl⟩
              go_wp2_with fail
              go_ret
              exact ⟨rfl, HC.out _ g2⟩
          · rw [if_pos (by simpa using hb)]
            have hb' : (bits .andNot .u64 x.mt x.mm != 0) = true := by simpa using hb
            clear hb
            go_enter Tryz.func51, Tryz.ntmps51
            go_wp2_with fail
            refine (HT.out _).mono ?_
            rintro r w1 ⟨rfl, rfl⟩
            go_wp2_with fail
            refine H1.out.mono ?_
            rintro r w1 ⟨rfl, g1⟩
            obtain ⟨c0, c1, c2, c3, c4, c5, c6, c7, c8, c9⟩ := HB.out _ g1
            go_wp2_with fail
            refine (H2.out _ g1).mono ?_
            rintro r w2 ⟨rfl, g2'⟩
            have g2 : Below (w.heap.size + 1) (ex w x) w2 := btr g1 g2' (by simp)
            clear c0 c1 c2 c3 c4 c5 c6 c7 c8 c9 g1 g2'
            obtain ⟨c0, c1, c2, c3, c4, c5, c6, c7, c8, c9⟩ := HB.out _ g2
            go_wp2_with fail
            go_ret
            exact ⟨rfl, HC.out _ g2⟩
      · rw [if_pos (by simpa using hw)]
        have hw' : (encodeE x.lw != 0) = true := by simpa using hw
        rw [ha] at H1
        clear ha hw
        generalize encodeS x.la = S1 at *
        generalize encodeS x.lw = S2 at *
        generalize encodeE x.lw = E2 at *
        go_enter Tryz.func51, Tryz.ntmps51
        go_wp2_with fail
        refine (HT.out _).mono ?_
        rintro r w1 ⟨rfl, rfl⟩
        go_wp2_with fail
        refine H1.out.mono ?_
        rintro r w1 ⟨rfl, g1⟩
        obtain ⟨c0, c1, c2, c3, c4, c5, c6, c7, c8, c9⟩ := HB.out _ g1
        go_wp2_with fail
        refine (H2.out _ g1).mono ?_
        rintro r w2 ⟨rfl, g2'⟩
        have g2 : Below (w.heap.size + 1) (ex w x) w2 := btr g1 g2' (by simp)
        go_wp2_with fail
        go_ret
        exact ⟨rfl, HC.out _ g2⟩
    · rw [if_pos (by simpa using ha)]
      have ha' : (encodeE x.la != 0) = true := by simpa using ha
      clear ha
      generalize encodeS x.la = S1 at *
      generalize encodeE x.la = E1 at *
      go_enter Tryz.func51, Tryz.ntmps51
      go_wp2_with fail
      refine (HT.out _).mono ?_
      rintro r w1 ⟨rfl, rfl⟩
      go_wp2_with fail
      refine H1.out.mono ?_
      rintro r w1 ⟨rfl, g1⟩
      go_wp2_with fail
      go_ret
      exact ⟨rfl, HC.out _ g1⟩
end Go.Proofs.YtjjfhibkcngphaaGreatDoor

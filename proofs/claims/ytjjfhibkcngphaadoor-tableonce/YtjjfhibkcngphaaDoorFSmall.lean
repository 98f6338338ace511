/-
  What few, do, SameEntry and the example answer, as contracts.
-/
import Derived.Test.YtjjfhibkcngphaaDoorFAddW
import Derived.Test.YtjjfhibkcngphaaDoorFDelW
import Derived.Test.YtjjfhibkcngphaaDoorSame
import Derived.Test.YtjjfhibkcngphaaDoorMRSame
namespace Go.Proofs.YtjjfhibkcngphaaDoor
open Go.ChangeShapes Go.WideShapes Go.ChangeAt Go.RowKit
set_option linter.unusedVariables false
set_option linter.unusedSimpArgs false

/-- Has an entry not too much? -/
def fewB (x : Fp) : Bool := decide (x.lt.length ≤ 20) && decide (x.la.length ≤ 40) && decide (x.lw.length ≤ 40)
set_option maxHeartbeats 2000000 in
theorem few_any (x : Fe) (w : World) (h1 : x.p.lt.length ≤ maxLen) (h2 : x.p.la.length ≤ maxLen) (h3 : x.p.lw.length ≤ maxLen) : Calls Tryd.prog 9 #[feV x] w fun e w' => e = .returned (.bool (fewB x.p)) ∧ Below w.heap.size w w' := by
  unfold maxLen at h1 h2 h3
  unfold fewB
  obtain ⟨_, _, c2, c3, c4, _⟩ := (Be.new w x).cs
  cases b1 : decide (x.p.lt.length ≤ 20) with
  | false =>
    have i1 : ¬ ((x.p.lt.length : Int) ≤ 20) := by have := of_decide_eq_false b1; omega
    clear b1
    go_enter Tryd.func9, Tryd.ntmps9
    go_wp2
    go_ret
    exact ⟨rfl, by go_grown⟩
  | true =>
    have i1 : ((x.p.lt.length : Int) ≤ 20) := by have := of_decide_eq_true b1; omega
    clear b1
    cases b2 : decide (x.p.la.length ≤ 40) with
    | false =>
      have i2 : ¬ ((x.p.la.length : Int) ≤ 40) := by have := of_decide_eq_false b2; omega
      clear b2
      go_enter Tryd.func9, Tryd.ntmps9
      go_wp2
      go_ret
      exact ⟨rfl, by go_grown⟩
    | true =>
      have i2 : ((x.p.la.length : Int) ≤ 40) := by have := of_decide_eq_true b2; omega
      clear b2
      cases b3 : decide (x.p.lw.length ≤ 40) with
      | false =>
        have i3 : decide ((x.p.lw.length : Int) ≤ 40) = false := by have := of_decide_eq_false b3; simp; omega
        clear b3
        go_enter Tryd.func9, Tryd.ntmps9
        go_wp2
        go_ret
        exact ⟨rfl, by go_grown⟩
      | true =>
        have i3 : decide ((x.p.lw.length : Int) ≤ 40) = true := by have := of_decide_eq_true b3; simp; omega
        clear b3
        go_enter Tryd.func9, Tryd.ntmps9
        go_wp2
        go_ret
        exact ⟨rfl, by go_grown⟩
/-- A call. -/
structure Opn where
  ask : Int
  x : Fe
  hard : Bool
abbrev opV (o : Opn) : Value := .agg #[.int .i64 o.ask, .int .i64 o.x.p.tab, .int .i64 o.x.p.pri, .slice o.x.ta o.x.p.lt.length o.x.tc, .slice o.x.aa o.x.p.la.length o.x.ca, .slice o.x.aw o.x.p.lw.length o.x.cw, .bool o.x.p.clr, .int .u64 o.x.p.mt, .int .u64 o.x.p.mm, .int .i64 o.x.p.met, .int .i64 o.x.p.go, .bool o.hard]
abbrev opC (o : Opn) : Array Value := #[.int .i64 o.ask, .int .i64 o.x.p.tab, .int .i64 o.x.p.pri, .slice o.x.ta o.x.p.lt.length o.x.tc, .slice o.x.aa o.x.p.la.length o.x.ca, .slice o.x.aw o.x.p.lw.length o.x.cw, .bool o.x.p.clr, .int .u64 o.x.p.mt, .int .u64 o.x.p.mm, .int .i64 o.x.p.met, .int .i64 o.x.p.go, .bool o.hard]
abbrev ox (w : World) (o : Opn) : World := w.alloc (.cells (opC o) 40)
theorem range_mid {w : World} {b o : Nat} {cs ds : List Value} {k : Nat} (h : w.rangeAt b o cs) (hd : ∀ (j : Nat) (v : Value), ds[j]? = some v → cs[k + j]? = some v) : w.rangeAt b (o + k) ds := fun j v hv => by
  rw [Nat.add_assoc]
  exact h _ v (hd j v hv)
/-- A call's entry in its block. -/
theorem op_be {w : World} {b k : Nat} {o : Opn} (h : w.rangeAt b k (opC o).toList) : Be w b (k + 1) o.x := range_mid h (fun j v hv => by
  have e : (opC o).toList = .int .i64 o.ask :: ((feC o.x).toList ++ [.bool o.hard]) := rfl
  rw [Nat.add_comm 1 j, e, List.getElem?_cons_succ, List.getElem?_append_left (List.getElem?_eq_some_iff.1 hv).1]
  exact hv)
def doR (room : Int) (P : Nat → List Fp) (k : Int) (x : Fp) (hard : Bool) : Int := if k = 0 then addR room P x hard else wrongE x
def doP (room : Int) (P : Nat → List Fp) (k : Int) (x : Fp) (hard : Bool) : Nat → List Fp := if k = 0 then addT room P x hard else if k = 1 then modP P x hard else delP P x hard
set_option maxHeartbeats 4000000 in
theorem do_any (f : Nat) (S : Nat → Prop) (room : Int) (P : Nat → List Fp) (o : Opn) (w : World) (h : Fs w f S room P) (hx : FW w o.x) (hs : ∀ b, InF o.x b → ¬ S b) (hd : Cd w) :
    Calls Tryd.prog 10 #[.pointer (some ⟨f, 0, none⟩), opV o] w fun e w' => e = .returned (.int .i64 (doR room P o.ask o.x.p o.hard)) ∧ ∃ S', Fs w' f S' room (doP room P o.ask o.x.p o.hard) ∧ Kept S w w' ∧ ∀ b, S' b → S b ∨ w.heap.size ≤ b := by
  have g0 : Below w.heap.size w (ox w o) := by go_grown
  have HR := range_new w (opC o) 40
  have c0 : (ox w o).cell? ⟨w.heap.size, 0, none⟩ = some (.int .i64 o.ask) := by have := HR 0 _ rfl; rwa [Nat.zero_add] at this
  have c11 : (ox w o).cell? ⟨w.heap.size, 11, none⟩ = some (.bool o.hard) := by have := HR 11 _ rfl; rwa [Nat.zero_add] at this
  have HB : Hid (Be (ox w o) w.heap.size 1 o.x) := (show Be _ _ _ _ by have := op_be HR; rwa [Nat.zero_add] at this)
  have KK : ∀ {w' : World} {Q : Nat → List Fp}, (∃ S', Fs w' f S' room Q ∧ Kept S (ox w o) w' ∧ ∀ b, S' b → S b ∨ (ox w o).heap.size ≤ b) → ∃ S', Fs w' f S' room Q ∧ Kept S w w' ∧ ∀ b, S' b → S b ∨ w.heap.size ≤ b := fun {w' Q} ⟨S', h1, h2, h3⟩ => by
    refine ⟨S', h1, (Kept.of_below g0).trans h2 (fun k hk => .inl hk), fun b hb => ?_⟩
    rcases h3 b hb with h | h
    · exact .inl h
    · exact .inr (Nat.le_trans g0.size h)
  have hF := h.below g0
  have hX := hx.below g0
  have hD := hd.below g0
  by_cases k0 : o.ask = 0
  · have e1 : doR room P o.ask o.x.p o.hard = addR room P o.x.p o.hard := if_pos k0
    have e2 : doP room P o.ask o.x.p o.hard = addT room P o.x.p o.hard := if_pos k0
    rw [e1, e2]
    have HC : Hid (Calls Tryd.prog 17 #[.pointer (some ⟨f, 0, none⟩), feV o.x, .bool o.hard] (ox w o) fun e w' => e = .returned (.int .i64 (addR room P o.x.p o.hard)) ∧ ∃ S', Fs w' f S' room (addT room P o.x.p o.hard) ∧ Kept S w w' ∧ ∀ b, S' b → S b ∨ w.heap.size ≤ b) := (add_any f S room P o.x o.hard _ hF hX hD).mono fun _ _ ⟨a, b⟩ => ⟨a, KK b⟩
    have b0 : (o.ask == 0) = true := by simp [k0]
    clear e1 e2 KK hF hX hD h hx hs hd k0 HR g0
    generalize addR room P o.x.p o.hard = E at *
    go_enter Tryd.func10, Tryd.ntmps10
    go_wp2_with (refine load_E rfl (.tmp 10) rfl w.heap.size 1 o.x rfl HB.out ?_)
    refine HC.out.mono ?_
    rintro e w1 ⟨rfl, hP⟩
    have HP := hP
    clear hP
    go_wp2_with fail
    go_ret
    exact ⟨rfl, HP⟩
  · have b0 : (o.ask == 0) = false := by simp [k0]
    have e1 : doR room P o.ask o.x.p o.hard = wrongE o.x.p := if_neg k0
    by_cases k1 : o.ask = 1
    · have e2 : doP room P o.ask o.x.p o.hard = modP P o.x.p o.hard := by unfold doP; rw [if_neg k0, if_pos k1]
      rw [e1, e2]
      have HC : Hid (Calls Tryd.prog 18 #[.pointer (some ⟨f, 0, none⟩), feV o.x, .bool o.hard] (ox w o) fun e w' => e = .returned (.int .i64 (wrongE o.x.p)) ∧ ∃ S', Fs w' f S' room (modP P o.x.p o.hard) ∧ Kept S w w' ∧ ∀ b, S' b → S b ∨ w.heap.size ≤ b) := (modify_any f S room P o.x o.hard _ hF hX hs hD).mono fun _ _ ⟨a, b⟩ => ⟨a, KK b⟩
      have b1 : (o.ask == 1) = true := by simp [k1]
      clear e1 e2 KK hF hX hD h hx hs hd k0 k1 HR g0
      generalize wrongE o.x.p = E at *
      go_enter Tryd.func10, Tryd.ntmps10
      go_wp2_with (refine load_E rfl (.tmp 18) rfl w.heap.size 1 o.x rfl HB.out ?_)
      refine HC.out.mono ?_
      rintro e w1 ⟨rfl, hP⟩
      have HP := hP
      clear hP
      go_wp2_with fail
      go_ret
      exact ⟨rfl, HP⟩
    · have e2 : doP room P o.ask o.x.p o.hard = delP P o.x.p o.hard := by unfold doP; rw [if_neg k0, if_neg k1]
      rw [e1, e2]
      have HC : Hid (Calls Tryd.prog 19 #[.pointer (some ⟨f, 0, none⟩), feV o.x, .bool o.hard] (ox w o) fun e w' => e = .returned (.int .i64 (wrongE o.x.p)) ∧ ∃ S', Fs w' f S' room (delP P o.x.p o.hard) ∧ Kept S w w' ∧ ∀ b, S' b → S b ∨ w.heap.size ≤ b) := (delete_any f S room P o.x o.hard _ hF hX hs hD).mono fun _ _ ⟨a, b⟩ => ⟨a, KK b⟩
      have b1 : (o.ask == 1) = false := by simp [k1]
      clear e1 e2 KK hF hX hD h hx hs hd k0 k1 HR g0
      generalize wrongE o.x.p = E at *
      go_enter Tryd.func10, Tryd.ntmps10
      go_wp2_with (refine load_E rfl (.tmp 24) rfl w.heap.size 1 o.x rfl HB.out ?_)
      refine HC.out.mono ?_
      rintro e w1 ⟨rfl, hP⟩
      have HP := hP
      clear hP
      go_wp2_with fail
      go_ret
      exact ⟨rfl, HP⟩
theorem eqI (a : Int) : (a == a) = true := by simp
theorem eqBo (a : Bool) : (a == a) = true := by simp
set_option maxRecDepth 20000 in
set_option maxHeartbeats 8000000 in
theorem same7 (x y : Fe) (w : World) (e : y.p = x.p) (hx : FW w x) (hy : FW w y) : Calls Tryd.prog 24 #[feV x, feV y] w fun e w' => e = .returned (.bool true) ∧ Below w.heap.size w w' := by
  obtain ⟨yp, ta, tc, aa, ca, aw, cw⟩ := y
  simp only at e
  subst e
  obtain ⟨W2, hW2, z2, g2, x2, y2⟩ := two_boxes w x ⟨x.p, ta, tc, aa, ca, aw, cw⟩
  have HS1 : Hid (Calls Tryd.prog 42 #[.slice x.aa x.p.la.length x.ca, .slice aa x.p.la.length ca] W2 fun e w' => e = .returned (.bool true) ∧ Below W2.heap.size W2 w') := (show Calls _ _ _ _ _ from by
    have := same_any x.aa aa x.p.la x.p.la x.ca ca W2 (hx.a.below g2) (hy.a.below g2) hx.na hx.na
    rwa [show sameB x.p.la x.p.la = true by simp [sameB]] at this)
  have HS2 : Hid (∀ w3, Below W2.heap.size W2 w3 → Calls Tryd.prog 42 #[.slice x.aw x.p.lw.length x.cw, .slice aw x.p.lw.length cw] w3 fun e w' => e = .returned (.bool true) ∧ Below w3.heap.size w3 w') := (show ∀ w3, _ from fun w3 g3 => by
    have := same_any x.aw aw x.p.lw x.p.lw x.cw cw w3 ((hx.w.below g2).below g3) ((hy.w.below g2).below g3) hx.nw hx.nw
    rwa [show sameB x.p.lw x.p.lw = true by simp [sameB]] at this)
  have hE1 := eqI x.p.tab
  have hE2 := eqBo x.p.clr
  have hE3 := eqI x.p.mt
  have hE4 := eqI x.p.mm
  have hE5 := eqI x.p.met
  have hE6 := eqI x.p.go
  have HX : Hid (Be W2 w.heap.size 0 x) := x2
  have HY : Hid (Be W2 (w.heap.size + 1) 0 ⟨x.p, ta, tc, aa, ca, aw, cw⟩) := y2
  obtain ⟨c0, c1, c2, c3, c4, c5, c6, c7, c8, c9⟩ := x2.cs
  obtain ⟨d0, d1, d2, d3, d4, d5, d6, d7, d8, d9⟩ := y2.cs
  clear hx hy x2 y2
  go_enter Tryd.func24, Tryd.ntmps24
  go_wp2_with fail
  refine HS1.out.mono ?_
  rintro r w3 ⟨rfl, g3⟩
  have G3 := btr g2 g3 (by omega)
  clear c0 c1 c2 c3 c4 c5 c6 c7 c8 c9 d0 d1 d2 d3 d4 d5 d6 d7 d8 d9
  obtain ⟨c0, c1, c2, c3, c4, c5, c6, c7, c8, c9⟩ := (HX.out.below (by omega) g3).cs
  obtain ⟨d0, d1, d2, d3, d4, d5, d6, d7, d8, d9⟩ := (HY.out.below (by omega) g3).cs
  go_wp2_with fail
  refine (HS2.out _ g3).mono ?_
  rintro r w4 ⟨rfl, g4⟩
  have K4 := btr g3 g4 (Nat.le_refl _)
  have G4 := btr G3 g4 (by have := g3.size; omega)
  clear c0 c1 c2 c3 c4 c5 c6 c7 c8 c9 d0 d1 d2 d3 d4 d5 d6 d7 d8 d9
  obtain ⟨c0, c1, c2, c3, c4, c5, c6, c7, c8, c9⟩ := (HX.out.below (by omega) K4).cs
  obtain ⟨d0, d1, d2, d3, d4, d5, d6, d7, d8, d9⟩ := (HY.out.below (by omega) K4).cs
  clear g3 g4 K4 G3
  go_wp2_with fail
  go_ret
  exact ⟨rfl, G4⟩
set_option maxHeartbeats 4000000 in
theorem sameE (x y : Fe) (w : World) (e : y.p = x.p) (hx : FW w x) (hy : FW w y) : Calls Tryd.prog 15 #[feV x, feV y] w fun e w' => e = .returned (.bool true) ∧ Below w.heap.size w w' := by
  obtain ⟨W2, hW2, z2, g2, x2, y2⟩ := two_boxes w x y
  have HS1 : Hid (Calls Tryd.prog 16 #[.slice x.ta x.p.lt.length x.tc, .slice y.ta y.p.lt.length y.tc] W2 fun e w' => e = .returned (.bool true) ∧ Below W2.heap.size W2 w') := (show Calls _ _ _ _ _ from by
    have := Mt.rsame_any x.ta x.p.lt x.tc y.ta y.p.lt y.tc W2 (hx.t.below g2) (by have := hx.nt; omega) (hy.t.below g2) (by have := hy.nt; omega)
    rwa [show Mt.sameB x.p.lt y.p.lt = true by rw [e]; simp [Mt.sameB]] at this)
  have HS2 : Hid (∀ w3, Below W2.heap.size W2 w3 → Calls Tryd.prog 24 #[feV x, feV y] w3 fun e w' => e = .returned (.bool true) ∧ Below w3.heap.size w3 w') := (show ∀ w3, _ from fun w3 g3 => same7 x y w3 e ((hx.below g2).below g3) ((hy.below g2).below g3))
  have hE1 : (x.p.pri == y.p.pri) = true := by rw [e]; simp
  have HX : Hid (Be W2 w.heap.size 0 x) := x2
  have HY : Hid (Be W2 (w.heap.size + 1) 0 y) := y2
  obtain ⟨_, c1, c2, _⟩ := x2.cs
  obtain ⟨_, d1, d2, _⟩ := y2.cs
  clear hx hy x2 y2 e
  go_enter Tryd.func15, Tryd.ntmps15
  go_wp2_with fail
  refine HS1.out.mono ?_
  rintro r w3 ⟨rfl, g3⟩
  have HG3 : Hid (Below W2.heap.size W2 w3) := g3
  have G3 := btr g2 g3 (by omega)
  have HX3 : Hid (Be w3 w.heap.size 0 x) := HX.out.below (by omega) g3
  have HY3 : Hid (Be w3 (w.heap.size + 1) 0 y) := HY.out.below (by omega) g3
  clear g3
  go_wp2_with (first | (refine load_E rfl (.tmp 2) rfl w.heap.size 0 x rfl HX3.out ?_) | (refine load_E rfl (.tmp 3) rfl (w.heap.size + 1) 0 y rfl HY3.out ?_))
  refine (HS2.out _ HG3.out).mono ?_
  rintro r w4 ⟨rfl, g4⟩
  have G4 := btr G3 g4 (by have := HG3.out.size; omega)
  go_wp2_with fail
  go_ret
  exact ⟨rfl, G4⟩
/-- The example. -/
def ex1 (n : Int) : Fe := ⟨⟨0, n, [], [], [], false, 0, 0, 0, 0⟩, none, 0, none, 0, none, 0⟩
theorem ex1_w (n : Int) (w : World) : FW w (ex1 n) := ⟨.inl rfl, .inl rfl, .inl rfl, by simp [ex1], by simp [ex1], by simp [ex1], by simp [ex1]⟩
def sn0 : Mt.Sn := ⟨0, 0, 0, 0, 0, 0, 0, 0, 0, 0, 0, 0, ⟨#[]⟩⟩
theorem wrong_ex (n : Int) (h1 : 0 ≤ n) (h2 : n ≤ 65535) : wrongE (ex1 n).p = 0 := by
  unfold wrongE
  have e1 : rightX (ex1 n).p.sp = 0 := (show rightX ⟨0, [], [], false, 0, 0, 0, 0⟩ = 0 by decide)
  have e2 : Mt.rightE (ex1 n).p.lt = 0 := (show Mt.rightE [] = 0 by decide)
  rw [if_neg (by rw [e1]; decide), if_neg (by rw [e2]; decide), if_neg]
  unfold priB
  have e : (ex1 n).p.pri = n := rfl
  rw [e, decide_eq_false (by omega), decide_eq_false (by omega)]
  decide
end Go.Proofs.YtjjfhibkcngphaaDoor

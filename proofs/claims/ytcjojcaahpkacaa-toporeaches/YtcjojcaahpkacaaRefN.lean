/-
  The document's New: its pieces.
-/
import Derived.Test.YtcjojcaahpkacaaRefT
import Derived.Test.YtcjojcaahpkacaaHitP
import Derived.Lib.AppendZeros
import Derived.Deep.Upon
namespace Go.Proofs.Ytcjojcaahpkacaa
open Go.ChangeShapes Go.WideShapes Go.ChangeAt Go.RowKit
set_option linter.unusedVariables false

/-- A world that was grown out of another one. -/
structure GrS (W : World) where
  w : World
  h : Below W.heap.size W w
/-- Such a world, or that one itself. -/
abbrev GrT (W : World) : Type := Option (GrS W)
def GrT.w {W : World} : GrT W → World
  | none => W
  | some g => g.w
theorem GrT.h {W : World} : (n : GrT W) → Below W.heap.size W n.w
  | none => Below.refl _ _
  | some g => g.h
theorem gr_elim {W w' : World} (h : ∃ n : GrT W, w' = n.w) : Below W.heap.size W w' := by
  obtain ⟨n, rfl⟩ := h
  exact n.h
theorem wp_region_grow {P : Program} {id : Nat} {Q : Exit → Act → World → Prop} {a : Act} {w : World} {l : List Oper} (hm : P.follows .mixedOrders = true) (hB : Region.lexB .any l.toArray = true)
    (h : wpQuiet P l.toArray (fun w' => ∃ n : GrT w, w' = n.w) (fun a' => ∀ w', (∃ n : GrT w, w' = n.w) → Q .normal a' w') l a) : (Code.region id l.toArray true).wp P Q a w :=
  wp_region_quiet (C := fun w' => ∃ n : GrT w, w' = n.w) hm hB ⟨some ⟨_, (Below.refl _ w).drew⟩, rfl⟩ (by simpa using h)
/-- A callee that leaves what was there. -/
theorem quiet_gr {P : Program} {f : FuncId} {args : Array Value} {W : World} {n : GrT W} {v : Value}
    (h : Calls P f args n.w fun e w' => e = .returned v ∧ Below n.w.heap.size n.w w') : Calls P f args n.w fun e w'' => e = .returned v ∧ ∃ m : GrT W, w'' = m.w :=
  h.mono fun _ w' ⟨he, hm⟩ => ⟨he, some ⟨w', btr n.h hm (Nat.le_refl _)⟩, rfl⟩
theorem C5.gr {W : World} {b o : Nat} {t : Lk} (h : C5 W b o t) (hb : b < W.heap.size) (n : GrT W) : C5 n.w b o t := h.below hb n.h

set_option maxHeartbeats 2000000 in
theorem uses_any (y : Lk) (s p : Int) (w : World) : Calls Try.prog 32 #[lkV y, .int .i64 s, .int .i64 p] w fun r w' => r = .returned (.bool (usesB y s p)) ∧ Below w.heap.size w w' := by
  have HU : Hid (usesB y s p = (decide (y.a = s ∧ y.p = p) || decide (y.b = s ∧ y.q = p))) := (show _ = _ from rfl)
  have t1 : (y.a == s) = false ∨ ((y.a == s) = true ∧ (y.p == p) = false) ∨ ((y.a == s) = true ∧ (y.p == p) = true) := by
    cases (y.a == s) <;> cases (y.p == p) <;> simp
  have t2 : (y.b == s) = false ∨ ((y.b == s) = true ∧ (y.q == p) = false) ∨ ((y.b == s) = true ∧ (y.q == p) = true) := by
    cases (y.b == s) <;> cases (y.q == p) <;> simp
  have HV : Hid (∀ b1 b2 b3 b4, (y.a == s) = b1 → (y.p == p) = b2 → (y.b == s) = b3 → (y.q == p) = b4 → usesB y s p = ((b1 && b2) || (b3 && b4))) := (show ∀ b1 b2 b3 b4, _ from fun b1 b2 b3 b4 e1 e2 e3 e4 => by
    subst e1 e2 e3 e4
    rw [HU.out, Bool.eq_iff_iff]
    simp)
  rcases t1 with q1 | ⟨q1, q2⟩ | ⟨q1, q2⟩
  · rcases t2 with q3 | ⟨q3, q4⟩ | ⟨q3, q4⟩
    · have HR : Hid (usesB y s p = false) := (show _ = _ by rw [HV.out _ _ _ _ q1 rfl q3 rfl]; simp)
      go_enter Try.func32, Try.ntmps32
      go_wp2
      go_ret
      exact ⟨ret_bool HR.out.symm, by go_grown⟩
    · have HR : Hid (usesB y s p = false) := (show _ = _ by rw [HV.out _ _ _ _ q1 rfl q3 q4]; simp)
      go_enter Try.func32, Try.ntmps32
      go_wp2
      go_ret
      exact ⟨ret_bool HR.out.symm, by go_grown⟩
    · have HR : Hid (usesB y s p = true) := (show _ = _ by rw [HV.out _ _ _ _ q1 rfl q3 q4]; simp)
      go_enter Try.func32, Try.ntmps32
      go_wp2
      go_ret
      exact ⟨ret_bool HR.out.symm, by go_grown⟩
  · rcases t2 with q3 | ⟨q3, q4⟩ | ⟨q3, q4⟩
    · have HR : Hid (usesB y s p = false) := (show _ = _ by rw [HV.out _ _ _ _ q1 q2 q3 rfl]; simp)
      go_enter Try.func32, Try.ntmps32
      go_wp2
      go_ret
      exact ⟨ret_bool HR.out.symm, by go_grown⟩
    · have HR : Hid (usesB y s p = false) := (show _ = _ by rw [HV.out _ _ _ _ q1 q2 q3 q4]; simp)
      go_enter Try.func32, Try.ntmps32
      go_wp2
      go_ret
      exact ⟨ret_bool HR.out.symm, by go_grown⟩
    · have HR : Hid (usesB y s p = true) := (show _ = _ by rw [HV.out _ _ _ _ q1 q2 q3 q4]; simp)
      go_enter Try.func32, Try.ntmps32
      go_wp2
      go_ret
      exact ⟨ret_bool HR.out.symm, by go_grown⟩
  · have HR : Hid (usesB y s p = true) := (show _ = _ by rw [HV.out _ _ _ _ q1 q2 rfl rfl]; simp)
    clear t2
    go_enter Try.func32, Try.ntmps32
    go_wp2
    go_ret
    exact ⟨ret_bool HR.out.symm, by go_grown⟩

/-- Links as cells. -/
def flat (l : List Lk) : List Value := l.flatMap fun x => [.int .i64 x.a, .int .i64 x.p, .int .i64 x.b, .int .i64 x.q, .float .f64 x.c]
theorem flat_length : ∀ l : List Lk, (flat l).length = l.length * 5
  | [] => rfl
  | t :: l => by simp only [flat, List.flatMap_cons, List.length_append, List.length_cons, List.length_nil]; have := flat_length l; unfold flat at this; rw [this]; omega
theorem flat_one (l : List Lk) : ∀ u ∈ flat l, u.oneCell' = true := by
  intro u hu
  unfold flat at hu
  rw [List.mem_flatMap] at hu
  obtain ⟨t, _, ht⟩ := hu
  simp at ht
  rcases ht with rfl | rfl | rfl | rfl | rfl <;> rfl
theorem flat_at : ∀ (l : List Lk) (i : Nat) (h : i < l.length), (flat l)[i * 5]? = some (.int .i64 l[i].a) ∧ (flat l)[i * 5 + 1]? = some (.int .i64 l[i].p) ∧ (flat l)[i * 5 + 2]? = some (.int .i64 l[i].b) ∧ (flat l)[i * 5 + 3]? = some (.int .i64 l[i].q) ∧ (flat l)[i * 5 + 4]? = some (.float .f64 l[i].c)
  | t :: l, 0, _ => by simp [flat]
  | t :: l, i + 1, h => by
    have ih := flat_at l i (by simpa using h)
    unfold flat at ih ⊢
    rw [List.flatMap_cons, show (i + 1) * 5 = i * 5 + 5 by omega]
    simpa using ih
theorem flat_news {w : World} {g o : Nat} {l : List Lk} (h : ∀ i (h : i < l.length), C5 w g (o + i * 5) l[i]) : ∀ j u, (flat l)[j]? = some u → w.cell? ((⟨g, o, none⟩ : Addr).add j) = some u := by
  intro j u hj
  have hjl : j < (flat l).length := (List.getElem?_eq_some_iff.1 hj).1
  rw [flat_length] at hjl
  have hi : j / 5 < l.length := by omega
  obtain ⟨c0, c1, c2, c3, c4⟩ := h (j / 5) hi
  obtain ⟨x0, x1, x2, x3, x4⟩ := flat_at l (j / 5) hi
  rw [addP]
  have : j % 5 = 0 ∨ j % 5 = 1 ∨ j % 5 = 2 ∨ j % 5 = 3 ∨ j % 5 = 4 := by omega
  rcases this with q | q | q | q | q
  · have e : j = j / 5 * 5 := by omega
    rw [e] at hj ⊢
    rw [x0] at hj
    exact c0.trans hj
  · have e : j = j / 5 * 5 + 1 := by omega
    rw [e] at hj ⊢
    rw [x1] at hj
    exact c1.trans hj
  · have e : j = j / 5 * 5 + 2 := by omega
    rw [e] at hj ⊢
    rw [x2] at hj
    exact c2.trans hj
  · have e : j = j / 5 * 5 + 3 := by omega
    rw [e] at hj ⊢
    rw [x3] at hj
    exact c3.trans hj
  · have e : j = j / 5 * 5 + 4 := by omega
    rw [e] at hj ⊢
    rw [x4] at hj
    exact c4.trans hj
theorem infoL : (Try.prog.info? 52).map (fun i => (i.zero, i.size, i.bytes)) = some (some (.agg #[.int .i64 0, .int .i64 0, .int .i64 0, .int .i64 0, .float .f64 0]), 5, 40) := by kernel_rfl
/-- All links are appended to none. -/
theorem wpList_copy {w : World} {ops : Array Oper} {rest : List Oper} {o : Oper} {a : Go.Act} {Q : Exit → Go.Act → World → Prop} (hgd : o.guard = none) (s x : Operand)
    (ho : o.op = .call { callee := .builtin .append, args := #[s, x], argTypes := #[22, 22] }) (base : Nat) (hs : a.eval s = .slice none 0 0)
    (ad : Option Addr) (cap : Nat) (l : List Lk) (m : Nat) (hm : m = l.length) (hx : a.eval x = .slice ad m cap) (hT : Ls w ad l) (hn : l.length ≤ 1000) (hbase : base ≤ w.heap.size)
    (h : ∀ v' w', w'.ownsRow base 52 5 v' l.length (flat l) → w.grownBy w' none → wpList Try.prog ops Q rest (a.put o.dst v') w') : wpList Try.prog ops Q (o :: rest) a w := by
  obtain ⟨i0, hi, hz0, hz1, hz2⟩ := info_parts infoL
  subst hm
  rcases hT with rfl | ⟨g, of, rfl, _, hc⟩
  · have src : Src Try.prog i0.size 22 (.slice ad 0 cap) 0 [] w := by
      cases ad with
      | none => exact Src.ofNil w Try.underlying22 cap
      | some q => exact Src.ofSlice w Try.underlying22 q 0 cap [] (by simp) (fun j u hj => by simp at hj) (fun u hu => by simp at hu)
    refine Lib.wpList_append_run w hgd s x 22 22 ho _ _ hs hx _ _ (run_append_nothing w 22 22 o.type 52 i0 Try.underlying22 hi none 0 0 (Nat.le_refl _) _ src) ?_
    exact h _ _ (World.ownsRow_nil _ _ _ _) ⟨rfl, rfl, rfl, Nat.le_refl _, fun _ _ _ => rfl⟩
  · refine wpList_append_own w hgd s x 22 ho base 52 i0 _ 5 40 Try.underlying22 hi hz0 hz1 hz2 rfl (by decide) (.slice none 0 0) 0 [] hs (World.ownsRow_nil _ _ _ _) ⟨g, of, none⟩ l.length cap (flat l) hx (flat_length l) (flat_news hc) (flat_one l) (by unfold maxLen; omega) (by omega) hbase (fun v' w' h1 h2 _ => h v' w' (by
      simpa using h1) h2)
theorem own_links {base : Nat} {w : World} {v : Value} {l : List Lk} (h : w.ownsRow base 52 5 v l.length (flat l)) : ∃ a cap, v = .slice a l.length cap ∧ Ls w a l := by
  have h' := h
  rcases h'.2 with ⟨rfl, h0⟩ | ⟨g, cap, cur, rfl, hbg, _⟩
  · exact ⟨none, 0, by rw [h0], .inl (List.length_eq_zero_iff.1 h0)⟩
  · have hlt := (h.lt g rfl).2
    have cs := h.cells (g := g) rfl
    refine ⟨_, cap, rfl, .inr ⟨g, 0, rfl, hlt, fun i hi => ?_⟩⟩
    obtain ⟨x0, x1, x2, x3, x4⟩ := flat_at l i hi
    have k := fun j u (hj : (flat l)[j]? = some u) => by
      have := cs j u hj
      rwa [addP, Nat.zero_add] at this
    rw [Nat.zero_add]
    exact ⟨k _ _ x0, k _ _ x1, k _ _ x2, k _ _ x3, k _ _ x4⟩
end Go.Proofs.Ytcjojcaahpkacaa

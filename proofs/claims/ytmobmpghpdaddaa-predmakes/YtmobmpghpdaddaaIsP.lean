/-
  Is; predicates that are answered.
-/
import Derived.Test.YtmobmpghpdaddaaMoved
namespace Go.Proofs.Ytmobmpghpdaddaa
open Go.ChangeShapes Go.WideShapes Go.ChangeAt Go.RowKit
set_option linter.unusedVariables false
set_option linter.unusedSimpArgs false

/-- Nodes in a row of their own, each slice in a block of its own. -/
structure NR (B : Nat) (w : World) (v : Value) (hs : List Nh) : Prop where
  own : Own 39 nhL 5 B w v hs
  sub : ∀ h ∈ hs, FrI B w h.b h.c h.x.s ∧ ∀ q, h.b = some ⟨q, 0, none⟩ → h.x.s ≠ [] → v.ownBlock ≠ some q
theorem NR.below {B : Nat} {w w' : World} {v : Value} {hs : List Nh} (h : NR B w v hs) (g : Below w.heap.size w w') : NR B w' v hs := ⟨own_below h.own g, fun x hx => ⟨(h.sub x hx).1.below g, (h.sub x hx).2⟩⟩
theorem NR.nil (B : Nat) (w : World) : NR B w (.slice none 0 0) [] := ⟨own_nil _ _ _ _ _, fun x hx => by cases hx⟩
theorem NR.ns {B : Nat} {w : World} {v : Value} {hs : List Nh} (h : NR B w v hs) : ∃ a c, v = .slice a hs.length c ∧ hs.length ≤ c ∧ Ns w a (hs.map (·.x)) := by
  obtain ⟨a, c, h1, h2, h3⟩ := own_sk kdN h.own
  exact ⟨a, c, h1, h2, h3.ns fun x hx => ⟨(h.sub x hx).1.1, (h.sub x hx).1.is⟩⟩
theorem NR.mono {B B' : Nat} {w : World} {v : Value} {hs : List Nh} (h : NR B w v hs) (hB : B' ≤ B) : NR B' w v hs := ⟨own_base h.own hB, fun x hx => ⟨(h.sub x hx).1.mono hB, (h.sub x hx).2⟩⟩
/-- What is answered: a predicate. -/
def PrR (w : World) (L : List Nd) (e : Ending) (w' : World) : Prop := ∃ v hs, e = .returned (.agg #[v]) ∧ NR w.heap.size w' v hs ∧ hs.map (·.x) = L ∧ Below w.heap.size w w'
theorem results_pred {fn : Func} {p : Tmp} (h : fn.results = #[.cell p 24]) (tmps : Array Value) (w : World) (b : Nat) (v : Value) (hp : tmps.getD p undef = .pointer (some ⟨b, 0, none⟩)) (hv : w.cell? ⟨b, 0, none⟩ = some v) : (results fn tmps).run Try.prog w = .ok (.agg #[v]) w := by
  have hp' : tmps[p]?.getD undef = .pointer (some ⟨b, 0, none⟩) := by simpa using hp
  have hr : w.rangeAt b 0 [v] := fun j u hj => by
    cases j with
    | zero => simp at hj; subst hj; exact hv
    | succ j => simp at hj
  have := run_loadVar_mid (P := Try.prog) w b 0 24 [v] (.struct (Try.prog.fieldsOf 24)) hr (by kernel_rfl) rfl (by kernel_rfl)
  simp [results, h, hp', asAddr, this]
theorem store_pred {w : World} {ops : Array Oper} {rest : List Oper} {o : Oper} {a : Go.Act} {Q : Exit → Go.Act → World → Prop} (hgd : o.guard = none) (x y : Operand) (ho : o.op = .store 24 x y) (b off : Nat) (hx : a.eval x = .pointer (some ⟨b, off, none⟩)) (v : Value) (hy : a.eval y = .agg #[v]) (hv : v.oneCell' = true) (ht : w.there b off 1)
    (hQ : wpList Try.prog ops Q rest (a.put o.dst undef) (w.setCell ⟨b, off, none⟩ v)) : wpList Try.prog ops Q (o :: rest) a w :=
  wpList_store_mid hgd 24 x y ho b off #[v] hx hy ht (by kernel_rfl) (by simp [hv]) (by simpa [World.setCells] using hQ)
/-- A row of one. -/
theorem own_one {α : Type} {k : α → List Value} {s : Nat} (hk : Kd k s) (e : TypeId) (w : World) (x : α) : Own e k s w.heap.size (w.alloc (.cells (k x).toArray e)) (.slice (some ⟨w.heap.size, 0, none⟩) 1 1) [x] := by
  refine ⟨flat_len hk [x], .inr ⟨w.heap.size, 1, (k x).toArray, rfl, Nat.le_refl _, heap_alloc_new w _, Nat.le_refl _, by simp [maxLen], by simp [hk.len], ?_⟩⟩
  have e1 : (k x).take s = k x := List.take_of_length_le (by rw [hk.len]; exact Nat.le_refl _)
  simp [e1]
def isL (t : Tst) : List Nd := if trB t then [⟨3, t, []⟩] else []
set_option maxRecDepth 20000 in
set_option maxHeartbeats 4000000 in
theorem is_any (t : Tst) (w : World) : Calls Try.prog 19 #[tV t] w fun e w' => PrR w (isL t) e w' := by
  obtain ⟨X, hX⟩ : ∃ X, (w.alloc (.cells #[.int .i64 t.f, cv t.v, cv t.m] 32)).alloc (.cells #[.slice none 0 0] 24) = X := ⟨_, rfl⟩
  have gX : Below w.heap.size w X := by rw [← hX]; go_grown
  have zX : X.heap.size = w.heap.size + 2 := by rw [← hX]; simp
  have d0 : X.cell? ⟨w.heap.size, 0, none⟩ = some (.int .i64 t.f) := by rw [← hX]; simp
  have d1 : X.cell? ⟨w.heap.size, 1, none⟩ = some (cv t.v) := by rw [← hX]; simp
  have d2 : X.cell? ⟨w.heap.size, 2, none⟩ = some (cv t.m) := by rw [← hX]; simp
  have d3 : X.cell? ⟨w.heap.size + 1, 0, none⟩ = some (.slice none 0 0) := by rw [← hX]; simp
  have d4 : X.frozen? ⟨w.heap.size + 1, 0, none⟩ = false := by rw [← hX]; simp
  have HG : Hid (Below w.heap.size w X ∧ X.heap.size = w.heap.size + 2) := ⟨gX, zX⟩
  have HR : Hid (Calls Try.prog 44 #[tV t] X fun e w' => e = .returned (.bool (trB t)) ∧ Below X.heap.size X w') := right_test t X
  have HK : Hid (∀ u, Below X.heap.size X u → u.cell? ⟨w.heap.size, 0, none⟩ = some (.int .i64 t.f) ∧ u.cell? ⟨w.heap.size, 1, none⟩ = some (cv t.v) ∧ u.cell? ⟨w.heap.size, 2, none⟩ = some (cv t.m) ∧ u.cell? ⟨w.heap.size + 1, 0, none⟩ = some (.slice none 0 0) ∧ u.frozen? ⟨w.heap.size + 1, 0, none⟩ = false) := (show ∀ u, _ from fun u g => by
    obtain ⟨k1, k2⟩ := bcell g
    exact ⟨(k1 _ _ (by omega)).trans d0, (k1 _ _ (by omega)).trans d1, (k1 _ _ (by omega)).trans d2, (k1 _ _ (by omega)).trans d3, (k2 _ _ (by omega)).trans d4⟩)
  unfold isL
  clear gX zX
  cases hb : trB t with
  | false =>
    rw [hb] at HR
    clear hb
    go_enter Try.func19, Try.ntmps19
    go_wp2_with (go_at_call 44; refine HR.out.mono ?_; rintro r w1 ⟨rfl, hb⟩; have HB1 : Hid (Below X.heap.size X w1) := hb; (obtain ⟨e0, e1, e2, e3, e4⟩ := HK.out w1 hb); clear hb)
    exact bodyPost_ret (results_pred rfl _ _ (w.heap.size + 1) (.slice none 0 0) rfl (World.cell?_setCell_same _ _ _ e3)) rfl ⟨_, [], rfl, NR.nil _ _, rfl, (btr HG.out.1 HB1.out (by have := HG.out.2; omega)).setCell (by simp) _⟩
  | true =>
    rw [hb] at HR
    clear hb
    have HY : Hid (∀ w1, Below X.heap.size X w1 → ∀ W2, W2 = w1.alloc (.cells #[.int .i64 3, .int .i64 t.f, cv t.v, cv t.m, .slice none 0 0] 39) → W2.there (w.heap.size + 1) 0 1 ∧ NR w.heap.size (W2.setCell ⟨w.heap.size + 1, 0, none⟩ (.slice (some ⟨w1.heap.size, 0, none⟩) 1 1)) (.slice (some ⟨w1.heap.size, 0, none⟩) 1 1) [⟨⟨3, t, []⟩, none, 0⟩] ∧ Below w.heap.size w (W2.setCell ⟨w.heap.size + 1, 0, none⟩ (.slice (some ⟨w1.heap.size, 0, none⟩) 1 1)) ∧ (W2.setCell ⟨w.heap.size + 1, 0, none⟩ (.slice (some ⟨w1.heap.size, 0, none⟩) 1 1)).cell? ⟨w.heap.size + 1, 0, none⟩ = some (.slice (some ⟨w1.heap.size, 0, none⟩) 1 1)) := (show ∀ w1, _ from fun w1 g W2 hW => by
      have hz := HG.out.2
      have hz1 := g.size
      have h1 : Own 39 nhL 5 w1.heap.size W2 (.slice (some ⟨w1.heap.size, 0, none⟩) 1 1) [⟨⟨3, t, []⟩, none, 0⟩] := by rw [hW]; exact own_one kdN 39 w1 ⟨⟨3, t, []⟩, none, 0⟩
      have gW : Below w1.heap.size w1 W2 := by rw [hW]; go_grown
      have hc : W2.cell? ⟨w.heap.size + 1, 0, none⟩ = some (.slice none 0 0) := (gW.cell (p := ⟨w.heap.size + 1, 0, none⟩) (by show w.heap.size + 1 < _; omega)).trans (HK.out w1 g).2.2.2.1
      have hf : W2.frozen? ⟨w.heap.size + 1, 0, none⟩ = false := ((bcell gW).2 _ _ (by omega)).trans (HK.out w1 g).2.2.2.2
      refine ⟨fun j hj => ?_, ⟨own_base (own_chg h1 (fun j hj => setCell_block _ _ _ _ (fun e => by subst e; have := (own_lt h1 hj).1; omega))) (by omega), fun x hx => ?_⟩, (btr (btr HG.out.1 g (by omega)) gW (by omega)).setCell (by simp) _, World.cell?_setCell_same _ _ _ hc⟩
      · obtain rfl : j = 0 := by omega
        exact ⟨by rw [Nat.add_zero, hc]; rfl, by rw [Nat.add_zero, hf]⟩
      · rw [List.mem_singleton] at hx
        subst hx
        exact ⟨⟨Nat.le_refl _, .inl rfl⟩, fun q h => by cases h⟩)
    go_enter Try.func19, Try.ntmps19
    go_wp2_with (first
      | (go_at_call 44; refine HR.out.mono ?_; rintro r w1 ⟨rfl, hb⟩; have HB1 : Hid (Below X.heap.size X w1) := hb; (obtain ⟨e0, e1, e2, e3, e4⟩ := HK.out w1 hb); clear hb)
      | (have HY2 := HY.out w1 HB1.out _ rfl; refine store_pred rfl (.tmp 2) (.tmp 10) rfl (w.heap.size + 1) 0 rfl (.slice (some ⟨w1.heap.size, 0, none⟩) 1 1) rfl rfl HY2.1 ?_; have HZ : Hid _ := HY2.2; clear HY2))
    exact bodyPost_ret (results_pred rfl _ _ (w.heap.size + 1) (.slice (some ⟨w1.heap.size, 0, none⟩) 1 1) rfl HZ.out.2.2) rfl ⟨_, _, rfl, HZ.out.1, rfl, HZ.out.2.1⟩
end Go.Proofs.Ytmobmpghpdaddaa

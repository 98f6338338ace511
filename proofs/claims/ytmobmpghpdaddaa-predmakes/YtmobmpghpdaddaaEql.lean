/-
  Rows compared whole; cubes that have values, that meet; what both ask.
-/
import Derived.Test.YtmobmpghpdaddaaUnd
namespace Go.Proofs.Ytmobmpghpdaddaa
open Go.ChangeShapes Go.WideShapes Go.ChangeAt Go.RowKit
set_option linter.unusedVariables false

/-- Two rows are one. -/
def eqR (r s : Nat → B64) : Bool := (List.range 10).all fun f => r f == s f
theorem eqR_iff (r s : Nat → B64) : eqR r s = true ↔ ∀ f, f < 10 → r f = s f := by unfold eqR; simp
theorem rowA_lit (r : Nat → B64) : rowA r = #[cv (r 0), cv (r 1), cv (r 2), cv (r 3), cv (r 4), cv (r 5), cv (r 6), cv (r 7), cv (r 8), cv (r 9)] := rfl
theorem nb_beq (a b : B64) : (nb a == nb b) = (a == b) := by rw [Bool.eq_iff_iff, beq_iff_eq, beq_iff_eq, nb_inj]
theorem part_row (r : Nat → B64) (i : Nat) (hi : i < 10) (w : World) : (part 30 (rowA r) (i * 1)).run Try.prog w = .ok (cv (r i)) w := by
  have a4 := Try.isAgg30
  have z4 := Try.sizeOf30
  have h : (rowA r)[i]? = some (cv (r i)) := by unfold rowA; rw [List.getElem?_toArray]; exact rowL_at r i hi
  simp [part, a4, z4, h]
theorem eq_row_in (d : Nat) (r s : Nat → B64) (w : World) : (Op.equalIn (d + 1 + 1) 62 (.agg (rowA r)) (.agg (rowA s))).run Try.prog w = .ok (eqR r s) w := by
  have u4 := Try.underlying30
  have z4 := Try.sizeOf30
  rw [Op.equalIn]
  simp only [Sem.run_bind, run_underlying under_row, Result.andThen_ok, z4]
  rw [Std.Legacy.Range.forIn_eq_forIn_range']
  have key : ∀ L : List Nat, (∀ i ∈ L, i < 10) → Sem.run Try.prog (forIn L ((none : Option Bool), ()) fun i __s => do
            let x ← part 30 (rowA r) (i * 1)
            let y ← part 30 (rowA s) (i * 1)
            let z ← Op.equalIn (d + 1) 30 x y
            if (!z) = true then pure (ForInStep.done (some false, ())) else pure (ForInStep.yield (none, ()))) w = .ok (if (L.all fun f => r f == s f) then (none, ()) else (some false, ())) w := by
    intro L
    induction L with
    | nil => intro _; rfl
    | cons i L ih =>
      intro hL
      have ih' := ih fun j hj => hL j (List.mem_cons_of_mem _ hj)
      have hi := hL i (List.mem_cons_self ..)
      simp only [List.forIn_cons, Sem.run_bind, part_row _ _ hi, Result.andThen_ok, run_equalIn_int w d _ _ _ _ _ u4, nb_beq]
      by_cases h : r i = s i
      · have e : (r i == s i) = true := by simp [h]
        rw [List.all_cons, e, Bool.true_and]
        exact ih'
      · have e : (r i == s i) = false := by simp [h]
        rw [List.all_cons, e, Bool.false_and]
        rfl
  rw [key _ (by simp)]
  have hL : List.range' 0 10 1 = List.range 10 := rfl
  have hE : eqR r s = ((List.range 10).all fun f => r f == s f) := rfl
  rw [hE]
  show (Result.ok (if ((List.range 10).all fun f => r f == s f) = true then ((none : Option Bool), ()) else (some false, ())) w).andThen _ = _
  cases ((List.range 10).all fun f => r f == s f) <;> rfl
theorem eq_row (r s : Nat → B64) (w : World) : (binOp .eql 62 (.agg (rowA r)) (.agg (rowA s))).run Try.prog w = .ok (.bool (eqR r s)) w := by
  rw [run_eql_struct, show (10000 : Nat) = 9998 + 1 + 1 from rfl, eq_row_in]
  rfl
theorem gu_row (op : BinOp) (x y : Operand) (r s : Nat → B64) (w : World) : (eqGuard op 62 x y (.agg (rowA r)) (.agg (rowA s))).run Try.prog w = .ok () w := run_eqGuard_agg w op 62 x y _ _ (by kernel_rfl)

/-- Whether values are in a cube: under its masks they are its values. -/
theorem has_is (k : K) (r : Nat → B64) : eqR (fun f => r f &&& k.m f) k.v = hasB k r := rfl
theorem meet_is (a b : K) : eqR (fun f => a.v f &&& (a.m f &&& b.m f)) (fun f => b.v f &&& (a.m f &&& b.m f)) = meetB a b := rfl

/-- A world that was grown out of another one. -/
structure GrS (W : World) where
  w : World
  h : Below W.heap.size W w
/-- Such a world, or that one itself. -/
abbrev GrT (W : World) : Type := Option (GrS W)
def GrT.w {W : World} : GrT W → World
  | none => W
  | some g => g.w
theorem GrT.h {W : World} : (n : GrT W) → Below W.heap.size W n.w
  | none => Below.refl _ _
  | some g => g.h
theorem gr_elim {W w' : World} (h : ∃ n : GrT W, w' = n.w) : Below W.heap.size W w' := by
  obtain ⟨n, rfl⟩ := h
  exact n.h
theorem wp_region_grow {P : Program} {id : Nat} {Q : Exit → Act → World → Prop} {a : Act} {w : World} {l : List Oper} (hm : P.follows .mixedOrders = true) (hB : Region.lexB .any l.toArray = true)
    (h : wpQuiet P l.toArray (fun w' => ∃ n : GrT w, w' = n.w) (fun a' => ∀ w', (∃ n : GrT w, w' = n.w) → Q .normal a' w') l a) : (Code.region id l.toArray true).wp P Q a w :=
  wp_region_quiet (C := fun w' => ∃ n : GrT w, w' = n.w) hm hB ⟨some ⟨_, (Below.refl _ w).drew⟩, rfl⟩ (by simpa using h)
/-- A callee that leaves what was there. -/
theorem quiet_gr {P : Program} {f : FuncId} {args : Array Value} {W : World} {n : GrT W} {v : Value}
    (h : Calls P f args n.w fun e w' => e = .returned v ∧ Below n.w.heap.size n.w w') : Calls P f args n.w fun e w'' => e = .returned v ∧ ∃ m : GrT W, w'' = m.w :=
  h.mono fun _ w' ⟨he, hm⟩ => ⟨he, some ⟨w', btr n.h hm (Nat.le_refl _)⟩, rfl⟩
theorem quiet_gs {P : Program} {f : FuncId} {args : Array Value} {W : World} {n : GrT W} {v : Value}
    (h : Calls P f args n.w fun e w' => e = .returned v ∧ w' = n.w) : Calls P f args n.w fun e w'' => e = .returned v ∧ ∃ m : GrT W, w'' = m.w :=
  h.mono fun _ _ ⟨he, hm⟩ => ⟨he, n, hm⟩
theorem cell_gr {W : World} {b o : Nat} {v : Value} (h : W.cell? ⟨b, o, none⟩ = some v) (hb : b < W.heap.size) (n : GrT W) : n.w.cell? ⟨b, o, none⟩ = some v := (n.h.cell (p := ⟨b, o, none⟩) hb).trans h
/-- A row is loaded whole in a region that draws. -/
theorem ld_row {W : World} {o : Oper} {a : Go.Act} {N : Go.Act → Prop} (x : Operand) (ho : o.op = .load 62 x) (b off : Nat) (hx : a.eval x = .pointer (some ⟨b, off, none⟩)) (r : Nat → B64) (hr : R10 W b off r) (hb : b < W.heap.size)
    (hk : N (a.put o.dst (.agg (rowA r)))) : o.quiet Try.prog a (fun w' => ∃ n : GrT W, w' = n.w) N :=
  ⟨_, fun w hw => by
    obtain ⟨n, rfl⟩ := hw
    have h := run_loadVar_mid (P := Try.prog) n.w b off 62 _ _ (hr.below hb n.h).range under_row rfl (by rw [rowL_len]; exact info_row)
    unfold Oper.quietAt execOp
    simp only [ho, hx, Instr.loadAt, Instr.sureAddr, Sem.run_bind, Sem.run_pure, Result.andThen_ok, h]
    exact ⟨rfl, rfl⟩, hk⟩
set_option maxRecDepth 20000 in
set_option maxHeartbeats 2000000 in
theorem has_any (k : K) (r : Nat → B64) (w : World) :
    Calls Try.prog 47 #[.agg (cubA k), .agg (rowA r)] w fun e w' => e = .returned (.bool (hasB k r)) ∧ Below w.heap.size w w' := by
  rw [← has_is]
  go_enter Try.func47, Try.ntmps47
  go_wp2_with fail
  have h1 := C20.new w k 70
  have h2 := R10.new (w.alloc (.cells (cubA k) 70)) r 62
  have h3 : C20 ((w.alloc (.cells (cubA k) 70)).alloc (.cells (rowA r) 62)) w.heap.size 0 k := h1.block (heap_alloc_old _ _ (by simp))
  have hz : ((w.alloc (.cells (cubA k) 70)).alloc (.cells (rowA r) 62)).heap.size = w.heap.size + 2 := by simp
  have g : Below w.heap.size w ((w.alloc (.cells (cubA k) 70)).alloc (.cells (rowA r) 62)) := by go_grown
  simp only [World.size_alloc] at h2
  obtain ⟨U, hU⟩ : ∃ U, (w.alloc (.cells (cubA k) 70)).alloc (.cells (rowA r) 62) = U := ⟨_, rfl⟩
  rw [hU] at h2 h3 hz g ⊢
  clear hU h1
  have L1 : Hid (R10 U (w.heap.size + 1) 0 r ∧ w.heap.size + 1 < U.heap.size) := ⟨h2, by omega⟩
  have L2 : Hid (R10 U w.heap.size 0 k.m ∧ w.heap.size < U.heap.size) := ⟨h3.1, by omega⟩
  have L3 : Hid (R10 U w.heap.size 10 k.v ∧ w.heap.size < U.heap.size) := ⟨h3.2, by omega⟩
  clear h2 h3
  have HC : Hid (∀ n : GrT U, Calls Try.prog 60 #[.agg (rowA r), .agg (rowA k.m)] n.w fun e w' => e = .returned (.agg (rowA fun f => r f &&& k.m f)) ∧ Below n.w.heap.size n.w w') := (show ∀ n : GrT U, _ from fun n => under_any r k.m n.w)
  have q1 := eq_row (fun f => r f &&& k.m f) k.v
  have q2 := fun x y => gu_row .eql x y (fun f => r f &&& k.m f) k.v
  refine wp_region_grow (by kernel_rfl) (by kernel_rfl) ?_
  repeat (first | (go_big_quiet_want; (first | refine ld_row (.tmp 3) rfl _ _ rfl _ L1.out.1 L1.out.2 ?_ | refine ld_row (.tmp 6) rfl _ _ rfl _ L2.out.1 L2.out.2 ?_ | refine ld_row (.tmp 9) rfl _ _ rfl _ L3.out.1 L3.out.2 ?_); go_simp; go_big_quiet_on) | go_big_quiet_step ((go_at_call 60; exact quiet_gr (HC.out _))))
  refine wpQuiet_nil ?_
  rintro w1 hw'
  have g1 := gr_elim hw'
  clear hw'
  go_wp2_with fail
  go_ret
  exact ⟨rfl, btr g g1 (by omega)⟩
/-- Two cubes in boxes. -/
theorem two_cubs (a b : K) (w : World) : ∃ U, (w.alloc (.cells (cubA a) 70)).alloc (.cells (cubA b) 70) = U ∧ C20 U w.heap.size 0 a ∧ C20 U (w.heap.size + 1) 0 b ∧ U.heap.size = w.heap.size + 2 ∧ Below w.heap.size w U := by
  have h1 := C20.new w a 70
  have h2 := C20.new (w.alloc (.cells (cubA a) 70)) b 70
  simp only [World.size_alloc] at h2
  exact ⟨_, rfl, h1.block (heap_alloc_old _ _ (by simp)), h2, by simp, by go_grown⟩
set_option maxRecDepth 20000 in
set_option maxHeartbeats 2000000 in
theorem meets_any (a b : K) (w : World) :
    Calls Try.prog 49 #[.agg (cubA a), .agg (cubA b)] w fun e w' => e = .returned (.bool (meetB a b)) ∧ Below w.heap.size w w' := by
  rw [← meet_is]
  go_enter Try.func49, Try.ntmps49
  obtain ⟨U, hU, h1, h2, hz, g⟩ := two_cubs a b w
  have HA : Hid (C20 U w.heap.size 0 a ∧ C20 U (w.heap.size + 1) 0 b) := ⟨h1, h2⟩
  have HG : Hid (Below w.heap.size w U) := g
  have HZ : Hid (U.heap.size = w.heap.size + 2) := hz
  obtain ⟨c, hc⟩ : ∃ c : Nat → B64, (fun f => a.m f &&& b.m f) = c := ⟨_, rfl⟩
  have HU := under_any a.m b.m U
  rw [hc] at HU
  have HCU : Hid (Calls Try.prog 60 #[.agg (rowA a.m), .agg (rowA b.m)] U fun e w' => e = .returned (.agg (rowA c)) ∧ Below U.heap.size U w') := HU
  have hE : meetB a b = eqR (fun f => a.v f &&& c f) (fun f => b.v f &&& c f) := by rw [← meet_is, ← hc]
  rw [meet_is, hE]
  clear h1 h2 HU g hc hE hz
  have HN : Hid (∀ w1, Below U.heap.size U w1 → ∃ V, (w1.alloc (.cells #[.int .u64 0, .int .u64 0, .int .u64 0, .int .u64 0, .int .u64 0, .int .u64 0, .int .u64 0, .int .u64 0, .int .u64 0, .int .u64 0] 62)).setCells w1.heap.size 0 (rowL c) = V ∧ R10 V w1.heap.size 0 c ∧ C20 V w.heap.size 0 a ∧ C20 V (w.heap.size + 1) 0 b ∧ Below w.heap.size w V ∧ V.heap.size = w1.heap.size + 1) := (show ∀ w1, _ from fun w1 h => by
    have h1 : Below w1.heap.size w1 (w1.alloc (.cells #[.int .u64 0, .int .u64 0, .int .u64 0, .int .u64 0, .int .u64 0, .int .u64 0, .int .u64 0, .int .u64 0, .int .u64 0, .int .u64 0] 62)) := by go_grown
    have h2 := below_setCells h1 (b := w1.heap.size) (Nat.le_refl _) (rowL c) 0
    have h3 := btr' h (h2.mono h.size)
    have hz := HZ.out
    refine ⟨_, rfl, stored_row (there_new w1 _ 62 10 rfl) c, HA.out.1.below (by omega) h3, HA.out.2.below (by omega) h3, btr HG.out h3 (by omega), ?_⟩
    have : ∀ (vs : List Value) (b o : Nat) (w : World), (w.setCells b o vs).heap.size = w.heap.size := fun vs => by
      induction vs with
      | nil => intro b o w; rfl
      | cons v vs ih => intro b o w; exact (ih _ _ _).trans (by simp [World.setCell])
    rw [this]
    simp)
  go_wp2_with (first
    | (rw [hU]; refine load_row rfl (.tmp 6) rfl w.heap.size 0 rfl a.m HA.out.1.1 ?_)
    | (refine load_row rfl (.tmp 6) rfl w.heap.size 0 rfl a.m HA.out.1.1 ?_)
    | (refine load_row rfl (.tmp 8) rfl (w.heap.size + 1) 0 rfl b.m HA.out.2.1 ?_)
    | (go_at_call 60; refine HCU.out.mono ?_; rintro r w1 ⟨rfl, hb1⟩; have HB1 : Hid (Below U.heap.size U w1) := hb1; clear hb1)
    | (obtain ⟨V, hV, k1, k2, k3, k4, k5⟩ := HN.out w1 HB1.out; refine store_row rfl (.tmp 5) (.tmp 10) rfl w1.heap.size 0 rfl c rfl (there_new w1 _ 62 10 rfl) ?_; rw [hV]; have K1 : Hid (R10 V w1.heap.size 0 c) := k1; have K2 : Hid (C20 V w.heap.size 0 a) := k2; have K3 : Hid (C20 V (w.heap.size + 1) 0 b) := k3; have K4 : Hid (Below w.heap.size w V) := k4; have K5 : Hid (V.heap.size = w1.heap.size + 1) := k5; clear k1 k2 k3 k4 k5 hV HN HCU))
  go_simp
  have HL : Hid (R10 V w1.heap.size 0 c ∧ w1.heap.size < V.heap.size ∧ w.heap.size < V.heap.size ∧ w.heap.size + 1 < V.heap.size) := (by
    have h1 := HB1.out.size
    have h2 := HZ.out
    have h3 := K5.out
    exact ⟨K1.out, by omega, by omega, by omega⟩)
  have HCa : Hid (∀ n : GrT V, Calls Try.prog 60 #[.agg (rowA a.v), .agg (rowA c)] n.w fun e w' => e = .returned (.agg (rowA fun f => a.v f &&& c f)) ∧ Below n.w.heap.size n.w w') := (show ∀ n : GrT V, _ from fun n => under_any a.v c n.w)
  have HCb : Hid (∀ n : GrT V, Calls Try.prog 60 #[.agg (rowA b.v), .agg (rowA c)] n.w fun e w' => e = .returned (.agg (rowA fun f => b.v f &&& c f)) ∧ Below n.w.heap.size n.w w') := (show ∀ n : GrT V, _ from fun n => under_any b.v c n.w)
  have q1 := eq_row (fun f => a.v f &&& c f) (fun f => b.v f &&& c f)
  have q2 := fun x y => gu_row .eql x y (fun f => a.v f &&& c f) (fun f => b.v f &&& c f)
  refine wp_region_grow (by kernel_rfl) (by kernel_rfl) ?_
  repeat (first | (go_big_quiet_want; (first | refine ld_row (.tmp 11) rfl w.heap.size 10 rfl a.v K2.out.2 HL.out.2.2.1 ?_ | refine ld_row (.tmp 15) rfl (w.heap.size + 1) 10 rfl b.v K3.out.2 HL.out.2.2.2 ?_ | refine ld_row (.tmp 5) rfl w1.heap.size 0 rfl c HL.out.1 HL.out.2.1 ?_); go_simp; go_big_quiet_on) | go_big_quiet_step ((go_at_call_of 60 (Value.agg (rowA a.v)); exact quiet_gr (HCa.out _))) | go_big_quiet_step ((go_at_call 60; exact quiet_gr (HCb.out _))))
  refine wpQuiet_nil ?_
  rintro w2 hw'
  have g2 := gr_elim hw'
  clear hw'
  go_wp2_with fail
  go_ret
  exact ⟨rfl, btr K4.out g2 (by have := K4.out.size; omega)⟩
end Go.Proofs.Ytmobmpghpdaddaa

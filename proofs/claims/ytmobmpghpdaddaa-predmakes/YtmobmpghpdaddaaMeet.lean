/-
  In, Pick, Meet.
-/
import Derived.Test.YtmobmpghpdaddaaWhole
namespace Go.Proofs.Ytmobmpghpdaddaa
open Go.ChangeShapes Go.WideShapes Go.ChangeAt Go.RowKit
set_option linter.unusedVariables false

theorem whole_rng {l : List Tst} (h : wholeB l = true) : ∀ t ∈ l, 1 ≤ t.f ∧ t.f ≤ 9 := fun t ht => by
  have := (trB_iff t).1 (whole_all h t ht).1
  exact ⟨this.1, this.2.1⟩
/-- Values are in a whole cube. -/
def inB (l : List Tst) (r : Nat → B64) : Bool := wholeB l && hasB (cubF l) r
set_option maxRecDepth 20000 in
set_option maxHeartbeats 4000000 in
theorem in_any (a : Option Addr) (l : List Tst) (cap : Nat) (av : Option Addr) (vl : List B64) (vc : Nat) (w : World) (hs : Ts w a l) (hv : Vs w av vl) (hl : l.length ≤ 9223372036854775807) :
    Calls Try.prog 23 #[.slice a l.length cap, .slice av vl.length vc] w fun e w' => e = .returned (.bool (inB l (valR vl))) ∧ Below w.heap.size w w' := by
  have HW : Hid (Calls Try.prog 22 #[.slice a l.length cap] w fun e w' => e = .returned (.bool (wholeB l)) ∧ Below w.heap.size w w') := whole_any a l cap w hs hl
  cases hb : wholeB l with
  | false =>
    have hE : inB l (valR vl) = false := by unfold inB; rw [hb]; rfl
    rw [hE]
    rw [hb] at HW
    clear hE hb
    go_enter Try.func23, Try.ntmps23
    go_wp2_with (go_at_call 22; refine HW.out.mono ?_; rintro r w1 ⟨rfl, hb⟩; have HB1 : Hid (Below w.heap.size w w1) := hb; clear hb)
    go_ret
    exact ⟨rfl, HB1.out⟩
  | true =>
    have hE : inB l (valR vl) = hasB (cubF l) (valR vl) := by unfold inB; rw [hb]; rfl
    rw [hE]
    rw [hb] at HW
    have HS : Hid (∀ u, Below w.heap.size w u → Calls Try.prog 46 #[.slice a l.length cap] u fun e w' => e = .returned (.agg (cubA (cubF l))) ∧ Below u.heap.size u w') := (show ∀ u, _ from fun u g => cubeOf_any a l cap u (hs.below g) (whole_rng hb) hl)
    have HV : Hid (∀ u, Below w.heap.size w u → Calls Try.prog 40 #[.slice av vl.length vc] u fun e w' => e = .returned (.agg (rowA (valR vl))) ∧ Below u.heap.size u w') := (show ∀ u, _ from fun u g => rowOf_any av vl vc u (hv.below g))
    clear hE hb hs hv
    go_enter Try.func23, Try.ntmps23
    go_wp2_with (first
      | (go_at_call 22; refine HW.out.mono ?_; rintro r w1 ⟨rfl, hb⟩; have HB1 : Hid (Below w.heap.size w w1) := hb; clear hb)
      | (go_at_call 46; refine (HS.out _ HB1.out).mono ?_; rintro r w2 ⟨rfl, hb⟩; have HB2 : Hid (Below w.heap.size w w2) := (show Below _ _ _ from btr HB1.out hb (by omega)); clear hb)
      | (go_at_call 40; refine (HV.out _ HB2.out).mono ?_; rintro r w3 ⟨rfl, hb⟩; have HB3 : Hid (Below w.heap.size w w3) := (show Below _ _ _ from btr HB2.out hb (by omega)); clear hb)
      | (go_at_call 47; refine (has_any _ _ _).mono ?_; rintro r w4 ⟨rfl, hb⟩; have HB4 : Hid (Below w.heap.size w w4) := (show Below _ _ _ from btr HB3.out hb (by omega)); clear hb))
    go_ret
    exact ⟨rfl, HB4.out⟩
theorem rowA_off (k : K) : (cubA k).extract 10 20 = rowA k.v := by
  unfold cubA rowA cubL
  rw [List.extract_toArray]
  congr 1
theorem field_v (k : K) (w : World) : (Instr.field 70 (.agg (cubA k)) 1).run Try.prog w = .ok (.agg (rowA k.v)) w := by
  have u := under_cube
  have h := rowA_off k
  have a3 := Try.isAgg62
  have z3 := Try.sizeOf62
  have hf : (Try.prog.fieldsOf 70)[1]?.map (fun f => (f.type, f.offset)) = some (62, 10) := by kernel_rfl
  cases hq : (Try.prog.fieldsOf 70)[1]? with
  | none => rw [hq] at hf; cases hf
  | some f =>
    rw [hq] at hf
    have h1 : f.type = 62 := (Prod.mk.inj (Option.some.inj hf)).1
    have h2 : f.offset = 10 := (Prod.mk.inj (Option.some.inj hf)).2
    simp [Instr.field, run_underlying u, hq, h1, h2, part, a3, z3, asAgg, h]
/-- What is picked: ten numbers, in a row of its own. -/
structure PkR (w : World) (r : Nat → B64) (b : Nat) (w' : World) : Prop where
  row : R10 w' b 0 r
  lo : w.heap.size ≤ b
  lt : b < w'.heap.size
  bel : Below w.heap.size w w'
set_option maxRecDepth 20000 in
set_option maxHeartbeats 4000000 in
theorem pick_any (a : Option Addr) (l : List Tst) (cap : Nat) (w : World) (hs : Ts w a l) (hl : l.length ≤ 9223372036854775807) :
    Calls Try.prog 26 #[.slice a l.length cap] w fun e w' => (wholeB l = false ∧ e = .returned (.slice none 0 0) ∧ Below w.heap.size w w') ∨ (wholeB l = true ∧ ∃ b, e = .returned (.slice (some ⟨b, 0, none⟩) 10 10) ∧ PkR w (cubF l).v b w') := by
  have HW : Hid (Calls Try.prog 22 #[.slice a l.length cap] w fun e w' => e = .returned (.bool (wholeB l)) ∧ Below w.heap.size w w') := whole_any a l cap w hs hl
  cases hb : wholeB l with
  | false =>
    rw [hb] at HW
    clear hb
    go_enter Try.func26, Try.ntmps26
    go_wp2_with (go_at_call 22; refine HW.out.mono ?_; rintro r w1 ⟨rfl, hb⟩; have HB1 : Hid (Below w.heap.size w w1) := hb; clear hb)
    go_ret
    exact .inl ⟨by first | rfl | trivial, rfl, HB1.out⟩
  | true =>
    rw [hb] at HW
    have HS : Hid (∀ u, Below w.heap.size w u → Calls Try.prog 46 #[.slice a l.length cap] u fun e w' => e = .returned (.agg (cubA (cubF l))) ∧ Below u.heap.size u w') := (show ∀ u, _ from fun u g => cubeOf_any a l cap u (hs.below g) (whole_rng hb) hl)
    generalize cubF l = k at *
    have hf := field_v k
    clear hb hs
    go_enter Try.func26, Try.ntmps26
    go_wp2_with (first
      | (go_at_call 22; refine HW.out.mono ?_; rintro r w1 ⟨rfl, hb⟩; have HB1 : Hid (Below w.heap.size w w1) := hb; clear hb)
      | (go_at_call 46; refine (HS.out _ HB1.out).mono ?_; rintro r w2 ⟨rfl, hb⟩; have HB2 : Hid (Below w.heap.size w w2) := (show Below _ _ _ from btr HB1.out hb (by omega)); clear hb)
      | (refine store_row rfl (.tmp 3) (.tmp 9) rfl w2.heap.size 0 rfl k.v rfl (there_new w2 _ 62 10 rfl) ?_; have HSt : Hid (PkR w k.v w2.heap.size ((w2.alloc (.cells #[.int .u64 0, .int .u64 0, .int .u64 0, .int .u64 0, .int .u64 0, .int .u64 0, .int .u64 0, .int .u64 0, .int .u64 0, .int .u64 0] 62)).setCells w2.heap.size 0 (rowL k.v))) := (show PkR _ _ _ _ from ⟨stored_row (there_new w2 _ 62 10 rfl) k.v, HB2.out.size, by (rw [size_setCells]; simp), btr HB2.out (below_setCells (by go_grown) (Nat.le_refl _) _ _) (by omega)⟩); generalize (w2.alloc (.cells #[.int .u64 0, .int .u64 0, .int .u64 0, .int .u64 0, .int .u64 0, .int .u64 0, .int .u64 0, .int .u64 0, .int .u64 0, .int .u64 0] 62)).setCells w2.heap.size 0 (rowL k.v) = W at *))
    go_ret
    exact .inr ⟨by first | rfl | trivial, _, rfl, HSt.out⟩
/-- What Meet answers. -/
def MtR (w : World) (l m : List Tst) (e : Ending) (w' : World) : Prop :=
  (wholeB l = true ∧ wholeB m = true ∧ meetB (cubF l) (cubF m) = true ∧ ∃ v, e = .returned (.tuple #[v, .bool true]) ∧ RwI 32 tstL 3 w v (toT (bothK (cubF l) (cubF m))) w') ∨
  ((wholeB l && wholeB m && meetB (cubF l) (cubF m)) = false ∧ e = .returned (.tuple #[.slice none 0 0, .bool false]) ∧ Below w.heap.size w w')
theorem own_base {α : Type} {e : TypeId} {k : α → List Value} {s : Nat} {b b' : Nat} {w : World} {v : Value} {zs : List α} (h : Own e k s b w v zs) (hb : b' ≤ b) : Own e k s b' w v zs := by
  refine ⟨h.1, ?_⟩
  rcases h.2 with h | ⟨g, cap, cur, h1, h2, h3⟩
  · exact .inl h
  · exact .inr ⟨g, cap, cur, h1, by omega, h3⟩
theorem RwI.from {α : Type} {e : TypeId} {k : α → List Value} {s : Nat} {w u w' : World} {v : Value} {zs : List α} (h : RwI e k s u v zs w') (g : Below w.heap.size w u) : RwI e k s w v zs w' := ⟨own_base h.own g.size, btr g h.bel (by omega)⟩
set_option maxRecDepth 20000 in
set_option maxHeartbeats 4000000 in
theorem meet_any (a : Option Addr) (l : List Tst) (cap : Nat) (b : Option Addr) (m : List Tst) (mc : Nat) (w : World) (hs : Ts w a l) (ht : Ts w b m) (hl : l.length ≤ 9223372036854775807) (hm : m.length ≤ 9223372036854775807) :
    Calls Try.prog 28 #[.slice a l.length cap, .slice b m.length mc] w fun e w' => MtR w l m e w' := by
  have HW : Hid (Calls Try.prog 22 #[.slice a l.length cap] w fun e w' => e = .returned (.bool (wholeB l)) ∧ Below w.heap.size w w') := whole_any a l cap w hs hl
  have HW2 : Hid (∀ u, Below w.heap.size w u → Calls Try.prog 22 #[.slice b m.length mc] u fun e w' => e = .returned (.bool (wholeB m)) ∧ Below u.heap.size u w') := (show ∀ u, _ from fun u g => whole_any b m mc u (ht.below g) hm)
  have HNo : Hid ((wholeB l && wholeB m && meetB (cubF l) (cubF m)) = false → ∀ w', Below w.heap.size w w' → MtR w l m (.returned (.tuple #[.slice none 0 0, .bool false])) w') := (show _ → _ from fun h w' g => .inr ⟨h, rfl, g⟩)
  cases hb : wholeB l with
  | false =>
    have hN : Hid (∀ w', Below w.heap.size w w' → MtR w l m (.returned (.tuple #[.slice none 0 0, .bool false])) w') := HNo.out (by rw [hb]; rfl)
    rw [hb] at HW
    clear hb HNo
    go_enter Try.func28, Try.ntmps28
    go_wp2_with (go_at_call 22; refine HW.out.mono ?_; rintro r w1 ⟨rfl, hb⟩; have HB1 : Hid (Below w.heap.size w w1) := hb; clear hb)
    go_ret2
    exact hN.out _ HB1.out
  | true =>
    cases hb2 : wholeB m with
    | false =>
      have hN : Hid (∀ w', Below w.heap.size w w' → MtR w l m (.returned (.tuple #[.slice none 0 0, .bool false])) w') := HNo.out (by rw [hb, hb2]; rfl)
      rw [hb] at HW
      rw [hb2] at HW2
      clear hb hb2 HNo
      go_enter Try.func28, Try.ntmps28
      go_wp2_with (first
        | (go_at_call_of 22 (Value.slice a l.length cap); refine HW.out.mono ?_; rintro r w1 ⟨rfl, hb⟩; have HB1 : Hid (Below w.heap.size w w1) := hb; clear hb HW)
        | (go_at_call 22; refine (HW2.out _ HB1.out).mono ?_; rintro r w2 ⟨rfl, hb⟩; have HB2 : Hid (Below w.heap.size w w2) := (show Below _ _ _ from btr HB1.out hb (by omega)); clear hb))
      go_ret2
      exact hN.out _ HB2.out
    | true =>
      have HC : Hid (∀ u, Below w.heap.size w u → Calls Try.prog 46 #[.slice a l.length cap] u fun e w' => e = .returned (.agg (cubA (cubF l))) ∧ Below u.heap.size u w') := (show ∀ u, _ from fun u g => cubeOf_any a l cap u (hs.below g) (whole_rng hb) hl)
      have HC2 : Hid (∀ u, Below w.heap.size w u → Calls Try.prog 46 #[.slice b m.length mc] u fun e w' => e = .returned (.agg (cubA (cubF m))) ∧ Below u.heap.size u w') := (show ∀ u, _ from fun u g => cubeOf_any b m mc u (ht.below g) (whole_rng hb2) hm)
      have HYes : Hid (meetB (cubF l) (cubF m) = true → ∀ v w', RwI 32 tstL 3 w v (toT (bothK (cubF l) (cubF m))) w' → MtR w l m (.returned (.tuple #[v, .bool true])) w') := (show _ → _ from fun h v w' g => .inl ⟨hb, hb2, h, v, rfl, g⟩)
      have HNo2 : Hid (meetB (cubF l) (cubF m) = false → ∀ w', Below w.heap.size w w' → MtR w l m (.returned (.tuple #[.slice none 0 0, .bool false])) w') := (show _ → _ from fun h => HNo.out (by rw [h, Bool.and_false]))
      rw [hb] at HW
      rw [hb2] at HW2
      clear hb hb2 HNo hs ht
      generalize cubF l = x at *
      generalize cubF m = y at *
      have HM : Hid (∀ u, Calls Try.prog 49 #[.agg (cubA x), .agg (cubA y)] u fun e w' => e = .returned (.bool (meetB x y)) ∧ Below u.heap.size u w') := (show ∀ u, _ from fun u => meets_any x y u)
      have HX : Hid (∀ w2 V, V = ((w2.alloc (.cells (cubA K.top) 70)).alloc (.cells (cubA K.top) 70)) → ∃ V2, (V.setCells w2.heap.size 0 (cubL x)).setCells (w2.heap.size + 1) 0 (cubL y) = V2 ∧ V.there w2.heap.size 0 20 ∧ (V.setCells w2.heap.size 0 (cubL x)).there (w2.heap.size + 1) 0 20 ∧ C20 V2 w2.heap.size 0 x ∧ C20 V2 (w2.heap.size + 1) 0 y ∧ Below w2.heap.size w2 V2 ∧ V2.heap.size = w2.heap.size + 2) := (show ∀ w2 V, _ from fun w2 V hV => by
        have t1 : V.there w2.heap.size 0 20 := by rw [hV]; exact there_block (there_new w2 _ 70 20 (cubA_size _)) (heap_alloc_old _ _ (by simp))
        have t2 : V.there (w2.heap.size + 1) 0 20 := by rw [hV]; have := there_new (w2.alloc (.cells (cubA K.top) 70)) (cubA K.top) 70 20 (cubA_size _); simpa using this
        have g : Below w2.heap.size w2 V := by rw [hV]; go_grown
        have z : V.heap.size = w2.heap.size + 2 := by rw [hV]; simp
        have t3 := World.there_setCells t2 w2.heap.size 0 (cubL x)
        refine ⟨_, rfl, t1, t3, ?_, stored_cub t3 y, below_setCells (below_setCells g (Nat.le_refl _) _ _) (by omega) _ _, by rw [size_setCells, size_setCells, z]⟩
        have c1 := (stored_cub t1 x).range
        exact C20.of_range (World.rangeAt_setCells_apart c1 (w2.heap.size + 1) 0 (cubL y) (.inl (by omega))))
      cases hm2 : meetB x y with
      | false =>
        have hN : Hid (∀ w', Below w.heap.size w w' → MtR w l m (.returned (.tuple #[.slice none 0 0, .bool false])) w') := HNo2.out hm2
        rw [hm2] at HM
        clear hm2 HNo2 HYes
        go_enter Try.func28, Try.ntmps28
        go_wp2_with (first
          | (go_at_call_of 22 (Value.slice a l.length cap); refine HW.out.mono ?_; rintro r w1 ⟨rfl, hb⟩; have HB1 : Hid (Below w.heap.size w w1) := hb; clear hb HW)
          | (go_at_call 22; refine (HW2.out _ HB1.out).mono ?_; rintro r w2 ⟨rfl, hb⟩; have HB2 : Hid (Below w.heap.size w w2) := (show Below _ _ _ from btr HB1.out hb (by omega)); clear hb)
          | (go_at_call_of 46 (Value.slice a l.length cap); refine (HC.out _ HB2.out).mono ?_; rintro r w3 ⟨rfl, hb⟩; have HB3 : Hid (Below w.heap.size w w3) := (show Below _ _ _ from btr HB2.out hb (by omega)); clear hb HC)
          | (go_at_call 46; refine (HC2.out _ HB3.out).mono ?_; rintro r w4 ⟨rfl, hb⟩; have HB4 : Hid (Below w.heap.size w w4) := (show Below _ _ _ from btr HB3.out hb (by omega)); clear hb)
          | (rw [zero_cub]; (obtain ⟨V2, hV2, t1, t2, k1, k2, k3, k4⟩ := HX.out w4 _ rfl); refine store_cub rfl (.tmp 6) (.tmp 17) rfl w4.heap.size 0 rfl x rfl t1 ?_; refine store_cub rfl (.tmp 7) (.tmp 19) rfl (w4.heap.size + 1) 0 rfl y rfl t2 ?_; rw [hV2]; have HV : Hid (C20 V2 w4.heap.size 0 x ∧ C20 V2 (w4.heap.size + 1) 0 y ∧ Below w.heap.size w V2 ∧ V2.heap.size = w4.heap.size + 2) := ⟨k1, k2, btr HB4.out k3 (by omega), k4⟩; clear hV2 t1 t2 k1 k2 k3 k4 HX)
          | (refine load_cub rfl (.tmp 6) rfl w4.heap.size 0 rfl x HV.out.1 ?_)
          | (refine load_cub rfl (.tmp 7) rfl (w4.heap.size + 1) 0 rfl y HV.out.2.1 ?_)
          | (go_at_call 49; refine (HM.out _).mono ?_; rintro r w5 ⟨rfl, hb⟩; have HB5 : Hid (Below w.heap.size w w5) := (show Below _ _ _ from btr HV.out.2.2.1 hb (by omega)); clear hb))
        go_ret2
        exact hN.out _ HB5.out
      | true =>
        have hY : Hid (∀ v w', RwI 32 tstL 3 w v (toT (bothK x y)) w' → MtR w l m (.returned (.tuple #[v, .bool true])) w') := HYes.out hm2
        rw [hm2] at HM
        clear hm2 HNo2 HYes
        go_enter Try.func28, Try.ntmps28
        go_wp2_with (first
          | (go_at_call_of 22 (Value.slice a l.length cap); refine HW.out.mono ?_; rintro r w1 ⟨rfl, hb⟩; have HB1 : Hid (Below w.heap.size w w1) := hb; clear hb HW)
          | (go_at_call 22; refine (HW2.out _ HB1.out).mono ?_; rintro r w2 ⟨rfl, hb⟩; have HB2 : Hid (Below w.heap.size w w2) := (show Below _ _ _ from btr HB1.out hb (by omega)); clear hb)
          | (go_at_call_of 46 (Value.slice a l.length cap); refine (HC.out _ HB2.out).mono ?_; rintro r w3 ⟨rfl, hb⟩; have HB3 : Hid (Below w.heap.size w w3) := (show Below _ _ _ from btr HB2.out hb (by omega)); clear hb HC)
          | (go_at_call 46; refine (HC2.out _ HB3.out).mono ?_; rintro r w4 ⟨rfl, hb⟩; have HB4 : Hid (Below w.heap.size w w4) := (show Below _ _ _ from btr HB3.out hb (by omega)); clear hb)
          | (rw [zero_cub]; (obtain ⟨V2, hV2, t1, t2, k1, k2, k3, k4⟩ := HX.out w4 _ rfl); refine store_cub rfl (.tmp 6) (.tmp 17) rfl w4.heap.size 0 rfl x rfl t1 ?_; refine store_cub rfl (.tmp 7) (.tmp 19) rfl (w4.heap.size + 1) 0 rfl y rfl t2 ?_; rw [hV2]; have HV : Hid (C20 V2 w4.heap.size 0 x ∧ C20 V2 (w4.heap.size + 1) 0 y ∧ Below w.heap.size w V2 ∧ V2.heap.size = w4.heap.size + 2) := ⟨k1, k2, btr HB4.out k3 (by omega), k4⟩; clear hV2 t1 t2 k1 k2 k3 k4 HX)
          | (refine load_cub rfl (.tmp 6) rfl w4.heap.size 0 rfl x HV.out.1 ?_)
          | (refine load_cub rfl (.tmp 7) rfl (w4.heap.size + 1) 0 rfl y HV.out.2.1 ?_)
          | (go_at_call 49; refine (HM.out _).mono ?_; rintro r w5 ⟨rfl, hb⟩; have HB5 : Hid (Below w.heap.size w w5 ∧ C20 w5 w4.heap.size 0 x ∧ C20 w5 (w4.heap.size + 1) 0 y) := (show _ ∧ _ ∧ _ from ⟨btr HV.out.2.2.1 hb (by omega), HV.out.1.below (by have := HV.out.2.2.2; omega) hb, HV.out.2.1.below (by have := HV.out.2.2.2; omega) hb⟩); clear hb)
          | (refine load_cub rfl (.tmp 6) rfl w4.heap.size 0 rfl x HB5.out.2.1 ?_)
          | (refine load_cub rfl (.tmp 7) rfl (w4.heap.size + 1) 0 rfl y HB5.out.2.2 ?_)
          | (go_at_call 50; refine (both_any x y _).mono ?_; rintro r w6 ⟨rfl, hb⟩; have HB6 : Hid (Below w.heap.size w w6) := (show Below _ _ _ from btr HB5.out.1 hb (by omega)); clear hb)
          | (go_at_call 51; refine (tests_any _ _).mono ?_; rintro r w7 ⟨v, rfl, hR⟩; have HR : Hid (RwI 32 tstL 3 w v (toT (bothK x y)) w7) := hR.from HB6.out; clear hR))
        go_ret2
        exact hY.out _ _ HR.out
end Go.Proofs.Ytmobmpghpdaddaa

/-
  What two cubes ask together.
-/
import Derived.Test.YtmobmpghpdaddaaLast
import Derived.Laws.Tables
namespace Go.Proofs.Ytmobmpghpdaddaa
open Go.ChangeShapes Go.WideShapes Go.ChangeAt Go.RowKit
set_option linter.unusedVariables false

theorem info_cubz : (Try.prog.info? 70).map (·.zero) = some (some (.agg (Array.replicate 20 (.int .u64 0)))) := by kernel_rfl
theorem built_cub (m v : Nat → B64) : Try.prog.built 70 [(0, .agg (rowA m)), (1, .agg (rowA v))] = some (cubA ⟨m, v⟩) := by kernel_rfl
theorem quiet_built {W : World} {o : Oper} {a : Go.Act} {N : Go.Act → Prop} (x y : Operand) (ho : o.op = .build 70 #[(0, x), (1, y)]) (m v : Nat → B64) (hx : a.eval x = .agg (rowA m)) (hy : a.eval y = .agg (rowA v))
    (hk : N (a.put o.dst (.agg (cubA ⟨m, v⟩)))) : o.quiet Try.prog a (fun w' => ∃ n : GrT W, w' = n.w) N :=
  ⟨_, fun w hw => by
    unfold Oper.quietAt
    have h := run_build (P := Try.prog) w 70 #[(0, .agg (rowA m)), (1, .agg (rowA v))] _ (built_cub m v)
    unfold execOp
    simp only [ho, hx, hy, List.map_toArray, List.map_cons, List.map_nil, Sem.run_bind, h, Result.andThen_ok]
    exact ⟨rfl, rfl⟩, hk⟩
theorem size_setCells : ∀ (vs : List Value) (b o : Nat) (w : World), (w.setCells b o vs).heap.size = w.heap.size := fun vs => by
  induction vs with
  | nil => intro b o w; rfl
  | cons v vs ih => intro b o w; exact (ih _ _ _).trans (by simp [World.setCell])
set_option maxRecDepth 20000 in
set_option maxHeartbeats 2000000 in
theorem both_any (a b : K) (w : World) :
    Calls Try.prog 50 #[.agg (cubA a), .agg (cubA b)] w fun e w' => e = .returned (.agg (cubA (bothK a b))) ∧ Below w.heap.size w w' := by
  go_enter Try.func50, Try.ntmps50
  go_wp2_with fail
  rw [zero_cub]
  obtain ⟨U, hU, h1, h2, hz, g⟩ := two_cubs a b w
  rw [hU]
  have h3 := there_new U (cubA K.top) 70 20 (cubA_size _)
  have gV : Below U.heap.size U (U.alloc (.cells (cubA K.top) 70)) := by go_grown
  have zV : (U.alloc (.cells (cubA K.top) 70)).heap.size = w.heap.size + 3 := by simp [hz]
  have k1 : C20 (U.alloc (.cells (cubA K.top) 70)) w.heap.size 0 a := h1.below (by omega) gV
  have k2 : C20 (U.alloc (.cells (cubA K.top) 70)) (w.heap.size + 1) 0 b := h2.below (by omega) gV
  have g2 := btr g gV (by omega)
  generalize U.alloc (.cells (cubA K.top) 70) = V at *
  rw [hz] at h3
  have L1 : Hid (C20 V w.heap.size 0 a ∧ w.heap.size < V.heap.size) := ⟨k1, by omega⟩
  have L2 : Hid (C20 V (w.heap.size + 1) 0 b ∧ w.heap.size + 1 < V.heap.size) := ⟨k2, by omega⟩
  have L3 : Hid (V.there (w.heap.size + 2) 0 20 ∧ w.heap.size + 2 < V.heap.size) := ⟨h3, by omega⟩
  have HG : Hid (Below w.heap.size w V) := g2
  clear h1 h2 h3 hz g gV k1 k2 g2 zV hU
  have HCa : Hid (∀ n : GrT V, Calls Try.prog 61 #[.agg (rowA a.m), .agg (rowA b.m)] n.w fun e w' => e = .returned (.agg (rowA fun f => a.m f ||| b.m f)) ∧ Below n.w.heap.size n.w w') := (show ∀ n : GrT V, _ from fun n => with_any a.m b.m n.w)
  have HCb : Hid (∀ n : GrT V, Calls Try.prog 61 #[.agg (rowA a.v), .agg (rowA b.v)] n.w fun e w' => e = .returned (.agg (rowA fun f => a.v f ||| b.v f)) ∧ Below n.w.heap.size n.w w') := (show ∀ n : GrT V, _ from fun n => with_any a.v b.v n.w)
  refine wp_region_last (C := fun w' => ∃ n : GrT V, w' = n.w) [_, _, _, _, _, _, _, _, _, _, _] _ (by kernel_rfl) (by kernel_rfl) (by kernel_rfl) (by kernel_rfl) rfl rfl ⟨some ⟨_, (Below.refl _ V).drew⟩, rfl⟩ ?_
  simp only [repOp, List.cons_append, List.nil_append]
  repeat (first | (go_big_quiet_want; (first | refine ld_row (.tmp 5) rfl w.heap.size 0 rfl a.m L1.out.1.1 L1.out.2 ?_ | refine ld_row (.tmp 7) rfl (w.heap.size + 1) 0 rfl b.m L2.out.1.1 L2.out.2 ?_ | refine ld_row (.tmp 10) rfl w.heap.size 10 rfl a.v L1.out.1.2 L1.out.2 ?_ | refine ld_row (.tmp 12) rfl (w.heap.size + 1) 10 rfl b.v L2.out.1.2 L2.out.2 ?_ | refine quiet_built (.tmp 9) (.tmp 14) rfl (fun f => a.m f ||| b.m f) (fun f => a.v f ||| b.v f) rfl rfl ?_); go_simp; go_big_quiet_on) | go_big_quiet_step ((go_at_call_of 61 (Value.agg (rowA a.m)); exact quiet_gr (HCa.out _))) | go_big_quiet_step ((go_at_call 61; exact quiet_gr (HCb.out _))))
  refine wpQuiet_nil ?_
  rintro w1 hw'
  have g1 := gr_elim hw'
  clear hw'
  have ht : w1.there (w.heap.size + 2) 0 20 := there_block L3.out.1 (g1.block _ L3.out.2)
  have HS : Hid (C20 (w1.setCells (w.heap.size + 2) 0 (cubL (bothK a b))) (w.heap.size + 2) 0 (bothK a b) ∧ Below w.heap.size w (w1.setCells (w.heap.size + 2) 0 (cubL (bothK a b)))) := ⟨stored_cub ht _, below_setCells (btr HG.out g1 (by have := HG.out.size; omega)) (by omega) _ _⟩
  refine wp_store_mid 70 (.tmp 4) (.tmp 15) rfl (w.heap.size + 2) 0 (cubA (bothK a b)) rfl rfl (by rw [cubA_size]; exact ht) (by rw [cubA_size]; exact info_cube) (all_oneCell_toArray (cubL_one _)) ?_
  have e : (cubA (bothK a b)).toList = cubL (bothK a b) := rfl
  rw [e]
  generalize w1.setCells (w.heap.size + 2) 0 (cubL (bothK a b)) = W at *
  clear e ht g1
  go_wp2_with fail
  exact bodyPost_ret (results_cub rfl _ _ (w.heap.size + 2) 0 _ rfl HS.out.1) rfl ⟨rfl, HS.out.2⟩
end Go.Proofs.Ytmobmpghpdaddaa

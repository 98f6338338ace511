/-
  cubeOf and tests, walked.
-/
import Derived.Test.YtmobmpghpdaddaaCubT
namespace Go.Proofs.Ytmobmpghpdaddaa
open Go.ChangeShapes Go.WideShapes Go.ChangeAt Go.RowKit
set_option linter.unusedVariables false

/-- A cube is made, test by test. -/
structure CuI (w : World) (k : K) (wr : World) : Prop where
  cub : C20 wr (w.heap.size + 1) 0 k
  wri : wr.there (w.heap.size + 1) 0 20
  res : wr.there w.heap.size 0 20
  bel : Below w.heap.size w wr
  siz : w.heap.size + 2 ≤ wr.heap.size
theorem CuI.grow {w wr V : World} {k : K} (h : CuI w k wr) (g : Below wr.heap.size wr V) : CuI w k V :=
  ⟨h.cub.below (by have := h.siz; omega) g, there_block h.wri (g.block _ (by have := h.siz; omega)), there_block h.res (g.block _ (by have := h.siz; omega)), btr h.bel g (by omega), Nat.le_trans h.siz g.size⟩
theorem CuI.new (w : World) : CuI w K.top ((w.alloc (.cells (cubA K.top) 70)).alloc (.cells (cubA K.top) 70)) := by
  have h2 := C20.new (w.alloc (.cells (cubA K.top) 70)) K.top 70
  have h3 := there_new (w.alloc (.cells (cubA K.top) 70)) (cubA K.top) 70 20 (cubA_size _)
  simp only [World.size_alloc] at h2 h3
  exact ⟨h2, h3, there_block (there_new w _ 70 20 (cubA_size _)) (heap_alloc_old _ _ (by simp)), by go_grown, by simp⟩
theorem CuI.set {w wr : World} {k : K} (h : CuI w k wr) {f : Nat} (hf : f < 10) (v m : B64) : CuI w ⟨upd k.m f m, upd k.v f v⟩ (((wr.setCell ⟨w.heap.size + 1, f, none⟩ (cv m)).setCell ⟨w.heap.size + 1, 10 + f, none⟩ (cv v)).drew) := by
  have h1 := h.cub.1.set hf m
  rw [Nat.zero_add] at h1
  have h2 := (h.cub.2.beside (b' := w.heap.size + 1) (p := f) (.inr (.inl (by omega))) (cv m))
  have h3 := h1.beside (b' := w.heap.size + 1) (p := 10 + f) (.inr (.inr (by omega))) (cv v)
  have h4 := h2.set hf v
  rw [show 0 + 10 + f = 10 + f by omega] at h4
  refine ⟨⟨h3, h4⟩, there_set (there_set h.wri _ _) _ _, there_set (there_set h.res _ _) _ _, ((h.bel.setCell (by simp) _).setCell (by simp) _).drew, ?_⟩
  simpa [World.setCell] using h.siz
set_option maxRecDepth 20000 in
set_option maxHeartbeats 2000000 in
theorem cubeOf_any (a : Option Addr) (l : List Tst) (cap : Nat) (w : World) (hs : Ts w a l) (hf : ∀ t ∈ l, 1 ≤ t.f ∧ t.f ≤ 9) (hl : l.length ≤ 9223372036854775807) :
    Calls Try.prog 46 #[.slice a l.length cap] w fun e w' => e = .returned (.agg (cubA (cubF l))) ∧ Below w.heap.size w w' := by
  have HS : Hid (Ts w a l) := hs
  have HF : Hid (∀ t ∈ l, 1 ≤ t.f ∧ t.f ≤ 9) := hf
  clear hs hf
  go_enter Try.func46, Try.ntmps46
  go_wp2_with fail
  rw [zero_cub]
  have H0 : Hid (CuI w (cubF (l.take 0)) ((w.alloc (.cells (cubA K.top) 70)).alloc (.cells (cubA K.top) 70))) := CuI.new w
  generalize (w.alloc (.cells (cubA K.top) 70)).alloc (.cells (cubA K.top) 70) = U at *
  go_loopw [8] (fun v8 wr => ∃ k : Nat, k ≤ l.length ∧ v8 = .int .i64 k ∧ Hid (CuI w (cubF (l.take k)) wr)) (fun v8 _ => l.length - (intOf v8).toNat)
  case atStart => exact ⟨0, Nat.zero_le _, rfl, H0⟩
  case round =>
    obtain ⟨k, hk, rfl, HI⟩ := hrel
    clear H0
    by_cases hlt : k < l.length
    · obtain ⟨g, o, rfl, hg, hc⟩ := (HS.out.below HI.out.bel).at hlt
      obtain ⟨c0, c1, c2⟩ := hc k hlt
      have HN : Hid (cubF (l.take (k + 1)) = setT (cubF (l.take k)) l[k]) := (show _ = _ by rw [List.take_succ_eq_append_getElem hlt, cubF_snoc])
      obtain ⟨f1, f2⟩ := HF.out _ (List.getElem_mem hlt)
      generalize l[k] = t at *
      obtain ⟨tf, tv, tm⟩ := t
      simp only at c0 c1 c2 f1 f2
      obtain ⟨f, rfl⟩ : ∃ f : Nat, tf = (f : Int) := ⟨tf.toNat, by omega⟩
      have hf10 : f < 10 := by omega
      obtain ⟨V, hV⟩ : ∃ V, wr.alloc (.cells #[.int .i64 (f : Int), cv tv, cv tm] 32) = V := ⟨_, rfl⟩
      have d0 : V.cell? ⟨wr.heap.size, 0, none⟩ = some (.int .i64 (f : Int)) := by rw [← hV]; simp
      have d1 : V.cell? ⟨wr.heap.size, 1, none⟩ = some (cv tv) := by rw [← hV]; simp
      have d2 : V.cell? ⟨wr.heap.size, 2, none⟩ = some (cv tm) := by rw [← hV]; simp
      have HV : Hid (CuI w (cubF (l.take k)) V) := HI.out.grow (by rw [← hV]; go_grown)
      have e1 := (HV.out.wri f (by omega)).2
      have e2 := (HV.out.wri (10 + f) (by omega)).2
      rw [Nat.zero_add] at e1 e2
      have HX : Hid (CuI w (cubF (l.take (k + 1))) (((V.setCell ⟨w.heap.size + 1, f, none⟩ (cv tm)).setCell ⟨w.heap.size + 1, 10 + f, none⟩ (cv tv)).drew)) := (show CuI _ _ _ by
        have := HV.out.set hf10 tv tm
        rw [HN.out]
        exact this)
      have y1 := HV.out.cub.1 f hf10
      have y2 := HV.out.cub.2 f hf10
      rw [Nat.zero_add] at y1
      rw [show 0 + 10 + f = 10 + f by omega] at y2
      generalize (cubF (l.take k)).m f = o1 at *
      generalize (cubF (l.take k)).v f = o2 at *
      clear HN hc
      go_wp2_with fail
      clear hV c0 c1 c2 HV
      have hi10 : (f : Int) < 10 := by omega
      have hsz := HI.out.siz
      have hn1 : w.heap.size + 1 ≠ wr.heap.size := by omega
      have hn2 : wr.heap.size ≠ w.heap.size + 1 := by omega
      go_region
      go_wp2_with fail
      go_roundw
      case rel => exact ⟨k + 1, by omega, by go_num, HX⟩
      case measure => simp [intOf]; omega
    · have hE : l.take k = l := List.take_of_length_le (by omega)
      have HC : Hid (C20 wr (w.heap.size + 1) 0 (cubF l)) := (show C20 _ _ _ _ by have := HI.out.cub; rwa [hE] at this)
      have HSt : Hid (C20 (wr.setCells w.heap.size 0 (cubL (cubF l))) w.heap.size 0 (cubF l) ∧ Below w.heap.size w (wr.setCells w.heap.size 0 (cubL (cubF l)))) := ⟨stored_cub HI.out.res _, below_setCells HI.out.bel (Nat.le_refl _) _ _⟩
      clear hE
      go_wp2_with (first
        | (refine load_cub rfl (.tmp 3) rfl (w.heap.size + 1) 0 rfl (cubF l) HC.out ?_)
        | (refine store_cub rfl (.tmp 2) (.tmp 25) rfl w.heap.size 0 rfl (cubF l) rfl HI.out.res ?_; generalize wr.setCells w.heap.size 0 (cubL (cubF l)) = W at *))
      exact bodyPost_ret (results_cub rfl _ _ w.heap.size 0 _ rfl HSt.out.1) rfl ⟨rfl, HSt.out.2⟩
theorem idx_row (r : Nat → B64) (f : Nat) (h : f < 10) (w : World) : (Instr.index 62 (.agg (rowA r)) (.int .i64 (f : Int))).run Try.prog w = .ok (cv (r f)) w := by
  have hn : 0 ≤ (f : Int) ∧ (f : Int) < ((10 : Nat) : Int) := by omega
  have hu := under_row
  have hp := part_row r f h w
  simp [Instr.index, run_underlying hu, asIntOf, hn]
  simp at hp ⊢
  rw [if_pos h]
  exact hp
set_option maxRecDepth 20000 in
set_option maxHeartbeats 2000000 in
theorem tests_any (k : K) (w : World) : Calls Try.prog 51 #[.agg (cubA k)] w fun e w' => ∃ v, e = .returned v ∧ RwI 32 tstL 3 w v (toT k) w' := by
  have h1 := C20.new w k 70
  have g1 : Below w.heap.size w (w.alloc (.cells (cubA k) 70)) := by go_grown
  have z1 : (w.alloc (.cells (cubA k) 70)).heap.size = w.heap.size + 1 := by simp
  obtain ⟨U, hU⟩ : ∃ U, w.alloc (.cells (cubA k) 70) = U := ⟨_, rfl⟩
  rw [hU] at h1 g1 z1
  have HC : Hid (C20 U w.heap.size 0 k ∧ U.heap.size = w.heap.size + 1 ∧ Below w.heap.size w U) := ⟨h1, z1, g1⟩
  clear h1 g1 z1
  have H0 : Hid (RwI 32 tstL 3 U (.slice none 0 0) (toTn k 0) U) := RwI.nil U
  go_enter Try.func51, Try.ntmps51
  go_wp2_with (refine load_row rfl (.tmp 6) rfl w.heap.size 0 rfl k.m HC.out.1.1 ?_)
  clear hU
  go_loopw [3, 8] (fun v3 v8 wr => ∃ f : Nat, f ≤ 10 ∧ v8 = .int .i64 f ∧ Hid (RwI 32 tstL 3 U v3 (toTn k f) wr)) (fun _ v8 _ => 10 - (intOf v8).toNat)
  case atStart => exact ⟨0, by omega, rfl, H0⟩
  case round =>
    obtain ⟨f, hf, rfl, HI⟩ := hrel
    clear H0
    by_cases hlt : f < 10
    · have hidx := fun w => idx_row k.m f hlt w
      have hi10 : (f : Int) < 10 := by omega
      by_cases hm : k.m f = 0#64
      · have HN : Hid (RwI 32 tstL 3 U u3 (toTn k (f + 1)) wr) := (show RwI _ _ _ _ _ _ _ by rw [toTn_no k f hm]; exact HI.out)
        have h0 : nb (k.m f) = 0 := (nb_eq0 _).2 hm
        have hidx0 : ∀ w, (Instr.index 62 (.agg (rowA k.m)) (.int .i64 (f : Int))).run Try.prog w = .ok (.int .u64 0) w := fun w => (hidx w).trans (by show Result.ok (Value.int .u64 (nb (k.m f))) w = _; rw [h0])
        clear hidx
        go_wp2_with fail
        go_roundw
        case rel => exact ⟨f + 1, by omega, by go_num, HN⟩
        case measure => simp [intOf]; omega
      · have h0 : ¬ nb (k.m f) = 0 := fun h => hm ((nb_eq0 _).1 h)
        have HT : Hid (toTn k (f + 1) = toTn k f ++ [tstF k f]) := toTn_yes k f hm
        have c1 : wr.cell? ⟨w.heap.size, 10 + f, none⟩ = some (cv (k.v f)) := by
          have := (HC.out.1.below (by have := HC.out.2.1; omega) HI.out.bel).2 f hlt
          rwa [show 0 + 10 + f = 10 + f by omega] at this
        have HL : Hid ((toTn k f).length ≤ 10) := (show _ ≤ _ from Nat.le_trans (toTn_len k f) hf)
        obtain ⟨V, hV⟩ : ∃ V, wr.alloc (.cells #[.int .i64 (f : Int), cv (k.v f), cv (k.m f)] 32) = V := ⟨_, rfl⟩
        have HV : Hid (Cs tstL 3 V wr.heap.size 0 [tstF k f] ∧ Below wr.heap.size wr V ∧ U.heap.size ≤ V.heap.size) := (show _ ∧ _ ∧ _ by
          refine ⟨Cs.of_ts fun i hi => ?_, by rw [← hV]; go_grown, by have := HI.out.bel.size; rw [← hV]; simp; omega⟩
          obtain rfl : i = 0 := by simp at hi; omega
          rw [← hV]
          exact ⟨by simp [tstF], by simp [tstF], by simp [tstF]⟩)
        clear hm
        go_wp2_with (at_builtin; refine wpList_appK kdT ktT rfl _ _ rfl U.heap.size u3 (toTn k f) rfl (own_below HI.out.own HV.out.2.1) wr.heap.size 0 1 1 [tstF k f] rfl rfl HV.out.1 (by have := HL.out; simp; omega) HV.out.2.2 ?_; intro v' w2 ho2 hg2 _; have HN : Hid (RwI 32 tstL 3 U v' (toTn k (f + 1)) w2) := (show RwI _ _ _ _ _ _ _ by (rw [HT.out]; exact HI.out.app HV.out.2.1 ho2 hg2)); clear ho2 hg2)
        go_roundw
        case rel => exact ⟨f + 1, by omega, by go_num, HN⟩
        case measure => simp [intOf]; omega
    · have HE : Hid (RwI 32 tstL 3 U u3 (toT k) wr) := (show RwI _ _ _ _ _ _ _ by
        have := HI.out
        rwa [show f = 10 by omega] at this)
      go_wp2_with fail
      go_ret
      exact ⟨_, rfl, ⟨⟨HE.out.own.1, by
        rcases HE.out.own.2 with h | ⟨g, cap, cur, h1, h2, h3⟩
        · exact .inl h
        · exact .inr ⟨g, cap, cur, h1, by have := HC.out.2.1; omega, h3⟩⟩, btr HC.out.2.2 HE.out.bel (by have := HC.out.2.1; omega)⟩⟩
end Go.Proofs.Ytmobmpghpdaddaa

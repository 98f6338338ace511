/-
  Cut's function, walked.
-/
import Derived.Test.YtmobmpghpdaddaaHandC
namespace Go.Proofs.Ytmobmpghpdaddaa
open Go.ChangeShapes Go.WideShapes Go.ChangeAt Go.RowKit
set_option linter.unusedVariables false
set_option linter.unusedSimpArgs false

set_option maxRecDepth 20000 in
set_option maxHeartbeats 8000000 in
theorem hand_cut (base g : Nat) : HandI 53 g (CtI base g) := by
  refine ⟨fun h j hj => ?_, fun {l S w w'} h hc => ?_, fun {l S w} k h hl => ?_⟩
  · obtain ⟨v, hs, T, h1, h2, h3, h4, h5, h6, h7, h8⟩ := h.ex
    rcases (h8 j).1 hj with rfl | hj | hj
    · exact h.lt
    · exact (own_lt h2 hj).2
    · exact (h7 j hj).1
  · obtain ⟨v, hs, T, h1, h2, h3, h4, h5, h6, h7, h8⟩ := h.ex
    have e := chg_cell hc h.lt ((h8 g).2 (.inl rfl))
    refine ⟨⟨v, hs, T, (World.cell?_of_block (w := w) e).trans h1, own_chg h2 (fun j hj => chg_cell hc (own_lt h2 hj).2 ((h8 j).2 (.inr (.inl hj)))), ?_, h4, h5, h6, fun j hj => ⟨Nat.lt_of_lt_of_le (h7 j hj).1 hc.size, (h7 j hj).2⟩, h8⟩, (World.frozen?_of_block (w := w) e).trans h.fz, Nat.lt_of_lt_of_le h.lt hc.size, Nat.le_trans h.bs hc.size⟩
    exact h3.mono fun i i1 i2 t => t.chg hc.size (fun j hj ht => ⟨ht, chg_cell hc hj ((h8 j).2 (.inr (.inr ht)))⟩)
  · obtain ⟨v, hs, T, h1, h2, h3, h4, h5, h6, h7, h8⟩ := h.ex
    have hfz := h.fz
    have hlt := h.lt
    have hbs := h.bs
    obtain ⟨a, cap, hv⟩ := own_form h2
    have c1 := C20.new w k 70
    obtain ⟨X, hX⟩ : ∃ X, w.alloc (.cells (cubA k) 70) = X := ⟨_, rfl⟩
    have gX : Below w.heap.size w X.drew := by rw [← hX]; go_grown
    have zX : X.heap.size = w.heap.size + 1 := by rw [← hX]; simp
    rw [hX] at c1
    have HSt : Hid (∀ (at' : Option Addr) (ct : Nat) (w1 : World), RwI 32 tstL 3 X.drew (.slice at' (toT k).length ct) (toT k) w1 → OwnH base (w1.alloc (.cells #[.slice at' (toT k).length ct] 43)) v hs ∧ Cs hdL 1 (w1.alloc (.cells #[.slice at' (toT k).length ct] 43)) w1.heap.size 0 [⟨at', (toT k).length, ct⟩] ∧ base ≤ (w1.alloc (.cells #[.slice at' (toT k).length ct] 43)).heap.size ∧
        ∀ v' w2, OwnH base w2 v' (hs ++ [⟨at', (toT k).length, ct⟩]) → (w1.alloc (.cells #[.slice at' (toT k).length ct] 43)).grownBy w2 v.ownBlock → (v'.ownBlock = v.ownBlock ∨ v'.ownBlock = some (w1.alloc (.cells #[.slice at' (toT k).length ct] 43)).heap.size) →
          w2.frozen? ⟨g, 0, none⟩ = false ∧ w2.cell? ⟨g, 0, none⟩ = some v ∧ ∃ S', CtI base g (l ++ [k]) S' (w2.setCell ⟨g, 0, none⟩ v') ∧ (∀ j, S' j → S j ∨ w.heap.size ≤ j) ∧ Chg S w (w2.setCell ⟨g, 0, none⟩ v')) := (show ∀ at' ct w1, _ from fun at' ct w1 hR => ct_step h1 h2 h3 h4 h5 h6 h7 h8 hfz hlt hbs gX hR)
    have HQ : Hid (∀ w2, Below X.heap.size X w2 → C20 w2 w.heap.size 0 k) := (show ∀ w2, _ from fun w2 gg => c1.below (by omega) gg)
    have HG : Hid (∀ w2, Below X.heap.size X w2 → w2.cell? ⟨g, 0, none⟩ = some v) := (show ∀ w2, _ from fun w2 gg => (gg.cell (p := ⟨g, 0, none⟩) (by show g < X.heap.size; omega)).trans ((World.cell?_of_block (w := w) (gX.block g hlt)).trans h1))
    have HNe : Hid (g < w.heap.size ∧ (∀ j, v.ownBlock = some j → j < w.heap.size)) := ⟨hlt, fun j hj => (own_lt h2 hj).2⟩
    have HT : Hid (∀ u, Calls Try.prog 51 #[.agg (cubA k)] u fun e w' => ∃ at' ct, e = .returned (.slice at' (toT k).length ct) ∧ RwI 32 tstL 3 u (.slice at' (toT k).length ct) (toT k) w') := (show ∀ u, _ from fun u => (tests_any k u).mono fun e w' ⟨v, h1, h2⟩ => by
      obtain ⟨a, cap, rfl⟩ := own_form h2.own
      exact ⟨a, cap, h1, h2⟩)
    have HL : Hid (hs.length ≤ 100000000) := (show _ ≤ _ by rw [h3.1]; exact hl)
    have HX0 : Hid (C20 X w.heap.size 0 k) := c1
    subst hv
    clear h1 h2 h3 h4 h5 h6 h7 h8 h gX c1 hl hfz hlt hbs
    go_enter Try.func53, Try.ntmps53
    go_wp2_with fail
    refine wp_region_held_drew (S := fun W => C20 W w.heap.size 0 k) (by kernel_rfl) (show C20 _ _ _ _ from HX0.out) (fun hHeld => ?_)
    refine wpAnyH_take (i := 1) (oi := { dst := some 4, op := Op.load 70 (Operand.tmp 2), type := 70, pos := _, after := #[], guard := none }) (v := .agg (cubA k)) rfl (by kernel_rfl) (by kernel_rfl) (by kernel_rfl) (fun _ _ _ h => h) (yieldsIf_load_mid (by rfl) 70 (.tmp 2) rfl w.heap.size 0 rfl (cubL k) _ (fun W hW => hW.range) under_cube rfl (by rw [cubL_len]; exact info_cube)) (by assumption) ?_
    try simp only [Act.put, List.setIfInBounds_toArray, List.set_cons_zero, List.set_cons_succ]
    refine wpAnyH_ready (rs := [0, 2]) (by kernel_rfl) (by simp) ?_
    refine AllReadyH.cons rfl (fun K0 hK => ?_) ?_
    · have cg := HG.out X.drew ((Below.refl _ _).drew)
      go_simp
      refine hK.out _ _ (show C20 _ _ _ _ from hHeld) (fun hHeld => ?_)
      clear hK cg
      try simp only [Act.put, List.setIfInBounds_toArray, List.set_cons_zero, List.set_cons_succ]
      refine wpAnyH_ready (rs := [2]) (by kernel_rfl) (by simp) ?_
      refine AllReadyH.cons rfl (fun K0 hK => ?_) AllReadyH.nil
      · refine step_call (by rfl) 51 #[.agg (cubA k)] (by go_simp) ((HT.out _).mono ?_)
        rintro e w1 ⟨at', ct, rfl, hR⟩
        have HR : Hid (RwI 32 tstL 3 X.drew (.slice at' (toT k).length ct) (toT k) w1) := hR
        have HB1 : Hid (Below X.heap.size X w1) := (show Below _ _ _ from btr' ((Below.refl _ _).drew) hR.bel)
        clear hR
        refine ⟨_, rfl, ?_⟩
        refine hK.out _ _ (show C20 _ _ _ _ from HQ.out _ HB1.out) (fun hHeld => ?_)
        clear hK
        try simp only [Act.put, List.setIfInBounds_toArray, List.set_cons_zero, List.set_cons_succ]
        refine wpAnyH_ready (rs := [3]) (by kernel_rfl) (by simp) ?_
        refine AllReadyH.cons rfl (fun K0 hK => ?_) AllReadyH.nil
        · (have zst := HSt.out at' ct w1 HR.out)
          have HZ : Hid _ := zst
          clear zst
          have HB2 : Hid (Below X.heap.size X (w1.alloc (.cells #[.slice at' (toT k).length ct] 43))) := (show Below _ _ _ from btr' HB1.out ((show Below w1.heap.size w1 _ by go_grown).mono HB1.out.size))
          go_simp
          refine hK.out _ _ (show C20 _ _ _ _ from HQ.out _ HB2.out) (fun hHeld => ?_)
          clear hK
          try simp only [Act.put, List.setIfInBounds_toArray, List.set_cons_zero, List.set_cons_succ]
          refine wpAnyH_ready (rs := [4]) (by kernel_rfl) (by simp) ?_
          refine AllReadyH.cons rfl (fun K0 hK => ?_) AllReadyH.nil
          refine step_appK kdH ktH rfl (.tmp 3) (.tmp 6) rfl base (.slice a hs.length cap) hs rfl HZ.out.1 w1.heap.size 0 1 1 [⟨at', (toT k).length, ct⟩] rfl rfl HZ.out.2.1 (by have := HL.out; simp; omega) HZ.out.2.2.1 ?_
          intro v' w2 ho2 hg2 hat
          have HE := HZ.out.2.2.2 v' w2 ho2 hg2 hat
          have hq : w2.heap[w.heap.size]? = (w1.alloc (.cells #[.slice at' (toT k).length ct] 43)).heap[w.heap.size]? := hg2.block _ (by have := HB2.out.size; omega) (fun e => by have := HNe.out.2 _ e.symm; omega)
          have HQ2 : Hid (C20 w2 w.heap.size 0 k) := (show C20 _ _ _ _ from (HQ.out _ HB2.out).block hq)
          obtain ⟨av, cv', hv'⟩ := own_form ho2
          subst hv'
          obtain ⟨e1, e2, e3⟩ := HE
          have el : (hs ++ [(⟨at', (toT k).length, ct⟩ : Hd)]).length = hs.length + 1 := by simp
          rw [el] at e3 ⊢
          have HF : Hid (∃ S', CtI base g (l ++ [k]) S' (w2.setCell ⟨g, 0, none⟩ (.slice av (hs.length + 1) cv')) ∧ (∀ j, S' j → S j ∨ w.heap.size ≤ j) ∧ Chg S w (w2.setCell ⟨g, 0, none⟩ (.slice av (hs.length + 1) cv'))) := e3
          have HQ3 : Hid (C20 (w2.setCell ⟨g, 0, none⟩ (.slice av (hs.length + 1) cv')) w.heap.size 0 k) := (show C20 _ _ _ _ from HQ2.out.block (setCell_block _ _ _ _ (by have := HNe.out.1; omega)))
          refine hK.out _ _ (show C20 _ _ _ _ from HQ2.out) (fun hHeld => ?_)
          clear hK e3 ho2 hg2 hat hq el HZ HR HB1 HB2 HSt HG HQ HT
          try simp only [Act.put, List.setIfInBounds_toArray, List.set_cons_zero, List.set_cons_succ]
          refine wpAnyH_ready (rs := [5]) (by kernel_rfl) (by simp) ?_
          refine AllReadyH.cons rfl (fun K0 hK => ?_) AllReadyH.nil
          go_simp
          refine hK.out _ _ (show C20 _ _ _ _ from HQ3.out) (fun hHeld => ?_)
          clear hK
          refine wpAnyH_done (by kernel_rfl) ?_ _
          go_wp2_with fail
          first | refine bodyPost_end (results_none rfl _ _ _) rfl ?_ | refine bodyPost_ret (results_none rfl _ _ _) rfl ?_
          exact ⟨rfl, HF.out⟩
    refine AllReadyH.cons rfl (fun K0 hK => ?_) AllReadyH.nil
    · refine step_call (by rfl) 51 #[.agg (cubA k)] (by go_simp) ((HT.out _).mono ?_)
      rintro e w1 ⟨at', ct, rfl, hR⟩
      have HR : Hid (RwI 32 tstL 3 X.drew (.slice at' (toT k).length ct) (toT k) w1) := hR
      have HB1 : Hid (Below X.heap.size X w1) := (show Below _ _ _ from btr' ((Below.refl _ _).drew) hR.bel)
      clear hR
      refine ⟨_, rfl, ?_⟩
      refine hK.out _ _ (show C20 _ _ _ _ from HQ.out _ HB1.out) (fun hHeld => ?_)
      clear hK
      try simp only [Act.put, List.setIfInBounds_toArray, List.set_cons_zero, List.set_cons_succ]
      refine wpAnyH_ready (rs := [0, 3]) (by kernel_rfl) (by simp) ?_
      refine AllReadyH.cons rfl (fun K0 hK => ?_) ?_
      · have cg := HG.out w1 HB1.out
        go_simp
        refine hK.out _ _ (show C20 _ _ _ _ from hHeld) (fun hHeld => ?_)
        clear hK cg
        try simp only [Act.put, List.setIfInBounds_toArray, List.set_cons_zero, List.set_cons_succ]
        refine wpAnyH_ready (rs := [3]) (by kernel_rfl) (by simp) ?_
        refine AllReadyH.cons rfl (fun K0 hK => ?_) AllReadyH.nil
        · (have zst := HSt.out at' ct w1 HR.out)
          have HZ : Hid _ := zst
          clear zst
          have HB2 : Hid (Below X.heap.size X (w1.alloc (.cells #[.slice at' (toT k).length ct] 43))) := (show Below _ _ _ from btr' HB1.out ((show Below w1.heap.size w1 _ by go_grown).mono HB1.out.size))
          go_simp
          refine hK.out _ _ (show C20 _ _ _ _ from HQ.out _ HB2.out) (fun hHeld => ?_)
          clear hK
          try simp only [Act.put, List.setIfInBounds_toArray, List.set_cons_zero, List.set_cons_succ]
          refine wpAnyH_ready (rs := [4]) (by kernel_rfl) (by simp) ?_
          refine AllReadyH.cons rfl (fun K0 hK => ?_) AllReadyH.nil
          refine step_appK kdH ktH rfl (.tmp 3) (.tmp 6) rfl base (.slice a hs.length cap) hs rfl HZ.out.1 w1.heap.size 0 1 1 [⟨at', (toT k).length, ct⟩] rfl rfl HZ.out.2.1 (by have := HL.out; simp; omega) HZ.out.2.2.1 ?_
          intro v' w2 ho2 hg2 hat
          have HE := HZ.out.2.2.2 v' w2 ho2 hg2 hat
          have hq : w2.heap[w.heap.size]? = (w1.alloc (.cells #[.slice at' (toT k).length ct] 43)).heap[w.heap.size]? := hg2.block _ (by have := HB2.out.size; omega) (fun e => by have := HNe.out.2 _ e.symm; omega)
          have HQ2 : Hid (C20 w2 w.heap.size 0 k) := (show C20 _ _ _ _ from (HQ.out _ HB2.out).block hq)
          obtain ⟨av, cv', hv'⟩ := own_form ho2
          subst hv'
          obtain ⟨e1, e2, e3⟩ := HE
          have el : (hs ++ [(⟨at', (toT k).length, ct⟩ : Hd)]).length = hs.length + 1 := by simp
          rw [el] at e3 ⊢
          have HF : Hid (∃ S', CtI base g (l ++ [k]) S' (w2.setCell ⟨g, 0, none⟩ (.slice av (hs.length + 1) cv')) ∧ (∀ j, S' j → S j ∨ w.heap.size ≤ j) ∧ Chg S w (w2.setCell ⟨g, 0, none⟩ (.slice av (hs.length + 1) cv'))) := e3
          have HQ3 : Hid (C20 (w2.setCell ⟨g, 0, none⟩ (.slice av (hs.length + 1) cv')) w.heap.size 0 k) := (show C20 _ _ _ _ from HQ2.out.block (setCell_block _ _ _ _ (by have := HNe.out.1; omega)))
          refine hK.out _ _ (show C20 _ _ _ _ from HQ2.out) (fun hHeld => ?_)
          clear hK e3 ho2 hg2 hat hq el HZ HR HB1 HB2 HSt HG HQ HT
          try simp only [Act.put, List.setIfInBounds_toArray, List.set_cons_zero, List.set_cons_succ]
          refine wpAnyH_ready (rs := [5]) (by kernel_rfl) (by simp) ?_
          refine AllReadyH.cons rfl (fun K0 hK => ?_) AllReadyH.nil
          go_simp
          refine hK.out _ _ (show C20 _ _ _ _ from HQ3.out) (fun hHeld => ?_)
          clear hK
          refine wpAnyH_done (by kernel_rfl) ?_ _
          go_wp2_with fail
          first | refine bodyPost_end (results_none rfl _ _ _) rfl ?_ | refine bodyPost_ret (results_none rfl _ _ _) rfl ?_
          exact ⟨rfl, HF.out⟩
      refine AllReadyH.cons rfl (fun K0 hK => ?_) AllReadyH.nil
      · (have zst := HSt.out at' ct w1 HR.out)
        have HZ : Hid _ := zst
        clear zst
        have HB2 : Hid (Below X.heap.size X (w1.alloc (.cells #[.slice at' (toT k).length ct] 43))) := (show Below _ _ _ from btr' HB1.out ((show Below w1.heap.size w1 _ by go_grown).mono HB1.out.size))
        go_simp
        refine hK.out _ _ (show C20 _ _ _ _ from HQ.out _ HB2.out) (fun hHeld => ?_)
        clear hK
        try simp only [Act.put, List.setIfInBounds_toArray, List.set_cons_zero, List.set_cons_succ]
        refine wpAnyH_ready (rs := [0]) (by kernel_rfl) (by simp) ?_
        refine AllReadyH.cons rfl (fun K0 hK => ?_) AllReadyH.nil
        · have cg := HG.out (w1.alloc (.cells #[.slice at' (toT k).length ct] 43)) HB2.out
          go_simp
          refine hK.out _ _ (show C20 _ _ _ _ from hHeld) (fun hHeld => ?_)
          clear hK cg
          try simp only [Act.put, List.setIfInBounds_toArray, List.set_cons_zero, List.set_cons_succ]
          refine wpAnyH_ready (rs := [4]) (by kernel_rfl) (by simp) ?_
          refine AllReadyH.cons rfl (fun K0 hK => ?_) AllReadyH.nil
          refine step_appK kdH ktH rfl (.tmp 3) (.tmp 6) rfl base (.slice a hs.length cap) hs rfl HZ.out.1 w1.heap.size 0 1 1 [⟨at', (toT k).length, ct⟩] rfl rfl HZ.out.2.1 (by have := HL.out; simp; omega) HZ.out.2.2.1 ?_
          intro v' w2 ho2 hg2 hat
          have HE := HZ.out.2.2.2 v' w2 ho2 hg2 hat
          have hq : w2.heap[w.heap.size]? = (w1.alloc (.cells #[.slice at' (toT k).length ct] 43)).heap[w.heap.size]? := hg2.block _ (by have := HB2.out.size; omega) (fun e => by have := HNe.out.2 _ e.symm; omega)
          have HQ2 : Hid (C20 w2 w.heap.size 0 k) := (show C20 _ _ _ _ from (HQ.out _ HB2.out).block hq)
          obtain ⟨av, cv', hv'⟩ := own_form ho2
          subst hv'
          obtain ⟨e1, e2, e3⟩ := HE
          have el : (hs ++ [(⟨at', (toT k).length, ct⟩ : Hd)]).length = hs.length + 1 := by simp
          rw [el] at e3 ⊢
          have HF : Hid (∃ S', CtI base g (l ++ [k]) S' (w2.setCell ⟨g, 0, none⟩ (.slice av (hs.length + 1) cv')) ∧ (∀ j, S' j → S j ∨ w.heap.size ≤ j) ∧ Chg S w (w2.setCell ⟨g, 0, none⟩ (.slice av (hs.length + 1) cv'))) := e3
          have HQ3 : Hid (C20 (w2.setCell ⟨g, 0, none⟩ (.slice av (hs.length + 1) cv')) w.heap.size 0 k) := (show C20 _ _ _ _ from HQ2.out.block (setCell_block _ _ _ _ (by have := HNe.out.1; omega)))
          refine hK.out _ _ (show C20 _ _ _ _ from HQ2.out) (fun hHeld => ?_)
          clear hK e3 ho2 hg2 hat hq el HZ HR HB1 HB2 HSt HG HQ HT
          try simp only [Act.put, List.setIfInBounds_toArray, List.set_cons_zero, List.set_cons_succ]
          refine wpAnyH_ready (rs := [5]) (by kernel_rfl) (by simp) ?_
          refine AllReadyH.cons rfl (fun K0 hK => ?_) AllReadyH.nil
          go_simp
          refine hK.out _ _ (show C20 _ _ _ _ from HQ3.out) (fun hHeld => ?_)
          clear hK
          refine wpAnyH_done (by kernel_rfl) ?_ _
          go_wp2_with fail
          first | refine bodyPost_end (results_none rfl _ _ _) rfl ?_ | refine bodyPost_ret (results_none rfl _ _ _) rfl ?_
          exact ⟨rfl, HF.out⟩
end Go.Proofs.Ytmobmpghpdaddaa

/-
  What Delete does: the walk.
-/
import Derived.Test.YtjjfhibkcngphaaDoorFModW
import Derived.Deep.RegionHeld
namespace Go.Proofs.YtjjfhibkcngphaaDoor
open Go.ChangeShapes Go.WideShapes Go.ChangeAt Go.RowKit
set_option linter.unusedVariables false
set_option linter.unusedSimpArgs false

set_option maxHeartbeats 2000000 in
theorem delete_nil (x : Fe) (s : Bool) (w : World) : Calls Tryd.prog 19 #[.pointer none, feV x, .bool s] w fun e w' => e = .returned (.int .i64 2) ∧ Below w.heap.size w w' := by
  have HX : Hid (Be ((fx w x).alloc (.cells #[.bool s] 4)) w.heap.size 0 x) := (Be.new w x).below (B := w.heap.size + 1) (by omega) (by go_grown)
  have g0 : Below w.heap.size w ((fx w x).alloc (.cells #[.bool s] 4)) := by go_grown
  go_enter Tryd.func19, Tryd.ntmps19
  go_wp2_with (refine load_E rfl (.tmp 4) rfl w.heap.size 0 x rfl HX.out ?_)
  refine (wrong_nil x _).mono ?_
  rintro e w1 ⟨rfl, g1⟩
  go_wp2_with fail
  go_ret
  exact ⟨rfl, btr g0 g1 (Nat.le_refl _)⟩
set_option maxHeartbeats 8000000 in
theorem delete_any (f : Nat) (S : Nat → Prop) (room : Int) (P : Nat → List Fp) (x : Fe) (s : Bool) (w : World) (h : Fs w f S room P) (hx : FW w x) (hs : ∀ b, InF x b → ¬ S b) (hd : Cd w) :
    Calls Tryd.prog 19 #[.pointer (some ⟨f, 0, none⟩), feV x, .bool s] w fun e w' => e = .returned (.int .i64 (wrongE x.p)) ∧ ∃ S', Fs w' f S' room (delP P x.p s) ∧ Kept S w w' ∧ ∀ b, S' b → S b ∨ w.heap.size ≤ b := by
  obtain ⟨W0, hW0⟩ : ∃ W0, (fx w x).alloc (.cells #[.bool s] 4) = W0 := ⟨_, rfl⟩
  have z0 : W0.heap.size = w.heap.size + 2 := by rw [← hW0]; simp
  have g0 : Below w.heap.size w W0 := by rw [← hW0]; go_grown
  have HX : Hid (Be W0 w.heap.size 0 x) := (show Be _ _ _ _ by rw [← hW0]; exact (Be.new w x).below (B := w.heap.size + 1) (by omega) (by go_grown))
  have hcs : W0.cell? ⟨w.heap.size + 1, 0, none⟩ = some (.bool s) := by rw [← hW0]; simp
  have HWr : Hid (Calls Tryd.prog 25 #[.pointer (some ⟨f, 0, none⟩), feV x] W0 fun e w' => e = .returned (.int .i64 (wrongE x.p)) ∧ Below W0.heap.size W0 w') := wrong_any f x _ (hx.below g0) (hd.below g0)
  have HCS : Hid (W0.cell? ⟨w.heap.size + 1, 0, none⟩ = some (.bool s)) := hcs
  clear hcs
  by_cases hw0 : wrongE x.p = 0
  · have hP : delP P x.p s = upd P x.p.tab.toNat (delL (P x.p.tab.toNat) x.p s) := by unfold delP; rw [if_pos hw0]
    obtain ⟨ht0, ht8⟩ := wrong_tab hw0
    obtain ⟨t, ht⟩ := Int.eq_ofNat_of_zero_le ht0
    have htt : x.p.tab.toNat = t := by omega
    have ht8' : t < 8 := by omega
    rw [htt] at hP
    obtain ⟨V, L, hF, hp⟩ := h
    obtain ⟨a, cap, hv, hform⟩ := OwnE.form2 (hF.row t ht8')
    have HF : Hid (Fl w f S room V L ∧ (∀ t, t < 8 → (L t).map Fe.p = P t)) := (show _ ∧ _ from ⟨hF, hp⟩)
    have HP : Hid (delP P x.p s = upd P t (delL (P t) x.p s)) := hP
    have HV : Hid (V t = .slice a (L t).length cap) := hv
    have hln : (L t).length ≤ 256 := by have := hF.nm t ht8'; have := hF.r2; omega
    have hcv : w.cell? ⟨f, 1 + t, none⟩ = some (.slice a (L t).length cap) := by rw [← hv]; exact hF.cv t ht8'
    have hfz : w.frozen? ⟨f, 1 + t, none⟩ = false := hF.fz _
    have hfl : f < w.heap.size := hF.lt f hF.sf
    have HXW : Hid (FW w x) := hx
    have HXS : Hid (∀ b, InF x b → ¬ S b) := hs
    have HT : Hid (x.p.tab = t) := ht
    have HW0 : Hid (wrongE x.p = 0) := hw0
    rw [hw0] at HWr
    clear hx hs hd hw0 hP ht0 ht8 htt hF hp hv hform ht
    rw [HW0.out]
    obtain ⟨l, hl⟩ : ∃ l, l = L t := ⟨_, rfl⟩
    rw [← hl] at hln hcv HV
    have HLt : Hid (l = L t) := hl
    clear hl
    go_enter Tryd.func19, Tryd.ntmps19
    go_wp2_with (refine load_E rfl (.tmp 4) rfl w.heap.size 0 x rfl HX.out ?_)
    refine HWr.out.mono ?_
    rintro e w1 ⟨rfl, g1⟩
    have HG1 : Hid (Below w.heap.size w w1) := btr g0 g1 (by omega)
    have HX1 : Hid (Be w1 w.heap.size 0 x) := HX.out.below (by omega) g1
    have HC1 : Hid (w1.cell? ⟨w.heap.size + 1, 0, none⟩ = some (.bool s)) := (g1.cell (p := ⟨w.heap.size + 1, 0, none⟩) (by show w.heap.size + 1 < W0.heap.size; omega)).trans HCS.out
    have z1 := g1.size
    rw [z0] at z1
    have c0 : w1.cell? ⟨w.heap.size, 0, none⟩ = some (.int .i64 (t : Int)) := by rw [← HT.out]; exact HX1.out.cs.1
    have c1 : w1.cell? ⟨f, 1 + t, none⟩ = some (.slice a l.length cap) := (HG1.out.cell (p := ⟨f, 1 + t, none⟩) hfl).trans hcv
    have ht8i : (t : Int) < 8 := by omega
    -- what DeleteFunc does
    have HD : Hid (∀ W, Below w1.heap.size w1 W → Calls Tryd.prog 34 #[.slice a l.length cap, .func (.func 35) #[] #[.pointer (some ⟨w.heap.size, 0, none⟩), .pointer (some ⟨w.heap.size + 1, 0, none⟩)]] W fun e w' => ∃ v', e = .returned v' ∧ OwnE 0 w' v' (l.filter fun y => !meansB x.p y.p s) ∧ v'.ownBlock = (Value.slice a l.length cap).ownBlock ∧ W.grownBy w' (Value.slice a l.length cap).ownBlock) := (show ∀ W, _ from fun W gW => by
      have hF := HF.out.1
      have G := btr HG1.out gW (by omega)
      have ho : OwnE 0 W (.slice a l.length cap) l := by
        have := hF.row t ht8'
        rw [HV.out, ← HLt.out] at this
        exact ownE_below this G
      have zW := gW.size
      refine delFunc_any 35 _ enD (fun y => meansB x.p y.p s) 0 _ l W ho (by omega) (fun W2 y hy g2 => ?_)
      have hgS : ∀ b, (Value.slice a l.length cap).ownBlock = some b → S b ∧ b < w.heap.size := fun b hb => by
        have := hF.sr t ht8' b (by rw [HV.out]; exact hb)
        exact ⟨this.1, hF.lt b this.1⟩
      have z2 := g2.size
      have keep : ∀ b, b < W.heap.size → (¬ S b ∨ w.heap.size ≤ b) → W2.heap[b]? = W.heap[b]? := fun b hb hn => g2.block b hb (fun e => by
        have := hgS b e.symm
        rcases hn with h | h
        · exact h this.1
        · omega)
      have hyL : y ∈ L t := by rw [← HLt.out]; exact hy
      obtain ⟨y1, y2⟩ := hF.en t ht8' y hyL
      refine delF_any x y s w.heap.size (w.heap.size + 1) W2 (by omega) ?_ (by omega) ?_ ?_ ?_
      · exact (HX1.out.below (by omega) gW).block (keep _ (by omega) (.inr (Nat.le_refl _)))
      · have e1 : W2.cell? ⟨w.heap.size + 1, 0, none⟩ = W.cell? ⟨w.heap.size + 1, 0, none⟩ := World.cell?_of_block (w := W) (keep (w.heap.size + 1) (by omega) (.inr (by omega)))
        rw [e1, gW.cell (p := ⟨w.heap.size + 1, 0, none⟩) (by show w.heap.size + 1 < w1.heap.size; omega)]
        exact HC1.out
      · exact HXW.out.stay (by have := G.size; omega) (fun b hb hlt => (keep b (by omega) (.inl (HXS.out b hb))).trans (G.block b hlt))
      · refine y1.stay (by have := G.size; omega) (fun b hb hlt => ?_)
        have := g2.block b (by omega) (fun e => (y2 b hb).2.2 t ht8' (by rw [HV.out]; exact e.symm))
        exact this.trans (G.block b hlt))
    clear g1 hcv
    have HDW : Hid (Below w1.heap.size w1 w1.drew) := (Below.refl _ w1).drew
    have fz1 : w1.frozen? ⟨f, 1 + t, none⟩ = false := (HG1.out.frozen (p := ⟨f, 1 + t, none⟩) hfl).trans hfz
    have HGF : Hid (∀ v W w', OwnE 0 W v l → v = .slice a l.length cap → Below w1.heap.size w1 W → W.grownBy w' v.ownBlock → w'.cell? ⟨f, 1 + t, none⟩ = some (.slice a l.length cap) ∧ w'.frozen? ⟨f, 1 + t, none⟩ = false ∧ w'.cell? ⟨w.heap.size, 0, none⟩ = some (.int .i64 (t : Int))) := (show ∀ v W w', _ from fun v W w' _ hv gW g2 => by
      have hF := HF.out.1
      subst hv
      have zW := gW.size
      have hne : ∀ b, (Value.slice a l.length cap).ownBlock = some b → b ≠ f ∧ b < w.heap.size := fun b hb => by
        have := hF.sr t ht8' b (by rw [HV.out]; exact hb)
        exact ⟨this.2, hF.lt b this.1⟩
      have hf1 : w'.heap[f]? = w1.heap[f]? := (g2.block f (by omega) (fun e => (hne f e.symm).1 rfl)).trans (gW.block f (by omega))
      have hb1 : w'.heap[w.heap.size]? = w1.heap[w.heap.size]? := (g2.block _ (by omega) (fun e => by have := (hne _ e.symm).2; omega)).trans (gW.block _ (by omega))
      exact ⟨(World.cell?_of_block (w := w1) hf1).trans c1, (World.frozen?_of_block (w := w1) hf1).trans fz1, (World.cell?_of_block (w := w1) hb1).trans c0⟩)
    have HOW : Hid (∀ W, Below w1.heap.size w1 W → OwnE 0 W (.slice a l.length cap) l) := (show ∀ W, _ from fun W gW => by
      have := HF.out.1.row t ht8'
      rw [HV.out, ← HLt.out] at this
      exact ownE_below this (btr HG1.out gW (by omega)))
    clear hfz
    go_wp2_with fail
    obtain ⟨l2, hl2⟩ : ∃ l2, l2 = l.filter fun y => !meansB x.p y.p s := ⟨_, rfl⟩
    rw [← hl2] at HD
    have HL2 : Hid (l2 = l.filter fun y => !meansB x.p y.p s) := hl2
    clear hl2
    have HFIN : Hid (∀ w2 a2 cap2, (OwnE 0 w2 (.slice a2 l2.length cap2) l2 ∧ (Value.slice a2 l2.length cap2).ownBlock = (Value.slice a l.length cap).ownBlock ∧ w1.drew.grownBy w2 (Value.slice a l.length cap).ownBlock) → ∃ S', Fs (w2.setCell ⟨f, 1 + t, none⟩ (.slice a2 l2.length cap2)) f S' room (delP P x.p s) ∧ Kept S w (w2.setCell ⟨f, 1 + t, none⟩ (.slice a2 l2.length cap2)) ∧ ∀ b, S' b → S b ∨ w.heap.size ≤ b) := (show ∀ w2 a2 cap2, _ from fun w2 a2 cap2 ⟨r1, r2, r3⟩ => by
      obtain ⟨hFl, hp⟩ := HF.out
      have d1 := (HGF.out _ w1.drew w2 (HOW.out _ HDW.out) rfl HDW.out r3)
      have G1 : w.grownBy w2 (Value.slice a l.length cap).ownBlock := gby_trans (gby_of_below _ (btr HG1.out HDW.out (Nat.le_refl _))) r3
      obtain ⟨U, hU⟩ : ∃ U, w2.setCell ⟨f, 1 + t, none⟩ (.slice a2 l2.length cap2) = U := ⟨_, rfl⟩
      have oU : Only f w2 U := by rw [← hU]; exact (Only.refl _ _).setCell _ _
      rw [hU, HP.out]
      have zU : U.heap.size = w2.heap.size := oU.size
      have hoz : ∀ b, (Value.slice a2 l2.length cap2).ownBlock = some b → b ≠ f := fun b hb => (hFl.sr t ht8' b (by rw [HV.out, ← r2]; exact hb)).2
      have hfw : w2.heap[f]? = w.heap[f]? := G1.block f hfl (fun e => (hFl.sr t ht8' f (by rw [HV.out]; exact e.symm)).2 rfl)
      refine ⟨more S w U, ⟨upd V t (.slice a2 l2.length cap2), upd L t l2, ?_, ?_⟩, ⟨oU.os.trans G1.os, oU.tape.trans G1.tape, oU.output.trans G1.output, by rw [zU]; exact G1.size, fun b hb hn => (oU.block b (fun e => hn (by rw [e]; exact hFl.sf))).trans (G1.block b hb (fun e => hn (hFl.sr t ht8' b (by rw [HV.out]; exact e.symm)).1))⟩, more_sub⟩
      · refine hFl.update ht8' (by rw [zU]; exact G1.size) (fun b hb hbf hne => (oU.block b hbf).trans (G1.block b hb (fun e => hne (by rw [HV.out]; exact e.symm)))) (fun o ho => ?_) ?_ (fun o => ?_) ?_ (.inl (by rw [HV.out]; exact r2)) ?_ ?_
        · rw [← hU, World.cell?_setCell_other _ _ _ _ (by simp)]; exact World.cell?_of_block (w := w) hfw
        · rw [← hU]; exact World.cell?_setCell_same _ _ _ d1.1
        · rw [← hU, World.frozen?_setCell]; exact World.frozen?_of_block (w := w) hfw
        · refine r1.kept (row := some f) ⟨oU.os, oU.tape, oU.output, by rw [zU]; exact Nat.le_refl _, fun k _ hk => oU.block k (fun e => hk (by rw [e]))⟩ ?_
          cases hob : (Value.slice a2 l2.length cap2).ownBlock with
          | none => exact .inl rfl
          | some b => exact .inr (fun e => hoz b hob (Option.some.inj e))
        · intro y hy
          have hyl : y ∈ l := by rw [HL2.out] at hy; exact (List.mem_filter.1 hy).1
          have hyL : y ∈ L t := by rw [← HLt.out]; exact hyl
          obtain ⟨y1, y2⟩ := hFl.en t ht8' y hyL
          refine ⟨y1.stay (by rw [zU]; exact G1.size) (fun b hb hlt => (oU.block b (y2 b hb).2.1).trans (G1.block b hlt (fun e => (y2 b hb).2.2 t ht8' (by rw [HV.out]; exact e.symm)))), fun b hb => ⟨.inl ⟨y, hyL, hb⟩, ?_⟩⟩
          rw [r2, ← HV.out]
          exact (y2 b hb).2.2 t ht8'
        · have := hFl.nm t ht8'
          have h2 : l2.length ≤ l.length := by rw [HL2.out]; exact List.length_filter_le _ _
          rw [← HLt.out] at this
          omega
      · intro u hu
        by_cases e : u = t
        · subst e
          rw [upd_same, upd_same, ← hp u hu, ← HLt.out, HL2.out]
          unfold delL
          rw [List.filter_map]
          rfl
        · rw [upd_other _ _ _ e, upd_other _ _ _ e]; exact hp u hu)
    go_region_with (go_at_call 34; refine (HD.out w1.drew HDW.out).mono ?_; rintro e w2 ⟨v', rfl, hov, hvb, g2⟩; obtain ⟨a2, cap2, hv2, hf2⟩ := OwnE.form2 hov; subst hv2; obtain ⟨d1, d2, d3⟩ := HGF.out _ w1.drew w2 (HOW.out _ HDW.out) rfl HDW.out g2; have HR : Hid (OwnE 0 w2 (.slice a2 l2.length cap2) l2 ∧ (Value.slice a2 l2.length cap2).ownBlock = (Value.slice a l.length cap).ownBlock ∧ w1.drew.grownBy w2 (Value.slice a l.length cap).ownBlock) := (show _ ∧ _ from ⟨hov, hvb, g2⟩); clear hov hvb g2 hf2)
    all_goals
      go_wp2_with fail
      go_ret
      exact ⟨rfl, HFIN.out _ _ _ HR.out⟩
  · have hP : delP P x.p s = P := by unfold delP; rw [if_neg hw0]
    rw [hP]
    have HF : Hid (Fs w f S room P) := h
    have hn : (wrongE x.p != 0) = true := by simp [hw0]
    clear h hx hs hd hP hw0
    generalize wrongE x.p = E at *
    go_enter Tryd.func19, Tryd.ntmps19
    go_wp2_with (refine load_E rfl (.tmp 4) rfl w.heap.size 0 x rfl HX.out ?_)
    refine HWr.out.mono ?_
    rintro e w1 ⟨rfl, g1⟩
    have HG1 : Hid (Below w.heap.size w w1) := btr g0 g1 (by omega)
    clear g1
    go_wp2_with fail
    go_ret
    exact ⟨rfl, S, HF.out.below HG1.out, Kept.of_below HG1.out, fun b hb => .inl hb⟩
end Go.Proofs.YtjjfhibkcngphaaDoor

/-
  What Modify does: the walk.
-/
import Derived.Test.YtjjfhibkcngphaaDoorFMod
namespace Go.Proofs.YtjjfhibkcngphaaDoor
open Go.ChangeShapes Go.WideShapes Go.ChangeAt Go.RowKit
set_option linter.unusedVariables false
set_option linter.unusedSimpArgs false

set_option maxHeartbeats 2000000 in
theorem modify_nil (x : Fe) (s : Bool) (w : World) : Calls Tryd.prog 18 #[.pointer none, feV x, .bool s] w fun e w' => e = .returned (.int .i64 2) ∧ Below w.heap.size w w' := by
  have HX : Hid (Be (fx w x) w.heap.size 0 x) := Be.new w x
  have g0 : Below w.heap.size w (fx w x) := by go_grown
  go_enter Tryd.func18, Tryd.ntmps18
  go_wp2_with (refine load_E rfl (.tmp 4) rfl w.heap.size 0 x rfl HX.out ?_)
  refine (wrong_nil x _).mono ?_
  rintro e w1 ⟨rfl, g1⟩
  go_wp2_with fail
  go_ret
  exact ⟨rfl, btr g0 g1 (Nat.le_refl _)⟩
theorem kept_gby {S : Nat → Prop} {w w1 w' : World} {f g : Nat} (g1 : Below w.heap.size w w1) (h : w1.grownBy w' (some g)) (hg : S g) : Kept S w w' :=
  ⟨h.os.trans g1.os, h.tape.trans g1.tape, h.output.trans g1.output, Nat.le_trans g1.size h.size, fun b hb hn => (h.block b (Nat.lt_of_lt_of_le hb g1.size) (fun e => hn (by rw [Option.some.inj e]; exact hg))).trans (g1.block b hb)⟩
set_option maxHeartbeats 8000000 in
theorem modify_any (f : Nat) (S : Nat → Prop) (room : Int) (P : Nat → List Fp) (x : Fe) (s : Bool) (w : World) (h : Fs w f S room P) (hx : FW w x) (hs : ∀ b, InF x b → ¬ S b) (hd : Cd w) :
    Calls Tryd.prog 18 #[.pointer (some ⟨f, 0, none⟩), feV x, .bool s] w fun e w' => e = .returned (.int .i64 (wrongE x.p)) ∧ ∃ S', Fs w' f S' room (modP P x.p s) ∧ Kept S w w' ∧ ∀ b, S' b → S b ∨ w.heap.size ≤ b := by
  have HX : Hid (Be (fx w x) w.heap.size 0 x) := Be.new w x
  have g0 : Below w.heap.size w (fx w x) := by go_grown
  have HWr : Hid (Calls Tryd.prog 25 #[.pointer (some ⟨f, 0, none⟩), feV x] (fx w x) fun e w' => e = .returned (.int .i64 (wrongE x.p)) ∧ Below (fx w x).heap.size (fx w x) w') := wrong_any f x _ (hx.below g0) (hd.below g0)
  by_cases hw0 : wrongE x.p = 0
  · have hP : modP P x.p s = upd P x.p.tab.toNat (modL (P x.p.tab.toNat) x.p s) := by unfold modP; rw [if_pos hw0]
    obtain ⟨ht0, ht8⟩ := wrong_tab hw0
    obtain ⟨t, ht⟩ := Int.eq_ofNat_of_zero_le ht0
    have htt : x.p.tab.toNat = t := by omega
    have ht8' : t < 8 := by omega
    rw [htt] at hP
    obtain ⟨V, L, hF, hp⟩ := h
    obtain ⟨a, cap, hv, hform⟩ := OwnE.form2 (hF.row t ht8')
    have HF : Hid (Fl w f S room V L ∧ (∀ t, t < 8 → (L t).map Fe.p = P t)) := (show _ ∧ _ from ⟨hF, hp⟩)
    have HP : Hid (modP P x.p s = upd P t (modL (P t) x.p s)) := hP
    have HV : Hid (V t = .slice a (L t).length cap ∧ (a = none ∧ L t = [] ∧ cap = 0 ∨ ∃ g, a = some ⟨g, 0, none⟩ ∧ 0 ≤ g ∧ g < w.heap.size ∧ (L t).length ≤ cap ∧ cap ≤ maxLen)) := (show _ ∧ _ from ⟨hv, hform⟩)
    have hln : (L t).length ≤ 256 := by have := hF.nm t ht8'; have := hF.r2; omega
    have hcv : w.cell? ⟨f, 1 + t, none⟩ = some (.slice a (L t).length cap) := by rw [← hv]; exact hF.cv t ht8'
    have hfl : f < w.heap.size := hF.lt f hF.sf
    have HXW : Hid (FW w x) := hx
    have HXS : Hid (∀ b, InF x b → ¬ S b) := hs
    have HT : Hid (x.p.tab = t) := ht
    have HW0 : Hid (wrongE x.p = 0) := hw0
    rw [hw0] at HWr
    clear hx hs hd hw0 hP ht0 ht8 htt hF hp hv hform ht
    rw [HW0.out]
    obtain ⟨l, hl⟩ : ∃ l, l = L t := ⟨_, rfl⟩
    rw [← hl] at hln hcv HV
    have HLt : Hid (l = L t) := hl
    clear hl
    go_enter Tryd.func18, Tryd.ntmps18
    go_wp2_with (refine load_E rfl (.tmp 4) rfl w.heap.size 0 x rfl HX.out ?_)
    refine HWr.out.mono ?_
    rintro e w1 ⟨rfl, g1⟩
    have HG1 : Hid (Below w.heap.size w w1) := btr g0 g1 (Nat.le_refl _)
    have HX1 : Hid (Be w1 w.heap.size 0 x) := HX.out.below (by simp) g1
    have z1 := g1.size
    simp at z1
    have c0 : w1.cell? ⟨w.heap.size, 0, none⟩ = some (.int .i64 (t : Int)) := by rw [← HT.out]; exact HX1.out.cs.1
    have c1 : w1.cell? ⟨f, 1 + t, none⟩ = some (.slice a l.length cap) := (HG1.out.cell (p := ⟨f, 1 + t, none⟩) hfl).trans hcv
    have ht8i : (t : Int) < 8 := by omega
    clear g1 hcv
    go_wp2_with fail
    go_quiet (fail)
    go_wp2_with fail
    obtain ⟨U, hU⟩ : ∃ U, w1.drewN nq = U := ⟨_, rfl⟩
    rw [hU]
    have HGU : Hid (Below w.heap.size w U) := (show Below _ _ _ by rw [← hU]; exact bdr HG1.out nq)
    have HXU : Hid (Be U w.heap.size 0 x) := (show Be _ _ _ _ by rw [← hU]; exact HX1.out)
    have zU : w.heap.size + 1 ≤ U.heap.size := by rw [← hU]; exact z1
    clear hU c0 c1 z1
    have HOU : Hid (OwnE 0 U (.slice a l.length cap) l) := (show World.ownsRow _ _ _ _ _ _ _ from by
      have := HF.out.1.row t ht8'
      rw [HV.out.1, ← HLt.out] at this
      exact ownE_below this HGU.out)
    have HLW : Hid (∀ y ∈ l, FW w y ∧ ∀ b, InF y b → S b ∧ (∀ g, a = some ⟨g, 0, none⟩ → b ≠ g)) := (show ∀ y ∈ l, _ from fun y hy => by
      rw [HLt.out] at hy
      obtain ⟨h1, h2⟩ := HF.out.1.en t ht8' y hy
      refine ⟨h1, fun b hb => ⟨(h2 b hb).1, fun g hg e => (h2 b hb).2.2 t ht8' ?_⟩⟩
      rw [HV.out.1, hg, e]
      rfl)
    have HLS : Hid (∀ b, S b → b < w.heap.size) := HF.out.1.lt
    go_loopw [9, 10, 26] (fun _ _ i wr => ∃ (k : Nat) (m : List Fe), k ≤ l.length ∧ i = .int .i64 k ∧ Hid ((l = [] ∧ m = [] ∧ Below U.heap.size U wr) ∨ ∃ g, a = some ⟨g, 0, none⟩ ∧ g < w.heap.size ∧ ModI U g cap l x.p s k wr m)) (fun _ _ i _ => l.length - (intOf i).toNat)
    case atStart =>
      refine ⟨0, l, Nat.zero_le _, rfl, (show _ ∨ _ from ?_)⟩
      rcases HV.out.2 with ⟨h1, h2, _⟩ | ⟨g, h1, _, h2, h3, h4⟩
      · exact .inl ⟨h2, h2, Below.refl _ _⟩
      · refine .inr ⟨g, h1, h2, rfl, ?_, fun i _ _ h => absurd h (Nat.not_lt_zero _), fun _ _ _ _ => rfl, World.grownBy.refl _ _⟩
        rw [← h1]; exact HOU.out
    case round =>
      obtain ⟨k, m, hk, rfl, HM⟩ := hrel
      by_cases hlt : k < l.length
      · obtain ⟨gb, rfl, hgb, HI⟩ : ∃ g, a = some ⟨g, 0, none⟩ ∧ g < w.heap.size ∧ Hid (ModI U g cap l x.p s k wr m) := by
          rcases HM.out with ⟨h, _⟩ | ⟨g, h1, h2, h3⟩
          · subst h; cases hlt
          · exact ⟨g, h1, h2, h3⟩
        clear HM
        have hml := HI.out.len
        have hnc : l.length ≤ cap := by
          rcases HV.out.2 with ⟨h1, _⟩ | ⟨g, h1, _, _, h3, _⟩
          · cases h1
          · exact h3
        have hmk : m[k]'(by omega) = l[k] := HI.out.left k (by omega) hlt (Nat.le_refl _)
        have HB : Hid (Be wr gb (k * 10) l[k]) := (show Be _ _ _ _ by rw [← hmk]; exact OwnE.be hml.symm HI.out.own k (by omega))
        have HMS : Hid (m.set k l[k] = m) := (show _ = _ by rw [← hmk]; exact List.set_getElem_self _)
        have zr := HI.out.gby.size
        have HXr : Hid (Be wr w.heap.size 0 x) := HXU.out.block (HI.out.gby.block _ (by omega) (by simp; omega))
        have HXWr : Hid (FW wr x) := HXW.out.stay (by omega) (fun b hb hlt => (HI.out.gby.block b (by omega) (fun e => HXS.out b hb (by
          have e' : b = gb := Option.some.inj e
          rw [e']
          have := (HF.out.1.sr t ht8' gb (by rw [HV.out.1]; rfl)).1
          exact this))).trans (HGU.out.block b hlt))
        have HYr : Hid (FW wr l[k]) := (HLW.out l[k] (List.getElem_mem _)).1.stay (by omega) (fun b hb hlt => (HI.out.gby.block b (by omega) (fun e => ((HLW.out l[k] (List.getElem_mem _)).2 b hb).2 gb rfl (Option.some.inj e))).trans (HGU.out.block b hlt))
        clear hmk
        go_wp2_with (first
          | (refine load_E rfl (.tmp 29) rfl gb (k * 10) l[k] (by simp [Act.eval, Act.put]) HB.out ?_)
          | (refine store_E rfl (.tmp 10) (.tmp 30) rfl wr.heap.size 0 l[k] rfl rfl (there_new wr zeroE 38) ?_; intro Q hQ bQ tQ oQ; clear hQ; have HBQ : Hid (Be Q wr.heap.size 0 l[k]) := bQ; have HGQ : Hid (Below wr.heap.size wr Q) := oQ.below (Nat.le_refl _) (show Below wr.heap.size wr (wr.alloc (.cells zeroE 38)) by go_grown); have zQ : Q.heap.size = wr.heap.size + 1 := (by rw [oQ.size]; simp); clear bQ tQ oQ)
          | (refine load_E rfl (.tmp 4) rfl w.heap.size 0 x rfl (HXr.out.below (by omega) HGQ.out) ?_)
          | (refine load_E rfl (.tmp 10) rfl wr.heap.size 0 l[k] rfl HBQ.out ?_))
        refine (means_any x l[k] s Q (HXWr.out.below HGQ.out) (HYr.out.below HGQ.out)).mono ?_
        rintro e w2 ⟨rfl, g2⟩
        have HG2 : Hid (Below wr.heap.size wr w2) := btr HGQ.out g2 (Nat.le_refl _)
        have HB2 : Hid (Be w2 wr.heap.size 0 l[k]) := HBQ.out.below (by omega) g2
        have z2 := g2.size
        clear g2
        cases hq : meansB x.p l[k].p s with
        | true =>
          go_wp2_with (first
            | (refine load_E rfl (.tmp 4) rfl w.heap.size 0 x rfl (HXr.out.below (by omega) HG2.out) ?_)
            | (refine load_E rfl (.tmp 10) rfl wr.heap.size 0 l[k] rfl HB2.out ?_))
          refine (changed_any l[k] x w2 (HYr.out.below HG2.out) (HXWr.out.below HG2.out)).mono ?_
          rintro e w3 ⟨z, rfl, hzp, hzw, hzi, g3⟩
          have HZ : Hid (z.p = chgE x.p l[k].p s ∧ FW w3 z ∧ (∀ b, InF z b → w2.heap.size ≤ b)) := (show _ ∧ _ from ⟨by unfold chgE; rw [if_pos hq]; exact hzp, hzw, hzi⟩)
          have HG3 : Hid (Below wr.heap.size wr w3) := btr HG2.out g3 (Nat.le_refl _)
          have HO3 : Hid (w3.ownsRow 0 38 10 (.slice (some ⟨gb, 0, none⟩) l.length cap) l.length (flatE m)) := (show World.ownsRow _ _ _ _ _ _ _ from own_below HI.out.own HG3.out)
          clear hzp hzw hzi g3
          go_wp2_with (refine store_E rfl (.tmp 40) (.tmp 39) rfl gb (k * 10) z (by simp [Act.eval, Act.put]) rfl (OwnE.there hml.symm HO3.out k (by omega)) ?_; intro R hR bR tR oR; have HOR : Hid (R.ownsRow 0 38 10 (.slice (some ⟨gb, 0, none⟩) l.length cap) l.length (flatE (m.set k z))) := (show World.ownsRow _ _ _ _ _ _ _ from (by rw [hR]; exact OwnE.set hml.symm HO3.out k (by omega) z)); have HGR : Hid (wr.grownBy R (some gb)) := gby_only (gby_of_below _ HG3.out) oR (.inr rfl); have HZR : Hid (FW R z) := HZ.out.2.1.stay (by rw [oR.size]; exact Nat.le_refl _) (fun b hb _ => oR.block b (by have := HZ.out.2.2 b hb; omega)); clear hR bR tR oR)
          have HM2 : Hid (ModI U gb cap l x.p s (k + 1) R (m.set k z)) := HI.out.step hlt (by omega) (fun y hy b hb => ((HLW.out y hy).2 b hb).2 gb rfl) HGR.out HOR.out HZ.out.1 HZR.out (fun b hb => .inr (by have := HZ.out.2.2 b hb; omega))
          go_roundw
          case rel => exact ⟨k + 1, m.set k z, by omega, by go_num, (show _ ∨ _ from .inr ⟨gb, rfl, hgb, HM2.out⟩)⟩
          case measure => simp [intOf]; omega
        | false =>
          have HM2 : Hid (ModI U gb cap l x.p s (k + 1) w2 m) := (show ModI _ _ _ _ _ _ _ _ _ from by
            have h1 : w2.ownsRow 0 38 10 (.slice (some ⟨gb, 0, none⟩) l.length cap) l.length (flatE (m.set k l[k])) := by rw [HMS.out]; exact own_below HI.out.own HG2.out
            have h2 := HI.out.step hlt (by omega) (fun y hy b hb => ((HLW.out y hy).2 b hb).2 gb rfl) (gby_of_below _ HG2.out) h1 (by unfold chgE; rw [if_neg (by rw [hq]; decide)]) (HYr.out.below HG2.out) (fun b hb => .inl hb)
            rwa [HMS.out] at h2)
          go_wp2_with fail
          go_roundw
          case rel => exact ⟨k + 1, m, by omega, by go_num, (show _ ∨ _ from .inr ⟨gb, rfl, hgb, HM2.out⟩)⟩
          case measure => simp [intOf]; omega
      · have hk' : k = l.length := by omega
        subst hk'
        go_wp2
        go_ret
        refine ⟨rfl, ?_⟩
        rw [HP.out]
        obtain ⟨hFl, hp⟩ := HF.out
        rcases HM.out with ⟨h1, h2, h3⟩ | ⟨g, h1, h2, h3⟩
        · have hG : Below w.heap.size w wr := btr HGU.out h3 (Nat.le_refl _)
          have hPt : P t = [] := by rw [← hp t ht8', ← HLt.out, h1]; rfl
          refine ⟨S, ?_, Kept.of_below hG, fun b hb => .inl hb⟩
          have e : upd P t (modL (P t) x.p s) = P := by
            funext u
            by_cases e : u = t
            · subst e; rw [upd_same, hPt]; rfl
            · rw [upd_other _ _ _ e]
          rw [e]
          exact Fs.below ⟨V, L, hFl, hp⟩ hG
        · have hvt : V t = .slice (some ⟨g, 0, none⟩) l.length cap := by rw [HV.out.1, h1]
          have hgs := hFl.sr t ht8' g (by rw [hvt]; rfl)
          have hgby : w.grownBy wr (some g) := gby_trans (gby_of_below _ HGU.out) h3.gby
          refine ⟨more S w wr, ⟨upd V t (V t), upd L t m, ?_, ?_⟩, kept_gby (f := f) (Below.refl _ _) hgby hgs.1, more_sub⟩
          · have hfb : wr.heap[f]? = w.heap[f]? := hgby.block f hfl (fun e => hgs.2 (Option.some.inj e).symm)
            refine hFl.update ht8' hgby.size (fun b hb _ hne => hgby.block b hb (fun e => hne (by rw [hvt, e]; rfl))) (fun o _ => World.cell?_of_block (w := w) hfb) ((World.cell?_of_block (w := w) hfb).trans (hFl.cv t ht8')) (fun o => World.frozen?_of_block (w := w) hfb) ?_ (.inl rfl) ?_ ?_
            · unfold OwnE; rw [hvt, h3.len]; exact h3.own
            · intro y hy
              obtain ⟨i, hi, rfl⟩ := List.mem_iff_getElem.1 hy
              have hil : i < l.length := by rw [← h3.len]; exact hi
              obtain ⟨a1, a2, a3⟩ := h3.done i hi hil hil
              refine ⟨a2, fun b hb => ?_⟩
              rcases a3 b hb with h5 | h5
              · refine ⟨.inl ⟨l[i], by rw [← HLt.out]; exact List.getElem_mem _, h5⟩, ?_⟩
                rw [hvt]
                intro e
                exact ((HLW.out l[i] (List.getElem_mem _)).2 b h5).2 g h1 (Option.some.inj e).symm
              · refine ⟨.inr (by omega), ?_⟩
                rw [hvt]
                intro e
                have : g = b := Option.some.inj e
                omega
            · rw [h3.len, HLt.out]; exact hFl.nm t ht8'
          · intro u hu
            by_cases e : u = t
            · subst e; rw [upd_same, upd_same, h3.all, HLt.out, hp u hu]
            · rw [upd_other _ _ _ e, upd_other _ _ _ e]; exact hp u hu
  · have hP : modP P x.p s = P := by unfold modP; rw [if_neg hw0]
    rw [hP]
    have HF : Hid (Fs w f S room P) := h
    have hn : (wrongE x.p != 0) = true := by simp [hw0]
    clear h hx hs hd hP hw0
    generalize wrongE x.p = E at *
    go_enter Tryd.func18, Tryd.ntmps18
    go_wp2_with (refine load_E rfl (.tmp 4) rfl w.heap.size 0 x rfl HX.out ?_)
    refine HWr.out.mono ?_
    rintro e w1 ⟨rfl, g1⟩
    have HG1 : Hid (Below w.heap.size w w1) := btr g0 g1 (Nat.le_refl _)
    clear g1
    go_wp2_with fail
    go_ret
    exact ⟨rfl, S, HF.out.below HG1.out, Kept.of_below HG1.out, fun b hb => .inl hb⟩
end Go.Proofs.YtjjfhibkcngphaaDoor

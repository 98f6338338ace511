/-
  Reach: the walk.
-/
import Derived.Test.YtcjojcaahpkacaaPorts
import Derived.Test.YtcjojcaahpkacaaSeek
import Derived.Deep.RegionHeld
namespace Go.Proofs.Ytcjojcaahpkacaa
open Go.ChangeShapes Go.WideShapes Go.ChangeAt Go.RowKit
set_option linter.unusedVariables false

/-- Reach, between two steps: what has been come to lies in a row that was made behind world w1. -/
structure RcI (w1 : World) (v : Value) (zs : List Int) (wr : World) : Prop where
  own : OwnI w1.heap.size wr v zs
  bel : Below w1.heap.size w1 wr
theorem RcI.app {w wr V w2 : World} {v v' : Value} {zs ts : List Int} (h : RcI w v zs wr) (gV : Below wr.heap.size wr V) (o : OwnI w.heap.size w2 v' ts) (k : V.grownBy w2 v.ownBlock) : RcI w v' ts w2 :=
  ⟨o, (h.bel.trans (gV.mono h.bel.size)).grown k (Nat.le_trans h.bel.size gV.size) (fun j hj => (h.own.lt j hj).1)⟩
theorem RcI.grow {w wr V : World} {v : Value} {zs : List Int} (h : RcI w v zs wr) (gV : Below wr.heap.size wr V) : RcI w v zs V := ⟨own_below h.own gV, h.bel.trans (gV.mono h.bel.size)⟩
theorem sizeEnds : (Try.prog.info? 65).map (·.size) = some 48 := by kernel_rfl
set_option maxRecDepth 20000 in
set_option maxHeartbeats 8000000 in
theorem reach_any {B t e n : Nat} {w : World} {cv : Value} {L : List Lk} (h : Tm B w t e cv n L) (hg : goodF n [] L = true) (hL : L.length ≤ 64) (s : Int) (a : Option Addr) (ds : List Int) (cap : Nat) (hd : Is w a ds) (hdl : ds.length ≤ 1000) :
    Calls Try.prog 24 #[.pointer (some ⟨t, 0, none⟩), .int .i64 s, .slice a ds.length cap] w fun r w' => ∃ v zs, r = .returned v ∧ OwnI w.heap.size w' v zs ∧ Rd n L ds s zs ∧ Below w.heap.size w w' := by
  have HH : Hid (∀ w', Below w.heap.size w w' → ∀ s, Calls Try.prog 33 #[.pointer (some ⟨t, 0, none⟩), .int .i64 s] w' fun e w'' => e = .returned (.bool (inB s 1 n)) ∧ w'' = w') := (show ∀ w', _ from fun w' k s => has_any (h.below k) s)
  cases h1 : inB s 1 n
  · have H1 : Hid (inB s 1 n = false) := h1
    clear h1 h hd
    go_enter Try.func24, Try.ntmps24
    go_wp2_with (go_at_call 33; refine (HH.out _ (Below.refl _ _) _).mono ?_; rw [H1.out]; rintro r u ⟨rfl, z⟩; obtain rfl : w = u := z.symm; clear z)
    go_ret
    exact ⟨_, [], rfl, World.ownsRow_nil _ _ _ _, rd_none H1.out, Below.refl _ _⟩
  have HU : Hid (Calls Try.prog 35 #[.pointer (some ⟨t, 0, none⟩), .slice a ds.length cap] w fun r w' => r = .returned (.slice (some ⟨w.heap.size, 0, none⟩) (L.length + 1) (L.length + 1)) ∧ UpI w w.heap.size L.length (fun j => upB L.length ds j) w') := up_any h hL a ds cap hd hdl
  have hs := inB_true.1 h1
  have H1 : Hid (inB s 1 n = true) := h1
  have HS : Hid (1 ≤ s ∧ s ≤ (n : Int)) := hs
  have HT : Hid (Tm B w t e cv n L) := h
  have HGd : Hid (goodF n [] L = true) := hg
  have hn := h.n1
  clear h1 h hd hs hg
  go_enter Try.func24, Try.ntmps24
  go_wp2_with (first | (go_at_call 33; refine (HH.out _ (Below.refl _ _) _).mono ?_; rw [H1.out]; rintro r u ⟨rfl, z⟩; obtain rfl : w = u := z.symm; clear z) | (go_at_call 35; refine HU.out.mono ?_; rintro r w1 ⟨rfl, hu⟩; have HUp : Hid (UpI w w.heap.size L.length (fun j => upB L.length ds j) w1) := hu; clear hu))
  have H0 : Hid (RcI w1 (.slice (some ⟨w1.heap.size, 0, none⟩) 1 1) [s] (w1.alloc (.cells #[.int .i64 s] 3))) := (show RcI _ _ _ _ from ⟨World.ownsRow_lit w1 _ 1 (Nat.le_refl _) (by unfold maxLen; omega) rfl, by go_grown⟩)
  have HW : Hid (∀ wr, Below w1.heap.size w1 wr → Tm B wr t e cv n L ∧ (∀ j, j ≤ L.length → wr.cell? ⟨w.heap.size, j, none⟩ = some (.bool (upB L.length ds j))) ∧ Below w.heap.size w wr ∧ w.heap.size < wr.heap.size) := (show ∀ wr, _ from fun wr g => ⟨(HT.out.below HUp.out.bel).below g, fun j hj => (g.cell (p := ⟨w.heap.size, j, none⟩) HUp.out.lt).trans (HUp.out.cell j hj), btr HUp.out.bel g (Nat.le_refl _), Nat.lt_of_lt_of_le HUp.out.lt g.size⟩)
  have H00 : Hid (RcI w1 (.slice (some ⟨w1.heap.size, 0, none⟩) 1 1) [s] (w1.alloc (.cells #[.int .i64 s] 3)) ∧ Bf n L ds s 0 [s]) := (show _ ∧ _ from ⟨H0.out, Bf.init HS.out⟩)
  clear H0 HU HUp
  go_loopw [8, 9] (fun v8 v9 wr => ∃ (zs : List Int) (k : Nat), v9 = .int .i64 k ∧ Hid (RcI w1 v8 zs wr ∧ Bf n L ds s k zs)) (fun _ v9 _ => 64 - (intOf v9).toNat)
  case atStart => exact ⟨[s], 0, rfl, H00⟩
  case round =>
    obtain ⟨zs, k, rfl, HJ⟩ := hrel
    have hkz : zs.length ≤ 32 := Nat.le_trans HJ.out.2.len hn
    by_cases hlt : k < zs.length
    · obtain ⟨g, lc, rfl, hgb, hgw, hgc⟩ := own_at HJ.out.1.own k hlt
      have d0 := hgc k hlt
      have HB0 : Hid (Bg n L ds s k 0 zs zs[k]) := Bg.start HJ.out.2 hlt
      have hrg := HJ.out.2.rg zs[k] (List.getElem_mem hlt)
      generalize zs[k] = y at d0 HB0 hrg
      obtain ⟨i, rfl⟩ : ∃ i : Nat, y = (i : Int) + 1 := ⟨(y - 1).toNat, by omega⟩
      have hi : i < n := by omega
      have hgd : g < wr.heap.size := hgw
      have HWr : Hid (Tm B wr t e cv n L ∧ (∀ j, j ≤ L.length → wr.cell? ⟨w.heap.size, j, none⟩ = some (.bool (upB L.length ds j))) ∧ Below w.heap.size w wr ∧ w.heap.size < wr.heap.size) := HW.out wr HJ.out.1.bel
      have c0 := HWr.out.1.c0
      obtain ⟨f, hf⟩ : ∃ f : Nat → Int × Int × Int, (fun p : Nat => peerF 0 L ((i : Int) + 1) ((p : Int) + 1)) = f := ⟨_, rfl⟩
      have hrow : ∀ p, p < 16 → E3 wr e (i * 48 + p * 3) (f p) := by rw [← hf]; exact fun p hp => HWr.out.1.ce i p hi hp
      have HFp : Hid (∀ p : Nat, f p = peerF 0 L ((i : Int) + 1) ((p : Int) + 1)) := (show ∀ p, _ from fun p => by rw [← hf])
      have HIx : Hid (∀ p, p < 16 → ∀ w, (Instr.index 65 (.agg (rowC f 16).toArray) (.int .i64 ((p : Nat) : Int))).run Try.prog w = .ok (e3V (f p)) w) := (show ∀ p, p < 16 → ∀ w, _ from fun p hp w => idx_ends f p hp w)
      have hra := range_rows hrow
      have hrl : (rowC f 16).length = 48 := rowC_length f 16
      have hro := rowC_one f 16
      have hrs : (Try.prog.info? 65).map (·.size) = some (rowC f 16).length := by rw [hrl]; exact sizeEnds
      have HRw : Hid (Try.prog.underlying 65 = some (.array 16 56)) := Try.underlying65
      have hru := HRw.out
      clear hgc hrg hf hrow hgb HRw
      generalize rowC f 16 = R at *
      have hi1 : (i : Int) < (n : Int) := by omega
      have hi2 : (0 : Int) ≤ (i : Int) := by omega
      have hi3 : ¬ (n : Int) ≤ (i : Int) := by omega
      have hi4 : ¬ n ≤ i := by omega
      have hw1 : IntKind.i64.wrap ((i : Int) + 1 - 1) = (i : Int) := by rw [IntKind.wrap_i64]; omega
      have hw2 : IntKind.i64.wrap (i : Int) = (i : Int) := by rw [IntKind.wrap_i64]; omega
      go_wp2_with fail
      go_region_held (fun w' => w'.cell? ⟨t, 0, none⟩ = some (.slice (some ⟨e, 0, none⟩) n n) ∧ w'.cell? ⟨g, k, none⟩ = some (.int .i64 ((i : Int) + 1)) ∧ w'.rangeAt e (i * 48) R) (go_keep_ranges) (fail)
      generalize R.toArray = R2 at *
      have HJ2 : Hid (RcI w1 (.slice (some ⟨g, 0, none⟩) zs.length lc) zs wr.drew ∧ Bg n L ds s k 0 zs ((i : Int) + 1)) := (show _ ∧ _ from ⟨HJ.out.1.grow ((Below.refl _ _).drew), HB0.out⟩)
      clear HJ HB0 HWr hru hrs hro hrl hra c0 d0 hi1 hi2 hi3 hi4 hw1 hw2 hgd hgw
      go_wp2
      go_loopw [8, 38] (fun v8 v38 wq => ∃ (zs : List Int) (p : Nat), p ≤ 16 ∧ v38 = .int .i64 p ∧ Hid (RcI w1 v8 zs wq ∧ Bg n L ds s k p zs ((i : Int) + 1))) (fun _ v38 _ => 16 - (intOf v38).toNat)
      case atStart => exact ⟨zs, 0, by omega, rfl, HJ2⟩
      case round =>
        clear HJ2 hkz hlt
        obtain ⟨zq, p, hp, rfl, HK⟩ := hrel
        have hzq : zq.length ≤ 32 := Nat.le_trans HK.out.2.bf.len hn
        have HZq : Hid (zq.length ≤ 32) := hzq
        have hkq := HK.out.2.kl
        by_cases hlt : p < 16
        · have hx := HIx.out p hlt
          have HX : Hid (f p = peerF 0 L ((i : Int) + 1) ((p : Int) + 1)) := HFp.out p
          have hlk := peerF_link L 0 ((i : Int) + 1) ((p : Int) + 1)
          rw [← HX.out] at hlk
          obtain ⟨x, hfx⟩ : ∃ x, f p = x := ⟨_, rfl⟩
          rw [hfx] at hx hlk
          have HX2 : Hid (peerF 0 L ((i : Int) + 1) ((p : Int) + 1) = x) := (show _ = _ from HX.out.symm.trans hfx)
          clear hfx HX
          obtain ⟨xa, xp, xl⟩ := x
          simp only at hlk
          obtain ⟨m, rfl⟩ : ∃ m : Nat, xl = (m : Int) := ⟨xl.toNat, by have := hlk.1; omega⟩
          have hmL : m ≤ L.length := by have := hlk.2.2.2; omega
          have hmL2 : m < L.length + 1 := by omega
          have hx' : ∀ w, (Instr.index 65 (.agg R2) (.int .i64 (p : Int))).run Try.prog w = .ok (.agg #[.int .i64 xa, .int .i64 xp, .int .i64 (m : Int)]) w := hx
          have HWq : Hid (Tm B wr t e cv n L ∧ (∀ j, j ≤ L.length → wr.cell? ⟨w.heap.size, j, none⟩ = some (.bool (upB L.length ds j))) ∧ Below w.heap.size w wr ∧ w.heap.size < wr.heap.size) := HW.out wr HK.out.1.bel
          have cu := HWq.out.2.1 m hmL
          have ubl := HWq.out.2.2.2
          have HWB : Hid (Below w.heap.size w wr) := HWq.out.2.2.1
          have HSk : Hid ((upB L.length ds m && inB xa 1 n && !zq.contains xa) = false → Bg n L ds s k (p + 1) zq ((i : Int) + 1)) := (show _ → _ from fun hc => HK.out.2.skip (by rw [HX2.out]; exact hc))
          have HAd : Hid ((upB L.length ds m && inB xa 1 n && !zq.contains xa) = true → Bg n L ds s k (p + 1) (zq ++ [xa]) ((i : Int) + 1)) := (show _ → _ from fun hc => by
            have := HK.out.2.add HGd.out hlt (by rw [HX2.out]; exact hc)
            rwa [HX2.out] at this)
          clear hx hlk HWq hmL
          cases hb1 : upB L.length ds m
          · have HN : Hid (Bg n L ds s k (p + 1) zq ((i : Int) + 1)) := (show Bg _ _ _ _ _ _ _ _ from HSk.out (by rw [hb1]; rfl))
            rw [hb1] at cu
            clear hb1 HSk HAd
            go_wp2
            go_roundw
            case rel => exact ⟨zq, p + 1, by omega, by go_num, (show _ ∧ _ from ⟨HK.out.1.grow (by go_grown), HN.out⟩)⟩
            case measure => simp [intOf]; omega
          rw [hb1] at cu
          cases hb2 : inB xa 1 n
          · have HN : Hid (Bg n L ds s k (p + 1) zq ((i : Int) + 1)) := (show Bg _ _ _ _ _ _ _ _ from HSk.out (by rw [hb1, hb2]; rfl))
            have HB2 : Hid (inB xa 1 n = false) := hb2
            clear hb1 hb2 HSk HAd
            go_wp2_with (go_at_call 33; refine (HH.out _ (btr HWB.out (by go_grown) (Nat.le_refl _)) _).mono ?_; rw [HB2.out]; rintro r u ⟨rfl, rfl⟩)
            go_roundw
            case rel => exact ⟨zq, p + 1, by omega, by go_num, (show _ ∧ _ from ⟨HK.out.1.grow (by go_grown), HN.out⟩)⟩
            case measure => simp [intOf]; omega
          cases hb3 : zq.contains xa
          · have HN : Hid (Bg n L ds s k (p + 1) (zq ++ [xa]) ((i : Int) + 1)) := (show Bg _ _ _ _ _ _ _ _ from HAd.out (by rw [hb1, hb2, hb3]; rfl))
            have HB2 : Hid (inB xa 1 n = true) := hb2
            have HB3 : Hid (zq.contains xa = false) := hb3
            clear hb1 hb2 hb3 HSk HAd
            go_wp2_with (first
              | (go_at_call 33; refine (HH.out _ (btr HWB.out (by go_grown) (Nat.le_refl _)) _).mono ?_; rw [HB2.out]; rintro r u ⟨rfl, rfl⟩)
              | (go_at_call 36; refine (contains_own (own_below HK.out.1.own (by go_grown)) (by have := HZq.out; omega) _).mono ?_; rw [HB3.out]; rintro r u ⟨rfl, rfl⟩)
              | (at_builtin; refine wpList_app1 rfl _ _ rfl w1.heap.size u8 zq rfl (own_below HK.out.1.own (by go_grown)) _ xa rfl (by simp) (by have := HZq.out; omega) (by have := HK.out.1.bel.size; simp; omega) ?_; intro v' w2 ho2 hg2; have HR2 : Hid (RcI w1 v' (zq ++ [xa]) w2) := (show RcI _ _ _ _ from HK.out.1.app (by go_grown) ho2 hg2); clear ho2 hg2))
            go_roundw
            case rel => exact ⟨zq ++ [xa], p + 1, by omega, by go_num, (show _ ∧ _ from ⟨HR2.out, HN.out⟩)⟩
            case measure => simp [intOf]; omega
          · have HN : Hid (Bg n L ds s k (p + 1) zq ((i : Int) + 1)) := (show Bg _ _ _ _ _ _ _ _ from HSk.out (by rw [hb1, hb2, hb3]; rfl))
            have HB2 : Hid (inB xa 1 n = true) := hb2
            have HB3 : Hid (zq.contains xa = true) := hb3
            clear hb1 hb2 hb3 HSk HAd
            go_wp2_with (first
              | (go_at_call 33; refine (HH.out _ (btr HWB.out (by go_grown) (Nat.le_refl _)) _).mono ?_; rw [HB2.out]; rintro r u ⟨rfl, rfl⟩)
              | (go_at_call 36; refine (contains_own (own_below HK.out.1.own (by go_grown)) (by have := HZq.out; omega) _).mono ?_; rw [HB3.out]; rintro r u ⟨rfl, rfl⟩))
            go_roundw
            case rel => exact ⟨zq, p + 1, by omega, by go_num, (show _ ∧ _ from ⟨HK.out.1.grow (by go_grown), HN.out⟩)⟩
            case measure => simp [intOf]; omega
        · have hp16 : p = 16 := by omega
          subst hp16
          have HN : Hid (RcI w1 u8 zq wr ∧ Bf n L ds s (k + 1) zq) := (show _ ∧ _ from ⟨HK.out.1, HK.out.2.done HGd.out⟩)
          clear HK
          go_wp2
          go_roundw
          case rel => exact ⟨zq, k + 1, by go_num, HN⟩
          case measure => simp [intOf]; omega
    · have hkl := HJ.out.2.kl
      have hkz2 : k = zs.length := by omega
      obtain ⟨la, lc, rfl⟩ := own_form HJ.out.1.own
      have HSo : Hid (Calls Try.prog 37 #[.slice la zs.length lc] wr fun e w' => e = .returned (.tuple #[]) ∧ OwnI w.heap.size w' (.slice la zs.length lc) (zs.mergeSort fun x y => decide (x ≤ y)) ∧ Below w.heap.size w w' ∧ Rd n L ds s (zs.mergeSort fun x y => decide (x ≤ y))) := (show Calls _ _ _ _ _ by
        have hw := HW.out wr HJ.out.1.bel
        have hsz : w.heap.size ≤ w1.heap.size := (HW.out w1 (Below.refl _ _)).2.2.1.size
        refine (sort_own2 w1.heap.size _ zs wr HJ.out.1.own (by omega)).mono ?_
        rintro r w' ⟨rfl, o1, g1⟩
        refine ⟨rfl, own_mono o1 hsz, hw.2.2.1.grown g1 hw.2.2.1.size (fun j hj => by have := (HJ.out.1.own.lt j hj).1; omega), ?_⟩
        have hb := HJ.out.2
        rw [hkz2] at hb
        exact hb.rd hn (sort_rise hb.nd) (List.mergeSort_perm zs _))
      clear hkz2 hkl HJ
      go_wp2_with fail
      refine HSo.out.mono ?_
      rintro r w2 ⟨rfl, o1, g1, d1⟩
      have HF : Hid (OwnI w.heap.size w2 (.slice la zs.length lc) (zs.mergeSort fun x y => decide (x ≤ y)) ∧ Below w.heap.size w w2 ∧ Rd n L ds s (zs.mergeSort fun x y => decide (x ≤ y))) := (show _ ∧ _ ∧ _ from ⟨o1, g1, d1⟩)
      clear o1 g1 d1
      go_wp2
      go_ret
      exact ⟨_, _, rfl, HF.out.1, HF.out.2.2, HF.out.2.1⟩
end Go.Proofs.Ytcjojcaahpkacaa

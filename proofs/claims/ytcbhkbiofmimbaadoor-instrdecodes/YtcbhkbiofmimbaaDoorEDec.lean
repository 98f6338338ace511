/-
  What instr.Decode answers, as a contract.
-/
import Derived.Test.YtcbhkbiofmimbaaDoorERa
namespace Go.Proofs.YtcbhkbiofmimbaaDoor
open Go.ChangeShapes Go.WideShapes Go.ChangeAt Go.RowKit

set_option maxRecDepth 20000 in
set_option maxHeartbeats 16000000 in
theorem decX_any (t : Int) (d : ByteArray) (w : World) (hs : d.size ≤ maxLen) (hd : Cd w) :
    Calls Tryd.prog 14 #[.int .i64 t, .string d] w fun e w' => ∃ y : En, e = .returned (.tuple #[enV y, .int .i64 (decX t d).2]) ∧ y.sp = (decX t d).1 ∧ (y.pri = 0 ∧ y.ta = none ∧ y.tl = 0 ∧ y.tc = 0) ∧ EF w.heap.size w' y ∧ SOk y.sp ∧ Below w.heap.size w w' := by
  have HT : Hid (∀ w, Calls Tryd.prog 17 #[.int .i64 t] w fun e w' => e = .returned (.bool (tabB t)) ∧ w' = w) := (show ∀ w, _ from fun w => isTable_any t w)
  have HRA : Hid (Calls Tryd.prog 24 #[.int .i64 t, .string d] (ex w en0) fun e w' => ∃ y : En, e = .returned (.tuple #[enV y, .int .i64 (raR t d).2]) ∧ Hid (y.sp = (raR t d).1) ∧ Hid (y.pri = 0 ∧ y.ta = none ∧ y.tl = 0 ∧ y.tc = 0) ∧ Hid (EF (w.heap.size + 1) w' y) ∧ Hid (SOk y.sp) ∧ Wn w' w.heap.size en0 ∧ Below w.heap.size w w' ∧ w.heap.size + 1 ≤ w'.heap.size) := (show Calls _ _ _ _ _ from by
    refine (ra_any t d (ex w en0) hs (hd.alloc _)).mono ?_
    rintro r w1 ⟨y, rfl, h1, h2, h3, h4, g⟩
    have e : (ex w en0).heap.size = w.heap.size + 1 := by simp
    rw [e] at h3 g
    exact ⟨y, rfl, (show _ = _ from h1), (show _ ∧ _ from h2), (show EF _ _ _ from h3), (show SOk _ from h4), (Wn.new w en0).below (by omega) g, (show Below w.heap.size w (ex w en0) by go_grown).trans (g.mono (by omega)), by have := g.size; simp at this; omega⟩)
  have HR : Hid (∀ (x : En) (w : World), EW w x → Cd w → Calls Tryd.prog 9 #[enV x] w fun e w' => e = .returned (.int .i64 (rightX x.sp)) ∧ Below w.heap.size w w') := (show ∀ (x : En) (w : World), _ from fun x w a b => rightX_any x w a b)
  have HD : Hid (Cd w) := hd
  obtain ⟨Z, hZ⟩ : ∃ Z, decX t d = Z := ⟨_, rfl⟩
  have HZ : Hid (Z = if tabB t = false then (sp0, 26) else if (raR t d).2 ≠ 0 then (sp0, (raR t d).2) else if rightX (raR t d).1 ≠ 0 then (sp0, rightX (raR t d).1) else ((raR t d).1, 0)) := (show _ = _ by rw [← hZ]; rfl)
  rw [hZ]
  clear hd hZ hs
  cases ht : tabB t with
  | false =>
    have HO : Hid (Z = (sp0, 26)) := (show _ = _ by rw [HZ.out, if_pos ht])
    rw [ht] at HT
    clear HZ HRA
    go_enter Tryd.func14, Tryd.ntmps14
    go_wp2_with fail
    refine (HT.out _).mono ?_
    rintro r w1 ⟨rfl, rfl⟩
    go_wp2_with fail
    refine bodyPost_ret (resEe (b := w.heap.size) (x := en0) rfl rfl (Bn.new w en0)) rfl ?_
    exact ⟨en0, by rw [HO.out]; rfl, by rw [HO.out]; rfl, ⟨rfl, rfl, rfl, rfl⟩, en0_f _ _, en0_ok, by go_grown⟩
  | true =>
    have HU : Hid (Z = if (raR t d).2 ≠ 0 then (sp0, (raR t d).2) else if rightX (raR t d).1 ≠ 0 then (sp0, rightX (raR t d).1) else ((raR t d).1, 0)) := (show _ = _ by rw [HZ.out, if_neg (by rw [ht]; decide)])
    rw [ht] at HT
    clear HZ ht
    generalize raR t d = RR at *
    obtain ⟨s, E⟩ := RR
    simp only at HRA HU
    go_enter Tryd.func14, Tryd.ntmps14
    go_wp2_with fail
    refine (HT.out _).mono ?_
    rintro r w1 ⟨rfl, rfl⟩
    go_wp2_with fail
    refine HRA.out.mono ?_
    rintro r w1 ⟨y, rfl, HY1, HY2, HY3, HY4, e1, G1, s1⟩
    have e2 : Wn (ex w1 y) w.heap.size en0 := e1.alloc (by omega) _
    have d2 := Wn.new w1 y
    have G2 : Below w.heap.size w (ex w1 y) := G1.alloc (by omega) _
    have HF2 : Hid (EF (w.heap.size + 1) (ex w1 y) y) := (show EF _ _ _ from HY3.out.below (by go_grown))
    clear e1 G1
    by_cases hE : E = 0
    · have hEb : (E == 0) = true := by simpa using hE
      have HU2 : Hid (Z = if rightX s ≠ 0 then (sp0, rightX s) else (s, 0)) := (show _ = _ by rw [HU.out, if_neg (by simpa using hE)])
      have HRy : Hid (Calls Tryd.prog 9 #[enV y] (ex w1 y) fun e w' => e = .returned (.int .i64 (rightX s)) ∧ Below (ex w1 y).heap.size (ex w1 y) w') := (show Calls _ _ _ _ _ from by
        have := HR.out y (ex w1 y) HF2.out.ew (HD.out.below G2)
        rwa [HY1.out] at this)
      clear HU hE
      generalize rightX s = R at *
      go_wp2_with fail
      refine HRy.out.mono ?_
      rintro r w3 ⟨rfl, g3⟩
      have e3 := e2.below (by first | (simp; done) | (simp; omega)) g3
      have d3 := d2.below (by simp) g3
      have HF3 : Hid (EF (w.heap.size + 1) w3 y) := (show EF _ _ _ from HF2.out.below g3)
      have G3 : Below w.heap.size w w3 := btr G2 g3 (by first | (simp; done) | (simp; omega))
      clear g3 e2 d2 HF2 G2
      by_cases hR : R = 0
      · have hRb : (R != 0) = false := by simpa using hR
        have HO : Hid (Z = (s, 0)) := (show _ = _ by rw [HU2.out, if_neg (by simpa using hR)])
        clear HU2 hR
        obtain ⟨V, hV⟩ : ∃ V, w3.setCells w.heap.size 0 (enC y).toList = V := ⟨_, rfl⟩
        have HTy : Hid (w3.there w.heap.size 0 (enC y).size) := (show World.there _ _ _ _ from wn_there e3)
        have F1 : Wn V w.heap.size y := hV ▸ wn_set e3 y
        have GV : Below w.heap.size w V := hV ▸ below_sE y G3 (Nat.le_refl _)
        have HEV : Hid (EF w.heap.size V y) := (show EF _ _ _ from by
          have f : EF (w.heap.size + 1) V y := hV ▸ ⟨HF3.out.a.keep (below_sE y (Below.refl 0 _) (Nat.zero_le _)).size (fun g hg _ => below_sE_block y (by omega)), HF3.out.w.keep (below_sE y (Below.refl 0 _) (Nat.zero_le _)).size (fun g hg _ => below_sE_block y (by omega)), HF3.out.na, HF3.out.nw⟩
          exact ⟨f.a.mono (by omega), f.w.mono (by omega), f.na, f.nw⟩)
        have HWy : Hid (w3.setCells w.heap.size 0 (enC y).toList = V) := hV
        clear hV e3
        obtain ⟨⟨c0, c1, c2, c3, c4, c5, c6, c7, c8, c9⟩, cf⟩ := d3
        go_wp2_with (refine wpList_store_mid rfl 26 (.tmp 4) _ rfl w.heap.size 0 (enC y) rfl rfl HTy.out (hiE y) (oneE y) ?_; rw [HWy.out])
        refine bodyPost_ret (resEe (b := w.heap.size) (x := y) rfl rfl F1.1) rfl ?_
        exact ⟨y, by rw [HO.out]; rfl, by rw [HO.out]; exact HY1.out, HY2.out, HEV.out, HY4.out, GV⟩
      · have hRb : (R != 0) = true := by simpa using hR
        have HO : Hid (Z = (sp0, R)) := (show _ = _ by rw [HU2.out, if_pos (by simpa using hR)])
        clear HU2 hR
        obtain ⟨V0, hV0⟩ : ∃ V, w3.setCells w.heap.size 0 (enC en0).toList = V := ⟨_, rfl⟩
        have HT0 : Hid (w3.there w.heap.size 0 (enC en0).size) := (show World.there _ _ _ _ from wn_there e3)
        have F0 : Wn V0 w.heap.size en0 := hV0 ▸ wn_set e3 en0
        have GV0 : Below w.heap.size w V0 := hV0 ▸ below_sE en0 G3 (Nat.le_refl _)
        have HW0 : Hid (w3.setCells w.heap.size 0 (enC en0).toList = V0) := hV0
        clear hV0 e3 G3
        go_wp2_with (refine wpList_store_mid rfl 26 (.tmp 4) _ rfl w.heap.size 0 (enC en0) rfl rfl HT0.out (hiE en0) (oneE en0) ?_; rw [HW0.out])
        refine bodyPost_ret (resEe (b := w.heap.size) (x := en0) rfl rfl F0.1) rfl ?_
        exact ⟨en0, by rw [HO.out]; rfl, by rw [HO.out]; rfl, ⟨rfl, rfl, rfl, rfl⟩, en0_f _ _, en0_ok, GV0⟩
    · have hEb : (E == 0) = false := by simpa using hE
      have hEn : (E != 0) = true := by simpa using hE
      have HO : Hid (Z = (sp0, E)) := (show _ = _ by rw [HU.out, if_pos (by simpa using hE)])
      clear HU hE
      obtain ⟨V0, hV0⟩ : ∃ V, (ex w1 y).setCells w.heap.size 0 (enC en0).toList = V := ⟨_, rfl⟩
      have HT0 : Hid ((ex w1 y).there w.heap.size 0 (enC en0).size) := (show World.there _ _ _ _ from wn_there e2)
      have F0 : Wn V0 w.heap.size en0 := hV0 ▸ wn_set e2 en0
      have GV0 : Below w.heap.size w V0 := hV0 ▸ below_sE en0 G2 (Nat.le_refl _)
      have HW0 : Hid ((ex w1 y).setCells w.heap.size 0 (enC en0).toList = V0) := hV0
      clear hV0 e2 G2
      go_wp2_with (refine wpList_store_mid rfl 26 (.tmp 4) _ rfl w.heap.size 0 (enC en0) rfl rfl HT0.out (hiE en0) (oneE en0) ?_; rw [HW0.out])
      refine bodyPost_ret (resEe (b := w.heap.size) (x := en0) rfl rfl F0.1) rfl ?_
      exact ⟨en0, by rw [HO.out]; rfl, by rw [HO.out]; rfl, ⟨rfl, rfl, rfl, rfl⟩, en0_f _ _, en0_ok, GV0⟩
end Go.Proofs.YtcbhkbiofmimbaaDoor

/-
  The document's Decode of an entry: what it answers, as a contract.
-/
import Derived.Test.YtcbhkbiofmimbaaDoorRTake
import Derived.Test.YtcbhkbiofmimbaaDoorRRight
import Derived.Test.YtcbhkbiofmimbaaDoorEDec
namespace Go.Proofs.YtcbhkbiofmimbaaDoor
open Go.ChangeShapes Go.WideShapes Go.ChangeAt Go.RowKit
set_option linter.unusedSimpArgs false

theorem cut_pt {d : ByteArray} (h : fszE d = 0) : Pt (cutX d) (num2 d) := by
  have f := fsz_of h
  have h1 := f.len
  have h2 := f.le
  have h4 := f.four
  have hc := cut_size h
  have e : ∀ i j, j ≤ 8 → nm (cutX d) i j = nm d i j := fun i j hj => by
    unfold nm cutX
    rw [ext_ext, f.z, Nat.zero_add, show min (0 + j) (sizeV d).toNat = j by omega]
  refine ⟨by omega, ?_, ?_⟩
  · rw [e 0 2 (by omega), num2_nm d (by omega)]
  · rw [e 2 4 (by omega), ← size_nm d h4, hc]
set_option maxRecDepth 20000 in
set_option maxHeartbeats 16000000 in
theorem rdecX_any (t : Int) (d : ByteArray) (w : World) (hs : d.size ≤ maxLen) :
    Calls Tryd.prog 15 #[.int .i64 t, .string d] w fun e w' => ∃ y : En, e = .returned (.tuple #[enV y, .int .i64 (decX t d).2]) ∧ y.sp = (decX t d).1 ∧ (y.pri = 0 ∧ y.ta = none ∧ y.tl = 0 ∧ y.tc = 0) ∧ EF w.heap.size w' y ∧ SOk y.sp ∧ Below w.heap.size w w' := by
  have HNm : Hid (∀ (D : ByteArray) (w : World), Calls Tryd.prog 25 #[.string (D.extract 2 4)] w fun x w' => x = .returned (.int .u64 (nm D 2 4)) ∧ w' = w) := (show ∀ (D : ByteArray) (w : World), _ from fun D w => rnm_any D 2 4 w (by omega))
  have HTk : Hid (∀ (p : Int) (s : ByteArray) (x : En) (b : Nat) (w : World), Pt s p → Wn w b x → b < w.heap.size → s.size ≤ maxLen → Calls Tryd.prog 26 #[.pointer (some ⟨b, 0, none⟩), .string s] w (TkPost b s p x w)) := (show ∀ (p : Int) (s : ByteArray) (x : En) (b : Nat) (w : World), _ from fun p s x b w a1 a2 a3 a4 => rtake_any p s x b w a1 a2 a3 a4)
  have HRt : Hid (∀ (x : En) (w : World), EW w x → AWs x.la → AWs x.lw → SOk x.sp → Calls Tryd.prog 10 #[enV x] w fun e w' => e = .returned (.int .i64 (rightX x.sp)) ∧ Below w.heap.size w w') := (show ∀ (x : En) (w : World), _ from fun x w a1 a2 a3 o => rrX_any x w a1 a2 a3 o.t0 o.t1)
  obtain ⟨O, hOO⟩ : ∃ Z, decX t d = Z := ⟨_, rfl⟩
  have HZ : Hid (O = if tabB t = false then (sp0, 26) else if (raR t d).2 ≠ 0 then (sp0, (raR t d).2) else if rightX (raR t d).1 ≠ 0 then (sp0, rightX (raR t d).1) else ((raR t d).1, 0)) := (show _ = _ by rw [← hOO]; rfl)
  rw [hOO]
  clear hOO
  cases ht : tabB t with
  | false =>
    have HO : Hid (O = (sp0, 26)) := (show _ = _ by rw [HZ.out, if_pos ht])
    have ht' : (t < 0) ∨ ¬ (t < 0) ∧ (7 < t) := by unfold tabB at ht; simp at ht; omega
    clear HZ ht
    rcases ht' with ht' | ⟨ht', ht2⟩
    all_goals
      go_enter Tryd.func15, Tryd.ntmps15
      go_wp2_with fail
      refine bodyPost_ret (resEe (b := w.heap.size) (x := en0) rfl rfl (Bn.new w en0)) rfl ?_
      exact ⟨en0, by rw [HO.out]; rfl, by rw [HO.out]; rfl, ⟨rfl, rfl, rfl, rfl⟩, en0_f _ _, en0_ok, by go_grown⟩
  | true =>
    have k1 : ¬ (t < 0) := by unfold tabB at ht; simp at ht; omega
    have k2 : ¬ (7 < t) := by unfold tabB at ht; simp at ht; omega
    obtain ⟨RR, hRR⟩ : ∃ Z, raR t d = Z := ⟨_, rfl⟩
    have HG0 : Hid (raGo d.size d (spT t) 0 = RR) := hRR
    have HU : Hid (O = if RR.2 ≠ 0 then (sp0, RR.2) else if rightX RR.1 ≠ 0 then (sp0, rightX RR.1) else (RR.1, 0)) := (show _ = _ by rw [HZ.out, if_neg (by rw [ht]; decide), hRR])
    clear HZ ht hRR
    go_enter Tryd.func15, Tryd.ntmps15
    go_wp2_with fail
    go_loopw [1, 7] (fun dv lv wr => ∃ (D : ByteArray) (x : En) (last : Int), dv = .string D ∧ lv = .int .i64 last ∧ D.size ≤ d.size ∧ Hid (raGo D.size D x.sp last = RR) ∧ Wn wr w.heap.size en0 ∧ Wn wr (w.heap.size + 1) x ∧ Hid (EF (w.heap.size + 2) wr x) ∧ Hid (AWs x.la ∧ AWs x.lw) ∧ Hid (SOk x.sp) ∧ Hid (x.pri = 0 ∧ x.ta = none ∧ x.tl = 0 ∧ x.tc = 0) ∧ w.heap.size + 2 ≤ wr.heap.size ∧ Below w.heap.size w wr) (fun dv _ _ => szOf dv)
    case atStart =>
      exact ⟨d, enT t, 0, rfl, rfl, Nat.le_refl _, HG0.out, by have := Wn.twoR0 w t; first | exact this | simpa [enT, en0] using this, by have := Wn.twoR1 w t; first | exact this | simpa [enT] using this, (show EF _ _ _ from ⟨.inl rfl, .inl rfl, by simp [enT], by simp [enT]⟩), (show _ ∧ _ from ⟨by simp [enT], by simp [enT]⟩), (show SOk _ from ⟨by show (0 : Int) ≤ 0; omega, by show (0 : Int) < _; omega, by show (0 : Int) ≤ 0; omega, by show (0 : Int) < _; omega, by show (0 : Int) ≤ 0; omega, by show (0 : Int) < _; omega, by show (0 : Int) ≤ 0; omega, by show (0 : Int) < _; omega⟩), (show _ ∧ _ ∧ _ ∧ _ from ⟨rfl, rfl, rfl, rfl⟩), by simp, by go_grown⟩
    case round =>
      obtain ⟨D, x, last, rfl, rfl, hle, HG, e0, d0, HEF, HAw, HOk, HPr, hsz, hbel⟩ := hrel
      by_cases hD : D.size = 0
      · have he : D.toList.isEmpty = true := by
          rw [ByteArray.toList_eq]
          have : D.data.toList.length = 0 := by simpa using hD
          rw [List.length_eq_zero_iff.1 this]
          rfl
        have HO2 : Hid (O = if rightX x.sp ≠ 0 then (sp0, rightX x.sp) else (x.sp, 0)) := (show _ = _ by
          have : RR = (x.sp, 0) := by rw [← HG.out, raGo_end _ _ hD]
          rw [HU.out, this, if_neg (by simp)])
        have HRx : Hid (Calls Tryd.prog 10 #[enV x] wr fun e w' => e = .returned (.int .i64 (rightX x.sp)) ∧ Below wr.heap.size wr w') := (show Calls _ _ _ _ _ from HRt.out x wr HEF.out.ew HAw.out.1 HAw.out.2 HOk.out)
        clear HG hD HU
        have d0' := d0
        obtain ⟨⟨c0, c1, c2, c3, c4, c5, c6, c7, c8, c9⟩, cf⟩ := d0'
        by_cases hR : rightX x.sp = 0
        · have HO : Hid (O = (x.sp, 0)) := (show _ = _ by rw [HO2.out, if_neg (by simpa using hR)])
          rw [hR] at HRx
          clear HO2 hR
          go_wp2_with fail
          refine HRx.out.mono ?_
          rintro r w3 ⟨rfl, g3⟩
          have e3 := e0.below (by omega) g3
          have d3 := d0.below (by omega) g3
          have HF3 : Hid (EF (w.heap.size + 2) w3 x) := (show EF _ _ _ from HEF.out.below g3)
          have G3 : Below w.heap.size w w3 := btr hbel g3 (by omega)
          clear g3 e0 d0 HEF c0 c1 c2 c3 c4 c5 c6 c7 c8 c9 cf hbel
          obtain ⟨V, hV⟩ : ∃ V, w3.setCells w.heap.size 0 (enC x).toList = V := ⟨_, rfl⟩
          have HTy : Hid (w3.there w.heap.size 0 (enC x).size) := (show World.there _ _ _ _ from wn_there e3)
          have F1 : Wn V w.heap.size x := hV ▸ wn_set e3 x
          have GV : Below w.heap.size w V := hV ▸ below_sE x G3 (Nat.le_refl _)
          have HEV : Hid (EF w.heap.size V x) := (show EF _ _ _ from by
            have f : EF (w.heap.size + 2) V x := hV ▸ ⟨HF3.out.a.keep (below_sE x (Below.refl 0 _) (Nat.zero_le _)).size (fun g hg _ => below_sE_block x (by omega)), HF3.out.w.keep (below_sE x (Below.refl 0 _) (Nat.zero_le _)).size (fun g hg _ => below_sE_block x (by omega)), HF3.out.na, HF3.out.nw⟩
            exact ⟨f.a.mono (by omega), f.w.mono (by omega), f.na, f.nw⟩)
          have HWy : Hid (w3.setCells w.heap.size 0 (enC x).toList = V) := hV
          clear hV e3
          obtain ⟨⟨c0, c1, c2, c3, c4, c5, c6, c7, c8, c9⟩, cf⟩ := d3
          go_wp2_with (refine wpList_store_mid rfl 26 (.tmp 4) _ rfl w.heap.size 0 (enC x) rfl rfl HTy.out (hiE x) (oneE x) ?_; rw [HWy.out])
          refine bodyPost_ret (resEe (b := w.heap.size) (x := x) rfl rfl F1.1) rfl ?_
          exact ⟨x, by rw [HO.out]; rfl, by rw [HO.out], HPr.out, HEV.out, HOk.out, GV⟩
        · have hRb : (rightX x.sp != 0) = true := by simpa using hR
          have HO : Hid (O = (sp0, rightX x.sp)) := (show _ = _ by rw [HO2.out, if_pos (by simpa using hR)])
          clear HO2 hR
          generalize rightX x.sp = R at *
          go_wp2_with fail
          refine HRx.out.mono ?_
          rintro r w3 ⟨rfl, g3⟩
          have e3 := e0.below (by omega) g3
          have G3 : Below w.heap.size w w3 := btr hbel g3 (by omega)
          clear g3 e0 d0 HEF c0 c1 c2 c3 c4 c5 c6 c7 c8 c9 cf hbel
          obtain ⟨V0, hV0⟩ : ∃ V, (w3).setCells w.heap.size 0 (enC en0).toList = V := ⟨_, rfl⟩
          have HT0 : Hid ((w3).there w.heap.size 0 (enC en0).size) := (show World.there _ _ _ _ from wn_there e3)
          have F0 : Wn V0 w.heap.size en0 := hV0 ▸ wn_set e3 en0
          have GV0 : Below w.heap.size w V0 := hV0 ▸ below_sE en0 G3 (Nat.le_refl _)
          have HW0 : Hid ((w3).setCells w.heap.size 0 (enC en0).toList = V0) := hV0
          clear hV0 e3 G3
          go_wp2_with (refine wpList_store_mid rfl 26 (.tmp 4) _ rfl w.heap.size 0 (enC en0) rfl rfl HT0.out (hiE en0) (oneE en0) ?_; rw [HW0.out])
          refine bodyPost_ret (resEe (b := w.heap.size) (x := en0) rfl rfl F0.1) rfl ?_
          exact ⟨en0, by rw [HO.out]; rfl, by rw [HO.out]; rfl, ⟨rfl, rfl, rfl, rfl⟩, en0_f _ _, en0_ok, GV0⟩
      · have he : D.toList.isEmpty = false := by
          rw [ByteArray.toList_eq]
          have h1 : D.data.toList.length ≠ 0 := by simpa using hD
          cases h : D.data.toList with
          | nil => rw [h] at h1; exact absurd rfl h1
          | cons _ _ => rfl
        have HX : Hid (RR = if fszE D = 0 then (if partX (num2 D) (nextX D x.sp) = cutX D then (if placeX (num2 D) ≤ last then (sp0, 23) else raGo (restX D).size (restX D) (nextX D x.sp) (placeX (num2 D))) else (sp0, 11)) else (sp0, fszE D)) := (show _ = _ by rw [← HG.out, raGo_un _ _ hD])
        have stop : ∀ E : Int, E ≠ 0 → RR = (sp0, E) → Hid (O = (sp0, E)) := fun E hE e => (show _ = _ by rw [HU.out, e, if_pos hE])
        clear HG hD
        have hDm : D.size ≤ maxLen := by omega
        by_cases h4 : D.size < 4
        · have h4' : (D.size : Int) < 4 := by omega
          have HO := stop 10 (by decide) (by
            have e : fszE D = 10 := by unfold fszE; rw [if_pos h4]
            rw [HX.out, if_neg (by rw [e]; decide), e])
          clear stop HX HU h4 d0
          obtain ⟨V0, hV0⟩ : ∃ V, (wr).setCells w.heap.size 0 (enC en0).toList = V := ⟨_, rfl⟩
          have HT0 : Hid ((wr).there w.heap.size 0 (enC en0).size) := (show World.there _ _ _ _ from wn_there e0)
          have F0 : Wn V0 w.heap.size en0 := hV0 ▸ wn_set e0 en0
          have GV0 : Below w.heap.size w V0 := hV0 ▸ below_sE en0 hbel (Nat.le_refl _)
          have HW0 : Hid ((wr).setCells w.heap.size 0 (enC en0).toList = V0) := hV0
          clear hV0 e0 hbel
          go_wp2_with (refine wpList_store_mid rfl 26 (.tmp 4) _ rfl w.heap.size 0 (enC en0) rfl rfl HT0.out (hiE en0) (oneE en0) ?_; rw [HW0.out])
          refine bodyPost_ret (resEe (b := w.heap.size) (x := en0) rfl rfl F0.1) rfl ?_
          exact ⟨en0, by rw [HO.out]; rfl, by rw [HO.out]; rfl, ⟨rfl, rfl, rfl, rfl⟩, en0_f _ _, en0_ok, GV0⟩
        · have h4' : ¬ (D.size : Int) < 4 := by omega
          have hszn := size_nm D (by omega)
          have hsr := sizeV_range D
          have hsl : ∀ w, (Instr.slice 9 (.string D) (some (.int .i64 2)) (some (.int .i64 4)) none).run Tryd.prog w = .ok (.string (D.extract 2 4)) w := fun w => slice_lh D 2 4 (by omega) (by omega) (by omega) w
          have HNu : Hid (∀ w, Calls Tryd.prog 25 #[.string (D.extract 2 4)] w fun x w' => x = .returned (.int .u64 (sizeV D)) ∧ w' = w) := (show ∀ w, _ from fun w => by rw [hszn]; exact HNm.out D w)
          obtain ⟨z0, z1⟩ := hsr
          clear hszn
          by_cases h5 : (D.size : Int) < sizeV D
          · have HO := stop 10 (by decide) (by
              have e : fszE D = 10 := by unfold fszE; rw [if_neg h4, if_pos h5]
              rw [HX.out, if_neg (by rw [e]; decide), e])
            clear stop HX HU h4
            generalize D.extract 2 4 = X at *
            generalize sizeV D = N at *
            go_wp2_with fail
            refine (HNu.out _).mono ?_
            rintro r w1 ⟨rfl, q1⟩
            obtain rfl : wr = w1 := q1.symm
            clear d0
            obtain ⟨V0, hV0⟩ : ∃ V, (wr).setCells w.heap.size 0 (enC en0).toList = V := ⟨_, rfl⟩
            have HT0 : Hid ((wr).there w.heap.size 0 (enC en0).size) := (show World.there _ _ _ _ from wn_there e0)
            have F0 : Wn V0 w.heap.size en0 := hV0 ▸ wn_set e0 en0
            have GV0 : Below w.heap.size w V0 := hV0 ▸ below_sE en0 hbel (Nat.le_refl _)
            have HW0 : Hid ((wr).setCells w.heap.size 0 (enC en0).toList = V0) := hV0
            clear hV0 e0 hbel
            go_wp2_with (refine wpList_store_mid rfl 26 (.tmp 4) _ rfl w.heap.size 0 (enC en0) rfl rfl HT0.out (hiE en0) (oneE en0) ?_; rw [HW0.out])
            refine bodyPost_ret (resEe (b := w.heap.size) (x := en0) rfl rfl F0.1) rfl ?_
            exact ⟨en0, by rw [HO.out]; rfl, by rw [HO.out]; rfl, ⟨rfl, rfl, rfl, rfl⟩, en0_f _ _, en0_ok, GV0⟩
          · by_cases h6 : sizeV D < 8
            · have HO := stop 11 (by decide) (by
                have e : fszE D = 11 := by unfold fszE; rw [if_neg h4, if_neg h5, if_pos h6]
                rw [HX.out, if_neg (by rw [e]; decide), e])
              clear stop HX HU h4
              generalize D.extract 2 4 = X at *
              generalize sizeV D = N at *
              go_wp2_with fail
              refine (HNu.out _).mono ?_
              rintro r w1 ⟨rfl, q1⟩
              obtain rfl : wr = w1 := q1.symm
              clear d0
              obtain ⟨V0, hV0⟩ : ∃ V, (wr).setCells w.heap.size 0 (enC en0).toList = V := ⟨_, rfl⟩
              have HT0 : Hid ((wr).there w.heap.size 0 (enC en0).size) := (show World.there _ _ _ _ from wn_there e0)
              have F0 : Wn V0 w.heap.size en0 := hV0 ▸ wn_set e0 en0
              have GV0 : Below w.heap.size w V0 := hV0 ▸ below_sE en0 hbel (Nat.le_refl _)
              have HW0 : Hid ((wr).setCells w.heap.size 0 (enC en0).toList = V0) := hV0
              clear hV0 e0 hbel
              go_wp2_with (refine wpList_store_mid rfl 26 (.tmp 4) _ rfl w.heap.size 0 (enC en0) rfl rfl HT0.out (hiE en0) (oneE en0) ?_; rw [HW0.out])
              refine bodyPost_ret (resEe (b := w.heap.size) (x := en0) rfl rfl F0.1) rfl ?_
              exact ⟨en0, by rw [HO.out]; rfl, by rw [HO.out]; rfl, ⟨rfl, rfl, rfl, rfl⟩, en0_f _ _, en0_ok, GV0⟩
            · have hE : fszE D = 0 := by unfold fszE; rw [if_neg h4, if_neg h5, if_neg h6]
              have HX2 : Hid (RR = if partX (num2 D) (nextX D x.sp) = cutX D then (if placeX (num2 D) ≤ last then (sp0, 23) else raGo (restX D).size (restX D) (nextX D x.sp) (placeX (num2 D))) else (sp0, 11)) := (show _ = _ by rw [HX.out, if_pos hE])
              have hz3 := (fsz_of hE).z
              have hcs := cut_size hE
              have hrs := rest_size hE
              have hpt := cut_pt hE
              have hsh : ∀ w, (Instr.slice 9 (.string D) none (some (.int .i64 (sizeV D))) none).run Tryd.prog w = .ok (.string (cutX D)) w := fun w => by
                unfold cutX
                rw [hz3]
                exact slice_h D _ (by omega) (by omega) w
              have hsl2 : ∀ w, (Instr.slice 9 (.string D) (some (.int .i64 (sizeV D))) none none).run Tryd.prog w = .ok (.string (restX D)) w := fun w => by
                unfold restX
                rw [hz3]
                exact slice_l D _ (by omega) (by omega) w
              have HTx : Hid (Calls Tryd.prog 26 #[.pointer (some ⟨w.heap.size + 1, 0, none⟩), .string (cutX D)] wr (TkPost (w.heap.size + 1) (cutX D) (num2 D) x wr)) := (show Calls _ _ _ _ _ from HTk.out (num2 D) (cutX D) x (w.heap.size + 1) wr hpt d0 (by omega) (by omega))
              have HNX : Hid (nextX D x.sp = readX (num2 D) (cutX D) x.sp) := (show _ = _ from rfl)
              have hrm : (restX D).size < D.size := hrs
              clear HX hE hz3 hcs hrs hpt h4
              generalize D.extract 2 4 = X at *
              generalize sizeV D = N at *
              generalize num2 D = p at *
              generalize cutX D = C at *
              generalize restX D = D' at *
              generalize nextX D x.sp = s' at *
              go_wp2_with fail
              refine (HNu.out _).mono ?_
              rintro r w1 ⟨rfl, q1⟩
              obtain rfl : wr = w1 := q1.symm
              go_wp2_with fail
              refine HTx.out.mono ?_
              rintro r w4 ⟨y, A, I, rfl, d4, hI, hY, hP4, hEF4, hAw4, hOk4, tk⟩
              have e4 := e0.block (tk.block _ (by omega) (by omega))
              have HEF4 : Hid (EF (w.heap.size + 2) w4 y) := (show EF _ _ _ from hEF4 _ (by omega) (by omega) HEF.out)
              have HAw4 : Hid (AWs y.la ∧ AWs y.lw) := (show _ ∧ _ from hAw4 HAw.out.1 HAw.out.2)
              have HOk4 : Hid (SOk y.sp) := (show SOk _ from hOk4 HOk.out)
              have HPr4 : Hid (y.pri = 0 ∧ y.ta = none ∧ y.tl = 0 ∧ y.tc = 0) := (show _ ∧ _ ∧ _ ∧ _ from by
                obtain ⟨p1, p2, p3, p4⟩ := HPr.out
                exact ⟨by rw [hP4.1, p1], by rw [hP4.2.1, p2], by rw [hP4.2.2.1, p3], by rw [hP4.2.2.2, p4]⟩)
              have G4 : Below w.heap.size w w4 := tk.below (by omega) hbel
              have s4 : w.heap.size + 2 ≤ w4.heap.size := by have := tk.size; omega
              have HI : Hid (I = true ↔ partX p s' = C) := (show _ ↔ _ from by rw [HNX.out]; exact hI)
              have HY : Hid (I = true → y.sp = s' ∧ A = placeX p) := (show _ → _ from fun i => by rw [HNX.out]; exact hY i)
              clear e0 d0 HEF HAw HOk HPr hsz hbel hI hY hP4 hEF4 hAw4 hOk4 tk
              cases I with
              | false =>
                have HO := stop 11 (by decide) (by rw [HX2.out, if_neg (fun h => absurd (HI.out.2 h) (by decide))])
                clear stop HX2 HU HI HY d4
                obtain ⟨V0, hV0⟩ : ∃ V, (w4).setCells w.heap.size 0 (enC en0).toList = V := ⟨_, rfl⟩
                have HT0 : Hid ((w4).there w.heap.size 0 (enC en0).size) := (show World.there _ _ _ _ from wn_there e4)
                have F0 : Wn V0 w.heap.size en0 := hV0 ▸ wn_set e4 en0
                have GV0 : Below w.heap.size w V0 := hV0 ▸ below_sE en0 G4 (Nat.le_refl _)
                have HW0 : Hid ((w4).setCells w.heap.size 0 (enC en0).toList = V0) := hV0
                clear hV0 e4 G4
                go_wp2_with (refine wpList_store_mid rfl 26 (.tmp 4) _ rfl w.heap.size 0 (enC en0) rfl rfl HT0.out (hiE en0) (oneE en0) ?_; rw [HW0.out])
                refine bodyPost_ret (resEe (b := w.heap.size) (x := en0) rfl rfl F0.1) rfl ?_
                exact ⟨en0, by rw [HO.out]; rfl, by rw [HO.out]; rfl, ⟨rfl, rfl, rfl, rfl⟩, en0_f _ _, en0_ok, GV0⟩
              | true =>
                obtain ⟨y1, y2⟩ := HY.out rfl
                have HX3 : Hid (RR = if A ≤ last then (sp0, 23) else raGo D'.size D' s' A) := (show _ = _ by rw [HX2.out, if_pos (HI.out.1 rfl), ← y2])
                have HY1 : Hid (y.sp = s') := y1
                clear HX2 HI HY y1 y2
                by_cases hL : A ≤ last
                · have HO := stop 23 (by decide) (by rw [HX3.out, if_pos hL])
                  clear stop HX3 HU d4
                  obtain ⟨V0, hV0⟩ : ∃ V, (w4).setCells w.heap.size 0 (enC en0).toList = V := ⟨_, rfl⟩
                  have HT0 : Hid ((w4).there w.heap.size 0 (enC en0).size) := (show World.there _ _ _ _ from wn_there e4)
                  have F0 : Wn V0 w.heap.size en0 := hV0 ▸ wn_set e4 en0
                  have GV0 : Below w.heap.size w V0 := hV0 ▸ below_sE en0 G4 (Nat.le_refl _)
                  have HW0 : Hid ((w4).setCells w.heap.size 0 (enC en0).toList = V0) := hV0
                  clear hV0 e4 G4
                  go_wp2_with (refine wpList_store_mid rfl 26 (.tmp 4) _ rfl w.heap.size 0 (enC en0) rfl rfl HT0.out (hiE en0) (oneE en0) ?_; rw [HW0.out])
                  refine bodyPost_ret (resEe (b := w.heap.size) (x := en0) rfl rfl F0.1) rfl ?_
                  exact ⟨en0, by rw [HO.out]; rfl, by rw [HO.out]; rfl, ⟨rfl, rfl, rfl, rfl⟩, en0_f _ _, en0_ok, GV0⟩
                · have HX4 : Hid (raGo D'.size D' s' A = RR) := (show _ = _ by rw [HX3.out, if_neg hL])
                  clear stop HX3
                  go_wp2_with fail
                  go_roundw
                  case rel => exact ⟨D', y, A, rfl, rfl, by omega, (show _ = _ by rw [HY1.out]; exact HX4.out), e4, d4, HEF4, HAw4, HOk4, HPr4, s4, G4⟩
                  case measure => simpa [szOf] using hrm
end Go.Proofs.YtcbhkbiofmimbaaDoor

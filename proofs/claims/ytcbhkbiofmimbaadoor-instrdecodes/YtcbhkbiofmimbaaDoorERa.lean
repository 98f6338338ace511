/-
  What instr's readAll answers, as a contract.
-/
import Derived.Test.YtcbhkbiofmimbaaDoorERaP
namespace Go.Proofs.YtcbhkbiofmimbaaDoor
open Go.ChangeShapes Go.WideShapes Go.ChangeAt Go.RowKit

theorem en0_ok : SOk en0.sp := ⟨by decide, by decide, by decide, by decide, by decide, by decide, by decide, by decide⟩
theorem en0_f (B : Nat) (w : World) : EF B w en0 := ⟨.inl rfl, .inl rfl, by decide, by decide⟩
/-- An entry of a table that does nothing. -/
def enT (t : Int) : En := ⟨t, 0, none, 0, 0, none, [], 0, none, [], 0, false, 0, 0, 0, 0⟩
/-- The two blocks of readAll: its answer, and the entry. -/
abbrev twoR (w : World) (t : Int) : World := (ex w en0).alloc (.cells (enC (enT t)) 26)
theorem Wn.twoR0 (w : World) (t : Int) : Wn (twoR w t) w.heap.size en0 := (Wn.new w en0).alloc (by simp) _
theorem Wn.twoR1 (w : World) (t : Int) : Wn (twoR w t) (w.heap.size + 1) (enT t) := by have := Wn.new (ex w en0) (enT t); simpa using this
theorem eqS (a : ByteArray) : (!a.toList == a.toList) = false := by simp
theorem mono_cond {w w' : World} {B : Nat} (h : Below w.heap.size w w') (hB : B ≤ w.heap.size) : B ≤ w'.heap.size := Nat.le_trans hB h.size
set_option maxRecDepth 20000 in
set_option maxHeartbeats 16000000 in
theorem ra_any (t : Int) (d : ByteArray) (w : World) (hs : d.size ≤ maxLen) (hd : Cd w) :
    Calls Tryd.prog 24 #[.int .i64 t, .string d] w fun e w' => ∃ y : En, e = .returned (.tuple #[enV y, .int .i64 (raR t d).2]) ∧ y.sp = (raR t d).1 ∧ (y.pri = 0 ∧ y.ta = none ∧ y.tl = 0 ∧ y.tc = 0) ∧ EF w.heap.size w' y ∧ SOk y.sp ∧ Below w.heap.size w w' := by
  have HF : Hid (∀ (D : ByteArray) w, D.size ≤ maxLen → Calls Tryd.prog 35 #[.string D] w fun e w' => e = .returned (.tuple #[.int .i64 (fszZ D), .int .i64 (fszE D)]) ∧ Below w.heap.size w w') := (show ∀ (D : ByteArray) w, _ from fun D w h => fsz_any D w h)
  have HN : Hid (∀ (D : ByteArray) w1 b, D.size ≤ maxLen → Rd w1 b D 0 → Calls Tryd.prog 37 #[.pointer (some ⟨b, 0, none⟩), .int .i64 2] w1 fun x w' => x = .returned (.int .u64 (num2 D)) ∧ Only b w1 w') := (show ∀ (D : ByteArray) w1 b, _ from fun D w1 b hx r => by
    refine (numR b ⟨D, 0⟩ 2 w1 hx r).mono ?_
    rintro x w' ⟨rfl, _, o⟩
    exact ⟨rfl, o⟩)
  have HRead : Hid (∀ (p : Int) (D : ByteArray) (x : En) (w : World), EW w x → Cd w → D.size ≤ maxLen → 8 ≤ D.size → Calls Tryd.prog 38 #[.int .i64 p, .string D, enV x] w fun e w' => ∃ y : En, e = .returned (enV y) ∧ y.sp = readX p D x.sp ∧ (y.pri = x.pri ∧ y.ta = x.ta ∧ y.tl = x.tl ∧ y.tc = x.tc) ∧ EW w' y ∧ (∀ B, B ≤ w.heap.size → EF B w x → EF B w' y) ∧ Below w.heap.size w w') := (show ∀ (p : Int) (D : ByteArray) (x : En) (w : World), _ from fun p D x w a b c d => readX_any p D x w a b c d)
  have HWr : Hid (∀ (p : Int) (x : En) (w : World), EW w x → SOk x.sp → Cd w → Calls Tryd.prog 21 #[.int .i64 p, enV x] w fun e w' => e = .returned (.string (partX p x.sp)) ∧ Below w.heap.size w w') := (show ∀ (p : Int) (x : En) (w : World), _ from fun p x w a b c => writeX_any p x w a b c)
  have HPl : Hid (∀ (p : Int) (w : World), Cd w → Calls Tryd.prog 39 #[.int .i64 p] w fun e w' => e = .returned (.int .i64 (placeX p)) ∧ Below w.heap.size w w') := (show ∀ (p : Int) (w : World), _ from fun p w a => placeX_any p w a)
  have HD : Hid (Cd w) := hd
  obtain ⟨Z, hZ⟩ : ∃ Z, raR t d = Z := ⟨_, rfl⟩
  have HZ : Hid (raGo d.size d (spT t) 0 = Z) := hZ
  rw [hZ]
  clear hd hZ
  go_enter Tryd.func24, Tryd.ntmps24
  go_wp2_with fail
  go_loopw [1, 7] (fun dv lv wr => ∃ (D : ByteArray) (x : En) (last : Int), dv = .string D ∧ lv = .int .i64 last ∧ D.size ≤ d.size ∧ Hid (raGo D.size D x.sp last = Z) ∧ Wn wr w.heap.size en0 ∧ Wn wr (w.heap.size + 1) x ∧ Hid (EF (w.heap.size + 2) wr x) ∧ Hid (SOk x.sp) ∧ Hid (x.pri = 0 ∧ x.ta = none ∧ x.tl = 0 ∧ x.tc = 0) ∧ w.heap.size + 2 ≤ wr.heap.size ∧ Below w.heap.size w wr) (fun dv _ _ => szOf dv)
  case atStart =>
    exact ⟨d, enT t, 0, rfl, rfl, Nat.le_refl _, HZ.out, by have := Wn.twoR0 w t; first | exact this | simpa [enT, en0] using this, by have := Wn.twoR1 w t; first | exact this | simpa [enT] using this, (show EF _ _ _ from ⟨.inl rfl, .inl rfl, by simp [enT], by simp [enT]⟩), (show SOk _ from ⟨by show (0 : Int) ≤ 0; omega, by show (0 : Int) < _; omega, by show (0 : Int) ≤ 0; omega, by show (0 : Int) < _; omega, by show (0 : Int) ≤ 0; omega, by show (0 : Int) < _; omega, by show (0 : Int) ≤ 0; omega, by show (0 : Int) < _; omega⟩), (show _ ∧ _ ∧ _ ∧ _ from ⟨rfl, rfl, rfl, rfl⟩), by simp, by go_grown⟩
  case round =>
    obtain ⟨D, x, last, rfl, rfl, hle, HG, e0, d0, HEF, HOk, HPr, hsz, hbel⟩ := hrel
    by_cases hD : D.size = 0
    · have he : D.toList.isEmpty = true := by
        rw [ByteArray.toList_eq]
        have : D.data.toList.length = 0 := by simpa using hD
        rw [List.length_eq_zero_iff.1 this]
        rfl
      have HO : Hid (Z = (x.sp, 0)) := (show _ = _ by rw [← HG.out, raGo_end _ _ hD])
      clear HG hD
      obtain ⟨V, hV⟩ : ∃ V, wr.setCells w.heap.size 0 (enC x).toList = V := ⟨_, rfl⟩
      have HT : Hid (wr.there w.heap.size 0 (enC x).size) := (show World.there _ _ _ _ from wn_there e0)
      have F1 : Wn V w.heap.size x := hV ▸ wn_set e0 x
      have GV : Below w.heap.size w V := hV ▸ below_sE x hbel (Nat.le_refl _)
      have HEV : Hid (EF w.heap.size V x) := (show EF _ _ _ from by
        have f : EF (w.heap.size + 2) V x := hV ▸ ⟨HEF.out.a.keep (below_sE x (Below.refl 0 _) (Nat.zero_le _)).size (fun g hg _ => below_sE_block x (by omega)), HEF.out.w.keep (below_sE x (Below.refl 0 _) (Nat.zero_le _)).size (fun g hg _ => below_sE_block x (by omega)), HEF.out.na, HEF.out.nw⟩
        exact ⟨f.a.mono (by omega), f.w.mono (by omega), f.na, f.nw⟩)
      have HW : Hid (wr.setCells w.heap.size 0 (enC x).toList = V) := hV
      clear hV e0
      obtain ⟨⟨c0, c1, c2, c3, c4, c5, c6, c7, c8, c9⟩, cf⟩ := d0
      go_wp2_with (refine wpList_store_mid rfl 26 (.tmp 4) _ rfl w.heap.size 0 (enC x) rfl rfl HT.out (hiE x) (oneE x) ?_; rw [HW.out])
      refine bodyPost_ret (resEe (b := w.heap.size) (x := x) rfl rfl F1.1) rfl ?_
      exact ⟨x, by rw [HO.out]; rfl, by rw [HO.out], HPr.out, HEV.out, HOk.out, GV⟩
    · have he : D.toList.isEmpty = false := by
        rw [ByteArray.toList_eq]
        have h1 : D.data.toList.length ≠ 0 := by simpa using hD
        cases h : D.data.toList with
        | nil => rw [h] at h1; exact absurd rfl h1
        | cons _ _ => rfl
      have HU : Hid (Z = if fszE D = 0 then (if partX (num2 D) (nextX D x.sp) = cutX D then (if placeX (num2 D) ≤ last then (sp0, 23) else raGo (restX D).size (restX D) (nextX D x.sp) (placeX (num2 D))) else (sp0, 11)) else (sp0, fszE D)) := (show _ = _ by rw [← HG.out, raGo_un _ _ hD])
      clear HG hD
      have hDm : D.size ≤ maxLen := by omega
      go_wp2_with fail
      refine (HF.out D _ hDm).mono ?_
      rintro r w1 ⟨rfl, g1⟩
      have e1 := e0.below (by omega) g1
      have d1 := d0.below (by omega) g1
      have HEF1 : Hid (EF (w.heap.size + 2) w1 x) := HEF.out.below g1
      have G1 : Below w.heap.size w w1 := btr hbel g1 (by omega)
      have s1 : w.heap.size + 2 ≤ w1.heap.size := by have := g1.size; omega
      clear g1 e0 d0 HEF hsz hbel
      by_cases hE : fszE D = 0
      · have f := fsz_of hE
        have hz1 := f.len
        have hz2 := f.le
        have hz3 := f.z
        have hcs := cut_size hE
        have hrs := rest_size hE
        have HU2 := HU.out
        rw [if_pos hE] at HU2
        obtain ⟨n0, n1⟩ := num2_range D
        have hcut : D.extract 0 (fszZ D).toNat = cutX D := rfl
        have hrest : D.extract (fszZ D).toNat D.size = restX D := rfl
        have hsh : ∀ w, (Instr.slice 9 (.string D) none (some (.int .i64 (fszZ D))) none).run Tryd.prog w = .ok (.string (cutX D)) w := fun w => slice_h D _ (by omega) (by omega) w
        have hsl : ∀ w, (Instr.slice 9 (.string D) (some (.int .i64 (fszZ D))) none none).run Tryd.prog w = .ok (.string (restX D)) w := fun w => slice_l D _ (by omega) (by omega) w
        have HNX : Hid (nextX D x.sp = readX (num2 D) (cutX D) x.sp) := (show _ = _ from rfl)
        have HU3 : Hid (Z = if partX (num2 D) (nextX D x.sp) = cutX D then (if placeX (num2 D) ≤ last then (sp0, 23) else raGo (restX D).size (restX D) (nextX D x.sp) (placeX (num2 D))) else (sp0, 11)) := HU2
        have HNum : Hid (∀ w1 b, Rd w1 b D 0 → Calls Tryd.prog 37 #[.pointer (some ⟨b, 0, none⟩), .int .i64 2] w1 fun x w' => x = .returned (.int .u64 (num2 D)) ∧ Only b w1 w') := (show ∀ w1 b, _ from fun w1 b r => HN.out D w1 b hDm r)
        rw [hE]
        clear HU HU2 hE f hcut hrest hz3
        generalize fszZ D = z at *
        generalize num2 D = p at *
        have hc8 : 8 ≤ (cutX D).size := by omega
        have hcm : (cutX D).size ≤ maxLen := by omega
        have hrm : (restX D).size < D.size := hrs
        clear hrs hcs hz1 hz2
        generalize cutX D = C at *
        generalize restX D = D' at *
        generalize nextX D x.sp = s' at *
        go_wp2_with fail
        refine (rd_any D _).mono ?_
        rintro r w2 ⟨rfl, r2, g2, z2⟩
        go_wp2_with fail
        refine (HNum.out _ _ r2).mono ?_
        rintro r w3 ⟨rfl, o3⟩
        have K13 : Below w1.heap.size w1 w3 := o3.below (Nat.le_refl _) g2
        have e3 := e1.below (by omega) K13
        have d3 := d1.below (by omega) K13
        have HEF3 : Hid (EF (w.heap.size + 2) w3 x) := HEF1.out.below K13
        have G3 : Below w.heap.size w w3 := btr G1 K13 (by omega)
        have s3 : w.heap.size + 2 ≤ w3.heap.size := by have := K13.size; omega
        obtain ⟨b, hb⟩ : ∃ b, w1.heap.size = b := ⟨_, rfl⟩
        rw [hb]
        clear r2 g2 z2 o3 K13 e1 d1 HEF1 G1 s1 hb
        have d3' := d3
        obtain ⟨⟨c0, c1, c2, c3, c4, c5, c6, c7, c8, c9⟩, cf⟩ := d3'
        go_wp2_with fail
        have HRd3 : Hid (Calls Tryd.prog 38 #[.int .i64 p, .string C, enV x] w3.drew fun e w' => ∃ y : En, e = .returned (enV y) ∧ Wn w' (w.heap.size + 1) x ∧ Hid (y.sp = s') ∧ Hid (y.pri = 0 ∧ y.ta = none ∧ y.tl = 0 ∧ y.tc = 0) ∧ Hid (EF (w.heap.size + 2) w' y) ∧ Hid (SOk y.sp) ∧ Hid (Wn w' w.heap.size en0) ∧ Hid (Below w.heap.size w w') ∧ Hid (w.heap.size + 2 ≤ w'.heap.size)) := (show Calls _ _ _ _ _ from by
          have k3 : Below w3.heap.size w3 w3.drew := (Below.refl _ w3).drew
          refine (HRead.out p C x _ (HEF3.out.below k3).ew ((HD.out.below G3).below k3) hcm hc8).mono ?_
          rintro r w4 ⟨y, rfl, hy1, hy2, hy3, hy4, g4⟩
          have k4 : Below w3.heap.size w3 w4 := k3.trans g4
          obtain ⟨p1, p2, p3, p4⟩ := HPr.out
          refine ⟨y, rfl, d3.below (by omega) k4, (show _ = _ by rw [hy1, HNX.out]), (show _ ∧ _ ∧ _ ∧ _ from ⟨by rw [hy2.1, p1], by rw [hy2.2.1, p2], by rw [hy2.2.2.1, p3], by rw [hy2.2.2.2, p4]⟩), (show EF _ _ _ from hy4 _ s3 (HEF3.out.below k3)), (show SOk _ from by rw [hy1]; exact readX_ok p C HOk.out), (show Wn _ _ _ from e3.below (by omega) k4), (show Below _ _ _ from btr G3 k4 (by omega)), (show _ ≤ _ from by have := k4.size; omega)⟩)
        clear e3 HEF3 G3
        go_region_with (first | (go_at_call 38; refine HRd3.out.mono ?_; rintro r w4 ⟨y, rfl, ⟨⟨b0, b1, b2, b3, b4, b5, b6, b7, b8, b9⟩, bf⟩, HY1, HY2, HY3, HY4, HY5, HY6, HY7⟩))
        obtain ⟨V, hV⟩ : ∃ V, ((((((((((w4.setCell ⟨w.heap.size + 1, 0, none⟩ (Value.int IntKind.i64 y.tab)).setCell ⟨w.heap.size + 1, 1, none⟩ (Value.int IntKind.i64 y.pri)).setCell ⟨w.heap.size + 1, 2, none⟩ (Value.slice y.ta y.tl y.tc)).setCell ⟨w.heap.size + 1, 3, none⟩ (Value.slice y.aa y.la.length y.ca)).setCell ⟨w.heap.size + 1, 4, none⟩ (Value.slice y.aw y.lw.length y.cw)).setCell ⟨w.heap.size + 1, 5, none⟩ (Value.bool y.clr)).setCell ⟨w.heap.size + 1, 6, none⟩ (Value.int IntKind.u64 y.mt)).setCell ⟨w.heap.size + 1, 7, none⟩ (Value.int IntKind.u64 y.mm)).setCell ⟨w.heap.size + 1, 8, none⟩ (Value.int IntKind.i64 y.met)).setCell ⟨w.heap.size + 1, 9, none⟩ (Value.int IntKind.i64 y.go)) = V := ⟨_, rfl⟩
        rw [hV]
        have d4 : Wn w4 (w.heap.size + 1) x := ⟨⟨b0, b1, b2, b3, b4, b5, b6, b7, b8, b9⟩, bf⟩
        have dV : Wn V (w.heap.size + 1) y := by rw [← hV]; exact wn_set d4 y
        have eV : Wn V w.heap.size en0 := by rw [← hV]; exact wn_out HY5.out y (by omega)
        have GV : Below w.heap.size w V := by rw [← hV]; exact below_sE y HY6.out (by omega)
        have zV : w4.heap.size ≤ V.heap.size := by rw [← hV]; exact (below_sE y (Below.refl 0 w4) (Nat.zero_le (w.heap.size + 1))).size
        have kV : ∀ g, w.heap.size + 2 ≤ g → g < w4.heap.size → V.heap[g]? = w4.heap[g]? := fun g hg _ => by rw [← hV]; exact below_sE_block y (by omega)
        have HEFV : Hid (EF (w.heap.size + 2) V y) := (show EF _ _ _ from ⟨HY3.out.a.keep zV kV, HY3.out.w.keep zV kV, HY3.out.na, HY3.out.nw⟩)
        have sV : w.heap.size + 2 ≤ V.heap.size := by have := HY7.out; omega
        clear hV d4 kV zV b0 b1 b2 b3 b4 b5 b6 b7 b8 b9 bf HY3 HY5 HY6 HY7 HRd3 c0 c1 c2 c3 c4 c5 c6 c7 c8 c9 cf d3 s3
        have q := Bn.gr dV.1 (by omega)
        have q0 := fun n => (q n).1
        have q1 := fun n => (q n).2.1
        have q2 := fun n => (q n).2.2.1
        have q3 := fun n => (q n).2.2.2.1
        have q4 := fun n => (q n).2.2.2.2.1
        have q5 := fun n => (q n).2.2.2.2.2.1
        have q6 := fun n => (q n).2.2.2.2.2.2.1
        have q7 := fun n => (q n).2.2.2.2.2.2.2.1
        have q8 := fun n => (q n).2.2.2.2.2.2.2.2.1
        have q9 := fun n => (q n).2.2.2.2.2.2.2.2.2
        clear q
        by_cases hP : partX p s' = C
        · have HU4 : Hid (Z = if placeX p ≤ last then (sp0, 23) else raGo D'.size D' s' (placeX p)) := (show _ = _ by rw [HU3.out, if_pos hP])
          have hq := eqS C
          have HPl2 : Hid (∀ w, Cd w → Calls Tryd.prog 39 #[.int .i64 p] w fun e w' => e = .returned (.int .i64 (placeX p)) ∧ Below w.heap.size w w') := (show ∀ w, _ from fun w h => HPl.out p w h)
          have HWrV : Hid (∀ n : GrT V, Calls Tryd.prog 21 #[.int .i64 p, enV y] n.w fun e w' => e = .returned (.string C) ∧ Below n.w.heap.size n.w w') := (show ∀ n : GrT V, _ from fun n => by
            have := HWr.out p y n.w (HEFV.out.below n.h).ew HY4.out ((HD.out.below GV).below n.h)
            rwa [HY1.out, hP] at this)
          go_wp2_with fail
          refine wp_region_grow (by kernel_rfl) (by kernel_rfl) ?_
          repeat (go_big_quiet_step (first | (go_at_call 21; exact quiet_gr (HWrV.out _))))
          refine wpQuiet_nil ?_
          rintro w5 hw'
          have g5 := gr_elim hw'
          have e5 := eV.below (by omega) g5
          have d5 := dV.below (by omega) g5
          have HEF5 : Hid (EF (w.heap.size + 2) w5 y) := HEFV.out.below g5
          have G5 : Below w.heap.size w w5 := btr GV g5 (by omega)
          have s5 : w.heap.size + 2 ≤ w5.heap.size := by have := g5.size; omega
          clear q0 q1 q2 q3 q4 q5 q6 q7 q8 q9 hw' g5 eV dV GV sV
          clear hP HU3
          generalize placeX p = pl at *
          go_wp2_with fail
          refine (HPl2.out _ (HD.out.below G5)).mono ?_
          rintro r w6 ⟨rfl, g6⟩
          have e6 := e5.below (by omega) g6
          have d6 := d5.below (by omega) g6
          have HEF6 : Hid (EF (w.heap.size + 2) w6 y) := HEF5.out.below g6
          have G6 : Below w.heap.size w w6 := btr G5 g6 (by omega)
          have s6 : w.heap.size + 2 ≤ w6.heap.size := by have := g6.size; omega
          clear g6 e5 d5 HEF5 G5 s5
          by_cases hL : pl ≤ last
          · have HO : Hid (Z = (sp0, 23)) := (show _ = _ by rw [HU4.out, if_pos hL])
            clear HU4
            obtain ⟨V0, hV0⟩ : ∃ V, (w6).setCells w.heap.size 0 (enC en0).toList = V := ⟨_, rfl⟩
            have HT0 : Hid ((w6).there w.heap.size 0 (enC en0).size) := (show World.there _ _ _ _ from wn_there e6)
            have F0 : Wn V0 w.heap.size en0 := hV0 ▸ wn_set e6 en0
            have GV0 : Below w.heap.size w V0 := hV0 ▸ below_sE en0 G6 (Nat.le_refl _)
            have HW0 : Hid ((w6).setCells w.heap.size 0 (enC en0).toList = V0) := hV0
            clear hV0 e6 G6
            go_wp2_with (refine wpList_store_mid rfl 26 (.tmp 4) _ rfl w.heap.size 0 (enC en0) rfl rfl HT0.out (hiE en0) (oneE en0) ?_; rw [HW0.out])
            refine bodyPost_ret (resEe (b := w.heap.size) (x := en0) rfl rfl F0.1) rfl ?_
            exact ⟨en0, by rw [HO.out]; rfl, by rw [HO.out]; rfl, ⟨rfl, rfl, rfl, rfl⟩, en0_f _ _, en0_ok, GV0⟩
          · have HU5 : Hid (raGo D'.size D' s' pl = Z) := (show _ = _ by rw [HU4.out, if_neg hL])
            clear HU4
            go_wp2_with fail
            refine (HPl2.out _ (HD.out.below G6)).mono ?_
            rintro r w7 ⟨rfl, g7⟩
            have e7 := e6.below (by omega) g7
            have d7 := d6.below (by omega) g7
            have HEF7 : Hid (EF (w.heap.size + 2) w7 y) := HEF6.out.below g7
            have G7 : Below w.heap.size w w7 := btr G6 g7 (by omega)
            have s7 : w.heap.size + 2 ≤ w7.heap.size := by have := g7.size; omega
            clear g7 e6 d6 HEF6 G6 s6
            go_wp2_with fail
            go_roundw
            case rel => exact ⟨D', y, pl, rfl, rfl, by omega, (show _ = _ by rw [HY1.out]; exact HU5.out), e7, d7, HEF7, HY4, HY2, s7, G7⟩
            case measure => simpa [szOf] using hrm
        · have HO : Hid (Z = (sp0, 11)) := (show _ = _ by rw [HU3.out, if_neg hP])
          have hq := str_ne hP
          obtain ⟨S, hS⟩ : ∃ S, partX p s' = S := ⟨_, rfl⟩
          rw [hS] at hq
          have HWrV : Hid (∀ n : GrT V, Calls Tryd.prog 21 #[.int .i64 p, enV y] n.w fun e w' => e = .returned (.string S) ∧ Below n.w.heap.size n.w w') := (show ∀ n : GrT V, _ from fun n => by
            have := HWr.out p y n.w (HEFV.out.below n.h).ew HY4.out ((HD.out.below GV).below n.h)
            rwa [HY1.out, hS] at this)
          go_wp2_with fail
          refine wp_region_grow (by kernel_rfl) (by kernel_rfl) ?_
          repeat (go_big_quiet_step (first | (go_at_call 21; exact quiet_gr (HWrV.out _))))
          refine wpQuiet_nil ?_
          rintro w5 hw'
          have g5 := gr_elim hw'
          have e5 := eV.below (by omega) g5
          have d5 := dV.below (by omega) g5
          have HEF5 : Hid (EF (w.heap.size + 2) w5 y) := HEFV.out.below g5
          have G5 : Below w.heap.size w w5 := btr GV g5 (by omega)
          have s5 : w.heap.size + 2 ≤ w5.heap.size := by have := g5.size; omega
          clear q0 q1 q2 q3 q4 q5 q6 q7 q8 q9 hw' g5 eV dV GV sV
          clear hP HU3
          obtain ⟨V0, hV0⟩ : ∃ V, (w5).setCells w.heap.size 0 (enC en0).toList = V := ⟨_, rfl⟩
          have HT0 : Hid ((w5).there w.heap.size 0 (enC en0).size) := (show World.there _ _ _ _ from wn_there e5)
          have F0 : Wn V0 w.heap.size en0 := hV0 ▸ wn_set e5 en0
          have GV0 : Below w.heap.size w V0 := hV0 ▸ below_sE en0 G5 (Nat.le_refl _)
          have HW0 : Hid ((w5).setCells w.heap.size 0 (enC en0).toList = V0) := hV0
          clear hV0 e5 G5
          go_wp2_with (refine wpList_store_mid rfl 26 (.tmp 4) _ rfl w.heap.size 0 (enC en0) rfl rfl HT0.out (hiE en0) (oneE en0) ?_; rw [HW0.out])
          refine bodyPost_ret (resEe (b := w.heap.size) (x := en0) rfl rfl F0.1) rfl ?_
          exact ⟨en0, by rw [HO.out]; rfl, by rw [HO.out]; rfl, ⟨rfl, rfl, rfl, rfl⟩, en0_f _ _, en0_ok, GV0⟩
      · have hEb : (fszE D != 0) = true := by simpa using hE
        have HO : Hid (Z = (sp0, fszE D)) := (show _ = _ by rw [HU.out, if_neg hE])
        clear HU hE
        generalize fszE D = E at *
        obtain ⟨V0, hV0⟩ : ∃ V, (w1).setCells w.heap.size 0 (enC en0).toList = V := ⟨_, rfl⟩
        have HT0 : Hid ((w1).there w.heap.size 0 (enC en0).size) := (show World.there _ _ _ _ from wn_there e1)
        have F0 : Wn V0 w.heap.size en0 := hV0 ▸ wn_set e1 en0
        have GV0 : Below w.heap.size w V0 := hV0 ▸ below_sE en0 G1 (Nat.le_refl _)
        have HW0 : Hid ((w1).setCells w.heap.size 0 (enC en0).toList = V0) := hV0
        clear hV0 e1 G1
        go_wp2_with (refine wpList_store_mid rfl 26 (.tmp 4) _ rfl w.heap.size 0 (enC en0) rfl rfl HT0.out (hiE en0) (oneE en0) ?_; rw [HW0.out])
        refine bodyPost_ret (resEe (b := w.heap.size) (x := en0) rfl rfl F0.1) rfl ?_
        exact ⟨en0, by rw [HO.out]; rfl, by rw [HO.out]; rfl, ⟨rfl, rfl, rfl, rfl⟩, en0_f _ _, en0_ok, GV0⟩
end Go.Proofs.YtcbhkbiofmimbaaDoor

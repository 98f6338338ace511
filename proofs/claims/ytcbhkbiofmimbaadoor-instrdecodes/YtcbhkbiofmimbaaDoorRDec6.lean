/-
  The document's Decode of actions: what it answers, as a contract (where something is wrong, not which error).
-/
import Derived.Test.YtcbhkbiofmimbaaDoorROne
import Derived.Test.YtcbhkbiofmimbaaDoorDec
namespace Go.Proofs.YtcbhkbiofmimbaaDoor
open Go.ChangeShapes Go.WideShapes Go.ChangeAt Go.RowKit
set_option linter.unusedSimpArgs false

theorem ext_all (x : ByteArray) (k : Nat) (h : x.size ≤ k) : x.extract 0 k = x := by
  apply ba_ext
  have hl : x.data.toList.length ≤ k := by rw [len_size]; exact h
  simp only [ByteArray.data_extract, Array.toList_extract]
  rw [List.extract_eq_take_drop, List.drop_zero, Nat.sub_zero, List.take_of_length_le hl]
theorem size_nm (d : ByteArray) (h : 4 ≤ d.size) : sizeV d = nm d 2 4 := by
  have hz : (d.extract 2 4).size = 2 := by rw [ByteArray.size_extract]; omega
  have hle : ((2 : Int)) ≤ ((d.extract 2 4).size : Int) := by omega
  unfold sizeV RS.num numV takeV nm
  rw [if_pos ⟨rfl, by decide, hle⟩]
  show numOf ((d.extract 2 4).extract 0 2).data.toList = _
  rw [ext_all _ 2 (by omega)]
theorem over_33 {n : Nat} {d : ByteArray} {acc : List A} (hn : d.size ≤ n) (h : 32 < acc.length) :
    (if (decGo n d acc).2 = 0 ∧ 32 < (decGo n d acc).1.length then (([] : List A), (44 : Int)) else decGo n d acc).1 = [] ∧ (if (decGo n d acc).2 = 0 ∧ 32 < (decGo n d acc).1.length then (([] : List A), (44 : Int)) else decGo n d acc).2 ≠ 0 := by
  by_cases h0 : (decGo n d acc).2 = 0
  · have h1 := (decGo_is n d acc hn h0).1
    rw [if_pos ⟨h0, by omega⟩]
    exact ⟨rfl, by decide⟩
  · rw [if_neg (fun x => h0 x.1)]
    exact ⟨dec_bad _ _ _ h0, h0⟩
set_option maxRecDepth 20000 in
set_option maxHeartbeats 16000000 in
theorem rdec_any (d : ByteArray) (w : World) (hs : d.size ≤ maxLen) :
    Calls Tryd.prog 40 #[.string d] w fun x w' => ∃ ad cap E, x = .returned (.tuple #[.slice ad (decR d).1.length cap, .int .i64 E]) ∧ (E = 0 ↔ (decR d).2 = 0) ∧ TsF w.heap.size w' ad (decR d).1 ∧ Below w.heap.size w w' := by
  have HO1 : Hid (∀ (s : ByteArray) (w : World), 8 ≤ s.size → s.size ≤ maxLen → Calls Tryd.prog 53 #[.string s] w fun e w' => e = .returned (tV (oneV s)) ∧ Below w.heap.size w w') := (show ∀ (s : ByteArray) (w : World), _ from fun s w a b => one_any s w a b)
  have HNm : Hid (∀ (D : ByteArray) (w : World), Calls Tryd.prog 25 #[.string (D.extract 2 4)] w fun x w' => x = .returned (.int .u64 (nm D 2 4)) ∧ w' = w) := (show ∀ (D : ByteArray) (w : World), _ from fun D w => rnm_any D 2 4 w (by omega))
  have HRi : Hid (∀ (a : A) (w : World), AW a → Calls Tryd.prog 30 #[tV a] w fun e w' => e = .returned (.bool (rightB a)) ∧ Below w.heap.size w w') := (show ∀ (a : A) (w : World), _ from fun a w h => rright_any a w h)
  have HBy : Hid (∀ (a : A) (w : World), rightB a = true → AW a → Calls Tryd.prog 31 #[tV a] w fun e w' => e = .returned (.string (writeV a)) ∧ Below w.heap.size w w') := (show ∀ (a : A) (w : World), _ from fun a w h1 h2 => rbytes_any a w h1 h2)
  obtain ⟨Z, hZ⟩ : ∃ Z, decGo d.size d [] = Z := ⟨_, rfl⟩
  have HR : Hid (decR d = if Z.2 = 0 ∧ 32 < Z.1.length then ([], 44) else Z) := (show _ = _ by rw [← hZ]; rfl)
  have HZ : Hid (decGo d.size d [] = Z) := hZ
  clear hZ
  generalize decR d = O at *
  go_enter Tryd.func40, Tryd.ntmps40
  go_wp2_with fail
  go_loopw [0, 4] (fun dv lv wr => ∃ (D : ByteArray) (acc : List A), dv = .string D ∧ D.size ≤ d.size ∧ decGo D.size D acc = Z ∧ acc.length ≤ 32 ∧ wr.ownsRow w.heap.size 54 3 lv acc.length (flat acc) ∧ Below w.heap.size w wr) (fun dv _ _ => szOf dv)
  case atStart => exact ⟨d, [], rfl, Nat.le_refl _, HZ.out, by simp, World.ownsRow_nil _ _ _ _, Below.refl _ _⟩
  case round =>
    obtain ⟨D, acc, rfl, hle, hgo, hacc, hown, hbel⟩ := hrel
    have HG : Hid (decGo D.size D acc = Z) := hgo
    obtain ⟨ad, cap, rfl⟩ := own_slice hown
    have HO : Hid (wr.ownsRow w.heap.size 54 3 (.slice ad acc.length cap) acc.length (flat acc)) := hown
    clear hgo hown
    by_cases hD : D.size = 0
    · have he : D.toList.isEmpty = true := by
        rw [ByteArray.toList_eq]
        have : D.data.toList.length = 0 := by simpa using hD
        rw [List.length_eq_zero_iff.1 this]
        rfl
      have HG2 : Hid ((acc, (0 : Int)) = Z) := (show _ = _ by rw [← HG.out, decGo_end acc hD])
      have HT : Hid (TsF w.heap.size wr ad acc) := (show TsF w.heap.size wr ad acc by
        obtain ⟨a', c', hv, _, hT⟩ := own_ts HO.out
        cases hv
        exact hT)
      have hO : Hid (O = (acc, 0)) := (show _ = _ by rw [HR.out, ← HG2.out, if_neg (fun h => absurd h.2 (by show ¬ 32 < acc.length; omega))])
      clear HR HG2 HG hD
      go_wp2_with fail
      go_ret2
      rw [hO.out]
      exact ⟨ad, cap, 0, rfl, by simp, HT.out, hbel⟩
    · have he : D.toList.isEmpty = false := by
        rw [ByteArray.toList_eq]
        have h1 : D.data.toList.length ≠ 0 := by simpa using hD
        cases h : D.data.toList with
        | nil => rw [h] at h1; exact absurd rfl h1
        | cons _ _ => rfl
      have bail : ∀ E : Int, E ≠ 0 → firstE D = E → Hid (O = ([], E)) := fun E hE0 hE => (show _ = _ by
        have hE' : firstE D ≠ 0 := by rw [hE]; exact hE0
        rw [HR.out, ← HG.out, decGo_stop acc hD hE', if_neg (fun h => hE' h.1), hE])
      by_cases h4 : D.size < 4
      · have h4' : (D.size : Int) < 4 := by omega
        have hO := bail 10 (by decide) (by unfold firstE; rw [if_pos h4])
        clear bail HG HR hD
        go_wp2_with fail
        go_ret2
        rw [hO.out]
        exact ⟨none, 0, 10, rfl, Iff.rfl, .inl rfl, hbel⟩
      · have h4' : ¬ (D.size : Int) < 4 := by omega
        have hsz := size_nm D (by omega)
        have hsr := sizeV_range D
        rw [hsz] at hsr
        obtain ⟨z0, z1⟩ := hsr
        have hsl : ∀ w, (Instr.slice 9 (.string D) (some (.int .i64 2)) (some (.int .i64 4)) none).run Tryd.prog w = .ok (.string (D.extract 2 4)) w := fun w => slice_lh D 2 4 (by omega) (by omega) (by omega) w
        have HNu : Hid (∀ w, Calls Tryd.prog 25 #[.string (D.extract 2 4)] w fun x w' => x = .returned (.int .u64 (nm D 2 4)) ∧ w' = w) := (show ∀ w, _ from fun w => HNm.out D w)
        by_cases h5 : (D.size : Int) < sizeV D
        · have hO := bail 10 (by decide) (by unfold firstE; rw [if_neg h4, if_pos h5])
          rw [hsz] at h5
          clear bail HG HR hD hsz
          generalize D.extract 2 4 = X at *
          generalize nm D 2 4 = N at *
          go_wp2_with fail
          refine (HNu.out _).mono ?_
          rintro x w1 ⟨rfl, rfl⟩
          go_wp2_with fail
          go_ret2
          rw [hO.out]
          exact ⟨none, 0, 10, rfl, Iff.rfl, .inl rfl, hbel⟩
        · by_cases h6 : sizeV D < 8
          · have hO := bail 11 (by decide) (by unfold firstE; rw [if_neg h4, if_neg h5, if_pos h6])
            rw [hsz] at h5 h6
            clear bail HG HR hD hsz
            generalize D.extract 2 4 = X at *
            generalize nm D 2 4 = N at *
            go_wp2_with fail
            refine (HNu.out _).mono ?_
            rintro x w1 ⟨rfl, rfl⟩
            go_wp2_with fail
            go_ret2
            rw [hO.out]
            exact ⟨none, 0, 11, rfl, Iff.rfl, .inl rfl, hbel⟩
          · obtain ⟨P, hP⟩ : ∃ P, D.extract 0 (nm D 2 4).toNat = P := ⟨_, rfl⟩
            have hE : firstE D = if rightB (readV P) = true ∧ writeV (readV P) = P then 0 else 11 := by
              unfold firstE
              rw [if_neg h4, if_neg h5, if_neg h6, hsz, hP]
            obtain ⟨or1, or2⟩ := one_read P
            have hAW := one_aw P
            have hPs : (P.size : Int) = nm D 2 4 := by rw [← hP, ByteArray.size_extract]; rw [hsz] at h5 h6; omega
            have HOne : Hid (∀ w, Calls Tryd.prog 53 #[.string P] w fun e w' => e = .returned (tV (oneV P)) ∧ Below w.heap.size w w') := (show ∀ w, _ from fun w => HO1.out P w (by rw [hsz] at h6; omega) (by rw [hsz] at h5; omega))
            have hsh : ∀ w, (Instr.slice 9 (.string D) none (some (.int .i64 (nm D 2 4))) none).run Tryd.prog w = .ok (.string P) w := fun w => by
              rw [← hP]
              rw [hsz] at h5 h6
              exact slice_h D _ (by omega) (by omega) w
            have hAE : rightB (readV P) = true ∧ writeV (readV P) = P → firstA D = oneV P ∧ firstZ D = nm D 2 4 := fun hh => by
              have hE0 : firstE D = 0 := by rw [hE, if_pos hh]
              refine ⟨?_, ?_⟩
              · unfold firstA
                rw [if_pos hE0, hsz, hP, or2 hh]
              · unfold firstZ
                rw [if_pos hE0, hsz]
            rw [hsz] at h5 h6
            have HRi2 : Hid (∀ w, Calls Tryd.prog 30 #[tV (oneV P)] w fun e w' => e = .returned (.bool (rightB (oneV P))) ∧ Below w.heap.size w w') := (show ∀ w, _ from fun w => HRi.out _ w hAW)
            have HBy2 : Hid (rightB (oneV P) = true → ∀ w, Calls Tryd.prog 31 #[tV (oneV P)] w fun e w' => e = .returned (.string (writeV (oneV P))) ∧ Below w.heap.size w w') := (show _ → ∀ w, _ from fun hr w => HBy.out _ w hr hAW)
            have HE : Hid (firstE D = if rightB (readV P) = true ∧ writeV (readV P) = P then 0 else 11) := hE
            have HOr : Hid (rightB (oneV P) = true ∧ writeV (oneV P) = P ↔ rightB (readV P) = true ∧ writeV (readV P) = P) := or1
            have HAE : Hid (rightB (readV P) = true ∧ writeV (readV P) = P → firstA D = oneV P ∧ firstZ D = nm D 2 4) := (show _ → _ from hAE)
            have hrest : rightB (readV P) = true ∧ writeV (readV P) = P → firstE D = 0 := fun hh => by rw [hE, if_pos hh]
            clear or1 or2 hAE hE hP hAW HRi HBy HO1 hsz
            generalize D.extract 2 4 = X at *
            obtain ⟨N, hN⟩ : ∃ N, nm D 2 4 = N := ⟨_, rfl⟩
            rw [hN] at HNu hPs hsh HAE z0 z1 h5 h6
            clear hN
            generalize oneV P = a at *
            have bad : ¬ (rightB a = true ∧ writeV a = P) → Hid (O = ([], 11)) := fun hh => bail 11 (by decide) (by rw [HE.out, if_neg (fun h => hh (HOr.out.2 h))])
            have hbw := hbel.size
            cases hr : rightB a with
            | false =>
              have hO := bad (by rw [hr]; simp)
              rw [hr] at HRi2
              clear bad bail HG HR hD HE HOr HAE hrest HBy2
              go_wp2_with fail
              refine (HNu.out _).mono ?_
              rintro x w1 ⟨rfl, rfl⟩
              go_wp2_with fail
              refine (HOne.out _).mono ?_
              rintro x w1 ⟨rfl, g1⟩
              have G1 : Below w.heap.size w w1 := btr hbel g1 (by omega)
              have q := C3.gr (C3.new w1 a) (by simp)
              have q0 := fun n => (q n).1
              have q1 := fun n => (q n).2.1
              have q2 := fun n => (q n).2.2
              clear q g1
              go_wp2_with fail
              refine wp_region_grow (by kernel_rfl) (by kernel_rfl) ?_
              repeat (go_big_quiet_step (first | (go_at_call 30; exact quiet_gr (HRi2.out _))))
              refine wpQuiet_nil ?_
              rintro w3 hw'
              have g3 := gr_elim hw'
              clear q0 q1 q2 hw'
              go_wp2_with fail
              go_ret2
              rw [hO.out]
              exact ⟨none, 0, 11, rfl, Iff.rfl, .inl rfl, btr (G1.alloc (by have := G1.size; omega) _) g3 (by have := G1.size; first | (simp; done) | (simp; omega))⟩
            | true =>
              have HBy3 : Hid (∀ w, Calls Tryd.prog 31 #[tV a] w fun e w' => e = .returned (.string (writeV a)) ∧ Below w.heap.size w w') := (show ∀ w, _ from HBy2.out hr)
              rw [hr] at HRi2
              by_cases hw : writeV a = P
              · have hq : (!(P.toList == P.toList)) = false := by simp
                have hh := HOr.out.1 ⟨hr, hw⟩
                obtain ⟨fa, fz⟩ := HAE.out hh
                have fe := hrest hh
                have f := first_of fe
                have hr2 := first_rest fe
                rw [hw] at HBy3
                have HS : Hid (decGo (D.extract N.toNat D.size).size (D.extract N.toNat D.size) (acc ++ [a]) = Z) := (show _ = _ by
                  have := decGo_step acc hD fe
                  rw [fa, fz, if_pos hacc] at this
                  rw [← HG.out, this])
                rw [fz] at hr2
                have hsl2 : ∀ w, (Instr.slice 9 (.string D) (some (.int .i64 N)) none none).run Tryd.prog w = .ok (.string (D.extract N.toNat D.size)) w := fun w => slice_l D N (by omega) (by omega) w
                clear bad bail HG hD HE HOr HAE hrest HBy2 fa fz fe f hh hw hr
                generalize D.extract N.toNat D.size = D' at *
                have HR' : Hid (D'.size < D.size) := hr2
                clear hr2
                go_wp2_with fail
                refine (HNu.out _).mono ?_
                rintro x w1 ⟨rfl, rfl⟩
                go_wp2_with fail
                refine (HOne.out _).mono ?_
                rintro x w1 ⟨rfl, g1⟩
                have G1 : Below w.heap.size w w1 := btr hbel g1 (by omega)
                have ho1 := own_below HO.out g1
                have s1 := G1.size
                have q := C3.gr (C3.new w1 a) (by simp)
                have q0 := fun n => (q n).1
                have q1 := fun n => (q n).2.1
                have q2 := fun n => (q n).2.2
                have HO1' : Hid (w1.ownsRow w.heap.size 54 3 (.slice ad acc.length cap) acc.length (flat acc)) := ho1
                clear q g1 ho1 hbel HO
                go_wp2_with fail
                refine wp_region_grow (by kernel_rfl) (by kernel_rfl) ?_
                repeat (go_big_quiet_step (first | (go_at_call 30; exact quiet_gr (HRi2.out _)) | (go_at_call 31; exact quiet_gr (HBy3.out _))))
                refine wpQuiet_nil ?_
                rintro w3 hw'
                have g3 := gr_elim hw'
                have d3 : C3 w3 w1.heap.size 0 a := (C3.new w1 a).below (by simp) g3
                have G3 : Below w.heap.size w w3 := btr (G1.alloc s1 _) g3 (by first | (simp; done) | (simp; omega))
                have HO3 : Hid (w3.ownsRow w.heap.size 54 3 (.slice ad acc.length cap) acc.length (flat acc)) := own_below (HO1'.out.alloc _) g3
                have s3 := G3.size
                clear q0 q1 q2 hw' g3 G1 HO1'
                obtain ⟨c0, c1, c2⟩ := d3
                obtain ⟨b, hb⟩ : ∃ b, w1.heap.size = b := ⟨_, rfl⟩
                rw [hb] at c0 c1 c2 ⊢
                clear hb
                have hacc' : acc.length ≤ 1000 := by omega
                go_wp2_with (at_builtin; refine wpList_app rfl (.tmp 37) (.tmp 39) rfl w.heap.size _ _ _ rfl (HO3.out.alloc _) (some ⟨w3.heap.size, 0, none⟩) 1 [a] 1 rfl rfl ?c0 ?c1 ?c2 ?_)
                case c0 => exact ts_new w3 a
                case c1 => first | (simp; done) | (simp; omega)
                case c2 => first | (simp; done) | (simp; omega)
                · intro v' w4 hown' hgrow
                  have R1 : w4.ownsRow w.heap.size 54 3 v' (acc ++ [a]).length (flat (acc ++ [a])) := by
                    simp only [List.length_append, flat_append]
                    exact hown'
                  have R2 : Below w.heap.size w w4 := (G3.alloc s3 _).grown hgrow (by first | (simp; done) | (simp; omega)) (fun q hq => by have := (HO3.out.lt q hq).1; omega)
                  have hln : (acc ++ [a]).length = acc.length + 1 := by simp
                  clear hown' hgrow HO3 G3 c0 c1 c2
                  generalize acc ++ [a] = acc2 at *
                  obtain ⟨ad2, cap2, rfl⟩ := own_slice R1
                  have HR1 : Hid (w4.ownsRow w.heap.size 54 3 (.slice ad2 acc2.length cap2) acc2.length (flat acc2)) := R1
                  clear R1
                  by_cases h32 : 32 < acc2.length
                  · have h32' : (32 : Int) < acc2.length := by omega
                    have hO : Hid (O.1 = [] ∧ O.2 ≠ 0) := (show _ ∧ _ from by
                      have := over_33 (n := D'.size) (d := D') (acc := acc2) (Nat.le_refl _) h32
                      rw [HS.out] at this
                      rw [HR.out]
                      exact this)
                    clear HR HS
                    go_wp2_with fail
                    go_ret2
                    obtain ⟨o1, o2⟩ := hO.out
                    rw [o1]
                    exact ⟨none, 0, 44, rfl, ⟨fun h => absurd h (by decide), fun h => absurd h o2⟩, .inl rfl, R2⟩
                  · have h32' : ¬ (32 : Int) < acc2.length := by omega
                    go_wp2_with fail
                    go_roundw
                    case rel => exact ⟨D', acc2, rfl, by have := HR'.out; omega, HS.out, by omega, HR1.out, R2⟩
                    case measure => simpa [szOf] using HR'.out
              · have hO := bad (fun h => hw h.2)
                have hq := str_ne hw
                obtain ⟨S, hS⟩ : ∃ S, writeV a = S := ⟨_, rfl⟩
                rw [hS] at HBy3 hq
                clear bad bail HG HR hD HE HOr HAE hrest HBy2 hw hS hr
                go_wp2_with fail
                refine (HNu.out _).mono ?_
                rintro x w1 ⟨rfl, rfl⟩
                go_wp2_with fail
                refine (HOne.out _).mono ?_
                rintro x w1 ⟨rfl, g1⟩
                have G1 : Below w.heap.size w w1 := btr hbel g1 (by omega)
                have q := C3.gr (C3.new w1 a) (by simp)
                have q0 := fun n => (q n).1
                have q1 := fun n => (q n).2.1
                have q2 := fun n => (q n).2.2
                clear q g1
                go_wp2_with fail
                refine wp_region_grow (by kernel_rfl) (by kernel_rfl) ?_
                repeat (go_big_quiet_step (first | (go_at_call 30; exact quiet_gr (HRi2.out _)) | (go_at_call 31; exact quiet_gr (HBy3.out _))))
                refine wpQuiet_nil ?_
                rintro w3 hw'
                have g3 := gr_elim hw'
                clear q0 q1 q2 hw'
                go_wp2_with fail
                go_ret2
                rw [hO.out]
                exact ⟨none, 0, 11, rfl, Iff.rfl, .inl rfl, btr (G1.alloc (by have := G1.size; omega) _) g3 (by have := G1.size; first | (simp; done) | (simp; omega))⟩
end Go.Proofs.YtcbhkbiofmimbaaDoor

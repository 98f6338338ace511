/-
  without, walked.
-/
import Derived.Test.YtmobmpghpdaddaaWo
namespace Go.Proofs.Ytmobmpghpdaddaa
open Go.ChangeShapes Go.WideShapes Go.ChangeAt Go.RowKit
set_option linter.unusedVariables false

theorem wrap_bit (b : Nat) (hb : b < 64) : IntKind.u64.wrap ((2 : Int) ^ b) = nb (bit1 b) := by
  rw [wrap_u]
  unfold nb bit1
  rw [BitVec.toNat_ofNat]
  simp
theorem lo_less (A : B64) {t b : Nat} (hz : ¬ lo A t = 0#64) (hlog : (lo A t).toNat.log2 = b) (hb : b < t) (ht : t ≤ 64) : (nb (lo A b)).toNat < (nb (lo A t)).toNat := by
  have h0 : (lo A t).toNat ≠ 0 := fun h => hz (BitVec.eq_of_toNat_eq (by simpa using h))
  have h1 := ((Nat.log2_eq_iff h0).1 hlog).1
  have h2 : (lo A b).toNat < 2 ^ b := by
    unfold lo
    rw [BitVec.toNat_ofNat]
    exact Nat.lt_of_le_of_lt (Nat.mod_le _ _) (Nat.mod_lt _ (Nat.two_pow_pos _))
  unfold nb
  omega
set_option maxRecDepth 20000 in
set_option maxHeartbeats 8000000 in
theorem without_cut {g : Nat} {I : List K → (Nat → Prop) → World → Prop} (hI : HandI 53 g I) (c o : K) {l : List K} {S : Nat → Prop} {w : World} (h : I l S w) (hl : l.length ≤ 90000000) :
    Calls Try.prog 52 #[.agg (cubA c), .agg (cubA o), .func (.func 53) #[] #[.pointer (some ⟨g, 0, none⟩)]] w fun e w' => e = .returned (.tuple #[]) ∧ ∃ S', I (l ++ cutL c o) S' w' ∧ (∀ j, S' j → S j ∨ w.heap.size ≤ j) ∧ Chg S w w' := by
  have HI : Hid (HandI 53 g I) := hI
  have HW0 : Hid (WoI I S w o l c ((w.alloc (.cells (cubA c) 70)).alloc (.cells (cubA o) 70))) := WoI.new hI h c o
  obtain ⟨U, hU⟩ : ∃ U, (w.alloc (.cells (cubA c) 70)).alloc (.cells (cubA o) 70) = U := ⟨_, rfl⟩
  rw [hU] at HW0
  have HM : Hid (∀ u, Calls Try.prog 49 #[.agg (cubA c), .agg (cubA o)] u fun e w' => e = .returned (.bool (meetB c o)) ∧ Below u.heap.size u w') := (show ∀ u, _ from fun u => meets_any c o u)
  clear h hI
  cases hm : meetB c o with
  | false =>
    have HE : Hid (cutL c o = [c]) := (show _ = _ by unfold cutL; rw [hm]; rfl)
    rw [hm] at HM
    clear hm
    go_enter Try.func52, Try.ntmps52
    go_wp2_with (first
      | (rw [hU]; refine load_cub rfl (.tmp 3) rfl w.heap.size 0 rfl c HW0.out.cur ?_)
      | (refine load_cub rfl (.tmp 3) rfl w.heap.size 0 rfl c HW0.out.cur ?_)
      | (refine load_cub rfl (.tmp 4) rfl (w.heap.size + 1) 0 rfl o HW0.out.oth ?_)
      | (go_at_call 49; refine (HM.out _).mono ?_; rintro r w1 ⟨rfl, hb⟩; have HW1 : Hid (WoI I S w o l c w1) := HW0.out.grow HI.out hb; clear hb)
      | (refine load_cub rfl (.tmp 3) rfl w.heap.size 0 rfl c HW1.out.cur ?_)
      | (go_at_call 53; refine (HW1.out.hand HI.out c (by omega)).mono ?_; rintro r w2 ⟨rfl, hb⟩; have HW2 : Hid (WoI I S w o (l ++ [c]) c w2) := hb; clear hb))
    first | refine bodyPost_end (results_none rfl _ _ _) rfl ?_ | refine bodyPost_ret (results_none rfl _ _ _) rfl ?_
    exact ⟨rfl, by rw [HE.out]; exact HW2.out.fin⟩
  | true =>
    have HE : Hid (cutL c o = cutR o c (pos c o 10)) := (show _ = _ by unfold cutL; rw [hm]; rfl)
    have HW0' : Hid (WoI I S w o (l ++ cutR o c (pos c o 0)) (keepL o c (pos c o 0)) U) := (show WoI _ _ _ _ _ _ _ by
      have : pos c o 0 = [] := rfl
      rw [this]
      show WoI I S w o (l ++ []) c U
      rw [List.append_nil]
      exact HW0.out)
    rw [hm] at HM
    clear hm
    go_enter Try.func52, Try.ntmps52
    go_wp2_with (first
      | (rw [hU]; refine load_cub rfl (.tmp 3) rfl w.heap.size 0 rfl c HW0.out.cur ?_)
      | (refine load_cub rfl (.tmp 3) rfl w.heap.size 0 rfl c HW0.out.cur ?_)
      | (refine load_cub rfl (.tmp 4) rfl (w.heap.size + 1) 0 rfl o HW0.out.oth ?_)
      | (go_at_call 49; refine (HM.out _).mono ?_; rintro r w1 ⟨rfl, hb⟩; have HW1 : Hid (WoI I S w o (l ++ cutR o c (pos c o 0)) (keepL o c (pos c o 0)) w1) := HW0'.out.grow HI.out hb; clear hb))
    clear HW0 HW0' HM hU
    go_loopw [17] (fun v17 wr => ∃ f : Nat, f ≤ 10 ∧ v17 = .int .i64 f ∧ Hid (WoI I S w o (l ++ cutR o c (pos c o f)) (keepL o c (pos c o f)) wr)) (fun v17 _ => 10 - (intOf v17).toNat)
    case atStart => exact ⟨0, by omega, rfl, HW1⟩
    case round =>
      obtain ⟨f, hf, rfl, HK⟩ := hrel
      clear HW1
      by_cases hlt : f < 10
      · obtain ⟨wo, hwo⟩ : ∃ x, x = wr := ⟨_, rfl⟩
        subst hwo
        obtain ⟨K1, hK1⟩ : ∃ x, keepL o c (pos c o f) = x := ⟨_, rfl⟩
        obtain ⟨L1, hL1⟩ : ∃ x, l ++ cutR o c (pos c o f) = x := ⟨_, rfl⟩
        have hKm : K1.m f = c.m f := by rw [← hK1]; exact (keepL_pos c o f).1
        have HT : Hid (L1 ++ cutR o K1 (posF c o f) = l ++ cutR o c (pos c o (f + 1)) ∧ keepL o K1 (posF c o f) = keepL o c (pos c o (f + 1))) := (show _ ∧ _ by
          rw [← hK1, ← hL1, pos_succ, cutR_app, keepL_app, List.append_assoc]
          exact ⟨rfl, rfl⟩)
        rw [hK1, hL1] at HK
        have c1 := HK.out.oth.1 f hlt
        have c2 := HK.out.cur.1 f hlt
        rw [hKm] at c2
        rw [Nat.zero_add] at c1 c2
        have hb := b_not (o.m f) (c.m f)
        have hi10 : (f : Int) < 10 := by omega
        obtain ⟨A, hA⟩ : ∃ A, o.m f &&& ~~~ c.m f = A := ⟨_, rfl⟩
        rw [hA] at hb
        have HP : Hid (posF c o f = (rem A 64).map fun b => (f, b)) := (show _ = _ by unfold posF; rw [hA])
        have HAO : Hid (∀ b, A.getLsbD b = true → (o.m f).getLsbD b = true) := (show ∀ b, _ from fun b h => by
          rw [← hA, BitVec.getLsbD_and, Bool.and_eq_true] at h
          exact h.1)
        clear hA hKm hK1 hL1
        go_wp2_with fail
        go_region
        have HK2 : Hid (WoI I S w o L1 K1 wo.drew) := HK.out.drew HI.out
        clear c1 c2 hb HK
        generalize wo.drew = U0 at *
        go_wp2_with fail
        obtain ⟨L9, hL9⟩ : ∃ x, l ++ cutR o c (pos c o (f + 1)) = x := ⟨_, rfl⟩
        obtain ⟨K9, hK9⟩ : ∃ x, keepL o c (pos c o (f + 1)) = x := ⟨_, rfl⟩
        rw [hL9, hK9] at HT
        have HT9 : Hid (l ++ cutR o c (pos c o (f + 1)) = L9 ∧ keepL o c (pos c o (f + 1)) = K9) := ⟨hL9, hK9⟩
        clear hL9 hK9
        have HS0 : Hid (L1 ++ cutR o K1 ((rem A 64).map fun b => (f, b)) = L9 ∧ keepL o K1 ((rem A 64).map fun b => (f, b)) = K9) := (show _ ∧ _ by rw [← HP.out]; exact HT.out)
        clear HT HP
        go_loopw [7] (fun v7 wr => ∃ (t : Nat) (L2 : List K) (K2 : K), t ≤ 64 ∧ v7 = cv (lo A t) ∧ Hid (L2 ++ cutR o K2 ((rem A t).map fun b => (f, b)) = L9 ∧ keepL o K2 ((rem A t).map fun b => (f, b)) = K9) ∧ Hid (WoI I S w o L2 K2 wr)) (fun v7 _ => (intOf v7).toNat)
        case atStart => exact ⟨64, L1, K1, by omega, by rw [lo_all], HS0, HK2⟩
        case round =>
          obtain ⟨t, L2, K2, ht, rfl, HS, HK⟩ := hrel
          clear HS0 HK2
          by_cases hz : lo A t = 0#64
          · have HF : Hid (WoI I S w o L9 K9 wr) := (show WoI _ _ _ _ _ _ _ by
              obtain ⟨h1, h2⟩ := HS.out
              rw [rem_nil A t ht hz] at h1 h2
              rw [← h1, ← h2]
              show WoI I S w o (L2 ++ []) K2 wr
              rw [List.append_nil]
              exact HK.out)
            have q1 : (nb (lo A t) == 0) = true := by rw [(nb_eq0 _).2 hz]; rfl
            have q2 : (nb (lo A t) != 0) = false := by rw [bne, q1]; rfl
            clear hz HS HK
            go_wp2_with fail
            refine ⟨⟨f + 1, by omega, by go_num, (show WoI _ _ _ _ _ _ _ by rw [HT9.out.1, HT9.out.2]; exact HF.out)⟩, by simp [intOf]; omega⟩
          · obtain ⟨b, hb, hlog, hbit, hrem, hlo⟩ := rem_top A t ht hz
            have q1 : (nb (lo A t) == 0) = false := by rw [nb_is0]; simpa using hz
            have q2 : (nb (lo A t) != 0) = true := by rw [bne, q1]; rfl
            have HLen : Hid (∀ u, Calls Try.prog 62 #[.int .u64 (nb (lo A t))] u fun e w' => e = .returned (.int .i64 ((b : Int) + 1)) ∧ w' = u) := (show ∀ u, _ from fun u => by
              have := len_any (nb (lo A t)) (nb_lo _) (nb_hi _) u
              have e : lenN (nb (lo A t)).toNat = b + 1 := by
                have h1 : (nb (lo A t)).toNat = (lo A t).toNat := by unfold nb; omega
                rw [h1]
                unfold lenN
                rw [if_neg (fun h => hz (BitVec.eq_of_toNat_eq (by simpa using h))), hlog]
              rw [e] at this
              exact this)
            have hb64 : (b : Int) < 64 := by omega
            have hw := wrap_bit b (by omega)
            have o1 := b_not (lo A t) (bit1 b)
            rw [hlo] at o1
            have HSm : Hid ((nb (lo A b)).toNat < (nb (lo A t)).toNat) := (show _ < _ from lo_less A hz hlog hb ht)
            have HS2 : Hid ((L2 ++ [flipK o K2 (f, b)]) ++ cutR o (keepK o K2 (f, b)) ((rem A b).map fun b => (f, b)) = L9 ∧ keepL o (keepK o K2 (f, b)) ((rem A b).map fun b => (f, b)) = K9) := (show _ ∧ _ by
              obtain ⟨h1, h2⟩ := HS.out
              rw [hrem, List.map_cons] at h1 h2
              rw [List.append_assoc]
              exact ⟨h1, h2⟩)
            have hb64' : b ≤ 64 := by omega
            have HLn : Hid (L2.length ≤ 100000000) := (show _ ≤ _ by
              have h1 := congrArg List.length HS.out.1
              rw [← HT9.out.1, List.length_append, List.length_append, cutR_len o (pos c o (f + 1))] at h1
              have h2 := pos_len c o (f + 1)
              omega)
            clear hlo hz hlog hrem HS hbit
            -- the mask
            have c1 := HK.out.cur.1 f hlt
            have c2 := (HK.out.wri f (by omega)).2
            rw [Nat.zero_add] at c1 c2
            have o2 := b_or (K2.m f) (bit1 b)
            obtain ⟨M, hM⟩ : ∃ M, K2.m f ||| bit1 b = M := ⟨_, rfl⟩
            rw [hM] at o2
            obtain ⟨V1, hV1⟩ : ∃ V1, wr.setCell ⟨w.heap.size, f, none⟩ (cv M) = V1 := ⟨_, rfl⟩
            have HK1 : Hid (WoI I S w o L2 ⟨upd K2.m f M, K2.v⟩ V1) := (show WoI _ _ _ _ _ _ _ by rw [← hV1]; exact HK.out.set_m HI.out hlt M)
            -- what is handed on
            obtain ⟨KL, hKL⟩ : ∃ KL : K, (⟨upd K2.m f M, K2.v⟩ : K) = KL := ⟨_, rfl⟩
            have hKLv : KL.v = K2.v := by rw [← hKL]
            rw [hKL] at HK1
            have HX : Hid (∃ V2, (V1.alloc (.cells (cubA K.top) 70)).setCells V1.heap.size 0 (cubL KL) = V2 ∧ C20 V2 V1.heap.size 0 KL ∧ V2.there V1.heap.size 0 20 ∧ Below V1.heap.size V1 V2 ∧ V2.heap.size = V1.heap.size + 1) := (show ∃ V2, _ from by
              have t1 := there_new V1 (cubA K.top) 70 20 (cubA_size _)
              have z1 : (V1.alloc (.cells (cubA K.top) 70)).heap.size = V1.heap.size + 1 := by simp
              exact ⟨_, rfl, stored_cub t1 KL, World.there_setCells t1 _ _ _, below_setCells (by go_grown) (Nat.le_refl _) _ _, (size_setCells _ _ _ _).trans z1⟩)
            clear HK
            go_wp2_with (first
              | (go_at_call 62; refine (HLen.out _).mono ?_; rintro r w2 ⟨rfl, rfl⟩)
              | (refine load_cub rfl (.tmp 3) rfl w.heap.size 0 rfl KL HK1.out.cur ?_)
              | (rw [zero_cub]; (obtain ⟨V2, hV2, k1, k2, k3, k4⟩ := HX.out); refine store_cub rfl (.tmp 9) (.tmp 46) rfl V1.heap.size 0 rfl KL rfl (there_new V1 _ 70 20 (cubA_size _)) ?_; rw [hV2]; have HV : Hid (C20 V2 V1.heap.size 0 KL ∧ V2.there V1.heap.size 0 20 ∧ Below V1.heap.size V1 V2 ∧ V2.heap.size = V1.heap.size + 1) := ⟨k1, k2, k3, k4⟩; clear hV2 k1 k2 k3 k4 HX))
            go_simp
            -- the left one's value
            have HWV : Hid (WoI I S w o L2 KL V2) := HK1.out.grow HI.out HV.out.2.2.1
            have y1 : V2.cell? ⟨V1.heap.size, 10 + f, none⟩ = some (cv (K2.v f)) := by
              have := HV.out.1.2 f hlt
              rwa [show 0 + 10 + f = 10 + f by omega, hKLv] at this
            have y2 : V2.frozen? ⟨V1.heap.size, 10 + f, none⟩ = false := by
              have := (HV.out.2.1 (10 + f) (by omega)).2
              rwa [Nat.zero_add] at this
            have y3 : V2.cell? ⟨w.heap.size + 1, 10 + f, none⟩ = some (cv (o.v f)) := by
              have := HWV.out.oth.2 f hlt
              rwa [show 0 + 10 + f = 10 + f by omega] at this
            have o3 := b_not (bit1 b) (o.v f)
            obtain ⟨B1, hB1⟩ : ∃ B1, bit1 b &&& ~~~ o.v f = B1 := ⟨_, rfl⟩
            have o4 := b_or (K2.v f) B1
            obtain ⟨B2, hB2⟩ : ∃ B2, K2.v f ||| B1 = B2 := ⟨_, rfl⟩
            rw [hB1] at o3
            rw [hB2] at o4
            have HV3 : Hid (C20 ((V2.setCell ⟨V1.heap.size, 10 + f, none⟩ (cv B2)).drew) V1.heap.size 0 (flipK o K2 (f, b)) ∧ Below V1.heap.size V1 ((V2.setCell ⟨V1.heap.size, 10 + f, none⟩ (cv B2)).drew)) := (show _ ∧ _ by
              have h1 := HV.out.1.2.set hlt B2
              have h2 := HV.out.1.1.beside (b' := V1.heap.size) (p := 10 + f) (.inr (.inr (by omega))) (cv B2)
              rw [show 0 + 10 + f = 10 + f by omega] at h1
              rw [← hKL] at h1 h2
              have e : flipK o K2 (f, b) = ⟨upd K2.m f M, upd K2.v f B2⟩ := by unfold flipK; rw [← hM, ← hB2, ← hB1]
              rw [e]
              exact ⟨⟨h2, h1⟩, (HV.out.2.2.1.setCell (Nat.le_refl _) _).drew⟩)
            clear hV1 c1 c2 o1 o2 hw HV HWV hKLv hB1 hB2
            go_region
            have HW3 : Hid (C20 ((V2.setCell ⟨V1.heap.size, 10 + f, none⟩ (cv B2)).drew) V1.heap.size 0 (flipK o K2 (f, b)) ∧ WoI I S w o L2 KL ((V2.setCell ⟨V1.heap.size, 10 + f, none⟩ (cv B2)).drew)) := ⟨HV3.out.1, HK1.out.grow HI.out HV3.out.2⟩
            clear HV3 HK1 y1 y2 y3 o3 o4
            generalize (V2.setCell ⟨V1.heap.size, 10 + f, none⟩ (cv B2)).drew = V3 at *
            generalize V1.heap.size = bb at *
            obtain ⟨KF, hKF⟩ : ∃ KF, flipK o K2 (f, b) = KF := ⟨_, rfl⟩
            rw [hKF] at HW3 HS2
            clear hKF
            go_wp2_with (first
              | (refine load_cub rfl (.tmp 9) rfl bb 0 rfl KF HW3.out.1 ?_)
              | (go_at_call 53; refine (HW3.out.2.hand HI.out KF HLn.out).mono ?_; rintro r V4 ⟨rfl, hb⟩; have HW4 : Hid (WoI I S w o (L2 ++ [KF]) KL V4) := hb; clear hb))
            -- the bit is asked as the other one does
            have z1 : V4.cell? ⟨w.heap.size, 10 + f, none⟩ = some (cv (K2.v f)) := by
              have := HW4.out.cur.2 f hlt
              rw [show 0 + 10 + f = 10 + f by omega] at this
              rwa [← hKL] at this
            have z2 : V4.frozen? ⟨w.heap.size, 10 + f, none⟩ = false := by
              have := (HW4.out.wri (10 + f) (by omega)).2
              rwa [Nat.zero_add] at this
            have z3 : V4.cell? ⟨w.heap.size + 1, 10 + f, none⟩ = some (cv (o.v f)) := by
              have := HW4.out.oth.2 f hlt
              rwa [show 0 + 10 + f = 10 + f by omega] at this
            have o5 := b_and (bit1 b) (o.v f)
            obtain ⟨B3, hB3⟩ : ∃ B3, bit1 b &&& o.v f = B3 := ⟨_, rfl⟩
            have o6 := b_or (K2.v f) B3
            obtain ⟨B4, hB4⟩ : ∃ B4, K2.v f ||| B3 = B4 := ⟨_, rfl⟩
            rw [hB3] at o5
            rw [hB4] at o6
            have HW5 : Hid (WoI I S w o (L2 ++ [KF]) (keepK o K2 (f, b)) ((V4.setCell ⟨w.heap.size, 10 + f, none⟩ (cv B4)).drew)) := (show WoI _ _ _ _ _ _ _ by
              have h1 := (HW4.out.set_v HI.out hlt B4).drew HI.out
              rw [← hKL] at h1
              have e : keepK o K2 (f, b) = ⟨upd K2.m f M, upd K2.v f B4⟩ := by unfold keepK; rw [← hM, ← hB4, ← hB3]
              rw [e]
              exact h1)
            clear HW4 HW3 hKL hM hB3 hB4
            go_region
            go_wp2_with fail
            go_roundw
            case rel => exact ⟨b, _, _, hb64', rfl, HS2, HW5⟩
            case measure => exact HSm.out
      · have hf10 : f = 10 := by omega
        subst hf10
        go_wp2_with fail
        first | refine bodyPost_end (results_none rfl _ _ _) rfl ?_ | refine bodyPost_ret (results_none rfl _ _ _) rfl ?_
        exact ⟨rfl, by rw [HE.out]; exact HK.out.fin⟩
set_option maxRecDepth 20000 in
set_option maxHeartbeats 8000000 in
theorem without_left {g : Nat} {I : List K → (Nat → Prop) → World → Prop} (hI : HandI 73 g I) (c o : K) {l : List K} {S : Nat → Prop} {w : World} (h : I l S w) (hl : l.length ≤ 90000000) :
    Calls Try.prog 52 #[.agg (cubA c), .agg (cubA o), .func (.func 73) #[] #[.pointer (some ⟨g, 0, none⟩)]] w fun e w' => e = .returned (.tuple #[]) ∧ ∃ S', I (l ++ cutL c o) S' w' ∧ (∀ j, S' j → S j ∨ w.heap.size ≤ j) ∧ Chg S w w' := by
  have HI : Hid (HandI 73 g I) := hI
  have HW0 : Hid (WoI I S w o l c ((w.alloc (.cells (cubA c) 70)).alloc (.cells (cubA o) 70))) := WoI.new hI h c o
  obtain ⟨U, hU⟩ : ∃ U, (w.alloc (.cells (cubA c) 70)).alloc (.cells (cubA o) 70) = U := ⟨_, rfl⟩
  rw [hU] at HW0
  have HM : Hid (∀ u, Calls Try.prog 49 #[.agg (cubA c), .agg (cubA o)] u fun e w' => e = .returned (.bool (meetB c o)) ∧ Below u.heap.size u w') := (show ∀ u, _ from fun u => meets_any c o u)
  clear h hI
  cases hm : meetB c o with
  | false =>
    have HE : Hid (cutL c o = [c]) := (show _ = _ by unfold cutL; rw [hm]; rfl)
    rw [hm] at HM
    clear hm
    go_enter Try.func52, Try.ntmps52
    go_wp2_with (first
      | (rw [hU]; refine load_cub rfl (.tmp 3) rfl w.heap.size 0 rfl c HW0.out.cur ?_)
      | (refine load_cub rfl (.tmp 3) rfl w.heap.size 0 rfl c HW0.out.cur ?_)
      | (refine load_cub rfl (.tmp 4) rfl (w.heap.size + 1) 0 rfl o HW0.out.oth ?_)
      | (go_at_call 49; refine (HM.out _).mono ?_; rintro r w1 ⟨rfl, hb⟩; have HW1 : Hid (WoI I S w o l c w1) := HW0.out.grow HI.out hb; clear hb)
      | (refine load_cub rfl (.tmp 3) rfl w.heap.size 0 rfl c HW1.out.cur ?_)
      | (go_at_call 73; refine (HW1.out.hand HI.out c (by omega)).mono ?_; rintro r w2 ⟨rfl, hb⟩; have HW2 : Hid (WoI I S w o (l ++ [c]) c w2) := hb; clear hb))
    first | refine bodyPost_end (results_none rfl _ _ _) rfl ?_ | refine bodyPost_ret (results_none rfl _ _ _) rfl ?_
    exact ⟨rfl, by rw [HE.out]; exact HW2.out.fin⟩
  | true =>
    have HE : Hid (cutL c o = cutR o c (pos c o 10)) := (show _ = _ by unfold cutL; rw [hm]; rfl)
    have HW0' : Hid (WoI I S w o (l ++ cutR o c (pos c o 0)) (keepL o c (pos c o 0)) U) := (show WoI _ _ _ _ _ _ _ by
      have : pos c o 0 = [] := rfl
      rw [this]
      show WoI I S w o (l ++ []) c U
      rw [List.append_nil]
      exact HW0.out)
    rw [hm] at HM
    clear hm
    go_enter Try.func52, Try.ntmps52
    go_wp2_with (first
      | (rw [hU]; refine load_cub rfl (.tmp 3) rfl w.heap.size 0 rfl c HW0.out.cur ?_)
      | (refine load_cub rfl (.tmp 3) rfl w.heap.size 0 rfl c HW0.out.cur ?_)
      | (refine load_cub rfl (.tmp 4) rfl (w.heap.size + 1) 0 rfl o HW0.out.oth ?_)
      | (go_at_call 49; refine (HM.out _).mono ?_; rintro r w1 ⟨rfl, hb⟩; have HW1 : Hid (WoI I S w o (l ++ cutR o c (pos c o 0)) (keepL o c (pos c o 0)) w1) := HW0'.out.grow HI.out hb; clear hb))
    clear HW0 HW0' HM hU
    go_loopw [17] (fun v17 wr => ∃ f : Nat, f ≤ 10 ∧ v17 = .int .i64 f ∧ Hid (WoI I S w o (l ++ cutR o c (pos c o f)) (keepL o c (pos c o f)) wr)) (fun v17 _ => 10 - (intOf v17).toNat)
    case atStart => exact ⟨0, by omega, rfl, HW1⟩
    case round =>
      obtain ⟨f, hf, rfl, HK⟩ := hrel
      clear HW1
      by_cases hlt : f < 10
      · obtain ⟨wo, hwo⟩ : ∃ x, x = wr := ⟨_, rfl⟩
        subst hwo
        obtain ⟨K1, hK1⟩ : ∃ x, keepL o c (pos c o f) = x := ⟨_, rfl⟩
        obtain ⟨L1, hL1⟩ : ∃ x, l ++ cutR o c (pos c o f) = x := ⟨_, rfl⟩
        have hKm : K1.m f = c.m f := by rw [← hK1]; exact (keepL_pos c o f).1
        have HT : Hid (L1 ++ cutR o K1 (posF c o f) = l ++ cutR o c (pos c o (f + 1)) ∧ keepL o K1 (posF c o f) = keepL o c (pos c o (f + 1))) := (show _ ∧ _ by
          rw [← hK1, ← hL1, pos_succ, cutR_app, keepL_app, List.append_assoc]
          exact ⟨rfl, rfl⟩)
        rw [hK1, hL1] at HK
        have c1 := HK.out.oth.1 f hlt
        have c2 := HK.out.cur.1 f hlt
        rw [hKm] at c2
        rw [Nat.zero_add] at c1 c2
        have hb := b_not (o.m f) (c.m f)
        have hi10 : (f : Int) < 10 := by omega
        obtain ⟨A, hA⟩ : ∃ A, o.m f &&& ~~~ c.m f = A := ⟨_, rfl⟩
        rw [hA] at hb
        have HP : Hid (posF c o f = (rem A 64).map fun b => (f, b)) := (show _ = _ by unfold posF; rw [hA])
        have HAO : Hid (∀ b, A.getLsbD b = true → (o.m f).getLsbD b = true) := (show ∀ b, _ from fun b h => by
          rw [← hA, BitVec.getLsbD_and, Bool.and_eq_true] at h
          exact h.1)
        clear hA hKm hK1 hL1
        go_wp2_with fail
        go_region
        have HK2 : Hid (WoI I S w o L1 K1 wo.drew) := HK.out.drew HI.out
        clear c1 c2 hb HK
        generalize wo.drew = U0 at *
        go_wp2_with fail
        obtain ⟨L9, hL9⟩ : ∃ x, l ++ cutR o c (pos c o (f + 1)) = x := ⟨_, rfl⟩
        obtain ⟨K9, hK9⟩ : ∃ x, keepL o c (pos c o (f + 1)) = x := ⟨_, rfl⟩
        rw [hL9, hK9] at HT
        have HT9 : Hid (l ++ cutR o c (pos c o (f + 1)) = L9 ∧ keepL o c (pos c o (f + 1)) = K9) := ⟨hL9, hK9⟩
        clear hL9 hK9
        have HS0 : Hid (L1 ++ cutR o K1 ((rem A 64).map fun b => (f, b)) = L9 ∧ keepL o K1 ((rem A 64).map fun b => (f, b)) = K9) := (show _ ∧ _ by rw [← HP.out]; exact HT.out)
        clear HT HP
        go_loopw [7] (fun v7 wr => ∃ (t : Nat) (L2 : List K) (K2 : K), t ≤ 64 ∧ v7 = cv (lo A t) ∧ Hid (L2 ++ cutR o K2 ((rem A t).map fun b => (f, b)) = L9 ∧ keepL o K2 ((rem A t).map fun b => (f, b)) = K9) ∧ Hid (WoI I S w o L2 K2 wr)) (fun v7 _ => (intOf v7).toNat)
        case atStart => exact ⟨64, L1, K1, by omega, by rw [lo_all], HS0, HK2⟩
        case round =>
          obtain ⟨t, L2, K2, ht, rfl, HS, HK⟩ := hrel
          clear HS0 HK2
          by_cases hz : lo A t = 0#64
          · have HF : Hid (WoI I S w o L9 K9 wr) := (show WoI _ _ _ _ _ _ _ by
              obtain ⟨h1, h2⟩ := HS.out
              rw [rem_nil A t ht hz] at h1 h2
              rw [← h1, ← h2]
              show WoI I S w o (L2 ++ []) K2 wr
              rw [List.append_nil]
              exact HK.out)
            have q1 : (nb (lo A t) == 0) = true := by rw [(nb_eq0 _).2 hz]; rfl
            have q2 : (nb (lo A t) != 0) = false := by rw [bne, q1]; rfl
            clear hz HS HK
            go_wp2_with fail
            refine ⟨⟨f + 1, by omega, by go_num, (show WoI _ _ _ _ _ _ _ by rw [HT9.out.1, HT9.out.2]; exact HF.out)⟩, by simp [intOf]; omega⟩
          · obtain ⟨b, hb, hlog, hbit, hrem, hlo⟩ := rem_top A t ht hz
            have q1 : (nb (lo A t) == 0) = false := by rw [nb_is0]; simpa using hz
            have q2 : (nb (lo A t) != 0) = true := by rw [bne, q1]; rfl
            have HLen : Hid (∀ u, Calls Try.prog 62 #[.int .u64 (nb (lo A t))] u fun e w' => e = .returned (.int .i64 ((b : Int) + 1)) ∧ w' = u) := (show ∀ u, _ from fun u => by
              have := len_any (nb (lo A t)) (nb_lo _) (nb_hi _) u
              have e : lenN (nb (lo A t)).toNat = b + 1 := by
                have h1 : (nb (lo A t)).toNat = (lo A t).toNat := by unfold nb; omega
                rw [h1]
                unfold lenN
                rw [if_neg (fun h => hz (BitVec.eq_of_toNat_eq (by simpa using h))), hlog]
              rw [e] at this
              exact this)
            have hb64 : (b : Int) < 64 := by omega
            have hw := wrap_bit b (by omega)
            have o1 := b_not (lo A t) (bit1 b)
            rw [hlo] at o1
            have HSm : Hid ((nb (lo A b)).toNat < (nb (lo A t)).toNat) := (show _ < _ from lo_less A hz hlog hb ht)
            have HS2 : Hid ((L2 ++ [flipK o K2 (f, b)]) ++ cutR o (keepK o K2 (f, b)) ((rem A b).map fun b => (f, b)) = L9 ∧ keepL o (keepK o K2 (f, b)) ((rem A b).map fun b => (f, b)) = K9) := (show _ ∧ _ by
              obtain ⟨h1, h2⟩ := HS.out
              rw [hrem, List.map_cons] at h1 h2
              rw [List.append_assoc]
              exact ⟨h1, h2⟩)
            have hb64' : b ≤ 64 := by omega
            have HLn : Hid (L2.length ≤ 100000000) := (show _ ≤ _ by
              have h1 := congrArg List.length HS.out.1
              rw [← HT9.out.1, List.length_append, List.length_append, cutR_len o (pos c o (f + 1))] at h1
              have h2 := pos_len c o (f + 1)
              omega)
            clear hlo hz hlog hrem HS hbit
            -- the mask
            have c1 := HK.out.cur.1 f hlt
            have c2 := (HK.out.wri f (by omega)).2
            rw [Nat.zero_add] at c1 c2
            have o2 := b_or (K2.m f) (bit1 b)
            obtain ⟨M, hM⟩ : ∃ M, K2.m f ||| bit1 b = M := ⟨_, rfl⟩
            rw [hM] at o2
            obtain ⟨V1, hV1⟩ : ∃ V1, wr.setCell ⟨w.heap.size, f, none⟩ (cv M) = V1 := ⟨_, rfl⟩
            have HK1 : Hid (WoI I S w o L2 ⟨upd K2.m f M, K2.v⟩ V1) := (show WoI _ _ _ _ _ _ _ by rw [← hV1]; exact HK.out.set_m HI.out hlt M)
            -- what is handed on
            obtain ⟨KL, hKL⟩ : ∃ KL : K, (⟨upd K2.m f M, K2.v⟩ : K) = KL := ⟨_, rfl⟩
            have hKLv : KL.v = K2.v := by rw [← hKL]
            rw [hKL] at HK1
            have HX : Hid (∃ V2, (V1.alloc (.cells (cubA K.top) 70)).setCells V1.heap.size 0 (cubL KL) = V2 ∧ C20 V2 V1.heap.size 0 KL ∧ V2.there V1.heap.size 0 20 ∧ Below V1.heap.size V1 V2 ∧ V2.heap.size = V1.heap.size + 1) := (show ∃ V2, _ from by
              have t1 := there_new V1 (cubA K.top) 70 20 (cubA_size _)
              have z1 : (V1.alloc (.cells (cubA K.top) 70)).heap.size = V1.heap.size + 1 := by simp
              exact ⟨_, rfl, stored_cub t1 KL, World.there_setCells t1 _ _ _, below_setCells (by go_grown) (Nat.le_refl _) _ _, (size_setCells _ _ _ _).trans z1⟩)
            clear HK
            go_wp2_with (first
              | (go_at_call 62; refine (HLen.out _).mono ?_; rintro r w2 ⟨rfl, rfl⟩)
              | (refine load_cub rfl (.tmp 3) rfl w.heap.size 0 rfl KL HK1.out.cur ?_)
              | (rw [zero_cub]; (obtain ⟨V2, hV2, k1, k2, k3, k4⟩ := HX.out); refine store_cub rfl (.tmp 9) (.tmp 46) rfl V1.heap.size 0 rfl KL rfl (there_new V1 _ 70 20 (cubA_size _)) ?_; rw [hV2]; have HV : Hid (C20 V2 V1.heap.size 0 KL ∧ V2.there V1.heap.size 0 20 ∧ Below V1.heap.size V1 V2 ∧ V2.heap.size = V1.heap.size + 1) := ⟨k1, k2, k3, k4⟩; clear hV2 k1 k2 k3 k4 HX))
            go_simp
            -- the left one's value
            have HWV : Hid (WoI I S w o L2 KL V2) := HK1.out.grow HI.out HV.out.2.2.1
            have y1 : V2.cell? ⟨V1.heap.size, 10 + f, none⟩ = some (cv (K2.v f)) := by
              have := HV.out.1.2 f hlt
              rwa [show 0 + 10 + f = 10 + f by omega, hKLv] at this
            have y2 : V2.frozen? ⟨V1.heap.size, 10 + f, none⟩ = false := by
              have := (HV.out.2.1 (10 + f) (by omega)).2
              rwa [Nat.zero_add] at this
            have y3 : V2.cell? ⟨w.heap.size + 1, 10 + f, none⟩ = some (cv (o.v f)) := by
              have := HWV.out.oth.2 f hlt
              rwa [show 0 + 10 + f = 10 + f by omega] at this
            have o3 := b_not (bit1 b) (o.v f)
            obtain ⟨B1, hB1⟩ : ∃ B1, bit1 b &&& ~~~ o.v f = B1 := ⟨_, rfl⟩
            have o4 := b_or (K2.v f) B1
            obtain ⟨B2, hB2⟩ : ∃ B2, K2.v f ||| B1 = B2 := ⟨_, rfl⟩
            rw [hB1] at o3
            rw [hB2] at o4
            have HV3 : Hid (C20 ((V2.setCell ⟨V1.heap.size, 10 + f, none⟩ (cv B2)).drew) V1.heap.size 0 (flipK o K2 (f, b)) ∧ Below V1.heap.size V1 ((V2.setCell ⟨V1.heap.size, 10 + f, none⟩ (cv B2)).drew)) := (show _ ∧ _ by
              have h1 := HV.out.1.2.set hlt B2
              have h2 := HV.out.1.1.beside (b' := V1.heap.size) (p := 10 + f) (.inr (.inr (by omega))) (cv B2)
              rw [show 0 + 10 + f = 10 + f by omega] at h1
              rw [← hKL] at h1 h2
              have e : flipK o K2 (f, b) = ⟨upd K2.m f M, upd K2.v f B2⟩ := by unfold flipK; rw [← hM, ← hB2, ← hB1]
              rw [e]
              exact ⟨⟨h2, h1⟩, (HV.out.2.2.1.setCell (Nat.le_refl _) _).drew⟩)
            clear hV1 c1 c2 o1 o2 hw HV HWV hKLv hB1 hB2
            go_region
            have HW3 : Hid (C20 ((V2.setCell ⟨V1.heap.size, 10 + f, none⟩ (cv B2)).drew) V1.heap.size 0 (flipK o K2 (f, b)) ∧ WoI I S w o L2 KL ((V2.setCell ⟨V1.heap.size, 10 + f, none⟩ (cv B2)).drew)) := ⟨HV3.out.1, HK1.out.grow HI.out HV3.out.2⟩
            clear HV3 HK1 y1 y2 y3 o3 o4
            generalize (V2.setCell ⟨V1.heap.size, 10 + f, none⟩ (cv B2)).drew = V3 at *
            generalize V1.heap.size = bb at *
            obtain ⟨KF, hKF⟩ : ∃ KF, flipK o K2 (f, b) = KF := ⟨_, rfl⟩
            rw [hKF] at HW3 HS2
            clear hKF
            go_wp2_with (first
              | (refine load_cub rfl (.tmp 9) rfl bb 0 rfl KF HW3.out.1 ?_)
              | (go_at_call 73; refine (HW3.out.2.hand HI.out KF HLn.out).mono ?_; rintro r V4 ⟨rfl, hb⟩; have HW4 : Hid (WoI I S w o (L2 ++ [KF]) KL V4) := hb; clear hb))
            -- the bit is asked as the other one does
            have z1 : V4.cell? ⟨w.heap.size, 10 + f, none⟩ = some (cv (K2.v f)) := by
              have := HW4.out.cur.2 f hlt
              rw [show 0 + 10 + f = 10 + f by omega] at this
              rwa [← hKL] at this
            have z2 : V4.frozen? ⟨w.heap.size, 10 + f, none⟩ = false := by
              have := (HW4.out.wri (10 + f) (by omega)).2
              rwa [Nat.zero_add] at this
            have z3 : V4.cell? ⟨w.heap.size + 1, 10 + f, none⟩ = some (cv (o.v f)) := by
              have := HW4.out.oth.2 f hlt
              rwa [show 0 + 10 + f = 10 + f by omega] at this
            have o5 := b_and (bit1 b) (o.v f)
            obtain ⟨B3, hB3⟩ : ∃ B3, bit1 b &&& o.v f = B3 := ⟨_, rfl⟩
            have o6 := b_or (K2.v f) B3
            obtain ⟨B4, hB4⟩ : ∃ B4, K2.v f ||| B3 = B4 := ⟨_, rfl⟩
            rw [hB3] at o5
            rw [hB4] at o6
            have HW5 : Hid (WoI I S w o (L2 ++ [KF]) (keepK o K2 (f, b)) ((V4.setCell ⟨w.heap.size, 10 + f, none⟩ (cv B4)).drew)) := (show WoI _ _ _ _ _ _ _ by
              have h1 := (HW4.out.set_v HI.out hlt B4).drew HI.out
              rw [← hKL] at h1
              have e : keepK o K2 (f, b) = ⟨upd K2.m f M, upd K2.v f B4⟩ := by unfold keepK; rw [← hM, ← hB4, ← hB3]
              rw [e]
              exact h1)
            clear HW4 HW3 hKL hM hB3 hB4
            go_region
            go_wp2_with fail
            go_roundw
            case rel => exact ⟨b, _, _, hb64', rfl, HS2, HW5⟩
            case measure => exact HSm.out
      · have hf10 : f = 10 := by omega
        subst hf10
        go_wp2_with fail
        first | refine bodyPost_end (results_none rfl _ _ _) rfl ?_ | refine bodyPost_ret (results_none rfl _ _ _) rfl ?_
        exact ⟨rfl, by rw [HE.out]; exact HK.out.fin⟩
end Go.Proofs.Ytmobmpghpdaddaa

/-
  PredParts, walked.
-/
import Derived.Test.YtmobmpghpdaddabLawUse
namespace Go.Proofs.Ytmobmpghpdaddab
open Go.ChangeShapes Go.WideShapes Go.ChangeAt Go.RowKit
set_option linter.unusedVariables false
set_option linter.unusedSimpArgs false

set_option maxRecDepth 20000 in
set_option maxHeartbeats 8000000 in
theorem parts_walk (a : Option Addr) (l : List Nd) (cap : Nat) (b : Option Addr) (vs : List B64) (vc : Nat) (w : World) (hs : Ns w a l) (hss : ∀ x ∈ l, x.s.length ≤ 9223372036854775807) (hl : l.length ≤ 9223372036854775807) (hv : Vs w b vs) :
    Calls Try.prog 3 #[.agg #[.slice a l.length cap], .slice b vs.length vc] w fun e w' => e = .returned (.bool true) ∧ Below w.heap.size w w' := by
  have HAw : Hid (∀ u, Calls Try.prog 7 #[] u fun e w' => e = .returned (.bool true) ∧ Below u.heap.size u w') := (show ∀ u, _ from fun u => awake_any u)
  obtain ⟨X, hX⟩ : ∃ X, w.alloc (.cells #[.slice a l.length cap] 24) = X := ⟨_, rfl⟩
  have hP : PxI w w.heap.size a l cap X := by rw [← hX]; exact PxI.new w a l cap hs
  have cX := hP.box
  have HP : Hid (PxI w w.heap.size a l cap X) := hP
  have HV : Hid (∀ u, Below w.heap.size w u → Vs u b vs) := (show ∀ u, _ from fun u g => hv.below g)
  have HCu : Hid (Calls Try.prog 8 #[.agg #[.slice a l.length cap]] X fun e w' => CbR X l e w') := cubes_any a l cap X hP.ns hl hss
  have HRi : Hid (∀ u, Ns u a l → Calls Try.prog 9 #[.agg #[.slice a l.length cap]] u fun e w' => e = .returned (.bool (rightB l)) ∧ Below u.heap.size u w') := (show ∀ u, _ from fun u h => right_any a l cap u h hl hss)
  have HEv : Hid (∀ u, Ns u a l → Vs u b vs → Calls Try.prog 11 #[.agg #[.slice a l.length cap], .slice b vs.length vc] u fun e w' => e = .returned (.bool (evalB (valR vs) l)) ∧ Below u.heap.size u w') := (show ∀ u, _ from fun u h g => eval_any a l cap b vs vc u h g hl hss)
  clear hP hs hss hv
  by_cases h30 : 30 < l.length
  · have q1 : decide ((30 : Int) < (l.length : Int)) = true := by simp; omega
    clear h30 hl
    go_enter Try.func3, Try.ntmps3
    go_wp2_with (go_at_call 7; refine (HAw.out _).mono ?_; rintro e w2 ⟨rfl, hb⟩; have HB : Hid (Below w.heap.size w w2) := (show Below _ _ _ from btr HP.out.bel hb (Nat.le_refl _)); clear hb)
    go_ret
    exact ⟨rfl, HB.out⟩
  have q1 : decide ((30 : Int) < (l.length : Int)) = false := by simp; omega
  cases hr : rightB l with
  | false =>
    have HC : Hid (Calls Try.prog 8 #[.agg #[.slice a l.length cap]] X fun e w' => e = .returned (.tuple #[.slice none 0 0, .int .i64 1]) ∧ PxI w w.heap.size a l cap w') := (show Calls _ _ _ _ _ from HCu.out.mono fun e w' h => by
      rcases h with ⟨_, h, g⟩ | ⟨h, _⟩ | ⟨h, _⟩
      · exact ⟨h, HP.out.grow g⟩
      · rw [hr] at h; cases h
      · rw [hr] at h; cases h)
    rw [hr] at HRi
    clear HCu hr h30 HEv hl
    go_enter Try.func3, Try.ntmps3
    go_wp2_with (first
      | (go_at_call 8; refine HC.out.mono ?_; rintro e w1 ⟨rfl, h1⟩; have HP1 : Hid (PxI w w.heap.size a l cap w1) := h1; have cc1 := h1.box; clear h1)
      | (go_at_call 9; refine (HRi.out _ HP1.out.ns).mono ?_; rintro e w2 ⟨rfl, h1⟩; have HP2 : Hid (PxI w w.heap.size a l cap w2) := (show PxI _ _ _ _ _ _ from HP1.out.grow h1); clear h1)
      | (go_at_call 7; refine (HAw.out _).mono ?_; rintro e w3 ⟨rfl, hb⟩; have HB : Hid (Below w.heap.size w w3) := (show Below _ _ _ from btr HP2.out.bel hb (Nat.le_refl _)); clear hb))
    go_ret
    exact ⟨rfl, HB.out⟩
  | true =>
    cases hO : listO l with
    | none =>
      have HC : Hid (Calls Try.prog 8 #[.agg #[.slice a l.length cap]] X fun e w' => e = .returned (.tuple #[.slice none 0 0, .int .i64 44]) ∧ PxI w w.heap.size a l cap w') := (show Calls _ _ _ _ _ from HCu.out.mono fun e w' h => by
        rcases h with ⟨h, _⟩ | ⟨_, _, h, g⟩ | ⟨_, r, q, h, _⟩
        · rw [hr] at h; cases h
        · exact ⟨h, HP.out.grow g⟩
        · rw [hO] at h; cases h)
      rw [hr] at HRi
      clear HCu hr h30 HEv hl hO
      go_enter Try.func3, Try.ntmps3
      go_wp2_with (first
        | (go_at_call 8; refine HC.out.mono ?_; rintro e w1 ⟨rfl, h1⟩; have HP1 : Hid (PxI w w.heap.size a l cap w1) := h1; have cc1 := h1.box; clear h1)
        | (go_at_call 9; refine (HRi.out _ HP1.out.ns).mono ?_; rintro e w2 ⟨rfl, h1⟩; have HP2 : Hid (PxI w w.heap.size a l cap w2) := (show PxI _ _ _ _ _ _ from HP1.out.grow h1); clear h1)
        | (go_at_call 7; refine (HAw.out _).mono ?_; rintro e w3 ⟨rfl, hb⟩; have HB : Hid (Below w.heap.size w w3) := (show Below _ _ _ from btr HP2.out.bel hb (Nat.le_refl _)); clear hb))
      go_ret
      exact ⟨rfl, HB.out⟩
    | some r =>
      have HGd : Hid (Gd r (fun v => evalB v l)) := parts_good hr hO
      have hr128 := listO_len hO
      have HC : Hid (Calls Try.prog 8 #[.agg #[.slice a l.length cap]] X fun e w' => ∃ g, e = .returned (.tuple #[.slice (some ⟨g, 0, none⟩) r.length r.length, .int .i64 0]) ∧ FiH X g r.length r w') := (show Calls _ _ _ _ _ from HCu.out.mono fun e w' h => by
        rcases h with ⟨h, _⟩ | ⟨_, h, _⟩ | ⟨_, r', q, h, h2, h3⟩
        · rw [hr] at h; cases h
        · rw [hO] at h; cases h
        · rw [hO] at h; cases h; exact ⟨q, h2, h3⟩)
      obtain ⟨rr, hrr⟩ : ∃ rr, valR vs = rr := ⟨_, rfl⟩
      have HRR : Hid (valR vs = rr) := hrr
      rw [hrr] at HEv
      obtain ⟨n, hn⟩ : ∃ n, r.length = n := ⟨_, rfl⟩
      have HN : Hid (r.length = n) := hn
      rw [hn] at HC hr128
      have H0 : Hid (0 = cnt rr (r.take 0)) := (show _ = _ from rfl)
      clear HCu hr h30 hl hO hrr hn HRi
      go_enter Try.func3, Try.ntmps3
      go_wp2_with (go_at_call 8; refine HC.out.mono ?_; rintro e w1 ⟨g, rfl, h1⟩; have HF : Hid (FiH X g n r w1) := h1; clear h1)
      clear hX cX
      go_loopw [7, 8] (fun v7 v8 wr => ∃ i y : Nat, i ≤ n ∧ v8 = .int .i64 i ∧ v7 = .int .i64 y ∧ y ≤ i ∧ Hid (y = cnt rr (r.take i)) ∧ Hid (FiH X g n r wr)) (fun _ v8 _ => n - (intOf v8).toNat)
      case atStart => exact ⟨0, 0, Nat.zero_le _, rfl, rfl, Nat.le_refl _, H0, HF⟩
      case round =>
        obtain ⟨i, y, hi, rfl, rfl, hyi, HY, HI⟩ := hrel
        clear H0 HF
        by_cases hlt : i < n
        · have hil : i < r.length := by have := HN.out; omega
          obtain ⟨x, c, hc, hxc, hT⟩ := HI.out.at hil
          have hk : Vk r[i] := HGd.out.1 _ (List.getElem_mem hil)
          have HT2 : Hid (cnt rr (r.take (i + 1)) = cnt rr (r.take i) + if hasB r[i] rr then 1 else 0) := (show _ = _ by rw [List.take_succ_eq_append_getElem hil, cnt_app, cnt_one])
          have HV2 : Vs wr b vs := HV.out wr (HP.out.bel.trans (HI.out.bel.mono HP.out.bel.size))
          have HIn : Hid (Calls Try.prog 10 #[.slice x (toT r[i]).length c, .slice b vs.length vc] wr fun e w' => e = .returned (.bool (hasB r[i] rr)) ∧ FiH X g n r w') := (show Calls _ _ _ _ _ from (in_k hk hT HV2).mono fun e w' ⟨h1, h2⟩ => ⟨by rw [h1, HRR.out], HI.out.grow h2⟩)
          generalize r[i] = k at *
          clear hk hT HV2 hxc
          cases hh : hasB k rr with
          | true =>
            rw [hh] at HIn
            have HQ : Hid (y + 1 = cnt rr (r.take (i + 1))) := (show _ = _ by rw [HT2.out, hh, ← HY.out]; rfl)
            clear HT2 HY hh
            go_wp2_with (go_at_call 10; refine HIn.out.mono ?_; rintro e w2 ⟨rfl, h1⟩; have HF2 : Hid (FiH X g n r w2) := h1; clear h1)
            go_roundw
            case rel => exact ⟨i + 1, y + 1, by omega, by go_num, by go_num, by omega, HQ, HF2⟩
            case measure => simp [intOf]; omega
          | false =>
            rw [hh] at HIn
            have HQ : Hid (y = cnt rr (r.take (i + 1))) := (show _ = _ by rw [HT2.out, hh, ← HY.out]; rfl)
            clear HT2 HY hh
            go_wp2_with (go_at_call 10; refine HIn.out.mono ?_; rintro e w2 ⟨rfl, h1⟩; have HF2 : Hid (FiH X g n r w2) := h1; clear h1)
            go_roundw
            case rel => exact ⟨i + 1, y, by omega, by go_num, rfl, by omega, HQ, HF2⟩
            case measure => simp [intOf]; omega
        · have hP2 : PxI w w.heap.size a l cap wr := HP.out.grow HI.out.bel
          have cc := hP2.box
          have HP2 : Hid (PxI w w.heap.size a l cap wr ∧ Vs wr b vs) := ⟨hP2, HV.out wr hP2.bel⟩
          have hy : y = if evalB rr l then 1 else 0 := by
            have := HY.out
            rw [List.take_of_length_le (by have := HN.out; omega), HGd.out.2 rr] at this
            exact this
          clear HY HI hP2
          cases hv : evalB rr l with
          | true =>
            rw [hv] at hy HEv
            obtain rfl : y = 1 := hy
            clear hv
            go_wp2_with (first
              | (go_at_call 11; refine (HEv.out _ HP2.out.1.ns HP2.out.2).mono ?_; rintro e w2 ⟨rfl, h1⟩; have HB2 : Hid (Below w.heap.size w w2) := (show Below _ _ _ from btr HP2.out.1.bel h1 (Nat.le_refl _)); clear h1)
              | (go_at_call 7; refine (HAw.out _).mono ?_; rintro e w3 ⟨rfl, hb⟩; have HB : Hid (Below w.heap.size w w3) := (show Below _ _ _ from btr HB2.out hb (Nat.le_refl _)); clear hb))
            go_ret
            exact ⟨rfl, HB.out⟩
          | false =>
            rw [hv] at hy HEv
            obtain rfl : y = 0 := hy
            clear hv
            go_wp2_with (first
              | (go_at_call 11; refine (HEv.out _ HP2.out.1.ns HP2.out.2).mono ?_; rintro e w2 ⟨rfl, h1⟩; have HB2 : Hid (Below w.heap.size w w2) := (show Below _ _ _ from btr HP2.out.1.bel h1 (Nat.le_refl _)); clear h1)
              | (go_at_call 7; refine (HAw.out _).mono ?_; rintro e w3 ⟨rfl, hb⟩; have HB : Hid (Below w.heap.size w w3) := (show Below _ _ _ from btr HB2.out hb (Nat.le_refl _)); clear hb))
            go_ret
            exact ⟨rfl, HB.out⟩
theorem parts_end (a : Option Addr) (l : List Nd) (cap : Nat) (b : Option Addr) (vs : List B64) (vc : Nat) (w : World) (hs : Ns w a l) (hss : ∀ x ∈ l, x.s.length ≤ 9223372036854775807) (hl : l.length ≤ 9223372036854775807) (hc : l.length ≤ cap) (hv : Vs w b vs) (hvl : vs.length ≤ 9223372036854775807) (hvc : vs.length ≤ vc) :
    Calls Try.prog 3 #[.agg #[.slice a l.length cap], .slice b vs.length vc] w fun e w' => e = .returned (.bool true) ∧ Below w.heap.size w w' := parts_walk a l cap b vs vc w hs hss hl hv
end Go.Proofs.Ytmobmpghpdaddab

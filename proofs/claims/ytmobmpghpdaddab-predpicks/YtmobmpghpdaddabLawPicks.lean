/-
  PredPicks, walked.
-/
import Derived.Test.YtmobmpghpdaddabPickP
namespace Go.Proofs.Ytmobmpghpdaddab
open Go.ChangeShapes Go.WideShapes Go.ChangeAt Go.RowKit
set_option linter.unusedVariables false
set_option linter.unusedSimpArgs false

set_option maxRecDepth 20000 in
set_option maxHeartbeats 8000000 in
theorem picks_walk (a : Option Addr) (l : List Nd) (cap : Nat) (w : World) (hs : Ns w a l) (hss : ∀ x ∈ l, x.s.length ≤ 9223372036854775807) (hl : l.length ≤ 9223372036854775807) (hcap : l.length ≤ cap) :
    Calls Try.prog 4 #[.agg #[.slice a l.length cap]] w fun e w' => e = .returned (.bool true) ∧ Below w.heap.size w w' := by
  have HAw : Hid (∀ u, Calls Try.prog 7 #[] u fun e w' => e = .returned (.bool true) ∧ Below u.heap.size u w') := (show ∀ u, _ from fun u => awake_any u)
  obtain ⟨X, hX⟩ : ∃ X, w.alloc (.cells #[.slice a l.length cap] 24) = X := ⟨_, rfl⟩
  have hP : PxI w w.heap.size a l cap X := by rw [← hX]; exact PxI.new w a l cap hs
  have cX := hP.box
  have HP : Hid (PxI w w.heap.size a l cap X) := hP
  have HCu : Hid (Calls Try.prog 8 #[.agg #[.slice a l.length cap]] X fun e w' => CbR X l e w') := cubes_any a l cap X hP.ns hl hss
  have HEv : Hid (∀ u b vs vc, Ns u a l → Vs u b vs → Calls Try.prog 11 #[.agg #[.slice a l.length cap], .slice b vs.length vc] u fun e w' => e = .returned (.bool (evalB (valR vs) l)) ∧ Below u.heap.size u w') := (show ∀ u b vs vc, _ from fun u b vs vc h g => eval_any a l cap b vs vc u h g hl hss)
  clear hP hs hss hcap
  by_cases h30 : 30 < l.length
  · have q1 : decide ((30 : Int) < (l.length : Int)) = true := by simp; omega
    clear h30 hl
    go_enter Try.func4, Try.ntmps4
    go_wp2_with (go_at_call 7; refine (HAw.out _).mono ?_; rintro e w2 ⟨rfl, hb⟩; have HB : Hid (Below w.heap.size w w2) := (show Below _ _ _ from btr HP.out.bel hb (Nat.le_refl _)); clear hb)
    go_ret
    exact ⟨rfl, HB.out⟩
  have q1 : decide ((30 : Int) < (l.length : Int)) = false := by simp; omega
  rcases (show (rightB l = true ∧ ∃ r, listO l = some r) ∨ ∃ x : Int, (x = 1 ∨ x = 44) ∧ ∀ e w', CbR X l e w' → e = .returned (.tuple #[.slice none 0 0, .int .i64 x]) ∧ Below X.heap.size X w' by
    cases hr : rightB l with
    | false =>
      refine .inr ⟨1, .inl rfl, fun e w' h => ?_⟩
      rcases h with ⟨_, h, g⟩ | ⟨h, _⟩ | ⟨h, _⟩
      · exact ⟨h, g⟩
      · rw [hr] at h; cases h
      · rw [hr] at h; cases h
    | true =>
      cases hO : listO l with
      | some r => exact .inl ⟨rfl, r, rfl⟩
      | none =>
        refine .inr ⟨44, .inr rfl, fun e w' h => ?_⟩
        rcases h with ⟨h, _⟩ | ⟨_, _, h, g⟩ | ⟨_, r, q, h, _⟩
        · rw [hr] at h; cases h
        · exact ⟨h, g⟩
        · rw [hO] at h; cases h) with ⟨hr, r, hO⟩ | ⟨x, hx, hC⟩
  · have HGd : Hid (Gd r (fun v => evalB v l)) := parts_good hr hO
    have hr128 := listO_len hO
    have HC : Hid (Calls Try.prog 8 #[.agg #[.slice a l.length cap]] X fun e w' => ∃ g, e = .returned (.tuple #[.slice (some ⟨g, 0, none⟩) r.length r.length, .int .i64 0]) ∧ FiH X g r.length r w') := (show Calls _ _ _ _ _ from HCu.out.mono fun e w' h => by
      rcases h with ⟨h, _⟩ | ⟨_, h, _⟩ | ⟨_, r', q, h, h2, h3⟩
      · rw [hr] at h; cases h
      · rw [hO] at h; cases h
      · rw [hO] at h; cases h; exact ⟨q, h2, h3⟩)
    obtain ⟨n, hn⟩ : ∃ n, r.length = n := ⟨_, rfl⟩
    have HN : Hid (r.length = n) := hn
    rw [hn] at HC hr128
    clear HCu hr h30 hl hO hn
    go_enter Try.func4, Try.ntmps4
    go_wp2_with (go_at_call 8; refine HC.out.mono ?_; rintro e w1 ⟨g, rfl, h1⟩; have HF : Hid (FiH X g n r w1) := h1; clear h1)
    clear hX cX HC
    go_loopw [5] (fun v5 wr => ∃ i : Nat, i ≤ n ∧ v5 = .int .i64 i ∧ Hid (FiH X g n r wr)) (fun v5 _ => n - (intOf v5).toNat)
    case atStart => exact ⟨0, Nat.zero_le _, rfl, HF⟩
    case round =>
      obtain ⟨i, hi, rfl, HI⟩ := hrel
      clear HF
      by_cases hlt : i < n
      · have hil : i < r.length := by have := HN.out; omega
        obtain ⟨x, c, hc, hxc, hT⟩ := HI.out.at hil
        have hk : Vk r[i] := HGd.out.1 _ (List.getElem_mem hil)
        have HT : Hid (∀ u, Below wr.heap.size wr u → Ts u x (toT r[i])) := (show ∀ u, _ from fun u g => hT.below g)
        have HPx : Hid (∀ u, Below wr.heap.size wr u → PxI w w.heap.size a l cap u) := (show ∀ u, _ from fun u g => (HP.out.grow HI.out.bel).grow g)
        have HFx : Hid (∀ u, Below wr.heap.size wr u → FiH X g n r u) := (show ∀ u, _ from fun u g => HI.out.grow g)
        have Hc : Hid (∀ u, Below wr.heap.size wr u → u.cell? ⟨g, i, none⟩ = some (.slice x (toT r[i]).length c)) := (show ∀ u, _ from fun u gg => (gg.cell (p := ⟨g, i, none⟩) HI.out.lt).trans hc)
        have HPk : Hid (Calls Try.prog 12 #[.slice x (toT r[i]).length c] wr fun e w' => ∃ b, e = .returned (.slice (some ⟨b, 0, none⟩) 10 10) ∧ Vs w' (some ⟨b, 0, none⟩) (pkL r[i]) ∧ Below wr.heap.size wr w') := pick_k hk hT
        have HWh : Hid (∀ u, Below wr.heap.size wr u → Calls Try.prog 13 #[.slice x (toT r[i]).length c] u fun e w' => e = .returned (.bool true) ∧ Below u.heap.size u w') := (show ∀ u, _ from fun u g => whole_k hk (HT.out u g))
        have HIn : Hid (∀ u b, Below wr.heap.size wr u → Vs u (some ⟨b, 0, none⟩) (pkL r[i]) → Calls Try.prog 10 #[.slice x (toT r[i]).length c, .slice (some ⟨b, 0, none⟩) 10 10] u fun e w' => e = .returned (.bool true) ∧ Below u.heap.size u w') := (show ∀ u b, _ from fun u b g hv => by
          have := in_k (c := c) (vc := 10) hk (HT.out u g) hv
          rw [pkL_len, hasB_pk hk] at this
          exact this)
        have HEi : Hid (∀ u b, Below wr.heap.size wr u → Vs u (some ⟨b, 0, none⟩) (pkL r[i]) → Calls Try.prog 11 #[.agg #[.slice a l.length cap], .slice (some ⟨b, 0, none⟩) 10 10] u fun e w' => e = .returned (.bool true) ∧ Below u.heap.size u w') := (show ∀ u b, _ from fun u b g hv => by
          have := HEv.out u (some ⟨b, 0, none⟩) (pkL r[i]) 10 (HPx.out u g).ns hv
          have e1 : evalB (valR (pkL r[i])) l = true := HGd.out.pick (List.getElem_mem hil)
          rw [pkL_len, e1] at this
          exact this)
        have HMe : Hid (∀ j (hj : j < i), ∀ y d u, Below wr.heap.size wr u → Ts u y (toT (r[j]'(by omega))) → Calls Try.prog 14 #[.slice y (toT (r[j]'(by omega))).length d, .slice x (toT r[i]).length c] u fun e w' => e = .returned (.tuple #[.slice none 0 0, .bool false]) ∧ Below u.heap.size u w') := (show ∀ j (hj : j < i), _ from fun j hj y d u g hT2 => meet_no (HGd.out.1 _ (List.getElem_mem (by omega))) hk (HGd.out.apart hj hil) hT2 (HT.out u g))
        obtain ⟨K0, hK0⟩ : ∃ K0, pkL r[i] = K0 := ⟨_, rfl⟩
        rw [hK0] at HPk HIn HEi
        obtain ⟨N0, hN0⟩ : ∃ N0, (toT r[i]).length = N0 := ⟨_, rfl⟩
        rw [hN0] at hc Hc HPk HWh HIn HMe
        clear hK0 hk hT HT hN0 hxc HI
        go_wp2_with (first
          | (go_at_call 12; refine HPk.out.mono ?_; rintro e w2 ⟨b, rfl, h1, h2⟩; have HB2 : Hid (Below wr.heap.size wr w2 ∧ Vs w2 (some ⟨b, 0, none⟩) K0) := ⟨h2, h1⟩; have cc2 := Hc.out _ h2; clear h1 h2)
          | (go_at_call 13; refine (HWh.out _ HB2.out.1).mono ?_; rintro e w3 ⟨rfl, h2⟩; have HB3 : Hid (Below wr.heap.size wr w3 ∧ Vs w3 (some ⟨b, 0, none⟩) K0) := ⟨btr HB2.out.1 h2 (Nat.le_refl _), HB2.out.2.below h2⟩; have cc3 := Hc.out _ HB3.out.1; clear h2)
          | (go_at_call 10; refine (HIn.out _ b HB3.out.1 HB3.out.2).mono ?_; rintro e w4 ⟨rfl, h2⟩; have HB4 : Hid (Below wr.heap.size wr w4 ∧ Vs w4 (some ⟨b, 0, none⟩) K0) := ⟨btr HB3.out.1 h2 (Nat.le_refl _), HB3.out.2.below h2⟩; have cc4 := Hc.out _ HB4.out.1; have bb4 := (HPx.out _ HB4.out.1).box; clear h2)
          | (go_at_call 11; refine (HEi.out _ b HB4.out.1 HB4.out.2).mono ?_; rintro e w5 ⟨rfl, h2⟩; have HB5 : Hid (Below wr.heap.size wr w5) := (show Below _ _ _ from btr HB4.out.1 h2 (Nat.le_refl _)); clear h2))
        clear HPk HWh HIn HEi cc2 cc3 cc4 bb4 hc
        obtain ⟨wo, hwo⟩ : ∃ y, y = wr := ⟨_, rfl⟩
        subst hwo
        have HB0 : Hid (Below wo.heap.size wo w5) := HB5.out
        go_loopw [7] (fun v7 wr2 => ∃ j : Nat, j ≤ i ∧ v7 = .int .i64 j ∧ Hid (Below wo.heap.size wo wr2)) (fun v7 _ => i - (intOf v7).toNat)
        case atStart => exact ⟨0, Nat.zero_le _, rfl, HB0⟩
        case round =>
          obtain ⟨j, hj, rfl, HBw⟩ := hrel
          clear HB0
          by_cases hlt2 : j < i
          · have hjl : j < r.length := by omega
            have hjn : j < n := by omega
            obtain ⟨y, d, hcj, _, hTj⟩ := (HFx.out wr HBw.out).at hjl
            have hci := Hc.out wr HBw.out
            have hgl := (HFx.out wr HBw.out).lt
            have HM : Hid (∀ m : GrT wr, Calls Try.prog 14 #[.slice y (toT r[j]).length d, .slice x N0 c] m.w fun e w' => e = .returned (.tuple #[.slice none 0 0, .bool false]) ∧ Below m.w.heap.size m.w w') := (show ∀ m : GrT wr, _ from fun m => HMe.out j hlt2 y d m.w (btr HBw.out m.h (Nat.le_refl _)) (hTj.below m.h))
            generalize (toT r[j]).length = M0 at *
            have hcj' : ∀ m : GrT wr, m.w.cell? ⟨g, j, none⟩ = some (.slice y M0 d) := fun m => cell_gr hcj hgl m
            have hci' : ∀ m : GrT wr, m.w.cell? ⟨g, i, none⟩ = some (.slice x N0 c) := fun m => cell_gr hci hgl m
            clear hTj hcj hci hgl
            go_wp2_with fail
            refine wp_region_grow (by kernel_rfl) (by kernel_rfl) ?_
            repeat (go_big_quiet_step ((go_at_call 14; exact quiet_gr (HM.out _))))
            refine wpQuiet_nil ?_
            rintro w6 hw'
            have g1 := gr_elim hw'
            clear hw'
            have HB6 : Hid (Below wo.heap.size wo w6) := (show Below _ _ _ from btr HBw.out g1 (Nat.le_refl _))
            clear g1 hcj' hci'
            go_wp2_with fail
            go_roundw
            case rel => exact ⟨j + 1, by omega, by go_num, HB6⟩
            case measure => simp [intOf]; omega
          · have HQ : Hid (FiH X g n r wr) := HFx.out wr HBw.out
            go_wp2_with fail
            refine ⟨⟨i + 1, by omega, by go_num, HQ⟩, by simp [intOf]; omega⟩
      · have HPx : Hid (PxI w w.heap.size a l cap wr) := HP.out.grow HI.out.bel
        have q2 : decide ((n : Int) ≤ 128) = true := by simp; omega
        go_wp2_with (go_at_call 7; refine (HAw.out _).mono ?_; rintro e w3 ⟨rfl, hb⟩; have HB : Hid (Below w.heap.size w w3) := (show Below _ _ _ from btr HPx.out.bel hb (Nat.le_refl _)); clear hb)
        go_ret
        exact ⟨rfl, HB.out⟩
  · have HC : Hid (Calls Try.prog 8 #[.agg #[.slice a l.length cap]] X fun e w' => e = .returned (.tuple #[.slice none 0 0, .int .i64 x]) ∧ Below X.heap.size X w') := (show Calls _ _ _ _ _ from HCu.out.mono fun e w' h => hC e w' h)
    have hx0 : ¬ x = 0 := by omega
    have hx1 : (x == 0) = false := by simpa using hx0
    clear HCu hC hx hl h30
    go_enter Try.func4, Try.ntmps4
    go_wp2_with (go_at_call 8; refine HC.out.mono ?_; rintro e w1 ⟨rfl, h1⟩; have HB1 : Hid (Below w.heap.size w w1) := (show Below _ _ _ from btr HP.out.bel h1 (Nat.le_refl _)); clear h1)
    have H0 : Hid (Below w.heap.size w w1) := HB1.out
    go_loopw [5] (fun v5 wr => v5 = .int .i64 0 ∧ Hid (Below w.heap.size w wr)) (fun _ _ => 0)
    case atStart => exact ⟨rfl, H0⟩
    case round =>
      obtain ⟨rfl, HBw⟩ := hrel
      clear H0
      go_wp2_with (go_at_call 7; refine (HAw.out _).mono ?_; rintro e w3 ⟨rfl, hb⟩; have HB : Hid (Below w.heap.size w w3) := (show Below _ _ _ from btr HBw.out hb (Nat.le_refl _)); clear hb)
      go_ret
      exact ⟨rfl, HB.out⟩
end Go.Proofs.Ytmobmpghpdaddab

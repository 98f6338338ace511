/-
  The document's Eval.
-/
import Derived.Test.YtmobmpghpdaddaaRefR
import Derived.Test.YtmobmpghpdaddaaEval
namespace Go.Proofs.Ytmobmpghpdaddaa
open Go.ChangeShapes Go.WideShapes Go.ChangeAt Go.RowKit
set_option linter.unusedVariables false
set_option linter.unusedSimpArgs false

/-- A bool as a number. -/
def bi (q : Bool) : Int := if q then 1 else 0
theorem bi_map (P : List Bool) (q : Bool) : P.map bi ++ [bi q] = (P ++ [q]).map bi := by rw [List.map_append]; rfl
theorem bi_one (q : Bool) : (bi q == 1) = q := by cases q <;> rfl
theorem hasB_one {t : Tst} (hf : 1 ≤ t.f ∧ t.f ≤ 9) (r : Rw) : hasB (cubF [t]) r = holdsB t r := by
  have e : cubF [t] = setT K.top t := rfl
  have key : hasB (cubF [t]) r = true ↔ holdsB t r = true := by
    rw [hasB_iff, e]
    unfold holdsB setT upd
    simp only [beq_iff_eq]
    constructor
    · intro h
      have := h t.f.toNat (by omega)
      simpa using this
    · intro h f _
      by_cases e : f = t.f.toNat
      · subst e; simpa using h
      · simp [e, K.top]
  cases h1 : hasB (cubF [t]) r <;> cases h2 : holdsB t r <;> simp_all
/-- What was said, at a place. -/
theorem said_at {base : Nat} {w : World} {v : Value} {P : List Bool} (h : Own 3 intL 1 base w v (P.map bi)) {m : Nat} (hm : m < P.length) : ∃ g c, v = .slice (some ⟨g, 0, none⟩) P.length c ∧ w.cell? ⟨g, m, none⟩ = some (.int .i64 (bi (P.getD m false))) := by
  obtain ⟨g, c, e, _, _, _, hc⟩ := own_at kdI h (by rw [List.length_map]; omega)
  refine ⟨g, c, by rw [e, List.length_map], ?_⟩
  have := hc m (by rw [List.length_map]; exact hm) 0 (by decide)
  rw [Nat.mul_one, Nat.add_zero, Nat.zero_add] at this
  rw [this, List.getElem_map, List.getD_eq_getElem?_getD, List.getElem?_eq_getElem hm]
  rfl
structure SaI (U : World) (v : Value) (P : List Bool) (wr : World) : Prop where
  row : RwI 3 intL 1 U v (P.map bi) wr
theorem SaI.grow {U wr V : World} {v : Value} {P : List Bool} (h : SaI U v P wr) (g : Below wr.heap.size wr V) : SaI U v P V := ⟨h.row.grow g⟩
theorem SaI.form {U wr : World} {v : Value} {P : List Bool} (h : SaI U v P wr) : ∃ a c, v = .slice a P.length c := by
  obtain ⟨a, c, e⟩ := own_form h.row.own
  exact ⟨a, c, by rw [e, List.length_map]⟩
set_option maxRecDepth 20000 in
set_option maxHeartbeats 4000000 in
theorem reval_any (a : Option Addr) (l : List Nd) (cap : Nat) (b : Option Addr) (vs : List B64) (vc : Nat) (w : World) (hs : Ns w a l) (ht : Vs w b vs) (hl : l.length ≤ 9223372036854775807) (hss : ∀ x ∈ l, x.s.length ≤ 9223372036854775807) :
    Calls Try.prog 12 #[.agg #[.slice a l.length cap], .slice b vs.length vc] w fun e w' => e = .returned (.bool (evalB (valR vs) l)) ∧ Below w.heap.size w w' := by
  obtain ⟨X, hX⟩ : ∃ X, w.alloc (.cells #[.slice a l.length cap] 24) = X := ⟨_, rfl⟩
  have gX : Below w.heap.size w X := by rw [← hX]; go_grown
  have cX : X.cell? ⟨w.heap.size, 0, none⟩ = some (.slice a l.length cap) := by rw [← hX]; simp
  have zX : X.heap.size = w.heap.size + 1 := by rw [← hX]; simp
  have HG : Hid (Below w.heap.size w X ∧ w.heap.size < X.heap.size) := ⟨gX, by omega⟩
  have HCd : Hid (∀ u, Below X.heap.size X u → u.cell? ⟨w.heap.size, 0, none⟩ = some (.slice a l.length cap)) := (show ∀ u, _ from fun u g => (g.cell (p := ⟨w.heap.size, 0, none⟩) (by show w.heap.size < _; omega)).trans cX)
  have HR : Hid (Calls Try.prog 10 #[.agg #[.slice a l.length cap]] X fun e w' => e = .returned (.bool (rightB l)) ∧ Below X.heap.size X w') := (show Calls _ _ _ _ _ from rright_any a l cap X (hs.below gX) hl hss)
  have HVs : Hid (Vs X b vs) := ht.below gX
  have HS : Hid (Ns X a l) := hs.below gX
  clear hs ht gX zX hss
  cases hb : rightB l with
  | false =>
    have HE : Hid (evalB (valR vs) l = false) := (show _ = _ by unfold evalB; rw [hb]; rfl)
    rw [hb] at HR
    clear hb
    go_enter Try.func12, Try.ntmps12
    go_wp2_with (go_at_call 10; refine HR.out.mono ?_; rintro r w1 ⟨rfl, hb⟩; have HB1 : Hid (Below X.heap.size X w1) := hb; clear hb)
    go_ret
    exact ⟨by rw [HE.out]; rfl, btr HG.out.1 HB1.out (by have := HG.out.2; omega)⟩
  | true =>
    have HRb : Hid (rightB l = true) := hb
    obtain ⟨h1, h60⟩ := rightB_len hb
    have HE : Hid (evalB (valR vs) l = (saidL (valR vs) l []).getLastD false) := (show _ = _ by unfold evalB; rw [hb]; rfl)
    obtain ⟨R, hR⟩ : ∃ R, evalB (valR vs) l = R := ⟨_, rfl⟩
    rw [hR] at HE ⊢
    have HHo : Hid (∀ t u, Below X.heap.size X u → (1 ≤ t.f ∧ t.f ≤ 9) → Calls Try.prog 42 #[tV t, .slice b vs.length vc] u fun e w' => e = .returned (.bool (holdsB t (valR vs))) ∧ Below u.heap.size u w') := (show ∀ t u, _ from fun t u g hf => holds_any t b vs vc u (HVs.out.below g) hf)
    obtain ⟨rr, hrr⟩ : ∃ rr, valR vs = rr := ⟨_, rfl⟩
    rw [hrr] at HE HHo
    rw [hb] at HR
    generalize vs.length = vn at *
    clear hb hR hrr HVs
    go_enter Try.func12, Try.ntmps12
    go_wp2_with (go_at_call 10; refine HR.out.mono ?_; rintro r w1 ⟨rfl, hb⟩; have HB1 : Hid (Below X.heap.size X w1) := hb; have cc1 := HCd.out _ hb; clear hb HR)
    have H0 : Hid (R = (saidL rr (l.drop 0) []).getLastD false) := (show _ = _ from HE.out)
    clear HE cX hX
    obtain ⟨n, hn⟩ : ∃ n, l.length = n := ⟨_, rfl⟩
    have HN : Hid (l.length = n) := hn
    rw [hn] at h1 h60 hl HCd cc1 ⊢
    clear hn cc1
    go_loopw [5, 6] (fun v5 v6 wr => ∃ (k : Nat) (P : List Bool), k ≤ n ∧ v6 = .int .i64 k ∧ Hid (P.length = k) ∧ Hid (SaI w1 v5 P wr) ∧ Hid (R = (saidL rr (l.drop k) P).getLastD false)) (fun _ v6 _ => n - (intOf v6).toNat)
    case atStart => exact ⟨0, [], Nat.zero_le _, rfl, rfl, ⟨RwI.nil _⟩, H0⟩
    case round =>
      obtain ⟨k, P, hk, rfl, HP, HI, HE⟩ := hrel
      have HBr : Hid (Below X.heap.size X wr) := (show Below _ _ _ from HB1.out.trans (HI.out.row.bel.mono HB1.out.size))
      have cc := HCd.out wr HBr.out
      obtain ⟨a5, c5, hf5⟩ := HI.out.form
      rw [HP.out] at hf5
      subst hf5
      clear H0
      by_cases hlt : k < n
      · have hkl : k < l.length := by have := HN.out; omega
        obtain ⟨g, o, rfl, hg, bb, c, hN, hc, hIs⟩ := (HS.out.below HBr.out).at hkl
        have HE2 : Hid (R = (saidL rr (l.drop (k + 1)) (P ++ [saysB l[k] P rr])).getLastD false) := (show _ = _ by rw [HE.out, List.drop_eq_getElem_cons hkl]; rfl)
        have hrn := rightB_at HRb.out k hkl
        obtain ⟨x, hx⟩ : ∃ y, l[k] = y := ⟨_, rfl⟩
        rw [hx] at hN hIs HE2 hrn hc
        obtain ⟨V, hV, hNV, gV, zV⟩ := boxN wr x bb c
        have HSub : Hid (∀ i ∈ x.s, 0 ≤ i ∧ i < (k : Int)) := rnB_subs hrn
        have hx12 := rnB_len hrn
        have HRn : Hid (rnB x k = true) := hrn
        have HVI : Hid (SaI w1 (.slice a5 k c5) P V ∧ Is V bb x.s ∧ Below X.heap.size X V ∧ w1.heap.size ≤ V.heap.size) := ⟨HI.out.grow gV, hIs.below gV, btr HBr.out gV (Nat.le_refl _), by have := HI.out.row.bel.size; omega⟩
        obtain ⟨c0, c1, c2, c3, c4⟩ := hN
        obtain ⟨d0, d1, d2, d3, d4⟩ := hNV
        have HY0 : Hid (0 = yesC (x.s.take 0) P) := (show _ = _ from rfl)
        have HZv : Hid (wr.heap.size < V.heap.size) := (show _ < _ by omega)
        clear HE hrn hx hIs hc gV zV HI HBr
        go_wp2_with fail
        obtain ⟨nb0, hnb0⟩ : ∃ y, wr.heap.size = y := ⟨_, rfl⟩
        rw [hnb0] at d0 d1 d2 d3 d4 ⊢
        have HNb : Hid (nb0 < V.heap.size) := (show _ < _ by rw [← hnb0]; exact HZv.out)
        clear hV hnb0 c0 c1 c2 c3 c4 cc
        go_loopw [8, 9] (fun v8 v9 wr2 => ∃ i y : Nat, i ≤ x.s.length ∧ v9 = .int .i64 i ∧ v8 = .int .i64 y ∧ y ≤ i ∧ Hid (y = yesC (x.s.take i) P) ∧ wr2 = V) (fun _ v9 _ => x.s.length - (intOf v9).toNat)
        case atStart => exact ⟨0, 0, Nat.zero_le _, rfl, rfl, Nat.le_refl _, HY0, rfl⟩
        case round =>
          obtain ⟨i, y, hi, rfl, rfl, hyi, HY, hw⟩ := hrel
          obtain rfl : V = wr := hw.symm
          clear HY0 hw
          by_cases hlt2 : i < x.s.length
          · obtain ⟨g2, o2, rfl, hg2, hc2⟩ := HVI.out.2.1.at hlt2
            have e0 := hc2 i hlt2
            obtain ⟨m0, m1⟩ := HSub.out _ (List.getElem_mem hlt2)
            have HT : Hid (yesC (x.s.take (i + 1)) P = y + if P.getD x.s[i].toNat false then 1 else 0) := (show _ = _ by rw [List.take_succ_eq_append_getElem hlt2, yesC_snoc, ← HY.out])
            generalize x.s[i] = z at *
            obtain ⟨m, rfl⟩ : ∃ m : Nat, z = (m : Int) := ⟨z.toNat, by omega⟩
            have hmk0 : m < P.length := by have := HP.out; omega
            have hmk : m < k := by omega
            obtain ⟨g5, c5', hf5, f0⟩ := said_at HVI.out.1.row.own hmk0
            obtain ⟨e1, _, e2⟩ := Value.slice.inj hf5
            subst e1
            subst e2
            rw [Int.toNat_natCast] at HT
            generalize P.getD m false = q at *
            clear hc2 HY hf5 hmk0
            cases q with
            | true =>
              have HQ : Hid (y + 1 = yesC (x.s.take (i + 1)) P) := (show _ = _ by rw [HT.out]; rfl)
              have f1 : bi true = 1 := rfl
              rw [f1] at f0
              clear HT
              go_wp2_with fail
              go_roundw
              case rel => exact ⟨i + 1, y + 1, by omega, by go_num, by go_num, by omega, HQ, by first | rfl | trivial⟩
              case measure => simp [intOf]; omega
            | false =>
              have HQ : Hid (y = yesC (x.s.take (i + 1)) P) := (show _ = _ by rw [HT.out]; rfl)
              have f1 : bi false = 0 := rfl
              rw [f1] at f0
              clear HT
              go_wp2_with fail
              go_roundw
              case rel => exact ⟨i + 1, y, by omega, by go_num, by go_num, by omega, HQ, by first | rfl | trivial⟩
              case measure => simp [intOf]; omega
          · have HYe : Hid (y = yesC x.s P) := (show _ = _ by have := HY.out; rwa [List.take_of_length_le (by omega)] at this)
            have HSay : Hid (saysB x P rr = if x.k = 1 then true else if x.k = 3 then hasB (cubF [x.t]) rr else if x.k = 4 then decide (y = x.s.length) else if x.k = 5 then decide (0 < y) else if x.k = 6 then decide (y = 0) else false) := (show _ = _ by rw [HYe.out]; rfl)
            have hkind : x.k = 1 ∨ x.k = 2 ∨ x.k = 3 ∨ x.k = 4 ∨ x.k = 5 ∨ x.k = 6 := by
              have h := HRn.out
              unfold rnB at h
              by_cases k1 : x.k = 1
              · exact .inl k1
              by_cases k2 : x.k = 2
              · exact .inr (.inl k2)
              by_cases k3 : x.k = 3
              · exact .inr (.inr (.inl k3))
              by_cases k4 : x.k = 4
              · exact .inr (.inr (.inr (.inl k4)))
              by_cases k5 : x.k = 5
              · exact .inr (.inr (.inr (.inr (.inl k5))))
              by_cases k6 : x.k = 6
              · exact .inr (.inr (.inr (.inr (.inr k6))))
              simp [k1, k2, k3, k4, k5, k6] at h
            have HGr : Hid (∀ u, Below V.heap.size V u → Below V.heap.size V u) := (show ∀ u, _ from fun u g => g)
            have HAp : Hid (∀ u, Below V.heap.size V u → ∀ (q : Bool) v' w', Own 3 intL 1 w1.heap.size w' v' (P.map bi ++ [bi q]) → (u.alloc (.cells #[.int .i64 (bi q)] 3)).grownBy w' (Value.slice a5 k c5).ownBlock → SaI w1 v' (P ++ [q]) w') := (show ∀ u, _ from fun u g q v' w' ho hg => ⟨by
              rw [← bi_map]
              exact (HVI.out.1.grow g).row.app (by go_grown) ho hg⟩)
            have HBV : Hid (Below V.heap.size V V) := Below.refl _ _
            clear HY HYe
            rcases hkind with k1 | k2 | k3 | k4 | k5 | k6
            · have HE3 : Hid (R = (saidL rr (l.drop (k + 1)) (P ++ [true])).getLastD false) := (show _ = _ by rw [HE2.out, HSay.out]; simp [k1])
              rw [k1] at d0
              clear HE2 HSay k1
              go_wp2_with (at_builtin; have gI : Below V.heap.size V (V.alloc (.cells #[.int .i64 1] 3)) := (by go_grown); have hcs : Cs intL 1 (V.alloc (.cells #[.int .i64 1] 3)) V.heap.size 0 [1] := cs_new (k := intL) (s := 1) V 1 3; refine wpList_appK kdI ktI rfl (.tmp 88) (.tmp 89) rfl w1.heap.size (.slice a5 k c5) (P.map bi) rfl (own_below HVI.out.1.row.own ((HGr.out V HBV.out).trans (gI.mono (HGr.out V HBV.out).size))) V.heap.size 0 1 1 [1] rfl rfl hcs (by have := HP.out; simp; omega) (Nat.le_trans HVI.out.2.2.2 (Nat.le_trans HBV.out.size gI.size)) ?_; intro v' w5 ho2 hg2 hat; have HQ : Hid (SaI w1 v' (P ++ [true]) w5) := HAp.out V HBV.out true v' w5 ho2 hg2; clear ho2 hg2 hat hcs gI)
              go_roundw
              case rel => exact ⟨k + 1, P ++ [true], by omega, by go_num, by rw [List.length_append, HP.out]; rfl, HQ, HE3⟩
              case measure => simp [intOf]; omega
            · have HE3 : Hid (R = (saidL rr (l.drop (k + 1)) (P ++ [false])).getLastD false) := (show _ = _ by rw [HE2.out, HSay.out]; simp [k2])
              rw [k2] at d0
              clear HE2 HSay k2
              go_wp2_with (at_builtin; have gI : Below V.heap.size V (V.alloc (.cells #[.int .i64 0] 3)) := (by go_grown); have hcs : Cs intL 1 (V.alloc (.cells #[.int .i64 0] 3)) V.heap.size 0 [0] := cs_new (k := intL) (s := 1) V 0 3; refine wpList_appK kdI ktI rfl (.tmp 91) (.tmp 92) rfl w1.heap.size (.slice a5 k c5) (P.map bi) rfl (own_below HVI.out.1.row.own ((HGr.out V HBV.out).trans (gI.mono (HGr.out V HBV.out).size))) V.heap.size 0 1 1 [0] rfl rfl hcs (by have := HP.out; simp; omega) (Nat.le_trans HVI.out.2.2.2 (Nat.le_trans HBV.out.size gI.size)) ?_; intro v' w5 ho2 hg2 hat; have HQ : Hid (SaI w1 v' (P ++ [false]) w5) := HAp.out V HBV.out false v' w5 ho2 hg2; clear ho2 hg2 hat hcs gI)
              go_roundw
              case rel => exact ⟨k + 1, P ++ [false], by omega, by go_num, by rw [List.length_append, HP.out]; rfl, HQ, HE3⟩
              case measure => simp [intOf]; omega
            · have hq : saysB x P rr = holdsB x.t rr := by
                rw [HSay.out, if_neg (by omega), if_pos k3]
                refine hasB_one ?_ rr
                have h := HRn.out
                unfold rnB at h
                rw [if_neg (by omega), if_pos k3, Bool.and_eq_true] at h
                obtain ⟨r1, r2, _⟩ := (trB_iff _).1 h.1
                exact ⟨r1, r2⟩
              have hfr : 1 ≤ x.t.f ∧ x.t.f ≤ 9 := by
                have h := HRn.out
                unfold rnB at h
                rw [if_neg (by omega), if_pos k3, Bool.and_eq_true] at h
                obtain ⟨r1, r2, _⟩ := (trB_iff _).1 h.1
                exact ⟨r1, r2⟩
              have HC3 : Hid (Calls Try.prog 42 #[.agg #[.int .i64 x.t.f, cv x.t.v, cv x.t.m], .slice b vn vc] V fun e w' => e = .returned (.bool (holdsB x.t rr)) ∧ Below V.heap.size V w' ∧ w'.cell? ⟨nb0, 0, none⟩ = some (.int .i64 x.k)) := (show Calls _ _ _ _ _ from (HHo.out x.t V HVI.out.2.2.1 hfr).mono fun e w' ⟨p1, p2⟩ => ⟨p1, p2, (p2.cell (p := ⟨nb0, 0, none⟩) HNb.out).trans d0⟩)
              rw [k3] at d0 HC3
              rw [hq] at HE2
              generalize holdsB x.t rr = q at *
              clear HSay k3 hq hfr
              cases q with
              | true =>
                have HE3 : Hid _ := HE2
                clear HE2
                go_wp2_with (first
                  | (go_at_call 42; refine HC3.out.mono ?_; rintro e w4 ⟨rfl, h1, h2⟩; have HBw4 : Hid (Below V.heap.size V w4) := h1; clear h1)
                  | (at_builtin; have gI : Below w4.heap.size w4 (w4.alloc (.cells #[.int .i64 1] 3)) := (by go_grown); have hcs : Cs intL 1 (w4.alloc (.cells #[.int .i64 1] 3)) w4.heap.size 0 [1] := cs_new (k := intL) (s := 1) w4 1 3; refine wpList_appK kdI ktI rfl (.tmp 88) (.tmp 89) rfl w1.heap.size (.slice a5 k c5) (P.map bi) rfl (own_below HVI.out.1.row.own ((HGr.out w4 HBw4.out).trans (gI.mono (HGr.out w4 HBw4.out).size))) w4.heap.size 0 1 1 [1] rfl rfl hcs (by have := HP.out; simp; omega) (Nat.le_trans HVI.out.2.2.2 (Nat.le_trans HBw4.out.size gI.size)) ?_; intro v' w5 ho2 hg2 hat; have HQ : Hid (SaI w1 v' (P ++ [true]) w5) := HAp.out w4 HBw4.out true v' w5 ho2 hg2; clear ho2 hg2 hat hcs gI))
                go_roundw
                case rel => exact ⟨k + 1, P ++ [true], by omega, by go_num, by rw [List.length_append, HP.out]; rfl, HQ, HE3⟩
                case measure => simp [intOf]; omega
              | false =>
                have HE3 : Hid _ := HE2
                clear HE2
                go_wp2_with (first
                  | (go_at_call 42; refine HC3.out.mono ?_; rintro e w4 ⟨rfl, h1, h2⟩; have HBw4 : Hid (Below V.heap.size V w4) := h1; clear h1)
                  | (at_builtin; have gI : Below w4.heap.size w4 (w4.alloc (.cells #[.int .i64 0] 3)) := (by go_grown); have hcs : Cs intL 1 (w4.alloc (.cells #[.int .i64 0] 3)) w4.heap.size 0 [0] := cs_new (k := intL) (s := 1) w4 0 3; refine wpList_appK kdI ktI rfl (.tmp 91) (.tmp 92) rfl w1.heap.size (.slice a5 k c5) (P.map bi) rfl (own_below HVI.out.1.row.own ((HGr.out w4 HBw4.out).trans (gI.mono (HGr.out w4 HBw4.out).size))) w4.heap.size 0 1 1 [0] rfl rfl hcs (by have := HP.out; simp; omega) (Nat.le_trans HVI.out.2.2.2 (Nat.le_trans HBw4.out.size gI.size)) ?_; intro v' w5 ho2 hg2 hat; have HQ : Hid (SaI w1 v' (P ++ [false]) w5) := HAp.out w4 HBw4.out false v' w5 ho2 hg2; clear ho2 hg2 hat hcs gI))
                go_roundw
                case rel => exact ⟨k + 1, P ++ [false], by omega, by go_num, by rw [List.length_append, HP.out]; rfl, HQ, HE3⟩
                case measure => simp [intOf]; omega
            · have hq : saysB x P rr = decide (y = x.s.length) := by rw [HSay.out]; simp [k4]
              rw [hq] at HE2
              rw [k4] at d0
              clear HSay k4 hq
              by_cases hc : y = x.s.length
              · have HE3 : Hid (R = (saidL rr (l.drop (k + 1)) (P ++ [true])).getLastD false) := (show _ = _ by rw [HE2.out, decide_eq_true hc])
                have j1 : (y : Int) = (x.s.length : Int) := by omega
                have j2 : decide ((y : Int) = (x.s.length : Int)) = true := decide_eq_true j1
                have j3 : ((y : Int) == (x.s.length : Int)) = true := by simpa using j1
                clear HE2 hc
                go_wp2_with (at_builtin; have gI : Below V.heap.size V (V.alloc (.cells #[.int .i64 1] 3)) := (by go_grown); have hcs : Cs intL 1 (V.alloc (.cells #[.int .i64 1] 3)) V.heap.size 0 [1] := cs_new (k := intL) (s := 1) V 1 3; refine wpList_appK kdI ktI rfl (.tmp 88) (.tmp 89) rfl w1.heap.size (.slice a5 k c5) (P.map bi) rfl (own_below HVI.out.1.row.own ((HGr.out V HBV.out).trans (gI.mono (HGr.out V HBV.out).size))) V.heap.size 0 1 1 [1] rfl rfl hcs (by have := HP.out; simp; omega) (Nat.le_trans HVI.out.2.2.2 (Nat.le_trans HBV.out.size gI.size)) ?_; intro v' w5 ho2 hg2 hat; have HQ : Hid (SaI w1 v' (P ++ [true]) w5) := HAp.out V HBV.out true v' w5 ho2 hg2; clear ho2 hg2 hat hcs gI)
                go_roundw
                case rel => exact ⟨k + 1, P ++ [true], by omega, by go_num, by rw [List.length_append, HP.out]; rfl, HQ, HE3⟩
                case measure => simp [intOf]; omega
              · have HE3 : Hid (R = (saidL rr (l.drop (k + 1)) (P ++ [false])).getLastD false) := (show _ = _ by rw [HE2.out, decide_eq_false hc])
                have j1 : ¬ (y : Int) = (x.s.length : Int) := by omega
                have j2 : decide ((y : Int) = (x.s.length : Int)) = false := decide_eq_false j1
                have j3 : ((y : Int) == (x.s.length : Int)) = false := by simpa using j1
                clear HE2 hc
                go_wp2_with (at_builtin; have gI : Below V.heap.size V (V.alloc (.cells #[.int .i64 0] 3)) := (by go_grown); have hcs : Cs intL 1 (V.alloc (.cells #[.int .i64 0] 3)) V.heap.size 0 [0] := cs_new (k := intL) (s := 1) V 0 3; refine wpList_appK kdI ktI rfl (.tmp 91) (.tmp 92) rfl w1.heap.size (.slice a5 k c5) (P.map bi) rfl (own_below HVI.out.1.row.own ((HGr.out V HBV.out).trans (gI.mono (HGr.out V HBV.out).size))) V.heap.size 0 1 1 [0] rfl rfl hcs (by have := HP.out; simp; omega) (Nat.le_trans HVI.out.2.2.2 (Nat.le_trans HBV.out.size gI.size)) ?_; intro v' w5 ho2 hg2 hat; have HQ : Hid (SaI w1 v' (P ++ [false]) w5) := HAp.out V HBV.out false v' w5 ho2 hg2; clear ho2 hg2 hat hcs gI)
                go_roundw
                case rel => exact ⟨k + 1, P ++ [false], by omega, by go_num, by rw [List.length_append, HP.out]; rfl, HQ, HE3⟩
                case measure => simp [intOf]; omega
            · have hq : saysB x P rr = decide (0 < y) := by rw [HSay.out]; simp [k5]
              rw [hq] at HE2
              rw [k5] at d0
              clear HSay k5 hq
              by_cases hc : 0 < y
              · have HE3 : Hid (R = (saidL rr (l.drop (k + 1)) (P ++ [true])).getLastD false) := (show _ = _ by rw [HE2.out, decide_eq_true hc])
                have j1 : (0 : Int) < (y : Int) := by omega
                have j2 : decide ((0 : Int) < (y : Int)) = true := decide_eq_true j1
                skip
                clear HE2 hc
                go_wp2_with (at_builtin; have gI : Below V.heap.size V (V.alloc (.cells #[.int .i64 1] 3)) := (by go_grown); have hcs : Cs intL 1 (V.alloc (.cells #[.int .i64 1] 3)) V.heap.size 0 [1] := cs_new (k := intL) (s := 1) V 1 3; refine wpList_appK kdI ktI rfl (.tmp 88) (.tmp 89) rfl w1.heap.size (.slice a5 k c5) (P.map bi) rfl (own_below HVI.out.1.row.own ((HGr.out V HBV.out).trans (gI.mono (HGr.out V HBV.out).size))) V.heap.size 0 1 1 [1] rfl rfl hcs (by have := HP.out; simp; omega) (Nat.le_trans HVI.out.2.2.2 (Nat.le_trans HBV.out.size gI.size)) ?_; intro v' w5 ho2 hg2 hat; have HQ : Hid (SaI w1 v' (P ++ [true]) w5) := HAp.out V HBV.out true v' w5 ho2 hg2; clear ho2 hg2 hat hcs gI)
                go_roundw
                case rel => exact ⟨k + 1, P ++ [true], by omega, by go_num, by rw [List.length_append, HP.out]; rfl, HQ, HE3⟩
                case measure => simp [intOf]; omega
              · have HE3 : Hid (R = (saidL rr (l.drop (k + 1)) (P ++ [false])).getLastD false) := (show _ = _ by rw [HE2.out, decide_eq_false hc])
                have j1 : ¬ (0 : Int) < (y : Int) := by omega
                have j2 : decide ((0 : Int) < (y : Int)) = false := decide_eq_false j1
                skip
                clear HE2 hc
                go_wp2_with (at_builtin; have gI : Below V.heap.size V (V.alloc (.cells #[.int .i64 0] 3)) := (by go_grown); have hcs : Cs intL 1 (V.alloc (.cells #[.int .i64 0] 3)) V.heap.size 0 [0] := cs_new (k := intL) (s := 1) V 0 3; refine wpList_appK kdI ktI rfl (.tmp 91) (.tmp 92) rfl w1.heap.size (.slice a5 k c5) (P.map bi) rfl (own_below HVI.out.1.row.own ((HGr.out V HBV.out).trans (gI.mono (HGr.out V HBV.out).size))) V.heap.size 0 1 1 [0] rfl rfl hcs (by have := HP.out; simp; omega) (Nat.le_trans HVI.out.2.2.2 (Nat.le_trans HBV.out.size gI.size)) ?_; intro v' w5 ho2 hg2 hat; have HQ : Hid (SaI w1 v' (P ++ [false]) w5) := HAp.out V HBV.out false v' w5 ho2 hg2; clear ho2 hg2 hat hcs gI)
                go_roundw
                case rel => exact ⟨k + 1, P ++ [false], by omega, by go_num, by rw [List.length_append, HP.out]; rfl, HQ, HE3⟩
                case measure => simp [intOf]; omega
            · have hq : saysB x P rr = decide (y = 0) := by rw [HSay.out]; simp [k6]
              rw [hq] at HE2
              rw [k6] at d0
              clear HSay k6 hq
              by_cases hc : y = 0
              · have HE3 : Hid (R = (saidL rr (l.drop (k + 1)) (P ++ [true])).getLastD false) := (show _ = _ by rw [HE2.out, decide_eq_true hc])
                have j1 : (y : Int) = 0 := by omega
                have j2 : decide ((y : Int) = 0) = true := decide_eq_true j1
                have j3 : ((y : Int) == 0) = true := by simpa using j1
                clear HE2 hc
                go_wp2_with (at_builtin; have gI : Below V.heap.size V (V.alloc (.cells #[.int .i64 1] 3)) := (by go_grown); have hcs : Cs intL 1 (V.alloc (.cells #[.int .i64 1] 3)) V.heap.size 0 [1] := cs_new (k := intL) (s := 1) V 1 3; refine wpList_appK kdI ktI rfl (.tmp 88) (.tmp 89) rfl w1.heap.size (.slice a5 k c5) (P.map bi) rfl (own_below HVI.out.1.row.own ((HGr.out V HBV.out).trans (gI.mono (HGr.out V HBV.out).size))) V.heap.size 0 1 1 [1] rfl rfl hcs (by have := HP.out; simp; omega) (Nat.le_trans HVI.out.2.2.2 (Nat.le_trans HBV.out.size gI.size)) ?_; intro v' w5 ho2 hg2 hat; have HQ : Hid (SaI w1 v' (P ++ [true]) w5) := HAp.out V HBV.out true v' w5 ho2 hg2; clear ho2 hg2 hat hcs gI)
                go_roundw
                case rel => exact ⟨k + 1, P ++ [true], by omega, by go_num, by rw [List.length_append, HP.out]; rfl, HQ, HE3⟩
                case measure => simp [intOf]; omega
              · have HE3 : Hid (R = (saidL rr (l.drop (k + 1)) (P ++ [false])).getLastD false) := (show _ = _ by rw [HE2.out, decide_eq_false hc])
                have j1 : ¬ (y : Int) = 0 := by omega
                have j2 : decide ((y : Int) = 0) = false := decide_eq_false j1
                have j3 : ((y : Int) == 0) = false := by simpa using j1
                clear HE2 hc
                go_wp2_with (at_builtin; have gI : Below V.heap.size V (V.alloc (.cells #[.int .i64 0] 3)) := (by go_grown); have hcs : Cs intL 1 (V.alloc (.cells #[.int .i64 0] 3)) V.heap.size 0 [0] := cs_new (k := intL) (s := 1) V 0 3; refine wpList_appK kdI ktI rfl (.tmp 91) (.tmp 92) rfl w1.heap.size (.slice a5 k c5) (P.map bi) rfl (own_below HVI.out.1.row.own ((HGr.out V HBV.out).trans (gI.mono (HGr.out V HBV.out).size))) V.heap.size 0 1 1 [0] rfl rfl hcs (by have := HP.out; simp; omega) (Nat.le_trans HVI.out.2.2.2 (Nat.le_trans HBV.out.size gI.size)) ?_; intro v' w5 ho2 hg2 hat; have HQ : Hid (SaI w1 v' (P ++ [false]) w5) := HAp.out V HBV.out false v' w5 ho2 hg2; clear ho2 hg2 hat hcs gI)
                go_roundw
                case rel => exact ⟨k + 1, P ++ [false], by omega, by go_num, by rw [List.length_append, HP.out]; rfl, HQ, HE3⟩
                case measure => simp [intOf]; omega
      · have hkn : k = n := by omega
        subst hkn
        have HRes : Hid (R = P.getD (k - 1) false) := (show _ = _ by
          rw [HE.out, List.drop_of_length_le (by have := HN.out; omega)]
          show P.getLastD false = _
          rw [List.getLastD_eq_getLast?, List.getLast?_eq_getElem?, HP.out, List.getD_eq_getElem?_getD])
        obtain ⟨N, hN⟩ : ∃ N, k = N + 1 := ⟨k - 1, by omega⟩
        subst hN
        rw [Nat.add_sub_cancel] at HRes
        obtain ⟨g5, c5', hf5, f0⟩ := said_at HI.out.row.own (m := N) (by have := HP.out; omega)
        obtain ⟨e1, e8, e2⟩ := Value.slice.inj hf5
        subst e1
        subst e2
        clear e8
        rw [← HRes.out] at f0
        have e9 := bi_one R
        have HBf : Hid (Below w.heap.size w wr) := (show Below _ _ _ from HG.out.1.trans (HBr.out.mono (by have := HG.out.2; omega)))
        clear HI HE HRes hf5 HBr
        cases R with
        | true =>
          have f1 : bi true = 1 := rfl
          rw [f1] at f0
          go_wp2_with fail
          go_ret
          exact ⟨rfl, HBf.out⟩
        | false =>
          have f1 : bi false = 0 := rfl
          rw [f1] at f0
          go_wp2_with fail
          go_ret
          exact ⟨rfl, HBf.out⟩
end Go.Proofs.Ytmobmpghpdaddaa

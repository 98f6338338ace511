/-
  Eval.
-/
import Derived.Test.YtmobmpghpdaddaaSays
namespace Go.Proofs.Ytmobmpghpdaddaa
open Go.ChangeShapes Go.WideShapes Go.ChangeAt Go.RowKit
set_option linter.unusedVariables false
set_option linter.unusedSimpArgs false

/-- What the nodes say, one behind the other. -/
def saidL (r : Nat → B64) : List Nd → List Bool → List Bool
  | [], P => P
  | x :: l, P => saidL r l (P ++ [saysB x P r])
def evalB (r : Nat → B64) (l : List Nd) : Bool := rightB l && (saidL r l []).getLastD false
def fullB (n : Nat) (P : List Bool) : List Bool := (List.range n).map fun i => P.getD i false
theorem fullB_len (n : Nat) (P : List Bool) : (fullB n P).length = n := by simp [fullB]
theorem fullB_get (n : Nat) (P : List Bool) (i : Nat) (h : i < (fullB n P).length) : (fullB n P)[i] = P.getD i false := by simp [fullB]
theorem fullB_getD (n : Nat) (P : List Bool) (hP : P.length ≤ n) (i : Nat) : (fullB n P).getD i false = P.getD i false := by
  by_cases h : i < n
  · rw [List.getD_eq_getElem?_getD, List.getElem?_eq_getElem (by rw [fullB_len]; exact h), fullB_get]
    rfl
  · rw [List.getD_eq_getElem?_getD, List.getElem?_eq_none (by rw [fullB_len]; omega), List.getD_eq_getElem?_getD, List.getElem?_eq_none (by omega)]
theorem saysB_full (x : Nd) (n : Nat) (P : List Bool) (hP : P.length ≤ n) (r : Nat → B64) : saysB x (fullB n P) r = saysB x P r := by
  unfold saysB yesC
  simp only [fullB_getD n P hP]
theorem saidL_len (r : Nat → B64) : ∀ (l : List Nd) (P : List Bool), (saidL r l P).length = P.length + l.length
  | [], P => rfl
  | x :: l, P => by
    show (saidL r l (P ++ [saysB x P r])).length = _
    rw [saidL_len r l]
    simp
    omega
/-- What has been said, in memory. -/
structure EvI (U : World) (b n : Nat) (P : List Bool) (wr : World) : Prop where
  cl : ∀ i, i < n → wr.cell? ⟨b, i, none⟩ = some (.bool (P.getD i false))
  wri : wr.there b 0 n
  lt : b < wr.heap.size
  lo : U.heap.size ≤ b
  bel : Below U.heap.size U wr
theorem EvI.grow {U wr w' : World} {b n : Nat} {P : List Bool} (h : EvI U b n P wr) (g : Below wr.heap.size wr w') : EvI U b n P w' :=
  ⟨fun i hi => (g.cell (p := ⟨b, i, none⟩) h.lt).trans (h.cl i hi), there_block h.wri (g.block _ h.lt), Nat.lt_of_lt_of_le h.lt g.size, h.lo, btr h.bel g (Nat.le_refl _)⟩
theorem EvI.bs {U wr : World} {b n : Nat} {P : List Bool} (h : EvI U b n P wr) : Bs wr (some ⟨b, 0, none⟩) (fullB n P) := by
  refine .inr ⟨b, 0, rfl, h.lt, fun i hi => ?_⟩
  rw [fullB_get, Nat.zero_add]
  exact h.cl i (by rwa [fullB_len] at hi)
theorem EvI.set {U wr : World} {b n : Nat} {P : List Bool} (h : EvI U b n P wr) (hn : P.length < n) (q : Bool) : EvI U b n (P ++ [q]) (wr.setCell ⟨b, P.length, none⟩ (.bool q)) := by
  refine ⟨fun i hi => ?_, there_set h.wri _ _, by simpa [World.setCell] using h.lt, h.lo, h.bel.setCell (by simpa using h.lo) _⟩
  by_cases e : i = P.length
  · subst e
    rw [World.cell?_setCell_same _ _ _ (h.cl _ hi)]
    simp
  · rw [World.cell?_setCell_other _ _ _ _ (fun e' => e (by have := (Addr.mk.inj e').2.1; omega)), h.cl i hi]
    congr 2
    rw [List.getD_eq_getElem?_getD, List.getD_eq_getElem?_getD, List.getElem?_append]
    split
    · rfl
    · rw [List.getElem?_eq_none (by omega), List.getElem?_eq_none (by simp; omega)]
theorem infoBo : (Try.prog.info? 4).map (fun i => (i.zero, i.size, i.bytes)) = some (some (.bool false), 1, 1) := by kernel_rfl
theorem wpList_bools (w : World) {ops : Array Oper} {rest : List Oper} {o : Oper} {a : Go.Act} {Q : Exit → Go.Act → World → Prop} (hg : o.guard = none) (l c : Operand) (ho : o.op = .makeSlice 64 l c) (n : Nat) (hl : a.eval l = .int .i64 (n : Int)) (hc : a.eval c = .int .i64 (n : Int)) (hn : n ≤ 1000)
    (h : ∀ V, EvI w w.heap.size n [] V → wpList Try.prog ops Q rest (a.put o.dst (.slice (some ⟨w.heap.size, 0, none⟩) n n)) V) : wpList Try.prog ops Q (o :: rest) a w := by
  obtain ⟨i0, hi, hz0, hz1, hz2⟩ := info_parts infoBo
  refine wpList_make_row w hg l c 64 ho 4 i0 (.bool false) Try.underlying64 hi hz0 hz1 rfl .i64 .i64 n hl hc (by rw [hz2]; omega) (by omega) (h _ ⟨fun i hi => ?_, ?_, by simp, Nat.le_refl _, by go_grown⟩)
  · have hh : (w.alloc (.cells (madeCells #[.bool false] n) 4)).heap[w.heap.size]? = some (.cells (madeCells #[.bool false] n) 4 (0, 0)) := heap_alloc_new w _
    rw [cell_of_row _ _ _ _ _ _ hh]
    simp [madeCells, hi, Nat.mod_one]
  · exact there_new w (madeCells #[.bool false] n) 4 n (size_madeCells _ _)
/-- A row in a box. -/
theorem box_row (w : World) (r : Nat → B64) : ∃ V, (w.alloc (.cells (rowA zeroR) 62)).setCells w.heap.size 0 (rowL r) = V ∧ R10 V w.heap.size 0 r ∧ Below w.heap.size w V ∧ V.heap.size = w.heap.size + 1 ∧ (w.alloc (.cells (rowA zeroR) 62)).there w.heap.size 0 10 :=
  ⟨_, rfl, stored_row (there_new w _ 62 10 (rowA_size _)) r, below_setCells (by go_grown) (Nat.le_refl _) _ _, by rw [size_setCells]; simp, there_new w _ 62 10 (rowA_size _)⟩
set_option maxRecDepth 20000 in
set_option maxHeartbeats 8000000 in
theorem eval_any (a : Option Addr) (l : List Nd) (cap : Nat) (b : Option Addr) (vs : List B64) (vc : Nat) (w : World) (hs : Ns w a l) (ht : Vs w b vs) (hl : l.length ≤ 9223372036854775807) (hss : ∀ x ∈ l, x.s.length ≤ 9223372036854775807) :
    Calls Try.prog 11 #[.agg #[.slice a l.length cap], .slice b vs.length vc] w fun e w' => e = .returned (.bool (evalB (valR vs) l)) ∧ Below w.heap.size w w' := by
  obtain ⟨X, hX⟩ : ∃ X, w.alloc (.cells #[.slice a l.length cap] 24) = X := ⟨_, rfl⟩
  have gX : Below w.heap.size w X := by rw [← hX]; go_grown
  have cX : X.cell? ⟨w.heap.size, 0, none⟩ = some (.slice a l.length cap) := by rw [← hX]; simp
  have zX : X.heap.size = w.heap.size + 1 := by rw [← hX]; simp
  have HG : Hid (Below w.heap.size w X ∧ w.heap.size < X.heap.size) := ⟨gX, by omega⟩
  have HCd : Hid (∀ u, Below X.heap.size X u → u.cell? ⟨w.heap.size, 0, none⟩ = some (.slice a l.length cap)) := (show ∀ u, _ from fun u g => (g.cell (p := ⟨w.heap.size, 0, none⟩) (by show w.heap.size < _; omega)).trans cX)
  have HR : Hid (Calls Try.prog 9 #[.agg #[.slice a l.length cap]] X fun e w' => e = .returned (.bool (rightB l)) ∧ Below X.heap.size X w') := (show Calls _ _ _ _ _ from right_any a l cap X (hs.below gX) hl hss)
  have HV : Hid (∀ u, Below X.heap.size X u → Calls Try.prog 40 #[.slice b vs.length vc] u fun e w' => e = .returned (.agg (rowA (valR vs))) ∧ Below u.heap.size u w') := (show ∀ u, _ from fun u g => rowOf_any b vs vc u ((ht.below gX).below g))
  have HS : Hid (Ns X a l) := hs.below gX
  clear hs ht gX zX hss
  cases hb : rightB l with
  | false =>
    have HE : Hid (evalB (valR vs) l = false) := (show _ = _ by unfold evalB; rw [hb]; rfl)
    rw [hb] at HR
    clear hb
    go_enter Try.func11, Try.ntmps11
    go_wp2_with (go_at_call 9; refine HR.out.mono ?_; rintro r w1 ⟨rfl, hb⟩; have HB1 : Hid (Below X.heap.size X w1) := hb; clear hb)
    go_ret
    exact ⟨by rw [HE.out]; rfl, btr HG.out.1 HB1.out (by have := HG.out.2; omega)⟩
  | true =>
    have HRb : Hid (rightB l = true) := hb
    obtain ⟨h1, h60⟩ := rightB_len hb
    have HE : Hid (evalB (valR vs) l = (saidL (valR vs) l []).getLastD false) := (show _ = _ by unfold evalB; rw [hb]; rfl)
    obtain ⟨R, hR⟩ : ∃ R, evalB (valR vs) l = R := ⟨_, rfl⟩
    rw [hR] at HE ⊢
    obtain ⟨rr, hrr⟩ : ∃ rr, valR vs = rr := ⟨_, rfl⟩
    rw [hrr] at HE HV
    rw [hb] at HR
    clear hb hR hrr
    go_enter Try.func11, Try.ntmps11
    go_wp2_with (first
      | (go_at_call 9; refine HR.out.mono ?_; rintro r w1 ⟨rfl, hb⟩; have HB1 : Hid (Below X.heap.size X w1) := hb; have cc1 := HCd.out _ hb; clear hb HR)
      | (go_at_call 40; refine (HV.out _ HB1.out).mono ?_; rintro r w2 ⟨rfl, hb⟩; have HB2 : Hid (Below X.heap.size X w2) := (show Below _ _ _ from btr HB1.out hb (Nat.le_refl _)); (obtain ⟨V2, hV2, k1, k2, k3, k4⟩ := box_row w2 rr); have HV2 : Hid ((w2.alloc (.cells (rowA zeroR) 62)).setCells w2.heap.size 0 (rowL rr) = V2 ∧ R10 V2 w2.heap.size 0 rr ∧ V2.heap.size = w2.heap.size + 1 ∧ (w2.alloc (.cells (rowA zeroR) 62)).there w2.heap.size 0 10 ∧ Below X.heap.size X V2) := ⟨hV2, k1, k3, k4, btr HB2.out k2 (Nat.le_refl _)⟩; have cc2 := HCd.out _ HV2.out.2.2.2.2; clear hb hV2 k1 k2 k3 k4 HV)
      | (rw [zero_row]; refine store_row rfl (.tmp 5) (.tmp 13) rfl w2.heap.size 0 rfl rr rfl HV2.out.2.2.2.1 ?_; rw [HV2.out.1])
      | (refine wpList_bools V2 rfl (.tmp 16) (.tmp 16) rfl l.length rfl rfl (by omega) ?_; intro V3 hV3; have HE3 : Hid (EvI V2 V2.heap.size l.length [] V3) := hV3; have cc3 := HCd.out V3 (btr HV2.out.2.2.2.2 hV3.bel (Nat.le_refl _)); clear hV3))
    have H0 : Hid (R = (saidL rr (l.drop 0) []).getLastD false) := (show _ = _ from HE.out)
    have HRow : Hid (R10 V2 w2.heap.size 0 rr ∧ w2.heap.size < V2.heap.size) := ⟨HV2.out.2.1, by have := HV2.out.2.2.1; omega⟩
    have HBV : Hid (Below X.heap.size X V2) := HV2.out.2.2.2.2
    obtain ⟨sb, hsb⟩ : ∃ sb, V2.heap.size = sb := ⟨_, rfl⟩
    have HSb : Hid (V2.heap.size = sb) := hsb
    rw [hsb] at HE3
    rw [hsb]
    clear hsb HE HV2 HCd cX cc1 cc2 cc3 hX
    obtain ⟨n, hn⟩ : ∃ n, l.length = n := ⟨_, rfl⟩
    have HN : Hid (l.length = n) := hn
    rw [hn] at HE3 h1 h60 hl ⊢
    clear hn
    go_loopw [21] (fun v21 wr => ∃ (k : Nat) (P : List Bool), k ≤ n ∧ v21 = .int .i64 k ∧ Hid (P.length = k) ∧ Hid (EvI V2 sb n P wr) ∧ Hid (R = (saidL rr (l.drop k) P).getLastD false)) (fun v21 _ => n - (intOf v21).toNat)
    case atStart => exact ⟨0, [], Nat.zero_le _, rfl, rfl, HE3, H0⟩
    case round =>
      obtain ⟨k, P, hk, rfl, HP, HI, HE⟩ := hrel
      clear H0 HE3
      by_cases hlt : k < n
      · have hkl : k < l.length := by have := HN.out; omega
        obtain ⟨g, o, rfl, hg, bb, c, hN, hc, hIs⟩ := (((HS.out.below HBV.out).below HI.out.bel)).at hkl
        have HE2 : Hid (R = (saidL rr (l.drop (k + 1)) (P ++ [saysB l[k] P rr])).getLastD false) := (show _ = _ by rw [HE.out, List.drop_eq_getElem_cons hkl]; rfl)
        have hrn := rightB_at HRb.out k hkl
        obtain ⟨x, hx⟩ : ∃ y, l[k] = y := ⟨_, rfl⟩
        rw [hx] at hN hIs HE2 hrn hc
        obtain ⟨V, hV, hNV, gV, zV⟩ := boxN wr x bb c
        have HIV : Hid (EvI V2 sb n P V) := HI.out.grow gV
        have HSy : Hid (Calls Try.prog 41 #[ndV x bb c, .slice (some ⟨sb, 0, none⟩) n n, .agg (rowA rr)] V fun e w' => e = .returned (.bool (saysB x P rr)) ∧ Below V.heap.size V w') := (show Calls _ _ _ _ _ by
          have hPn : P.length ≤ n := by have := HP.out; omega
          have := says_any x bb c (some ⟨sb, 0, none⟩) (fullB n P) n rr V (hIs.below gV) HIV.out.bs (fun i hi => by
            have := rnB_subs hrn i hi
            rw [fullB_len]
            omega) (fun h3 => by
            unfold rnB at hrn
            rw [if_neg (by omega), if_pos h3, Bool.and_eq_true] at hrn
            obtain ⟨r1, r2, _⟩ := (trB_iff _).1 hrn.1
            exact ⟨r1, r2⟩) (rnB_len hrn) (by rw [fullB_len]; omega)
          rw [fullB_len, saysB_full x n P hPn] at this
          exact this)
        have HRw : Hid (R10 V w2.heap.size 0 rr) := (show R10 _ _ _ _ from (HRow.out.1.below HRow.out.2 HIV.out.bel))
        obtain ⟨q, hq⟩ : ∃ q, saysB x P rr = q := ⟨_, rfl⟩
        rw [hq] at HSy HE2
        have HSy2 : Hid (Calls Try.prog 41 #[ndV x bb c, .slice (some ⟨sb, 0, none⟩) n n, .agg (rowA rr)] V fun e w' => e = .returned (.bool q) ∧ EvI V2 sb n P w' ∧ (w'.cell? ⟨sb, k, none⟩).isSome = true ∧ w'.frozen? ⟨sb, k, none⟩ = false ∧ EvI V2 sb n (P ++ [q]) (w'.setCell ⟨sb, k, none⟩ (.bool q))) := (show Calls _ _ _ _ _ from HSy.out.mono fun e w' ⟨p1, p2⟩ => by
          have h' := HIV.out.grow p2
          have hw := h'.wri k hlt
          rw [Nat.zero_add] at hw
          have hset := h'.set (by have := HP.out; omega) q
          rw [HP.out] at hset
          exact ⟨p1, h', hw.1, hw.2, hset⟩)
        obtain ⟨c0, c1, c2, c3, c4⟩ := hN
        obtain ⟨d0, d1, d2, d3, d4⟩ := hNV
        clear hq HSy HE hrn hx hIs hc gV zV
        go_wp2_with (first
          | (refine load_row rfl (.tmp 5) rfl w2.heap.size 0 rfl rr HRw.out ?_)
          | (go_at_call 41; refine HSy2.out.mono ?_; rintro r w4 ⟨rfl, p2, p3, p4, p5⟩; (obtain ⟨v0, q3⟩ := Option.isSome_iff_exists.1 p3); have HQ : Hid (EvI V2 sb n (P ++ [q]) (w4.setCell ⟨sb, k, none⟩ (.bool q))) := p5; clear p2 p3 p5))
        go_roundw
        case rel => exact ⟨k + 1, P ++ [q], by omega, by go_num, by rw [List.length_append, HP.out]; rfl, HQ, HE2⟩
        case measure => simp [intOf]; omega
      · have hkn : k = n := by omega
        subst hkn
        have HRes : Hid (R = P.getD (k - 1) false) := (show _ = _ by
          rw [HE.out, List.drop_of_length_le (by have := HN.out; omega)]
          show P.getLastD false = _
          rw [List.getLastD_eq_getLast?, List.getLast?_eq_getElem?, HP.out, List.getD_eq_getElem?_getD])
        have e0 := HI.out.cl (k - 1) (by omega)
        rw [← HRes.out] at e0
        obtain ⟨N, hN⟩ : ∃ N, k = N + 1 := ⟨k - 1, by omega⟩
        subst hN
        rw [Nat.add_sub_cancel] at e0
        have HBf : Hid (Below w.heap.size w wr) := (show Below _ _ _ from (HG.out.1.trans (HBV.out.mono (by have := HG.out.2; omega))).trans (HI.out.bel.mono (by have := HBV.out.size; have := HG.out.2; omega)))
        clear HI HE HRes
        go_wp2_with fail
        go_ret
        exact ⟨rfl, HBf.out⟩
end Go.Proofs.Ytmobmpghpdaddaa

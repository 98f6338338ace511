/-
  PredCubes, walked.
-/
import Derived.Test.YtmobmpghpdaddaaRefU
import Derived.Test.YtmobmpghpdaddaaLawUse
namespace Go.Proofs.Ytmobmpghpdaddaa
open Go.ChangeShapes Go.WideShapes Go.ChangeAt Go.RowKit
set_option linter.unusedVariables false
set_option linter.unusedSimpArgs false

/-- An answer that may be written over: its headers, and where their tests lie. -/
structure OvI (B b : Nat) (l : List K) (wr : World) : Prop where
  ex : ∃ hs : List Hd, hs.length = l.length ∧ (∀ i (h : i < hs.length), wr.cell? ⟨b, i, none⟩ = some (hdV hs[i])) ∧ (∀ i (h : i < hs.length) (h' : i < l.length), hs[i].n = (toT l[i]).length ∧ hs[i].n ≤ hs[i].c ∧ (toT l[i] ≠ [] → ∃ g, hs[i].a = some ⟨g, 0, none⟩ ∧ B ≤ g ∧ g ≠ b ∧ g < wr.heap.size ∧ wr.there g 0 ((toT l[i]).length * 3)))
  lt : b < wr.heap.size
theorem cs_there {w : World} {g : Nat} {l : List Tst} (h : Cs tstL 3 w g 0 l) (hf : ∀ o, w.frozen? ⟨g, o, none⟩ = false) : w.there g 0 (l.length * 3) := fun j hj => by
  have h1 : j / 3 < l.length := by omega
  have h2 := h (j / 3) h1 (j % 3) (Nat.mod_lt _ (by omega))
  rw [show 0 + j / 3 * 3 + j % 3 = 0 + j by omega] at h2
  refine ⟨?_, hf _⟩
  rw [h2, List.getElem?_eq_getElem (by show j % 3 < 3; omega)]
  rfl
theorem FiH.wo {U wr : World} {b n : Nat} {l : List K} (h : FiH U b n l wr) : OvI U.heap.size b l wr := by
  obtain ⟨hs, h1, h2, h3⟩ := h.ex
  refine ⟨⟨hs, h1, h2, fun i i1 i2 => ?_⟩, h.lt⟩
  obtain ⟨⟨t1, t2, t3⟩, t4⟩ := h3.2 i i1 i2
  refine ⟨t1, t2, fun h0 => ?_⟩
  obtain ⟨g, e, g1, g2, g3, g4⟩ := t4 h0
  rcases t3 with t3 | ⟨g', o', e', _, h6⟩
  · exact absurd t3 h0
  · rw [e] at e'
    cases e'
    exact ⟨g, e, g1, g2, g3, cs_there h6 g4⟩
theorem OvI.at {B b : Nat} {l : List K} {wr : World} (h : OvI B b l wr) {i : Nat} (hi : i < l.length) : ∃ x c, wr.cell? ⟨b, i, none⟩ = some (.slice x (toT l[i]).length c) ∧ (toT l[i]).length ≤ c ∧ (toT l[i] ≠ [] → ∃ g, x = some ⟨g, 0, none⟩ ∧ B ≤ g ∧ g ≠ b ∧ g < wr.heap.size ∧ wr.there g 0 ((toT l[i]).length * 3)) := by
  obtain ⟨hs, h1, h2, h3⟩ := h.ex
  obtain ⟨k1, k2, k3⟩ := h3 i (by omega) hi
  refine ⟨hs[i].a, hs[i].c, ?_, by omega, k3⟩
  rw [h2 i (by omega)]
  show some (Value.slice _ hs[i].n _) = _
  rw [k1]
theorem setCells_block : ∀ (vs : List Value) (w : World) (b o : Nat) {j : Nat}, j ≠ b → (w.setCells b o vs).heap[j]? = w.heap[j]? := fun vs => by
  induction vs with
  | nil => intro w b o j h; rfl
  | cons v vs ih => intro w b o j h; exact (ih _ _ _ h).trans (setCell_block w b o v h)
theorem OvI.set {B b : Nat} {l : List K} {wr : World} (h : OvI B b l wr) (g o : Nat) (vs : List Value) (hg : g ≠ b) : OvI B b l (wr.setCells g o vs) := by
  obtain ⟨hs, h1, h2, h3⟩ := h.ex
  refine ⟨⟨hs, h1, fun i hi => ?_, fun i i1 i2 => ?_⟩, by rw [size_setCells]; exact h.lt⟩
  · exact (World.cell?_of_block (w := wr) (setCells_block vs wr g o (fun e => hg e.symm))).trans (h2 i hi)
  · obtain ⟨k1, k2, k3⟩ := h3 i i1 i2
    refine ⟨k1, k2, fun h0 => ?_⟩
    obtain ⟨q, e, q1, q2, q3, q4⟩ := k3 h0
    exact ⟨q, e, q1, q2, by rw [size_setCells]; exact q3, World.there_setCells q4 g o vs⟩
/-- While it is written over. -/
structure WrI (w1 : World) (x : Option Addr) (r : List K) (wr : World) : Prop where
  bel : Below w1.heap.size w1 wr
  ov : r ≠ [] → ∃ b, x = some ⟨b, 0, none⟩ ∧ w1.heap.size ≤ b ∧ OvI w1.heap.size b r wr
theorem WrI.set {w1 : World} {x : Option Addr} {r : List K} {wr : World} (h : WrI w1 x r wr) (g o : Nat) (vs : List Value) (hg : w1.heap.size ≤ g) (hn : ∀ b, x = some ⟨b, 0, none⟩ → g ≠ b) : WrI w1 x r (wr.setCells g o vs) := by
  refine ⟨below_setCells h.bel hg _ _, fun h0 => ?_⟩
  obtain ⟨b, e, h1, h2⟩ := h.ov h0
  exact ⟨b, e, h1, h2.set g o vs (hn b e)⟩
/-- What Cubes answers, in one form. -/
def resO (l : List Nd) : List K := if rightB l then (listO l).getD [] else []
def errO (l : List Nd) : Int := if rightB l then (match listO l with | none => 44 | some _ => 0) else 1
theorem resO_len (l : List Nd) : (resO l).length ≤ 128 := by
  unfold resO
  split
  · cases h : listO l with
    | none => simp
    | some r => exact listO_len h
  · simp
def CbU (w : World) (r : List K) (ee : Int) (e : Ending) (w' : World) : Prop :=
  ∃ x c, e = .returned (.tuple #[.slice x r.length c, .int .i64 ee]) ∧ Below w.heap.size w w' ∧ CuS w' x r ∧ (r ≠ [] → ∃ b, x = some ⟨b, 0, none⟩ ∧ w.heap.size ≤ b ∧ OvI w.heap.size b r w')
theorem CbR.u {w w' : World} {l : List Nd} {e : Ending} (h : CbR w l e w') : CbU w (resO l) (errO l) e w' := by
  unfold resO errO
  rcases h with ⟨h1, h2, h3⟩ | ⟨h1, h2, h3, h4⟩ | ⟨h1, r, b, h2, h3, h4⟩
  · simp only [h1, Bool.false_eq_true, if_false]
    exact ⟨none, 0, h2, h3, .inl rfl, fun h => absurd rfl h⟩
  · simp only [h1, h2, if_true]
    exact ⟨none, 0, h3, h4, .inl rfl, fun h => absurd rfl h⟩
  · simp only [h1, h2, if_true]
    exact ⟨some ⟨b, 0, none⟩, r.length, h3, h4.bel, h4.cus, fun _ => ⟨b, rfl, h4.lo, h4.wo⟩⟩
theorem CdR.u {w w' : World} {l : List Nd} {e : Ending} (h : CdR w l e w') : ∃ x c, e = .returned (.tuple #[.slice x (resO l).length c, .int .i64 (errO l)]) ∧ Below w.heap.size w w' ∧ CuS w' x (resO l) := by
  unfold resO errO
  rcases h with ⟨h1, h2, h3⟩ | ⟨h1, h2, h3, h4⟩ | ⟨h1, r, x, d, h2, h3, h4, _, h5⟩
  · simp only [h1, Bool.false_eq_true, if_false]
    exact ⟨none, 0, h2, h3, .inl rfl⟩
  · simp only [h1, h2, if_true]
    exact ⟨none, 0, h3, h4, .inl rfl⟩
  · simp only [h1, h2, if_true]
    exact ⟨x, d, h3, h5, h4.cus⟩
set_option maxRecDepth 20000 in
set_option maxHeartbeats 4000000 in
theorem cubes_walk (a : Option Addr) (l : List Nd) (cap : Nat) (w : World) (hs : Ns w a l) (hss : ∀ x ∈ l, x.s.length ≤ 9223372036854775807) (hl : l.length ≤ 9223372036854775807) (hlc : l.length ≤ cap) :
    Calls Try.prog 7 #[.agg #[.slice a l.length cap]] w fun e w' => e = .returned (.bool true) ∧ Below w.heap.size w w' := by
  obtain ⟨X, hX⟩ : ∃ X, w.alloc (.cells #[.slice a l.length cap] 24) = X := ⟨_, rfl⟩
  have gX : Below w.heap.size w X := by rw [← hX]; go_grown
  have cX : X.cell? ⟨w.heap.size, 0, none⟩ = some (.slice a l.length cap) := by rw [← hX]; simp
  have zX : X.heap.size = w.heap.size + 1 := by rw [← hX]; simp
  have HG : Hid (Below w.heap.size w X ∧ w.heap.size < X.heap.size) := ⟨gX, by omega⟩
  have HCd : Hid (∀ u, Below X.heap.size X u → u.cell? ⟨w.heap.size, 0, none⟩ = some (.slice a l.length cap)) := (show ∀ u, _ from fun u g => (g.cell (p := ⟨w.heap.size, 0, none⟩) (by show w.heap.size < _; omega)).trans cX)
  have HAw : Hid (∀ u, Below X.heap.size X u → Calls Try.prog 13 #[] u fun e w' => e = .returned (.bool true) ∧ Below X.heap.size X w') := (show ∀ u, _ from fun u g => (awake_any u).mono fun e w' ⟨h1, h2⟩ => ⟨h1, btr g h2 (Nat.le_refl _)⟩)
  have HC1 : Hid (Calls Try.prog 34 #[.agg #[.slice a l.length cap]] X fun e w' => ∃ x c, e = .returned (.tuple #[.slice x (resO l).length c, .int .i64 (errO l)]) ∧ Below X.heap.size X w' ∧ CuS w' x (resO l)) := (show Calls _ _ _ _ _ from (rcubes_any a l cap X (hs.below gX) hl hss).mono fun e w' h => h.u)
  have HC2 : Hid (∀ u, Below X.heap.size X u → Calls Try.prog 35 #[.agg #[.slice a l.length cap]] u fun e w' => CbU u (resO l) (errO l) e w') := (show ∀ u, _ from fun u g => (cubes_any a l cap u ((hs.below gX).below g) hl hss).mono fun e w' h => h.u)
  have hrn := resO_len l
  obtain ⟨r, hr⟩ : ∃ r, resO l = r := ⟨_, rfl⟩
  rw [hr] at HC1 HC2 hrn
  have HSm : Hid (∀ u x c y d, CuS u x r → CuS u y r → Calls Try.prog 32 #[.slice x r.length c, .slice y r.length d] u fun e w' => e = .returned (.bool true) ∧ Below u.heap.size u w') := (show ∀ u x c y d, _ from fun u x c y d h1 h2 => samecs_any x r c y d u h1 h2 (by omega))
  generalize errO l = ee at *
  have b2 : (ee == ee) = true := by simp
  have b3 : decide (ee = ee) = true := by simp
  obtain ⟨rn, hrn2⟩ : ∃ n, r.length = n := ⟨_, rfl⟩
  have HRn : Hid (r.length = rn) := hrn2
  have HRe : Hid (0 < rn → r ≠ []) := (show _ → _ from fun h e => by rw [e] at hrn2; simp at hrn2; omega)
  rw [hrn2] at HC1 hrn HSm
  have HC2' : Hid (∀ u, Below X.heap.size X u → Calls Try.prog 35 #[.agg #[.slice a l.length cap]] u fun e w' => ∃ x c, e = .returned (.tuple #[.slice x rn c, .int .i64 ee]) ∧ Below u.heap.size u w' ∧ CuS w' x r ∧ (r ≠ [] → ∃ b, x = some ⟨b, 0, none⟩ ∧ u.heap.size ≤ b ∧ OvI u.heap.size b r w')) := (show ∀ u, _ from fun u g => (HC2.out u g).mono fun e w' ⟨x, c, h1, h2⟩ => ⟨x, c, by rw [h1, HRn.out], h2⟩)
  generalize l.length = n at *
  clear hs hss hlc gX zX hr hrn2 HC2
  by_cases h14 : n ≤ 14
  · have j1 : ¬ (14 : Int) < (n : Int) := by omega
    have j2 : decide ((14 : Int) < (n : Int)) = false := decide_eq_false j1
    go_enter Try.func7, Try.ntmps7
    go_wp2_with (first
      | (go_at_call 34; refine HC1.out.mono ?_; rintro e w1 ⟨y, yd, rfl, h1, h2⟩; have HB1 : Hid (Below X.heap.size X w1 ∧ CuS w1 y r) := ⟨h1, h2⟩; have k1 := HCd.out w1 h1; clear h1 h2)
      | (go_at_call 35; refine (HC2'.out _ HB1.out.1).mono ?_; rintro e w2 ⟨x, xc, rfl, h1, h2, h3⟩; have HB2 : Hid (Below w1.heap.size w1 w2 ∧ CuS w2 x r ∧ (r ≠ [] → ∃ b, x = some ⟨b, 0, none⟩ ∧ w1.heap.size ≤ b ∧ OvI w1.heap.size b r w2)) := ⟨h1, h2, h3⟩; clear h1 h2 h3)
      | (go_at_call 32; refine (HSm.out _ x xc y yd HB2.out.2.1 (HB1.out.2.below HB2.out.1)).mono ?_; rintro e w3 ⟨rfl, h1⟩; have HB3 : Hid (Below w2.heap.size w2 w3) := h1; clear h1)
      | fail)
    have HW3 : Hid (WrI w1 x r w3) := (show WrI _ _ _ _ from ⟨btr HB2.out.1 HB3.out (Nat.le_refl _), fun h0 => by
      obtain ⟨b, e, h1, h2⟩ := HB2.out.2.2 h0
      obtain ⟨hs, q1, q2, q3⟩ := h2.ex
      have hb3 := HB3.out
      exact ⟨b, e, h1, ⟨hs, q1, fun i hi => (hb3.cell (p := ⟨b, i, none⟩) h2.lt).trans (q2 i hi), fun i i1 i2 => ⟨(q3 i i1 i2).1, (q3 i i1 i2).2.1, fun h0 => by
        obtain ⟨g, e, g1, g2, g3, g4⟩ := (q3 i i1 i2).2.2 h0
        exact ⟨g, e, g1, g2, Nat.lt_of_lt_of_le g3 hb3.size, there_block g4 (hb3.block g g3)⟩⟩⟩, Nat.lt_of_lt_of_le h2.lt hb3.size⟩⟩)
    clear cX hX k1 HB2 HB3
    go_loopw [8] (fun v8 wr => ∃ (i : Nat), i ≤ rn ∧ v8 = .int .i64 i ∧ Hid (WrI w1 x r wr)) (fun v8 _ => rn - (intOf v8).toNat)
    case atStart => exact ⟨0, Nat.zero_le _, rfl, HW3⟩
    case round =>
      obtain ⟨i, hi, rfl, HW⟩ := hrel
      clear HW3
      by_cases hlt : i < rn
      · have hir : i < r.length := by have := HRn.out; omega
        have hne := HRe.out (by omega)
        obtain ⟨b, hxb, hbl, hov⟩ := HW.out.ov hne
        subst hxb
        obtain ⟨tn, htn⟩ : ∃ n, (toT r[i]).length = n := ⟨_, rfl⟩
        have HAt : Hid (∀ u, WrI w1 (some ⟨b, 0, none⟩) r u → ∃ y c, u.cell? ⟨b, i, none⟩ = some (.slice y tn c) ∧ (0 < tn → ∃ g, y = some ⟨g, 0, none⟩ ∧ w1.heap.size ≤ g ∧ g ≠ b ∧ g < u.heap.size ∧ u.there g 0 (tn * 3))) := (show ∀ u, _ from fun u h => by
          obtain ⟨b', e, _, h2⟩ := h.ov hne
          cases e
          obtain ⟨y, c, h3, _, h4⟩ := h2.at hir
          rw [htn] at h3 h4
          exact ⟨y, c, h3, fun h0 => h4 (fun e => by rw [e] at htn; simp at htn; omega)⟩)
        have HTn : Hid (tn ≤ 10) := (show _ ≤ _ by rw [← htn]; exact toTn_len r[i] 10)
        clear hov htn hbl hne hir
        go_wp2_with fail
        go_loopw [9] (fun v9 wr => ∃ (k : Nat), k ≤ tn ∧ v9 = .int .i64 k ∧ Hid (WrI w1 (some ⟨b, 0, none⟩) r wr)) (fun v9 _ => tn - (intOf v9).toNat)
        case atStart => exact ⟨0, Nat.zero_le _, rfl, HW⟩
        case round =>
          obtain ⟨k, hk, rfl, HV⟩ := hrel
          clear HW
          obtain ⟨y, yc, hy, hyg⟩ := HAt.out wr HV.out
          have htn10 := HTn.out
          by_cases hlt2 : k < tn
          · obtain ⟨g, rfl, g1, g2, g3, g4⟩ := hyg (by omega)
            have HQ : Hid (WrI w1 (some ⟨b, 0, none⟩) r (wr.setCells g (k * 3) (tstL ⟨77, 0#64, 0#64⟩))) := (show WrI _ _ _ _ from HV.out.set g (k * 3) _ g1 (fun b' e => by cases e; exact g2))
            have HTh : Hid (wr.there g (k * 3) 3) := (show World.there _ _ _ _ from fun j hj => by
              have := g4 (k * 3 + j) (by omega)
              rw [Nat.zero_add] at this
              exact this)
            clear hyg g1 g2 g4 HV
            go_wp2_with (refine store_test rfl (.tmp 56) (.tmp 55) rfl g (k * 3) rfl ⟨77, 0#64, 0#64⟩ rfl HTh.out ?_)
            refine ⟨⟨k + 1, by omega, by go_num, HQ⟩, by simp [intOf]; omega⟩
          · have hkn : k = tn := by omega
            subst hkn
            clear hyg
            go_wp2_with fail
            refine ⟨⟨i + 1, by omega, by go_num, HV⟩, by simp [intOf]; omega⟩
      · have hin : i = rn := by omega
        subst hin
        have k1 := HCd.out wr (HB1.out.1.trans (HW.out.bel.mono HB1.out.1.size))
        have HBw : Hid (Below X.heap.size X wr ∧ CuS wr y r) := ⟨HB1.out.1.trans (HW.out.bel.mono HB1.out.1.size), HB1.out.2.below HW.out.bel⟩
        clear HW
        go_wp2_with (first
          | (go_at_call 35; refine (HC2'.out _ HBw.out.1).mono ?_; rintro e w4 ⟨x2, xc2, rfl, h1, h2, h3⟩; have HB4 : Hid (Below wr.heap.size wr w4 ∧ CuS w4 x2 r) := ⟨h1, h2⟩; clear h1 h2 h3)
          | (go_at_call 32; refine (HSm.out _ x2 xc2 y yd HB4.out.2 (HBw.out.2.below HB4.out.1)).mono ?_; rintro e w5 ⟨rfl, h1⟩; have HB5 : Hid (Below X.heap.size X w5) := (show Below _ _ _ from btr (btr HBw.out.1 HB4.out.1 (Nat.le_refl _)) h1 (Nat.le_refl _)); clear h1)
          | (go_at_call 13; refine (HAw.out _ HB5.out).mono ?_; rintro e w6 ⟨rfl, h1⟩; have HB6 : Hid (Below X.heap.size X w6) := h1; clear h1)
          | fail)
        go_ret
        exact ⟨rfl, btr HG.out.1 HB6.out (by have := HG.out.2; omega)⟩
  · have j1 : (14 : Int) < (n : Int) := by omega
    have j2 : decide ((14 : Int) < (n : Int)) = true := decide_eq_true j1
    have HAx : Hid (Calls Try.prog 13 #[] X fun e w' => e = .returned (.bool true) ∧ Below X.heap.size X w') := HAw.out X (Below.refl _ _)
    go_enter Try.func7, Try.ntmps7
    go_wp2_with (go_at_call 13; refine HAx.out.mono ?_; rintro e w3 ⟨rfl, h1⟩; have HB3 : Hid (Below X.heap.size X w3) := h1; clear h1)
    go_ret
    exact ⟨rfl, btr HG.out.1 HB3.out (by have := HG.out.2; omega)⟩
end Go.Proofs.Ytmobmpghpdaddaa

/-
  Disjoint.
-/
import Derived.Test.YtmobmpghpdaddaaCubes
import Derived.WalkMore
namespace Go.Proofs.Ytmobmpghpdaddaa
open Go.ChangeShapes Go.WideShapes Go.ChangeAt Go.RowKit
set_option linter.unusedVariables false

def noneB (a : K) (B : List K) : Bool := B.all fun b => !meetB a b
def apartB (A B : List K) : Bool := A.all fun a => noneB a B
def djP (l m : List Nd) : Bool × Int := if rightB l && rightB m then (match listO l, listO m with | some A, some B => (apartB A B, 0) | _, _ => (false, 44)) else (false, 1)
theorem noneB_no {a b : K} {B : List K} (hb : b ∈ B) (h : meetB a b = true) : noneB a B = false := by
  unfold noneB
  rw [List.all_eq_false]
  exact ⟨b, hb, by simp [h]⟩
theorem apartB_no {a : K} {A B : List K} (ha : a ∈ A) (h : noneB a B = false) : apartB A B = false := by
  unfold apartB
  rw [List.all_eq_false]
  exact ⟨a, ha, by simp [h]⟩
set_option maxRecDepth 20000 in
set_option maxHeartbeats 8000000 in
theorem disjoint_any (a : Option Addr) (l : List Nd) (cap : Nat) (b : Option Addr) (m : List Nd) (mc : Nat) (w : World) (hs : Ns w a l) (ht : Ns w b m) (hl : l.length ≤ 9223372036854775807) (hm : m.length ≤ 9223372036854775807) (hss : ∀ x ∈ l, x.s.length ≤ 9223372036854775807) (hst : ∀ x ∈ m, x.s.length ≤ 9223372036854775807) :
    Calls Try.prog 36 #[.agg #[.slice a l.length cap], .agg #[.slice b m.length mc]] w fun e w' => e = .returned (.tuple #[.bool (djP l m).1, .int .i64 (djP l m).2]) ∧ Below w.heap.size w w' := by
  obtain ⟨X, hX⟩ : ∃ X, (w.alloc (.cells #[.slice a l.length cap] 24)).alloc (.cells #[.slice b m.length mc] 24) = X := ⟨_, rfl⟩
  have gX : Below w.heap.size w X := by rw [← hX]; go_grown
  have zX : X.heap.size = w.heap.size + 2 := by rw [← hX]; simp
  have cX : X.cell? ⟨w.heap.size, 0, none⟩ = some (.slice a l.length cap) := by rw [← hX]; simp
  have dX : X.cell? ⟨w.heap.size + 1, 0, none⟩ = some (.slice b m.length mc) := by rw [← hX]; simp
  have HG : Hid (Below w.heap.size w X) := gX
  have HZ : Hid (X.heap.size = w.heap.size + 2) := zX
  have HCd : Hid (∀ u, Below X.heap.size X u → u.cell? ⟨w.heap.size, 0, none⟩ = some (.slice a l.length cap) ∧ u.cell? ⟨w.heap.size + 1, 0, none⟩ = some (.slice b m.length mc)) := (show ∀ u, _ from fun u g => ⟨(g.cell (p := ⟨w.heap.size, 0, none⟩) (by show w.heap.size < _; omega)).trans cX, (g.cell (p := ⟨w.heap.size + 1, 0, none⟩) (by show w.heap.size + 1 < _; omega)).trans dX⟩)
  have HR : Hid (Calls Try.prog 9 #[.agg #[.slice a l.length cap]] X fun e w' => e = .returned (.bool (rightB l)) ∧ Below X.heap.size X w') := (show Calls _ _ _ _ _ from (right_any a l cap X (hs.below gX) hl hss))
  have HRm : Hid (∀ u, Below X.heap.size X u → Calls Try.prog 9 #[.agg #[.slice b m.length mc]] u fun e w' => e = .returned (.bool (rightB m)) ∧ Below X.heap.size X w') := (show ∀ u, _ from fun u g => (right_any b m mc u ((ht.below gX).below g) hm hst).mono fun e w' ⟨h1, h2⟩ => ⟨h1, btr g h2 (Nat.le_refl _)⟩)
  have HLl : Hid (∀ u, Below X.heap.size X u → rightB l = true → Calls Try.prog 56 #[.agg #[.slice a l.length cap]] u fun e w' => LsR X (fun _ => True) (listO l) e w') := (show ∀ u, _ from fun u g hb => (listOf_any a l cap u ((hs.below gX).below g) hl hss).mono fun e w' h => by
    rcases h with ⟨h1, _⟩ | ⟨_, hb2, hq⟩
    · rw [hb] at h1; cases h1
    · refine ⟨btr g hb2 (Nat.le_refl _), ?_⟩
      rcases hq with ⟨r, a', c', k1, k2, k3, k4, k5⟩ | hq
      · exact .inl ⟨r, a', c', k1, k2, k3, k4, fun p hp => .inr trivial⟩
      · exact .inr hq)
  have HLm : Hid (∀ u, Below X.heap.size X u → rightB m = true → Calls Try.prog 56 #[.agg #[.slice b m.length mc]] u fun e w' => LsR u (fun _ => True) (listO m) e w') := (show ∀ u, _ from fun u g hb => (listOf_any b m mc u ((ht.below gX).below g) hm hst).mono fun e w' h => by
    rcases h with ⟨h1, _⟩ | ⟨_, hq⟩
    · rw [hb] at h1; cases h1
    · exact hq)
  clear hs ht hss hst gX zX
  cases hb : rightB l with
  | false =>
    have hD : djP l m = (false, 1) := by unfold djP; rw [hb]; rfl
    rw [hD]
    rw [hb] at HR
    clear hb hD HRm HLl HLm
    go_enter Try.func36, Try.ntmps36
    go_wp2_with fail
    go_step3
    go_wp2_with (go_at_call 9; refine HR.out.mono ?_; rintro r w1 ⟨rfl, hb⟩; have HB1 : Hid (Below X.heap.size X w1) := hb; clear hb)
    (try rw [Exit.noGoto_ret])
    go_ret2
    exact ⟨rfl, btr HG.out HB1.out (Nat.le_refl _)⟩
  | true =>
    cases hb2 : rightB m with
    | false =>
      have hD : djP l m = (false, 1) := by unfold djP; rw [hb, hb2]; rfl
      rw [hD]
      rw [hb] at HR
      rw [hb2] at HRm
      clear hb hb2 hD HLl HLm
      go_enter Try.func36, Try.ntmps36
      go_wp2_with fail
      go_step3
      go_wp2_with (first
        | (go_at_call_of 9 (Value.agg #[.slice a l.length cap]); refine HR.out.mono ?_; rintro r w1 ⟨rfl, hb⟩; have HB1 : Hid (Below X.heap.size X w1) := hb; (obtain ⟨cc1, cc2⟩ := HCd.out w1 hb); clear hb HR)
        | (go_at_call 9; refine (HRm.out _ HB1.out).mono ?_; rintro r w2 ⟨rfl, hb⟩; have HB2 : Hid (Below X.heap.size X w2) := hb; clear hb))
      (try rw [Exit.noGoto_ret])
      go_ret2
      exact ⟨rfl, btr HG.out HB2.out (Nat.le_refl _)⟩
    | true =>
      have HD : Hid (djP l m = (match listO l, listO m with | some A, some B => (apartB A B, 0) | _, _ => (false, 44))) := (show _ = _ by unfold djP; rw [hb, hb2]; rfl)
      have HLl2 : Hid (∀ u, Below X.heap.size X u → Calls Try.prog 56 #[.agg #[.slice a l.length cap]] u fun e w' => LsR X (fun _ => True) (listO l) e w') := (show ∀ u, _ from fun u g => HLl.out u g hb)
      have HLm2 : Hid (∀ u, Below X.heap.size X u → Calls Try.prog 56 #[.agg #[.slice b m.length mc]] u fun e w' => LsR u (fun _ => True) (listO m) e w') := (show ∀ u, _ from fun u g => HLm.out u g hb2)
      have HLen : Hid (∀ r, listO l = some r → r.length ≤ 128) := (show ∀ r, _ from fun r h => listO_len h)
      have HLen2 : Hid (∀ r, listO m = some r → r.length ≤ 128) := (show ∀ r, _ from fun r h => listO_len h)
      rw [hb] at HR
      rw [hb2] at HRm
      clear hb hb2 HLl HLm
      cases hO : listO l with
      | none =>
        rw [hO] at HLl2 HD
        rw [HD.out]
        clear hO HLm2 HD HLen HLen2
        go_enter Try.func36, Try.ntmps36
        go_wp2_with fail
        go_step3
        go_wp2_with (first
          | (go_at_call_of 9 (Value.agg #[.slice a l.length cap]); refine HR.out.mono ?_; rintro r w1 ⟨rfl, hb⟩; have HB1 : Hid (Below X.heap.size X w1) := hb; (obtain ⟨cc1, cc2⟩ := HCd.out w1 hb); clear hb HR)
          | (go_at_call 9; refine (HRm.out _ HB1.out).mono ?_; rintro r w2 ⟨rfl, hb⟩; have HB2 : Hid (Below X.heap.size X w2) := hb; (obtain ⟨ce1, ce2⟩ := HCd.out w2 hb); clear hb)
          | (go_at_call 56; refine (HLl2.out _ HB2.out).mono ?_; rintro e w3 ⟨hb, hq⟩; have HB3 : Hid (Below X.heap.size X w3) := hb; rcases hq with ⟨m, am, cm, hm, _⟩ | ⟨_, rfl⟩; exact absurd hm (by simp); clear hb))
        (try rw [Exit.noGoto_ret])
        go_ret2
        exact ⟨rfl, btr HG.out HB3.out (Nat.le_refl _)⟩
      | some A =>
        have hA128 := HLen.out A hO
        have HLl3 : Hid (∀ u, Below X.heap.size X u → Calls Try.prog 56 #[.agg #[.slice a l.length cap]] u fun e w' => ∃ aA cA, e = .returned (.tuple #[.slice aA A.length cA, .int .i64 0]) ∧ Sk cubL 20 w' aA A ∧ Below X.heap.size X w') := (show ∀ u, _ from fun u g => (HLl2.out u g).mono fun e w' ⟨hb, hq⟩ => by
          rcases hq with ⟨r, am, cm, k1, k2, k3, _⟩ | ⟨k1, _⟩
          · rw [hO] at k1; cases k1; exact ⟨am, cm, k2, k3, hb⟩
          · rw [hO] at k1; cases k1)
        rw [hO] at HD
        clear hO HLl2 HLen
        cases hO2 : listO m with
        | none =>
          rw [hO2] at HLm2 HD
          rw [HD.out]
          clear hO2 HD HLen2
          go_enter Try.func36, Try.ntmps36
          go_wp2_with fail
          go_step3
          go_wp2_with (first
            | (go_at_call_of 9 (Value.agg #[.slice a l.length cap]); refine HR.out.mono ?_; rintro r w1 ⟨rfl, hb⟩; have HB1 : Hid (Below X.heap.size X w1) := hb; (obtain ⟨cc1, cc2⟩ := HCd.out w1 hb); clear hb HR)
            | (go_at_call 9; refine (HRm.out _ HB1.out).mono ?_; rintro r w2 ⟨rfl, hb⟩; have HB2 : Hid (Below X.heap.size X w2) := hb; (obtain ⟨ce1, ce2⟩ := HCd.out w2 hb); clear hb)
            | (go_at_call_of 56 (Value.agg #[.slice a l.length cap]); refine (HLl3.out _ HB2.out).mono ?_; rintro e w3 ⟨aA, cA, rfl, h4, hb⟩; have HB3 : Hid (Below X.heap.size X w3) := hb; (obtain ⟨cf1, cf2⟩ := HCd.out w3 hb); clear hb h4 HLl3)
            | (go_at_call 56; refine (HLm2.out _ HB3.out).mono ?_; rintro e w4 ⟨hb, hq⟩; have HB4 : Hid (Below X.heap.size X w4) := (show Below _ _ _ from btr HB3.out hb (Nat.le_refl _)); rcases hq with ⟨m, am, cm, hm, _⟩ | ⟨_, rfl⟩; exact absurd hm (by simp); clear hb))
          (try rw [Exit.noGoto_ret])
          go_ret2
          exact ⟨rfl, btr HG.out HB4.out (Nat.le_refl _)⟩
        | some B =>
          have hB128 := HLen2.out B hO2
          have HLm3 : Hid (∀ u, Below X.heap.size X u → Calls Try.prog 56 #[.agg #[.slice b m.length mc]] u fun e w' => ∃ aB cB, e = .returned (.tuple #[.slice aB B.length cB, .int .i64 0]) ∧ Sk cubL 20 w' aB B ∧ Below u.heap.size u w') := (show ∀ u, _ from fun u g => (HLm2.out u g).mono fun e w' ⟨hb, hq⟩ => by
            rcases hq with ⟨r, am, cm, k1, k2, k3, _⟩ | ⟨k1, _⟩
            · rw [hO2] at k1; cases k1; exact ⟨am, cm, k2, k3, hb⟩
            · rw [hO2] at k1; cases k1)
          rw [hO2] at HD
          rw [HD.out]
          clear hO2 HLm2 HLen2 HD
          have H0 : Hid ((A.take 0).all (fun a => noneB a B) = true) := (show _ = _ from rfl)
          go_enter Try.func36, Try.ntmps36
          go_wp2_with fail
          go_step3
          go_wp2_with (first
            | (go_at_call_of 9 (Value.agg #[.slice a l.length cap]); refine HR.out.mono ?_; rintro r w1 ⟨rfl, hb⟩; have HB1 : Hid (Below X.heap.size X w1) := hb; (obtain ⟨cc1, cc2⟩ := HCd.out w1 hb); clear hb HR)
            | (go_at_call 9; refine (HRm.out _ HB1.out).mono ?_; rintro r w2 ⟨rfl, hb⟩; have HB2 : Hid (Below X.heap.size X w2) := hb; (obtain ⟨ce1, ce2⟩ := HCd.out w2 hb); clear hb)
            | (go_at_call_of 56 (Value.agg #[.slice a l.length cap]); refine (HLl3.out _ HB2.out).mono ?_; rintro e w3 ⟨aA, cA, rfl, h4, hb⟩; have HB3 : Hid (Below X.heap.size X w3 ∧ Sk cubL 20 w3 aA A) := ⟨hb, h4⟩; (obtain ⟨cf1, cf2⟩ := HCd.out w3 hb); clear hb h4 HLl3)
            | (go_at_call 56; refine (HLm3.out _ HB3.out.1).mono ?_; rintro e w4 ⟨aB, cB, rfl, h4, hb⟩; have HB4 : Hid (Below w.heap.size w w4 ∧ Sk cubL 20 w4 aA A ∧ Sk cubL 20 w4 aB B) := ⟨btr (btr HG.out HB3.out.1 (Nat.le_refl _)) hb (by have := HB3.out.1.size; have := HZ.out; omega), HB3.out.2.below hb, h4⟩; clear hb h4))
          go_step3
          go_wp2_with fail
          clear HRm HLm3 HCd cX dX cc1 cc2 ce1 ce2 cf1 cf2 hX
          go_loopw [9, 40] (fun v9 v40 wr => ∃ j : Nat, j ≤ A.length ∧ v40 = .int .i64 j ∧ v9 = .bool true ∧ Hid ((A.take j).all (fun a => noneB a B) = true) ∧ Hid (Below w4.heap.size w4 wr)) (fun _ v40 _ => A.length - (intOf v40).toNat)
          case atStart => exact ⟨0, Nat.zero_le _, rfl, rfl, H0, Below.refl _ _⟩
          case round =>
            obtain ⟨j, hj, rfl, rfl, HJ, HBw⟩ := hrel
            clear H0
            by_cases hlt : j < A.length
            · obtain ⟨g, o, rfl, hg, hcs⟩ := (HB4.out.2.1.below HBw.out).at hlt
              have HCi : Hid (C20 wr g (o + j * 20) A[j]) := (show C20 _ _ _ _ from hcs.cub hlt)
              have HT : Hid (noneB A[j] B = true → (A.take (j + 1)).all (fun a => noneB a B) = true) := (show _ → _ from fun h => by rw [List.take_succ_eq_append_getElem hlt, List.all_append, HJ.out]; simp [h])
              have HF : Hid (noneB A[j] B = false → apartB A B = false) := (show _ → _ from fun h => apartB_no (List.getElem_mem hlt) h)
              generalize A[j] = x at *
              obtain ⟨V2, hV2, k1, k2, k3⟩ := box_cub wr x
              have HX : Hid ((wr.alloc (.cells (cubA K.top) 70)).setCells wr.heap.size 0 (cubL x) = V2 ∧ C20 V2 wr.heap.size 0 x ∧ (wr.alloc (.cells (cubA K.top) 70)).there wr.heap.size 0 20 ∧ V2.heap.size = wr.heap.size + 1) := ⟨hV2, k1, there_new wr _ 70 20 (cubA_size _), k3⟩
              have HBV : Hid (Below w4.heap.size w4 V2) := (show Below _ _ _ from btr HBw.out k2 (Nat.le_refl _))
              have H1 : Hid (noneB x (B.take 0) = true) := (show _ = _ from rfl)
              clear hcs hV2 k1 k2 k3 HJ
              go_wp2_with (first
                | (refine load_cub rfl (.tmp 42) rfl g (o + j * 20) rfl x HCi.out ?_)
                | (rw [zero_cub]; refine store_cub rfl (.tmp 11) (.tmp 43) rfl wr.heap.size 0 rfl x rfl HX.out.2.2.1 ?_; rw [HX.out.1]))
              obtain ⟨wo, hwo⟩ : ∃ y, wr.heap.size = y := ⟨_, rfl⟩
              have HC0 : Hid (C20 V2 wo 0 x ∧ wo < V2.heap.size) := ⟨by rw [← hwo]; exact HX.out.2.1, by have := HX.out.2.2.2; omega⟩
              rw [hwo]
              clear hwo HX HCi hg
              go_loopw [9, 46] (fun v9 v46 wr2 => ∃ k : Nat, k ≤ B.length ∧ v46 = .int .i64 k ∧ v9 = .bool true ∧ Hid (noneB x (B.take k) = true) ∧ Hid (Below V2.heap.size V2 wr2)) (fun _ v46 _ => B.length - (intOf v46).toNat)
              case atStart => exact ⟨0, Nat.zero_le _, rfl, rfl, H1, Below.refl _ _⟩
              case round =>
                obtain ⟨k, hk, rfl, rfl, HK, HB2⟩ := hrel
                clear H1
                by_cases hlt2 : k < B.length
                · obtain ⟨g2, o2, rfl, hg2, hcs2⟩ := (((HB4.out.2.2.below HBV.out).below HB2.out)).at hlt2
                  have HCk : Hid (C20 wr g2 (o2 + k * 20) B[k]) := (show C20 _ _ _ _ from hcs2.cub hlt2)
                  have HT2 : Hid (meetB x B[k] = false → noneB x (B.take (k + 1)) = true) := (show _ → _ from fun h => by
                    have := HK.out
                    unfold noneB at this ⊢
                    rw [List.take_succ_eq_append_getElem hlt2, List.all_append, this]; simp [h])
                  have HF2 : Hid (meetB x B[k] = true → apartB A B = false) := (show _ → _ from fun h => HF.out (noneB_no (List.getElem_mem hlt2) h))
                  generalize B[k] = y at *
                  obtain ⟨V3, hV3, k1, k2, k3⟩ := box_cub wr y
                  have HX2 : Hid ((wr.alloc (.cells (cubA K.top) 70)).setCells wr.heap.size 0 (cubL y) = V3 ∧ C20 V3 wr.heap.size 0 y ∧ (wr.alloc (.cells (cubA K.top) 70)).there wr.heap.size 0 20) := ⟨hV3, k1, there_new wr _ 70 20 (cubA_size _)⟩
                  have HBV3 : Hid (Below V2.heap.size V2 V3) := (show Below _ _ _ from btr HB2.out k2 (Nat.le_refl _))
                  have HC3 : Hid (C20 V3 wo 0 x) := (show C20 _ _ _ _ from HC0.out.1.below HC0.out.2 HBV3.out)
                  have HM : Hid (Calls Try.prog 49 #[.agg (cubA x), .agg (cubA y)] V3 fun e w' => e = .returned (.bool (meetB x y)) ∧ Below V2.heap.size V2 w') := (show Calls _ _ _ _ _ from (meets_any x y V3).mono fun e w' ⟨h1, h2⟩ => ⟨h1, btr HBV3.out h2 (Nat.le_refl _)⟩)
                  clear hcs2 hV3 k1 k2 k3 HK
                  cases hm2 : meetB x y with
                  | true =>
                    have HA : Hid (apartB A B = false) := HF2.out hm2
                    rw [hm2] at HM
                    clear hm2 HT2 HF2
                    go_wp2_with (first
                      | (refine load_cub rfl (.tmp 48) rfl g2 (o2 + k * 20) rfl y HCk.out ?_)
                      | (rw [zero_cub]; refine store_cub rfl (.tmp 13) (.tmp 49) rfl wr.heap.size 0 rfl y rfl HX2.out.2.2 ?_; rw [HX2.out.1])
                      | (refine load_cub rfl (.tmp 11) rfl wo 0 rfl x HC3.out ?_)
                      | (refine load_cub rfl (.tmp 13) rfl wr.heap.size 0 rfl y HX2.out.2.1 ?_)
                      | (go_at_call 49; refine HM.out.mono ?_; rintro e w5 ⟨rfl, hb⟩; have HB5 : Hid (Below V2.heap.size V2 w5) := hb; clear hb))
                    (try rw [Exit.noGoto_ret])
                    go_ret2
                    exact ⟨by rw [HA.out]; rfl, HB4.out.1.trans ((HBV.out.trans (HB5.out.mono HBV.out.size)).mono HB4.out.1.size)⟩
                  | false =>
                    have HA : Hid (noneB x (B.take (k + 1)) = true) := HT2.out hm2
                    rw [hm2] at HM
                    clear hm2 HT2 HF2
                    go_wp2_with (first
                      | (refine load_cub rfl (.tmp 48) rfl g2 (o2 + k * 20) rfl y HCk.out ?_)
                      | (rw [zero_cub]; refine store_cub rfl (.tmp 13) (.tmp 49) rfl wr.heap.size 0 rfl y rfl HX2.out.2.2 ?_; rw [HX2.out.1])
                      | (refine load_cub rfl (.tmp 11) rfl wo 0 rfl x HC3.out ?_)
                      | (refine load_cub rfl (.tmp 13) rfl wr.heap.size 0 rfl y HX2.out.2.1 ?_)
                      | (go_at_call 49; refine HM.out.mono ?_; rintro e w5 ⟨rfl, hb⟩; have HB5 : Hid (Below V2.heap.size V2 w5) := hb; clear hb))
                    go_roundw
                    case rel => exact ⟨k + 1, by omega, by go_num, by first | rfl | trivial, HA, HB5⟩
                    case measure => simp [intOf]; omega
                · have HA : Hid (noneB x B = true) := (show _ = _ by have := HK.out; rwa [List.take_of_length_le (by omega)] at this)
                  have HN : Hid ((A.take (j + 1)).all (fun a => noneB a B) = true ∧ Below w4.heap.size w4 wr) := ⟨HT.out HA.out, btr HBV.out HB2.out (Nat.le_refl _)⟩
                  clear HK HT HF HA
                  go_wp2_with fail
                  refine ⟨⟨j + 1, by omega, by go_num, by first | rfl | trivial, HN.out.1, HN.out.2⟩, by simp [intOf]; omega⟩
            · have HE : Hid (apartB A B = true) := (show _ = _ by have := HJ.out; rwa [List.take_of_length_le (by omega)] at this)
              clear HJ
              go_wp2_with fail
              (try rw [Exit.noGoto_ret])
              go_ret2
              exact ⟨by rw [HE.out]; rfl, HB4.out.1.trans (HBw.out.mono HB4.out.1.size)⟩
end Go.Proofs.Ytmobmpghpdaddaa

/-
  The document's Disjoint.
-/
import Derived.Test.YtmobmpghpdaddaaRefU
import Derived.Test.YtmobmpghpdaddaaApart
namespace Go.Proofs.Ytmobmpghpdaddaa
open Go.ChangeShapes Go.WideShapes Go.ChangeAt Go.RowKit
set_option linter.unusedVariables false
set_option linter.unusedSimpArgs false

theorem noneB_nil (a : K) (B : List K) : noneB a B = true ↔ both1 a B = [] := by
  unfold noneB both1
  rw [List.all_eq_true, List.map_eq_nil_iff, List.filter_eq_nil_iff]
  simp
theorem apart_len (A B : List K) : (((bothL A B).length : Int) == 0) = apartB A B := by
  have key : apartB A B = true ↔ bothL A B = [] := by
    unfold apartB bothL
    rw [List.all_eq_true, List.flatMap_eq_nil_iff]
    exact ⟨fun h a ha => (noneB_nil a B).1 (h a ha), fun h a ha => (noneB_nil a B).2 (h a ha)⟩
  cases h : apartB A B with
  | true => rw [key.1 h]; rfl
  | false =>
    have h2 : ¬ bothL A B = [] := fun e => by rw [key.2 e] at h; cases h
    have h3 := List.length_pos_iff.2 h2
    simp
    omega
set_option maxRecDepth 20000 in
set_option maxHeartbeats 4000000 in
theorem rdisj_any (a : Option Addr) (l : List Nd) (cap : Nat) (b : Option Addr) (m : List Nd) (mc : Nat) (w : World) (hs : Ns w a l) (ht : Ns w b m) (hl : l.length ≤ 9223372036854775807) (hm : m.length ≤ 9223372036854775807) (hss : ∀ x ∈ l, x.s.length ≤ 9223372036854775807) (hst : ∀ x ∈ m, x.s.length ≤ 9223372036854775807) :
    Calls Try.prog 37 #[.agg #[.slice a l.length cap], .agg #[.slice b m.length mc]] w fun e w' => e = .returned (.tuple #[.bool (djP l m).1, .int .i64 (djP l m).2]) ∧ Below w.heap.size w w' := by
  obtain ⟨X, hX⟩ : ∃ X, (w.alloc (.cells #[.slice a l.length cap] 24)).alloc (.cells #[.slice b m.length mc] 24) = X := ⟨_, rfl⟩
  have gX : Below w.heap.size w X := by rw [← hX]; go_grown
  have zX : X.heap.size = w.heap.size + 2 := by rw [← hX]; simp
  have c0 : X.cell? ⟨w.heap.size, 0, none⟩ = some (.slice a l.length cap) := by rw [← hX]; simp
  have c1 : X.cell? ⟨w.heap.size + 1, 0, none⟩ = some (.slice b m.length mc) := by rw [← hX]; simp
  have HG : Hid (Below w.heap.size w X ∧ w.heap.size + 1 < X.heap.size) := ⟨gX, by omega⟩
  have HC : Hid (∀ u, Below X.heap.size X u → u.cell? ⟨w.heap.size, 0, none⟩ = some (.slice a l.length cap) ∧ u.cell? ⟨w.heap.size + 1, 0, none⟩ = some (.slice b m.length mc)) := (show ∀ u, _ from fun u g => ⟨(g.cell (p := ⟨w.heap.size, 0, none⟩) (by show w.heap.size < _; omega)).trans c0, (g.cell (p := ⟨w.heap.size + 1, 0, none⟩) (by show w.heap.size + 1 < _; omega)).trans c1⟩)
  have HR1 : Hid (Calls Try.prog 10 #[.agg #[.slice a l.length cap]] X fun e w' => e = .returned (.bool (rightB l)) ∧ Below X.heap.size X w') := (show Calls _ _ _ _ _ from rright_any a l cap X (hs.below gX) hl hss)
  have HR2 : Hid (∀ u, Below X.heap.size X u → Calls Try.prog 10 #[.agg #[.slice b m.length mc]] u fun e w' => e = .returned (.bool (rightB m)) ∧ Below X.heap.size X w') := (show ∀ u, _ from fun u g => (rright_any b m mc u ((ht.below gX).below g) hm hst).mono fun e w' ⟨h1, h2⟩ => ⟨h1, btr g h2 (Nat.le_refl _)⟩)
  have HC1 : Hid (∀ u, Below X.heap.size X u → Calls Try.prog 34 #[.agg #[.slice a l.length cap]] u fun e w' => CdR u l e w') := (show ∀ u, _ from fun u g => rcubes_any a l cap u ((hs.below gX).below g) hl hss)
  have HC2 : Hid (∀ u, Below X.heap.size X u → Calls Try.prog 34 #[.agg #[.slice b m.length mc]] u fun e w' => CdR u m e w') := (show ∀ u, _ from fun u g => rcubes_any b m mc u ((ht.below gX).below g) hm hst)
  clear hs ht hss hst gX zX
  obtain ⟨R, hR⟩ : ∃ R, djP l m = R := ⟨_, rfl⟩
  have HR : Hid (djP l m = R) := hR
  rw [hR]
  generalize l.length = ln at *
  generalize m.length = mn at *
  clear hR
  cases hb : rightB l with
  | false =>
    have HE : Hid (R = (false, 1)) := (show _ = _ by rw [← HR.out]; unfold djP; simp [hb])
    rw [hb] at HR1
    clear hb HC1 HC2 HR2
    go_enter Try.func37, Try.ntmps37
    go_wp2_with (go_at_call 10; refine HR1.out.mono ?_; rintro e w1 ⟨rfl, h1⟩; have HB1 : Hid (Below X.heap.size X w1) := h1; clear h1)
    go_ret2
    exact ⟨by rw [HE.out]; rfl, btr HG.out.1 HB1.out (by have := HG.out.2; omega)⟩
  | true =>
    rw [hb] at HR1
    cases hb2 : rightB m with
    | false =>
      have HE : Hid (R = (false, 1)) := (show _ = _ by rw [← HR.out]; unfold djP; simp [hb, hb2])
      rw [hb2] at HR2
      clear hb hb2 HC1 HC2
      go_enter Try.func37, Try.ntmps37
      go_wp2_with (first
        | (have hz := HR1.out; go_at_call_of 10 (Value.agg #[.slice a ln cap]); refine hz.mono ?_; clear hz; rintro e w1 ⟨rfl, h1⟩; have HB1 : Hid (Below X.heap.size X w1) := h1; have k1 := (HC.out w1 h1).1; have k2 := (HC.out w1 h1).2; clear h1 HR1)
        | (go_at_call 10; refine (HR2.out _ HB1.out).mono ?_; rintro e w2 ⟨rfl, h1⟩; have HB2 : Hid (Below X.heap.size X w2) := h1; clear h1)
        | fail)
      go_ret2
      exact ⟨by rw [HE.out]; rfl, btr HG.out.1 HB2.out (by have := HG.out.2; omega)⟩
    | true =>
      rw [hb2] at HR2
      have HRe : Hid (R = match listO l, listO m with | some A, some B => (apartB A B, 0) | _, _ => (false, 44)) := (show _ = _ by rw [← HR.out]; unfold djP; simp only [hb, hb2]; rfl)
      have HM2 : Hid (∀ u, Below X.heap.size X u → Calls Try.prog 34 #[.agg #[.slice b mn mc]] u fun e w' => (listO m = none ∧ e = .returned (.tuple #[.slice none 0 0, .int .i64 44]) ∧ Below u.heap.size u w') ∨ (∃ r x d, listO m = some r ∧ e = .returned (.tuple #[.slice x r.length d, .int .i64 0]) ∧ CuF (fun _ => True) w' x r ∧ AllVk r ∧ Below u.heap.size u w')) := (show ∀ u, _ from fun u g => (HC2.out u g).mono fun e w' hq => by
        rcases hq with ⟨h1, _⟩ | ⟨_, h2, h3, h4⟩ | ⟨_, h⟩
        · rw [hb2] at h1; cases h1
        · exact .inl ⟨h2, h3, h4⟩
        · exact .inr h)
      have HM1 : Hid (∀ u, Below X.heap.size X u → Calls Try.prog 34 #[.agg #[.slice a ln cap]] u fun e w' => (listO l = none ∧ e = .returned (.tuple #[.slice none 0 0, .int .i64 44]) ∧ Below u.heap.size u w') ∨ (∃ r x d, listO l = some r ∧ e = .returned (.tuple #[.slice x r.length d, .int .i64 0]) ∧ CuF (fun _ => True) w' x r ∧ AllVk r ∧ Below u.heap.size u w')) := (show ∀ u, _ from fun u g => (HC1.out u g).mono fun e w' hq => by
        rcases hq with ⟨h1, _⟩ | ⟨_, h2, h3, h4⟩ | ⟨_, h⟩
        · rw [hb] at h1; cases h1
        · exact .inl ⟨h2, h3, h4⟩
        · exact .inr h)
      have HLen : Hid ((∀ r, listO l = some r → r.length ≤ 128) ∧ (∀ r, listO m = some r → r.length ≤ 128)) := ⟨fun r h => listO_len h, fun r h => listO_len h⟩
      clear hb hb2 HC1 HC2 HR
      cases hL : listO l with
      | none =>
        have HE : Hid (R = (false, 44)) := (show _ = _ by rw [HRe.out, hL])
        have HN1 : Hid (∀ u, Below X.heap.size X u → Calls Try.prog 34 #[.agg #[.slice a ln cap]] u fun e w' => e = .returned (.tuple #[.slice none 0 0, .int .i64 44]) ∧ Below X.heap.size X w') := (show ∀ u, _ from fun u g => (HM1.out u g).mono fun e w' hq => by
          rcases hq with ⟨_, h2, h3⟩ | ⟨r, x, d, h1, _⟩
          · exact ⟨h2, btr g h3 (Nat.le_refl _)⟩
          · rw [hL] at h1; cases h1)
        have HN2 : Hid (∀ u, Below X.heap.size X u → Calls Try.prog 34 #[.agg #[.slice b mn mc]] u fun e w' => ∃ y yn d ee, e = .returned (.tuple #[.slice y yn d, .int .i64 ee]) ∧ Below X.heap.size X w') := (show ∀ u, _ from fun u g => (HM2.out u g).mono fun e w' hq => by
          rcases hq with ⟨_, h2, h3⟩ | ⟨r, x, d, _, h2, _, _, h3⟩
          · exact ⟨_, _, _, _, h2, btr g h3 (Nat.le_refl _)⟩
          · exact ⟨_, _, _, _, h2, btr g h3 (Nat.le_refl _)⟩)
        clear HM1 HM2 HRe hL HLen
        go_enter Try.func37, Try.ntmps37
        go_wp2_with (first
          | (have hz := HR1.out; go_at_call_of 10 (Value.agg #[.slice a ln cap]); refine hz.mono ?_; clear hz; rintro e w1 ⟨rfl, h1⟩; have HB1 : Hid (Below X.heap.size X w1) := h1; have k1 := (HC.out w1 h1).1; have k2 := (HC.out w1 h1).2; clear h1 HR1)
          | (go_at_call 10; refine (HR2.out _ HB1.out).mono ?_; rintro e w2 ⟨rfl, h1⟩; have HB2 : Hid (Below X.heap.size X w2) := h1; have k3 := (HC.out w2 h1).1; have k4 := (HC.out w2 h1).2; clear h1)
          | (have hz := HN1.out; go_at_call_of 34 (Value.agg #[.slice a ln cap]); refine (hz _ HB2.out).mono ?_; clear hz; rintro e w3 ⟨rfl, h1⟩; have HB3 : Hid (Below X.heap.size X w3) := h1; have k5 := (HC.out w3 h1).1; have k6 := (HC.out w3 h1).2; clear h1 HN1)
          | (go_at_call 34; refine (HN2.out _ HB3.out).mono ?_; rintro e w4 ⟨y, yn, yd, ee, rfl, h1⟩; have HB4 : Hid (Below X.heap.size X w4) := h1; clear h1)
          | fail)
        go_ret2
        exact ⟨by rw [HE.out]; rfl, btr HG.out.1 HB4.out (by have := HG.out.2; omega)⟩
      | some A =>
        have HN1 : Hid (∀ u, Below X.heap.size X u → Calls Try.prog 34 #[.agg #[.slice a ln cap]] u fun e w' => ∃ x d, e = .returned (.tuple #[.slice x A.length d, .int .i64 0]) ∧ CuF (fun _ => True) w' x A ∧ AllVk A ∧ Below X.heap.size X w') := (show ∀ u, _ from fun u g => (HM1.out u g).mono fun e w' hq => by
          rcases hq with ⟨h1, _⟩ | ⟨r, x, d, h1, h2, h3, h4, h5⟩
          · rw [hL] at h1; cases h1
          · rw [hL] at h1; cases h1; exact ⟨x, d, h2, h3, h4, btr g h5 (Nat.le_refl _)⟩)
        have HA8 : Hid (A.length ≤ 128) := HLen.out.1 A hL
        cases hM : listO m with
        | none =>
          have HE : Hid (R = (false, 44)) := (show _ = _ by rw [HRe.out, hL, hM])
          have HN2 : Hid (∀ u, Below X.heap.size X u → Calls Try.prog 34 #[.agg #[.slice b mn mc]] u fun e w' => e = .returned (.tuple #[.slice none 0 0, .int .i64 44]) ∧ Below X.heap.size X w') := (show ∀ u, _ from fun u g => (HM2.out u g).mono fun e w' hq => by
            rcases hq with ⟨_, h2, h3⟩ | ⟨r, x, d, h1, _⟩
            · exact ⟨h2, btr g h3 (Nat.le_refl _)⟩
            · rw [hM] at h1; cases h1)
          clear HM1 HM2 HRe hL hM HLen
          go_enter Try.func37, Try.ntmps37
          go_wp2_with (first
            | (have hz := HR1.out; go_at_call_of 10 (Value.agg #[.slice a ln cap]); refine hz.mono ?_; clear hz; rintro e w1 ⟨rfl, h1⟩; have HB1 : Hid (Below X.heap.size X w1) := h1; have k1 := (HC.out w1 h1).1; have k2 := (HC.out w1 h1).2; clear h1 HR1)
            | (go_at_call 10; refine (HR2.out _ HB1.out).mono ?_; rintro e w2 ⟨rfl, h1⟩; have HB2 : Hid (Below X.heap.size X w2) := h1; have k3 := (HC.out w2 h1).1; have k4 := (HC.out w2 h1).2; clear h1)
            | (have hz := HN1.out; go_at_call_of 34 (Value.agg #[.slice a ln cap]); refine (hz _ HB2.out).mono ?_; clear hz; rintro e w3 ⟨ax, ad, rfl, h1, h2, h3⟩; have HB3 : Hid (Below X.heap.size X w3) := h3; have k5 := (HC.out w3 h3).1; have k6 := (HC.out w3 h3).2; clear h1 h2 h3 HN1)
            | (go_at_call 34; refine (HN2.out _ HB3.out).mono ?_; rintro e w4 ⟨rfl, h1⟩; have HB4 : Hid (Below X.heap.size X w4) := h1; clear h1)
            | fail)
          go_ret2
          exact ⟨by rw [HE.out]; rfl, btr HG.out.1 HB4.out (by have := HG.out.2; omega)⟩
        | some B =>
          have HE : Hid (R = (apartB A B, 0)) := (show _ = _ by rw [HRe.out, hL, hM])
          have HN2 : Hid (∀ u, Below X.heap.size X u → Calls Try.prog 34 #[.agg #[.slice b mn mc]] u fun e w' => ∃ x d, e = .returned (.tuple #[.slice x B.length d, .int .i64 0]) ∧ CuF (fun _ => True) w' x B ∧ AllVk B ∧ Below u.heap.size u w') := (show ∀ u, _ from fun u g => (HM2.out u g).mono fun e w' hq => by
            rcases hq with ⟨h1, _⟩ | ⟨r, x, d, h1, h2, h3, h4, h5⟩
            · rw [hM] at h1; cases h1
            · rw [hM] at h1; cases h1; exact ⟨x, d, h2, h3, h4, h5⟩)
          have HB8 : Hid (B.length ≤ 128) := HLen.out.2 B hM
          have HBo : Hid (∀ u x d y f, CuF (fun _ => True) u x A → CuF (fun _ => True) u y B → AllVk A → AllVk B → Calls Try.prog 57 #[.slice x A.length d, .slice y B.length f] u fun e w' => ∃ z g, e = .returned (.slice z (bothL A B).length g) ∧ Below u.heap.size u w') := (show ∀ u x d y f, _ from fun u x d y f h1 h2 h3 h4 => (both_f (fun _ => True) x A d y B f u h1 h2 h3 h4 HA8.out HB8.out (fun _ _ => trivial)).mono fun e w' ⟨z, g, k1, _, k2⟩ => ⟨z, g, k1, k2⟩)
          have hap := apart_len A B
          obtain ⟨bl, hbl⟩ : ∃ n, (bothL A B).length = n := ⟨_, rfl⟩
          rw [hbl] at HBo hap
          generalize apartB A B = q at *
          generalize A.length = an at *
          generalize B.length = bn at *
          clear HM1 HM2 HRe hL hM HLen hbl
          go_enter Try.func37, Try.ntmps37
          go_wp2_with (first
            | (have hz := HR1.out; go_at_call_of 10 (Value.agg #[.slice a ln cap]); refine hz.mono ?_; clear hz; rintro e w1 ⟨rfl, h1⟩; have HB1 : Hid (Below X.heap.size X w1) := h1; have k1 := (HC.out w1 h1).1; have k2 := (HC.out w1 h1).2; clear h1 HR1)
            | (go_at_call 10; refine (HR2.out _ HB1.out).mono ?_; rintro e w2 ⟨rfl, h1⟩; have HB2 : Hid (Below X.heap.size X w2) := h1; have k3 := (HC.out w2 h1).1; have k4 := (HC.out w2 h1).2; clear h1)
            | (have hz := HN1.out; go_at_call_of 34 (Value.agg #[.slice a ln cap]); refine (hz _ HB2.out).mono ?_; clear hz; rintro e w3 ⟨ax, ad, rfl, h1, h2, h3⟩; have HB3 : Hid (Below X.heap.size X w3 ∧ CuF (fun _ => True) w3 ax A ∧ AllVk A) := ⟨h3, h1, h2⟩; have k5 := (HC.out w3 h3).1; have k6 := (HC.out w3 h3).2; clear h1 h2 h3 HN1)
            | (go_at_call 34; refine (HN2.out _ HB3.out.1).mono ?_; rintro e w4 ⟨bx, bd, rfl, h1, h2, h3⟩; have HB4 : Hid (Below X.heap.size X w4 ∧ CuF (fun _ => True) w4 ax A ∧ CuF (fun _ => True) w4 bx B ∧ AllVk B) := ⟨btr HB3.out.1 h3 (Nat.le_refl _), HB3.out.2.1.below h3, h1, h2⟩; clear h1 h2 h3)
            | (go_at_call 57; refine (HBo.out _ ax ad bx bd HB4.out.2.1 HB4.out.2.2.1 HB3.out.2.2 HB4.out.2.2.2).mono ?_; rintro e w5 ⟨z, zd, rfl, h1⟩; have HB5 : Hid (Below X.heap.size X w5) := (show Below _ _ _ from btr HB4.out.1 h1 (Nat.le_refl _)); clear h1)
            | fail)
          go_ret2
          exact ⟨by rw [HE.out]; first | rfl | simp [← hap], btr HG.out.1 HB5.out (by have := HG.out.2; omega)⟩
end Go.Proofs.Ytmobmpghpdaddaa

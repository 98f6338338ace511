/-
  Right.
-/
import Derived.Test.YtmobmpghpdaddaaNode
namespace Go.Proofs.Ytmobmpghpdaddaa
open Go.ChangeShapes Go.WideShapes Go.ChangeAt Go.RowKit
set_option linter.unusedVariables false

theorem boxN (w : World) (x : Nd) (a : Option Addr) (c : Nat) : ∃ V, w.alloc (.cells #[.int .i64 x.k, .int .i64 x.t.f, cv x.t.v, cv x.t.m, .slice a x.s.length c] 39) = V ∧ N5 V w.heap.size 0 x a c ∧ Below w.heap.size w V ∧ V.heap.size = w.heap.size + 1 :=
  ⟨_, rfl, ⟨by simp, by simp, by simp, by simp, by simp⟩, by go_grown, by simp⟩
theorem rnB_len {x : Nd} {p : Int} (h : rnB x p = true) : x.s.length ≤ 12 := by
  unfold rnB at h
  split at h
  · simp at h; rw [h.2]; simp
  · split at h
    · simp at h; rw [h.2]; simp
    · split at h
      · simp at h; exact h.1.2
      · split at h
        · simp at h; omega
        · cases h
set_option maxRecDepth 20000 in
set_option maxHeartbeats 4000000 in
theorem right_any (a : Option Addr) (l : List Nd) (cap : Nat) (w : World) (hs : Ns w a l) (hl : l.length ≤ 9223372036854775807) (hss : ∀ x ∈ l, x.s.length ≤ 9223372036854775807) :
    Calls Try.prog 9 #[.agg #[.slice a l.length cap]] w fun e w' => e = .returned (.bool (rightB l)) ∧ Below w.heap.size w w' := by
  obtain ⟨X, hX⟩ : ∃ X, w.alloc (.cells #[.slice a l.length cap] 24) = X := ⟨_, rfl⟩
  have gX : Below w.heap.size w X := by rw [← hX]; go_grown
  have zX : X.heap.size = w.heap.size + 1 := by rw [← hX]; simp
  have cX : X.cell? ⟨w.heap.size, 0, none⟩ = some (.slice a l.length cap) := by rw [← hX]; simp
  have HS : Hid (Ns X a l) := hs.below gX
  have HG : Hid (Below w.heap.size w X ∧ w.heap.size < X.heap.size) := ⟨gX, by omega⟩
  have HSS : Hid (∀ x ∈ l, x.s.length ≤ 9223372036854775807) := hss
  clear hs gX zX hss
  by_cases h0 : l.length = 0
  · have hE : rightB l = false := by unfold rightB; simp [h0]
    rw [hE]
    rw [h0] at cX hX ⊢
    clear hE h0
    go_enter Try.func9, Try.ntmps9
    go_wp2_with fail
    go_ret
    exact ⟨rfl, by first | exact HG.out.1 | go_grown⟩
  · by_cases h60 : l.length ≤ 60
    · have H0 : Hid (rightB l = rightFrom 0 (l.drop 0)) := (show _ = _ by unfold rightB; simp [h0, h60])
      have h1 : ((l.length : Int) == 0) = false := by simp; simpa using h0
      have h2 : ¬ (l.length : Int) = 0 := by omega
      have h3 : ¬ (60 : Int) < (l.length : Int) := by omega
      go_enter Try.func9, Try.ntmps9
      go_wp2_with fail
      clear hX
      go_loopw [18] (fun v18 wr => ∃ k : Nat, k ≤ l.length ∧ v18 = .int .i64 k ∧ Hid (rightB l = rightFrom k (l.drop k)) ∧ Hid (Below X.heap.size X wr)) (fun v18 _ => l.length - (intOf v18).toNat)
      case atStart => exact ⟨0, Nat.zero_le _, rfl, H0, Below.refl _ _⟩
      case round =>
        obtain ⟨k, hk, rfl, HK, HB⟩ := hrel
        clear H0 cX
        by_cases hlt : k < l.length
        · obtain ⟨g, o, rfl, hg, b, c, hN, hc, hI⟩ := (HS.out.below HB.out).at hlt
          have HD : Hid (rightB l = (rnB l[k] k && rightFrom (k + 1) (l.drop (k + 1)))) := (show _ = _ by rw [HK.out, List.drop_eq_getElem_cons hlt]; rfl)
          have hxl := HSS.out _ (List.getElem_mem hlt)
          obtain ⟨x, hx⟩ : ∃ y, l[k] = y := ⟨_, rfl⟩
          rw [hx] at hN hI HD hxl
          clear HK hx hc
          obtain ⟨V, hV, hNV, gV, zV⟩ := boxN wr x b c
          have HR : Hid (Calls Try.prog 38 #[ndV x b c, .int .i64 (k : Int)] V fun e w' => e = .returned (.bool (rnB x k)) ∧ Below X.heap.size X w') := (show Calls _ _ _ _ _ from (rightNode_any x b c k V (hI.below gV) hxl).mono fun e w' ⟨p1, p2⟩ => ⟨p1, btr (btr HB.out gV (Nat.le_refl _)) p2 (by omega)⟩)
          obtain ⟨c0, c1, c2, c3, c4⟩ := hN
          obtain ⟨d0, d1, d2, d3, d4⟩ := hNV
          clear gV zV hI hxl
          cases hr : rnB x k with
          | false =>
            rw [hr] at HR
            have HE : Hid (rightB l = false) := (show _ = _ by rw [HD.out, hr]; rfl)
            clear HD hr
            go_wp2_with (go_at_call 38; refine HR.out.mono ?_; rintro r w2 ⟨rfl, hb⟩; have HB2 : Hid (Below X.heap.size X w2) := hb; clear hb)
            go_ret
            exact ⟨by rw [HE.out]; rfl, btr HG.out.1 HB2.out (by have := HG.out.2; omega)⟩
          | true =>
            rw [hr] at HR
            have HE : Hid (rightB l = rightFrom (k + 1) (l.drop (k + 1))) := (show _ = _ by rw [HD.out, hr]; rfl)
            clear HD hr
            go_wp2_with (go_at_call 38; refine HR.out.mono ?_; rintro r w2 ⟨rfl, hb⟩; have HB2 : Hid (Below X.heap.size X w2) := hb; clear hb)
            go_roundw
            case rel => exact ⟨k + 1, by omega, by go_num, HE, HB2⟩
            case measure => simp [intOf]; omega
        · have HE : Hid (rightB l = true) := (show _ = _ by rw [HK.out, List.drop_of_length_le (by omega)]; rfl)
          clear HK
          go_wp2_with fail
          go_ret
          exact ⟨by rw [HE.out]; rfl, btr HG.out.1 HB.out (by have := HG.out.2; omega)⟩
    · have hE : rightB l = false := by unfold rightB; simp [h60]
      have h1 : ((l.length : Int) == 0) = false := by simp; simpa using h0
      have h2 : ¬ (l.length : Int) = 0 := by omega
      have h3 : (60 : Int) < (l.length : Int) := by omega
      rw [hE]
      clear hE
      go_enter Try.func9, Try.ntmps9
      go_wp2_with fail
      go_ret
      exact ⟨rfl, by first | exact HG.out.1 | go_grown⟩
end Go.Proofs.Ytmobmpghpdaddaa

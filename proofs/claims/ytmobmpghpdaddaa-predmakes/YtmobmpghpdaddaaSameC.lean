/-
  Two cubes, test by test.
-/
import Derived.Test.YtmobmpghpdaddaaAndOr
namespace Go.Proofs.Ytmobmpghpdaddaa
open Go.ChangeShapes Go.WideShapes Go.ChangeAt Go.RowKit
set_option linter.unusedVariables false
set_option linter.unusedSimpArgs false

def sameT : List Tst → List Tst → Bool
  | [], [] => true
  | t :: l, u :: m => decide (t.f = u.f) && (t.v == u.v) && (t.m == u.m) && sameT l m
  | _, _ => false
theorem sameT_iff : ∀ l m : List Tst, sameT l m = true ↔ l = m
  | [], [] => by simp [sameT]
  | [], u :: m => by simp [sameT]
  | t :: l, [] => by simp [sameT]
  | t :: l, u :: m => by
    unfold sameT
    rw [Bool.and_eq_true, Bool.and_eq_true, Bool.and_eq_true, sameT_iff l m]
    obtain ⟨a, b, c⟩ := t
    obtain ⟨d, e, f⟩ := u
    simp [and_assoc]
theorem sameT_len {l m : List Tst} (h : ¬ l.length = m.length) : sameT l m = false := by
  cases hs : sameT l m with
  | false => rfl
  | true => rw [(sameT_iff l m).1 hs] at h; exact absurd rfl h
theorem sameT_drop {l m : List Tst} {k : Nat} (h1 : k < l.length) (h2 : k < m.length) : sameT (l.drop k) (m.drop k) = (decide (l[k].f = m[k].f) && (l[k].v == m[k].v) && (l[k].m == m[k].m) && sameT (l.drop (k + 1)) (m.drop (k + 1))) := by
  rw [List.drop_eq_getElem_cons h1, List.drop_eq_getElem_cons h2]
  rfl
theorem sameT_end {l m : List Tst} {k : Nat} (h1 : ¬ k < l.length) (h2 : l.length = m.length) : sameT (l.drop k) (m.drop k) = true := by
  rw [List.drop_of_length_le (by omega), List.drop_of_length_le (by omega)]
  rfl
set_option maxRecDepth 20000 in
set_option maxHeartbeats 4000000 in
theorem sameC_any (a : Option Addr) (l : List Tst) (cap : Nat) (b : Option Addr) (m : List Tst) (mc : Nat) (w : World) (hs : Ts w a l) (ht : Ts w b m) (hl : l.length ≤ 9223372036854775807) (hm : m.length ≤ 9223372036854775807) :
    Calls Try.prog 30 #[.slice a l.length cap, .slice b m.length mc] w fun e w' => e = .returned (.bool (sameT l m)) ∧ Below w.heap.size w w' := by
  by_cases hlen : l.length = m.length
  · have HS : Hid (Ts w a l ∧ Ts w b m ∧ l.length = m.length) := ⟨hs, ht, hlen⟩
    have H0 : Hid (sameT l m = sameT (l.drop 0) (m.drop 0)) := (show _ = _ from rfl)
    obtain ⟨R, hR⟩ : ∃ R, sameT l m = R := ⟨_, rfl⟩
    rw [hR] at H0 ⊢
    obtain ⟨n, hn⟩ : ∃ n, l.length = n := ⟨_, rfl⟩
    have HN : Hid (l.length = n) := hn
    rw [← hlen, hn]
    rw [hn] at hl
    clear hs ht hlen hR hn hm
    go_enter Try.func30, Try.ntmps30
    go_wp2_with fail
    go_loopw [5] (fun v5 wr => ∃ k : Nat, k ≤ n ∧ v5 = .int .i64 k ∧ Hid (R = sameT (l.drop k) (m.drop k)) ∧ Hid (Below w.heap.size w wr)) (fun v5 _ => n - (intOf v5).toNat)
    case atStart => exact ⟨0, Nat.zero_le _, rfl, H0, Below.refl _ _⟩
    case round =>
      obtain ⟨k, hk, rfl, HK, HB⟩ := hrel
      clear H0
      by_cases hlt : k < n
      · have hkl : k < l.length := by have := HN.out; omega
        have hkm : k < m.length := by have := HN.out; have := HS.out.2.2; omega
        obtain ⟨g, o, rfl, hg, hc⟩ := (HS.out.1.below HB.out).at hkl
        obtain ⟨g2, o2, rfl, hg2, hc2⟩ := (HS.out.2.1.below HB.out).at hkm
        obtain ⟨c0, c1, c2⟩ := hc k hkl
        obtain ⟨d0, d1, d2⟩ := hc2 k hkm
        have HD : Hid (R = (decide (l[k].f = m[k].f) && (l[k].v == m[k].v) && (l[k].m == m[k].m) && sameT (l.drop (k + 1)) (m.drop (k + 1)))) := (show _ = _ by rw [HK.out, sameT_drop hkl hkm])
        clear HK hc hc2
        generalize l[k] = t at *
        generalize m[k] = u at *
        clear hkl hkm
        obtain ⟨tf, tv, tm⟩ := t
        obtain ⟨uf, uv, um⟩ := u
        simp only at c0 c1 c2 d0 d1 d2 HD
        by_cases h1 : tf = uf
        · subst h1
          by_cases h2 : tv = uv
          · subst h2
            by_cases h3 : tm = um
            · subst h3
              have HE : Hid (R = sameT (l.drop (k + 1)) (m.drop (k + 1))) := (show _ = _ by rw [HD.out]; simp)
              have HN2 : Hid (∀ q, Below w.heap.size w (wr.drewN q)) := (show ∀ q, _ from fun q => bdr HB.out q)
              clear HD
              go_wp2_with fail
              go_quiet (fail)
              go_wp2_with fail
              go_roundw
              case rel => exact ⟨k + 1, by omega, by go_num, HE, HN2.out _⟩
              case measure => simp [intOf]; omega
            · have HE : Hid (R = false) := (show _ = _ by rw [HD.out, (show (tm == um) = false by simpa using h3)]; simp)
              have h1' : (nb tm != nb um) = true := by simpa [nb_inj] using h3
              clear HD h3
              have HB2 : Hid (∀ q, Below w.heap.size w (wr.drewN q)) := (show ∀ q, _ from fun q => bdr HB.out q)
              go_wp2_with fail
              go_quiet (fail)
              go_wp2_with fail
              go_ret
              exact ⟨by rw [HE.out]; rfl, HB2.out _⟩
          · have HE : Hid (R = false) := (show _ = _ by rw [HD.out, (show (tv == uv) = false by simpa using h2)]; simp)
            have h1' : (nb tv != nb uv) = true := by simpa [nb_inj] using h2
            clear HD h2
            have HB2 : Hid (∀ q, Below w.heap.size w (wr.drewN q)) := (show ∀ q, _ from fun q => bdr HB.out q)
            go_wp2_with fail
            go_quiet (fail)
            go_wp2_with fail
            go_ret
            exact ⟨by rw [HE.out]; rfl, HB2.out _⟩
        · have HE : Hid (R = false) := (show _ = _ by rw [HD.out, decide_eq_false h1]; rfl)
          have h1' : (tf != uf) = true := by simpa using h1
          clear HD h1
          have HB2 : Hid (∀ q, Below w.heap.size w (wr.drewN q)) := (show ∀ q, _ from fun q => bdr HB.out q)
          go_wp2_with fail
          go_quiet (fail)
          go_wp2_with fail
          go_ret
          exact ⟨by rw [HE.out]; rfl, HB2.out _⟩
      · have HE : Hid (R = true) := (show _ = _ by rw [HK.out, sameT_end (by have := HN.out; omega) HS.out.2.2])
        clear HK
        go_wp2_with fail
        go_ret
        exact ⟨by rw [HE.out]; rfl, HB.out⟩
  · have hE : sameT l m = false := sameT_len hlen
    rw [hE]
    have h1 : ¬ (l.length : Int) = (m.length : Int) := by omega
    have h2 : ((l.length : Int) == (m.length : Int)) = false := by simpa using h1
    clear hE
    go_enter Try.func30, Try.ntmps30
    go_wp2_with fail
    go_ret
    exact ⟨rfl, Below.refl _ _⟩
end Go.Proofs.Ytmobmpghpdaddaa

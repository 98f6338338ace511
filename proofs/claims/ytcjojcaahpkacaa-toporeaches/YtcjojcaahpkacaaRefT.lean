/-
  The document's topology: hosts, costs, ports.
-/
import Derived.Test.YtcjojcaahpkacaaRefS
namespace Go.Proofs.Ytcjojcaahpkacaa
open Go.ChangeShapes Go.WideShapes Go.ChangeAt Go.RowKit
set_option linter.unusedVariables false

def rhomeX (l : List Lk) (h : Int) : Int × Int × Int := if 0 < h then homeF 0 l h else (0, 0, 0)
set_option maxRecDepth 20000 in
set_option maxHeartbeats 4000000 in
theorem rhome_any {r n cap : Nat} {w : World} {a : Option Addr} {l : List Lk} (h : RTm w r n a cap l) (hl : l.length ≤ 100) (q : Int) (hq : q ≤ 9223372036854775807) :
    Calls Try.prog 21 #[.pointer (some ⟨r, 0, none⟩), .int .i64 q] w fun e w' => e = .returned (.tuple #[.int .i64 (rhomeX l q).1, .int .i64 (rhomeX l q).2.1]) ∧ Below w.heap.size w w' := by
  obtain ⟨ans, hans⟩ : ∃ ans, rhomeX l q = ans := ⟨_, rfl⟩
  rw [hans]
  have c1 := h.c1
  have hrl := h.lt
  by_cases hp : 0 < q
  · have HA : Hid (homeF 0 (l.drop 0) q = ans) := (show _ = _ by rw [List.drop_zero, ← hans]; unfold rhomeX; rw [if_pos hp])
    clear hans
    go_enter Try.func21, Try.ntmps21
    go_wp2
    go_loopw [6] (fun v9 wr => ∃ k : Nat, k ≤ l.length ∧ v9 = .int .i64 k ∧ Hid (homeF k (l.drop k) q = ans) ∧ wr = w) (fun v9 _ => l.length - (intOf v9).toNat)
    case atStart => exact ⟨0, Nat.zero_le _, rfl, HA, rfl⟩
    case round =>
      obtain ⟨k, hk, rfl, HK, HB⟩ := hrel
      obtain rfl : wr = w := HB
      by_cases hlt : k < l.length
      · obtain ⟨g, o, rfl, hg, hc⟩ := h.ls.at hlt
        obtain ⟨d0, d1, d2, d3, d4⟩ := hc k hlt
        have HE := home_here hlt q
        rw [HK.out] at HE
        obtain ⟨x, hx⟩ : ∃ x, l[k] = x := ⟨_, rfl⟩
        rw [hx] at d0 d1 d2 d3 d4 HE
        clear hc hx h HK
        by_cases hA : x.b = -q
        · rw [if_pos hA] at HE
          have HEn : Hid (ans = (x.a, x.p, (k : Int) + 1)) := HE
          have t1 : (x.b == -q) = true := by simp [hA]
          clear HE hA
          go_wp2
          go_quiet (fail)
          go_wp2
          go_ret2
          exact ⟨ret2 (a := (x.a, x.p, (k : Int) + 1)) HEn.out, bdr (Below.refl _ _) _⟩
        · rw [if_neg hA] at HE
          have HN : Hid (homeF (k + 1) (l.drop (k + 1)) q = ans) := HE.symm
          have t1 : (x.b == -q) = false := by simp [hA]
          clear HE hA
          go_wp2
          go_roundw
          case rel => exact ⟨k + 1, by omega, by go_num, HN, by first | rfl | trivial⟩
          case measure => simp [intOf]; omega
      · have HE : Hid (ans = (0, 0, 0)) := (show _ = _ by
          have := HK.out
          rw [List.drop_of_length_le (by omega)] at this
          rw [← this]
          rfl)
        clear h
        go_wp2
        go_ret2
        exact ⟨ret2 (a := (0, 0, 0)) HE.out, Below.refl _ _⟩
  · have HE : Hid (ans = (0, 0, 0)) := (show _ = _ by rw [← hans]; unfold rhomeX; rw [if_neg hp])
    clear hans
    go_enter Try.func21, Try.ntmps21
    go_wp2
    go_loopw [6] (fun v9 wr => ∃ k : Nat, k ≤ l.length ∧ v9 = .int .i64 k ∧ wr = w) (fun v9 _ => l.length - (intOf v9).toNat)
    case atStart => exact ⟨0, Nat.zero_le _, rfl, rfl⟩
    case round =>
      obtain ⟨k, hk, rfl, HB⟩ := hrel
      obtain rfl : wr = w := HB
      clear h
      by_cases hlt : k < l.length
      · go_wp2
        go_roundw
        case rel => exact ⟨k + 1, by omega, by go_num, by first | rfl | trivial⟩
        case measure => simp [intOf]; omega
      · go_wp2
        go_ret2
        exact ⟨ret2 (a := (0, 0, 0)) HE.out, Below.refl _ _⟩
set_option maxHeartbeats 1000000 in
theorem rcost_any {r n cap : Nat} {w : World} {a : Option Addr} {l : List Lk} (h : RTm w r n a cap l) (hl : l.length ≤ 100) (k : Int) :
    Calls Try.prog 23 #[.pointer (some ⟨r, 0, none⟩), .int .i64 k] w fun e w' => e = .returned (.float .f64 (costX l k)) ∧ w' = w := by
  have c1 := h.c1
  have hrl := h.lt
  unfold costX
  cases h1 : inB k 1 l.length
  · simp only [Bool.false_eq_true, if_false]
    have h2 := inB_false.1 h1
    clear h1 h
    by_cases h3 : k < 1
    · clear h2
      go_enter Try.func23, Try.ntmps23
      go_wp2
      go_ret
      exact ⟨rfl, rfl⟩
    · have h4 : (l.length : Int) < k := by omega
      clear h2
      go_enter Try.func23, Try.ntmps23
      go_wp2
      go_ret
      exact ⟨rfl, rfl⟩
  · simp only [if_true]
    obtain ⟨a1, a2⟩ := inB_true.1 h1
    obtain ⟨i, rfl⟩ : ∃ i : Nat, k = (i : Int) + 1 := ⟨(k - 1).toNat, by omega⟩
    have hi : i < l.length := by omega
    obtain ⟨g, o, rfl, hg, hc⟩ := h.ls.at hi
    obtain ⟨d0, d1, d2, d3, d4⟩ := hc i hi
    have hx : (l.map Lk.c).getD ((i : Int) + 1 - 1).toNat 0 = l[i].c := by
      rw [show ((i : Int) + 1 - 1).toNat = i by omega]
      simp [hi]
    rw [hx]
    generalize l[i].c = c at d4 ⊢
    clear h1 h hx hc d0 d1 d2 d3
    go_enter Try.func23, Try.ntmps23
    go_wp2
    go_ret
    exact ⟨rfl, rfl⟩
set_option maxRecDepth 20000 in
set_option maxHeartbeats 4000000 in
theorem rports_any {r n cap : Nat} {w : World} {a : Option Addr} {l : List Lk} (h : RTm w r n a cap l) (hl : l.length ≤ 100) (s : Int) :
    Calls Try.prog 16 #[.pointer (some ⟨r, 0, none⟩), .int .i64 s] w fun e w' => ∃ v, e = .returned v ∧ OwnI w.heap.size w' v (linked (fun p : Nat => peerF 0 l s ((p : Int) + 1)) 16) ∧ Below w.heap.size w w' := by
  obtain ⟨f, hf⟩ : ∃ f : Nat → Int × Int × Int, (fun p : Nat => peerF 0 l s ((p : Int) + 1)) = f := ⟨_, rfl⟩
  have HP : Hid (∀ w', Below w.heap.size w w' → ∀ k : Nat, Calls Try.prog 13 #[.pointer (some ⟨r, 0, none⟩), .int .i64 s, .int .i64 ((k : Int) + 1)] w' fun e w'' => e = .returned (.tuple #[.int .i64 (f k).1, .int .i64 (f k).2.1, .int .i64 (f k).2.2]) ∧ Below w'.heap.size w' w'') := (show ∀ w', _ from fun w' g k => by
    rw [← hf]
    exact rpeer_any (h.below g) hl s _)
  rw [hf]
  clear hf h
  go_enter Try.func16, Try.ntmps16
  go_wp2
  go_loopw [5, 6] (fun v5 v6 wr => ∃ k : Nat, k ≤ 16 ∧ v6 = .int .i64 ((k : Int) + 1) ∧ Hid (PtI w v5 (linked f k) wr)) (fun _ v6 _ => 17 - (intOf v6).toNat)
  case atStart => exact ⟨0, Nat.zero_le _, rfl, (show PtI _ _ _ _ from ⟨World.ownsRow_nil _ _ _ _, Below.refl _ _⟩)⟩
  case round =>
    obtain ⟨k, hk, rfl, HJ⟩ := hrel
    by_cases hlt : k < 16
    · have HC := HP.out wr HJ.out.bel k
      have HS : Hid (linked f (k + 1) = linked f k ++ if 0 < (f k).2.2 then [(k : Int) + 1] else []) := linked_succ f k
      have HLe : Hid ((linked f k).length ≤ k) := linked_le f k
      generalize f k = x at HC HS
      have HC2 : Hid (Calls Try.prog 13 #[.pointer (some ⟨r, 0, none⟩), .int .i64 s, .int .i64 ((k : Int) + 1)] wr fun e w'' => e = .returned (.tuple #[.int .i64 x.1, .int .i64 x.2.1, .int .i64 x.2.2]) ∧ Below wr.heap.size wr w'') := HC
      clear HC
      go_wp2_with fail
      refine HC2.out.mono ?_
      rintro e w1 ⟨rfl, g1⟩
      have HG1 : Hid (Below wr.heap.size wr w1) := g1
      clear g1
      by_cases h0 : 0 < x.2.2
      · have HS2 : Hid (linked f (k + 1) = linked f k ++ [(k : Int) + 1]) := (show _ = _ by rw [HS.out, if_pos h0])
        clear HS
        go_wp2_with (at_builtin; refine wpList_app1 rfl _ _ rfl w.heap.size u5 (linked f k) rfl (own_below HJ.out.own (btr HG1.out (by go_grown) (Nat.le_refl _))) _ ((k : Int) + 1) rfl (by simp) (by have := HLe.out; omega) (by have := HJ.out.bel.size; have := HG1.out.size; simp; omega) ?_; intro v' w2 ho2 hg2; have HN : Hid (PtI w v' (linked f (k + 1)) w2) := (show PtI _ _ _ _ by (rw [HS2.out]; exact HJ.out.app (btr HG1.out (by go_grown) (Nat.le_refl _)) ho2 hg2)); clear ho2 hg2)
        go_roundw
        case rel => exact ⟨k + 1, by omega, by go_num, HN⟩
        case measure => simp [intOf]; omega
      · have HN : Hid (PtI w u5 (linked f (k + 1)) w1) := (show PtI _ _ _ _ by rw [HS.out, if_neg h0, List.append_nil]; exact HJ.out.grow HG1.out)
        clear HS
        go_wp2
        go_roundw
        case rel => exact ⟨k + 1, by omega, by go_num, HN⟩
        case measure => simp [intOf]; omega
    · have hk16 : k = 16 := by omega
      subst hk16
      go_wp2
      go_ret
      exact ⟨_, rfl, HJ.out.own, HJ.out.bel⟩
/-- Where a host is, as Hosts asks it. -/
def atH (l : List Lk) (p : Nat) : Int × Int × Int := ((homeF 0 l ((p : Int) + 1)).1, 0, (homeF 0 l ((p : Int) + 1)).1)
set_option maxRecDepth 20000 in
set_option maxHeartbeats 4000000 in
theorem rhosts_any {r n cap : Nat} {w : World} {a : Option Addr} {l : List Lk} (h : RTm w r n a cap l) (hl : l.length ≤ 100) :
    Calls Try.prog 19 #[.pointer (some ⟨r, 0, none⟩)] w fun e w' => ∃ v, e = .returned v ∧ OwnI w.heap.size w' v (linked (atH l) 64) ∧ Below w.heap.size w w' := by
  have HP : Hid (∀ w', Below w.heap.size w w' → ∀ k : Nat, k < 64 → Calls Try.prog 21 #[.pointer (some ⟨r, 0, none⟩), .int .i64 ((k : Int) + 1)] w' fun e w'' => (∃ y, e = .returned (.tuple #[.int .i64 (atH l k).2.2, .int .i64 y])) ∧ Below w'.heap.size w' w'') := (show ∀ w', _ from fun w' g k hk => by
    refine (rhome_any (h.below g) hl ((k : Int) + 1) (by omega)).mono ?_
    rintro e w'' ⟨rfl, g2⟩
    unfold rhomeX atH
    rw [if_pos (by omega)]
    exact ⟨⟨_, rfl⟩, g2⟩)
  generalize atH l = f at *
  clear h
  go_enter Try.func19, Try.ntmps19
  go_wp2
  go_loopw [3, 4] (fun v5 v6 wr => ∃ k : Nat, k ≤ 64 ∧ v6 = .int .i64 ((k : Int) + 1) ∧ Hid (PtI w v5 (linked f k) wr)) (fun _ v6 _ => 65 - (intOf v6).toNat)
  case atStart => exact ⟨0, Nat.zero_le _, rfl, (show PtI _ _ _ _ from ⟨World.ownsRow_nil _ _ _ _, Below.refl _ _⟩)⟩
  case round =>
    obtain ⟨k, hk, rfl, HJ⟩ := hrel
    by_cases hlt : k < 64
    · have HC := HP.out wr HJ.out.bel k hlt
      have HS : Hid (linked f (k + 1) = linked f k ++ if 0 < (f k).2.2 then [(k : Int) + 1] else []) := linked_succ f k
      have HLe : Hid ((linked f k).length ≤ k) := linked_le f k
      generalize f k = x at HC HS
      have HC2 : Hid (Calls Try.prog 21 #[.pointer (some ⟨r, 0, none⟩), .int .i64 ((k : Int) + 1)] wr fun e w'' => (∃ y, e = .returned (.tuple #[.int .i64 x.2.2, .int .i64 y])) ∧ Below wr.heap.size wr w'') := HC
      clear HC
      go_wp2_with fail
      refine HC2.out.mono ?_
      rintro e w1 ⟨⟨y, rfl⟩, g1⟩
      have HG1 : Hid (Below wr.heap.size wr w1) := g1
      clear g1
      by_cases h0 : 0 < x.2.2
      · have HS2 : Hid (linked f (k + 1) = linked f k ++ [(k : Int) + 1]) := (show _ = _ by rw [HS.out, if_pos h0])
        clear HS
        go_wp2_with (at_builtin; refine wpList_app1 rfl _ _ rfl w.heap.size u3 (linked f k) rfl (own_below HJ.out.own (btr HG1.out (by go_grown) (Nat.le_refl _))) _ ((k : Int) + 1) rfl (by simp) (by have := HLe.out; omega) (by have := HJ.out.bel.size; have := HG1.out.size; simp; omega) ?_; intro v' w2 ho2 hg2; have HN : Hid (PtI w v' (linked f (k + 1)) w2) := (show PtI _ _ _ _ by (rw [HS2.out]; exact HJ.out.app (btr HG1.out (by go_grown) (Nat.le_refl _)) ho2 hg2)); clear ho2 hg2)
        go_roundw
        case rel => exact ⟨k + 1, by omega, by go_num, HN⟩
        case measure => simp [intOf]; omega
      · have HN : Hid (PtI w u3 (linked f (k + 1)) w1) := (show PtI _ _ _ _ by rw [HS.out, if_neg h0, List.append_nil]; exact HJ.out.grow HG1.out)
        clear HS
        go_wp2
        go_roundw
        case rel => exact ⟨k + 1, by omega, by go_num, HN⟩
        case measure => simp [intOf]; omega
    · have hk16 : k = 64 := by omega
      subst hk16
      go_wp2
      go_ret
      exact ⟨_, rfl, HJ.out.own, HJ.out.bel⟩
end Go.Proofs.Ytcjojcaahpkacaa

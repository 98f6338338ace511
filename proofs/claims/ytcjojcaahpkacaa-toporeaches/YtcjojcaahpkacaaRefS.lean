/-
  The document's topology: its cells; what it answers of ports, hosts and costs.
-/
import Derived.Test.YtcjojcaahpkacaaPorts
namespace Go.Proofs.Ytcjojcaahpkacaa
open Go.ChangeShapes Go.WideShapes Go.ChangeAt Go.RowKit
set_option linter.unusedVariables false

/-- The document's topology at block r. -/
structure RTm (w : World) (r : Nat) (n : Nat) (a : Option Addr) (cap : Nat) (l : List Lk) : Prop where
  c0 : w.cell? ⟨r, 0, none⟩ = some (.int .i64 n)
  c1 : w.cell? ⟨r, 1, none⟩ = some (.slice a l.length cap)
  ls : Ls w a l
  lt : r < w.heap.size
theorem RTm.below {w w' : World} {r n cap : Nat} {a : Option Addr} {l : List Lk} (h : RTm w r n a cap l) (g : Below w.heap.size w w') : RTm w' r n a cap l :=
  ⟨(g.cell (p := ⟨r, 0, none⟩) h.lt).trans h.c0, (g.cell (p := ⟨r, 1, none⟩) h.lt).trans h.c1, h.ls.below g, Nat.lt_of_lt_of_le h.lt g.size⟩
set_option maxHeartbeats 400000 in
theorem rin_any (n lo hi : Int) (w : World) : Calls Try.prog 31 #[.int .i64 n, .int .i64 lo, .int .i64 hi] w fun e w' => e = .returned (.bool (inB n lo hi)) ∧ w' = w := by
  unfold inB
  by_cases h1 : lo ≤ n <;> by_cases h2 : n ≤ hi <;>
  · simp only [h1, h2, decide_true, decide_false, Bool.and_true, Bool.and_false]
    go_enter Try.func31, Try.ntmps31
    go_wp2
    go_ret
    exact ⟨rfl, rfl⟩
/-- Is a number in a list? -/
def hasB (l : List Int) (x : Int) : Bool := decide (x ∈ l)
theorem hasB_true {l : List Int} {x : Int} : hasB l x = true ↔ x ∈ l := by unfold hasB; simp
theorem hasB_false {l : List Int} {x : Int} : hasB l x = false ↔ x ∉ l := by unfold hasB; simp
set_option maxHeartbeats 1000000 in
theorem rhas_any (a : Option Addr) (ds : List Int) (cap : Nat) (x : Int) (w : World) (hd : Is w a ds) (hl : ds.length ≤ 1000) : Calls Try.prog 26 #[.slice a ds.length cap, .int .i64 x] w fun e w' => e = .returned (.bool (hasB ds x)) ∧ w' = w := by
  go_enter Try.func26, Try.ntmps26
  go_wp2
  go_loop [5] (fun v5 => ∃ k : Nat, k ≤ ds.length ∧ v5 = .int .i64 k ∧ Hid (x ∉ ds.take k)) (fun v5 => ds.length - (intOf v5).toNat)
  case atStart => exact ⟨0, Nat.zero_le _, rfl, (show x ∉ _ by simp)⟩
  case round =>
    obtain ⟨k, hk, rfl, HN⟩ := hrel
    by_cases hlt : k < ds.length
    · obtain ⟨g, o, rfl, hg, hc⟩ := hd.at hlt
      have d0 := hc k hlt
      by_cases he : ds[k] = x
      · have HR : Hid (hasB ds x = true) := (show _ = _ from hasB_true.2 (by rw [← he]; exact List.getElem_mem hlt))
        rw [he] at d0
        clear hc he hd
        go_wp2
        go_ret
        exact ⟨ret_bool HR.out.symm, rfl⟩
      · have HN2 : Hid (x ∉ ds.take (k + 1)) := (show x ∉ _ by
          rw [List.take_succ_eq_append_getElem hlt, List.mem_append, List.mem_singleton]
          rintro (h | h)
          · exact HN.out h
          · exact he h.symm)
        have hb : (ds[k] == x) = false := by simp [he]
        clear hc he hd
        generalize ds[k] = y at d0 hb
        go_wp2
        go_round
        case rel => exact ⟨k + 1, by omega, by go_num, HN2⟩
        case measure => simp [intOf]; omega
    · have HR : Hid (hasB ds x = false) := (show _ = _ from hasB_false.2 (by
        have := HN.out
        rwa [List.take_of_length_le (by omega)] at this))
      clear hd
      go_wp2
      go_ret
      exact ⟨ret_bool HR.out.symm, rfl⟩
theorem peer_here {l : List Lk} {k : Nat} (hk : k < l.length) (s p : Int) : peerF k (l.drop k) s p = if l[k].a = s ∧ l[k].p = p then (l[k].b, l[k].q, (k : Int) + 1) else if l[k].b = s ∧ 0 < l[k].b ∧ l[k].q = p then (l[k].a, l[k].p, (k : Int) + 1) else peerF (k + 1) (l.drop (k + 1)) s p := by
  rw [List.drop_eq_getElem_cons hk, peerF]
theorem home_here {l : List Lk} {k : Nat} (hk : k < l.length) (h : Int) : homeF k (l.drop k) h = if l[k].b = -h then (l[k].a, l[k].p, (k : Int) + 1) else homeF (k + 1) (l.drop (k + 1)) h := by
  rw [List.drop_eq_getElem_cons hk, homeF]
theorem ret3 {a b : Int × Int × Int} (h : b = a) : Ending.returned (.tuple #[.int .i64 a.1, .int .i64 a.2.1, .int .i64 a.2.2]) = .returned (.tuple #[.int .i64 b.1, .int .i64 b.2.1, .int .i64 b.2.2]) := by rw [h]
theorem ret2 {a b : Int × Int × Int} (h : b = a) : Ending.returned (.tuple #[.int .i64 a.1, .int .i64 a.2.1]) = .returned (.tuple #[.int .i64 b.1, .int .i64 b.2.1]) := by rw [h]
set_option maxRecDepth 20000 in
set_option maxHeartbeats 4000000 in
theorem rpeer_any {r n cap : Nat} {w : World} {a : Option Addr} {l : List Lk} (h : RTm w r n a cap l) (hl : l.length ≤ 100) (s p : Int) :
    Calls Try.prog 13 #[.pointer (some ⟨r, 0, none⟩), .int .i64 s, .int .i64 p] w fun e w' => e = .returned (.tuple #[.int .i64 (peerF 0 l s p).1, .int .i64 (peerF 0 l s p).2.1, .int .i64 (peerF 0 l s p).2.2]) ∧ Below w.heap.size w w' := by
  have HT : Hid (∀ w', Below w.heap.size w w' → RTm w' r n a cap l) := (show ∀ w', _ from fun w' g => h.below g)
  clear h
  obtain ⟨ans, hans⟩ : ∃ ans, peerF 0 l s p = ans := ⟨_, rfl⟩
  rw [hans]
  have HA : Hid (peerF 0 (l.drop 0) s p = ans) := (show _ = _ by rw [List.drop_zero]; exact hans)
  clear hans
  go_enter Try.func13, Try.ntmps13
  go_wp2
  go_loopw [9] (fun v9 wr => ∃ k : Nat, k ≤ l.length ∧ v9 = .int .i64 k ∧ Hid (peerF k (l.drop k) s p = ans) ∧ Hid (Below w.heap.size w wr)) (fun v9 _ => l.length - (intOf v9).toNat)
  case atStart => exact ⟨0, Nat.zero_le _, rfl, HA, Below.refl _ _⟩
  case round =>
    obtain ⟨k, hk, rfl, HK, HB⟩ := hrel
    have hr := HT.out wr HB.out
    have c1 := hr.c1
    have hrl := hr.lt
    by_cases hlt : k < l.length
    · obtain ⟨g, o, rfl, hg, hc⟩ := hr.ls.at hlt
      obtain ⟨d0, d1, d2, d3, d4⟩ := hc k hlt
      have HE := peer_here hlt s p
      rw [HK.out] at HE
      obtain ⟨x, hx⟩ : ∃ x, l[k] = x := ⟨_, rfl⟩
      rw [hx] at d0 d1 d2 d3 d4 HE
      have fo := stored_float x.c
      clear hc hx hr HK
      by_cases hA : x.a = s ∧ x.p = p
      · rw [if_pos hA] at HE
        have HEn : Hid (ans = (x.b, x.q, (k : Int) + 1)) := HE
        have t1 : (x.a == s) = true := by simp [hA.1]
        have t2 : (x.p == p) = true := by simp [hA.2]
        clear HE hA
        go_wp2
        go_quiet (fail)
        go_wp2
        go_ret3
        exact ⟨ret3 (a := (x.b, x.q, (k : Int) + 1)) HEn.out, bdr (HB.out.trans (Below.mono (by go_grown) HB.out.size)) _⟩
      · rw [if_neg hA] at HE
        have hA' : (x.a == s) = false ∨ ((x.a == s) = true ∧ (x.p == p) = false) := by
          by_cases h1 : x.a = s
          · exact .inr ⟨by simp [h1], by simp; exact fun h2 => hA ⟨h1, h2⟩⟩
          · exact .inl (by simp [h1])
        clear hA
        by_cases hC : x.b = s ∧ 0 < x.b ∧ x.q = p
        · rw [if_pos hC] at HE
          have HEn : Hid (ans = (x.a, x.p, (k : Int) + 1)) := HE
          have t3 : (x.b == s) = true := by simp [hC.1]
          have t4 : 0 < x.b := hC.2.1
          have t5 : (x.q == p) = true := by simp [hC.2.2]
          clear HE hC
          rcases hA' with t1 | ⟨t1, t2⟩
          all_goals
            go_wp2
            go_quiet (fail)
            go_wp2
            go_ret3
            exact ⟨ret3 (a := (x.a, x.p, (k : Int) + 1)) HEn.out, bdr (HB.out.trans (Below.mono (by go_grown) HB.out.size)) _⟩
        · rw [if_neg hC] at HE
          have HN : Hid (peerF (k + 1) (l.drop (k + 1)) s p = ans) := HE.symm
          have hC' : (x.b == s) = false ∨ ((x.b == s) = true ∧ ¬ 0 < x.b) ∨ ((x.b == s) = true ∧ 0 < x.b ∧ (x.q == p) = false) := by
            by_cases h1 : x.b = s
            · by_cases h2 : 0 < x.b
              · exact .inr (.inr ⟨by simp [h1], h2, by simp; exact fun h3 => hC ⟨h1, h2, h3⟩⟩)
              · exact .inr (.inl ⟨by simp [h1], h2⟩)
            · exact .inl (by simp [h1])
          clear HE hC
          rcases hA' with t1 | ⟨t1, t2⟩ <;> rcases hC' with t3 | ⟨t3, t4⟩ | ⟨t3, t4, t5⟩
          all_goals
            go_wp2
            go_roundw
            case rel => exact ⟨k + 1, by omega, by go_num, HN, (show Below _ _ _ from HB.out.trans (Below.mono (by go_grown) HB.out.size))⟩
            case measure => simp [intOf]; omega
    · have HE : Hid (ans = (0, 0, 0)) := (show _ = _ by
        have := HK.out
        rw [List.drop_of_length_le (by omega)] at this
        rw [← this]
        rfl)
      clear hr
      go_wp2
      go_ret3
      exact ⟨ret3 (a := (0, 0, 0)) HE.out, HB.out⟩
end Go.Proofs.Ytcjojcaahpkacaa

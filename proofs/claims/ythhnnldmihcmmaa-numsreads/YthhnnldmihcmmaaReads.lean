/-
  The law NumsReads's walk: both readers go in step, call by call.
-/
import Derived.Test.YthhnnldmihcmmaaRefRead
import Derived.Deep.RegionWith
namespace Go.Proofs.Ythhnnldmihcmmaa
open Go.ChangeShapes Go.WideShapes Go.ChangeAt Go.RowKit

theorem Rd.drew {w : World} {b : Nat} {s : ByteArray} {e : Int} (r : Rd w b s e) : Rd w.drew b s e := ⟨r.c0, r.c1, r.f0, r.f1⟩

/-- What the walk is told of the asks: none, or each one's two cells. -/
def Asks (w : World) (a : Option Addr) (len : Nat) (P : Nat → Bool) (N : Nat → Int) : Prop :=
  len = 0 ∨ ∃ g o, a = some ⟨g, o, none⟩ ∧ g < w.heap.size ∧ ∀ i, i < len → w.cell? ⟨g, o + i * 2, none⟩ = some (.bool (P i)) ∧ w.cell? ⟨g, o + i * 2 + 1, none⟩ = some (.int .i64 (N i))

/-- Both readers, in step. -/
structure Two (w wr : World) (s s' : ByteArray) (e : Int) : Prop where
  a : Rd wr w.heap.size s e
  b : Rd wr (w.heap.size + 1) s' e
  same : e = 0 → s' = s
  gone : e ≠ 0 → s.size = 0
  z : s.size ≤ 10000
  bel : Below w.heap.size w wr

theorem takeV_same {s s' : ByteArray} {e : Int} (h : e = 0 → s' = s) (n : Int) (m : Bool) : takeV s' e n m = takeV s e n m := by
  by_cases he : e = 0
  · rw [h he]
  · simp [takeV, he]
theorem takeE_same {s s' : ByteArray} {e : Int} (h : e = 0 → s' = s) (n : Int) (m : Bool) : takeE s' e n m = takeE s e n m := by
  by_cases he : e = 0
  · rw [h he]
  · simp [takeE, he]
theorem takeS_z (s : ByteArray) (e n : Int) (m : Bool) (h : s.size ≤ 10000) : (takeS s e n m).size ≤ 10000 := by
  unfold takeS
  split
  · split
    · rw [ByteArray.size_extract]; omega
    · exact Nat.zero_le _
  · exact h
theorem numV_same {s s' : ByteArray} {e : Int} (h : e = 0 → s' = s) (n : Int) : numV s' e n = numV s e n := by unfold numV; rw [takeV_same h]
theorem Two.next {w wr w2 : World} {s s' : ByteArray} {e : Int} (t : Two w wr s s' e) (n : Int) (m : Bool)
    (ra : Rd w2 w.heap.size (takeS s e n m) (takeE s e n m)) (rb : Rd w2 (w.heap.size + 1) (refS s' e n m) (takeE s' e n m)) (bel : Below w.heap.size w w2) :
    Two w w2 (takeS s e n m) (refS s' e n m) (takeE s e n m) := by
  refine ⟨ra, (takeE_same t.same n m) ▸ rb, fun h => ?_, fun h => ?_, takeS_z _ _ _ _ t.z, bel⟩
  · have he : e = 0 := by
      refine Decidable.byContradiction fun he => he ?_
      rwa [takeE, if_neg he] at h
    have hs := t.same he
    subst he hs
    cases m
    · simp [takeE] at h
    · by_cases hl : n ≤ s'.size
      · simp [refS, takeS, hl]
      · simp [takeE, hl] at h
  · by_cases he : e = 0
    · subst he
      cases m
      · simp [takeS]; rfl
      · by_cases hl : n ≤ s.size
        · simp [takeE, hl] at h
        · simp [takeS, hl]; rfl
    · rw [takeS, if_neg he]; exact t.gone he

theorem left_same {w wr : World} {s s' : ByteArray} {e : Int} (t : Two w wr s s' e) : leftV s' e = s.size := by
  by_cases he : e = 0
  · have := t.same he; subst he this; rfl
  · simp [leftV, he, t.gone he]
theorem end_same {w wr : World} {s s' : ByteArray} {e : Int} (t : Two w wr s s' e) : endV s' e = endV s e := by
  by_cases he : e = 0
  · have := t.same he; subst he this; rfl
  · simp [endV, he]

theorem two_new (w : World) (data : ByteArray) (hd : data.size ≤ 10000) :
    Two w ((w.alloc (.cells #[.string data, .int .i64 0] 46)).alloc (.cells #[.string data, .int .i64 0] 33)) data data 0 := by
  have h := Rd.new w data 0 46
  refine ⟨⟨?_, ?_, ?_, ?_⟩, ?_, fun _ => rfl, fun h => absurd rfl h, hd, ?_⟩
  · simp
  · simp
  · simp
  · simp
  · have := Rd.new (w.alloc (.cells #[.string data, .int .i64 0] 46)) data 0 33
    simpa using this
  · exact ((Below.refl _ _).alloc (Nat.le_refl _) _).alloc (by simp) _

set_option maxHeartbeats 2000000 in
theorem reads_some (data : ByteArray) (g o len cap : Nat) (P : Nat → Bool) (N : Nat → Int) (w : World) (hd : data.size ≤ 10000) (hg : g < w.heap.size)
    (hc : ∀ i, i < len → w.cell? ⟨g, o + i * 2, none⟩ = some (.bool (P i)) ∧ w.cell? ⟨g, o + i * 2 + 1, none⟩ = some (.int .i64 (N i))) :
    Calls Try.prog 4 #[.string data, .slice (some ⟨g, o, none⟩) len cap] w fun x w' => x = .returned (.bool true) ∧ Below w.heap.size w w' := by
  have HC : Hid (∀ i, i < len → w.cell? ⟨g, o + i * 2, none⟩ = some (.bool (P i)) ∧ w.cell? ⟨g, o + i * 2 + 1, none⟩ = some (.int .i64 (N i))) := hc
  clear hc

  go_enter Try.func4, Try.ntmps4
  go_wp2_with fail
  refine (read_any _ _).mono ?_
  rintro e w1 ⟨rfl, rfl⟩
  go_wp2_with fail
  go_loopw [7] (fun i wr => ∃ (k : Nat) (s s' : ByteArray) (e : Int), k ≤ len ∧ k ≤ 60 ∧ i = .int .i64 k ∧ Two w wr s s' e) (fun i _ => 60 - (intOf i).toNat)
  case atStart => exact ⟨0, data, data, 0, Nat.zero_le _, Nat.zero_le _, rfl, two_new w data hd⟩
  case round =>
    obtain ⟨k, s, s', e, hk, hk60, rfl, t⟩ := hrel
    by_cases hlt : k < len ∧ k < 60
    · obtain ⟨hkl, hk6⟩ := hlt
      have hC := HC.out k hkl
      have hcl : wr.cell? ⟨g, o + k * 2, none⟩ = some (.bool (P k)) := (t.bel.cell (p := ⟨g, _, none⟩) hg).trans hC.1
      have HCN : Hid (∀ W : World, Below w.heap.size w W → W.cell? ⟨g, o + k * 2 + 1, none⟩ = some (.int .i64 (N k))) := fun W hb => (hb.cell (p := ⟨g, _, none⟩) hg).trans hC.2
      have hcn := HCN.out wr t.bel
      clear hC HC
      have hz : s.size ≤ maxLen := Nat.le_trans t.z (by decide)
      generalize N k = n at *
      cases hP : P k
      · rw [hP] at hcl
        have hv := numV_same t.same n
        go_wp2_with fail
        clear hcl hP
        go_region_with (first
          | (go_at_call 14; refine (num_any w.heap.size s e n _ ?_ ?_).mono ?_; exact hz; exact Rd.drew t.a; rintro x w1 ⟨rfl, r1, o1⟩; have bb1 : Below w.heap.size w w1 := o1.below (Nat.le_refl _) t.bel.drew; have hn1 := HCN.out w1 bb1)
          | (go_at_call 15; refine (ref_num (w.heap.size + 1) s' e n _ ?_).mono ?_; exact Rd.only (Rd.drew t.b) o1 (by omega); rintro x w2 ⟨rfl, r2, o2⟩))
        all_goals
          have t2 := Two.next t n (szB n) (Rd.only r1 o2 (by omega)) r2 (o2.below (by omega) bb1)
          have hL := left_same t2
          have hE := end_same t2
          clear hcn hn1 r1 r2 o1 o2 bb1 t HCN
          go_wp2_with fail
          refine (left_any _ _ _ _ t2.a).mono ?_
          rintro x w3 ⟨rfl, rfl⟩
          go_wp2_with fail
          refine (ref_left _ _ _ _ t2.b).mono ?_
          rintro x w3 ⟨rfl, rfl⟩
          go_wp2_with fail
          refine (end_any _ _ _ _ t2.a).mono ?_
          rintro x w3 ⟨rfl, rfl⟩
          go_wp2_with fail
          refine (ref_end _ _ _ _ t2.b).mono ?_
          rintro x w3 ⟨rfl, rfl⟩
          go_wp2_with fail
          go_roundw
          case rel => exact ⟨k + 1, _, _, _, by omega, by omega, by go_num, t2⟩
          case measure => simp [intOf]; omega
      · rw [hP] at hcl
        have hv := takeV_same t.same n (decide (0 ≤ n))
        go_wp2_with fail
        clear hcl hP
        go_region_with (first
          | (go_at_call 12; refine (bytes_any w.heap.size s e n _ ?_).mono ?_; exact Rd.drew t.a; rintro x w1 ⟨rfl, r1, o1⟩; have bb1 : Below w.heap.size w w1 := o1.below (Nat.le_refl _) t.bel.drew; have hn1 := HCN.out w1 bb1)
          | (go_at_call 13; refine (ref_bytes (w.heap.size + 1) s' e n _ ?_).mono ?_; exact Rd.only (Rd.drew t.b) o1 (by omega); rintro x w2 ⟨rfl, r2, o2⟩))
        all_goals
          have t2 := Two.next t n (decide (0 ≤ n)) (Rd.only r1 o2 (by omega)) r2 (o2.below (by omega) bb1)
          have hL := left_same t2
          have hE := end_same t2
          clear hcn hn1 r1 r2 o1 o2 bb1 t HCN
          go_wp2_with fail
          refine (left_any _ _ _ _ t2.a).mono ?_
          rintro x w3 ⟨rfl, rfl⟩
          go_wp2_with fail
          refine (ref_left _ _ _ _ t2.b).mono ?_
          rintro x w3 ⟨rfl, rfl⟩
          go_wp2_with fail
          refine (end_any _ _ _ _ t2.a).mono ?_
          rintro x w3 ⟨rfl, rfl⟩
          go_wp2_with fail
          refine (ref_end _ _ _ _ t2.b).mono ?_
          rintro x w3 ⟨rfl, rfl⟩
          go_wp2_with fail
          go_roundw
          case rel => exact ⟨k + 1, _, _, _, by omega, by omega, by go_num, t2⟩
          case measure => simp [intOf]; omega
    · clear HC
      have bel := t.bel
      by_cases hl : k < len
      · have h6 : ¬ k < 60 := fun h => hlt ⟨hl, h⟩
        clear hlt t
        go_wp2_with fail
        refine (awake_any _).mono ?_
        rintro x w3 ⟨rfl, g3⟩
        go_wp2_with fail
        go_ret
        exact ⟨rfl, bel.trans (g3.mono bel.size)⟩
      · clear hlt t
        go_wp2_with fail
        refine (awake_any _).mono ?_
        rintro x w3 ⟨rfl, g3⟩
        go_wp2_with fail
        go_ret
        exact ⟨rfl, bel.trans (g3.mono bel.size)⟩

set_option maxHeartbeats 400000 in
theorem reads_zero (data : ByteArray) (a : Option Addr) (cap : Nat) (w : World) (hd : data.size ≤ 10000) :
    Calls Try.prog 4 #[.string data, .slice a 0 cap] w fun x w' => x = .returned (.bool true) ∧ Below w.heap.size w w' := by
  have bel := (two_new w data hd).bel
  go_enter Try.func4, Try.ntmps4
  go_wp2_with fail
  refine (read_any _ _).mono ?_
  rintro e w1 ⟨rfl, rfl⟩
  go_wp2_with fail
  refine wp_loop_rounds 1 ?_
  rw [rounds_succ]
  go_wp2_with fail
  refine (awake_any _).mono ?_
  rintro x w3 ⟨rfl, g3⟩
  go_wp2_with fail
  go_ret
  exact ⟨rfl, bel.trans (g3.mono bel.size)⟩

set_option maxHeartbeats 400000 in
theorem reads_long (data : ByteArray) (v : Value) (w : World) (hd : 10000 < data.size) :
    Calls Try.prog 4 #[.string data, v] w fun x w' => x = .returned (.bool true) ∧ Below w.heap.size w w' := by
  go_enter Try.func4, Try.ntmps4
  go_wp2_with fail
  refine (awake_any _).mono ?_
  rintro x w3 ⟨rfl, g3⟩
  go_wp2_with fail
  go_ret
  exact ⟨rfl, g3⟩

theorem reads_walk (data : ByteArray) (a : Option Addr) (len cap : Nat) (P : Nat → Bool) (N : Nat → Int) (w : World) (_ : data.size ≤ maxLen) (ha : Asks w a len P N) :
    Calls Try.prog 4 #[.string data, .slice a len cap] w fun x w' => x = .returned (.bool true) ∧ Below w.heap.size w w' := by
  by_cases hd : 10000 < data.size
  · exact reads_long data _ w hd
  · rcases ha with rfl | ⟨g, o, rfl, hg, hc⟩
    · exact reads_zero data a cap w (by omega)
    · exact reads_some data g o len cap P N w (by omega) hg hc
end Go.Proofs.Ythhnnldmihcmmaa

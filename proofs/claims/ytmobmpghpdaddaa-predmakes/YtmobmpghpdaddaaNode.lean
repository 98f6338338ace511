/-
  Nodes of predicates in memory; which are right.
-/
import Derived.Test.YtmobmpghpdaddaaOr
namespace Go.Proofs.Ytmobmpghpdaddaa
open Go.ChangeShapes Go.WideShapes Go.ChangeAt Go.RowKit
set_option linter.unusedVariables false

structure Nd where
  k : Int
  t : Tst
  s : List Int
abbrev ndV (x : Nd) (a : Option Addr) (c : Nat) : Value := .agg #[.int .i64 x.k, .int .i64 x.t.f, cv x.t.v, cv x.t.m, .slice a x.s.length c]
/-- A node lies at a place. -/
structure N5 (w : World) (b o : Nat) (x : Nd) (a : Option Addr) (c : Nat) : Prop where
  c0 : w.cell? ⟨b, o, none⟩ = some (.int .i64 x.k)
  c1 : w.cell? ⟨b, o + 1, none⟩ = some (.int .i64 x.t.f)
  c2 : w.cell? ⟨b, o + 2, none⟩ = some (cv x.t.v)
  c3 : w.cell? ⟨b, o + 3, none⟩ = some (cv x.t.m)
  c4 : w.cell? ⟨b, o + 4, none⟩ = some (.slice a x.s.length c)
theorem N5.block {w w' : World} {b o : Nat} {x : Nd} {a : Option Addr} {c : Nat} (h : N5 w b o x a c) (g : w'.heap[b]? = w.heap[b]?) : N5 w' b o x a c := by
  have e : ∀ o, w'.cell? ⟨b, o, none⟩ = w.cell? ⟨b, o, none⟩ := fun o => World.cell?_of_block (w := w) g
  exact ⟨(e _).trans h.c0, (e _).trans h.c1, (e _).trans h.c2, (e _).trans h.c3, (e _).trans h.c4⟩
/-- Nodes that lie in a slice, and their Subs. -/
def Ns (w : World) (a : Option Addr) (l : List Nd) : Prop :=
  l = [] ∨ ∃ g o, a = some ⟨g, o, none⟩ ∧ g < w.heap.size ∧ ∀ i (h : i < l.length), ∃ b c, N5 w g (o + i * 5) l[i] b c ∧ l[i].s.length ≤ c ∧ Is w b l[i].s
theorem Ns.below {w w' : World} {a : Option Addr} {l : List Nd} (h : Ns w a l) (g : Below w.heap.size w w') : Ns w' a l := by
  rcases h with h | ⟨b, o, ha, hb, hc⟩
  · exact .inl h
  · refine .inr ⟨b, o, ha, Nat.lt_of_lt_of_le hb g.size, fun i hi => ?_⟩
    obtain ⟨x, c, h1, h2, h3⟩ := hc i hi
    exact ⟨x, c, h1.block (g.block b hb), h2, h3.below g⟩
theorem Ns.at {w : World} {a : Option Addr} {l : List Nd} (h : Ns w a l) {j : Nat} (hj : j < l.length) : ∃ g o, a = some ⟨g, o, none⟩ ∧ g < w.heap.size ∧ ∃ b c, N5 w g (o + j * 5) l[j] b c ∧ l[j].s.length ≤ c ∧ Is w b l[j].s := by
  rcases h with rfl | ⟨g, o, ha, hg, hc⟩
  · cases hj
  · exact ⟨g, o, ha, hg, hc j hj⟩
/-- Subs are places ahead. -/
def badB (p x : Int) : Bool := decide (x < 0) || decide (p ≤ x)
def aheadB (s : List Int) (p : Int) : Bool := !(s.any (badB p))
def z0B (t : Tst) : Bool := decide (t.f = 0) && (t.v == 0#64) && (t.m == 0#64)
/-- A node may stand at a place. -/
def rnB (x : Nd) (p : Int) : Bool :=
  if x.k = 1 ∨ x.k = 2 then z0B x.t && decide (x.s.length = 0)
  else if x.k = 3 then trB x.t && decide (x.s.length = 0)
  else if x.k = 4 ∨ x.k = 5 then z0B x.t && decide (x.s.length ≤ 12) && aheadB x.s p
  else if x.k = 6 then z0B x.t && decide (x.s.length = 1) && aheadB x.s p
  else false
def rightFrom : Nat → List Nd → Bool
  | _, [] => true
  | j, x :: l => rnB x j && rightFrom (j + 1) l
def rightB (l : List Nd) : Bool := !(decide (l.length = 0)) && decide (l.length ≤ 60) && rightFrom 0 l
set_option maxHeartbeats 2000000 in
theorem ahead1_any (x p : Int) (q : Nat) (w : World) (hc : w.cell? ⟨q, 0, none⟩ = some (.int .i64 p)) : Calls Try.prog 66 #[.int .i64 x, .pointer (some ⟨q, 0, none⟩)] w fun e w' => e = .returned (.bool (badB p x)) ∧ w' = w := by
  unfold badB
  by_cases h1 : x < 0
  · have e : (decide (x < 0) || decide (p ≤ x)) = true := by simp [h1]
    rw [e]
    clear e
    go_enter Try.func66, Try.ntmps66
    go_wp2
    go_ret
    exact ⟨rfl, rfl⟩
  · have e : (decide (x < 0) || decide (p ≤ x)) = decide (p ≤ x) := by simp [h1]
    have h2 : decide (x < 0) = false := decide_eq_false h1
    rw [e]
    clear e
    cases h3 : decide (p ≤ x) <;>
    · go_enter Try.func66, Try.ntmps66
      go_wp2
      go_ret
      exact ⟨by first | rfl | simp_all, rfl⟩
set_option maxHeartbeats 2000000 in
theorem indexFn_any (a : Option Addr) (l : List Int) (cap : Nat) (p : Int) (q : Nat) (w : World) (hs : Is w a l) (hl : l.length ≤ 9223372036854775807) (hc : w.cell? ⟨q, 0, none⟩ = some (.int .i64 p)) :
    Calls Try.prog 72 #[.slice a l.length cap, .func (.func 66) #[] #[.pointer (some ⟨q, 0, none⟩)]] w fun e w' => ∃ r : Int, e = .returned (.int .i64 r) ∧ decide (0 ≤ r) = l.any (badB p) ∧ w' = w := by
  have HS : Hid (Is w a l) := hs
  have HC : Hid (∀ x, Calls Try.prog 66 #[.int .i64 x, .pointer (some ⟨q, 0, none⟩)] w fun e w' => e = .returned (.bool (badB p x)) ∧ w' = w) := (show ∀ x, _ from fun x => ahead1_any x p q w hc)
  have H0 : Hid ((l.take 0).any (badB p) = false) := (show _ = _ from rfl)
  clear hs hc
  go_enter Try.func72, Try.ntmps72
  go_wp2_with fail
  go_loopw [8] (fun v8 wr => ∃ k : Nat, k ≤ l.length ∧ v8 = .int .i64 k ∧ Hid ((l.take k).any (badB p) = false) ∧ wr = w) (fun v8 _ => l.length - (intOf v8).toNat)
  case atStart => exact ⟨0, Nat.zero_le _, rfl, H0, rfl⟩
  case round =>
    obtain ⟨k, hk, rfl, HK, hw⟩ := hrel
    obtain rfl : wr = w := hw
    clear H0
    by_cases hlt : k < l.length
    · obtain ⟨g, o, rfl, hg, hc⟩ := HS.out.at hlt
      have d0 := hc k hlt
      have HN : Hid ((l.take (k + 1)).any (badB p) = badB p l[k]) := (show _ = _ by rw [List.take_succ_eq_append_getElem hlt, List.any_append, HK.out]; simp)
      have HF : Hid (badB p l[k] = true → l.any (badB p) = true) := (show _ → _ from fun h => List.any_eq_true.2 ⟨l[k], List.getElem_mem hlt, h⟩)
      generalize l[k] = x at *
      have HCx : Hid (Calls Try.prog 66 #[.int .i64 x, .pointer (some ⟨q, 0, none⟩)] wr fun e w' => e = .returned (.bool (badB p x)) ∧ w' = wr) := HC.out x
      clear hc HK
      cases hb : badB p x with
      | false =>
        rw [hb] at HCx HN
        clear HF
        go_wp2_with (go_at_call 66; refine HCx.out.mono ?_; rintro r w2 ⟨rfl, rfl⟩)
        go_roundw
        case rel => exact ⟨k + 1, by omega, by go_num, HN, by first | rfl | trivial⟩
        case measure => simp [intOf]; omega
      | true =>
        rw [hb] at HCx
        have HT : Hid (l.any (badB p) = true) := HF.out hb
        clear HF HN
        go_wp2_with (go_at_call 66; refine HCx.out.mono ?_; rintro r w2 ⟨rfl, rfl⟩)
        go_ret
        exact ⟨k, rfl, by rw [HT.out]; simp, rfl⟩
    · have HE : Hid (l.any (badB p) = false) := (show _ = _ by have := HK.out; rwa [List.take_of_length_le (by omega)] at this)
      clear HK
      go_wp2_with fail
      go_ret
      exact ⟨-1, rfl, by rw [HE.out]; rfl, rfl⟩
set_option maxHeartbeats 2000000 in
theorem areAhead_any (a : Option Addr) (l : List Int) (cap : Nat) (p : Int) (w : World) (hs : Is w a l) (hl : l.length ≤ 9223372036854775807) :
    Calls Try.prog 58 #[.slice a l.length cap, .int .i64 p] w fun e w' => e = .returned (.bool (aheadB l p)) ∧ Below w.heap.size w w' := by
  obtain ⟨X, hX⟩ : ∃ X, w.alloc (.cells #[.int .i64 p] 3) = X := ⟨_, rfl⟩
  have gX : Below w.heap.size w X := by rw [← hX]; go_grown
  have cX : X.cell? ⟨w.heap.size, 0, none⟩ = some (.int .i64 p) := by rw [← hX]; simp
  have HC : Hid (Calls Try.prog 65 #[.slice a l.length cap, .func (.func 66) #[] #[.pointer (some ⟨w.heap.size, 0, none⟩)]] X fun e w' => e = .returned (.bool (l.any (badB p))) ∧ w' = X) := (show Calls _ _ _ _ _ by
    have HI : Hid (Calls Try.prog 72 #[.slice a l.length cap, .func (.func 66) #[] #[.pointer (some ⟨w.heap.size, 0, none⟩)]] X fun e w' => ∃ y : Int, e = .returned (.int .i64 y) ∧ decide (0 ≤ y) = l.any (badB p) ∧ w' = X) := indexFn_any a l cap p w.heap.size X (hs.below gX) hl cX
    clear hs hX gX cX
    obtain ⟨bb, hbb⟩ : ∃ bb, l.any (badB p) = bb := ⟨_, rfl⟩
    rw [hbb] at HI ⊢
    clear hbb
    go_enter Try.func65, Try.ntmps65
    go_wp2_with (go_at_call 72; refine HI.out.mono ?_; rintro r w2 ⟨y, rfl, hr, z⟩; obtain rfl : X = w2 := z.symm; clear z; have HR : Hid (decide (0 ≤ y) = bb) := hr; clear hr)
    go_ret
    exact ⟨by rw [← HR.out]; rfl, rfl⟩)
  have HG : Hid (Below w.heap.size w X) := gX
  unfold aheadB
  generalize l.any (badB p) = bb at *
  clear hs gX cX
  go_enter Try.func58, Try.ntmps58
  go_wp2_with (first
    | (rw [hX]; go_at_call 65; refine HC.out.mono ?_; rintro r w2 ⟨rfl, rfl⟩)
    | (go_at_call 65; refine HC.out.mono ?_; rintro r w2 ⟨rfl, z⟩; obtain rfl : X = w2 := z.symm; clear z))
  go_ret
  exact ⟨rfl, HG.out⟩
theorem ne_zero (t : Tst) (w : World) : (binOp .neq 32 (tV t) (.agg #[.int .i64 0, .int .u64 0, .int .u64 0])).run Try.prog w = .ok (.bool (!z0B t)) w := by
  have u3 := Try.underlying3
  have a3 := Try.isAgg3
  have z3 := Try.sizeOf3
  have u4 := Try.underlying30
  have a4 := Try.isAgg30
  have z4 := Try.sizeOf30
  have hS : Try.prog.underlying 32 = some (.struct (Try.prog.fieldsOf 32)) := by kernel_rfl
  have hp : Try.prog.stoodInHeld 32 = false := by kernel_rfl
  rw [run_neq_struct, show (10000 : Nat) = 9999 + 1 from rfl, run_equalIn_agg w 9999 32 _ _ hS hp]
  simp only [Program.fieldsOf, Try.underlying32]
  go_simp
  unfold z0B
  obtain ⟨f, v, m⟩ := t
  simp only
  rw [← nb_is0, ← nb_is0]
  by_cases h1 : f = 0 <;> by_cases h2 : nb v = 0 <;> by_cases h3 : nb m = 0 <;> simp [h1, h2, h3]
theorem gu_test (op : BinOp) (x y : Operand) (t : Tst) (w : World) : (eqGuard op 32 x y (tV t) (.agg #[.int .i64 0, .int .u64 0, .int .u64 0])).run Try.prog w = .ok () w := run_eqGuard_agg w op 32 x y _ _ (by kernel_rfl)
set_option maxRecDepth 20000 in
set_option maxHeartbeats 4000000 in
theorem rightNode_any (x : Nd) (a : Option Addr) (c : Nat) (p : Int) (w : World) (hs : Is w a x.s) (hl : x.s.length ≤ 9223372036854775807) :
    Calls Try.prog 38 #[ndV x a c, .int .i64 p] w fun e w' => e = .returned (.bool (rnB x p)) ∧ Below w.heap.size w w' := by
  have HA : Hid (∀ u, Below w.heap.size w u → Calls Try.prog 58 #[.slice a x.s.length c, .int .i64 p] u fun e w' => e = .returned (.bool (aheadB x.s p)) ∧ Below w.heap.size w w') := (show ∀ u, _ from fun u g => (areAhead_any a x.s c p u (hs.below g) hl).mono fun e w' ⟨h1, h2⟩ => ⟨h1, btr g h2 (by omega)⟩)
  have q1 := ne_zero x.t
  have q2 := fun y z => gu_test .neq y z x.t
  obtain ⟨k, t, s⟩ := x
  obtain ⟨X, hX⟩ : ∃ X, w.alloc (.cells #[.int .i64 k, .int .i64 t.f, cv t.v, cv t.m, .slice a s.length c] 39) = X := ⟨_, rfl⟩
  have HG : Hid (Below w.heap.size w X) := (show Below _ _ _ by rw [← hX]; go_grown)
  have d0 : X.cell? ⟨w.heap.size, 0, none⟩ = some (.int .i64 k) := by rw [← hX]; simp
  have d1 : X.cell? ⟨w.heap.size, 1, none⟩ = some (.int .i64 t.f) := by rw [← hX]; simp
  have d2 : X.cell? ⟨w.heap.size, 2, none⟩ = some (cv t.v) := by rw [← hX]; simp
  have d3 : X.cell? ⟨w.heap.size, 3, none⟩ = some (cv t.m) := by rw [← hX]; simp
  have d4 : X.cell? ⟨w.heap.size, 4, none⟩ = some (.slice a s.length c) := by rw [← hX]; simp
  simp only at HA q1 q2 hl
  have HAX : Hid (Calls Try.prog 58 #[.slice a s.length c, .int .i64 p] X fun e w' => e = .returned (.bool (aheadB s p)) ∧ Below w.heap.size w w') := HA.out X HG.out
  have HRX : Hid (Calls Try.prog 44 #[tV t] X fun e w' => e = .returned (.bool (trB t)) ∧ Below w.heap.size w w' ∧ w'.cell? ⟨w.heap.size, 4, none⟩ = some (.slice a s.length c)) := (show Calls _ _ _ _ _ from (right_test t X).mono fun e w' ⟨h1, h2⟩ => ⟨h1, btr HG.out h2 (by omega), (h2.cell (p := ⟨w.heap.size, 4, none⟩) (by rw [← hX]; simp)).trans d4⟩)
  clear hs HA
  unfold rnB
  simp only
  show Calls Try.prog 38 #[.agg #[.int .i64 k, .int .i64 t.f, cv t.v, cv t.m, .slice a s.length c], .int .i64 p] w _
  obtain ⟨n, hn⟩ : ∃ n, s.length = n := ⟨_, rfl⟩
  rw [hn] at d4 hX HAX HRX hl ⊢
  clear hn
  generalize aheadB s p = ah at *
  obtain ⟨R, hR⟩ : ∃ R, (if k = 1 ∨ k = 2 then z0B t && decide (n = 0) else if k = 3 then trB t && decide (n = 0) else if k = 4 ∨ k = 5 then z0B t && decide (n ≤ 12) && ah else if k = 6 then z0B t && decide (n = 1) && ah else false) = R := ⟨_, rfl⟩
  rw [hR]
  by_cases k1 : k = 1
  · subst k1
    cases hz : z0B t with
    | false =>
      rw [hz] at q1
      rw [Bool.not_false] at q1
      have hE : R = false := by rw [← hR]; simp [hz]
      rw [hE]
      clear hE hR hz
      go_enter Try.func38, Try.ntmps38
      go_wp2_with (first
        | (go_at_call 58; refine HAX.out.mono ?_; rintro r w2 ⟨rfl, hb⟩; have HB : Hid (Below w.heap.size w w2) := hb; clear hb)
        | (go_at_call 44; refine HRX.out.mono ?_; rintro r w2 ⟨rfl, hb, hc4⟩; have HB : Hid (Below w.heap.size w w2) := hb; clear hb))
      go_ret
      exact ⟨by first | rfl | simp, by first | exact HB.out | exact HG.out⟩
    | true =>
      rw [hz] at q1
      rw [Bool.not_true] at q1
      by_cases h0 : n = 0
      · subst h0
        have hE : R = true := by rw [← hR]; simp [hz]
        rw [hE]
        clear hE hR hz
        go_enter Try.func38, Try.ntmps38
        go_wp2_with (first
          | (go_at_call 58; refine HAX.out.mono ?_; rintro r w2 ⟨rfl, hb⟩; have HB : Hid (Below w.heap.size w w2) := hb; clear hb)
          | (go_at_call 44; refine HRX.out.mono ?_; rintro r w2 ⟨rfl, hb, hc4⟩; have HB : Hid (Below w.heap.size w w2) := hb; clear hb))
        go_ret
        exact ⟨by first | rfl | simp, by first | exact HB.out | exact HG.out⟩
      · have hE : R = false := by rw [← hR]; simp [h0]
        have h1 : ((n : Int) == 0) = false := by simpa using h0
        have h2 : decide ((n : Int) = 0) = false := by simpa using h0
        have h3 : ¬ (n : Int) = 0 := by omega
        rw [hE]
        clear hE hR hz
        go_enter Try.func38, Try.ntmps38
        go_wp2_with (first
          | (go_at_call 58; refine HAX.out.mono ?_; rintro r w2 ⟨rfl, hb⟩; have HB : Hid (Below w.heap.size w w2) := hb; clear hb)
          | (go_at_call 44; refine HRX.out.mono ?_; rintro r w2 ⟨rfl, hb, hc4⟩; have HB : Hid (Below w.heap.size w w2) := hb; clear hb))
        go_ret
        exact ⟨by first | rfl | simp, by first | exact HB.out | exact HG.out⟩
  by_cases k2 : k = 2
  · subst k2
    cases hz : z0B t with
    | false =>
      rw [hz] at q1
      rw [Bool.not_false] at q1
      have hE : R = false := by rw [← hR]; simp [hz]
      rw [hE]
      clear hE hR hz
      go_enter Try.func38, Try.ntmps38
      go_wp2_with (first
        | (go_at_call 58; refine HAX.out.mono ?_; rintro r w2 ⟨rfl, hb⟩; have HB : Hid (Below w.heap.size w w2) := hb; clear hb)
        | (go_at_call 44; refine HRX.out.mono ?_; rintro r w2 ⟨rfl, hb, hc4⟩; have HB : Hid (Below w.heap.size w w2) := hb; clear hb))
      go_ret
      exact ⟨by first | rfl | simp, by first | exact HB.out | exact HG.out⟩
    | true =>
      rw [hz] at q1
      rw [Bool.not_true] at q1
      by_cases h0 : n = 0
      · subst h0
        have hE : R = true := by rw [← hR]; simp [hz]
        rw [hE]
        clear hE hR hz
        go_enter Try.func38, Try.ntmps38
        go_wp2_with (first
          | (go_at_call 58; refine HAX.out.mono ?_; rintro r w2 ⟨rfl, hb⟩; have HB : Hid (Below w.heap.size w w2) := hb; clear hb)
          | (go_at_call 44; refine HRX.out.mono ?_; rintro r w2 ⟨rfl, hb, hc4⟩; have HB : Hid (Below w.heap.size w w2) := hb; clear hb))
        go_ret
        exact ⟨by first | rfl | simp, by first | exact HB.out | exact HG.out⟩
      · have hE : R = false := by rw [← hR]; simp [h0]
        have h1 : ((n : Int) == 0) = false := by simpa using h0
        have h2 : decide ((n : Int) = 0) = false := by simpa using h0
        have h3 : ¬ (n : Int) = 0 := by omega
        rw [hE]
        clear hE hR hz
        go_enter Try.func38, Try.ntmps38
        go_wp2_with (first
          | (go_at_call 58; refine HAX.out.mono ?_; rintro r w2 ⟨rfl, hb⟩; have HB : Hid (Below w.heap.size w w2) := hb; clear hb)
          | (go_at_call 44; refine HRX.out.mono ?_; rintro r w2 ⟨rfl, hb, hc4⟩; have HB : Hid (Below w.heap.size w w2) := hb; clear hb))
        go_ret
        exact ⟨by first | rfl | simp, by first | exact HB.out | exact HG.out⟩
  by_cases k4 : k = 4
  · subst k4
    cases hz : z0B t with
    | false =>
      rw [hz] at q1
      rw [Bool.not_false] at q1
      have hE : R = false := by rw [← hR]; simp [hz]
      rw [hE]
      clear hE hR hz
      go_enter Try.func38, Try.ntmps38
      go_wp2_with (first
        | (go_at_call 58; refine HAX.out.mono ?_; rintro r w2 ⟨rfl, hb⟩; have HB : Hid (Below w.heap.size w w2) := hb; clear hb)
        | (go_at_call 44; refine HRX.out.mono ?_; rintro r w2 ⟨rfl, hb, hc4⟩; have HB : Hid (Below w.heap.size w w2) := hb; clear hb))
      go_ret
      exact ⟨by first | rfl | simp, by first | exact HB.out | exact HG.out⟩
    | true =>
      rw [hz] at q1
      rw [Bool.not_true] at q1
      by_cases h0 : n ≤ 12
      · have hE : R = ah := by rw [← hR]; simp [hz, h0]
        have h1 : (n : Int) ≤ 12 := by omega
        rw [hE]
        clear hE hR hz
        go_enter Try.func38, Try.ntmps38
        go_wp2_with (first
          | (go_at_call 58; refine HAX.out.mono ?_; rintro r w2 ⟨rfl, hb⟩; have HB : Hid (Below w.heap.size w w2) := hb; clear hb)
          | (go_at_call 44; refine HRX.out.mono ?_; rintro r w2 ⟨rfl, hb, hc4⟩; have HB : Hid (Below w.heap.size w w2) := hb; clear hb))
        go_ret
        exact ⟨by first | rfl | simp, by first | exact HB.out | exact HG.out⟩
      · have hE : R = false := by rw [← hR]; simp [h0]
        have h1 : ¬ (n : Int) ≤ 12 := by omega
        have h2 : decide ((n : Int) ≤ 12) = false := decide_eq_false h1
        rw [hE]
        clear hE hR hz
        go_enter Try.func38, Try.ntmps38
        go_wp2_with (first
          | (go_at_call 58; refine HAX.out.mono ?_; rintro r w2 ⟨rfl, hb⟩; have HB : Hid (Below w.heap.size w w2) := hb; clear hb)
          | (go_at_call 44; refine HRX.out.mono ?_; rintro r w2 ⟨rfl, hb, hc4⟩; have HB : Hid (Below w.heap.size w w2) := hb; clear hb))
        go_ret
        exact ⟨by first | rfl | simp, by first | exact HB.out | exact HG.out⟩
  by_cases k5 : k = 5
  · subst k5
    cases hz : z0B t with
    | false =>
      rw [hz] at q1
      rw [Bool.not_false] at q1
      have hE : R = false := by rw [← hR]; simp [hz]
      rw [hE]
      clear hE hR hz
      go_enter Try.func38, Try.ntmps38
      go_wp2_with (first
        | (go_at_call 58; refine HAX.out.mono ?_; rintro r w2 ⟨rfl, hb⟩; have HB : Hid (Below w.heap.size w w2) := hb; clear hb)
        | (go_at_call 44; refine HRX.out.mono ?_; rintro r w2 ⟨rfl, hb, hc4⟩; have HB : Hid (Below w.heap.size w w2) := hb; clear hb))
      go_ret
      exact ⟨by first | rfl | simp, by first | exact HB.out | exact HG.out⟩
    | true =>
      rw [hz] at q1
      rw [Bool.not_true] at q1
      by_cases h0 : n ≤ 12
      · have hE : R = ah := by rw [← hR]; simp [hz, h0]
        have h1 : (n : Int) ≤ 12 := by omega
        rw [hE]
        clear hE hR hz
        go_enter Try.func38, Try.ntmps38
        go_wp2_with (first
          | (go_at_call 58; refine HAX.out.mono ?_; rintro r w2 ⟨rfl, hb⟩; have HB : Hid (Below w.heap.size w w2) := hb; clear hb)
          | (go_at_call 44; refine HRX.out.mono ?_; rintro r w2 ⟨rfl, hb, hc4⟩; have HB : Hid (Below w.heap.size w w2) := hb; clear hb))
        go_ret
        exact ⟨by first | rfl | simp, by first | exact HB.out | exact HG.out⟩
      · have hE : R = false := by rw [← hR]; simp [h0]
        have h1 : ¬ (n : Int) ≤ 12 := by omega
        have h2 : decide ((n : Int) ≤ 12) = false := decide_eq_false h1
        rw [hE]
        clear hE hR hz
        go_enter Try.func38, Try.ntmps38
        go_wp2_with (first
          | (go_at_call 58; refine HAX.out.mono ?_; rintro r w2 ⟨rfl, hb⟩; have HB : Hid (Below w.heap.size w w2) := hb; clear hb)
          | (go_at_call 44; refine HRX.out.mono ?_; rintro r w2 ⟨rfl, hb, hc4⟩; have HB : Hid (Below w.heap.size w w2) := hb; clear hb))
        go_ret
        exact ⟨by first | rfl | simp, by first | exact HB.out | exact HG.out⟩
  by_cases k6 : k = 6
  · subst k6
    cases hz : z0B t with
    | false =>
      rw [hz] at q1
      rw [Bool.not_false] at q1
      have hE : R = false := by rw [← hR]; simp [hz]
      rw [hE]
      clear hE hR hz
      go_enter Try.func38, Try.ntmps38
      go_wp2_with (first
        | (go_at_call 58; refine HAX.out.mono ?_; rintro r w2 ⟨rfl, hb⟩; have HB : Hid (Below w.heap.size w w2) := hb; clear hb)
        | (go_at_call 44; refine HRX.out.mono ?_; rintro r w2 ⟨rfl, hb, hc4⟩; have HB : Hid (Below w.heap.size w w2) := hb; clear hb))
      go_ret
      exact ⟨by first | rfl | simp, by first | exact HB.out | exact HG.out⟩
    | true =>
      rw [hz] at q1
      rw [Bool.not_true] at q1
      by_cases h0 : n = 1
      · subst h0
        have hE : R = ah := by rw [← hR]; simp [hz]
        rw [hE]
        clear hE hR hz
        go_enter Try.func38, Try.ntmps38
        go_wp2_with (first
          | (go_at_call 58; refine HAX.out.mono ?_; rintro r w2 ⟨rfl, hb⟩; have HB : Hid (Below w.heap.size w w2) := hb; clear hb)
          | (go_at_call 44; refine HRX.out.mono ?_; rintro r w2 ⟨rfl, hb, hc4⟩; have HB : Hid (Below w.heap.size w w2) := hb; clear hb))
        go_ret
        exact ⟨by first | rfl | simp, by first | exact HB.out | exact HG.out⟩
      · have hE : R = false := by rw [← hR]; simp [h0]
        have h1 : ((n : Int) == 1) = false := by simp; omega
        have h2 : decide ((n : Int) = 1) = false := by simp; omega
        have h3 : ¬ (n : Int) = 1 := by omega
        rw [hE]
        clear hE hR hz
        go_enter Try.func38, Try.ntmps38
        go_wp2_with (first
          | (go_at_call 58; refine HAX.out.mono ?_; rintro r w2 ⟨rfl, hb⟩; have HB : Hid (Below w.heap.size w w2) := hb; clear hb)
          | (go_at_call 44; refine HRX.out.mono ?_; rintro r w2 ⟨rfl, hb, hc4⟩; have HB : Hid (Below w.heap.size w w2) := hb; clear hb))
        go_ret
        exact ⟨by first | rfl | simp, by first | exact HB.out | exact HG.out⟩
  by_cases k3 : k = 3
  · subst k3
    cases ht : trB t with
    | false =>
      rw [ht] at HRX
      have hE : R = false := by rw [← hR]; simp [ht]
      rw [hE]
      clear hE hR ht
      go_enter Try.func38, Try.ntmps38
      go_wp2_with (first
        | (go_at_call 58; refine HAX.out.mono ?_; rintro r w2 ⟨rfl, hb⟩; have HB : Hid (Below w.heap.size w w2) := hb; clear hb)
        | (go_at_call 44; refine HRX.out.mono ?_; rintro r w2 ⟨rfl, hb, hc4⟩; have HB : Hid (Below w.heap.size w w2) := hb; clear hb))
      go_ret
      exact ⟨by first | rfl | simp, by first | exact HB.out | exact HG.out⟩
    | true =>
      rw [ht] at HRX
      by_cases h0 : n = 0
      · subst h0
        have hE : R = true := by rw [← hR]; simp [ht]
        rw [hE]
        clear hE hR ht
        go_enter Try.func38, Try.ntmps38
        go_wp2_with (first
          | (go_at_call 58; refine HAX.out.mono ?_; rintro r w2 ⟨rfl, hb⟩; have HB : Hid (Below w.heap.size w w2) := hb; clear hb)
          | (go_at_call 44; refine HRX.out.mono ?_; rintro r w2 ⟨rfl, hb, hc4⟩; have HB : Hid (Below w.heap.size w w2) := hb; clear hb))
        go_ret
        exact ⟨by first | rfl | simp, by first | exact HB.out | exact HG.out⟩
      · have hE : R = false := by rw [← hR]; simp [h0]
        have h1 : ((n : Int) == 0) = false := by simpa using h0
        have h2 : decide ((n : Int) = 0) = false := by simpa using h0
        have h3 : ¬ (n : Int) = 0 := by omega
        rw [hE]
        clear hE hR ht
        go_enter Try.func38, Try.ntmps38
        go_wp2_with (first
          | (go_at_call 58; refine HAX.out.mono ?_; rintro r w2 ⟨rfl, hb⟩; have HB : Hid (Below w.heap.size w w2) := hb; clear hb)
          | (go_at_call 44; refine HRX.out.mono ?_; rintro r w2 ⟨rfl, hb, hc4⟩; have HB : Hid (Below w.heap.size w w2) := hb; clear hb))
        go_ret
        exact ⟨by first | rfl | simp, by first | exact HB.out | exact HG.out⟩
  have hE : R = false := by rw [← hR]; simp [k1, k2, k3, k4, k5, k6]
  rw [hE]
  clear hE hR
  have b1 : (k == 1) = false := by simpa using k1
  have n1 : (k != 1) = true := by simpa using k1
  have b2 : (k == 2) = false := by simpa using k2
  have n2 : (k != 2) = true := by simpa using k2
  have b3 : (k == 3) = false := by simpa using k3
  have n3 : (k != 3) = true := by simpa using k3
  have b4 : (k == 4) = false := by simpa using k4
  have n4 : (k != 4) = true := by simpa using k4
  have b5 : (k == 5) = false := by simpa using k5
  have n5 : (k != 5) = true := by simpa using k5
  have b6 : (k == 6) = false := by simpa using k6
  have n6 : (k != 6) = true := by simpa using k6
  cases hz : z0B t with
  | false =>
    rw [hz] at q1
    rw [Bool.not_false] at q1
    clear hz
    go_enter Try.func38, Try.ntmps38
    go_wp2_with (first
      | (go_at_call 58; refine HAX.out.mono ?_; rintro r w2 ⟨rfl, hb⟩; have HB : Hid (Below w.heap.size w w2) := hb; clear hb)
      | (go_at_call 44; refine HRX.out.mono ?_; rintro r w2 ⟨rfl, hb, hc4⟩; have HB : Hid (Below w.heap.size w w2) := hb; clear hb))
    go_ret
    exact ⟨by first | rfl | simp, by first | exact HB.out | exact HG.out⟩
  | true =>
    rw [hz] at q1
    rw [Bool.not_true] at q1
    clear hz
    go_enter Try.func38, Try.ntmps38
    go_wp2_with (first
      | (go_at_call 58; refine HAX.out.mono ?_; rintro r w2 ⟨rfl, hb⟩; have HB : Hid (Below w.heap.size w w2) := hb; clear hb)
      | (go_at_call 44; refine HRX.out.mono ?_; rintro r w2 ⟨rfl, hb, hc4⟩; have HB : Hid (Below w.heap.size w w2) := hb; clear hb))
    go_ret
    exact ⟨by first | rfl | simp, by first | exact HB.out | exact HG.out⟩
end Go.Proofs.Ytmobmpghpdaddaa

/-
  Joined: LOuts, LSame, LStaysP, Same, MRSame, LSmE, LSmG.
-/
import Derived.Test.YtgnihbdcdefdgaaGreatDoorZ25
import Derived.Test.YtgnihbdcdefdgaaGreatDoorZ31
import Derived.Deep.QuietTactic
import Derived.BigQuiet
import Derived.Test.YtgnihbdcdefdgaaGreatDoorZ20
import Derived.Test.YtgnihbdcdefdgaaGreatDoorZ01
import Derived.Test.YtgnihbdcdefdgaaGreatDoorZ15
import Derived.Test.YtgnihbdcdefdgaaGreatDoorZ18
import Derived.Test.YtgnihbdcdefdgaaGreatDoorZ19
/-
  The law's own Outs: a row of the pipe's Outs copied as the document's.
-/
namespace Go.Proofs.YtgnihbdcdefdgaaGreatDoor
open Go.ChangeShapes Go.WideShapes Go.ChangeAt Go.RowKit
set_option linter.unusedVariables false
set_option linter.unusedSimpArgs false
/-- A row of the document's Outs. -/
abbrev OwnR (base : Nat) (w : World) (v : Value) (l : List Ot) : Prop := w.ownsRow base 102 12 v l.length (flatO l)
theorem infoRt : (Tryz.prog.info? 102).map (fun i => (i.zero, i.size, i.bytes)) = some (some (.agg #[.int .i64 0, .int .u64 0, .int .u64 0, .int .i64 0, .int .i64 0, .int .u32 0, .int .u32 0, .int .i64 0, .int .i64 0, .int .i64 0, .int .i64 0, .string ⟨#[]⟩]), 12, 96) := by kernel_rfl
theorem flatO_take_succ (O : List Ot) (k : Nat) (h : k < O.length) : O.take (k + 1) = O.take k ++ [O[k]] := by simp
/-- Where Outs stands: k are copied. -/
structure Ou (w wr : World) (O : List Ot) (k : Nat) (a : Option Addr) (c : Nat) : Prop where
  bel : Below w.heap.size w wr
  row : wr.ownsRow w.heap.size 102 12 (.slice a k c) k (flatO (O.take k))
theorem Ou.step {w wr w8 : World} {O : List Ot} {k : Nat} {a a8 : Option Addr} {c c8 : Nat} {X : World} (h : Ou w wr O k a c) (hk : k < O.length) (gX : Below wr.heap.size wr X) (g : X.grownBy w8 (Value.slice a k c).ownBlock) (r : w8.ownsRow w.heap.size 102 12 (.slice a8 (k + 1) c8) (k + 1) (flatO (O.take k) ++ otC O[k])) : Ou w w8 O (k + 1) a8 c8 := by
  refine ⟨?_, ?_⟩
  · have kp := grow_kpt gX g
    exact h.bel.trans (kp.below h.bel.size (fun b hb => (h.row.lt b hb).1))
  · rw [flatO_take_succ O k hk, flatO_append]
    simpa [flatO] using r
set_option maxHeartbeats 4000000 in
theorem outs_any (a : Option Addr) (cap : Nat) (O : List Ot) (base : Nat) (w : World) (h : OwnO base w (.slice a O.length cap) O) (hn : O.length ≤ 64) :
    Calls Tryz.prog 13 #[.slice a O.length cap] w fun e w' => ∃ v', e = .returned v' ∧ OwnR w.heap.size w' v' O ∧ Below w.heap.size w w' := by
  have Hh : Hid (OwnO base w (.slice a O.length cap) O) := h
  obtain ⟨i0, hi0, hz0, hz1, hz2⟩ := info_parts infoRt
  have HS : Hid (Ou w w O 0 none 0) := (show Ou _ _ _ _ _ _ from ⟨Below.refl _ _, World.ownsRow_nil w _ _ _⟩)
  obtain ⟨N, hN⟩ : ∃ N, O.length = N := ⟨_, rfl⟩
  have HN : Hid (O.length = N) := hN
  rw [hN] at hn
  rw [hN]
  clear h hN
  go_enter Tryz.func13, Tryz.ntmps13
  go_wp2_with fail
  go_loopw [3, 4] (fun vl i wr => ∃ (k : Nat) (va : Option Addr) (vc : Nat), k ≤ N ∧ vl = .slice va k vc ∧ i = .int .i64 k ∧ Hid (Ou w wr O k va vc)) (fun _ i _ => N - (intOf i).toNat)
  case atStart => exact ⟨0, none, 0, Nat.zero_le _, rfl, rfl, HS⟩
  case round =>
    clear HS
    obtain ⟨k, va, vc, hk, rfl, rfl, Hk⟩ := hrel
    by_cases hlt : k < N
    · have hltI : (k : Int) < (N : Int) := by omega
      have hkO : k < O.length := by rw [HN.out]; exact hlt
      obtain ⟨g, ha, hg⟩ : ∃ gb, a = some ⟨gb, 0, none⟩ ∧ gb < w.heap.size := by
        rcases Hh.out.2 with ⟨_, h'⟩ | ⟨g', cap, cur, h', hb, _⟩
        · omega
        · cases h'
          exact ⟨g', rfl, (Hh.out.lt g' rfl).2⟩
      subst ha
      have hc : ∀ j, j < 12 → wr.cell? ⟨g, k * 12 + j, none⟩ = (otC O[k])[j]? := fun j hj => by
        rw [Hk.out.bel.cell (p := ⟨g, k * 12 + j, none⟩) hg, Hh.out.cellAt (k * 12 + j) (by omega)]
        exact flatO_at O k hkO j hj
      have HR : Hid (wr.ownsRow w.heap.size 102 12 (.slice va k vc) k (flatO (O.take k))) := Hk.out.row
      have HSt : Hid (∀ X w8 a8 c8, Below wr.heap.size wr X → X.grownBy w8 (Value.slice va k vc).ownBlock → w8.ownsRow w.heap.size 102 12 (.slice a8 (k + 1) c8) (k + 1) (flatO (O.take k) ++ otC O[k]) → Ou w w8 O (k + 1) a8 c8) := (show ∀ X w8 a8 c8, _ from fun X w8 a8 c8 gX g r => Hk.out.step hkO gX g r)
      generalize O[k] = x at *
      have c0 : wr.cell? ⟨g, k * 12, none⟩ = some (.int .i64 x.1) := hc 0 (by omega)
      have c1 : wr.cell? ⟨g, k * 12 + 1, none⟩ = some (.int .u64 x.2.to) := hc 1 (by omega)
      have c2 : wr.cell? ⟨g, k * 12 + 1 + 1, none⟩ = some (.int .u64 x.2.fr) := hc 2 (by omega)
      have c3 : wr.cell? ⟨g, k * 12 + 1 + 2, none⟩ = some (.int .i64 x.2.vl) := hc 3 (by omega)
      have c4 : wr.cell? ⟨g, k * 12 + 1 + 3, none⟩ = some (.int .i64 x.2.ty) := hc 4 (by omega)
      have c5 : wr.cell? ⟨g, k * 12 + 1 + 4, none⟩ = some (.int .u32 x.2.src) := hc 5 (by omega)
      have c6 : wr.cell? ⟨g, k * 12 + 1 + 5, none⟩ = some (.int .u32 x.2.dst) := hc 6 (by omega)
      have c7 : wr.cell? ⟨g, k * 12 + 1 + 6, none⟩ = some (.int .i64 x.2.life) := hc 7 (by omega)
      have c8 : wr.cell? ⟨g, k * 12 + 1 + 7, none⟩ = some (.int .i64 x.2.pro) := hc 8 (by omega)
      have c9 : wr.cell? ⟨g, k * 12 + 1 + 8, none⟩ = some (.int .i64 x.2.sp) := hc 9 (by omega)
      have c10 : wr.cell? ⟨g, k * 12 + 1 + 9, none⟩ = some (.int .i64 x.2.dp) := hc 10 (by omega)
      have c11 : wr.cell? ⟨g, k * 12 + 1 + 10, none⟩ = some (.string x.2.data) := hc 11 (by omega)
      have hzr : Hid (w.heap.size ≤ wr.heap.size) := Hk.out.bel.size
      clear hc Hh Hk
      go_wp2_with fail
      go_region_law (
        refine step_append_own rfl (.tmp 11) (.tmp 23) 51 rfl w.heap.size 102 i0 (.agg #[.int .i64 0, .int .u64 0, .int .u64 0, .int .i64 0, .int .i64 0, .int .u32 0, .int .u32 0, .int .i64 0, .int .i64 0, .int .i64 0, .int .i64 0, .string ⟨#[]⟩]) 12 96 Tryz.underlying51 hi0 hz0 hz1 hz2 rfl (by decide) (.slice va k vc) k (flatO (O.take k)) rfl (HR.out.alloc _) ⟨wr.heap.size, 0, none⟩ 1 1 (otC x) rfl rfl (cells_newL _ _ _) (otC_one _) (by unfold maxLen; omega) (by omega) (by have := hzr.out; simp; omega) ?_
        intro v' w8 hown' hgrow hfr
        obtain ⟨a8, cap8, rfl⟩ := own_sl hown'
        have HO : Hid (Ou w w8 O (k + 1) a8 cap8) := HSt.out _ _ _ _ (by go_grown) hgrow hown'
        clear hown' hgrow hfr)
      all_goals
        go_wp2_with fail
        go_roundw
        case rel => exact ⟨k + 1, a8, cap8, hlt, rfl, by go_num, HO⟩
        case measure => simp [intOf]; omega
    · have hkl : ¬ (k : Int) < (N : Int) := by omega
      have HE : Hid (OwnR w.heap.size wr (.slice va k vc) O ∧ Below w.heap.size w wr) := (show _ ∧ _ from by
        have e : O.take k = O := List.take_of_length_le (by have := HN.out; omega)
        have hl : O.length = k := by have := HN.out; omega
        have hrow := Hk.out.row
        rw [e] at hrow
        refine ⟨?_, Hk.out.bel⟩
        unfold OwnR
        rw [hl]
        exact hrow)
      clear Hk
      go_wp2_with fail
      go_ret
      exact ⟨_, rfl, HE.out⟩
end Go.Proofs.YtgnihbdcdefdgaaGreatDoor
/-
  The document's Same at two rows that hold the same Outs.
-/
namespace Go.Proofs.YtgnihbdcdefdgaaGreatDoor
open Go.ChangeShapes Go.WideShapes Go.ChangeAt Go.RowKit
set_option linter.unusedVariables false
set_option linter.unusedSimpArgs false
/-- A row of Outs as it is read. -/
structure Rr (w : World) (a : Option Addr) (O : List Ot) : Prop where
  at' : ∀ k, k < O.length → ∃ g, a = some ⟨g, 0, none⟩ ∧ g < w.heap.size
  c : ∀ g, a = some ⟨g, 0, none⟩ → ∀ k (h : k < O.length) j, j < 12 → w.cell? ⟨g, k * 12 + j, none⟩ = (otC O[k])[j]?
theorem Rr.of {w : World} {base : Nat} {a : Option Addr} {c : Nat} {O : List Ot} (h : OwnR base w (.slice a O.length c) O) : Rr w a O := by
  refine ⟨fun k hk => ?_, fun g ha k hk j hj => ?_⟩
  · rcases h.2 with ⟨_, h'⟩ | ⟨g', cap, cur, h', hb, _⟩
    · omega
    · cases h'
      exact ⟨g', rfl, (h.lt g' rfl).2⟩
  · subst ha
    rw [h.cellAt (k * 12 + j) (by omega)]
    exact flatO_at O k hk j hj
/-- The cells of one Out. -/
structure Ro (w : World) (g k : Nat) (x : Ot) : Prop where
  c0 : w.cell? ⟨g, k * 12, none⟩ = some (.int .i64 x.1)
  c1 : w.cell? ⟨g, k * 12 + 1, none⟩ = some (.int .u64 x.2.to)
  c2 : w.cell? ⟨g, k * 12 + 2, none⟩ = some (.int .u64 x.2.fr)
  c3 : w.cell? ⟨g, k * 12 + 3, none⟩ = some (.int .i64 x.2.vl)
  c4 : w.cell? ⟨g, k * 12 + 4, none⟩ = some (.int .i64 x.2.ty)
  c5 : w.cell? ⟨g, k * 12 + 5, none⟩ = some (.int .u32 x.2.src)
  c6 : w.cell? ⟨g, k * 12 + 6, none⟩ = some (.int .u32 x.2.dst)
  c7 : w.cell? ⟨g, k * 12 + 7, none⟩ = some (.int .i64 x.2.life)
  c8 : w.cell? ⟨g, k * 12 + 8, none⟩ = some (.int .i64 x.2.pro)
  c9 : w.cell? ⟨g, k * 12 + 9, none⟩ = some (.int .i64 x.2.sp)
  c10 : w.cell? ⟨g, k * 12 + 10, none⟩ = some (.int .i64 x.2.dp)
  c11 : w.cell? ⟨g, k * 12 + 11, none⟩ = some (.string x.2.data)
theorem Rr.ro {w wr : World} {a : Option Addr} {O : List Ot} (h : Rr w a O) (b : Below w.heap.size w wr) (k : Nat) (hk : k < O.length) : ∃ g, a = some ⟨g, 0, none⟩ ∧ Ro wr g k O[k] := by
  obtain ⟨g, ha, hg⟩ := h.at' k hk
  have hc : ∀ j, j < 12 → wr.cell? ⟨g, k * 12 + j, none⟩ = (otC O[k])[j]? := fun j hj => (b.cell (p := ⟨g, k * 12 + j, none⟩) hg).trans (h.c g ha k hk j hj)
  exact ⟨g, ha, hc 0 (by omega), hc 1 (by omega), hc 2 (by omega), hc 3 (by omega), hc 4 (by omega), hc 5 (by omega), hc 6 (by omega), hc 7 (by omega), hc 8 (by omega), hc 9 (by omega), hc 10 (by omega), hc 11 (by omega)⟩
set_option maxHeartbeats 4000000 in
theorem same_eq (a1 : Option Addr) (c1 : Nat) (a2 : Option Addr) (c2 : Nat) (O : List Ot) (w : World) (h1 : Rr w a1 O) (h2 : Rr w a2 O) (hn : O.length ≤ 64) :
    Calls Tryz.prog 12 #[.slice a1 O.length c1, .slice a2 O.length c2] w fun e w' => e = .returned (.bool true) ∧ Below w.heap.size w w' := by
  have H1 : Hid (Rr w a1 O) := h1
  have H2 : Hid (Rr w a2 O) := h2
  obtain ⟨N, hN⟩ : ∃ N, O.length = N := ⟨_, rfl⟩
  have HN : Hid (O.length = N) := hN
  rw [hN] at hn
  rw [hN]
  clear h1 h2 hN
  go_enter Tryz.func12, Tryz.ntmps12
  go_wp2_with fail
  go_loopw [5] (fun i wr => ∃ k : Nat, k ≤ N ∧ i = .int .i64 k ∧ Hid (Below w.heap.size w wr)) (fun i _ => N - (intOf i).toNat)
  case atStart => exact ⟨0, Nat.zero_le _, rfl, (show Below _ _ _ from Below.refl _ _)⟩
  case round =>
    obtain ⟨k, hk, rfl, Hk⟩ := hrel
    by_cases hlt : k < N
    · have hltI : (k : Int) < (N : Int) := by omega
      have hkO : k < O.length := by rw [HN.out]; exact hlt
      obtain ⟨g1, rfl, r1⟩ := H1.out.ro Hk.out k hkO
      obtain ⟨g2, rfl, r2⟩ := H2.out.ro Hk.out k hkO
      generalize O[k] = x at *
      obtain ⟨c0, c1', c2', c3, c4, c5, c6, c7, c8, c9, c10, c11⟩ := r1
      obtain ⟨d0, d1, d2, d3, d4, d5, d6, d7, d8, d9, d10, d11⟩ := r2
      clear H1 H2
      go_wp2_with fail
      go_quiet (fail)
      have Hq : Hid (Below w.heap.size w (wr.drewN nq)) := (show Below _ _ _ from bdr Hk.out nq)
      go_wp2_with fail
      go_roundw
      case rel => exact ⟨k + 1, hlt, by go_num, Hq⟩
      case measure => simp [intOf]; omega
    · have hkl : ¬ (k : Int) < (N : Int) := by omega
      go_wp2_with fail
      go_ret
      exact ⟨rfl, Hk.out⟩
end Go.Proofs.YtgnihbdcdefdgaaGreatDoor
/-
  Without meters: no meter behind a run.
-/
namespace Go.Proofs.YtgnihbdcdefdgaaGreatDoor
theorem passV_nil (n : Int) (p : Fr.Pk) : (passV [] n p).2 = [] := by
  unfold passV takV
  split <;> simp_all
theorem tabV_nil {P : Nat → List Fp} {G : List G3} {live : List Bool} {pick : Int} : ∀ (k : Nat) (fr : Int) (s : Mt.Sn) (set : List A) (σ : St), (tabV P G live pick k fr s set σ []).2 = []
  | 0, _, _, _, _ => rfl
  | k + 1, fr, s, set, σ => by
    unfold tabV
    split
    · rfl
    · rename_i x hx
      have hp := passV_nil x.met s.pk
      simp only [hp]
      repeat' split
      all_goals first | rfl | exact tabV_nil k _ _ _ _ | simp
theorem runV_nil (P : Nat → List Fp) (G : List G3) (live : List Bool) (pick : Int) (s : Mt.Sn) : (runV P G live pick s []).2 = [] := tabV_nil 8 0 _ _ _
end Go.Proofs.YtgnihbdcdefdgaaGreatDoor
/-
  What the document's Same answers, as a contract.
-/
namespace Go.Proofs.YtgnihbdcdefdgaaGreatDoor
open Go.ChangeShapes Go.WideShapes Go.ChangeAt Go.RowKit

def sameB (l m : List A) : Bool := decide (l = m)
theorem same_stop {l m : List A} {k : Nat} (h1 : k < l.length) (h2 : k < m.length) (h : l[k] ≠ m[k]) : sameB l m = false := by
  unfold sameB; rw [decide_eq_false_iff_not]; intro e; subst e; exact h rfl
theorem same_step {l m : List A} {k : Nat} (h1 : k < l.length) (h2 : k < m.length) (h : l.take k = m.take k) (e : l[k] = m[k]) : l.take (k + 1) = m.take (k + 1) := by
  rw [take_snoc_get l k h1, take_snoc_get m k h2, h, e]
set_option maxHeartbeats 4000000 in
theorem same_any (a b : Option Addr) (l m : List A) (ca cb : Nat) (w : World) (ha : Ts w a l) (hb : Ts w b m) (hl : l.length ≤ 1000) (hm : m.length ≤ 1000) :
    Calls Tryz.prog 48 #[.slice a l.length ca, .slice b m.length cb] w fun e w' => e = .returned (.bool (sameB l m)) ∧ Below w.heap.size w w' := by
  have hE := neT
  have hG := guT
  by_cases hlen : l.length = m.length
  · have hn : ((l.length : Int) != (m.length : Int)) = false := by simp [hlen]
    have HLen : Hid (l.length = m.length) := hlen
    clear hlen
    go_enter Tryz.func48, Tryz.ntmps48
    go_wp2_with fail
    go_loopw [5] (fun i wr => ∃ k : Nat, k ≤ l.length ∧ i = .int .i64 k ∧ Hid (l.take k = m.take k) ∧ Below w.heap.size w wr) (fun i _ => l.length - (intOf i).toNat)
    case atStart => exact ⟨0, Nat.zero_le _, rfl, (show _ = _ by simp), Below.refl _ _⟩
    case round =>
      obtain ⟨k, hk, rfl, HT, hbel⟩ := hrel
      by_cases hlt : k < l.length
      · have hlm : k < m.length := by have := HLen.out; omega
        have tA := ha.below hbel
        have tB := hb.below hbel
        obtain ⟨g, o, rfl, hg, hc⟩ := tA.at hlt
        obtain ⟨g', o', rfl, hg', hc'⟩ := tB.at hlm
        have qa := hc k hlt
        have qb := hc' k hlm
        have HST : Hid (l[k] ≠ m[k] → sameB l m = false) := (show _ → _ from fun h => same_stop hlt hlm h)
        have HGO : Hid (l[k] = m[k] → l.take (k + 1) = m.take (k + 1)) := (show _ → _ from fun h => same_step hlt hlm HT.out h)
        have lm1 : (k : Int) < (m.length : Int) := by omega
        clear hc hc' tA tB HT
        generalize l[k] = X at *
        generalize m[k] = Y at *
        obtain ⟨a0, a1, a2⟩ := qa
        obtain ⟨b0, b1, b2⟩ := qb
        by_cases he : X = Y
        · have hd : eqB X Y = true := eqB_true.2 he
          have HT2 : Hid (l.take (k + 1) = m.take (k + 1)) := HGO.out he
          clear he HGO HST
          go_wp2_with fail
          go_quiet (fail)
          go_wp2_with fail
          go_roundw
          case rel => exact ⟨k + 1, by omega, by go_num, HT2, bdr hbel _⟩
          case measure => simp [intOf]; omega
        · have hd : eqB X Y = false := eqB_false.2 he
          have HT2 : Hid (sameB l m = false) := HST.out he
          clear he HGO HST
          go_wp2_with fail
          go_quiet (fail)
          go_wp2_with fail
          go_ret
          exact ⟨by rw [HT2.out]; rfl, bdr hbel _⟩
      · have hk' : k = l.length := by omega
        subst hk'
        have e : sameB l m = true := by
          have := HT.out
          rw [List.take_length, HLen.out, List.take_length] at this
          unfold sameB; simp [this]
        go_wp2_with fail
        go_ret
        exact ⟨by rw [e]; rfl, hbel⟩
  · have hn : ((l.length : Int) != (m.length : Int)) = true := by simp; omega
    have e : sameB l m = false := by
      unfold sameB; rw [decide_eq_false_iff_not]; intro e; subst e; exact hlen rfl
    rw [e]
    clear e hlen
    go_enter Tryz.func48, Tryz.ntmps48
    go_wp2_with fail
    go_ret
    exact ⟨rfl, Below.refl _ _⟩
end Go.Proofs.YtgnihbdcdefdgaaGreatDoor
/-
  The document's Same, Covers and Meets: what they answer, as contracts.
-/
namespace Go.Proofs.YtgnihbdcdefdgaaGreatDoor.Mt
open Go.ChangeShapes Go.WideShapes Go.ChangeAt Go.RowKit

set_option maxHeartbeats 4000000 in
theorem rsame_any (a1 : Option Addr) (l : List T) (cap1 : Nat) (a2 : Option Addr) (b : List T) (cap2 : Nat) (w : World) (h : Ts w a1 l) (hl : l.length ≤ 100000) (h2 : Ts w a2 b) (hl2 : b.length ≤ 100000) :
    Calls Tryz.prog 44 #[.slice a1 l.length cap1, .slice a2 b.length cap2] w fun e w' => e = .returned (.bool (sameB l b)) ∧ Below w.heap.size w w' := by
  have hE := neT
  have hG := guT
  by_cases hq : l.length = b.length
  · have hne : ((l.length : Int) != (b.length : Int)) = false := by simp [hq]
    go_enter Tryz.func44, Tryz.ntmps44
    go_wp2
    go_loopw [5] (fun i wr => ∃ k : Nat, k ≤ l.length ∧ i = .int .i64 k ∧ l.take k = b.take k ∧ Below w.heap.size w wr) (fun i _ => l.length - (intOf i).toNat)
    case atStart => exact ⟨0, by omega, rfl, by simp, Below.refl _ _⟩
    case round =>
      obtain ⟨k, hk, rfl, hn, hbel⟩ := hrel
      by_cases hlt : k < l.length
      · have hlt2 : k < b.length := by omega
        have hT := h.below hbel
        have hT2 := h2.below hbel
        obtain ⟨g, o, rfl, hg, hc⟩ := hT.at hlt
        obtain ⟨g2, o2, rfl, hg2, hc2⟩ := hT2.at hlt2
        obtain ⟨c0, c1, c2⟩ := hc k hlt
        obtain ⟨d0, d1, d2⟩ := hc2 k hlt2
        go_wp2
        go_quiet (fail)
        by_cases he : l[k] = b[k]
        · have hd : eqB l[k] b[k] = true := eqB_true.2 he
          have HE : Hid (l.take (k + 1) = b.take (k + 1)) := (show _ = _ by rw [take_snoc_get l k hlt, take_snoc_get b k hlt2, hn, he])
          clear he
          rw [hd]
          go_wp2
          go_roundw
          case rel => exact ⟨k + 1, by omega, by go_num, HE.out, bdr hbel _⟩
          case measure => simp [intOf]; omega
        · have hd : eqB l[k] b[k] = false := eqB_false.2 he
          have HE : Hid (sameB l b = false) := (show _ = _ by
            unfold sameB
            rw [decide_eq_false_iff_not]
            intro hh
            apply he
            subst hh
            rfl)
          clear he
          rw [hd]
          go_wp2
          go_ret
          exact ⟨by rw [HE.out]; rfl, bdr hbel _⟩
      · have hk' : k = l.length := by omega
        subst hk'
        rw [List.take_length, hq, List.take_length] at hn
        have e : sameB l b = true := by unfold sameB; exact decide_eq_true hn
        go_wp2
        go_ret
        exact ⟨by rw [e]; rfl, hbel⟩
  · have hne : ((l.length : Int) != (b.length : Int)) = true := by simp; omega
    have e : sameB l b = false := by
      unfold sameB
      rw [decide_eq_false_iff_not]
      intro hh
      exact hq (by rw [hh])
    rw [e]
    go_enter Tryz.func44, Tryz.ntmps44
    go_wp2
    go_ret
    exact ⟨rfl, Below.refl _ _⟩

theorem clash_sym (t u : T) : bits .and .u64 (bits .and .u64 (bits .xor .u64 t.2.1 u.2.1) t.2.2) u.2.2 = bits .and .u64 (bits .and .u64 (bits .xor .u64 u.2.1 t.2.1) u.2.2) t.2.2 := by
  rw [u_and, u_and, bv_nat, u_xor, bv_nat, u_and, u_and, bv_nat, u_xor, bv_nat, BitVec.xor_comm, BitVec.and_assoc, BitVec.and_comm (bv t.2.2), ← BitVec.and_assoc]
theorem feq_sym (a b : Int) : (a == b) = (b == a) := by apply bool_iff; rw [beq_iff_eq, beq_iff_eq]; exact eq_comm
theorem cover_at (t u : T) (x1 x2 x3 : Bool) (f1 : (t.1 == u.1) = x1) (f2 : (bits .and .u64 u.2.2 t.2.2 == t.2.2) = x2) (f3 : (bits .and .u64 u.2.1 t.2.2 == t.2.1) = x3) : coverT t u = (x1 && x2 && x3) := by
  unfold coverT; rw [feq_sym, f1, f2, f3]
theorem clash_at (t u : T) (x1 x2 : Bool) (f1 : (t.1 == u.1) = x1) (f2 : (bits .and .u64 (bits .and .u64 (bits .xor .u64 t.2.1 u.2.1) t.2.2) u.2.2 != 0) = x2) : clashT t u = (x1 && x2) := by
  unfold clashT; rw [feq_sym, f1, ← clash_sym, f2]

set_option maxRecDepth 20000 in
set_option maxHeartbeats 16000000 in
theorem rmeets_any (a1 : Option Addr) (l : List T) (cap1 : Nat) (a2 : Option Addr) (b : List T) (cap2 : Nat) (w : World) (h : Ts w a1 l) (hl : l.length ≤ 100000) (h2 : Ts w a2 b) (hl2 : b.length ≤ 100000) :
    Calls Tryz.prog 63 #[.slice a1 l.length cap1, .slice a2 b.length cap2] w fun e w' => e = .returned (.bool (meetsB l b)) ∧ Below w.heap.size w w' := by
  unfold meetsB
  go_enter Tryz.func63, Tryz.ntmps63
  go_wp2
  go_loopw [5] (fun i wr => ∃ k : Nat, k ≤ l.length ∧ i = .int .i64 k ∧ (l.take k).all (fun t => b.all fun u => !clashT t u) = true ∧ Below w.heap.size w wr) (fun i _ => l.length - (intOf i).toNat)
  case atStart => exact ⟨0, by omega, rfl, by simp, Below.refl _ _⟩
  case round =>
    obtain ⟨k, hk, rfl, hn, hbel⟩ := hrel
    by_cases hlt : k < l.length
    · have hs := all_snoc l (fun t => b.all fun u => !clashT t u) k hlt
      rw [hn] at hs
      have HS : Hid _ := hs
      clear hs hn
      go_wp2
      go_loopw [6] (fun j wy => ∃ m : Nat, m ≤ b.length ∧ j = .int .i64 m ∧ (b.take m).all (fun u => !clashT l[k] u) = true ∧ Below w.heap.size w wy) (fun j _ => b.length - (intOf j).toNat)
      case atStart => exact ⟨0, by omega, rfl, by simp, hbel⟩
      case round =>
        obtain ⟨m, hm, rfl, hn2, hbel2⟩ := hrel
        by_cases hlt2 : m < b.length
        · have hs2 := all_snoc b (fun u => !clashT l[k] u) m hlt2
          rw [hn2] at hs2
          have hT := h.below hbel2
          have hT2 := h2.below hbel2
          obtain ⟨g, o, rfl, hg, hc⟩ := hT.at hlt
          obtain ⟨g2, o2, rfl, hg2, hc2⟩ := hT2.at hlt2
          obtain ⟨c0, c1, c2⟩ := hc k hlt
          obtain ⟨d0, d1, d2⟩ := hc2 m hlt2
          cases f1 : (l[k].1 == b[m].1)
          · have HE : Hid ((b.take (m + 1)).all (fun u => !clashT l[k] u) = true) := (show _ = _ by rw [hs2, clash_at _ _ _ _ f1 rfl]; rfl)
            clear hs2 hn2
            go_wp2
            go_quiet (fail)
            go_wp2
            go_roundw
            case rel => exact ⟨m + 1, by omega, by go_num, HE.out, bdr hbel2 _⟩
            case measure => simp [intOf]; omega
          · cases f2 : (bits .and .u64 (bits .and .u64 (bits .xor .u64 l[k].2.1 b[m].2.1) l[k].2.2) b[m].2.2 != 0)
            · have HE : Hid ((b.take (m + 1)).all (fun u => !clashT l[k] u) = true) := (show _ = _ by rw [hs2, clash_at _ _ _ _ f1 f2]; rfl)
              clear hs2 hn2
              go_wp2
              go_quiet (fail)
              try rw [f2]
              go_wp2
              go_roundw
              case rel => exact ⟨m + 1, by omega, by go_num, HE.out, bdr hbel2 _⟩
              case measure => simp [intOf]; omega
            · have HE : Hid ((b.take (m + 1)).all (fun u => !clashT l[k] u) = false) := (show _ = _ by rw [hs2, clash_at _ _ _ _ f1 f2]; rfl)
              have HE2 : Hid (l.all (fun t => b.all fun u => !clashT t u) = false) := (show _ = _ from all_of_take l _ (k + 1) (by rw [HS.out, all_of_take b _ (m + 1) HE.out]; rfl))
              clear hs2 hn2
              go_wp2
              go_quiet (fail)
              try rw [f2]
              go_wp2
              go_ret
              exact ⟨by rw [HE2.out]; rfl, bdr hbel2 _⟩
        · have hm' : m = b.length := by omega
          subst hm'
          rw [List.take_length] at hn2
          have HE : Hid ((l.take (k + 1)).all (fun t => b.all fun u => !clashT t u) = true) := (show _ = _ by rw [HS.out, hn2]; rfl)
          go_wp2
          go_roundw
          case rel => exact ⟨k + 1, by omega, by go_num, HE.out, hbel2⟩
          case measure => simp [intOf]; omega
    · have hk' : k = l.length := by omega
      subst hk'
      rw [List.take_length] at hn
      go_wp2
      go_ret
      exact ⟨by rw [hn]; rfl, hbel⟩
end Go.Proofs.YtgnihbdcdefdgaaGreatDoor.Mt
/-
  The document's SameEntry at two entries that are the same.
-/
namespace Go.Proofs.YtgnihbdcdefdgaaGreatDoor
open Go.ChangeShapes Go.WideShapes Go.ChangeAt Go.RowKit
set_option linter.unusedVariables false
set_option linter.unusedSimpArgs false
theorem eqI (a : Int) : (a == a) = true := by simp
theorem eqBo (a : Bool) : (a == a) = true := by simp
set_option maxRecDepth 20000 in
set_option maxHeartbeats 8000000 in
theorem same7 (x y : Fe) (w : World) (e : y.p = x.p) (hx : FW w x) (hy : FW w y) : Calls Tryz.prog 45 #[feV x, feV y] w fun e w' => e = .returned (.bool true) ∧ Below w.heap.size w w' := by
  obtain ⟨yp, ta, tc, aa, ca, aw, cw⟩ := y
  simp only at e
  subst e
  obtain ⟨W2, hW2, z2, g2, x2, y2⟩ := two_boxes w x ⟨x.p, ta, tc, aa, ca, aw, cw⟩
  have HS1 : Hid (Calls Tryz.prog 48 #[.slice x.aa x.p.la.length x.ca, .slice aa x.p.la.length ca] W2 fun e w' => e = .returned (.bool true) ∧ Below W2.heap.size W2 w') := (show Calls _ _ _ _ _ from by
    have := same_any x.aa aa x.p.la x.p.la x.ca ca W2 (hx.a.below g2) (hy.a.below g2) hx.na hx.na
    rwa [show sameB x.p.la x.p.la = true by simp [sameB]] at this)
  have HS2 : Hid (∀ w3, Below W2.heap.size W2 w3 → Calls Tryz.prog 48 #[.slice x.aw x.p.lw.length x.cw, .slice aw x.p.lw.length cw] w3 fun e w' => e = .returned (.bool true) ∧ Below w3.heap.size w3 w') := (show ∀ w3, _ from fun w3 g3 => by
    have := same_any x.aw aw x.p.lw x.p.lw x.cw cw w3 ((hx.w.below g2).below g3) ((hy.w.below g2).below g3) hx.nw hx.nw
    rwa [show sameB x.p.lw x.p.lw = true by simp [sameB]] at this)
  have hE1 := eqI x.p.tab
  have hE2 := eqBo x.p.clr
  have hE3 := eqI x.p.mt
  have hE4 := eqI x.p.mm
  have hE5 := eqI x.p.met
  have hE6 := eqI x.p.go
  have HX : Hid (Be W2 w.heap.size 0 x) := x2
  have HY : Hid (Be W2 (w.heap.size + 1) 0 ⟨x.p, ta, tc, aa, ca, aw, cw⟩) := y2
  obtain ⟨c0, c1, c2, c3, c4, c5, c6, c7, c8, c9⟩ := x2.cs
  obtain ⟨d0, d1, d2, d3, d4, d5, d6, d7, d8, d9⟩ := y2.cs
  clear hx hy x2 y2
  go_enter Tryz.func45, Tryz.ntmps45
  go_wp2_with fail
  refine HS1.out.mono ?_
  rintro r w3 ⟨rfl, g3⟩
  have G3 := btr g2 g3 (by omega)
  clear c0 c1 c2 c3 c4 c5 c6 c7 c8 c9 d0 d1 d2 d3 d4 d5 d6 d7 d8 d9
  obtain ⟨c0, c1, c2, c3, c4, c5, c6, c7, c8, c9⟩ := (HX.out.below (by omega) g3).cs
  obtain ⟨d0, d1, d2, d3, d4, d5, d6, d7, d8, d9⟩ := (HY.out.below (by omega) g3).cs
  go_wp2_with fail
  refine (HS2.out _ g3).mono ?_
  rintro r w4 ⟨rfl, g4⟩
  have K4 := btr g3 g4 (Nat.le_refl _)
  have G4 := btr G3 g4 (by have := g3.size; omega)
  clear c0 c1 c2 c3 c4 c5 c6 c7 c8 c9 d0 d1 d2 d3 d4 d5 d6 d7 d8 d9
  obtain ⟨c0, c1, c2, c3, c4, c5, c6, c7, c8, c9⟩ := (HX.out.below (by omega) K4).cs
  obtain ⟨d0, d1, d2, d3, d4, d5, d6, d7, d8, d9⟩ := (HY.out.below (by omega) K4).cs
  clear g3 g4 K4 G3
  go_wp2_with fail
  go_ret
  exact ⟨rfl, G4⟩
set_option maxHeartbeats 4000000 in
theorem sameE (x y : Fe) (w : World) (e : y.p = x.p) (hx : FW w x) (hy : FW w y) : Calls Tryz.prog 22 #[feV x, feV y] w fun e w' => e = .returned (.bool true) ∧ Below w.heap.size w w' := by
  obtain ⟨W2, hW2, z2, g2, x2, y2⟩ := two_boxes w x y
  have HS1 : Hid (Calls Tryz.prog 44 #[.slice x.ta x.p.lt.length x.tc, .slice y.ta y.p.lt.length y.tc] W2 fun e w' => e = .returned (.bool true) ∧ Below W2.heap.size W2 w') := (show Calls _ _ _ _ _ from by
    have := Mt.rsame_any x.ta x.p.lt x.tc y.ta y.p.lt y.tc W2 (hx.t.below g2) (by have := hx.nt; omega) (hy.t.below g2) (by have := hy.nt; omega)
    rwa [show Mt.sameB x.p.lt y.p.lt = true by rw [e]; simp [Mt.sameB]] at this)
  have HS2 : Hid (∀ w3, Below W2.heap.size W2 w3 → Calls Tryz.prog 45 #[feV x, feV y] w3 fun e w' => e = .returned (.bool true) ∧ Below w3.heap.size w3 w') := (show ∀ w3, _ from fun w3 g3 => same7 x y w3 e ((hx.below g2).below g3) ((hy.below g2).below g3))
  have hE1 : (x.p.pri == y.p.pri) = true := by rw [e]; simp
  have HX : Hid (Be W2 w.heap.size 0 x) := x2
  have HY : Hid (Be W2 (w.heap.size + 1) 0 y) := y2
  obtain ⟨_, c1, c2, _⟩ := x2.cs
  obtain ⟨_, d1, d2, _⟩ := y2.cs
  clear hx hy x2 y2 e
  go_enter Tryz.func22, Tryz.ntmps22
  go_wp2_with fail
  refine HS1.out.mono ?_
  rintro r w3 ⟨rfl, g3⟩
  have HG3 : Hid (Below W2.heap.size W2 w3) := g3
  have G3 := btr g2 g3 (by omega)
  have HX3 : Hid (Be w3 w.heap.size 0 x) := HX.out.below (by omega) g3
  have HY3 : Hid (Be w3 (w.heap.size + 1) 0 y) := HY.out.below (by omega) g3
  clear g3
  go_wp2_with (first | (refine load_E rfl (.tmp 2) rfl w.heap.size 0 x rfl HX3.out ?_) | (refine load_E rfl (.tmp 3) rfl (w.heap.size + 1) 0 y rfl HY3.out ?_))
  refine (HS2.out _ HG3.out).mono ?_
  rintro r w4 ⟨rfl, g4⟩
  have G4 := btr G3 g4 (by have := HG3.out.size; omega)
  go_wp2_with fail
  go_ret
  exact ⟨rfl, G4⟩
end Go.Proofs.YtgnihbdcdefdgaaGreatDoor
/-
  What the document's SameGroup answers, as a contract.
-/
namespace Go.Proofs.YtgnihbdcdefdgaaGreatDoor.Gp
open Go.ChangeShapes Go.WideShapes Go.ChangeAt Go.RowKit
set_option linter.unusedVariables false
set_option linter.unusedSimpArgs false

def sBk (b c : B3) : Bool := b.1 == c.1 && b.2.1 == c.2.1 && sameB b.2.2 c.2.2
def sBks : List B3 → List B3 → Bool
  | [], [] => true
  | b :: l, c :: k => sBk b c && sBks l k
  | _, _ => false
def sGrp (i k : Int) (l : List B3) (j n : Int) (r : List B3) : Bool := i == j && k == n && sBks l r
theorem sameB_refl (l : List A) : sameB l l = true := by simp [sameB]
theorem sBks_refl : ∀ l : List B3, sBks l l = true
  | [] => rfl
  | b :: l => by simp [sBks, sBk, sameB_refl, sBks_refl l]
theorem sBks_len : ∀ (l k : List B3), l.length ≠ k.length → sBks l k = false
  | [], [], h => absurd rfl h
  | [], _ :: _, _ => rfl
  | _ :: _, [], _ => rfl
  | b :: l, c :: k, h => by
    rw [sBks, sBks_len l k (by simpa using h), Bool.and_false]
theorem sBks_at : ∀ (l k : List B3) (i : Nat) (hl : i < l.length) (hk : i < k.length), sBk l[i] k[i] = false → sBks l k = false
  | b :: l, c :: k, 0, _, _, h => by
    rw [sBks]
    simp only [List.getElem_cons_zero] at h
    rw [h, Bool.false_and]
  | b :: l, c :: k, i + 1, hl, hk, h => by
    rw [sBks]
    simp only [List.getElem_cons_succ] at h
    rw [sBks_at l k i (by simpa using hl) (by simpa using hk) h, Bool.and_false]
theorem sBks_all : ∀ (l k : List B3), l.length = k.length → (∀ i (hl : i < l.length) (hk : i < k.length), sBk l[i] k[i] = true) → sBks l k = true
  | [], [], _, _ => rfl
  | [], _ :: _, h, _ => by cases h
  | _ :: _, [], h, _ => by cases h
  | b :: l, c :: k, h, g => by
    rw [sBks, sBks_all l k (by simpa using h) (fun i hl hk => g (i + 1) (by simpa using hl) (by simpa using hk))]
    have := g 0 (by simp) (by simp)
    simp only [List.getElem_cons_zero] at this
    rw [this]
    rfl
theorem sBks_eq : ∀ {l k : List B3}, sBks l k = true → l = k
  | [], [], _ => rfl
  | [], _ :: _, h => by cases h
  | _ :: _, [], h => by cases h
  | b :: l, c :: k, h => by
    rw [sBks, Bool.and_eq_true] at h
    have h2 := sBks_eq h.2
    have h1 := h.1
    obtain ⟨b1, b2, b3⟩ := b
    obtain ⟨c1, c2, c3⟩ := c
    simp only [sBk, Bool.and_eq_true, beq_iff_eq, sameB, decide_eq_true_eq] at h1
    obtain ⟨⟨e1, e2⟩, e3⟩ := h1
    rw [e1, e2, e3, h2]
set_option maxRecDepth 20000 in
set_option maxHeartbeats 8000000 in
theorem sGrp_any (i k : Int) (ga : Option Addr) (l : List Bk) (gc : Nat) (j n : Int) (gb : Option Addr) (r : List Bk) (gd : Nat) (w : World) (hl : Bs w ga l) (hr : Bs w gb r) (sl : Sm l) (sr : Sm r) :
    Calls Tryz.prog 24 #[.agg #[.int .i64 i, .int .i64 k, .slice ga l.length gc], .agg #[.int .i64 j, .int .i64 n, .slice gb r.length gd]] w fun e w' => e = .returned (.bool (sGrp i k (l.map Bk.b3) j n (r.map Bk.b3))) ∧ Below w.heap.size w w' := by
  have HS : Hid (∀ (x y : Bk) w1, Ts w1 x.a x.l → x.l.length ≤ 100 → Ts w1 y.a y.l → y.l.length ≤ 100 → Calls Tryz.prog 48 #[.slice x.a x.l.length x.c, .slice y.a y.l.length y.c] w1 fun e w' => e = .returned (.bool (sameB x.l y.l)) ∧ Below w1.heap.size w1 w') := (show ∀ (x y : Bk) w1, _ from fun x y w1 hx nx hy ny => same_any x.a y.a x.l y.l x.c y.c w1 hx hy (by omega) (by omega))
  have HSl : Hid (∀ b ∈ l, b.l.length ≤ 100) := sl.a
  have HSr : Hid (∀ b ∈ r, b.l.length ≤ 100) := sr.a
  have nl : l.length ≤ 100000 := by have := sl.n; omega
  have nr : r.length ≤ 100000 := by have := sr.n; omega
  clear sl sr
  have HR : Hid (sGrp i k (l.map Bk.b3) j n (r.map Bk.b3) = (i == j && k == n && sBks (l.map Bk.b3) (r.map Bk.b3))) := (show _ = _ from rfl)
  rw [HR.out]
  clear HR
  cases h1 : (i == j) with
  | false =>
    have h1' : (i != j) = true := by rw [bne, h1]; rfl
    clear HS hl hr
    go_enter Tryz.func24, Tryz.ntmps24
    go_wp2_with fail
    go_ret
    exact ⟨rfl, by go_grown⟩
  | true =>
    have h1' : (i != j) = false := by rw [bne, h1]; rfl
    cases h2 : (k == n) with
    | false =>
      have h2' : (k != n) = true := by rw [bne, h2]; rfl
      clear HS hl hr
      go_enter Tryz.func24, Tryz.ntmps24
      go_wp2_with fail
      go_ret
      exact ⟨rfl, by go_grown⟩
    | true =>
      have h2' : (k != n) = false := by rw [bne, h2]; rfl
      by_cases h3 : l.length = r.length
      · have h3' : ((l.length : Int) != (r.length : Int)) = false := by simp [h3]
        obtain ⟨W2, hW2⟩ : ∃ W2, (w.alloc (.cells #[.int .i64 i, .int .i64 k, .slice ga l.length gc] 81)).alloc (.cells #[.int .i64 j, .int .i64 n, .slice gb r.length gd] 81) = W2 := ⟨_, rfl⟩
        have G2 : Below w.heap.size w W2 := by rw [← hW2]; go_grown
        have z2 : W2.heap.size = w.heap.size + 2 := by rw [← hW2]; simp
        have x2 : W2.cell? ⟨w.heap.size, 2, none⟩ = some (.slice ga l.length gc) := by rw [← hW2]; simp
        have y2 : W2.cell? ⟨w.heap.size + 1, 2, none⟩ = some (.slice gb r.length gd) := by
          rw [← hW2]
          simp
        have HX : Hid (∀ w', Below W2.heap.size W2 w' → w.heap.size + 1 < w'.heap.size ∧ w'.cell? ⟨w.heap.size, 2, none⟩ = some (.slice ga l.length gc) ∧ w'.cell? ⟨w.heap.size + 1, 2, none⟩ = some (.slice gb r.length gd)) := (show ∀ w', _ from fun w' g => ⟨by have := g.size; omega, (g.cell (p := ⟨w.heap.size, 2, none⟩) (show w.heap.size < W2.heap.size by omega)).trans x2, (g.cell (p := ⟨w.heap.size + 1, 2, none⟩) (show w.heap.size + 1 < W2.heap.size by omega)).trans y2⟩)
        have HL : Hid (Bs W2 ga l) := (show Bs _ _ _ from hl.below G2)
        have HRr : Hid (Bs W2 gb r) := (show Bs _ _ _ from hr.below G2)
        have HG2 : Hid (Below w.heap.size w W2) := G2
        have HGo : Hid (∀ w', Below W2.heap.size W2 w' → Below w.heap.size w w') := (show ∀ w', _ from fun w' g => btr G2 g (Nat.le_refl _))
        have HBad : Hid (∀ q (hq : q < l.length) (hq2 : q < r.length), sBk l[q].b3 r[q].b3 = false → sBks (l.map Bk.b3) (r.map Bk.b3) = false) := (show ∀ q (hq : q < l.length) (hq2 : q < r.length), _ from fun q hq hq2 hf => sBks_at _ _ q (by simpa using hq) (by simpa using hq2) (by simpa using hf))
        have HAll : Hid ((∀ q (hq : q < l.length) (hq2 : q < r.length), sBk l[q].b3 r[q].b3 = true) → sBks (l.map Bk.b3) (r.map Bk.b3) = true) := (show (∀ q (hq : q < l.length) (hq2 : q < r.length), sBk l[q].b3 r[q].b3 = true) → _ from fun hh => sBks_all _ _ (by simpa using h3) (fun q hq hq2 => by simpa using hh q (by simpa using hq) (by simpa using hq2)))
        have HW2 : Hid ((w.alloc (.cells #[.int .i64 i, .int .i64 k, .slice ga l.length gc] 81)).alloc (.cells #[.int .i64 j, .int .i64 n, .slice gb r.length gd] 81) = W2) := hW2
        have H3 : Hid (l.length = r.length) := h3
        clear hW2 G2 z2 hl hr h1 h2 h3
        go_enter Tryz.func24, Tryz.ntmps24
        go_wp2_with fail
        rw [HW2.out]
        clear x2 y2
        go_loopw [5] (fun v wr => ∃ q : Nat, q ≤ l.length ∧ v = .int .i64 q ∧ Hid (∀ p (hp : p < l.length) (hp2 : p < r.length), p < q → sBk l[p].b3 r[p].b3 = true) ∧ Below W2.heap.size W2 wr) (fun v _ => l.length - (intOf v).toNat)
        case atStart => exact ⟨0, Nat.zero_le _, rfl, (show ∀ p (hp : p < l.length) (hp2 : p < r.length), p < 0 → _ from fun p _ _ h => by omega), Below.refl _ _⟩
        case round =>
          obtain ⟨q, hq, rfl, HP, hbel⟩ := hrel
          obtain ⟨zr, x2, y2⟩ := HX.out _ hbel
          by_cases hlt : q < l.length
          · have hlt2 : q < r.length := by have := H3.out; omega
            have hT := HL.out.below hbel
            have hU := HRr.out.below hbel
            obtain ⟨g, o, rfl, hg, hc⟩ := hT.at hlt
            obtain ⟨g2, o2, rfl, hg2, hc2⟩ := hU.at hlt2
            obtain ⟨c0, c1, c2⟩ := hc q hlt
            obtain ⟨d0, d1, d2⟩ := hc2 q hlt2
            have hWx := hT.1 l[q] (List.getElem_mem hlt)
            have hWy := hU.1 r[q] (List.getElem_mem hlt2)
            have HSq : Hid (∀ w', Below wr.heap.size wr w' → Calls Tryz.prog 48 #[.slice l[q].a l[q].l.length l[q].c, .slice r[q].a r[q].l.length r[q].c] w' fun e w'' => e = .returned (.bool (sameB l[q].l r[q].l)) ∧ Below w'.heap.size w' w'') := (show ∀ w', _ from fun w' gw => HS.out l[q] r[q] w' (hWx.below gw) (HSl.out _ (List.getElem_mem hlt)) (hWy.below gw) (HSr.out _ (List.getElem_mem hlt2)))
            have HBq : Hid (sBk l[q].b3 r[q].b3 = false → sBks (l.map Bk.b3) (r.map Bk.b3) = false) := HBad.out q hlt hlt2
            have HNq : Hid (sBk l[q].b3 r[q].b3 = true → ∀ p (hp : p < l.length) (hp2 : p < r.length), p < q + 1 → sBk l[p].b3 r[p].b3 = true) := (show _ → _ from fun hh p hp hp2 hpq => by
              by_cases e : p = q
              · subst e; exact hh
              · exact HP.out p hp hp2 (by omega))
            have HBk : Hid (sBk l[q].b3 r[q].b3 = (l[q].wa == r[q].wa && l[q].we == r[q].we && sameB l[q].l r[q].l)) := (show _ = _ from rfl)
            have HCo : Hid (∀ w', Below wr.heap.size wr w' → Below W2.heap.size W2 w') := (show ∀ w', _ from fun w' gw => btr hbel gw (Nat.le_refl _))
            clear hc hc2 hT hU hWx hWy
            generalize l[q] = X at *
            generalize r[q] = Y at *
            cases e1 : (X.wa == Y.wa) with
            | false =>
              have e1' : (X.wa != Y.wa) = true := by rw [bne, e1]; rfl
              have f : sBk X.b3 Y.b3 = false := by rw [HBk.out, e1]; rfl
              have HF : Hid (sBks (l.map Bk.b3) (r.map Bk.b3) = false) := HBq.out f
              clear f e1
              go_wp2_with fail
              go_ret
              exact ⟨by rw [HF.out]; rfl, HGo.out _ (HCo.out _ (by go_grown))⟩
            | true =>
              have e1' : (X.wa != Y.wa) = false := by rw [bne, e1]; rfl
              cases e2 : (X.we == Y.we) with
              | false =>
                have e2' : (X.we != Y.we) = true := by rw [bne, e2]; rfl
                have f : sBk X.b3 Y.b3 = false := by rw [HBk.out, e1, e2]; rfl
                have HF : Hid (sBks (l.map Bk.b3) (r.map Bk.b3) = false) := HBq.out f
                clear f e1 e2
                go_wp2_with fail
                go_ret
                exact ⟨by rw [HF.out]; rfl, HGo.out _ (HCo.out _ (by go_grown))⟩
              | true =>
                have e2' : (X.we != Y.we) = false := by rw [bne, e2]; rfl
                cases e3 : sameB X.l Y.l with
                | false =>
                  have f : sBk X.b3 Y.b3 = false := by rw [HBk.out, e1, e2, e3]; rfl
                  rw [e3] at HSq
                  have HF : Hid (sBks (l.map Bk.b3) (r.map Bk.b3) = false) := HBq.out f
                  clear f e1 e2 e3
                  go_wp2_with fail
                  refine (HSq.out _ (by go_grown)).mono ?_
                  rintro v w1 ⟨rfl, g1⟩
                  have b1 : Below wr.heap.size wr w1 := btr (by go_grown) g1 (Nat.le_refl _)
                  clear g1
                  go_wp2_with fail
                  go_ret
                  exact ⟨by rw [HF.out]; rfl, HGo.out _ (HCo.out _ b1)⟩
                | true =>
                  have f : sBk X.b3 Y.b3 = true := by rw [HBk.out, e1, e2, e3]; rfl
                  have HN' : Hid (∀ p (hp : p < l.length) (hp2 : p < r.length), p < q + 1 → sBk l[p].b3 r[p].b3 = true) := HNq.out f
                  rw [e3] at HSq
                  clear f e1 e2 e3
                  go_wp2_with fail
                  refine (HSq.out _ (by go_grown)).mono ?_
                  rintro v w1 ⟨rfl, g1⟩
                  have b1 : Below wr.heap.size wr w1 := btr (by go_grown) g1 (Nat.le_refl _)
                  have B1 := HCo.out _ b1
                  clear g1
                  go_wp2_with fail
                  go_roundw
                  case rel => exact ⟨q + 1, by omega, by go_num, HN', B1⟩
                  case measure => simp [intOf]; omega
          · have hq' : q = l.length := by omega
            have f := HAll.out (fun p hp hp2 => HP.out p hp hp2 (by omega))
            have HF : Hid (sBks (l.map Bk.b3) (r.map Bk.b3) = true) := f
            clear f
            go_wp2_with fail
            go_ret
            exact ⟨by rw [HF.out]; rfl, HGo.out _ hbel⟩
      · have h3' : ((l.length : Int) != (r.length : Int)) = true := by simp; omega
        have f : sBks (l.map Bk.b3) (r.map Bk.b3) = false := sBks_len _ _ (by simpa using h3)
        rw [f]
        clear HS hl hr f
        go_enter Tryz.func24, Tryz.ntmps24
        go_wp2_with fail
        go_ret
        exact ⟨rfl, by go_grown⟩
end Go.Proofs.YtgnihbdcdefdgaaGreatDoor.Gp

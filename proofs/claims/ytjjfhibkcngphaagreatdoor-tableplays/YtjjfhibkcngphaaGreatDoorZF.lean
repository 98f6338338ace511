/-
  Joined: FTab, FLook, FMod, FModW, FDelW, FAddW, FSmall, FAwake, Open, FOpen, FMath, FLaw.
-/
import Derived.Test.YtjjfhibkcngphaaGreatDoorFIns
import Derived.Deep.AppendLies
import Derived.Deep.QuietTactic
import Derived.BigQuiet
import Derived.Deep.RegionHeld
import Derived.Test.YtjjfhibkcngphaaGreatDoorSame
import Derived.Test.YtjjfhibkcngphaaGreatDoorMRSame
import Derived.Test.YtjjfhibkcngphaaGreatDoorTab
import Derived.WalkKit
import Derived.ProofKit
import Derived.OpenShut
import Derived.ShutString
import Derived.ChangeOld
import Derived.Below
import Derived.LaidMore
import Derived.Stop.Joined
import Derived.Deep.Slices
import Derived.SizedLaws
import Derived.Carry
import Derived.Test.YtjjfhibkcngphaaGreatDoorMRTakes
/-
  Tables as they lie in memory; what is wrong with an entry; New and entries, as contracts.
-/
namespace Go.Proofs.YtjjfhibkcngphaaGreatDoor
open Go.ChangeShapes Go.WideShapes Go.ChangeAt Go.RowKit
set_option linter.unusedVariables false
set_option linter.unusedSimpArgs false

/-- What is wrong with an entry. -/
def priB (n : Int) : Bool := decide (n < 0) || decide (65535 < n)
def wrongE (x : Fp) : Int := if rightX x.sp ≠ 0 then rightX x.sp else if Mt.rightE x.lt ≠ 0 then Mt.rightE x.lt else if priB x.pri = true then 1 else 0
theorem wrong_tab {x : Fp} (h : wrongE x = 0) : 0 ≤ x.tab ∧ x.tab < 8 := by
  unfold wrongE at h
  split at h
  · contradiction
  · rename_i h1
    have h2 : rightX x.sp = 0 := by simpa using h1
    by_cases ht : tabB x.tab = true
    · unfold tabB at ht
      simpa using ht
    · have : rightX x.sp = 26 := by unfold rightX; rw [if_pos (by simpa [Fp.sp] using ht)]
      omega
/-- Tables: the room, eight rows of entries with lists of their own; S: the blocks that they have. -/
structure Fl (w : World) (f : Nat) (S : Nat → Prop) (room : Int) (V : Nat → Value) (L : Nat → List Fe) : Prop where
  rm : w.cell? ⟨f, 0, none⟩ = some (.int .i64 room)
  cv : ∀ t, t < 8 → w.cell? ⟨f, 1 + t, none⟩ = some (V t)
  fz : ∀ t, w.frozen? ⟨f, t, none⟩ = false
  row : ∀ t, t < 8 → OwnE 0 w (V t) (L t)
  sf : S f
  sr : ∀ t, t < 8 → ∀ g, (V t).ownBlock = some g → S g ∧ g ≠ f
  ap : ∀ t u, t < 8 → u < 8 → t ≠ u → ∀ g, (V t).ownBlock = some g → (V u).ownBlock ≠ some g
  en : ∀ t, t < 8 → ∀ x ∈ L t, FW w x ∧ ∀ b, InF x b → S b ∧ b ≠ f ∧ ∀ u, u < 8 → (V u).ownBlock ≠ some b
  lt : ∀ b, S b → b < w.heap.size
  lo : ∀ b, S b → 2 ≤ b
  r1 : 1 ≤ room
  r2 : room ≤ 256
  nm : ∀ t, t < 8 → ((L t).length : Int) ≤ room
/-- What has stayed. -/
structure Kept (S : Nat → Prop) (w w' : World) : Prop where
  os : w'.os = w.os
  tape : w'.tape = w.tape
  output : w'.output = w.output
  size : w.heap.size ≤ w'.heap.size
  block : ∀ b, b < w.heap.size → ¬ S b → w'.heap[b]? = w.heap[b]?
theorem Kept.of_below {S : Nat → Prop} {w w' : World} (g : Below w.heap.size w w') : Kept S w w' := ⟨g.os, g.tape, g.output, g.size, fun b hb _ => g.block b hb⟩
theorem Kept.trans {S S' : Nat → Prop} {w a b : World} (h : Kept S w a) (g : Kept S' a b) (hs : ∀ k, S' k → S k ∨ w.heap.size ≤ k) : Kept S w b :=
  ⟨g.os.trans h.os, g.tape.trans h.tape, g.output.trans h.output, Nat.le_trans h.size g.size, fun k hk hn => (g.block k (Nat.lt_of_lt_of_le hk h.size) (fun h' => by
    rcases hs k h' with h2 | h2
    · exact hn h2
    · omega)).trans (h.block k hk hn)⟩
theorem Kept.below {S : Nat → Prop} {w w' : World} {B : Nat} (h : Kept S w w') (hB : B ≤ w.heap.size) (hs : ∀ k, S k → B ≤ k) : Below B w w' :=
  ⟨h.os, h.tape, h.output, h.size, fun k hk => h.block k (by omega) (fun h' => by have := hs k h'; omega)⟩
theorem FW.kept {S : Nat → Prop} {w w' : World} {x : Fe} (h : FW w x) (g : Kept S w w') (hs : ∀ b, InF x b → ¬ S b) : FW w' x := h.stay g.size (fun b hb hlt => g.block b hlt (hs b hb))
theorem Cd.kept {S : Nat → Prop} {w w' : World} (h : Cd w) (g : Kept S w w') (hs : ∀ b, S b → 2 ≤ b) : Cd w' := by
  have hp := h.pos
  have hb0 := g.block 0 (by omega) (fun h' => by have := hs _ h'; omega)
  have hb1 := g.block 1 hp (fun h' => by have := hs _ h'; omega)
  obtain ⟨⟨t, fr, h0⟩, ⟨t1, fr1, h1⟩⟩ := h
  exact ⟨⟨t, fr, hb0.trans h0⟩, ⟨t1, fr1, hb1.trans h1⟩⟩
theorem Fl.below {w w' : World} {f : Nat} {S : Nat → Prop} {room : Int} {V : Nat → Value} {L : Nat → List Fe} (h : Fl w f S room V L) (hz : w.heap.size ≤ w'.heap.size) (g : ∀ b, S b → w'.heap[b]? = w.heap[b]?) : Fl w' f S room V L := by
  have hc : ∀ o, w'.cell? ⟨f, o, none⟩ = w.cell? ⟨f, o, none⟩ := fun o => World.cell?_of_block (w := w) (g f h.sf)
  have hf : ∀ o, w'.frozen? ⟨f, o, none⟩ = w.frozen? ⟨f, o, none⟩ := fun o => World.frozen?_of_block (w := w) (g f h.sf)
  refine ⟨(hc _).trans h.rm, fun t ht => (hc _).trans (h.cv t ht), fun t => (hf _).trans (h.fz t), ?_, h.sf, h.sr, h.ap, ?_, fun b hb => Nat.lt_of_lt_of_le (h.lt b hb) hz, h.lo, h.r1, h.r2, h.nm⟩
  · intro t ht
    have hr := h.row t ht
    refine ⟨hr.1, ?_⟩
    rcases hr.2 with hn | ⟨g', cap, cur, hv, hb, hgg, rest⟩
    · exact .inl hn
    · exact .inr ⟨g', cap, cur, hv, hb, (g g' (h.sr t ht g' (by rw [hv]; rfl)).1).trans hgg, rest⟩
  · intro t ht x hx
    obtain ⟨h1, h2⟩ := h.en t ht x hx
    exact ⟨h1.stay hz (fun b hb _ => g b (h2 b hb).1), h2⟩
/-- Tables, and what their entries are. -/
def Fs (w : World) (f : Nat) (S : Nat → Prop) (room : Int) (P : Nat → List Fp) : Prop := ∃ V L, Fl w f S room V L ∧ ∀ t, t < 8 → (L t).map Fe.p = P t
theorem Fs.below {w w' : World} {f : Nat} {S : Nat → Prop} {room : Int} {P : Nat → List Fp} (h : Fs w f S room P) (g : Below w.heap.size w w') : Fs w' f S room P := by
  obtain ⟨V, L, h, hp⟩ := h
  exact ⟨V, L, h.below g.size (fun b hb => g.block b (h.lt b hb)), hp⟩
theorem Fs.lt {w : World} {f : Nat} {S : Nat → Prop} {room : Int} {P : Nat → List Fp} (h : Fs w f S room P) : ∀ b, S b → b < w.heap.size := by
  obtain ⟨V, L, h, _⟩ := h
  exact h.lt
theorem Fs.lo {w : World} {f : Nat} {S : Nat → Prop} {room : Int} {P : Nat → List Fp} (h : Fs w f S room P) : ∀ b, S b → 2 ≤ b := by
  obtain ⟨V, L, h, _⟩ := h
  exact h.lo
/-- Kept by another one's calls. -/
theorem Fs.kept {w w' : World} {f : Nat} {S T : Nat → Prop} {room : Int} {P : Nat → List Fp} (h : Fs w f S room P) (g : Kept T w w') (hd : ∀ b, S b → ¬ T b) : Fs w' f S room P := by
  obtain ⟨V, L, h, hp⟩ := h
  exact ⟨V, L, h.below g.size (fun b hb => g.block b (h.lt b hb) (hd b hb)), hp⟩
set_option maxHeartbeats 2000000 in
theorem new_no (room : Int) (w : World) (h : room < 1 ∨ 256 < room) : Calls Tryz.prog 4 #[.int .i64 room] w fun e w' => e = .returned (.tuple #[.pointer none, .int .i64 1]) ∧ w' = w := by
  rcases h with h | h
  · go_enter Tryz.func4, Tryz.ntmps4
    go_wp2
    go_ret2
    exact ⟨rfl, rfl⟩
  · have h1 : ¬ room < 1 := by omega
    go_enter Tryz.func4, Tryz.ntmps4
    go_wp2
    go_ret2
    exact ⟨rfl, rfl⟩
set_option maxHeartbeats 2000000 in
theorem new_yes (room : Int) (w : World) (h1 : 1 ≤ room) (h2 : room ≤ 256) (hd : Cd w) : Calls Tryz.prog 4 #[.int .i64 room] w fun e w' => e = .returned (.tuple #[.pointer (some ⟨w.heap.size, 0, none⟩), .int .i64 0]) ∧ Fs w' w.heap.size (fun b => b = w.heap.size) room (fun _ => []) ∧ Below w.heap.size w w' := by
  have hp := hd.pos
  go_enter Tryz.func4, Tryz.ntmps4
  go_wp2
  go_ret2
  refine ⟨rfl, ⟨fun _ => .slice none 0 0, fun _ => [], ⟨by simp, ?_, by simp, fun t _ => World.ownsRow_nil _ _ _ _, rfl, fun t _ g hg => by simp [Value.ownBlock] at hg, fun t u _ _ _ g hg => by simp [Value.ownBlock] at hg, fun t _ x hx => by simp at hx, fun b hb => by rw [hb]; simp, fun b hb => by rw [hb]; omega, h1, h2, fun t _ => by simp; omega⟩, fun t _ => rfl⟩, by go_grown⟩
  intro t ht
  have : t = 0 ∨ t = 1 ∨ t = 2 ∨ t = 3 ∨ t = 4 ∨ t = 5 ∨ t = 6 ∨ t = 7 := by omega
  rcases this with rfl | rfl | rfl | rfl | rfl | rfl | rfl | rfl <;> simp
set_option maxHeartbeats 2000000 in
theorem entries_nil (t : Int) (w : World) : Calls Tryz.prog 26 #[.pointer none, .int .i64 t] w fun e w' => e = .returned (.slice none 0 0) ∧ w' = w := by
  go_enter Tryz.func26, Tryz.ntmps26
  go_wp2
  go_ret
  exact ⟨rfl, rfl⟩
set_option maxHeartbeats 2000000 in
theorem entries_out (f : Nat) (t : Int) (w : World) (h : t < 0 ∨ 8 ≤ t) : Calls Tryz.prog 26 #[.pointer (some ⟨f, 0, none⟩), .int .i64 t] w fun e w' => e = .returned (.slice none 0 0) ∧ w' = w := by
  rcases h with h | h
  · go_enter Tryz.func26, Tryz.ntmps26
    go_wp2
    go_ret
    exact ⟨rfl, rfl⟩
  · have h1 : ¬ t < 0 := by omega
    go_enter Tryz.func26, Tryz.ntmps26
    go_wp2
    go_ret
    exact ⟨rfl, rfl⟩
set_option maxHeartbeats 2000000 in
theorem entries_in (f : Nat) (t : Nat) (v : Value) (w : World) (h : t < 8) (a : Option Addr) (n c : Nat) (hv : w.cell? ⟨f, 1 + t, none⟩ = some (.slice a n c)) : Calls Tryz.prog 26 #[.pointer (some ⟨f, 0, none⟩), .int .i64 t] w fun e w' => e = .returned (.slice a n c) ∧ w' = w := by
  have h1 : ¬ ((t : Int) < 0) := by omega
  have h2 : ¬ (8 ≤ (t : Int)) := by omega
  go_enter Tryz.func26, Tryz.ntmps26
  go_wp2
  go_ret
  exact ⟨rfl, rfl⟩
set_option maxHeartbeats 2000000 in
theorem wrong_nil (x : Fe) (w : World) : Calls Tryz.prog 32 #[.pointer none, feV x] w fun e w' => e = .returned (.int .i64 2) ∧ Below w.heap.size w w' := by
  go_enter Tryz.func32, Tryz.ntmps32
  go_wp2
  go_ret
  exact ⟨rfl, by go_grown⟩
set_option maxHeartbeats 4000000 in
theorem wrong_any (f : Nat) (x : Fe) (w : World) (hx : FW w x) (hd : Cd w) : Calls Tryz.prog 32 #[.pointer (some ⟨f, 0, none⟩), feV x] w fun e w' => e = .returned (.int .i64 (wrongE x.p)) ∧ Below w.heap.size w w' := by
  have g0 : Below w.heap.size w (fx w x) := by go_grown
  have HI : Hid (Calls Tryz.prog 51 #[feV x] (fx w x) fun e w' => e = .returned (.int .i64 (rightX x.p.sp)) ∧ Below (fx w x).heap.size (fx w x) w') := (show Calls _ _ _ _ _ from by
    have := rightX_any x.en (fx w x) (hx.below g0).ew (hd.below g0)
    rwa [fe_en, en_sp] at this)
  have HM : Hid (∀ w1, Below w.heap.size w w1 → Calls Tryz.prog 52 #[.slice x.ta x.p.lt.length x.tc] w1 fun e w' => e = .returned (.int .i64 (Mt.rightE x.p.lt)) ∧ Below w1.heap.size w1 w') := (show ∀ w1, _ from fun w1 g => Mt.right_any _ _ _ w1 (hx.t.below g) (by have := hx.nt; omega) hx.ct)
  have HX : Hid (Be (fx w x) w.heap.size 0 x) := Be.new w x
  have HR : Hid (wrongE x.p = if rightX x.p.sp ≠ 0 then rightX x.p.sp else if Mt.rightE x.p.lt ≠ 0 then Mt.rightE x.p.lt else if priB x.p.pri = true then 1 else 0) := (show _ = _ from rfl)
  clear hx hd
  generalize rightX x.p.sp = E1 at *
  generalize Mt.rightE x.p.lt = E2 at *
  by_cases h1 : E1 = 0
  · have b1 : (E1 != 0) = false := by simp [h1]
    by_cases h2 : E2 = 0
    · have b2 : (E2 != 0) = false := by simp [h2]
      have HR2 : Hid (wrongE x.p = if priB x.p.pri = true then 1 else 0) := (show _ = _ by rw [HR.out, if_neg (by simpa using h1), if_neg (by simpa using h2)])
      clear HR h1 h2
      by_cases hp1 : x.p.pri < 0
      · have HR3 : Hid (wrongE x.p = 1) := (show _ = _ by rw [HR2.out, if_pos (by simp [priB, hp1])])
        clear HR2
        go_enter Tryz.func32, Tryz.ntmps32
        go_wp2_with (refine load_E rfl (.tmp 3) rfl w.heap.size 0 x rfl HX.out ?_)
        refine HI.out.mono ?_
        rintro e w1 ⟨rfl, g1⟩
        have G1 := btr g0 g1 (Nat.le_refl _)
        obtain ⟨_, c1, c2, _⟩ := (HX.out.below (by simp) g1).cs
        go_wp2_with fail
        refine (HM.out w1 G1).mono ?_
        rintro e w2 ⟨rfl, g2⟩
        have z1 := g1.size
        simp at z1
        have c1' : w2.cell? ⟨w.heap.size, 1, none⟩ = some (.int .i64 x.p.pri) := (g2.cell (p := ⟨w.heap.size, 1, none⟩) (by show w.heap.size < w1.heap.size; omega)).trans c1
        go_wp2_with fail
        go_ret
        exact ⟨by rw [HR3.out]; rfl, btr G1 g2 (Nat.le_refl _)⟩
      · have hc : (65535 < x.p.pri ∧ wrongE x.p = 1) ∨ (¬ 65535 < x.p.pri ∧ wrongE x.p = 0) := by
          rw [HR2.out]
          by_cases hp2 : 65535 < x.p.pri
          · exact .inl ⟨hp2, if_pos (by simp [priB, hp2])⟩
          · exact .inr ⟨hp2, if_neg (by unfold priB; rw [decide_eq_false hp1, decide_eq_false hp2]; decide)⟩
        rcases hc with ⟨hp2, h3⟩ | ⟨hp2, h3⟩
        all_goals
          have HR3 : Hid _ := h3
          clear h3
          clear HR2
          go_enter Tryz.func32, Tryz.ntmps32
          go_wp2_with (refine load_E rfl (.tmp 3) rfl w.heap.size 0 x rfl HX.out ?_)
          refine HI.out.mono ?_
          rintro e w1 ⟨rfl, g1⟩
          have G1 := btr g0 g1 (Nat.le_refl _)
          obtain ⟨_, c1, c2, _⟩ := (HX.out.below (by simp) g1).cs
          go_wp2_with fail
          refine (HM.out w1 G1).mono ?_
          rintro e w2 ⟨rfl, g2⟩
          have z1 := g1.size
          simp at z1
          have c1' : w2.cell? ⟨w.heap.size, 1, none⟩ = some (.int .i64 x.p.pri) := (g2.cell (p := ⟨w.heap.size, 1, none⟩) (by show w.heap.size < w1.heap.size; omega)).trans c1
          go_wp2_with fail
          go_ret
          exact ⟨by rw [HR3.out]; rfl, btr G1 g2 (Nat.le_refl _)⟩
    · have b2 : (E2 != 0) = true := by simp [h2]
      have HR3 : Hid (wrongE x.p = E2) := (show _ = _ by rw [HR.out, if_neg (by simpa using h1), if_pos h2])
      clear HR h1 h2
      go_enter Tryz.func32, Tryz.ntmps32
      go_wp2_with (refine load_E rfl (.tmp 3) rfl w.heap.size 0 x rfl HX.out ?_)
      refine HI.out.mono ?_
      rintro e w1 ⟨rfl, g1⟩
      have G1 := btr g0 g1 (Nat.le_refl _)
      obtain ⟨_, c1, c2, _⟩ := (HX.out.below (by simp) g1).cs
      go_wp2_with fail
      refine (HM.out w1 G1).mono ?_
      rintro e w2 ⟨rfl, g2⟩
      go_wp2_with fail
      go_ret
      exact ⟨by rw [HR3.out]; rfl, btr G1 g2 (Nat.le_refl _)⟩
  · have b1 : (E1 != 0) = true := by simp [h1]
    have HR3 : Hid (wrongE x.p = E1) := (show _ = _ by rw [HR.out, if_pos h1])
    clear HR h1
    go_enter Tryz.func32, Tryz.ntmps32
    go_wp2_with (refine load_E rfl (.tmp 3) rfl w.heap.size 0 x rfl HX.out ?_)
    refine HI.out.mono ?_
    rintro e w1 ⟨rfl, g1⟩
    go_wp2_with fail
    go_ret
    exact ⟨by rw [HR3.out]; rfl, btr g0 g1 (Nat.le_refl _)⟩
end Go.Proofs.YtjjfhibkcngphaaGreatDoor
/-
  What List and Look answer, as contracts.
-/
namespace Go.Proofs.YtjjfhibkcngphaaGreatDoor
open Go.ChangeShapes Go.WideShapes Go.ChangeAt Go.RowKit
set_option linter.unusedVariables false
set_option linter.unusedSimpArgs false

/-- Entries in blocks that were made. -/
structure Made (base : Nat) (w : World) (v : Value) (l : List Fe) : Prop where
  own : OwnE base w v l
  fw : ∀ x ∈ l, FW w x
  inn : ∀ x ∈ l, ∀ b, InF x b → base ≤ b ∧ v.ownBlock ≠ some b
theorem Made.below {base : Nat} {w w' : World} {v : Value} {l : List Fe} (h : Made base w v l) (g : Below w.heap.size w w') : Made base w' v l := ⟨ownE_below h.own g, fun x hx => (h.fw x hx).below g, h.inn⟩
theorem Made.nil (base : Nat) (w : World) : Made base w (.slice none 0 0) [] := ⟨World.ownsRow_nil _ _ _ _, fun x hx => (by cases hx), fun x hx => (by cases hx)⟩
/-- One more. -/
theorem Made.snoc {base : Nat} {w w' : World} {v : Value} {l : List Fe} {y : Fe} {g cap : Nat} (h : Made base w v l) (hy : FW w y) (hi : ∀ b, InF y b → base ≤ b) (hv : ∀ b, InF y b → v.ownBlock ≠ some b)
    (hown : w'.ownsRow base 40 10 (.slice (some ⟨g, 0, none⟩) (l.length + 1) cap) (l.length + 1) (flatE l ++ flatE [y])) (hg : w.grownBy w' v.ownBlock) (hat : v.ownBlock = some g ∨ g = w.heap.size) : Made base w' (.slice (some ⟨g, 0, none⟩) (l.length + 1) cap) (l ++ [y]) := by
  refine ⟨?_, ?_, ?_⟩
  · unfold OwnE
    rw [List.length_append, flatE_append]
    exact hown
  · intro x hx
    rcases List.mem_append.1 hx with hx | hx
    · exact (h.fw x hx).stay hg.size (fun b hb hlt => hg.block b hlt (fun e => (h.inn x hx b hb).2 e.symm))
    · have e : x = y := by simpa using hx
      subst e
      exact hy.stay hg.size (fun b hb hlt => hg.block b hlt (fun e => hv b hb e.symm))
  · intro x hx b hb
    rcases List.mem_append.1 hx with hx | hx
    · refine ⟨(h.inn x hx b hb).1, ?_⟩
      rcases hat with e | e
      · show some g ≠ some b; rw [← e]; exact (h.inn x hx b hb).2
      · show some g ≠ some b
        have := (h.fw x hx).lt hb
        simp; omega
    · have e : x = y := by simpa using hx
      subst e
      refine ⟨hi b hb, ?_⟩
      rcases hat with e | e
      · show some g ≠ some b; rw [← e]; exact hv b hb
      · show some g ≠ some b
        have := hy.lt hb
        simp; omega
theorem news_one {w : World} {b : Nat} {y : Fe} (h : w.heap[b]? = some (.cells (feC y) 40 (0, 0))) : ∀ j u, (flatE [y])[j]? = some u → w.cell? ((⟨b, 0, none⟩ : Addr).add j) = some u := fun j u hj => by
  rw [addP, Nat.zero_add, cell_of_row w b j (feC y) _ (0, 0) h]
  simpa [flatE] using hj
set_option maxHeartbeats 8000000 in
theorem list_of (p : Option Addr) (t : Int) (v : Value) (l : List Fe) (w : World) (hE : Calls Tryz.prog 26 #[.pointer p, .int .i64 t] w fun e w' => e = .returned v ∧ w' = w) (hO : OwnE 0 w v l) (hl : l.length ≤ 300) (hw : ∀ x ∈ l, FW w x) :
    Calls Tryz.prog 13 #[.pointer p, .int .i64 t] w fun e w' => ∃ v' l', e = .returned v' ∧ Made w.heap.size w' v' l' ∧ l'.map Fe.p = l.map Fe.p ∧ Below w.heap.size w w' := by
  obtain ⟨i0, hi, hz0, hz1, hz2⟩ := info_parts infoFe
  obtain ⟨a, cap, rfl, hform⟩ := OwnE.form2 hO
  have HE : Hid (Calls Tryz.prog 26 #[.pointer p, .int .i64 t] w fun e w' => e = .returned (.slice a l.length cap) ∧ w' = w) := hE
  have HO : Hid (OwnE 0 w (.slice a l.length cap) l) := hO
  have HW : Hid (∀ x ∈ l, FW w x) := hw
  have HF : Hid (a = none ∧ l = [] ∧ cap = 0 ∨ ∃ g, a = some ⟨g, 0, none⟩ ∧ 0 ≤ g ∧ g < w.heap.size ∧ l.length ≤ cap ∧ cap ≤ maxLen) := hform
  clear hE hO hw hform
  go_enter Tryz.func13, Tryz.ntmps13
  go_wp2_with fail
  refine HE.out.mono ?_
  rintro e w1 ⟨rfl, h1⟩
  obtain rfl : w = w1 := h1.symm
  go_wp2_with fail
  go_loopw [5, 7, 12] (fun s5 _ i wr => ∃ (k : Nat) (v : Value) (m : List Fe), k ≤ l.length ∧ v = s5 ∧ i = .int .i64 k ∧ Hid (m.map Fe.p = (l.take k).map Fe.p) ∧ Hid (Made w.heap.size wr v m) ∧ Below w.heap.size w wr) (fun _ _ i _ => l.length - (intOf i).toNat)
  case atStart => exact ⟨0, _, [], Nat.zero_le _, rfl, rfl, (show _ = _ by simp), Made.nil _ _, Below.refl _ _⟩
  case round =>
    obtain ⟨k, v, m, hk, rfl, rfl, HP, HM, hbel⟩ := hrel
    have hml : m.length = k := by
      have := congrArg List.length HP.out
      simpa [Nat.min_eq_left hk] using this
    by_cases hlt : k < l.length
    · obtain ⟨gb, rfl, _, hgb, hnc, _⟩ : ∃ g, a = some ⟨g, 0, none⟩ ∧ 0 ≤ g ∧ g < w.heap.size ∧ l.length ≤ cap ∧ cap ≤ maxLen := by
        rcases HF.out with ⟨_, h, _⟩ | h
        · subst h; cases hlt
        · exact h
      have HB : Hid (Be wr gb (k * 10) l[k]) := (OwnE.be rfl HO.out k hlt).below hgb hbel
      have HL : Hid (Below w.heap.size w wr) := hbel
      have HP2 : Hid (∀ y : Fe, y.p = l[k].p → (m ++ [y]).map Fe.p = (l.take (k + 1)).map Fe.p) := (show ∀ y, _ from fun y hy => by
        rw [List.take_succ_eq_append_getElem hlt, List.map_append, List.map_append, HP.out]
        simp [hy])
      clear hbel
      go_wp2_with (first
        | (refine load_E rfl (.tmp 14) rfl gb (k * 10) l[k] (by simp [Act.eval, Act.put]) HB.out ?_)
        | (refine store_E rfl (.tmp 7) (.tmp 15) rfl wr.heap.size 0 l[k] rfl rfl (there_new wr zeroE 40) ?_; intro V hV bV tV oV; clear hV; have HBV : Hid (Be V wr.heap.size 0 l[k]) := bV; have HOV : Hid (Only wr.heap.size (wr.alloc (.cells zeroE 40)) V) := oV; have zV : V.heap.size = wr.heap.size + 1 := (by rw [oV.size]; simp); clear bV tV oV)
        | (refine load_E rfl (.tmp 7) rfl wr.heap.size 0 l[k] rfl HBV.out ?_))
      have gV : Below wr.heap.size wr V := HOV.out.below (Nat.le_refl _) (by go_grown)
      have HGV : Hid (Below w.heap.size w V) := btr HL.out gV (Nat.le_refl _)
      have HMV : Hid (Made w.heap.size V v m) := HM.out.below gV
      clear gV
      refine (copyOf_any l[k] V ((HW.out _ (List.getElem_mem _)).below HGV.out)).mono ?_
      rintro e w2 ⟨y, rfl, hyp, hyw, hyi, g2⟩
      have HY : Hid (y.p = l[k].p ∧ FW w2 y ∧ (∀ b, InF y b → V.heap.size ≤ b) ∧ Below V.heap.size V w2) := (show _ ∧ _ from ⟨hyp, hyw, hyi, g2⟩)
      have hmv := HMV.out.below g2
      have hnb : (w2.alloc (.cells (feC y) 40)).heap[w2.heap.size]? = some (.cells (feC y) 40 (0, 0)) := heap_alloc_new w2 _
      obtain ⟨W3, hW3⟩ : ∃ W3, w2.alloc (.cells (feC y) 40) = W3 := ⟨_, rfl⟩
      have z2 := g2.size
      have g3 : Below w2.heap.size w2 W3 := by rw [← hW3]; go_grown
      have HM3 : Hid (Made w.heap.size W3 v m) := hmv.below g3
      rw [hW3] at hnb
      have HN : Hid (W3.heap[w2.heap.size]? = some (.cells (feC y) 40 (0, 0))) := hnb
      have HG3 : Hid (Below w.heap.size w W3) := btr (btr HGV.out g2 (by have := HL.out.size; omega)) g3 (by have := HL.out.size; omega)
      have HF3 : Hid (FW W3 y) := hyw.below g3
      have zl := HL.out.size
      have z3 : W3.heap.size = w2.heap.size + 1 := by rw [← hW3]; simp
      clear hmv hnb g3 hyp hyw hyi g2
      go_wp2_with (at_builtin; refine wpList_append_lies W3 rfl (.tmp 16) (.tmp 19) 47 rfl w.heap.size 40 i0 zeroV 10 128 Tryz.underlying47 hi hz0 hz1 hz2 rfl (by decide) v m.length (flatE m) rfl HM3.out.own ⟨w2.heap.size, 0, none⟩ 1 1 (flatE [y]) rfl rfl (news_one HN.out) (flatE_one _) (by decide) (by unfold maxLen; omega) (by omega) (by omega) _ rfl ?_; intro g4 cap4 w4 hown hgrow hat hlt4; have HM4 : Hid (Made w.heap.size w4 (.slice (some ⟨g4, 0, none⟩) (m.length + 1) cap4) (m ++ [y])) := HM3.out.snoc HF3.out (fun b hb => by have := HY.out.2.2.1 b hb; omega) (fun b hb e => by have := HY.out.2.2.1 b hb; have := (HMV.out.own.lt b e).2; omega) hown hgrow hat; have HG4 : Hid (Below w.heap.size w w4) := HG3.out.grown hgrow (by omega) (fun k hk => (HM3.out.own.lt k hk).1); clear hown hgrow hat hlt4)
      go_roundw
      case rel => exact ⟨k + 1, _, m ++ [y], by omega, rfl, by go_num, HP2.out y HY.out.1, (by have h := HM4; rw [hml] at h; exact h), HG4.out⟩
      case measure => simp [intOf]; omega
    · have hk' : k = l.length := by omega
      subst hk'
      have HR : Hid (m.map Fe.p = l.map Fe.p) := (show _ = _ by rw [HP.out, List.take_length])
      go_wp2
      go_ret
      exact ⟨v, m, rfl, HM.out, HR.out, hbel⟩
/-- A table's entries, by any number. -/
def tabOf (P : Nat → List Fp) (t : Int) : List Fp := if 0 ≤ t ∧ t < 8 then P t.toNat else []
theorem list_nil (t : Int) (w : World) : Calls Tryz.prog 13 #[.pointer none, .int .i64 t] w fun e w' => ∃ v' l', e = .returned v' ∧ Made w.heap.size w' v' l' ∧ l'.map Fe.p = [] ∧ Below w.heap.size w w' :=
  list_of none t (.slice none 0 0) [] w (entries_nil t w) (World.ownsRow_nil _ _ _ _) (by simp) (fun x hx => by cases hx)
theorem list_any (f : Nat) (S : Nat → Prop) (room : Int) (P : Nat → List Fp) (t : Int) (w : World) (h : Fs w f S room P) : Calls Tryz.prog 13 #[.pointer (some ⟨f, 0, none⟩), .int .i64 t] w fun e w' => ∃ v' l', e = .returned v' ∧ Made w.heap.size w' v' l' ∧ l'.map Fe.p = tabOf P t ∧ Below w.heap.size w w' := by
  obtain ⟨V, L, h, hp⟩ := h
  unfold tabOf
  by_cases ht : 0 ≤ t ∧ t < 8
  · rw [if_pos ht]
    obtain ⟨k, rfl⟩ := Int.eq_ofNat_of_zero_le ht.1
    have hk : k < 8 := by omega
    rw [Int.toNat_natCast, ← hp k hk]
    obtain ⟨a, cap, hv, _⟩ := OwnE.form2 (h.row k hk)
    refine list_of _ _ (V k) (L k) w ?_ (h.row k hk) (by have := h.nm k hk; have := h.r2; omega) (fun x hx => (h.en k hk x hx).1)
    have := h.cv k hk
    rw [hv] at this ⊢
    exact entries_in f k (V k) w hk _ _ _ this
  · rw [if_neg ht]
    exact list_of _ t (.slice none 0 0) [] w (entries_out f t w (by omega)) (World.ownsRow_nil _ _ _ _) (by simp) (fun x hx => by cases hx)
/-- The first entry that takes a packet. -/
def lookP (l : List Fp) (s : Mt.Sn) : Option Fp := l.find? fun x => Mt.takesB x.lt s
def fp0 : Fp := ⟨0, 0, [], [], [], false, 0, 0, 0, 0⟩
def fe0 : Fe := ⟨fp0, none, 0, none, 0, none, 0⟩
theorem fe0_w (w : World) : FW w fe0 := ⟨.inl rfl, .inl rfl, .inl rfl, by simp [fe0, fp0], by simp [fe0, fp0], by simp [fe0, fp0], by simp [fe0, fp0]⟩
theorem lookP_at {l : List Fe} {s : Mt.Sn} {k : Nat} (hk : k < l.length) (h0 : ∀ j (hj : j < l.length), j < k → Mt.takesB l[j].p.lt s = false) (h1 : Mt.takesB l[k].p.lt s = true) : lookP (l.map Fe.p) s = some l[k].p := by
  unfold lookP
  rw [List.find?_eq_some_iff_getElem]
  refine ⟨h1, k, by simpa using hk, by simp, fun j hj => ?_⟩
  rw [List.getElem_map, h0 j (by omega) hj]
  rfl
theorem lookP_none {l : List Fe} {s : Mt.Sn} (h0 : ∀ j (hj : j < l.length), Mt.takesB l[j].p.lt s = false) : lookP (l.map Fe.p) s = none := by
  unfold lookP
  rw [List.find?_eq_none]
  intro x hx
  obtain ⟨y, hy, rfl⟩ := List.mem_map.1 hx
  obtain ⟨j, hj, rfl⟩ := List.mem_iff_getElem.1 hy
  rw [h0 j hj]
  decide
theorem infoS (s : Mt.Sn) : (Tryz.prog.info? 28).map (·.size) = some (Mt.snC s).toList.length := by kernel_rfl
theorem load_S {ops : Array Oper} {rest : List Oper} {op : Oper} {a : Go.Act} {w : World} {Q : Exit → Go.Act → World → Prop} (hw : Region.wanted op (yielded ops a.tmps) = true) (t : Operand) (ho : op.op = .load 28 t)
    (b : Nat) (s : Mt.Sn) (hx : a.eval t = .pointer (some ⟨b, 0, none⟩)) (hB : w.rangeAt b 0 (Mt.snC s).toList)
    (h : wpList Tryz.prog ops Q rest (a.put op.dst (Mt.snV s)) w) : wpList Tryz.prog ops Q (op :: rest) a w :=
  BigFrame.wpList_want hw fun _ hK => wp_load_mid 28 t ho b 0 hx (Mt.snC s).toList _ hB Tryz.underlying28 rfl (infoS s) (hK _ _ h)
set_option maxHeartbeats 8000000 in
theorem look_of (p : Option Addr) (t : Int) (s : Mt.Sn) (v : Value) (l : List Fe) (w : World) (hs : Mt.Wf s) (hE : ∀ w1, Below w.heap.size w w1 → Calls Tryz.prog 26 #[.pointer p, .int .i64 t] w1 fun e w' => e = .returned v ∧ w' = w1) (hO : OwnE 0 w v l) (hl : l.length ≤ 300) (hw : ∀ x ∈ l, FW w x) :
    Calls Tryz.prog 15 #[.pointer p, .int .i64 t, Mt.snV s] w fun e w' => ∃ y : Fe, e = .returned (.tuple #[feV y, .bool (lookP (l.map Fe.p) s).isSome]) ∧ y.p = (lookP (l.map Fe.p) s).getD fp0 ∧ FW w' y ∧ (∀ b, InF y b → w.heap.size ≤ b) ∧ Below w.heap.size w w' := by
  obtain ⟨a, cap, rfl, hform⟩ := OwnE.form2 hO
  have HE : Hid (∀ w1, Below w.heap.size w w1 → Calls Tryz.prog 26 #[.pointer p, .int .i64 t] w1 fun e w' => e = .returned (.slice a l.length cap) ∧ w' = w1) := hE
  have HO : Hid (OwnE 0 w (.slice a l.length cap) l) := hO
  have HW : Hid (∀ x ∈ l, FW w x) := hw
  have HF : Hid (a = none ∧ l = [] ∧ cap = 0 ∨ ∃ g, a = some ⟨g, 0, none⟩ ∧ 0 ≤ g ∧ g < w.heap.size ∧ l.length ≤ cap ∧ cap ≤ maxLen) := hform
  have HT : Hid (∀ (x : Fe) w1, FW w1 x → Calls Tryz.prog 28 #[.slice x.ta x.p.lt.length x.tc, Mt.snV s] w1 fun e w' => e = .returned (.bool (Mt.takesB x.p.lt s)) ∧ Below w1.heap.size w1 w') := (show ∀ x w1, _ from fun x w1 h => Mt.takes_any _ _ _ s w1 h.t (by have := h.nt; omega) hs)
  clear hE hO hw hform hs
  obtain ⟨W2, hW2⟩ : ∃ W2, (Mt.bx w s).alloc (.cells zeroE 40) = W2 := ⟨_, rfl⟩
  have z2 : W2.heap.size = w.heap.size + 2 := by rw [← hW2]; simp
  have HG2 : Hid (Below w.heap.size w W2) := (show Below _ _ _ by rw [← hW2]; go_grown)
  have HS2 : Hid (W2.rangeAt w.heap.size 0 (Mt.snC s).toList) := (show World.rangeAt _ _ _ _ by
    rw [← hW2]
    have h1 := range_new w (Mt.snC s) 28
    exact range_block h1 (heap_alloc_old _ _ (by simp)))
  have HY2 : Hid (W2.there (w.heap.size + 1) 0 10) := (show World.there _ _ _ _ by rw [← hW2]; have := there_new (Mt.bx w s) zeroE 40; simpa using this)
  go_enter Tryz.func15, Tryz.ntmps15
  go_wp2_with fail
  refine (HE.out W2 HG2.out).mono ?_
  rintro e w1 ⟨rfl, h1⟩
  obtain rfl : W2 = w1 := h1.symm
  go_wp2_with fail
  go_loopw [9, 14] (fun _ i wr => ∃ (k : Nat), k ≤ l.length ∧ i = .int .i64 k ∧ Hid (∀ j (hj : j < l.length), j < k → Mt.takesB l[j].p.lt s = false) ∧ Below (w.heap.size + 2) W2 wr) (fun _ i _ => l.length - (intOf i).toNat)
  case atStart => exact ⟨0, Nat.zero_le _, rfl, (show ∀ j, _ from fun j _ hj => absurd hj (Nat.not_lt_zero _)), Below.refl _ _⟩
  case round =>
    obtain ⟨k, hk, rfl, HN, hbel⟩ := hrel
    have HL : Hid (Below (w.heap.size + 2) W2 wr) := hbel
    have zr := hbel.size
    have HGr : Hid (Below w.heap.size w wr) := HG2.out.trans (hbel.mono (by omega))
    clear hbel
    by_cases hlt : k < l.length
    · obtain ⟨gb, rfl, _, hgb, hnc, _⟩ : ∃ g, a = some ⟨g, 0, none⟩ ∧ 0 ≤ g ∧ g < w.heap.size ∧ l.length ≤ cap ∧ cap ≤ maxLen := by
        rcases HF.out with ⟨_, h, _⟩ | h
        · subst h; cases hlt
        · exact h
      have HB : Hid (Be wr gb (k * 10) l[k]) := (OwnE.be rfl HO.out k hlt).below hgb HGr.out
      go_wp2_with (first
        | (refine load_E rfl (.tmp 16) rfl gb (k * 10) l[k] (by simp [Act.eval, Act.put]) HB.out ?_)
        | (refine store_E rfl (.tmp 9) (.tmp 17) rfl wr.heap.size 0 l[k] rfl rfl (there_new wr zeroE 40) ?_; intro V hV bV tV oV; clear hV; have HBV : Hid (Be V wr.heap.size 0 l[k]) := bV; have HGV : Hid (Below wr.heap.size wr V) := oV.below (Nat.le_refl _) (show Below wr.heap.size wr (wr.alloc (.cells zeroE 40)) by go_grown); have zV : V.heap.size = wr.heap.size + 1 := (by rw [oV.size]; simp); have d2 := bV.cs.2.2.1; clear bV tV oV)
        | (refine load_S rfl (.tmp 5) rfl w.heap.size s rfl (range_block HS2.out ((HGV.out.block _ (by omega)).trans (HL.out.block _ (by omega)))) ?_))
      have hfw : FW V l[k] := (HW.out _ (List.getElem_mem _)).below (btr HGr.out HGV.out (Nat.le_refl _))
      refine (HT.out l[k] V hfw).mono ?_
      rintro e w2 ⟨rfl, g2⟩
      have HB2 : Hid (Be w2 wr.heap.size 0 l[k]) := HBV.out.below (by omega) g2
      have HG2' : Hid (Below (w.heap.size + 2) W2 w2) := btr (btr HL.out HGV.out (by omega)) g2 (by omega)
      have HF2 : Hid (FW w2 l[k]) := hfw.below g2
      have zw := g2.size
      clear g2 hfw d2
      cases hq : Mt.takesB l[k].p.lt s with
      | true =>
        have HR : Hid (lookP (l.map Fe.p) s = some l[k].p) := lookP_at hlt HN.out hq
        go_wp2_with (refine load_E rfl (.tmp 9) rfl wr.heap.size 0 l[k] rfl HB2.out ?_)
        refine (copyOf_any l[k] w2 HF2.out).mono ?_
        rintro e w3 ⟨y, rfl, hyp, hyw, hyi, g3⟩
        have HY : Hid (y.p = l[k].p ∧ FW w3 y ∧ (∀ b, InF y b → w2.heap.size ≤ b) ∧ Below w2.heap.size w2 w3) := (show _ ∧ _ from ⟨hyp, hyw, hyi, g3⟩)
        have HG3 : Hid (Below (w.heap.size + 2) W2 w3) := btr HG2'.out g3 (by omega)
        have z3 := g3.size
        clear hyp hyw hyi g3
        go_wp2_with (refine store_E rfl (.tmp 6) (.tmp 23) rfl (w.heap.size + 1) 0 y rfl rfl (there_below HY2.out (by omega) HG3.out) ?_; intro U hU bU tU oU; clear hU)
        refine bodyPost_ret (resFb (b := w.heap.size + 1) (x := y) rfl rfl bU) rfl ?_
        obtain ⟨y1, y2, y3, y4⟩ := HY.out
        refine ⟨y, by rw [HR.out]; rfl, by rw [HR.out]; exact y1, y2.stay (by rw [oU.size]; exact Nat.le_refl _) (fun b hb _ => oU.block b (by have := y3 b hb; omega)), fun b hb => by have := y3 b hb; omega, ?_⟩
        exact oU.below (by omega) (HG2.out.trans (HG3.out.mono (by omega)))
      | false =>
        have HN2 : Hid (∀ j (hj : j < l.length), j < k + 1 → Mt.takesB l[j].p.lt s = false) := (show ∀ j, _ from fun j hj h => by
          by_cases e : j = k
          · subst e; exact hq
          · exact HN.out j hj (by omega))
        go_wp2_with fail
        go_roundw
        case rel => exact ⟨k + 1, by omega, by go_num, HN2, HG2'.out⟩
        case measure => simp [intOf]; omega
    · have hk' : k = l.length := by omega
      subst hk'
      have HR : Hid (lookP (l.map Fe.p) s = none) := lookP_none (fun j hj => HN.out j hj hj)
      go_wp2_with (refine store_E rfl (.tmp 6) (.tmp 25) rfl (w.heap.size + 1) 0 fe0 rfl rfl (there_below HY2.out (by omega) HL.out) ?_; intro U hU bU tU oU; clear hU)
      refine bodyPost_ret (resFb (b := w.heap.size + 1) (x := fe0) rfl rfl bU) rfl ?_
      refine ⟨fe0, by rw [HR.out]; rfl, by rw [HR.out]; rfl, fe0_w _, fun b hb => ?_, oU.below (by omega) HGr.out⟩
      rcases hb with ⟨h, _⟩ | ⟨h, _⟩ | ⟨h, _⟩ <;> exact absurd rfl h
theorem look_nil (t : Int) (s : Mt.Sn) (hs : Mt.Wf s) (w : World) : Calls Tryz.prog 15 #[.pointer none, .int .i64 t, Mt.snV s] w fun e w' => ∃ y : Fe, e = .returned (.tuple #[feV y, .bool false]) ∧ y.p = fp0 ∧ FW w' y ∧ (∀ b, InF y b → w.heap.size ≤ b) ∧ Below w.heap.size w w' :=
  look_of none t s (.slice none 0 0) [] w hs (fun w1 _ => entries_nil t w1) (World.ownsRow_nil _ _ _ _) (by simp) (fun x hx => by cases hx)
theorem look_any (f : Nat) (S : Nat → Prop) (room : Int) (P : Nat → List Fp) (t : Int) (s : Mt.Sn) (hs : Mt.Wf s) (w : World) (h : Fs w f S room P) : Calls Tryz.prog 15 #[.pointer (some ⟨f, 0, none⟩), .int .i64 t, Mt.snV s] w fun e w' => ∃ y : Fe, e = .returned (.tuple #[feV y, .bool (lookP (tabOf P t) s).isSome]) ∧ y.p = (lookP (tabOf P t) s).getD fp0 ∧ FW w' y ∧ (∀ b, InF y b → w.heap.size ≤ b) ∧ Below w.heap.size w w' := by
  obtain ⟨V, L, h, hp⟩ := h
  unfold tabOf
  by_cases ht : 0 ≤ t ∧ t < 8
  · rw [if_pos ht]
    obtain ⟨k, rfl⟩ := Int.eq_ofNat_of_zero_le ht.1
    have hk : k < 8 := by omega
    rw [Int.toNat_natCast, ← hp k hk]
    obtain ⟨a, cap, hv, _⟩ := OwnE.form2 (h.row k hk)
    refine look_of _ _ s (V k) (L k) w hs ?_ (h.row k hk) (by have := h.nm k hk; have := h.r2; omega) (fun x hx => (h.en k hk x hx).1)
    intro w1 g
    have := (h.below g.size (fun b hb => g.block b (h.lt b hb))).cv k hk
    rw [hv] at this ⊢
    exact entries_in f k (V k) w1 hk _ _ _ this
  · rw [if_neg ht]
    exact look_of _ t s (.slice none 0 0) [] w hs (fun w1 _ => entries_out f t w1 (by omega)) (World.ownsRow_nil _ _ _ _) (by simp) (fun x hx => by cases hx)
end Go.Proofs.YtjjfhibkcngphaaGreatDoor
/-
  What Modify does, as a contract.
-/
namespace Go.Proofs.YtjjfhibkcngphaaGreatDoor
open Go.ChangeShapes Go.WideShapes Go.ChangeAt Go.RowKit
set_option linter.unusedVariables false
set_option linter.unusedSimpArgs false

/-- What the tables have behind a call. -/
def upd {α : Type} (P : Nat → α) (t : Nat) (l : α) : Nat → α := fun u => if u = t then l else P u
def chgE (x y : Fp) (s : Bool) : Fp := if meansB x y s = true then { x with pri := y.pri, lt := y.lt } else y
def modL (l : List Fp) (x : Fp) (s : Bool) : List Fp := l.map fun y => chgE x y s
def delL (l : List Fp) (x : Fp) (s : Bool) : List Fp := l.filter fun y => !meansB x y s
def modP (P : Nat → List Fp) (x : Fp) (s : Bool) : Nat → List Fp := if wrongE x = 0 then upd P x.tab.toNat (modL (P x.tab.toNat) x s) else P
def delP (P : Nat → List Fp) (x : Fp) (s : Bool) : Nat → List Fp := if wrongE x = 0 then upd P x.tab.toNat (delL (P x.tab.toNat) x s) else P
theorem upd_same {α : Type} (P : Nat → α) (t : Nat) (l : α) : upd P t l t = l := if_pos rfl
theorem upd_other {α : Type} (P : Nat → α) (t : Nat) (l : α) {u : Nat} (h : u ≠ t) : upd P t l u = P u := if_neg h
/-- The blocks behind a call. -/
def more (S : Nat → Prop) (w w' : World) : Nat → Prop := fun b => S b ∨ (w.heap.size ≤ b ∧ b < w'.heap.size)
theorem Fl.update {w w' : World} {f : Nat} {S : Nat → Prop} {room : Int} {V : Nat → Value} {L : Nat → List Fe} (h : Fl w f S room V L) {t : Nat} (ht : t < 8) {v' : Value} {m : List Fe} (hz : w.heap.size ≤ w'.heap.size)
    (hk : ∀ b, b < w.heap.size → b ≠ f → (V t).ownBlock ≠ some b → w'.heap[b]? = w.heap[b]?)
    (hf : ∀ o, o ≠ 1 + t → w'.cell? ⟨f, o, none⟩ = w.cell? ⟨f, o, none⟩) (hft : w'.cell? ⟨f, 1 + t, none⟩ = some v') (hff : ∀ o, w'.frozen? ⟨f, o, none⟩ = w.frozen? ⟨f, o, none⟩)
    (hown : OwnE 0 w' v' m) (hv : v'.ownBlock = (V t).ownBlock ∨ ∃ g, v'.ownBlock = some g ∧ w.heap.size ≤ g)
    (hm : ∀ x ∈ m, FW w' x ∧ ∀ b, InF x b → ((∃ y ∈ L t, InF y b) ∨ w.heap.size ≤ b) ∧ v'.ownBlock ≠ some b) (hn : (m.length : Int) ≤ room) :
    Fl w' f (more S w w') room (upd V t v') (upd L t m) := by
  have hfl : f < w.heap.size := h.lt f h.sf
  have hvl : ∀ u, u < 8 → ∀ g, (V u).ownBlock = some g → g < w.heap.size := fun u hu g hg => h.lt g (h.sr u hu g hg).1
  have hvn : ∀ g, v'.ownBlock = some g → more S w w' g ∧ g ≠ f := fun g hg => by
    rcases hv with e | ⟨g', e, hge⟩
    · have := h.sr t ht g (by rw [← e]; exact hg)
      exact ⟨.inl this.1, this.2⟩
    · have e2 : g = g' := by rw [hg] at e; exact Option.some.inj e
      subst e2
      exact ⟨.inr ⟨hge, (hown.lt g hg).2⟩, by omega⟩
  refine ⟨?_, ?_, fun o => (hff o).trans (h.fz o), ?_, .inl h.sf, ?_, ?_, ?_, ?_, ?_, h.r1, h.r2, ?_⟩
  · rw [hf 0 (by omega)]; exact h.rm
  · intro u hu
    by_cases e : u = t
    · subst e; rw [upd_same]; exact hft
    · rw [upd_other V t v' e, hf (1 + u) (by omega)]; exact h.cv u hu
  · intro u hu
    by_cases e : u = t
    · subst e; rw [upd_same, upd_same]; exact hown
    · rw [upd_other V t v' e, upd_other L t m e]
      have hr := h.row u hu
      refine ⟨hr.1, ?_⟩
      rcases hr.2 with hn | ⟨g', cap, cur, hvv, hb, hgg, rest⟩
      · exact .inl hn
      · have hgo : (V u).ownBlock = some g' := by rw [hvv]; rfl
        exact .inr ⟨g', cap, cur, hvv, hb, (hk g' (hvl u hu g' hgo) (h.sr u hu g' hgo).2 (h.ap u t hu ht e g' hgo)).trans hgg, rest⟩
  · intro u hu g hg
    by_cases e : u = t
    · subst e; rw [upd_same] at hg; exact hvn g hg
    · rw [upd_other V t v' e] at hg
      have := h.sr u hu g hg
      exact ⟨.inl this.1, this.2⟩
  · intro u1 u2 h1 h2 hne g hg
    by_cases e1 : u1 = t
    · subst e1
      rw [upd_same] at hg
      rw [upd_other V u1 v' (Ne.symm hne)]
      rcases hv with e | ⟨g', e, hge⟩
      · exact h.ap u1 u2 h1 h2 hne g (by rw [← e]; exact hg)
      · intro hg2
        have := hvl u2 h2 g hg2
        have e2 : g = g' := by rw [hg] at e; exact Option.some.inj e
        omega
    · rw [upd_other V t v' e1] at hg
      by_cases e2 : u2 = t
      · subst e2
        rw [upd_same]
        rcases hv with e | ⟨g', e, hge⟩
        · rw [e]; exact h.ap u1 u2 h1 h2 hne g hg
        · rw [e]
          intro hg2
          have := hvl u1 h1 g hg
          have e2 : g' = g := Option.some.inj hg2
          omega
      · rw [upd_other V t v' e2]; exact h.ap u1 u2 h1 h2 hne g hg
  · intro u hu x hx
    by_cases e : u = t
    · subst e
      rw [upd_same] at hx
      obtain ⟨x1, x2⟩ := hm x hx
      refine ⟨x1, fun b hb => ?_⟩
      obtain ⟨h1, h2⟩ := x2 b hb
      rcases h1 with ⟨y, hy, hyb⟩ | hfr
      · obtain ⟨s1, s2, s3⟩ := (h.en u hu y hy).2 b hyb
        refine ⟨.inl s1, s2, fun u2 hu2 => ?_⟩
        by_cases e2 : u2 = u
        · subst e2; rw [upd_same]; exact h2
        · rw [upd_other V u v' e2]; exact s3 u2 hu2
      · refine ⟨.inr ⟨hfr, x1.lt hb⟩, by omega, fun u2 hu2 => ?_⟩
        by_cases e2 : u2 = u
        · subst e2; rw [upd_same]; exact h2
        · rw [upd_other V u v' e2]
          intro hg2
          have := hvl u2 hu2 b hg2
          omega
    · rw [upd_other L t m e] at hx
      obtain ⟨x1, x2⟩ := h.en u hu x hx
      refine ⟨x1.stay hz (fun b hb hlt => hk b hlt (x2 b hb).2.1 ((x2 b hb).2.2 t ht)), fun b hb => ?_⟩
      obtain ⟨s1, s2, s3⟩ := x2 b hb
      refine ⟨.inl s1, s2, fun u2 hu2 => ?_⟩
      by_cases e2 : u2 = t
      · subst e2
        rw [upd_same]
        rcases hv with e' | ⟨g', e', hge⟩
        · rw [e']; exact s3 u2 hu2
        · rw [e']
          intro hg2
          have e3 : g' = b := Option.some.inj hg2
          have := h.lt b s1
          omega
      · rw [upd_other V t v' e2]; exact s3 u2 hu2
  · intro b hb
    rcases hb with hb | hb
    · exact Nat.lt_of_lt_of_le (h.lt b hb) hz
    · exact hb.2
  · intro b hb
    rcases hb with hb | hb
    · exact h.lo b hb
    · have := h.lo f h.sf; omega
  · intro u hu
    by_cases e : u = t
    · subst e; rw [upd_same]; exact hn
    · rw [upd_other L t m e]; exact h.nm u hu
theorem more_sub {S : Nat → Prop} {w w' : World} : ∀ b, more S w w' b → S b ∨ w.heap.size ≤ b := fun b hb => by
  rcases hb with hb | hb
  · exact .inl hb
  · exact .inr hb.1
/-- A round of Modify: the first k entries of the row do what x does, where it means them. -/
structure ModI (w1 : World) (g cap : Nat) (l : List Fe) (x : Fp) (s : Bool) (k : Nat) (wr : World) (m : List Fe) : Prop where
  len : m.length = l.length
  own : wr.ownsRow 0 40 10 (.slice (some ⟨g, 0, none⟩) l.length cap) l.length (flatE m)
  done : ∀ i (h : i < m.length) (h2 : i < l.length), i < k → m[i].p = chgE x l[i].p s ∧ FW wr m[i] ∧ ∀ b, InF m[i] b → InF l[i] b ∨ w1.heap.size ≤ b
  left : ∀ i (h : i < m.length) (h2 : i < l.length), k ≤ i → m[i] = l[i]
  gby : w1.grownBy wr (some g)
theorem ModI.step {w1 : World} {g cap : Nat} {l : List Fe} {x : Fp} {s : Bool} {k : Nat} {wr : World} {m : List Fe} (h : ModI w1 g cap l x s k wr m) (hk : k < l.length) (hg : g < w1.heap.size) (hng : ∀ y ∈ l, ∀ b, InF y b → b ≠ g) {w' : World} {z : Fe} (hs : wr.grownBy w' (some g))
    (hown : w'.ownsRow 0 40 10 (.slice (some ⟨g, 0, none⟩) l.length cap) l.length (flatE (m.set k z))) (hz : z.p = chgE x l[k].p s) (hw : FW w' z) (hi : ∀ b, InF z b → InF l[k] b ∨ w1.heap.size ≤ b) : ModI w1 g cap l x s (k + 1) w' (m.set k z) := by
  refine ⟨by simp [h.len], hown, ?_, ?_, gby_trans h.gby hs⟩
  · intro i hi1 hi2 hlt
    by_cases e : i = k
    · subst e
      rw [List.getElem_set_self]
      exact ⟨hz, hw, hi⟩
    · rw [List.getElem_set_ne (Ne.symm e)]
      obtain ⟨a1, a2, a3⟩ := h.done i (by simpa using hi1) hi2 (by omega)
      refine ⟨a1, a2.stay hs.size (fun b hb hlt => hs.block b hlt (fun e => ?_)), a3⟩
      have e' : b = g := Option.some.inj e
      rcases a3 b hb with h1 | h1
      · exact hng _ (List.getElem_mem _) b h1 e'
      · omega
  · intro i hi1 hi2 hle
    rw [List.getElem_set_ne (by omega)]
    exact h.left i (by simpa using hi1) hi2 (by omega)
theorem ModI.all {w1 : World} {g cap : Nat} {l : List Fe} {x : Fp} {s : Bool} {wr : World} {m : List Fe} (h : ModI w1 g cap l x s l.length wr m) : m.map Fe.p = modL (l.map Fe.p) x s := by
  unfold modL
  apply List.ext_getElem
  · simp [h.len]
  · intro i h1 h2
    have hi : i < m.length := by simpa using h1
    have hi2 : i < l.length := by rw [← h.len]; exact hi
    simp only [List.getElem_map]
    exact (h.done i hi hi2 hi2).1
end Go.Proofs.YtjjfhibkcngphaaGreatDoor
/-
  What Modify does: the walk.
-/
namespace Go.Proofs.YtjjfhibkcngphaaGreatDoor
open Go.ChangeShapes Go.WideShapes Go.ChangeAt Go.RowKit
set_option linter.unusedVariables false
set_option linter.unusedSimpArgs false

set_option maxHeartbeats 2000000 in
theorem modify_nil (x : Fe) (s : Bool) (w : World) : Calls Tryz.prog 24 #[.pointer none, feV x, .bool s] w fun e w' => e = .returned (.int .i64 2) ∧ Below w.heap.size w w' := by
  have HX : Hid (Be (fx w x) w.heap.size 0 x) := Be.new w x
  have g0 : Below w.heap.size w (fx w x) := by go_grown
  go_enter Tryz.func24, Tryz.ntmps24
  go_wp2_with (refine load_E rfl (.tmp 4) rfl w.heap.size 0 x rfl HX.out ?_)
  refine (wrong_nil x _).mono ?_
  rintro e w1 ⟨rfl, g1⟩
  go_wp2_with fail
  go_ret
  exact ⟨rfl, btr g0 g1 (Nat.le_refl _)⟩
theorem kept_gby {S : Nat → Prop} {w w1 w' : World} {f g : Nat} (g1 : Below w.heap.size w w1) (h : w1.grownBy w' (some g)) (hg : S g) : Kept S w w' :=
  ⟨h.os.trans g1.os, h.tape.trans g1.tape, h.output.trans g1.output, Nat.le_trans g1.size h.size, fun b hb hn => (h.block b (Nat.lt_of_lt_of_le hb g1.size) (fun e => hn (by rw [Option.some.inj e]; exact hg))).trans (g1.block b hb)⟩
set_option maxHeartbeats 8000000 in
theorem modify_any (f : Nat) (S : Nat → Prop) (room : Int) (P : Nat → List Fp) (x : Fe) (s : Bool) (w : World) (h : Fs w f S room P) (hx : FW w x) (hs : ∀ b, InF x b → ¬ S b) (hd : Cd w) :
    Calls Tryz.prog 24 #[.pointer (some ⟨f, 0, none⟩), feV x, .bool s] w fun e w' => e = .returned (.int .i64 (wrongE x.p)) ∧ ∃ S', Fs w' f S' room (modP P x.p s) ∧ Kept S w w' ∧ ∀ b, S' b → S b ∨ w.heap.size ≤ b := by
  have HX : Hid (Be (fx w x) w.heap.size 0 x) := Be.new w x
  have g0 : Below w.heap.size w (fx w x) := by go_grown
  have HWr : Hid (Calls Tryz.prog 32 #[.pointer (some ⟨f, 0, none⟩), feV x] (fx w x) fun e w' => e = .returned (.int .i64 (wrongE x.p)) ∧ Below (fx w x).heap.size (fx w x) w') := wrong_any f x _ (hx.below g0) (hd.below g0)
  by_cases hw0 : wrongE x.p = 0
  · have hP : modP P x.p s = upd P x.p.tab.toNat (modL (P x.p.tab.toNat) x.p s) := by unfold modP; rw [if_pos hw0]
    obtain ⟨ht0, ht8⟩ := wrong_tab hw0
    obtain ⟨t, ht⟩ := Int.eq_ofNat_of_zero_le ht0
    have htt : x.p.tab.toNat = t := by omega
    have ht8' : t < 8 := by omega
    rw [htt] at hP
    obtain ⟨V, L, hF, hp⟩ := h
    obtain ⟨a, cap, hv, hform⟩ := OwnE.form2 (hF.row t ht8')
    have HF : Hid (Fl w f S room V L ∧ (∀ t, t < 8 → (L t).map Fe.p = P t)) := (show _ ∧ _ from ⟨hF, hp⟩)
    have HP : Hid (modP P x.p s = upd P t (modL (P t) x.p s)) := hP
    have HV : Hid (V t = .slice a (L t).length cap ∧ (a = none ∧ L t = [] ∧ cap = 0 ∨ ∃ g, a = some ⟨g, 0, none⟩ ∧ 0 ≤ g ∧ g < w.heap.size ∧ (L t).length ≤ cap ∧ cap ≤ maxLen)) := (show _ ∧ _ from ⟨hv, hform⟩)
    have hln : (L t).length ≤ 256 := by have := hF.nm t ht8'; have := hF.r2; omega
    have hcv : w.cell? ⟨f, 1 + t, none⟩ = some (.slice a (L t).length cap) := by rw [← hv]; exact hF.cv t ht8'
    have hfl : f < w.heap.size := hF.lt f hF.sf
    have HXW : Hid (FW w x) := hx
    have HXS : Hid (∀ b, InF x b → ¬ S b) := hs
    have HT : Hid (x.p.tab = t) := ht
    have HW0 : Hid (wrongE x.p = 0) := hw0
    rw [hw0] at HWr
    clear hx hs hd hw0 hP ht0 ht8 htt hF hp hv hform ht
    rw [HW0.out]
    obtain ⟨l, hl⟩ : ∃ l, l = L t := ⟨_, rfl⟩
    rw [← hl] at hln hcv HV
    have HLt : Hid (l = L t) := hl
    clear hl
    go_enter Tryz.func24, Tryz.ntmps24
    go_wp2_with (refine load_E rfl (.tmp 4) rfl w.heap.size 0 x rfl HX.out ?_)
    refine HWr.out.mono ?_
    rintro e w1 ⟨rfl, g1⟩
    have HG1 : Hid (Below w.heap.size w w1) := btr g0 g1 (Nat.le_refl _)
    have HX1 : Hid (Be w1 w.heap.size 0 x) := HX.out.below (by simp) g1
    have z1 := g1.size
    simp at z1
    have c0 : w1.cell? ⟨w.heap.size, 0, none⟩ = some (.int .i64 (t : Int)) := by rw [← HT.out]; exact HX1.out.cs.1
    have c1 : w1.cell? ⟨f, 1 + t, none⟩ = some (.slice a l.length cap) := (HG1.out.cell (p := ⟨f, 1 + t, none⟩) hfl).trans hcv
    have ht8i : (t : Int) < 8 := by omega
    clear g1 hcv
    go_wp2_with fail
    go_quiet (fail)
    go_wp2_with fail
    obtain ⟨U, hU⟩ : ∃ U, w1.drewN nq = U := ⟨_, rfl⟩
    rw [hU]
    have HGU : Hid (Below w.heap.size w U) := (show Below _ _ _ by rw [← hU]; exact bdr HG1.out nq)
    have HXU : Hid (Be U w.heap.size 0 x) := (show Be _ _ _ _ by rw [← hU]; exact HX1.out)
    have zU : w.heap.size + 1 ≤ U.heap.size := by rw [← hU]; exact z1
    clear hU c0 c1 z1
    have HOU : Hid (OwnE 0 U (.slice a l.length cap) l) := (show World.ownsRow _ _ _ _ _ _ _ from by
      have := HF.out.1.row t ht8'
      rw [HV.out.1, ← HLt.out] at this
      exact ownE_below this HGU.out)
    have HLW : Hid (∀ y ∈ l, FW w y ∧ ∀ b, InF y b → S b ∧ (∀ g, a = some ⟨g, 0, none⟩ → b ≠ g)) := (show ∀ y ∈ l, _ from fun y hy => by
      rw [HLt.out] at hy
      obtain ⟨h1, h2⟩ := HF.out.1.en t ht8' y hy
      refine ⟨h1, fun b hb => ⟨(h2 b hb).1, fun g hg e => (h2 b hb).2.2 t ht8' ?_⟩⟩
      rw [HV.out.1, hg, e]
      rfl)
    have HLS : Hid (∀ b, S b → b < w.heap.size) := HF.out.1.lt
    go_loopw [9, 10, 26] (fun _ _ i wr => ∃ (k : Nat) (m : List Fe), k ≤ l.length ∧ i = .int .i64 k ∧ Hid ((l = [] ∧ m = [] ∧ Below U.heap.size U wr) ∨ ∃ g, a = some ⟨g, 0, none⟩ ∧ g < w.heap.size ∧ ModI U g cap l x.p s k wr m)) (fun _ _ i _ => l.length - (intOf i).toNat)
    case atStart =>
      refine ⟨0, l, Nat.zero_le _, rfl, (show _ ∨ _ from ?_)⟩
      rcases HV.out.2 with ⟨h1, h2, _⟩ | ⟨g, h1, _, h2, h3, h4⟩
      · exact .inl ⟨h2, h2, Below.refl _ _⟩
      · refine .inr ⟨g, h1, h2, rfl, ?_, fun i _ _ h => absurd h (Nat.not_lt_zero _), fun _ _ _ _ => rfl, World.grownBy.refl _ _⟩
        rw [← h1]; exact HOU.out
    case round =>
      obtain ⟨k, m, hk, rfl, HM⟩ := hrel
      by_cases hlt : k < l.length
      · obtain ⟨gb, rfl, hgb, HI⟩ : ∃ g, a = some ⟨g, 0, none⟩ ∧ g < w.heap.size ∧ Hid (ModI U g cap l x.p s k wr m) := by
          rcases HM.out with ⟨h, _⟩ | ⟨g, h1, h2, h3⟩
          · subst h; cases hlt
          · exact ⟨g, h1, h2, h3⟩
        clear HM
        have hml := HI.out.len
        have hnc : l.length ≤ cap := by
          rcases HV.out.2 with ⟨h1, _⟩ | ⟨g, h1, _, _, h3, _⟩
          · cases h1
          · exact h3
        have hmk : m[k]'(by omega) = l[k] := HI.out.left k (by omega) hlt (Nat.le_refl _)
        have HB : Hid (Be wr gb (k * 10) l[k]) := (show Be _ _ _ _ by rw [← hmk]; exact OwnE.be hml.symm HI.out.own k (by omega))
        have HMS : Hid (m.set k l[k] = m) := (show _ = _ by rw [← hmk]; exact List.set_getElem_self _)
        have zr := HI.out.gby.size
        have HXr : Hid (Be wr w.heap.size 0 x) := HXU.out.block (HI.out.gby.block _ (by omega) (by simp; omega))
        have HXWr : Hid (FW wr x) := HXW.out.stay (by omega) (fun b hb hlt => (HI.out.gby.block b (by omega) (fun e => HXS.out b hb (by
          have e' : b = gb := Option.some.inj e
          rw [e']
          have := (HF.out.1.sr t ht8' gb (by rw [HV.out.1]; rfl)).1
          exact this))).trans (HGU.out.block b hlt))
        have HYr : Hid (FW wr l[k]) := (HLW.out l[k] (List.getElem_mem _)).1.stay (by omega) (fun b hb hlt => (HI.out.gby.block b (by omega) (fun e => ((HLW.out l[k] (List.getElem_mem _)).2 b hb).2 gb rfl (Option.some.inj e))).trans (HGU.out.block b hlt))
        clear hmk
        go_wp2_with (first
          | (refine load_E rfl (.tmp 29) rfl gb (k * 10) l[k] (by simp [Act.eval, Act.put]) HB.out ?_)
          | (refine store_E rfl (.tmp 10) (.tmp 30) rfl wr.heap.size 0 l[k] rfl rfl (there_new wr zeroE 40) ?_; intro Q hQ bQ tQ oQ; clear hQ; have HBQ : Hid (Be Q wr.heap.size 0 l[k]) := bQ; have HGQ : Hid (Below wr.heap.size wr Q) := oQ.below (Nat.le_refl _) (show Below wr.heap.size wr (wr.alloc (.cells zeroE 40)) by go_grown); have zQ : Q.heap.size = wr.heap.size + 1 := (by rw [oQ.size]; simp); clear bQ tQ oQ)
          | (refine load_E rfl (.tmp 4) rfl w.heap.size 0 x rfl (HXr.out.below (by omega) HGQ.out) ?_)
          | (refine load_E rfl (.tmp 10) rfl wr.heap.size 0 l[k] rfl HBQ.out ?_))
        refine (means_any x l[k] s Q (HXWr.out.below HGQ.out) (HYr.out.below HGQ.out)).mono ?_
        rintro e w2 ⟨rfl, g2⟩
        have HG2 : Hid (Below wr.heap.size wr w2) := btr HGQ.out g2 (Nat.le_refl _)
        have HB2 : Hid (Be w2 wr.heap.size 0 l[k]) := HBQ.out.below (by omega) g2
        have z2 := g2.size
        clear g2
        cases hq : meansB x.p l[k].p s with
        | true =>
          go_wp2_with (first
            | (refine load_E rfl (.tmp 4) rfl w.heap.size 0 x rfl (HXr.out.below (by omega) HG2.out) ?_)
            | (refine load_E rfl (.tmp 10) rfl wr.heap.size 0 l[k] rfl HB2.out ?_))
          refine (changed_any l[k] x w2 (HYr.out.below HG2.out) (HXWr.out.below HG2.out)).mono ?_
          rintro e w3 ⟨z, rfl, hzp, hzw, hzi, g3⟩
          have HZ : Hid (z.p = chgE x.p l[k].p s ∧ FW w3 z ∧ (∀ b, InF z b → w2.heap.size ≤ b)) := (show _ ∧ _ from ⟨by unfold chgE; rw [if_pos hq]; exact hzp, hzw, hzi⟩)
          have HG3 : Hid (Below wr.heap.size wr w3) := btr HG2.out g3 (Nat.le_refl _)
          have HO3 : Hid (w3.ownsRow 0 40 10 (.slice (some ⟨gb, 0, none⟩) l.length cap) l.length (flatE m)) := (show World.ownsRow _ _ _ _ _ _ _ from own_below HI.out.own HG3.out)
          clear hzp hzw hzi g3
          go_wp2_with (refine store_E rfl (.tmp 40) (.tmp 39) rfl gb (k * 10) z (by simp [Act.eval, Act.put]) rfl (OwnE.there hml.symm HO3.out k (by omega)) ?_; intro R hR bR tR oR; have HOR : Hid (R.ownsRow 0 40 10 (.slice (some ⟨gb, 0, none⟩) l.length cap) l.length (flatE (m.set k z))) := (show World.ownsRow _ _ _ _ _ _ _ from (by rw [hR]; exact OwnE.set hml.symm HO3.out k (by omega) z)); have HGR : Hid (wr.grownBy R (some gb)) := gby_only (gby_of_below _ HG3.out) oR (.inr rfl); have HZR : Hid (FW R z) := HZ.out.2.1.stay (by rw [oR.size]; exact Nat.le_refl _) (fun b hb _ => oR.block b (by have := HZ.out.2.2 b hb; omega)); clear hR bR tR oR)
          have HM2 : Hid (ModI U gb cap l x.p s (k + 1) R (m.set k z)) := HI.out.step hlt (by omega) (fun y hy b hb => ((HLW.out y hy).2 b hb).2 gb rfl) HGR.out HOR.out HZ.out.1 HZR.out (fun b hb => .inr (by have := HZ.out.2.2 b hb; omega))
          go_roundw
          case rel => exact ⟨k + 1, m.set k z, by omega, by go_num, (show _ ∨ _ from .inr ⟨gb, rfl, hgb, HM2.out⟩)⟩
          case measure => simp [intOf]; omega
        | false =>
          have HM2 : Hid (ModI U gb cap l x.p s (k + 1) w2 m) := (show ModI _ _ _ _ _ _ _ _ _ from by
            have h1 : w2.ownsRow 0 40 10 (.slice (some ⟨gb, 0, none⟩) l.length cap) l.length (flatE (m.set k l[k])) := by rw [HMS.out]; exact own_below HI.out.own HG2.out
            have h2 := HI.out.step hlt (by omega) (fun y hy b hb => ((HLW.out y hy).2 b hb).2 gb rfl) (gby_of_below _ HG2.out) h1 (by unfold chgE; rw [if_neg (by rw [hq]; decide)]) (HYr.out.below HG2.out) (fun b hb => .inl hb)
            rwa [HMS.out] at h2)
          go_wp2_with fail
          go_roundw
          case rel => exact ⟨k + 1, m, by omega, by go_num, (show _ ∨ _ from .inr ⟨gb, rfl, hgb, HM2.out⟩)⟩
          case measure => simp [intOf]; omega
      · have hk' : k = l.length := by omega
        subst hk'
        go_wp2
        go_ret
        refine ⟨rfl, ?_⟩
        rw [HP.out]
        obtain ⟨hFl, hp⟩ := HF.out
        rcases HM.out with ⟨h1, h2, h3⟩ | ⟨g, h1, h2, h3⟩
        · have hG : Below w.heap.size w wr := btr HGU.out h3 (Nat.le_refl _)
          have hPt : P t = [] := by rw [← hp t ht8', ← HLt.out, h1]; rfl
          refine ⟨S, ?_, Kept.of_below hG, fun b hb => .inl hb⟩
          have e : upd P t (modL (P t) x.p s) = P := by
            funext u
            by_cases e : u = t
            · subst e; rw [upd_same, hPt]; rfl
            · rw [upd_other _ _ _ e]
          rw [e]
          exact Fs.below ⟨V, L, hFl, hp⟩ hG
        · have hvt : V t = .slice (some ⟨g, 0, none⟩) l.length cap := by rw [HV.out.1, h1]
          have hgs := hFl.sr t ht8' g (by rw [hvt]; rfl)
          have hgby : w.grownBy wr (some g) := gby_trans (gby_of_below _ HGU.out) h3.gby
          refine ⟨more S w wr, ⟨upd V t (V t), upd L t m, ?_, ?_⟩, kept_gby (f := f) (Below.refl _ _) hgby hgs.1, more_sub⟩
          · have hfb : wr.heap[f]? = w.heap[f]? := hgby.block f hfl (fun e => hgs.2 (Option.some.inj e).symm)
            refine hFl.update ht8' hgby.size (fun b hb _ hne => hgby.block b hb (fun e => hne (by rw [hvt, e]; rfl))) (fun o _ => World.cell?_of_block (w := w) hfb) ((World.cell?_of_block (w := w) hfb).trans (hFl.cv t ht8')) (fun o => World.frozen?_of_block (w := w) hfb) ?_ (.inl rfl) ?_ ?_
            · unfold OwnE; rw [hvt, h3.len]; exact h3.own
            · intro y hy
              obtain ⟨i, hi, rfl⟩ := List.mem_iff_getElem.1 hy
              have hil : i < l.length := by rw [← h3.len]; exact hi
              obtain ⟨a1, a2, a3⟩ := h3.done i hi hil hil
              refine ⟨a2, fun b hb => ?_⟩
              rcases a3 b hb with h5 | h5
              · refine ⟨.inl ⟨l[i], by rw [← HLt.out]; exact List.getElem_mem _, h5⟩, ?_⟩
                rw [hvt]
                intro e
                exact ((HLW.out l[i] (List.getElem_mem _)).2 b h5).2 g h1 (Option.some.inj e).symm
              · refine ⟨.inr (by omega), ?_⟩
                rw [hvt]
                intro e
                have : g = b := Option.some.inj e
                omega
            · rw [h3.len, HLt.out]; exact hFl.nm t ht8'
          · intro u hu
            by_cases e : u = t
            · subst e; rw [upd_same, upd_same, h3.all, HLt.out, hp u hu]
            · rw [upd_other _ _ _ e, upd_other _ _ _ e]; exact hp u hu
  · have hP : modP P x.p s = P := by unfold modP; rw [if_neg hw0]
    rw [hP]
    have HF : Hid (Fs w f S room P) := h
    have hn : (wrongE x.p != 0) = true := by simp [hw0]
    clear h hx hs hd hP hw0
    generalize wrongE x.p = E at *
    go_enter Tryz.func24, Tryz.ntmps24
    go_wp2_with (refine load_E rfl (.tmp 4) rfl w.heap.size 0 x rfl HX.out ?_)
    refine HWr.out.mono ?_
    rintro e w1 ⟨rfl, g1⟩
    have HG1 : Hid (Below w.heap.size w w1) := btr g0 g1 (Nat.le_refl _)
    clear g1
    go_wp2_with fail
    go_ret
    exact ⟨rfl, S, HF.out.below HG1.out, Kept.of_below HG1.out, fun b hb => .inl hb⟩
end Go.Proofs.YtjjfhibkcngphaaGreatDoor
/-
  What Delete does: the walk.
-/
namespace Go.Proofs.YtjjfhibkcngphaaGreatDoor
open Go.ChangeShapes Go.WideShapes Go.ChangeAt Go.RowKit
set_option linter.unusedVariables false
set_option linter.unusedSimpArgs false

set_option maxHeartbeats 2000000 in
theorem delete_nil (x : Fe) (s : Bool) (w : World) : Calls Tryz.prog 25 #[.pointer none, feV x, .bool s] w fun e w' => e = .returned (.int .i64 2) ∧ Below w.heap.size w w' := by
  have HX : Hid (Be ((fx w x).alloc (.cells #[.bool s] 4)) w.heap.size 0 x) := (Be.new w x).below (B := w.heap.size + 1) (by omega) (by go_grown)
  have g0 : Below w.heap.size w ((fx w x).alloc (.cells #[.bool s] 4)) := by go_grown
  go_enter Tryz.func25, Tryz.ntmps25
  go_wp2_with (refine load_E rfl (.tmp 4) rfl w.heap.size 0 x rfl HX.out ?_)
  refine (wrong_nil x _).mono ?_
  rintro e w1 ⟨rfl, g1⟩
  go_wp2_with fail
  go_ret
  exact ⟨rfl, btr g0 g1 (Nat.le_refl _)⟩
set_option maxHeartbeats 8000000 in
theorem delete_any (f : Nat) (S : Nat → Prop) (room : Int) (P : Nat → List Fp) (x : Fe) (s : Bool) (w : World) (h : Fs w f S room P) (hx : FW w x) (hs : ∀ b, InF x b → ¬ S b) (hd : Cd w) :
    Calls Tryz.prog 25 #[.pointer (some ⟨f, 0, none⟩), feV x, .bool s] w fun e w' => e = .returned (.int .i64 (wrongE x.p)) ∧ ∃ S', Fs w' f S' room (delP P x.p s) ∧ Kept S w w' ∧ ∀ b, S' b → S b ∨ w.heap.size ≤ b := by
  obtain ⟨W0, hW0⟩ : ∃ W0, (fx w x).alloc (.cells #[.bool s] 4) = W0 := ⟨_, rfl⟩
  have z0 : W0.heap.size = w.heap.size + 2 := by rw [← hW0]; simp
  have g0 : Below w.heap.size w W0 := by rw [← hW0]; go_grown
  have HX : Hid (Be W0 w.heap.size 0 x) := (show Be _ _ _ _ by rw [← hW0]; exact (Be.new w x).below (B := w.heap.size + 1) (by omega) (by go_grown))
  have hcs : W0.cell? ⟨w.heap.size + 1, 0, none⟩ = some (.bool s) := by rw [← hW0]; simp
  have HWr : Hid (Calls Tryz.prog 32 #[.pointer (some ⟨f, 0, none⟩), feV x] W0 fun e w' => e = .returned (.int .i64 (wrongE x.p)) ∧ Below W0.heap.size W0 w') := wrong_any f x _ (hx.below g0) (hd.below g0)
  have HCS : Hid (W0.cell? ⟨w.heap.size + 1, 0, none⟩ = some (.bool s)) := hcs
  clear hcs
  by_cases hw0 : wrongE x.p = 0
  · have hP : delP P x.p s = upd P x.p.tab.toNat (delL (P x.p.tab.toNat) x.p s) := by unfold delP; rw [if_pos hw0]
    obtain ⟨ht0, ht8⟩ := wrong_tab hw0
    obtain ⟨t, ht⟩ := Int.eq_ofNat_of_zero_le ht0
    have htt : x.p.tab.toNat = t := by omega
    have ht8' : t < 8 := by omega
    rw [htt] at hP
    obtain ⟨V, L, hF, hp⟩ := h
    obtain ⟨a, cap, hv, hform⟩ := OwnE.form2 (hF.row t ht8')
    have HF : Hid (Fl w f S room V L ∧ (∀ t, t < 8 → (L t).map Fe.p = P t)) := (show _ ∧ _ from ⟨hF, hp⟩)
    have HP : Hid (delP P x.p s = upd P t (delL (P t) x.p s)) := hP
    have HV : Hid (V t = .slice a (L t).length cap) := hv
    have hln : (L t).length ≤ 256 := by have := hF.nm t ht8'; have := hF.r2; omega
    have hcv : w.cell? ⟨f, 1 + t, none⟩ = some (.slice a (L t).length cap) := by rw [← hv]; exact hF.cv t ht8'
    have hfz : w.frozen? ⟨f, 1 + t, none⟩ = false := hF.fz _
    have hfl : f < w.heap.size := hF.lt f hF.sf
    have HXW : Hid (FW w x) := hx
    have HXS : Hid (∀ b, InF x b → ¬ S b) := hs
    have HT : Hid (x.p.tab = t) := ht
    have HW0 : Hid (wrongE x.p = 0) := hw0
    rw [hw0] at HWr
    clear hx hs hd hw0 hP ht0 ht8 htt hF hp hv hform ht
    rw [HW0.out]
    obtain ⟨l, hl⟩ : ∃ l, l = L t := ⟨_, rfl⟩
    rw [← hl] at hln hcv HV
    have HLt : Hid (l = L t) := hl
    clear hl
    go_enter Tryz.func25, Tryz.ntmps25
    go_wp2_with (refine load_E rfl (.tmp 4) rfl w.heap.size 0 x rfl HX.out ?_)
    refine HWr.out.mono ?_
    rintro e w1 ⟨rfl, g1⟩
    have HG1 : Hid (Below w.heap.size w w1) := btr g0 g1 (by omega)
    have HX1 : Hid (Be w1 w.heap.size 0 x) := HX.out.below (by omega) g1
    have HC1 : Hid (w1.cell? ⟨w.heap.size + 1, 0, none⟩ = some (.bool s)) := (g1.cell (p := ⟨w.heap.size + 1, 0, none⟩) (by show w.heap.size + 1 < W0.heap.size; omega)).trans HCS.out
    have z1 := g1.size
    rw [z0] at z1
    have c0 : w1.cell? ⟨w.heap.size, 0, none⟩ = some (.int .i64 (t : Int)) := by rw [← HT.out]; exact HX1.out.cs.1
    have c1 : w1.cell? ⟨f, 1 + t, none⟩ = some (.slice a l.length cap) := (HG1.out.cell (p := ⟨f, 1 + t, none⟩) hfl).trans hcv
    have ht8i : (t : Int) < 8 := by omega
    -- what DeleteFunc does
    have HD : Hid (∀ W, Below w1.heap.size w1 W → Calls Tryz.prog 44 #[.slice a l.length cap, .func (.func 45) #[] #[.pointer (some ⟨w.heap.size, 0, none⟩), .pointer (some ⟨w.heap.size + 1, 0, none⟩)]] W fun e w' => ∃ v', e = .returned v' ∧ OwnE 0 w' v' (l.filter fun y => !meansB x.p y.p s) ∧ v'.ownBlock = (Value.slice a l.length cap).ownBlock ∧ W.grownBy w' (Value.slice a l.length cap).ownBlock) := (show ∀ W, _ from fun W gW => by
      have hF := HF.out.1
      have G := btr HG1.out gW (by omega)
      have ho : OwnE 0 W (.slice a l.length cap) l := by
        have := hF.row t ht8'
        rw [HV.out, ← HLt.out] at this
        exact ownE_below this G
      have zW := gW.size
      refine delFunc_any 45 _ enD (fun y => meansB x.p y.p s) 0 _ l W ho (by omega) (fun W2 y hy g2 => ?_)
      have hgS : ∀ b, (Value.slice a l.length cap).ownBlock = some b → S b ∧ b < w.heap.size := fun b hb => by
        have := hF.sr t ht8' b (by rw [HV.out]; exact hb)
        exact ⟨this.1, hF.lt b this.1⟩
      have z2 := g2.size
      have keep : ∀ b, b < W.heap.size → (¬ S b ∨ w.heap.size ≤ b) → W2.heap[b]? = W.heap[b]? := fun b hb hn => g2.block b hb (fun e => by
        have := hgS b e.symm
        rcases hn with h | h
        · exact h this.1
        · omega)
      have hyL : y ∈ L t := by rw [← HLt.out]; exact hy
      obtain ⟨y1, y2⟩ := hF.en t ht8' y hyL
      refine delF_any x y s w.heap.size (w.heap.size + 1) W2 (by omega) ?_ (by omega) ?_ ?_ ?_
      · exact (HX1.out.below (by omega) gW).block (keep _ (by omega) (.inr (Nat.le_refl _)))
      · have e1 : W2.cell? ⟨w.heap.size + 1, 0, none⟩ = W.cell? ⟨w.heap.size + 1, 0, none⟩ := World.cell?_of_block (w := W) (keep (w.heap.size + 1) (by omega) (.inr (by omega)))
        rw [e1, gW.cell (p := ⟨w.heap.size + 1, 0, none⟩) (by show w.heap.size + 1 < w1.heap.size; omega)]
        exact HC1.out
      · exact HXW.out.stay (by have := G.size; omega) (fun b hb hlt => (keep b (by omega) (.inl (HXS.out b hb))).trans (G.block b hlt))
      · refine y1.stay (by have := G.size; omega) (fun b hb hlt => ?_)
        have := g2.block b (by omega) (fun e => (y2 b hb).2.2 t ht8' (by rw [HV.out]; exact e.symm))
        exact this.trans (G.block b hlt))
    clear g1 hcv
    have HDW : Hid (Below w1.heap.size w1 w1.drew) := (Below.refl _ w1).drew
    have fz1 : w1.frozen? ⟨f, 1 + t, none⟩ = false := (HG1.out.frozen (p := ⟨f, 1 + t, none⟩) hfl).trans hfz
    have HGF : Hid (∀ v W w', OwnE 0 W v l → v = .slice a l.length cap → Below w1.heap.size w1 W → W.grownBy w' v.ownBlock → w'.cell? ⟨f, 1 + t, none⟩ = some (.slice a l.length cap) ∧ w'.frozen? ⟨f, 1 + t, none⟩ = false ∧ w'.cell? ⟨w.heap.size, 0, none⟩ = some (.int .i64 (t : Int))) := (show ∀ v W w', _ from fun v W w' _ hv gW g2 => by
      have hF := HF.out.1
      subst hv
      have zW := gW.size
      have hne : ∀ b, (Value.slice a l.length cap).ownBlock = some b → b ≠ f ∧ b < w.heap.size := fun b hb => by
        have := hF.sr t ht8' b (by rw [HV.out]; exact hb)
        exact ⟨this.2, hF.lt b this.1⟩
      have hf1 : w'.heap[f]? = w1.heap[f]? := (g2.block f (by omega) (fun e => (hne f e.symm).1 rfl)).trans (gW.block f (by omega))
      have hb1 : w'.heap[w.heap.size]? = w1.heap[w.heap.size]? := (g2.block _ (by omega) (fun e => by have := (hne _ e.symm).2; omega)).trans (gW.block _ (by omega))
      exact ⟨(World.cell?_of_block (w := w1) hf1).trans c1, (World.frozen?_of_block (w := w1) hf1).trans fz1, (World.cell?_of_block (w := w1) hb1).trans c0⟩)
    have HOW : Hid (∀ W, Below w1.heap.size w1 W → OwnE 0 W (.slice a l.length cap) l) := (show ∀ W, _ from fun W gW => by
      have := HF.out.1.row t ht8'
      rw [HV.out, ← HLt.out] at this
      exact ownE_below this (btr HG1.out gW (by omega)))
    clear hfz
    go_wp2_with fail
    obtain ⟨l2, hl2⟩ : ∃ l2, l2 = l.filter fun y => !meansB x.p y.p s := ⟨_, rfl⟩
    rw [← hl2] at HD
    have HL2 : Hid (l2 = l.filter fun y => !meansB x.p y.p s) := hl2
    clear hl2
    have HFIN : Hid (∀ w2 a2 cap2, (OwnE 0 w2 (.slice a2 l2.length cap2) l2 ∧ (Value.slice a2 l2.length cap2).ownBlock = (Value.slice a l.length cap).ownBlock ∧ w1.drew.grownBy w2 (Value.slice a l.length cap).ownBlock) → ∃ S', Fs (w2.setCell ⟨f, 1 + t, none⟩ (.slice a2 l2.length cap2)) f S' room (delP P x.p s) ∧ Kept S w (w2.setCell ⟨f, 1 + t, none⟩ (.slice a2 l2.length cap2)) ∧ ∀ b, S' b → S b ∨ w.heap.size ≤ b) := (show ∀ w2 a2 cap2, _ from fun w2 a2 cap2 ⟨r1, r2, r3⟩ => by
      obtain ⟨hFl, hp⟩ := HF.out
      have d1 := (HGF.out _ w1.drew w2 (HOW.out _ HDW.out) rfl HDW.out r3)
      have G1 : w.grownBy w2 (Value.slice a l.length cap).ownBlock := gby_trans (gby_of_below _ (btr HG1.out HDW.out (Nat.le_refl _))) r3
      obtain ⟨U, hU⟩ : ∃ U, w2.setCell ⟨f, 1 + t, none⟩ (.slice a2 l2.length cap2) = U := ⟨_, rfl⟩
      have oU : Only f w2 U := by rw [← hU]; exact (Only.refl _ _).setCell _ _
      rw [hU, HP.out]
      have zU : U.heap.size = w2.heap.size := oU.size
      have hoz : ∀ b, (Value.slice a2 l2.length cap2).ownBlock = some b → b ≠ f := fun b hb => (hFl.sr t ht8' b (by rw [HV.out, ← r2]; exact hb)).2
      have hfw : w2.heap[f]? = w.heap[f]? := G1.block f hfl (fun e => (hFl.sr t ht8' f (by rw [HV.out]; exact e.symm)).2 rfl)
      refine ⟨more S w U, ⟨upd V t (.slice a2 l2.length cap2), upd L t l2, ?_, ?_⟩, ⟨oU.os.trans G1.os, oU.tape.trans G1.tape, oU.output.trans G1.output, by rw [zU]; exact G1.size, fun b hb hn => (oU.block b (fun e => hn (by rw [e]; exact hFl.sf))).trans (G1.block b hb (fun e => hn (hFl.sr t ht8' b (by rw [HV.out]; exact e.symm)).1))⟩, more_sub⟩
      · refine hFl.update ht8' (by rw [zU]; exact G1.size) (fun b hb hbf hne => (oU.block b hbf).trans (G1.block b hb (fun e => hne (by rw [HV.out]; exact e.symm)))) (fun o ho => ?_) ?_ (fun o => ?_) ?_ (.inl (by rw [HV.out]; exact r2)) ?_ ?_
        · rw [← hU, World.cell?_setCell_other _ _ _ _ (by simp)]; exact World.cell?_of_block (w := w) hfw
        · rw [← hU]; exact World.cell?_setCell_same _ _ _ d1.1
        · rw [← hU, World.frozen?_setCell]; exact World.frozen?_of_block (w := w) hfw
        · refine r1.kept (row := some f) ⟨oU.os, oU.tape, oU.output, by rw [zU]; exact Nat.le_refl _, fun k _ hk => oU.block k (fun e => hk (by rw [e]))⟩ ?_
          cases hob : (Value.slice a2 l2.length cap2).ownBlock with
          | none => exact .inl rfl
          | some b => exact .inr (fun e => hoz b hob (Option.some.inj e))
        · intro y hy
          have hyl : y ∈ l := by rw [HL2.out] at hy; exact (List.mem_filter.1 hy).1
          have hyL : y ∈ L t := by rw [← HLt.out]; exact hyl
          obtain ⟨y1, y2⟩ := hFl.en t ht8' y hyL
          refine ⟨y1.stay (by rw [zU]; exact G1.size) (fun b hb hlt => (oU.block b (y2 b hb).2.1).trans (G1.block b hlt (fun e => (y2 b hb).2.2 t ht8' (by rw [HV.out]; exact e.symm)))), fun b hb => ⟨.inl ⟨y, hyL, hb⟩, ?_⟩⟩
          rw [r2, ← HV.out]
          exact (y2 b hb).2.2 t ht8'
        · have := hFl.nm t ht8'
          have h2 : l2.length ≤ l.length := by rw [HL2.out]; exact List.length_filter_le _ _
          rw [← HLt.out] at this
          omega
      · intro u hu
        by_cases e : u = t
        · subst e
          rw [upd_same, upd_same, ← hp u hu, ← HLt.out, HL2.out]
          unfold delL
          rw [List.filter_map]
          rfl
        · rw [upd_other _ _ _ e, upd_other _ _ _ e]; exact hp u hu)
    go_region_with (go_at_call 44; refine (HD.out w1.drew HDW.out).mono ?_; rintro e w2 ⟨v', rfl, hov, hvb, g2⟩; obtain ⟨a2, cap2, hv2, hf2⟩ := OwnE.form2 hov; subst hv2; obtain ⟨d1, d2, d3⟩ := HGF.out _ w1.drew w2 (HOW.out _ HDW.out) rfl HDW.out g2; have HR : Hid (OwnE 0 w2 (.slice a2 l2.length cap2) l2 ∧ (Value.slice a2 l2.length cap2).ownBlock = (Value.slice a l.length cap).ownBlock ∧ w1.drew.grownBy w2 (Value.slice a l.length cap).ownBlock) := (show _ ∧ _ from ⟨hov, hvb, g2⟩); clear hov hvb g2 hf2)
    all_goals
      go_wp2_with fail
      go_ret
      exact ⟨rfl, HFIN.out _ _ _ HR.out⟩
  · have hP : delP P x.p s = P := by unfold delP; rw [if_neg hw0]
    rw [hP]
    have HF : Hid (Fs w f S room P) := h
    have hn : (wrongE x.p != 0) = true := by simp [hw0]
    clear h hx hs hd hP hw0
    generalize wrongE x.p = E at *
    go_enter Tryz.func25, Tryz.ntmps25
    go_wp2_with (refine load_E rfl (.tmp 4) rfl w.heap.size 0 x rfl HX.out ?_)
    refine HWr.out.mono ?_
    rintro e w1 ⟨rfl, g1⟩
    have HG1 : Hid (Below w.heap.size w w1) := btr g0 g1 (by omega)
    clear g1
    go_wp2_with fail
    go_ret
    exact ⟨rfl, S, HF.out.below HG1.out, Kept.of_below HG1.out, fun b hb => .inl hb⟩
end Go.Proofs.YtjjfhibkcngphaaGreatDoor
/-
  What Add does: the walk.
-/
namespace Go.Proofs.YtjjfhibkcngphaaGreatDoor
open Go.ChangeShapes Go.WideShapes Go.ChangeAt Go.RowKit
set_option linter.unusedVariables false
set_option linter.unusedSimpArgs false

/-- What Add answers, and what the table has behind it. -/
def addE (room : Int) (l : List Fp) (x : Fp) (chk : Bool) : Int := if (chk && l.any (clashB x)) = true then 28 else if l.any (twinB x) = true then 0 else if room ≤ l.length then 27 else 0
def insL (l : List Fp) (x : Fp) : List Fp := l.take (endV x.pri l) ++ x :: l.drop (endV x.pri l)
def putL (l : List Fp) (x : Fp) : List Fp := match l.findIdx? (twinB x) with
  | some i => l.set i x
  | none => insL l x
def addL (room : Int) (l : List Fp) (x : Fp) (chk : Bool) : List Fp := if addE room l x chk = 0 then putL l x else l
def addR (room : Int) (P : Nat → List Fp) (x : Fp) (chk : Bool) : Int := if wrongE x = 0 then addE room (P x.tab.toNat) x chk else wrongE x
def addT (room : Int) (P : Nat → List Fp) (x : Fp) (chk : Bool) : Nat → List Fp := if wrongE x = 0 then upd P x.tab.toNat (addL room (P x.tab.toNat) x chk) else P
set_option maxHeartbeats 2000000 in
theorem add_nil (x : Fe) (s : Bool) (w : World) : Calls Tryz.prog 19 #[.pointer none, feV x, .bool s] w fun e w' => e = .returned (.int .i64 2) ∧ Below w.heap.size w w' := by
  have HX : Hid (Be (fx w x) w.heap.size 0 x) := Be.new w x
  have g0 : Below w.heap.size w (fx w x) := by go_grown
  go_enter Tryz.func19, Tryz.ntmps19
  go_wp2_with (refine load_E rfl (.tmp 4) rfl w.heap.size 0 x rfl HX.out ?_)
  refine (wrong_nil x _).mono ?_
  rintro e w1 ⟨rfl, g1⟩
  go_wp2_with fail
  go_ret
  exact ⟨rfl, btr g0 g1 (Nat.le_refl _)⟩
theorem idxV_map (l : List Fe) (x : Fp) : idxV l (fun y => twinB x y.p) = idxV (l.map Fe.p) (twinB x) := by
  unfold idxV
  rw [List.findIdx?_map]
  rfl
theorem putL_at {l : List Fp} {x : Fp} {i : Nat} (h : idxV l (twinB x) = i) : putL l x = l.set i x ∧ i < l.length ∧ l.any (twinB x) = true := by
  have hb := idxV_lt l (twinB x)
  have ha := idxV_any l (twinB x)
  rw [h] at ha hb
  refine ⟨?_, by omega, by rw [← ha]; simp⟩
  unfold idxV at h
  unfold putL
  cases hf : l.findIdx? (twinB x) with
  | none => rw [hf] at h; simp only at h; omega
  | some j =>
    rw [hf] at h
    simp only at h
    have e : j = i := by omega
    rw [e]
theorem putL_none {l : List Fp} {x : Fp} (h : idxV l (twinB x) = -1) : putL l x = insL l x ∧ l.any (twinB x) = false := by
  have ha := idxV_any l (twinB x)
  rw [h] at ha
  refine ⟨?_, by rw [← ha]; simp⟩
  unfold idxV at h
  unfold putL
  cases hf : l.findIdx? (twinB x) with
  | none => rfl
  | some j => rw [hf] at h; simp only at h; omega
/-- The box of an entry in a region that draws. -/
abbrev SX (b : Nat) (t : Int) (x : Fe) (w : World) : Prop :=
  w.cell? ⟨b, 0, none⟩ = some (.int .i64 t) ∧ w.cell? ⟨b, 1, none⟩ = some (.int .i64 x.p.pri) ∧ w.cell? ⟨b, 2, none⟩ = some (.slice x.ta x.p.lt.length x.tc) ∧ w.cell? ⟨b, 3, none⟩ = some (.slice x.aa x.p.la.length x.ca) ∧ w.cell? ⟨b, 4, none⟩ = some (.slice x.aw x.p.lw.length x.cw) ∧ w.cell? ⟨b, 5, none⟩ = some (.bool x.p.clr) ∧ w.cell? ⟨b, 6, none⟩ = some (.int .u64 x.p.mt) ∧ w.cell? ⟨b, 7, none⟩ = some (.int .u64 x.p.mm) ∧ w.cell? ⟨b, 8, none⟩ = some (.int .i64 x.p.met) ∧ w.cell? ⟨b, 9, none⟩ = some (.int .i64 x.p.go)
theorem sx_of {b : Nat} {t : Int} {x : Fe} {W : World} (ht : x.p.tab = t) (h : Be W b 0 x) : SX b t x W := by
  subst ht
  exact h.cs
set_option maxHeartbeats 16000000 in
theorem add_any (f : Nat) (S : Nat → Prop) (room : Int) (P : Nat → List Fp) (x : Fe) (chk : Bool) (w : World) (h : Fs w f S room P) (hx : FW w x) (hd : Cd w) :
    Calls Tryz.prog 19 #[.pointer (some ⟨f, 0, none⟩), feV x, .bool chk] w fun e w' => e = .returned (.int .i64 (addR room P x.p chk)) ∧ ∃ S', Fs w' f S' room (addT room P x.p chk) ∧ Kept S w w' ∧ ∀ b, S' b → S b ∨ w.heap.size ≤ b := by
  have HX : Hid (Be (fx w x) w.heap.size 0 x) := Be.new w x
  have g0 : Below w.heap.size w (fx w x) := by go_grown
  have HWr : Hid (Calls Tryz.prog 32 #[.pointer (some ⟨f, 0, none⟩), feV x] (fx w x) fun e w' => e = .returned (.int .i64 (wrongE x.p)) ∧ Below (fx w x).heap.size (fx w x) w') := wrong_any f x _ (hx.below g0) (hd.below g0)
  by_cases hw0 : wrongE x.p = 0
  · have hR : addR room P x.p chk = addE room (P x.p.tab.toNat) x.p chk := by unfold addR; rw [if_pos hw0]
    have hP : addT room P x.p chk = upd P x.p.tab.toNat (addL room (P x.p.tab.toNat) x.p chk) := by unfold addT; rw [if_pos hw0]
    obtain ⟨ht0, ht8⟩ := wrong_tab hw0
    obtain ⟨t, ht⟩ := Int.eq_ofNat_of_zero_le ht0
    have htt : x.p.tab.toNat = t := by omega
    have ht8' : t < 8 := by omega
    rw [htt] at hP hR
    obtain ⟨V, L, hF, hp⟩ := h
    obtain ⟨a, cap, hv, hform⟩ := OwnE.form2 (hF.row t ht8')
    have HF : Hid (Fl w f S room V L ∧ (∀ t, t < 8 → (L t).map Fe.p = P t)) := (show _ ∧ _ from ⟨hF, hp⟩)
    have HV : Hid (V t = .slice a (L t).length cap) := hv
    have hln : (L t).length ≤ 256 := by have := hF.nm t ht8'; have := hF.r2; omega
    have hcv : w.cell? ⟨f, 1 + t, none⟩ = some (.slice a (L t).length cap) := by rw [← hv]; exact hF.cv t ht8'
    have hrm : w.cell? ⟨f, 0, none⟩ = some (.int .i64 room) := hF.rm
    have hfz : w.frozen? ⟨f, 1 + t, none⟩ = false := hF.fz _
    have hfl : f < w.heap.size := hF.lt f hF.sf
    have HXW : Hid (FW w x) := hx
    have HT : Hid (x.p.tab = t) := ht
    have hrl : 1 ≤ room ∧ room ≤ 256 := ⟨hF.r1, hF.r2⟩
    rw [hw0] at HWr
    have hpt := hp t ht8'
    clear hx hd hw0 ht0 ht8 htt hF hp hv hform ht
    obtain ⟨l, hl⟩ : ∃ l, l = L t := ⟨_, rfl⟩
    rw [← hl] at hln hcv HV hpt
    have HLt : Hid (l = L t) := hl
    have HPl : Hid (P t = l.map Fe.p) := hpt.symm
    rw [← hpt] at hR hP
    clear hl hpt
    have HLW : Hid (∀ y ∈ l, FW w y ∧ ∀ b, InF y b → S b ∧ b ≠ f ∧ ∀ u, u < 8 → (V u).ownBlock ≠ some b) := (show ∀ y ∈ l, _ from fun y hy => HF.out.1.en t ht8' y (by rw [← HLt.out]; exact hy))
    have HOW : Hid (∀ W, Below w.heap.size w W → OwnE 0 W (.slice a l.length cap) l) := (show ∀ W, _ from fun W gW => by
      have := HF.out.1.row t ht8'
      rw [HV.out, ← HLt.out] at this
      exact ownE_below this gW)
    -- the callees
    obtain ⟨I, hI⟩ : ∃ I, I = idxV (l.map Fe.p) (twinB x.p) := ⟨_, rfl⟩
    have hIb := idxV_lt (l.map Fe.p) (twinB x.p)
    rw [← hI, List.length_map] at hIb
    obtain ⟨C, hC⟩ : ∃ C, C = (l.map Fe.p).any (clashB x.p) := ⟨_, rfl⟩
    have HIx : Hid (∀ W, Below w.heap.size w W → w.heap.size < W.heap.size → Be W w.heap.size 0 x → Calls Tryz.prog 33 #[.slice a l.length cap, .func (.func 34) #[] #[.pointer (some ⟨w.heap.size, 0, none⟩)]] W fun e w' => e = .returned (.int .i64 I) ∧ Below W.heap.size W w') := (show ∀ W, _ from fun W gW hz hB => by
      rw [hI, ← idxV_map]
      exact idx_any 34 _ enA (fun y => twinB x.p y.p) 0 _ l W (HOW.out W gW) (by omega) (fun W2 y hy g2 => by
        have g := btr gW g2 (Nat.le_refl _)
        exact addF_any x y w.heap.size W2 (by have := g2.size; omega) (hB.below hz g2) (HXW.out.below g) ((HLW.out y hy).1.below g)))
    have HCl : Hid (∀ W, Below w.heap.size w W → Calls Tryz.prog 36 #[feV x, .slice a l.length cap] W fun e w' => e = .returned (.bool C) ∧ Below W.heap.size W w') := (show ∀ W, _ from fun W gW => by
      have := clashes_any x 0 (.slice a l.length cap) l W (HXW.out.below gW) (HOW.out W gW) (by omega) (fun y hy => (HLW.out y hy).1.below gW)
      rw [hC, List.any_map]
      exact this)
    have HR : Hid (addR room P x.p chk = addE room (l.map Fe.p) x.p chk) := hR
    have HP : Hid (addT room P x.p chk = upd P t (addL room (l.map Fe.p) x.p chk)) := hP
    have HI : Hid (I = idxV (l.map Fe.p) (twinB x.p)) := hI
    have HC : Hid (C = (l.map Fe.p).any (clashB x.p)) := hC
    clear hR hP hI hC
    -- where nothing is put
    have HNo : Hid (∀ W, Below w.heap.size w W → addE room (l.map Fe.p) x.p chk ≠ 0 → ∃ S', Fs W f S' room (addT room P x.p chk) ∧ Kept S w W ∧ ∀ b, S' b → S b ∨ w.heap.size ≤ b) := (show ∀ W, _ from fun W gW he => by
      refine ⟨S, ?_, Kept.of_below gW, fun b hb => .inl hb⟩
      have e : addT room P x.p chk = P := by
        rw [HP.out]
        funext u
        by_cases e : u = t
        · subst e; rw [upd_same, HPl.out]; unfold addL; rw [if_neg he]
        · rw [upd_other _ _ _ e]
      rw [e]
      exact Fs.below ⟨V, L, HF.out.1, HF.out.2⟩ gW)
    cases hcc : (chk && C) with
    | true =>
      obtain ⟨hk, hC1⟩ : chk = true ∧ C = true := by simpa using hcc
      have HE : Hid (addE room (l.map Fe.p) x.p chk = 28) := (show _ = _ by unfold addE; rw [if_pos (by rw [← HC.out]; exact hcc)])
      rw [hC1] at HCl
      subst hk
      clear hcc hC1 HC
      rw [HR.out, HE.out]
      go_enter Tryz.func19, Tryz.ntmps19
      go_wp2_with (refine load_E rfl (.tmp 4) rfl w.heap.size 0 x rfl HX.out ?_)
      refine HWr.out.mono ?_
      rintro e w1 ⟨rfl, g1⟩
      have HG1 : Hid (Below w.heap.size w w1) := btr g0 g1 (Nat.le_refl _)
      have HX1 : Hid (Be w1 w.heap.size 0 x) := HX.out.below (by simp) g1
      have z1 := g1.size
      simp at z1
      have c0 : w1.cell? ⟨w.heap.size, 0, none⟩ = some (.int .i64 (t : Int)) := by rw [← HT.out]; exact HX1.out.cs.1
      have c1 : w1.cell? ⟨f, 1 + t, none⟩ = some (.slice a l.length cap) := (HG1.out.cell (p := ⟨f, 1 + t, none⟩) hfl).trans hcv
      have ht8i : (t : Int) < 8 := by omega
      clear g1
      go_wp2_with fail
      go_quiet (fail)
      obtain ⟨U, hU⟩ : ∃ U, w1.drewN nq = U := ⟨_, rfl⟩
      rw [hU]
      have HGU : Hid (Below w.heap.size w U) := (show Below _ _ _ by rw [← hU]; exact bdr HG1.out nq)
      have HXU : Hid (Be U w.heap.size 0 x) := (show Be _ _ _ _ by rw [← hU]; exact HX1.out)
      have zU : w.heap.size + 1 ≤ U.heap.size := by rw [← hU]; exact z1
      clear hU c0 c1 z1
      go_wp2_with fail
      refine (HIx.out U HGU.out (by omega) HXU.out).mono ?_
      rintro e w2 ⟨rfl, g2⟩
      have HG2 : Hid (Below w.heap.size w w2) := btr HGU.out g2 (Nat.le_refl _)
      have HX2 : Hid (Be w2 w.heap.size 0 x) := HXU.out.below (by omega) g2
      clear g2
      go_wp2_with (refine load_E rfl (.tmp 4) rfl w.heap.size 0 x rfl HX2.out ?_)
      refine (HCl.out w2 HG2.out).mono ?_
      rintro e w3 ⟨rfl, g3⟩
      have HG3 : Hid (Below w.heap.size w w3) := btr HG2.out g3 (Nat.le_refl _)
      clear g3
      go_wp2_with fail
      go_ret
      exact ⟨rfl, HNo.out _ HG3.out (by rw [HE.out]; decide)⟩
    | false =>
      have hk : chk = false ∨ (chk = true ∧ C = false) := by
        cases chk
        · exact .inl rfl
        · exact .inr ⟨rfl, by simpa using hcc⟩
      have HE0 : Hid (addE room (l.map Fe.p) x.p chk = if (l.map Fe.p).any (twinB x.p) = true then 0 else if room ≤ (l.map Fe.p).length then 27 else 0) := (show _ = _ by unfold addE; rw [if_neg (by rw [← HC.out, hcc]; decide)])
      clear hcc HC
      by_cases hIp : 0 ≤ I
      · obtain ⟨i, rfl⟩ := Int.eq_ofNat_of_zero_le hIp
        obtain ⟨hput, _, hany⟩ := putL_at HI.out.symm
        have hil : i < l.length := by omega
        have HE : Hid (addE room (l.map Fe.p) x.p chk = 0) := (show _ = _ by rw [HE0.out, if_pos hany])
        have hne : l ≠ [] := by intro e; rw [e] at hil; cases hil
        obtain ⟨gb, cap', hvv, _, hgb, hnc, hcm⟩ := OwnE.form (HOW.out w (Below.refl _ _)) hne
        simp only [Value.slice.injEq] at hvv
        obtain ⟨rfl, _, rfl⟩ := hvv
        have hgs := HF.out.1.sr t ht8' gb (by rw [HV.out]; rfl)
        have HPut : Hid (∀ R y, R.ownsRow 0 40 10 (.slice (some ⟨gb, 0, none⟩) l.length cap) l.length (flatE (l.set i y)) → w.grownBy R (some gb) → FW R y → y.p = x.p → (∀ b, InF y b → w.heap.size ≤ b) → ∃ S', Fs R f S' room (addT room P x.p chk) ∧ Kept S w R ∧ ∀ b, S' b → S b ∨ w.heap.size ≤ b) := (show ∀ R y, _ from fun R y hor hgr hyw hyp hyi => by
          obtain ⟨hFl, hp⟩ := HF.out
          rw [HP.out]
          have hfb : R.heap[f]? = w.heap[f]? := hgr.block f hfl (fun e => hgs.2 (Option.some.inj e).symm)
          refine ⟨more S w R, ⟨upd V t (V t), upd L t (l.set i y), ?_, ?_⟩, kept_gby (f := f) (Below.refl _ _) hgr hgs.1, more_sub⟩
          · refine hFl.update ht8' hgr.size (fun b hb _ hne => hgr.block b hb (fun e => hne (by rw [HV.out]; exact e.symm))) (fun o _ => World.cell?_of_block (w := w) hfb) ((World.cell?_of_block (w := w) hfb).trans (hFl.cv t ht8')) (fun o => World.frozen?_of_block (w := w) hfb) ?_ (.inl rfl) ?_ ?_
            · unfold OwnE; rw [HV.out, List.length_set]; exact hor
            · intro z hz
              rcases List.mem_or_eq_of_mem_set hz with hz | rfl
              · obtain ⟨z1, z2⟩ := HLW.out z hz
                refine ⟨z1.stay hgr.size (fun b hb hlt => hgr.block b hlt (fun e => (z2 b hb).2.2 t ht8' (by rw [HV.out]; exact e.symm))), fun b hb => ⟨.inl ⟨z, by rw [← HLt.out]; exact hz, hb⟩, (z2 b hb).2.2 t ht8'⟩⟩
              · refine ⟨hyw, fun b hb => ⟨.inr (hyi b hb), ?_⟩⟩
                rw [HV.out]
                intro e
                have e' : gb = b := Option.some.inj e
                have := hyi b hb
                omega
            · rw [List.length_set, HLt.out]; exact hFl.nm t ht8'
          · intro u hu
            by_cases e : u = t
            · subst e
              rw [upd_same, upd_same]
              unfold addL
              rw [if_pos HE.out, hput, List.map_set, hyp]
            · rw [upd_other _ _ _ e, upd_other _ _ _ e]; exact hp u hu)
        have h0 : (0 : Int) ≤ (i : Int) := by omega
        rw [HR.out, HE.out]
        clear hput hany HE0 HE hne HI HNo
        rcases hk with rfl | ⟨rfl, hCf⟩
        · go_enter Tryz.func19, Tryz.ntmps19
          go_wp2_with (refine load_E rfl (.tmp 4) rfl w.heap.size 0 x rfl HX.out ?_)
          refine HWr.out.mono ?_
          rintro e w1 ⟨rfl, g1⟩
          have HG1 : Hid (Below w.heap.size w w1) := btr g0 g1 (Nat.le_refl _)
          have HX1 : Hid (Be w1 w.heap.size 0 x) := HX.out.below (by simp) g1
          have z1 := g1.size
          simp at z1
          have c0 : w1.cell? ⟨w.heap.size, 0, none⟩ = some (.int .i64 (t : Int)) := by rw [← HT.out]; exact HX1.out.cs.1
          have c1 : w1.cell? ⟨f, 1 + t, none⟩ = some (.slice (some ⟨gb, 0, none⟩) l.length cap) := (HG1.out.cell (p := ⟨f, 1 + t, none⟩) hfl).trans hcv
          have ht8i : (t : Int) < 8 := by omega
          clear g1
          go_wp2_with fail
          go_quiet (fail)
          obtain ⟨U, hU⟩ : ∃ U, w1.drewN nq = U := ⟨_, rfl⟩
          rw [hU]
          have HGU : Hid (Below w.heap.size w U) := (show Below _ _ _ by rw [← hU]; exact bdr HG1.out nq)
          have HXU : Hid (Be U w.heap.size 0 x) := (show Be _ _ _ _ by rw [← hU]; exact HX1.out)
          have zU : w.heap.size + 1 ≤ U.heap.size := by rw [← hU]; exact z1
          clear hU c0 c1 z1
          go_wp2_with fail
          refine (HIx.out U HGU.out (by omega) HXU.out).mono ?_
          rintro e w3 ⟨rfl, g3⟩
          have HG3 : Hid (Below w.heap.size w w3) := btr HGU.out g3 (Nat.le_refl _)
          have HX3 : Hid (Be w3 w.heap.size 0 x) := HXU.out.below (by omega) g3
          have z3 : w.heap.size + 1 ≤ w3.heap.size := by have := g3.size; omega
          clear g3
          go_wp2_with (refine load_E rfl (.tmp 4) rfl w.heap.size 0 x rfl HX3.out ?_)
          refine (copyOf_any x w3 (HXW.out.below HG3.out)).mono ?_
          rintro e w4 ⟨y, rfl, hyp, hyw, hyi, g4⟩
          have HY : Hid (y.p = x.p ∧ FW w4 y ∧ (∀ b, InF y b → w3.heap.size ≤ b)) := (show _ ∧ _ from ⟨hyp, hyw, hyi⟩)
          have HG4 : Hid (Below w.heap.size w w4) := btr HG3.out g4 (Nat.le_refl _)
          clear hyp hyw hyi g4
          go_wp2_with (refine store_E rfl (.tmp 55) (.tmp 54) rfl gb (i * 10) y (by simp [Act.eval, Act.put]) rfl (OwnE.there rfl (HOW.out w4 HG4.out) i hil) ?_; intro R hR bR tR oR; have HOR : Hid (R.ownsRow 0 40 10 (.slice (some ⟨gb, 0, none⟩) l.length cap) l.length (flatE (l.set i y))) := (show World.ownsRow _ _ _ _ _ _ _ from (by rw [hR]; exact OwnE.set rfl (HOW.out w4 HG4.out) i hil y)); have HGR : Hid (w.grownBy R (some gb)) := gby_only (gby_of_below _ HG4.out) oR (.inr rfl); have HZR : Hid (FW R y) := HY.out.2.1.stay (by rw [oR.size]; exact Nat.le_refl _) (fun b hb _ => oR.block b (by have := HY.out.2.2 b hb; omega)); clear hR bR tR oR)
          go_ret
          exact ⟨rfl, HPut.out R y HOR.out HGR.out HZR.out HY.out.1 (fun b hb => by have := HY.out.2.2 b hb; omega)⟩
        · rw [hCf] at HCl
          clear hCf
          go_enter Tryz.func19, Tryz.ntmps19
          go_wp2_with (refine load_E rfl (.tmp 4) rfl w.heap.size 0 x rfl HX.out ?_)
          refine HWr.out.mono ?_
          rintro e w1 ⟨rfl, g1⟩
          have HG1 : Hid (Below w.heap.size w w1) := btr g0 g1 (Nat.le_refl _)
          have HX1 : Hid (Be w1 w.heap.size 0 x) := HX.out.below (by simp) g1
          have z1 := g1.size
          simp at z1
          have c0 : w1.cell? ⟨w.heap.size, 0, none⟩ = some (.int .i64 (t : Int)) := by rw [← HT.out]; exact HX1.out.cs.1
          have c1 : w1.cell? ⟨f, 1 + t, none⟩ = some (.slice (some ⟨gb, 0, none⟩) l.length cap) := (HG1.out.cell (p := ⟨f, 1 + t, none⟩) hfl).trans hcv
          have ht8i : (t : Int) < 8 := by omega
          clear g1
          go_wp2_with fail
          go_quiet (fail)
          obtain ⟨U, hU⟩ : ∃ U, w1.drewN nq = U := ⟨_, rfl⟩
          rw [hU]
          have HGU : Hid (Below w.heap.size w U) := (show Below _ _ _ by rw [← hU]; exact bdr HG1.out nq)
          have HXU : Hid (Be U w.heap.size 0 x) := (show Be _ _ _ _ by rw [← hU]; exact HX1.out)
          have zU : w.heap.size + 1 ≤ U.heap.size := by rw [← hU]; exact z1
          clear hU c0 c1 z1
          go_wp2_with fail
          refine (HIx.out U HGU.out (by omega) HXU.out).mono ?_
          rintro e w2 ⟨rfl, g2⟩
          have HG2 : Hid (Below w.heap.size w w2) := btr HGU.out g2 (Nat.le_refl _)
          have HX2 : Hid (Be w2 w.heap.size 0 x) := HXU.out.below (by omega) g2
          have z2 := g2.size
          clear g2
          go_wp2_with (refine load_E rfl (.tmp 4) rfl w.heap.size 0 x rfl HX2.out ?_)
          refine (HCl.out w2 HG2.out).mono ?_
          rintro e w3 ⟨rfl, g3⟩
          have HG3 : Hid (Below w.heap.size w w3) := btr HG2.out g3 (Nat.le_refl _)
          have HX3 : Hid (Be w3 w.heap.size 0 x) := HX2.out.below (by omega) g3
          have z3 : w.heap.size + 1 ≤ w3.heap.size := by have := g3.size; omega
          clear g3
          go_wp2_with (refine load_E rfl (.tmp 4) rfl w.heap.size 0 x rfl HX3.out ?_)
          refine (copyOf_any x w3 (HXW.out.below HG3.out)).mono ?_
          rintro e w4 ⟨y, rfl, hyp, hyw, hyi, g4⟩
          have HY : Hid (y.p = x.p ∧ FW w4 y ∧ (∀ b, InF y b → w3.heap.size ≤ b)) := (show _ ∧ _ from ⟨hyp, hyw, hyi⟩)
          have HG4 : Hid (Below w.heap.size w w4) := btr HG3.out g4 (Nat.le_refl _)
          clear hyp hyw hyi g4
          go_wp2_with (refine store_E rfl (.tmp 55) (.tmp 54) rfl gb (i * 10) y (by simp [Act.eval, Act.put]) rfl (OwnE.there rfl (HOW.out w4 HG4.out) i hil) ?_; intro R hR bR tR oR; have HOR : Hid (R.ownsRow 0 40 10 (.slice (some ⟨gb, 0, none⟩) l.length cap) l.length (flatE (l.set i y))) := (show World.ownsRow _ _ _ _ _ _ _ from (by rw [hR]; exact OwnE.set rfl (HOW.out w4 HG4.out) i hil y)); have HGR : Hid (w.grownBy R (some gb)) := gby_only (gby_of_below _ HG4.out) oR (.inr rfl); have HZR : Hid (FW R y) := HY.out.2.1.stay (by rw [oR.size]; exact Nat.le_refl _) (fun b hb _ => oR.block b (by have := HY.out.2.2 b hb; omega)); clear hR bR tR oR)
          go_ret
          exact ⟨rfl, HPut.out R y HOR.out HGR.out HZR.out HY.out.1 (fun b hb => by have := HY.out.2.2 b hb; omega)⟩
      · have hI1 : I = -1 := by omega
        subst hI1
        obtain ⟨hput, hany⟩ := putL_none HI.out.symm
        by_cases hro : room ≤ (l.length : Int)
        · have HE : Hid (addE room (l.map Fe.p) x.p chk = 27) := (show _ = _ by rw [HE0.out, if_neg (by rw [hany]; decide), if_pos (by simpa using hro)])
          rw [HR.out, HE.out]
          clear hput hany HE0 HI
          rcases hk with rfl | ⟨rfl, hCf⟩
          · go_enter Tryz.func19, Tryz.ntmps19
            go_wp2_with (refine load_E rfl (.tmp 4) rfl w.heap.size 0 x rfl HX.out ?_)
            refine HWr.out.mono ?_
            rintro e w1 ⟨rfl, g1⟩
            have HG1 : Hid (Below w.heap.size w w1) := btr g0 g1 (Nat.le_refl _)
            have HX1 : Hid (Be w1 w.heap.size 0 x) := HX.out.below (by simp) g1
            have z1 := g1.size
            simp at z1
            have c0 : w1.cell? ⟨w.heap.size, 0, none⟩ = some (.int .i64 (t : Int)) := by rw [← HT.out]; exact HX1.out.cs.1
            have c1 : w1.cell? ⟨f, 1 + t, none⟩ = some (.slice a l.length cap) := (HG1.out.cell (p := ⟨f, 1 + t, none⟩) hfl).trans hcv
            have ht8i : (t : Int) < 8 := by omega
            clear g1
            go_wp2_with fail
            go_quiet (fail)
            obtain ⟨U, hU⟩ : ∃ U, w1.drewN nq = U := ⟨_, rfl⟩
            rw [hU]
            have HGU : Hid (Below w.heap.size w U) := (show Below _ _ _ by rw [← hU]; exact bdr HG1.out nq)
            have HXU : Hid (Be U w.heap.size 0 x) := (show Be _ _ _ _ by rw [← hU]; exact HX1.out)
            have zU : w.heap.size + 1 ≤ U.heap.size := by rw [← hU]; exact z1
            clear hU c0 c1 z1
            go_wp2_with fail
            refine (HIx.out U HGU.out (by omega) HXU.out).mono ?_
            rintro e w3 ⟨rfl, g3⟩
            have HG3 : Hid (Below w.heap.size w w3) := btr HGU.out g3 (Nat.le_refl _)
            have HX3 : Hid (Be w3 w.heap.size 0 x) := HXU.out.below (by omega) g3
            have z3 : w.heap.size + 1 ≤ w3.heap.size := by have := g3.size; omega
            clear g3
            have rm3 : w3.cell? ⟨f, 0, none⟩ = some (.int .i64 room) := (HG3.out.cell (p := ⟨f, 0, none⟩) hfl).trans hrm
            go_wp2_with fail
            go_ret
            exact ⟨rfl, HNo.out _ HG3.out (by rw [HE.out]; decide)⟩
          · rw [hCf] at HCl
            clear hCf
            go_enter Tryz.func19, Tryz.ntmps19
            go_wp2_with (refine load_E rfl (.tmp 4) rfl w.heap.size 0 x rfl HX.out ?_)
            refine HWr.out.mono ?_
            rintro e w1 ⟨rfl, g1⟩
            have HG1 : Hid (Below w.heap.size w w1) := btr g0 g1 (Nat.le_refl _)
            have HX1 : Hid (Be w1 w.heap.size 0 x) := HX.out.below (by simp) g1
            have z1 := g1.size
            simp at z1
            have c0 : w1.cell? ⟨w.heap.size, 0, none⟩ = some (.int .i64 (t : Int)) := by rw [← HT.out]; exact HX1.out.cs.1
            have c1 : w1.cell? ⟨f, 1 + t, none⟩ = some (.slice a l.length cap) := (HG1.out.cell (p := ⟨f, 1 + t, none⟩) hfl).trans hcv
            have ht8i : (t : Int) < 8 := by omega
            clear g1
            go_wp2_with fail
            go_quiet (fail)
            obtain ⟨U, hU⟩ : ∃ U, w1.drewN nq = U := ⟨_, rfl⟩
            rw [hU]
            have HGU : Hid (Below w.heap.size w U) := (show Below _ _ _ by rw [← hU]; exact bdr HG1.out nq)
            have HXU : Hid (Be U w.heap.size 0 x) := (show Be _ _ _ _ by rw [← hU]; exact HX1.out)
            have zU : w.heap.size + 1 ≤ U.heap.size := by rw [← hU]; exact z1
            clear hU c0 c1 z1
            go_wp2_with fail
            refine (HIx.out U HGU.out (by omega) HXU.out).mono ?_
            rintro e w2 ⟨rfl, g2⟩
            have HG2 : Hid (Below w.heap.size w w2) := btr HGU.out g2 (Nat.le_refl _)
            have HX2 : Hid (Be w2 w.heap.size 0 x) := HXU.out.below (by omega) g2
            have z2 := g2.size
            clear g2
            go_wp2_with (refine load_E rfl (.tmp 4) rfl w.heap.size 0 x rfl HX2.out ?_)
            refine (HCl.out w2 HG2.out).mono ?_
            rintro e w3 ⟨rfl, g3⟩
            have HG3 : Hid (Below w.heap.size w w3) := btr HG2.out g3 (Nat.le_refl _)
            have HX3 : Hid (Be w3 w.heap.size 0 x) := HX2.out.below (by omega) g3
            have z3 : w.heap.size + 1 ≤ w3.heap.size := by have := g3.size; omega
            clear g3
            have rm3 : w3.cell? ⟨f, 0, none⟩ = some (.int .i64 room) := (HG3.out.cell (p := ⟨f, 0, none⟩) hfl).trans hrm
            go_wp2_with fail
            go_ret
            exact ⟨rfl, HNo.out _ HG3.out (by rw [HE.out]; decide)⟩
        · have HE : Hid (addE room (l.map Fe.p) x.p chk = 0) := (show _ = _ by rw [HE0.out, if_neg (by rw [hany]; decide), if_neg (by simpa using hro)])
          obtain ⟨E, hE⟩ : ∃ E, E = endV x.p.pri (l.map Fe.p) := ⟨_, rfl⟩
          have hEl : E ≤ l.length := by rw [hE]; have := endV_le x.p.pri (l.map Fe.p); simpa using this
          have HEn : Hid (∀ W, Below w.heap.size w W → Calls Tryz.prog 38 #[.int .i64 x.p.pri, .slice a l.length cap] W fun e w' => e = .returned (.int .i64 (E : Int)) ∧ Below W.heap.size W w') := (show ∀ W, _ from fun W gW => by
            rw [hE]; exact endOf_any x.p.pri 0 _ l W (HOW.out W gW) (by omega))
          have hob : ∀ b, (Value.slice a l.length cap).ownBlock = some b → S b ∧ b ≠ f ∧ b < w.heap.size := fun b hb => by
            have := HF.out.1.sr t ht8' b (by rw [HV.out]; exact hb)
            exact ⟨this.1, this.2, HF.out.1.lt b this.1⟩
          have HIn : Hid (∀ w6 y, Below w.heap.size w w6 → Calls Tryz.prog 37 #[.slice a l.length cap, .int .i64 (E : Int), .slice (some ⟨w6.heap.size, 0, none⟩) 1 1] (w6.alloc (.cells (feC y) 40)) fun e w' => ∃ v', e = .returned v' ∧ OwnE 0 w' v' (l.take E ++ y :: l.drop E) ∧ (w6.alloc (.cells (feC y) 40)).grownBy w' (Value.slice a l.length cap).ownBlock ∧ Fresh (w6.alloc (.cells (feC y) 40)) (.slice a l.length cap) v') := (show ∀ w6 y, _ from fun w6 y gW =>
            insert_any 0 _ l E hEl y w6.heap.size _ (HOW.out _ (btr gW (show Below w6.heap.size w6 (w6.alloc (.cells (feC y) 40)) by go_grown) (Nat.le_refl _))) (by omega) (Nat.zero_le _) (heap_alloc_new w6 _) (fun e => by have := (hob _ e).2.2; have := gW.size; omega))
          have HKp : Hid (∀ w6 y w8, Below w.heap.size w w6 → w.heap.size + 1 ≤ w6.heap.size → (w6.alloc (.cells (feC y) 40)).grownBy w8 (Value.slice a l.length cap).ownBlock → w8.cell? ⟨f, 1 + t, none⟩ = some (.slice a l.length cap) ∧ w8.frozen? ⟨f, 1 + t, none⟩ = false ∧ w8.heap[w.heap.size]? = (w6.alloc (.cells (feC y) 40)).heap[w.heap.size]?) := (show ∀ w6 y w8, _ from fun w6 y w8 gW hz6 hg => by
            have G := btr gW (show Below w6.heap.size w6 (w6.alloc (.cells (feC y) 40)) by go_grown) (Nat.le_refl _)
            have zG : (w6.alloc (.cells (feC y) 40)).heap.size = w6.heap.size + 1 := by simp
            have hf1 : w8.heap[f]? = w.heap[f]? := (hg.block f (by omega) (fun e => (hob f e.symm).2.1 rfl)).trans (G.block f hfl)
            exact ⟨(World.cell?_of_block (w := w) hf1).trans hcv, (World.frozen?_of_block (w := w) hf1).trans hfz, hg.block _ (by omega) (fun e => by have := (hob _ e.symm).2.2; omega)⟩)
          have HIns : Hid (∀ w6 y w8 a8 n8 cap8, Below w.heap.size w w6 → w.heap.size + 1 ≤ w6.heap.size → y.p = x.p → FW w6 y → (∀ b, InF y b → w.heap.size ≤ b) → (OwnE 0 w8 (.slice a8 n8 cap8) (l.take E ++ y :: l.drop E) ∧ (w6.alloc (.cells (feC y) 40)).grownBy w8 (Value.slice a l.length cap).ownBlock ∧ Fresh (w6.alloc (.cells (feC y) 40)) (.slice a l.length cap) (.slice a8 n8 cap8)) → ∃ S', Fs (w8.setCell ⟨f, 1 + t, none⟩ (.slice a8 n8 cap8)) f S' room (addT room P x.p chk) ∧ Kept S w (w8.setCell ⟨f, 1 + t, none⟩ (.slice a8 n8 cap8)) ∧ ∀ b, S' b → S b ∨ w.heap.size ≤ b) := (show ∀ w6 y w8 a8 n8 cap8, _ from fun w6 y w8 a8 n8 cap8 gW hz6 hyp hyw hyi ⟨r1, r2, r3⟩ => by
            obtain ⟨hFl, hp⟩ := HF.out
            have ga : Below w6.heap.size w6 (w6.alloc (.cells (feC y) 40)) := by go_grown
            have zG : (w6.alloc (.cells (feC y) 40)).heap.size = w6.heap.size + 1 := by simp
            have G1 : w.grownBy w8 (Value.slice a l.length cap).ownBlock := gby_trans (gby_of_below _ (btr gW ga (Nat.le_refl _))) r2
            obtain ⟨d1, d2, _⟩ := HKp.out w6 y w8 gW hz6 r2
            obtain ⟨U, hU⟩ : ∃ U, w8.setCell ⟨f, 1 + t, none⟩ (.slice a8 n8 cap8) = U := ⟨_, rfl⟩
            have oU : Only f w8 U := by rw [← hU]; exact (Only.refl _ _).setCell _ _
            rw [hU, HP.out]
            have zU : U.heap.size = w8.heap.size := oU.size
            have hv8 : (Value.slice a8 n8 cap8).ownBlock = (V t).ownBlock ∨ ∃ g, (Value.slice a8 n8 cap8).ownBlock = some g ∧ w6.heap.size < g := by
              rw [HV.out]
              rcases r3 with e | ⟨g, e, hge⟩
              · exact .inl e
              · exact .inr ⟨g, e, by omega⟩
            have hoz : ∀ b, (Value.slice a8 n8 cap8).ownBlock = some b → b ≠ f := fun b hb => by
              rcases hv8 with e | ⟨g, e, hge⟩
              · exact (hFl.sr t ht8' b (by rw [← e]; exact hb)).2
              · rw [hb] at e
                have e' : b = g := Option.some.inj e
                omega
            have hfw : w8.heap[f]? = w.heap[f]? := G1.block f hfl (fun e => (hob f e.symm).2.1 rfl)
            refine ⟨more S w U, ⟨upd V t (.slice a8 n8 cap8), upd L t (l.take E ++ y :: l.drop E), ?_, ?_⟩, ⟨oU.os.trans G1.os, oU.tape.trans G1.tape, oU.output.trans G1.output, by rw [zU]; exact G1.size, fun b hb hn => (oU.block b (fun e => hn (by rw [e]; exact hFl.sf))).trans (G1.block b hb (fun e => hn (hob b e.symm).1))⟩, more_sub⟩
            · refine hFl.update ht8' (by rw [zU]; exact G1.size) (fun b hb hbf hne => (oU.block b hbf).trans (G1.block b hb (fun e => hne (by rw [HV.out]; exact e.symm)))) (fun o ho => ?_) ?_ (fun o => ?_) ?_ ?_ ?_ ?_
              · rw [← hU, World.cell?_setCell_other _ _ _ _ (by simp)]; exact World.cell?_of_block (w := w) hfw
              · rw [← hU]; exact World.cell?_setCell_same _ _ _ d1
              · rw [← hU, World.frozen?_setCell]; exact World.frozen?_of_block (w := w) hfw
              · refine r1.kept (row := some f) ⟨oU.os, oU.tape, oU.output, by rw [zU]; exact Nat.le_refl _, fun k _ hk => oU.block k (fun e => hk (by rw [e]))⟩ ?_
                cases hob2 : (Value.slice a8 n8 cap8).ownBlock with
                | none => exact .inl rfl
                | some b => exact .inr (fun e => hoz b hob2 (Option.some.inj e))
              · rcases hv8 with e | ⟨g, e, hge⟩
                · exact .inl e
                · exact .inr ⟨g, e, by have := gW.size; omega⟩
              · intro z hz
                have hz2 : z ∈ l ∨ z = y := by
                  rcases List.mem_append.1 hz with hz | hz
                  · exact .inl (List.mem_of_mem_take hz)
                  · rcases List.mem_cons.1 hz with hz | hz
                    · exact .inr hz
                    · exact .inl (List.mem_of_mem_drop hz)
                rcases hz2 with hz | rfl
                · obtain ⟨z1, z2⟩ := HLW.out z hz
                  refine ⟨z1.stay (by rw [zU]; exact G1.size) (fun b hb hlt => (oU.block b (z2 b hb).2.1).trans (G1.block b hlt (fun e => (z2 b hb).2.2 t ht8' (by rw [HV.out]; exact e.symm)))), fun b hb => ⟨.inl ⟨z, by rw [← HLt.out]; exact hz, hb⟩, ?_⟩⟩
                  rcases hv8 with e | ⟨g, e, hge⟩
                  · rw [e]; exact (z2 b hb).2.2 t ht8'
                  · rw [e]
                    intro e'
                    have e2 : g = b := Option.some.inj e'
                    have := hFl.lt b (z2 b hb).1
                    have := gW.size
                    omega
                · have zl : ∀ b, InF z b → b < w6.heap.size := fun b hb => hyw.lt hb
                  have z8 := r2.size
                  refine ⟨hyw.stay (by rw [zU]; omega) (fun b hb hlt => ?_), fun b hb => ⟨.inr (hyi b hb), ?_⟩⟩
                  · have h1 := hyi b hb
                    rw [oU.block b (by omega), r2.block b (by omega) (fun e => by have := (hob b e.symm).2.2; omega)]
                    exact ga.block b hlt
                  · have h1 := hyi b hb
                    have h2 := zl b hb
                    rcases hv8 with e | ⟨g, e, hge⟩
                    · rw [e, HV.out]
                      intro e'
                      have := (hob b e').2.2
                      omega
                    · rw [e]
                      intro e'
                      have e2 : g = b := Option.some.inj e'
                      omega
              · rw [put_mid l E y hEl]; omega
            · intro u hu
              by_cases e : u = t
              · subst e
                rw [upd_same, upd_same]
                unfold addL
                rw [if_pos HE.out, hput]
                unfold insL
                rw [← hE, List.map_append, List.map_cons, List.map_take, List.map_drop, hyp]
              · rw [upd_other _ _ _ e, upd_other _ _ _ e]; exact hp u hu)
          rw [HR.out, HE.out]
          clear hput hany HE0 HI hE HE hob HNo
          rcases hk with rfl | ⟨rfl, hCf⟩
          · go_enter Tryz.func19, Tryz.ntmps19
            go_wp2_with (refine load_E rfl (.tmp 4) rfl w.heap.size 0 x rfl HX.out ?_)
            refine HWr.out.mono ?_
            rintro e w1 ⟨rfl, g1⟩
            have HG1 : Hid (Below w.heap.size w w1) := btr g0 g1 (Nat.le_refl _)
            have HX1 : Hid (Be w1 w.heap.size 0 x) := HX.out.below (by simp) g1
            have z1 := g1.size
            simp at z1
            have c0 : w1.cell? ⟨w.heap.size, 0, none⟩ = some (.int .i64 (t : Int)) := by rw [← HT.out]; exact HX1.out.cs.1
            have c1 : w1.cell? ⟨f, 1 + t, none⟩ = some (.slice a l.length cap) := (HG1.out.cell (p := ⟨f, 1 + t, none⟩) hfl).trans hcv
            have ht8i : (t : Int) < 8 := by omega
            clear g1
            go_wp2_with fail
            go_quiet (fail)
            obtain ⟨U, hU⟩ : ∃ U, w1.drewN nq = U := ⟨_, rfl⟩
            rw [hU]
            have HGU : Hid (Below w.heap.size w U) := (show Below _ _ _ by rw [← hU]; exact bdr HG1.out nq)
            have HXU : Hid (Be U w.heap.size 0 x) := (show Be _ _ _ _ by rw [← hU]; exact HX1.out)
            have zU : w.heap.size + 1 ≤ U.heap.size := by rw [← hU]; exact z1
            clear hU c0 c1 z1
            go_wp2_with fail
            refine (HIx.out U HGU.out (by omega) HXU.out).mono ?_
            rintro e w3 ⟨rfl, g3⟩
            have HG3 : Hid (Below w.heap.size w w3) := btr HGU.out g3 (Nat.le_refl _)
            have HX3 : Hid (Be w3 w.heap.size 0 x) := HXU.out.below (by omega) g3
            have z3 : w.heap.size + 1 ≤ w3.heap.size := by have := g3.size; omega
            clear g3
            have rm3 : w3.cell? ⟨f, 0, none⟩ = some (.int .i64 room) := (HG3.out.cell (p := ⟨f, 0, none⟩) hfl).trans hrm
            have HDW : Hid (Below w.heap.size w w3.drew) := HG3.out.drew
            have HSX : Hid (∀ W, Be W w.heap.size 0 x → SX w.heap.size t x W) := (show ∀ W, _ from fun W hB => sx_of HT.out hB)
            have HX4 : Hid (Be w3.drew w.heap.size 0 x) := HX3.out
            have HKs : Hid (∀ W v, Be W w.heap.size 0 x → Be (W.setCell ⟨f, 1 + t, none⟩ v) w.heap.size 0 x) := (show ∀ W v, _ from fun W v hB => hB.block (((Only.refl f W).setCell (1 + t) v).block _ (by omega)))
            have HCo : Hid (∀ W, Below w.heap.size w W → Calls Tryz.prog 27 #[.agg #[.int .i64 (t : Int), .int .i64 x.p.pri, .slice x.ta x.p.lt.length x.tc, .slice x.aa x.p.la.length x.ca, .slice x.aw x.p.lw.length x.cw, .bool x.p.clr, .int .u64 x.p.mt, .int .u64 x.p.mm, .int .i64 x.p.met, .int .i64 x.p.go]] W fun e w' => ∃ y : Fe, e = .returned (feV y) ∧ y.p = x.p ∧ FW w' y ∧ (∀ b, InF y b → W.heap.size ≤ b) ∧ Below W.heap.size W w') := (show ∀ W, _ from fun W gW => by rw [← HT.out]; exact copyOf_any x W (HXW.out.below gW))
            go_wp2_with fail
            go_region_held (SX w.heap.size t x) (first | exact HSX.out _ HX4.out | exact HSX.out _ HX5.out | exact HSX.out _ HX6.out | exact HSX.out _ HX7.out | exact HSX.out _ HX8.out | exact HSX.out _ (HKs.out _ _ HX8.out) | assumption)
              (first
              | (go_at_call 38; refine (HEn.out w3.drew HDW.out).mono ?_; rintro e w5 ⟨rfl, g5⟩; have HG5 : Hid (Below w.heap.size w w5) := btr HDW.out g5 (Nat.le_refl _); have z5 : w.heap.size + 1 ≤ w5.heap.size := (by have h5 := g5.size; have e5 : w3.drew.heap.size = w3.heap.size := rfl; omega); have HX5 : Hid (Be w5 w.heap.size 0 x) := HX4.out.below (show w.heap.size < w3.drew.heap.size from z3) g5; clear g5)
              | (go_at_call 27; refine (HCo.out w5 HG5.out).mono ?_; rintro e w6 ⟨y, rfl, hyp, hyw, hyi, g6⟩; have HY : Hid (y.p = x.p ∧ FW w6 y ∧ (∀ b, InF y b → w5.heap.size ≤ b)) := (show _ ∧ _ from ⟨hyp, hyw, hyi⟩); have HG6 : Hid (Below w.heap.size w w6) := btr HG5.out g6 (Nat.le_refl _); have z6 : w.heap.size + 1 ≤ w6.heap.size := (by have h6 := g6.size; omega); have HX6 : Hid (Be w6 w.heap.size 0 x) := HX5.out.below (by omega) g6; clear hyp hyw hyi g6; have HX7 : Hid (Be (w6.alloc (.cells (feC y) 40)) w.heap.size 0 x) := HX6.out.below (B := w6.heap.size) (by omega) (by go_grown))
              | (go_at_call 37; refine (HIn.out w6 y HG6.out).mono ?_; rintro e w8 ⟨v', rfl, hov, hgv, hfr⟩; obtain ⟨a8, cap8, hv8, hf8⟩ := OwnE.form2 hov; obtain ⟨n8, hn8⟩ : ∃ n, n = (l.take E ++ y :: l.drop E).length := ⟨_, rfl⟩; rw [← hn8] at hv8; subst hv8; have HR8 : Hid (OwnE 0 w8 (.slice a8 n8 cap8) (l.take E ++ y :: l.drop E) ∧ (w6.alloc (.cells (feC y) 40)).grownBy w8 (Value.slice a l.length cap).ownBlock ∧ Fresh (w6.alloc (.cells (feC y) 40)) (.slice a l.length cap) (.slice a8 n8 cap8)) := (show _ ∧ _ from ⟨hov, hgv, hfr⟩); obtain ⟨d1, d2, hb8⟩ := HKp.out w6 y w8 HG6.out z6 HR8.out.2.1; have HX8 : Hid (Be w8 w.heap.size 0 x) := HX7.out.block hb8; clear hov hgv hfr hf8 hn8 hb8))
            go_wp2_with fail
            go_ret
            exact ⟨rfl, HIns.out w6 y w8 a8 n8 cap8 HG6.out z6 HY.out.1 HY.out.2.1 (fun b hb => by have := HY.out.2.2 b hb; omega) HR8.out⟩
          · rw [hCf] at HCl
            clear hCf
            go_enter Tryz.func19, Tryz.ntmps19
            go_wp2_with (refine load_E rfl (.tmp 4) rfl w.heap.size 0 x rfl HX.out ?_)
            refine HWr.out.mono ?_
            rintro e w1 ⟨rfl, g1⟩
            have HG1 : Hid (Below w.heap.size w w1) := btr g0 g1 (Nat.le_refl _)
            have HX1 : Hid (Be w1 w.heap.size 0 x) := HX.out.below (by simp) g1
            have z1 := g1.size
            simp at z1
            have c0 : w1.cell? ⟨w.heap.size, 0, none⟩ = some (.int .i64 (t : Int)) := by rw [← HT.out]; exact HX1.out.cs.1
            have c1 : w1.cell? ⟨f, 1 + t, none⟩ = some (.slice a l.length cap) := (HG1.out.cell (p := ⟨f, 1 + t, none⟩) hfl).trans hcv
            have ht8i : (t : Int) < 8 := by omega
            clear g1
            go_wp2_with fail
            go_quiet (fail)
            obtain ⟨U, hU⟩ : ∃ U, w1.drewN nq = U := ⟨_, rfl⟩
            rw [hU]
            have HGU : Hid (Below w.heap.size w U) := (show Below _ _ _ by rw [← hU]; exact bdr HG1.out nq)
            have HXU : Hid (Be U w.heap.size 0 x) := (show Be _ _ _ _ by rw [← hU]; exact HX1.out)
            have zU : w.heap.size + 1 ≤ U.heap.size := by rw [← hU]; exact z1
            clear hU c0 c1 z1
            go_wp2_with fail
            refine (HIx.out U HGU.out (by omega) HXU.out).mono ?_
            rintro e w2 ⟨rfl, g2⟩
            have HG2 : Hid (Below w.heap.size w w2) := btr HGU.out g2 (Nat.le_refl _)
            have HX2 : Hid (Be w2 w.heap.size 0 x) := HXU.out.below (by omega) g2
            have z2 := g2.size
            clear g2
            go_wp2_with (refine load_E rfl (.tmp 4) rfl w.heap.size 0 x rfl HX2.out ?_)
            refine (HCl.out w2 HG2.out).mono ?_
            rintro e w3 ⟨rfl, g3⟩
            have HG3 : Hid (Below w.heap.size w w3) := btr HG2.out g3 (Nat.le_refl _)
            have HX3 : Hid (Be w3 w.heap.size 0 x) := HX2.out.below (by omega) g3
            have z3 : w.heap.size + 1 ≤ w3.heap.size := by have := g3.size; omega
            clear g3
            have rm3 : w3.cell? ⟨f, 0, none⟩ = some (.int .i64 room) := (HG3.out.cell (p := ⟨f, 0, none⟩) hfl).trans hrm
            have HDW : Hid (Below w.heap.size w w3.drew) := HG3.out.drew
            have HSX : Hid (∀ W, Be W w.heap.size 0 x → SX w.heap.size t x W) := (show ∀ W, _ from fun W hB => sx_of HT.out hB)
            have HX4 : Hid (Be w3.drew w.heap.size 0 x) := HX3.out
            have HKs : Hid (∀ W v, Be W w.heap.size 0 x → Be (W.setCell ⟨f, 1 + t, none⟩ v) w.heap.size 0 x) := (show ∀ W v, _ from fun W v hB => hB.block (((Only.refl f W).setCell (1 + t) v).block _ (by omega)))
            have HCo : Hid (∀ W, Below w.heap.size w W → Calls Tryz.prog 27 #[.agg #[.int .i64 (t : Int), .int .i64 x.p.pri, .slice x.ta x.p.lt.length x.tc, .slice x.aa x.p.la.length x.ca, .slice x.aw x.p.lw.length x.cw, .bool x.p.clr, .int .u64 x.p.mt, .int .u64 x.p.mm, .int .i64 x.p.met, .int .i64 x.p.go]] W fun e w' => ∃ y : Fe, e = .returned (feV y) ∧ y.p = x.p ∧ FW w' y ∧ (∀ b, InF y b → W.heap.size ≤ b) ∧ Below W.heap.size W w') := (show ∀ W, _ from fun W gW => by rw [← HT.out]; exact copyOf_any x W (HXW.out.below gW))
            go_wp2_with fail
            go_region_held (SX w.heap.size t x) (first | exact HSX.out _ HX4.out | exact HSX.out _ HX5.out | exact HSX.out _ HX6.out | exact HSX.out _ HX7.out | exact HSX.out _ HX8.out | exact HSX.out _ (HKs.out _ _ HX8.out) | assumption)
              (first
              | (go_at_call 38; refine (HEn.out w3.drew HDW.out).mono ?_; rintro e w5 ⟨rfl, g5⟩; have HG5 : Hid (Below w.heap.size w w5) := btr HDW.out g5 (Nat.le_refl _); have z5 : w.heap.size + 1 ≤ w5.heap.size := (by have h5 := g5.size; have e5 : w3.drew.heap.size = w3.heap.size := rfl; omega); have HX5 : Hid (Be w5 w.heap.size 0 x) := HX4.out.below (show w.heap.size < w3.drew.heap.size from z3) g5; clear g5)
              | (go_at_call 27; refine (HCo.out w5 HG5.out).mono ?_; rintro e w6 ⟨y, rfl, hyp, hyw, hyi, g6⟩; have HY : Hid (y.p = x.p ∧ FW w6 y ∧ (∀ b, InF y b → w5.heap.size ≤ b)) := (show _ ∧ _ from ⟨hyp, hyw, hyi⟩); have HG6 : Hid (Below w.heap.size w w6) := btr HG5.out g6 (Nat.le_refl _); have z6 : w.heap.size + 1 ≤ w6.heap.size := (by have h6 := g6.size; omega); have HX6 : Hid (Be w6 w.heap.size 0 x) := HX5.out.below (by omega) g6; clear hyp hyw hyi g6; have HX7 : Hid (Be (w6.alloc (.cells (feC y) 40)) w.heap.size 0 x) := HX6.out.below (B := w6.heap.size) (by omega) (by go_grown))
              | (go_at_call 37; refine (HIn.out w6 y HG6.out).mono ?_; rintro e w8 ⟨v', rfl, hov, hgv, hfr⟩; obtain ⟨a8, cap8, hv8, hf8⟩ := OwnE.form2 hov; obtain ⟨n8, hn8⟩ : ∃ n, n = (l.take E ++ y :: l.drop E).length := ⟨_, rfl⟩; rw [← hn8] at hv8; subst hv8; have HR8 : Hid (OwnE 0 w8 (.slice a8 n8 cap8) (l.take E ++ y :: l.drop E) ∧ (w6.alloc (.cells (feC y) 40)).grownBy w8 (Value.slice a l.length cap).ownBlock ∧ Fresh (w6.alloc (.cells (feC y) 40)) (.slice a l.length cap) (.slice a8 n8 cap8)) := (show _ ∧ _ from ⟨hov, hgv, hfr⟩); obtain ⟨d1, d2, hb8⟩ := HKp.out w6 y w8 HG6.out z6 HR8.out.2.1; have HX8 : Hid (Be w8 w.heap.size 0 x) := HX7.out.block hb8; clear hov hgv hfr hf8 hn8 hb8))
            go_wp2_with fail
            go_ret
            exact ⟨rfl, HIns.out w6 y w8 a8 n8 cap8 HG6.out z6 HY.out.1 HY.out.2.1 (fun b hb => by have := HY.out.2.2 b hb; omega) HR8.out⟩
  · have hR : addR room P x.p chk = wrongE x.p := by unfold addR; rw [if_neg hw0]
    have hP : addT room P x.p chk = P := by unfold addT; rw [if_neg hw0]
    rw [hP, hR]
    have HF : Hid (Fs w f S room P) := h
    have hn : (wrongE x.p != 0) = true := by simp [hw0]
    clear h hx hd hP hw0 hR
    generalize wrongE x.p = E at *
    go_enter Tryz.func19, Tryz.ntmps19
    go_wp2_with (refine load_E rfl (.tmp 4) rfl w.heap.size 0 x rfl HX.out ?_)
    refine HWr.out.mono ?_
    rintro e w1 ⟨rfl, g1⟩
    have HG1 : Hid (Below w.heap.size w w1) := btr g0 g1 (Nat.le_refl _)
    clear g1
    go_wp2_with fail
    go_ret
    exact ⟨rfl, S, HF.out.below HG1.out, Kept.of_below HG1.out, fun b hb => .inl hb⟩
end Go.Proofs.YtjjfhibkcngphaaGreatDoor
/-
  What few, do, SameEntry and the example answer, as contracts.
-/
namespace Go.Proofs.YtjjfhibkcngphaaGreatDoor
open Go.ChangeShapes Go.WideShapes Go.ChangeAt Go.RowKit
set_option linter.unusedVariables false
set_option linter.unusedSimpArgs false

/-- Has an entry not too much? -/
def fewB (x : Fp) : Bool := decide (x.lt.length ≤ 20) && decide (x.la.length ≤ 40) && decide (x.lw.length ≤ 40)
set_option maxHeartbeats 2000000 in
theorem few_any (x : Fe) (w : World) (h1 : x.p.lt.length ≤ maxLen) (h2 : x.p.la.length ≤ maxLen) (h3 : x.p.lw.length ≤ maxLen) : Calls Tryz.prog 7 #[feV x] w fun e w' => e = .returned (.bool (fewB x.p)) ∧ Below w.heap.size w w' := by
  unfold maxLen at h1 h2 h3
  unfold fewB
  obtain ⟨_, _, c2, c3, c4, _⟩ := (Be.new w x).cs
  cases b1 : decide (x.p.lt.length ≤ 20) with
  | false =>
    have i1 : ¬ ((x.p.lt.length : Int) ≤ 20) := by have := of_decide_eq_false b1; omega
    clear b1
    go_enter Tryz.func7, Tryz.ntmps7
    go_wp2
    go_ret
    exact ⟨rfl, by go_grown⟩
  | true =>
    have i1 : ((x.p.lt.length : Int) ≤ 20) := by have := of_decide_eq_true b1; omega
    clear b1
    cases b2 : decide (x.p.la.length ≤ 40) with
    | false =>
      have i2 : ¬ ((x.p.la.length : Int) ≤ 40) := by have := of_decide_eq_false b2; omega
      clear b2
      go_enter Tryz.func7, Tryz.ntmps7
      go_wp2
      go_ret
      exact ⟨rfl, by go_grown⟩
    | true =>
      have i2 : ((x.p.la.length : Int) ≤ 40) := by have := of_decide_eq_true b2; omega
      clear b2
      cases b3 : decide (x.p.lw.length ≤ 40) with
      | false =>
        have i3 : decide ((x.p.lw.length : Int) ≤ 40) = false := by have := of_decide_eq_false b3; simp; omega
        clear b3
        go_enter Tryz.func7, Tryz.ntmps7
        go_wp2
        go_ret
        exact ⟨rfl, by go_grown⟩
      | true =>
        have i3 : decide ((x.p.lw.length : Int) ≤ 40) = true := by have := of_decide_eq_true b3; simp; omega
        clear b3
        go_enter Tryz.func7, Tryz.ntmps7
        go_wp2
        go_ret
        exact ⟨rfl, by go_grown⟩
/-- A call. -/
structure Opn where
  ask : Int
  x : Fe
  hard : Bool
abbrev opV (o : Opn) : Value := .agg #[.int .i64 o.ask, .int .i64 o.x.p.tab, .int .i64 o.x.p.pri, .slice o.x.ta o.x.p.lt.length o.x.tc, .slice o.x.aa o.x.p.la.length o.x.ca, .slice o.x.aw o.x.p.lw.length o.x.cw, .bool o.x.p.clr, .int .u64 o.x.p.mt, .int .u64 o.x.p.mm, .int .i64 o.x.p.met, .int .i64 o.x.p.go, .bool o.hard]
abbrev opC (o : Opn) : Array Value := #[.int .i64 o.ask, .int .i64 o.x.p.tab, .int .i64 o.x.p.pri, .slice o.x.ta o.x.p.lt.length o.x.tc, .slice o.x.aa o.x.p.la.length o.x.ca, .slice o.x.aw o.x.p.lw.length o.x.cw, .bool o.x.p.clr, .int .u64 o.x.p.mt, .int .u64 o.x.p.mm, .int .i64 o.x.p.met, .int .i64 o.x.p.go, .bool o.hard]
abbrev ox (w : World) (o : Opn) : World := w.alloc (.cells (opC o) 42)
theorem range_mid {w : World} {b o : Nat} {cs ds : List Value} {k : Nat} (h : w.rangeAt b o cs) (hd : ∀ (j : Nat) (v : Value), ds[j]? = some v → cs[k + j]? = some v) : w.rangeAt b (o + k) ds := fun j v hv => by
  rw [Nat.add_assoc]
  exact h _ v (hd j v hv)
/-- A call's entry in its block. -/
theorem op_be {w : World} {b k : Nat} {o : Opn} (h : w.rangeAt b k (opC o).toList) : Be w b (k + 1) o.x := range_mid h (fun j v hv => by
  have e : (opC o).toList = .int .i64 o.ask :: ((feC o.x).toList ++ [.bool o.hard]) := rfl
  rw [Nat.add_comm 1 j, e, List.getElem?_cons_succ, List.getElem?_append_left (List.getElem?_eq_some_iff.1 hv).1]
  exact hv)
def doR (room : Int) (P : Nat → List Fp) (k : Int) (x : Fp) (hard : Bool) : Int := if k = 0 then addR room P x hard else wrongE x
def doP (room : Int) (P : Nat → List Fp) (k : Int) (x : Fp) (hard : Bool) : Nat → List Fp := if k = 0 then addT room P x hard else if k = 1 then modP P x hard else delP P x hard
set_option maxHeartbeats 4000000 in
theorem do_any (f : Nat) (S : Nat → Prop) (room : Int) (P : Nat → List Fp) (o : Opn) (w : World) (h : Fs w f S room P) (hx : FW w o.x) (hs : ∀ b, InF o.x b → ¬ S b) (hd : Cd w) :
    Calls Tryz.prog 11 #[.pointer (some ⟨f, 0, none⟩), opV o] w fun e w' => e = .returned (.int .i64 (doR room P o.ask o.x.p o.hard)) ∧ ∃ S', Fs w' f S' room (doP room P o.ask o.x.p o.hard) ∧ Kept S w w' ∧ ∀ b, S' b → S b ∨ w.heap.size ≤ b := by
  have g0 : Below w.heap.size w (ox w o) := by go_grown
  have HR := range_new w (opC o) 42
  have c0 : (ox w o).cell? ⟨w.heap.size, 0, none⟩ = some (.int .i64 o.ask) := by have := HR 0 _ rfl; rwa [Nat.zero_add] at this
  have c11 : (ox w o).cell? ⟨w.heap.size, 11, none⟩ = some (.bool o.hard) := by have := HR 11 _ rfl; rwa [Nat.zero_add] at this
  have HB : Hid (Be (ox w o) w.heap.size 1 o.x) := (show Be _ _ _ _ by have := op_be HR; rwa [Nat.zero_add] at this)
  have KK : ∀ {w' : World} {Q : Nat → List Fp}, (∃ S', Fs w' f S' room Q ∧ Kept S (ox w o) w' ∧ ∀ b, S' b → S b ∨ (ox w o).heap.size ≤ b) → ∃ S', Fs w' f S' room Q ∧ Kept S w w' ∧ ∀ b, S' b → S b ∨ w.heap.size ≤ b := fun {w' Q} ⟨S', h1, h2, h3⟩ => by
    refine ⟨S', h1, (Kept.of_below g0).trans h2 (fun k hk => .inl hk), fun b hb => ?_⟩
    rcases h3 b hb with h | h
    · exact .inl h
    · exact .inr (Nat.le_trans g0.size h)
  have hF := h.below g0
  have hX := hx.below g0
  have hD := hd.below g0
  by_cases k0 : o.ask = 0
  · have e1 : doR room P o.ask o.x.p o.hard = addR room P o.x.p o.hard := if_pos k0
    have e2 : doP room P o.ask o.x.p o.hard = addT room P o.x.p o.hard := if_pos k0
    rw [e1, e2]
    have HC : Hid (Calls Tryz.prog 19 #[.pointer (some ⟨f, 0, none⟩), feV o.x, .bool o.hard] (ox w o) fun e w' => e = .returned (.int .i64 (addR room P o.x.p o.hard)) ∧ ∃ S', Fs w' f S' room (addT room P o.x.p o.hard) ∧ Kept S w w' ∧ ∀ b, S' b → S b ∨ w.heap.size ≤ b) := (add_any f S room P o.x o.hard _ hF hX hD).mono fun _ _ ⟨a, b⟩ => ⟨a, KK b⟩
    have b0 : (o.ask == 0) = true := by simp [k0]
    clear e1 e2 KK hF hX hD h hx hs hd k0 HR g0
    generalize addR room P o.x.p o.hard = E at *
    go_enter Tryz.func11, Tryz.ntmps11
    go_wp2_with (refine load_E rfl (.tmp 10) rfl w.heap.size 1 o.x rfl HB.out ?_)
    refine HC.out.mono ?_
    rintro e w1 ⟨rfl, hP⟩
    have HP := hP
    clear hP
    go_wp2_with fail
    go_ret
    exact ⟨rfl, HP⟩
  · have b0 : (o.ask == 0) = false := by simp [k0]
    have e1 : doR room P o.ask o.x.p o.hard = wrongE o.x.p := if_neg k0
    by_cases k1 : o.ask = 1
    · have e2 : doP room P o.ask o.x.p o.hard = modP P o.x.p o.hard := by unfold doP; rw [if_neg k0, if_pos k1]
      rw [e1, e2]
      have HC : Hid (Calls Tryz.prog 24 #[.pointer (some ⟨f, 0, none⟩), feV o.x, .bool o.hard] (ox w o) fun e w' => e = .returned (.int .i64 (wrongE o.x.p)) ∧ ∃ S', Fs w' f S' room (modP P o.x.p o.hard) ∧ Kept S w w' ∧ ∀ b, S' b → S b ∨ w.heap.size ≤ b) := (modify_any f S room P o.x o.hard _ hF hX hs hD).mono fun _ _ ⟨a, b⟩ => ⟨a, KK b⟩
      have b1 : (o.ask == 1) = true := by simp [k1]
      clear e1 e2 KK hF hX hD h hx hs hd k0 k1 HR g0
      generalize wrongE o.x.p = E at *
      go_enter Tryz.func11, Tryz.ntmps11
      go_wp2_with (refine load_E rfl (.tmp 18) rfl w.heap.size 1 o.x rfl HB.out ?_)
      refine HC.out.mono ?_
      rintro e w1 ⟨rfl, hP⟩
      have HP := hP
      clear hP
      go_wp2_with fail
      go_ret
      exact ⟨rfl, HP⟩
    · have e2 : doP room P o.ask o.x.p o.hard = delP P o.x.p o.hard := by unfold doP; rw [if_neg k0, if_neg k1]
      rw [e1, e2]
      have HC : Hid (Calls Tryz.prog 25 #[.pointer (some ⟨f, 0, none⟩), feV o.x, .bool o.hard] (ox w o) fun e w' => e = .returned (.int .i64 (wrongE o.x.p)) ∧ ∃ S', Fs w' f S' room (delP P o.x.p o.hard) ∧ Kept S w w' ∧ ∀ b, S' b → S b ∨ w.heap.size ≤ b) := (delete_any f S room P o.x o.hard _ hF hX hs hD).mono fun _ _ ⟨a, b⟩ => ⟨a, KK b⟩
      have b1 : (o.ask == 1) = false := by simp [k1]
      clear e1 e2 KK hF hX hD h hx hs hd k0 k1 HR g0
      generalize wrongE o.x.p = E at *
      go_enter Tryz.func11, Tryz.ntmps11
      go_wp2_with (refine load_E rfl (.tmp 24) rfl w.heap.size 1 o.x rfl HB.out ?_)
      refine HC.out.mono ?_
      rintro e w1 ⟨rfl, hP⟩
      have HP := hP
      clear hP
      go_wp2_with fail
      go_ret
      exact ⟨rfl, HP⟩
theorem eqI (a : Int) : (a == a) = true := by simp
theorem eqBo (a : Bool) : (a == a) = true := by simp
set_option maxRecDepth 20000 in
set_option maxHeartbeats 8000000 in
theorem same7 (x y : Fe) (w : World) (e : y.p = x.p) (hx : FW w x) (hy : FW w y) : Calls Tryz.prog 31 #[feV x, feV y] w fun e w' => e = .returned (.bool true) ∧ Below w.heap.size w w' := by
  obtain ⟨yp, ta, tc, aa, ca, aw, cw⟩ := y
  simp only at e
  subst e
  obtain ⟨W2, hW2, z2, g2, x2, y2⟩ := two_boxes w x ⟨x.p, ta, tc, aa, ca, aw, cw⟩
  have HS1 : Hid (Calls Tryz.prog 50 #[.slice x.aa x.p.la.length x.ca, .slice aa x.p.la.length ca] W2 fun e w' => e = .returned (.bool true) ∧ Below W2.heap.size W2 w') := (show Calls _ _ _ _ _ from by
    have := same_any x.aa aa x.p.la x.p.la x.ca ca W2 (hx.a.below g2) (hy.a.below g2) hx.na hx.na
    rwa [show sameB x.p.la x.p.la = true by simp [sameB]] at this)
  have HS2 : Hid (∀ w3, Below W2.heap.size W2 w3 → Calls Tryz.prog 50 #[.slice x.aw x.p.lw.length x.cw, .slice aw x.p.lw.length cw] w3 fun e w' => e = .returned (.bool true) ∧ Below w3.heap.size w3 w') := (show ∀ w3, _ from fun w3 g3 => by
    have := same_any x.aw aw x.p.lw x.p.lw x.cw cw w3 ((hx.w.below g2).below g3) ((hy.w.below g2).below g3) hx.nw hx.nw
    rwa [show sameB x.p.lw x.p.lw = true by simp [sameB]] at this)
  have hE1 := eqI x.p.tab
  have hE2 := eqBo x.p.clr
  have hE3 := eqI x.p.mt
  have hE4 := eqI x.p.mm
  have hE5 := eqI x.p.met
  have hE6 := eqI x.p.go
  have HX : Hid (Be W2 w.heap.size 0 x) := x2
  have HY : Hid (Be W2 (w.heap.size + 1) 0 ⟨x.p, ta, tc, aa, ca, aw, cw⟩) := y2
  obtain ⟨c0, c1, c2, c3, c4, c5, c6, c7, c8, c9⟩ := x2.cs
  obtain ⟨d0, d1, d2, d3, d4, d5, d6, d7, d8, d9⟩ := y2.cs
  clear hx hy x2 y2
  go_enter Tryz.func31, Tryz.ntmps31
  go_wp2_with fail
  refine HS1.out.mono ?_
  rintro r w3 ⟨rfl, g3⟩
  have G3 := btr g2 g3 (by omega)
  clear c0 c1 c2 c3 c4 c5 c6 c7 c8 c9 d0 d1 d2 d3 d4 d5 d6 d7 d8 d9
  obtain ⟨c0, c1, c2, c3, c4, c5, c6, c7, c8, c9⟩ := (HX.out.below (by omega) g3).cs
  obtain ⟨d0, d1, d2, d3, d4, d5, d6, d7, d8, d9⟩ := (HY.out.below (by omega) g3).cs
  go_wp2_with fail
  refine (HS2.out _ g3).mono ?_
  rintro r w4 ⟨rfl, g4⟩
  have K4 := btr g3 g4 (Nat.le_refl _)
  have G4 := btr G3 g4 (by have := g3.size; omega)
  clear c0 c1 c2 c3 c4 c5 c6 c7 c8 c9 d0 d1 d2 d3 d4 d5 d6 d7 d8 d9
  obtain ⟨c0, c1, c2, c3, c4, c5, c6, c7, c8, c9⟩ := (HX.out.below (by omega) K4).cs
  obtain ⟨d0, d1, d2, d3, d4, d5, d6, d7, d8, d9⟩ := (HY.out.below (by omega) K4).cs
  clear g3 g4 K4 G3
  go_wp2_with fail
  go_ret
  exact ⟨rfl, G4⟩
set_option maxHeartbeats 4000000 in
theorem sameE (x y : Fe) (w : World) (e : y.p = x.p) (hx : FW w x) (hy : FW w y) : Calls Tryz.prog 18 #[feV x, feV y] w fun e w' => e = .returned (.bool true) ∧ Below w.heap.size w w' := by
  obtain ⟨W2, hW2, z2, g2, x2, y2⟩ := two_boxes w x y
  have HS1 : Hid (Calls Tryz.prog 30 #[.slice x.ta x.p.lt.length x.tc, .slice y.ta y.p.lt.length y.tc] W2 fun e w' => e = .returned (.bool true) ∧ Below W2.heap.size W2 w') := (show Calls _ _ _ _ _ from by
    have := Mt.rsame_any x.ta x.p.lt x.tc y.ta y.p.lt y.tc W2 (hx.t.below g2) (by have := hx.nt; omega) (hy.t.below g2) (by have := hy.nt; omega)
    rwa [show Mt.sameB x.p.lt y.p.lt = true by rw [e]; simp [Mt.sameB]] at this)
  have HS2 : Hid (∀ w3, Below W2.heap.size W2 w3 → Calls Tryz.prog 31 #[feV x, feV y] w3 fun e w' => e = .returned (.bool true) ∧ Below w3.heap.size w3 w') := (show ∀ w3, _ from fun w3 g3 => same7 x y w3 e ((hx.below g2).below g3) ((hy.below g2).below g3))
  have hE1 : (x.p.pri == y.p.pri) = true := by rw [e]; simp
  have HX : Hid (Be W2 w.heap.size 0 x) := x2
  have HY : Hid (Be W2 (w.heap.size + 1) 0 y) := y2
  obtain ⟨_, c1, c2, _⟩ := x2.cs
  obtain ⟨_, d1, d2, _⟩ := y2.cs
  clear hx hy x2 y2 e
  go_enter Tryz.func18, Tryz.ntmps18
  go_wp2_with fail
  refine HS1.out.mono ?_
  rintro r w3 ⟨rfl, g3⟩
  have HG3 : Hid (Below W2.heap.size W2 w3) := g3
  have G3 := btr g2 g3 (by omega)
  have HX3 : Hid (Be w3 w.heap.size 0 x) := HX.out.below (by omega) g3
  have HY3 : Hid (Be w3 (w.heap.size + 1) 0 y) := HY.out.below (by omega) g3
  clear g3
  go_wp2_with (first | (refine load_E rfl (.tmp 2) rfl w.heap.size 0 x rfl HX3.out ?_) | (refine load_E rfl (.tmp 3) rfl (w.heap.size + 1) 0 y rfl HY3.out ?_))
  refine (HS2.out _ HG3.out).mono ?_
  rintro r w4 ⟨rfl, g4⟩
  have G4 := btr G3 g4 (by have := HG3.out.size; omega)
  go_wp2_with fail
  go_ret
  exact ⟨rfl, G4⟩
/-- The example. -/
def ex1 (n : Int) : Fe := ⟨⟨0, n, [], [], [], false, 0, 0, 0, 0⟩, none, 0, none, 0, none, 0⟩
theorem ex1_w (n : Int) (w : World) : FW w (ex1 n) := ⟨.inl rfl, .inl rfl, .inl rfl, by simp [ex1], by simp [ex1], by simp [ex1], by simp [ex1]⟩
def sn0 : Mt.Sn := ⟨0, 0, 0, 0, 0, 0, 0, 0, 0, 0, 0, 0, ⟨#[]⟩⟩
theorem wrong_ex (n : Int) (h1 : 0 ≤ n) (h2 : n ≤ 65535) : wrongE (ex1 n).p = 0 := by
  unfold wrongE
  have e1 : rightX (ex1 n).p.sp = 0 := (show rightX ⟨0, [], [], false, 0, 0, 0, 0⟩ = 0 by decide)
  have e2 : Mt.rightE (ex1 n).p.lt = 0 := (show Mt.rightE [] = 0 by decide)
  rw [if_neg (by rw [e1]; decide), if_neg (by rw [e2]; decide), if_neg]
  unfold priB
  have e : (ex1 n).p.pri = n := rfl
  rw [e, decide_eq_false (by omega), decide_eq_false (by omega)]
  decide
end Go.Proofs.YtjjfhibkcngphaaGreatDoor
/-
  What the example's function answers: true; the law TableNil answers true.
-/
namespace Go.Proofs.YtjjfhibkcngphaaGreatDoor
open Go.ChangeShapes Go.WideShapes Go.ChangeAt Go.RowKit
set_option linter.unusedVariables false
set_option linter.unusedSimpArgs false

abbrev aP1 : Nat → List Fp := addT 9 (fun _ => []) (ex1 1).p false
abbrev aP2 : Nat → List Fp := addT 9 aP1 (ex1 2).p true
theorem aR1 : addR 9 (fun _ => []) (ex1 1).p false = 0 := by
  unfold addR
  rw [if_pos (wrong_ex 1 (by decide) (by decide))]
  decide
theorem aP1_0 : aP1 0 = [(ex1 1).p] := by
  unfold aP1 addT
  rw [if_pos (wrong_ex 1 (by decide) (by decide))]
  have e : (ex1 1).p.tab.toNat = 0 := rfl
  rw [e, upd_same]
  unfold addL
  rw [if_pos (by decide)]
  rfl
theorem aR2 : addR 9 aP1 (ex1 2).p true = 0 := by
  unfold addR
  rw [if_pos (wrong_ex 2 (by decide) (by decide))]
  have e : (ex1 2).p.tab.toNat = 0 := rfl
  rw [e, aP1_0]
  decide
theorem aP2_0 : aP2 0 = [(ex1 2).p, (ex1 1).p] := by
  unfold aP2 addT
  rw [if_pos (wrong_ex 2 (by decide) (by decide))]
  have e : (ex1 2).p.tab.toNat = 0 := rfl
  rw [e, upd_same, aP1_0]
  unfold addL
  rw [if_pos (by decide)]
  rfl
theorem sn0_wf : Mt.Wf sn0 := by constructor <;> decide
set_option maxRecDepth 20000 in
set_option maxHeartbeats 8000000 in
theorem awake_any (w : World) (hd : Cd w) : Calls Tryz.prog 6 #[] w fun e w' => e = .returned (.bool true) ∧ Below w.heap.size w w' := by
  have HN : Hid (Calls Tryz.prog 4 #[.int .i64 9] w fun e w' => e = .returned (.tuple #[.pointer (some ⟨w.heap.size, 0, none⟩), .int .i64 0]) ∧ Fs w' w.heap.size (fun b => b = w.heap.size) 9 (fun _ => []) ∧ Below w.heap.size w w') := new_yes 9 w (by decide) (by decide) hd
  have HA : Hid (∀ w1, Fs w1 w.heap.size (fun b => b = w.heap.size) 9 (fun _ => []) → Cd w1 → Calls Tryz.prog 19 #[.pointer (some ⟨w.heap.size, 0, none⟩), .agg #[.int .i64 0, .int .i64 1, .slice none 0 0, .slice none 0 0, .slice none 0 0, .bool false, .int .u64 0, .int .u64 0, .int .i64 0, .int .i64 0], .bool false] w1 fun e w' => e = .returned (.int .i64 0) ∧ ∃ S', Fs w' w.heap.size S' 9 aP1 ∧ Kept (fun b => b = w.heap.size) w1 w' ∧ ∀ b, S' b → b = w.heap.size ∨ w1.heap.size ≤ b) := (show ∀ w1, _ from fun w1 h hd => by
    have := add_any w.heap.size _ 9 _ (ex1 1) false w1 h (ex1_w 1 w1) hd
    rw [aR1] at this
    exact this)
  have HB : Hid (∀ S w1, Fs w1 w.heap.size S 9 aP1 → Cd w1 → Calls Tryz.prog 19 #[.pointer (some ⟨w.heap.size, 0, none⟩), .agg #[.int .i64 0, .int .i64 2, .slice none 0 0, .slice none 0 0, .slice none 0 0, .bool false, .int .u64 0, .int .u64 0, .int .i64 0, .int .i64 0], .bool true] w1 fun e w' => e = .returned (.int .i64 0) ∧ ∃ S', Fs w' w.heap.size S' 9 aP2 ∧ Kept S w1 w' ∧ ∀ b, S' b → S b ∨ w1.heap.size ≤ b) := (show ∀ S w1, _ from fun S w1 h hd => by
    have := add_any w.heap.size S 9 _ (ex1 2) true w1 h (ex1_w 2 w1) hd
    rw [aR2] at this
    exact this)
  have HL : Hid (∀ S w1, Fs w1 w.heap.size S 9 aP2 → Calls Tryz.prog 15 #[.pointer (some ⟨w.heap.size, 0, none⟩), .int .i64 0, .agg #[.int .i64 0, .int .u64 0, .int .u64 0, .int .u64 0, .int .i64 0, .int .i64 0, .int .u32 0, .int .u32 0, .int .i64 0, .int .i64 0, .int .i64 0, .int .i64 0, .string ⟨#[]⟩]] w1 fun e w' => ∃ y : Fe, e = .returned (.tuple #[feV y, .bool true]) ∧ y.p = (ex1 2).p ∧ Below w1.heap.size w1 w') := (show ∀ S w1, _ from fun S w1 h => by
    have h2 := look_any w.heap.size S 9 aP2 0 sn0 sn0_wf w1 h
    have e1 : lookP (tabOf aP2 0) sn0 = some (ex1 2).p := by
      unfold tabOf
      rw [if_pos (by decide)]
      show lookP (aP2 0) sn0 = _
      rw [aP2_0]
      rfl
    rw [e1] at h2
    exact h2.mono fun _ _ ⟨y, a, b, _, _, c⟩ => ⟨y, a, b, c⟩)
  have HD : Hid (Cd w) := hd
  clear hd
  go_enter Tryz.func6, Tryz.ntmps6
  go_wp2_with fail
  refine HN.out.mono ?_
  rintro e w1 ⟨rfl, hf1, g1⟩
  have HF1 : Hid (Fs w1 w.heap.size (fun b => b = w.heap.size) 9 (fun _ => [])) := hf1
  have HG1 : Hid (Below w.heap.size w w1) := g1
  clear hf1 g1
  go_wp2_with fail
  refine (HA.out w1 HF1.out (HD.out.below HG1.out)).mono ?_
  rintro e w2 ⟨rfl, S2, hf2, hk2, hs2⟩
  have HF2 : Hid (Fs w2 w.heap.size S2 9 aP1 ∧ (∀ b, S2 b → w.heap.size ≤ b)) := (show _ ∧ _ from ⟨hf2, fun b hb => by
    rcases hs2 b hb with h | h
    · omega
    · have := HG1.out.size; omega⟩)
  have HG2 : Hid (Below w.heap.size w w2) := HG1.out.trans (hk2.below HG1.out.size (fun k hk => by omega))
  clear hf2 hk2 hs2
  go_wp2_with fail
  refine (HB.out S2 w2 HF2.out.1 (HD.out.below HG2.out)).mono ?_
  rintro e w3 ⟨rfl, S3, hf3, hk3, hs3⟩
  have HF3 : Hid (Fs w3 w.heap.size S3 9 aP2) := hf3
  have HG3 : Hid (Below w.heap.size w w3) := HG2.out.trans (hk3.below HG2.out.size HF2.out.2)
  clear hf3 hk3 hs3
  go_wp2_with fail
  refine (HL.out S3 w3 HF3.out).mono ?_
  rintro e w4 ⟨y, rfl, hy, g4⟩
  have HG4 : Hid (Below w.heap.size w w4) := btr HG3.out g4 (Nat.le_refl _)
  have hyp : y.p.pri = 2 := by rw [hy]; rfl
  have HYP : Hid (y.p.pri = 2) := hyp
  clear g4 hy hyp
  go_wp2_with (refine store_E rfl (.tmp 5) (.tmp 27) rfl w4.heap.size 0 y rfl rfl (there_new w4 zeroE 40) ?_; intro V hV bV tV oV; clear hV; have d1 : V.cell? ⟨w4.heap.size, 1, none⟩ = some (.int .i64 2) := (by rw [← HYP.out]; exact bV.cs.2.1))
  go_ret
  refine ⟨rfl, oV.below HG4.out.size (HG4.out.alloc HG4.out.size _)⟩
end Go.Proofs.YtjjfhibkcngphaaGreatDoor
/-
  What the rows hand to the walks: the tables, a slice of actions, an action.
-/
namespace Go.Proofs.YtjjfhibkcngphaaGreatDoor
open Go.ChangeShapes Go.WideShapes Go.ChangeAt Go.RowKit
theorem own : ownKnob Tryz.prog.godebug = none := by kernel_rfl
theorem laidOut : laidOutB Tryz.prog = true := by kernel_rfl
theorem gKinds : Tryz.prog.globalNamed ((Rows.tablePlaysRow.named.drop 1).headD "") = some 0 := by kernel_rfl
theorem gCodes : Tryz.prog.globalNamed (Rows.tablePlaysRow.named.headD "") = some 1 := by kernel_rfl
theorem tKinds : (Tryz.prog.globals[0]?).map (·.type) = some 113 := by kernel_rfl
theorem tCodes : (Tryz.prog.globals[1]?).map (·.type) = some 134 := by kernel_rfl
theorem cellsKind : Tryz.prog.cellsOf 112 = 3 := by kernel_rfl
theorem cellsKinds : Tryz.prog.cellsOf 113 = 15 := by kernel_rfl
theorem cellsCode : Tryz.prog.cellsOf 133 = 2 := by kernel_rfl
theorem cellsCodes : Tryz.prog.cellsOf 134 = 10 := by kernel_rfl
theorem cellsInt : Tryz.prog.cellsOf 3 = 1 := by kernel_rfl
theorem cellsAct : Tryz.prog.cellsOf 79 = 3 := by kernel_rfl
theorem cellsU : Tryz.prog.cellsOf 23 = 1 := by kernel_rfl
/-- The rows' condition. -/
abbrev laidL : List (String × DataW Unit) := Rows.tablePlaysRow.laid
set_option maxRecDepth 100000 in
theorem kind_cells {W : World} {cs : List Value} {p : List MemPlace} {m : Nat} {a b c : Int} (h : DataW.trod (fun _ => ()) Tryz.prog W 0 (fun _ => true) false m 112 cs = some (.agg [.lit (.int .i64 a), .lit (.int .i64 b), .lit (.int .i64 c)], p)) :
    cs = [.int .i64 a, .int .i64 b, .int .i64 c] := by
  obtain ⟨xs, k, _, hxy, hcl, hxl, hf⟩ := DataW.trod_struct Tryz.underlying112 h
  rw [cellsKind] at hcl
  match xs, hxl, cs, hcl with
  | [y0, y1, y2], _, [v0, v1, v2], _ =>
    have g0 := hf 0 _ rfl
    have g1 := hf 1 _ rfl
    have g2 := hf 2 _ rfl
    simp [cellsInt] at g0 g1 g2
    obtain ⟨n0, e0, d0, _⟩ := DataW.trod_int Tryz.underlying3 g0
    obtain ⟨n1, e1, d1, _⟩ := DataW.trod_int Tryz.underlying3 g1
    obtain ⟨n2, e2, d2, _⟩ := DataW.trod_int Tryz.underlying3 g2
    subst d0 d1 d2
    simp at e0 e1 e2 hxy
    obtain ⟨⟨rfl, rfl, rfl⟩, _⟩ := hxy
    rw [e0, e1, e2]
set_option maxRecDepth 100000 in
theorem code_cells {W : World} {cs : List Value} {p : List MemPlace} {m : Nat} {a b : Int} (h : DataW.trod (fun _ => ()) Tryz.prog W 0 (fun _ => true) false m 133 cs = some (.agg [.lit (.int .i64 a), .lit (.int .i64 b)], p)) :
    cs = [.int .i64 a, .int .i64 b] := by
  obtain ⟨xs, k, _, hxy, hcl, hxl, hf⟩ := DataW.trod_struct Tryz.underlying133 h
  rw [cellsCode] at hcl
  match xs, hxl, cs, hcl with
  | [y0, y1], _, [v0, v1], _ =>
    have g0 := hf 0 _ rfl
    have g1 := hf 1 _ rfl
    simp [cellsInt] at g0 g1
    obtain ⟨n0, e0, d0, _⟩ := DataW.trod_int Tryz.underlying3 g0
    obtain ⟨n1, e1, d1, _⟩ := DataW.trod_int Tryz.underlying3 g1
    subst d0 d1
    simp at e0 e1 hxy
    obtain ⟨⟨rfl, rfl⟩, _⟩ := hxy
    rw [e0, e1]
theorem cd_of_laid {W : World} (h : laidMetH Tryz.prog laidL W) : Cd W := by
  rw [MakeChecks.laidMetH_plain _ _ _ (by kernel_rfl)] at h
  obtain ⟨ps, ⟨g0, t0, cs0, f0, p0, q0, hg0, ht0, hv0, hd0, ⟨g1, t1, cs1, f1, p1, q1, hg1, ht1, hv1, hd1, _, _⟩, _⟩, _, _⟩ := h
  obtain rfl := Option.some.inj (gKinds.symm.trans hg0)
  obtain rfl := Option.some.inj (tKinds.symm.trans ht0)
  obtain rfl := Option.some.inj (gCodes.symm.trans hg1)
  obtain rfl := Option.some.inj (tCodes.symm.trans ht1)
  constructor
  · clear hd1 hv1 hg1 ht1
    obtain ⟨xs, m1, rfl, hx1, hlen, hn, hel⟩ := DataW.trod_array Tryz.underlying113 hd0
    rw [cellsKinds] at hlen
    rw [cellsKind] at hel
    have hx := (Prod.mk.inj hx1).1
    unfold Rows.laid_drover_act_kinds at hx
    simp only [DataW.agg.injEq] at hx
    have at_ : ∀ (i : Nat) (d : DataW Unit), i < 5 → (xs.map (fun x => x.fst))[i]? = some d → ∃ p, DataW.trod (fun _ => ()) Tryz.prog W 0 (fun _ => true) false m1 112 (List.take 3 (List.drop (i * 3) cs0.toList)) = some (d, p) := by
      intro i d hi hd
      rw [List.getElem?_map, Option.map_eq_some_iff] at hd
      obtain ⟨y, hy, rfl⟩ := hd
      exact ⟨y.2, (hel i hi).trans hy⟩
    rw [← hx] at at_
    have key : cs0.toList = kindsA.toList := by
      generalize cs0.toList = L at *
      have step : ∀ i, L.drop (i * 3) = (L.drop (i * 3)).take 3 ++ L.drop ((i + 1) * 3) := fun i => by
        have := (List.take_append_drop 3 (L.drop (i * 3))).symm
        rwa [List.drop_drop, show i * 3 + 3 = (i + 1) * 3 by omega] at this
      have s0 := step 0
      rw [kind_cells (at_ 0 _ (by decide) rfl).choose_spec] at s0
      have s1 := step 1
      rw [kind_cells (at_ 1 _ (by decide) rfl).choose_spec] at s1
      have s2 := step 2
      rw [kind_cells (at_ 2 _ (by decide) rfl).choose_spec] at s2
      have s3 := step 3
      rw [kind_cells (at_ 3 _ (by decide) rfl).choose_spec] at s3
      have s4 := step 4
      rw [kind_cells (at_ 4 _ (by decide) rfl).choose_spec] at s4
      have s5 : L.drop (5 * 3) = [] := List.drop_of_length_le (by omega)
      have z : L = L.drop (0 * 3) := rfl
      rw [z, s0, s1, s2, s3, s4, s5]
      rfl
    have e : cs0 = kindsA := Array.toList_inj.1 key
    subst e
    simp only [World.var?, hg0, Option.bind_some] at hv0
    split at hv0
    · rename_i c t fr hb
      cases hv0
      exact ⟨t, fr, hb⟩
    · cases hv0
  · clear hd0 hv0 hg0 ht0
    obtain ⟨xs, m1, rfl, hx1, hlen, hn, hel⟩ := DataW.trod_array Tryz.underlying134 hd1
    rw [cellsCodes] at hlen
    rw [cellsCode] at hel
    have hx := (Prod.mk.inj hx1).1
    unfold Rows.laid_drover_act_codes at hx
    simp only [DataW.agg.injEq] at hx
    have at_ : ∀ (i : Nat) (d : DataW Unit), i < 5 → (xs.map (fun x => x.fst))[i]? = some d → ∃ p, DataW.trod (fun _ => ()) Tryz.prog W 0 (fun _ => true) false m1 133 (List.take 2 (List.drop (i * 2) cs1.toList)) = some (d, p) := by
      intro i d hi hd
      rw [List.getElem?_map, Option.map_eq_some_iff] at hd
      obtain ⟨y, hy, rfl⟩ := hd
      exact ⟨y.2, (hel i hi).trans hy⟩
    rw [← hx] at at_
    have key : cs1.toList = codesA.toList := by
      generalize cs1.toList = L at *
      have step : ∀ i, L.drop (i * 2) = (L.drop (i * 2)).take 2 ++ L.drop ((i + 1) * 2) := fun i => by
        have := (List.take_append_drop 2 (L.drop (i * 2))).symm
        rwa [List.drop_drop, show i * 2 + 2 = (i + 1) * 2 by omega] at this
      have s0 := step 0
      rw [code_cells (at_ 0 _ (by decide) rfl).choose_spec] at s0
      have s1 := step 1
      rw [code_cells (at_ 1 _ (by decide) rfl).choose_spec] at s1
      have s2 := step 2
      rw [code_cells (at_ 2 _ (by decide) rfl).choose_spec] at s2
      have s3 := step 3
      rw [code_cells (at_ 3 _ (by decide) rfl).choose_spec] at s3
      have s4 := step 4
      rw [code_cells (at_ 4 _ (by decide) rfl).choose_spec] at s4
      have s5 : L.drop (5 * 2) = [] := List.drop_of_length_le (by omega)
      have z : L = L.drop (0 * 2) := rfl
      rw [z, s0, s1, s2, s3, s4, s5]
      rfl
    have e : cs1 = codesA := Array.toList_inj.1 key
    subst e
    simp only [World.var?, hg1, Option.bind_some] at hv1
    split at hv1
    · rename_i c t fr hb
      cases hv1
      exact ⟨t, fr, hb⟩
    · cases hv1
/-- The door's own heap meets the condition. -/
theorem door_met (os : Os) (args : Array Value) : laidMetH Tryz.prog laidL ((World.doorLaid Tryz.prog 400 os).forCall (fun _ _ => 0) ⟨#[], args, []⟩).memory :=
  laidMetH_of_parts3 (fuel := 8) (laidMet_of_run' 8 (by kernel_rfl) (by kernel_rfl)) (by kernel_rfl) (by kernel_rfl)

theorem plain (g o j : Nat) : (⟨g, o, none⟩ : Addr).add j = ⟨g, o + j, none⟩ := by unfold Addr.add; split <;> simp_all
theorem wf_u64 {n : Int} (h : (Lit.int .u64 n).wf = true) : 0 ≤ n ∧ n < 18446744073709551616 := by
  simp [Lit.wf, IntKind.min, IntKind.max, IntKind.signed, IntKind.bits] at h; omega
theorem wf_i64 {n : Int} (h : (Lit.int .i64 n).wf = true) : -9223372036854775808 ≤ n ∧ n < 9223372036854775808 := by
  simp [Lit.wf, IntKind.min, IntKind.max, IntKind.signed, IntKind.bits] at h; omega
set_option maxRecDepth 100000 in
/-- The actions of a slice that is read. -/
theorem acts_of {H : Type} {enc : TypeId × Value → H} {W : World} {a : Option Addr} {len cap fuel : Nat} {x : DataW H × List MemPlace} (hlt : ∀ p ∈ x.2, p.block < W.heap.size)
    (h : DataW.trod enc Tryz.prog W 0 (fun _ => true) true fuel 38 [.slice a len cap] = some x) : ∃ l : List A, l.length = len ∧ Ts W a l ∧ AWs l ∧ len ≤ cap ∧ len ≤ maxLen := by
  rcases Deep.open_slice Tryz.underlying38 h with ⟨hcs, _⟩ | ⟨ad, ln, cp, m, n, D, Pl, hcs, hb, hl, hm, hmm, hx, hel⟩
  · simp at hcs
    exact ⟨[], hcs.2.1.symm, .inl rfl, by simp, by omega, by unfold maxLen; omega⟩
  · simp at hcs
    obtain ⟨rfl, rfl, rfl⟩ := hcs
    have hm' : m = cap := by simpa using hmm
    subst hm'
    have one : ∀ i, i < len → ∃ t : A, W.cell? (ad.add (i * 3)) = some (.int .i64 t.1) ∧ W.cell? (ad.add (i * 3 + 1)) = some (.int .i64 t.2.1) ∧ W.cell? (ad.add (i * 3 + 2)) = some (.int .u64 t.2.2) ∧ AW t := by
      intro i hi
      obtain ⟨cs', h1, h2⟩ := hel i (by omega)
      rw [cellsAct] at h1
      obtain ⟨_, hlen, hcell⟩ := World.cells?_some h1
      obtain ⟨xs, k, hk, hxy, _, hxl, hf⟩ := DataW.trod_struct Tryz.underlying79 h2
      match xs, hxl, cs', hlen with
      | [y0, y1, y2], _, [v0, v1, v2], _ =>
        have g0 := hf 0 _ rfl
        have g1 := hf 1 _ rfl
        have g2 := hf 2 _ rfl
        simp [cellsInt, cellsU] at g0 g1 g2
        obtain ⟨n0, e0, d0, r0⟩ := DataW.trod_int Tryz.underlying3 g0
        obtain ⟨n1, e1, d1, r1⟩ := DataW.trod_int Tryz.underlying3 g1
        obtain ⟨n2, e2, d2, r2⟩ := DataW.trod_int Tryz.underlying23 g2
        simp at e0 e1 e2
        have c0 := hcell 0 (by omega)
        have c1 := hcell 1 (by omega)
        have c2 := hcell 2 (by omega)
        rw [Deep.add_add] at c0 c1 c2
        refine ⟨(n0, n1, n2), by simpa [e0] using c0, by simpa [e1] using c1, by simpa [e2] using c2, ?_⟩
        obtain ⟨a0, a1⟩ := wf_i64 r1
        obtain ⟨b0, b1⟩ := wf_u64 r2
        exact ⟨a0, a1, b0, b1⟩
    obtain ⟨f, hf⟩ := Deep.choose_lt one
    by_cases h0 : len = 0
    · subst h0
      exact ⟨[], rfl, .inl rfl, by simp, hl, by unfold maxLen; omega⟩
    · obtain ⟨g, o, spot⟩ := ad
      have hsp : spot = none := by simpa [Addr.add] using World.cell?_spot (hf 0 (by omega)).1
      subst hsp
      have hg : g < W.heap.size := hlt (.cell g (o + 0)) (by rw [hx, cellsAct]; exact List.mem_append_left _ (by simp [MemPlace.row]; omega))
      refine ⟨(List.range len).map f, by simp, .inr ⟨g, o, rfl, hg, fun i hi => ?_⟩, ?_, hl, by unfold maxLen at hm ⊢; omega⟩
      · have hi' : i < len := by simpa using hi
        obtain ⟨x0, x1, x2, _⟩ := hf i hi'
        rw [plain] at x0 x1 x2
        simp only [List.getElem_map, List.getElem_range]
        exact ⟨x0, by rw [← Nat.add_assoc] at x1; exact x1, by rw [← Nat.add_assoc] at x2; exact x2⟩
      · intro t ht
        rw [List.mem_map] at ht
        obtain ⟨i, hi, rfl⟩ := ht
        exact (hf i (List.mem_range.1 hi)).2.2.2
end Go.Proofs.YtjjfhibkcngphaaGreatDoor
/-
  What the rows hand to the walks: an entry, a slice of entries, a slice of calls, a packet in a switch.
-/
namespace Go.Proofs.YtjjfhibkcngphaaGreatDoor
open Go.ChangeShapes Go.WideShapes Go.ChangeAt Go.RowKit
set_option linter.unusedVariables false
set_option linter.unusedSimpArgs false

theorem cellsTest : Tryz.prog.cellsOf 73 = 3 := by kernel_rfl
theorem cellsActs : Tryz.prog.cellsOf 38 = 1 := by kernel_rfl
theorem cellsTests : Tryz.prog.cellsOf 37 = 1 := by kernel_rfl
theorem cellsBool : Tryz.prog.cellsOf 4 = 1 := by kernel_rfl
theorem cellsEntry : Tryz.prog.cellsOf 40 = 10 := by kernel_rfl
theorem cellsOp : Tryz.prog.cellsOf 42 = 12 := by kernel_rfl
set_option maxRecDepth 100000 in
theorem mtests_of {H : Type} {enc : TypeId × Value → H} {W : World} {a : Option Addr} {len cap fuel : Nat} {x : DataW H × List MemPlace} (hlt : ∀ p ∈ x.2, p.block < W.heap.size)
    (h : DataW.trod enc Tryz.prog W 0 (fun _ => true) true fuel 37 [.slice a len cap] = some x) : ∃ l : List Mt.T, l.length = len ∧ Mt.Ts W a l ∧ Mt.TWs l ∧ len ≤ cap ∧ len ≤ maxLen := by
  rcases Deep.open_slice Tryz.underlying37 h with ⟨hcs, _⟩ | ⟨ad, ln, cp, m, n, D, Pl, hcs, hb, hl, hm, hmm, hx, hel⟩
  · simp at hcs
    exact ⟨[], hcs.2.1.symm, .inl rfl, by simp, by omega, by unfold maxLen; omega⟩
  · simp at hcs
    obtain ⟨rfl, rfl, rfl⟩ := hcs
    have hm' : m = cap := by simpa using hmm
    subst hm'
    have one : ∀ i, i < len → ∃ t : Mt.T, W.cell? (ad.add (i * 3)) = some (.int .i64 t.1) ∧ W.cell? (ad.add (i * 3 + 1)) = some (.int .u64 t.2.1) ∧ W.cell? (ad.add (i * 3 + 2)) = some (.int .u64 t.2.2) ∧ Mt.TW t := by
      intro i hi
      obtain ⟨cs', h1, h2⟩ := hel i (by omega)
      rw [cellsTest] at h1
      obtain ⟨_, hlen, hcell⟩ := World.cells?_some h1
      obtain ⟨xs, k, hk, hxy, _, hxl, hf⟩ := DataW.trod_struct Tryz.underlying73 h2
      match xs, hxl, cs', hlen with
      | [y0, y1, y2], _, [v0, v1, v2], _ =>
        have g0 := hf 0 _ rfl
        have g1 := hf 1 _ rfl
        have g2 := hf 2 _ rfl
        simp [cellsInt, cellsU] at g0 g1 g2
        obtain ⟨n0, e0, d0, r0⟩ := DataW.trod_int Tryz.underlying3 g0
        obtain ⟨n1, e1, d1, r1⟩ := DataW.trod_int Tryz.underlying23 g1
        obtain ⟨n2, e2, d2, r2⟩ := DataW.trod_int Tryz.underlying23 g2
        simp at e0 e1 e2
        have c0 := hcell 0 (by omega)
        have c1 := hcell 1 (by omega)
        have c2 := hcell 2 (by omega)
        rw [Deep.add_add] at c0 c1 c2
        refine ⟨(n0, n1, n2), by simpa [e0] using c0, by simpa [e1] using c1, by simpa [e2] using c2, ?_⟩
        obtain ⟨a0, a1⟩ := wf_u64 r1
        obtain ⟨b0, b1⟩ := wf_u64 r2
        exact ⟨a0, a1, b0, b1⟩
    obtain ⟨f, hf⟩ := Deep.choose_lt one
    by_cases h0 : len = 0
    · subst h0
      exact ⟨[], rfl, .inl rfl, by simp, hl, by unfold maxLen; omega⟩
    · obtain ⟨g, o, spot⟩ := ad
      have hsp : spot = none := by simpa [Addr.add] using World.cell?_spot (hf 0 (by omega)).1
      subst hsp
      have hg : g < W.heap.size := hlt (.cell g (o + 0)) (by rw [hx, cellsTest]; exact List.mem_append_left _ (by simp [MemPlace.row]; omega))
      refine ⟨(List.range len).map f, by simp, .inr ⟨g, o, rfl, hg, fun i hi => ?_⟩, ?_, hl, by unfold maxLen at hm ⊢; omega⟩
      · have hi' : i < len := by simpa using hi
        obtain ⟨x0, x1, x2, _⟩ := hf i hi'
        rw [plain] at x0 x1 x2
        simp only [List.getElem_map, List.getElem_range]
        exact ⟨x0, by rw [← Nat.add_assoc] at x1; exact x1, by rw [← Nat.add_assoc] at x2; exact x2⟩
      · intro t ht
        rw [List.mem_map] at ht
        obtain ⟨i, hi, rfl⟩ := ht
        exact (hf i (List.mem_range.1 hi)).2.2.2
theorem mtests_in {H : Type} {enc : TypeId × Value → H} {W : World} {c : Value} {fuel : Nat} {x : DataW H × List MemPlace}
    (h : DataW.trod enc Tryz.prog W 0 (fun _ => true) true fuel 37 [c] = some x) : ∃ a, ∃ l : List Mt.T, ∃ cap, c = .slice a l.length cap ∧ Mt.Ts W a l ∧ Mt.TWs l ∧ l.length ≤ cap ∧ l.length ≤ maxLen := by
  have hlt : ∀ p ∈ x.2, p.block < W.heap.size := DataW.trod_lt fuel _ _ _ h
  rcases Deep.open_slice Tryz.underlying37 h with ⟨hcs, _⟩ | ⟨ad, ln, cp, _, _, _, _, hcs, _⟩
  · have hc : c = .slice none 0 0 := (List.cons.inj hcs).1
    subst hc
    exact ⟨none, [], 0, rfl, .inl rfl, by simp, by simp, by simp⟩
  · have hc : c = .slice (some ad) ln cp := (List.cons.inj hcs).1
    subst hc
    obtain ⟨l, h1, h2, h3, h4, h5⟩ := mtests_of hlt h
    exact ⟨some ad, l, cp, by rw [h1], h2, h3, by rw [h1]; exact h4, by rw [h1]; exact h5⟩
theorem acts_in {H : Type} {enc : TypeId × Value → H} {W : World} {c : Value} {fuel : Nat} {x : DataW H × List MemPlace}
    (h : DataW.trod enc Tryz.prog W 0 (fun _ => true) true fuel 38 [c] = some x) : ∃ a, ∃ l : List A, ∃ cap, c = .slice a l.length cap ∧ Ts W a l ∧ AWs l ∧ l.length ≤ maxLen := by
  have hlt : ∀ p ∈ x.2, p.block < W.heap.size := DataW.trod_lt fuel _ _ _ h
  rcases Deep.open_slice Tryz.underlying38 h with ⟨hcs, _⟩ | ⟨ad, ln, cp, _, _, _, _, hcs, _⟩
  · have hc : c = .slice none 0 0 := (List.cons.inj hcs).1
    subst hc
    exact ⟨none, [], 0, rfl, .inl rfl, by simp, by simp⟩
  · have hc : c = .slice (some ad) ln cp := (List.cons.inj hcs).1
    subst hc
    obtain ⟨l, h1, h2, h3, _, h5⟩ := acts_of hlt h
    exact ⟨some ad, l, cp, by rw [h1], h2, h3, by rw [h1]; exact h5⟩
/-- An entry that is handed in. -/
structure FIn (w : World) (x : Fe) : Prop where
  t : Mt.Ts w x.ta x.p.lt
  a : Ts w x.aa x.p.la
  w : Ts w x.aw x.p.lw
  ct : x.p.lt.length ≤ x.tc
  nt : x.p.lt.length ≤ maxLen
  na : x.p.la.length ≤ maxLen
  nw : x.p.lw.length ≤ maxLen
  vt : Mt.TWs x.p.lt
  va : AWs x.p.la
  vw : AWs x.p.lw
  m0 : 0 ≤ x.p.mt ∧ x.p.mt < 18446744073709551616
  m1 : 0 ≤ x.p.mm ∧ x.p.mm < 18446744073709551616
  i0 : -9223372036854775808 ≤ x.p.tab ∧ x.p.tab < 9223372036854775808
  i1 : -9223372036854775808 ≤ x.p.pri ∧ x.p.pri < 9223372036854775808
  i2 : -9223372036854775808 ≤ x.p.met ∧ x.p.met < 9223372036854775808
  i3 : -9223372036854775808 ≤ x.p.go ∧ x.p.go < 9223372036854775808
theorem FIn.fw {w : World} {x : Fe} (h : FIn w x) (hf : fewB x.p = true) : FW w x := by
  unfold fewB at hf
  simp at hf
  exact ⟨h.t, h.a, h.w, by omega, by omega, by omega, h.ct⟩
theorem FIn.lt {w : World} {x : Fe} (h : FIn w x) {b : Nat} (hb : InF x b) : b < w.heap.size := by
  rcases hb with hb | hb | hb
  · exact h.t.lt hb
  · exact h.a.lt hb
  · exact h.w.lt hb
set_option maxRecDepth 100000 in
theorem en_in {H : Type} {enc : TypeId × Value → H} {W : World} {c0 c1 c2 c3 c4 c5 c6 c7 c8 c9 : Value} {fuel : Nat} {x : DataW H × List MemPlace} (h : DataW.trod enc Tryz.prog W 0 (fun _ => true) true fuel 40 [c0, c1, c2, c3, c4, c5, c6, c7, c8, c9] = some x) :
    ∃ y : Fe, [c0, c1, c2, c3, c4, c5, c6, c7, c8, c9] = (feC y).toList ∧ FIn W y := by
  obtain ⟨xs, m, _, _, _, hlen, hfs⟩ := DataW.trod_struct Tryz.underlying40 h
  match xs, hlen with
  | [y0, y1, y2, y3, y4, y5, y6, y7, y8, y9], _ =>
    have t0 : DataW.trod enc Tryz.prog W 0 (fun _ => true) true m 3 [c0] = some y0 := by simpa [cellsInt, cellsTests, cellsActs, cellsBool, cellsU] using hfs 0 _ rfl
    have t1 : DataW.trod enc Tryz.prog W 0 (fun _ => true) true m 3 [c1] = some y1 := by simpa [cellsInt, cellsTests, cellsActs, cellsBool, cellsU] using hfs 1 _ rfl
    have t2 : DataW.trod enc Tryz.prog W 0 (fun _ => true) true m 37 [c2] = some y2 := by simpa [cellsInt, cellsTests, cellsActs, cellsBool, cellsU] using hfs 2 _ rfl
    have t3 : DataW.trod enc Tryz.prog W 0 (fun _ => true) true m 38 [c3] = some y3 := by simpa [cellsInt, cellsTests, cellsActs, cellsBool, cellsU] using hfs 3 _ rfl
    have t4 : DataW.trod enc Tryz.prog W 0 (fun _ => true) true m 38 [c4] = some y4 := by simpa [cellsInt, cellsTests, cellsActs, cellsBool, cellsU] using hfs 4 _ rfl
    have t5 : DataW.trod enc Tryz.prog W 0 (fun _ => true) true m 4 [c5] = some y5 := by simpa [cellsInt, cellsTests, cellsActs, cellsBool, cellsU] using hfs 5 _ rfl
    have t6 : DataW.trod enc Tryz.prog W 0 (fun _ => true) true m 23 [c6] = some y6 := by simpa [cellsInt, cellsTests, cellsActs, cellsBool, cellsU] using hfs 6 _ rfl
    have t7 : DataW.trod enc Tryz.prog W 0 (fun _ => true) true m 23 [c7] = some y7 := by simpa [cellsInt, cellsTests, cellsActs, cellsBool, cellsU] using hfs 7 _ rfl
    have t8 : DataW.trod enc Tryz.prog W 0 (fun _ => true) true m 3 [c8] = some y8 := by simpa [cellsInt, cellsTests, cellsActs, cellsBool, cellsU] using hfs 8 _ rfl
    have t9 : DataW.trod enc Tryz.prog W 0 (fun _ => true) true m 3 [c9] = some y9 := by simpa [cellsInt, cellsTests, cellsActs, cellsBool, cellsU] using hfs 9 _ rfl
    obtain ⟨n0, q0, _, w0⟩ := DataW.trod_int Tryz.underlying3 t0
    have z0 := (List.cons.inj q0).1
    obtain ⟨n1, q1, _, w1⟩ := DataW.trod_int Tryz.underlying3 t1
    have z1 := (List.cons.inj q1).1
    obtain ⟨ta, lt, tc, z2, ht, vt, hct, hnt⟩ := mtests_in t2
    obtain ⟨aa, la, ca, z3, ha, va, hna⟩ := acts_in t3
    obtain ⟨aw, lw, cw, z4, hw, vw, hnw⟩ := acts_in t4
    obtain ⟨b5, q5, _⟩ := DataW.trod_bool Tryz.underlying4 t5
    have z5 := (List.cons.inj q5).1
    obtain ⟨n6, q6, _, w6⟩ := DataW.trod_int Tryz.underlying23 t6
    have z6 := (List.cons.inj q6).1
    obtain ⟨n7, q7, _, w7⟩ := DataW.trod_int Tryz.underlying23 t7
    have z7 := (List.cons.inj q7).1
    obtain ⟨n8, q8, _, w8⟩ := DataW.trod_int Tryz.underlying3 t8
    have z8 := (List.cons.inj q8).1
    obtain ⟨n9, q9, _, w9⟩ := DataW.trod_int Tryz.underlying3 t9
    have z9 := (List.cons.inj q9).1
    refine ⟨⟨⟨n0, n1, lt, la, lw, b5, n6, n7, n8, n9⟩, ta, tc, aa, ca, aw, cw⟩, by rw [z0, z1, z2, z3, z4, z5, z6, z7, z8, z9], ⟨ht, ha, hw, hct, hnt, hna, hnw, vt, va, vw, wf_u64 w6, wf_u64 w7, wf_i64 w0, wf_i64 w1, wf_i64 w8, wf_i64 w9⟩⟩
theorem array10 {α : Type} {cs : Array α} (h : cs.size = 10) : ∃ c0 c1 c2 c3 c4 c5 c6 c7 c8 c9, cs = #[c0, c1, c2, c3, c4, c5, c6, c7, c8, c9] := by
  obtain ⟨l⟩ := cs
  match l, h with
  | [c0, c1, c2, c3, c4, c5, c6, c7, c8, c9], _ => exact ⟨c0, c1, c2, c3, c4, c5, c6, c7, c8, c9, rfl⟩
set_option maxRecDepth 100000 in
/-- An entry that is handed in. -/
theorem open_fe {H : Type} {enc : TypeId × Value → H} {W : World} {r : Reach} {b0 : Nat} {v : Value} {d : DataW H} {ps : List MemPlace} (hv : Value.okWide Tryz.prog W r b0 40 v) (h : DataW.Trod enc Tryz.prog W 0 (fun _ => true) true 40 v d ps) :
    ∃ x : Fe, v = feV x ∧ FIn W x := by
  obtain ⟨cs, rfl, hsz⟩ := okWide_struct Tryz.underlying40 hv
  obtain ⟨c0, c1, c2, c3, c4, c5, c6, c7, c8, c9, rfl⟩ := array10 (hsz.trans (by kernel_rfl))
  obtain ⟨fuel, hf⟩ := h
  obtain ⟨y, hy, hi⟩ := en_in (by simpa [Value.cells] using hf)
  refine ⟨y, ?_, hi⟩
  have e : (#[c0, c1, c2, c3, c4, c5, c6, c7, c8, c9] : Array Value) = feC y := Array.toList_inj.1 (by simpa using hy)
  show Value.agg _ = Value.agg (feC y)
  rw [e]
/-- Parts, for choosing. -/
abbrev Tup := Int × Int × List Mt.T × List A × List A × Bool × Int × Int × Int × Int × Option Addr × Nat × Option Addr × Nat × Option Addr × Nat
def ofT (t : Tup) : Fe := ⟨⟨t.1, t.2.1, t.2.2.1, t.2.2.2.1, t.2.2.2.2.1, t.2.2.2.2.2.1, t.2.2.2.2.2.2.1, t.2.2.2.2.2.2.2.1, t.2.2.2.2.2.2.2.2.1, t.2.2.2.2.2.2.2.2.2.1⟩, t.2.2.2.2.2.2.2.2.2.2.1, t.2.2.2.2.2.2.2.2.2.2.2.1, t.2.2.2.2.2.2.2.2.2.2.2.2.1, t.2.2.2.2.2.2.2.2.2.2.2.2.2.1, t.2.2.2.2.2.2.2.2.2.2.2.2.2.2.1, t.2.2.2.2.2.2.2.2.2.2.2.2.2.2.2⟩
def toT (x : Fe) : Tup := (x.p.tab, x.p.pri, x.p.lt, x.p.la, x.p.lw, x.p.clr, x.p.mt, x.p.mm, x.p.met, x.p.go, x.ta, x.tc, x.aa, x.ca, x.aw, x.cw)
theorem of_to (x : Fe) : ofT (toT x) = x := rfl
/-- Entries that are handed in. -/
def EnAt (w : World) (a : Option Addr) (l : List Fe) : Prop := l = [] ∨ ∃ g o, a = some ⟨g, o, none⟩ ∧ g < w.heap.size ∧ ∀ i (h : i < l.length), Be w g (o + i * 10) l[i]
/-- Calls that are handed in. -/
def OpAt (w : World) (a : Option Addr) (l : List Opn) : Prop := l = [] ∨ ∃ g o, a = some ⟨g, o, none⟩ ∧ g < w.heap.size ∧ ∀ i (h : i < l.length), w.rangeAt g (o + i * 12) (opC l[i]).toList
def ofO (t : Int × Tup × Bool) : Opn := ⟨t.1, ofT t.2.1, t.2.2⟩
def toO (x : Opn) : Int × Tup × Bool := (x.ask, toT x.x, x.hard)
theorem of_toO (x : Opn) : ofO (toO x) = x := rfl
set_option maxRecDepth 100000 in
theorem entries_of {H : Type} {enc : TypeId × Value → H} {W : World} {a : Option Addr} {len cap fuel : Nat} {x : DataW H × List MemPlace} (hlt : ∀ p ∈ x.2, p.block < W.heap.size)
    (h : DataW.trod enc Tryz.prog W 0 (fun _ => true) true fuel 47 [.slice a len cap] = some x) : ∃ l : List Fe, l.length = len ∧ EnAt W a l ∧ (∀ y ∈ l, FIn W y) ∧ len ≤ maxLen ∧ len ≤ cap := by
  rcases Deep.open_slice Tryz.underlying47 h with ⟨hcs, _⟩ | ⟨ad, ln, cp, m, n, D, Pl, hcs, hb, hl, hm, hmm, hx, hel⟩
  · simp at hcs
    exact ⟨[], hcs.2.1.symm, .inl rfl, by simp, by unfold maxLen; omega, by omega⟩
  · simp at hcs
    obtain ⟨rfl, rfl, rfl⟩ := hcs
    have hm' : m = cap := by simpa using hmm
    subst hm'
    have one : ∀ i, i < len → ∃ t : Tup, (∀ j v, (feC (ofT t)).toList[j]? = some v → W.cell? (ad.add (i * 10 + j)) = some v) ∧ FIn W (ofT t) := by
      intro i hi
      obtain ⟨cs', h1, h2⟩ := hel i (by omega)
      rw [cellsEntry] at h1
      obtain ⟨_, hlen, hcell⟩ := World.cells?_some h1
      match cs', hlen with
      | [v0, v1, v2, v3, v4, v5, v6, v7, v8, v9], _ =>
        obtain ⟨y, hy, hiy⟩ := en_in h2
        refine ⟨toT y, fun j v hj => ?_, by rw [of_to]; exact hiy⟩
        rw [of_to, ← hy] at hj
        have hj10 : j < 10 := by have := (List.getElem?_eq_some_iff.1 hj).1; simpa using this
        have c := hcell j hj10
        rw [Deep.add_add] at c
        rw [c]
        exact hj
    obtain ⟨f, hf⟩ := Deep.choose_lt one
    by_cases h0 : len = 0
    · subst h0
      exact ⟨[], rfl, .inl rfl, by simp, by unfold maxLen; omega, hl⟩
    · obtain ⟨g, o, spot⟩ := ad
      have hsp : spot = none := by simpa [Addr.add] using World.cell?_spot ((hf 0 (by omega)).1 0 _ rfl)
      subst hsp
      have hg : g < W.heap.size := hlt (.cell g (o + 0)) (by rw [hx, cellsEntry]; exact List.mem_append_left _ (by simp [MemPlace.row]; omega))
      refine ⟨(List.range len).map fun i => ofT (f i), by simp, .inr ⟨g, o, rfl, hg, fun i hi => ?_⟩, ?_, by unfold maxLen at hm ⊢; omega, hl⟩
      · have hi' : i < len := by simpa using hi
        simp only [List.getElem_map, List.getElem_range]
        intro j v hj
        have := (hf i hi').1 j v hj
        rw [plain] at this
        rwa [Nat.add_assoc]
      · intro t ht
        rw [List.mem_map] at ht
        obtain ⟨i, hi, rfl⟩ := ht
        exact (hf i (List.mem_range.1 hi)).2
set_option maxRecDepth 100000 in
theorem ops_of {H : Type} {enc : TypeId × Value → H} {W : World} {a : Option Addr} {len cap fuel : Nat} {x : DataW H × List MemPlace} (hlt : ∀ p ∈ x.2, p.block < W.heap.size)
    (h : DataW.trod enc Tryz.prog W 0 (fun _ => true) true fuel 22 [.slice a len cap] = some x) : ∃ l : List Opn, l.length = len ∧ OpAt W a l ∧ (∀ y ∈ l, FIn W y.x) ∧ len ≤ maxLen ∧ len ≤ cap := by
  rcases Deep.open_slice Tryz.underlying22 h with ⟨hcs, _⟩ | ⟨ad, ln, cp, m, n, D, Pl, hcs, hb, hl, hm, hmm, hx, hel⟩
  · simp at hcs
    exact ⟨[], hcs.2.1.symm, .inl rfl, by simp, by unfold maxLen; omega, by omega⟩
  · simp at hcs
    obtain ⟨rfl, rfl, rfl⟩ := hcs
    have hm' : m = cap := by simpa using hmm
    subst hm'
    have one : ∀ i, i < len → ∃ t : Int × Tup × Bool, (∀ j v, (opC (ofO t)).toList[j]? = some v → W.cell? (ad.add (i * 12 + j)) = some v) ∧ FIn W (ofO t).x := by
      intro i hi
      obtain ⟨cs', h1, h2⟩ := hel i (by omega)
      rw [cellsOp] at h1
      obtain ⟨_, hlen, hcell⟩ := World.cells?_some h1
      obtain ⟨xs, k, hk, hxy, _, hxl, hf⟩ := DataW.trod_struct Tryz.underlying42 h2
      match xs, hxl, cs', hlen with
      | [y0, y1, y2], _, [v0, v1, v2, v3, v4, v5, v6, v7, v8, v9, v10, v11], _ =>
        have g0 : DataW.trod enc Tryz.prog W 0 (fun _ => true) true k 3 [v0] = some y0 := by simpa [cellsInt, cellsEntry, cellsBool] using hf 0 _ rfl
        have g1 : DataW.trod enc Tryz.prog W 0 (fun _ => true) true k 40 [v1, v2, v3, v4, v5, v6, v7, v8, v9, v10] = some y1 := by simpa [cellsInt, cellsEntry, cellsBool] using hf 1 _ rfl
        have g2 : DataW.trod enc Tryz.prog W 0 (fun _ => true) true k 4 [v11] = some y2 := by simpa [cellsInt, cellsEntry, cellsBool] using hf 2 _ rfl
        obtain ⟨n0, e0, _, _⟩ := DataW.trod_int Tryz.underlying3 g0
        obtain ⟨b2, e2, _⟩ := DataW.trod_bool Tryz.underlying4 g2
        obtain ⟨y, hy, hiy⟩ := en_in g1
        have z0 := (List.cons.inj e0).1
        have z2 := (List.cons.inj e2).1
        refine ⟨toO ⟨n0, y, b2⟩, fun j v hj => ?_, by rw [of_toO]; exact hiy⟩
        rw [of_toO] at hj
        have el : (opC ⟨n0, y, b2⟩).toList = [v0, v1, v2, v3, v4, v5, v6, v7, v8, v9, v10, v11] := by
          have e : (opC ⟨n0, y, b2⟩).toList = .int .i64 n0 :: ((feC y).toList ++ [.bool b2]) := rfl
          rw [e, ← hy, z0, z2]
          rfl
        rw [el] at hj
        have hj12 : j < 12 := by have := (List.getElem?_eq_some_iff.1 hj).1; simpa using this
        have c := hcell j hj12
        rw [Deep.add_add] at c
        rw [c]
        exact hj
    obtain ⟨f, hf⟩ := Deep.choose_lt one
    by_cases h0 : len = 0
    · subst h0
      exact ⟨[], rfl, .inl rfl, by simp, by unfold maxLen; omega, hl⟩
    · obtain ⟨g, o, spot⟩ := ad
      have hsp : spot = none := by simpa [Addr.add] using World.cell?_spot ((hf 0 (by omega)).1 0 _ rfl)
      subst hsp
      have hg : g < W.heap.size := hlt (.cell g (o + 0)) (by rw [hx, cellsOp]; exact List.mem_append_left _ (by simp [MemPlace.row]; omega))
      refine ⟨(List.range len).map fun i => ofO (f i), by simp, .inr ⟨g, o, rfl, hg, fun i hi => ?_⟩, ?_, by unfold maxLen at hm ⊢; omega, hl⟩
      · have hi' : i < len := by simpa using hi
        simp only [List.getElem_map, List.getElem_range]
        intro j v hj
        have := (hf i hi').1 j v hj
        rw [plain] at this
        rwa [Nat.add_assoc]
      · intro t ht
        rw [List.mem_map] at ht
        obtain ⟨i, hi, rfl⟩ := ht
        exact (hf i (List.mem_range.1 hi)).2
theorem array13 {α : Type} {cs : Array α} (h : cs.size = 13) : ∃ c0 c1 c2 c3 c4 c5 c6 c7 c8 c9 c10 c11 c12, cs = #[c0, c1, c2, c3, c4, c5, c6, c7, c8, c9, c10, c11, c12] := by
  obtain ⟨l⟩ := cs
  match l, h with
  | [c0, c1, c2, c3, c4, c5, c6, c7, c8, c9, c10, c11, c12], _ => exact ⟨c0, c1, c2, c3, c4, c5, c6, c7, c8, c9, c10, c11, c12, rfl⟩
theorem wf_u32 {n : Int} (h : (Lit.int .u32 n).wf = true) : 0 ≤ n ∧ n < 4294967296 := by
  simp [Lit.wf, IntKind.min, IntKind.max, IntKind.signed, IntKind.bits] at h; omega
theorem e22 : Tryz.prog.cellsOf 23 = 1 := by kernel_rfl
theorem e23 : Tryz.prog.cellsOf 24 = 1 := by kernel_rfl
theorem e3 : Tryz.prog.cellsOf 3 = 1 := by kernel_rfl
theorem e9 : Tryz.prog.cellsOf 9 = 1 := by kernel_rfl
theorem e25 : Tryz.prog.cellsOf 26 = 11 := by kernel_rfl
set_option maxRecDepth 100000 in
theorem open_sn {H : Type} {enc : TypeId × Value → H} {W : World} {r : Reach} {b0 base : Nat} {sp : Nat → Bool} {held : Bool} {v : Value} {d : DataW H} {ps : List MemPlace} (hv : Value.okWide Tryz.prog W r b0 28 v) (h : DataW.Trod enc Tryz.prog W base sp held 28 v d ps) :
    ∃ s : Mt.Sn, v = Mt.snV s ∧ Mt.Wf s ∧ s.data.size ≤ maxLen := by
  obtain ⟨cs, rfl, hsz⟩ := okWide_struct Tryz.underlying28 hv
  obtain ⟨c0, c1, c2, c3, c4, c5, c6, c7, c8, c9, c10, c11, c12, rfl⟩ := array13 (hsz.trans (by kernel_rfl))
  obtain ⟨fuel, hf⟩ := h
  obtain ⟨xs, m, _, _, _, hlen, hfs⟩ := DataW.trod_struct Tryz.underlying28 hf
  match xs, hlen with
  | [y0, y1, yp], _ =>
    have tp : DataW.trod enc Tryz.prog W base sp held m 26 [c2, c3, c4, c5, c6, c7, c8, c9, c10, c11, c12] = some yp := by simpa [Value.cells, e25] using hfs 2 _ rfl
    obtain ⟨zs, n, _, _, _, hlen2, hgs⟩ := DataW.trod_struct Tryz.underlying26 tp
    match zs, hlen2 with
    | [y2, y3, y4, y5, y6, y7, y8, y9, y10, y11, y12], _ =>
      have t0 : DataW.trod enc Tryz.prog W base sp held m 3 [c0] = some y0 := by simpa [Value.cells, e3] using hfs 0 _ rfl
      obtain ⟨n0, q0, _, w0⟩ := DataW.trod_int Tryz.underlying3 t0
      have z0 := (List.cons.inj q0).1
      have t1 : DataW.trod enc Tryz.prog W base sp held m 23 [c1] = some y1 := by simpa [Value.cells, e22] using hfs 1 _ rfl
      obtain ⟨n1, q1, _, w1⟩ := DataW.trod_int Tryz.underlying23 t1
      have z1 := (List.cons.inj q1).1
      have t2 : DataW.trod enc Tryz.prog W base sp held n 23 [c2] = some y2 := by simpa [Value.cells, e22] using hgs 0 _ rfl
      obtain ⟨n2, q2, _, w2⟩ := DataW.trod_int Tryz.underlying23 t2
      have z2 := (List.cons.inj q2).1
      have t3 : DataW.trod enc Tryz.prog W base sp held n 23 [c3] = some y3 := by simpa [Value.cells, e22] using hgs 1 _ rfl
      obtain ⟨n3, q3, _, w3⟩ := DataW.trod_int Tryz.underlying23 t3
      have z3 := (List.cons.inj q3).1
      have t4 : DataW.trod enc Tryz.prog W base sp held n 3 [c4] = some y4 := by simpa [Value.cells, e3] using hgs 2 _ rfl
      obtain ⟨n4, q4, _, w4⟩ := DataW.trod_int Tryz.underlying3 t4
      have z4 := (List.cons.inj q4).1
      have t5 : DataW.trod enc Tryz.prog W base sp held n 3 [c5] = some y5 := by simpa [Value.cells, e3] using hgs 3 _ rfl
      obtain ⟨n5, q5, _, w5⟩ := DataW.trod_int Tryz.underlying3 t5
      have z5 := (List.cons.inj q5).1
      have t6 : DataW.trod enc Tryz.prog W base sp held n 24 [c6] = some y6 := by simpa [Value.cells, e23] using hgs 4 _ rfl
      obtain ⟨n6, q6, _, w6⟩ := DataW.trod_int Tryz.underlying24 t6
      have z6 := (List.cons.inj q6).1
      have t7 : DataW.trod enc Tryz.prog W base sp held n 24 [c7] = some y7 := by simpa [Value.cells, e23] using hgs 5 _ rfl
      obtain ⟨n7, q7, _, w7⟩ := DataW.trod_int Tryz.underlying24 t7
      have z7 := (List.cons.inj q7).1
      have t8 : DataW.trod enc Tryz.prog W base sp held n 3 [c8] = some y8 := by simpa [Value.cells, e3] using hgs 6 _ rfl
      obtain ⟨n8, q8, _, w8⟩ := DataW.trod_int Tryz.underlying3 t8
      have z8 := (List.cons.inj q8).1
      have t9 : DataW.trod enc Tryz.prog W base sp held n 3 [c9] = some y9 := by simpa [Value.cells, e3] using hgs 7 _ rfl
      obtain ⟨n9, q9, _, w9⟩ := DataW.trod_int Tryz.underlying3 t9
      have z9 := (List.cons.inj q9).1
      have t10 : DataW.trod enc Tryz.prog W base sp held n 3 [c10] = some y10 := by simpa [Value.cells, e3] using hgs 8 _ rfl
      obtain ⟨n10, q10, _, w10⟩ := DataW.trod_int Tryz.underlying3 t10
      have z10 := (List.cons.inj q10).1
      have t11 : DataW.trod enc Tryz.prog W base sp held n 3 [c11] = some y11 := by simpa [Value.cells, e3] using hgs 9 _ rfl
      obtain ⟨n11, q11, _, w11⟩ := DataW.trod_int Tryz.underlying3 t11
      have z11 := (List.cons.inj q11).1
      have t12 : DataW.trod enc Tryz.prog W base sp held n 9 [c12] = some y12 := by simpa [Value.cells, e9] using hgs 10 _ rfl
      obtain ⟨n12, q12, _, w12⟩ := DataW.trod_string Tryz.underlying9 t12
      have z12 := (List.cons.inj q12).1
      have a0 := wf_u64 w1
      have a4 := wf_u32 w6
      have a5 := wf_u32 w7
      exact ⟨⟨n0, n1, n2, n3, n4, n5, n6, n7, n8, n9, n10, n11, n12⟩, by rw [z0, z1, z2, z3, z4, z5, z6, z7, z8, z9, z10, z11, z12], ⟨a0.1, a0.2, a4.1, a4.2, a5.1, a5.2⟩, w12⟩
end Go.Proofs.YtjjfhibkcngphaaGreatDoor
/-
  What Add, Modify and Delete keep: the order, that no two are twins, that no two clash.
-/
namespace Go.Proofs.YtjjfhibkcngphaaGreatDoor
open Go.ChangeShapes Go.WideShapes Go.ChangeAt Go.RowKit
set_option linter.unusedVariables false
set_option linter.unusedSimpArgs false

/-- What an entry is known by: its Priority and its Tests. -/
def Fp.k (x : Fp) : Int × List Mt.T := (x.pri, x.lt)
theorem twin_iff {x y : Fp} : twinB x y = true ↔ x.k = y.k := by
  unfold twinB Fp.k Mt.sameB
  simp [Prod.mk.injEq]
theorem ins_pairwise {α : Type} {R : α → α → Prop} {l : List α} {E : Nat} {k : α} (h : l.Pairwise R) (h1 : ∀ a ∈ l.take E, R a k) (h2 : ∀ b ∈ l.drop E, R k b) : (l.take E ++ k :: l.drop E).Pairwise R := by
  rw [← List.take_append_drop E l] at h
  rw [List.pairwise_append] at h ⊢
  obtain ⟨a1, a2, a3⟩ := h
  refine ⟨a1, List.pairwise_cons.2 ⟨h2, a2⟩, fun a ha b hb => ?_⟩
  rcases List.mem_cons.1 hb with rfl | hb
  · exact h1 a ha
  · exact a3 a ha b hb
theorem end_before (p : Int) : ∀ (l : List Fp), ∀ y ∈ l.take (endV p l), p ≤ y.pri
  | [], y, hy => by simp [endV] at hy
  | z :: l, y, hy => by
    unfold endV at hy
    split at hy
    · simp at hy
    · rename_i h
      rw [List.take_succ_cons] at hy
      rcases List.mem_cons.1 hy with rfl | hy
      · omega
      · exact end_before p l y hy
theorem end_after (p : Int) : ∀ (l : List Fp), (l.map Fp.k).Pairwise (fun a b => b.1 ≤ a.1) → ∀ y ∈ l.drop (endV p l), y.pri < p
  | [], _, y, hy => by simp [endV] at hy
  | z :: l, hs, y, hy => by
    rw [List.map_cons, List.pairwise_cons] at hs
    unfold endV at hy
    split at hy
    · rename_i h
      rw [List.drop_zero] at hy
      rcases List.mem_cons.1 hy with rfl | hy
      · exact h
      · have := hs.1 y.k (List.mem_map.2 ⟨y, hy, rfl⟩)
        simp only [Fp.k] at this
        omega
    · rw [List.drop_succ_cons] at hy
      exact end_after p l hs.2 y hy
/-- How a list of entries may be put. -/
theorem put_ways (l : List Fp) (x : Fp) : (∃ i, ∃ h : i < l.length, l[i].k = x.k ∧ putL l x = l.set i x) ∨ ((∀ y ∈ l, y.k ≠ x.k) ∧ putL l x = insL l x) := by
  unfold putL
  cases hf : l.findIdx? (twinB x) with
  | none =>
    right
    rw [List.findIdx?_eq_none_iff] at hf
    refine ⟨fun y hy e => ?_, rfl⟩
    have h1 := hf y hy
    have h2 := twin_iff.2 e.symm
    rw [h2] at h1
    cases h1
  | some i =>
    left
    rw [List.findIdx?_eq_some_iff_getElem] at hf
    obtain ⟨hk, h1, _⟩ := hf
    exact ⟨i, hk, (twin_iff.1 h1).symm, rfl⟩
theorem set_k {l : List Fp} {i : Nat} {x : Fp} (h : i < l.length) (e : l[i].k = x.k) : (l.set i x).map Fp.k = l.map Fp.k := by
  rw [List.map_set, ← e]
  have : l[i].k = (l.map Fp.k)[i]'(by simpa using h) := by simp
  rw [this]
  exact List.set_getElem_self _
theorem ins_k (l : List Fp) (x : Fp) : (insL l x).map Fp.k = (l.map Fp.k).take (endV x.pri l) ++ x.k :: (l.map Fp.k).drop (endV x.pri l) := by
  unfold insL
  rw [List.map_append, List.map_cons, List.map_take, List.map_drop]
theorem mod_k (l : List Fp) (x : Fp) (s : Bool) : (modL l x s).map Fp.k = l.map Fp.k := by
  unfold modL
  rw [List.map_map]
  apply List.map_congr_left
  intro y _
  simp only [Function.comp]
  unfold chgE
  split <;> rfl
theorem del_k (l : List Fp) (x : Fp) (s : Bool) : ((delL l x s).map Fp.k).Sublist (l.map Fp.k) := by
  unfold delL
  exact List.Sublist.map _ List.filter_sublist
/-- What is kept of the entries of a table. -/
structure KI (l : List Fp) : Prop where
  dn : (l.map Fp.k).Pairwise (fun a b => b.1 ≤ a.1)
  nd : (l.map Fp.k).Pairwise (fun a b => a ≠ b)
  tw : ∀ k ∈ l.map Fp.k, Mt.TWs k.2
theorem KI.nil : KI [] := ⟨List.Pairwise.nil, List.Pairwise.nil, by simp⟩
theorem KI.of_k {l m : List Fp} (h : KI l) (e : m.map Fp.k = l.map Fp.k) : KI m := ⟨by rw [e]; exact h.dn, by rw [e]; exact h.nd, by rw [e]; exact h.tw⟩
theorem KI.sub {l m : List Fp} (h : KI l) (e : (m.map Fp.k).Sublist (l.map Fp.k)) : KI m := ⟨h.dn.sublist e, h.nd.sublist e, fun k hk => h.tw k (e.subset hk)⟩
theorem KI.put {l : List Fp} (h : KI l) {x : Fp} (hx : Mt.TWs x.lt) : KI (putL l x) := by
  rcases put_ways l x with ⟨i, hi, e, hp⟩ | ⟨hn, hp⟩
  · rw [hp]; exact h.of_k (set_k hi e)
  · rw [hp]
    have mt : ∀ a ∈ (l.map Fp.k).take (endV x.pri l), ∃ y ∈ l.take (endV x.pri l), y.k = a := fun a ha => by rw [← List.map_take] at ha; exact List.mem_map.1 ha
    have md : ∀ a ∈ (l.map Fp.k).drop (endV x.pri l), ∃ y ∈ l.drop (endV x.pri l), y.k = a := fun a ha => by rw [← List.map_drop] at ha; exact List.mem_map.1 ha
    refine ⟨?_, ?_, ?_⟩
    · rw [ins_k]
      refine ins_pairwise h.dn (fun a ha => ?_) (fun b hb => ?_)
      · obtain ⟨y, hy, rfl⟩ := mt a ha
        exact end_before _ _ y hy
      · obtain ⟨y, hy, rfl⟩ := md b hb
        have := end_after _ _ h.dn y hy
        show y.pri ≤ x.pri
        omega
    · rw [ins_k]
      refine ins_pairwise h.nd (fun a ha => ?_) (fun b hb => ?_)
      · obtain ⟨y, hy, rfl⟩ := mt a ha
        exact hn y (List.mem_of_mem_take hy)
      · obtain ⟨y, hy, rfl⟩ := md b hb
        exact fun e => hn y (List.mem_of_mem_drop hy) e.symm
    · intro k hk
      rw [ins_k] at hk
      rcases List.mem_append.1 hk with hk | hk
      · exact h.tw k (List.mem_of_mem_take hk)
      · rcases List.mem_cons.1 hk with rfl | hk
        · exact hx
        · exact h.tw k (List.mem_of_mem_drop hk)
theorem KI.add {room : Int} {l : List Fp} (h : KI l) {x : Fp} (hx : Mt.TWs x.lt) (chk : Bool) : KI (addL room l x chk) := by
  unfold addL
  split
  · exact h.put hx
  · exact h
theorem KI.upd {P : Nat → List Fp} (h : ∀ t, KI (P t)) {t : Nat} {l : List Fp} (hl : KI l) : ∀ u, KI (upd P t l u) := fun u => by
  unfold Go.Proofs.YtjjfhibkcngphaaGreatDoor.upd
  split
  · exact hl
  · exact h u
theorem KI.do_ {room : Int} {P : Nat → List Fp} (h : ∀ t, KI (P t)) (k : Int) {x : Fp} (hx : Mt.TWs x.lt) (s : Bool) : ∀ t, KI (doP room P k x s t) := by
  unfold doP
  split
  · unfold addT; split
    · exact KI.upd h ((h _).add hx s)
    · exact h
  · split
    · unfold modP; split
      · exact KI.upd h ((h _).of_k (mod_k _ _ _))
      · exact h
    · unfold delP; split
      · exact KI.upd h ((h _).sub (del_k _ _ _))
      · exact h
/-- No two clash. -/
def noCl (a b : Int × List Mt.T) : Prop := (a.1 = b.1 → Mt.meetsB a.2 b.2 = false) ∧ (a.1 = b.1 → Mt.meetsB b.2 a.2 = false)
def CI (l : List Fp) : Prop := (l.map Fp.k).Pairwise noCl
theorem clashT_sym (t u : Mt.T) : Mt.clashT t u = Mt.clashT u t := by
  unfold Mt.clashT
  rw [Mt.feq_sym, Mt.clash_sym]
theorem meets_sym (a b : List Mt.T) : Mt.meetsB a b = Mt.meetsB b a := by
  apply Mt.bool_iff
  unfold Mt.meetsB
  simp only [List.all_eq_true]
  constructor
  · intro h t ht u hu
    have := h u hu t ht
    rwa [clashT_sym] at this
  · intro h t ht u hu
    have := h u hu t ht
    rwa [clashT_sym] at this
theorem CI.add {room : Int} {l : List Fp} (h : CI l) (x : Fp) : CI (addL room l x true) := by
  unfold addL
  split
  · rename_i he
    have hcl : l.any (clashB x) = false := by
      cases hc : l.any (clashB x) with
      | false => rfl
      | true =>
        unfold addE at he
        rw [hc] at he
        simp at he
    rw [List.any_eq_false] at hcl
    have hno : ∀ y ∈ l, noCl x.k y.k := fun y hy => by
      have h1 : clashB x y = false := by simpa using hcl y hy
      have h2 : x.pri = y.pri → Mt.meetsB x.lt y.lt = false := fun e => by
        unfold clashB at h1
        rw [e] at h1
        simpa using h1
      exact ⟨h2, fun e => by rw [meets_sym]; exact h2 e⟩
    rcases put_ways l x with ⟨i, hi, e, hp⟩ | ⟨hn, hp⟩
    · rw [hp]
      unfold CI
      rw [set_k hi e]
      exact h
    · rw [hp]
      unfold CI
      rw [ins_k]
      refine ins_pairwise h (fun a ha => ?_) (fun b hb => ?_)
      · rw [← List.map_take] at ha
        obtain ⟨y, hy, rfl⟩ := List.mem_map.1 ha
        have := hno y (List.mem_of_mem_take hy)
        exact ⟨fun e => this.2 e.symm, fun e => this.1 e.symm⟩
      · rw [← List.map_drop] at hb
        obtain ⟨y, hy, rfl⟩ := List.mem_map.1 hb
        exact hno y (List.mem_of_mem_drop hy)
  · exact h
theorem CI.addT {room : Int} {P : Nat → List Fp} (h : ∀ t, CI (P t)) (x : Fp) : ∀ t, CI (addT room P x true t) := by
  unfold Go.Proofs.YtjjfhibkcngphaaGreatDoor.addT
  split
  · intro u
    unfold Go.Proofs.YtjjfhibkcngphaaGreatDoor.upd
    split
    · exact (h _).add x
    · exact h u
  · exact h
/-- Two that take one packet meet. -/
theorem sound2 (a b : List Mt.T) (s : Mt.Sn) (ha : Mt.TWs a) (hb : Mt.TWs b) (hx : Mt.takesB a s = true) (hy : Mt.takesB b s = true) : Mt.meetsB a b = true := by
  unfold Mt.meetsB
  unfold Mt.takesB at hx hy
  rw [List.all_eq_true] at hx hy ⊢
  intro t ht
  rw [List.all_eq_true]
  intro u hu
  have h1 := hx t ht
  have h2 := hy u hu
  have wt := ha t ht
  have wu := hb u hu
  unfold Mt.takeT at h1 h2
  simp only [Bool.and_eq_true, beq_iff_eq] at h1 h2
  rw [Bool.not_eq_true']
  unfold Mt.clashT
  by_cases he : u.1 = t.1
  · rw [he] at h2
    have := and_meet (Mt.getV s t.1) u.2.2 u.2.1 t.2.2 t.2.1 wt.v0 wt.v1 wu.v0 wu.v1 h1.2 h2.2
    rw [this]
    simp
  · have : (u.1 == t.1) = false := by simpa using he
    rw [this]
    rfl
/-- A right match covers itself. -/
theorem fit_all : ∀ (r l : List Mt.T), Mt.rightGo l r = 0 → ∀ t ∈ r, Mt.fitB t = true ∧ ¬ (t.1 < 1 ∨ 9 < t.1)
  | [], _, _, t, ht => by cases ht
  | t :: r, l, h, u, hu => by
    obtain ⟨h1, h2⟩ := Mt.right_cons.1 h
    rcases List.mem_cons.1 hu with rfl | hu
    · unfold Mt.behindE at h1
      split at h1
      · cases h1
      · rename_i hw
        split at h1
        · cases h1
        · rename_i hc
          refine ⟨?_, fun e => hw (Mt.wdV_none e)⟩
          cases hf : Mt.fitB u with
          | true => rfl
          | false => exact absurd (.inr (.inl hf)) hc
    · exact fit_all r _ h2 u hu
theorem covers_self (l : List Mt.T) (hr : Mt.rightE l = 0) (hw : Mt.TWs l) : Mt.coversB l l = true := by
  unfold Mt.coversB
  rw [List.all_eq_true]
  intro t ht
  rw [List.any_eq_true]
  refine ⟨t, ht, ?_⟩
  obtain ⟨h1, h2⟩ := fit_all l [] hr t ht
  have h3 := Mt.rfit_eq t (hw t ht) h2
  rw [h1] at h3
  unfold Mt.rfitB at h3
  simp only [Bool.and_eq_true, beq_iff_eq] at h3
  unfold Mt.coverT
  simp only [Bool.and_eq_true, beq_iff_eq]
  refine ⟨⟨trivial, ?_⟩, h3.2⟩
  have hm := hw t ht
  rw [u_and, BitVec.and_self, nat_bv _ hm.m0 hm.m1]
/-- How many twins there are. -/
def cntT (l : List Fp) (x : Fp) : Nat := (l.filter fun y => twinB y x).length
theorem cnt_snoc {l : List Fp} {x : Fp} {k : Nat} (h : k < l.length) : cntT (l.take (k + 1)) x = cntT (l.take k) x + if twinB l[k] x = true then 1 else 0 := by
  unfold cntT
  rw [List.take_succ_eq_append_getElem h, List.filter_append, List.length_append]
  congr 1
  split <;> simp_all
theorem one_of {α : Type} {l : List α} (c : α) (h : l.Pairwise (fun a b => a ≠ b)) (he : ∀ a ∈ l, a = c) : l.length ≤ 1 := by
  match l, h, he with
  | [], _, _ => simp
  | [_], _, _ => simp
  | a :: b :: r, h, he =>
    rw [List.pairwise_cons] at h
    exact absurd ((he a (by simp)).trans (he b (by simp)).symm) (h.1 b (by simp))
theorem KI.cnt {l : List Fp} (h : KI l) (x : Fp) : cntT l x ≤ 1 := by
  unfold cntT
  have h1 : (((l.filter fun y => twinB y x)).map Fp.k).Pairwise (fun a b => a ≠ b) := h.nd.sublist (List.Sublist.map _ List.filter_sublist)
  have h2 := one_of x.k h1 (fun a ha => by
    obtain ⟨y, hy, rfl⟩ := List.mem_map.1 ha
    exact twin_iff.1 (List.mem_filter.1 hy).2)
  simpa using h2
theorem KI.same {l : List Fp} (h : KI l) {x y : Fp} (hx : x ∈ l) (hy : y ∈ l) (e : y.k = x.k) : y = x := by
  obtain ⟨i, hi, rfl⟩ := List.mem_iff_getElem.1 hx
  obtain ⟨j, hj, rfl⟩ := List.mem_iff_getElem.1 hy
  have hp := List.pairwise_iff_getElem.1 h.nd
  rcases Nat.lt_trichotomy i j with hlt | rfl | hlt
  · exact absurd (by rw [List.getElem_map, List.getElem_map]; exact e.symm) (hp i j (by simpa using hi) (by simpa using hj) hlt)
  · rfl
  · exact absurd (by rw [List.getElem_map, List.getElem_map]; exact e) (hp j i (by simpa using hj) (by simpa using hi) hlt)
theorem cnt_pos {l : List Fp} {x : Fp} (h : x ∈ l) : 0 < cntT l x := by
  unfold cntT
  exact List.length_pos_of_mem (List.mem_filter.2 ⟨h, twin_iff.2 rfl⟩)
theorem mem_put (l : List Fp) (x : Fp) : x ∈ putL l x := by
  rcases put_ways l x with ⟨i, hi, e, hp⟩ | ⟨hn, hp⟩
  · rw [hp]; exact List.mem_set hi x
  · rw [hp]; unfold insL; exact List.mem_append_right _ (List.mem_cons_self)
theorem tab_addT {room : Int} {P : Nat → List Fp} {x : Fp} {chk : Bool} (h : addR room P x chk = 0) : x ∈ tabOf (addT room P x chk) x.tab := by
  unfold addR at h
  split at h
  · rename_i hw
    obtain ⟨h0, h8⟩ := wrong_tab hw
    unfold tabOf addT
    rw [if_pos ⟨h0, h8⟩, if_pos hw, upd_same]
    unfold addL
    rw [if_pos h]
    exact mem_put _ _
  · rename_i hw
    exact absurd h hw
theorem tab_delP {P : Nat → List Fp} {x : Fp} {s : Bool} (h : wrongE x = 0) (hw : Mt.TWs x.lt) : cntT (tabOf (delP P x s) x.tab) x = 0 := by
  obtain ⟨h0, h8⟩ := wrong_tab h
  unfold tabOf delP
  rw [if_pos ⟨h0, h8⟩, if_pos h, upd_same]
  unfold cntT
  rw [List.length_eq_zero_iff, List.filter_eq_nil_iff]
  intro y hy ht
  unfold delL at hy
  obtain ⟨_, hm⟩ := List.mem_filter.1 hy
  have e := twin_iff.1 ht
  have hr : Mt.rightE x.lt = 0 := by
    unfold wrongE at h
    split at h
    · rename_i h1; exact absurd h h1
    · split at h
      · rename_i h1; exact absurd h h1
      · rename_i h1; simpa using h1
  unfold meansB at hm
  cases s with
  | true =>
    rw [if_pos rfl, twin_iff.2 e.symm] at hm
    cases hm
  | false =>
    have el : y.lt = x.lt := congrArg Prod.snd e
    rw [if_neg (by decide), el, covers_self x.lt hr hw] at hm
    cases hm
theorem KI.tab {P : Nat → List Fp} (h : ∀ t, KI (P t)) (t : Int) : KI (tabOf P t) := by
  unfold tabOf
  split
  · exact h _
  · exact KI.nil
/-- The order, one by one. -/
theorem KI.down {l : List Fp} (h : KI l) {i : Nat} (h0 : 0 < i) (hi : i < l.length) : l[i].pri ≤ (l[i - 1]'(by omega)).pri := by
  have hp := List.pairwise_iff_getElem.1 h.dn (i - 1) i (by simp; omega) (by simpa using hi) (by omega)
  simpa [Fp.k] using hp
theorem clash_no {l : List Fp} (hk : KI l) (hc : CI l) (s : Mt.Sn) {i k : Nat} (hi : i < l.length) (hki : k < i) (e : l[i].pri = (l[k]'(by omega)).pri) (h1 : Mt.takesB l[i].lt s = true) : Mt.takesB (l[k]'(by omega)).lt s = false := by
  cases h2 : Mt.takesB (l[k]'(by omega)).lt s with
  | false => rfl
  | true =>
    have hp := List.pairwise_iff_getElem.1 hc k i (by simp; omega) (by simpa using hi) hki
    have hm : Mt.meetsB (l[k]'(by omega)).lt l[i].lt = true := sound2 _ _ s (hk.tw _ (List.mem_map.2 ⟨_, List.getElem_mem (by omega), rfl⟩)) (hk.tw _ (List.mem_map.2 ⟨_, List.getElem_mem hi, rfl⟩)) h2 h1
    have := hp.1 (by simpa [Fp.k] using e.symm)
    simp [Fp.k] at this
    rw [hm] at this
    cases this
end Go.Proofs.YtjjfhibkcngphaaGreatDoor
/-
  What the laws' loops carry: the tables and what they have; cells in regions that draw.
-/
namespace Go.Proofs.YtjjfhibkcngphaaGreatDoor
open Go.ChangeShapes Go.WideShapes Go.ChangeAt Go.RowKit
set_option linter.unusedVariables false
set_option linter.unusedSimpArgs false

theorem be_gr0 {W : World} {b : Nat} {x : Fe} (h : Be W b 0 x) (hb : b < W.heap.size) : (∀ n : GrT W, n.w.cell? ⟨b, 0, none⟩ = some (.int .i64 x.p.tab)) ∧ (∀ n : GrT W, n.w.cell? ⟨b, 1, none⟩ = some (.int .i64 x.p.pri)) ∧ (∀ n : GrT W, n.w.cell? ⟨b, 2, none⟩ = some (.slice x.ta x.p.lt.length x.tc)) ∧ (∀ n : GrT W, n.w.cell? ⟨b, 3, none⟩ = some (.slice x.aa x.p.la.length x.ca)) ∧ (∀ n : GrT W, n.w.cell? ⟨b, 4, none⟩ = some (.slice x.aw x.p.lw.length x.cw)) ∧ (∀ n : GrT W, n.w.cell? ⟨b, 5, none⟩ = some (.bool x.p.clr)) ∧ (∀ n : GrT W, n.w.cell? ⟨b, 6, none⟩ = some (.int .u64 x.p.mt)) ∧ (∀ n : GrT W, n.w.cell? ⟨b, 7, none⟩ = some (.int .u64 x.p.mm)) ∧ (∀ n : GrT W, n.w.cell? ⟨b, 8, none⟩ = some (.int .i64 x.p.met)) ∧ (∀ n : GrT W, n.w.cell? ⟨b, 9, none⟩ = some (.int .i64 x.p.go)) :=
  ⟨fun n => (h.gr hb n).at0 0 _ rfl, fun n => (h.gr hb n).at0 1 _ rfl, fun n => (h.gr hb n).at0 2 _ rfl, fun n => (h.gr hb n).at0 3 _ rfl, fun n => (h.gr hb n).at0 4 _ rfl, fun n => (h.gr hb n).at0 5 _ rfl, fun n => (h.gr hb n).at0 6 _ rfl, fun n => (h.gr hb n).at0 7 _ rfl, fun n => (h.gr hb n).at0 8 _ rfl, fun n => (h.gr hb n).at0 9 _ rfl⟩
theorem be_gr {W : World} {b o : Nat} {x : Fe} (h : Be W b o x) (hb : b < W.heap.size) : (∀ n : GrT W, n.w.cell? ⟨b, o, none⟩ = some (.int .i64 x.p.tab)) ∧ (∀ n : GrT W, n.w.cell? ⟨b, o + 1, none⟩ = some (.int .i64 x.p.pri)) ∧ (∀ n : GrT W, n.w.cell? ⟨b, o + 2, none⟩ = some (.slice x.ta x.p.lt.length x.tc)) ∧ (∀ n : GrT W, n.w.cell? ⟨b, o + 3, none⟩ = some (.slice x.aa x.p.la.length x.ca)) ∧ (∀ n : GrT W, n.w.cell? ⟨b, o + 4, none⟩ = some (.slice x.aw x.p.lw.length x.cw)) ∧ (∀ n : GrT W, n.w.cell? ⟨b, o + 5, none⟩ = some (.bool x.p.clr)) ∧ (∀ n : GrT W, n.w.cell? ⟨b, o + 6, none⟩ = some (.int .u64 x.p.mt)) ∧ (∀ n : GrT W, n.w.cell? ⟨b, o + 7, none⟩ = some (.int .u64 x.p.mm)) ∧ (∀ n : GrT W, n.w.cell? ⟨b, o + 8, none⟩ = some (.int .i64 x.p.met)) ∧ (∀ n : GrT W, n.w.cell? ⟨b, o + 9, none⟩ = some (.int .i64 x.p.go)) :=
  ⟨fun n => h.gr hb n 0 _ rfl, fun n => h.gr hb n 1 _ rfl, fun n => h.gr hb n 2 _ rfl, fun n => h.gr hb n 3 _ rfl, fun n => h.gr hb n 4 _ rfl, fun n => h.gr hb n 5 _ rfl, fun n => h.gr hb n 6 _ rfl, fun n => h.gr hb n 7 _ rfl, fun n => h.gr hb n 8 _ rfl, fun n => h.gr hb n 9 _ rfl⟩
theorem sn_gr {W : World} {b : Nat} {s : Mt.Sn} (h : W.rangeAt b 0 (Mt.snC s).toList) (hb : b < W.heap.size) : (∀ n : GrT W, n.w.cell? ⟨b, 0, none⟩ = some (.int .i64 s.inp)) ∧ (∀ n : GrT W, n.w.cell? ⟨b, 1, none⟩ = some (.int .u64 s.mt)) ∧ (∀ n : GrT W, n.w.cell? ⟨b, 2, none⟩ = some (.int .u64 s.to)) ∧ (∀ n : GrT W, n.w.cell? ⟨b, 3, none⟩ = some (.int .u64 s.fr)) ∧ (∀ n : GrT W, n.w.cell? ⟨b, 4, none⟩ = some (.int .i64 s.vl)) ∧ (∀ n : GrT W, n.w.cell? ⟨b, 5, none⟩ = some (.int .i64 s.ty)) ∧ (∀ n : GrT W, n.w.cell? ⟨b, 6, none⟩ = some (.int .u32 s.src)) ∧ (∀ n : GrT W, n.w.cell? ⟨b, 7, none⟩ = some (.int .u32 s.dst)) ∧ (∀ n : GrT W, n.w.cell? ⟨b, 8, none⟩ = some (.int .i64 s.life)) ∧ (∀ n : GrT W, n.w.cell? ⟨b, 9, none⟩ = some (.int .i64 s.pro)) ∧ (∀ n : GrT W, n.w.cell? ⟨b, 10, none⟩ = some (.int .i64 s.sp)) ∧ (∀ n : GrT W, n.w.cell? ⟨b, 11, none⟩ = some (.int .i64 s.dp)) ∧ (∀ n : GrT W, n.w.cell? ⟨b, 12, none⟩ = some (.string s.data)) := by
  have k : ∀ (n : GrT W) (j : Nat) (v : Value), (Mt.snC s).toList[j]? = some v → n.w.cell? ⟨b, j, none⟩ = some v := fun n j v hv => by
    have h1 := h j v hv
    rw [Nat.zero_add] at h1
    exact (n.h.cell (p := ⟨b, j, none⟩) hb).trans h1
  exact ⟨fun n => k n 0 _ rfl, fun n => k n 1 _ rfl, fun n => k n 2 _ rfl, fun n => k n 3 _ rfl, fun n => k n 4 _ rfl, fun n => k n 5 _ rfl, fun n => k n 6 _ rfl, fun n => k n 7 _ rfl, fun n => k n 8 _ rfl, fun n => k n 9 _ rfl, fun n => k n 10 _ rfl, fun n => k n 11 _ rfl, fun n => k n 12 _ rfl⟩
/-- The parent's class of grown worlds, and match's. -/
theorem gr_mt {W w' : World} (g : Below W.heap.size W w') : ∃ n : GrT W, w' = n.w := ⟨some ⟨w', g⟩, rfl⟩
/-- What a law's loop carries. -/
structure LI (w0 wr : World) (f : Nat) (S : Nat → Prop) (room : Int) (P : Nat → List Fp) : Prop where
  fs : Fs wr f S room P
  sb : ∀ b, S b → w0.heap.size ≤ b
  bl : Below w0.heap.size w0 wr
theorem LI.below {w0 wr w' : World} {f : Nat} {S : Nat → Prop} {room : Int} {P : Nat → List Fp} (h : LI w0 wr f S room P) (g : Below wr.heap.size wr w') : LI w0 w' f S room P := ⟨h.fs.below g, h.sb, btr h.bl g (Nat.le_refl _)⟩
theorem LI.kept {w0 wr w' : World} {f : Nat} {S S' : Nat → Prop} {room : Int} {P Q : Nat → List Fp} (h : LI w0 wr f S room P) (k : Kept S wr w') (hf : Fs w' f S' room Q) (hs : ∀ b, S' b → S b ∨ wr.heap.size ≤ b) : LI w0 w' f S' room Q := by
  refine ⟨hf, fun b hb => ?_, h.bl.trans (k.below h.bl.size h.sb)⟩
  rcases hs b hb with h1 | h1
  · exact h.sb b h1
  · exact Nat.le_trans h.bl.size h1
theorem LI.do_ {w0 wr : World} {f : Nat} {S : Nat → Prop} {room : Int} {P : Nat → List Fp} (h : LI w0 wr f S room P) (o : Opn) (hx : FIn w0 o.x) (hf : fewB o.x.p = true) (hd : Cd w0) :
    Calls Tryz.prog 11 #[.pointer (some ⟨f, 0, none⟩), opV o] wr fun e w' => e = .returned (.int .i64 (doR room P o.ask o.x.p o.hard)) ∧ ∃ S', LI w0 w' f S' room (doP room P o.ask o.x.p o.hard) :=
  (do_any f S room P o wr h.fs ((hx.fw hf).below h.bl) (fun b hb hs => by have := h.sb b hs; have := hx.lt hb; omega) (hd.below h.bl)).mono fun _ _ ⟨a, S', b, c, d⟩ => ⟨a, S', h.kept c b d⟩
theorem LI.add {w0 wr : World} {f : Nat} {S : Nat → Prop} {room : Int} {P : Nat → List Fp} (h : LI w0 wr f S room P) (x : Fe) (chk : Bool) (hx : FIn w0 x) (hf : fewB x.p = true) (hd : Cd w0) :
    Calls Tryz.prog 19 #[.pointer (some ⟨f, 0, none⟩), feV x, .bool chk] wr fun e w' => e = .returned (.int .i64 (addR room P x.p chk)) ∧ ∃ S', LI w0 w' f S' room (addT room P x.p chk) :=
  (add_any f S room P x chk wr h.fs ((hx.fw hf).below h.bl) (hd.below h.bl)).mono fun _ _ ⟨a, S', b, c, d⟩ => ⟨a, S', h.kept c b d⟩
theorem LI.len {w0 wr : World} {f : Nat} {S : Nat → Prop} {room : Int} {P : Nat → List Fp} (h : LI w0 wr f S room P) (t : Int) : ((tabOf P t).length : Int) ≤ room := by
  obtain ⟨V, L, hF, hp⟩ := h.fs
  unfold tabOf
  split
  · rename_i ht
    have h8 : t.toNat < 8 := by omega
    rw [← hp _ h8, List.length_map]
    exact hF.nm _ h8
  · have := hF.r1
    simp; omega
theorem LI.room {w0 wr : World} {f : Nat} {S : Nat → Prop} {room : Int} {P : Nat → List Fp} (h : LI w0 wr f S room P) : 1 ≤ room ∧ room ≤ 256 := by
  obtain ⟨V, L, hF, hp⟩ := h.fs
  exact ⟨hF.r1, hF.r2⟩
/-- A whole call is loaded, and stored. -/
theorem infoO (o : Opn) : (Tryz.prog.info? 42).map (·.size) = some (opC o).toList.length := by kernel_rfl
theorem hiO (o : Opn) : (Tryz.prog.info? 42).map (·.size) = some (opC o).size := by kernel_rfl
theorem oneO (o : Opn) : (opC o).all (·.oneCell') = true := by simp [Value.oneCell']
theorem load_O {ops : Array Oper} {rest : List Oper} {op : Oper} {a : Go.Act} {w : World} {Q : Exit → Go.Act → World → Prop} (hw : Region.wanted op (yielded ops a.tmps) = true) (t : Operand) (ho : op.op = .load 42 t)
    (b k : Nat) (o : Opn) (hx : a.eval t = .pointer (some ⟨b, k, none⟩)) (hB : w.rangeAt b k (opC o).toList)
    (h : wpList Tryz.prog ops Q rest (a.put op.dst (opV o)) w) : wpList Tryz.prog ops Q (op :: rest) a w :=
  BigFrame.wpList_want hw fun _ hK => wp_load_mid 42 t ho b k hx (opC o).toList _ hB Tryz.underlying42 rfl (infoO o) (hK _ _ h)
theorem store_O {ops : Array Oper} {rest : List Oper} {op : Oper} {a : Go.Act} {w : World} {Q : Exit → Go.Act → World → Prop} (hgd : op.guard = none) (t y : Operand) (ho : op.op = .store 42 t y)
    (b k : Nat) (o : Opn) (hx : a.eval t = .pointer (some ⟨b, k, none⟩)) (hy : a.eval y = opV o) (ht : w.there b k 12)
    (h : ∀ V, V.rangeAt b k (opC o).toList → Only b w V → wpList Tryz.prog ops Q rest (a.put op.dst undef) V) : wpList Tryz.prog ops Q (op :: rest) a w :=
  wpList_store_mid hgd 42 t y ho b k (opC o) hx hy ht (hiO o) (oneO o) (h _ (World.rangeAt_setCells_same w b k (opC o).toList ht) (only_cells b _ _ _ _ (Only.refl b w)))
abbrev zeroO : Array Value := #[.int .i64 0, .int .i64 0, .int .i64 0, .slice none 0 0, .slice none 0 0, .slice none 0 0, .bool false, .int .u64 0, .int .u64 0, .int .i64 0, .int .i64 0, .bool false]
theorem OpAt.at {w : World} {a : Option Addr} {l : List Opn} (h : OpAt w a l) {k : Nat} (hk : k < l.length) : ∃ g o, a = some ⟨g, o, none⟩ ∧ g < w.heap.size ∧ w.rangeAt g (o + k * 12) (opC l[k]).toList := by
  rcases h with rfl | ⟨g, o, ha, hg, hc⟩
  · cases hk
  · exact ⟨g, o, ha, hg, hc k hk⟩
theorem EnAt.at {w : World} {a : Option Addr} {l : List Fe} (h : EnAt w a l) {k : Nat} (hk : k < l.length) : ∃ g o, a = some ⟨g, o, none⟩ ∧ g < w.heap.size ∧ Be w g (o + k * 10) l[k] := by
  rcases h with rfl | ⟨g, o, ha, hg, hc⟩
  · cases hk
  · exact ⟨g, o, ha, hg, hc k hk⟩
end Go.Proofs.YtjjfhibkcngphaaGreatDoor

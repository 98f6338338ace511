/-
  Tables as they lie in memory; what is wrong with an entry; New and entries, as contracts.
-/
import Derived.Test.YtjjfhibkcngphaaDoorFIns
namespace Go.Proofs.YtjjfhibkcngphaaDoor
open Go.ChangeShapes Go.WideShapes Go.ChangeAt Go.RowKit
set_option linter.unusedVariables false

/-- What is wrong with an entry. -/
def priB (n : Int) : Bool := decide (n < 0) || decide (65535 < n)
def wrongE (x : Fp) : Int := if rightX x.sp ≠ 0 then rightX x.sp else if Mt.rightE x.lt ≠ 0 then Mt.rightE x.lt else if priB x.pri = true then 1 else 0
theorem wrong_tab {x : Fp} (h : wrongE x = 0) : 0 ≤ x.tab ∧ x.tab < 8 := by
  unfold wrongE at h
  split at h
  · contradiction
  · rename_i h1
    have h2 : rightX x.sp = 0 := by simpa using h1
    by_cases ht : tabB x.tab = true
    · unfold tabB at ht
      simpa using ht
    · have : rightX x.sp = 26 := by unfold rightX; rw [if_pos (by simpa [Fp.sp] using ht)]
      omega
/-- Tables: the room, eight rows of entries with lists of their own; S: the blocks that they have. -/
structure Fl (w : World) (f : Nat) (S : Nat → Prop) (room : Int) (V : Nat → Value) (L : Nat → List Fe) : Prop where
  rm : w.cell? ⟨f, 0, none⟩ = some (.int .i64 room)
  cv : ∀ t, t < 8 → w.cell? ⟨f, 1 + t, none⟩ = some (V t)
  fz : ∀ t, w.frozen? ⟨f, t, none⟩ = false
  row : ∀ t, t < 8 → OwnE 0 w (V t) (L t)
  sf : S f
  sr : ∀ t, t < 8 → ∀ g, (V t).ownBlock = some g → S g ∧ g ≠ f
  ap : ∀ t u, t < 8 → u < 8 → t ≠ u → ∀ g, (V t).ownBlock = some g → (V u).ownBlock ≠ some g
  en : ∀ t, t < 8 → ∀ x ∈ L t, FW w x ∧ ∀ b, InF x b → S b ∧ b ≠ f ∧ ∀ u, u < 8 → (V u).ownBlock ≠ some b
  lt : ∀ b, S b → b < w.heap.size
  lo : ∀ b, S b → 2 ≤ b
  r1 : 1 ≤ room
  r2 : room ≤ 256
  nm : ∀ t, t < 8 → ((L t).length : Int) ≤ room
/-- What has stayed. -/
structure Kept (S : Nat → Prop) (w w' : World) : Prop where
  os : w'.os = w.os
  tape : w'.tape = w.tape
  output : w'.output = w.output
  size : w.heap.size ≤ w'.heap.size
  block : ∀ b, b < w.heap.size → ¬ S b → w'.heap[b]? = w.heap[b]?
theorem Kept.of_below {S : Nat → Prop} {w w' : World} (g : Below w.heap.size w w') : Kept S w w' := ⟨g.os, g.tape, g.output, g.size, fun b hb _ => g.block b hb⟩
theorem Kept.trans {S S' : Nat → Prop} {w a b : World} (h : Kept S w a) (g : Kept S' a b) (hs : ∀ k, S' k → S k ∨ w.heap.size ≤ k) : Kept S w b :=
  ⟨g.os.trans h.os, g.tape.trans h.tape, g.output.trans h.output, Nat.le_trans h.size g.size, fun k hk hn => (g.block k (Nat.lt_of_lt_of_le hk h.size) (fun h' => by
    rcases hs k h' with h2 | h2
    · exact hn h2
    · omega)).trans (h.block k hk hn)⟩
theorem Kept.below {S : Nat → Prop} {w w' : World} {B : Nat} (h : Kept S w w') (hB : B ≤ w.heap.size) (hs : ∀ k, S k → B ≤ k) : Below B w w' :=
  ⟨h.os, h.tape, h.output, h.size, fun k hk => h.block k (by omega) (fun h' => by have := hs k h'; omega)⟩
theorem FW.kept {S : Nat → Prop} {w w' : World} {x : Fe} (h : FW w x) (g : Kept S w w') (hs : ∀ b, InF x b → ¬ S b) : FW w' x := h.stay g.size (fun b hb hlt => g.block b hlt (hs b hb))
theorem Cd.kept {S : Nat → Prop} {w w' : World} (h : Cd w) (g : Kept S w w') (hs : ∀ b, S b → 2 ≤ b) : Cd w' := by
  have hp := h.pos
  have hb0 := g.block 0 (by omega) (fun h' => by have := hs _ h'; omega)
  have hb1 := g.block 1 hp (fun h' => by have := hs _ h'; omega)
  obtain ⟨⟨t, fr, h0⟩, ⟨t1, fr1, h1⟩⟩ := h
  exact ⟨⟨t, fr, hb0.trans h0⟩, ⟨t1, fr1, hb1.trans h1⟩⟩
theorem Fl.below {w w' : World} {f : Nat} {S : Nat → Prop} {room : Int} {V : Nat → Value} {L : Nat → List Fe} (h : Fl w f S room V L) (hz : w.heap.size ≤ w'.heap.size) (g : ∀ b, S b → w'.heap[b]? = w.heap[b]?) : Fl w' f S room V L := by
  have hc : ∀ o, w'.cell? ⟨f, o, none⟩ = w.cell? ⟨f, o, none⟩ := fun o => World.cell?_of_block (w := w) (g f h.sf)
  have hf : ∀ o, w'.frozen? ⟨f, o, none⟩ = w.frozen? ⟨f, o, none⟩ := fun o => World.frozen?_of_block (w := w) (g f h.sf)
  refine ⟨(hc _).trans h.rm, fun t ht => (hc _).trans (h.cv t ht), fun t => (hf _).trans (h.fz t), ?_, h.sf, h.sr, h.ap, ?_, fun b hb => Nat.lt_of_lt_of_le (h.lt b hb) hz, h.lo, h.r1, h.r2, h.nm⟩
  · intro t ht
    have hr := h.row t ht
    refine ⟨hr.1, ?_⟩
    rcases hr.2 with hn | ⟨g', cap, cur, hv, hb, hgg, rest⟩
    · exact .inl hn
    · exact .inr ⟨g', cap, cur, hv, hb, (g g' (h.sr t ht g' (by rw [hv]; rfl)).1).trans hgg, rest⟩
  · intro t ht x hx
    obtain ⟨h1, h2⟩ := h.en t ht x hx
    exact ⟨h1.stay hz (fun b hb _ => g b (h2 b hb).1), h2⟩
/-- Tables, and what their entries are. -/
def Fs (w : World) (f : Nat) (S : Nat → Prop) (room : Int) (P : Nat → List Fp) : Prop := ∃ V L, Fl w f S room V L ∧ ∀ t, t < 8 → (L t).map Fe.p = P t
theorem Fs.below {w w' : World} {f : Nat} {S : Nat → Prop} {room : Int} {P : Nat → List Fp} (h : Fs w f S room P) (g : Below w.heap.size w w') : Fs w' f S room P := by
  obtain ⟨V, L, h, hp⟩ := h
  exact ⟨V, L, h.below g.size (fun b hb => g.block b (h.lt b hb)), hp⟩
theorem Fs.lt {w : World} {f : Nat} {S : Nat → Prop} {room : Int} {P : Nat → List Fp} (h : Fs w f S room P) : ∀ b, S b → b < w.heap.size := by
  obtain ⟨V, L, h, _⟩ := h
  exact h.lt
theorem Fs.lo {w : World} {f : Nat} {S : Nat → Prop} {room : Int} {P : Nat → List Fp} (h : Fs w f S room P) : ∀ b, S b → 2 ≤ b := by
  obtain ⟨V, L, h, _⟩ := h
  exact h.lo
/-- Kept by another one's calls. -/
theorem Fs.kept {w w' : World} {f : Nat} {S T : Nat → Prop} {room : Int} {P : Nat → List Fp} (h : Fs w f S room P) (g : Kept T w w') (hd : ∀ b, S b → ¬ T b) : Fs w' f S room P := by
  obtain ⟨V, L, h, hp⟩ := h
  exact ⟨V, L, h.below g.size (fun b hb => g.block b (h.lt b hb) (hd b hb)), hp⟩
set_option maxHeartbeats 2000000 in
theorem new_no (room : Int) (w : World) (h : room < 1 ∨ 256 < room) : Calls Tryd.prog 7 #[.int .i64 room] w fun e w' => e = .returned (.tuple #[.pointer none, .int .i64 1]) ∧ w' = w := by
  rcases h with h | h
  · go_enter Tryd.func7, Tryd.ntmps7
    go_wp2
    go_ret2
    exact ⟨rfl, rfl⟩
  · have h1 : ¬ room < 1 := by omega
    go_enter Tryd.func7, Tryd.ntmps7
    go_wp2
    go_ret2
    exact ⟨rfl, rfl⟩
set_option maxHeartbeats 2000000 in
theorem new_yes (room : Int) (w : World) (h1 : 1 ≤ room) (h2 : room ≤ 256) (hd : Cd w) : Calls Tryd.prog 7 #[.int .i64 room] w fun e w' => e = .returned (.tuple #[.pointer (some ⟨w.heap.size, 0, none⟩), .int .i64 0]) ∧ Fs w' w.heap.size (fun b => b = w.heap.size) room (fun _ => []) ∧ Below w.heap.size w w' := by
  have hp := hd.pos
  go_enter Tryd.func7, Tryd.ntmps7
  go_wp2
  go_ret2
  refine ⟨rfl, ⟨fun _ => .slice none 0 0, fun _ => [], ⟨by simp, ?_, by simp, fun t _ => World.ownsRow_nil _ _ _ _, rfl, fun t _ g hg => by simp [Value.ownBlock] at hg, fun t u _ _ _ g hg => by simp [Value.ownBlock] at hg, fun t _ x hx => by simp at hx, fun b hb => by rw [hb]; simp, fun b hb => by rw [hb]; omega, h1, h2, fun t _ => by simp; omega⟩, fun t _ => rfl⟩, by go_grown⟩
  intro t ht
  have : t = 0 ∨ t = 1 ∨ t = 2 ∨ t = 3 ∨ t = 4 ∨ t = 5 ∨ t = 6 ∨ t = 7 := by omega
  rcases this with rfl | rfl | rfl | rfl | rfl | rfl | rfl | rfl <;> simp
set_option maxHeartbeats 2000000 in
theorem entries_nil (t : Int) (w : World) : Calls Tryd.prog 20 #[.pointer none, .int .i64 t] w fun e w' => e = .returned (.slice none 0 0) ∧ w' = w := by
  go_enter Tryd.func20, Tryd.ntmps20
  go_wp2
  go_ret
  exact ⟨rfl, rfl⟩
set_option maxHeartbeats 2000000 in
theorem entries_out (f : Nat) (t : Int) (w : World) (h : t < 0 ∨ 8 ≤ t) : Calls Tryd.prog 20 #[.pointer (some ⟨f, 0, none⟩), .int .i64 t] w fun e w' => e = .returned (.slice none 0 0) ∧ w' = w := by
  rcases h with h | h
  · go_enter Tryd.func20, Tryd.ntmps20
    go_wp2
    go_ret
    exact ⟨rfl, rfl⟩
  · have h1 : ¬ t < 0 := by omega
    go_enter Tryd.func20, Tryd.ntmps20
    go_wp2
    go_ret
    exact ⟨rfl, rfl⟩
set_option maxHeartbeats 2000000 in
theorem entries_in (f : Nat) (t : Nat) (v : Value) (w : World) (h : t < 8) (a : Option Addr) (n c : Nat) (hv : w.cell? ⟨f, 1 + t, none⟩ = some (.slice a n c)) : Calls Tryd.prog 20 #[.pointer (some ⟨f, 0, none⟩), .int .i64 t] w fun e w' => e = .returned (.slice a n c) ∧ w' = w := by
  have h1 : ¬ ((t : Int) < 0) := by omega
  have h2 : ¬ (8 ≤ (t : Int)) := by omega
  go_enter Tryd.func20, Tryd.ntmps20
  go_wp2
  go_ret
  exact ⟨rfl, rfl⟩
set_option maxHeartbeats 2000000 in
theorem wrong_nil (x : Fe) (w : World) : Calls Tryd.prog 25 #[.pointer none, feV x] w fun e w' => e = .returned (.int .i64 2) ∧ Below w.heap.size w w' := by
  go_enter Tryd.func25, Tryd.ntmps25
  go_wp2
  go_ret
  exact ⟨rfl, by go_grown⟩
set_option maxHeartbeats 4000000 in
theorem wrong_any (f : Nat) (x : Fe) (w : World) (hx : FW w x) (hd : Cd w) : Calls Tryd.prog 25 #[.pointer (some ⟨f, 0, none⟩), feV x] w fun e w' => e = .returned (.int .i64 (wrongE x.p)) ∧ Below w.heap.size w w' := by
  have g0 : Below w.heap.size w (fx w x) := by go_grown
  have HI : Hid (Calls Tryd.prog 43 #[feV x] (fx w x) fun e w' => e = .returned (.int .i64 (rightX x.p.sp)) ∧ Below (fx w x).heap.size (fx w x) w') := (show Calls _ _ _ _ _ from by
    have := rightX_any x.en (fx w x) (hx.below g0).ew (hd.below g0)
    rwa [fe_en, en_sp] at this)
  have HM : Hid (∀ w1, Below w.heap.size w w1 → Calls Tryd.prog 44 #[.slice x.ta x.p.lt.length x.tc] w1 fun e w' => e = .returned (.int .i64 (Mt.rightE x.p.lt)) ∧ Below w1.heap.size w1 w') := (show ∀ w1, _ from fun w1 g => Mt.right_any _ _ _ w1 (hx.t.below g) (by have := hx.nt; omega) hx.ct)
  have HX : Hid (Be (fx w x) w.heap.size 0 x) := Be.new w x
  have HR : Hid (wrongE x.p = if rightX x.p.sp ≠ 0 then rightX x.p.sp else if Mt.rightE x.p.lt ≠ 0 then Mt.rightE x.p.lt else if priB x.p.pri = true then 1 else 0) := (show _ = _ from rfl)
  clear hx hd
  generalize rightX x.p.sp = E1 at *
  generalize Mt.rightE x.p.lt = E2 at *
  by_cases h1 : E1 = 0
  · have b1 : (E1 != 0) = false := by simp [h1]
    by_cases h2 : E2 = 0
    · have b2 : (E2 != 0) = false := by simp [h2]
      have HR2 : Hid (wrongE x.p = if priB x.p.pri = true then 1 else 0) := (show _ = _ by rw [HR.out, if_neg (by simpa using h1), if_neg (by simpa using h2)])
      clear HR h1 h2
      by_cases hp1 : x.p.pri < 0
      · have HR3 : Hid (wrongE x.p = 1) := (show _ = _ by rw [HR2.out, if_pos (by simp [priB, hp1])])
        clear HR2
        go_enter Tryd.func25, Tryd.ntmps25
        go_wp2_with (refine load_E rfl (.tmp 3) rfl w.heap.size 0 x rfl HX.out ?_)
        refine HI.out.mono ?_
        rintro e w1 ⟨rfl, g1⟩
        have G1 := btr g0 g1 (Nat.le_refl _)
        obtain ⟨_, c1, c2, _⟩ := (HX.out.below (by simp) g1).cs
        go_wp2_with fail
        refine (HM.out w1 G1).mono ?_
        rintro e w2 ⟨rfl, g2⟩
        have z1 := g1.size
        simp at z1
        have c1' : w2.cell? ⟨w.heap.size, 1, none⟩ = some (.int .i64 x.p.pri) := (g2.cell (p := ⟨w.heap.size, 1, none⟩) (by show w.heap.size < w1.heap.size; omega)).trans c1
        go_wp2_with fail
        go_ret
        exact ⟨by rw [HR3.out]; rfl, btr G1 g2 (Nat.le_refl _)⟩
      · have hc : (65535 < x.p.pri ∧ wrongE x.p = 1) ∨ (¬ 65535 < x.p.pri ∧ wrongE x.p = 0) := by
          rw [HR2.out]
          by_cases hp2 : 65535 < x.p.pri
          · exact .inl ⟨hp2, if_pos (by simp [priB, hp2])⟩
          · exact .inr ⟨hp2, if_neg (by unfold priB; rw [decide_eq_false hp1, decide_eq_false hp2]; decide)⟩
        rcases hc with ⟨hp2, h3⟩ | ⟨hp2, h3⟩
        all_goals
          have HR3 : Hid _ := h3
          clear h3
          clear HR2
          go_enter Tryd.func25, Tryd.ntmps25
          go_wp2_with (refine load_E rfl (.tmp 3) rfl w.heap.size 0 x rfl HX.out ?_)
          refine HI.out.mono ?_
          rintro e w1 ⟨rfl, g1⟩
          have G1 := btr g0 g1 (Nat.le_refl _)
          obtain ⟨_, c1, c2, _⟩ := (HX.out.below (by simp) g1).cs
          go_wp2_with fail
          refine (HM.out w1 G1).mono ?_
          rintro e w2 ⟨rfl, g2⟩
          have z1 := g1.size
          simp at z1
          have c1' : w2.cell? ⟨w.heap.size, 1, none⟩ = some (.int .i64 x.p.pri) := (g2.cell (p := ⟨w.heap.size, 1, none⟩) (by show w.heap.size < w1.heap.size; omega)).trans c1
          go_wp2_with fail
          go_ret
          exact ⟨by rw [HR3.out]; rfl, btr G1 g2 (Nat.le_refl _)⟩
    · have b2 : (E2 != 0) = true := by simp [h2]
      have HR3 : Hid (wrongE x.p = E2) := (show _ = _ by rw [HR.out, if_neg (by simpa using h1), if_pos h2])
      clear HR h1 h2
      go_enter Tryd.func25, Tryd.ntmps25
      go_wp2_with (refine load_E rfl (.tmp 3) rfl w.heap.size 0 x rfl HX.out ?_)
      refine HI.out.mono ?_
      rintro e w1 ⟨rfl, g1⟩
      have G1 := btr g0 g1 (Nat.le_refl _)
      obtain ⟨_, c1, c2, _⟩ := (HX.out.below (by simp) g1).cs
      go_wp2_with fail
      refine (HM.out w1 G1).mono ?_
      rintro e w2 ⟨rfl, g2⟩
      go_wp2_with fail
      go_ret
      exact ⟨by rw [HR3.out]; rfl, btr G1 g2 (Nat.le_refl _)⟩
  · have b1 : (E1 != 0) = true := by simp [h1]
    have HR3 : Hid (wrongE x.p = E1) := (show _ = _ by rw [HR.out, if_pos h1])
    clear HR h1
    go_enter Tryd.func25, Tryd.ntmps25
    go_wp2_with (refine load_E rfl (.tmp 3) rfl w.heap.size 0 x rfl HX.out ?_)
    refine HI.out.mono ?_
    rintro e w1 ⟨rfl, g1⟩
    go_wp2_with fail
    go_ret
    exact ⟨by rw [HR3.out]; rfl, btr g0 g1 (Nat.le_refl _)⟩
end Go.Proofs.YtjjfhibkcngphaaDoor

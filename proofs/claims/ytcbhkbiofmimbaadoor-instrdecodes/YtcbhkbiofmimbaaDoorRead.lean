/-
  What a reader, saidSize and fieldOf answer, as contracts.
-/
import Derived.Test.YtcbhkbiofmimbaaDoorPut
namespace Go.Proofs.YtcbhkbiofmimbaaDoor
open Go.ChangeShapes Go.WideShapes Go.ChangeAt Go.RowKit
/-- At block b lies a reader: what is left, and what is wrong. -/
structure Rd (w : World) (b : Nat) (s : ByteArray) (e : Int) : Prop where
  c0 : w.cell? ⟨b, 0, none⟩ = some (.string s)
  c1 : w.cell? ⟨b, 1, none⟩ = some (.int .i64 e)
  f0 : w.frozen? ⟨b, 0, none⟩ = false
  f1 : w.frozen? ⟨b, 1, none⟩ = false

/-- Nothing but block b has turned. -/
structure Only (b : Nat) (w w' : World) : Prop where
  os : w'.os = w.os
  tape : w'.tape = w.tape
  output : w'.output = w.output
  size : w'.heap.size = w.heap.size
  block : ∀ k, k ≠ b → w'.heap[k]? = w.heap[k]?

theorem Only.refl (b : Nat) (w : World) : Only b w w := ⟨rfl, rfl, rfl, rfl, fun _ _ => rfl⟩
theorem Only.setCell {b : Nat} {w w' : World} (h : Only b w w') (o : Nat) (v : Value) : Only b w (w'.setCell ⟨b, o, none⟩ v) :=
  ⟨h.os, h.tape, h.output, by simp [World.setCell, h.size], fun k hk => (Below.heap_setCell _ _ _ _ hk).trans (h.block k hk)⟩
theorem Only.below {b : Nat} {w w' a : World} (h : Only b w w') (hb : a.heap.size ≤ b) (g : Below a.heap.size a w) : Below a.heap.size a w' :=
  g.trans ⟨h.os, h.tape, h.output, by rw [h.size]; exact Nat.le_refl _, fun k hk => h.block k (by omega)⟩
theorem Rd.only {b c : Nat} {w w' : World} {s : ByteArray} {e : Int} (r : Rd w c s e) (h : Only b w w') (hne : c ≠ b) : Rd w' c s e :=
  ⟨(World.cell?_of_block (w := w) (h.block c hne)).trans r.c0, (World.cell?_of_block (w := w) (h.block c hne)).trans r.c1,
   (World.frozen?_of_block (w := w) (h.block c hne)).trans r.f0, (World.frozen?_of_block (w := w) (h.block c hne)).trans r.f1⟩

theorem Rd.new (w : World) (s : ByteArray) (e : Int) (T : TypeId) : Rd (w.alloc (.cells #[.string s, .int .i64 e] T)) w.heap.size s e :=
  ⟨by simp, by simp, by simp, by simp⟩

theorem Rd.set0 {w : World} {b : Nat} {s : ByteArray} {e : Int} (r : Rd w b s e) (s' : ByteArray) : Rd (w.setCell ⟨b, 0, none⟩ (.string s')) b s' e := by
  obtain ⟨c0, c1, f0, f1⟩ := r
  exact ⟨World.cell?_setCell_same _ _ _ c0, (World.cell?_setCell_other _ _ _ _ (by simp)).trans c1, by simp [f0], by simp [f1]⟩
theorem Rd.set1 {w : World} {b : Nat} {s : ByteArray} {e : Int} (r : Rd w b s e) (e' : Int) : Rd (w.setCell ⟨b, 1, none⟩ (.int .i64 e')) b s e' := by
  obtain ⟨c0, c1, f0, f1⟩ := r
  exact ⟨(World.cell?_setCell_other _ _ _ _ (by simp)).trans c0, World.cell?_setCell_same _ _ _ c1, by simp [f0], by simp [f1]⟩

set_option maxHeartbeats 400000 in
theorem take_any (b : Nat) (s : ByteArray) (e n : Int) (may : Bool) (w : World) (hm : may = true → 0 ≤ n) (r : Rd w b s e) :
    Calls Tryd.prog 50 #[.pointer (some ⟨b, 0, none⟩), .int .i64 n, .bool may] w fun x w' =>
      x = .returned (.string (takeV s e n may)) ∧ Rd w' b (takeS s e n may) (takeE s e n may) ∧ Only b w w' := by
  have r0 := r
  obtain ⟨c0, c1, f0, f1⟩ := r
  by_cases he : e = 0
  · subst he
    cases may
    · have v1 : takeV s 0 n false = noB := by simp [takeV]
      have v2 : takeS s 0 n false = noB := by simp [takeS]
      have v3 : takeE s 0 n false = 1 := by simp [takeE]
      rw [v1, v2, v3]
      clear v1 v2 v3 hm
      go_enter Tryd.func50, Tryd.ntmps50
      go_wp2
      go_ret
      exact ⟨rfl, (r0.set0 noB).set1 1, ((Only.refl _ _).setCell 0 _).setCell 1 _⟩
    · have hn := hm rfl
      by_cases hl : n ≤ s.size
      · have v1 : takeV s 0 n true = s.extract 0 n.toNat := by simp [takeV, hl]
        have v2 : takeS s 0 n true = s.extract n.toNat s.size := by simp [takeS, hl]
        have v3 : takeE s 0 n true = 0 := by simp [takeE, hl]
        rw [v1, v2, v3]
        obtain ⟨k, rfl⟩ := Int.eq_ofNat_of_zero_le hn
        clear v1 v2 v3 hm hn
        go_enter Tryd.func50, Tryd.ntmps50
        go_wp2
        go_ret
        exact ⟨rfl, r0.set0 _, (Only.refl _ _).setCell 0 _⟩
      · have v1 : takeV s 0 n true = noB := by simp [takeV, hl]
        have v2 : takeS s 0 n true = noB := by simp [takeS, hl]
        have v3 : takeE s 0 n true = 10 := by simp [takeE, hl]
        rw [v1, v2, v3]
        clear v1 v2 v3 hm
        go_enter Tryd.func50, Tryd.ntmps50
        go_wp2
        go_ret
        exact ⟨rfl, (r0.set0 noB).set1 10, ((Only.refl _ _).setCell 0 _).setCell 1 _⟩
  · have v1 : takeV s e n may = noB := by simp [takeV, he]
    have v2 : takeS s e n may = s := by simp [takeS, he]
    have v3 : takeE s e n may = e := by simp [takeE, he]
    rw [v1, v2, v3]
    have hb : (e != 0) = true := by simp [he]
    clear v1 v2 v3 hm he
    go_enter Tryd.func50, Tryd.ntmps50
    go_wp2
    go_ret
    exact ⟨rfl, r0, Only.refl _ _⟩

set_option maxHeartbeats 400000 in
theorem number_any (s : ByteArray) (w : World) (hs : s.size ≤ maxLen) :
    Calls Tryd.prog 49 #[.string s] w fun x w' => x = .returned (.int .u64 (numOf s.data.toList)) ∧ w' = w := by
  unfold maxLen at hs
  go_enter Tryd.func49, Tryd.ntmps49
  go_wp2
  go_loop [3, 7] (fun n i => ∃ k : Nat, k ≤ s.size ∧ i = .int .i64 k ∧ n = .int .u64 (numOf (s.data.toList.take k))) (fun _ i => s.size - (intOf i).toNat)
  case atStart => exact ⟨0, Nat.zero_le _, rfl, rfl⟩
  case round =>
    obtain ⟨k, hk, rfl, rfl⟩ := hrel
    by_cases hlt : k < s.size
    · have HS : Hid (numOf (s.data.toList.take (k + 1)) = stepN (numOf (s.data.toList.take k)) s[k]) := numOf_take s k hlt
      go_wp2
      go_round
      case rel => exact ⟨k + 1, by omega, by go_num, by rw [HS.out]; rfl⟩
      case measure => simp [intOf]; omega
    · go_wp2
      go_ret
      exact ⟨ret_int (by rw [List.take_of_length_le (by simp; omega)]), rfl⟩

set_option maxHeartbeats 400000 in
theorem num_any (b : Nat) (s : ByteArray) (e n : Int) (w : World) (hs : s.size ≤ maxLen) (r : Rd w b s e) :
    Calls Tryd.prog 37 #[.pointer (some ⟨b, 0, none⟩), .int .i64 n] w fun x w' =>
      x = .returned (.int .u64 (numV s e n)) ∧ Rd w' b (takeS s e n (szB n)) (takeE s e n (szB n)) ∧ Only b w w' := by
  have hp : szB n = true → 0 ≤ n := by unfold szB; simp; omega
  have HP : Hid (szB n = true → 0 ≤ n) := hp
  clear hp
  go_enter Tryd.func37, Tryd.ntmps37
  go_wp2_with fail
  refine (isSize_any _ _).mono ?_
  rintro x w' ⟨rfl, rfl⟩
  go_wp2_with fail
  refine (take_any b s e n (szB n) _ HP.out r).mono ?_
  rintro x w1 ⟨rfl, r1, o1⟩
  go_wp2_with fail
  refine (number_any _ _ (Nat.le_trans (takeV_size _ _ _ _) hs)).mono ?_
  rintro x w2 ⟨rfl, rfl⟩
  go_wp2_with fail
  go_ret
  exact ⟨rfl, r1, o1⟩

set_option maxHeartbeats 400000 in
theorem read_any (s : ByteArray) (w : World) :
    Calls Tryd.prog 36 #[.string s] w fun x w' => x = .returned (.pointer (some ⟨w.heap.size, 0, none⟩)) ∧ w' = w.alloc (.cells #[.string s, .int .i64 0] 74) := by
  go_enter Tryd.func36, Tryd.ntmps36
  go_wp2
  go_ret
  exact ⟨rfl, rfl⟩

theorem numR (b : Nat) (r : RS) (n : Int) (w : World) (hs : r.s.size ≤ maxLen) (h : Rd w b r.s r.e) :
    Calls Tryd.prog 37 #[.pointer (some ⟨b, 0, none⟩), .int .i64 n] w fun x w' => x = .returned (.int .u64 (r.num n)) ∧ Rd w' b (r.skip n).s (r.skip n).e ∧ Only b w w' := num_any b r.s r.e n w hs h
theorem Rd.below {w w' : World} {b : Nat} {s : ByteArray} {e : Int} (r : Rd w b s e) (hb : b < w.heap.size) (g : Below w.heap.size w w') : Rd w' b s e :=
  ⟨(g.cell (p := ⟨b, 0, none⟩) hb).trans r.c0, (g.cell (p := ⟨b, 1, none⟩) hb).trans r.c1, (g.frozen (p := ⟨b, 0, none⟩) hb).trans r.f0, (g.frozen (p := ⟨b, 1, none⟩) hb).trans r.f1⟩
/-- The Kind that has a number, the field that has a code. -/
def kindV (n : Int) : Int := if n = 0 then 1 else if n = 22 then 2 else if n = 17 then 3 else if n = 18 then 4 else if n = 25 then 5 else 0
def fldV (n : Int) : Int := if n = 6 then 3 else if n = 11 then 5 else if n = 12 then 6 else if n = 13 then 8 else if n = 14 then 9 else 0
theorem kn_cases (n : Int) : n = 0 ∨ n = 22 ∨ n = 17 ∨ n = 18 ∨ n = 25 ∨ (((0 : Int) == n) = false ∧ ((22 : Int) == n) = false ∧ ((17 : Int) == n) = false ∧ ((18 : Int) == n) = false ∧ ((25 : Int) == n) = false ∧ kindV n = 0) := by
  by_cases h1 : n = 0
  · exact .inl h1
  by_cases h2 : n = 22
  · exact .inr (.inl h2)
  by_cases h3 : n = 17
  · exact .inr (.inr (.inl h3))
  by_cases h4 : n = 18
  · exact .inr (.inr (.inr (.inl h4)))
  by_cases h5 : n = 25
  · exact .inr (.inr (.inr (.inr (.inl h5))))
  refine .inr (.inr (.inr (.inr (.inr ⟨?_, ?_, ?_, ?_, ?_, ?_⟩))))
  · simp; omega
  · simp; omega
  · simp; omega
  · simp; omega
  · simp; omega
  · unfold kindV; simp [h1, h2, h3, h4, h5]
theorem fl_cases (n : Int) : n = 6 ∨ n = 11 ∨ n = 12 ∨ n = 13 ∨ n = 14 ∨ (((6 : Int) == n) = false ∧ ((11 : Int) == n) = false ∧ ((12 : Int) == n) = false ∧ ((13 : Int) == n) = false ∧ ((14 : Int) == n) = false ∧ fldV n = 0) := by
  by_cases h1 : n = 6
  · exact .inl h1
  by_cases h2 : n = 11
  · exact .inr (.inl h2)
  by_cases h3 : n = 12
  · exact .inr (.inr (.inl h3))
  by_cases h4 : n = 13
  · exact .inr (.inr (.inr (.inl h4)))
  by_cases h5 : n = 14
  · exact .inr (.inr (.inr (.inr (.inl h5))))
  refine .inr (.inr (.inr (.inr (.inr ⟨?_, ?_, ?_, ?_, ?_, ?_⟩))))
  · simp; omega
  · simp; omega
  · simp; omega
  · simp; omega
  · simp; omega
  · unfold fldV; simp [h1, h2, h3, h4, h5]
set_option maxRecDepth 20000 in
set_option maxHeartbeats 4000000 in
theorem kindOf_any (n : Int) (w : World) (hd : Cd w) :
    Calls Tryd.prog 76 #[.int .i64 n] w fun e w' => e = .returned (.int .i64 (kindV n)) ∧ Below w.heap.size w w' := by
  obtain ⟨ct, cfr, hd⟩ := hd.kinds
  have x0 := idk0
  have x1 := idk1
  have x2 := idk2
  have x3 := idk3
  have x4 := idk4
  rcases kn_cases n with rfl | rfl | rfl | rfl | rfl | ⟨b1, b2, b3, b4, b5, hc⟩
  case inr.inr.inr.inr.inr =>
    rw [hc]
    go_enter Tryd.func76, Tryd.ntmps76
    go_wp2_with (refine wpList_load_row rfl 69 (.global 1) rfl 1 rfl ct kindsA cfr _ hd Tryd.underlying69 rfl (by kernel_rfl) ?_)
    clear hd
    go_rounds 6
    go_ret
    exact ⟨rfl, by go_grown⟩
  all_goals
    go_enter Tryd.func76, Tryd.ntmps76
    go_wp2_with (refine wpList_load_row rfl 69 (.global 1) rfl 1 rfl ct kindsA cfr _ hd Tryd.underlying69 rfl (by kernel_rfl) ?_)
    clear hd
    go_rounds 6
    go_ret
    exact ⟨rfl, by go_grown⟩
set_option maxRecDepth 20000 in
set_option maxHeartbeats 4000000 in
theorem fieldOf_any (n : Int) (w : World) (hd : Cd w) :
    Calls Tryd.prog 77 #[.int .i64 n] w fun e w' => e = .returned (.int .i64 (fldV n)) ∧ Below w.heap.size w w' := by
  obtain ⟨ct, cfr, hd⟩ := hd.codes
  have x0 := idc0
  have x1 := idc1
  have x2 := idc2
  have x3 := idc3
  have x4 := idc4
  rcases fl_cases n with rfl | rfl | rfl | rfl | rfl | ⟨b1, b2, b3, b4, b5, hc⟩
  case inr.inr.inr.inr.inr =>
    rw [hc]
    go_enter Tryd.func77, Tryd.ntmps77
    go_wp2_with (refine wpList_load_row rfl 94 (.global 2) rfl 2 rfl ct codesA cfr _ hd Tryd.underlying94 rfl (by kernel_rfl) ?_)
    clear hd
    go_rounds 6
    go_ret
    exact ⟨rfl, by go_grown⟩
  all_goals
    go_enter Tryd.func77, Tryd.ntmps77
    go_wp2_with (refine wpList_load_row rfl 94 (.global 2) rfl 2 rfl ct codesA cfr _ hd Tryd.underlying94 rfl (by kernel_rfl) ?_)
    clear hd
    go_rounds 6
    go_ret
    exact ⟨rfl, by go_grown⟩
end Go.Proofs.YtcbhkbiofmimbaaDoor

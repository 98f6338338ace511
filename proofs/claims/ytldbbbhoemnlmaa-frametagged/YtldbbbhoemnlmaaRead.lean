/-
  What the methods of a reader do: contracts over a world in which the reader's two cells lie.
-/
import Derived.Test.YtldbbbhoemnlmaaSum
namespace Go.Proofs.Ytldbbbhoemnlmaa
open Go.ChangeShapes Go.WideShapes Go.ChangeAt Go.RowKit

/-- At block b lies a reader: what is left, and what is wrong. -/
structure Rd (w : World) (b : Nat) (s : ByteArray) (e : Int) : Prop where
  c0 : w.cell? ⟨b, 0, none⟩ = some (.string s)
  c1 : w.cell? ⟨b, 1, none⟩ = some (.int .i64 e)
  f0 : w.frozen? ⟨b, 0, none⟩ = false
  f1 : w.frozen? ⟨b, 1, none⟩ = false

/-- Nothing but block b has turned. -/
structure Only (b : Nat) (w w' : World) : Prop where
  os : w'.os = w.os
  tape : w'.tape = w.tape
  output : w'.output = w.output
  size : w'.heap.size = w.heap.size
  block : ∀ k, k ≠ b → w'.heap[k]? = w.heap[k]?

theorem Only.refl (b : Nat) (w : World) : Only b w w := ⟨rfl, rfl, rfl, rfl, fun _ _ => rfl⟩
theorem Only.setCell {b : Nat} {w w' : World} (h : Only b w w') (o : Nat) (v : Value) : Only b w (w'.setCell ⟨b, o, none⟩ v) :=
  ⟨h.os, h.tape, h.output, by simp [World.setCell, h.size], fun k hk => (Below.heap_setCell _ _ _ _ hk).trans (h.block k hk)⟩
theorem Only.below {b : Nat} {w w' a : World} (h : Only b w w') (hb : a.heap.size ≤ b) (g : Below a.heap.size a w) : Below a.heap.size a w' :=
  g.trans ⟨h.os, h.tape, h.output, by rw [h.size]; exact Nat.le_refl _, fun k hk => h.block k (by omega)⟩
theorem Rd.only {b c : Nat} {w w' : World} {s : ByteArray} {e : Int} (r : Rd w c s e) (h : Only b w w') (hne : c ≠ b) : Rd w' c s e :=
  ⟨(World.cell?_of_block (w := w) (h.block c hne)).trans r.c0, (World.cell?_of_block (w := w) (h.block c hne)).trans r.c1,
   (World.frozen?_of_block (w := w) (h.block c hne)).trans r.f0, (World.frozen?_of_block (w := w) (h.block c hne)).trans r.f1⟩

theorem Rd.new (w : World) (s : ByteArray) (e : Int) (T : TypeId) : Rd (w.alloc (.cells #[.string s, .int .i64 e] T)) w.heap.size s e :=
  ⟨by simp, by simp, by simp, by simp⟩

theorem Rd.set0 {w : World} {b : Nat} {s : ByteArray} {e : Int} (r : Rd w b s e) (s' : ByteArray) : Rd (w.setCell ⟨b, 0, none⟩ (.string s')) b s' e := by
  obtain ⟨c0, c1, f0, f1⟩ := r
  exact ⟨World.cell?_setCell_same _ _ _ c0, (World.cell?_setCell_other _ _ _ _ (by simp)).trans c1, by simp [f0], by simp [f1]⟩
theorem Rd.set1 {w : World} {b : Nat} {s : ByteArray} {e : Int} (r : Rd w b s e) (e' : Int) : Rd (w.setCell ⟨b, 1, none⟩ (.int .i64 e')) b s e' := by
  obtain ⟨c0, c1, f0, f1⟩ := r
  exact ⟨(World.cell?_setCell_other _ _ _ _ (by simp)).trans c0, World.cell?_setCell_same _ _ _ c1, by simp [f0], by simp [f1]⟩

def noB : ByteArray := ⟨#[]⟩
/-- What 'take' answers, and what is left, and what is wrong behind it. -/
def takeV (s : ByteArray) (e n : Int) (may : Bool) : ByteArray := if e = 0 ∧ may = true ∧ n ≤ s.size then s.extract 0 n.toNat else noB
def takeS (s : ByteArray) (e n : Int) (may : Bool) : ByteArray := if e = 0 then (if may = true ∧ n ≤ s.size then s.extract n.toNat s.size else noB) else s
def takeE (s : ByteArray) (e n : Int) (may : Bool) : Int := if e = 0 then (if may = true then (if n ≤ s.size then 0 else 10) else 1) else e

set_option maxHeartbeats 400000 in
theorem take_any (b : Nat) (s : ByteArray) (e n : Int) (may : Bool) (w : World) (hm : may = true → 0 ≤ n) (r : Rd w b s e) :
    Calls Try.prog 57 #[.pointer (some ⟨b, 0, none⟩), .int .i64 n, .bool may] w fun x w' =>
      x = .returned (.string (takeV s e n may)) ∧ Rd w' b (takeS s e n may) (takeE s e n may) ∧ Only b w w' := by
  have r0 := r
  obtain ⟨c0, c1, f0, f1⟩ := r
  by_cases he : e = 0
  · subst he
    cases may
    · have v1 : takeV s 0 n false = noB := by simp [takeV]
      have v2 : takeS s 0 n false = noB := by simp [takeS]
      have v3 : takeE s 0 n false = 1 := by simp [takeE]
      rw [v1, v2, v3]
      clear v1 v2 v3 hm
      go_enter Try.func57, Try.ntmps57
      go_wp2
      go_ret
      exact ⟨rfl, (r0.set0 noB).set1 1, ((Only.refl _ _).setCell 0 _).setCell 1 _⟩
    · have hn := hm rfl
      by_cases hl : n ≤ s.size
      · have v1 : takeV s 0 n true = s.extract 0 n.toNat := by simp [takeV, hl]
        have v2 : takeS s 0 n true = s.extract n.toNat s.size := by simp [takeS, hl]
        have v3 : takeE s 0 n true = 0 := by simp [takeE, hl]
        rw [v1, v2, v3]
        obtain ⟨k, rfl⟩ := Int.eq_ofNat_of_zero_le hn
        clear v1 v2 v3 hm hn
        go_enter Try.func57, Try.ntmps57
        go_wp2
        go_ret
        exact ⟨rfl, r0.set0 _, (Only.refl _ _).setCell 0 _⟩
      · have v1 : takeV s 0 n true = noB := by simp [takeV, hl]
        have v2 : takeS s 0 n true = noB := by simp [takeS, hl]
        have v3 : takeE s 0 n true = 10 := by simp [takeE, hl]
        rw [v1, v2, v3]
        clear v1 v2 v3 hm
        go_enter Try.func57, Try.ntmps57
        go_wp2
        go_ret
        exact ⟨rfl, (r0.set0 noB).set1 10, ((Only.refl _ _).setCell 0 _).setCell 1 _⟩
  · have v1 : takeV s e n may = noB := by simp [takeV, he]
    have v2 : takeS s e n may = s := by simp [takeS, he]
    have v3 : takeE s e n may = e := by simp [takeE, he]
    rw [v1, v2, v3]
    have hb : (e != 0) = true := by simp [he]
    clear v1 v2 v3 hm he
    go_enter Try.func57, Try.ntmps57
    go_wp2
    go_ret
    exact ⟨rfl, r0, Only.refl _ _⟩

set_option maxHeartbeats 400000 in
theorem number_any (s : ByteArray) (w : World) (hs : s.size ≤ maxLen) :
    Calls Try.prog 56 #[.string s] w fun x w' => x = .returned (.int .u64 (numOf s.data.toList)) ∧ w' = w := by
  unfold maxLen at hs
  go_enter Try.func56, Try.ntmps56
  go_wp2
  go_loop [3, 7] (fun n i => ∃ k : Nat, k ≤ s.size ∧ i = .int .i64 k ∧ n = .int .u64 (numOf (s.data.toList.take k))) (fun _ i => s.size - (intOf i).toNat)
  case atStart => exact ⟨0, Nat.zero_le _, rfl, rfl⟩
  case round =>
    obtain ⟨k, hk, rfl, rfl⟩ := hrel
    by_cases hlt : k < s.size
    · have HS : Hid (numOf (s.data.toList.take (k + 1)) = stepN (numOf (s.data.toList.take k)) s[k]) := numOf_take s k hlt
      go_wp2
      go_round
      case rel => exact ⟨k + 1, by omega, by go_num, by rw [HS.out]; rfl⟩
      case measure => simp [intOf]; omega
    · go_wp2
      go_ret
      exact ⟨ret_int (by rw [List.take_of_length_le (by simp; omega)]), rfl⟩

theorem takeV_size (s : ByteArray) (e n : Int) (may : Bool) : (takeV s e n may).size ≤ s.size := by
  unfold takeV; split
  · rw [ByteArray.size_extract]; omega
  · exact Nat.zero_le _

def numV (s : ByteArray) (e n : Int) : Int := numOf (takeV s e n (szB n)).data.toList
set_option maxHeartbeats 400000 in
theorem num_any (b : Nat) (s : ByteArray) (e n : Int) (w : World) (hs : s.size ≤ maxLen) (r : Rd w b s e) :
    Calls Try.prog 39 #[.pointer (some ⟨b, 0, none⟩), .int .i64 n] w fun x w' =>
      x = .returned (.int .u64 (numV s e n)) ∧ Rd w' b (takeS s e n (szB n)) (takeE s e n (szB n)) ∧ Only b w w' := by
  have hp : szB n = true → 0 ≤ n := by unfold szB; simp; omega
  have HP : Hid (szB n = true → 0 ≤ n) := hp
  clear hp
  go_enter Try.func39, Try.ntmps39
  go_wp2_with fail
  refine (isSize_any _ _).mono ?_
  rintro x w' ⟨rfl, rfl⟩
  go_wp2_with fail
  refine (take_any b s e n (szB n) _ HP.out r).mono ?_
  rintro x w1 ⟨rfl, r1, o1⟩
  go_wp2_with fail
  refine (number_any _ _ (Nat.le_trans (takeV_size _ _ _ _) hs)).mono ?_
  rintro x w2 ⟨rfl, rfl⟩
  go_wp2_with fail
  go_ret
  exact ⟨rfl, r1, o1⟩

set_option maxHeartbeats 400000 in
theorem bytes_any (b : Nat) (s : ByteArray) (e n : Int) (w : World) (r : Rd w b s e) :
    Calls Try.prog 42 #[.pointer (some ⟨b, 0, none⟩), .int .i64 n] w fun x w' =>
      x = .returned (.string (takeV s e n (decide (0 ≤ n)))) ∧ Rd w' b (takeS s e n (decide (0 ≤ n))) (takeE s e n (decide (0 ≤ n))) ∧ Only b w w' := by
  go_enter Try.func42, Try.ntmps42
  go_wp2_with fail
  refine (take_any b s e n (decide (0 ≤ n)) _ (fun h => by simpa using h) r).mono ?_
  rintro x w1 ⟨rfl, r1, o1⟩
  go_wp2_with fail
  go_ret
  exact ⟨rfl, r1, o1⟩

set_option maxHeartbeats 400000 in
theorem left_any (b : Nat) (s : ByteArray) (e : Int) (w : World) (r : Rd w b s e) :
    Calls Try.prog 43 #[.pointer (some ⟨b, 0, none⟩)] w fun x w' => x = .returned (.int .i64 s.size) ∧ w' = w := by
  obtain ⟨c0, c1, f0, f1⟩ := r
  go_enter Try.func43, Try.ntmps43
  go_wp2
  go_ret
  exact ⟨rfl, rfl⟩

set_option maxHeartbeats 400000 in
theorem read_any (s : ByteArray) (w : World) :
    Calls Try.prog 38 #[.string s] w fun x w' => x = .returned (.pointer (some ⟨w.heap.size, 0, none⟩)) ∧ w' = w.alloc (.cells #[.string s, .int .i64 0] 69) := by
  go_enter Try.func38, Try.ntmps38
  go_wp2
  go_ret
  exact ⟨rfl, rfl⟩
end Go.Proofs.Ytldbbbhoemnlmaa

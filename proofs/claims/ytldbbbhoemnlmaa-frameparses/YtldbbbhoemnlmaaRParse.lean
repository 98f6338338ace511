/-
  What the document's own 'Parse' answers, as contracts.
-/
import Derived.Test.YtldbbbhoemnlmaaSeemsM
namespace Go.Proofs.Ytldbbbhoemnlmaa
open Go.ChangeShapes Go.WideShapes Go.ChangeAt Go.RowKit

structure PB (w : World) (m : Nat) (p : Pk) (w2 : World) : Prop where
  rp : Bw w2 w.heap.size pk0
  pk : Bx w2 m p
  gr : Below w.heap.size w w2
  lt : m < w2.heap.size
  le : w.heap.size < m
theorem PB.next {w : World} {m : Nat} {p : Pk} {w2 w3 : World} (h : PB w m p w2) (g : Below w2.heap.size w2 w3) : PB w m p w3 :=
  have l1 := h.lt
  have l2 := h.le
  ⟨h.rp.below (by omega) g, h.pk.below l1 g, btr h.gr g (Nat.le_refl _), Nat.lt_of_lt_of_le l1 g.size, l2⟩
theorem PB.new {w w1 : World} (p : Pk) (g : Below (w.alloc (.cells (pkC pk0) 25)).heap.size (w.alloc (.cells (pkC pk0) 25)) w1) : PB w w1.heap.size p (bx w1 p) := by
  have hle : w.heap.size < w1.heap.size := by have := g.size; simp at this; omega
  have g1 : Below w1.heap.size w1 (bx w1 p) := by go_grown
  have r := ((Bw.new w pk0).below (by simp) g).below hle g1
  exact ⟨r, Bx.new w1 p, btr (btr (by go_grown) g (by simp)) g1 (Nat.le_refl _), by simp [bx], hle⟩
theorem PB.answer {w : World} {m : Nat} {p : Pk} {w2 : World} (h : PB w m p w2) (q : Pk) : Bx (setP w2 w.heap.size q) w.heap.size q ∧ Below w.heap.size w (setP w2 w.heap.size q) :=
  ⟨(setP_at h.rp).1, setP_below h.gr (Nat.le_refl _) q⟩

theorem rparse_big (s : ByteArray) (w : World) (h : ¬ s.size ≤ 1500) :
    Calls Try.prog 12 #[.string s] w fun x w' => x = .returned (.tuple #[pkV pk0, .int .i64 44]) ∧ Below w.heap.size w w' := by
  have hi : (1500 : Int) < (s.size : Int) := by omega
  go_enter Try.func12, Try.ntmps12
  go_wp2_with fail
  refine bodyPost_ret (res25 (p := pk0) rfl rfl (Bw.new w pk0).1) rfl ?_
  exact ⟨rfl, by go_grown⟩

set_option maxHeartbeats 1000000 in
theorem rparse_wrong (s : ByteArray) (p : Pk) (a b : Int) (w : World) (h15 : s.size ≤ 1500) (H22 : Hid (∀ w, Calls Try.prog 22 #[.string s] w fun x w' => x = .returned (.tuple #[pkV p, .int .i64 a, .int .i64 b]) ∧ Below w.heap.size w w')) (H18 : Hid (∀ w, Calls Try.prog 18 #[pkV p] w fun x w' => x = .returned (.bool false) ∧ Below w.heap.size w w')) :
    Calls Try.prog 12 #[.string s] w fun x w' => x = .returned (.tuple #[pkV pk0, .int .i64 11]) ∧ Below w.heap.size w w' := by
  have hi : (s.size : Int) ≤ 1500 := by omega
  go_enter Try.func12, Try.ntmps12
  go_wp2_with fail
  refine (H22.out _).mono ?_
  rintro x w1 ⟨rfl, g1⟩
  have P1 := PB.new p g1
  go_wp2_with fail
  refine (H18.out _).mono ?_
  rintro x w2 ⟨rfl, g2⟩
  have P2 := P1.next g2
  clear P1 g1 g2
  obtain ⟨⟨i0, i1, i2, i3, i4, i5, i6, i7, i8, i9, i10⟩, hf⟩ := P2.rp
  go_wp2_with fail
  obtain ⟨A1, A2⟩ := P2.answer pk0
  unfold setP at A1 A2
  refine bodyPost_ret (res25 (p := pk0) rfl rfl A1) rfl ?_
  exact ⟨rfl, A2⟩

set_option maxHeartbeats 1000000 in
theorem rparse_other (s : ByteArray) (p : Pk) (a b : Int) (w : World) (h15 : s.size ≤ 1500) (u : ByteArray) (hu : ¬ u = s) (H22 : Hid (∀ w, Calls Try.prog 22 #[.string s] w fun x w' => x = .returned (.tuple #[pkV p, .int .i64 a, .int .i64 b]) ∧ Below w.heap.size w w')) (H18 : Hid (∀ w, Calls Try.prog 18 #[pkV p] w fun x w' => x = .returned (.bool true) ∧ Below w.heap.size w w')) (H20 : Hid (∀ w, Calls Try.prog 20 #[pkV p, .int .i64 a, .int .i64 b] w fun x w' => x = .returned (.string u) ∧ Below w.heap.size w w')) :
    Calls Try.prog 12 #[.string s] w fun x w' => x = .returned (.tuple #[pkV pk0, .int .i64 11]) ∧ Below w.heap.size w w' := by
  have hb := beq_no hu
  have hi : (s.size : Int) ≤ 1500 := by omega
  go_enter Try.func12, Try.ntmps12
  go_wp2_with fail
  refine (H22.out _).mono ?_
  rintro x w1 ⟨rfl, g1⟩
  have P1 := PB.new p g1
  go_wp2_with fail
  refine (H18.out _).mono ?_
  rintro x w2 ⟨rfl, g2⟩
  have P2 := P1.next g2
  clear P1 g1 g2
  obtain ⟨h0, h1, h2, h3, h4, h5, h6, h7, h8, h9, h10⟩ := P2.pk
  go_wp2_with fail
  refine (H20.out _).mono ?_
  rintro x w3 ⟨rfl, g3⟩
  have P3 := P2.next g3
  clear P2 g3 h0 h1 h2 h3 h4 h5 h6 h7 h8 h9 h10
  obtain ⟨⟨i0, i1, i2, i3, i4, i5, i6, i7, i8, i9, i10⟩, hf⟩ := P3.rp
  go_wp2_with fail
  obtain ⟨A1, A2⟩ := P3.answer pk0
  unfold setP at A1 A2
  refine bodyPost_ret (res25 (p := pk0) rfl rfl A1) rfl ?_
  exact ⟨rfl, A2⟩

set_option maxHeartbeats 1000000 in
theorem rparse_sum (s : ByteArray) (p : Pk) (a b : Int) (w : World) (h15 : s.size ≤ 1500) (t : ByteArray) (e : Int) (ht : ¬ t = s) (H22 : Hid (∀ w, Calls Try.prog 22 #[.string s] w fun x w' => x = .returned (.tuple #[pkV p, .int .i64 a, .int .i64 b]) ∧ Below w.heap.size w w')) (H18 : Hid (∀ w, Calls Try.prog 18 #[pkV p] w fun x w' => x = .returned (.bool true) ∧ Below w.heap.size w w')) (H20 : Hid (∀ w, Calls Try.prog 20 #[pkV p, .int .i64 a, .int .i64 b] w fun x w' => x = .returned (.string s) ∧ Below w.heap.size w w')) (H10 : Hid (∀ w, Calls Try.prog 10 #[pkV p] w fun x w' => x = .returned (.tuple #[.string t, .int .i64 e]) ∧ Below w.heap.size w w')) :
    Calls Try.prog 12 #[.string s] w fun x w' => x = .returned (.tuple #[pkV pk0, .int .i64 13]) ∧ Below w.heap.size w w' := by
  have hb := beq_no ht
  have hi : (s.size : Int) ≤ 1500 := by omega
  go_enter Try.func12, Try.ntmps12
  go_wp2_with fail
  refine (H22.out _).mono ?_
  rintro x w1 ⟨rfl, g1⟩
  have P1 := PB.new p g1
  go_wp2_with fail
  refine (H18.out _).mono ?_
  rintro x w2 ⟨rfl, g2⟩
  have P2 := P1.next g2
  clear P1 g1 g2
  obtain ⟨h0, h1, h2, h3, h4, h5, h6, h7, h8, h9, h10⟩ := P2.pk
  go_wp2_with fail
  refine (H20.out _).mono ?_
  rintro x w3 ⟨rfl, g3⟩
  have P3 := P2.next g3
  clear P2 g3 h0 h1 h2 h3 h4 h5 h6 h7 h8 h9 h10
  obtain ⟨h0, h1, h2, h3, h4, h5, h6, h7, h8, h9, h10⟩ := P3.pk
  go_wp2_with fail
  refine (H10.out _).mono ?_
  rintro x w4 ⟨rfl, g4⟩
  have P4 := P3.next g4
  clear P3 g4 h0 h1 h2 h3 h4 h5 h6 h7 h8 h9 h10
  obtain ⟨h0, h1, h2, h3, h4, h5, h6, h7, h8, h9, h10⟩ := P4.pk
  obtain ⟨⟨i0, i1, i2, i3, i4, i5, i6, i7, i8, i9, i10⟩, hf⟩ := P4.rp
  go_wp2_with fail
  obtain ⟨A1, A2⟩ := P4.answer pk0
  unfold setP at A1 A2
  refine bodyPost_ret (res25 (p := pk0) rfl rfl A1) rfl ?_
  exact ⟨rfl, A2⟩

set_option maxHeartbeats 1000000 in
theorem rparse_ok (s : ByteArray) (p : Pk) (a b : Int) (w : World) (h15 : s.size ≤ 1500) (e : Int) (H22 : Hid (∀ w, Calls Try.prog 22 #[.string s] w fun x w' => x = .returned (.tuple #[pkV p, .int .i64 a, .int .i64 b]) ∧ Below w.heap.size w w')) (H18 : Hid (∀ w, Calls Try.prog 18 #[pkV p] w fun x w' => x = .returned (.bool true) ∧ Below w.heap.size w w')) (H20 : Hid (∀ w, Calls Try.prog 20 #[pkV p, .int .i64 a, .int .i64 b] w fun x w' => x = .returned (.string s) ∧ Below w.heap.size w w')) (H10 : Hid (∀ w, Calls Try.prog 10 #[pkV p] w fun x w' => x = .returned (.tuple #[.string s, .int .i64 e]) ∧ Below w.heap.size w w')) :
    Calls Try.prog 12 #[.string s] w fun x w' => x = .returned (.tuple #[pkV p, .int .i64 0]) ∧ Below w.heap.size w w' := by
  have hi : (s.size : Int) ≤ 1500 := by omega
  go_enter Try.func12, Try.ntmps12
  go_wp2_with fail
  refine (H22.out _).mono ?_
  rintro x w1 ⟨rfl, g1⟩
  have P1 := PB.new p g1
  go_wp2_with fail
  refine (H18.out _).mono ?_
  rintro x w2 ⟨rfl, g2⟩
  have P2 := P1.next g2
  clear P1 g1 g2
  obtain ⟨h0, h1, h2, h3, h4, h5, h6, h7, h8, h9, h10⟩ := P2.pk
  go_wp2_with fail
  refine (H20.out _).mono ?_
  rintro x w3 ⟨rfl, g3⟩
  have P3 := P2.next g3
  clear P2 g3 h0 h1 h2 h3 h4 h5 h6 h7 h8 h9 h10
  obtain ⟨h0, h1, h2, h3, h4, h5, h6, h7, h8, h9, h10⟩ := P3.pk
  go_wp2_with fail
  refine (H10.out _).mono ?_
  rintro x w4 ⟨rfl, g4⟩
  have P4 := P3.next g4
  clear P3 g4 h0 h1 h2 h3 h4 h5 h6 h7 h8 h9 h10
  obtain ⟨h0, h1, h2, h3, h4, h5, h6, h7, h8, h9, h10⟩ := P4.pk
  obtain ⟨⟨i0, i1, i2, i3, i4, i5, i6, i7, i8, i9, i10⟩, hf⟩ := P4.rp
  go_wp2_with fail
  obtain ⟨A1, A2⟩ := P4.answer p
  unfold setP at A1 A2
  refine bodyPost_ret (res25 (p := p) rfl rfl A1) rfl ?_
  exact ⟨rfl, A2⟩

end Go.Proofs.Ytldbbbhoemnlmaa

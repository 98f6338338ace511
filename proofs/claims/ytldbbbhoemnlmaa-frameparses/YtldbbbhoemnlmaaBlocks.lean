/-
  Readers as plain functions; blocks that may be written, and which ones have turned.
-/
import Derived.Test.YtldbbbhoemnlmaaBytes
namespace Go.Proofs.Ytldbbbhoemnlmaa
open Go.ChangeShapes Go.WideShapes Go.ChangeAt Go.RowKit

/-- A reader: what is left, and what is wrong. -/
structure RS where
  s : ByteArray
  e : Int
def RS.num (r : RS) (n : Int) : Int := numV r.s r.e n
def RS.skip (r : RS) (n : Int) : RS := ⟨takeS r.s r.e n (szB n), takeE r.s r.e n (szB n)⟩
def RS.jump (r : RS) (n : Int) : RS := ⟨takeS r.s r.e n (decide (0 ≤ n)), takeE r.s r.e n (decide (0 ≤ n))⟩
def RS.bytes (r : RS) (n : Int) : ByteArray := takeV r.s r.e n (decide (0 ≤ n))

theorem takeS_size (s : ByteArray) (e n : Int) (may : Bool) : (takeS s e n may).size ≤ s.size := by
  unfold takeS; split
  · split
    · rw [ByteArray.size_extract]; omega
    · exact Nat.zero_le _
  · exact Nat.le_refl _
theorem RS.skip_size (r : RS) (n : Int) : (r.skip n).s.size ≤ r.s.size := takeS_size _ _ _ _
theorem RS.jump_size (r : RS) (n : Int) : (r.jump n).s.size ≤ r.s.size := takeS_size _ _ _ _

/-- The number of few bytes is small. -/
theorem numOf_lt : ∀ (l : List UInt8), l.length ≤ 8 → 0 ≤ numOf l ∧ numOf l < 256 ^ l.length := by
  intro l
  induction h : l.length generalizing l with
  | zero => intro _; rw [List.length_eq_zero_iff] at h; subst h; exact ⟨by decide, by decide⟩
  | succ k ih =>
    intro hk
    have hne : l ≠ [] := by intro h0; subst h0; simp at h
    have e := List.dropLast_concat_getLast hne
    have hl : l.dropLast.length = k := by simp [h]
    obtain ⟨i0, i1⟩ := ih l.dropLast hl (by omega)
    rw [← e, numOf_snoc]
    have hb : (256 : Int) ^ k ≤ 72057594037927936 := by
      have h := Nat.pow_le_pow_right (show 0 < 256 by decide) (show k ≤ 7 by omega)
      have h2 : ((256 ^ k : Nat) : Int) ≤ 72057594037927936 := by omega
      rwa [Int.natCast_pow] at h2
    have hc := (l.getLast hne).toNat_lt
    rw [stepN_eq _ _ i0 (by omega), Int.pow_succ]
    omega
theorem takeV_le (s : ByteArray) (e : Int) (k : Nat) (may : Bool) : (takeV s e k may).size ≤ k := by
  unfold takeV; split
  · rw [ByteArray.size_extract]; omega
  · exact Nat.zero_le _
theorem RS.num_lt (r : RS) (k : Nat) (hk : k ≤ 8) : 0 ≤ r.num k ∧ r.num k < 256 ^ k := by
  unfold RS.num numV
  have h := takeV_le r.s r.e k (szB k)
  have hl : (takeV r.s r.e k (szB k)).data.toList.length ≤ k := by simpa using h
  obtain ⟨a, b⟩ := numOf_lt (takeV r.s r.e k (szB k)).data.toList (by omega)
  refine ⟨a, Int.lt_of_lt_of_le b ?_⟩
  have := Nat.pow_le_pow_right (show 0 < 256 by decide) hl
  have h2 := Int.ofNat_le.mpr this
  rw [Int.natCast_pow, Int.natCast_pow] at h2
  exact h2

/-- Nothing but two blocks has turned, and there may be new ones. -/
structure Two (b c : Nat) (w w' : World) : Prop where
  os : w'.os = w.os
  tape : w'.tape = w.tape
  output : w'.output = w.output
  size : w.heap.size ≤ w'.heap.size
  block : ∀ k, k < w.heap.size → k ≠ b → k ≠ c → w'.heap[k]? = w.heap[k]?
theorem Two.refl (b c : Nat) (w : World) : Two b c w w := ⟨rfl, rfl, rfl, Nat.le_refl _, fun _ _ _ _ => rfl⟩
theorem Two.only {b c : Nat} {w w1 w2 : World} (h : Two b c w w1) (g : Only b w1 w2) : Two b c w w2 :=
  ⟨g.os.trans h.os, g.tape.trans h.tape, g.output.trans h.output, by rw [g.size]; exact h.size, fun k hk h1 h2 => (g.block k h1).trans (h.block k hk h1 h2)⟩
theorem Two.set {b c : Nat} {w w1 : World} (h : Two b c w w1) (o : Nat) (v : Value) : Two b c w (w1.setCell ⟨c, o, none⟩ v) :=
  ⟨h.os, h.tape, h.output, by simpa [World.setCell] using h.size, fun k hk h1 h2 => (Below.heap_setCell _ _ _ _ h2).trans (h.block k hk h1 h2)⟩
theorem Two.below {b c : Nat} {w w1 w2 : World} (h : Two b c w w1) (g : Below w1.heap.size w1 w2) : Two b c w w2 :=
  ⟨g.os.trans h.os, g.tape.trans h.tape, g.output.trans h.output, Nat.le_trans h.size g.size, fun k hk h1 h2 => (g.block k (Nat.lt_of_lt_of_le hk h.size)).trans (h.block k hk h1 h2)⟩
theorem Two.trans {b c : Nat} {w w1 w2 : World} (h : Two b c w w1) (g : Two b c w1 w2) : Two b c w w2 :=
  ⟨g.os.trans h.os, g.tape.trans h.tape, g.output.trans h.output, Nat.le_trans h.size g.size, fun k hk h1 h2 => (g.block k (Nat.lt_of_lt_of_le hk h.size) h1 h2).trans (h.block k hk h1 h2)⟩

/-- A packet that may be written lies in block b. -/
abbrev Bw (w : World) (b : Nat) (p : Pk) : Prop := Bx w b p ∧ ∀ i, w.frozen? ⟨b, i, none⟩ = false
theorem Bx.block {w w' : World} {b : Nat} {p : Pk} (h : Bx w b p) (g : w'.heap[b]? = w.heap[b]?) : Bx w' b p := by
  obtain ⟨h0, h1, h2, h3, h4, h5, h6, h7, h8, h9, h10⟩ := h
  have e : ∀ o, w'.cell? ⟨b, o, none⟩ = w.cell? ⟨b, o, none⟩ := fun o => World.cell?_of_block (w := w) g
  exact ⟨(e _).trans h0, (e _).trans h1, (e _).trans h2, (e _).trans h3, (e _).trans h4, (e _).trans h5, (e _).trans h6, (e _).trans h7, (e _).trans h8, (e _).trans h9, (e _).trans h10⟩
theorem Bw.block {w w' : World} {b : Nat} {p : Pk} (h : Bw w b p) (g : w'.heap[b]? = w.heap[b]?) : Bw w' b p :=
  ⟨h.1.block g, fun i => (World.frozen?_of_block (w := w) g).trans (h.2 i)⟩
theorem Bw.only {w w' : World} {b c : Nat} {p : Pk} (h : Bw w b p) (g : Only c w w') (hne : b ≠ c) : Bw w' b p := h.block (g.block b hne)
theorem Bw.below {w w' : World} {b B : Nat} {p : Pk} (h : Bw w b p) (hb : b < B) (g : Below B w w') : Bw w' b p := h.block (g.block b hb)
theorem Rd.block {w w' : World} {b : Nat} {s : ByteArray} {e : Int} (r : Rd w b s e) (g : w'.heap[b]? = w.heap[b]?) : Rd w' b s e :=
  ⟨(World.cell?_of_block (w := w) g).trans r.c0, (World.cell?_of_block (w := w) g).trans r.c1, (World.frozen?_of_block (w := w) g).trans r.f0, (World.frozen?_of_block (w := w) g).trans r.f1⟩
theorem Rd.set {w : World} {b c : Nat} {s : ByteArray} {e : Int} (r : Rd w b s e) (hne : b ≠ c) (o : Nat) (v : Value) : Rd (w.setCell ⟨c, o, none⟩ v) b s e := r.block (Below.heap_setCell _ _ _ _ hne)
theorem Bw.set0 {w : World} {b : Nat} {p : Pk} (h : Bw w b p) (x : Int) : Bw (w.setCell ⟨b, 0, none⟩ (.int .u64 x)) b { p with to := x } := by
  obtain ⟨⟨h0, h1, h2, h3, h4, h5, h6, h7, h8, h9, h10⟩, hf⟩ := h
  exact ⟨⟨World.cell?_setCell_same _ _ _ h0, (World.cell?_setCell_other _ _ _ _ (by simp)).trans h1, (World.cell?_setCell_other _ _ _ _ (by simp)).trans h2, (World.cell?_setCell_other _ _ _ _ (by simp)).trans h3, (World.cell?_setCell_other _ _ _ _ (by simp)).trans h4, (World.cell?_setCell_other _ _ _ _ (by simp)).trans h5, (World.cell?_setCell_other _ _ _ _ (by simp)).trans h6, (World.cell?_setCell_other _ _ _ _ (by simp)).trans h7, (World.cell?_setCell_other _ _ _ _ (by simp)).trans h8, (World.cell?_setCell_other _ _ _ _ (by simp)).trans h9, (World.cell?_setCell_other _ _ _ _ (by simp)).trans h10⟩, fun i => by simp [hf]⟩
theorem Bw.set1 {w : World} {b : Nat} {p : Pk} (h : Bw w b p) (x : Int) : Bw (w.setCell ⟨b, 1, none⟩ (.int .u64 x)) b { p with fr := x } := by
  obtain ⟨⟨h0, h1, h2, h3, h4, h5, h6, h7, h8, h9, h10⟩, hf⟩ := h
  exact ⟨⟨(World.cell?_setCell_other _ _ _ _ (by simp)).trans h0, World.cell?_setCell_same _ _ _ h1, (World.cell?_setCell_other _ _ _ _ (by simp)).trans h2, (World.cell?_setCell_other _ _ _ _ (by simp)).trans h3, (World.cell?_setCell_other _ _ _ _ (by simp)).trans h4, (World.cell?_setCell_other _ _ _ _ (by simp)).trans h5, (World.cell?_setCell_other _ _ _ _ (by simp)).trans h6, (World.cell?_setCell_other _ _ _ _ (by simp)).trans h7, (World.cell?_setCell_other _ _ _ _ (by simp)).trans h8, (World.cell?_setCell_other _ _ _ _ (by simp)).trans h9, (World.cell?_setCell_other _ _ _ _ (by simp)).trans h10⟩, fun i => by simp [hf]⟩
theorem Bw.set2 {w : World} {b : Nat} {p : Pk} (h : Bw w b p) (x : Int) : Bw (w.setCell ⟨b, 2, none⟩ (.int .i64 x)) b { p with vl := x } := by
  obtain ⟨⟨h0, h1, h2, h3, h4, h5, h6, h7, h8, h9, h10⟩, hf⟩ := h
  exact ⟨⟨(World.cell?_setCell_other _ _ _ _ (by simp)).trans h0, (World.cell?_setCell_other _ _ _ _ (by simp)).trans h1, World.cell?_setCell_same _ _ _ h2, (World.cell?_setCell_other _ _ _ _ (by simp)).trans h3, (World.cell?_setCell_other _ _ _ _ (by simp)).trans h4, (World.cell?_setCell_other _ _ _ _ (by simp)).trans h5, (World.cell?_setCell_other _ _ _ _ (by simp)).trans h6, (World.cell?_setCell_other _ _ _ _ (by simp)).trans h7, (World.cell?_setCell_other _ _ _ _ (by simp)).trans h8, (World.cell?_setCell_other _ _ _ _ (by simp)).trans h9, (World.cell?_setCell_other _ _ _ _ (by simp)).trans h10⟩, fun i => by simp [hf]⟩
theorem Bw.set3 {w : World} {b : Nat} {p : Pk} (h : Bw w b p) (x : Int) : Bw (w.setCell ⟨b, 3, none⟩ (.int .i64 x)) b { p with ty := x } := by
  obtain ⟨⟨h0, h1, h2, h3, h4, h5, h6, h7, h8, h9, h10⟩, hf⟩ := h
  exact ⟨⟨(World.cell?_setCell_other _ _ _ _ (by simp)).trans h0, (World.cell?_setCell_other _ _ _ _ (by simp)).trans h1, (World.cell?_setCell_other _ _ _ _ (by simp)).trans h2, World.cell?_setCell_same _ _ _ h3, (World.cell?_setCell_other _ _ _ _ (by simp)).trans h4, (World.cell?_setCell_other _ _ _ _ (by simp)).trans h5, (World.cell?_setCell_other _ _ _ _ (by simp)).trans h6, (World.cell?_setCell_other _ _ _ _ (by simp)).trans h7, (World.cell?_setCell_other _ _ _ _ (by simp)).trans h8, (World.cell?_setCell_other _ _ _ _ (by simp)).trans h9, (World.cell?_setCell_other _ _ _ _ (by simp)).trans h10⟩, fun i => by simp [hf]⟩
theorem Bw.set4 {w : World} {b : Nat} {p : Pk} (h : Bw w b p) (x : Int) : Bw (w.setCell ⟨b, 4, none⟩ (.int .u32 x)) b { p with src := x } := by
  obtain ⟨⟨h0, h1, h2, h3, h4, h5, h6, h7, h8, h9, h10⟩, hf⟩ := h
  exact ⟨⟨(World.cell?_setCell_other _ _ _ _ (by simp)).trans h0, (World.cell?_setCell_other _ _ _ _ (by simp)).trans h1, (World.cell?_setCell_other _ _ _ _ (by simp)).trans h2, (World.cell?_setCell_other _ _ _ _ (by simp)).trans h3, World.cell?_setCell_same _ _ _ h4, (World.cell?_setCell_other _ _ _ _ (by simp)).trans h5, (World.cell?_setCell_other _ _ _ _ (by simp)).trans h6, (World.cell?_setCell_other _ _ _ _ (by simp)).trans h7, (World.cell?_setCell_other _ _ _ _ (by simp)).trans h8, (World.cell?_setCell_other _ _ _ _ (by simp)).trans h9, (World.cell?_setCell_other _ _ _ _ (by simp)).trans h10⟩, fun i => by simp [hf]⟩
theorem Bw.set5 {w : World} {b : Nat} {p : Pk} (h : Bw w b p) (x : Int) : Bw (w.setCell ⟨b, 5, none⟩ (.int .u32 x)) b { p with dst := x } := by
  obtain ⟨⟨h0, h1, h2, h3, h4, h5, h6, h7, h8, h9, h10⟩, hf⟩ := h
  exact ⟨⟨(World.cell?_setCell_other _ _ _ _ (by simp)).trans h0, (World.cell?_setCell_other _ _ _ _ (by simp)).trans h1, (World.cell?_setCell_other _ _ _ _ (by simp)).trans h2, (World.cell?_setCell_other _ _ _ _ (by simp)).trans h3, (World.cell?_setCell_other _ _ _ _ (by simp)).trans h4, World.cell?_setCell_same _ _ _ h5, (World.cell?_setCell_other _ _ _ _ (by simp)).trans h6, (World.cell?_setCell_other _ _ _ _ (by simp)).trans h7, (World.cell?_setCell_other _ _ _ _ (by simp)).trans h8, (World.cell?_setCell_other _ _ _ _ (by simp)).trans h9, (World.cell?_setCell_other _ _ _ _ (by simp)).trans h10⟩, fun i => by simp [hf]⟩
theorem Bw.set6 {w : World} {b : Nat} {p : Pk} (h : Bw w b p) (x : Int) : Bw (w.setCell ⟨b, 6, none⟩ (.int .i64 x)) b { p with life := x } := by
  obtain ⟨⟨h0, h1, h2, h3, h4, h5, h6, h7, h8, h9, h10⟩, hf⟩ := h
  exact ⟨⟨(World.cell?_setCell_other _ _ _ _ (by simp)).trans h0, (World.cell?_setCell_other _ _ _ _ (by simp)).trans h1, (World.cell?_setCell_other _ _ _ _ (by simp)).trans h2, (World.cell?_setCell_other _ _ _ _ (by simp)).trans h3, (World.cell?_setCell_other _ _ _ _ (by simp)).trans h4, (World.cell?_setCell_other _ _ _ _ (by simp)).trans h5, World.cell?_setCell_same _ _ _ h6, (World.cell?_setCell_other _ _ _ _ (by simp)).trans h7, (World.cell?_setCell_other _ _ _ _ (by simp)).trans h8, (World.cell?_setCell_other _ _ _ _ (by simp)).trans h9, (World.cell?_setCell_other _ _ _ _ (by simp)).trans h10⟩, fun i => by simp [hf]⟩
theorem Bw.set7 {w : World} {b : Nat} {p : Pk} (h : Bw w b p) (x : Int) : Bw (w.setCell ⟨b, 7, none⟩ (.int .i64 x)) b { p with pro := x } := by
  obtain ⟨⟨h0, h1, h2, h3, h4, h5, h6, h7, h8, h9, h10⟩, hf⟩ := h
  exact ⟨⟨(World.cell?_setCell_other _ _ _ _ (by simp)).trans h0, (World.cell?_setCell_other _ _ _ _ (by simp)).trans h1, (World.cell?_setCell_other _ _ _ _ (by simp)).trans h2, (World.cell?_setCell_other _ _ _ _ (by simp)).trans h3, (World.cell?_setCell_other _ _ _ _ (by simp)).trans h4, (World.cell?_setCell_other _ _ _ _ (by simp)).trans h5, (World.cell?_setCell_other _ _ _ _ (by simp)).trans h6, World.cell?_setCell_same _ _ _ h7, (World.cell?_setCell_other _ _ _ _ (by simp)).trans h8, (World.cell?_setCell_other _ _ _ _ (by simp)).trans h9, (World.cell?_setCell_other _ _ _ _ (by simp)).trans h10⟩, fun i => by simp [hf]⟩
theorem Bw.set8 {w : World} {b : Nat} {p : Pk} (h : Bw w b p) (x : Int) : Bw (w.setCell ⟨b, 8, none⟩ (.int .i64 x)) b { p with sp := x } := by
  obtain ⟨⟨h0, h1, h2, h3, h4, h5, h6, h7, h8, h9, h10⟩, hf⟩ := h
  exact ⟨⟨(World.cell?_setCell_other _ _ _ _ (by simp)).trans h0, (World.cell?_setCell_other _ _ _ _ (by simp)).trans h1, (World.cell?_setCell_other _ _ _ _ (by simp)).trans h2, (World.cell?_setCell_other _ _ _ _ (by simp)).trans h3, (World.cell?_setCell_other _ _ _ _ (by simp)).trans h4, (World.cell?_setCell_other _ _ _ _ (by simp)).trans h5, (World.cell?_setCell_other _ _ _ _ (by simp)).trans h6, (World.cell?_setCell_other _ _ _ _ (by simp)).trans h7, World.cell?_setCell_same _ _ _ h8, (World.cell?_setCell_other _ _ _ _ (by simp)).trans h9, (World.cell?_setCell_other _ _ _ _ (by simp)).trans h10⟩, fun i => by simp [hf]⟩
theorem Bw.set9 {w : World} {b : Nat} {p : Pk} (h : Bw w b p) (x : Int) : Bw (w.setCell ⟨b, 9, none⟩ (.int .i64 x)) b { p with dp := x } := by
  obtain ⟨⟨h0, h1, h2, h3, h4, h5, h6, h7, h8, h9, h10⟩, hf⟩ := h
  exact ⟨⟨(World.cell?_setCell_other _ _ _ _ (by simp)).trans h0, (World.cell?_setCell_other _ _ _ _ (by simp)).trans h1, (World.cell?_setCell_other _ _ _ _ (by simp)).trans h2, (World.cell?_setCell_other _ _ _ _ (by simp)).trans h3, (World.cell?_setCell_other _ _ _ _ (by simp)).trans h4, (World.cell?_setCell_other _ _ _ _ (by simp)).trans h5, (World.cell?_setCell_other _ _ _ _ (by simp)).trans h6, (World.cell?_setCell_other _ _ _ _ (by simp)).trans h7, (World.cell?_setCell_other _ _ _ _ (by simp)).trans h8, World.cell?_setCell_same _ _ _ h9, (World.cell?_setCell_other _ _ _ _ (by simp)).trans h10⟩, fun i => by simp [hf]⟩
theorem Bw.set10 {w : World} {b : Nat} {p : Pk} (h : Bw w b p) (x : ByteArray) : Bw (w.setCell ⟨b, 10, none⟩ (.string x)) b { p with data := x } := by
  obtain ⟨⟨h0, h1, h2, h3, h4, h5, h6, h7, h8, h9, h10⟩, hf⟩ := h
  exact ⟨⟨(World.cell?_setCell_other _ _ _ _ (by simp)).trans h0, (World.cell?_setCell_other _ _ _ _ (by simp)).trans h1, (World.cell?_setCell_other _ _ _ _ (by simp)).trans h2, (World.cell?_setCell_other _ _ _ _ (by simp)).trans h3, (World.cell?_setCell_other _ _ _ _ (by simp)).trans h4, (World.cell?_setCell_other _ _ _ _ (by simp)).trans h5, (World.cell?_setCell_other _ _ _ _ (by simp)).trans h6, (World.cell?_setCell_other _ _ _ _ (by simp)).trans h7, (World.cell?_setCell_other _ _ _ _ (by simp)).trans h8, (World.cell?_setCell_other _ _ _ _ (by simp)).trans h9, World.cell?_setCell_same _ _ _ h10⟩, fun i => by simp [hf]⟩
end Go.Proofs.Ytldbbbhoemnlmaa

/-
  What the document's own reader of a frame answers, as a contract.
-/
import Derived.Test.YtldbbbhoemnlmaaLawBytes
namespace Go.Proofs.Ytldbbbhoemnlmaa
open Go.ChangeShapes Go.WideShapes Go.ChangeAt Go.RowKit

def atV (s : ByteArray) (i n : Nat) : ByteArray := (s ++ strOfNums (zs 64)).extract i (i + n)
def behindV (s : ByteArray) (i : Nat) : ByteArray := if s.size < i then noBytes else s.extract i s.size
def gN (s : ByteArray) (i n : Nat) : Int := numOf (atV s i n).data.toList
theorem atV_size (s : ByteArray) (i n : Nat) : (atV s i n).size ≤ n := by unfold atV; rw [ByteArray.size_extract]; omega
theorem gN_lt (s : ByteArray) (i n : Nat) (h : n ≤ 8) : 0 ≤ gN s i n ∧ gN s i n < 256 ^ n := by
  have hl : (atV s i n).data.toList.length ≤ n := by simpa using atV_size s i n
  obtain ⟨a, b⟩ := numOf_lt (atV s i n).data.toList (by omega)
  refine ⟨a, Int.lt_of_lt_of_le b ?_⟩
  have h2 := Int.ofNat_le.mpr (Nat.pow_le_pow_right (show 0 < 256 by decide) hl)
  rw [Int.natCast_pow, Int.natCast_pow] at h2
  exact h2
theorem gN1 (s : ByteArray) (i : Nat) : 0 ≤ gN s i 1 ∧ gN s i 1 < 256 := by have := gN_lt s i 1 (by omega); simpa using this
theorem gN2 (s : ByteArray) (i : Nat) : 0 ≤ gN s i 2 ∧ gN s i 2 < 65536 := by have := gN_lt s i 2 (by omega); simpa using this
theorem gN4 (s : ByteArray) (i : Nat) : 0 ≤ gN s i 4 ∧ gN s i 4 < 4294967296 := by have := gN_lt s i 4 (by omega); simpa using this
theorem gN6 (s : ByteArray) (i : Nat) : 0 ≤ gN s i 6 ∧ gN s i 6 < 281474976710656 := by have := gN_lt s i 6 (by omega); simpa using this

set_option maxHeartbeats 1000000 in
theorem at_any (s : ByteArray) (i n : Nat) (w : World) (hs : s.size ≤ 1500) (hi : i + n ≤ 64) :
    Calls Try.prog 45 #[.string s, .int .i64 i, .int .i64 n] w fun x w' => x = .returned (.string (atV s i n)) ∧ Below w.heap.size w w' := by
  have hm : ∀ w : World, (Instr.makeSlice 35 (.int .i64 64) (.int .i64 64)).run Try.prog w = .ok (.slice (some ⟨w.heap.size, 0, none⟩) 64 64) (w.alloc (.cells ((zs 64).map (Value.int .u8)).toArray 5)) := fun w => mkZ 64 w (by omega)
  have hv : ∀ w : World, (convert 35 9 (.slice (some ⟨w.heap.size, 0, none⟩) 64 64)).run Try.prog (w.alloc (.cells ((zs 64).map (Value.int .u8)).toArray 5)) = .ok (.string (strOfNums (zs 64))) (w.alloc (.cells ((zs 64).map (Value.int .u8)).toArray 5)) := fun w => cvZ 64 w
  have hz : (strOfNums (zs 64)).size = 64 := by rw [strOfNums_size, zs_length]
  have hz' : ((strOfNums (zs 64)).size : Int) = 64 := by omega
  unfold atV
  generalize zs 64 = z at *
  have hc : (s ++ strOfNums z).size = s.size + 64 := by rw [ByteArray.size_append, hz]
  have hc' : ((s ++ strOfNums z).size : Int) = (s.size : Int) + 64 := by omega
  have hi' : (i : Int) + (n : Int) ≤ (s.size : Int) + 64 := by omega
  have hs' : (s.size : Int) ≤ 1500 := by omega
  have hi1 : (i : Int) ≤ 64 := by omega
  have hn1 : (n : Int) ≤ 64 := by omega
  have hle : (i : Int) ≤ (i : Int) + (n : Int) := by omega
  go_enter Try.func45, Try.ntmps45
  go_wp2
  go_ret
  exact ⟨rfl, by go_grown⟩

set_option maxHeartbeats 1000000 in
theorem behind_any (s : ByteArray) (i : Nat) (w : World) :
    Calls Try.prog 46 #[.string s, .int .i64 i] w fun x w' => x = .returned (.string (behindV s i)) ∧ w' = w := by
  unfold behindV
  by_cases h : s.size < i
  · rw [if_pos h]
    have h' : (s.size : Int) < (i : Int) := by omega
    go_enter Try.func46, Try.ntmps46
    go_wp2
    go_ret
    exact ⟨rfl, rfl⟩
  · rw [if_neg h]
    have h' : (i : Int) ≤ (s.size : Int) := by omega
    go_enter Try.func46, Try.ntmps46
    go_wp2
    go_ret
    exact ⟨rfl, rfl⟩

/-- Where 'seems' stands: what it answers and its packet lie in two blocks. -/
structure SE (w : World) (p : Pk) (w1 : World) : Prop where
  rp : Bw w1 w.heap.size pk0
  pk : Bw w1 (w.heap.size + 1) p
  gr : Below w.heap.size w w1
  lt : w.heap.size + 1 < w1.heap.size
theorem SE.next {w : World} {p : Pk} {w1 w2 : World} (h : SE w p w1) (g : Below w1.heap.size w1 w2) : SE w p w2 :=
  have l := h.lt
  ⟨h.rp.below (by omega) g, h.pk.below l g, btr h.gr g (Nat.le_refl _), Nat.lt_of_lt_of_le l g.size⟩
theorem SE.put {w : World} {p p' : Pk} {w1 : World} {o : Nat} {v : Value} (h : SE w p w1) (hp : Bw (w1.setCell ⟨w.heap.size + 1, o, none⟩ v) (w.heap.size + 1) p') : SE w p' (w1.setCell ⟨w.heap.size + 1, o, none⟩ v) :=
  ⟨h.rp.block (Below.heap_setCell _ _ _ _ (by simp)), hp, h.gr.setCell (by simp) _, by simpa [World.setCell] using h.lt⟩
theorem SE.new (w : World) : SE w pk0 ((w.alloc (.cells (pkC pk0) 25)).alloc (.cells (pkC pk0) 25)) := by
  have a1 := Bw.new w pk0
  have a2 := Bw.new (w.alloc (.cells (pkC pk0) 25)) pk0
  have z : (w.alloc (.cells (pkC pk0) 25)).heap.size = w.heap.size + 1 := by simp
  rw [z] at a2
  exact ⟨a1.block (Below.heap_alloc _ _ _ (by rw [z]; omega)), a2, by go_grown, by simp⟩
theorem SE.answer {w : World} {p : Pk} {w1 : World} (h : SE w p w1) (q : Pk) : Bx (setP w1 w.heap.size q) w.heap.size q ∧ Below w.heap.size w (setP w1 w.heap.size q) :=
  ⟨(setP_at h.rp).1, setP_below h.gr (Nat.le_refl _) q⟩

theorem SE.drew {w : World} {p : Pk} {w1 : World} (h : SE w p w1) : SE w p w1.drew := ⟨h.rp, h.pk, h.gr.drew, h.lt⟩
def sPlain (s : ByteArray) : Pk := { pk0 with to := gN s 0 6, fr := gN s 6 6, ty := gN s 12 2 }
def sTagged (s : ByteArray) : Pk := { pk0 with to := gN s 0 6, fr := gN s 6 6, vl := 4096 + gN s 14 2, ty := gN s 16 2 }
def sHead (s : ByteArray) (j : Nat) (p : Pk) : Pk := { p with life := gN s (j + 8) 1, pro := gN s (j + 9) 1, src := gN s (j + 12) 4, dst := gN s (j + 16) 4 }
def sPorts (s : ByteArray) (k : Nat) (p : Pk) : Pk := { p with sp := gN s k 2, dp := gN s (k + 2) 2 }
end Go.Proofs.Ytldbbbhoemnlmaa

/-
  The place of a number's greatest bit: bits.Len64.
-/
import Derived.Test.YtmobmpghpdaddaaMeet
namespace Go.Proofs.Ytmobmpghpdaddaa
open Go.ChangeShapes Go.WideShapes Go.ChangeAt Go.RowKit
set_option linter.unusedVariables false

def lenN (n : Nat) : Nat := if n = 0 then 0 else n.log2 + 1
theorem lenN_div (n k : Nat) (h : 2 ^ k ≤ n) : lenN n = k + lenN (n / 2 ^ k) := by
  have hp := Nat.two_pow_pos k
  have hm : n / 2 ^ k ≠ 0 := by
    have := Nat.div_pos h hp
    omega
  unfold lenN
  rw [if_neg (by omega), if_neg hm]
  obtain ⟨j, hj⟩ : ∃ j, (n / 2 ^ k).log2 = j := ⟨_, rfl⟩
  obtain ⟨h1, h2⟩ := (Nat.log2_eq_iff hm).1 hj
  have e1 : 2 ^ (k + j) ≤ n := by
    rw [Nat.pow_add, Nat.mul_comm]
    exact (Nat.le_div_iff_mul_le hp).1 h1
  have e2 : n < 2 ^ (k + j + 1) := by
    have := (Nat.div_lt_iff_lt_mul hp).1 h2
    rw [Nat.add_assoc, Nat.pow_add, Nat.mul_comm]
    exact this
  rw [hj, (Nat.log2_eq_iff (by omega)).2 ⟨e1, e2⟩]
  omega
/-- The table of lengths. -/
def tab8 : ByteArray := { data := #[0, 1, 2, 2, 3, 3, 3, 3, 4, 4, 4, 4, 4, 4, 4, 4, 5, 5, 5, 5, 5, 5, 5, 5, 5, 5, 5, 5, 5, 5, 5, 5, 6, 6, 6, 6, 6, 6, 6, 6, 6, 6, 6, 6, 6, 6, 6, 6, 6, 6, 6, 6, 6, 6, 6, 6, 6, 6, 6, 6, 6, 6, 6, 6, 7, 7, 7, 7, 7, 7, 7, 7, 7, 7, 7, 7, 7, 7, 7, 7, 7, 7, 7, 7, 7, 7, 7, 7, 7, 7, 7, 7, 7, 7, 7, 7, 7, 7, 7, 7, 7, 7, 7, 7, 7, 7, 7, 7, 7, 7, 7, 7, 7, 7, 7, 7, 7, 7, 7, 7, 7, 7, 7, 7, 7, 7, 7, 7, 8, 8, 8, 8, 8, 8, 8, 8, 8, 8, 8, 8, 8, 8, 8, 8, 8, 8, 8, 8, 8, 8, 8, 8, 8, 8, 8, 8, 8, 8, 8, 8, 8, 8, 8, 8, 8, 8, 8, 8, 8, 8, 8, 8, 8, 8, 8, 8, 8, 8, 8, 8, 8, 8, 8, 8, 8, 8, 8, 8, 8, 8, 8, 8, 8, 8, 8, 8, 8, 8, 8, 8, 8, 8, 8, 8, 8, 8, 8, 8, 8, 8, 8, 8, 8, 8, 8, 8, 8, 8, 8, 8, 8, 8, 8, 8, 8, 8, 8, 8, 8, 8, 8, 8, 8, 8, 8, 8, 8, 8, 8, 8, 8, 8, 8, 8, 8, 8, 8, 8, 8, 8, 8, 8, 8, 8, 8, 8] }
theorem tab8_size : tab8.size = 256 := by decide +kernel
theorem tab8_all : ∀ i : Fin 256, (tab8.data[i.val]'(by rw [show tab8.data.size = 256 from tab8_size]; exact i.isLt)).toNat = lenN i.val := by decide +kernel
theorem tab8_at (i : Nat) (h : i < 256) (h' : i < tab8.size) : (tab8[i]'h').toNat = lenN i := tab8_all ⟨i, h⟩
theorem lenN_le {i : Nat} (h : i < 256) : lenN i ≤ 8 := by
  have : ∀ i : Fin 256, lenN i.val ≤ 8 := by decide +kernel
  exact this ⟨i, h⟩
theorem len_fin (n : Nat) (c : Int) (y : Int) (h0 : 0 ≤ y) (h1 : y < 256) (hc0 : 0 ≤ c) (hc1 : c ≤ 56) (h : (lenN n : Int) = c + lenN y.toNat) (h' : y.toNat < tab8.size) : wrap64 (c + wrap64 (((tab8[y.toNat]'h').toNat : Nat) : Int)) = (lenN n : Int) := by
  have h2 : y.toNat < 256 := by omega
  rw [tab8_at _ h2 h', h]
  have := lenN_le h2
  unfold wrap64
  omega
theorem len_fin0 (n : Nat) (y : Int) (h0 : 0 ≤ y) (h1 : y < 256) (h : (lenN n : Int) = 0 + lenN y.toNat) (h' : y.toNat < tab8.size) : wrap64 (wrap64 (((tab8[y.toNat]'h').toNat : Nat) : Int)) = (lenN n : Int) := by
  have h2 : y.toNat < 256 := by omega
  rw [tab8_at _ h2 h', h]
  have := lenN_le h2
  unfold wrap64
  omega
theorem lenI_div (x : Int) (h0 : 0 ≤ x) (k : Nat) (h : (2 : Int) ^ k ≤ x) : (lenN x.toNat : Int) = k + lenN (x / 2 ^ k).toNat := by
  obtain ⟨n, rfl⟩ : ∃ n : Nat, x = (n : Int) := ⟨x.toNat, by omega⟩
  have e : ((n : Int) / 2 ^ k).toNat = n / 2 ^ k := by
    have : ((2 : Int) ^ k) = ((2 ^ k : Nat) : Int) := by simp
    rw [this]
    rw [← Int.natCast_ediv]
    rfl
  rw [e]
  have h' : 2 ^ k ≤ n := by
    have : ((2 : Int) ^ k) = ((2 ^ k : Nat) : Int) := by simp
    rw [this] at h
    exact Int.ofNat_le.1 h
  have := lenN_div n k h'
  simp only [Int.toNat_natCast]
  omega
set_option maxRecDepth 20000 in
set_option maxHeartbeats 4000000 in
theorem len_any (x : Int) (h0 : 0 ≤ x) (h1 : x < 18446744073709551616) (w : World) : Calls Try.prog 62 #[.int .u64 x] w fun e w' => e = .returned (.int .i64 (lenN x.toNat : Nat)) ∧ w' = w := by
  have a1 : 4294967296 ≤ x → (lenN x.toNat : Int) = 32 + lenN (x / 4294967296).toNat := fun h => lenI_div x h0 32 (by simpa using h)
  have HA : Hid (∀ z : Int, 0 ≤ z → 65536 ≤ z → (lenN z.toNat : Int) = 16 + lenN (z / 65536).toNat) := (show ∀ z : Int, _ from fun z hz h => lenI_div z hz 16 (by simpa using h))
  have HB : Hid (∀ z : Int, 0 ≤ z → 256 ≤ z → (lenN z.toNat : Int) = 8 + lenN (z / 256).toNat) := (show ∀ z : Int, _ from fun z hz h => lenI_div z hz 8 (by simpa using h))
  have HF : Hid (∀ (c y : Int), 0 ≤ y → y < 256 → 0 ≤ c → c ≤ 56 → (lenN x.toNat : Int) = c + lenN y.toNat → ∀ h' : y.toNat < tab8.size, wrap64 (c + wrap64 (((tab8[y.toNat]'h').toNat : Nat) : Int)) = (lenN x.toNat : Int)) := (show ∀ (c y : Int), _ from fun c y p1 p2 p3 p4 p5 h' => len_fin _ c y p1 p2 p3 p4 p5 h')
  have HG : Hid (∀ (y : Int), 0 ≤ y → y < 256 → (lenN x.toNat : Int) = 0 + lenN y.toNat → ∀ h' : y.toNat < tab8.size, wrap64 (wrap64 (((tab8[y.toNat]'h').toNat : Nat) : Int)) = (lenN x.toNat : Int)) := (show ∀ (y : Int), _ from fun y p1 p2 p5 h' => len_fin0 _ y p1 p2 p5 h')
  obtain ⟨n, hn⟩ : ∃ n, lenN x.toNat = n := ⟨_, rfl⟩
  rw [hn] at a1 HF HG ⊢
  have HN : Hid (lenN x.toNat = n) := hn
  clear hn
  have ret : ∀ {a b : Int}, a = b → Ending.returned (Value.int IntKind.i64 a) = .returned (.int .i64 b) := fun h => by rw [h]
  have HM : Hid ((n : Int) = lenN x.toNat) := (show _ = _ by rw [HN.out])
  by_cases c1 : 4294967296 ≤ x
  · have A1 : Hid ((n : Int) = 32 + lenN (x / 4294967296).toNat) := a1 c1
    clear a1
    by_cases c2 : 65536 ≤ x / 4294967296
    · have A2 : Hid ((lenN (x / 4294967296).toNat : Int) = 16 + lenN (x / 4294967296 / 65536).toNat) := HA.out _ (by omega) c2
      by_cases c3 : 256 ≤ x / 4294967296 / 65536
      · have A3 : Hid ((lenN (x / 4294967296 / 65536).toNat : Int) = 8 + lenN (x / 4294967296 / 65536 / 256).toNat) := HB.out _ (by omega) c3
        go_enter Try.func62, Try.ntmps62
        go_wp2_with fail
        go_ret
        exact ⟨ret (by first | exact HF.out 56 _ (by omega) (by omega) (by omega) (by omega) (by have := HM.out; have := A1.out; have := A2.out; have := A3.out; omega) _ | exact HG.out _ (by omega) (by omega) (by have := HM.out; have := A1.out; have := A2.out; have := A3.out; omega) _), rfl⟩
      · skip
        go_enter Try.func62, Try.ntmps62
        go_wp2_with fail
        go_ret
        exact ⟨ret (by first | exact HF.out 48 _ (by omega) (by omega) (by omega) (by omega) (by have := HM.out; have := A1.out; have := A2.out; omega) _ | exact HG.out _ (by omega) (by omega) (by have := HM.out; have := A1.out; have := A2.out; omega) _), rfl⟩
    · skip
      by_cases c3 : 256 ≤ x / 4294967296
      · have A3 : Hid ((lenN (x / 4294967296).toNat : Int) = 8 + lenN (x / 4294967296 / 256).toNat) := HB.out _ (by omega) c3
        go_enter Try.func62, Try.ntmps62
        go_wp2_with fail
        go_ret
        exact ⟨ret (by first | exact HF.out 40 _ (by omega) (by omega) (by omega) (by omega) (by have := HM.out; have := A1.out; have := A3.out; omega) _ | exact HG.out _ (by omega) (by omega) (by have := HM.out; have := A1.out; have := A3.out; omega) _), rfl⟩
      · skip
        go_enter Try.func62, Try.ntmps62
        go_wp2_with fail
        go_ret
        exact ⟨ret (by first | exact HF.out 32 _ (by omega) (by omega) (by omega) (by omega) (by have := HM.out; have := A1.out; omega) _ | exact HG.out _ (by omega) (by omega) (by have := HM.out; have := A1.out; omega) _), rfl⟩
  · clear a1
    by_cases c2 : 65536 ≤ x
    · have A2 : Hid ((lenN (x).toNat : Int) = 16 + lenN (x / 65536).toNat) := HA.out _ (by omega) c2
      by_cases c3 : 256 ≤ x / 65536
      · have A3 : Hid ((lenN (x / 65536).toNat : Int) = 8 + lenN (x / 65536 / 256).toNat) := HB.out _ (by omega) c3
        go_enter Try.func62, Try.ntmps62
        go_wp2_with fail
        go_ret
        exact ⟨ret (by first | exact HF.out 24 _ (by omega) (by omega) (by omega) (by omega) (by have := HM.out; have := A2.out; have := A3.out; omega) _ | exact HG.out _ (by omega) (by omega) (by have := HM.out; have := A2.out; have := A3.out; omega) _), rfl⟩
      · skip
        go_enter Try.func62, Try.ntmps62
        go_wp2_with fail
        go_ret
        exact ⟨ret (by first | exact HF.out 16 _ (by omega) (by omega) (by omega) (by omega) (by have := HM.out; have := A2.out; omega) _ | exact HG.out _ (by omega) (by omega) (by have := HM.out; have := A2.out; omega) _), rfl⟩
    · skip
      by_cases c3 : 256 ≤ x
      · have A3 : Hid ((lenN (x).toNat : Int) = 8 + lenN (x / 256).toNat) := HB.out _ (by omega) c3
        go_enter Try.func62, Try.ntmps62
        go_wp2_with fail
        go_ret
        exact ⟨ret (by first | exact HF.out 8 _ (by omega) (by omega) (by omega) (by omega) (by have := HM.out; have := A3.out; omega) _ | exact HG.out _ (by omega) (by omega) (by have := HM.out; have := A3.out; omega) _), rfl⟩
      · skip
        go_enter Try.func62, Try.ntmps62
        go_wp2_with fail
        go_ret
        exact ⟨ret (by first | exact HF.out 0 _ (by omega) (by omega) (by omega) (by omega) (by have := HM.out; omega) _ | exact HG.out _ (by omega) (by omega) (by have := HM.out; omega) _), rfl⟩
end Go.Proofs.Ytmobmpghpdaddaa

/-
  The document's Num and named: what they answer, as contracts.
-/
import Derived.Test.YtjmnnjhaiecglaaDoorDec
import Derived.Test.YtjmnnjhaiecglaaDoorRefR
namespace Go.Proofs.YtjmnnjhaiecglaaDoor
open Go.ChangeShapes Go.WideShapes Go.ChangeAt Go.RowKit
set_option linter.unusedSimpArgs false

set_option maxHeartbeats 400000 in
theorem rnum_any (s : ByteArray) (w : World) (hs : s.size ≤ 100000) :
    Calls Tryd.prog 41 #[.string s] w fun x w' => x = .returned (.int .u64 (numOf s.data.toList)) ∧ w' = w := by
  go_enter Tryd.func41, Tryd.ntmps41
  go_wp2
  go_loop [3, 4] (fun n i => ∃ k : Nat, k ≤ s.size ∧ i = .int .i64 k ∧ n = .int .u64 (numOf (s.data.toList.take k))) (fun _ i => s.size - (intOf i).toNat)
  case atStart => exact ⟨0, Nat.zero_le _, rfl, rfl⟩
  case round =>
    obtain ⟨k, hk, rfl, rfl⟩ := hrel
    by_cases hlt : k < s.size
    · have HS : Hid (numOf (s.data.toList.take (k + 1)) = stepN (numOf (s.data.toList.take k)) s[k]) := numOf_take s k hlt
      go_wp2
      go_round
      case rel => exact ⟨k + 1, by omega, by go_num, by rw [HS.out]; rfl⟩
      case measure => simp [intOf]; omega
    · go_wp2
      go_ret
      exact ⟨ret_int (by rw [List.take_of_length_le (by simp; omega)]), rfl⟩


/-- The document's table: field, code. -/
def tb2 : List (Int × Int) := [(1, 0), (2, 2), (3, 6), (4, 5), (5, 11), (6, 12), (7, 10), (8, 13), (9, 14)]
def nameGo : List (Int × Int) → Int → Int
  | [], _ => 0
  | p :: r, c => if c = p.2 ∨ 8 ≤ p.1 ∧ c = p.2 + 2 then p.1 else nameGo r c
theorem name_field (c : Int) : nameGo tb2 c = fieldV c := by
  unfold fieldV tb tb2
  simp only [nameGo, fieldGo]
  by_cases h : 0 ≤ c ∧ c ≤ 16
  · have : c = 0 ∨ c = 1 ∨ c = 2 ∨ c = 3 ∨ c = 4 ∨ c = 5 ∨ c = 6 ∨ c = 7 ∨ c = 8 ∨ c = 9 ∨ c = 10 ∨ c = 11 ∨ c = 12 ∨ c = 13 ∨ c = 14 ∨ c = 15 ∨ c = 16 := by omega
    rcases this with rfl | rfl | rfl | rfl | rfl | rfl | rfl | rfl | rfl | rfl | rfl | rfl | rfl | rfl | rfl | rfl | rfl <;> decide
  · repeat (rw [if_neg (by omega)])
set_option maxRecDepth 20000 in
set_option maxHeartbeats 16000000 in
theorem rnamed_any (c : Int) (w : World) :
    Calls Tryd.prog 42 #[.int .i64 c] w fun e w' => e = .returned (.int .i64 (fieldV c)) ∧ Below w.heap.size w w' := by
  rw [← name_field]
  go_enter Tryd.func42, Tryd.ntmps42
  go_wp2_with fail
  go_loopw [3] (fun i wr => ∃ k : Int, 1 ≤ k ∧ k ≤ 10 ∧ i = .int .i64 k ∧ nameGo tb2 c = nameGo (tb2.drop (k - 1).toNat) c ∧ Below w.heap.size w wr) (fun i _ => 10 - (intOf i).toNat)
  case atStart => exact ⟨1, by omega, by omega, rfl, rfl, Below.refl _ _⟩
  case round =>
    obtain ⟨k, hk0, hk, rfl, hr, hbel⟩ := hrel
    have hcl : k = 1 ∨ k = 2 ∨ k = 3 ∨ k = 4 ∨ k = 5 ∨ k = 6 ∨ k = 7 ∨ k = 8 ∨ k = 9 ∨ k = 10 := by omega
    rcases hcl with rfl | rfl | rfl | rfl | rfl | rfl | rfl | rfl | rfl | rfl
    · have hr' : nameGo tb2 c = if c = 0 ∨ (8 : Int) ≤ 1 ∧ c = 0 + 2 then 1 else nameGo (tb2.drop 1) c := hr
      cases hf : (c == 0)
      · have hne : ¬ c = 0 := by simpa using hf
        have HR : Hid (nameGo tb2 c = nameGo (tb2.drop 1) c) := (show _ = _ by rw [hr', if_neg (by omega)])
        clear hr hr' hne
        go_wp2_with fail
        go_roundw
        case rel => exact ⟨2, by omega, by omega, by go_num, HR.out, hbel.alloc hbel.size _⟩
        case measure => simp [intOf]
      · have hne : c = 0 := by simpa using hf
        have HR : Hid (nameGo tb2 c = 1) := (show _ = _ by rw [hr', if_pos (by omega)])
        clear hr hr' hne
        go_wp2_with fail
        go_ret
        exact ⟨by rw [HR.out]; rfl, hbel.alloc hbel.size _⟩
    · have hr' : nameGo tb2 c = if c = 2 ∨ (8 : Int) ≤ 2 ∧ c = 2 + 2 then 2 else nameGo (tb2.drop 2) c := hr
      cases hf : (c == 2)
      · have hne : ¬ c = 2 := by simpa using hf
        have HR : Hid (nameGo tb2 c = nameGo (tb2.drop 2) c) := (show _ = _ by rw [hr', if_neg (by omega)])
        clear hr hr' hne
        go_wp2_with fail
        go_roundw
        case rel => exact ⟨3, by omega, by omega, by go_num, HR.out, hbel.alloc hbel.size _⟩
        case measure => simp [intOf]
      · have hne : c = 2 := by simpa using hf
        have HR : Hid (nameGo tb2 c = 2) := (show _ = _ by rw [hr', if_pos (by omega)])
        clear hr hr' hne
        go_wp2_with fail
        go_ret
        exact ⟨by rw [HR.out]; rfl, hbel.alloc hbel.size _⟩
    · have hr' : nameGo tb2 c = if c = 6 ∨ (8 : Int) ≤ 3 ∧ c = 6 + 2 then 3 else nameGo (tb2.drop 3) c := hr
      cases hf : (c == 6)
      · have hne : ¬ c = 6 := by simpa using hf
        have HR : Hid (nameGo tb2 c = nameGo (tb2.drop 3) c) := (show _ = _ by rw [hr', if_neg (by omega)])
        clear hr hr' hne
        go_wp2_with fail
        go_roundw
        case rel => exact ⟨4, by omega, by omega, by go_num, HR.out, hbel.alloc hbel.size _⟩
        case measure => simp [intOf]
      · have hne : c = 6 := by simpa using hf
        have HR : Hid (nameGo tb2 c = 3) := (show _ = _ by rw [hr', if_pos (by omega)])
        clear hr hr' hne
        go_wp2_with fail
        go_ret
        exact ⟨by rw [HR.out]; rfl, hbel.alloc hbel.size _⟩
    · have hr' : nameGo tb2 c = if c = 5 ∨ (8 : Int) ≤ 4 ∧ c = 5 + 2 then 4 else nameGo (tb2.drop 4) c := hr
      cases hf : (c == 5)
      · have hne : ¬ c = 5 := by simpa using hf
        have HR : Hid (nameGo tb2 c = nameGo (tb2.drop 4) c) := (show _ = _ by rw [hr', if_neg (by omega)])
        clear hr hr' hne
        go_wp2_with fail
        go_roundw
        case rel => exact ⟨5, by omega, by omega, by go_num, HR.out, hbel.alloc hbel.size _⟩
        case measure => simp [intOf]
      · have hne : c = 5 := by simpa using hf
        have HR : Hid (nameGo tb2 c = 4) := (show _ = _ by rw [hr', if_pos (by omega)])
        clear hr hr' hne
        go_wp2_with fail
        go_ret
        exact ⟨by rw [HR.out]; rfl, hbel.alloc hbel.size _⟩
    · have hr' : nameGo tb2 c = if c = 11 ∨ (8 : Int) ≤ 5 ∧ c = 11 + 2 then 5 else nameGo (tb2.drop 5) c := hr
      cases hf : (c == 11)
      · have hne : ¬ c = 11 := by simpa using hf
        have HR : Hid (nameGo tb2 c = nameGo (tb2.drop 5) c) := (show _ = _ by rw [hr', if_neg (by omega)])
        clear hr hr' hne
        go_wp2_with fail
        go_roundw
        case rel => exact ⟨6, by omega, by omega, by go_num, HR.out, hbel.alloc hbel.size _⟩
        case measure => simp [intOf]
      · have hne : c = 11 := by simpa using hf
        have HR : Hid (nameGo tb2 c = 5) := (show _ = _ by rw [hr', if_pos (by omega)])
        clear hr hr' hne
        go_wp2_with fail
        go_ret
        exact ⟨by rw [HR.out]; rfl, hbel.alloc hbel.size _⟩
    · have hr' : nameGo tb2 c = if c = 12 ∨ (8 : Int) ≤ 6 ∧ c = 12 + 2 then 6 else nameGo (tb2.drop 6) c := hr
      cases hf : (c == 12)
      · have hne : ¬ c = 12 := by simpa using hf
        have HR : Hid (nameGo tb2 c = nameGo (tb2.drop 6) c) := (show _ = _ by rw [hr', if_neg (by omega)])
        clear hr hr' hne
        go_wp2_with fail
        go_roundw
        case rel => exact ⟨7, by omega, by omega, by go_num, HR.out, hbel.alloc hbel.size _⟩
        case measure => simp [intOf]
      · have hne : c = 12 := by simpa using hf
        have HR : Hid (nameGo tb2 c = 6) := (show _ = _ by rw [hr', if_pos (by omega)])
        clear hr hr' hne
        go_wp2_with fail
        go_ret
        exact ⟨by rw [HR.out]; rfl, hbel.alloc hbel.size _⟩
    · have hr' : nameGo tb2 c = if c = 10 ∨ (8 : Int) ≤ 7 ∧ c = 10 + 2 then 7 else nameGo (tb2.drop 7) c := hr
      cases hf : (c == 10)
      · have hne : ¬ c = 10 := by simpa using hf
        have HR : Hid (nameGo tb2 c = nameGo (tb2.drop 7) c) := (show _ = _ by rw [hr', if_neg (by omega)])
        clear hr hr' hne
        go_wp2_with fail
        go_roundw
        case rel => exact ⟨8, by omega, by omega, by go_num, HR.out, hbel.alloc hbel.size _⟩
        case measure => simp [intOf]
      · have hne : c = 10 := by simpa using hf
        have HR : Hid (nameGo tb2 c = 7) := (show _ = _ by rw [hr', if_pos (by omega)])
        clear hr hr' hne
        go_wp2_with fail
        go_ret
        exact ⟨by rw [HR.out]; rfl, hbel.alloc hbel.size _⟩
    · have hr' : nameGo tb2 c = if c = 13 ∨ (8 : Int) ≤ 8 ∧ c = 13 + 2 then 8 else nameGo (tb2.drop 8) c := hr
      cases hf : (c == 13)
      · have hne : ¬ c = 13 := by simpa using hf
        cases hf2 : (c == 15)
        · have hne2 : ¬ c = 15 := by simpa using hf2
          have HR : Hid (nameGo tb2 c = nameGo (tb2.drop 8) c) := (show _ = _ by rw [hr', if_neg (by omega)])
          clear hr hr' hne hne2
          go_wp2_with fail
          go_roundw
          case rel => exact ⟨9, by omega, by omega, by go_num, HR.out, hbel.alloc hbel.size _⟩
          case measure => simp [intOf]
        · have hne2 : c = 15 := by simpa using hf2
          have HR : Hid (nameGo tb2 c = 8) := (show _ = _ by rw [hr', if_pos (by omega)])
          clear hr hr' hne hne2
          go_wp2_with fail
          go_ret
          exact ⟨by rw [HR.out]; rfl, hbel.alloc hbel.size _⟩
      · have hne : c = 13 := by simpa using hf
        have HR : Hid (nameGo tb2 c = 8) := (show _ = _ by rw [hr', if_pos (by omega)])
        clear hr hr' hne
        go_wp2_with fail
        go_ret
        exact ⟨by rw [HR.out]; rfl, hbel.alloc hbel.size _⟩
    · have hr' : nameGo tb2 c = if c = 14 ∨ (8 : Int) ≤ 9 ∧ c = 14 + 2 then 9 else nameGo (tb2.drop 9) c := hr
      cases hf : (c == 14)
      · have hne : ¬ c = 14 := by simpa using hf
        cases hf2 : (c == 16)
        · have hne2 : ¬ c = 16 := by simpa using hf2
          have HR : Hid (nameGo tb2 c = nameGo (tb2.drop 9) c) := (show _ = _ by rw [hr', if_neg (by omega)])
          clear hr hr' hne hne2
          go_wp2_with fail
          go_roundw
          case rel => exact ⟨10, by omega, by omega, by go_num, HR.out, hbel.alloc hbel.size _⟩
          case measure => simp [intOf]
        · have hne2 : c = 16 := by simpa using hf2
          have HR : Hid (nameGo tb2 c = 9) := (show _ = _ by rw [hr', if_pos (by omega)])
          clear hr hr' hne hne2
          go_wp2_with fail
          go_ret
          exact ⟨by rw [HR.out]; rfl, hbel.alloc hbel.size _⟩
      · have hne : c = 14 := by simpa using hf
        have HR : Hid (nameGo tb2 c = 9) := (show _ = _ by rw [hr', if_pos (by omega)])
        clear hr hr' hne
        go_wp2_with fail
        go_ret
        exact ⟨by rw [HR.out]; rfl, hbel.alloc hbel.size _⟩
    · have e : nameGo tb2 c = 0 := hr
      go_wp2_with fail
      go_ret
      exact ⟨by rw [e]; rfl, hbel⟩
end Go.Proofs.YtjmnnjhaiecglaaDoor

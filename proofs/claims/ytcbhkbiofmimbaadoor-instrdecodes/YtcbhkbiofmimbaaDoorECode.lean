/-
  The bytes of what an entry does: the plain mathematics, and what put, actions, has, body, write and Encode answer, as contracts.
-/
import Derived.Test.YtcbhkbiofmimbaaDoorEn
namespace Go.Proofs.YtcbhkbiofmimbaaDoor
open Go.ChangeShapes Go.WideShapes Go.ChangeAt Go.RowKit

/-- Whether there is something of a part, its bytes behind the head, and all of them. -/
def hasX (p : Int) (s : Sp) : Bool :=
  if p = 6 then s.met != 0 else if p = 4 then decide (0 < s.la.length) else if p = 5 then s.clr else if p = 3 then decide (0 < s.lw.length) else if p = 2 then s.mm != 0 else if p = 1 then s.go != 0 else false
def gap4 : ByteArray := ⟨#[0, 0, 0, 0]⟩
def gap3 : ByteArray := ⟨#[0, 0, 0]⟩
def bodyX (p : Int) (s : Sp) : ByteArray :=
  if p = 6 then pb s.met 4 else if p = 4 then gap4 ++ encodeS s.la else if p = 5 then gap4 else if p = 3 then gap4 ++ encodeS s.lw else if p = 2 then gap4 ++ pb s.mt 8 ++ pb s.mm 8 else if p = 1 then pb s.go 1 ++ gap3 else ⟨#[]⟩
def partX (p : Int) (s : Sp) : ByteArray := if hasX p s = true then pb p 2 ++ pb (4 + ((bodyX p s).size : Int)) 2 ++ bodyX p s else ⟨#[]⟩
/-- The numbers fit into their bytes. -/
structure SOk (s : Sp) : Prop where
  m0 : 0 ≤ s.met
  m1 : s.met < 4294967296
  g0 : 0 ≤ s.go
  g1 : s.go < 256
  t0 : 0 ≤ s.mt
  t1 : s.mt < 18446744073709551616
  k0 : 0 ≤ s.mm
  k1 : s.mm < 18446744073709551616
theorem part_cases (p : Int) : p = 6 ∨ p = 4 ∨ p = 5 ∨ p = 3 ∨ p = 2 ∨ p = 1 ∨ ((p == 6) = false ∧ (p == 4) = false ∧ (p == 5) = false ∧ (p == 3) = false ∧ (p == 2) = false ∧ (p == 1) = false ∧ ∀ s, hasX p s = false) := by
  by_cases h1 : p = 6
  · exact .inl h1
  by_cases h2 : p = 4
  · exact .inr (.inl h2)
  by_cases h3 : p = 5
  · exact .inr (.inr (.inl h3))
  by_cases h4 : p = 3
  · exact .inr (.inr (.inr (.inl h4)))
  by_cases h5 : p = 2
  · exact .inr (.inr (.inr (.inr (.inl h5))))
  by_cases h6 : p = 1
  · exact .inr (.inr (.inr (.inr (.inr (.inl h6)))))
  refine .inr (.inr (.inr (.inr (.inr (.inr ⟨by simpa using h1, by simpa using h2, by simpa using h3, by simpa using h4, by simpa using h5, by simpa using h6, fun s => ?_⟩)))))
  unfold hasX
  rw [if_neg h1, if_neg h2, if_neg h3, if_neg h4, if_neg h5, if_neg h6]
theorem enc_long (l : List A) : (encodeS l).size ≤ 1000 := by
  unfold encodeS
  split
  · next h =>
    have hall : allB l = true := by
      unfold encodeE at h
      split at h
      · assumption
      · cases h
    have h32 : l.length ≤ 32 := by
      unfold encodeE at h
      rw [hall] at h
      simp at h
      omega
    have : ∀ m : List A, allB m = true → (encL m).size ≤ 16 * m.length := fun m => by
      induction m with
      | nil => intro _; simp [encL, ByteArray.size]
      | cons x t ih =>
        intro hm
        unfold allB at hm
        rw [List.all_cons, Bool.and_eq_true] at hm
        have h1 := write_size hm.1
        have h2 := ih hm.2
        show (writeV x ++ encL t).size ≤ _
        rw [ByteArray.size_append, List.length_cons]
        omega
    have := this l hall
    omega
  · exact Nat.zero_le _
theorem body_size (p : Int) (s : Sp) : (bodyX p s).size ≤ 1004 := by
  have h1 := enc_long s.la
  have h2 := enc_long s.lw
  have p1 := pb_size
  have z4 : gap4.size = 4 := rfl
  have z3 : gap3.size = 3 := rfl
  have z0 : (⟨#[]⟩ : ByteArray).size = 0 := rfl
  unfold bodyX
  (repeat' split) <;> simp only [ByteArray.size_append, p1, z4, z3, z0] <;> omega
theorem iput1 (n : Int) (w : World) (h0 : 0 ≤ n) (h1 : n < 256) : Calls Tryd.prog 34 #[.int .u64 n, .int .i64 1] w fun e w' => e = .returned (.string (pb n 1)) ∧ Below w.heap.size w w' := by
  go_enter Tryd.func34, Tryd.ntmps34
  go_wp2_with fail
  refine (put_1 n _ h0 h1).mono ?_
  rintro x w1 ⟨rfl, g⟩
  go_wp2_with fail
  go_ret
  exact ⟨rfl, g⟩
theorem iput2 (n : Int) (w : World) (h0 : 0 ≤ n) (h1 : n < 65536) : Calls Tryd.prog 34 #[.int .u64 n, .int .i64 2] w fun e w' => e = .returned (.string (pb n 2)) ∧ Below w.heap.size w w' := by
  go_enter Tryd.func34, Tryd.ntmps34
  go_wp2_with fail
  refine (put_2 n _ h0 h1).mono ?_
  rintro x w1 ⟨rfl, g⟩
  go_wp2_with fail
  go_ret
  exact ⟨rfl, g⟩
theorem iput4 (n : Int) (w : World) (h0 : 0 ≤ n) (h1 : n < 4294967296) : Calls Tryd.prog 34 #[.int .u64 n, .int .i64 4] w fun e w' => e = .returned (.string (pb n 4)) ∧ Below w.heap.size w w' := by
  go_enter Tryd.func34, Tryd.ntmps34
  go_wp2_with fail
  refine (put_4 n _ h0 h1).mono ?_
  rintro x w1 ⟨rfl, g⟩
  go_wp2_with fail
  go_ret
  exact ⟨rfl, g⟩
theorem iput8 (n : Int) (w : World) (h0 : 0 ≤ n) (h1 : n < 18446744073709551616) : Calls Tryd.prog 34 #[.int .u64 n, .int .i64 8] w fun e w' => e = .returned (.string (pb n 8)) ∧ Below w.heap.size w w' := by
  go_enter Tryd.func34, Tryd.ntmps34
  go_wp2_with fail
  refine (put_8 n _ h0 h1).mono ?_
  rintro x w1 ⟨rfl, g⟩
  go_wp2_with fail
  go_ret
  exact ⟨rfl, g⟩
theorem actions_any (a : Option Addr) (l : List A) (cap : Nat) (w : World) (h : Ts w a l) (hl : l.length ≤ 1000) (hd : Cd w) : Calls Tryd.prog 47 #[.slice a l.length cap] w fun e w' => e = .returned (.string (encodeS l)) ∧ Below w.heap.size w w' := by
  have HE : Hid (Calls Tryd.prog 18 #[.slice a l.length cap] w fun e w' => e = .returned (.tuple #[.string (encodeS l), .int .i64 (encodeE l)]) ∧ Below w.heap.size w w') := encode_any a l cap w h hl hd
  clear h hd
  generalize encodeS l = S at *
  generalize encodeE l = E at *
  go_enter Tryd.func47, Tryd.ntmps47
  go_wp2_with fail
  refine HE.out.mono ?_
  rintro x w1 ⟨rfl, g⟩
  go_wp2_with fail
  go_ret
  exact ⟨rfl, g⟩
set_option maxHeartbeats 2000000 in
theorem hasX_any (p : Int) (x : En) (w : World) : Calls Tryd.prog 32 #[.int .i64 p, enV x] w fun e w' => e = .returned (.bool (hasX p x.sp)) ∧ Below w.heap.size w w' := by
  rcases part_cases p with rfl | rfl | rfl | rfl | rfl | rfl | ⟨b1, b2, b3, b4, b5, b6, hn⟩
  · rw [show hasX 6 x.sp = (x.met != 0) from rfl]
    go_enter Tryd.func32, Tryd.ntmps32
    go_wp2_with fail
    go_ret
    exact ⟨rfl, by go_grown⟩
  · rw [show hasX 4 x.sp = decide (0 < x.la.length) from rfl]
    go_enter Tryd.func32, Tryd.ntmps32
    go_wp2_with fail
    go_ret
    exact ⟨rfl, by go_grown⟩
  · rw [show hasX 5 x.sp = x.clr from rfl]
    go_enter Tryd.func32, Tryd.ntmps32
    go_wp2_with fail
    go_ret
    exact ⟨rfl, by go_grown⟩
  · rw [show hasX 3 x.sp = decide (0 < x.lw.length) from rfl]
    go_enter Tryd.func32, Tryd.ntmps32
    go_wp2_with fail
    go_ret
    exact ⟨rfl, by go_grown⟩
  · rw [show hasX 2 x.sp = (x.mm != 0) from rfl]
    go_enter Tryd.func32, Tryd.ntmps32
    go_wp2_with fail
    go_ret
    exact ⟨rfl, by go_grown⟩
  · rw [show hasX 1 x.sp = (x.go != 0) from rfl]
    go_enter Tryd.func32, Tryd.ntmps32
    go_wp2_with fail
    go_ret
    exact ⟨rfl, by go_grown⟩
  · rw [hn]
    clear hn
    go_enter Tryd.func32, Tryd.ntmps32
    go_wp2_with fail
    go_ret
    exact ⟨rfl, by go_grown⟩
end Go.Proofs.YtcbhkbiofmimbaaDoor

/-
  The document's Right, code, size and bytes: what they answer, as contracts.
-/
import Derived.Test.YtjjfhibkcngphaaGreatDoorRefE
import Derived.Test.YtjjfhibkcngphaaGreatDoorRight
import Derived.Deep.RegionHeld
namespace Go.Proofs.YtjjfhibkcngphaaGreatDoor
open Go.ChangeShapes Go.WideShapes Go.ChangeAt Go.RowKit
set_option linter.unusedSimpArgs false

/-- A world that was grown out of another one, in which an action's block stands. -/
abbrev SW (W : World) (b : Nat) (t : A) (w : World) : Prop := (w.cell? ⟨b, 0, none⟩ = some (.int .i64 t.1) ∧ w.cell? ⟨b, 1, none⟩ = some (.int .i64 t.2.1) ∧ w.cell? ⟨b, 2, none⟩ = some (.int .u64 t.2.2)) ∧ Below W.heap.size W w
theorem SW.of {W : World} {b : Nat} {t : A} (h : C3 W b 0 t) (hb : b < W.heap.size) {w : World} (g : Below W.heap.size W w) : SW W b t w := ⟨C3.below h hb g, g⟩
theorem SW.drew {W : World} {b : Nat} {t : A} (h : C3 W b 0 t) (hb : b < W.heap.size) : SW W b t W.drew := SW.of h hb (Below.refl _ W).drew
theorem SW.alloc {W : World} {b : Nat} {t : A} (hb : b < W.heap.size) {w : World} (s : SW W b t w) (o : Obj) : SW W b t (w.alloc o) := by
  obtain ⟨c, g⟩ := s
  exact ⟨C3.below (t := t) (o := 0) c (Nat.lt_of_lt_of_le hb g.size) (show Below w.heap.size w (w.alloc o) by go_grown), btr g (by go_grown) (Nat.le_refl _)⟩
theorem SW.call {W : World} {b : Nat} {t : A} (hb : b < W.heap.size) {w w' : World} (s : SW W b t w) (k : Below w.heap.size w w') : SW W b t w' := by
  obtain ⟨c, g⟩ := s
  exact ⟨C3.below (t := t) (o := 0) c (Nat.lt_of_lt_of_le hb g.size) k, btr g k (Nat.le_refl _)⟩
/-- Two cells that were made. -/
structure Two (w : World) (n : Nat) (a b : Value) : Prop where
  l : n < w.heap.size
  c0 : w.cell? ⟨n, 0, none⟩ = some a
  c1 : w.cell? ⟨n, 1, none⟩ = some b
theorem Two.new (X : World) (a b : Value) : Two (X.alloc (.cells #[a, b] 5)) X.heap.size a b := ⟨by simp, by simp, by simp⟩
theorem Two.keep {w w' : World} {n : Nat} {a b : Value} (h : Two w n a b) (g : Below w.heap.size w w') : Two w' n a b :=
  ⟨Nat.lt_of_lt_of_le h.l g.size, (g.cell (p := ⟨n, 0, none⟩) h.l).trans h.c0, (g.cell (p := ⟨n, 1, none⟩) h.l).trans h.c1⟩
theorem cvTwo (w : World) (n : Nat) (x y : Int) (h : Two w n (.int .u8 x) (.int .u8 y)) : (convert 111 9 (.slice (some ⟨n, 0, none⟩) 2 2)).run Tryz.prog w = .ok (.string (strOfNums [x, y])) w := by
  refine run_convert_bytes_arg w 111 5 Tryz.underlying111 Tryz.underlying5 n 0 2 2 [x, y] rfl (fun i hi => ?_) 9 Tryz.underlying9
  match i, hi with
  | 0, _ => simpa using h.c0
  | 1, _ => simpa using h.c1
theorem pb1 (n : Int) (h0 : 0 ≤ n) (h1 : n < 256) : pb n 1 = strOfNums [n] := by
  unfold pb
  simp only [pieces, List.nil_append]
  rw [Int.emod_eq_of_lt h0 h1]
theorem str_two (a b : Int) : strOfNums [a, b] = strOfNums [a] ++ strOfNums [b] := by apply ba_ext; simp [strOfNums]
theorem pb_class : pb 32768 2 = ⟨#[128, 0]⟩ := by decide +kernel
theorem cat (a b : ByteArray) (x y : Nat) (ha : a.size ≤ x) (hb : b.size ≤ y) (h : x + y ≤ 9223372036854775807) (w : World) : (Op.stringOp .add a b).run Tryz.prog w = .ok (.string (a ++ b)) w := run_string_add_sum w a b (by omega)
theorem cat_sz (a b : ByteArray) (x y : Nat) (ha : a.size ≤ x) (hb : b.size ≤ y) : (a ++ b).size ≤ x + y := by rw [ByteArray.size_append]; omega
set_option maxHeartbeats 1000000 in
theorem rcode_any (f : Int) (w : World) : Calls Tryz.prog 86 #[.int .i64 f] w fun e w' => e = .returned (.int .i64 (codeV f)) ∧ w' = w := by
  rcases code_cases f with rfl | rfl | rfl | rfl | rfl | ⟨b1, b2, b3, b4, b5, hc⟩
  case inr.inr.inr.inr.inr =>
    rw [hc]
    have d1 : (f == 3) = false := by simp at b1 ⊢; omega
    have d2 : (f == 5) = false := by simp at b2 ⊢; omega
    have d3 : (f == 6) = false := by simp at b3 ⊢; omega
    have d4 : (f == 8) = false := by simp at b4 ⊢; omega
    have d5 : (f == 9) = false := by simp at b5 ⊢; omega
    clear b1 b2 b3 b4 b5 hc
    go_enter Tryz.func86, Tryz.ntmps86
    go_wp2
    go_ret
    exact ⟨rfl, rfl⟩
  all_goals
    go_enter Tryz.func86, Tryz.ntmps86
    go_wp2
    go_ret
    exact ⟨rfl, rfl⟩
def rszV (f : Int) : Nat := if f = 5 ∨ f = 6 then 4 else 2
set_option maxHeartbeats 1000000 in
theorem rsize_any (f : Int) (w : World) : Calls Tryz.prog 87 #[.int .i64 f] w fun e w' => e = .returned (.int .i64 (rszV f)) ∧ w' = w := by
  unfold rszV
  cases h5 : (f == 5) with
  | true =>
    have e : f = 5 := by simpa using h5
    rw [if_pos (.inl e)]
    clear e
    go_enter Tryz.func87, Tryz.ntmps87
    go_wp2
    go_ret
    exact ⟨rfl, rfl⟩
  | false =>
    cases h6 : (f == 6) with
    | true =>
      have e : f = 6 := by simpa using h6
      rw [if_pos (.inr e)]
      clear e
      go_enter Tryz.func87, Tryz.ntmps87
      go_wp2
      go_ret
      exact ⟨rfl, rfl⟩
    | false =>
      have e5 : ¬ f = 5 := by simpa using h5
      have e6 : ¬ f = 6 := by simpa using h6
      rw [if_neg (by omega)]
      clear e5 e6
      go_enter Tryz.func87, Tryz.ntmps87
      go_wp2
      go_ret
      exact ⟨rfl, rfl⟩
theorem balloc {a w : World} (h : Below a.heap.size a w) (o : Obj) : Below a.heap.size a (w.alloc o) := h.alloc h.size o
theorem cvZ (k : Nat) (w : World) : (convert 111 9 (.slice (some ⟨w.heap.size, 0, none⟩) k k)).run Tryz.prog (w.alloc (.cells (List.replicate k (Value.int .u8 0)).toArray 5)) = .ok (.string (zeros k)) (w.alloc (.cells (List.replicate k (Value.int .u8 0)).toArray 5)) := by
  have := cvAny k (List.replicate k 0) (by simp) w
  have e : strOfNums (List.replicate k 0) = zeros k := by
    apply ba_ext
    simp [strOfNums, zeros]
  rw [List.map_replicate, e] at this
  exact this
set_option maxRecDepth 20000 in
set_option maxHeartbeats 16000000 in
theorem rbytes_set (f v : Int) (c : Int) (n k : Nat) (w : World) (hc : codeV f = c) (hc0 : 0 ≤ c) (hc1 : c ≤ 14) (hn : rszV f = n) (hnk : n + k = 8) (hn1 : 1 ≤ n) (hv0 : 0 ≤ v) (hv1 : v < 18446744073709551616) :
    Calls Tryz.prog 77 #[tV (5, f, v)] w fun e w' => e = .returned (.string (⟨#[0, 25, 0, 16, 128, 0]⟩ ++ strOfNums [2 * c, (n : Int)] ++ pb v n ++ zeros k)) ∧ Below w.heap.size w w' := by
  have HC : Hid (∀ w, Calls Tryz.prog 86 #[.int .i64 f] w fun e w' => e = .returned (.int .i64 c) ∧ Below w.heap.size w w') := (show ∀ w, _ from fun w => hc ▸ (rcode_any f w).mono fun _ _ ⟨a, b⟩ => ⟨a, b ▸ Below.refl _ _⟩)
  have HS : Hid (∀ w, Calls Tryz.prog 87 #[.int .i64 f] w fun e w' => e = .returned (.int .i64 n) ∧ Below w.heap.size w w') := (show ∀ w, _ from fun w => hn ▸ (rsize_any f w).mono fun _ _ ⟨a, b⟩ => ⟨a, b ▸ Below.refl _ _⟩)
  have HP : Hid (∀ w, Calls Tryz.prog 85 #[.int .u64 v, .int .i64 n] w fun e w' => e = .returned (.string (pb v n)) ∧ Below w.heap.size w w') := (show ∀ w, _ from fun w => rput_any v n w hn1 (by omega) hv0 hv1)
  have hw1 : IntKind.i64.wrap (2 * c) = 2 * c := by rw [IntKind.wrap_i64]; omega
  have hw2 : IntKind.u8.wrap (2 * c) = 2 * c := by rw [IntKind.wrap_u8]; omega
  have hw3 : IntKind.u8.wrap (n : Int) = (n : Int) := by rw [IntKind.wrap_u8]; omega
  have hcv := cv2
  have z1 : (strOfNums [2 * c, (n : Int)]).size = 2 := by rw [strOfNums_size]; simp
  have z0 : (⟨#[0, 25, 0, 16, 128, 0]⟩ : ByteArray).size = 6 := rfl
  have z2 : ((⟨#[0, 25, 0, 16, 128, 0]⟩ : ByteArray) ++ strOfNums [2 * c, (n : Int)]).size ≤ 8 := cat_sz _ _ 6 2 (by omega) (by omega)
  have z3 : (pb v n).size = n := pb_size _ _
  have e1 : ∀ w, (Op.stringOp .add ⟨#[0, 25, 0, 16, 128, 0]⟩ (strOfNums [2 * c, (n : Int)])).run Tryz.prog w = .ok (.string (⟨#[0, 25, 0, 16, 128, 0]⟩ ++ strOfNums [2 * c, (n : Int)])) w := cat _ _ 6 2 (by omega) (by omega) (by decide)
  have e2 : ∀ w, (Op.stringOp .add (⟨#[0, 25, 0, 16, 128, 0]⟩ ++ strOfNums [2 * c, (n : Int)]) (pb v n)).run Tryz.prog w = .ok (.string (⟨#[0, 25, 0, 16, 128, 0]⟩ ++ strOfNums [2 * c, (n : Int)] ++ pb v n)) w := cat _ _ 8 8 z2 (by omega) (by decide)
  have HZ : Hid ((⟨#[0, 25, 0, 16, 128, 0]⟩ ++ strOfNums [2 * c, (n : Int)] ++ pb v n).size + k = 16) := (show _ = _ by rw [ByteArray.size_append, ByteArray.size_append, z0, z1, z3]; omega)
  have k2 := C3.new w (5, f, v)
  have s2 : w.heap.size < (tx w (5, f, v)).heap.size := by simp
  have hSB : Hid (∀ X, SW (tx w (5, f, v)) w.heap.size (5, f, v) X → Below w.heap.size w X) := (show ∀ X, _ from fun X q => btr (by go_grown) q.2 (by simp))
  have hm := fun w => mkAny k w (by omega)
  have hcz := cvZ k
  simp only [List.toArray_replicate] at hcz hm
  have hcz1 : ∀ (w : World) (o : Obj), (convert 111 9 (.slice (some ⟨w.heap.size + 1, 0, none⟩) k k)).run Tryz.prog ((w.alloc o).alloc (.cells (Array.replicate k (Value.int .u8 0)) 5)) = .ok (.string (zeros k)) ((w.alloc o).alloc (.cells (Array.replicate k (Value.int .u8 0)) 5)) := fun w o => by have := hcz (w.alloc o); simpa using this
  clear hc hn z0 z1 z2 z3
  go_enter Tryz.func77, Tryz.ntmps77
  go_wp2_with fail
  go_region_held (SW (tx w (5, f, v)) w.heap.size (5, f, v)) (first | exact SW.drew k2 s2 | exact SW.alloc s2 (by assumption) _ | exact SW.call s2 (by assumption) (by assumption) | assumption)
    (first | (go_at_call 86; refine (HC.out _).mono ?_; rintro x w' ⟨rfl, gX⟩; first | (have tw := Two.keep (by assumption) gX; have ce := cvTwo _ _ _ _ tw) | (have tw := Two.keep (Two.new _ _ _) gX; have ce := cvTwo _ _ _ _ tw) | skip) | (go_at_call 87; refine (HS.out _).mono ?_; rintro x w' ⟨rfl, gX⟩; first | (have tw := Two.keep (by assumption) gX; have ce := cvTwo _ _ _ _ tw) | (have tw := Two.keep (Two.new _ _ _) gX; have ce := cvTwo _ _ _ _ tw) | skip) | (go_at_call 85; refine (HP.out _).mono ?_; rintro x w' ⟨rfl, gX⟩; first | (have tw := Two.keep (by assumption) gX; have ce := cvTwo _ _ _ _ tw) | (have tw := Two.keep (Two.new _ _ _) gX; have ce := cvTwo _ _ _ _ tw) | skip))
  all_goals
    obtain ⟨S, hS⟩ : ∃ S, (⟨#[0, 25, 0, 16, 128, 0]⟩ : ByteArray) ++ strOfNums [2 * c, (n : Int)] ++ pb v n = S := ⟨_, rfl⟩
    rw [hS] at HZ ⊢
    have hSz := HZ.out
    have hSk : (16 : Int) - (S.size : Int) = (k : Int) := by omega
    have HSE : Hid ((⟨#[0, 25, 0, 16, 128, 0]⟩ : ByteArray) ++ strOfNums [2 * c, (n : Int)] ++ pb v n = S) := hS
    have hzs := zeros_size k
    clear hS HZ
    go_wp2_with fail
    first
      | (go_ret; exact ⟨by rw [HSE.out]; rfl, balloc (hSB.out _ (by assumption)) _⟩)
      | (go_ret; exact ⟨by rw [HSE.out]; rfl, balloc (balloc (hSB.out _ (by assumption)) _) _⟩)
theorem pb_cut (n : Int) (h0 : 0 ≤ n) (h1 : n < 256) (m : Int) (g0 : 0 ≤ m) (g1 : m < 256) : strOfNums [n, m] = pb n 1 ++ pb m 1 := by rw [pb1 n h0 h1, pb1 m g0 g1, str_two]
set_option maxHeartbeats 2000000 in
theorem rbytes_any (a : A) (w : World) (h : rightB a = true) (hw : AW a) : Calls Tryz.prog 77 #[tV a] w fun e w' => e = .returned (.string (writeV a)) ∧ Below w.heap.size w w' := by
  have hp := pb_size
  rcases right_cases h with ⟨h1, h2, h3, h4⟩ | ⟨h1, h2, h3, h4⟩ | ⟨h1, h2, h3⟩ | ⟨h1, h2, h3⟩ | ⟨h1, h2, h3, h4⟩
  · obtain ⟨k, f, v⟩ := a
    simp only at h1 h2 h3 h4
    subst h1
    have e : writeV (1, f, v) = ⟨#[0, 0, 0, 16]⟩ ++ pb v 4 ++ ⟨#[255, 255, 0, 0, 0, 0, 0, 0]⟩ := by
      have e1 : writeV (1, f, v) = pb 0 2 ++ pb 16 2 ++ (pb v 4 ++ pb 65535 2) ++ zeros 6 := by simp [writeV, bodyV, knV, ksV, ByteArray.size_append, hp]
      have e2 : pb 0 2 ++ pb 16 2 = ⟨#[0, 0, 0, 16]⟩ := by decide +kernel
      have e3 : pb 65535 2 ++ zeros 6 = ⟨#[255, 255, 0, 0, 0, 0, 0, 0]⟩ := by decide +kernel
      rw [e1, e2, ← e3]
      simp only [ap_assoc]
    have HP : Hid (∀ w, Calls Tryz.prog 85 #[.int .u64 v, .int .i64 4] w fun e w' => e = .returned (.string (pb v 4)) ∧ Below w.heap.size w w') := (show ∀ w, _ from fun w => rput_any v 4 w (by omega) (by omega) hw.v0 hw.v1)
    have hz := hp v 4
    rw [e]
    clear e h h2 h3 h4 hw hp
    generalize pb v 4 = B at *
    go_enter Tryz.func77, Tryz.ntmps77
    go_wp2_with fail
    refine (HP.out _).mono ?_
    rintro x w1 ⟨rfl, g1⟩
    go_wp2_with fail
    go_ret
    exact ⟨rfl, btr (by go_grown) g1 (by simp)⟩
  · obtain ⟨k, f, v⟩ := a
    simp only at h1 h2 h3 h4
    subst h1
    have e : writeV (2, f, v) = ⟨#[0, 22, 0, 8]⟩ ++ pb v 4 := by
      have e1 : writeV (2, f, v) = pb 22 2 ++ pb 8 2 ++ pb v 4 ++ zeros 0 := by simp [writeV, bodyV, knV, ksV, hp]
      have e2 : pb 22 2 ++ pb 8 2 = ⟨#[0, 22, 0, 8]⟩ := by decide +kernel
      rw [e1, e2]
      apply ba_ext
      simp [zeros]
    have HP : Hid (∀ w, Calls Tryz.prog 85 #[.int .u64 v, .int .i64 4] w fun e w' => e = .returned (.string (pb v 4)) ∧ Below w.heap.size w w') := (show ∀ w, _ from fun w => rput_any v 4 w (by omega) (by omega) hw.v0 hw.v1)
    have hz := hp v 4
    rw [e]
    clear e h h2 h3 h4 hw hp
    generalize pb v 4 = B at *
    go_enter Tryz.func77, Tryz.ntmps77
    go_wp2_with fail
    refine (HP.out _).mono ?_
    rintro x w1 ⟨rfl, g1⟩
    go_wp2_with fail
    go_ret
    exact ⟨rfl, btr (by go_grown) g1 (by simp)⟩
  · obtain ⟨k, f, v⟩ := a
    simp only at h1
    subst h1
    have e : writeV (3, f, v) = ⟨#[0, 17, 0, 8, 129, 0, 0, 0]⟩ := by
      have e1 : writeV (3, f, v) = pb 17 2 ++ pb 8 2 ++ pb 33024 2 ++ zeros 2 := by simp [writeV, bodyV, knV, ksV, hp]
      rw [e1]
      decide +kernel
    rw [e]
    clear e h h2 h3 hw hp
    go_enter Tryz.func77, Tryz.ntmps77
    go_wp2
    go_ret
    exact ⟨rfl, by go_grown⟩
  · obtain ⟨k, f, v⟩ := a
    simp only at h1
    subst h1
    have e0 : (⟨#[]⟩ : ByteArray).size = 0 := rfl
    have e : writeV (4, f, v) = ⟨#[0, 18, 0, 8, 0, 0, 0, 0]⟩ := by
      have e1 : writeV (4, f, v) = pb 18 2 ++ pb 8 2 ++ ⟨#[]⟩ ++ zeros 4 := by simp [writeV, bodyV, knV, ksV, e0]
      rw [e1]
      decide +kernel
    rw [e]
    clear e h h2 h3 hw hp e0
    go_enter Tryz.func77, Tryz.ntmps77
    go_wp2
    go_ret
    exact ⟨rfl, by go_grown⟩
  · obtain ⟨k, f, v⟩ := a
    simp only at h1 h2 h3 h4
    subst h1
    have hsz : szV f = rszV f := by rcases h2 with rfl | rfl | rfl | rfl | rfl <;> decide
    have hs4 : 2 ≤ rszV f ∧ rszV f ≤ 4 := by unfold rszV; split <;> omega
    have hc : 0 ≤ codeV f ∧ codeV f ≤ 14 := by unfold codeV; (repeat' split) <;> omega
    have e : writeV (5, f, v) = ⟨#[0, 25, 0, 16, 128, 0]⟩ ++ strOfNums [2 * codeV f, (rszV f : Int)] ++ pb v (rszV f) ++ zeros (8 - rszV f) := by
      have e2 : pb 25 2 ++ pb 16 2 ++ pb 32768 2 = ⟨#[0, 25, 0, 16, 128, 0]⟩ := by decide +kernel
      rw [pb_cut _ (by omega) (by omega) _ (by omega) (by omega), ← e2]
      simp only [writeV, bodyV, knV, ksV, hsz]
      simp [ByteArray.size_append, hp]
      simp only [ap_assoc]
      congr 7
      omega
    rw [e]
    exact rbytes_set f v (codeV f) (rszV f) (8 - rszV f) w rfl hc.1 hc.2 rfl (by omega) (by omega) hw.v0 hw.v1
end Go.Proofs.YtjjfhibkcngphaaGreatDoor

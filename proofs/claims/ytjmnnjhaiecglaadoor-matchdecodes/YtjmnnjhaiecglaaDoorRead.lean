/-
  What a reader, saidSize and fieldOf answer, as contracts.
-/
import Derived.Test.YtjmnnjhaiecglaaDoorCode
import Derived.Test.YtjmnnjhaiecglaaDoorEnc
namespace Go.Proofs.YtjmnnjhaiecglaaDoor
open Go.ChangeShapes Go.WideShapes Go.ChangeAt Go.RowKit
/-- At block b lies a reader: what is left, and what is wrong. -/
structure Rd (w : World) (b : Nat) (s : ByteArray) (e : Int) : Prop where
  c0 : w.cell? ⟨b, 0, none⟩ = some (.string s)
  c1 : w.cell? ⟨b, 1, none⟩ = some (.int .i64 e)
  f0 : w.frozen? ⟨b, 0, none⟩ = false
  f1 : w.frozen? ⟨b, 1, none⟩ = false

/-- Nothing but block b has turned. -/
structure Only (b : Nat) (w w' : World) : Prop where
  os : w'.os = w.os
  tape : w'.tape = w.tape
  output : w'.output = w.output
  size : w'.heap.size = w.heap.size
  block : ∀ k, k ≠ b → w'.heap[k]? = w.heap[k]?

theorem Only.refl (b : Nat) (w : World) : Only b w w := ⟨rfl, rfl, rfl, rfl, fun _ _ => rfl⟩
theorem Only.setCell {b : Nat} {w w' : World} (h : Only b w w') (o : Nat) (v : Value) : Only b w (w'.setCell ⟨b, o, none⟩ v) :=
  ⟨h.os, h.tape, h.output, by simp [World.setCell, h.size], fun k hk => (Below.heap_setCell _ _ _ _ hk).trans (h.block k hk)⟩
theorem Only.below {b : Nat} {w w' a : World} (h : Only b w w') (hb : a.heap.size ≤ b) (g : Below a.heap.size a w) : Below a.heap.size a w' :=
  g.trans ⟨h.os, h.tape, h.output, by rw [h.size]; exact Nat.le_refl _, fun k hk => h.block k (by omega)⟩
theorem Rd.only {b c : Nat} {w w' : World} {s : ByteArray} {e : Int} (r : Rd w c s e) (h : Only b w w') (hne : c ≠ b) : Rd w' c s e :=
  ⟨(World.cell?_of_block (w := w) (h.block c hne)).trans r.c0, (World.cell?_of_block (w := w) (h.block c hne)).trans r.c1,
   (World.frozen?_of_block (w := w) (h.block c hne)).trans r.f0, (World.frozen?_of_block (w := w) (h.block c hne)).trans r.f1⟩

theorem Rd.new (w : World) (s : ByteArray) (e : Int) (T : TypeId) : Rd (w.alloc (.cells #[.string s, .int .i64 e] T)) w.heap.size s e :=
  ⟨by simp, by simp, by simp, by simp⟩

theorem Rd.set0 {w : World} {b : Nat} {s : ByteArray} {e : Int} (r : Rd w b s e) (s' : ByteArray) : Rd (w.setCell ⟨b, 0, none⟩ (.string s')) b s' e := by
  obtain ⟨c0, c1, f0, f1⟩ := r
  exact ⟨World.cell?_setCell_same _ _ _ c0, (World.cell?_setCell_other _ _ _ _ (by simp)).trans c1, by simp [f0], by simp [f1]⟩
theorem Rd.set1 {w : World} {b : Nat} {s : ByteArray} {e : Int} (r : Rd w b s e) (e' : Int) : Rd (w.setCell ⟨b, 1, none⟩ (.int .i64 e')) b s e' := by
  obtain ⟨c0, c1, f0, f1⟩ := r
  exact ⟨(World.cell?_setCell_other _ _ _ _ (by simp)).trans c0, World.cell?_setCell_same _ _ _ c1, by simp [f0], by simp [f1]⟩

set_option maxHeartbeats 400000 in
theorem take_any (b : Nat) (s : ByteArray) (e n : Int) (may : Bool) (w : World) (hm : may = true → 0 ≤ n) (r : Rd w b s e) :
    Calls Tryd.prog 78 #[.pointer (some ⟨b, 0, none⟩), .int .i64 n, .bool may] w fun x w' =>
      x = .returned (.string (takeV s e n may)) ∧ Rd w' b (takeS s e n may) (takeE s e n may) ∧ Only b w w' := by
  have r0 := r
  obtain ⟨c0, c1, f0, f1⟩ := r
  by_cases he : e = 0
  · subst he
    cases may
    · have v1 : takeV s 0 n false = noB := by simp [takeV]
      have v2 : takeS s 0 n false = noB := by simp [takeS]
      have v3 : takeE s 0 n false = 1 := by simp [takeE]
      rw [v1, v2, v3]
      clear v1 v2 v3 hm
      go_enter Tryd.func78, Tryd.ntmps78
      go_wp2
      go_ret
      exact ⟨rfl, (r0.set0 noB).set1 1, ((Only.refl _ _).setCell 0 _).setCell 1 _⟩
    · have hn := hm rfl
      by_cases hl : n ≤ s.size
      · have v1 : takeV s 0 n true = s.extract 0 n.toNat := by simp [takeV, hl]
        have v2 : takeS s 0 n true = s.extract n.toNat s.size := by simp [takeS, hl]
        have v3 : takeE s 0 n true = 0 := by simp [takeE, hl]
        rw [v1, v2, v3]
        obtain ⟨k, rfl⟩ := Int.eq_ofNat_of_zero_le hn
        clear v1 v2 v3 hm hn
        go_enter Tryd.func78, Tryd.ntmps78
        go_wp2
        go_ret
        exact ⟨rfl, r0.set0 _, (Only.refl _ _).setCell 0 _⟩
      · have v1 : takeV s 0 n true = noB := by simp [takeV, hl]
        have v2 : takeS s 0 n true = noB := by simp [takeS, hl]
        have v3 : takeE s 0 n true = 10 := by simp [takeE, hl]
        rw [v1, v2, v3]
        clear v1 v2 v3 hm
        go_enter Tryd.func78, Tryd.ntmps78
        go_wp2
        go_ret
        exact ⟨rfl, (r0.set0 noB).set1 10, ((Only.refl _ _).setCell 0 _).setCell 1 _⟩
  · have v1 : takeV s e n may = noB := by simp [takeV, he]
    have v2 : takeS s e n may = s := by simp [takeS, he]
    have v3 : takeE s e n may = e := by simp [takeE, he]
    rw [v1, v2, v3]
    have hb : (e != 0) = true := by simp [he]
    clear v1 v2 v3 hm he
    go_enter Tryd.func78, Tryd.ntmps78
    go_wp2
    go_ret
    exact ⟨rfl, r0, Only.refl _ _⟩

set_option maxHeartbeats 400000 in
theorem number_any (s : ByteArray) (w : World) (hs : s.size ≤ maxLen) :
    Calls Tryd.prog 77 #[.string s] w fun x w' => x = .returned (.int .u64 (numOf s.data.toList)) ∧ w' = w := by
  unfold maxLen at hs
  go_enter Tryd.func77, Tryd.ntmps77
  go_wp2
  go_loop [3, 7] (fun n i => ∃ k : Nat, k ≤ s.size ∧ i = .int .i64 k ∧ n = .int .u64 (numOf (s.data.toList.take k))) (fun _ i => s.size - (intOf i).toNat)
  case atStart => exact ⟨0, Nat.zero_le _, rfl, rfl⟩
  case round =>
    obtain ⟨k, hk, rfl, rfl⟩ := hrel
    by_cases hlt : k < s.size
    · have HS : Hid (numOf (s.data.toList.take (k + 1)) = stepN (numOf (s.data.toList.take k)) s[k]) := numOf_take s k hlt
      go_wp2
      go_round
      case rel => exact ⟨k + 1, by omega, by go_num, by rw [HS.out]; rfl⟩
      case measure => simp [intOf]; omega
    · go_wp2
      go_ret
      exact ⟨ret_int (by rw [List.take_of_length_le (by simp; omega)]), rfl⟩

set_option maxHeartbeats 400000 in
theorem num_any (b : Nat) (s : ByteArray) (e n : Int) (w : World) (hs : s.size ≤ maxLen) (r : Rd w b s e) :
    Calls Tryd.prog 65 #[.pointer (some ⟨b, 0, none⟩), .int .i64 n] w fun x w' =>
      x = .returned (.int .u64 (numV s e n)) ∧ Rd w' b (takeS s e n (szB n)) (takeE s e n (szB n)) ∧ Only b w w' := by
  have hp : szB n = true → 0 ≤ n := by unfold szB; simp; omega
  have HP : Hid (szB n = true → 0 ≤ n) := hp
  clear hp
  go_enter Tryd.func65, Tryd.ntmps65
  go_wp2_with fail
  refine (isSize_any _ _).mono ?_
  rintro x w' ⟨rfl, rfl⟩
  go_wp2_with fail
  refine (take_any b s e n (szB n) _ HP.out r).mono ?_
  rintro x w1 ⟨rfl, r1, o1⟩
  go_wp2_with fail
  refine (number_any _ _ (Nat.le_trans (takeV_size _ _ _ _) hs)).mono ?_
  rintro x w2 ⟨rfl, rfl⟩
  go_wp2_with fail
  go_ret
  exact ⟨rfl, r1, o1⟩

set_option maxHeartbeats 400000 in
theorem left_any (b : Nat) (s : ByteArray) (e : Int) (w : World) (r : Rd w b s e) :
    Calls Tryd.prog 66 #[.pointer (some ⟨b, 0, none⟩)] w fun x w' => x = .returned (.int .i64 s.size) ∧ w' = w := by
  obtain ⟨c0, c1, f0, f1⟩ := r
  go_enter Tryd.func66, Tryd.ntmps66
  go_wp2
  go_ret
  exact ⟨rfl, rfl⟩

set_option maxHeartbeats 400000 in
theorem read_any (s : ByteArray) (w : World) :
    Calls Tryd.prog 64 #[.string s] w fun x w' => x = .returned (.pointer (some ⟨w.heap.size, 0, none⟩)) ∧ w' = w.alloc (.cells #[.string s, .int .i64 0] 104) := by
  go_enter Tryd.func64, Tryd.ntmps64
  go_wp2
  go_ret
  exact ⟨rfl, rfl⟩

theorem numR (b : Nat) (r : RS) (n : Int) (w : World) (hs : r.s.size ≤ maxLen) (h : Rd w b r.s r.e) :
    Calls Tryd.prog 65 #[.pointer (some ⟨b, 0, none⟩), .int .i64 n] w fun x w' => x = .returned (.int .u64 (r.num n)) ∧ Rd w' b (r.skip n).s (r.skip n).e ∧ Only b w w' := num_any b r.s r.e n w hs h
/-- The field that has a code. -/
def fieldGo : List (Int × Int × Int) → Int → Int
  | [], _ => 0
  | c :: r, n => if c.2.2 = n then c.1 else fieldGo r n
def fieldV (n : Int) : Int := fieldGo tb n
set_option maxRecDepth 20000 in
set_option maxHeartbeats 16000000 in
theorem fieldOf_any (n : Int) (w : World) (hd : Cd w) :
    Calls Tryd.prog 79 #[.int .i64 n] w fun e w' => e = .returned (.int .i64 (fieldV n)) ∧ Below w.heap.size w w' := by
  unfold fieldV
  obtain ⟨ct, cfr, hd⟩ := hd
  go_enter Tryd.func79, Tryd.ntmps79
  go_wp2_with (refine wpList_load_row rfl 96 (.global 0) rfl 0 rfl ct codesA cfr _ hd Tryd.underlying96 rfl (by kernel_rfl) ?_)
  clear hd
  go_loopw [6] (fun i wr => ∃ k : Int, 0 ≤ k ∧ k ≤ 11 ∧ i = .int .i64 k ∧ fieldGo tb n = fieldGo (tb.drop k.toNat) n ∧ Below w.heap.size w wr) (fun i _ => 11 - (intOf i).toNat)
  case atStart => exact ⟨0, by omega, by omega, rfl, rfl, by go_grown⟩
  case round =>
    obtain ⟨k, hk0, hk, rfl, hr, hbel⟩ := hrel
    have hcl : k = 0 ∨ k = 1 ∨ k = 2 ∨ k = 3 ∨ k = 4 ∨ k = 5 ∨ k = 6 ∨ k = 7 ∨ k = 8 ∨ k = 9 ∨ k = 10 ∨ k = 11 := by omega
    rcases hcl with rfl | rfl | rfl | rfl | rfl | rfl | rfl | rfl | rfl | rfl | rfl | rfl
    · have hx := idx0
      have hr' : fieldGo tb n = if (0 : Int) = n then 1 else fieldGo (tb.drop 1) n := hr
      cases hf : ((0 : Int) == n)
      · have hne : ¬ (0 : Int) = n := by simpa using hf
        have HR : Hid (fieldGo tb n = fieldGo (tb.drop 1) n) := (show _ = _ by rw [hr', if_neg hne])
        clear hr hr' hne
        go_wp2_with fail
        go_roundw
        case rel => exact ⟨1, by omega, by omega, by go_num, HR.out, hbel.alloc hbel.size _⟩
        case measure => simp [intOf]
      · have hne : (0 : Int) = n := by simpa using hf
        have HR : Hid (fieldGo tb n = 1) := (show _ = _ by rw [hr', if_pos hne])
        clear hr hr' hne
        go_wp2_with fail
        go_ret
        exact ⟨by rw [HR.out]; rfl, hbel.alloc hbel.size _⟩
    · have hx := idx1
      have hr' : fieldGo tb n = if (2 : Int) = n then 2 else fieldGo (tb.drop 2) n := hr
      cases hf : ((2 : Int) == n)
      · have hne : ¬ (2 : Int) = n := by simpa using hf
        have HR : Hid (fieldGo tb n = fieldGo (tb.drop 2) n) := (show _ = _ by rw [hr', if_neg hne])
        clear hr hr' hne
        go_wp2_with fail
        go_roundw
        case rel => exact ⟨2, by omega, by omega, by go_num, HR.out, hbel.alloc hbel.size _⟩
        case measure => simp [intOf]
      · have hne : (2 : Int) = n := by simpa using hf
        have HR : Hid (fieldGo tb n = 2) := (show _ = _ by rw [hr', if_pos hne])
        clear hr hr' hne
        go_wp2_with fail
        go_ret
        exact ⟨by rw [HR.out]; rfl, hbel.alloc hbel.size _⟩
    · have hx := idx2
      have hr' : fieldGo tb n = if (5 : Int) = n then 4 else fieldGo (tb.drop 3) n := hr
      cases hf : ((5 : Int) == n)
      · have hne : ¬ (5 : Int) = n := by simpa using hf
        have HR : Hid (fieldGo tb n = fieldGo (tb.drop 3) n) := (show _ = _ by rw [hr', if_neg hne])
        clear hr hr' hne
        go_wp2_with fail
        go_roundw
        case rel => exact ⟨3, by omega, by omega, by go_num, HR.out, hbel.alloc hbel.size _⟩
        case measure => simp [intOf]
      · have hne : (5 : Int) = n := by simpa using hf
        have HR : Hid (fieldGo tb n = 4) := (show _ = _ by rw [hr', if_pos hne])
        clear hr hr' hne
        go_wp2_with fail
        go_ret
        exact ⟨by rw [HR.out]; rfl, hbel.alloc hbel.size _⟩
    · have hx := idx3
      have hr' : fieldGo tb n = if (6 : Int) = n then 3 else fieldGo (tb.drop 4) n := hr
      cases hf : ((6 : Int) == n)
      · have hne : ¬ (6 : Int) = n := by simpa using hf
        have HR : Hid (fieldGo tb n = fieldGo (tb.drop 4) n) := (show _ = _ by rw [hr', if_neg hne])
        clear hr hr' hne
        go_wp2_with fail
        go_roundw
        case rel => exact ⟨4, by omega, by omega, by go_num, HR.out, hbel.alloc hbel.size _⟩
        case measure => simp [intOf]
      · have hne : (6 : Int) = n := by simpa using hf
        have HR : Hid (fieldGo tb n = 3) := (show _ = _ by rw [hr', if_pos hne])
        clear hr hr' hne
        go_wp2_with fail
        go_ret
        exact ⟨by rw [HR.out]; rfl, hbel.alloc hbel.size _⟩
    · have hx := idx4
      have hr' : fieldGo tb n = if (10 : Int) = n then 7 else fieldGo (tb.drop 5) n := hr
      cases hf : ((10 : Int) == n)
      · have hne : ¬ (10 : Int) = n := by simpa using hf
        have HR : Hid (fieldGo tb n = fieldGo (tb.drop 5) n) := (show _ = _ by rw [hr', if_neg hne])
        clear hr hr' hne
        go_wp2_with fail
        go_roundw
        case rel => exact ⟨5, by omega, by omega, by go_num, HR.out, hbel.alloc hbel.size _⟩
        case measure => simp [intOf]
      · have hne : (10 : Int) = n := by simpa using hf
        have HR : Hid (fieldGo tb n = 7) := (show _ = _ by rw [hr', if_pos hne])
        clear hr hr' hne
        go_wp2_with fail
        go_ret
        exact ⟨by rw [HR.out]; rfl, hbel.alloc hbel.size _⟩
    · have hx := idx5
      have hr' : fieldGo tb n = if (11 : Int) = n then 5 else fieldGo (tb.drop 6) n := hr
      cases hf : ((11 : Int) == n)
      · have hne : ¬ (11 : Int) = n := by simpa using hf
        have HR : Hid (fieldGo tb n = fieldGo (tb.drop 6) n) := (show _ = _ by rw [hr', if_neg hne])
        clear hr hr' hne
        go_wp2_with fail
        go_roundw
        case rel => exact ⟨6, by omega, by omega, by go_num, HR.out, hbel.alloc hbel.size _⟩
        case measure => simp [intOf]
      · have hne : (11 : Int) = n := by simpa using hf
        have HR : Hid (fieldGo tb n = 5) := (show _ = _ by rw [hr', if_pos hne])
        clear hr hr' hne
        go_wp2_with fail
        go_ret
        exact ⟨by rw [HR.out]; rfl, hbel.alloc hbel.size _⟩
    · have hx := idx6
      have hr' : fieldGo tb n = if (12 : Int) = n then 6 else fieldGo (tb.drop 7) n := hr
      cases hf : ((12 : Int) == n)
      · have hne : ¬ (12 : Int) = n := by simpa using hf
        have HR : Hid (fieldGo tb n = fieldGo (tb.drop 7) n) := (show _ = _ by rw [hr', if_neg hne])
        clear hr hr' hne
        go_wp2_with fail
        go_roundw
        case rel => exact ⟨7, by omega, by omega, by go_num, HR.out, hbel.alloc hbel.size _⟩
        case measure => simp [intOf]
      · have hne : (12 : Int) = n := by simpa using hf
        have HR : Hid (fieldGo tb n = 6) := (show _ = _ by rw [hr', if_pos hne])
        clear hr hr' hne
        go_wp2_with fail
        go_ret
        exact ⟨by rw [HR.out]; rfl, hbel.alloc hbel.size _⟩
    · have hx := idx7
      have hr' : fieldGo tb n = if (13 : Int) = n then 8 else fieldGo (tb.drop 8) n := hr
      cases hf : ((13 : Int) == n)
      · have hne : ¬ (13 : Int) = n := by simpa using hf
        have HR : Hid (fieldGo tb n = fieldGo (tb.drop 8) n) := (show _ = _ by rw [hr', if_neg hne])
        clear hr hr' hne
        go_wp2_with fail
        go_roundw
        case rel => exact ⟨8, by omega, by omega, by go_num, HR.out, hbel.alloc hbel.size _⟩
        case measure => simp [intOf]
      · have hne : (13 : Int) = n := by simpa using hf
        have HR : Hid (fieldGo tb n = 8) := (show _ = _ by rw [hr', if_pos hne])
        clear hr hr' hne
        go_wp2_with fail
        go_ret
        exact ⟨by rw [HR.out]; rfl, hbel.alloc hbel.size _⟩
    · have hx := idx8
      have hr' : fieldGo tb n = if (14 : Int) = n then 9 else fieldGo (tb.drop 9) n := hr
      cases hf : ((14 : Int) == n)
      · have hne : ¬ (14 : Int) = n := by simpa using hf
        have HR : Hid (fieldGo tb n = fieldGo (tb.drop 9) n) := (show _ = _ by rw [hr', if_neg hne])
        clear hr hr' hne
        go_wp2_with fail
        go_roundw
        case rel => exact ⟨9, by omega, by omega, by go_num, HR.out, hbel.alloc hbel.size _⟩
        case measure => simp [intOf]
      · have hne : (14 : Int) = n := by simpa using hf
        have HR : Hid (fieldGo tb n = 9) := (show _ = _ by rw [hr', if_pos hne])
        clear hr hr' hne
        go_wp2_with fail
        go_ret
        exact ⟨by rw [HR.out]; rfl, hbel.alloc hbel.size _⟩
    · have hx := idx9
      have hr' : fieldGo tb n = if (15 : Int) = n then 8 else fieldGo (tb.drop 10) n := hr
      cases hf : ((15 : Int) == n)
      · have hne : ¬ (15 : Int) = n := by simpa using hf
        have HR : Hid (fieldGo tb n = fieldGo (tb.drop 10) n) := (show _ = _ by rw [hr', if_neg hne])
        clear hr hr' hne
        go_wp2_with fail
        go_roundw
        case rel => exact ⟨10, by omega, by omega, by go_num, HR.out, hbel.alloc hbel.size _⟩
        case measure => simp [intOf]
      · have hne : (15 : Int) = n := by simpa using hf
        have HR : Hid (fieldGo tb n = 8) := (show _ = _ by rw [hr', if_pos hne])
        clear hr hr' hne
        go_wp2_with fail
        go_ret
        exact ⟨by rw [HR.out]; rfl, hbel.alloc hbel.size _⟩
    · have hx := idx10
      have hr' : fieldGo tb n = if (16 : Int) = n then 9 else fieldGo (tb.drop 11) n := hr
      cases hf : ((16 : Int) == n)
      · have hne : ¬ (16 : Int) = n := by simpa using hf
        have HR : Hid (fieldGo tb n = fieldGo (tb.drop 11) n) := (show _ = _ by rw [hr', if_neg hne])
        clear hr hr' hne
        go_wp2_with fail
        go_roundw
        case rel => exact ⟨11, by omega, by omega, by go_num, HR.out, hbel.alloc hbel.size _⟩
        case measure => simp [intOf]
      · have hne : (16 : Int) = n := by simpa using hf
        have HR : Hid (fieldGo tb n = 9) := (show _ = _ by rw [hr', if_pos hne])
        clear hr hr' hne
        go_wp2_with fail
        go_ret
        exact ⟨by rw [HR.out]; rfl, hbel.alloc hbel.size _⟩
    · have e : fieldGo tb n = 0 := hr
      go_wp2_with fail
      go_ret
      exact ⟨by rw [e]; rfl, hbel⟩
theorem fieldV_cases (n : Int) : fieldV n = 0 ∨ ¬ (fieldV n < 1 ∨ 9 < fieldV n) := by
  unfold fieldV tb
  simp only [fieldGo]
  repeat' split
  all_goals omega
theorem Rd.below {w w' : World} {b : Nat} {s : ByteArray} {e : Int} (r : Rd w b s e) (hb : b < w.heap.size) (g : Below w.heap.size w w') : Rd w' b s e :=
  ⟨(g.cell (p := ⟨b, 0, none⟩) hb).trans r.c0, (g.cell (p := ⟨b, 1, none⟩) hb).trans r.c1, (g.frozen (p := ⟨b, 0, none⟩) hb).trans r.f0, (g.frozen (p := ⟨b, 1, none⟩) hb).trans r.f1⟩
set_option maxHeartbeats 2000000 in
theorem saidSize_any (s : ByteArray) (w : World) (hs : s.size ≤ maxLen) :
    Calls Tryd.prog 39 #[.string s] w fun e w' => e = .returned (.int .i64 (((⟨s, 0⟩ : RS).skip 2).num 2)) ∧ Below w.heap.size w w' := by
  have hlt := RS.num_lt ((⟨s, 0⟩ : RS).skip 2) 2 (by omega)
  have h0 : 0 ≤ ((⟨s, 0⟩ : RS).skip 2).num 2 := by simpa using hlt.1
  have h1 : ((⟨s, 0⟩ : RS).skip 2).num 2 < 65536 := by simpa using hlt.2
  have hsz := RS.skip_size (⟨s, 0⟩ : RS) 2
  have HR : Hid (∀ w, Calls Tryd.prog 64 #[.string s] w fun x w' => x = .returned (.pointer (some ⟨w.heap.size, 0, none⟩)) ∧ w' = w.alloc (.cells #[.string s, .int .i64 0] 104)) := fun w => read_any s w
  go_enter Tryd.func39, Tryd.ntmps39
  go_wp2_with fail
  refine (HR.out _).mono ?_
  rintro x w1 ⟨rfl, rfl⟩
  go_wp2_with fail
  refine (numR w.heap.size (⟨s, 0⟩ : RS) 2 _ hs (Rd.new w s 0 _)).mono ?_
  rintro x w2 ⟨rfl, r2, o2⟩
  go_wp2_with fail
  refine (numR w.heap.size ((⟨s, 0⟩ : RS).skip 2) 2 _ (Nat.le_trans hsz hs) r2).mono ?_
  rintro x w3 ⟨rfl, r3, o3⟩
  generalize hz : ((⟨s, 0⟩ : RS).skip 2).num 2 = z at *
  go_wp2_with fail
  go_ret
  exact ⟨by rw [hz]; rfl, o3.below (Nat.le_refl _) (o2.below (Nat.le_refl _) (by go_grown))⟩
end Go.Proofs.YtjmnnjhaiecglaaDoor

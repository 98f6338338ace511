/-
  What codeBehind and fieldOf answer of the table of codes, as contracts.
-/
import Derived.Test.YtjmnnjhaiecglaaDoorRight
namespace Go.Proofs.YtjmnnjhaiecglaaDoor
open Go.ChangeShapes Go.WideShapes Go.ChangeAt Go.RowKit

/-- The table of codes: field, Proto, code. -/
def tb : List (Int × Int × Int) := [(1, 0, 0), (2, 0, 2), (4, 0, 5), (3, 0, 6), (7, 0, 10), (5, 0, 11), (6, 0, 12), (8, 6, 13), (9, 6, 14), (8, 17, 15), (9, 17, 16)]
/-- It lies in the program's variable. -/
abbrev codesA : Array Value := #[.int .i64 1, .int .i64 0, .int .i64 0, .int .i64 2, .int .i64 0, .int .i64 2, .int .i64 4, .int .i64 0, .int .i64 5, .int .i64 3, .int .i64 0, .int .i64 6, .int .i64 7, .int .i64 0, .int .i64 10, .int .i64 5, .int .i64 0, .int .i64 11, .int .i64 6, .int .i64 0, .int .i64 12, .int .i64 8, .int .i64 6, .int .i64 13, .int .i64 9, .int .i64 6, .int .i64 14, .int .i64 8, .int .i64 17, .int .i64 15, .int .i64 9, .int .i64 17, .int .i64 16]
def Cd (w : World) : Prop := ∃ t fr, w.heap[0]? = some (.cells codesA t fr)
theorem Cd.pos {w : World} (h : Cd w) : 0 < w.heap.size := by
  obtain ⟨t, fr, h⟩ := h
  by_cases hz : 0 < w.heap.size
  · exact hz
  · rw [Array.getElem?_eq_none (by omega)] at h; cases h
theorem Cd.below {w w' : World} (h : Cd w) (g : Below w.heap.size w w') : Cd w' := by
  have hb := g.block 0 h.pos
  obtain ⟨t, fr, h⟩ := h
  exact ⟨t, fr, hb.trans h⟩
theorem Cd.alloc {w : World} (h : Cd w) (o : Obj) : Cd (w.alloc o) := h.below (by go_grown)
def codeFrom : List (Int × Int × Int) → Int → List T → Int
  | [], _, _ => 0
  | c :: r, f, l => if c.1 = f ∧ (c.2.1 = 0 ∨ hasT l (7, c.2.1, 255) = true) then c.2.2 else codeFrom r f l
theorem codeV_from (f : Int) (l : List T) : codeV f l = codeFrom tb f l := by
  by_cases h : f < 1 ∨ 9 < f
  · unfold codeV tb
    simp only [codeFrom]
    repeat (rw [if_neg (by omega)])
  · rcases cls9 h with rfl | rfl | rfl | rfl | rfl | rfl | rfl | rfl | rfl <;> simp [codeV, tb, codeFrom]

theorem idxA (cs : List Value) (i : Int) (h0 : 0 ≤ i) (h1 : i < 11) (w : World) : (Instr.index 96 (.agg cs.toArray) (.int .i64 i)).run Tryd.prog w = .ok (.agg ((cs.drop (i.toNat * 3)).take 3).toArray) w := by
  have hn : 0 ≤ i ∧ i < ((11 : Nat) : Int) := by omega
  have hu : Tryd.prog.underlying 96 = some (.array 11 95) := Tryd.underlying96
  have e : cs.toArray.extract (i.toNat * 3) (i.toNat * 3 + 3) = ((cs.drop (i.toNat * 3)).take 3).toArray := by
    apply Array.toList_inj.1
    simp [List.extract_eq_take_drop]
  rw [← e]
  clear e
  simp [Instr.index, run_underlying hu, asIntOf, hn, go_sem]
  intro h
  omega
abbrev codesV : Value := .agg codesA
theorem idx0 (w : World) : (Instr.index 96 codesV (.int .i64 0)).run Tryd.prog w = .ok (.agg #[.int .i64 1, .int .i64 0, .int .i64 0]) w := idxA _ 0 (by omega) (by omega) w
theorem idx1 (w : World) : (Instr.index 96 codesV (.int .i64 1)).run Tryd.prog w = .ok (.agg #[.int .i64 2, .int .i64 0, .int .i64 2]) w := idxA _ 1 (by omega) (by omega) w
theorem idx2 (w : World) : (Instr.index 96 codesV (.int .i64 2)).run Tryd.prog w = .ok (.agg #[.int .i64 4, .int .i64 0, .int .i64 5]) w := idxA _ 2 (by omega) (by omega) w
theorem idx3 (w : World) : (Instr.index 96 codesV (.int .i64 3)).run Tryd.prog w = .ok (.agg #[.int .i64 3, .int .i64 0, .int .i64 6]) w := idxA _ 3 (by omega) (by omega) w
theorem idx4 (w : World) : (Instr.index 96 codesV (.int .i64 4)).run Tryd.prog w = .ok (.agg #[.int .i64 7, .int .i64 0, .int .i64 10]) w := idxA _ 4 (by omega) (by omega) w
theorem idx5 (w : World) : (Instr.index 96 codesV (.int .i64 5)).run Tryd.prog w = .ok (.agg #[.int .i64 5, .int .i64 0, .int .i64 11]) w := idxA _ 5 (by omega) (by omega) w
theorem idx6 (w : World) : (Instr.index 96 codesV (.int .i64 6)).run Tryd.prog w = .ok (.agg #[.int .i64 6, .int .i64 0, .int .i64 12]) w := idxA _ 6 (by omega) (by omega) w
theorem idx7 (w : World) : (Instr.index 96 codesV (.int .i64 7)).run Tryd.prog w = .ok (.agg #[.int .i64 8, .int .i64 6, .int .i64 13]) w := idxA _ 7 (by omega) (by omega) w
theorem idx8 (w : World) : (Instr.index 96 codesV (.int .i64 8)).run Tryd.prog w = .ok (.agg #[.int .i64 9, .int .i64 6, .int .i64 14]) w := idxA _ 8 (by omega) (by omega) w
theorem idx9 (w : World) : (Instr.index 96 codesV (.int .i64 9)).run Tryd.prog w = .ok (.agg #[.int .i64 8, .int .i64 17, .int .i64 15]) w := idxA _ 9 (by omega) (by omega) w
theorem idx10 (w : World) : (Instr.index 96 codesV (.int .i64 10)).run Tryd.prog w = .ok (.agg #[.int .i64 9, .int .i64 17, .int .i64 16]) w := idxA _ 10 (by omega) (by omega) w
set_option maxRecDepth 20000 in
set_option maxHeartbeats 16000000 in
theorem code_any (f : Int) (a : Option Addr) (l : List T) (cap : Nat) (w : World) (h : Ts w a l) (hl : l.length ≤ 1000) (hd : Cd w) :
    Calls Tryd.prog 52 #[.int .i64 f, .slice a l.length cap] w fun e w' => e = .returned (.int .i64 (codeV f l)) ∧ Below w.heap.size w w' := by
  have HW : Hid (∀ v w, Calls Tryd.prog 70 #[.int .i64 7, .int .u64 v] w fun e w' => e = .returned (tV (7, v, 255)) ∧ Below w.heap.size w w') := fun v w => whole_any 7 v w
  have HC : Hid (∀ t b w, hasT l t = b → Ts w a l → Calls Tryd.prog 69 #[.slice a l.length cap, tV t] w fun e w' => e = .returned (.bool b) ∧ Below w.heap.size w w') := fun t b w hb h => hb ▸ contains_any a l cap t w h hl
  rw [codeV_from]
  obtain ⟨ct, cfr, hd⟩ := hd
  go_enter Tryd.func52, Tryd.ntmps52
  go_wp2_with (refine wpList_load_row rfl 96 (.global 0) rfl 0 rfl ct codesA cfr _ hd Tryd.underlying96 rfl (by kernel_rfl) ?_)
  clear hd
  go_loopw [8] (fun i wr => ∃ k : Int, 0 ≤ k ∧ k ≤ 11 ∧ i = .int .i64 k ∧ codeFrom tb f l = codeFrom (tb.drop k.toNat) f l ∧ Below w.heap.size w wr) (fun i _ => 11 - (intOf i).toNat)
  case atStart => exact ⟨0, by omega, by omega, rfl, rfl, by go_grown⟩
  case round =>
    obtain ⟨k, hk0, hk, rfl, hr, hbel⟩ := hrel
    have hT := h.below hbel
    have hcl : k = 0 ∨ k = 1 ∨ k = 2 ∨ k = 3 ∨ k = 4 ∨ k = 5 ∨ k = 6 ∨ k = 7 ∨ k = 8 ∨ k = 9 ∨ k = 10 ∨ k = 11 := by omega
    rcases hcl with rfl | rfl | rfl | rfl | rfl | rfl | rfl | rfl | rfl | rfl | rfl | rfl
    · have hx := idx0
      have hr' : codeFrom tb f l = if (1 : Int) = f ∧ ((0 : Int) = 0 ∨ hasT l (7, 0, 255) = true) then 0 else codeFrom (tb.drop 1) f l := hr
      cases hf : ((1 : Int) == f)
      · have hne : ¬ (1 : Int) = f := by simpa using hf
        have HR : Hid (codeFrom tb f l = codeFrom (tb.drop 1) f l) := (show _ = _ by rw [hr', if_neg (fun x => hne x.1)])
        clear hr hr' hne
        go_wp2_with fail
        go_roundw
        case rel => exact ⟨1, by omega, by omega, by go_num, HR.out, hbel.alloc hbel.size _⟩
        case measure => simp [intOf]
      · have hne : (1 : Int) = f := by simpa using hf
        have HR : Hid (codeFrom tb f l = 0) := (show _ = _ by rw [hr', if_pos ⟨hne, .inl rfl⟩])
        clear hr hr' hne
        go_wp2_with fail
        go_ret
        exact ⟨by rw [HR.out]; rfl, hbel.alloc hbel.size _⟩
    · have hx := idx1
      have hr' : codeFrom tb f l = if (2 : Int) = f ∧ ((0 : Int) = 0 ∨ hasT l (7, 0, 255) = true) then 2 else codeFrom (tb.drop 2) f l := hr
      cases hf : ((2 : Int) == f)
      · have hne : ¬ (2 : Int) = f := by simpa using hf
        have HR : Hid (codeFrom tb f l = codeFrom (tb.drop 2) f l) := (show _ = _ by rw [hr', if_neg (fun x => hne x.1)])
        clear hr hr' hne
        go_wp2_with fail
        go_roundw
        case rel => exact ⟨2, by omega, by omega, by go_num, HR.out, hbel.alloc hbel.size _⟩
        case measure => simp [intOf]
      · have hne : (2 : Int) = f := by simpa using hf
        have HR : Hid (codeFrom tb f l = 2) := (show _ = _ by rw [hr', if_pos ⟨hne, .inl rfl⟩])
        clear hr hr' hne
        go_wp2_with fail
        go_ret
        exact ⟨by rw [HR.out]; rfl, hbel.alloc hbel.size _⟩
    · have hx := idx2
      have hr' : codeFrom tb f l = if (4 : Int) = f ∧ ((0 : Int) = 0 ∨ hasT l (7, 0, 255) = true) then 5 else codeFrom (tb.drop 3) f l := hr
      cases hf : ((4 : Int) == f)
      · have hne : ¬ (4 : Int) = f := by simpa using hf
        have HR : Hid (codeFrom tb f l = codeFrom (tb.drop 3) f l) := (show _ = _ by rw [hr', if_neg (fun x => hne x.1)])
        clear hr hr' hne
        go_wp2_with fail
        go_roundw
        case rel => exact ⟨3, by omega, by omega, by go_num, HR.out, hbel.alloc hbel.size _⟩
        case measure => simp [intOf]
      · have hne : (4 : Int) = f := by simpa using hf
        have HR : Hid (codeFrom tb f l = 5) := (show _ = _ by rw [hr', if_pos ⟨hne, .inl rfl⟩])
        clear hr hr' hne
        go_wp2_with fail
        go_ret
        exact ⟨by rw [HR.out]; rfl, hbel.alloc hbel.size _⟩
    · have hx := idx3
      have hr' : codeFrom tb f l = if (3 : Int) = f ∧ ((0 : Int) = 0 ∨ hasT l (7, 0, 255) = true) then 6 else codeFrom (tb.drop 4) f l := hr
      cases hf : ((3 : Int) == f)
      · have hne : ¬ (3 : Int) = f := by simpa using hf
        have HR : Hid (codeFrom tb f l = codeFrom (tb.drop 4) f l) := (show _ = _ by rw [hr', if_neg (fun x => hne x.1)])
        clear hr hr' hne
        go_wp2_with fail
        go_roundw
        case rel => exact ⟨4, by omega, by omega, by go_num, HR.out, hbel.alloc hbel.size _⟩
        case measure => simp [intOf]
      · have hne : (3 : Int) = f := by simpa using hf
        have HR : Hid (codeFrom tb f l = 6) := (show _ = _ by rw [hr', if_pos ⟨hne, .inl rfl⟩])
        clear hr hr' hne
        go_wp2_with fail
        go_ret
        exact ⟨by rw [HR.out]; rfl, hbel.alloc hbel.size _⟩
    · have hx := idx4
      have hr' : codeFrom tb f l = if (7 : Int) = f ∧ ((0 : Int) = 0 ∨ hasT l (7, 0, 255) = true) then 10 else codeFrom (tb.drop 5) f l := hr
      cases hf : ((7 : Int) == f)
      · have hne : ¬ (7 : Int) = f := by simpa using hf
        have HR : Hid (codeFrom tb f l = codeFrom (tb.drop 5) f l) := (show _ = _ by rw [hr', if_neg (fun x => hne x.1)])
        clear hr hr' hne
        go_wp2_with fail
        go_roundw
        case rel => exact ⟨5, by omega, by omega, by go_num, HR.out, hbel.alloc hbel.size _⟩
        case measure => simp [intOf]
      · have hne : (7 : Int) = f := by simpa using hf
        have HR : Hid (codeFrom tb f l = 10) := (show _ = _ by rw [hr', if_pos ⟨hne, .inl rfl⟩])
        clear hr hr' hne
        go_wp2_with fail
        go_ret
        exact ⟨by rw [HR.out]; rfl, hbel.alloc hbel.size _⟩
    · have hx := idx5
      have hr' : codeFrom tb f l = if (5 : Int) = f ∧ ((0 : Int) = 0 ∨ hasT l (7, 0, 255) = true) then 11 else codeFrom (tb.drop 6) f l := hr
      cases hf : ((5 : Int) == f)
      · have hne : ¬ (5 : Int) = f := by simpa using hf
        have HR : Hid (codeFrom tb f l = codeFrom (tb.drop 6) f l) := (show _ = _ by rw [hr', if_neg (fun x => hne x.1)])
        clear hr hr' hne
        go_wp2_with fail
        go_roundw
        case rel => exact ⟨6, by omega, by omega, by go_num, HR.out, hbel.alloc hbel.size _⟩
        case measure => simp [intOf]
      · have hne : (5 : Int) = f := by simpa using hf
        have HR : Hid (codeFrom tb f l = 11) := (show _ = _ by rw [hr', if_pos ⟨hne, .inl rfl⟩])
        clear hr hr' hne
        go_wp2_with fail
        go_ret
        exact ⟨by rw [HR.out]; rfl, hbel.alloc hbel.size _⟩
    · have hx := idx6
      have hr' : codeFrom tb f l = if (6 : Int) = f ∧ ((0 : Int) = 0 ∨ hasT l (7, 0, 255) = true) then 12 else codeFrom (tb.drop 7) f l := hr
      cases hf : ((6 : Int) == f)
      · have hne : ¬ (6 : Int) = f := by simpa using hf
        have HR : Hid (codeFrom tb f l = codeFrom (tb.drop 7) f l) := (show _ = _ by rw [hr', if_neg (fun x => hne x.1)])
        clear hr hr' hne
        go_wp2_with fail
        go_roundw
        case rel => exact ⟨7, by omega, by omega, by go_num, HR.out, hbel.alloc hbel.size _⟩
        case measure => simp [intOf]
      · have hne : (6 : Int) = f := by simpa using hf
        have HR : Hid (codeFrom tb f l = 12) := (show _ = _ by rw [hr', if_pos ⟨hne, .inl rfl⟩])
        clear hr hr' hne
        go_wp2_with fail
        go_ret
        exact ⟨by rw [HR.out]; rfl, hbel.alloc hbel.size _⟩
    · have hx := idx7
      have hr' : codeFrom tb f l = if (8 : Int) = f ∧ ((6 : Int) = 0 ∨ hasT l (7, 6, 255) = true) then 13 else codeFrom (tb.drop 8) f l := hr
      cases hf : ((8 : Int) == f)
      · have hne : ¬ (8 : Int) = f := by simpa using hf
        have HR : Hid (codeFrom tb f l = codeFrom (tb.drop 8) f l) := (show _ = _ by rw [hr', if_neg (fun x => hne x.1)])
        clear hr hr' hne
        go_wp2_with fail
        go_roundw
        case rel => exact ⟨8, by omega, by omega, by go_num, HR.out, hbel.alloc hbel.size _⟩
        case measure => simp [intOf]
      · have hne : (8 : Int) = f := by simpa using hf
        cases hh : hasT l (7, 6, 255)
        · have HR : Hid (codeFrom tb f l = codeFrom (tb.drop 8) f l) := (show _ = _ by rw [hr', if_neg (by rw [hh]; simp)])
          clear hr hr' hne
          go_wp2_with fail
          refine (HW.out _ _).mono ?_
          rintro x w1 ⟨rfl, g1⟩
          go_wp2_with fail
          refine (HC.out _ _ _ hh ((hT.alloc _).below g1)).mono ?_
          rintro x w2 ⟨rfl, g2⟩
          have g3 := btr (btr (hbel.alloc hbel.size _) g1 (Nat.le_refl _)) g2 (Nat.le_refl _)
          go_wp2_with fail
          go_roundw
          case rel => exact ⟨8, by omega, by omega, by go_num, HR.out, g3⟩
          case measure => simp [intOf]
        · have HR : Hid (codeFrom tb f l = 13) := (show _ = _ by rw [hr', if_pos ⟨hne, .inr hh⟩])
          clear hr hr' hne
          go_wp2_with fail
          refine (HW.out _ _).mono ?_
          rintro x w1 ⟨rfl, g1⟩
          go_wp2_with fail
          refine (HC.out _ _ _ hh ((hT.alloc _).below g1)).mono ?_
          rintro x w2 ⟨rfl, g2⟩
          have g3 := btr (btr (hbel.alloc hbel.size _) g1 (Nat.le_refl _)) g2 (Nat.le_refl _)
          have c2 := (g2.cell (p := ⟨wr.heap.size, 2, none⟩) (show wr.heap.size < w1.heap.size from Nat.lt_of_lt_of_le (by simp) g1.size)).trans (g1.cell (p := ⟨wr.heap.size, 2, none⟩) (show wr.heap.size < (wr.alloc _).heap.size by simp))
          simp at c2
          go_wp2_with fail
          go_ret
          exact ⟨by rw [HR.out]; rfl, g3⟩
    · have hx := idx8
      have hr' : codeFrom tb f l = if (9 : Int) = f ∧ ((6 : Int) = 0 ∨ hasT l (7, 6, 255) = true) then 14 else codeFrom (tb.drop 9) f l := hr
      cases hf : ((9 : Int) == f)
      · have hne : ¬ (9 : Int) = f := by simpa using hf
        have HR : Hid (codeFrom tb f l = codeFrom (tb.drop 9) f l) := (show _ = _ by rw [hr', if_neg (fun x => hne x.1)])
        clear hr hr' hne
        go_wp2_with fail
        go_roundw
        case rel => exact ⟨9, by omega, by omega, by go_num, HR.out, hbel.alloc hbel.size _⟩
        case measure => simp [intOf]
      · have hne : (9 : Int) = f := by simpa using hf
        cases hh : hasT l (7, 6, 255)
        · have HR : Hid (codeFrom tb f l = codeFrom (tb.drop 9) f l) := (show _ = _ by rw [hr', if_neg (by rw [hh]; simp)])
          clear hr hr' hne
          go_wp2_with fail
          refine (HW.out _ _).mono ?_
          rintro x w1 ⟨rfl, g1⟩
          go_wp2_with fail
          refine (HC.out _ _ _ hh ((hT.alloc _).below g1)).mono ?_
          rintro x w2 ⟨rfl, g2⟩
          have g3 := btr (btr (hbel.alloc hbel.size _) g1 (Nat.le_refl _)) g2 (Nat.le_refl _)
          go_wp2_with fail
          go_roundw
          case rel => exact ⟨9, by omega, by omega, by go_num, HR.out, g3⟩
          case measure => simp [intOf]
        · have HR : Hid (codeFrom tb f l = 14) := (show _ = _ by rw [hr', if_pos ⟨hne, .inr hh⟩])
          clear hr hr' hne
          go_wp2_with fail
          refine (HW.out _ _).mono ?_
          rintro x w1 ⟨rfl, g1⟩
          go_wp2_with fail
          refine (HC.out _ _ _ hh ((hT.alloc _).below g1)).mono ?_
          rintro x w2 ⟨rfl, g2⟩
          have g3 := btr (btr (hbel.alloc hbel.size _) g1 (Nat.le_refl _)) g2 (Nat.le_refl _)
          have c2 := (g2.cell (p := ⟨wr.heap.size, 2, none⟩) (show wr.heap.size < w1.heap.size from Nat.lt_of_lt_of_le (by simp) g1.size)).trans (g1.cell (p := ⟨wr.heap.size, 2, none⟩) (show wr.heap.size < (wr.alloc _).heap.size by simp))
          simp at c2
          go_wp2_with fail
          go_ret
          exact ⟨by rw [HR.out]; rfl, g3⟩
    · have hx := idx9
      have hr' : codeFrom tb f l = if (8 : Int) = f ∧ ((17 : Int) = 0 ∨ hasT l (7, 17, 255) = true) then 15 else codeFrom (tb.drop 10) f l := hr
      cases hf : ((8 : Int) == f)
      · have hne : ¬ (8 : Int) = f := by simpa using hf
        have HR : Hid (codeFrom tb f l = codeFrom (tb.drop 10) f l) := (show _ = _ by rw [hr', if_neg (fun x => hne x.1)])
        clear hr hr' hne
        go_wp2_with fail
        go_roundw
        case rel => exact ⟨10, by omega, by omega, by go_num, HR.out, hbel.alloc hbel.size _⟩
        case measure => simp [intOf]
      · have hne : (8 : Int) = f := by simpa using hf
        cases hh : hasT l (7, 17, 255)
        · have HR : Hid (codeFrom tb f l = codeFrom (tb.drop 10) f l) := (show _ = _ by rw [hr', if_neg (by rw [hh]; simp)])
          clear hr hr' hne
          go_wp2_with fail
          refine (HW.out _ _).mono ?_
          rintro x w1 ⟨rfl, g1⟩
          go_wp2_with fail
          refine (HC.out _ _ _ hh ((hT.alloc _).below g1)).mono ?_
          rintro x w2 ⟨rfl, g2⟩
          have g3 := btr (btr (hbel.alloc hbel.size _) g1 (Nat.le_refl _)) g2 (Nat.le_refl _)
          go_wp2_with fail
          go_roundw
          case rel => exact ⟨10, by omega, by omega, by go_num, HR.out, g3⟩
          case measure => simp [intOf]
        · have HR : Hid (codeFrom tb f l = 15) := (show _ = _ by rw [hr', if_pos ⟨hne, .inr hh⟩])
          clear hr hr' hne
          go_wp2_with fail
          refine (HW.out _ _).mono ?_
          rintro x w1 ⟨rfl, g1⟩
          go_wp2_with fail
          refine (HC.out _ _ _ hh ((hT.alloc _).below g1)).mono ?_
          rintro x w2 ⟨rfl, g2⟩
          have g3 := btr (btr (hbel.alloc hbel.size _) g1 (Nat.le_refl _)) g2 (Nat.le_refl _)
          have c2 := (g2.cell (p := ⟨wr.heap.size, 2, none⟩) (show wr.heap.size < w1.heap.size from Nat.lt_of_lt_of_le (by simp) g1.size)).trans (g1.cell (p := ⟨wr.heap.size, 2, none⟩) (show wr.heap.size < (wr.alloc _).heap.size by simp))
          simp at c2
          go_wp2_with fail
          go_ret
          exact ⟨by rw [HR.out]; rfl, g3⟩
    · have hx := idx10
      have hr' : codeFrom tb f l = if (9 : Int) = f ∧ ((17 : Int) = 0 ∨ hasT l (7, 17, 255) = true) then 16 else codeFrom (tb.drop 11) f l := hr
      cases hf : ((9 : Int) == f)
      · have hne : ¬ (9 : Int) = f := by simpa using hf
        have HR : Hid (codeFrom tb f l = codeFrom (tb.drop 11) f l) := (show _ = _ by rw [hr', if_neg (fun x => hne x.1)])
        clear hr hr' hne
        go_wp2_with fail
        go_roundw
        case rel => exact ⟨11, by omega, by omega, by go_num, HR.out, hbel.alloc hbel.size _⟩
        case measure => simp [intOf]
      · have hne : (9 : Int) = f := by simpa using hf
        cases hh : hasT l (7, 17, 255)
        · have HR : Hid (codeFrom tb f l = codeFrom (tb.drop 11) f l) := (show _ = _ by rw [hr', if_neg (by rw [hh]; simp)])
          clear hr hr' hne
          go_wp2_with fail
          refine (HW.out _ _).mono ?_
          rintro x w1 ⟨rfl, g1⟩
          go_wp2_with fail
          refine (HC.out _ _ _ hh ((hT.alloc _).below g1)).mono ?_
          rintro x w2 ⟨rfl, g2⟩
          have g3 := btr (btr (hbel.alloc hbel.size _) g1 (Nat.le_refl _)) g2 (Nat.le_refl _)
          go_wp2_with fail
          go_roundw
          case rel => exact ⟨11, by omega, by omega, by go_num, HR.out, g3⟩
          case measure => simp [intOf]
        · have HR : Hid (codeFrom tb f l = 16) := (show _ = _ by rw [hr', if_pos ⟨hne, .inr hh⟩])
          clear hr hr' hne
          go_wp2_with fail
          refine (HW.out _ _).mono ?_
          rintro x w1 ⟨rfl, g1⟩
          go_wp2_with fail
          refine (HC.out _ _ _ hh ((hT.alloc _).below g1)).mono ?_
          rintro x w2 ⟨rfl, g2⟩
          have g3 := btr (btr (hbel.alloc hbel.size _) g1 (Nat.le_refl _)) g2 (Nat.le_refl _)
          have c2 := (g2.cell (p := ⟨wr.heap.size, 2, none⟩) (show wr.heap.size < w1.heap.size from Nat.lt_of_lt_of_le (by simp) g1.size)).trans (g1.cell (p := ⟨wr.heap.size, 2, none⟩) (show wr.heap.size < (wr.alloc _).heap.size by simp))
          simp at c2
          go_wp2_with fail
          go_ret
          exact ⟨by rw [HR.out]; rfl, g3⟩
    · have e : codeFrom tb f l = 0 := hr
      go_wp2_with fail
      go_ret
      exact ⟨by rw [e]; rfl, hbel⟩
end Go.Proofs.YtjmnnjhaiecglaaDoor

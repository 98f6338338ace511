/-
  What alive, weighty, first and sum answer, as contracts.
-/
import Derived.Test.YteodlkgbakkjmaaDoorForm
import Derived.Test.YteodlkgbakkjmaaDoorCopies
namespace Go.Proofs.YteodlkgbakkjmaaDoor
open Go.ChangeShapes Go.WideShapes Go.ChangeAt Go.RowKit
set_option linter.unusedVariables false

/-- Whether a bucket of such a Watch is alive. -/
def livB (live : List Bool) (i : Int) : Bool := live.getD i.toNat false
def alvB (live : List Bool) (wa : Int) : Bool := wa == 0 || (inB wa 1 ((live.length : Int) - 1) && livB live wa)
/-- Booleans in memory. -/
def Ls (w : World) (a : Option Addr) (l : List Bool) : Prop := l = [] ∨ ∃ g o, a = some ⟨g, o, none⟩ ∧ g < w.heap.size ∧ ∀ i (h : i < l.length), w.cell? ⟨g, o + i, none⟩ = some (.bool l[i])
theorem Ls.below {w w' : World} {a : Option Addr} {l : List Bool} (h : Ls w a l) (g : Below w.heap.size w w') : Ls w' a l := by
  rcases h with h | ⟨b, o, ha, hb, hc⟩
  · exact .inl h
  · exact .inr ⟨b, o, ha, Nat.lt_of_lt_of_le hb g.size, fun i hi => (g.cell (p := ⟨b, o + i, none⟩) hb).trans (hc i hi)⟩
/-- Buckets that a call has put into a row of its own, behind world V. -/
structure BrI (V : World) (v : Value) (r : List Bk) (wr : World) : Prop where
  row : wr.ownsRow V.heap.size 51 3 v r.length (flatB r)
  bel : Below V.heap.size V wr
theorem BrI.grow {V : World} {v : Value} {r : List Bk} {wr w2 : World} (h : BrI V v r wr) (g : Below wr.heap.size wr w2) : BrI V v r w2 := ⟨own_below h.row g, h.bel.trans (g.mono h.bel.size)⟩
theorem BrI.app {V : World} {v v' : Value} {r s : List Bk} {wr w2 : World} (h : BrI V v r wr) (k : wr.grownBy w2 v.ownBlock) (o : w2.ownsRow V.heap.size 51 3 v' s.length (flatB s)) : BrI V v' s w2 :=
  ⟨o, h.bel.grown k h.bel.size (fun j hj => (h.row.lt j hj).1)⟩
theorem filt_snoc {α : Type} (f : α → Bool) (l : List α) (q : Nat) (h : q < l.length) : (l.take (q + 1)).filter f = (l.take q).filter f ++ (if f l[q] = true then [l[q]] else []) := by
  rw [List.take_succ_eq_append_getElem h, List.filter_append]
  congr 1
  by_cases hf : f l[q] = true <;> simp [hf]
theorem filt_len {α : Type} (f : α → Bool) (l : List α) (q : Nat) : ((l.take q).filter f).length ≤ l.length := by
  have h1 := List.length_filter_le f (l.take q)
  rw [List.length_take] at h1
  omega
theorem in_pos {wa n : Int} (h : inB wa 1 n = true) : 1 ≤ wa ∧ wa ≤ n := by
  unfold inB at h
  simp only [Bool.and_eq_true, decide_eq_true_eq] at h
  exact h
/-- A bucket is appended. -/
theorem wpList_appB1 {w : World} {ops : Array Oper} {rest : List Oper} {o : Oper} {a : Act} {Q : Exit → Act → World → Prop} (hgd : o.guard = none) (s x : Operand)
    (ho : o.op = .call { callee := .builtin .append, args := #[s, x], argTypes := #[31, 31] }) (V : World) (v : Value) (r : List Bk) (hs : a.eval s = v) (hI : BrI V v r w)
    (g : Nat) (b : Bk) (hx : a.eval x = .slice (some ⟨g, 0, none⟩) 1 1) (hg : g < w.heap.size) (hc : Cb w g 0 b) (hn : r.length ≤ 100)
    (h : ∀ v' w', BrI V v' (r ++ [b]) w' → wpList Tryd.prog ops Q rest (a.put o.dst v') w') : wpList Tryd.prog ops Q (o :: rest) a w :=
  wpList_appB hgd s x ho V.heap.size v r.length (flatB r) hs hI.row (some ⟨g, 0, none⟩) 1 [b] 1 rfl hx (.inr ⟨g, 0, rfl, hg, fun i hi => by
    have : i = 0 := by simpa using hi
    subst this
    exact hc⟩) (by simp; omega) hI.bel.size (fun v' w' h1 h2 => h v' w' (hI.app h2 (by rw [List.length_append, flatB_append]; exact h1)))
set_option maxRecDepth 20000 in
set_option maxHeartbeats 8000000 in
theorem weighty_any (a : Option Addr) (l : List Bk) (c : Nat) (w : World) (hT : Bs w a l) (hn : l.length ≤ 100) :
    Calls Tryd.prog 47 #[.slice a l.length c] w fun e w' => ∃ v, e = .returned v ∧ BrI w v (l.filter fun b => decide (0 < b.we)) w' := by
  have HT : Hid (∀ w', Below w.heap.size w w' → Bs w' a l) := (show ∀ w', _ from fun w' k => hT.below k)
  have HN : Hid (l.length ≤ 100) := hn
  clear hT hn
  go_enter Tryd.func47, Tryd.ntmps47
  go_wp2_with fail
  go_loopw [3, 8] (fun v3 v wr => ∃ q : Nat, q ≤ l.length ∧ v = .int .i64 q ∧ Hid (BrI w v3 ((l.take q).filter fun b => decide (0 < b.we)) wr)) (fun _ v _ => l.length - (intOf v).toNat)
  case atStart => exact ⟨0, Nat.zero_le _, rfl, (show BrI _ _ _ _ from ⟨World.ownsRow_nil _ _ _ _, Below.refl _ _⟩)⟩
  case round =>
    obtain ⟨q, hq, rfl, HI⟩ := hrel
    have hn := HN.out
    by_cases hlt : q < l.length
    · obtain ⟨b, o, rfl, hb, hc⟩ := (HT.out _ HI.out.bel).at hlt
      obtain ⟨d0, d1, d2⟩ := hc q hlt
      have HF : Hid ((l.take (q + 1)).filter (fun b => decide (0 < b.we)) = (l.take q).filter (fun b => decide (0 < b.we)) ++ (if decide (0 < l[q].we) = true then [l[q]] else [])) := filt_snoc _ l q hlt
      have HL : Hid (((l.take q).filter fun b => decide (0 < b.we)).length ≤ 100) := (show _ ≤ _ from Nat.le_trans (filt_len _ l q) hn)
      clear hc
      generalize l[q] = X at *
      obtain ⟨wa, we, xa, xl, xc⟩ := X
      simp only at d0 d1 d2 HF
      cases hwe : decide (0 < we) with
      | false =>
        have HI1 : Hid (BrI w u3 ((l.take (q + 1)).filter fun b => decide (0 < b.we)) (wr.alloc (.cells #[.int .i64 wa, .int .i64 we, .slice xa xl.length xc] 51))) := (show BrI _ _ _ _ by rw [HF.out, hwe]; simpa using HI.out.grow (by go_grown))
        clear HI HF
        go_wp2_with fail
        go_roundw
        case rel => exact ⟨q + 1, by omega, by go_num, HI1⟩
        case measure => simp [intOf]; omega
      | true =>
        have HI1 : Hid (BrI w u3 ((l.take q).filter fun b => decide (0 < b.we)) ((wr.alloc (.cells #[.int .i64 wa, .int .i64 we, .slice xa xl.length xc] 51)).alloc (.cells #[.int .i64 wa, .int .i64 we, .slice xa xl.length xc] 51))) := (show BrI _ _ _ _ from HI.out.grow (by go_grown))
        have HF1 : Hid ((l.take (q + 1)).filter (fun b => decide (0 < b.we)) = (l.take q).filter (fun b => decide (0 < b.we)) ++ [Bk.mk wa we xa xl xc]) := (show _ = _ by rw [HF.out, hwe]; simp)
        clear HI HF
        go_wp2_with (at_builtin; refine wpList_appB1 rfl _ _ rfl w u3 _ rfl HI1.out (wr.heap.size + 1) ⟨wa, we, xa, xl, xc⟩ rfl (by simp) ⟨by simp, by simp, by simp⟩ HL.out ?_; intro v' w1 ho)
        have HI2 : Hid (BrI w v' ((l.take (q + 1)).filter fun b => decide (0 < b.we)) w1) := (show BrI _ _ _ _ by rw [HF1.out]; exact ho)
        clear ho HI1 HF1
        go_wp2_with fail
        go_roundw
        case rel => exact ⟨q + 1, by omega, by go_num, HI2⟩
        case measure => simp [intOf]; omega
    · have e : q = l.length := by omega
      subst e
      have HI1 : Hid (BrI w u3 (l.filter fun b => decide (0 < b.we)) wr) := (show BrI _ _ _ _ by have := HI.out; rwa [List.take_length] at this)
      clear HI
      go_wp2_with fail
      go_ret
      exact ⟨_, rfl, HI1.out⟩
set_option maxRecDepth 20000 in
set_option maxHeartbeats 8000000 in
theorem alive_any (a : Option Addr) (l : List Bk) (c : Nat) (la : Option Addr) (live : List Bool) (lc : Nat) (w : World) (hT : Bs w a l) (hn : l.length ≤ 100) (hV : Ls w la live) (hm : live.length ≤ 1000) :
    Calls Tryd.prog 45 #[.slice a l.length c, .slice la live.length lc] w fun e w' => ∃ v, e = .returned v ∧ BrI w v (l.filter fun b => alvB live b.wa) w' := by
  have HT : Hid (∀ w', Below w.heap.size w w' → Bs w' a l ∧ Ls w' la live) := (show ∀ w', _ from fun w' k => ⟨hT.below k, hV.below k⟩)
  have HN : Hid (l.length ≤ 100 ∧ live.length ≤ 1000) := (show _ ∧ _ from ⟨hn, hm⟩)
  have HW : Hid (∀ n lo hi w, Calls Tryd.prog 27 #[.int .i64 n, .int .i64 lo, .int .i64 hi] w fun e w' => e = .returned (.bool (inB n lo hi)) ∧ w' = w) := (show ∀ n lo hi w, _ from within_any)
  clear hT hn hV hm
  go_enter Tryd.func45, Tryd.ntmps45
  go_wp2_with fail
  go_loopw [5, 10] (fun v5 v wr => ∃ q : Nat, q ≤ l.length ∧ v = .int .i64 q ∧ Hid (BrI w v5 ((l.take q).filter fun b => alvB live b.wa) wr)) (fun _ v _ => l.length - (intOf v).toNat)
  case atStart => exact ⟨0, Nat.zero_le _, rfl, (show BrI _ _ _ _ from ⟨World.ownsRow_nil _ _ _ _, Below.refl _ _⟩)⟩
  case round =>
    obtain ⟨q, hq, rfl, HI⟩ := hrel
    obtain ⟨hn, hm⟩ := HN.out
    by_cases hlt : q < l.length
    · obtain ⟨hBs, hLs⟩ := HT.out _ HI.out.bel
      obtain ⟨b, o, rfl, hb, hc⟩ := hBs.at hlt
      obtain ⟨d0, d1, d2⟩ := hc q hlt
      have HF : Hid ((l.take (q + 1)).filter (fun b => alvB live b.wa) = (l.take q).filter (fun b => alvB live b.wa) ++ (if alvB live l[q].wa = true then [l[q]] else [])) := filt_snoc _ l q hlt
      have HL : Hid (((l.take q).filter fun b => alvB live b.wa).length ≤ 100) := (show _ ≤ _ from Nat.le_trans (filt_len _ l q) hn)
      have HLs : Hid (Ls wr la live) := hLs
      clear hc hBs hLs
      generalize l[q] = X at *
      obtain ⟨wa, we, xa, xl, xc⟩ := X
      simp only at d0 d1 d2 HF
      cases h0 : (wa == 0) with
      | true =>
        have HAV : Hid (alvB live wa = true) := (show _ = _ by unfold alvB; rw [h0]; rfl)
        have HI1 : Hid (BrI w u5 ((l.take q).filter fun b => alvB live b.wa) ((wr.alloc (.cells #[.int .i64 wa, .int .i64 we, .slice xa xl.length xc] 51)).alloc (.cells #[.int .i64 wa, .int .i64 we, .slice xa xl.length xc] 51))) := (show BrI _ _ _ _ from HI.out.grow (by go_grown))
        have HF1 : Hid ((l.take (q + 1)).filter (fun b => alvB live b.wa) = (l.take q).filter (fun b => alvB live b.wa) ++ [Bk.mk wa we xa xl xc]) := (show _ = _ by rw [HF.out, HAV.out]; simp)
        clear HI HF
        go_wp2_with (first | (go_at_call 27; refine (HW.out _ _ _ _).mono ?_; rintro e w' ⟨rfl, rfl⟩) | (at_builtin; refine wpList_appB1 rfl _ _ rfl w u5 _ rfl HI1.out (wr.heap.size + 1) ⟨wa, we, xa, xl, xc⟩ rfl (by simp) ⟨by simp, by simp, by simp⟩ HL.out ?_; intro v' w1 ho))
        have HI2 : Hid (BrI w v' ((l.take (q + 1)).filter fun b => alvB live b.wa) w1) := (show BrI _ _ _ _ by rw [HF1.out]; exact ho)
        clear ho HI1 HF1
        go_wp2_with fail
        go_roundw
        case rel => exact ⟨q + 1, by omega, by go_num, HI2⟩
        case measure => simp [intOf]; omega
      | false =>
        cases h1 : inB wa 1 ((live.length : Int) - 1) with
        | false =>
          have HAV : Hid (alvB live wa = false) := (show _ = _ by unfold alvB; rw [h0, h1]; rfl)
          have HI1 : Hid (BrI w u5 ((l.take (q + 1)).filter fun b => alvB live b.wa) (wr.alloc (.cells #[.int .i64 wa, .int .i64 we, .slice xa xl.length xc] 51))) := (show BrI _ _ _ _ by rw [HF.out, HAV.out]; simpa using HI.out.grow (by go_grown))
          clear HI HF
          go_wp2_with (go_at_call 27; refine (HW.out _ _ _ _).mono ?_; rintro e w' ⟨rfl, rfl⟩)
          go_roundw
          case rel => exact ⟨q + 1, by omega, by go_num, HI1⟩
          case measure => simp [intOf]; omega
        | true =>
          obtain ⟨p0, p1⟩ := in_pos h1
          have hlv : wa.toNat < live.length := by omega
          obtain ⟨lg, lo, rfl, hlg, hlc⟩ : ∃ g o, la = some ⟨g, o, none⟩ ∧ g < wr.heap.size ∧ ∀ i (h : i < live.length), wr.cell? ⟨g, o + i, none⟩ = some (.bool live[i]) := by
            rcases HLs.out with h | h
            · subst h; simp at hlv
            · exact h
          have hcell := hlc wa.toNat hlv
          have HLv : Hid (livB live wa = live[wa.toNat]) := (show _ = _ by unfold livB; simp [List.getD, hlv])
          clear hlc HLs
          cases h2 : live[wa.toNat] with
          | false =>
            rw [h2] at hcell
            have HAV : Hid (alvB live wa = false) := (show _ = _ by unfold alvB; rw [h0, h1, HLv.out, h2]; rfl)
            clear h2 HLv
            have HI1 : Hid (BrI w u5 ((l.take (q + 1)).filter fun b => alvB live b.wa) (wr.alloc (.cells #[.int .i64 wa, .int .i64 we, .slice xa xl.length xc] 51))) := (show BrI _ _ _ _ by rw [HF.out, HAV.out]; simpa using HI.out.grow (by go_grown))
            clear HI HF
            go_wp2_with (go_at_call 27; refine (HW.out _ _ _ _).mono ?_; rintro e w' ⟨rfl, rfl⟩)
            go_roundw
            case rel => exact ⟨q + 1, by omega, by go_num, HI1⟩
            case measure => simp [intOf]; omega
          | true =>
            rw [h2] at hcell
            have HAV : Hid (alvB live wa = true) := (show _ = _ by unfold alvB; rw [h0, h1, HLv.out, h2]; rfl)
            clear h2 HLv
            have HI1 : Hid (BrI w u5 ((l.take q).filter fun b => alvB live b.wa) ((wr.alloc (.cells #[.int .i64 wa, .int .i64 we, .slice xa xl.length xc] 51)).alloc (.cells #[.int .i64 wa, .int .i64 we, .slice xa xl.length xc] 51))) := (show BrI _ _ _ _ from HI.out.grow (by go_grown))
            have HF1 : Hid ((l.take (q + 1)).filter (fun b => alvB live b.wa) = (l.take q).filter (fun b => alvB live b.wa) ++ [Bk.mk wa we xa xl xc]) := (show _ = _ by rw [HF.out, HAV.out]; simp)
            clear HI HF
            go_wp2_with (first | (go_at_call 27; refine (HW.out _ _ _ _).mono ?_; rintro e w' ⟨rfl, rfl⟩) | (at_builtin; refine wpList_appB1 rfl _ _ rfl w u5 _ rfl HI1.out (wr.heap.size + 1) ⟨wa, we, xa, xl, xc⟩ rfl (by simp) ⟨by simp, by simp, by simp⟩ HL.out ?_; intro v' w1 ho))
            have HI2 : Hid (BrI w v' ((l.take (q + 1)).filter fun b => alvB live b.wa) w1) := (show BrI _ _ _ _ by rw [HF1.out]; exact ho)
            clear ho HI1 HF1
            go_wp2_with fail
            go_roundw
            case rel => exact ⟨q + 1, by omega, by go_num, HI2⟩
            case measure => simp [intOf]; omega
    · have e : q = l.length := by omega
      subst e
      have HI1 : Hid (BrI w u5 (l.filter fun b => alvB live b.wa) wr) := (show BrI _ _ _ _ by have := HI.out; rwa [List.take_length] at this)
      clear HI
      go_wp2_with fail
      go_ret
      exact ⟨_, rfl, HI1.out⟩
end Go.Proofs.YteodlkgbakkjmaaDoor

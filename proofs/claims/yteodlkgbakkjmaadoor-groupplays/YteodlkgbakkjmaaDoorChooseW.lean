/-
  What Choose answers, as a contract.
-/
import Derived.Test.YteodlkgbakkjmaaDoorChoose
namespace Go.Proofs.YteodlkgbakkjmaaDoor
open Go.ChangeShapes Go.WideShapes Go.ChangeAt Go.RowKit
set_option linter.unusedVariables false

/-- What is asked of a group whose buckets are chosen. -/
structure ChW (w : World) (g : Gr) (la : Option Addr) (live : List Bool) : Prop where
  bs : Bs w g.a g.l
  sm : Sm g.l
  we : ∀ b ∈ g.l, b.we ≤ 1099511627776
  ls : Ls w la live
  ln : live.length ≤ 1000
theorem sm_sub {l r : List Bk} (h : Sm l) (hl : r.length ≤ l.length) (hm : ∀ b ∈ r, b ∈ l) : Sm r := ⟨Nat.le_trans hl h.n, fun b hb => h.a b (hm b hb)⟩
theorem bs_sub {w : World} {a : Option Addr} {l r : List Bk} {a' : Option Addr} (h : Bs w a l) (hm : ∀ b ∈ r, b ∈ l) {w' : World} (k : Below w.heap.size w w') (hr : Rs w' a' r) : Bs w' a' r := ⟨fun b hb => (h.1 b (hm b hb)).below k, hr⟩
set_option maxRecDepth 20000 in
set_option maxHeartbeats 8000000 in
theorem choose_any (g : Gr) (la : Option Addr) (live : List Bool) (lc : Nat) (n : Int) (w : World) (h : ChW w g la live) (n0 : -9223372036854775808 ≤ n) (n1 : n ≤ 9223372036854775807) :
    Calls Tryd.prog 23 #[gV g, .slice la live.length lc, .int .i64 n] w fun e w' => ∃ a' c' r, e = .returned (.slice a' r.length c') ∧ r.map Bk.b3 = (chooseL g.kd g.l live n).map Bk.b3 ∧ BsF w.heap.size w' a' r ∧ Below w.heap.size w w' := by
  obtain ⟨id, kd, ga, l, gc⟩ := g
  obtain ⟨hT, hS, hwe, hLs, hln⟩ := h
  simp only at hT hS hwe
  obtain ⟨V, hV⟩ : ∃ V, w.alloc (.cells #[.int .i64 id, .int .i64 kd, .slice ga l.length gc] 33) = V := ⟨_, rfl⟩
  have GV : Below w.heap.size w V := by rw [← hV]; go_grown
  have cV : Cg V w.heap.size 0 ⟨id, kd, ga, l, gc⟩ := by rw [← hV]; exact Cg.new w ⟨id, kd, ga, l, gc⟩
  have c1 : V.cell? ⟨w.heap.size, 1, none⟩ = some (.int .i64 kd) := cV.2.1
  have c2 : V.cell? ⟨w.heap.size, 2, none⟩ = some (.slice ga l.length gc) := cV.2.2
  have TV : Bs V ga l := hT.below GV
  have HV : Hid (w.alloc (.cells #[.int .i64 id, .int .i64 kd, .slice ga l.length gc] 33) = V) := hV
  have HGV : Hid (Below w.heap.size w V) := GV
  -- copies of buckets that are some of the group's
  have HC : Hid (∀ (a' : Option Addr) (r : List Bk) (c' : Nat) w1, Below V.heap.size V w1 → Rs w1 a' r → r.length ≤ l.length → (∀ b ∈ r, b ∈ l) → Calls Tryd.prog 43 #[.slice a' r.length c'] w1 fun e w' => ∃ a'' c'' r', e = .returned (.slice a'' r'.length c'') ∧ r'.map Bk.b3 = r.map Bk.b3 ∧ BsF w.heap.size w' a'' r' ∧ Below w.heap.size w w') := (show ∀ (a' : Option Addr) (r : List Bk) (c' : Nat) w1, _ from fun a' r c' w1 k hr hl hm => by
    refine (copies_any a' r c' w1 (bs_sub TV hm k hr) (sm_sub hS hl hm)).mono ?_
    rintro e w' ⟨a'', c'', r', rfl, h1, h2, h3⟩
    have hz := GV.size
    have hk := k.size
    exact ⟨a'', c'', r', rfl, h1, h2.mono (by omega) (Nat.le_refl _) (fun _ _ _ => rfl), btr (btr GV k (Nat.le_refl _)) h3 (Nat.le_refl _)⟩)
  have HAl : Hid (Calls Tryd.prog 45 #[.slice ga l.length gc, .slice la live.length lc] V fun e w' => ∃ v, e = .returned v ∧ BrI V v (l.filter fun b => alvB live b.wa) w') := alive_any ga l gc la live lc V TV hS.n (hLs.below GV) hln
  have hfl : (l.filter fun b => alvB live b.wa).length ≤ l.length := List.length_filter_le _ _
  have hfm : ∀ b ∈ (l.filter fun b => alvB live b.wa), b ∈ l := fun b hb => (List.mem_filter.1 hb).1
  have hRs0 : Rs V ga l := TV.2
  show Calls Tryd.prog 23 #[.agg #[.int .i64 id, .int .i64 kd, .slice ga l.length gc], .slice la live.length lc, .int .i64 n] w fun e w' => ∃ a' c' r, e = .returned (.slice a' r.length c') ∧ r.map Bk.b3 = (chooseL kd l live n).map Bk.b3 ∧ BsF w.heap.size w' a' r ∧ Below w.heap.size w w'
  have hS100 := hS.n
  rcases kind4 kd with rfl | rfl | rfl | rfl | ⟨b1, b2, b3, b4, hk⟩
  · have hch : chooseL 1 l live n = l := by unfold chooseL; rw [if_pos (.inl rfl)]
    rw [hch]
    have HCC : Hid (Calls Tryd.prog 43 #[.slice ga l.length gc] V fun e w' => ∃ a'' c'' r', e = .returned (.slice a'' r'.length c'') ∧ r'.map Bk.b3 = l.map Bk.b3 ∧ BsF w.heap.size w' a'' r' ∧ Below w.heap.size w w') := HC.out ga l gc V (Below.refl _ _) hRs0 (Nat.le_refl _) (fun _ hb => hb)
    clear hT hS hwe hLs hln hV GV cV TV HC HAl hfl hfm hRs0 hch
    go_enter Tryd.func23, Tryd.ntmps23
    go_wp2_with fail
    rw [HV.out]
    refine HCC.out.mono ?_
    rintro e w1 ⟨a'', c'', r', rfl, h1, h2, h3⟩
    go_wp2_with fail
    go_ret
    exact ⟨a'', c'', r', rfl, h1, h2, h3⟩
  · -- Select
    have hch : chooseL 2 l live n = pickL ((l.filter fun b => alvB live b.wa).filter fun b => decide (0 < b.we)) n := by unfold chooseL; rw [if_neg (by decide), if_neg (by decide), if_pos rfl]
    rw [hch]
    have hW : Wt ((l.filter fun b => alvB live b.wa).filter fun b => decide (0 < b.we)) := fun b hb => by
      obtain ⟨h1, h2⟩ := List.mem_filter.1 hb
      exact ⟨of_decide_eq_true h2, hwe b (hfm b h1)⟩
    have hfl2 : ((l.filter fun b => alvB live b.wa).filter fun b => decide (0 < b.we)).length ≤ l.length := Nat.le_trans (List.length_filter_le _ _) hfl
    have HW : Hid (∀ v w1, BrI V v (l.filter fun b => alvB live b.wa) w1 → Calls Tryd.prog 47 #[v] w1 fun e w' => ∃ v', e = .returned v' ∧ BrI V v' ((l.filter fun b => alvB live b.wa).filter fun b => decide (0 < b.we)) w') := (show ∀ v w1, _ from fun v w1 k => by
      obtain ⟨a, c, e, _, _, k3⟩ := k.rs
      rw [e]
      refine (weighty_any a _ c w1 ⟨fun b hb => (TV.1 b (hfm b hb)).below k.bel, k3⟩ (by omega)).mono ?_
      rintro e w' ⟨v', rfl, h1⟩
      have hz := k.bel.size
      exact ⟨v', rfl, ⟨by
        rcases h1.row.2 with ⟨x1, x2⟩ | ⟨g, cap, cur, x1, x2, x3⟩
        · exact ⟨h1.row.1, .inl ⟨x1, x2⟩⟩
        · exact ⟨h1.row.1, .inr ⟨g, cap, cur, x1, by omega, x3⟩⟩, btr k.bel h1.bel (Nat.le_refl _)⟩⟩)
    have HP : Hid (∀ v w1, BrI V v ((l.filter fun b => alvB live b.wa).filter fun b => decide (0 < b.we)) w1 → Calls Tryd.prog 46 #[v, .int .i64 n] w1 fun e w' => ∃ a' c', e = .returned (.slice a' (pickL ((l.filter fun b => alvB live b.wa).filter fun b => decide (0 < b.we)) n).length c') ∧ Rs w' a' (pickL ((l.filter fun b => alvB live b.wa).filter fun b => decide (0 < b.we)) n) ∧ Below V.heap.size V w') := (show ∀ v w1, _ from fun v w1 k => picked_any V v _ w1 k (by omega) hW n n0 n1)
    have hpm : ∀ b ∈ pickL ((l.filter fun b => alvB live b.wa).filter fun b => decide (0 < b.we)) n, b ∈ (l.filter fun b => alvB live b.wa).filter fun b => decide (0 < b.we) := fun b hb => pickL_mem hb
    have HPm : Hid (∀ b ∈ pickL ((l.filter fun b => alvB live b.wa).filter fun b => decide (0 < b.we)) n, b ∈ l) := (show ∀ b, _ from fun b hb => hfm b (List.mem_filter.1 (hpm b hb)).1)
    have HPl : Hid ((pickL ((l.filter fun b => alvB live b.wa).filter fun b => decide (0 < b.we)) n).length ≤ l.length) := (show _ ≤ _ by
      have h1 := pickL_len ((l.filter fun b => alvB live b.wa).filter fun b => decide (0 < b.we)) n
      by_cases hz : pickL ((l.filter fun b => alvB live b.wa).filter fun b => decide (0 < b.we)) n = []
      · rw [hz]; simp
      · obtain ⟨x, hx⟩ := List.exists_mem_of_ne_nil _ hz
        have hxl : x ∈ l := HPm.out x hx
        have : 0 < l.length := List.length_pos_of_mem hxl
        omega)
    clear hT hS hwe hLs hln hV GV cV TV hfl hfm hRs0 hch hW hfl2 hpm
    generalize pickL ((l.filter fun b => alvB live b.wa).filter fun b => decide (0 < b.we)) n = PL at *
    generalize (l.filter fun b => alvB live b.wa).filter (fun b => decide (0 < b.we)) = WL at *
    generalize l.filter (fun b => alvB live b.wa) = AL at *
    go_enter Tryd.func23, Tryd.ntmps23
    go_wp2_with fail
    rw [HV.out]
    refine HAl.out.mono ?_
    rintro e w1 ⟨v1, rfl, k1⟩
    have K1 : Hid (BrI V v1 AL w1) := k1
    clear k1
    go_wp2_with fail
    refine (HW.out v1 w1 K1.out).mono ?_
    rintro e w2 ⟨v2, rfl, k2⟩
    have K2 : Hid (BrI V v2 WL w2) := k2
    clear k2
    go_wp2_with fail
    refine (HP.out v2 w2 K2.out).mono ?_
    rintro e w3 ⟨a3, c3, rfl, k3, g3⟩
    have K3 : Hid (Rs w3 a3 PL ∧ Below V.heap.size V w3) := (show _ ∧ _ from ⟨k3, g3⟩)
    clear k3 g3
    go_wp2_with fail
    refine (HC.out a3 PL c3 w3 K3.out.2 K3.out.1 HPl.out HPm.out).mono ?_
    rintro e w4 ⟨a'', c'', r', rfl, h1, h2, h3⟩
    go_wp2_with fail
    go_ret
    exact ⟨a'', c'', r', rfl, h1, h2, h3⟩
  · have hch : chooseL 3 l live n = l := by unfold chooseL; rw [if_pos (.inr rfl)]
    rw [hch]
    have HCC : Hid (Calls Tryd.prog 43 #[.slice ga l.length gc] V fun e w' => ∃ a'' c'' r', e = .returned (.slice a'' r'.length c'') ∧ r'.map Bk.b3 = l.map Bk.b3 ∧ BsF w.heap.size w' a'' r' ∧ Below w.heap.size w w') := HC.out ga l gc V (Below.refl _ _) hRs0 (Nat.le_refl _) (fun _ hb => hb)
    clear hT hS hwe hLs hln hV GV cV TV HC HAl hfl hfm hRs0 hch
    go_enter Tryd.func23, Tryd.ntmps23
    go_wp2_with fail
    rw [HV.out]
    refine HCC.out.mono ?_
    rintro e w1 ⟨a'', c'', r', rfl, h1, h2, h3⟩
    go_wp2_with fail
    go_ret
    exact ⟨a'', c'', r', rfl, h1, h2, h3⟩
  · -- Failover
    have hch : chooseL 4 l live n = (l.filter fun b => alvB live b.wa).take 1 := by unfold chooseL; rw [if_neg (by decide), if_pos rfl]
    rw [hch]
    have HF : Hid (∀ v w1, BrI V v (l.filter fun b => alvB live b.wa) w1 → Calls Tryd.prog 44 #[v] w1 fun e w' => ∃ a' c', e = .returned (.slice a' ((l.filter fun b => alvB live b.wa).take 1).length c') ∧ Rs w' a' ((l.filter fun b => alvB live b.wa).take 1) ∧ w' = w1) := (show ∀ v w1, _ from fun v w1 k => by
      obtain ⟨a, c, e, k1, k2, k3⟩ := k.rs
      rw [e]
      exact first_any a _ c w1 k3 (by omega) k1 k2)
    have HPm : Hid (∀ b ∈ (l.filter fun b => alvB live b.wa).take 1, b ∈ l) := (show ∀ b, _ from fun b hb => hfm b (List.mem_of_mem_take hb))
    have HPl : Hid (((l.filter fun b => alvB live b.wa).take 1).length ≤ l.length) := (show _ ≤ _ by rw [List.length_take]; omega)
    clear hT hS hwe hLs hln hV GV cV TV hfl hfm hRs0 hch
    generalize l.filter (fun b => alvB live b.wa) = AL at *
    generalize AL.take 1 = PL at *
    go_enter Tryd.func23, Tryd.ntmps23
    go_wp2_with fail
    rw [HV.out]
    refine HAl.out.mono ?_
    rintro e w1 ⟨v1, rfl, k1⟩
    have K1 : Hid (BrI V v1 AL w1) := k1
    clear k1
    go_wp2_with fail
    refine (HF.out v1 w1 K1.out).mono ?_
    rintro e w2 ⟨a3, c3, rfl, k3, rfl⟩
    have K3 : Hid (Rs w2 a3 PL) := k3
    clear k3
    go_wp2_with fail
    refine (HC.out a3 PL c3 w2 K1.out.bel K3.out HPl.out HPm.out).mono ?_
    rintro e w4 ⟨a'', c'', r', rfl, h1, h2, h3⟩
    go_wp2_with fail
    go_ret
    exact ⟨a'', c'', r', rfl, h1, h2, h3⟩
  · have hch : chooseL kd l live n = [] := by
      simp at b1 b2 b3 b4
      unfold chooseL
      rw [if_neg (by omega), if_neg b4, if_neg b2]
    rw [hch]
    clear hT hS hwe hLs hln hV GV cV TV HC HAl hfl hfm hRs0 hch hk
    go_enter Tryd.func23, Tryd.ntmps23
    go_wp2_with fail
    rw [HV.out]
    go_ret
    exact ⟨none, 0, [], rfl, rfl, ⟨by simp, .inl rfl⟩, HGV.out⟩
end Go.Proofs.YteodlkgbakkjmaaDoor

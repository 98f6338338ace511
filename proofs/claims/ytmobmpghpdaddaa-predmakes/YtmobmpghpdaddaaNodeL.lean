/-
  The cubes of one node.
-/
import Derived.Test.YtmobmpghpdaddaaRight
namespace Go.Proofs.Ytmobmpghpdaddaa
open Go.ChangeShapes Go.WideShapes Go.ChangeAt Go.RowKit
set_option linter.unusedVariables false

def nodeL (x : Nd) (ps : List (List K)) : Option (List K) :=
  if x.k = 1 then some [K.top] else if x.k = 3 then some [cubF [x.t]] else if x.k = 4 then andL [K.top] ps else if x.k = 5 then orL [] ps else if x.k = 6 then leftL [K.top] (ps.headD []) else some []
set_option maxRecDepth 20000 in
set_option maxHeartbeats 4000000 in
theorem nodeList_any (x : Nd) (a : Option Addr) (c : Nat) (b : Option Addr) (ps : List (List K)) (pc : Nat) (p : Int) (w : World) (hp : Pts w b ps) (hn : ps.length ≤ 1000) (hr : rnB x p = true) (hlen : ps.length = x.s.length) :
    Calls Try.prog 64 #[ndV x a c, .slice b ps.length pc] w fun e w' => LsR w (fun _ => False) (nodeL x ps) e w' := by
  obtain ⟨X, hX⟩ : ∃ X, w.alloc (.cells #[.int .i64 x.k, .int .i64 x.t.f, cv x.t.v, cv x.t.m, .slice a x.s.length c] 39) = X := ⟨_, rfl⟩
  have gX : Below w.heap.size w X := by rw [← hX]; go_grown
  have zX : X.heap.size = w.heap.size + 1 := by rw [← hX]; simp
  have d0 : X.cell? ⟨w.heap.size, 0, none⟩ = some (.int .i64 x.k) := by rw [← hX]; simp
  have d1 : X.cell? ⟨w.heap.size, 1, none⟩ = some (.int .i64 x.t.f) := by rw [← hX]; simp
  have d2 : X.cell? ⟨w.heap.size, 2, none⟩ = some (cv x.t.v) := by rw [← hX]; simp
  have d3 : X.cell? ⟨w.heap.size, 3, none⟩ = some (cv x.t.m) := by rw [← hX]; simp
  have HP : Hid (Pts X b ps) := hp.below gX
  have HG : Hid (Below w.heap.size w X ∧ w.heap.size < X.heap.size) := ⟨gX, by omega⟩
  have HUp : Hid (∀ r e w', LsR X (fun _ => False) r e w' → LsR w (fun _ => False) r e w') := (show ∀ r e w', _ from fun r e w' h => ⟨btr gX h.1 (by omega), h.2.imp (fun ⟨l, a, c, h1, h2, h3, h4, h5⟩ => ⟨l, a, c, h1, h2, h3, h4, fun p hp => .inl ((h5 p hp).elim (fun h => by omega) (fun h => h.elim))⟩) id⟩)
  have HT1 : Hid (∀ u (k : K), Sk cubL 20 (u.alloc (.cells (cubA k) 70)) (some ⟨u.heap.size, 0, none⟩) [k] ∧ Below u.heap.size u (u.alloc (.cells (cubA k) 70))) := (show ∀ u (k : K), _ from fun u k => ⟨.inr ⟨u.heap.size, 0, rfl, by simp, cs_new u k 70⟩, by go_grown⟩)
  have HFr : Hid (∀ u : World, X.heap.size ≤ u.heap.size → ∀ p, some (⟨u.heap.size, 0, none⟩ : Addr) = some p → w.heap.size ≤ p.block ∨ False) := (show ∀ u : World, _ from fun u hu p hp => by cases hp; exact .inl (by have := HG.out.2; show w.heap.size ≤ u.heap.size; omega))
  have HLen : Hid (ps.length = x.s.length) := hlen
  clear hp gX zX hlen
  by_cases k1 : x.k = 1
  · have HR : Hid (nodeL x ps = some [K.top]) := (show _ = _ by unfold nodeL; rw [if_pos k1])
    rw [k1] at d0 hX
    show Calls Try.prog 64 #[.agg #[.int .i64 x.k, .int .i64 x.t.f, cv x.t.v, cv x.t.m, .slice a x.s.length c], .slice b ps.length pc] w _
    rw [k1]
    clear hr k1
    go_enter Try.func64, Try.ntmps64
    go_wp2_with (refine wpList_top rfl rfl ?_; refine wpList_oneC rfl (.tmp 10) rfl K.top rfl ?_; have hT := HT1.out X K.top; have HT : Hid (LsR w (fun _ => False) (some [K.top]) (.returned (.tuple #[.slice (some ⟨X.heap.size, 0, none⟩) 1 1, .int .i64 0])) (X.alloc (.cells (cubA K.top) 70))) := (show LsR _ _ _ _ _ from ⟨btr HG.out.1 hT.2 (by have := HG.out.2; omega), .inl ⟨[K.top], _, 1, rfl, rfl, hT.1, by simp, HFr.out X (Nat.le_refl _)⟩⟩); clear hT)
    go_ret2
    rw [HR.out]
    exact HT.out
  by_cases k2 : x.k = 2
  · have HR : Hid (nodeL x ps = some []) := (show _ = _ by unfold nodeL; simp [k2])
    rw [k2] at d0 hX
    show Calls Try.prog 64 #[.agg #[.int .i64 x.k, .int .i64 x.t.f, cv x.t.v, cv x.t.m, .slice a x.s.length c], .slice b ps.length pc] w _
    rw [k2]
    clear hr k2
    go_enter Try.func64, Try.ntmps64
    go_wp2_with fail
    go_ret2
    rw [HR.out]
    exact HUp.out _ _ _ ⟨Below.refl _ _, .inl ⟨[], none, 0, rfl, rfl, .inl rfl, Nat.le_refl _, fun p hp => by cases hp⟩⟩
  by_cases k3 : x.k = 3
  · have HR : Hid (nodeL x ps = some [cubF [x.t]]) := (show _ = _ by unfold nodeL; simp [k3])
    have ht : trB x.t = true := by
      unfold rnB at hr
      rw [if_neg (by omega), if_pos k3, Bool.and_eq_true] at hr
      exact hr.1
    rw [k3] at d0 hX
    show Calls Try.prog 64 #[.agg #[.int .i64 x.k, .int .i64 x.t.f, cv x.t.v, cv x.t.m, .slice a x.s.length c], .slice b ps.length pc] w _
    rw [k3]
    have HC : Hid (Calls Try.prog 46 #[.slice (some ⟨X.heap.size, 0, none⟩) 1 1] (X.alloc (.cells #[.int .i64 x.t.f, cv x.t.v, cv x.t.m] 32)) fun e w' => e = .returned (.agg (cubA (cubF [x.t]))) ∧ Below X.heap.size X w') := (show Calls _ _ _ _ _ by
      have hC3 : C3 (X.alloc (.cells #[.int .i64 x.t.f, cv x.t.v, cv x.t.m] 32)) X.heap.size 0 x.t := ⟨by simp, by simp, by simp⟩
      have hTs : Ts (X.alloc (.cells #[.int .i64 x.t.f, cv x.t.v, cv x.t.m] 32)) (some ⟨X.heap.size, 0, none⟩) [x.t] := .inr ⟨X.heap.size, 0, rfl, by simp, fun i hi => by
        obtain rfl : i = 0 := by simp at hi; omega
        exact hC3⟩
      have hb := (trB_iff x.t).1 ht
      have := cubeOf_any (some ⟨X.heap.size, 0, none⟩) [x.t] 1 _ hTs (fun t h => by rw [List.mem_singleton] at h; subst h; exact ⟨hb.1, hb.2.1⟩) (by simp)
      exact this.mono fun e w' ⟨p1, p2⟩ => ⟨p1, btr (by go_grown) p2 (Nat.le_refl _)⟩)
    clear hr k3 ht
    generalize cubF [x.t] = kk at *
    go_enter Try.func64, Try.ntmps64
    go_wp2_with (first
      | (go_at_call 46; refine HC.out.mono ?_; rintro r w2 ⟨rfl, hb⟩; have HB : Hid (Below X.heap.size X w2) := hb; clear hb)
      | (refine wpList_oneC rfl (.tmp 17) rfl kk rfl ?_; have hT := HT1.out w2 kk; have HT : Hid (LsR w (fun _ => False) (some [kk]) (.returned (.tuple #[.slice (some ⟨w2.heap.size, 0, none⟩) 1 1, .int .i64 0])) (w2.alloc (.cells (cubA kk) 70))) := (show LsR _ _ _ _ _ from ⟨btr (btr HG.out.1 HB.out (by have := HG.out.2; omega)) hT.2 (by have := HG.out.2; omega), .inl ⟨[kk], _, 1, rfl, rfl, hT.1, by simp, HFr.out w2 HB.out.size⟩⟩); clear hT))
    go_ret2
    rw [HR.out]
    exact HT.out
  by_cases k4 : x.k = 4
  · have HR : Hid (nodeL x ps = andL [K.top] ps) := (show _ = _ by unfold nodeL; simp [k4])
    rw [k4] at d0 hX
    show Calls Try.prog 64 #[.agg #[.int .i64 x.k, .int .i64 x.t.f, cv x.t.v, cv x.t.m, .slice a x.s.length c], .slice b ps.length pc] w _
    rw [k4]
    have HC : Hid (Calls Try.prog 69 #[.slice b ps.length pc] X fun e w' => LsR X (fun _ => False) (andL [K.top] ps) e w') := andList_any b ps pc X HP.out hn
    clear hr k4
    generalize andL [K.top] ps = rr at *
    go_enter Try.func64, Try.ntmps64
    go_wp2_with (go_at_call 69; refine HC.out.mono ?_; rintro r w2 ⟨hb, hq⟩; have HB : Hid (Below X.heap.size X w2) := hb; clear hb; rcases hq with ⟨m, am, cm, rfl, rfl, hk, hc, hf⟩ | ⟨rfl, rfl⟩)
    all_goals
      go_ret2
      rw [HR.out]
      first
      | exact HUp.out _ _ _ ⟨HB.out, .inl ⟨_, _, _, rfl, rfl, hk, hc, hf⟩⟩
      | exact HUp.out _ _ _ ⟨HB.out, .inr ⟨rfl, rfl⟩⟩
  by_cases k5 : x.k = 5
  · have HR : Hid (nodeL x ps = orL [] ps) := (show _ = _ by unfold nodeL; simp [k5])
    rw [k5] at d0 hX
    show Calls Try.prog 64 #[.agg #[.int .i64 x.k, .int .i64 x.t.f, cv x.t.v, cv x.t.m, .slice a x.s.length c], .slice b ps.length pc] w _
    rw [k5]
    have HC : Hid (Calls Try.prog 70 #[.slice b ps.length pc] X fun e w' => LsR X (fun _ => False) (orL [] ps) e w') := orList_any b ps pc X HP.out hn HP.out.few
    clear hr k5
    generalize orL [] ps = rr at *
    go_enter Try.func64, Try.ntmps64
    go_wp2_with (go_at_call 70; refine HC.out.mono ?_; rintro r w2 ⟨hb, hq⟩; have HB : Hid (Below X.heap.size X w2) := hb; clear hb; rcases hq with ⟨m, am, cm, rfl, rfl, hk, hc, hf⟩ | ⟨rfl, rfl⟩)
    all_goals
      go_ret2
      rw [HR.out]
      first
      | exact HUp.out _ _ _ ⟨HB.out, .inl ⟨_, _, _, rfl, rfl, hk, hc, hf⟩⟩
      | exact HUp.out _ _ _ ⟨HB.out, .inr ⟨rfl, rfl⟩⟩
  by_cases k6 : x.k = 6
  · have HR : Hid (nodeL x ps = leftL [K.top] (ps.headD [])) := (show _ = _ by unfold nodeL; simp [k6])
    have h1 : ps.length = 1 := by
      have hlen := HLen.out
      unfold rnB at hr
      rw [if_neg (by omega), if_neg (by omega), if_neg (by omega), if_pos k6, Bool.and_eq_true, Bool.and_eq_true] at hr
      have := hr.1.2
      simp at this
      omega
    rw [k6] at d0 hX
    show Calls Try.prog 64 #[.agg #[.int .i64 x.k, .int .i64 x.t.f, cv x.t.v, cv x.t.m, .slice a x.s.length c], .slice b ps.length pc] w _
    rw [k6]
    obtain ⟨g, o, y, n, yc, rfl, hg, hcell, rfl, hnc, hsk⟩ := HP.out.at (j := 0) (by omega)
    have hp0 : ps[0] = ps.headD [] := by
      cases ps with
      | nil => simp at h1
      | cons q qs => rfl
    have hfew := HP.out.few ps[0] (List.getElem_mem _)
    rw [hp0] at hcell hnc hsk hfew
    rw [Nat.add_zero] at hcell
    obtain ⟨q, hq⟩ : ∃ q, ps.headD [] = q := ⟨_, rfl⟩
    rw [hq] at hcell hnc hsk hfew HR
    obtain ⟨Y, hY⟩ : ∃ Y, X.alloc (.cells (cubA K.top) 70) = Y := ⟨_, rfl⟩
    have hT := HT1.out X K.top
    rw [hY] at hT
    have hcY : Y.cell? ⟨g, o, none⟩ = some (.slice y q.length yc) := (hT.2.cell (p := ⟨g, o, none⟩) hg).trans hcell
    have HC : Hid (Calls Try.prog 71 #[.slice (some ⟨X.heap.size, 0, none⟩) 1 1, .slice y q.length yc] Y fun e w' => LsR Y (fun p => some (⟨X.heap.size, 0, none⟩ : Addr) = some p) (leftL [K.top] q) e w') := left_any (some ⟨X.heap.size, 0, none⟩) [K.top] 1 y q yc Y hT.1 (hsk.below hT.2) (by simp) (by simp) hfew
    have HUp2 : Hid (∀ r e w', LsR Y (fun p => some (⟨X.heap.size, 0, none⟩ : Addr) = some p) r e w' → LsR w (fun _ => False) r e w') := (show ∀ r e w', _ from fun r e w' h => HUp.out _ _ _ ⟨btr hT.2 h.1 (by omega), h.2.imp (fun ⟨l, a, c, h1, h2, h3, h4, h5⟩ => ⟨l, a, c, h1, h2, h3, h4, fun p hp => .inl ((h5 p hp).elim (fun h => Nat.le_trans hT.2.size h) (fun h => by cases h; exact Nat.le_refl _))⟩) id⟩)
    have hp1 : 0 < ps.length := by omega
    clear hr k6 hq h1 hT hsk hfew hnc hcell hp0 HT1
    generalize leftL [K.top] q = rr at *
    go_enter Try.func64, Try.ntmps64
    go_wp2_with (first
      | (refine wpList_top rfl rfl ?_; refine wpList_oneC rfl (.tmp 33) rfl K.top rfl ?_; rw [hY])
      | (go_at_call 71; refine HC.out.mono ?_; rintro r w2 ⟨hb, hq⟩; have HB : Hid (Below Y.heap.size Y w2) := hb; clear hb; rcases hq with ⟨m, am, cm, rfl, rfl, hk, hc, hf⟩ | ⟨rfl, rfl⟩))
    all_goals
      go_ret2
      rw [HR.out]
      first
      | exact HUp2.out _ _ _ ⟨HB.out, .inl ⟨_, _, _, rfl, rfl, hk, hc, hf⟩⟩
      | exact HUp2.out _ _ _ ⟨HB.out, .inr ⟨rfl, rfl⟩⟩
  exfalso
  unfold rnB at hr
  simp [k1, k2, k3, k4, k5, k6] at hr
end Go.Proofs.Ytmobmpghpdaddaa

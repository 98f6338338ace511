/-
  What the document's Modify answers and does, as a contract.
-/
import Derived.Test.YteodlkgbakkjmaaDoorRModP
namespace Go.Proofs.YteodlkgbakkjmaaDoor
open Go.ChangeShapes Go.WideShapes Go.ChangeAt Go.RowKit
set_option linter.unusedVariables false
open scoped Classical

set_option maxRecDepth 20000 in
set_option maxHeartbeats 32000000 in
theorem rmod_any {W : World} {rb : Nat} {room : Int} {v : Value} {L : List Gr} (g : Gr) (w : World) (h : RT W rb room v L w) (hL : L.length ≤ 64) (hT : Bs W g.a g.l) (hS : Sm g.l) (hU : ∀ b ∈ g.l, AWs b.l) (hCl : Cl L) :
    Calls Tryd.prog 15 #[ptr rb, gV g] w fun e w' => e = .returned (.int .i64 (modE L g)) ∧ (modE L g ≠ 0 → Below w.heap.size w w') ∧ (modE L g = 0 → RT W rb room v (putG g L) w' ∧ ∃ b, v.ownBlock = some b ∧ w.grownBy w' (some b)) := by
  have hTw : Bs w g.a g.l := hT.below h.bel
  have HRi : Hid (∀ w1, Below w.heap.size w w1 → Calls Tryd.prog 33 #[gV g] w1 fun e w' => e = .returned (.int .i64 (rightE g.p)) ∧ Below w1.heap.size w1 w') := (show ∀ w1, _ from fun w1 k => rright_g g w1 (hTw.below k) hS hU)
  have HAt : Hid (∀ w1, Below w.heap.size w w1 → Calls Tryd.prog 34 #[ptr rb, .int .i64 g.id] w1 fun e w' => ∃ m, e = .returned (.int .i64 m) ∧ AtR L g.id m ∧ w' = w1) := (show ∀ w1, _ from fun w1 k => rat_any g.id w1 (h.below k) hL)
  have HTh : Hid (rightE g.p = 0 → ∀ w1, Below w.heap.size w w1 → Calls Tryd.prog 35 #[ptr rb, gV g] w1 fun e w' => e = .returned (.bool (leadsAll L (g.l.map Bk.b3))) ∧ Below w1.heap.size w1 w') := (show _ → ∀ w1, _ from fun hr w1 k => rthere_any g w1 (h.below k) hL (hTw.below k) hS hr)
  have HLg : Hid (rightE g.p = 0 → ∀ w1, Below w.heap.size w w1 → Calls Tryd.prog 38 #[gV g] w1 fun e w' => ∃ v, e = .returned v ∧ OwnI w1.heap.size w' v (rawL (g.l.map Bk.b3)) ∧ (rawL (g.l.map Bk.b3)).length ≤ 10000 ∧ Below w1.heap.size w1 w') := (show _ → ∀ w1, _ from fun hr w1 k => rleads_any g w1 (hTw.below k) hS (LO_of hr))
  have HAx : Hid (∀ x, hasP L x = true → ∃ (k : Nat) (hk : k < L.length), L[k].id = x ∧ ∀ w1, Below w.heap.size w w1 → (Calls Tryd.prog 34 #[ptr rb, .int .i64 x] w1 fun e w' => e = .returned (.int .i64 k) ∧ w' = w1) ∧ Calls Tryd.prog 38 #[gV L[k]] w1 fun e w' => ∃ v, e = .returned v ∧ OwnI w1.heap.size w' v (rawL (L[k].l.map Bk.b3)) ∧ (rawL (L[k].l.map Bk.b3)).length ≤ 10000 ∧ Below w1.heap.size w1 w') := (show ∀ x, _ from fun x hx => by
    obtain ⟨y, hy, hid⟩ := hasP_iff.1 hx
    obtain ⟨k, hk, e⟩ := List.getElem_of_mem hy
    refine ⟨k, hk, by rw [e]; exact hid, fun w1 hb => ⟨?_, ?_⟩⟩
    · refine (rat_any x w1 (h.below hb) hL).mono ?_
      rintro e' w' ⟨m, rfl, hm, rfl⟩
      rcases hm with ⟨_, hf⟩ | ⟨k2, rfl, hk2, hid2⟩
      · rw [hx] at hf; cases hf
      · have : k2 = k := srt_idx h.srt hk2 hk (by rw [hid2, e]; exact hid.symm)
        subst this
        exact ⟨rfl, rfl⟩
    · obtain ⟨h1, h2, h3⟩ := h.grp L[k] (List.getElem_mem hk)
      exact rleads_any L[k] w1 (h1.below (btr h.bel hb (Nat.le_refl _))) h2 (LO_of h3))
  have HE : Hid (modE L g = if rightE g.p ≠ 0 then rightE g.p else if hasP L g.id = false then 31 else if leadsAll L (g.l.map Bk.b3) = false then 31 else if rcB L g = true then 30 else 0) := (show _ = _ from rfl)
  have HRT : Hid (∀ w1, Below w.heap.size w w1 → RT W rb room v L w1) := (show ∀ w1, _ from fun w1 k => h.below k)
  have HGr : Hid (rightE g.p = 0 → Bs W g.a g.l ∧ Sm g.l ∧ rightE g.p = 0) := (show _ → _ from fun hr => ⟨hT, hS, hr⟩)
  have HL : Hid (L.length ≤ 64) := hL
  have HCl : Hid (Cl L) := hCl
  have HS : Hid (SrtG L) := h.srt
  obtain ⟨V, hV⟩ : ∃ V, gx w g = V := ⟨_, rfl⟩
  have GV : Below w.heap.size w V := by rw [← hV]; go_grown
  have zV : w.heap.size < V.heap.size := by rw [← hV]; simp
  have hc := Cg.new w g
  rw [hV] at hc
  have HX : Hid (∀ w', Below V.heap.size V w' → (w'.cell? ⟨w.heap.size, 0, none⟩ = some (.int .i64 g.id) ∧ w'.cell? ⟨w.heap.size, 1, none⟩ = some (.int .i64 g.kd) ∧ w'.cell? ⟨w.heap.size, 2, none⟩ = some (.slice g.a g.l.length g.c)) ∧ Below w.heap.size w w' ∧ w.heap.size < w'.heap.size) := (show ∀ w', _ from fun w' k => ⟨hc.below zV k, btr GV k (Nat.le_refl _), Nat.lt_of_lt_of_le zV k.size⟩)
  have HV : Hid (w.alloc (.cells #[.int .i64 g.id, .int .i64 g.kd, .slice g.a g.l.length g.c] 33) = V) := hV
  obtain ⟨⟨k0, k1, k2⟩, _, kz⟩ := HX.out V (Below.refl _ _)
  clear h hL hT hTw hS hU hc zV hV hCl
  generalize modE L g = AE at *
  go_enter Tryd.func15, Tryd.ntmps15
  go_wp2_with fail
  rw [HV.out]
  refine (HRi.out V GV).mono ?_
  rintro e w1 ⟨rfl, g1⟩
  obtain ⟨⟨c0, c1, c2⟩, G1, z1⟩ := HX.out w1 g1
  clear k0 k1 k2 kz HRi HV
  by_cases hr : rightE g.p = 0
  case neg =>
    have hne : (rightE g.p != 0) = true := by simpa using hr
    have HE1 : Hid (AE = rightE g.p) := (show _ = _ by rw [HE.out, if_pos hr])
    have HR0 : Hid (rightE g.p ≠ 0) := hr
    clear hr HE
    go_wp2_with fail
    go_ret
    exact ⟨by rw [HE1.out]; rfl, fun _ => G1, fun e => absurd (HE1.out.symm.trans e) HR0.out⟩
  case pos =>
    have hne : (rightE g.p != 0) = false := by simp [hr]
    have HE1 : Hid (AE = if hasP L g.id = false then 31 else if leadsAll L (g.l.map Bk.b3) = false then 31 else if rcB L g = true then 30 else 0) := (show _ = _ by rw [HE.out, if_neg (by simp [hr])])
    have HR0 : Hid (rightE g.p = 0) := hr
    clear hr HE
    go_wp2_with fail
    refine (HAt.out w1 G1).mono ?_
    rintro e w2 ⟨m, rfl, hm, rfl⟩
    rcases hm with ⟨rfl, hf⟩ | ⟨k, rfl, hk, hid⟩
    · have HE2 : Hid (AE = 31) := (show _ = _ by rw [HE1.out, hf]; rfl)
      clear hf hne
      go_wp2_with fail
      go_ret
      exact ⟨by rw [HE2.out]; rfl, fun _ => G1, fun e => by rw [HE2.out] at e; cases e⟩
    · have HE1b : Hid (AE = if leadsAll L (g.l.map Bk.b3) = false then 31 else if rcB L g = true then 30 else 0) := (show _ = _ by rw [HE1.out, hasP_iff.2 ⟨_, List.getElem_mem hk, hid⟩]; rfl)
      have HK : Hid (L[k].id = g.id) := hid
      have hkn : ¬ ((k : Int) < 0) := by omega
      clear hid hne HE1
      go_wp2_with fail
      refine (HTh.out HR0.out w2 G1).mono ?_
      rintro e w4 ⟨rfl, g4⟩
      have G14 : Below V.heap.size V w4 := btr g1 g4 (Nat.le_refl _)
      obtain ⟨⟨f0, f1, f2⟩, G4, z4⟩ := HX.out w4 G14
      clear g4 c0 c1 c2 z1
      cases hLB : leadsAll L (g.l.map Bk.b3) with
      | false =>
        have HE2 : Hid (AE = 31) := (show _ = _ by rw [HE1b.out, hLB]; rfl)
        clear hLB
        go_wp2_with fail
        go_ret
        exact ⟨by rw [HE2.out]; rfl, fun _ => G4, fun e => by rw [HE2.out] at e; cases e⟩
      | true =>
        have HE2 : Hid (AE = if rcB L g = true then 30 else 0) := (show _ = _ by rw [HE1b.out, hLB]; rfl)
        have HLa : Hid (∀ x ∈ rawL (g.l.map Bk.b3), hasP L x = true) := List.all_eq_true.1 hLB
        clear hLB HE1b
        go_wp2_with fail
        refine (HLg.out HR0.out w4 G4).mono ?_
        rintro e w5 ⟨v5, rfl, ho, hn, g5⟩
        have G15 : Below V.heap.size V w5 := btr G14 g5 (Nat.le_refl _)
        have H0 : Hid (RcI V L g (rawL (g.l.map Bk.b3)) v5 (rawL (g.l.map Bk.b3)) w5) := (show RcI _ _ _ _ _ _ _ from ⟨own_mono ho G14.size, G15, fun x hx => Rc.base hx, fun x hx => hx, fun x hx => HLa.out x hx, [], by simp, by simp, by simp⟩)
        have HZ0 : Hid ((rawL (g.l.map Bk.b3)).length ≤ 10000) := hn
        clear ho hn g5 f0 f1 f2 z4 G15 G14 G4 HLg HTh HAt
        generalize rawL (g.l.map Bk.b3) = zs0 at *
        go_wp2_with fail
        go_loopw [7, 8] (fun v7 v wr => ∃ (q : Nat) (zs : List Int), q ≤ zs.length ∧ v = .int .i64 q ∧ Hid (RcI V L g zs0 v7 zs wr ∧ (∀ i (hi : i < zs.length), i < q → ClsAt L zs zs[i]) ∧ ∀ i (hi : i < zs.length), i < q → zs[i] ≠ g.id)) (fun _ v _ => 10065 - (intOf v).toNat)
        case atStart => exact ⟨0, zs0, Nat.zero_le _, rfl, (show _ ∧ _ ∧ _ from ⟨H0.out, fun i _ h => by omega, fun i _ h => by omega⟩)⟩
        case round =>
          obtain ⟨q, zs, hq, rfl, HI⟩ := hrel
          have hzl := HI.out.1.len HZ0.out HL.out
          obtain ⟨⟨x0, x1, x2⟩, Gw, zw⟩ := HX.out wr HI.out.1.bel
          have hTr := HRT.out wr Gw
          have s0 := hTr.c0
          have sl := hTr.lt
          by_cases hlt : q < zs.length
          · obtain ⟨b5, cap5, rfl, hb5, hcap5, hcell⟩ := own_at HI.out.1.own hlt
            have hhas := HI.out.1.has zs[q] (List.getElem_mem hlt)
            have HSn : Hid (Rc (L.map Gr.p) g.p zs[q]) := HI.out.1.snd _ (List.getElem_mem hlt)
            obtain ⟨k', hk', hid', HLq⟩ := HAx.out _ hhas
            obtain ⟨⟨gi, gk, ga, gl, gc⟩, hX⟩ : ∃ X, X = L[k'] := ⟨_, rfl⟩
            have HM : Hid (Gr.mk gi gk ga gl gc ∈ L ∧ gi = zs[q] ∧ Rc (L.map Gr.p) g.p zs[q]) := (show _ ∧ _ ∧ _ from ⟨by rw [hX]; exact List.getElem_mem hk', by rw [← hid', ← hX], HSn.out⟩)
            have HLq : Hid (∀ w1, Below w.heap.size w w1 → (Calls Tryd.prog 34 #[ptr rb, .int .i64 zs[q]] w1 fun e w' => e = .returned (.int .i64 k') ∧ w' = w1) ∧ Calls Tryd.prog 38 #[.agg #[.int .i64 gi, .int .i64 gk, .slice ga gl.length gc]] w1 fun e w' => ∃ v, e = .returned v ∧ OwnI w1.heap.size w' v (rawL (gl.map Bk.b3)) ∧ (rawL (gl.map Bk.b3)).length ≤ 10000 ∧ Below w1.heap.size w1 w') := (show ∀ w1, _ from fun w1 k => by
              have := HLq w1 k
              rw [← hX] at this
              exact this)
            obtain ⟨a, c, e, hlc, hc2, hor⟩ := hTr.slice
            subst e
            obtain ⟨b, hab, hbz, hcs⟩ : ∃ b, a = some ⟨b, 0, none⟩ ∧ b < wr.heap.size ∧ ∀ i (h : i < L.length), Cg wr b (i * 3) L[i] := by
              rcases hor with e | h
              · subst e; cases hk
              · exact h
            subst hab
            have hcg := hcs k' hk'
            rw [← hX] at hcg
            have HCg : Hid (∀ w', Below wr.heap.size wr w' → w'.cell? ⟨rb, 0, none⟩ = some (.slice (some ⟨b, 0, none⟩) L.length c) ∧ rb < w'.heap.size ∧ b < w'.heap.size ∧ w'.cell? ⟨b, k' * 3, none⟩ = some (.int .i64 gi) ∧ w'.cell? ⟨b, k' * 3 + 1, none⟩ = some (.int .i64 gk) ∧ w'.cell? ⟨b, k' * 3 + 2, none⟩ = some (.slice ga gl.length gc)) := (show ∀ w', _ from fun w' k => ⟨(k.cell (p := ⟨rb, 0, none⟩) sl).trans s0, Nat.lt_of_lt_of_le sl k.size, Nat.lt_of_lt_of_le hbz k.size, hcg.below hbz k⟩)
            have HI0 := HI.out
            have HI1 : Hid (RcI V L g zs0 (.slice (some ⟨b5, 0, none⟩) zs.length cap5) zs wr ∧ (∀ i (hi : i < zs.length), i < q → ClsAt L zs zs[i]) ∧ ∀ i (hi : i < zs.length), i < q → zs[i] ≠ g.id) := HI0
            have HGw : Hid (Below w.heap.size w wr) := Gw
            clear HI0 HI hTr hX hhas hid' hcs hor hcg Gw s0 sl hbz
            obtain ⟨Y, hY⟩ : ∃ Y, zs[q] = Y := ⟨_, rfl⟩
            have HY : Hid (zs[q] = Y) := hY
            rw [hY] at hcell HLq HSn
            cases hEq : (Y == g.id) with
            | true =>
              have HE3 : Hid (AE = 30) := (show _ = _ by rw [HE2.out, if_pos (rcB_iff.2 (by have := HSn.out; rwa [show Y = g.id by simpa using hEq] at this))])
              clear hY
              go_wp2_with fail
              go_quiet (fail)
              obtain ⟨w6, hw6⟩ : ∃ x, wr.drewN nq = x := ⟨_, rfl⟩
              have G6 : Below w.heap.size w w6 := by rw [← hw6]; exact bdr HGw.out _
              rw [hw6]
              go_wp2_with fail
              go_ret
              exact ⟨by rw [HE3.out]; rfl, fun _ => G6, fun e => by rw [HE3.out] at e; cases e⟩
            | false =>
              have HNe : Hid (zs[q] ≠ g.id) := (show _ ≠ _ by rw [hY]; simpa using hEq)
              clear hY
              go_wp2_with fail
              go_quiet (fail)
              obtain ⟨w6, hw6⟩ : ∃ x, wr.drewN nq = x := ⟨_, rfl⟩
              have k6 : Below wr.heap.size wr w6 := by rw [← hw6]; exact bdr (Below.refl _ _) _
              rw [hw6]
              have G6 : Below w.heap.size w w6 := btr HGw.out k6 (Nat.le_refl _)
              obtain ⟨s0, sl, sb, d0, d1, d2⟩ := HCg.out w6 k6
              have hcell6 := (k6.cell (p := ⟨b5, q, none⟩) hb5).trans hcell
              have hb56 : b5 < w6.heap.size := Nat.lt_of_lt_of_le hb5 k6.size
              have HI6 : Hid (RcI V L g zs0 (.slice (some ⟨b5, 0, none⟩) zs.length cap5) zs w6) := (show RcI _ _ _ _ _ _ _ from HI1.out.1.grow k6)
              obtain ⟨hat, hld⟩ := HLq.out w6.drew (btr G6 (bdr (Below.refl _ _) 1) (Nat.le_refl _))
              have HAq : Hid (Calls Tryd.prog 34 #[ptr rb, .int .i64 Y] w6.drew fun e w' => e = .returned (.int .i64 k') ∧ w' = w6.drew) := hat
              have HLdq : Hid (Calls Tryd.prog 38 #[.agg #[.int .i64 gi, .int .i64 gk, .slice ga gl.length gc]] w6.drew fun e w' => ∃ v, e = .returned v ∧ OwnI w6.drew.heap.size w' v (rawL (gl.map Bk.b3)) ∧ (rawL (gl.map Bk.b3)).length ≤ 10000 ∧ Below w6.drew.heap.size w6.drew w') := hld
              clear hat hld HLq HCg hw6 k6 hcell hb5 x0 x1 x2 zw G6
              go_wp2_with fail
              go_region_with (first
                | (go_at_call 34; refine HAq.out.mono ?_; rintro e wz ⟨rfl, hwz⟩; rw [hwz]; clear hwz)
                | (go_at_call 38; refine HLdq.out.mono ?_; rintro e w2 ⟨v2, rfl, ho2, hn2, g2⟩; obtain ⟨a2, c2, e2⟩ := own_len_eq ho2; subst e2))
              all_goals
                have hRi : RiI V L g zs0 zs a2 (rawL (gl.map Bk.b3)) 0 (.slice (some ⟨b5, 0, none⟩) zs.length cap5) zs w2 := ⟨(HI6.out.grow (bdr (Below.refl _ _) 1)).grow g2, ⟨[], by simp⟩, fun k _ h => by omega, LsR.start ho2 hb56⟩
                generalize hls : rawL (gl.map Bk.b3) = ls at *
                have HLs : Hid (rawL (gl.map Bk.b3) = ls) := hls
                have HRi : Hid (RiI V L g zs0 zs a2 ls 0 (.slice (some ⟨b5, 0, none⟩) zs.length cap5) zs w2) := hRi
                have HN2 : Hid (ls.length ≤ 10000) := hn2
                have HC2 : Hid (ls.length ≤ c2 ∨ ls = []) := (show _ ∨ _ by
                  rcases own_cells ho2 with ⟨e, _⟩ | ⟨b, cap, e, _, hcap, _⟩
                  · exact .inr e
                  · cases e; exact .inl hcap)
                clear hRi ho2 hn2 g2 hls hcell6 s0 sl sb d0 d1 d2 hcap5 hb56 HI6
                go_wp2_with fail
                try simp only [Act.put, List.setIfInBounds_toArray, List.set_cons_succ, List.set_cons_zero, List.getElem_toArray, List.getElem_cons_succ, List.getElem_cons_zero]
                go_loopw [7, 10] (fun v7 v wr2 => ∃ (j : Nat) (ts : List Int), j ≤ ls.length ∧ v = .int .i64 j ∧ Hid (RiI V L g zs0 zs a2 ls j v7 ts wr2)) (fun _ v _ => ls.length - (intOf v).toNat)
                case atStart => exact ⟨0, zs, Nat.zero_le _, rfl, HRi⟩
                case round =>
                  obtain ⟨j, ts, hj, rfl, HJ⟩ := hrel
                  have htl := HJ.out.i.len HZ0.out HL.out
                  have hl2 := HN2.out
                  by_cases hjt : j < ls.length
                  · obtain ⟨b6, rfl, hb6, hv6, hc6⟩ : ∃ b, a2 = some ⟨b, 0, none⟩ ∧ b < wr.heap.size ∧ u7.ownBlock ≠ some b ∧ ∀ i (hi : i < ls.length), wr.cell? ⟨b, i, none⟩ = some (.int .i64 ls[i]) := by
                      rcases HJ.out.r with h | h
                      · subst h; cases hjt
                      · exact h
                    have hcl := hc6 j hjt
                    have hcc : ls.length ≤ c2 := by
                      rcases HC2.out with h | h
                      · exact h
                      · subst h; cases hjt
                    have HCo : Hid (Calls Tryd.prog 39 #[u7, .int .i64 ls[j]] wr fun e w' => e = .returned (.bool (ts.contains ls[j])) ∧ w' = wr) := rhas_any _ u7 ts ls[j] wr HJ.out.i.own (by omega)
                    have hmem : ls[j] ∈ rawL (gl.map Bk.b3) := by rw [HLs.out]; exact List.getElem_mem hjt
                    have HRc : Hid (Rc (L.map Gr.p) g.p ls[j] ∧ hasP L ls[j] = true) := (show _ ∧ _ from ⟨Rc.step HM.out.2.2 (List.mem_map.2 ⟨_, HM.out.1, rfl⟩) HM.out.2.1 hmem, HCl.out _ HM.out.1 _ hmem⟩)
                    have HT1 : Hid (ts.contains ls[j] = true → RiI V L g zs0 zs (some ⟨b6, 0, none⟩) ls (j + 1) u7 ts wr) := (show _ → _ from fun hh => HJ.out.skip hjt (List.contains_iff_mem.1 hh))
                    have HF1 : Hid (ts.contains ls[j] = false → ∀ (w2 w3 : World) (v' : Value), Below wr.heap.size wr w2 → OwnI V.heap.size w3 v' (ts ++ [ls[j]]) → w2.grownBy w3 u7.ownBlock → (v'.ownBlock = u7.ownBlock ∨ v'.ownBlock = some w2.heap.size) → RiI V L g zs0 zs (some ⟨b6, 0, none⟩) ls (j + 1) v' (ts ++ [ls[j]]) w3) := (show _ → ∀ (w2 w3 : World) (v' : Value), _ from fun hh w2 w3 v' k ho hg hl => HJ.out.app hjt (fun hm => by rw [List.contains_iff_mem.2 hm] at hh; cases hh) k HRc.out.1 HRc.out.2 ho hg hl)
                    have HOw : Hid (∀ o : Obj, OwnI V.heap.size (wr.alloc o) u7 ts ∧ V.heap.size ≤ (wr.alloc o).heap.size) := (show ∀ o : Obj, _ from fun o => ⟨HJ.out.i.own.alloc o, by have := HJ.out.i.bel.size; simp; omega⟩)
                    clear hc6 hmem hv6
                    generalize ts.contains ls[j] = CB at *
                    generalize ls[j] = Z at *
                    cases CB with
                    | true =>
                      have HN1 : Hid (RiI V L g zs0 zs (some ⟨b6, 0, none⟩) ls (j + 1) u7 ts wr) := HT1.out (by trivial)
                      clear HF1 HT1
                      go_wp2_with fail
                      refine HCo.out.mono ?_
                      rintro e w3 ⟨rfl, rfl⟩
                      go_wp2_with fail
                      go_roundw
                      case rel => exact ⟨j + 1, ts, by omega, by go_num, HN1⟩
                      case measure => simp [intOf]; omega
                    | false =>
                      go_wp2_with fail
                      refine HCo.out.mono ?_
                      rintro e w3 ⟨rfl, rfl⟩
                      go_wp2_with (at_builtin; refine wpList_app1_at rfl _ _ rfl V.heap.size u7 ts rfl (HOw.out _).1 w3.heap.size Z rfl (by simp) (by omega) (HOw.out _).2 ?_; intro v' w4 ho4 hg4 hl4)
                      have HN1 : Hid (RiI V L g zs0 zs (some ⟨b6, 0, none⟩) ls (j + 1) v' (ts ++ [Z]) w4) := HF1.out (by trivial) _ w4 v' (by go_grown) ho4 hg4 hl4
                      clear ho4 hg4 hl4 HF1
                      go_wp2_with fail
                      go_roundw
                      case rel => exact ⟨j + 1, ts ++ [Z], by omega, by go_num, HN1⟩
                      case measure => simp [intOf]; omega
                  · have e : j = ls.length := by omega
                    subst e
                    obtain ⟨hq1, hR, hCs⟩ := HJ.out.next hlt HI1.out.2.1 HM.out.1 HM.out.2.1 HS.out (fun x => by rw [HLs.out])
                    have HN1 : Hid (RcI V L g zs0 u7 ts wr ∧ (∀ i (hi : i < ts.length), i < q + 1 → ClsAt L ts ts[i]) ∧ ∀ i (hi : i < ts.length), i < q + 1 → ts[i] ≠ g.id) := (show _ ∧ _ ∧ _ from ⟨hR, hCs, pre_next HJ.out.p hlt HI1.out.2.2 HNe.out⟩)
                    clear hR hCs
                    go_wp2_with fail
                    go_roundw
                    case rel => exact ⟨q + 1, ts, hq1, by go_num, HN1⟩
                    case measure => simp [intOf]; omega
          · have e : q = zs.length := by omega
            subst e
            obtain ⟨a5, c5, e5⟩ := own_len_eq HI.out.1.own
            subst e5
            have HE3 : Hid (AE = 0) := (show _ = _ by
              rw [HE2.out, rc_no (fun x => HI.out.1.done (fun y hy => by
                obtain ⟨i, hi, rfl⟩ := List.getElem_of_mem hy
                exact HI.out.2.1 i hi hi) x) (fun i hi => HI.out.2.2 i hi hi)]
              rfl)
            obtain ⟨a, c, e, hlc, hc2, hor⟩ := hTr.slice
            subst e
            obtain ⟨b, hab, hbz, hcs⟩ : ∃ b, a = some ⟨b, 0, none⟩ ∧ b < wr.heap.size ∧ ∀ i (h : i < L.length), Cg wr b (i * 3) L[i] := by
              rcases hor with e | h
              · subst e; cases hk
              · exact h
            subst hab
            obtain ⟨d0, d1, d2⟩ := hcs k hk
            have hfr := hTr.row.frozenAt (k * 3)
            have hfr1 := hTr.row.frozenAt (k * 3 + 1)
            have hfr2 := hTr.row.frozenAt (k * 3 + 2)
            obtain ⟨hF1, hF2⟩ := hTr.setAt Gw hk HK.out (HGr.out HR0.out)
            obtain ⟨W9, hW9⟩ : ∃ x, ((wr.setCell ⟨b, k * 3, none⟩ (.int .i64 g.id)).setCell ⟨b, k * 3 + 1, none⟩ (.int .i64 g.kd)).setCell ⟨b, k * 3 + 2, none⟩ (.slice g.a g.l.length g.c) = x := ⟨_, rfl⟩
            rw [hW9] at hF1 hF2
            have HF : Hid (RT W rb room (.slice (some ⟨b, 0, none⟩) L.length c) (putG g L) W9.drew ∧ w.grownBy W9.drew (some b)) := (show _ ∧ _ from ⟨hF1.below (bdr (Below.refl _ _) 1), ⟨hF2.os, hF2.tape, hF2.output, hF2.size, hF2.block⟩⟩)
            have HW9 : Hid (((wr.setCell ⟨b, k * 3, none⟩ (.int .i64 g.id)).setCell ⟨b, k * 3 + 1, none⟩ (.int .i64 g.kd)).setCell ⟨b, k * 3 + 2, none⟩ (.slice g.a g.l.length g.c) = W9) := hW9
            clear HI hor hcs HAx hF1 hF2 hW9 hTr
            go_wp2_with fail
            go_region_with (fail)
            all_goals
              rw [HW9.out]
              go_wp2_with fail
              go_ret
              exact ⟨by rw [HE3.out]; rfl, fun e => absurd HE3.out e, fun _ => ⟨HF.out.1, b, rfl, HF.out.2⟩⟩
end Go.Proofs.YteodlkgbakkjmaaDoor

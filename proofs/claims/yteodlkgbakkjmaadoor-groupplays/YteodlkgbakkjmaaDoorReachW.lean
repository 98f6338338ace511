/-
  What reached answers, as a contract.
-/
import Derived.Test.YteodlkgbakkjmaaDoorReach
namespace Go.Proofs.YteodlkgbakkjmaaDoor
open Go.ChangeShapes Go.WideShapes Go.ChangeAt Go.RowKit Go.Maps
set_option linter.unusedVariables false

theorem own_at {base : Nat} {w : World} {v : Value} {zs : List Int} (h : OwnI base w v zs) {k : Nat} (hk : k < zs.length) : ∃ g cap, v = .slice (some ⟨g, 0, none⟩) zs.length cap ∧ g < w.heap.size ∧ zs.length ≤ cap ∧ w.cell? ⟨g, k, none⟩ = some (.int .i64 zs[k]) := by
  rcases own_cells h with ⟨rfl, _⟩ | ⟨g, cap, e, hg, hc, hcs⟩
  · cases hk
  · exact ⟨g, cap, e, hg, hc, hcs k hk⟩
theorem own_len_eq {base : Nat} {w : World} {v : Value} {zs : List Int} (h : OwnI base w v zs) : ∃ a c, v = .slice a zs.length c := by
  rcases own_cells h with ⟨rfl, a, c, e⟩ | ⟨g, cap, e, _⟩
  · exact ⟨a, c, e⟩
  · exact ⟨_, _, e⟩
set_option maxRecDepth 20000 in
set_option maxHeartbeats 16000000 in
theorem reached_any {tb mb : Nat} {room : Int} {L : List Gr} (g : Gr) (w : World) (h : Tb w tb mb room L) (hL : L.length ≤ 64) (hT : Bs w g.a g.l) (hS : Sm g.l) (hok : rightE g.p = 0) (hCl : Cl L) (hla : ∀ x ∈ rawL (g.l.map Bk.b3), hasP L x = true) :
    Calls Tryd.prog 37 #[ptr tb, gV g] w fun e w' => ∃ v zs, e = .returned v ∧ OwnI w.heap.size w' v zs ∧ (∀ x, x ∈ zs ↔ Rc (L.map Gr.p) g.p x) ∧ zs.length ≤ 10064 ∧ Below w.heap.size w w' := by
  have HLg : Hid (∀ w1, Below w.heap.size w w1 → Calls Tryd.prog 31 #[gV g] w1 fun e w' => ∃ v zs, e = .returned v ∧ OwnI w1.heap.size w' v zs ∧ (∀ x, x ∈ zs ↔ x ∈ rawL (g.l.map Bk.b3)) ∧ zs.length ≤ 10000 ∧ Below w1.heap.size w1 w') := (show ∀ w1, _ from fun w1 k => leads_any g w1 (hT.below k) hS (LO_of hok))
  have HLd : Hid (∀ (x : Int), hasP L x = true → ∃ (gi gk : Int) (ga : Option Addr) (gl : List Bk) (gc : Nat), Gr.mk gi gk ga gl gc ∈ L ∧ gi = x ∧ ∀ w1, Below w.heap.size w w1 → (Instr.lookup 57 (.map (some mb)) (.int .i64 x) false).run Tryd.prog w1 = .ok (.agg #[.int .i64 gi, .int .i64 gk, .slice ga gl.length gc]) w1 ∧ Calls Tryd.prog 31 #[.agg #[.int .i64 gi, .int .i64 gk, .slice ga gl.length gc]] w1 fun e w' => ∃ v zs, e = .returned v ∧ OwnI w1.heap.size w' v zs ∧ (∀ x, x ∈ zs ↔ x ∈ rawL (gl.map Bk.b3)) ∧ zs.length ≤ 10000 ∧ Below w1.heap.size w1 w') := (show ∀ (x : Int), _ from fun x hx => by
    obtain ⟨⟨gi, gk, ga, gl, gc⟩, hm, rfl⟩ := hasP_iff.1 hx
    have hw := id_wf (h.grp _ hm).ok
    refine ⟨gi, gk, ga, gl, gc, hm, rfl, fun w1 k => ⟨?_, leads_any ⟨gi, gk, ga, gl, gc⟩ w1 ((h.grp _ hm).bs.below k) (h.grp _ hm).sm (LO_of (h.grp _ hm).ok)⟩⟩
    rcases (h.below k).look false gi (by have := hw.1; simp only at this; omega) (by have := hw.2; simp only at this; omega) with ⟨hf, _⟩ | ⟨g2, hg2, hid2, _, hr⟩
    · simp only at hx; rw [hx] at hf; cases hf
    · have e : g2 = ⟨gi, gk, ga, gl, gc⟩ := srt_one h.srt hg2 hm hid2
      subst e
      exact hr)
  have HT : Hid (∀ w1, Below w.heap.size w w1 → w1.cell? ⟨tb, 1, none⟩ = some (.map (some mb)) ∧ tb < w1.heap.size) := (show ∀ w1, _ from fun w1 k => ⟨(h.below k).c1, (h.below k).lt⟩)
  have HCl : Hid (Cl L) := hCl
  have HS : Hid (SrtG L) := h.srt
  have HLa : Hid (∀ x ∈ rawL (g.l.map Bk.b3), hasP L x = true) := hla
  have HL : Hid (L.length ≤ 64) := hL
  have HRg : Hid (∀ x ∈ rawL (g.l.map Bk.b3), Rc (L.map Gr.p) g.p x) := (show ∀ x, _ from fun x hx => Rc.base hx)
  obtain ⟨V, hV⟩ : ∃ V, gx w g = V := ⟨_, rfl⟩
  have GV : Below w.heap.size w V := by rw [← hV]; go_grown
  have hc := Cg.new w g
  rw [hV] at hc
  obtain ⟨k0, k1, k2⟩ := hc
  rw [Nat.zero_add] at k1 k2
  have HV : Hid (w.alloc (.cells #[.int .i64 g.id, .int .i64 g.kd, .slice g.a g.l.length g.c] 33) = V) := hV
  clear h hL hT hS hCl hla hV hok
  go_enter Tryd.func37, Tryd.ntmps37
  go_wp2_with fail
  rw [HV.out]
  refine (HLg.out V GV).mono ?_
  rintro e w1 ⟨v1, zs0, rfl, ho, hz, hn, g1⟩
  have hz1 := GV.size
  have H0 : Hid (RcI w L g zs0 v1 zs0 w1) := (show RcI _ _ _ _ _ _ _ from ⟨own_mono ho hz1, btr GV g1 (Nat.le_refl _), fun x hx => Rc.base ((hz x).1 hx), fun x hx => (hz x).2 hx, fun x hx => HLa.out x ((hz x).1 hx), [], by simp, by simp, by simp⟩)
  have HZ0 : Hid (zs0.length ≤ 10000) := hn
  clear ho hz hn g1 k0 k1 k2 HV HLg hz1
  go_wp2_with fail
  go_loopw [5, 6] (fun v5 v wr => ∃ (q : Nat) (zs : List Int), q ≤ zs.length ∧ v = .int .i64 q ∧ Hid (RcI w L g zs0 v5 zs wr ∧ ∀ i (hi : i < zs.length), i < q → ClsAt L zs zs[i])) (fun _ v _ => 10065 - (intOf v).toNat)
  case atStart => exact ⟨0, zs0, Nat.zero_le _, rfl, (show _ ∧ _ from ⟨H0.out, fun i _ h => by omega⟩)⟩
  case round =>
    obtain ⟨q, zs, hq, rfl, HI⟩ := hrel
    have hzl := HI.out.1.len HZ0.out HL.out
    by_cases hlt : q < zs.length
    · obtain ⟨b5, cap5, rfl, hb5, hcap5, hcell⟩ := own_at HI.out.1.own hlt
      have hhas := HI.out.1.has zs[q] (List.getElem_mem hlt)
      obtain ⟨gi, gk, ga, gl, gc, hgm, hgid, HLq⟩ := HLd.out _ hhas
      have HM : Hid (Gr.mk gi gk ga gl gc ∈ L ∧ gi = zs[q] ∧ Rc (L.map Gr.p) g.p zs[q]) := (show _ ∧ _ ∧ _ from ⟨hgm, hgid, HI.out.1.snd _ (List.getElem_mem hlt)⟩)
      obtain ⟨t1, tl⟩ := HT.out _ HI.out.1.bel
      have hbd : Below w.heap.size w wr.drew := btr HI.out.1.bel (bdr (Below.refl _ _) 1) (Nat.le_refl _)
      obtain ⟨hlk, hld⟩ := HLq wr.drew hbd
      have HLdq : Hid (Calls Tryd.prog 31 #[.agg #[.int .i64 gi, .int .i64 gk, .slice ga gl.length gc]] wr.drew fun e w' => ∃ v zs, e = .returned v ∧ OwnI wr.drew.heap.size w' v zs ∧ (∀ x, x ∈ zs ↔ x ∈ rawL (gl.map Bk.b3)) ∧ zs.length ≤ 10000 ∧ Below wr.drew.heap.size wr.drew w') := hld
      clear hgm hgid HLq hld hhas hbd
      go_wp2_with fail
      go_region_with (go_at_call 31; refine HLdq.out.mono ?_; rintro e w2 ⟨v2, ls, rfl, ho2, hz2, hn2, g2⟩; obtain ⟨a2, c2, e2⟩ := own_len_eq ho2; subst e2)
      all_goals
        have hRi : RiI w L g zs0 zs a2 ls 0 (.slice (some ⟨b5, 0, none⟩) zs.length cap5) zs w2 := ⟨(HI.out.1.grow (bdr (Below.refl _ _) 1)).grow g2, ⟨[], by simp⟩, fun k _ h => by omega, LsR.start ho2 hb5⟩
        have HRi : Hid (RiI w L g zs0 zs a2 ls 0 (.slice (some ⟨b5, 0, none⟩) zs.length cap5) zs w2) := hRi
        have HZ2 : Hid (∀ x, x ∈ ls ↔ x ∈ rawL (gl.map Bk.b3)) := hz2
        have HN2 : Hid (ls.length ≤ 10000) := hn2
        have HC2 : Hid (ls.length ≤ c2 ∨ ls = []) := (show _ ∨ _ by
          rcases own_cells ho2 with ⟨e, _⟩ | ⟨b, cap, e, _, hcap, _⟩
          · exact .inr e
          · cases e; exact .inl hcap)
        clear hRi ho2 hz2 hn2 g2 hlk hcell t1 tl hcap5 hb5
        go_wp2_with fail
        simp only [Act.put, List.setIfInBounds_toArray, List.set_cons_succ, List.set_cons_zero, List.getElem_toArray, List.getElem_cons_succ, List.getElem_cons_zero]
        go_loopw [5, 28] (fun v5 v wr2 => ∃ (j : Nat) (ts : List Int), j ≤ ls.length ∧ v = .int .i64 j ∧ Hid (RiI w L g zs0 zs a2 ls j v5 ts wr2)) (fun _ v _ => ls.length - (intOf v).toNat)
        case atStart => exact ⟨0, zs, Nat.zero_le _, rfl, HRi⟩
        case round =>
          obtain ⟨j, ts, hj, rfl, HJ⟩ := hrel
          have htl := HJ.out.i.len HZ0.out HL.out
          have hl2 := HN2.out
          by_cases hjt : j < ls.length
          · obtain ⟨b6, rfl, hb6, hv6, hc6⟩ : ∃ b, a2 = some ⟨b, 0, none⟩ ∧ b < wr.heap.size ∧ u5.ownBlock ≠ some b ∧ ∀ i (hi : i < ls.length), wr.cell? ⟨b, i, none⟩ = some (.int .i64 ls[i]) := by
              rcases HJ.out.r with h | h
              · subst h; cases hjt
              · exact h
            have hcl := hc6 j hjt
            have hcc : ls.length ≤ c2 := by
              rcases HC2.out with h | h
              · exact h
              · subst h; cases hjt
            have HCo : Hid (Calls Tryd.prog 36 #[u5, .int .i64 ls[j]] wr fun e w' => e = .returned (.bool (ts.contains ls[j])) ∧ w' = wr) := contains_own _ u5 ts ls[j] wr HJ.out.i.own (by omega)
            have hmem : ls[j] ∈ rawL (gl.map Bk.b3) := (HZ2.out _).1 (List.getElem_mem hjt)
            have HRc : Hid (Rc (L.map Gr.p) g.p ls[j] ∧ hasP L ls[j] = true) := (show _ ∧ _ from ⟨Rc.step HM.out.2.2 (List.mem_map.2 ⟨_, HM.out.1, rfl⟩) HM.out.2.1 hmem, HCl.out _ HM.out.1 _ hmem⟩)
            have HT1 : Hid (ts.contains ls[j] = true → RiI w L g zs0 zs (some ⟨b6, 0, none⟩) ls (j + 1) u5 ts wr) := (show _ → _ from fun hh => HJ.out.skip hjt (List.contains_iff_mem.1 hh))
            have HF1 : Hid (ts.contains ls[j] = false → ∀ (w2 w3 : World) (v' : Value), Below wr.heap.size wr w2 → OwnI w.heap.size w3 v' (ts ++ [ls[j]]) → w2.grownBy w3 u5.ownBlock → (v'.ownBlock = u5.ownBlock ∨ v'.ownBlock = some w2.heap.size) → RiI w L g zs0 zs (some ⟨b6, 0, none⟩) ls (j + 1) v' (ts ++ [ls[j]]) w3) := (show _ → ∀ (w2 w3 : World) (v' : Value), _ from fun hh w2 w3 v' k ho hg hl => HJ.out.app hjt (fun hm => by rw [List.contains_iff_mem.2 hm] at hh; cases hh) k HRc.out.1 HRc.out.2 ho hg hl)
            have HOw : Hid (∀ o : Obj, OwnI w.heap.size (wr.alloc o) u5 ts ∧ w.heap.size ≤ (wr.alloc o).heap.size) := (show ∀ o : Obj, _ from fun o => ⟨HJ.out.i.own.alloc o, by have := HJ.out.i.bel.size; simp; omega⟩)
            clear hc6 hmem hv6
            generalize ts.contains ls[j] = CB at *
            generalize ls[j] = Y at *
            cases CB with
            | true =>
              have HN1 : Hid (RiI w L g zs0 zs (some ⟨b6, 0, none⟩) ls (j + 1) u5 ts wr) := HT1.out (by trivial)
              clear HF1 HT1
              go_wp2_with fail
              refine HCo.out.mono ?_
              rintro e w3 ⟨rfl, rfl⟩
              go_wp2_with fail
              go_roundw
              case rel => exact ⟨j + 1, ts, by omega, by go_num, HN1⟩
              case measure => simp [intOf]; omega
            | false =>
              go_wp2_with fail
              refine HCo.out.mono ?_
              rintro e w3 ⟨rfl, rfl⟩
              go_wp2_with (at_builtin; refine wpList_app1_at rfl _ _ rfl w.heap.size u5 ts rfl (HOw.out _).1 w3.heap.size Y rfl (by simp) (by omega) (HOw.out _).2 ?_; intro v' w4 ho4 hg4 hl4)
              have HN1 : Hid (RiI w L g zs0 zs (some ⟨b6, 0, none⟩) ls (j + 1) v' (ts ++ [Y]) w4) := HF1.out (by trivial) _ w4 v' (by go_grown) ho4 hg4 hl4
              clear ho4 hg4 hl4 HF1
              go_wp2_with fail
              go_roundw
              case rel => exact ⟨j + 1, ts ++ [Y], by omega, by go_num, HN1⟩
              case measure => simp [intOf]; omega
          · have e : j = ls.length := by omega
            subst e
            obtain ⟨hq1, hR, hCs⟩ := HJ.out.next hlt HI.out.2 HM.out.1 HM.out.2.1 HS.out HZ2.out
            have HN1 : Hid (RcI w L g zs0 u5 ts wr ∧ ∀ i (hi : i < ts.length), i < q + 1 → ClsAt L ts ts[i]) := (show _ ∧ _ from ⟨hR, hCs⟩)
            clear hR hCs
            go_wp2_with fail
            go_roundw
            case rel => exact ⟨q + 1, ts, hq1, by go_num, HN1⟩
            case measure => simp [intOf]; omega
    · have e : q = zs.length := by omega
      subst e
      obtain ⟨a5, c5, e5⟩ := own_len_eq HI.out.1.own
      have HF : Hid (OwnI w.heap.size wr u5 zs ∧ (∀ x, x ∈ zs ↔ Rc (L.map Gr.p) g.p x) ∧ zs.length ≤ 10064 ∧ Below w.heap.size w wr) := (show _ ∧ _ ∧ _ ∧ _ from ⟨HI.out.1.own, fun x => HI.out.1.done (fun y hy => by
        obtain ⟨i, hi, rfl⟩ := List.getElem_of_mem hy
        exact HI.out.2 i hi hi) x, hzl, HI.out.1.bel⟩)
      subst e5
      go_wp2_with fail
      go_ret
      exact ⟨_, zs, rfl, HF.out.1, HF.out.2.1, HF.out.2.2.1, HF.out.2.2.2⟩
end Go.Proofs.YteodlkgbakkjmaaDoor

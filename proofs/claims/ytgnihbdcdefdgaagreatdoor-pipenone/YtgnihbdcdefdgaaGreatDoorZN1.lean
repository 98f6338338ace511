/-
  Joined: LawNone.
-/
import Derived.Test.YtgnihbdcdefdgaaGreatDoorZ31
/-
  The law PipeNone: without entries nothing leaves, and an entry that does nothing lets nothing leave.
-/
namespace Go.Proofs.YtgnihbdcdefdgaaGreatDoor
open Go.ChangeShapes Go.WideShapes Go.ChangeAt Go.RowKit
set_option linter.unusedVariables false
set_option linter.unusedSimpArgs false
theorem run_none (G : List G3) (live : List Bool) (pick : Int) (s : Mt.Sn) (M : Ms) : runV (allFP []) G live pick s M = ([], M) := rfl
theorem wrong_zero : wrongE fp0 = 0 := by decide
theorem add_zero : addR 256 (allFP []) fp0 true = 0 ∧ addT 256 (allFP []) fp0 true = upd (allFP []) 0 [fp0] := by
  have h : wrongE fp0 = 0 := wrong_zero
  constructor
  · unfold addR; rw [if_pos h]; rfl
  · unfold addT; rw [if_pos h]; rfl
theorem run_zero (G : List G3) (live : List Bool) (pick : Int) (s : Mt.Sn) (M : Ms) : runV (upd (allFP []) 0 [fp0]) G live pick s M = ([], M) := by
  have h1 : lookP (tabOf (upd (allFP []) 0 [fp0]) 0) { s with mt := 0 } = some fp0 := rfl
  have h2 : passV M fp0.met ({ s with mt := 0 } : Mt.Sn).pk = (true, M) := by
    unfold passV takV
    rw [if_pos (.inl (by decide))]
  unfold runV tabV
  rw [h1]
  simp only [h2]
  rfl
/-- Behind an Add: what a second run wants. -/
theorem Lw.add {w : World} {ea : Option Addr} {en ec : Nat} {ga : Option Addr} {gn gc : Nat} {ma : Option Addr} {mn mc : Nat} {la : Option Addr} {live : List Bool} {lc : Nat} {s : Mt.Sn} {P P' : Nat → List Fp} {G : List G3} {M : Ms} {p : Tp} {f : Nat} {S S' : Nat → Prop} {tb mb : Nat} {L : List Gp.Gr} {MB : Nat → Prop} {lo vb : Nat} {Q : Mq} {X Y : World}
    (h : Lw w ea en ec ga gn gc ma mn mc la live lc s P G M p f S tb mb L MB lo vb Q X) (hlv : ∀ g o, la = some ⟨g, o, none⟩ → live ≠ [] → g < w.heap.size) (hl : live.length ≤ 1000) (F : Fs Y f S' 256 P') (K : Kept S X Y) (hS : ∀ b, S' b → S b ∨ X.heap.size ≤ b) (hr : ∀ u, u < 8 → ∀ x ∈ P' u, wrongE x = 0) :
    Ev lo Y.heap.size Y p f S' 256 P' tb mb 64 L live MB ∧ Mo MB lo Y.heap.size Y p Q ∧ Sb Y (w.heap.size + 1) s ∧ Y.rangeAt vb 0 (ptC p).toList ∧ Below w.heap.size w Y := by
  have E := h.ev hl
  have z := K.size
  have l0 := h.l0
  have l1 := h.l1
  have l2 := h.l2
  have hb := h.mo.bd
  have kb : ∀ b, b < X.heap.size → ¬ S b → Y.heap[b]? = X.heap[b]? := K.block
  have nlow : ∀ b, b < w.heap.size + 2 → ¬ S b := fun b hb e => by have := (h.sd b e).1; omega
  have nhi : ∀ b, lo ≤ b → ¬ S b := fun b hb e => by have := (E.fb b e).1; omega
  refine ⟨⟨E.pf, F, fun b hb' => ⟨?_, fun e => ?_⟩, hr, ⟨E.ge.pg, ?_, E.ge.l1, E.ge.l2, E.ge.l3, E.ge.ln, ?_, E.ge.lt, E.ge.le, E.ge.pl, E.ge.ph⟩, by omega⟩, ?_, h.sb.block (kb _ (by omega) (nlow _ (by omega))), range_block h.pc (kb vb l2 (nhi vb l1)), ?_⟩
  · obtain ⟨Vv, Lv, hF, hp⟩ := F
    exact hF.lt b hb'
  · rcases hS b hb' with h1 | h1
    · exact (E.fb b h1).2 e
    · have := (hb b e).2; omega
  · refine tb_stay E.ge.tbl z (kb tb (by have := E.ge.l1; omega) (fun e => (h.sd _ e).2.1 rfl)) (kb mb (by have := E.ge.l2; omega) (fun e => (h.sd _ e).2.2.1 rfl)) (fun g hg b hi => kb b (by have := E.ge.l3 g hg b hi; omega) (fun e => (h.sd _ e).2.2.2 g hg hi))
  · rcases E.ge.lv with e | ⟨g, o, ha, hg, hc⟩
    · exact .inl e
    · by_cases hn : live = []
      · exact .inl hn
      · have hg' := hlv g o (h.pa ▸ ha) hn
        exact .inr ⟨g, o, ha, by omega, fun i hi => (World.cell?_of_block (w := X) (kb g (by omega) (nlow g (by omega)))).trans (hc i hi)⟩
  · refine ⟨h.mo.mn, h.mo.ml, ?_, fun i hi y hy => ?_, fun b hb' => ⟨(hb b hb').1, by have := (hb b hb').2; omega⟩, h.mo.ap⟩
    · rcases h.mo.ma with e | ⟨g, o, ha, hg, hn, hc⟩
      · exact .inl e
      · exact .inr ⟨g, o, ha, by omega, hn, fun i hi => (World.cell?_of_block (w := X) (kb g (by omega) (nhi g hn.1))).trans (hc i hi)⟩
    · obtain ⟨k1, k2, k3⟩ := h.mo.bk i hi y hy
      have eb := kb y.1 (by have := (hb _ k3).2; omega) (nhi _ (hb _ k3).1)
      exact ⟨⟨(World.cell?_of_block (w := X) eb).trans k1.c0, (World.cell?_of_block (w := X) eb).trans k1.c1, (World.cell?_of_block (w := X) eb).trans k1.c2, (World.frozen?_of_block (w := X) eb).trans k1.f2⟩, k2, k3⟩
  · exact h.bel.trans ⟨K.os, K.tape, K.output, K.size, fun b hb' => kb b (by omega) (nlow b (by omega))⟩
set_option maxRecDepth 20000 in
set_option maxHeartbeats 16000000 in
theorem none_walk (ea : Option Addr) (el : List Fe) (ec : Nat) (ga : Option Addr) (gl : List Gp.Gr) (gc : Nat) (ma : Option Addr) (ml : List (Int × Int)) (mc : Nat) (la : Option Addr) (live : List Bool) (lc : Nat) (s : Mt.Sn) (n : Int) (w : World) (I : Mi w ea el ga gl ma ml la live)
    (hs : Mt.Wf s) (hf : Fr.Wf s.pk) (hz : s.data.size ≤ maxLen) (n0 : -9223372036854775808 ≤ n) (n1 : n ≤ 9223372036854775807) :
    Calls Tryz.prog 7 #[mdV ea el.length ec ga gl.length gc ma ml.length mc la live.length lc, Mt.snV s, .int .i64 n] w fun e w' => e = .returned (.bool true) ∧ Below w.heap.size w w' := by
  replace I : Mi w none [] ga gl ma ml la live := { I with e := .inl rfl, ei := (fun _ h => by cases h), en := by simp }
  obtain ⟨V, hV⟩ : ∃ V, (w.alloc (.cells (mdC none 0 0 ga gl.length gc ma ml.length mc la live.length lc) 27)).alloc (.cells (Mt.snC s) 49) = V := ⟨_, rfl⟩
  have gV : Below w.heap.size w V := by rw [← hV]; go_grown
  have HP : Hid _ := parts_any none [] 0 ga gl gc ma ml mc la live lc n V (I.below gV)
  have HI : Hid (Mi w none [] ga gl ma ml la live) := I
  have HV : Hid ((w.alloc (.cells (mdC none 0 0 ga gl.length gc ma ml.length mc la live.length lc) 27)).alloc (.cells (Mt.snC s) 49) = V) := hV
  have HgV : Hid (Below w.heap.size w V) := gV
  have Hlv : Hid (∀ g o, la = some ⟨g, o, none⟩ → live ≠ [] → g < w.heap.size) := (show ∀ g o, _ from fun g o e hn => by
    rcases I.l with h | ⟨g', o', h, hg, _⟩
    · exact absurd h hn
    · rw [e] at h; cases h; exact hg)
  have HW : Hid (Mt.Wf s ∧ Fr.Wf s.pk) := (show _ ∧ _ from ⟨hs, hf⟩)
  unfold maxLen at hz
  clear I gV hV hs hf
  go_enter Tryz.func7, Tryz.ntmps7
  go_wp2_with fail
  rw [HV.out]
  refine Calls.mono HP.out ?_
  rintro e w1 ⟨p, rfl, hpt⟩
  obtain ⟨X, hX⟩ : ∃ X, w1.alloc (.cells (ptC p) 33) = X := ⟨_, rfl⟩
  obtain ⟨hpick, f, S, tb, mb, L, MB, lo, Q, hLw⟩ := Lw.of HV.out (HI.out.below HgV.out) hpt (allFP_right _) hX n0 n1
  have HLw : Hid _ := hLw
  have HX : Hid (w1.alloc (.cells (ptC p) 33) = X) := hX
  have hFw := few_any none [] 0 ga gl gc ma ml mc la live lc X (HI.out.below hLw.bel)
  have HFw : Hid _ := hFw
  have Hpk : Hid (p.pick = n) := hpick
  have c0 := hLw.c0
  have c1 := hLw.c1
  have c2 := hLw.c2
  have c3 := hLw.c3
  have s12 : X.cell? ⟨w.heap.size + 1, 12, none⟩ = some (.string s.data) := hLw.sb.at 12 _ rfl
  obtain ⟨B, hB⟩ : ∃ B, B = fewM [] gl ml live := ⟨_, rfl⟩
  rw [← hB] at HFw
  have HB : Hid (B = fewM [] gl ml live) := hB
  have HA : Hid (∀ W, Below X.heap.size X W → Calls Tryz.prog 10 #[] W fun e w' => e = .returned (.bool true) ∧ Below W.heap.size W w') := (show ∀ W, _ from fun W g => awake_any W ((HI.out.cd.below hLw.bel).below g))
  clear hLw hFw hpt hpick HP HV HgV hB
  go_wp2_with fail
  refine Calls.mono HFw.out ?_
  rintro e w2 ⟨rfl, g2⟩
  have Hg2 : Hid (Below X.heap.size X w2) := g2
  have s122 : w2.cell? ⟨w.heap.size + 1, 12, none⟩ = some (.string s.data) := (g2.cell (p := ⟨w.heap.size + 1, 12, none⟩) (by show w.heap.size + 1 < X.heap.size; have := HLw.out.l0; have := HLw.out.l1; have := HLw.out.l2; omega)).trans s12
  clear g2 s12 c0 c1 c2 c3 HFw
  cases B
  · go_wp2_with fail
    refine Calls.mono (HA.out w2 Hg2.out) ?_
    rintro e w3 ⟨rfl, g3⟩
    go_wp2_with fail
    go_ret
    exact ⟨rfl, btr (btr HLw.out.bel Hg2.out (Nat.le_refl _)) g3 (Nat.le_refl _)⟩
  · by_cases hbig : (1500 : Int) < (s.data.size : Int)
    · go_wp2_with fail
      refine Calls.mono (HA.out w2 Hg2.out) ?_
      rintro e w3 ⟨rfl, g3⟩
      go_wp2_with fail
      go_ret
      exact ⟨rfl, btr (btr HLw.out.bel Hg2.out (Nat.le_refl _)) g3 (Nat.le_refl _)⟩
    · have hln : live.length ≤ 1000 := by
        have h := HB.out
        unfold fewM at h
        simp at h
        omega
      have L2 := HLw.out.kpt (Kpt.of_below Hg2.out) (HLw.out.mo.low (Hg2.out.mono (Nat.le_of_lt HLw.out.l2))) HLw.out.ms Hlv.out
      have HL2 : Hid _ := L2
      have hsw : Sw s := ⟨HW.out.1, HW.out.2, by omega⟩
      have hrun := run_any lo w1.heap.size p f S 256 (allFP []) tb mb 64 L live MB s Q w2 ((L2.ev hln).up L2.l1) L2.mo (by have := L2.l1; have := L2.l2; omega) (Nat.le_of_lt L2.l2) hsw
      rw [Hpk.out, run_none] at hrun
      have HRun : Hid _ := hrun
      have HSw : Hid (Sw s) := hsw
      have q0 : w2.cell? ⟨w1.heap.size, 0, none⟩ = some (.pointer p.f) := by have := L2.pc 0 _ rfl; rwa [Nat.zero_add] at this
      have q1 : w2.cell? ⟨w1.heap.size, 1, none⟩ = some (.pointer p.g) := by have := L2.pc 1 _ rfl; rwa [Nat.zero_add] at this
      have q2 : w2.cell? ⟨w1.heap.size, 2, none⟩ = some (.slice p.ma p.mn p.mc) := by have := L2.pc 2 _ rfl; rwa [Nat.zero_add] at this
      have q3 : w2.cell? ⟨w1.heap.size, 3, none⟩ = some (.slice p.la p.ln p.lc) := by have := L2.pc 3 _ rfl; rwa [Nat.zero_add] at this
      have HA2 : Hid (∀ W, Below w.heap.size w W → Calls Tryz.prog 10 #[] W fun e w' => e = .returned (.bool true) ∧ Below W.heap.size W w') := (show ∀ W, _ from fun W g => awake_any W (HI.out.cd.below g))
      clear L2 hrun hsw HA HLw Hg2
      go_wp2_with (refine load_Sb rfl (.tmp 4) rfl (w.heap.size + 1) s rfl HL2.out.sb ?_)
      refine Calls.mono HRun.out ?_
      rintro e w3 ⟨v3, Q3, rfl, O3, n3, ms3, M3, K3⟩
      have L3 := HL2.out.kpt K3 M3 ms3 Hlv.out
      obtain ⟨a3, cap3, rfl⟩ := own_sl O3
      have HL3 : Hid _ := L3
      have q0 : w3.cell? ⟨w1.heap.size, 0, none⟩ = some (.pointer (some ⟨f, 0, none⟩)) := by rw [← (L3.ev hln).pf]; have := L3.pc 0 _ rfl; rwa [Nat.zero_add] at this
      have HAd : Hid _ := add_any f S 256 (allFP []) fe0 true w3 (L3.ev hln).fs ⟨.inl rfl, .inl rfl, .inl rfl, by decide, by decide, by decide, by decide⟩ (HI.out.cd.below L3.bel)
      rw [show fe0.p = fp0 from rfl, add_zero.1, add_zero.2] at HAd
      clear L3 O3 ms3 M3 K3 HL2 HRun q1 q2 q3 s122 HX hX
      go_wp2_with fail
      refine Calls.mono HAd.out ?_
      rintro e w4 ⟨rfl, S4, F4, K4, hs4⟩
      have hr4 : ∀ u, u < 8 → ∀ x ∈ upd (allFP []) 0 [fp0] u, wrongE x = 0 := fun u _ x hx => by
        unfold upd at hx
        split at hx
        · rw [List.mem_singleton.1 hx]; exact wrong_zero
        · cases hx
      obtain ⟨E4, M4, sb4, pc4, b4⟩ := HL3.out.add Hlv.out hln F4 K4 hs4 hr4
      have hrun := run_any lo w4.heap.size p f S4 256 (upd (allFP []) 0 [fp0]) tb mb 64 L live MB s Q3 w4 E4 M4 E4.lt (Nat.le_refl _) HSw.out
      rw [Hpk.out, run_zero] at hrun
      have HRun : Hid _ := hrun
      have Hsb : Hid (Sb w4 (w.heap.size + 1) s) := sb4
      have Hb4 : Hid (Below w.heap.size w w4 ∧ lo ≤ w4.heap.size ∧ w.heap.size + 2 ≤ lo) := (show _ ∧ _ from ⟨b4, E4.lt, HL3.out.l0⟩)
      have q0 : w4.cell? ⟨w1.heap.size, 0, none⟩ = some (.pointer p.f) := by have := pc4 0 _ rfl; rwa [Nat.zero_add] at this
      have q1 : w4.cell? ⟨w1.heap.size, 1, none⟩ = some (.pointer p.g) := by have := pc4 1 _ rfl; rwa [Nat.zero_add] at this
      have q2 : w4.cell? ⟨w1.heap.size, 2, none⟩ = some (.slice p.ma p.mn p.mc) := by have := pc4 2 _ rfl; rwa [Nat.zero_add] at this
      have q3 : w4.cell? ⟨w1.heap.size, 3, none⟩ = some (.slice p.la p.ln p.lc) := by have := pc4 3 _ rfl; rwa [Nat.zero_add] at this
      clear E4 M4 sb4 pc4 b4 hrun F4 K4 hs4 hr4 HAd HL3
      go_wp2_with (refine load_Sb rfl (.tmp 4) rfl (w.heap.size + 1) s rfl Hsb.out ?_)
      refine Calls.mono HRun.out ?_
      rintro e w5 ⟨v5, Q5, rfl, O5, n5, ms5, M5, K5⟩
      obtain ⟨a5, cap5, rfl⟩ := own_sl O5
      have b5 : Below w.heap.size w w5 := Hb4.out.1.trans (K5.below (by have := Hb4.out.1.size; omega) (fun b hb => by have := (M5.bd b hb).1; have := Hb4.out.2.2; omega))
      have HAw : Hid _ := HA2.out w5 b5
      have Hb5 : Hid (Below w.heap.size w w5) := b5
      clear O5 n5 ms5 M5 K5 HRun q0 q1 q2 q3 b5
      go_wp2_with fail
      refine Calls.mono HAw.out ?_
      rintro e w6 ⟨rfl, g6⟩
      have Hb6 : Hid (Below w.heap.size w w6) := btr Hb5.out g6 (Nat.le_refl _)
      clear g6
      go_wp2_with fail
      go_ret
      exact ⟨rfl, Hb6.out⟩
end Go.Proofs.YtgnihbdcdefdgaaGreatDoor

/-
  Joined: LawStays.
-/
import Derived.Test.YtgnihbdcdefdgaaGreatDoorZ31
import Derived.Test.YtgnihbdcdefdgaaGreatDoorZS1
/-
  The law PipeStays: how it begins.
-/
namespace Go.Proofs.YtgnihbdcdefdgaaGreatDoor
open Go.ChangeShapes Go.WideShapes Go.ChangeAt Go.RowKit
set_option linter.unusedVariables false
set_option linter.unusedSimpArgs false
theorem be_grS {W : World} {b o : Nat} {x : Fe} (h : Be W b o x) (hb : b < W.heap.size) : (∀ n : GrT W, n.w.cell? ⟨b, o, none⟩ = some (.int .i64 x.p.tab)) ∧ (∀ n : GrT W, n.w.cell? ⟨b, o + 1, none⟩ = some (.int .i64 x.p.pri)) ∧ (∀ n : GrT W, n.w.cell? ⟨b, o + 2, none⟩ = some (.slice x.ta x.p.lt.length x.tc)) ∧ (∀ n : GrT W, n.w.cell? ⟨b, o + 3, none⟩ = some (.slice x.aa x.p.la.length x.ca)) ∧ (∀ n : GrT W, n.w.cell? ⟨b, o + 4, none⟩ = some (.slice x.aw x.p.lw.length x.cw)) ∧ (∀ n : GrT W, n.w.cell? ⟨b, o + 5, none⟩ = some (.bool x.p.clr)) ∧ (∀ n : GrT W, n.w.cell? ⟨b, o + 6, none⟩ = some (.int .u64 x.p.mt)) ∧ (∀ n : GrT W, n.w.cell? ⟨b, o + 7, none⟩ = some (.int .u64 x.p.mm)) ∧ (∀ n : GrT W, n.w.cell? ⟨b, o + 8, none⟩ = some (.int .i64 x.p.met)) ∧ (∀ n : GrT W, n.w.cell? ⟨b, o + 9, none⟩ = some (.int .i64 x.p.go)) :=
  ⟨fun n => h.gr hb n 0 _ rfl, fun n => h.gr hb n 1 _ rfl, fun n => h.gr hb n 2 _ rfl, fun n => h.gr hb n 3 _ rfl, fun n => h.gr hb n 4 _ rfl, fun n => h.gr hb n 5 _ rfl, fun n => h.gr hb n 6 _ rfl, fun n => h.gr hb n 7 _ rfl, fun n => h.gr hb n 8 _ rfl, fun n => h.gr hb n 9 _ rfl⟩
theorem sGrp_ppS {x y : Gp.Gr} (h : x.p = y.p) : Gp.sGrp x.id x.kd (x.l.map Gp.Bk.b3) y.id y.kd (y.l.map Gp.Bk.b3) = true := by
  unfold Gp.Gr.p at h
  simp only [Prod.mk.injEq] at h
  obtain ⟨h1, h2, h3⟩ := h
  unfold Gp.sGrp
  rw [h1, h2, h3, Gp.sBks_refl]
  simp
/-- A row that is read stays where its block does. -/
theorem Rr.kept {w w' : World} {a : Option Addr} {O : List Ot} (h : Rr w a O) (hz : w.heap.size ≤ w'.heap.size) (hb : ∀ g, a = some ⟨g, 0, none⟩ → g < w.heap.size → w'.heap[g]? = w.heap[g]?) : Rr w' a O :=
  ⟨fun k hk => by obtain ⟨g, ha, hg⟩ := h.at' k hk; exact ⟨g, ha, by omega⟩, fun g ha k hk j hj => by
    obtain ⟨g', ha', hg⟩ := h.at' k hk
    rw [ha] at ha'
    cases ha'
    exact (World.cell?_of_block (w := w) (hb g ha hg)).trans (h.c g ha k hk j hj)⟩
/-- Where PipeStays stands behind all runs: two makings of the same flows and groups, two rows of the same Outs. -/
structure Sy (w X : World) (bx by' f f7 tb tb7 mb mb7 : Nat) (S S7 : Nat → Prop) (P : Nat → List Fp) (L L7 : List Gp.Gr) (a4 a6 : Option Addr) (O : List Ot) : Prop where
  bel : Below w.heap.size w X
  fx : Fs X f S 256 P
  fy : Fs X f7 S7 256 P
  gx : Gp.Tb X tb mb 64 L
  gy : Gp.Tb X tb7 mb7 64 L7
  x0 : X.cell? ⟨bx, 0, none⟩ = some (.pointer (some ⟨f, 0, none⟩))
  x1 : X.cell? ⟨bx, 1, none⟩ = some (.pointer (some ⟨tb, 0, none⟩))
  y0 : X.cell? ⟨by', 0, none⟩ = some (.pointer (some ⟨f7, 0, none⟩))
  y1 : X.cell? ⟨by', 1, none⟩ = some (.pointer (some ⟨tb7, 0, none⟩))
  r4 : Rr X a4 O
  r6 : Rr X a6 O
  lx : bx < X.heap.size
  ly : by' < X.heap.size
theorem Fs.grow {w w' : World} {f : Nat} {S : Nat → Prop} {room : Int} {P : Nat → List Fp} (h : Fs w f S room P) (g : Below w.heap.size w w') (hs : ∀ b, S b → b < w.heap.size) : Fs w' f S room P := h.low g hs
theorem Sy.below {w X Y : World} {bx by' f f7 tb tb7 mb mb7 : Nat} {S S7 : Nat → Prop} {P : Nat → List Fp} {L L7 : List Gp.Gr} {a4 a6 : Option Addr} {O : List Ot} (h : Sy w X bx by' f f7 tb tb7 mb mb7 S S7 P L L7 a4 a6 O) (g : Below X.heap.size X Y) (hS : ∀ b, S b → b < X.heap.size) (hS7 : ∀ b, S7 b → b < X.heap.size) : Sy w Y bx by' f f7 tb tb7 mb mb7 S S7 P L L7 a4 a6 O :=
  ⟨btr h.bel g (Nat.le_refl _), h.fx.grow g hS, h.fy.grow g hS7, h.gx.below g, h.gy.below g, (g.cell (p := ⟨bx, 0, none⟩) h.lx).trans h.x0, (g.cell (p := ⟨bx, 1, none⟩) h.lx).trans h.x1, (g.cell (p := ⟨by', 0, none⟩) h.ly).trans h.y0, (g.cell (p := ⟨by', 1, none⟩) h.ly).trans h.y1, h.r4.kept g.size (fun b _ hb => g.block b hb), h.r6.kept g.size (fun b _ hb => g.block b hb), Nat.lt_of_lt_of_le h.lx g.size, Nat.lt_of_lt_of_le h.ly g.size⟩
set_option maxRecDepth 20000 in
set_option maxHeartbeats 16000000 in
theorem stays_walk (ea : Option Addr) (el : List Fe) (ec : Nat) (ga : Option Addr) (gl : List Gp.Gr) (gc : Nat) (ma : Option Addr) (ml : List (Int × Int)) (mc : Nat) (la : Option Addr) (live : List Bool) (lc : Nat) (s : Mt.Sn) (n : Int) (w : World) (I : Mi w ea el ga gl ma ml la live)
    (hs : Mt.Wf s) (hf : Fr.Wf s.pk) (hz : s.data.size ≤ maxLen) (n0 : -9223372036854775808 ≤ n) (n1 : n ≤ 9223372036854775807) :
    Calls Tryz.prog 6 #[mdV ea el.length ec ga gl.length gc ma ml.length mc la live.length lc, Mt.snV s, .int .i64 n] w fun e w' => e = .returned (.bool true) ∧ Below w.heap.size w w' := by
  replace I : Mi w ea el ga gl none [] la live := { I with m := .inl rfl, mn := by simp }
  obtain ⟨V, hV⟩ : ∃ V, (w.alloc (.cells (mdC ea el.length ec ga gl.length gc none 0 0 la live.length lc) 27)).alloc (.cells (Mt.snC s) 49) = V := ⟨_, rfl⟩
  have gV : Below w.heap.size w V := by rw [← hV]; go_grown
  have HP : Hid _ := parts_any ea el ec ga gl gc none [] 0 la live lc n V (I.below gV)
  have HI : Hid (Mi w ea el ga gl none [] la live) := I
  have HV : Hid ((w.alloc (.cells (mdC ea el.length ec ga gl.length gc none 0 0 la live.length lc) 27)).alloc (.cells (Mt.snC s) 49) = V) := hV
  have HgV : Hid (Below w.heap.size w V) := gV
  have Hlv : Hid (∀ g o, la = some ⟨g, o, none⟩ → live ≠ [] → g < w.heap.size) := (show ∀ g o, _ from fun g o e hn => by
    rcases I.l with h | ⟨g', o', h, hg, _⟩
    · exact absurd h hn
    · rw [e] at h; cases h; exact hg)
  have HW : Hid (Mt.Wf s ∧ Fr.Wf s.pk) := (show _ ∧ _ from ⟨hs, hf⟩)
  unfold maxLen at hz
  clear I gV hV hs hf
  go_enter Tryz.func6, Tryz.ntmps6
  go_wp2_with fail
  rw [HV.out]
  refine Calls.mono HP.out ?_
  rintro e w1 ⟨p, rfl, hpt⟩
  obtain ⟨X, hX⟩ : ∃ X, w1.alloc (.cells (ptC p) 33) = X := ⟨_, rfl⟩
  obtain ⟨hpick, f, S, tb, mb, L, MB, lo, Q, hLw⟩ := Lw.of HV.out (HI.out.below HgV.out) hpt (allFP_right _) hX n0 n1
  have HLw : Hid _ := hLw
  have HX : Hid (w1.alloc (.cells (ptC p) 33) = X) := hX
  have hFw := few_any ea el ec ga gl gc none [] 0 la live lc X (HI.out.below hLw.bel)
  have HFw : Hid _ := hFw
  have Hpk : Hid (p.pick = n) := hpick
  have c0 := hLw.c0
  have c1 := hLw.c1
  have c2 := hLw.c2
  have c3 := hLw.c3
  have s12 : X.cell? ⟨w.heap.size + 1, 12, none⟩ = some (.string s.data) := hLw.sb.at 12 _ rfl
  obtain ⟨B, hB⟩ : ∃ B, B = fewM el gl [] live := ⟨_, rfl⟩
  rw [← hB] at HFw
  have HB : Hid (B = fewM el gl [] live) := hB
  have HA : Hid (∀ W, Below X.heap.size X W → Calls Tryz.prog 10 #[] W fun e w' => e = .returned (.bool true) ∧ Below W.heap.size W w') := (show ∀ W, _ from fun W g => awake_any W ((HI.out.cd.below hLw.bel).below g))
  clear hLw hFw hpt hpick HP HV HgV hB
  go_wp2_with fail
  refine Calls.mono HFw.out ?_
  rintro e w2 ⟨rfl, g2⟩
  have Hg2 : Hid (Below X.heap.size X w2) := g2
  have s122 : w2.cell? ⟨w.heap.size + 1, 12, none⟩ = some (.string s.data) := (g2.cell (p := ⟨w.heap.size + 1, 12, none⟩) (by show w.heap.size + 1 < X.heap.size; have := HLw.out.l0; have := HLw.out.l1; have := HLw.out.l2; omega)).trans s12
  clear g2 s12 c0 c1 c2 c3 HFw
  cases B
  · go_wp2_with fail
    refine Calls.mono (HA.out w2 Hg2.out) ?_
    rintro e w3 ⟨rfl, g3⟩
    go_wp2_with fail
    go_ret
    exact ⟨rfl, btr (btr HLw.out.bel Hg2.out (Nat.le_refl _)) g3 (Nat.le_refl _)⟩
  · by_cases hbig : (1500 : Int) < (s.data.size : Int)
    · go_wp2_with fail
      refine Calls.mono (HA.out w2 Hg2.out) ?_
      rintro e w3 ⟨rfl, g3⟩
      go_wp2_with fail
      go_ret
      exact ⟨rfl, btr (btr HLw.out.bel Hg2.out (Nat.le_refl _)) g3 (Nat.le_refl _)⟩
    · have hln : live.length ≤ 1000 := by
        have h := HB.out
        unfold fewM at h
        simp at h
        omega
      have L2 := HLw.out.kpt (Kpt.of_below Hg2.out) (HLw.out.mo.low (Hg2.out.mono (Nat.le_of_lt HLw.out.l2))) HLw.out.ms Hlv.out
      have HL2 : Hid _ := L2
      have hsw : Sw s := ⟨HW.out.1, HW.out.2, by omega⟩
      have hrun := run_any lo w1.heap.size p f S 256 (allFP (el.map Fe.p)) tb mb 64 L live MB s Q w2 ((L2.ev hln).up L2.l1) L2.mo (by have := L2.l1; have := L2.l2; omega) (Nat.le_of_lt L2.l2) hsw
      rw [Hpk.out, L2.gg, L2.ms, List.map_nil] at hrun
      have HRunA : Hid (∀ W Q', Lw w ea el.length ec ga gl.length gc none 0 0 la live lc s (allFP (el.map Fe.p)) (Gp.allGP (gl.map Gp.Gr.p)) [] p f S tb mb L MB lo w1.heap.size Q' W → Calls Tryz.prog 14 #[ptV p, Mt.snV s, .int .i64 n] W fun e w' => ∃ v' Q'', e = .returned v' ∧ OwnO W.heap.size w' v' (runV (allFP (el.map Fe.p)) (Gp.allGP (gl.map Gp.Gr.p)) live n s []).1 ∧ (runV (allFP (el.map Fe.p)) (Gp.allGP (gl.map Gp.Gr.p)) live n s []).1.length ≤ 64 ∧ Mq.ms Q'' = [] ∧ Mo MB lo w1.heap.size w' p Q'' ∧ Kpt MB W w') := (show ∀ W Q', _ from fun W Q' LW => by
        have h := run_any lo w1.heap.size p f S 256 (allFP (el.map Fe.p)) tb mb 64 L live MB s Q' W ((LW.ev hln).up LW.l1) LW.mo (by have := LW.l1; have := LW.l2; omega) (Nat.le_of_lt LW.l2) hsw
        rw [Hpk.out, LW.gg, LW.ms, runV_nil] at h
        exact h)
      have hok := run_ok (live := live) (pick := n) L2.gr L2.pr s []
      obtain ⟨R, hR⟩ : ∃ R, R = runV (allFP (el.map Fe.p)) (Gp.allGP (gl.map Gp.Gr.p)) live n s [] := ⟨_, rfl⟩
      rw [← hR] at hrun hok HRunA
      have hR2 : R.2 = [] := by rw [hR]; exact runV_nil _ _ _ _ _
      have HRun : Hid _ := hrun
      have q0 : w2.cell? ⟨w1.heap.size, 0, none⟩ = some (.pointer p.f) := by have := L2.pc 0 _ rfl; rwa [Nat.zero_add] at this
      have q1 : w2.cell? ⟨w1.heap.size, 1, none⟩ = some (.pointer p.g) := by have := L2.pc 1 _ rfl; rwa [Nat.zero_add] at this
      have q2 : w2.cell? ⟨w1.heap.size, 2, none⟩ = some (.slice p.ma p.mn p.mc) := by have := L2.pc 2 _ rfl; rwa [Nat.zero_add] at this
      have q3 : w2.cell? ⟨w1.heap.size, 3, none⟩ = some (.slice p.la p.ln p.lc) := by have := L2.pc 3 _ rfl; rwa [Nat.zero_add] at this
      have HOk : Hid (OkO live s.data s.ty R.1) := hok
      have HA2 : Hid (∀ W, Below w.heap.size w W → Calls Tryz.prog 10 #[] W fun e w' => e = .returned (.bool true) ∧ Below W.heap.size W w') := (show ∀ W, _ from fun W g => awake_any W (HI.out.cd.below g))
      clear L2 hrun hok hR hsw HA HLw Hg2
      go_wp2_with (refine load_Sb rfl (.tmp 4) rfl (w.heap.size + 1) s rfl HL2.out.sb ?_)
      refine Calls.mono HRun.out ?_
      rintro e w3 ⟨v3, Q3, rfl, O3, n3, ms3, M3, K3⟩
      rw [hR2] at ms3
      have L3 := HL2.out.kpt K3 M3 ms3 Hlv.out
      obtain ⟨a3, cap3, rfl⟩ := own_sl O3
      have HOu : Hid _ := outs_any a3 cap3 R.1 w2.heap.size w3 O3 n3
      have HL3 : Hid _ := L3
      have Hn : Hid (R.1.length ≤ 64) := n3
      obtain ⟨O, hO⟩ : ∃ O, R.1 = O := ⟨_, rfl⟩
      rw [hO] at HOu Hn HRunA
      rw [hO]
      obtain ⟨N, hN⟩ : ∃ N, O.length = N := ⟨_, rfl⟩
      have HN : Hid (O.length = N) := hN
      rw [hN]
      rw [hN] at HOu
      clear L3 O3 ms3 M3 K3 HOk HL2 HRun q0 q1 q2 q3 hN hO n3 s122 HX hX hR2
      go_wp2_with fail
      refine Calls.mono HOu.out ?_
      rintro e w4 ⟨v4, rfl, R4, g4⟩
      obtain ⟨a4, cap4, rfl⟩ := own_sl R4
      have L4 := HL3.out.kpt (Kpt.of_below g4) (HL3.out.mo.low (g4.mono (Nat.le_of_lt HL3.out.l2))) HL3.out.ms Hlv.out
      have HL4 : Hid _ := L4
      have HRr4 : Hid (Rr w4 a4 O ∧ ∀ g, a4 = some ⟨g, 0, none⟩ → w1.heap.size ≤ g ∧ g < w4.heap.size) := (show _ ∧ _ from ⟨Rr.of R4, fun g e => by
        have h := R4.lt g (by rw [e]; rfl)
        have := HL3.out.l2
        exact ⟨by omega, h.2⟩⟩)
      have HRun4 : Hid _ := HRunA.out w4 Q3 L4
      have q0 : w4.cell? ⟨w1.heap.size, 0, none⟩ = some (.pointer p.f) := by have := L4.pc 0 _ rfl; rwa [Nat.zero_add] at this
      have q1 : w4.cell? ⟨w1.heap.size, 1, none⟩ = some (.pointer p.g) := by have := L4.pc 1 _ rfl; rwa [Nat.zero_add] at this
      have q2 : w4.cell? ⟨w1.heap.size, 2, none⟩ = some (.slice p.ma p.mn p.mc) := by have := L4.pc 2 _ rfl; rwa [Nat.zero_add] at this
      have q3 : w4.cell? ⟨w1.heap.size, 3, none⟩ = some (.slice p.la p.ln p.lc) := by have := L4.pc 3 _ rfl; rwa [Nat.zero_add] at this
      rw [HN.out]
      clear L4 R4 g4 HOu HL3
      go_wp2_with (refine load_Sb rfl (.tmp 4) rfl (w.heap.size + 1) s rfl HL4.out.sb ?_)
      refine Calls.mono HRun4.out ?_
      rintro e w5 ⟨v5, Q5, rfl, O5, n5, ms5, M5, K5⟩
      have L5 := HL4.out.kpt K5 M5 ms5 Hlv.out
      have HL5 : Hid _ := L5
      obtain ⟨a5, cap5, rfl⟩ := own_sl O5
      have HOu : Hid _ := outs_any a5 cap5 O w4.heap.size w5 O5 n5
      have HRr5 : Hid (Rr w5 a4 O) := HRr4.out.1.kept K5.size (fun g e _ => by
        have h := HRr4.out.2 g e
        exact K5.block g h.2 (fun hm => by have := (M5.bd g hm).2; omega))
      rw [HN.out]
      rw [HN.out] at HOu
      clear L5 O5 n5 ms5 M5 K5 HRun4 HRr4 HL4 q0 q1 q2 q3
      go_wp2_with fail
      refine Calls.mono HOu.out ?_
      rintro e w6 ⟨v6, rfl, R6, g6⟩
      obtain ⟨a6, cap6, rfl⟩ := own_sl R6
      have L6 := HL5.out.kpt (Kpt.of_below g6) (HL5.out.mo.low (g6.mono (Nat.le_of_lt HL5.out.l2))) HL5.out.ms Hlv.out
      have HL6 : Hid _ := L6
      have HRr6 : Hid (Rr w6 a4 O ∧ Rr w6 a6 O) := (show _ ∧ _ from ⟨HRr5.out.kept g6.size (fun g _ hg => g6.block g hg), Rr.of R6⟩)
      have c0 := L6.c0
      have c1 := L6.c1
      have c2 := L6.c2
      have c3 := L6.c3
      have HP6 : Hid _ := parts_any ea el ec ga gl gc none [] 0 la live lc n w6 (HI.out.below L6.bel)
      rw [HN.out]
      clear L6 R6 g6 HOu HL5 HRr5
      go_wp2_with fail
      refine Calls.mono HP6.out ?_
      rintro e w7 ⟨p7, rfl, hpt7⟩
      obtain ⟨X7, hX7⟩ : ∃ X, w7.alloc (.cells (ptC p7) 33) = X := ⟨_, rfl⟩
      obtain ⟨f7, S7, tb7, mb7, L7, MB7, lo7, Q7, hPt7, hL7, hQ7, hh7⟩ := hpt7
      clear hh7
      have g7 : Below w7.heap.size w7 X7 := by rw [← hX7]; go_grown
      have z7 : X7.heap.size = w7.heap.size + 1 := by rw [← hX7]; simp
      have g67 : Below w6.heap.size w6 X7 := btr hPt7.bel g7 (Nat.le_refl _)
      have hEv := HL6.out.ev hln
      have l1 := HL6.out.l1
      have l2 := HL6.out.l2
      have hz7 := g67.size
      have q7 : X7.rangeAt w7.heap.size 0 (ptC p7).toList := by rw [← hX7]; exact range_new w7 _ _
      have kc : ∀ o v, (ptC p).toList[o]? = some v → X7.cell? ⟨w1.heap.size, o, none⟩ = some v := fun o v hv => by
        rw [g67.cell (p := ⟨w1.heap.size, o, none⟩) l2]
        have := HL6.out.pc o v hv
        rwa [Nat.zero_add] at this
      have kd : ∀ o v, (ptC p7).toList[o]? = some v → X7.cell? ⟨w7.heap.size, o, none⟩ = some v := fun o v hv => by
        have := q7 o v hv
        rwa [Nat.zero_add] at this
      have hSy : Sy w X7 w1.heap.size w7.heap.size f f7 tb tb7 mb mb7 S S7 (allFP (el.map Fe.p)) L L7 a4 a6 O := by
        refine ⟨btr HL6.out.bel g67 (Nat.le_refl _), (hEv.low (g67.mono (by omega))).fs, hPt7.fs.low g7 (fun b hb => by have := (hPt7.fb b hb).2; have := hPt7.lo.2; omega), (hEv.ge.tbl).below g67, hPt7.tbl.below g7, ?_, ?_, ?_, ?_, HRr6.out.1.kept g67.size (fun b _ hb => g67.block b hb), HRr6.out.2.kept g67.size (fun b _ hb => g67.block b hb), by omega, by omega⟩
        · rw [← hEv.pf]; exact kc 0 _ rfl
        · rw [← hEv.ge.pg]; exact kc 1 _ rfl
        · rw [← hPt7.pf]; exact kd 0 _ rfl
        · rw [← hPt7.pg]; exact kd 1 _ rfl
      have HSy : Hid _ := hSy
      have HSS : Hid ((∀ b, S b → b < X7.heap.size) ∧ ∀ b, S7 b → b < X7.heap.size) := (show _ ∧ _ from ⟨fun b hb => by have := (hEv.fb b hb).1; omega, fun b hb => by have := (hPt7.fb b hb).2; have := hPt7.lo.2; omega⟩)
      have HLL : Hid (L.map Gp.Gr.p = L7.map Gp.Gr.p ∧ L.length ≤ 64 ∧ L7.length ≤ 64) := (show _ ∧ _ ∧ _ from ⟨HL6.out.gg.trans hL7.symm, by have := congrArg List.length HL6.out.gg; rw [List.length_map] at this; rw [this]; exact Gp.allGP_len _, by have := congrArg List.length hL7; rw [List.length_map] at this; rw [this]; exact Gp.allGP_len _⟩)
      have HX7 : Hid (w7.alloc (.cells (ptC p7) 33) = X7) := hX7
      clear hSy hEv l1 l2 hz7 q7 kc kd g67 z7 g7 hPt7 hL7 hQ7 HP6 HL6 HRr6 HRunA hX7 c0 c1 c2 c3
      go_wp2_with fail
      rw [HX7.out]
      go_loopw [13] (fun i wr => ∃ k : Nat, k ≤ 8 ∧ i = .int .i64 k ∧ Hid (Below X7.heap.size X7 wr)) (fun i _ => 8 - (intOf i).toNat)
      case atStart => exact ⟨0, by omega, rfl, (show Below _ _ _ from Below.refl _ _)⟩
      case round =>
        obtain ⟨k, hk, rfl, Hk⟩ := hrel
        have hsy := HSy.out.below Hk.out HSS.out.1 HSS.out.2
        have x0 := hsy.x0
        have x1 := hsy.x1
        by_cases hlt : k < 8
        · have hltI : (k : Int) < 8 := by omega
          have HL1 : Hid _ := list_any f S 256 (allFP (el.map Fe.p)) (k : Int) wr hsy.fx
          clear hsy
          go_wp2_with fail
          refine Calls.mono HL1.out ?_
          rintro e w8 ⟨v8, l8, rfl, m8, e8, g8⟩
          have Hb8 : Hid (Below X7.heap.size X7 w8) := btr Hk.out g8 (Nat.le_refl _)
          have hsy := HSy.out.below Hb8.out HSS.out.1 HSS.out.2
          have y0 := hsy.y0
          have HL2 : Hid _ := list_any f7 S7 256 (allFP (el.map Fe.p)) (k : Int) w8 hsy.fy
          have Hm8 : Hid (Made wr.heap.size w8 v8 l8 ∧ l8.map Fe.p = tabOf (allFP (el.map Fe.p)) (k : Int)) := (show _ ∧ _ from ⟨m8, e8⟩)
          clear hsy m8 e8 g8 x0 x1 HL1
          go_wp2_with fail
          refine Calls.mono HL2.out ?_
          rintro e w9 ⟨v9, l9, rfl, m9, e9, g9⟩
          have hlen : l8.length = l9.length := by
            have := congrArg List.length (Hm8.out.2.trans e9.symm)
            simpa using this
          have Hb9 : Hid (Below X7.heap.size X7 w9) := btr Hb8.out g9 (Nat.le_refl _)
          have m8 := Hm8.out.1.below g9
          obtain ⟨a8, cap8, rfl, hform8⟩ := OwnE.form2 m8.own
          obtain ⟨a9, cap9, rfl, hform9⟩ := OwnE.form2 m9.own
          have h9' : w9.ownsRow w8.heap.size 76 10 (.slice a9 l9.length cap9) l9.length (flatE l9) := m9.own
          have HW9 : Hid ((∀ x ∈ l8, FW w9 x) ∧ (∀ x ∈ l9, FW w9 x) ∧ l8.map Fe.p = l9.map Fe.p ∧ l8.length = l9.length) := (show _ ∧ _ from ⟨m8.fw, m9.fw, Hm8.out.2.trans e9.symm, hlen⟩)
          have HF9 : Hid (a9 = none ∧ l9 = [] ∧ cap9 = 0 ∨ ∃ g, a9 = some ⟨g, 0, none⟩ ∧ w8.heap.size ≤ g ∧ g < w9.heap.size ∧ l9.length ≤ cap9 ∧ cap9 ≤ maxLen) := hform9
          rw [← hlen] at h9' ⊢
          have HO8 : Hid (OwnE wr.heap.size w9 (.slice a8 l8.length cap8) l8) := m8.own
          have HO9 : Hid (w9.ownsRow w8.heap.size 76 10 (.slice a9 l8.length cap9) l8.length (flatE l9)) := (show World.ownsRow _ _ _ _ _ _ _ from h9')
          have HF8 : Hid (a8 = none ∧ l8 = [] ∧ cap8 = 0 ∨ ∃ g, a8 = some ⟨g, 0, none⟩ ∧ wr.heap.size ≤ g ∧ g < w9.heap.size ∧ l8.length ≤ cap8 ∧ cap8 ≤ maxLen) := hform8
          have hl8 : (l8.length : Int) ≤ 9223372036854775807 := by
            rcases hform8 with ⟨_, h, _⟩ | ⟨g, _, _, _, h1, h2⟩
            · simp [h]
            · unfold maxLen at h2; omega
          have hne : ((l8.length : Int) != (l8.length : Int)) = false := by simp
          clear Hm8 m8 m9 e9 g9 hform8 hform9 h9' hlen HL2 y0 Hb8
          go_wp2_with fail
          go_loopw [16] (fun i wr => ∃ q : Nat, q ≤ l8.length ∧ i = .int .i64 q ∧ Hid (Below w9.heap.size w9 wr)) (fun i _ => l8.length - (intOf i).toNat)
          case atStart => exact ⟨0, Nat.zero_le _, rfl, (show Below _ _ _ from Below.refl _ _)⟩
          case round =>
            obtain ⟨q, hq, rfl, Hq⟩ := hrel
            by_cases hlq : q < l8.length
            · have hlq9 : q < l9.length := by have := HW9.out.2.2.2; omega
              obtain ⟨g1, rfl, _, hg1, hn1, _⟩ : ∃ g, a8 = some ⟨g, 0, none⟩ ∧ _ ≤ g ∧ g < w9.heap.size ∧ l8.length ≤ cap8 ∧ cap8 ≤ maxLen := by
                rcases HF8.out with ⟨_, h, _⟩ | h
                · subst h; cases hlq
                · exact h
              obtain ⟨g2, rfl, _, hg2, hn2, _⟩ : ∃ g, a9 = some ⟨g, 0, none⟩ ∧ _ ≤ g ∧ g < w9.heap.size ∧ l9.length ≤ cap9 ∧ cap9 ≤ maxLen := by
                rcases HF9.out with ⟨_, h, _⟩ | h
                · subst h; cases hlq9
                · exact h
              have hpe : l9[q].p = l8[q].p := by
                have := congrArg (fun z => z[q]?) HW9.out.2.2.1
                simpa [hlq, hlq9] using this.symm
              have HSe : Hid (∀ w1, Below wr.heap.size wr w1 → Calls Tryz.prog 22 #[feV l8[q], feV l9[q]] w1 fun e w' => e = .returned (.bool true) ∧ Below w1.heap.size w1 w') := (show ∀ w1, _ from fun w1 g => sameE l8[q] l9[q] w1 hpe (((HW9.out.1 _ (List.getElem_mem _)).below Hq.out).below g) (((HW9.out.2.1 _ (List.getElem_mem _)).below Hq.out).below g))
              have hB1 := (OwnE.be rfl HO8.out q hlq).below hg1 Hq.out
              have hB2 := (OwnE.be HW9.out.2.2.2 HO9.out q hlq9).below hg2 Hq.out
              have zr := Hq.out.size
              have hltq : (q : Int) < (l8.length : Int) := by omega
              have hn2' : l8.length ≤ cap9 := by have := HW9.out.2.2.2; omega
              clear hpe HI Hlv HW HB HA2 HSy HSS HLL HX7 HW9 HO8 HO9 HF8 HF9
              generalize l8[q] = A at *
              generalize l9[q] = B at *
              obtain ⟨a0, a1, a2, a3, a4', a5', a6', a7, a8, a9⟩ := be_grS hB1 (by omega)
              obtain ⟨d0, d1, d2, d3, d4, d5, d6, d7, d8, d9⟩ := be_grS hB2 (by omega)
              clear hB1 hB2
              go_wp2_with fail
              clear hn2 hlq9 hn1 hn2'
              refine wp_region_grow (by kernel_rfl) (by kernel_rfl) ?_
              go_big_quiet_step (fail)
              go_big_quiet_step (fail)
              go_big_quiet_step (fail)
              go_big_quiet_step (fail)
              go_big_quiet_step (fail)
              go_big_quiet_step (fail)
              go_big_quiet_step (fail)
              go_big_quiet_step (fail)
              go_big_quiet_step (first | (go_at_call 22; exact quiet_gr (HSe.out _ (GrT.h _))))
              go_big_quiet_step (fail)
              refine wpQuiet_nil ?_
              rintro w10 hw'
              have g10 := gr_elim hw'
              have HG10 : Hid (Below w9.heap.size w9 w10) := btr Hq.out g10 (Nat.le_refl _)
              clear hw' g10 a0 a1 a2 a3 a4' a5' a6' a7 a8 a9 d0 d1 d2 d3 d4 d5 d6 d7 d8 d9
              go_wp2_with fail
              go_roundw
              case rel => exact ⟨q + 1, by omega, by go_num, HG10⟩
              case measure => simp [intOf]; omega
            · have hltq : ¬ (q : Int) < (l8.length : Int) := by omega
              have Hk2 : Hid (Below X7.heap.size X7 wr) := btr Hb9.out Hq.out (Nat.le_refl _)
              clear HW9 HO8 HO9 HF8 HF9
              go_wp2_with fail
              go_roundw
              case rel => exact ⟨k + 1, by omega, by go_num, Hk2⟩
              case measure => simp [intOf]; omega
        · have hkl : ¬ (k : Int) < 8 := by omega
          have HG1 : Hid _ := Gp.list_any wr hsy.gx HLL.out.2.1
          clear hsy x0
          go_wp2_with fail
          refine Calls.mono HG1.out ?_
          rintro e w8 ⟨a8, c8, r8, rfl, e8, n8, G8, g8⟩
          have Hb8 : Hid (Below X7.heap.size X7 w8) := btr Hk.out g8 (Nat.le_refl _)
          have hsy := HSy.out.below Hb8.out HSS.out.1 HSS.out.2
          have y1 := hsy.y1
          have HG2 : Hid _ := Gp.list_any w8 hsy.gy HLL.out.2.2
          have Hm8 : Hid (Gp.Gs w8 a8 r8 ∧ r8.map Gp.Gr.p = L.map Gp.Gr.p ∧ r8.length ≤ c8) := (show _ ∧ _ from ⟨G8, e8, n8⟩)
          clear hsy e8 n8 G8 g8 x1 HG1
          go_wp2_with fail
          refine Calls.mono HG2.out ?_
          rintro e w9 ⟨a9, c9, r9, rfl, e9, n9, G9, g9⟩
          have hp : r8.map Gp.Gr.p = r9.map Gp.Gr.p := by rw [Hm8.out.2.1, e9, HLL.out.1]
          have hlen : r8.length = r9.length := by
            have := congrArg List.length hp
            simpa using this
          have hn64 : r8.length ≤ 64 := by
            have := congrArg List.length Hm8.out.2.1
            rw [List.length_map, List.length_map] at this
            have := HLL.out.2.1
            omega
          have hc8 : r8.length ≤ c8 := Hm8.out.2.2
          have HL8 : Hid (Gp.Gs w9 a8 r8) := Hm8.out.1.below g9
          have HL9 : Hid (Gp.Gs w9 a9 r9) := G9
          have Hp : Hid (r8.map Gp.Gr.p = r9.map Gp.Gr.p ∧ r8.length = r9.length) := (show _ ∧ _ from ⟨hp, hlen⟩)
          have Hb9 : Hid (Below X7.heap.size X7 w9) := btr Hb8.out g9 (Nat.le_refl _)
          rw [← hlen]
          rw [← hlen] at n9
          clear Hm8 hp hlen e9 G9 g9 HG2 y1 Hb8
          go_wp2_with fail
          go_loopw [19] (fun i wr => ∃ q : Nat, q ≤ r8.length ∧ i = .int .i64 q ∧ Hid (Below w9.heap.size w9 wr)) (fun i _ => r8.length - (intOf i).toNat)
          case atStart => exact ⟨0, Nat.zero_le _, rfl, (show Below _ _ _ from Below.refl _ _)⟩
          case round =>
            obtain ⟨q, hq, rfl, Hq⟩ := hrel
            by_cases hlq : q < r8.length
            · have hlq9 : q < r9.length := by have := Hp.out.2; omega
              have HSq : Hid (∀ w1, Below wr.heap.size wr w1 → Calls Tryz.prog 24 #[Gp.gV r8[q], Gp.gV r9[q]] w1 fun e w' => e = .returned (.bool true) ∧ Below w1.heap.size w1 w') := (show ∀ w1, _ from fun w1 g => by
                have e : r8[q].p = r9[q].p := by
                  have := congrArg (fun z => z[q]?) Hp.out.1
                  simpa [hlq, hlq9] using this
                have k : Below w9.heap.size w9 w1 := btr Hq.out g (Nat.le_refl _)
                have := Gp.sGrp_any r8[q].id r8[q].kd r8[q].a r8[q].l r8[q].c r9[q].id r9[q].kd r9[q].a r9[q].l r9[q].c w1 ((HL8.out.bs _ (List.getElem_mem hlq)).below k) ((HL9.out.bs _ (List.getElem_mem hlq9)).below k) (HL8.out.sm _ (List.getElem_mem hlq)) (HL9.out.sm _ (List.getElem_mem hlq9))
                rw [sGrp_ppS e] at this
                exact this)
              obtain ⟨b1, o1, rfl, hb1, hc1⟩ := (HL8.out.below Hq.out).at hlq
              obtain ⟨b2, o2, rfl, hb2, hc2⟩ := (HL9.out.below Hq.out).at hlq9
              obtain ⟨d0', d1', d2'⟩ := hc1 q hlq
              obtain ⟨e0', e1', e2'⟩ := hc2 q hlq9
              have d0 : ∀ n : GrT wr, n.w.cell? ⟨b1, o1 + q * 3, none⟩ = _ := fun n => (n.h.cell (p := ⟨b1, o1 + q * 3, none⟩) hb1).trans d0'
              have d1 : ∀ n : GrT wr, n.w.cell? ⟨b1, o1 + q * 3 + 1, none⟩ = _ := fun n => (n.h.cell (p := ⟨b1, o1 + q * 3 + 1, none⟩) hb1).trans d1'
              have d2 : ∀ n : GrT wr, n.w.cell? ⟨b1, o1 + q * 3 + 2, none⟩ = _ := fun n => (n.h.cell (p := ⟨b1, o1 + q * 3 + 2, none⟩) hb1).trans d2'
              have e0 : ∀ n : GrT wr, n.w.cell? ⟨b2, o2 + q * 3, none⟩ = _ := fun n => (n.h.cell (p := ⟨b2, o2 + q * 3, none⟩) hb2).trans e0'
              have e1 : ∀ n : GrT wr, n.w.cell? ⟨b2, o2 + q * 3 + 1, none⟩ = _ := fun n => (n.h.cell (p := ⟨b2, o2 + q * 3 + 1, none⟩) hb2).trans e1'
              have e2 : ∀ n : GrT wr, n.w.cell? ⟨b2, o2 + q * 3 + 2, none⟩ = _ := fun n => (n.h.cell (p := ⟨b2, o2 + q * 3 + 2, none⟩) hb2).trans e2'
              have hltq : (q : Int) < (r8.length : Int) := by omega
              have hne : ((r8.length : Int) != (r8.length : Int)) = false := by simp
              have hne2 : (r8.length != r8.length) = false := by simp
              clear hc1 hc2 HI Hlv HW HB HA2 HSy HSS HLL HX7 HL8 HL9 Hp d0' d1' d2' e0' e1' e2'
              generalize r8[q] = A at *
              generalize r9[q] = B at *
              obtain ⟨xi, xk, xa, xl, xc⟩ := A
              obtain ⟨yi, yk, ya, yl, yc⟩ := B
              simp only at d0 d1 d2 e0 e1 e2 HSq
              go_wp2_with fail
              refine wp_region_grow (by kernel_rfl) (by kernel_rfl) ?_
              repeat (go_big_quiet_step (first | (go_at_call 24; exact quiet_gr (HSq.out _ (GrT.h _)))))
              refine wpQuiet_nil ?_
              rintro w10 hw'
              have g10 := gr_elim hw'
              have HB10 : Hid (Below w9.heap.size w9 w10) := btr Hq.out g10 (Nat.le_refl _)
              clear hw' g10 d0 d1 d2 e0 e1 e2
              go_wp2_with fail
              go_roundw
              case rel => exact ⟨q + 1, hlq, by go_num, HB10⟩
              case measure => simp [intOf]; omega
            · have hltq : ¬ (q : Int) < (r8.length : Int) := by omega
              have Hk2 : Hid (Below X7.heap.size X7 wr) := btr Hb9.out Hq.out (Nat.le_refl _)
              have hsy := HSy.out.below Hk2.out HSS.out.1 HSS.out.2
              have HSm : Hid _ := same_eq a4 cap4 a6 cap6 O wr hsy.r4 hsy.r6 Hn.out
              have Hbl : Hid (Below w.heap.size w wr) := hsy.bel
              rw [HN.out] at HSm
              clear hsy HL8 HL9 Hp
              go_wp2_with fail
              refine Calls.mono HSm.out ?_
              rintro e wA ⟨rfl, gA⟩
              have HbA : Hid (Below w.heap.size w wA) := btr Hbl.out gA (Nat.le_refl _)
              have HAw : Hid _ := HA2.out wA HbA.out
              clear gA
              go_wp2_with fail
              refine Calls.mono HAw.out ?_
              rintro e wB ⟨rfl, gB⟩
              have HbB : Hid (Below w.heap.size w wB) := btr HbA.out gB (Nat.le_refl _)
              clear gB
              go_wp2_with fail
              go_ret
              exact ⟨rfl, HbB.out⟩
end Go.Proofs.YtgnihbdcdefdgaaGreatDoor

/-
  How a switch that has nothing handles an echo; the chapter's example.
-/
import Derived.Test.YtoklgdpdeghkpaaGreatDoorE9
namespace Go.Proofs.YtoklgdpdeghkpaaGreatDoor
open Go.ChangeShapes Go.WideShapes Go.ChangeAt Go.RowKit
set_option linter.unusedVariables false
set_option linter.unusedSimpArgs false

/-- Grown, but for block b. -/
structure Grb (b : Nat) (w w' : World) : Prop where
  os : w'.os = w.os
  tape : w'.tape = w.tape
  output : w'.output = w.output
  size : w.heap.size ≤ w'.heap.size
  block : ∀ k, k < w.heap.size → k ≠ b → w'.heap[k]? = w.heap[k]?
theorem Grb.refl (b : Nat) (w : World) : Grb b w w := ⟨rfl, rfl, rfl, Nat.le_refl _, fun _ _ _ => rfl⟩
theorem Grb.trans {b : Nat} {x y z : World} (h : Grb b x y) (g : Grb b y z) : Grb b x z :=
  ⟨g.os.trans h.os, g.tape.trans h.tape, g.output.trans h.output, Nat.le_trans h.size g.size, fun k hk hb => (g.block k (Nat.lt_of_lt_of_le hk h.size) hb).trans (h.block k hk hb)⟩
theorem Grb.only {b : Nat} {w w' : World} (h : Only b w w') : Grb b w w' := ⟨h.os, h.tape, h.output, Nat.le_of_eq h.size.symm, fun k _ hb => h.block k hb⟩
theorem Grb.ofBelow {b : Nat} {w w' : World} (h : Below w.heap.size w w') : Grb b w w' := ⟨h.os, h.tape, h.output, h.size, fun k hk _ => h.block k hk⟩
theorem Grb.below {b k : Nat} {a w w' : World} (h : Grb b w w') (g : Below k a w) (hb : k ≤ b) (hk : k ≤ w.heap.size) : Below k a w' :=
  g.trans ⟨h.os, h.tape, h.output, h.size, fun j hj => h.block j (by omega) (by omega)⟩
theorem infoS : (Tryz.prog.info? 9).map (fun i => (i.zero, i.size, i.bytes)) = some (some (.string ⟨#[]⟩), 1, 16) := by kernel_rfl
theorem wp_app_s {w : World} {ops : Array Oper} {rest : List Oper} {o : Oper} {a : Go.Act} {Q : Exit → Go.Act → World → Prop} (hgd : o.guard = none) (s x : Operand)
    (ho : o.op = .call { callee := .builtin .append, args := #[s, x], argTypes := #[23, 23] }) (hs : a.eval s = .slice none 0 0) (g : Nat) (z : ByteArray) (hx : a.eval x = .slice (some ⟨g, 0, none⟩) 1 1) (hc : w.cell? ⟨g, 0, none⟩ = some (.string z))
    (h : ∀ b c w', w.heap.size ≤ b → b < w'.heap.size → w'.cell? ⟨b, 0, none⟩ = some (.string z) → Below w.heap.size w w' → wpList Tryz.prog ops Q rest (a.put o.dst (.slice (some ⟨b, 0, none⟩) 1 c)) w') : wpList Tryz.prog ops Q (o :: rest) a w := by
  obtain ⟨i0, hi, hz0, hz1, hz2⟩ := info_parts infoS
  refine wpList_append_own w hgd s x 23 ho w.heap.size 9 i0 (.string ⟨#[]⟩) 1 16 Tryz.underlying23 hi hz0 hz1 hz2 rfl (by decide) (.slice none 0 0) 0 [] hs (World.ownsRow_nil _ _ _ _) ⟨g, 0, none⟩ 1 1 [.string z] hx rfl
    (fun j u hj => by
      cases j with
      | zero => simp at hj; subst hj; exact hc
      | succ j => simp at hj) (fun u hu => by simp at hu; subst hu; rfl) (by unfold maxLen; omega) (by omega) (Nat.le_refl _) (fun v' w' h1 h2 _ => ?_)
  rcases h1.2 with ⟨_, h0⟩ | ⟨b, cap, cur, rfl, hbg, hb, hnc, hcm, hcs, htk⟩
  · exact absurd h0 (by decide)
  · have hlt : b < w'.heap.size := (Array.getElem?_eq_some_iff.1 hb).1
    refine h b cap w' hbg hlt ?_ ⟨h2.os, h2.tape, h2.output, h2.size, fun k hk => h2.block k hk (by simp [Value.ownBlock])⟩
    have e : cur.toList[0]? = some (.string z) := by
      have : (cur.toList.take (0 + 1))[0]? = some (.string z) := by
        have e2 : cur.toList.take (0 + 1) = [.string z] := by simpa using htk
        rw [e2]; rfl
      rw [List.getElem?_take] at this
      simpa using this
    have e3 : cur[0]? = some (.string z) := by simpa using e
    simp [World.cell?, hb, e3]
theorem run_M {op : Oper} {ρ : Operand → Value} (x : Operand) (ho : op.op = .load 52 x) (b : Nat) (m : Ms) (hx : ρ x = .pointer (some ⟨b, 0, none⟩)) (w : World) (hB : Bm w b m) : (execOp ρ op).run Tryz.prog w = .ok (.value (msV m)) w := by
  unfold execOp
  simp only [ho, hx, Instr.loadAt, Instr.sureAddr, Sem.run_bind, Sem.run_pure, Result.andThen_ok, loadM w b m hB]
theorem quiet_M {op : Oper} {a : Go.Act} {C : World → Prop} {K : Go.Act → Prop} (x : Operand) (ho : op.op = .load 52 x)
    (b : Nat) (m : Ms) (hx : a.eval x = .pointer (some ⟨b, 0, none⟩)) (hB : ∀ w, C w → Bm w b m) (h : K (a.put op.dst (msV m))) : op.quiet Tryz.prog a C K :=
  ⟨msV m, fun w hC => by unfold Oper.quietAt; rw [run_M x ho b m hx w (hB w hC)]; exact ⟨rfl, rfl⟩, h⟩
theorem Bm.all {W : World} {b : Nat} {m : Ms} (h : Bm W b m) (hb : b < W.heap.size) : ∀ w, (∃ n : GrT W, w = n.w) → Bm w b m := fun w ⟨n, e⟩ => by subst e; exact h.gr hb n
def lenV : Value → Nat
  | .string s => s.size
  | _ => 0
theorem de_set {V : World} {d f tb mb lv b : Nat} (h : De V d f tb mb lv) (hd : f ≠ d ∧ tb ≠ d ∧ mb ≠ d ∧ lv ≠ d) (hb : b ≠ d) (cV : V.cell? ⟨b, 0, none⟩ = some (.string exA)) :
    De (V.setCell ⟨d, 71, none⟩ (.string ⟨#[]⟩)) d f tb mb lv ∧ (V.setCell ⟨d, 71, none⟩ (.string ⟨#[]⟩)).cell? ⟨b, 0, none⟩ = some (.string exA) := by
  obtain ⟨o, hO⟩ : ∃ U, V.setCell ⟨d, 71, none⟩ (.string ⟨#[]⟩) = U := ⟨_, rfl⟩
  have on : Only d V o := hO ▸ (Only.refl d V).setCell 71 _
  have e : ∀ k, k ≠ 71 → o.cell? ⟨d, k, none⟩ = V.cell? ⟨d, k, none⟩ := fun k hk => hO ▸ World.cell?_setCell_other _ _ _ _ (by first | (simp; done) | (simp; omega))
  have e71 : o.cell? ⟨d, 71, none⟩ = some (.string ⟨#[]⟩) := hO ▸ World.cell?_setCell_same _ _ _ h.re
  have fz : o.frozen? ⟨d, 71, none⟩ = false := by rw [← hO]; simp [h.fz]
  have x : ∀ c k, c ≠ d → o.cell? ⟨c, k, none⟩ = V.cell? ⟨c, k, none⟩ := fun c k hc => World.cell?_of_block (on.block c hc)
  obtain ⟨h1, h2, h3, h4⟩ := hd
  rw [hO]
  exact ⟨⟨(e _ (by omega)).trans h.fl, (e _ (by omega)).trans h.gr, fun i hi => (e _ (by omega)).trans (h.me i hi), (e _ (by omega)).trans h.li, e71, fz, (x _ _ h4).trans h.l1, (x _ _ h4).trans h.l2, ⟨(x _ _ h2).trans h.te.c1, (on.block mb h3).trans h.te.m, by rw [on.size]; exact h.te.lt, by rw [on.size]; exact h.te.ml⟩, ⟨fun i hi => (x _ _ h1).trans (h.fe.t i hi), by rw [on.size]; exact h.fe.lt⟩, by rw [on.size]; exact h.lt, by rw [on.size]; exact h.lv⟩, (x _ _ hb).trans cV⟩
theorem ex_rest : exD.extract 8 8 = ⟨#[]⟩ := by kernel_rfl
set_option maxRecDepth 20000 in
set_option maxHeartbeats 16000000 in
theorem dhandle_e (w : World) (d f tb mb lv : Nat) (h : De w d f tb mb lv) (hd : f ≠ d ∧ tb ≠ d ∧ mb ≠ d ∧ lv ≠ d) : Calls Tryz.prog 4 #[.pointer (some ⟨d, 0, none⟩), .string exD] w fun e w' => ∃ b c, e = .returned (.tuple #[.slice (some ⟨b, 0, none⟩) 1 c, .slice none 0 0]) ∧ w'.cell? ⟨b, 0, none⟩ = some (.string exA) ∧ De w' d f tb mb lv ∧ Grb d w w' := by
  have hr := h.re
  have hz := h.fz
  have hlt := h.lt
  have e0 : (⟨#[]⟩ : ByteArray) ++ exD = exD := by kernel_rfl
  have hs1 : ∀ w, (Instr.slice 9 (.string exD) none (some (.int .i64 8)) none).run Tryz.prog w = .ok (.string exD) w := fun w => by rw [slice_h exD 8 (by decide) (by decide)]; rfl
  have hs2 : ∀ w, (Instr.slice 9 (.string exD) (some (.int .i64 8)) none none).run Tryz.prog w = .ok (.string ⟨#[]⟩) w := fun w => by kernel_rfl
  have HD : Hid (∀ w1, Calls Tryz.prog 10 #[.string exD] w1 fun e w' => e = .returned (.tuple #[msV ⟨2, 7, ⟨#[]⟩⟩, .int .i64 8, .int .i64 0]) ∧ Below w1.heap.size w1 w') := (show ∀ w1, _ from dec_ex)
  have HN : Hid (∀ w1, Calls Tryz.prog 10 #[.string ⟨#[]⟩] w1 fun e w' => e = .returned (.tuple #[msV ⟨0, 0, ⟨#[]⟩⟩, .int .i64 0, .int .i64 10]) ∧ Below w1.heap.size w1 w') := (show ∀ w1, _ from dec_no)
  have HH : Hid (∀ w1, Calls Tryz.prog 12 #[.pointer (some ⟨d, 0, none⟩), msV ⟨2, 7, ⟨#[]⟩⟩, .string exD] w1 fun e w' => e = .returned (.tuple #[.string exA, .slice none 0 0]) ∧ Below w1.heap.size w1 w') := (show ∀ w1, _ from fun w1 => handle_e w1 d)
  have hap : ∀ w, (Builtin.append_ #[24, 24] 24 #[.slice none 0 0, .slice none 0 0]).run Tryz.prog w = .ok (.slice none 0 0) w := fun w => by kernel_rfl
  have hne : exA.toList.isEmpty = false := by kernel_rfl
  have HDe : Hid (De w d f tb mb lv) := h
  clear h
  go_enter Tryz.func4, Tryz.ntmps4
  go_wp2_with fail
  go_loopw [1, 6, 7] (fun v1 v6 v7 wr => v7 = .slice none 0 0 ∧ ((v1 = .string exD ∧ v6 = .slice none 0 0 ∧ wr = w) ∨ ∃ b c, v1 = .string ⟨#[]⟩ ∧ v6 = .slice (some ⟨b, 0, none⟩) 1 c ∧ w.heap.size ≤ b ∧ b < wr.heap.size ∧ wr.cell? ⟨b, 0, none⟩ = some (.string exA) ∧ Below w.heap.size w wr)) (fun v1 _ _ _ => lenV v1)
  case atStart => exact ⟨rfl, .inl ⟨rfl, rfl, rfl⟩⟩
  case round =>
    obtain ⟨rfl, ⟨rfl, rfl, qw⟩ | ⟨b, c, rfl, rfl, hb1, hb2, hb3, hb4⟩⟩ := hrel
    · obtain rfl : w = wr := qw.symm
      go_wp2_with fail
      refine (HD.out _).mono ?_
      rintro e w1 ⟨rfl, g1⟩
      have hY : (w1.alloc (.cells #[.int .i64 0, .int .i64 0, .int .i64 0, .bool false, .int .i64 0, .int .i64 0, .slice none 0 0, .slice none 0 0, .slice none 0 0, .bool false, .int .u64 0, .int .u64 0, .int .i64 0, .int .i64 0, .int .i64 0, .int .i64 0, .slice none 0 0, .int .i64 0, .int .i64 0, .int .i64 0, .int .i64 0, .int .i64 0, .int .i64 0, .bool false, .slice none 0 0, .string ⟨#[]⟩] 52)).there w1.heap.size 0 26 := there_new w1 (msC ms0) 52
      have HV : Hid (∀ V, Only w1.heap.size (w1.alloc (.cells #[.int .i64 0, .int .i64 0, .int .i64 0, .bool false, .int .i64 0, .int .i64 0, .slice none 0 0, .slice none 0 0, .slice none 0 0, .bool false, .int .u64 0, .int .u64 0, .int .i64 0, .int .i64 0, .int .i64 0, .int .i64 0, .slice none 0 0, .int .i64 0, .int .i64 0, .int .i64 0, .int .i64 0, .int .i64 0, .int .i64 0, .bool false, .slice none 0 0, .string ⟨#[]⟩] 52)) V → Below w1.heap.size w1 V ∧ w1.heap.size < V.heap.size) := (show ∀ V, _ from fun V o => ⟨o.belowK (Nat.le_refl _) (by go_grown), by rw [o.size]; simp⟩)
      go_wp2_with (refine store_M rfl (.tmp 8) (.tmp 24) rfl w1.heap.size ⟨2, 7, ⟨#[]⟩⟩ rfl rfl hY ?_; intro V bV tV oV)
      obtain ⟨gV, zV⟩ := HV.out V oV
      clear HV hY oV tV
      have G2 := btr g1 gV (Nat.le_refl _)
      have HQ : Hid (∀ w', (∃ n : GrT V, w' = n.w) → Bm w' w1.heap.size ⟨2, 7, ⟨#[]⟩⟩) := (show ∀ w', _ from bV.all zV)
      clear g1 gV zV bV hr hz
      refine wp_region_grow (by kernel_rfl) (by kernel_rfl) ?_
      repeat (first | (go_big_quiet_want; refine quiet_M (.tmp 8) rfl w1.heap.size ⟨2, 7, ⟨#[]⟩⟩ rfl HQ.out ?_; go_big_quiet_on; simp only [Act.put, List.setIfInBounds_toArray, List.set_cons_succ, List.set_cons_zero]) | (go_big_quiet_step ((go_at_call 12; exact quiet_gr (HH.out _)))))
      refine wpQuiet_nil ?_
      rintro w3 hw'
      have g3 := gr_elim hw'
      clear hw' HQ
      have G3 := btr G2 g3 (Nat.le_refl _)
      have HB : Hid (∀ b w4, (w3.alloc (.cells #[.string exA] 9)).heap.size ≤ b → Below (w3.alloc (.cells #[.string exA] 9)).heap.size (w3.alloc (.cells #[.string exA] 9)) w4 → w.heap.size ≤ b ∧ Below w.heap.size w w4) := (show ∀ b w4, _ from fun b w4 h1 h2 => by
        have g : Below w.heap.size w (w3.alloc (.cells #[.string exA] 9)) := btr G3 (by go_grown) (Nat.le_refl _)
        exact ⟨Nat.le_trans g.size h1, btr g h2 (Nat.le_refl _)⟩)
      clear g3 G2 G3
      go_wp2_with (at_builtin; first | (refine wp_app_s rfl (.tmp 54) (.tmp 56) rfl rfl w3.heap.size exA rfl (by simp) ?_; intro b c w4 h1 h2 h3 h4))
      go_roundw
      case rel =>
        obtain ⟨k1, k2⟩ := HB.out b w4 h1 h4
        exact ⟨rfl, .inr ⟨b, c, rfl, rfl, k1, h2, h3, k2⟩⟩
      case measure => show lenV _ < lenV _; decide
    · have HN2 : Hid (Calls Tryz.prog 10 #[.string ⟨#[]⟩] wr fun e w' => e = .returned (.tuple #[msV ⟨0, 0, ⟨#[]⟩⟩, .int .i64 0, .int .i64 10]) ∧ w'.cell? ⟨b, 0, none⟩ = some (.string exA) ∧ Below w.heap.size w w' ∧ b < w'.heap.size) := (show Calls _ _ _ _ _ from (HN.out wr).mono fun e w' ⟨h1, h2⟩ => ⟨h1, (h2.cell (p := ⟨b, 0, none⟩) hb2).trans hb3, btr hb4 h2 (Nat.le_refl _), Nat.lt_of_lt_of_le hb2 h2.size⟩)
      clear hb2 hb3 hb4 hr hz
      go_wp2_with fail
      refine HN2.out.mono ?_
      rintro e w1 ⟨rfl, c1, g1, z1⟩
      have hY : (w1.alloc (.cells #[.int .i64 0, .int .i64 0, .int .i64 0, .bool false, .int .i64 0, .int .i64 0, .slice none 0 0, .slice none 0 0, .slice none 0 0, .bool false, .int .u64 0, .int .u64 0, .int .i64 0, .int .i64 0, .int .i64 0, .int .i64 0, .slice none 0 0, .int .i64 0, .int .i64 0, .int .i64 0, .int .i64 0, .int .i64 0, .int .i64 0, .bool false, .slice none 0 0, .string ⟨#[]⟩] 52)).there w1.heap.size 0 26 := there_new w1 (msC ms0) 52
      have HV : Hid (∀ V, Only w1.heap.size (w1.alloc (.cells #[.int .i64 0, .int .i64 0, .int .i64 0, .bool false, .int .i64 0, .int .i64 0, .slice none 0 0, .slice none 0 0, .slice none 0 0, .bool false, .int .u64 0, .int .u64 0, .int .i64 0, .int .i64 0, .int .i64 0, .int .i64 0, .slice none 0 0, .int .i64 0, .int .i64 0, .int .i64 0, .int .i64 0, .int .i64 0, .int .i64 0, .bool false, .slice none 0 0, .string ⟨#[]⟩] 52)) V → Below w.heap.size w V ∧ V.cell? ⟨b, 0, none⟩ = some (.string exA)) := (show ∀ V, _ from fun V o => by
        have g : Below w1.heap.size w1 V := o.belowK (Nat.le_refl _) (by go_grown)
        exact ⟨btr g1 g (Nat.le_refl _), (g.cell (p := ⟨b, 0, none⟩) z1).trans c1⟩)
      clear c1 g1 z1
      go_wp2_with (refine store_M rfl (.tmp 8) (.tmp 24) rfl w1.heap.size ⟨0, 0, ⟨#[]⟩⟩ rfl rfl hY ?_; intro V bV tV oV)
      obtain ⟨gV, cV⟩ := HV.out V oV
      clear HV hY oV tV bV
      have DV := HDe.out.below gV
      have r1 := DV.re
      have r2 := DV.fz
      have HF : Hid (De (V.setCell ⟨d, 71, none⟩ (.string ⟨#[]⟩)) d f tb mb lv ∧ (V.setCell ⟨d, 71, none⟩ (.string ⟨#[]⟩)).cell? ⟨b, 0, none⟩ = some (.string exA)) := (show _ ∧ _ from de_set DV hd (by omega) cV)
      have HK : Hid (Grb d w (V.setCell ⟨d, 71, none⟩ (.string ⟨#[]⟩))) := (show Grb _ _ _ from (Grb.ofBelow gV).trans (Grb.only ((Only.refl d V).setCell 71 _)))
      clear DV gV cV
      go_wp2_with (go_at_call 11; refine (sclone_e _).mono ?_; rintro e w' ⟨rfl, rfl⟩)
      go_ret2
      exact ⟨b, c, rfl, HF.out.2, HF.out.1, HK.out⟩
set_option maxRecDepth 20000 in
set_option maxHeartbeats 8000000 in
theorem awake_any (w : World) : Calls Tryz.prog 9 #[] w fun e w' => e = .returned (.bool true) ∧ Below w.heap.size w w' := by
  have HN : Hid (Calls Tryz.prog 25 #[.int .i64 2, .int .i64 9, .int .i64 9] w fun e w' => e = .returned (.tuple #[.pointer (some ⟨w.heap.size + 4, 0, none⟩), .int .i64 0]) ∧ De w' (w.heap.size + 4) w.heap.size (w.heap.size + 2) (w.heap.size + 1) (w.heap.size + 3) ∧ Below w.heap.size w w') := dnew_e w
  have HH : Hid (∀ w1, De w1 (w.heap.size + 4) w.heap.size (w.heap.size + 2) (w.heap.size + 1) (w.heap.size + 3) → Calls Tryz.prog 4 #[.pointer (some ⟨w.heap.size + 4, 0, none⟩), .string exD] w1 fun e w' => ∃ b c, e = .returned (.tuple #[.slice (some ⟨b, 0, none⟩) 1 c, .slice none 0 0]) ∧ w'.cell? ⟨b, 0, none⟩ = some (.string exA) ∧ De w' (w.heap.size + 4) w.heap.size (w.heap.size + 2) (w.heap.size + 1) (w.heap.size + 3) ∧ Grb (w.heap.size + 4) w1 w') := (show ∀ w1, _ from fun w1 h => dhandle_e w1 _ _ _ _ _ h (by omega))
  have HS : Hid (∀ w1, De w1 (w.heap.size + 4) w.heap.size (w.heap.size + 2) (w.heap.size + 1) (w.heap.size + 3) → Calls Tryz.prog 8 #[.pointer (some ⟨w.heap.size + 4, 0, none⟩)] w1 fun e w' => e = .returned (.string ⟨#[]⟩) ∧ Below w1.heap.size w1 w') := (show ∀ w1, _ from fun w1 h => state_e w1 _ _ _ _ _ h)
  have hA : exA.toList = [4, 3, 0, 8, 0, 0, 0, 7] := by kernel_rfl
  have hD : (⟨#[4, 2, 0, 8, 0, 0, 0, 7]⟩ : ByteArray) = exD := rfl
  go_enter Tryz.func9, Tryz.ntmps9
  go_wp2_with fail
  refine HN.out.mono ?_
  rintro e w1 ⟨rfl, d1, g1⟩
  go_wp2_with fail
  refine (HH.out _ d1).mono ?_
  rintro e w2 ⟨b, c, rfl, c2, d2, g2⟩
  have G2 : Below w.heap.size w w2 := g2.below g1 (by omega) g1.size
  clear g1 g2 d1
  go_wp2_with fail
  refine (HS.out _ d2).mono ?_
  rintro e w3 ⟨rfl, g3⟩
  go_wp2_with fail
  go_ret
  exact ⟨rfl, btr G2 g3 (Nat.le_refl _)⟩
end Go.Proofs.YtoklgdpdeghkpaaGreatDoor

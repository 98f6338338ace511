/-
  Joined: LawHead.
-/
import Derived.Test.YtlcbfdiohcbpbaaGreatDoorZW
namespace Go.Proofs.YtlcbfdiohcbpbaaGreatDoor
/-
  How a message's bytes begin: the law's walk.
-/
open Go.ChangeShapes Go.WideShapes Go.ChangeAt Go.RowKit
set_option linter.unusedVariables false
set_option linter.unusedSimpArgs false

theorem eqI' (a : Int) : (a == a) = true := by simp
/-- A byte of a text. -/
def byteW (q : ByteArray) (i : Nat) : Int := ((q.data.toList.getD i 0).toNat : Int)
theorem idxW (q : ByteArray) (i : Nat) (h : i < q.size) (w : World) : (Instr.index 9 (.string q) (.int .i64 i)).run Tryz.prog w = .ok (.int .u8 (byteW q i)) w := by
  have hl : i < q.data.toList.length := by simpa using h
  have e : byteW q i = ((q[i]).toNat : Int) := by
    unfold byteW
    rw [List.getD_eq_getElem?_getD, List.getElem?_eq_getElem hl]
    rfl
  rw [e]
  have h0 : (0 : Int) ≤ (i : Int) := by omega
  simp [go_sem, run_index_string, Tryz.underlying9, h]
theorem u8_of (n : Int) (h0 : 0 ≤ n) (h1 : n < 256) : ((UInt8.ofNat n.toNat).toNat : Int) = n := by
  rw [UInt8.toNat_ofNat']; omega
theorem head_at (K N X : Int) (B : ByteArray) (k0 : 0 ≤ K) (k1 : K < 256) (n0 : 0 ≤ N) (n1 : N < 65536) (x0 : 0 ≤ X) (x1 : X < 4294967296) (s : ByteArray) (hs : s = pb 4 1 ++ pb K 1 ++ pb N 2 ++ pb X 4 ++ B) :
    byteW s 0 = 4 ∧ byteW s 1 = K ∧ byteW s 2 = N / 256 ∧ byteW s 3 = N % 256 ∧ byteW s 4 = X / 16777216 ∧ byteW s 5 = X / 65536 % 256 ∧ byteW s 6 = X / 256 % 256 ∧ byteW s 7 = X % 256 := by
  have e : s.data.toList = UInt8.ofNat (4 : Int).toNat :: UInt8.ofNat K.toNat :: UInt8.ofNat (N / 256).toNat :: UInt8.ofNat (N % 256).toNat :: UInt8.ofNat (X / 16777216).toNat :: UInt8.ofNat (X / 65536 % 256).toNat :: UInt8.ofNat (X / 256 % 256).toNat :: UInt8.ofNat (X % 256).toNat :: B.data.toList := by
    rw [hs]
    simp only [ba_append, pb_list]
    rw [← p1 4 (by omega) (by omega), ← p1 K k0 k1, ← p2 N n0 n1, ← p4 X x0 x1]
    rfl
  unfold byteW
  rw [e]
  refine ⟨u8_of _ (by omega) (by omega), u8_of _ k0 k1, u8_of _ (by omega) (by omega), u8_of _ (by omega) (by omega), u8_of _ (by omega) (by omega), u8_of _ (by omega) (by omega), u8_of _ (by omega) (by omega), u8_of _ (by omega) (by omega)⟩
set_option maxRecDepth 20000 in
set_option maxHeartbeats 16000000 in
theorem head_walk (m : Ms) (w : World) (h : MI w m) (hd : Ct w) : Calls Tryz.prog 7 #[msV m] w fun e w' => e = .returned (.bool true) ∧ Below w.heap.size w w' := by
  obtain ⟨W1, hW1⟩ : ∃ W1, mx w m = W1 := ⟨_, rfl⟩
  have hl : Bm W1 w.heap.size m := hW1 ▸ Bm.new w m
  have G1 : Below w.heap.size w W1 := by rw [← hW1]; go_grown
  have z1 : w.heap.size < W1.heap.size := by rw [← hW1]; simp
  have HG : Hid (Below w.heap.size w W1) := G1
  have HB : Hid (∀ w1, Below W1.heap.size W1 w1 → Bm w1 w.heap.size m ∧ w.heap.size < w1.heap.size) := (show ∀ w1, _ from fun w1 g => ⟨hl.below z1 g, Nat.lt_of_lt_of_le z1 g.size⟩)
  have HL : Hid (Bm (mx w m) w.heap.size m) := Bm.new w m
  have HW1 : Hid (w.alloc (.cells #[.int .i64 m.kind, .int .i64 m.xid, .int .i64 m.cmd, .bool m.chk, .int .i64 m.en.tab, .int .i64 m.en.pri, .slice m.en.ta m.en.tl m.en.tc, .slice m.en.aa m.en.la.length m.en.ca, .slice m.en.aw m.en.lw.length m.en.cw, .bool m.en.clr, .int .u64 m.en.mt, .int .u64 m.en.mm, .int .i64 m.en.met, .int .i64 m.en.go, .int .i64 m.gid, .int .i64 m.gkd, .slice m.ga m.gb.length m.gc, .int .i64 m.mid, .int .i64 m.mra, .int .i64 m.mbu, .int .i64 m.typ, .int .i64 m.cod, .int .i64 m.prt, .bool m.live, .slice m.aa m.la.length m.ca, .string m.dat] 33) = W1) := hW1
  have HF : Hid (Calls Tryz.prog 8 #[msV m] W1 fun e w' => e = .returned (.bool (fewM m)) ∧ Below W1.heap.size W1 w') := (show Calls _ _ _ _ _ from few_any m W1 ⟨h.ea.below G1, h.ew.below G1, h.t.below G1, h.tl, h.tc, by
    rcases h.gc with hg | ⟨g, o, hg, hlt, hc⟩
    · exact .inl hg
    · exact .inr ⟨g, o, hg, Nat.lt_of_lt_of_le hlt G1.size, fun i hi => (hc i hi).below hlt G1⟩, fun b hb => (h.ga b hb).below G1, h.a.below G1, h.u⟩)
  have HA : Hid (∀ w1, Below w.heap.size w w1 → Calls Tryz.prog 9 #[] w1 fun e w' => e = .returned (.bool true) ∧ Below w1.heap.size w1 w') := (show ∀ w1, _ from fun w1 g => awake_any w1 (hd.below g))
  clear hW1 hl G1 z1
  cases hf : fewM m with
  | false =>
    rw [hf] at HF
    clear hf h hd
    go_enter Tryz.func7, Tryz.ntmps7
    go_wp2_with (refine load_Mg rfl (.tmp 1) rfl w.heap.size m rfl HL.out ?_)
    rw [HW1.out]
    refine HF.out.mono ?_
    rintro r w1 ⟨rfl, g1⟩
    have G1 := btr HG.out g1 (Nat.le_refl _)
    go_wp2_with fail
    refine (HA.out _ G1).mono ?_
    rintro r w2 ⟨rfl, g2⟩
    go_wp2_with fail
    go_ret
    exact ⟨rfl, btr G1 g2 (Nat.le_refl _)⟩
  | true =>
    have mw := few_mw h hf
    have HE : Hid (∀ w1, Below w.heap.size w w1 → Calls Tryz.prog 10 #[msV m] w1 fun e w' => e = .returned (.tuple #[.string (encM m.msg), .int .i64 (errM m.msg)]) ∧ Below w1.heap.size w1 w') := (show ∀ w1, _ from fun w1 g => encode_M m w1 (mw.below g) h.u (hd.below g))
    rw [hf] at HF
    clear hf hd mw h
    cases hr : rightM m.msg with
    | false =>
      have e1 : encM m.msg = ⟨#[]⟩ := by unfold encM; rw [hr]; rfl
      have e2 : errM m.msg = 1 := by unfold errM; rw [hr]; rfl
      rw [e1, e2] at HE
      clear e1 e2 hr
      go_enter Tryz.func7, Tryz.ntmps7
      go_wp2_with (refine load_Mg rfl (.tmp 1) rfl w.heap.size m rfl HL.out ?_)
      rw [HW1.out]
      refine HF.out.mono ?_
      rintro r w1 ⟨rfl, g1⟩
      have G1 := btr HG.out g1 (Nat.le_refl _)
      obtain ⟨b1, z1⟩ := HB.out _ g1
      go_wp2_with (refine load_Mg rfl (.tmp 1) rfl w.heap.size m rfl b1 ?_)
      refine (HE.out _ G1).mono ?_
      rintro r w2 ⟨rfl, g2⟩
      have G2 := btr G1 g2 (Nat.le_refl _)
      clear b1 z1 g1 g2
      go_wp2_with fail
      refine (HA.out _ G2).mono ?_
      rintro r w3 ⟨rfl, g3⟩
      go_wp2_with fail
      go_ret
      exact ⟨rfl, btr G2 g3 (Nat.le_refl _)⟩
    | true =>
      have e1 : encM m.msg = allM m.msg := by unfold encM; rw [hr]; rfl
      have e2 : errM m.msg = 0 := by unfold errM; rw [hr]; rfl
      rw [e1, e2] at HE
      obtain ⟨x0, x1, ho, _⟩ := right_parts hr
      obtain ⟨n0, n1⟩ := own_kind ho
      have hz := body_le ho
      have x0' : 0 ≤ m.xid := x0
      have x1' : m.xid ≤ 4294967295 := x1
      have n0' : 0 ≤ m.kind := n0
      have n1' : m.kind ≤ 29 := n1
      have hsz : ((allM m.msg).size : Int) = 8 + ((bodyM m.msg).size : Int) := by
        unfold allM
        simp only [ByteArray.size_append, pb_size]
        omega
      obtain ⟨c0, c1, c2, c3, c4, c5, c6, c7⟩ := head_at m.kind (8 + ((bodyM m.msg).size : Int)) m.xid (bodyM m.msg) n0' (by omega) (by omega) (by omega) x0' (by omega) (allM m.msg) rfl
      obtain ⟨N, hN⟩ : ∃ N : Int, 8 + ((bodyM m.msg).size : Int) = N := ⟨_, rfl⟩
      rw [hN] at hsz c2 c3
      have N0 : 8 ≤ N := by omega
      have N1 : N ≤ 9008 := by omega
      clear hN e1 e2 hr x0 x1 n0 n1 ho hz
      generalize allM m.msg = S at *
      have i0 : ∀ w, (Instr.index 9 (.string S) (.int .i64 0)).run Tryz.prog w = .ok (.int .u8 4) w := fun w => by rw [← c0]; exact idxW S 0 (by omega) w
      have i1 : ∀ w, (Instr.index 9 (.string S) (.int .i64 1)).run Tryz.prog w = .ok (.int .u8 m.kind) w := fun w => by rw [← c1]; exact idxW S 1 (by omega) w
      have i2 : ∀ w, (Instr.index 9 (.string S) (.int .i64 2)).run Tryz.prog w = .ok (.int .u8 (N / 256)) w := fun w => by rw [← c2]; exact idxW S 2 (by omega) w
      have i3 : ∀ w, (Instr.index 9 (.string S) (.int .i64 3)).run Tryz.prog w = .ok (.int .u8 (N % 256)) w := fun w => by rw [← c3]; exact idxW S 3 (by omega) w
      have i4 : ∀ w, (Instr.index 9 (.string S) (.int .i64 4)).run Tryz.prog w = .ok (.int .u8 (m.xid / 16777216)) w := fun w => by rw [← c4]; exact idxW S 4 (by omega) w
      have i5 : ∀ w, (Instr.index 9 (.string S) (.int .i64 5)).run Tryz.prog w = .ok (.int .u8 (m.xid / 65536 % 256)) w := fun w => by rw [← c5]; exact idxW S 5 (by omega) w
      have i6 : ∀ w, (Instr.index 9 (.string S) (.int .i64 6)).run Tryz.prog w = .ok (.int .u8 (m.xid / 256 % 256)) w := fun w => by rw [← c6]; exact idxW S 6 (by omega) w
      have i7 : ∀ w, (Instr.index 9 (.string S) (.int .i64 7)).run Tryz.prog w = .ok (.int .u8 (m.xid % 256)) w := fun w => by rw [← c7]; exact idxW S 7 (by omega) w
      clear c0 c1 c2 c3 c4 c5 c6 c7
      obtain ⟨x4, h4⟩ : ∃ x, m.xid / 16777216 = x := ⟨_, rfl⟩
      obtain ⟨x5, h5⟩ : ∃ x, m.xid / 65536 % 256 = x := ⟨_, rfl⟩
      obtain ⟨x6, h6⟩ : ∃ x, m.xid / 256 % 256 = x := ⟨_, rfl⟩
      obtain ⟨x7, h7⟩ : ∃ x, m.xid % 256 = x := ⟨_, rfl⟩
      obtain ⟨a2, h2⟩ : ∃ x, N / 256 = x := ⟨_, rfl⟩
      obtain ⟨a3, h3⟩ : ∃ x, N % 256 = x := ⟨_, rfl⟩
      rw [h4] at i4
      rw [h5] at i5
      rw [h6] at i6
      rw [h7] at i7
      rw [h2] at i2
      rw [h3] at i3
      have r4 : 0 ≤ x4 ∧ x4 < 256 := by omega
      have r5 : 0 ≤ x5 ∧ x5 < 256 := by omega
      have r6 : 0 ≤ x6 ∧ x6 < 256 := by omega
      have r7 : 0 ≤ x7 ∧ x7 < 256 := by omega
      have r2 : 0 ≤ a2 ∧ a2 < 256 := by omega
      have r3 : 0 ≤ a3 ∧ a3 < 256 := by omega
      have hx : m.xid = 256 * (256 * (256 * x4 + x5) + x6) + x7 := by omega
      have hNa : ((256 : Int) * a2 + a3 == (S.size : Int)) = true := by rw [hsz]; simp; omega
      obtain ⟨r40, r41⟩ := r4
      obtain ⟨r50, r51⟩ := r5
      obtain ⟨r60, r61⟩ := r6
      obtain ⟨r70, r71⟩ := r7
      obtain ⟨r20, r21⟩ := r2
      obtain ⟨r30, r31⟩ := r3
      have hS : 8 ≤ S.size := by omega
      have hS2 : S.size ≤ 9008 := by omega
      have hS3 : decide ((8 : Int) ≤ (S.size : Int)) = true := by simp; omega
      have hk := eqI' m.kind
      have hxb : ((256 : Int) * (256 * (256 * x4 + x5) + x6) + x7 == m.xid) = true := by rw [← hx]; simp
      have HX : Hid (m.xid = 256 * (256 * (256 * x4 + x5) + x6) + x7) := hx
      clear h4 h5 h6 h7 h2 h3 hx hsz N0 N1
      go_enter Tryz.func7, Tryz.ntmps7
      go_wp2_with (refine load_Mg rfl (.tmp 1) rfl w.heap.size m rfl HL.out ?_)
      rw [HW1.out]
      refine HF.out.mono ?_
      rintro r w1 ⟨rfl, g1⟩
      have G1 := btr HG.out g1 (Nat.le_refl _)
      obtain ⟨b1, z1⟩ := HB.out _ g1
      go_wp2_with (refine load_Mg rfl (.tmp 1) rfl w.heap.size m rfl b1 ?_)
      refine (HE.out _ G1).mono ?_
      rintro r w2 ⟨rfl, g2⟩
      have G2 := btr G1 g2 (Nat.le_refl _)
      obtain ⟨b2, z2⟩ := HB.out _ (btr g1 g2 (Nat.le_refl _))
      have q0 : ∀ n : GrT w2, n.w.cell? ⟨w.heap.size, 0, none⟩ = some (.int .i64 m.kind) := fun n => (Bm.gr b2 z2 n) 0 _ rfl
      have q1 : ∀ n : GrT w2, n.w.cell? ⟨w.heap.size, 1, none⟩ = some (.int .i64 m.xid) := fun n => (Bm.gr b2 z2 n) 1 _ rfl
      have HAn : Hid (∀ n : GrT w2, Calls Tryz.prog 9 #[] n.w fun e w' => e = .returned (.bool true) ∧ Below n.w.heap.size n.w w') := (show ∀ n : GrT w2, _ from fun n => HA.out _ (btr G2 n.h (Nat.le_refl _)))
      clear b1 z1 g1 g2 b2 z2
      go_wp2_with fail
      go_rounds 5
      refine wp_region_grow (by kernel_rfl) (by kernel_rfl) ?_
      repeat (go_big_quiet_step ((first | (go_at_call 9; exact quiet_gr (HAn.out _)))))
      refine wpQuiet_nil ?_
      rintro w3 hw'
      have g3 := gr_elim hw'
      clear hw' q0 q1
      go_wp2_with fail
      go_ret
      exact ⟨rfl, btr G2 g3 (Nat.le_refl _)⟩
end Go.Proofs.YtlcbfdiohcbpbaaGreatDoor

/-
  What instr's read, place and firstSize answer, as contracts.
-/
import Derived.Test.YtcbhkbiofmimbaaDoorEBlk
import Derived.Test.YtcbhkbiofmimbaaDoorDec
namespace Go.Proofs.YtcbhkbiofmimbaaDoor
open Go.ChangeShapes Go.WideShapes Go.ChangeAt Go.RowKit

/-- A reader of what is behind a part's head; what the bytes of a part would say; where a part stands. -/
def rs4 (d : ByteArray) : RS := ⟨d.extract 4 d.size, 0⟩
def decL (d : ByteArray) : List A := (decR (d.extract 8 d.size)).1
def readX (p : Int) (d : ByteArray) (s : Sp) : Sp :=
  if p = 6 then { s with met := (rs4 d).num 4 } else if p = 4 then { s with la := decL d } else if p = 5 then { s with clr := true } else if p = 3 then { s with lw := decL d }
  else if p = 2 then { s with mt := ((rs4 d).skip 4).num 8, mm := (((rs4 d).skip 4).skip 8).num 8 } else if p = 1 then { s with go := (rs4 d).num 1 } else s
def placeX (p : Int) : Int := if p = 6 then 1 else if p = 4 then 2 else if p = 5 then 3 else if p = 3 then 4 else if p = 2 then 5 else if p = 1 then 6 else 0
theorem decR_few (d : ByteArray) : (decR d).1.length ≤ 32 := by
  by_cases h : (decR d).2 = 0
  · have h1 := (enc_dec d h).1
    unfold encodeE at h1
    split at h1
    · split at h1
      · assumption
      · cases h1
    · cases h1
  · rw [decR_bad d h]; exact Nat.zero_le _
/-- Its actions lie in blocks from a number on. -/
structure EF (B : Nat) (w : World) (x : En) : Prop where
  a : TsF B w x.aa x.la
  w : TsF B w x.aw x.lw
  na : x.la.length ≤ 1000
  nw : x.lw.length ≤ 1000
theorem EF.ew {B : Nat} {w : World} {x : En} (h : EF B w x) : EW w x := ⟨h.a.ts, h.w.ts, h.na, h.nw⟩
theorem TsF.below {B : Nat} {w w' : World} {a : Option Addr} {l : List A} (h : TsF B w a l) (g : Below w.heap.size w w') : TsF B w' a l := h.keep g.size (fun k _ hk => g.block k hk)
theorem TsF.mono {B C : Nat} {w : World} {a : Option Addr} {l : List A} (h : TsF B w a l) (hc : C ≤ B) : TsF C w a l := by
  rcases h with h | ⟨g, ha, h0, h1⟩
  · exact .inl h
  · exact .inr ⟨g, ha, by omega, h1⟩
theorem EF.below {B : Nat} {w w' : World} {x : En} (h : EF B w x) (g : Below w.heap.size w w') : EF B w' x := ⟨h.a.below g, h.w.below g, h.na, h.nw⟩
/-- The two blocks of read: the entry, and its answer. -/
abbrev twoE (w : World) (x : En) : World := (ex w x).alloc (.cells (enC en0) 26)
theorem Wn.two0 (w : World) (x : En) : Wn (twoE w x) w.heap.size x := (Wn.new w x).alloc (by simp) _
theorem Wn.two1 (w : World) (x : En) : Wn (twoE w x) (w.heap.size + 1) en0 := by have := Wn.new (ex w x) en0; simpa using this
theorem rd_two (s : ByteArray) (x : En) (w : World) : Calls Tryd.prog 36 #[.string s] (twoE w x) fun r w' => r = .returned (.pointer (some ⟨w.heap.size + 2, 0, none⟩)) ∧ Rd w' (w.heap.size + 2) s 0 ∧ Wn w' w.heap.size x ∧ Wn w' (w.heap.size + 1) en0 ∧ Below w.heap.size w w' ∧ w'.heap.size = w.heap.size + 3 := by
  refine (rd_any s (twoE w x)).mono ?_
  rintro r w' ⟨rfl, h1, h2, h3⟩
  have e : (twoE w x).heap.size = w.heap.size + 2 := by simp
  rw [e] at h1 h2 h3
  refine ⟨by rw [e], h1, (Wn.two0 w x).below (by omega) h2, (Wn.two1 w x).below (by omega) h2, ?_, h3⟩
  exact (show Below w.heap.size w (twoE w x) by go_grown).trans (h2.mono (by omega))
theorem slice_from (d : ByteArray) (k : Nat) (h : k ≤ d.size) (w : World) : (Instr.slice 9 (.string d) (some (.int .i64 (k : Int))) none none).run Tryd.prog w = .ok (.string (d.extract k d.size)) w := by
  have := slice_l d (k : Int) (by omega) (by omega) w
  simpa using this
theorem below_sE_block {w : World} {c g : Nat} (x : En) (h : g ≠ c) : (sE w c x).heap[g]? = w.heap[g]? := by
  have : ∀ (vs : List Value) (o : Nat) (w : World), (w.setCells c o vs).heap[g]? = w.heap[g]? := by
    intro vs
    induction vs with
    | nil => intro o w; rfl
    | cons v r ih => intro o w; exact (ih (o + 1) _).trans (Below.heap_setCell _ _ _ _ h)
  exact this _ _ _
set_option maxRecDepth 20000 in
set_option maxHeartbeats 8000000 in
theorem readX_6 (d : ByteArray) (x : En) (w : World) (h : EW w x) (hd : Cd w) (hs : d.size ≤ maxLen) (h8 : 8 ≤ d.size) :
    Calls Tryd.prog 38 #[.int .i64 6, .string d, enV x] w fun e w' => ∃ y : En, e = .returned (enV y) ∧ y.sp = readX 6 d x.sp ∧ (y.pri = x.pri ∧ y.ta = x.ta ∧ y.tl = x.tl ∧ y.tc = x.tc) ∧ EW w' y ∧ (∀ B, B ≤ w.heap.size → EF B w x → EF B w' y) ∧ Below w.heap.size w w' := by
  have hR : Hid (∀ s, readX 6 d s = { s with met := (rs4 d).num 4 }) := (show ∀ s, _ from fun s => rfl)
  have hz : (rs4 d).s.size ≤ maxLen := by
    show (d.extract 4 d.size).size ≤ _
    rw [ByteArray.size_extract]; omega
  have HRd : Hid (Calls Tryd.prog 36 #[.string (d.extract 4 d.size)] (twoE w x) fun r w' => r = .returned (.pointer (some ⟨w.heap.size + 2, 0, none⟩)) ∧ Rd w' (w.heap.size + 2) (rs4 d).s (rs4 d).e ∧ Wn w' w.heap.size x ∧ Wn w' (w.heap.size + 1) en0 ∧ Below w.heap.size w w' ∧ w'.heap.size = w.heap.size + 3) := rd_two (d.extract 4 d.size) x w
  have HEW : Hid (EW w x) := h
  have HD : Hid (Cd w) := hd
  skip
  generalize rs4 d = R at *
  clear h hd hs
  have n0 : 0 ≤ (R).num 4 ∧ (R).num 4 < 4294967296 := by simpa using RS.num_lt (R) 4 (by omega)
  have z0 : (R).s.size ≤ maxLen := hz
  go_enter Tryd.func38, Tryd.ntmps38
  go_wp2_with fail
  refine HRd.out.mono ?_
  rintro r w1 ⟨rfl, r0, d0, e0, G0, s0⟩
  have s0' : w.heap.size + 3 ≤ w1.heap.size := by omega
  clear s0
  go_wp2_with fail
  refine (numR (w.heap.size + 2) (R) 4 _ z0 r0).mono ?_
  rintro r u0 ⟨rfl, r1, o0⟩
  have d1 := d0.block (o0.block _ (by omega))
  have e1 := e0.block (o0.block _ (by omega))
  have G1 : Below w.heap.size w u0 := o0.below (by omega) G0
  have s1' : w.heap.size + 3 ≤ u0.heap.size := by rw [o0.size]; exact s0'
  clear o0 d0 e0 G0 s0' r0
  obtain ⟨N0, hN0⟩ : ∃ N, (R).num 4 = N := ⟨_, rfl⟩
  rw [hN0] at n0
  rw [hN0]
  have HN0 : Hid ((R).num 4 = N0) := hN0
  have p0 : 0 ≤ N0 := n0.1
  have q0 : N0 < 4294967296 := n0.2
  clear n0 hN0
  have d2 := d1.set8 N0
  have e2 := e1.out (c := w.heap.size) (o := 8) (v := .int .i64 N0) (by omega)
  have G2 : Below w.heap.size w (u0.setCell ⟨w.heap.size, 8, none⟩ (.int .i64 N0)) := G1.setCell (Nat.le_refl _) _
  have s2' : w.heap.size + 3 ≤ (u0.setCell ⟨w.heap.size, 8, none⟩ (.int .i64 N0)).heap.size := by simpa [World.setCell] using s1'
  have dd1 := d1
  obtain ⟨⟨c0, c1, c2, c3, c4, c5, c6, c7, c8, c9⟩, cf⟩ := dd1
  clear e1 G1 s1'
  obtain ⟨V, hV⟩ : ∃ V, ((u0.setCell ⟨w.heap.size, 8, none⟩ (.int .i64 N0))).setCells (w.heap.size + 1) 0 (enC { x with met := N0 }).toList = V := ⟨_, rfl⟩
  have HT : Hid (((u0.setCell ⟨w.heap.size, 8, none⟩ (.int .i64 N0))).there (w.heap.size + 1) 0 (enC { x with met := N0 }).size) := (show World.there _ _ _ _ from wn_there e2)
  have F1 : Wn V (w.heap.size + 1) { x with met := N0 } := hV ▸ wn_set e2 { x with met := N0 }
  have GV : Below w.heap.size w V := hV ▸ below_sE { x with met := N0 } G2 (by omega)
  have HW : Hid (((u0.setCell ⟨w.heap.size, 8, none⟩ (.int .i64 N0))).setCells (w.heap.size + 1) 0 (enC { x with met := N0 }).toList = V) := hV
  clear e2 hV G2 s2'
  go_wp2_with (refine wpList_store_mid rfl 26 (.tmp 6) _ rfl (w.heap.size + 1) 0 (enC { x with met := N0 }) rfl rfl HT.out (hiE { x with met := N0 }) (oneE { x with met := N0 }) ?_; rw [HW.out])
  refine bodyPost_ret (resE (b := w.heap.size + 1) (x := { x with met := N0 }) rfl rfl F1.1) rfl ?_
  exact ⟨{ x with met := N0 }, rfl, (show _ = _ by rw [hR.out]; rw [HN0.out]; rfl), ⟨rfl, rfl, rfl, rfl⟩, ⟨(HEW.out.below GV).a, (HEW.out.below GV).w, HEW.out.na, HEW.out.nw⟩, fun B hB f => ⟨f.a.below GV, f.w.below GV, f.na, f.nw⟩, GV⟩
set_option maxRecDepth 20000 in
set_option maxHeartbeats 8000000 in
theorem readX_4 (d : ByteArray) (x : En) (w : World) (h : EW w x) (hd : Cd w) (hs : d.size ≤ maxLen) (h8 : 8 ≤ d.size) :
    Calls Tryd.prog 38 #[.int .i64 4, .string d, enV x] w fun e w' => ∃ y : En, e = .returned (enV y) ∧ y.sp = readX 4 d x.sp ∧ (y.pri = x.pri ∧ y.ta = x.ta ∧ y.tl = x.tl ∧ y.tc = x.tc) ∧ EW w' y ∧ (∀ B, B ≤ w.heap.size → EF B w x → EF B w' y) ∧ Below w.heap.size w w' := by
  have hR : Hid (∀ s, readX 4 d s = { s with la := decL d }) := (show ∀ s, _ from fun s => rfl)
  have hz : (rs4 d).s.size ≤ maxLen := by
    show (d.extract 4 d.size).size ≤ _
    rw [ByteArray.size_extract]; omega
  have HRd : Hid (Calls Tryd.prog 36 #[.string (d.extract 4 d.size)] (twoE w x) fun r w' => r = .returned (.pointer (some ⟨w.heap.size + 2, 0, none⟩)) ∧ Rd w' (w.heap.size + 2) (rs4 d).s (rs4 d).e ∧ Wn w' w.heap.size x ∧ Wn w' (w.heap.size + 1) en0 ∧ Below w.heap.size w w' ∧ w'.heap.size = w.heap.size + 3) := rd_two (d.extract 4 d.size) x w
  have HEW : Hid (EW w x) := h
  have HD : Hid (Cd w) := hd
  have HDec : Hid (∀ w, Cd w → Calls Tryd.prog 52 #[.string (d.extract 8 d.size)] w fun z w' => ∃ ad cap, z = .returned (.tuple #[.slice ad (decL d).length cap, .int .i64 (decR (d.extract 8 d.size)).2]) ∧ TsF w.heap.size w' ad (decL d) ∧ Below w.heap.size w w') := (show ∀ w, _ from fun w hd => dec_any _ w (by rw [ByteArray.size_extract]; omega) hd)
  have HFew : Hid ((decL d).length ≤ 32) := (show _ ≤ _ from decR_few _)
  generalize decL d = DL at *
  generalize (decR (d.extract 8 d.size)).2 = DE at *
  generalize rs4 d = R at *
  clear h hd hs
  go_enter Tryd.func38, Tryd.ntmps38
  go_wp2_with fail
  refine HRd.out.mono ?_
  rintro r w1 ⟨rfl, r0, d0, e0, G0, s0⟩
  have s0' : w.heap.size + 3 ≤ w1.heap.size := by omega
  clear s0
  go_wp2_with fail
  refine (HDec.out _ (HD.out.below G0)).mono ?_
  rintro r u0 ⟨ad, cp, rfl, tf, gd⟩
  have d1 := d0.below (by omega) gd
  have e1 := e0.below (by omega) gd
  have G1 : Below w.heap.size w u0 := btr G0 gd (by omega)
  have s1' : w.heap.size + 3 ≤ u0.heap.size := by have := gd.size; omega
  have HTF : Hid (TsF (w.heap.size + 2) u0 ad DL) := (show TsF _ _ _ _ from by
    rcases tf with t | ⟨g, ha, hb, hg, hc⟩
    · exact .inl t
    · exact .inr ⟨g, ha, by omega, hg, hc⟩)
  clear gd d0 e0 G0 s0' tf r0
  have d2 := d1.set3 ad DL cp
  have e2 := e1.out (c := w.heap.size) (o := 3) (v := .slice ad DL.length cp) (by omega)
  have G2 : Below w.heap.size w (u0.setCell ⟨w.heap.size, 3, none⟩ (.slice ad DL.length cp)) := G1.setCell (Nat.le_refl _) _
  have s2' : w.heap.size + 3 ≤ (u0.setCell ⟨w.heap.size, 3, none⟩ (.slice ad DL.length cp)).heap.size := by simpa [World.setCell] using s1'
  have dd1 := d1
  obtain ⟨⟨c0, c1, c2, c3, c4, c5, c6, c7, c8, c9⟩, cf⟩ := dd1
  clear e1 G1 s1'
  obtain ⟨V, hV⟩ : ∃ V, ((u0.setCell ⟨w.heap.size, 3, none⟩ (.slice ad DL.length cp))).setCells (w.heap.size + 1) 0 (enC { x with aa := ad, la := DL, ca := cp }).toList = V := ⟨_, rfl⟩
  have HT : Hid (((u0.setCell ⟨w.heap.size, 3, none⟩ (.slice ad DL.length cp))).there (w.heap.size + 1) 0 (enC { x with aa := ad, la := DL, ca := cp }).size) := (show World.there _ _ _ _ from wn_there e2)
  have F1 : Wn V (w.heap.size + 1) { x with aa := ad, la := DL, ca := cp } := hV ▸ wn_set e2 { x with aa := ad, la := DL, ca := cp }
  have GV : Below w.heap.size w V := hV ▸ below_sE { x with aa := ad, la := DL, ca := cp } G2 (by omega)
  have HTV : Hid (TsF (w.heap.size + 2) V ad DL) := (show TsF _ _ _ _ from by
    have t1 : TsF (w.heap.size + 2) (u0.setCell ⟨w.heap.size, 3, none⟩ (.slice ad DL.length cp)) ad DL := HTF.out.keep (by simp [World.setCell]) (fun g hg _ => Below.heap_setCell _ _ _ _ (show g ≠ w.heap.size by omega))
    have t2 : TsF (w.heap.size + 2) V ad DL := t1.keep (by rw [← hV]; exact (below_sE { x with aa := ad, la := DL, ca := cp } (Below.refl 0 _) (Nat.zero_le _)).size) (fun g hg _ => by rw [← hV]; exact (below_sE_block { x with aa := ad, la := DL, ca := cp } (by omega)))
    exact t2)
  have HW : Hid (((u0.setCell ⟨w.heap.size, 3, none⟩ (.slice ad DL.length cp))).setCells (w.heap.size + 1) 0 (enC { x with aa := ad, la := DL, ca := cp }).toList = V) := hV
  clear e2 hV G2 s2'
  go_wp2_with (refine wpList_store_mid rfl 26 (.tmp 6) _ rfl (w.heap.size + 1) 0 (enC { x with aa := ad, la := DL, ca := cp }) rfl rfl HT.out (hiE { x with aa := ad, la := DL, ca := cp }) (oneE { x with aa := ad, la := DL, ca := cp }) ?_; rw [HW.out])
  refine bodyPost_ret (resE (b := w.heap.size + 1) (x := { x with aa := ad, la := DL, ca := cp }) rfl rfl F1.1) rfl ?_
  exact ⟨{ x with aa := ad, la := DL, ca := cp }, rfl, (show _ = _ by rw [hR.out]; rfl), ⟨rfl, rfl, rfl, rfl⟩, ⟨HTV.out.ts, (HEW.out.below GV).w, Nat.le_trans HFew.out (by decide), HEW.out.nw⟩, fun B hB f => ⟨HTV.out.mono (by omega), f.w.below GV, Nat.le_trans HFew.out (by decide), f.nw⟩, GV⟩
set_option maxRecDepth 20000 in
set_option maxHeartbeats 8000000 in
theorem readX_5 (d : ByteArray) (x : En) (w : World) (h : EW w x) (hd : Cd w) (hs : d.size ≤ maxLen) (h8 : 8 ≤ d.size) :
    Calls Tryd.prog 38 #[.int .i64 5, .string d, enV x] w fun e w' => ∃ y : En, e = .returned (enV y) ∧ y.sp = readX 5 d x.sp ∧ (y.pri = x.pri ∧ y.ta = x.ta ∧ y.tl = x.tl ∧ y.tc = x.tc) ∧ EW w' y ∧ (∀ B, B ≤ w.heap.size → EF B w x → EF B w' y) ∧ Below w.heap.size w w' := by
  have hR : Hid (∀ s, readX 5 d s = { s with clr := true }) := (show ∀ s, _ from fun s => rfl)
  have hz : (rs4 d).s.size ≤ maxLen := by
    show (d.extract 4 d.size).size ≤ _
    rw [ByteArray.size_extract]; omega
  have HRd : Hid (Calls Tryd.prog 36 #[.string (d.extract 4 d.size)] (twoE w x) fun r w' => r = .returned (.pointer (some ⟨w.heap.size + 2, 0, none⟩)) ∧ Rd w' (w.heap.size + 2) (rs4 d).s (rs4 d).e ∧ Wn w' w.heap.size x ∧ Wn w' (w.heap.size + 1) en0 ∧ Below w.heap.size w w' ∧ w'.heap.size = w.heap.size + 3) := rd_two (d.extract 4 d.size) x w
  have HEW : Hid (EW w x) := h
  have HD : Hid (Cd w) := hd
  skip
  generalize rs4 d = R at *
  clear h hd hs
  go_enter Tryd.func38, Tryd.ntmps38
  go_wp2_with fail
  refine HRd.out.mono ?_
  rintro r w1 ⟨rfl, r0, d0, e0, G0, s0⟩
  have s0' : w.heap.size + 3 ≤ w1.heap.size := by omega
  clear s0
  have d1 := d0.set5 true
  have e1 := e0.out (c := w.heap.size) (o := 5) (v := .bool true) (by omega)
  have G1 : Below w.heap.size w (w1.setCell ⟨w.heap.size, 5, none⟩ (.bool true)) := G0.setCell (Nat.le_refl _) _
  have s1' : w.heap.size + 3 ≤ (w1.setCell ⟨w.heap.size, 5, none⟩ (.bool true)).heap.size := by simpa [World.setCell] using s0'
  have dd0 := d0
  obtain ⟨⟨c0, c1, c2, c3, c4, c5, c6, c7, c8, c9⟩, cf⟩ := dd0
  clear e0 G0 s0'
  obtain ⟨V, hV⟩ : ∃ V, ((w1.setCell ⟨w.heap.size, 5, none⟩ (.bool true))).setCells (w.heap.size + 1) 0 (enC { x with clr := true }).toList = V := ⟨_, rfl⟩
  have HT : Hid (((w1.setCell ⟨w.heap.size, 5, none⟩ (.bool true))).there (w.heap.size + 1) 0 (enC { x with clr := true }).size) := (show World.there _ _ _ _ from wn_there e1)
  have F1 : Wn V (w.heap.size + 1) { x with clr := true } := hV ▸ wn_set e1 { x with clr := true }
  have GV : Below w.heap.size w V := hV ▸ below_sE { x with clr := true } G1 (by omega)
  have HW : Hid (((w1.setCell ⟨w.heap.size, 5, none⟩ (.bool true))).setCells (w.heap.size + 1) 0 (enC { x with clr := true }).toList = V) := hV
  clear e1 hV G1 s1'
  go_wp2_with (refine wpList_store_mid rfl 26 (.tmp 6) _ rfl (w.heap.size + 1) 0 (enC { x with clr := true }) rfl rfl HT.out (hiE { x with clr := true }) (oneE { x with clr := true }) ?_; rw [HW.out])
  refine bodyPost_ret (resE (b := w.heap.size + 1) (x := { x with clr := true }) rfl rfl F1.1) rfl ?_
  exact ⟨{ x with clr := true }, rfl, (show _ = _ by rw [hR.out]; rfl), ⟨rfl, rfl, rfl, rfl⟩, ⟨(HEW.out.below GV).a, (HEW.out.below GV).w, HEW.out.na, HEW.out.nw⟩, fun B hB f => ⟨f.a.below GV, f.w.below GV, f.na, f.nw⟩, GV⟩
set_option maxRecDepth 20000 in
set_option maxHeartbeats 8000000 in
theorem readX_3 (d : ByteArray) (x : En) (w : World) (h : EW w x) (hd : Cd w) (hs : d.size ≤ maxLen) (h8 : 8 ≤ d.size) :
    Calls Tryd.prog 38 #[.int .i64 3, .string d, enV x] w fun e w' => ∃ y : En, e = .returned (enV y) ∧ y.sp = readX 3 d x.sp ∧ (y.pri = x.pri ∧ y.ta = x.ta ∧ y.tl = x.tl ∧ y.tc = x.tc) ∧ EW w' y ∧ (∀ B, B ≤ w.heap.size → EF B w x → EF B w' y) ∧ Below w.heap.size w w' := by
  have hR : Hid (∀ s, readX 3 d s = { s with lw := decL d }) := (show ∀ s, _ from fun s => rfl)
  have hz : (rs4 d).s.size ≤ maxLen := by
    show (d.extract 4 d.size).size ≤ _
    rw [ByteArray.size_extract]; omega
  have HRd : Hid (Calls Tryd.prog 36 #[.string (d.extract 4 d.size)] (twoE w x) fun r w' => r = .returned (.pointer (some ⟨w.heap.size + 2, 0, none⟩)) ∧ Rd w' (w.heap.size + 2) (rs4 d).s (rs4 d).e ∧ Wn w' w.heap.size x ∧ Wn w' (w.heap.size + 1) en0 ∧ Below w.heap.size w w' ∧ w'.heap.size = w.heap.size + 3) := rd_two (d.extract 4 d.size) x w
  have HEW : Hid (EW w x) := h
  have HD : Hid (Cd w) := hd
  have HDec : Hid (∀ w, Cd w → Calls Tryd.prog 52 #[.string (d.extract 8 d.size)] w fun z w' => ∃ ad cap, z = .returned (.tuple #[.slice ad (decL d).length cap, .int .i64 (decR (d.extract 8 d.size)).2]) ∧ TsF w.heap.size w' ad (decL d) ∧ Below w.heap.size w w') := (show ∀ w, _ from fun w hd => dec_any _ w (by rw [ByteArray.size_extract]; omega) hd)
  have HFew : Hid ((decL d).length ≤ 32) := (show _ ≤ _ from decR_few _)
  generalize decL d = DL at *
  generalize (decR (d.extract 8 d.size)).2 = DE at *
  generalize rs4 d = R at *
  clear h hd hs
  go_enter Tryd.func38, Tryd.ntmps38
  go_wp2_with fail
  refine HRd.out.mono ?_
  rintro r w1 ⟨rfl, r0, d0, e0, G0, s0⟩
  have s0' : w.heap.size + 3 ≤ w1.heap.size := by omega
  clear s0
  go_wp2_with fail
  refine (HDec.out _ (HD.out.below G0)).mono ?_
  rintro r u0 ⟨ad, cp, rfl, tf, gd⟩
  have d1 := d0.below (by omega) gd
  have e1 := e0.below (by omega) gd
  have G1 : Below w.heap.size w u0 := btr G0 gd (by omega)
  have s1' : w.heap.size + 3 ≤ u0.heap.size := by have := gd.size; omega
  have HTF : Hid (TsF (w.heap.size + 2) u0 ad DL) := (show TsF _ _ _ _ from by
    rcases tf with t | ⟨g, ha, hb, hg, hc⟩
    · exact .inl t
    · exact .inr ⟨g, ha, by omega, hg, hc⟩)
  clear gd d0 e0 G0 s0' tf r0
  have d2 := d1.set4 ad DL cp
  have e2 := e1.out (c := w.heap.size) (o := 4) (v := .slice ad DL.length cp) (by omega)
  have G2 : Below w.heap.size w (u0.setCell ⟨w.heap.size, 4, none⟩ (.slice ad DL.length cp)) := G1.setCell (Nat.le_refl _) _
  have s2' : w.heap.size + 3 ≤ (u0.setCell ⟨w.heap.size, 4, none⟩ (.slice ad DL.length cp)).heap.size := by simpa [World.setCell] using s1'
  have dd1 := d1
  obtain ⟨⟨c0, c1, c2, c3, c4, c5, c6, c7, c8, c9⟩, cf⟩ := dd1
  clear e1 G1 s1'
  obtain ⟨V, hV⟩ : ∃ V, ((u0.setCell ⟨w.heap.size, 4, none⟩ (.slice ad DL.length cp))).setCells (w.heap.size + 1) 0 (enC { x with aw := ad, lw := DL, cw := cp }).toList = V := ⟨_, rfl⟩
  have HT : Hid (((u0.setCell ⟨w.heap.size, 4, none⟩ (.slice ad DL.length cp))).there (w.heap.size + 1) 0 (enC { x with aw := ad, lw := DL, cw := cp }).size) := (show World.there _ _ _ _ from wn_there e2)
  have F1 : Wn V (w.heap.size + 1) { x with aw := ad, lw := DL, cw := cp } := hV ▸ wn_set e2 { x with aw := ad, lw := DL, cw := cp }
  have GV : Below w.heap.size w V := hV ▸ below_sE { x with aw := ad, lw := DL, cw := cp } G2 (by omega)
  have HTV : Hid (TsF (w.heap.size + 2) V ad DL) := (show TsF _ _ _ _ from by
    have t1 : TsF (w.heap.size + 2) (u0.setCell ⟨w.heap.size, 4, none⟩ (.slice ad DL.length cp)) ad DL := HTF.out.keep (by simp [World.setCell]) (fun g hg _ => Below.heap_setCell _ _ _ _ (show g ≠ w.heap.size by omega))
    have t2 : TsF (w.heap.size + 2) V ad DL := t1.keep (by rw [← hV]; exact (below_sE { x with aw := ad, lw := DL, cw := cp } (Below.refl 0 _) (Nat.zero_le _)).size) (fun g hg _ => by rw [← hV]; exact (below_sE_block { x with aw := ad, lw := DL, cw := cp } (by omega)))
    exact t2)
  have HW : Hid (((u0.setCell ⟨w.heap.size, 4, none⟩ (.slice ad DL.length cp))).setCells (w.heap.size + 1) 0 (enC { x with aw := ad, lw := DL, cw := cp }).toList = V) := hV
  clear e2 hV G2 s2'
  go_wp2_with (refine wpList_store_mid rfl 26 (.tmp 6) _ rfl (w.heap.size + 1) 0 (enC { x with aw := ad, lw := DL, cw := cp }) rfl rfl HT.out (hiE { x with aw := ad, lw := DL, cw := cp }) (oneE { x with aw := ad, lw := DL, cw := cp }) ?_; rw [HW.out])
  refine bodyPost_ret (resE (b := w.heap.size + 1) (x := { x with aw := ad, lw := DL, cw := cp }) rfl rfl F1.1) rfl ?_
  exact ⟨{ x with aw := ad, lw := DL, cw := cp }, rfl, (show _ = _ by rw [hR.out]; rfl), ⟨rfl, rfl, rfl, rfl⟩, ⟨(HEW.out.below GV).a, HTV.out.ts, HEW.out.na, Nat.le_trans HFew.out (by decide)⟩, fun B hB f => ⟨f.a.below GV, HTV.out.mono (by omega), f.na, Nat.le_trans HFew.out (by decide)⟩, GV⟩
set_option maxRecDepth 20000 in
set_option maxHeartbeats 8000000 in
theorem readX_2 (d : ByteArray) (x : En) (w : World) (h : EW w x) (hd : Cd w) (hs : d.size ≤ maxLen) (h8 : 8 ≤ d.size) :
    Calls Tryd.prog 38 #[.int .i64 2, .string d, enV x] w fun e w' => ∃ y : En, e = .returned (enV y) ∧ y.sp = readX 2 d x.sp ∧ (y.pri = x.pri ∧ y.ta = x.ta ∧ y.tl = x.tl ∧ y.tc = x.tc) ∧ EW w' y ∧ (∀ B, B ≤ w.heap.size → EF B w x → EF B w' y) ∧ Below w.heap.size w w' := by
  have hR : Hid (∀ s, readX 2 d s = { s with mt := ((rs4 d).skip 4).num 8, mm := (((rs4 d).skip 4).skip 8).num 8 }) := (show ∀ s, _ from fun s => rfl)
  have hz : (rs4 d).s.size ≤ maxLen := by
    show (d.extract 4 d.size).size ≤ _
    rw [ByteArray.size_extract]; omega
  have HRd : Hid (Calls Tryd.prog 36 #[.string (d.extract 4 d.size)] (twoE w x) fun r w' => r = .returned (.pointer (some ⟨w.heap.size + 2, 0, none⟩)) ∧ Rd w' (w.heap.size + 2) (rs4 d).s (rs4 d).e ∧ Wn w' w.heap.size x ∧ Wn w' (w.heap.size + 1) en0 ∧ Below w.heap.size w w' ∧ w'.heap.size = w.heap.size + 3) := rd_two (d.extract 4 d.size) x w
  have HEW : Hid (EW w x) := h
  have HD : Hid (Cd w) := hd
  skip
  generalize rs4 d = R at *
  clear h hd hs
  have n0 : 0 ≤ (R).num 4 ∧ (R).num 4 < 4294967296 := by simpa using RS.num_lt (R) 4 (by omega)
  have z0 : (R).s.size ≤ maxLen := hz
  have n1 : 0 ≤ ((R).skip 4).num 8 ∧ ((R).skip 4).num 8 < 18446744073709551616 := by simpa using RS.num_lt ((R).skip 4) 8 (by omega)
  have z1 : ((R).skip 4).s.size ≤ maxLen := Nat.le_trans (RS.skip_size _ _) z0
  have n2 : 0 ≤ (((R).skip 4).skip 8).num 8 ∧ (((R).skip 4).skip 8).num 8 < 18446744073709551616 := by simpa using RS.num_lt (((R).skip 4).skip 8) 8 (by omega)
  have z2 : (((R).skip 4).skip 8).s.size ≤ maxLen := Nat.le_trans (RS.skip_size _ _) z1
  go_enter Tryd.func38, Tryd.ntmps38
  go_wp2_with fail
  refine HRd.out.mono ?_
  rintro r w1 ⟨rfl, r0, d0, e0, G0, s0⟩
  have s0' : w.heap.size + 3 ≤ w1.heap.size := by omega
  clear s0
  go_wp2_with fail
  refine (numR (w.heap.size + 2) (R) 4 _ z0 r0).mono ?_
  rintro r u0 ⟨rfl, r1, o0⟩
  have d1 := d0.block (o0.block _ (by omega))
  have e1 := e0.block (o0.block _ (by omega))
  have G1 : Below w.heap.size w u0 := o0.below (by omega) G0
  have s1' : w.heap.size + 3 ≤ u0.heap.size := by rw [o0.size]; exact s0'
  clear o0 d0 e0 G0 s0' r0
  obtain ⟨N0, hN0⟩ : ∃ N, (R).num 4 = N := ⟨_, rfl⟩
  rw [hN0] at n0
  rw [hN0]
  have HN0 : Hid ((R).num 4 = N0) := hN0
  have p0 : 0 ≤ N0 := n0.1
  have q0 : N0 < 4294967296 := n0.2
  clear n0 hN0
  go_wp2_with fail
  refine (numR (w.heap.size + 2) ((R).skip 4) 8 _ z1 r1).mono ?_
  rintro r u1 ⟨rfl, r2, o1⟩
  have d2 := d1.block (o1.block _ (by omega))
  have e2 := e1.block (o1.block _ (by omega))
  have G2 : Below w.heap.size w u1 := o1.below (by omega) G1
  have s2' : w.heap.size + 3 ≤ u1.heap.size := by rw [o1.size]; exact s1'
  clear o1 d1 e1 G1 s1' r1
  obtain ⟨N1, hN1⟩ : ∃ N, ((R).skip 4).num 8 = N := ⟨_, rfl⟩
  rw [hN1] at n1
  rw [hN1]
  have HN1 : Hid (((R).skip 4).num 8 = N1) := hN1
  have p1 : 0 ≤ N1 := n1.1
  have q1 : N1 < 18446744073709551616 := n1.2
  clear n1 hN1
  have d3 := d2.set6 N1
  have e3 := e2.out (c := w.heap.size) (o := 6) (v := .int .u64 N1) (by omega)
  have G3 : Below w.heap.size w (u1.setCell ⟨w.heap.size, 6, none⟩ (.int .u64 N1)) := G2.setCell (Nat.le_refl _) _
  have s3' : w.heap.size + 3 ≤ (u1.setCell ⟨w.heap.size, 6, none⟩ (.int .u64 N1)).heap.size := by simpa [World.setCell] using s2'
  have r3 := r2.set (c := w.heap.size) (by omega) 6 (.int .u64 N1)
  have dd2 := d2
  obtain ⟨⟨c0, c1, c2, c3, c4, c5, c6, c7, c8, c9⟩, cf⟩ := dd2
  clear e2 G2 s2' r2
  go_wp2_with fail
  refine (numR (w.heap.size + 2) (((R).skip 4).skip 8) 8 _ z2 r3).mono ?_
  rintro r u3 ⟨rfl, r4, o3⟩
  have d4 := d3.block (o3.block _ (by omega))
  have e4 := e3.block (o3.block _ (by omega))
  have G4 : Below w.heap.size w u3 := o3.below (by omega) G3
  have s4' : w.heap.size + 3 ≤ u3.heap.size := by rw [o3.size]; exact s3'
  clear o3 d3 e3 G3 s3' r3
  obtain ⟨N2, hN2⟩ : ∃ N, (((R).skip 4).skip 8).num 8 = N := ⟨_, rfl⟩
  rw [hN2] at n2
  rw [hN2]
  have HN2 : Hid ((((R).skip 4).skip 8).num 8 = N2) := hN2
  have p2 : 0 ≤ N2 := n2.1
  have q2 : N2 < 18446744073709551616 := n2.2
  clear n2 hN2
  have d5 := d4.set7 N2
  have e5 := e4.out (c := w.heap.size) (o := 7) (v := .int .u64 N2) (by omega)
  have G5 : Below w.heap.size w (u3.setCell ⟨w.heap.size, 7, none⟩ (.int .u64 N2)) := G4.setCell (Nat.le_refl _) _
  have s5' : w.heap.size + 3 ≤ (u3.setCell ⟨w.heap.size, 7, none⟩ (.int .u64 N2)).heap.size := by simpa [World.setCell] using s4'
  have dd4 := d4
  obtain ⟨⟨c0, c1, c2, c3, c4, c5, c6, c7, c8, c9⟩, cf⟩ := dd4
  clear e4 G4 s4'
  obtain ⟨V, hV⟩ : ∃ V, ((u3.setCell ⟨w.heap.size, 7, none⟩ (.int .u64 N2))).setCells (w.heap.size + 1) 0 (enC { x with mt := N1, mm := N2 }).toList = V := ⟨_, rfl⟩
  have HT : Hid (((u3.setCell ⟨w.heap.size, 7, none⟩ (.int .u64 N2))).there (w.heap.size + 1) 0 (enC { x with mt := N1, mm := N2 }).size) := (show World.there _ _ _ _ from wn_there e5)
  have F1 : Wn V (w.heap.size + 1) { x with mt := N1, mm := N2 } := hV ▸ wn_set e5 { x with mt := N1, mm := N2 }
  have GV : Below w.heap.size w V := hV ▸ below_sE { x with mt := N1, mm := N2 } G5 (by omega)
  have HW : Hid (((u3.setCell ⟨w.heap.size, 7, none⟩ (.int .u64 N2))).setCells (w.heap.size + 1) 0 (enC { x with mt := N1, mm := N2 }).toList = V) := hV
  clear e5 hV G5 s5'
  go_wp2_with (refine wpList_store_mid rfl 26 (.tmp 6) _ rfl (w.heap.size + 1) 0 (enC { x with mt := N1, mm := N2 }) rfl rfl HT.out (hiE { x with mt := N1, mm := N2 }) (oneE { x with mt := N1, mm := N2 }) ?_; rw [HW.out])
  refine bodyPost_ret (resE (b := w.heap.size + 1) (x := { x with mt := N1, mm := N2 }) rfl rfl F1.1) rfl ?_
  exact ⟨{ x with mt := N1, mm := N2 }, rfl, (show _ = _ by rw [hR.out]; rw [HN1.out] ; rw [HN2.out]; rfl), ⟨rfl, rfl, rfl, rfl⟩, ⟨(HEW.out.below GV).a, (HEW.out.below GV).w, HEW.out.na, HEW.out.nw⟩, fun B hB f => ⟨f.a.below GV, f.w.below GV, f.na, f.nw⟩, GV⟩
set_option maxRecDepth 20000 in
set_option maxHeartbeats 8000000 in
theorem readX_1 (d : ByteArray) (x : En) (w : World) (h : EW w x) (hd : Cd w) (hs : d.size ≤ maxLen) (h8 : 8 ≤ d.size) :
    Calls Tryd.prog 38 #[.int .i64 1, .string d, enV x] w fun e w' => ∃ y : En, e = .returned (enV y) ∧ y.sp = readX 1 d x.sp ∧ (y.pri = x.pri ∧ y.ta = x.ta ∧ y.tl = x.tl ∧ y.tc = x.tc) ∧ EW w' y ∧ (∀ B, B ≤ w.heap.size → EF B w x → EF B w' y) ∧ Below w.heap.size w w' := by
  have hR : Hid (∀ s, readX 1 d s = { s with go := (rs4 d).num 1 }) := (show ∀ s, _ from fun s => rfl)
  have hz : (rs4 d).s.size ≤ maxLen := by
    show (d.extract 4 d.size).size ≤ _
    rw [ByteArray.size_extract]; omega
  have HRd : Hid (Calls Tryd.prog 36 #[.string (d.extract 4 d.size)] (twoE w x) fun r w' => r = .returned (.pointer (some ⟨w.heap.size + 2, 0, none⟩)) ∧ Rd w' (w.heap.size + 2) (rs4 d).s (rs4 d).e ∧ Wn w' w.heap.size x ∧ Wn w' (w.heap.size + 1) en0 ∧ Below w.heap.size w w' ∧ w'.heap.size = w.heap.size + 3) := rd_two (d.extract 4 d.size) x w
  have HEW : Hid (EW w x) := h
  have HD : Hid (Cd w) := hd
  skip
  generalize rs4 d = R at *
  clear h hd hs
  have n0 : 0 ≤ (R).num 1 ∧ (R).num 1 < 256 := by simpa using RS.num_lt (R) 1 (by omega)
  have z0 : (R).s.size ≤ maxLen := hz
  go_enter Tryd.func38, Tryd.ntmps38
  go_wp2_with fail
  refine HRd.out.mono ?_
  rintro r w1 ⟨rfl, r0, d0, e0, G0, s0⟩
  have s0' : w.heap.size + 3 ≤ w1.heap.size := by omega
  clear s0
  go_wp2_with fail
  refine (numR (w.heap.size + 2) (R) 1 _ z0 r0).mono ?_
  rintro r u0 ⟨rfl, r1, o0⟩
  have d1 := d0.block (o0.block _ (by omega))
  have e1 := e0.block (o0.block _ (by omega))
  have G1 : Below w.heap.size w u0 := o0.below (by omega) G0
  have s1' : w.heap.size + 3 ≤ u0.heap.size := by rw [o0.size]; exact s0'
  clear o0 d0 e0 G0 s0' r0
  obtain ⟨N0, hN0⟩ : ∃ N, (R).num 1 = N := ⟨_, rfl⟩
  rw [hN0] at n0
  rw [hN0]
  have HN0 : Hid ((R).num 1 = N0) := hN0
  have p0 : 0 ≤ N0 := n0.1
  have q0 : N0 < 256 := n0.2
  clear n0 hN0
  have d2 := d1.set9 N0
  have e2 := e1.out (c := w.heap.size) (o := 9) (v := .int .i64 N0) (by omega)
  have G2 : Below w.heap.size w (u0.setCell ⟨w.heap.size, 9, none⟩ (.int .i64 N0)) := G1.setCell (Nat.le_refl _) _
  have s2' : w.heap.size + 3 ≤ (u0.setCell ⟨w.heap.size, 9, none⟩ (.int .i64 N0)).heap.size := by simpa [World.setCell] using s1'
  have dd1 := d1
  obtain ⟨⟨c0, c1, c2, c3, c4, c5, c6, c7, c8, c9⟩, cf⟩ := dd1
  clear e1 G1 s1'
  obtain ⟨V, hV⟩ : ∃ V, ((u0.setCell ⟨w.heap.size, 9, none⟩ (.int .i64 N0))).setCells (w.heap.size + 1) 0 (enC { x with go := N0 }).toList = V := ⟨_, rfl⟩
  have HT : Hid (((u0.setCell ⟨w.heap.size, 9, none⟩ (.int .i64 N0))).there (w.heap.size + 1) 0 (enC { x with go := N0 }).size) := (show World.there _ _ _ _ from wn_there e2)
  have F1 : Wn V (w.heap.size + 1) { x with go := N0 } := hV ▸ wn_set e2 { x with go := N0 }
  have GV : Below w.heap.size w V := hV ▸ below_sE { x with go := N0 } G2 (by omega)
  have HW : Hid (((u0.setCell ⟨w.heap.size, 9, none⟩ (.int .i64 N0))).setCells (w.heap.size + 1) 0 (enC { x with go := N0 }).toList = V) := hV
  clear e2 hV G2 s2'
  go_wp2_with (refine wpList_store_mid rfl 26 (.tmp 6) _ rfl (w.heap.size + 1) 0 (enC { x with go := N0 }) rfl rfl HT.out (hiE { x with go := N0 }) (oneE { x with go := N0 }) ?_; rw [HW.out])
  refine bodyPost_ret (resE (b := w.heap.size + 1) (x := { x with go := N0 }) rfl rfl F1.1) rfl ?_
  exact ⟨{ x with go := N0 }, rfl, (show _ = _ by rw [hR.out]; rw [HN0.out]; rfl), ⟨rfl, rfl, rfl, rfl⟩, ⟨(HEW.out.below GV).a, (HEW.out.below GV).w, HEW.out.na, HEW.out.nw⟩, fun B hB f => ⟨f.a.below GV, f.w.below GV, f.na, f.nw⟩, GV⟩
set_option maxRecDepth 20000 in
set_option maxHeartbeats 8000000 in
theorem readX_n (p : Int) (b1 : (p == 6) = false) (b2 : (p == 4) = false) (b3 : (p == 5) = false) (b4 : (p == 3) = false) (b5 : (p == 2) = false) (b6 : (p == 1) = false) (d : ByteArray) (x : En) (w : World) (h : EW w x) (hd : Cd w) (hs : d.size ≤ maxLen) (h8 : 8 ≤ d.size) :
    Calls Tryd.prog 38 #[.int .i64 p, .string d, enV x] w fun e w' => ∃ y : En, e = .returned (enV y) ∧ y.sp = readX p d x.sp ∧ (y.pri = x.pri ∧ y.ta = x.ta ∧ y.tl = x.tl ∧ y.tc = x.tc) ∧ EW w' y ∧ (∀ B, B ≤ w.heap.size → EF B w x → EF B w' y) ∧ Below w.heap.size w w' := by
  have hR : Hid (∀ s, readX p d s = s) := (show ∀ s, _ from fun s => by
    simp at b1 b2 b3 b4 b5 b6
    simp [readX, b1, b2, b3, b4, b5, b6])
  have hz : (rs4 d).s.size ≤ maxLen := by
    show (d.extract 4 d.size).size ≤ _
    rw [ByteArray.size_extract]; omega
  have HRd : Hid (Calls Tryd.prog 36 #[.string (d.extract 4 d.size)] (twoE w x) fun r w' => r = .returned (.pointer (some ⟨w.heap.size + 2, 0, none⟩)) ∧ Rd w' (w.heap.size + 2) (rs4 d).s (rs4 d).e ∧ Wn w' w.heap.size x ∧ Wn w' (w.heap.size + 1) en0 ∧ Below w.heap.size w w' ∧ w'.heap.size = w.heap.size + 3) := rd_two (d.extract 4 d.size) x w
  have HEW : Hid (EW w x) := h
  have HD : Hid (Cd w) := hd
  skip
  generalize rs4 d = R at *
  clear h hd hs
  go_enter Tryd.func38, Tryd.ntmps38
  go_wp2_with fail
  refine HRd.out.mono ?_
  rintro r w1 ⟨rfl, r0, d0, e0, G0, s0⟩
  have s0' : w.heap.size + 3 ≤ w1.heap.size := by omega
  clear s0
  obtain ⟨V, hV⟩ : ∃ V, (w1).setCells (w.heap.size + 1) 0 (enC x).toList = V := ⟨_, rfl⟩
  have HT : Hid ((w1).there (w.heap.size + 1) 0 (enC x).size) := (show World.there _ _ _ _ from wn_there e0)
  have F1 : Wn V (w.heap.size + 1) x := hV ▸ wn_set e0 x
  have GV : Below w.heap.size w V := hV ▸ below_sE x G0 (by omega)
  have HW : Hid ((w1).setCells (w.heap.size + 1) 0 (enC x).toList = V) := hV
  clear e0 hV G0 s0'
  obtain ⟨⟨c0, c1, c2, c3, c4, c5, c6, c7, c8, c9⟩, cf⟩ := d0
  go_wp2_with (refine wpList_store_mid rfl 26 (.tmp 6) _ rfl (w.heap.size + 1) 0 (enC x) rfl rfl HT.out (hiE x) (oneE x) ?_; rw [HW.out])
  refine bodyPost_ret (resE (b := w.heap.size + 1) (x := x) rfl rfl F1.1) rfl ?_
  exact ⟨x, rfl, (show _ = _ by rw [hR.out]), ⟨rfl, rfl, rfl, rfl⟩, ⟨(HEW.out.below GV).a, (HEW.out.below GV).w, HEW.out.na, HEW.out.nw⟩, fun B hB f => ⟨f.a.below GV, f.w.below GV, f.na, f.nw⟩, GV⟩
end Go.Proofs.YtcbhkbiofmimbaaDoor

/-
  What List and Look answer, as contracts.
-/
import Derived.Test.YtjjfhibkcngphaaDoorFTab
import Derived.Deep.AppendLies
namespace Go.Proofs.YtjjfhibkcngphaaDoor
open Go.ChangeShapes Go.WideShapes Go.ChangeAt Go.RowKit
set_option linter.unusedVariables false

/-- Entries in blocks that were made. -/
structure Made (base : Nat) (w : World) (v : Value) (l : List Fe) : Prop where
  own : OwnE base w v l
  fw : ∀ x ∈ l, FW w x
  inn : ∀ x ∈ l, ∀ b, InF x b → base ≤ b ∧ v.ownBlock ≠ some b
theorem Made.below {base : Nat} {w w' : World} {v : Value} {l : List Fe} (h : Made base w v l) (g : Below w.heap.size w w') : Made base w' v l := ⟨ownE_below h.own g, fun x hx => (h.fw x hx).below g, h.inn⟩
theorem Made.nil (base : Nat) (w : World) : Made base w (.slice none 0 0) [] := ⟨World.ownsRow_nil _ _ _ _, fun x hx => (by cases hx), fun x hx => (by cases hx)⟩
/-- One more. -/
theorem Made.snoc {base : Nat} {w w' : World} {v : Value} {l : List Fe} {y : Fe} {g cap : Nat} (h : Made base w v l) (hy : FW w y) (hi : ∀ b, InF y b → base ≤ b) (hv : ∀ b, InF y b → v.ownBlock ≠ some b)
    (hown : w'.ownsRow base 38 10 (.slice (some ⟨g, 0, none⟩) (l.length + 1) cap) (l.length + 1) (flatE l ++ flatE [y])) (hg : w.grownBy w' v.ownBlock) (hat : v.ownBlock = some g ∨ g = w.heap.size) : Made base w' (.slice (some ⟨g, 0, none⟩) (l.length + 1) cap) (l ++ [y]) := by
  refine ⟨?_, ?_, ?_⟩
  · unfold OwnE
    rw [List.length_append, flatE_append]
    exact hown
  · intro x hx
    rcases List.mem_append.1 hx with hx | hx
    · exact (h.fw x hx).stay hg.size (fun b hb hlt => hg.block b hlt (fun e => (h.inn x hx b hb).2 e.symm))
    · have e : x = y := by simpa using hx
      subst e
      exact hy.stay hg.size (fun b hb hlt => hg.block b hlt (fun e => hv b hb e.symm))
  · intro x hx b hb
    rcases List.mem_append.1 hx with hx | hx
    · refine ⟨(h.inn x hx b hb).1, ?_⟩
      rcases hat with e | e
      · show some g ≠ some b; rw [← e]; exact (h.inn x hx b hb).2
      · show some g ≠ some b
        have := (h.fw x hx).lt hb
        simp; omega
    · have e : x = y := by simpa using hx
      subst e
      refine ⟨hi b hb, ?_⟩
      rcases hat with e | e
      · show some g ≠ some b; rw [← e]; exact hv b hb
      · show some g ≠ some b
        have := hy.lt hb
        simp; omega
theorem news_one {w : World} {b : Nat} {y : Fe} (h : w.heap[b]? = some (.cells (feC y) 38 (0, 0))) : ∀ j u, (flatE [y])[j]? = some u → w.cell? ((⟨b, 0, none⟩ : Addr).add j) = some u := fun j u hj => by
  rw [addP, Nat.zero_add, cell_of_row w b j (feC y) _ (0, 0) h]
  simpa [flatE] using hj
set_option maxHeartbeats 8000000 in
theorem list_of (p : Option Addr) (t : Int) (v : Value) (l : List Fe) (w : World) (hE : Calls Tryd.prog 20 #[.pointer p, .int .i64 t] w fun e w' => e = .returned v ∧ w' = w) (hO : OwnE 0 w v l) (hl : l.length ≤ 300) (hw : ∀ x ∈ l, FW w x) :
    Calls Tryd.prog 11 #[.pointer p, .int .i64 t] w fun e w' => ∃ v' l', e = .returned v' ∧ Made w.heap.size w' v' l' ∧ l'.map Fe.p = l.map Fe.p ∧ Below w.heap.size w w' := by
  obtain ⟨i0, hi, hz0, hz1, hz2⟩ := info_parts infoFe
  obtain ⟨a, cap, rfl, hform⟩ := OwnE.form2 hO
  have HE : Hid (Calls Tryd.prog 20 #[.pointer p, .int .i64 t] w fun e w' => e = .returned (.slice a l.length cap) ∧ w' = w) := hE
  have HO : Hid (OwnE 0 w (.slice a l.length cap) l) := hO
  have HW : Hid (∀ x ∈ l, FW w x) := hw
  have HF : Hid (a = none ∧ l = [] ∧ cap = 0 ∨ ∃ g, a = some ⟨g, 0, none⟩ ∧ 0 ≤ g ∧ g < w.heap.size ∧ l.length ≤ cap ∧ cap ≤ maxLen) := hform
  clear hE hO hw hform
  go_enter Tryd.func11, Tryd.ntmps11
  go_wp2_with fail
  refine HE.out.mono ?_
  rintro e w1 ⟨rfl, h1⟩
  obtain rfl : w = w1 := h1.symm
  go_wp2_with fail
  go_loopw [5, 7, 12] (fun s5 _ i wr => ∃ (k : Nat) (v : Value) (m : List Fe), k ≤ l.length ∧ v = s5 ∧ i = .int .i64 k ∧ Hid (m.map Fe.p = (l.take k).map Fe.p) ∧ Hid (Made w.heap.size wr v m) ∧ Below w.heap.size w wr) (fun _ _ i _ => l.length - (intOf i).toNat)
  case atStart => exact ⟨0, _, [], Nat.zero_le _, rfl, rfl, (show _ = _ by simp), Made.nil _ _, Below.refl _ _⟩
  case round =>
    obtain ⟨k, v, m, hk, rfl, rfl, HP, HM, hbel⟩ := hrel
    have hml : m.length = k := by
      have := congrArg List.length HP.out
      simpa [Nat.min_eq_left hk] using this
    by_cases hlt : k < l.length
    · obtain ⟨gb, rfl, _, hgb, hnc, _⟩ : ∃ g, a = some ⟨g, 0, none⟩ ∧ 0 ≤ g ∧ g < w.heap.size ∧ l.length ≤ cap ∧ cap ≤ maxLen := by
        rcases HF.out with ⟨_, h, _⟩ | h
        · subst h; cases hlt
        · exact h
      have HB : Hid (Be wr gb (k * 10) l[k]) := (OwnE.be rfl HO.out k hlt).below hgb hbel
      have HL : Hid (Below w.heap.size w wr) := hbel
      have HP2 : Hid (∀ y : Fe, y.p = l[k].p → (m ++ [y]).map Fe.p = (l.take (k + 1)).map Fe.p) := (show ∀ y, _ from fun y hy => by
        rw [List.take_succ_eq_append_getElem hlt, List.map_append, List.map_append, HP.out]
        simp [hy])
      clear hbel
      go_wp2_with (first
        | (refine load_E rfl (.tmp 14) rfl gb (k * 10) l[k] (by simp [Act.eval, Act.put]) HB.out ?_)
        | (refine store_E rfl (.tmp 7) (.tmp 15) rfl wr.heap.size 0 l[k] rfl rfl (there_new wr zeroE 38) ?_; intro V hV bV tV oV; clear hV; have HBV : Hid (Be V wr.heap.size 0 l[k]) := bV; have HOV : Hid (Only wr.heap.size (wr.alloc (.cells zeroE 38)) V) := oV; have zV : V.heap.size = wr.heap.size + 1 := (by rw [oV.size]; simp); clear bV tV oV)
        | (refine load_E rfl (.tmp 7) rfl wr.heap.size 0 l[k] rfl HBV.out ?_))
      have gV : Below wr.heap.size wr V := HOV.out.below (Nat.le_refl _) (by go_grown)
      have HGV : Hid (Below w.heap.size w V) := btr HL.out gV (Nat.le_refl _)
      have HMV : Hid (Made w.heap.size V v m) := HM.out.below gV
      clear gV
      refine (copyOf_any l[k] V ((HW.out _ (List.getElem_mem _)).below HGV.out)).mono ?_
      rintro e w2 ⟨y, rfl, hyp, hyw, hyi, g2⟩
      have HY : Hid (y.p = l[k].p ∧ FW w2 y ∧ (∀ b, InF y b → V.heap.size ≤ b) ∧ Below V.heap.size V w2) := (show _ ∧ _ from ⟨hyp, hyw, hyi, g2⟩)
      have hmv := HMV.out.below g2
      have hnb : (w2.alloc (.cells (feC y) 38)).heap[w2.heap.size]? = some (.cells (feC y) 38 (0, 0)) := heap_alloc_new w2 _
      obtain ⟨W3, hW3⟩ : ∃ W3, w2.alloc (.cells (feC y) 38) = W3 := ⟨_, rfl⟩
      have z2 := g2.size
      have g3 : Below w2.heap.size w2 W3 := by rw [← hW3]; go_grown
      have HM3 : Hid (Made w.heap.size W3 v m) := hmv.below g3
      rw [hW3] at hnb
      have HN : Hid (W3.heap[w2.heap.size]? = some (.cells (feC y) 38 (0, 0))) := hnb
      have HG3 : Hid (Below w.heap.size w W3) := btr (btr HGV.out g2 (by have := HL.out.size; omega)) g3 (by have := HL.out.size; omega)
      have HF3 : Hid (FW W3 y) := hyw.below g3
      have zl := HL.out.size
      have z3 : W3.heap.size = w2.heap.size + 1 := by rw [← hW3]; simp
      clear hmv hnb g3 hyp hyw hyi g2
      go_wp2_with (at_builtin; refine wpList_append_lies W3 rfl (.tmp 16) (.tmp 19) 42 rfl w.heap.size 38 i0 zeroV 10 128 Tryd.underlying42 hi hz0 hz1 hz2 rfl (by decide) v m.length (flatE m) rfl HM3.out.own ⟨w2.heap.size, 0, none⟩ 1 1 (flatE [y]) rfl rfl (news_one HN.out) (flatE_one _) (by decide) (by unfold maxLen; omega) (by omega) (by omega) _ rfl ?_; intro g4 cap4 w4 hown hgrow hat hlt4; have HM4 : Hid (Made w.heap.size w4 (.slice (some ⟨g4, 0, none⟩) (m.length + 1) cap4) (m ++ [y])) := HM3.out.snoc HF3.out (fun b hb => by have := HY.out.2.2.1 b hb; omega) (fun b hb e => by have := HY.out.2.2.1 b hb; have := (HMV.out.own.lt b e).2; omega) hown hgrow hat; have HG4 : Hid (Below w.heap.size w w4) := HG3.out.grown hgrow (by omega) (fun k hk => (HM3.out.own.lt k hk).1); clear hown hgrow hat hlt4)
      go_roundw
      case rel => exact ⟨k + 1, _, m ++ [y], by omega, rfl, by go_num, HP2.out y HY.out.1, (by have h := HM4; rw [hml] at h; exact h), HG4.out⟩
      case measure => simp [intOf]; omega
    · have hk' : k = l.length := by omega
      subst hk'
      have HR : Hid (m.map Fe.p = l.map Fe.p) := (show _ = _ by rw [HP.out, List.take_length])
      go_wp2
      go_ret
      exact ⟨v, m, rfl, HM.out, HR.out, hbel⟩
/-- A table's entries, by any number. -/
def tabOf (P : Nat → List Fp) (t : Int) : List Fp := if 0 ≤ t ∧ t < 8 then P t.toNat else []
theorem list_nil (t : Int) (w : World) : Calls Tryd.prog 11 #[.pointer none, .int .i64 t] w fun e w' => ∃ v' l', e = .returned v' ∧ Made w.heap.size w' v' l' ∧ l'.map Fe.p = [] ∧ Below w.heap.size w w' :=
  list_of none t (.slice none 0 0) [] w (entries_nil t w) (World.ownsRow_nil _ _ _ _) (by simp) (fun x hx => by cases hx)
theorem list_any (f : Nat) (S : Nat → Prop) (room : Int) (P : Nat → List Fp) (t : Int) (w : World) (h : Fs w f S room P) : Calls Tryd.prog 11 #[.pointer (some ⟨f, 0, none⟩), .int .i64 t] w fun e w' => ∃ v' l', e = .returned v' ∧ Made w.heap.size w' v' l' ∧ l'.map Fe.p = tabOf P t ∧ Below w.heap.size w w' := by
  obtain ⟨V, L, h, hp⟩ := h
  unfold tabOf
  by_cases ht : 0 ≤ t ∧ t < 8
  · rw [if_pos ht]
    obtain ⟨k, rfl⟩ := Int.eq_ofNat_of_zero_le ht.1
    have hk : k < 8 := by omega
    rw [Int.toNat_natCast, ← hp k hk]
    obtain ⟨a, cap, hv, _⟩ := OwnE.form2 (h.row k hk)
    refine list_of _ _ (V k) (L k) w ?_ (h.row k hk) (by have := h.nm k hk; have := h.r2; omega) (fun x hx => (h.en k hk x hx).1)
    have := h.cv k hk
    rw [hv] at this ⊢
    exact entries_in f k (V k) w hk _ _ _ this
  · rw [if_neg ht]
    exact list_of _ t (.slice none 0 0) [] w (entries_out f t w (by omega)) (World.ownsRow_nil _ _ _ _) (by simp) (fun x hx => by cases hx)
/-- The first entry that takes a packet. -/
def lookP (l : List Fp) (s : Mt.Sn) : Option Fp := l.find? fun x => Mt.takesB x.lt s
def fp0 : Fp := ⟨0, 0, [], [], [], false, 0, 0, 0, 0⟩
def fe0 : Fe := ⟨fp0, none, 0, none, 0, none, 0⟩
theorem fe0_w (w : World) : FW w fe0 := ⟨.inl rfl, .inl rfl, .inl rfl, by simp [fe0, fp0], by simp [fe0, fp0], by simp [fe0, fp0], by simp [fe0, fp0]⟩
theorem lookP_at {l : List Fe} {s : Mt.Sn} {k : Nat} (hk : k < l.length) (h0 : ∀ j (hj : j < l.length), j < k → Mt.takesB l[j].p.lt s = false) (h1 : Mt.takesB l[k].p.lt s = true) : lookP (l.map Fe.p) s = some l[k].p := by
  unfold lookP
  rw [List.find?_eq_some_iff_getElem]
  refine ⟨h1, k, by simpa using hk, by simp, fun j hj => ?_⟩
  rw [List.getElem_map, h0 j (by omega) hj]
  rfl
theorem lookP_none {l : List Fe} {s : Mt.Sn} (h0 : ∀ j (hj : j < l.length), Mt.takesB l[j].p.lt s = false) : lookP (l.map Fe.p) s = none := by
  unfold lookP
  rw [List.find?_eq_none]
  intro x hx
  obtain ⟨y, hy, rfl⟩ := List.mem_map.1 hx
  obtain ⟨j, hj, rfl⟩ := List.mem_iff_getElem.1 hy
  rw [h0 j hj]
  decide
theorem infoS (s : Mt.Sn) : (Tryd.prog.info? 28).map (·.size) = some (Mt.snC s).toList.length := by kernel_rfl
theorem load_S {ops : Array Oper} {rest : List Oper} {op : Oper} {a : Go.Act} {w : World} {Q : Exit → Go.Act → World → Prop} (hw : Region.wanted op (yielded ops a.tmps) = true) (t : Operand) (ho : op.op = .load 28 t)
    (b : Nat) (s : Mt.Sn) (hx : a.eval t = .pointer (some ⟨b, 0, none⟩)) (hB : w.rangeAt b 0 (Mt.snC s).toList)
    (h : wpList Tryd.prog ops Q rest (a.put op.dst (Mt.snV s)) w) : wpList Tryd.prog ops Q (op :: rest) a w :=
  BigFrame.wpList_want hw fun _ hK => wp_load_mid 28 t ho b 0 hx (Mt.snC s).toList _ hB Tryd.underlying28 rfl (infoS s) (hK _ _ h)
set_option maxHeartbeats 8000000 in
theorem look_of (p : Option Addr) (t : Int) (s : Mt.Sn) (v : Value) (l : List Fe) (w : World) (hs : Mt.Wf s) (hE : ∀ w1, Below w.heap.size w w1 → Calls Tryd.prog 20 #[.pointer p, .int .i64 t] w1 fun e w' => e = .returned v ∧ w' = w1) (hO : OwnE 0 w v l) (hl : l.length ≤ 300) (hw : ∀ x ∈ l, FW w x) :
    Calls Tryd.prog 12 #[.pointer p, .int .i64 t, Mt.snV s] w fun e w' => ∃ y : Fe, e = .returned (.tuple #[feV y, .bool (lookP (l.map Fe.p) s).isSome]) ∧ y.p = (lookP (l.map Fe.p) s).getD fp0 ∧ FW w' y ∧ (∀ b, InF y b → w.heap.size ≤ b) ∧ Below w.heap.size w w' := by
  obtain ⟨a, cap, rfl, hform⟩ := OwnE.form2 hO
  have HE : Hid (∀ w1, Below w.heap.size w w1 → Calls Tryd.prog 20 #[.pointer p, .int .i64 t] w1 fun e w' => e = .returned (.slice a l.length cap) ∧ w' = w1) := hE
  have HO : Hid (OwnE 0 w (.slice a l.length cap) l) := hO
  have HW : Hid (∀ x ∈ l, FW w x) := hw
  have HF : Hid (a = none ∧ l = [] ∧ cap = 0 ∨ ∃ g, a = some ⟨g, 0, none⟩ ∧ 0 ≤ g ∧ g < w.heap.size ∧ l.length ≤ cap ∧ cap ≤ maxLen) := hform
  have HT : Hid (∀ (x : Fe) w1, FW w1 x → Calls Tryd.prog 22 #[.slice x.ta x.p.lt.length x.tc, Mt.snV s] w1 fun e w' => e = .returned (.bool (Mt.takesB x.p.lt s)) ∧ Below w1.heap.size w1 w') := (show ∀ x w1, _ from fun x w1 h => Mt.takes_any _ _ _ s w1 h.t (by have := h.nt; omega) hs)
  clear hE hO hw hform hs
  obtain ⟨W2, hW2⟩ : ∃ W2, (Mt.bx w s).alloc (.cells zeroE 38) = W2 := ⟨_, rfl⟩
  have z2 : W2.heap.size = w.heap.size + 2 := by rw [← hW2]; simp
  have HG2 : Hid (Below w.heap.size w W2) := (show Below _ _ _ by rw [← hW2]; go_grown)
  have HS2 : Hid (W2.rangeAt w.heap.size 0 (Mt.snC s).toList) := (show World.rangeAt _ _ _ _ by
    rw [← hW2]
    have h1 := range_new w (Mt.snC s) 28
    exact range_block h1 (heap_alloc_old _ _ (by simp)))
  have HY2 : Hid (W2.there (w.heap.size + 1) 0 10) := (show World.there _ _ _ _ by rw [← hW2]; have := there_new (Mt.bx w s) zeroE 38; simpa using this)
  go_enter Tryd.func12, Tryd.ntmps12
  go_wp2_with fail
  refine (HE.out W2 HG2.out).mono ?_
  rintro e w1 ⟨rfl, h1⟩
  obtain rfl : W2 = w1 := h1.symm
  go_wp2_with fail
  go_loopw [9, 14] (fun _ i wr => ∃ (k : Nat), k ≤ l.length ∧ i = .int .i64 k ∧ Hid (∀ j (hj : j < l.length), j < k → Mt.takesB l[j].p.lt s = false) ∧ Below (w.heap.size + 2) W2 wr) (fun _ i _ => l.length - (intOf i).toNat)
  case atStart => exact ⟨0, Nat.zero_le _, rfl, (show ∀ j, _ from fun j _ hj => absurd hj (Nat.not_lt_zero _)), Below.refl _ _⟩
  case round =>
    obtain ⟨k, hk, rfl, HN, hbel⟩ := hrel
    have HL : Hid (Below (w.heap.size + 2) W2 wr) := hbel
    have zr := hbel.size
    have HGr : Hid (Below w.heap.size w wr) := HG2.out.trans (hbel.mono (by omega))
    clear hbel
    by_cases hlt : k < l.length
    · obtain ⟨gb, rfl, _, hgb, hnc, _⟩ : ∃ g, a = some ⟨g, 0, none⟩ ∧ 0 ≤ g ∧ g < w.heap.size ∧ l.length ≤ cap ∧ cap ≤ maxLen := by
        rcases HF.out with ⟨_, h, _⟩ | h
        · subst h; cases hlt
        · exact h
      have HB : Hid (Be wr gb (k * 10) l[k]) := (OwnE.be rfl HO.out k hlt).below hgb HGr.out
      go_wp2_with (first
        | (refine load_E rfl (.tmp 16) rfl gb (k * 10) l[k] (by simp [Act.eval, Act.put]) HB.out ?_)
        | (refine store_E rfl (.tmp 9) (.tmp 17) rfl wr.heap.size 0 l[k] rfl rfl (there_new wr zeroE 38) ?_; intro V hV bV tV oV; clear hV; have HBV : Hid (Be V wr.heap.size 0 l[k]) := bV; have HGV : Hid (Below wr.heap.size wr V) := oV.below (Nat.le_refl _) (show Below wr.heap.size wr (wr.alloc (.cells zeroE 38)) by go_grown); have zV : V.heap.size = wr.heap.size + 1 := (by rw [oV.size]; simp); have d2 := bV.cs.2.2.1; clear bV tV oV)
        | (refine load_S rfl (.tmp 5) rfl w.heap.size s rfl (range_block HS2.out ((HGV.out.block _ (by omega)).trans (HL.out.block _ (by omega)))) ?_))
      have hfw : FW V l[k] := (HW.out _ (List.getElem_mem _)).below (btr HGr.out HGV.out (Nat.le_refl _))
      refine (HT.out l[k] V hfw).mono ?_
      rintro e w2 ⟨rfl, g2⟩
      have HB2 : Hid (Be w2 wr.heap.size 0 l[k]) := HBV.out.below (by omega) g2
      have HG2' : Hid (Below (w.heap.size + 2) W2 w2) := btr (btr HL.out HGV.out (by omega)) g2 (by omega)
      have HF2 : Hid (FW w2 l[k]) := hfw.below g2
      have zw := g2.size
      clear g2 hfw d2
      cases hq : Mt.takesB l[k].p.lt s with
      | true =>
        have HR : Hid (lookP (l.map Fe.p) s = some l[k].p) := lookP_at hlt HN.out hq
        go_wp2_with (refine load_E rfl (.tmp 9) rfl wr.heap.size 0 l[k] rfl HB2.out ?_)
        refine (copyOf_any l[k] w2 HF2.out).mono ?_
        rintro e w3 ⟨y, rfl, hyp, hyw, hyi, g3⟩
        have HY : Hid (y.p = l[k].p ∧ FW w3 y ∧ (∀ b, InF y b → w2.heap.size ≤ b) ∧ Below w2.heap.size w2 w3) := (show _ ∧ _ from ⟨hyp, hyw, hyi, g3⟩)
        have HG3 : Hid (Below (w.heap.size + 2) W2 w3) := btr HG2'.out g3 (by omega)
        have z3 := g3.size
        clear hyp hyw hyi g3
        go_wp2_with (refine store_E rfl (.tmp 6) (.tmp 23) rfl (w.heap.size + 1) 0 y rfl rfl (there_below HY2.out (by omega) HG3.out) ?_; intro U hU bU tU oU; clear hU)
        refine bodyPost_ret (resFb (b := w.heap.size + 1) (x := y) rfl rfl bU) rfl ?_
        obtain ⟨y1, y2, y3, y4⟩ := HY.out
        refine ⟨y, by rw [HR.out]; rfl, by rw [HR.out]; exact y1, y2.stay (by rw [oU.size]; exact Nat.le_refl _) (fun b hb _ => oU.block b (by have := y3 b hb; omega)), fun b hb => by have := y3 b hb; omega, ?_⟩
        exact oU.below (by omega) (HG2.out.trans (HG3.out.mono (by omega)))
      | false =>
        have HN2 : Hid (∀ j (hj : j < l.length), j < k + 1 → Mt.takesB l[j].p.lt s = false) := (show ∀ j, _ from fun j hj h => by
          by_cases e : j = k
          · subst e; exact hq
          · exact HN.out j hj (by omega))
        go_wp2_with fail
        go_roundw
        case rel => exact ⟨k + 1, by omega, by go_num, HN2, HG2'.out⟩
        case measure => simp [intOf]; omega
    · have hk' : k = l.length := by omega
      subst hk'
      have HR : Hid (lookP (l.map Fe.p) s = none) := lookP_none (fun j hj => HN.out j hj hj)
      go_wp2_with (refine store_E rfl (.tmp 6) (.tmp 25) rfl (w.heap.size + 1) 0 fe0 rfl rfl (there_below HY2.out (by omega) HL.out) ?_; intro U hU bU tU oU; clear hU)
      refine bodyPost_ret (resFb (b := w.heap.size + 1) (x := fe0) rfl rfl bU) rfl ?_
      refine ⟨fe0, by rw [HR.out]; rfl, by rw [HR.out]; rfl, fe0_w _, fun b hb => ?_, oU.below (by omega) HGr.out⟩
      rcases hb with ⟨h, _⟩ | ⟨h, _⟩ | ⟨h, _⟩ <;> exact absurd rfl h
theorem look_nil (t : Int) (s : Mt.Sn) (hs : Mt.Wf s) (w : World) : Calls Tryd.prog 12 #[.pointer none, .int .i64 t, Mt.snV s] w fun e w' => ∃ y : Fe, e = .returned (.tuple #[feV y, .bool false]) ∧ y.p = fp0 ∧ FW w' y ∧ (∀ b, InF y b → w.heap.size ≤ b) ∧ Below w.heap.size w w' :=
  look_of none t s (.slice none 0 0) [] w hs (fun w1 _ => entries_nil t w1) (World.ownsRow_nil _ _ _ _) (by simp) (fun x hx => by cases hx)
theorem look_any (f : Nat) (S : Nat → Prop) (room : Int) (P : Nat → List Fp) (t : Int) (s : Mt.Sn) (hs : Mt.Wf s) (w : World) (h : Fs w f S room P) : Calls Tryd.prog 12 #[.pointer (some ⟨f, 0, none⟩), .int .i64 t, Mt.snV s] w fun e w' => ∃ y : Fe, e = .returned (.tuple #[feV y, .bool (lookP (tabOf P t) s).isSome]) ∧ y.p = (lookP (tabOf P t) s).getD fp0 ∧ FW w' y ∧ (∀ b, InF y b → w.heap.size ≤ b) ∧ Below w.heap.size w w' := by
  obtain ⟨V, L, h, hp⟩ := h
  unfold tabOf
  by_cases ht : 0 ≤ t ∧ t < 8
  · rw [if_pos ht]
    obtain ⟨k, rfl⟩ := Int.eq_ofNat_of_zero_le ht.1
    have hk : k < 8 := by omega
    rw [Int.toNat_natCast, ← hp k hk]
    obtain ⟨a, cap, hv, _⟩ := OwnE.form2 (h.row k hk)
    refine look_of _ _ s (V k) (L k) w hs ?_ (h.row k hk) (by have := h.nm k hk; have := h.r2; omega) (fun x hx => (h.en k hk x hx).1)
    intro w1 g
    have := (h.below g.size (fun b hb => g.block b (h.lt b hb))).cv k hk
    rw [hv] at this ⊢
    exact entries_in f k (V k) w1 hk _ _ _ this
  · rw [if_neg ht]
    exact look_of _ t s (.slice none 0 0) [] w hs (fun w1 _ => entries_out f t w1 (by omega)) (World.ownsRow_nil _ _ _ _) (by simp) (fun x hx => by cases hx)
end Go.Proofs.YtjjfhibkcngphaaDoor

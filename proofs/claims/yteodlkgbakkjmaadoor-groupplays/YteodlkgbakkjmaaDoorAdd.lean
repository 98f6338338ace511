/-
  What New, has, hasAll and Add answer, as contracts.
-/
import Derived.Test.YteodlkgbakkjmaaDoorTbl
namespace Go.Proofs.YteodlkgbakkjmaaDoor
open Go.ChangeShapes Go.WideShapes Go.ChangeAt Go.RowKit Go.Maps
set_option linter.unusedVariables false

abbrev ptr (b : Nat) : Value := .pointer (some ⟨b, 0, none⟩)
set_option maxHeartbeats 2000000 in
theorem new_no (room : Int) (w : World) (h : inB room 1 64 = false) : Calls Tryd.prog 8 #[.int .i64 room] w fun e w' => e = .returned (.tuple #[.pointer none, .int .i64 1]) ∧ w' = w := by
  have HW : Hid (Calls Tryd.prog 27 #[.int .i64 room, .int .i64 1, .int .i64 64] w fun e w' => e = .returned (.bool (inB room 1 64)) ∧ w' = w) := within_any room 1 64 w
  rw [h] at HW
  clear h
  go_enter Tryd.func8, Tryd.ntmps8
  go_wp2_with fail
  refine HW.out.mono ?_
  rintro e w1 ⟨rfl, rfl⟩
  go_wp2_with fail
  go_ret2
  exact ⟨rfl, rfl⟩
theorem tb_new (w : World) (room : Int) : Tb ((w.alloc (.map #[] 0)).alloc (.cells #[.int .i64 room, .map (some w.heap.size)] 59)) (w.heap.size + 1) w.heap.size room [] :=
  ⟨by simp, by simp, by simp, (World.ownsMap_made w Tryd.prog 3 Re).alloc _, by simp, List.Pairwise.nil⟩
set_option maxHeartbeats 2000000 in
theorem new_yes (room : Int) (w : World) (h : inB room 1 64 = true) : Calls Tryd.prog 8 #[.int .i64 room] w fun e w' => e = .returned (.tuple #[ptr (w.heap.size + 1), .int .i64 0]) ∧ Tb w' (w.heap.size + 1) w.heap.size room [] ∧ Below w.heap.size w w' := by
  have HW : Hid (Calls Tryd.prog 27 #[.int .i64 room, .int .i64 1, .int .i64 64] w fun e w' => e = .returned (.bool (inB room 1 64)) ∧ w' = w) := within_any room 1 64 w
  rw [h] at HW
  have HT := tb_new w room
  have HT : Hid (Tb ((w.alloc (.map #[] 0)).alloc (.cells #[.int .i64 room, .map (some w.heap.size)] 59)) (w.heap.size + 1) w.heap.size room []) := HT
  clear h
  have hmm := @run_makeMap Tryd.prog
  go_enter Tryd.func8, Tryd.ntmps8
  go_wp2_with fail
  refine HW.out.mono ?_
  rintro e w1 ⟨rfl, rfl⟩
  go_wp2_with fail
  go_ret2
  exact ⟨rfl, HT.out, by go_grown⟩
set_option maxHeartbeats 2000000 in
theorem has_any {tb mb : Nat} {room : Int} {L : List Gr} (i : Int) (w : World) (h : Tb w tb mb room L) (h0 : -9223372036854775808 ≤ i) (h1 : i ≤ 9223372036854775807) :
    Calls Tryd.prog 29 #[ptr tb, .int .i64 i] w fun e w' => e = .returned (.bool (hasP L i)) ∧ Below w.heap.size w w' := by
  have c1 := h.c1
  have lt := h.lt
  rcases h.look true i h0 h1 with ⟨e, hr⟩ | ⟨g, hg, hid, e, hr⟩
  · rw [e]
    simp only [if_true] at hr
    clear h h0 h1 e
    go_enter Tryd.func29, Tryd.ntmps29
    go_wp2_with fail
    go_ret
    exact ⟨rfl, by go_grown⟩
  · rw [e]
    simp only [if_true] at hr
    clear h h0 h1 e
    go_enter Tryd.func29, Tryd.ntmps29
    go_wp2_with fail
    go_ret
    exact ⟨rfl, by go_grown⟩
/-- Numbers in a slice that was made. -/
theorem own_cells {base : Nat} {w : World} {v : Value} {zs : List Int} (h : OwnI base w v zs) : (zs = [] ∧ ∃ a c, v = .slice a 0 c) ∨ ∃ g cap, v = .slice (some ⟨g, 0, none⟩) zs.length cap ∧ g < w.heap.size ∧ zs.length ≤ cap ∧ ∀ j (hj : j < zs.length), w.cell? ⟨g, j, none⟩ = some (.int .i64 zs[j]) := by
  rcases h.2 with ⟨rfl, h0⟩ | ⟨g, cap, cur, rfl, hbg, hb, hnc, _⟩
  · exact .inl ⟨List.length_eq_zero_iff.1 h0, none, 0, rfl⟩
  · refine .inr ⟨g, cap, rfl, (Array.getElem?_eq_some_iff.1 hb).1, hnc, fun j hj => ?_⟩
    rw [h.cellAt j (by omega)]
    simp [hj]
set_option maxRecDepth 20000 in
set_option maxHeartbeats 4000000 in
theorem hasAll_any {tb mb : Nat} {room : Int} {L : List Gr} (v : Value) (zs : List Int) (w : World) (base : Nat) (h : Tb w tb mb room L) (ho : OwnI base w v zs) (hw : ∀ x ∈ zs, 0 ≤ x ∧ x < 9223372036854775808) (hn : zs.length ≤ 10000) :
    Calls Tryd.prog 30 #[ptr tb, v] w fun e w' => e = .returned (.bool (zs.all (hasP L))) ∧ Below w.heap.size w w' := by
  rcases own_cells ho with ⟨rfl, a, c, rfl⟩ | ⟨g, cap, rfl, hg, hcap, hc⟩
  · clear ho hw hn h
    go_enter Tryd.func30, Tryd.ntmps30
    go_wp2_with fail
    go_loopw [9] (fun v wr => v = .int .i64 0 ∧ wr = w) (fun _ _ => 0)
    case atStart => exact ⟨rfl, rfl⟩
    case round =>
      obtain ⟨rfl, rfl⟩ := hrel
      go_wp2_with fail
      go_ret
      exact ⟨rfl, Below.refl _ _⟩
  · have HH : Hid (∀ (i : Int) w1, Below w.heap.size w w1 → 0 ≤ i ∧ i < 9223372036854775808 → Calls Tryd.prog 29 #[ptr tb, .int .i64 i] w1 fun e w' => e = .returned (.bool (hasP L i)) ∧ Below w1.heap.size w1 w') := (show ∀ (i : Int) w1, _ from fun i w1 k hi => has_any i w1 (h.below k) (by omega) (by omega))
    have HC : Hid (∀ w1, Below w.heap.size w w1 → ∀ j (hj : j < zs.length), w1.cell? ⟨g, j, none⟩ = some (.int .i64 zs[j])) := (show ∀ w1, _ from fun w1 k j hj => (k.cell (p := ⟨g, j, none⟩) hg).trans (hc j hj))
    have HW : Hid (∀ x ∈ zs, 0 ≤ x ∧ x < 9223372036854775808) := hw
    have HN : Hid (zs.length ≤ 10000 ∧ zs.length ≤ cap) := (show _ ∧ _ from ⟨hn, hcap⟩)
    clear ho hw hn hcap h hc
    go_enter Tryd.func30, Tryd.ntmps30
    go_wp2_with fail
    go_loopw [9] (fun v wr => ∃ q : Nat, q ≤ zs.length ∧ v = .int .i64 q ∧ Hid (∀ i (hi : i < zs.length), i < q → hasP L zs[i] = true) ∧ Below w.heap.size w wr) (fun v _ => zs.length - (intOf v).toNat)
    case atStart => exact ⟨0, Nat.zero_le _, rfl, (show ∀ i (hi : i < zs.length), _ from fun i _ h => by omega), Below.refl _ _⟩
    case round =>
      obtain ⟨q, hq, rfl, HP, hbel⟩ := hrel
      obtain ⟨hn, hcap⟩ := HN.out
      by_cases hlt : q < zs.length
      · have c := HC.out _ hbel q hlt
        have HX : Hid (Calls Tryd.prog 29 #[ptr tb, .int .i64 zs[q]] wr fun e w' => e = .returned (.bool (hasP L zs[q])) ∧ Below wr.heap.size wr w') := HH.out zs[q] wr hbel (HW.out _ (List.getElem_mem hlt))
        have HNx : Hid (hasP L zs[q] = true → ∀ i (hi : i < zs.length), i < q + 1 → hasP L zs[i] = true) := (show _ → _ from fun h => all_step (f := hasP L) hlt HP.out h)
        have HS : Hid (hasP L zs[q] = false → zs.all (hasP L) = false) := (show _ → _ from fun h => all_stop (f := hasP L) hlt h)
        have HB : Hid (Below w.heap.size w wr) := hbel
        clear hbel HP
        generalize hasP L zs[q] = R at *
        generalize zs[q] = X at *
        go_wp2_with fail
        refine HX.out.mono ?_
        rintro e w2 ⟨rfl, g2⟩
        have hb2 : Below w.heap.size w w2 := btr HB.out g2 (Nat.le_refl _)
        clear g2
        cases R with
        | false =>
          have HF : Hid (zs.all (hasP L) = false) := HS.out rfl
          go_wp2_with fail
          go_ret
          exact ⟨by rw [HF.out]; rfl, hb2⟩
        | true =>
          have HN' : Hid (∀ i (hi : i < zs.length), i < q + 1 → hasP L zs[i] = true) := HNx.out rfl
          go_wp2_with fail
          go_roundw
          case rel => exact ⟨q + 1, by omega, by go_num, HN', hb2⟩
          case measure => simp [intOf]; omega
      · have e : q = zs.length := by omega
        subst e
        have HE : Hid (zs.all (hasP L) = true) := all_end (f := hasP L) HP.out
        clear HP
        go_wp2_with fail
        go_ret
        exact ⟨by rw [HE.out]; rfl, hbel⟩
theorem rightE_acts {g : Gr} (h : rightE g.p = 0) : actsB (g.l.map Bk.b3) = true := by
  unfold rightE at h
  by_cases hf : formB g.p.1 g.p.2.1 g.p.2.2 = true
  · rw [if_pos hf] at h
    by_cases ha : actsB g.p.2.2 = true
    · exact ha
    · rw [if_neg ha] at h; cases h
  · rw [if_neg hf] at h; cases h
theorem acts_at {g : Gr} (h : actsB (g.l.map Bk.b3) = true) {b : Bk} (hb : b ∈ g.l) {a : A} (ha : a ∈ b.l) : rightB a = true := by
  unfold actsB at h
  rw [List.all_eq_true] at h
  have := h b.b3 (List.mem_map.2 ⟨b, hb, rfl⟩)
  unfold allB at this
  exact List.all_eq_true.1 this a ha
theorem right_val {a : A} (h : rightB a = true) (h0 : 0 ≤ a.2.2) : a.2.2 ≤ 4294967295 := by
  rcases right_cases h with h | h | h | h | ⟨_, h1, _, h3⟩
  · omega
  · omega
  · omega
  · omega
  · rcases h1 with e | e | e | e | e <;> (rw [e] at h3; simp [grV] at h3; omega)
theorem right_lead {a : A} (h : rightB a = true) (h2 : a.1 = 2) : 1 ≤ a.2.2 ∧ a.2.2 ≤ 4294967295 := by
  rcases right_cases h with h | h | h | h | h
  · omega
  · exact ⟨h.2.2.1, h.2.2.2⟩
  · omega
  · omega
  · omega
theorem LO_of {g : Gr} (h : rightE g.p = 0) : LO g.l := fun b hb a ha h2 => by
  have := right_lead (acts_at (rightE_acts h) hb ha) h2
  omega
theorem mem_rawA {l : List A} {x : Int} : x ∈ rawA l ↔ ∃ a ∈ l, a.1 = 2 ∧ a.2.2 = x := by
  unfold rawA leadA
  rw [List.mem_flatMap]
  constructor
  · rintro ⟨a, ha, hx⟩
    split at hx
    · rename_i h; simp at hx; exact ⟨a, ha, h, hx.symm⟩
    · cases hx
  · rintro ⟨a, ha, h, e⟩
    exact ⟨a, ha, by rw [if_pos h, e]; simp⟩
theorem mem_rawL {l : List B3} {x : Int} : x ∈ rawL l ↔ ∃ b ∈ l, ∃ a ∈ b.2.2, a.1 = 2 ∧ a.2.2 = x := by
  unfold rawL
  rw [List.mem_flatMap]
  constructor
  · rintro ⟨b, hb, hx⟩; exact ⟨b, hb, mem_rawA.1 hx⟩
  · rintro ⟨b, hb, hx⟩; exact ⟨b, hb, mem_rawA.2 hx⟩
theorem raw_wf {g : Gr} (h : rightE g.p = 0) {x : Int} (hx : x ∈ rawL (g.l.map Bk.b3)) : 1 ≤ x ∧ x ≤ 4294967295 := by
  obtain ⟨b, hb, a, ha, h2, rfl⟩ := mem_rawL.1 hx
  obtain ⟨b', hb', rfl⟩ := List.mem_map.1 hb
  exact right_lead (acts_at (rightE_acts h) hb' ha) h2
/-- What Add answers. -/
def leadsAll (L : List Gr) (l : List B3) : Bool := (rawL l).all (hasP L)
def addE (room : Int) (L : List Gr) (g : Gr) : Int :=
  if rightE g.p ≠ 0 then rightE g.p else if hasP L g.id = true then 29 else if leadsAll L (g.l.map Bk.b3) = false then 31 else if room ≤ L.length then 27 else 0
theorem all_mem {zs ts : List Int} {f : Int → Bool} (h : ∀ x, x ∈ zs ↔ x ∈ ts) : zs.all f = ts.all f := by
  rw [Bool.eq_iff_iff, List.all_eq_true, List.all_eq_true]
  exact ⟨fun k x hx => k x ((h x).2 hx), fun k x hx => k x ((h x).1 hx)⟩
theorem Tb.put {w w1 w' : World} {tb mb : Nat} {room : Int} {L : List Gr} (h : Tb w tb mb room L) (g' : Gr) (k : Below w.heap.size w w1) (hb : BsF w.heap.size w1 g'.a g'.l) (hs : Sm g'.l) (ho : rightE g'.p = 0) (hown : w'.ownsMap Tryd.prog 3 Re mb (L.length + 1) ((mD L).put (kL g'.id) (.held g'.h))) (hg : w1.grownBy w' (some mb)) :
    Tb w' tb mb room (putG g' L) ∧ w.grownBy w' (some mb) := by
  have h1 := h.below k
  have hG : w.grownBy w' (some mb) := ⟨hg.os.trans k.os, hg.tape.trans k.tape, hg.output.trans k.output, Nat.le_trans k.size hg.size, fun i hi hne => (hg.block i (Nat.lt_of_lt_of_le hi k.size) hne).trans (k.block i hi)⟩
  rw [put_mD] at hown
  refine ⟨⟨?_, ?_, Nat.lt_of_lt_of_le h1.lt hg.size, own_len hown, ?_, srt_put h.srt⟩, hG⟩
  · exact (World.cell?_of_block (a := ⟨tb, 0, none⟩) (hg.block tb h1.lt (fun e => by cases e; exact h.ne rfl))).trans h1.c0
  · exact (World.cell?_of_block (a := ⟨tb, 1, none⟩) (hg.block tb h1.lt (fun e => by cases e; exact h.ne rfl))).trans h1.c1
  · intro x hx
    rcases mem_put.1 hx with rfl | ⟨hx, _⟩
    · have hne : ¬ InB x.a x.l mb := fun hin => by have := hb.new hin; have := h.mlt; omega
      exact (GW.mk hb.b hs ho hne).grown hg
    · exact (h1.grp x hx).grown hg
end Go.Proofs.YteodlkgbakkjmaaDoor

/-
  What numbers answers, as a contract: the groups' numbers, rising.
-/
import Derived.Test.YteodlkgbakkjmaaDoorLed
namespace Go.Proofs.YteodlkgbakkjmaaDoor
open Go.ChangeShapes Go.WideShapes Go.ChangeAt Go.RowKit Go.Maps Go.Sort
set_option linter.unusedVariables false

theorem rise_ext : ∀ {a b : List Int}, a.Pairwise (· < ·) → b.Pairwise (· < ·) → (∀ x, x ∈ a ↔ x ∈ b) → a = b
  | [], [], _, _, _ => rfl
  | [], y :: b, _, _, h => by have := (h y).2 (by simp); cases this
  | x :: a, [], _, _, h => by have := (h x).1 (by simp); cases this
  | x :: a, y :: b, ha, hb, h => by
    obtain ⟨h1, h2⟩ := List.pairwise_cons.1 ha
    obtain ⟨h3, h4⟩ := List.pairwise_cons.1 hb
    have e : x = y := by
      rcases List.mem_cons.1 ((h x).1 (by simp)) with e | hx
      · exact e
      · rcases List.mem_cons.1 ((h y).2 (by simp)) with e | hy
        · exact e.symm
        · have := h1 y hy; have := h3 x hx; omega
    subst e
    rw [rise_ext h2 h4 (fun z => ?_)]
    constructor
    · intro hz
      rcases List.mem_cons.1 ((h z).1 (List.mem_cons_of_mem _ hz)) with e | hz'
      · have := h1 z hz; omega
      · exact hz'
    · intro hz
      rcases List.mem_cons.1 ((h z).2 (List.mem_cons_of_mem _ hz)) with e | hz'
      · have := h3 z hz; omega
      · exact hz'
theorem sort_rise {zs : List Int} (hn : zs.Nodup) : (zs.mergeSort fun x y => decide (x ≤ y)).Pairwise (· < ·) := by
  have hs : (zs.mergeSort fun x y => decide (x ≤ y)).Pairwise (fun x y => decide (x ≤ y) = true) := List.pairwise_mergeSort (fun a b c h1 h2 => by simp at *; omega) (fun a b => by simp; omega) zs
  have hd : (zs.mergeSort fun x y => decide (x ≤ y)).Pairwise (· ≠ ·) := (List.mergeSort_perm zs _).nodup_iff.2 hn
  exact (hs.and hd).imp (fun {a b} h => by simp at h; omega)
theorem sort_own2 (base : Nat) (v : Value) (zs : List Int) (w : World) (hown : OwnI base w v zs) (hn : zs.length ≤ 100000) : Calls Tryd.prog 51 #[v] w fun e w' => e = .returned (.tuple #[]) ∧ OwnI base w' v (zs.mergeSort fun x y => decide (x ≤ y)) ∧ w.grownBy w' v.ownBlock := by
  rcases hown.2 with ⟨rfl, h0⟩ | ⟨g, cap, cur, rfl, hbg, hb, hnc, hcm, hcs, htk⟩
  · refine (Tryd.slices_Sort_none none 0 w).mono ?_
    rintro e w' ⟨rfl, rfl⟩
    have hz : zs = [] := List.length_eq_zero_iff.1 h0
    subst hz
    exact ⟨rfl, by rw [List.mergeSort_nil]; exact hown, World.grownBy.refl _ _⟩
  · refine (Tryd.slices_Sort_int g 0 cap zs w (holds_of_blockI hb (by simpa using htk)) (Array.getElem?_eq_some_iff.1 hb).1 (by omega)).mono ?_
    rintro e w' ⟨rfl, n, os, rfl⟩
    have hp : (zs.mergeSort fun x y => decide (x ≤ y)).Perm zs := List.mergeSort_perm _ _
    have hl : (zs.mergeSort fun x y => decide (x ≤ y)).length = zs.length := hp.length_eq
    refine ⟨rfl, ?_, grownBy_sortedI _⟩
    have := ownsRow_sortedI (n := n) (os := os) hl hbg hb hnc hcm hcs
    unfold OwnI
    rw [hl]
    exact this
/-- A round of numbers. -/
structure NmI (w0 : World) (mb : Nat) (L : List Gr) (left : Lit → Bool) (cnt : Nat) (v : Value) (zs : List Int) (wr : World) : Prop where
  rng : Rng wr mb w0.heap.size L.length L left cnt
  own : OwnI (w0.heap.size + 1) wr v zs
  bel : Below w0.heap.size w0 wr
  sz : w0.heap.size + 1 ≤ wr.heap.size
  nd : zs.Nodup
  mem : ∀ x, x ∈ zs ↔ hasP L x = true ∧ left (kL x) = false
  len : zs.length + cnt ≤ L.length
theorem srt_ids {L : List Gr} (h : SrtG L) : (L.map Gr.id).Pairwise (· < ·) := List.pairwise_map.2 h
set_option maxRecDepth 20000 in
set_option maxHeartbeats 8000000 in
theorem numbers_any {tb mb : Nat} {room : Int} {L : List Gr} (w : World) (h : Tb w tb mb room L) (hL : L.length ≤ 64) : Calls Tryd.prog 42 #[ptr tb] w fun e w' => ∃ v, e = .returned v ∧ OwnI w.heap.size w' v (L.map Gr.id) ∧ Below w.heap.size w w' := by
  have c1 := h.c1
  have lt := h.lt
  have hown := h.own
  have HML : Hid (mb < w.heap.size) := h.mlt
  have HS : Hid (SrtG L) := h.srt
  have HL : Hid (L.length ≤ 64) := hL
  clear h hL
  go_enter Tryd.func42, Tryd.ntmps42
  go_wp2_with (at_range; refine wpList_range_own _ rfl _ 57 rfl 3 33 law Tryd.underlying57 _ mb L.length _ rfl hown ?_; intro w0 hrg0 hg0 hs0)
  go_frame
  have H0 : Hid (NmI w mb L (Maps.has (mD L)) (Maps.size (mD L)) (.slice none 0 0) [] w0) := (show NmI _ _ _ _ _ _ _ _ from ⟨hrg0, World.ownsRow_nil _ _ _ _, ⟨hg0.os, hg0.tape, hg0.output, hg0.size, fun k hk => hg0.block k hk (by simp)⟩, by omega, by simp, fun x => by
    rw [has_mD]
    simp, by rw [size_mD]; simp⟩)
  clear hrg0 hg0 hs0 hown
  go_loopw [3, 10] (fun v3 _ wr => ∃ (left : Lit → Bool) (cnt : Nat) (zs : List Int), Hid (NmI w mb L left cnt v3 zs wr)) (fun _ _ wr => wr.rangeLeft mb w.heap.size)
  case atStart => exact ⟨_, _, _, H0⟩
  case round =>
    obtain ⟨left, cnt, zs, HI⟩ := hrel
    go_wp2_with (at_next; refine wpList_nextG rfl _ rfl mb w.heap.size L.length L left cnt rfl HI.out.rng ?_ ?_)
    · intro _ hl0
      have hzz : ∀ x, x ∈ zs ↔ x ∈ L.map Gr.id := fun x => by
        rw [HI.out.mem x, hl0, hasP_iff]
        simp
      have hid : (zs.mergeSort fun x y => decide (x ≤ y)) = L.map Gr.id := rise_ext (sort_rise HI.out.nd) (srt_ids HS.out) (fun x => by rw [(List.mergeSort_perm zs _).mem_iff]; exact hzz x)
      have HC : Hid (Calls Tryd.prog 51 #[u3] wr fun e w' => e = .returned (.tuple #[]) ∧ OwnI (w.heap.size + 1) w' u3 (L.map Gr.id) ∧ wr.grownBy w' u3.ownBlock) := (show Calls _ _ _ _ _ by
        rw [← hid]
        exact sort_own2 _ u3 zs wr HI.out.own (by have := HI.out.len; have := HL.out; omega))
      clear hl0 hzz hid
      go_wp2_with fail
      refine HC.out.mono ?_
      rintro e w1 ⟨rfl, o1, k1⟩
      have HO : Hid (OwnI w.heap.size w1 u3 (L.map Gr.id) ∧ Below w.heap.size w w1) := (show _ ∧ _ from ⟨own_mono o1 (by omega), HI.out.bel.grown k1 HI.out.bel.size (fun j hj => by have := (HI.out.own.lt j hj).1; omega)⟩)
      clear o1 k1
      go_wp2_with fail
      go_ret
      exact ⟨_, rfl, HO.out.1, HO.out.2⟩
    · intro x gi gk ga gl gc w1 cnt1 hgm hid hlx hrg1 hlt hg1 hs1 hen
      have hb1 : Below w.heap.size w w1 := bnext HI.out.bel hg1 HI.out.bel.size (Nat.le_refl _)
      have ho1 : OwnI (w.heap.size + 1) w1 u3 zs := HI.out.own.kept hg1 (by
        cases hob : u3.ownBlock with
        | none => exact .inl rfl
        | some g =>
          right
          intro e
          cases e
          have := (HI.out.own.lt _ hob).1
          omega)
      have H1 : Hid (Rng w1 mb w.heap.size L.length L (fun z => left z && !z.sameKey (kL x)) cnt1 ∧ OwnI (w.heap.size + 1) w1 u3 zs ∧ Below w.heap.size w w1 ∧ cnt1 < cnt ∧ w1.heap.size = wr.heap.size) := (show _ ∧ _ ∧ _ ∧ _ ∧ _ from ⟨hrg1, ho1, hb1, hlt, hs1⟩)
      have HM : Hid (hasP L x = true ∧ left (kL x) = true) := (show _ ∧ _ from ⟨hasP_iff.2 ⟨_, hgm, hid⟩, hlx⟩)
      have HO2 : Hid (OwnI (w.heap.size + 1) (w1.alloc (.cells #[.int .i64 x] 3)) u3 zs) := (show OwnI _ _ _ _ from ho1.alloc _)
      have HNl : Hid (zs.length ≤ 100000) := (show _ ≤ _ by have := HI.out.len; have := HL.out; omega)
      have HSz : Hid (w.heap.size + 1 ≤ (w1.alloc (.cells #[.int .i64 x] 3)).heap.size) := (show _ ≤ _ by have := HI.out.sz; simp; omega)
      clear hs1 hg1 hrg1 hb1 hlt hgm hid hlx ho1
      go_wp2_with (at_builtin; refine wpList_app1 rfl _ _ rfl (w.heap.size + 1) u3 zs rfl HO2.out w1.heap.size x rfl (by simp) HNl.out HSz.out ?_; intro v' w2 ho2 hg2)
      have HN : Hid (NmI w mb L (fun z => left z && !z.sameKey (kL x)) cnt1 v' (zs ++ [x]) w2 ∧ cnt1 < cnt) := (show _ ∧ _ by
        have hne : ∀ j, u3.ownBlock = some j → w.heap.size + 1 ≤ j := fun j hj => (HO2.out.lt j hj).1
        refine ⟨⟨?_, ho2, ?_, ?_, ?_, ?_, ?_⟩, H1.out.2.2.2.1⟩
        · exact (H1.out.1.alloc _).kept hg2 (fun e => by have := hne _ e.symm; have := HML.out; omega) (fun e => by have := hne _ e.symm; omega)
        · have hb := H1.out.2.2.1
          have hb2 : Below w.heap.size w (w1.alloc (.cells #[.int .i64 x] 3)) := btr hb (by go_grown) (Nat.le_refl _)
          exact hb2.grown hg2 hb2.size (fun j hj => by have := hne j hj; omega)
        · exact Nat.le_trans HSz.out hg2.size
        · rw [List.nodup_append]
          refine ⟨HI.out.nd, by simp, fun a ha b hb => ?_⟩
          simp at hb
          subst hb
          intro e
          subst e
          have := (HI.out.mem a).1 ha
          rw [HM.out.2] at this
          cases this.2
        · intro y
          rw [List.mem_append, HI.out.mem y, List.mem_singleton, same_kL]
          by_cases e : y = x
          · subst e
            simp [HM.out.1]
          · simp [e]
        · rw [List.length_append]
          have := HI.out.len
          have := H1.out.2.2.2.1
          simp
          omega)
      clear ho2 hg2 HO2 hen
      go_wp2_with fail
      go_roundw
      case rel => exact ⟨_, cnt1, _, (show NmI _ _ _ _ _ _ _ _ from HN.out.1)⟩
      case measure => rw [HN.out.1.rng.left_eq, HI.out.rng.left_eq]; exact HN.out.2
end Go.Proofs.YteodlkgbakkjmaaDoor

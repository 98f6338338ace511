/-
  What isLedTo and numbers answer, as contracts: a range over the map.
-/
import Derived.Test.YteodlkgbakkjmaaDoorAddW
namespace Go.Proofs.YteodlkgbakkjmaaDoor
open Go.ChangeShapes Go.WideShapes Go.ChangeAt Go.RowKit Go.Maps
set_option linter.unusedVariables false

abbrev Rng (w : World) (mb r n : Nat) (L : List Gr) (left : Lit → Bool) (cnt : Nat) : Prop := w.ranges Tryd.prog 3 Re mb r n (mD L) left cnt
/-- A step of the range. -/
theorem wpList_nextG {w : World} {ops : Array Oper} {rest : List Oper} {o : Oper} {a : Act} {Q : Exit → Act → World → Prop} (hg : o.guard = none) (it : Operand) (hop : o.op = Op.next it false) (mb r n : Nat) (L : List Gr) (left : Lit → Bool) (cnt : Nat)
    (hit : a.eval it = .pointer (some ⟨r, 0, none⟩)) (h : Rng w mb r n L left cnt)
    (hDone : cnt = 0 → (∀ kl, left kl = false) → wpList Tryd.prog ops Q rest (a.put o.dst (.tuple #[.bool false])) w)
    (hMore : ∀ (x : Int) (gi gk : Int) (ga : Option Addr) (gl : List Bk) (gc : Nat) (w' : World) (cnt' : Nat), Gr.mk gi gk ga gl gc ∈ L → gi = x → left (kL x) = true → Rng w' mb r n L (fun z => left z && !z.sameKey (kL x)) cnt' → cnt' < cnt → w.grownBy w' (some r) → w'.heap.size = w.heap.size →
      (Instr.entry (.pointer (some ⟨r, 0, none⟩))).run Tryd.prog w' = .ok (.tuple #[.int .i64 x, .agg #[.int .i64 gi, .int .i64 gk, .slice ga gl.length gc]]) w' → wpList Tryd.prog ops Q rest (a.put o.dst (.tuple #[.bool true, .int .i64 x, .agg #[.int .i64 gi, .int .i64 gk, .slice ga gl.length gc]])) w') :
    wpList Tryd.prog ops Q (o :: rest) a w :=
  wpList_next_ranges w hg it hop 3 law Re (Value.int .i64) hV (fun key kl hkey => by obtain ⟨x, rfl, _⟩ := Maps.keyOf_int_inv Tryd.underlying3 hkey; exact ⟨x, rfl⟩) (fun v y hv => by obtain ⟨g, e, _⟩ := Re_inv hv; exact ⟨g, e⟩)
    mb r n (mD L) left cnt hit h hDone (fun x c kl y w' cnt' hkey hlk hv hat hrg hlt hgr hsz hen => by
      obtain ⟨x', ex, rfl, hwx⟩ := Maps.keyOf_int_inv Tryd.underlying3 hkey
      cases ex
      obtain ⟨gh, eg, ey⟩ := Re_inv hv
      have ha : ∀ z, (mD L).atKey (kL x) z = .held gh := fun z => by rw [hat z, ey]
      obtain ⟨g, hgm, hid, hh⟩ := at_mD ha
      obtain ⟨gi, gk, ga, gl, gc⟩ := g
      have e3 : hV c = .agg #[.int .i64 gi, .int .i64 gk, .slice ga gl.length gc] := by rw [eg, ← hh]; rfl
      rw [e3] at hen ⊢
      exact hMore x gi gk ga gl gc w' cnt' hgm hid hlk hrg hlt hgr hsz hen)
theorem rng_start {w : World} {tb mb : Nat} {room : Int} {L : List Gr} (h : Tb w tb mb room L) {g : Gr} (hg : g ∈ L) : Maps.has (mD L) (kL g.id) = true := by rw [has_mD]; exact hasP_iff.2 ⟨g, hg, rfl⟩
/-- Contains, of numbers that the call has made. -/
theorem contains_own (base : Nat) (v : Value) (zs : List Int) (x : Int) (w : World) (ho : OwnI base w v zs) (hn : zs.length ≤ 100000) : Calls Tryd.prog 36 #[v, .int .i64 x] w fun e w' => e = .returned (.bool (zs.contains x)) ∧ w' = w := by
  rcases own_cells ho with ⟨rfl, a, c, rfl⟩ | ⟨g, cap, rfl, hg, hcap, hc⟩
  · exact Tryd.slices_Contains_none a c x w
  · have := Tryd.slices_Contains_int g 0 zs.length cap zs x w (Nat.le_refl _) (by omega) (fun j hj => by rw [Nat.zero_add, hc j hj]; simp [List.getD, hj])
    rw [List.take_length] at this
    exact this
/-- Whether one of the groups leads to a number. -/
def ledB (L : List Gr) (i : Int) : Bool := L.any fun g => (rawL (g.l.map Bk.b3)).contains i
theorem bnext {B r : Nat} {w wr w' : World} (h : Below B w wr) (k : wr.grownBy w' (some r)) (hB : B ≤ wr.heap.size) (hr : B ≤ r) : Below B w w' := h.grown k hB (fun j hj => by cases hj; exact hr)
set_option maxRecDepth 20000 in
set_option maxHeartbeats 8000000 in
theorem isLedTo_any {tb mb : Nat} {room : Int} {L : List Gr} (i : Int) (w : World) (h : Tb w tb mb room L) : Calls Tryd.prog 40 #[ptr tb, .int .i64 i] w fun e w' => e = .returned (.bool (ledB L i)) ∧ Below w.heap.size w w' := by
  have c1 := h.c1
  have lt := h.lt
  have hown := h.own
  have HLd : Hid (∀ (gi gk : Int) (ga : Option Addr) (gl : List Bk) (gc : Nat), Gr.mk gi gk ga gl gc ∈ L → ∀ w1, Below w.heap.size w w1 → Calls Tryd.prog 31 #[.agg #[.int .i64 gi, .int .i64 gk, .slice ga gl.length gc]] w1 fun e w' => ∃ v zs, e = .returned v ∧ OwnI w1.heap.size w' v zs ∧ (∀ x, x ∈ zs ↔ x ∈ rawL (gl.map Bk.b3)) ∧ zs.length ≤ 10000 ∧ Below w1.heap.size w1 w') := (show ∀ (gi gk : Int) (ga : Option Addr) (gl : List Bk) (gc : Nat), _ from fun gi gk ga gl gc hm w1 k => leads_any ⟨gi, gk, ga, gl, gc⟩ w1 ((h.grp _ hm).bs.below k) (h.grp _ hm).sm (LO_of (h.grp _ hm).ok))
  have HH : Hid (Tb w tb mb room L) := h
  have HS : Hid (SrtG L) := h.srt
  clear h
  go_enter Tryd.func40, Tryd.ntmps40
  go_wp2_with (at_range; refine wpList_range_own _ rfl _ 57 rfl 3 33 law Tryd.underlying57 _ mb L.length _ rfl hown ?_; intro w0 hrg0 hg0 hs0)
  go_frame
  have H0 : Hid (Rng w0 mb w.heap.size L.length L (Maps.has (mD L)) (Maps.size (mD L)) ∧ Below w.heap.size w w0) := (show _ ∧ _ from ⟨hrg0, ⟨hg0.os, hg0.tape, hg0.output, hg0.size, fun k hk => hg0.block k hk (by simp)⟩⟩)
  clear hrg0 hg0 hs0 hown
  go_loopw [12] (fun _ wr => ∃ (left : Lit → Bool) (cnt : Nat), Hid (Rng wr mb w.heap.size L.length L left cnt ∧ Below w.heap.size w wr ∧ ∀ g ∈ L, left (kL g.id) = false → i ∉ rawL (g.l.map Bk.b3))) (fun _ wr => wr.rangeLeft mb w.heap.size)
  case atStart => exact ⟨_, _, (show _ ∧ _ ∧ _ from ⟨H0.out.1, H0.out.2, fun g hg hl => by rw [rng_start HH.out hg] at hl; cases hl⟩)⟩
  case round =>
    obtain ⟨left, cnt, HI⟩ := hrel
    go_wp2_with (at_next; refine wpList_nextG rfl _ rfl mb w.heap.size L.length L left cnt rfl HI.out.1 ?_ ?_)
    · intro _ hl0
      have HE : Hid (ledB L i = false) := (show _ = _ by
        unfold ledB
        rw [List.any_eq_false]
        intro g hg
        have := HI.out.2.2 g hg (hl0 _)
        simpa using this)
      clear hl0
      have hb := HI.out.2.1
      go_wp2_with fail
      go_ret
      exact ⟨by rw [HE.out]; rfl, hb⟩
    · intro x gi gk ga gl gc w1 cnt1 hgm hid hlx hrg1 hlt hg1 hs1 hen
      have hb1 : Below w.heap.size w w1 := bnext HI.out.2.1 hg1 HI.out.2.1.size (Nat.le_refl _)
      have HLq := HLd.out gi gk ga gl gc hgm
      have HLq : Hid (∀ w1, Below w.heap.size w w1 → Calls Tryd.prog 31 #[.agg #[.int .i64 gi, .int .i64 gk, .slice ga gl.length gc]] w1 fun e w' => ∃ v zs, e = .returned v ∧ OwnI w1.heap.size w' v zs ∧ (∀ x, x ∈ zs ↔ x ∈ rawL (gl.map Bk.b3)) ∧ zs.length ≤ 10000 ∧ Below w1.heap.size w1 w') := HLq
      have HB1 : Hid (Rng w1 mb w.heap.size L.length L (fun z => left z && !z.sameKey (kL x)) cnt1 ∧ Below w.heap.size w w1 ∧ cnt1 < cnt) := (show _ ∧ _ ∧ _ from ⟨hrg1, hb1, hlt⟩)
      have HM : Hid (Gr.mk gi gk ga gl gc ∈ L ∧ gi = x) := (show _ ∧ _ from ⟨hgm, hid⟩)
      clear hs1 hg1 hrg1 hb1 hlt hgm hid hlx
      go_wp2_with fail
      refine (HLq.out _ (btr HB1.out.2.1 (by go_grown) (Nat.le_refl _))).mono ?_
      rintro e w2 ⟨v, zs, rfl, ho, hz, hn, g2⟩
      have G2 : Below w1.heap.size w1 w2 := btr (by go_grown) g2 (by simp)
      have HC : Hid (Calls Tryd.prog 36 #[v, .int .i64 i] w2 fun e w' => e = .returned (.bool (zs.contains i)) ∧ w' = w2) := contains_own _ v zs i w2 ho (by omega)
      have HZ : Hid (zs.contains i = true ↔ i ∈ rawL (gl.map Bk.b3)) := (show _ ↔ _ by rw [List.contains_iff_mem]; exact hz i)
      have HB2 : Hid (Rng w2 mb w.heap.size L.length L (fun z => left z && !z.sameKey (kL x)) cnt1 ∧ Below w.heap.size w w2) := (show _ ∧ _ from ⟨HB1.out.1.kept (row := none) ⟨G2.os, G2.tape, G2.output, G2.size, fun k hk _ => G2.block k hk⟩ (by simp) (by simp), btr HB1.out.2.1 G2 (Nat.le_refl _)⟩)
      clear ho hz hn g2 G2 hen
      generalize zs.contains i = CB at *
      go_wp2_with fail
      refine HC.out.mono ?_
      rintro e w3 ⟨rfl, rfl⟩
      cases CB with
      | true =>
        have HE : Hid (ledB L i = true) := (show _ = _ by
          unfold ledB
          rw [List.any_eq_true]
          exact ⟨_, HM.out.1, by simpa using HZ.out.1 rfl⟩)
        have hb := HB2.out.2
        go_wp2_with fail
        go_ret
        exact ⟨by rw [HE.out]; rfl, hb⟩
      | false =>
        have HN : Hid (Rng w3 mb w.heap.size L.length L (fun z => left z && !z.sameKey (kL x)) cnt1 ∧ Below w.heap.size w w3 ∧ ∀ g ∈ L, (left (kL g.id) && !(kL g.id).sameKey (kL x)) = false → i ∉ rawL (g.l.map Bk.b3)) := (show _ ∧ _ ∧ _ from ⟨HB2.out.1, HB2.out.2, fun g hg hl => by
          by_cases e : g.id = x
          · have eg : g = ⟨gi, gk, ga, gl, gc⟩ := srt_one HS.out hg HM.out.1 (e.trans HM.out.2.symm)
            subst eg
            intro hin
            have := HZ.out.2 hin
            cases this
          · refine HI.out.2.2 g hg ?_
            rw [same_kL, decide_eq_false e] at hl
            simpa using hl⟩)
        go_wp2_with fail
        go_roundw
        case rel => exact ⟨_, cnt1, HN⟩
        case measure => rw [HB2.out.1.left_eq, HI.out.1.left_eq]; exact HB1.out.2.2
end Go.Proofs.YteodlkgbakkjmaaDoor

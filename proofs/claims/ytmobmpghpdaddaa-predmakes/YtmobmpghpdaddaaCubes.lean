/-
  Cubes.
-/
import Derived.Test.YtmobmpghpdaddaaListO
import Derived.Deep.OwnRows
namespace Go.Proofs.Ytmobmpghpdaddaa
open Go.ChangeShapes Go.WideShapes Go.ChangeAt Go.RowKit
set_option linter.unusedVariables false

theorem listsF_few : ∀ (l : List Nd) (hv R : List (List K)), (∀ p ∈ hv, p.length ≤ 128) → listsF hv l = some R → ∀ p ∈ R, p.length ≤ 128
  | [], hv, R, h, e => by cases e; exact h
  | x :: l, hv, R, h, e => by
    unfold listsF at e
    split at e
    · cases e
    · next r hr =>
      refine listsF_few l _ R (fun p hp => ?_) e
      rcases List.mem_append.1 hp with hp | hp
      · exact h p hp
      · rw [List.mem_singleton] at hp; subst hp; exact nodeL_len hr
theorem listO_len {l : List Nd} {r : List K} (h : listO l = some r) : r.length ≤ 128 := by
  unfold listO at h
  cases hR : listsF [] l with
  | none => rw [hR] at h; cases h
  | some R =>
    rw [hR] at h
    cases h
    show (R.getLastD []).length ≤ 128
    rw [List.getLastD_eq_getLast?]
    cases hl : R.getLast? with
    | none => simp
    | some p => exact listsF_few l [] R (fun p hp => by cases hp) hR p (List.mem_of_getLast? hl)
/-- A slice's tests are a cube's, in a block of its own that may be written. -/
def TcN (B b : Nat) (w : World) (h : Hd) (k : K) : Prop := Tc w h k ∧ (toT k ≠ [] → ∃ g, h.a = some ⟨g, 0, none⟩ ∧ B ≤ g ∧ g ≠ b ∧ g < w.heap.size ∧ ∀ o, w.frozen? ⟨g, o, none⟩ = false)
theorem TcN.blk {B b : Nat} {w w' : World} {h : Hd} {k : K} (t : TcN B b w h k) (hs : w.heap.size ≤ w'.heap.size) (hb : ∀ j, j < w.heap.size → j ≠ b → w'.heap[j]? = w.heap[j]?) : TcN B b w' h k := by
  obtain ⟨⟨t1, t2, t3⟩, t4⟩ := t
  by_cases h0 : toT k = []
  · exact ⟨⟨t1, t2, .inl h0⟩, fun h => absurd h0 h⟩
  · obtain ⟨g, e, h1, h2, h3, h4⟩ := t4 h0
    have hg := hb g h3 h2
    rcases t3 with t3 | ⟨g', o', e', h5, h6⟩
    · exact absurd t3 h0
    · rw [e] at e'
      cases e'
      exact ⟨⟨t1, t2, .inr ⟨g, 0, e, by omega, h6.block hg⟩⟩, fun _ => ⟨g, e, h1, h2, by omega, fun o => (World.frozen?_of_block (w := w) hg).trans (h4 o)⟩⟩
theorem TcN.below {B b : Nat} {w w' : World} {h : Hd} {k : K} (t : TcN B b w h k) (g : Below w.heap.size w w') : TcN B b w' h k := t.blk g.size (fun j hj _ => g.block j hj)
theorem TcN.new {B b : Nat} {w w' : World} {v : Value} {k : K} (h : RwI 32 tstL 3 w v (toT k) w') (hB : B ≤ w.heap.size) (hb : b < w.heap.size) : ∃ x : Hd, v = hdV x ∧ TcN B b w' x k := by
  obtain ⟨a, cap, rfl, hc, hsk⟩ := own_sk kdT h.own
  refine ⟨⟨a, (toT k).length, cap⟩, rfl, ⟨rfl, hc, hsk⟩, fun h0 => ?_⟩
  rcases h.own.2 with ⟨h1, h2⟩ | ⟨g, cap', cur, h1, h2, h3, _⟩
  · exact absurd (List.length_eq_zero_iff.1 h2) h0
  · obtain ⟨e1, _, _⟩ := Value.slice.inj h1
    refine ⟨g, e1, by omega, by omega, (Array.getElem?_eq_some_iff.1 h3).1, fun o => ?_⟩
    simp [World.frozen?, h3]
/-- Headers are laid one by one. -/
structure FiH (U : World) (b : Nat) (n : Nat) (l : List K) (wr : World) : Prop where
  ex : ∃ hs : List Hd, hs.length = l.length ∧ (∀ i (h : i < hs.length), wr.cell? ⟨b, i, none⟩ = some (hdV hs[i])) ∧ Hs (TcN U.heap.size b) wr hs l
  wri : wr.there b 0 n
  lo : U.heap.size ≤ b
  lt : b < wr.heap.size
  bel : Below U.heap.size U wr
theorem FiH.grow {U wr w' : World} {b n : Nat} {l : List K} (h : FiH U b n l wr) (g : Below wr.heap.size wr w') : FiH U b n l w' := by
  obtain ⟨hs, h1, h2, h3⟩ := h.ex
  exact ⟨⟨hs, h1, fun i hi => (g.cell (p := ⟨b, i, none⟩) h.lt).trans (h2 i hi), h3.mono fun i i1 i2 t => t.below g⟩, there_block h.wri (g.block _ h.lt), h.lo, Nat.lt_of_lt_of_le h.lt g.size, btr h.bel g (Nat.le_refl _)⟩
theorem FiH.set {U wr w' : World} {b n : Nat} {l : List K} {k : K} {v : Value} (h : FiH U b n l wr) (hv : RwI 32 tstL 3 wr v (toT k) w') (hn : l.length < n) : FiH U b n (l ++ [k]) (w'.setCell ⟨b, l.length, none⟩ v) := by
  obtain ⟨x, rfl, hx⟩ := TcN.new (B := U.heap.size) (b := b) hv h.bel.size h.lt
  have h' := h.grow hv.bel
  obtain ⟨hs, h1, h2, h3⟩ := h'.ex
  have hz : (w'.setCell ⟨b, l.length, none⟩ (hdV x)).heap.size = w'.heap.size := by simp [World.setCell]
  have hblk : ∀ j, j < w'.heap.size → j ≠ b → (w'.setCell ⟨b, l.length, none⟩ (hdV x)).heap[j]? = w'.heap[j]? := fun j _ hj => setCell_block _ _ _ _ hj
  obtain ⟨c1, c2⟩ := h'.wri l.length hn
  rw [Nat.zero_add] at c1
  obtain ⟨v0, hv0⟩ := Option.isSome_iff_exists.1 c1
  refine ⟨⟨hs ++ [x], by simp [h1], fun i hi => ?_, Hs.snoc (h3.mono fun i i1 i2 t => t.blk (by omega) hblk) (hx.blk (by omega) hblk)⟩, there_set h'.wri _ _, h'.lo, by rw [hz]; exact h'.lt, h'.bel.setCell (by simpa using h'.lo) _⟩
  by_cases e : i < hs.length
  · rw [List.getElem_append_left e]
    exact (World.cell?_setCell_other _ _ _ _ (fun e' => by have := (Addr.mk.inj e').2.1; omega)).trans (h2 i e)
  · have e1 : i = hs.length := by simp at hi; omega
    subst e1
    rw [List.getElem_append_right (by omega)]
    simp only [Nat.sub_self, List.getElem_cons_zero]
    rw [h1]
    exact World.cell?_setCell_same _ _ _ hv0
theorem infoTC : (Try.prog.info? 43).map (fun i => (i.zero, i.size, i.bytes)) = some (some (.slice none 0 0), 1, 24) := by kernel_rfl
theorem wpList_hdrs (w : World) {ops : Array Oper} {rest : List Oper} {o : Oper} {a : Go.Act} {Q : Exit → Go.Act → World → Prop} (hg : o.guard = none) (l c : Operand) (ho : o.op = .makeSlice 52 l c) (n : Nat) (hl : a.eval l = .int .i64 (n : Int)) (hc : a.eval c = .int .i64 (n : Int)) (hn : n ≤ 1000)
    (h : ∀ V, FiH w w.heap.size n [] V → wpList Try.prog ops Q rest (a.put o.dst (.slice (some ⟨w.heap.size, 0, none⟩) n n)) V) : wpList Try.prog ops Q (o :: rest) a w := by
  obtain ⟨i0, hi, hz0, hz1, hz2⟩ := info_parts infoTC
  refine wpList_make_row w hg l c 52 ho 43 i0 (.slice none 0 0) Try.underlying52 hi hz0 hz1 rfl .i64 .i64 n hl hc (by rw [hz2]; omega) (by omega) (h _ ⟨⟨[], rfl, fun i hi => (by cases hi), Hs.nil _⟩, ?_, Nat.le_refl _, by simp, by go_grown⟩)
  have := there_new w (madeCells #[.slice none 0 0] n) 43 n (size_madeCells _ _)
  exact this
/-- What Cubes answers. -/
def CbR (w : World) (l : List Nd) (e : Ending) (w' : World) : Prop :=
  (rightB l = false ∧ e = .returned (.tuple #[.slice none 0 0, .int .i64 1]) ∧ Below w.heap.size w w') ∨
  (rightB l = true ∧ listO l = none ∧ e = .returned (.tuple #[.slice none 0 0, .int .i64 44]) ∧ Below w.heap.size w w') ∨
  (rightB l = true ∧ ∃ r b, listO l = some r ∧ e = .returned (.tuple #[.slice (some ⟨b, 0, none⟩) r.length r.length, .int .i64 0]) ∧ FiH w b r.length r w')
theorem FiH.from {W U b n l wr} (h : FiH U b n l wr) (g : Below W.heap.size W U) : FiH W b n l wr := by
  obtain ⟨hs, h1, h2, h3⟩ := h.ex
  have hz := g.size
  exact ⟨⟨hs, h1, h2, h3.mono fun i i1 i2 t => ⟨t.1, fun h0 => by obtain ⟨g, e, k1, k2⟩ := t.2 h0; exact ⟨g, e, by omega, k2⟩⟩⟩, h.wri, by have := h.lo; omega, h.lt, btr g h.bel (Nat.le_refl _)⟩
set_option maxRecDepth 20000 in
set_option maxHeartbeats 8000000 in
theorem cubes_any (a : Option Addr) (l : List Nd) (cap : Nat) (w : World) (hs : Ns w a l) (hl : l.length ≤ 9223372036854775807) (hss : ∀ x ∈ l, x.s.length ≤ 9223372036854775807) :
    Calls Try.prog 35 #[.agg #[.slice a l.length cap]] w fun e w' => CbR w l e w' := by
  obtain ⟨X, hX⟩ : ∃ X, w.alloc (.cells #[.slice a l.length cap] 24) = X := ⟨_, rfl⟩
  have gX : Below w.heap.size w X := by rw [← hX]; go_grown
  have cX : X.cell? ⟨w.heap.size, 0, none⟩ = some (.slice a l.length cap) := by rw [← hX]; simp
  have HG : Hid (Below w.heap.size w X) := gX
  have HL : Hid (Calls Try.prog 56 #[.agg #[.slice a l.length cap]] X fun e w' => (rightB l = false ∧ e = .returned (.tuple #[.slice none 0 0, .int .i64 1]) ∧ Below w.heap.size w w') ∨ (rightB l = true ∧ LsR X (fun _ => True) (listO l) e w')) := (show Calls _ _ _ _ _ from (listOf_any a l cap X (hs.below gX) hl hss).mono fun e w' h => by
    rcases h with ⟨h1, h2, h3⟩ | h
    · exact .inl ⟨h1, h2, btr gX h3 (Nat.le_refl _)⟩
    · exact .inr h)
  have HLen : Hid (∀ r, listO l = some r → r.length ≤ 128) := (show ∀ r, _ from fun r h => listO_len h)
  clear hs hss gX
  cases hb : rightB l with
  | false =>
    have HL1 : Hid (Calls Try.prog 56 #[.agg #[.slice a l.length cap]] X fun e w' => e = .returned (.tuple #[.slice none 0 0, .int .i64 1]) ∧ Below w.heap.size w w') := (show Calls _ _ _ _ _ from HL.out.mono fun e w' h => by
      rcases h with ⟨h1, h2, h3⟩ | ⟨h1, _⟩
      · exact ⟨h2, h3⟩
      · rw [hb] at h1; cases h1)
    have HNo : Hid (∀ w', Below w.heap.size w w' → CbR w l (.returned (.tuple #[.slice none 0 0, .int .i64 1])) w') := (show ∀ w', _ from fun w' g => .inl ⟨hb, rfl, g⟩)
    clear hb HL HLen
    go_enter Try.func35, Try.ntmps35
    go_wp2_with (go_at_call 56; refine HL1.out.mono ?_; rintro r w1 ⟨rfl, hb⟩; have HB1 : Hid (Below w.heap.size w w1) := hb; clear hb)
    go_ret2
    exact HNo.out _ HB1.out
  | true =>
    cases hO : listO l with
    | none =>
      have HL1 : Hid (Calls Try.prog 56 #[.agg #[.slice a l.length cap]] X fun e w' => e = .returned (.tuple #[.slice none 0 0, .int .i64 44]) ∧ Below w.heap.size w w') := (show Calls _ _ _ _ _ from HL.out.mono fun e w' h => by
        rcases h with ⟨h1, _⟩ | ⟨_, hb2, hq⟩
        · rw [hb] at h1; cases h1
        · rcases hq with ⟨m, am, cm, hm, _⟩ | ⟨_, h3⟩
          · rw [hO] at hm; cases hm
          · exact ⟨h3, btr HG.out hb2 (Nat.le_refl _)⟩)
      have HNo : Hid (∀ w', Below w.heap.size w w' → CbR w l (.returned (.tuple #[.slice none 0 0, .int .i64 44])) w') := (show ∀ w', _ from fun w' g => .inr (.inl ⟨hb, hO, rfl, g⟩))
      clear hb HL HLen hO
      go_enter Try.func35, Try.ntmps35
      go_wp2_with (go_at_call 56; refine HL1.out.mono ?_; rintro r w1 ⟨rfl, hb⟩; have HB1 : Hid (Below w.heap.size w w1) := hb; clear hb)
      go_ret2
      exact HNo.out _ HB1.out
    | some r =>
      have HL1 : Hid (Calls Try.prog 56 #[.agg #[.slice a l.length cap]] X fun e w' => ∃ am cm, e = .returned (.tuple #[.slice am r.length cm, .int .i64 0]) ∧ Sk cubL 20 w' am r ∧ Below w.heap.size w w') := (show Calls _ _ _ _ _ from HL.out.mono fun e w' h => by
        rcases h with ⟨h1, _⟩ | ⟨_, hb2, hq⟩
        · rw [hb] at h1; cases h1
        · rcases hq with ⟨m, am, cm, hm, h3, h4, _⟩ | ⟨hm, _⟩
          · rw [hO] at hm; cases hm
            exact ⟨am, cm, h3, h4, btr HG.out hb2 (Nat.le_refl _)⟩
          · rw [hO] at hm; cases hm)
      have hr128 := HLen.out r hO
      have HYes : Hid (∀ b w', FiH w b r.length r w' → CbR w l (.returned (.tuple #[.slice (some ⟨b, 0, none⟩) r.length r.length, .int .i64 0])) w') := (show ∀ b w', _ from fun b w' g => .inr (.inr ⟨hb, r, b, hO, rfl, g⟩))
      clear hb HL HLen hO
      obtain ⟨n, hn⟩ : ∃ n, r.length = n := ⟨_, rfl⟩
      have HN : Hid (r.length = n) := hn
      rw [hn] at HL1 HYes hr128
      clear hn
      go_enter Try.func35, Try.ntmps35
      go_wp2_with (first
        | (go_at_call 56; refine HL1.out.mono ?_; rintro e w1 ⟨am, cm, rfl, h4, hb⟩; have HB1 : Hid (Below w.heap.size w w1 ∧ Sk cubL 20 w1 am r) := ⟨hb, h4⟩; clear hb h4)
        | (refine wpList_hdrs w1 rfl (.tmp 18) (.tmp 18) rfl n rfl rfl (by omega) ?_; intro V hV; have HV : Hid (FiH w w1.heap.size n (r.take 0) V ∧ Below w1.heap.size w1 V) := ⟨FiH.from hV HB1.out.1, hV.bel⟩; clear hV))
      have HS : Hid (Below w1.heap.size w1 V) := HV.out.2
      have HF : Hid (FiH w w1.heap.size n (r.take 0) V) := HV.out.1
      clear HV HL1 cX hX
      go_loopw [22] (fun v22 wr => ∃ i : Nat, i ≤ n ∧ v22 = .int .i64 i ∧ Hid (FiH w w1.heap.size n (r.take i) wr) ∧ Hid (Below w1.heap.size w1 wr)) (fun v22 _ => n - (intOf v22).toNat)
      case atStart => exact ⟨0, Nat.zero_le _, rfl, HF, HS⟩
      case round =>
        obtain ⟨i, hi, rfl, HI, HSr⟩ := hrel
        clear HF HS
        by_cases hlt : i < n
        · have hnl := HN.out
          obtain ⟨g, o, rfl, hg, hcs⟩ := (HB1.out.2.below HSr.out).at (j := i) (by omega)
          have HCi : Hid (C20 wr g (o + i * 20) (r[i]'(by omega))) := (show C20 _ _ _ _ from hcs.cub (by omega))
          have HT : Hid (r.take (i + 1) = r.take i ++ [r[i]'(by omega)]) := (show _ = _ by rw [List.take_succ_eq_append_getElem (by omega)])
          have HTl : Hid ((r.take i).length = i) := (show _ = _ by rw [List.length_take]; omega)
          generalize (r[i]'(by omega)) = k at *
          obtain ⟨V2, hV2, k1, k2, k3⟩ := box_cub wr k
          have HX : Hid ((wr.alloc (.cells (cubA K.top) 70)).setCells wr.heap.size 0 (cubL k) = V2 ∧ C20 V2 wr.heap.size 0 k ∧ Below wr.heap.size wr V2 ∧ (wr.alloc (.cells (cubA K.top) 70)).there wr.heap.size 0 20) := ⟨hV2, k1, k2, there_new wr _ 70 20 (cubA_size _)⟩
          have HF2 : Hid (FiH w w1.heap.size n (r.take i) V2) := HI.out.grow k2
          clear hcs hV2 k1 k2 k3
          go_wp2_with (first
            | (refine load_cub rfl (.tmp 25) rfl g (o + i * 20) rfl k HCi.out ?_)
            | (rw [zero_cub]; refine store_cub rfl (.tmp 8) (.tmp 26) rfl wr.heap.size 0 rfl k rfl HX.out.2.2.2 ?_; rw [HX.out.1])
            | (refine load_cub rfl (.tmp 8) rfl wr.heap.size 0 rfl k HX.out.2.1 ?_)
            | (go_at_call 51; refine (tests_any _ _).mono ?_; rintro e w3 ⟨v, rfl, hR⟩; (obtain ⟨a5, c5, hf5⟩ := own_form hR.own); subst hf5; have hq := HF2.out.set hR (by (rw [HTl.out]); exact hlt); rw [HTl.out, ← HT.out] at hq; have hw := (HF2.out.grow hR.bel).wri i hlt; rw [Nat.zero_add] at hw; (obtain ⟨q1, q2⟩ := hw); (obtain ⟨v0, q3⟩ := Option.isSome_iff_exists.1 q1); have HQ : Hid (FiH w w1.heap.size n (r.take (i + 1)) (w3.setCell ⟨w1.heap.size, i, none⟩ (.slice a5 (toT k).length c5)) ∧ Below w1.heap.size w1 (w3.setCell ⟨w1.heap.size, i, none⟩ (.slice a5 (toT k).length c5))) := ⟨hq, (((HSr.out.trans (HX.out.2.2.1.mono HSr.out.size)).trans (hR.bel.mono (Nat.le_trans HSr.out.size HX.out.2.2.1.size))).setCell (by simp) _)⟩; clear hq hR q1))
          go_roundw
          case rel => exact ⟨i + 1, by omega, by go_num, HQ.out.1, HQ.out.2⟩
          case measure => simp [intOf]; omega
        · have HE : Hid (FiH w w1.heap.size n r wr) := (show FiH _ _ _ _ _ by have := HI.out; rwa [List.take_of_length_le (by have := HN.out; omega)] at this)
          clear HI
          go_wp2_with fail
          go_ret2
          exact HYes.out _ _ HE.out
end Go.Proofs.Ytmobmpghpdaddaa

/-
  The document's Cut.
-/
import Derived.Test.YtmobmpghpdaddaaRefT
namespace Go.Proofs.Ytmobmpghpdaddaa
open Go.ChangeShapes Go.WideShapes Go.ChangeAt Go.RowKit
set_option linter.unusedVariables false
set_option linter.unusedSimpArgs false

def posX (c o : K) (f : Nat) : List (Nat × Nat) := (List.range' f (10 - f)).flatMap (posF c o)
theorem posX_step (c o : K) {f : Nat} (h : f < 10) : posX c o f = posF c o f ++ posX c o (f + 1) := by
  unfold posX
  rw [show 10 - f = (10 - (f + 1)) + 1 by omega, List.range'_succ, List.flatMap_cons]
theorem posX_end (c o : K) : posX c o 10 = [] := rfl
theorem lo_zero (t : Nat) : lo 0#64 t = 0#64 := by unfold lo; simp
theorem posX_all {c o : K} (ho : Vk o) : pos c o 10 = posX c o 1 := by
  have e : pos c o 10 = posX c o 0 := by
    unfold pos posX
    rw [List.range_eq_range']
  rw [e, posX_step c o (by omega)]
  have e0 : posF c o 0 = [] := by
    unfold posF
    rw [(ho.v0 (f := 0) (by omega)).1, BitVec.zero_and, rem_nil 0#64 64 (by omega) (lo_zero 64)]
    rfl
  rw [e0]
  rfl
/-- What is cut off so far, the rest, and the places to come. -/
structure Ct (o : K) (FL OL : List K) (RK : K) (ps : List (Nat × Nat)) : Prop where
  eq : FL = OL ++ cutR o RK ps
  vk : Vk RK
  nd : ps.Nodup
  ok : ∀ q ∈ ps, q.1 < 10 ∧ q.2 < 64 ∧ (o.m q.1).getLsbD q.2 = true ∧ (RK.m q.1).getLsbD q.2 = false
theorem Ct.start {c o : K} (hc : Vk c) (ho : Vk o) : Ct o (cutR o c (pos c o 10)) [] c (posX c o 1) := by
  rw [← posX_all ho]
  exact ⟨rfl, hc, pos_nodup c o 10, fun q hq => (pos_mem c o 10 q).1 hq⟩
theorem Ct.step {o : K} (ho : Vk o) {FL OL : List K} {RK : K} {p : Nat × Nat} {ps : List (Nat × Nat)} (h : Ct o FL OL RK (p :: ps)) : Ct o FL (OL ++ [flipK o RK p]) (keepK o RK p) ps := by
  have hn := List.nodup_cons.1 h.nd
  have hp := h.ok p (List.mem_cons_self ..)
  refine ⟨?_, h.vk.keep ho hp.2.2.1, hn.2, keep_pos hn.2 hn.1 (fun q hq => h.ok q (List.mem_cons_of_mem _ hq))⟩
  rw [h.eq, List.append_assoc]
  rfl
theorem and_bit {x : B64} {b : Nat} (hb : b < 64) : x &&& bit1 b = 0#64 ↔ x.getLsbD b = false := by
  constructor
  · intro h
    have := congrArg (fun x => x.getLsbD b) h
    simp only [BitVec.getLsbD_and, bit1_get _ _ hb] at this
    simpa using this
  · intro h
    refine bv_ext fun i hi => ?_
    rw [BitVec.getLsbD_and, bit1_get _ _ hi]
    by_cases e : i = b
    · subst e; rw [h]; simp
    · simp [e]
theorem rem_yes {X : B64} {t : Nat} (h : X.getLsbD t = true) : rem X (t + 1) = t :: rem X t := by show (if _ then _ else _) = _; rw [if_pos h]
theorem rem_no {X : B64} {t : Nat} (h : X.getLsbD t = false) : rem X (t + 1) = rem X t := by show (if _ then _ else _) = _; rw [if_neg (by rw [h]; simp)]
/-- The places of a field below t, and those behind. -/
def psT (c o : K) (f t : Nat) : List (Nat × Nat) := (rem (o.m f &&& ~~~ c.m f) t).map (fun b => (f, b)) ++ posX c o (f + 1)
theorem psT_all (c o : K) {f : Nat} (h : f < 10) : posX c o f = psT c o f 64 := posX_step c o h
theorem psT_end (c o : K) (f : Nat) : psT c o f 0 = posX c o (f + 1) := rfl
theorem psT_yes {c o : K} {f t : Nat} (ht : t < 64) (h1 : (o.m f).getLsbD t = true) (h2 : (c.m f).getLsbD t = false) : psT c o f (t + 1) = (f, t) :: psT c o f t := by
  unfold psT
  rw [rem_yes (by rw [BitVec.getLsbD_and, BitVec.getLsbD_not, h1, h2]; simp [ht])]
  rfl
theorem psT_no {c o : K} {f t : Nat} (h : (o.m f).getLsbD t = false ∨ (c.m f).getLsbD t = true) : psT c o f (t + 1) = psT c o f t := by
  unfold psT
  rw [rem_no (by rw [BitVec.getLsbD_and, BitVec.getLsbD_not]; rcases h with h | h <;> rw [h] <;> simp)]
/-- The bit that is asked next; 0 behind the last one. -/
def bitN : Nat → B64
  | 0 => 0#64
  | t + 1 => bit1 t
theorem nb63 : nb (bitN 64) = 9223372036854775808 := by decide +kernel
theorem nb_bit_pos {t : Nat} (ht : t < 64) : 0 < nb (bit1 t) := by
  have := nb_lo (bit1 t)
  have h : ¬ nb (bit1 t) = 0 := fun h => bit1_ne t ht ((nb_eq0 _).1 h)
  omega
theorem nb_bit (t : Nat) (ht : t < 64) : nb (bit1 t) = ((2 ^ t : Nat) : Int) := by
  unfold nb bit1
  rw [BitVec.toNat_ofNat, Nat.mod_eq_of_lt (Nat.pow_lt_pow_right (by omega) ht)]
theorem half_bit {t : Nat} (ht : t < 64) : nb (bit1 t) / 2 = nb (bitN t) := by
  cases t with
  | zero => decide +kernel
  | succ t =>
    show nb (bit1 (t + 1)) / 2 = nb (bit1 t)
    rw [nb_bit _ ht, nb_bit _ (by omega), Nat.pow_succ]
    omega
theorem half_less {t : Nat} (ht : t < 64) : (intOf (Value.int .u64 (nb (bit1 t) / 2))).toNat < (intOf (cv (bitN (t + 1)))).toNat := by
  have h := nb_bit_pos ht
  show (nb (bit1 t) / 2).toNat < (nb (bit1 t)).toNat
  omega
/-- The other way round. -/
theorem sub_bit {x : B64} {b : Nat} (hb : b < 64) : nb (bit1 b) - nb (x &&& bit1 b) = nb (bit1 b &&& ~~~ x) := by
  cases h : x.getLsbD b with
  | false =>
    rw [(and_bit hb).2 h, nb_zero]
    have e : bit1 b &&& ~~~ x = bit1 b := bv_ext fun i hi => by
      rw [BitVec.getLsbD_and, BitVec.getLsbD_not, bit1_get _ _ hi]
      by_cases e : i = b
      · subst e; rw [h]; simp [hi]
      · simp [e]
    rw [e]
    omega
  | true =>
    have e1 : x &&& bit1 b = bit1 b := bv_ext fun i hi => by
      rw [BitVec.getLsbD_and, bit1_get _ _ hi]
      by_cases e : i = b
      · subst e; rw [h]; simp
      · simp [e]
    have e2 : bit1 b &&& ~~~ x = 0#64 := bv_ext fun i hi => by
      rw [BitVec.getLsbD_and, BitVec.getLsbD_not, bit1_get _ _ hi]
      by_cases e : i = b
      · subst e; rw [h]; simp
      · simp [e]
    rw [e1, e2, nb_zero]
    omega
theorem field_testm (f : Int) (v m : B64) (w : World) : (Instr.field 32 (.agg #[.int .i64 f, cv v, cv m]) 2).run Try.prog w = .ok (cv m) w := by
  have u := under_test
  have a3 := Try.isAgg30
  have z3 := Try.sizeOf30
  have hf : (Try.prog.fieldsOf 32)[2]?.map (fun f => (f.type, f.offset)) = some (30, 2) := by kernel_rfl
  cases hq : (Try.prog.fieldsOf 32)[2]? with
  | none => rw [hq] at hf; cases hf
  | some g =>
    rw [hq] at hf
    have h1 : g.type = 30 := (Prod.mk.inj (Option.some.inj hf)).1
    have h2 : g.offset = 2 := (Prod.mk.inj (Option.some.inj hf)).2
    simp [Instr.field, run_underlying u, hq, h1, h2, part, a3, z3, asAgg]
/-- A test's box that a row doesn't lie in. -/
structure BoI (wo : Nat) (t : Tst) (v : Value) (wr : World) : Prop where
  at_ : C3 wr wo 0 t
  lt : wo < wr.heap.size
  ne : ∀ j, v.ownBlock = some j → j ≠ wo
theorem BoI.grow {wo : Nat} {t : Tst} {v : Value} {wr w' : World} (h : BoI wo t v wr) (g : Below wr.heap.size wr w') : BoI wo t v w' := ⟨h.at_.below h.lt g, Nat.lt_of_lt_of_le h.lt g.size, h.ne⟩
theorem BoI.app {wo : Nat} {t : Tst} {v v' : Value} {V w2 : World} (h : BoI wo t v V) (g : V.grownBy w2 v.ownBlock) (hat : v'.ownBlock = v.ownBlock ∨ v'.ownBlock = some V.heap.size) : BoI wo t v' w2 := by
  refine ⟨h.at_.block (g.block wo h.lt (fun e => h.ne wo e.symm rfl)), Nat.lt_of_lt_of_le h.lt g.size, fun j hj => ?_⟩
  rcases hat with e | e
  · exact h.ne j (e ▸ hj)
  · rw [e] at hj
    have := Option.some.inj hj
    have := h.lt
    omega
/-- The rest: a slice of its tests. -/
structure RtI (v8 : Value) (v : Value) (RK : K) (u : World) : Prop where
  ex : ∃ x : Hd, v8 = hdV x ∧ Kp v u x RK
set_option maxRecDepth 20000 in
set_option maxHeartbeats 4000000 in
theorem rcut_any (a : Option Addr) (l : List Tst) (cap : Nat) (b : Option Addr) (m : List Tst) (mc : Nat) (w : World) (hs : Ts w a l) (ht : Ts w b m) (hwl : wholeB l = true) (hwm : wholeB m = true) (hl : l.length ≤ 9223372036854775807) (hm : m.length ≤ 9223372036854775807) (hcap : l.length ≤ cap) :
    Calls Try.prog 33 #[.slice a l.length cap, .slice b m.length mc] w fun e w' => ∃ x d, e = .returned (.slice x (cutL (cubF l) (cubF m)).length d) ∧ CuS w' x (cutL (cubF l) (cubF m)) ∧ Below w.heap.size w w' := by
  have HMe : Hid (Calls Try.prog 29 #[.slice a l.length cap, .slice b m.length mc] w fun e w' => MtD w (cubF l) (cubF m) e w') := rmeet_any a l cap b m mc w hs ht hwl hwm hl hm
  have HAl : Hid (∀ u (f : Nat), Below w.heap.size w u → Calls Try.prog 48 #[.slice a l.length cap, .int .i64 (f : Int)] u fun e w' => e = .returned (.agg #[.int .i64 (f : Int), cv ((cubF l).v f), cv ((cubF l).m f)]) ∧ Below u.heap.size u w') := (show ∀ u f, _ from fun u f g => asks_any a l cap f u (hs.below g) hwl hl)
  have HAm : Hid (∀ u (f : Nat), Below w.heap.size w u → Calls Try.prog 48 #[.slice b m.length mc, .int .i64 (f : Int)] u fun e w' => e = .returned (.agg #[.int .i64 (f : Int), cv ((cubF m).v f), cv ((cubF m).m f)]) ∧ Below u.heap.size u w') := (show ∀ u f, _ from fun u f g => asks_any b m mc f u (ht.below g) hwm hm)
  have vc := cubF_vk hwl
  have vo := cubF_vk hwm
  have htc := toT_cubF hwl
  obtain ⟨c, hc⟩ : ∃ c, cubF l = c := ⟨_, rfl⟩
  obtain ⟨o, ho⟩ : ∃ o, cubF m = o := ⟨_, rfl⟩
  rw [hc] at HMe HAl vc htc ⊢
  rw [ho] at HMe HAm vo ⊢
  have HTl : Hid (Ts w a l ∧ toT c = l) := ⟨hs, htc⟩
  cases hme : meetB c o with
  | false =>
    have hcl : cutL c o = [c] := by unfold cutL; rw [hme]; rfl
    rw [hcl]
    have HMn : Hid (Calls Try.prog 29 #[.slice a l.length cap, .slice b m.length mc] w fun e w' => e = .returned (.tuple #[.slice none 0 0, .bool false]) ∧ Below w.heap.size w w') := (show Calls _ _ _ _ _ from HMe.out.mono fun e w' hq => by
      rcases hq with ⟨h1, _⟩ | ⟨_, h2, h3⟩
      · rw [hme] at h1; cases h1
      · exact ⟨h2, h3⟩)
    have HCn : Hid (∀ w1, Below w.heap.size w w1 → CuS (w1.alloc (.cells #[.slice a l.length cap] 43)) (some ⟨w1.heap.size, 0, none⟩) [c] ∧ Below w.heap.size w (w1.alloc (.cells #[.slice a l.length cap] 43))) := (show ∀ w1, _ from fun w1 g => ⟨.inr ⟨w1.heap.size, rfl, by simp, fun i hi => by
      obtain rfl : i = 0 := by simp at hi; omega
      refine ⟨a, cap, ?_, ?_⟩
      · show _ = some (Value.slice a (toT c).length cap)
        rw [HTl.out.2]
        simp
      · show Ts _ a (toT c)
        rw [HTl.out.2]
        exact (HTl.out.1.below g).below (by go_grown)⟩, btr g (by go_grown) (Nat.le_refl _)⟩)
    clear hcl hme HMe HAl HAm hs ht hwl hwm vc vo htc hc ho hl hm hcap
    go_enter Try.func33, Try.ntmps33
    go_wp2_with (go_at_call 29; refine HMn.out.mono ?_; rintro e w1 ⟨rfl, h1⟩; have HC1 := HCn.out w1 h1; have HC2 : Hid (CuS (w1.alloc (.cells #[.slice a l.length cap] 43)) (some ⟨w1.heap.size, 0, none⟩) [c] ∧ Below w.heap.size w (w1.alloc (.cells #[.slice a l.length cap] 43))) := HC1; clear h1 HC1)
    go_ret
    exact ⟨_, 1, rfl, HC2.out.1, HC2.out.2⟩
  | true =>
    have hcl : cutL c o = cutR o c (pos c o 10) := by unfold cutL; rw [hme]; rfl
    rw [hcl]
    have HMy : Hid (Calls Try.prog 29 #[.slice a l.length cap, .slice b m.length mc] w fun e w' => ∃ z f, e = .returned (.tuple #[.slice z (toT (bothK c o)).length f, .bool true]) ∧ Below w.heap.size w w') := (show Calls _ _ _ _ _ from HMe.out.mono fun e w' hq => by
      rcases hq with ⟨_, v, h2, h3⟩ | ⟨h1, _⟩
      · obtain ⟨z, f, hv⟩ := own_form h3.own
        subst hv
        exact ⟨z, f, h2, h3.bel⟩
      · rw [hme] at h1; cases h1)
    have HVo : Hid (Vk o) := vo
    have hst := Ct.start vc vo
    obtain ⟨FL, hFL⟩ : ∃ FL, cutR o c (pos c o 10) = FL := ⟨_, rfl⟩
    rw [hFL] at hst ⊢
    have HSt : Hid (Ct o FL [] c (posX c o 1)) := hst
    have hfl := cutL_len c o
    rw [hcl, hFL] at hfl
    have HFl : Hid (FL.length ≤ 640) := hfl
    have HR0 : Hid (∀ u, Below w.heap.size w u → RtI (.slice a l.length cap) (.slice none 0 0) c u ∧ TlI u (.slice none 0 0) [] u) := (show ∀ u, _ from fun u g => by
      refine ⟨⟨⟨a, l.length, cap⟩, rfl, ⟨by rw [HTl.out.2], hcap, ?_⟩, fun h0 p hp => ⟨?_, by simp [Value.ownBlock]⟩⟩, TlI.nil u⟩
      · rw [HTl.out.2]
        rcases HTl.out.1.below g with h | ⟨q, oo, e, hq, hcs⟩
        · exact .inl h
        · exact .inr ⟨q, oo, e, hq, Cs.of_ts hcs⟩
      · rw [HTl.out.2] at h0
        rcases HTl.out.1.below g with h | ⟨q, oo, e, hq, hcs⟩
        · exact absurd h h0
        · simp only at hp; rw [hp] at e; cases e; exact hq)
    clear hcl hme HMe hs ht hwl hwm vc vo htc hc ho hl hm hcap hst hFL hfl
    generalize (toT (bothK c o)).length = MN at *
    go_enter Try.func33, Try.ntmps33
    go_wp2_with (go_at_call 29; refine HMy.out.mono ?_; rintro e w1 ⟨z, zf, rfl, h1⟩; have HB1 : Hid (Below w.heap.size w w1) := h1; have HR1 : Hid (RtI (.slice a l.length cap) (.slice none 0 0) c w1 ∧ TlI w1 (.slice none 0 0) [] w1) := HR0.out w1 h1; clear h1)
    clear HR0 HMy
    go_loopw [7, 8, 9] (fun v7 v8 v9 wr => ∃ (f : Nat) (OL : List K) (RK : K), 1 ≤ f ∧ f ≤ 10 ∧ v9 = .int .i64 f ∧ Hid (Ct o FL OL RK (posX c o f)) ∧ Hid (TlI w1 v7 OL wr) ∧ Hid (RtI v8 v7 RK wr)) (fun _ _ v9 _ => 10 - (intOf v9).toNat)
    case atStart => exact ⟨1, [], c, by omega, by omega, rfl, HSt, HR1.out.2, HR1.out.1⟩
    case round =>
      obtain ⟨f, OL0, RK0, hf1, hf2, rfl, HCt, HTl2, HRt⟩ := hrel
      clear HSt HR1
      by_cases hlt : f < 10
      · have q0 : decide ((f : Int) ≤ 9) = true := by simp; omega
        have HC64 : Hid (Ct o FL OL0 RK0 (psT c o f 64)) := (show Ct _ _ _ _ _ by rw [← psT_all c o hlt]; exact HCt.out)
        have hbw : Below w.heap.size w wr := HB1.out.trans (HTl2.out.bel.mono HB1.out.size)
        have HAo := HAm.out wr f hbw
        have HAo2 : Hid (Calls Try.prog 48 #[.slice b m.length mc, .int .i64 (f : Int)] wr fun e w' => e = .returned (.agg #[.int .i64 (f : Int), cv (o.v f), cv (o.m f)]) ∧ Below wr.heap.size wr w') := HAo
        have HWx : Hid (∀ w2, Below wr.heap.size wr w2 → ∃ V1, w2.alloc (.cells #[.int .i64 (f : Int), cv (o.v f), cv (o.m f)] 32) = V1 ∧ C3 V1 w2.heap.size 0 ⟨(f : Int), o.v f, o.m f⟩ ∧ Below wr.heap.size wr V1 ∧ w2.heap.size < V1.heap.size) := (show ∀ w1, _ from fun w1 g => by
          obtain ⟨V, h1, h2, h3, h4⟩ := box3 w1 ⟨(f : Int), o.v f, o.m f⟩
          exact ⟨V, h1, h2, btr g h3 (Nat.le_refl _), by omega⟩)
        clear HAo HCt hbw
        go_wp2_with (go_at_call 48; refine HAo2.out.mono ?_; rintro e w2 ⟨rfl, h1⟩; (obtain ⟨V1, hV1, k1, k2, k3⟩ := HWx.out w2 h1); have HV1 : Hid (w2.alloc (.cells #[.int .i64 (f : Int), cv (o.v f), cv (o.m f)] 32) = V1 ∧ Below wr.heap.size wr V1 ∧ C3 V1 w2.heap.size 0 ⟨(f : Int), o.v f, o.m f⟩ ∧ w2.heap.size < V1.heap.size) := ⟨hV1, k2, k1, k3⟩; have HWz : Hid (wr.heap.size ≤ w2.heap.size) := h1.size; clear h1 hV1 k1 k2 k3)
        rw [HV1.out.1]
        obtain ⟨wo, hwo⟩ : ∃ y, w2.heap.size = y := ⟨_, rfl⟩
        have HWs : Hid (wr.heap.size ≤ wo) := (show _ ≤ _ by rw [← hwo]; exact HWz.out)
        have HBx : Hid (C3 V1 wo 0 ⟨(f : Int), o.v f, o.m f⟩ ∧ wo < V1.heap.size) := (show _ ∧ _ by rw [← hwo]; exact HV1.out.2.2)
        have HT0 : Hid (TlI w1 u7 OL0 V1 ∧ RtI u8 u7 RK0 V1) := ⟨HTl2.out.grow HV1.out.2.1, by
          obtain ⟨x, e, hk⟩ := HRt.out.ex
          exact ⟨x, e, hk.below HV1.out.2.1⟩⟩
        have HBo : Hid (BoI wo ⟨(f : Int), o.v f, o.m f⟩ u7 V1) := (show BoI _ _ _ _ from ⟨HBx.out.1, HBx.out.2, fun j hj => by
          obtain ⟨hs0, ow0, _⟩ := HTl2.out.ex
          have := (ow0.lt j hj).2
          have := HWs.out
          omega⟩)
        rw [hwo]
        clear hwo HWx HWs HBx HAo2 HV1 HTl2 HRt
        go_loopw [7, 8, 11] (fun v7 v8 v11 wr2 => ∃ (t : Nat) (OL : List K) (RK : K), t ≤ 64 ∧ v11 = cv (bitN t) ∧ Hid (Ct o FL OL RK (psT c o f t)) ∧ Hid (TlI w1 v7 OL wr2) ∧ Hid (RtI v8 v7 RK wr2) ∧ Hid (BoI wo ⟨(f : Int), o.v f, o.m f⟩ v7 wr2)) (fun _ _ v11 _ => (intOf v11).toNat)
        case atStart => exact ⟨64, OL0, RK0, Nat.le_refl _, (by show Value.int .u64 _ = Value.int .u64 (nb (bitN 64)); rw [nb63]), HC64, HT0.out.1, HT0.out.2, HBo⟩
        case round =>
          obtain ⟨t, OL, RK, ht, rfl, HC, HTl3, HRt3, HBv⟩ := hrel
          clear HC64 HT0
          cases t with
          | zero =>
            have HCn : Hid (Ct o FL OL RK (posX c o (f + 1))) := (show Ct _ _ _ _ _ from HC.out)
            have e0 : nb (bitN 0) = 0 := rfl
            clear HC
            go_wp2_with fail
            refine ⟨⟨f + 1, OL, RK, by omega, by omega, by go_num, HCn, HTl3, HRt3⟩, by simp [intOf]; omega⟩
          | succ t =>
            have hpos := nb_bit_pos (show t < 64 by omega)
            have hdec : decide (0 < nb (bit1 t)) = true := decide_eq_true hpos
            have hu : nb (bitN (t + 1)) = nb (bit1 t) := rfl
            obtain ⟨d0, d1, d2⟩ := HBv.out.at_
            have e1 := b_and (o.m f) (bit1 t)
            cases h1 : (o.m f).getLsbD t with
            | false =>
              have q1 : (nb (o.m f &&& bit1 t) != 0) = false := by rw [(and_bit (by omega)).2 h1]; rfl
              have HCn : Hid (Ct o FL OL RK (psT c o f t)) := (show Ct _ _ _ _ _ by rw [← psT_no (.inl h1)]; exact HC.out)
              clear HC h1 hpos
              go_wp2_with fail
              refine ⟨⟨t, OL, RK, by omega, ?_, HCn, HTl3, HRt3, HBv⟩, half_less (by omega)⟩
              show Value.int .u64 _ = Value.int .u64 _
              rw [half_bit (by omega)]
            | true =>
              have q1 : (nb (o.m f &&& bit1 t) != 0) = true := by
                have : ¬ nb (o.m f &&& bit1 t) = 0 := fun h => by rw [(and_bit (show t < 64 by omega)).1 ((nb_eq0 _).1 h)] at h1; cases h1
                simpa using this
              have HAc : Hid (Calls Try.prog 48 #[.slice a l.length cap, .int .i64 (f : Int)] wr fun e w' => e = .returned (.agg #[.int .i64 (f : Int), cv (c.v f), cv (c.m f)]) ∧ Below wr.heap.size wr w') := HAl.out wr f (HB1.out.trans (HTl3.out.bel.mono HB1.out.size))
              have e2 := b_and (c.m f) (bit1 t)
              have hfm := field_testm (f : Int) (c.v f) (c.m f)
              cases h2 : (c.m f).getLsbD t with
              | true =>
                have q2 : (nb (c.m f &&& bit1 t) == 0) = false := by
                  have : ¬ nb (c.m f &&& bit1 t) = 0 := fun h => by rw [(and_bit (show t < 64 by omega)).1 ((nb_eq0 _).1 h)] at h2; cases h2
                  simpa using this
                have HCn : Hid (Ct o FL OL RK (psT c o f t)) := (show Ct _ _ _ _ _ by rw [← psT_no (.inr h2)]; exact HC.out)
                clear HC h1 h2 hpos
                go_wp2_with (go_at_call 48; refine HAc.out.mono ?_; rintro e w3 ⟨rfl, h1⟩; have HB3 : Hid (Below wr.heap.size wr w3) := h1; clear h1)
                have HQ : Hid (TlI w1 u7 OL w3 ∧ RtI u8 u7 RK w3 ∧ BoI wo ⟨(f : Int), o.v f, o.m f⟩ u7 w3) := ⟨HTl3.out.grow HB3.out, by
                  obtain ⟨x, e, hk⟩ := HRt3.out.ex
                  exact ⟨x, e, hk.below HB3.out⟩, HBv.out.grow HB3.out⟩
                refine ⟨⟨t, OL, RK, by omega, ?_, HCn, HQ.out.1, HQ.out.2.1, HQ.out.2.2⟩, half_less (by omega)⟩
                show Value.int .u64 _ = Value.int .u64 _
                rw [half_bit (by omega)]
              | false =>
                have q2 : (nb (c.m f &&& bit1 t) == 0) = true := by rw [(and_bit (by omega)).2 h2]; rfl
                have HCy : Hid (Ct o FL OL RK ((f, t) :: psT c o f t)) := (show Ct _ _ _ _ _ by rw [← psT_yes (by omega) h1 h2]; exact HC.out)
                have HCn : Hid (Ct o FL (OL ++ [flipK o RK (f, t)]) (keepK o RK (f, t)) (psT c o f t)) := HCy.out.step HVo.out
                have e3 := b_and (o.v f) (bit1 t)
                have e4 := sub_bit (x := o.v f) (show t < 64 by omega)
                have hlen : OL.length ≤ 640 := by
                  have h3 := HFl.out
                  rw [HCy.out.eq, List.length_append] at h3
                  omega
                obtain ⟨x8, hx8, hk8⟩ := HRt3.out.ex
                obtain ⟨xa, xn, xc⟩ := x8
                have hxn : xn = (toT RK).length := hk8.1.1
                subst hxn
                subst hx8
                obtain ⟨a7, c7, hf7⟩ := HTl3.out.form
                subst hf7
                obtain ⟨hs7, ow7, hh7⟩ := HTl3.out.ex
                have h7l : hs7.length = OL.length := hh7.1
                have hnf : (RK.m f).getLsbD t = false := (HCy.out.ok (f, t) (List.mem_cons_self ..)).2.2.2
                have HT1 : Hid (∀ u v, Kp v u ⟨xa, (toT RK).length, xc⟩ RK → Calls Try.prog 54 #[.slice xa (toT RK).length xc, .int .i64 (f : Int), cv (bitN (t + 1)), cv (bit1 t &&& ~~~ o.v f)] u fun e w' => ∃ x d, e = .returned (.slice x (toT (flipK o RK (f, t))).length d) ∧ RwI 32 tstL 3 u (.slice x (toT (flipK o RK (f, t))).length d) (toT (flipK o RK (f, t))) w') := (show ∀ u v, _ from fun u v k => turned_any xa RK xc f t (bit1 t &&& ~~~ o.v f) u k.1.2.2.ts HCy.out.vk (by omega) ⟨hf1, by omega⟩ (by rw [BitVec.and_comm, ← BitVec.and_assoc, BitVec.and_self]) hnf)
                have HT2 : Hid (∀ u v, Kp v u ⟨xa, (toT RK).length, xc⟩ RK → Calls Try.prog 54 #[.slice xa (toT RK).length xc, .int .i64 (f : Int), cv (bitN (t + 1)), cv (o.v f &&& bit1 t)] u fun e w' => ∃ x d, e = .returned (.slice x (toT (keepK o RK (f, t))).length d) ∧ RwI 32 tstL 3 u (.slice x (toT (keepK o RK (f, t))).length d) (toT (keepK o RK (f, t))) w') := (show ∀ u v, _ from fun u v k => by
                  have h := turned_any xa RK xc f t (bit1 t &&& o.v f) u k.1.2.2.ts HCy.out.vk (by omega) ⟨hf1, by omega⟩ (by rw [BitVec.and_comm, ← BitVec.and_assoc, BitVec.and_self]) hnf
                  rw [← keep_add] at h
                  rw [BitVec.and_comm]
                  exact h)
                have hwr : IntKind.u64.wrap (nb (bit1 t &&& ~~~ o.v f)) = nb (bit1 t &&& ~~~ o.v f) := wrap_nat _
                generalize hFK : flipK o RK (f, t) = FK at *
                generalize hKK : keepK o RK (f, t) = KK at *
                generalize (toT RK).length = n0 at *
                obtain ⟨n1, hn1⟩ : ∃ n, (toT FK).length = n := ⟨_, rfl⟩
                obtain ⟨n2, hn2⟩ : ∃ n, (toT KK).length = n := ⟨_, rfl⟩
                have HX7 : Hid (∀ w4 x d, Below wr.heap.size wr w4 → Kp (.slice a7 OL.length c7) w4 ⟨x, n1, d⟩ FK → ∀ v' w5, Own 43 hdL 1 w1.heap.size w5 v' (hs7 ++ [⟨x, n1, d⟩]) → (w4.alloc (.cells #[.slice x n1 d] 43)).grownBy w5 (Value.slice a7 OL.length c7).ownBlock → (v'.ownBlock = (Value.slice a7 OL.length c7).ownBlock ∨ v'.ownBlock = some (w4.alloc (.cells #[.slice x n1 d] 43)).heap.size) →
                    TlI w1 v' (OL ++ [FK]) w5 ∧ Kp v' w5 ⟨xa, n0, xc⟩ RK ∧ BoI wo ⟨(f : Int), o.v f, o.m f⟩ v' w5) := (show ∀ w4 x d, _ from fun w4 x d g hx v' w5 ho2 hg2 hat => by
                  have gI : Below w4.heap.size w4 (w4.alloc (.cells #[.slice x n1 d] 43)) := by go_grown
                  exact ⟨(HTl3.out.grow g).app (own_below ow7 g) (hh7.mono fun i i1 i2 t => t.below g) hx gI ho2 hg2 hat, (hk8.below g).app gI hg2 hat, ((HBv.out.grow g).grow gI).app hg2 hat⟩)
                have HOw : Hid (Own 43 hdL 1 w1.heap.size wr (.slice a7 OL.length c7) hs7 ∧ hs7.length ≤ 640 ∧ w1.heap.size ≤ wr.heap.size ∧ (∀ j, (Value.slice a7 OL.length c7).ownBlock = some j → j < wr.heap.size) ∧ Kp (.slice a7 OL.length c7) wr ⟨xa, n0, xc⟩ RK) := ⟨ow7, by omega, HTl3.out.bel.size, fun j hj => (ow7.lt j hj).2, hk8⟩
                rw [hn1] at HT1
                rw [hn2] at HT2
                clear HC h1 h2 hpos HCy hFK hKK ow7 hh7 h7l hk8 HTl3 HRt3 hnf hlen
                go_wp2_with (first
                  | (go_at_call 48; refine HAc.out.mono ?_; rintro e w3 ⟨rfl, h1⟩; have HB3 : Hid (Below wr.heap.size wr w3) := h1; (obtain ⟨m0, m1, m2⟩ := (HBv.out.grow h1).at_); clear h1 d0 d1 d2)
                  | (have hq5 := HT2.out w5 v' HQ5.out.2.1; go_at_call 54; refine hq5.mono ?_; clear hq5; rintro e w6 ⟨y, d6, rfl, h1⟩; have HY6 : Hid (Below w5.heap.size w5 w6 ∧ Kp v' w6 ⟨y, n2, d6⟩ KK) := (show _ ∧ _ from ⟨h1.bel, by rw [← hn2] at h1 ⊢; exact Kp.new h1 (fun j hj => by obtain ⟨hs9, ow9, _⟩ := HQ5.out.1.ex; exact (ow9.lt j hj).2)⟩); clear h1)
                  | (go_at_call 54; (have hkp3 : Kp (.slice a7 OL.length c7) w3 ⟨xa, n0, xc⟩ RK := HOw.out.2.2.2.2.below HB3.out; have hq3 := HT1.out w3 (.slice a7 OL.length c7) hkp3; clear hkp3; show Calls _ _ #[.slice xa n0 xc, .int .i64 (f : Int), cv (bitN (t + 1)), cv (bit1 t &&& ~~~ o.v f)] _ _; refine hq3.mono ?_; clear hq3; rintro e w4 ⟨x, d, rfl, h1⟩; have HY4 : Hid (Below wr.heap.size wr w4 ∧ Kp (.slice a7 OL.length c7) w4 ⟨x, n1, d⟩ FK) := (show _ ∧ _ from ⟨btr HB3.out h1.bel (Nat.le_refl _), by rw [← hn1] at h1 ⊢; exact Kp.new h1 (fun j hj => Nat.lt_of_lt_of_le (HOw.out.2.2.2.1 j hj) HB3.out.size)⟩); clear h1))
                  | (at_builtin; have gI : Below w4.heap.size w4 (w4.alloc (.cells #[.slice x n1 d] 43)) := (by go_grown); have hcs : Cs hdL 1 (w4.alloc (.cells #[.slice x n1 d] 43)) w4.heap.size 0 [⟨x, n1, d⟩] := cs_new (k := hdL) (s := 1) w4 ⟨x, n1, d⟩ 43; refine wpList_appK kdH ktH rfl (.tmp 48) (.tmp 59) rfl w1.heap.size (.slice a7 OL.length c7) hs7 rfl (own_below HOw.out.1 (HY4.out.1.trans (gI.mono HY4.out.1.size))) w4.heap.size 0 1 1 [⟨x, n1, d⟩] rfl rfl hcs (by have := HOw.out.2.1; simp; omega) (Nat.le_trans HOw.out.2.2.1 (Nat.le_trans HY4.out.1.size gI.size)) ?_; intro v' w5 ho2 hg2 hat; have HQ := HX7.out w4 x d HY4.out.1 HY4.out.2 v' w5 ho2 hg2 hat; have HQ5 : Hid _ := HQ; (obtain ⟨m0, m1, m2⟩ := HQ.2.2.at_); clear ho2 hg2 hcs gI HQ hat))
                have HR6 : Hid (TlI w1 v' (OL ++ [FK]) w6 ∧ RtI (.slice y n2 d6) v' KK w6 ∧ BoI wo ⟨(f : Int), o.v f, o.m f⟩ v' w6) := (show _ ∧ _ from ⟨HQ5.out.1.grow HY6.out.1, ⟨⟨y, n2, d6⟩, rfl, HY6.out.2⟩, HQ5.out.2.2.grow HY6.out.1⟩)
                refine ⟨⟨t, OL ++ [FK], KK, by omega, ?_, HCn, HR6.out.1, HR6.out.2.1, HR6.out.2.2⟩, half_less (by omega)⟩
                show Value.int .u64 _ = Value.int .u64 _
                rw [half_bit (by omega)]
      · have e : f = 10 := by omega
        subst e
        have q0 : decide (((10 : Nat) : Int) ≤ 9) = false := rfl
        have hfl : FL = OL0 := by
          have h := HCt.out.eq
          rw [posX_end] at h
          rw [h]
          exact List.append_nil _
        obtain ⟨a7, c7, hv, hcu⟩ := HTl2.out.cus
        have HZ : Hid (CuS wr a7 OL0 ∧ Below w.heap.size w wr) := ⟨hcu, HB1.out.trans (HTl2.out.bel.mono HB1.out.size)⟩
        subst hv
        clear hcu HTl2
        go_wp2_with fail
        go_ret
        rw [hfl]
        exact ⟨a7, c7, rfl, HZ.out.1, HZ.out.2⟩
end Go.Proofs.Ytmobmpghpdaddaa

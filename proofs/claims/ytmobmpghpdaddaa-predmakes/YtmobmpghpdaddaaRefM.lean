/-
  The document's Meet and Pick; the statement's nums.
-/
import Derived.Test.YtmobmpghpdaddaaRefA
namespace Go.Proofs.Ytmobmpghpdaddaa
open Go.ChangeShapes Go.WideShapes Go.ChangeAt Go.RowKit
set_option linter.unusedVariables false
set_option linter.unusedSimpArgs false

/-- Both ask the same of a field, in the document's words. -/
def condF (a b : K) (f : Nat) : Prop := a.v f &&& b.m f = b.v f &&& a.m f
theorem cond_iff {a b : K} (ha : Vk a) (hb : Vk b) (f : Nat) : a.v f &&& (a.m f &&& b.m f) = b.v f &&& (a.m f &&& b.m f) ↔ condF a b f := by
  unfold condF
  have e1 : a.v f &&& (a.m f &&& b.m f) = a.v f &&& b.m f := by rw [← BitVec.and_assoc, ha.sub f]
  have e2 : b.v f &&& (a.m f &&& b.m f) = b.v f &&& a.m f := by rw [BitVec.and_comm (a.m f), ← BitVec.and_assoc, hb.sub f]
  rw [e1, e2]
theorem meet_cond {a b : K} (ha : Vk a) (hb : Vk b) : meetB a b = true ↔ ∀ f, f < 10 → condF a b f := by
  rw [meetB_iff]
  exact ⟨fun h f hf => (cond_iff ha hb f).1 (h f hf), fun h f hf => (cond_iff ha hb f).2 (h f hf)⟩
theorem toTn_one {k : K} (h : Vk k) : toTn k 1 = [] := by
  rw [toTn_no k 0 (h.v0 (f := 0) (by omega)).1]
  rfl
/-- What the document's Meet answers of whole cubes. -/
def MtD (w : World) (a b : K) (e : Ending) (w' : World) : Prop :=
  (meetB a b = true ∧ ∃ v, e = .returned (.tuple #[v, .bool true]) ∧ RwI 32 tstL 3 w v (toT (bothK a b)) w') ∨ (meetB a b = false ∧ e = .returned (.tuple #[.slice none 0 0, .bool false]) ∧ Below w.heap.size w w')
set_option maxRecDepth 20000 in
set_option maxHeartbeats 8000000 in
theorem rmeet_any (a : Option Addr) (l : List Tst) (cap : Nat) (b : Option Addr) (m : List Tst) (mc : Nat) (w : World) (hs : Ts w a l) (ht : Ts w b m) (hwl : wholeB l = true) (hwm : wholeB m = true) (hl : l.length ≤ 9223372036854775807) (hm : m.length ≤ 9223372036854775807) :
    Calls Try.prog 29 #[.slice a l.length cap, .slice b m.length mc] w fun e w' => MtD w (cubF l) (cubF m) e w' := by
  have HA : Hid (∀ u (f : Nat), Below w.heap.size w u → Calls Try.prog 48 #[.slice a l.length cap, .int .i64 (f : Int)] u fun e w' => e = .returned (tV (tstF (cubF l) f)) ∧ Below u.heap.size u w') := (show ∀ u f, _ from fun u f g => asks_any a l cap f u (hs.below g) hwl hl)
  have HB : Hid (∀ u (f : Nat), Below w.heap.size w u → Calls Try.prog 48 #[.slice b m.length mc, .int .i64 (f : Int)] u fun e w' => e = .returned (tV (tstF (cubF m) f)) ∧ Below u.heap.size u w') := (show ∀ u f, _ from fun u f g => asks_any b m mc f u (ht.below g) hwm hm)
  have va := cubF_vk hwl
  have vb := cubF_vk hwm
  obtain ⟨A, hA⟩ : ∃ A, cubF l = A := ⟨_, rfl⟩
  obtain ⟨B, hB⟩ : ∃ B, cubF m = B := ⟨_, rfl⟩
  rw [hA] at HA va ⊢
  rw [hB] at HB vb ⊢
  clear hs ht hwl hwm hA hB
  have HVk : Hid (Vk A ∧ Vk B) := ⟨va, vb⟩
  have H0 : Hid (RwI 32 tstL 3 w (.slice none 0 0) (toTn (bothK A B) 1) w ∧ ∀ g, g < 1 → condF A B g) := (show _ ∧ _ by
    refine ⟨by rw [toTn_one (va.both vb)]; exact RwI.nil w, fun g hg => ?_⟩
    obtain rfl : g = 0 := by omega
    unfold condF
    rw [(va.v0 (f := 0) (by omega)).2, (vb.v0 (f := 0) (by omega)).2]
    simp)
  have HYes : Hid ((∀ f, f < 10 → condF A B f) → ∀ v w', RwI 32 tstL 3 w v (toT (bothK A B)) w' → MtD w A B (.returned (.tuple #[v, .bool true])) w') := (show _ → _ from fun h v w' g => .inl ⟨(meet_cond va vb).2 h, v, rfl, g⟩)
  have HNo : Hid (∀ f, f < 10 → ¬ condF A B f → ∀ w', Below w.heap.size w w' → MtD w A B (.returned (.tuple #[.slice none 0 0, .bool false])) w') := (show ∀ f, _ from fun f hf h w' g => .inr ⟨by
    cases hme : meetB A B with
    | false => rfl
    | true => exact absurd ((meet_cond va vb).1 hme f hf) h, rfl, g⟩)
  clear va vb
  go_enter Try.func29, Try.ntmps29
  go_wp2_with fail
  go_loopw [6, 7] (fun v6 v7 wr => ∃ f : Nat, 1 ≤ f ∧ f ≤ 10 ∧ v7 = .int .i64 f ∧ Hid (RwI 32 tstL 3 w v6 (toTn (bothK A B) f) wr ∧ ∀ g, g < f → condF A B g)) (fun _ v7 _ => 10 - (intOf v7).toNat)
  case atStart => exact ⟨1, by omega, by omega, rfl, H0⟩
  case round =>
    obtain ⟨f, hf1, hf2, rfl, HI⟩ := hrel
    clear H0
    by_cases hlt : f < 10
    · have q0 : decide ((f : Int) ≤ 9) = true := by simp; omega
      have HAf := HA.out wr f HI.out.1.bel
      have HAf2 : Hid (Calls Try.prog 48 #[.slice a l.length cap, .int .i64 (f : Int)] wr fun e w' => e = .returned (.agg #[.int .i64 (f : Int), cv (A.v f), cv (A.m f)]) ∧ Below wr.heap.size wr w') := HAf
      have HBf2 : Hid (∀ u, Below w.heap.size w u → Calls Try.prog 48 #[.slice b m.length mc, .int .i64 (f : Int)] u fun e w' => e = .returned (.agg #[.int .i64 (f : Int), cv (B.v f), cv (B.m f)]) ∧ Below u.heap.size u w') := (show ∀ u, _ from fun u g => HB.out u f g)
      have e1 := b_and (A.v f) (B.m f)
      have e2 := b_and (B.v f) (A.m f)
      have e3 := b_or (A.m f) (B.m f)
      have e4 := b_or (A.v f) (B.v f)
      have HTn : Hid (¬ (A.m f ||| B.m f = 0#64) → toTn (bothK A B) (f + 1) = toTn (bothK A B) f ++ [⟨(f : Int), A.v f ||| B.v f, A.m f ||| B.m f⟩]) := (show _ → _ from fun h => toTn_yes (bothK A B) f h)
      have HTz : Hid (A.m f ||| B.m f = 0#64 → toTn (bothK A B) (f + 1) = toTn (bothK A B) f) := (show _ → _ from fun h => toTn_no (bothK A B) f h)
      have HLe : Hid ((toTn (bothK A B) f).length ≤ 10) := (show _ ≤ _ from Nat.le_trans (toTn_len _ f) (by omega))
      have HCo : Hid (condF A B f ↔ A.v f &&& B.m f = B.v f &&& A.m f) := (show _ ↔ _ from Iff.rfl)
      have HNf : Hid (¬ condF A B f → ∀ w', Below w.heap.size w w' → MtD w A B (.returned (.tuple #[.slice none 0 0, .bool false])) w') := (show _ → _ from fun h => HNo.out f hlt h)
      clear HAf HA HB HNo
      have HWx : Hid (∀ w1, Below wr.heap.size wr w1 → ∃ V1, w1.alloc (.cells #[.int .i64 (f : Int), cv (A.v f), cv (A.m f)] 32) = V1 ∧ C3 V1 w1.heap.size 0 ⟨(f : Int), A.v f, A.m f⟩ ∧ Below wr.heap.size wr V1 ∧ w1.heap.size < V1.heap.size) := (show ∀ w1, _ from fun w1 g => by
        obtain ⟨V, h1, h2, h3, h4⟩ := box3 w1 ⟨(f : Int), A.v f, A.m f⟩
        exact ⟨V, h1, h2, btr g h3 (Nat.le_refl _), by omega⟩)
      have HWy : Hid (∀ w2, ∃ V2, w2.alloc (.cells #[.int .i64 (f : Int), cv (B.v f), cv (B.m f)] 32) = V2 ∧ C3 V2 w2.heap.size 0 ⟨(f : Int), B.v f, B.m f⟩ ∧ Below w2.heap.size w2 V2) := (show ∀ w2, _ from fun w2 => by
        obtain ⟨V, h1, h2, h3, h4⟩ := box3 w2 ⟨(f : Int), B.v f, B.m f⟩
        exact ⟨V, h1, h2, h3⟩)
      generalize A.v f = av at *
      generalize A.m f = am at *
      generalize B.v f = bv at *
      generalize B.m f = bm at *
      obtain ⟨a6, c6, hf6⟩ := own_form HI.out.1.own
      subst hf6
      by_cases hc : av &&& bm = bv &&& am
      · have q1 : (nb (av &&& bm) != nb (bv &&& am)) = false := by rw [hc]; simp
        have hcf : condF A B f := HCo.out.2 hc
        have HCn : Hid (∀ g, g < f + 1 → condF A B g) := (show ∀ g, _ from fun g hg => by
          by_cases e : g = f
          · subst e; exact hcf
          · exact HI.out.2 g (by omega))
        clear hc hcf HCo HNf
        by_cases hz : am ||| bm = 0#64
        · have q2 : (nb (am ||| bm) != 0) = false := by rw [hz]; rfl
          have HTe := HTz.out hz
          have HTe2 : Hid (toTn (bothK A B) (f + 1) = toTn (bothK A B) f) := HTe
          clear hz HTe HTz HTn
          go_wp2_with (first
            | (go_at_call_of 48 (Value.slice a l.length cap); refine HAf2.out.mono ?_; rintro e w1 ⟨rfl, h1⟩; (obtain ⟨V1, hV1, k1, k2, k3⟩ := HWx.out w1 h1); have HV1 : Hid (w1.alloc (.cells #[.int .i64 (f : Int), cv av, cv am] 32) = V1 ∧ Below wr.heap.size wr V1 ∧ C3 V1 w1.heap.size 0 ⟨(f : Int), av, am⟩ ∧ w1.heap.size < V1.heap.size) := ⟨hV1, k2, k1, k3⟩; clear h1 hV1 k1 k2 k3 HAf2)
            | (rw [HV1.out.1]; go_at_call 48; refine (HBf2.out _ (btr HI.out.1.bel HV1.out.2.1 (Nat.le_refl _))).mono ?_; rintro e w2 ⟨rfl, h1⟩; (obtain ⟨V2, hV2, ⟨k0, k1, k2⟩, k3⟩ := HWy.out w2); (obtain ⟨m0, m1, m2⟩ := (HV1.out.2.2.1.below HV1.out.2.2.2 h1).below (Nat.lt_of_lt_of_le HV1.out.2.2.2 h1.size) k3); have HV2 : Hid (Below wr.heap.size wr V2) := (show Below _ _ _ from btr (btr HV1.out.2.1 h1 (Nat.le_refl _)) k3 (Nat.le_refl _)); clear h1 k3 HBf2))
          have HQ : Hid (RwI 32 tstL 3 w (.slice a6 (toTn (bothK A B) f).length c6) (toTn (bothK A B) (f + 1)) V2 ∧ ∀ g, g < f + 1 → condF A B g) := ⟨by rw [HTe2.out]; exact HI.out.1.grow HV2.out, HCn.out⟩
          refine ⟨⟨f + 1, by omega, by omega, by go_num, HQ⟩, by simp [intOf]; omega⟩
        · have q2 : (nb (am ||| bm) != 0) = true := by
            have : ¬ nb (am ||| bm) = 0 := fun h => hz ((nb_eq0 _).1 h)
            simpa using this
          have HTe2 : Hid (toTn (bothK A B) (f + 1) = toTn (bothK A B) f ++ [⟨(f : Int), av ||| bv, am ||| bm⟩]) := HTn.out hz
          clear hz HTz HTn
          go_wp2_with (first
            | (go_at_call_of 48 (Value.slice a l.length cap); refine HAf2.out.mono ?_; rintro e w1 ⟨rfl, h1⟩; (obtain ⟨V1, hV1, k1, k2, k3⟩ := HWx.out w1 h1); have HV1 : Hid (w1.alloc (.cells #[.int .i64 (f : Int), cv av, cv am] 32) = V1 ∧ Below wr.heap.size wr V1 ∧ C3 V1 w1.heap.size 0 ⟨(f : Int), av, am⟩ ∧ w1.heap.size < V1.heap.size) := ⟨hV1, k2, k1, k3⟩; clear h1 hV1 k1 k2 k3 HAf2)
            | (rw [HV1.out.1]; go_at_call 48; refine (HBf2.out _ (btr HI.out.1.bel HV1.out.2.1 (Nat.le_refl _))).mono ?_; rintro e w2 ⟨rfl, h1⟩; (obtain ⟨V2, hV2, ⟨k0, k1, k2⟩, k3⟩ := HWy.out w2); (obtain ⟨m0, m1, m2⟩ := (HV1.out.2.2.1.below HV1.out.2.2.2 h1).below (Nat.lt_of_lt_of_le HV1.out.2.2.2 h1.size) k3); have HV2 : Hid (Below wr.heap.size wr V2) := (show Below _ _ _ from btr (btr HV1.out.2.1 h1 (Nat.le_refl _)) k3 (Nat.le_refl _)); clear h1 k3 HBf2)
            | (at_builtin; have gI : Below V2.heap.size V2 (V2.alloc (.cells #[.int .i64 (f : Int), cv (av ||| bv), cv (am ||| bm)] 32)) := (by go_grown); have hcs : Cs tstL 3 (V2.alloc (.cells #[.int .i64 (f : Int), cv (av ||| bv), cv (am ||| bm)] 32)) V2.heap.size 0 [⟨(f : Int), av ||| bv, am ||| bm⟩] := cs_new (k := tstL) (s := 3) V2 ⟨(f : Int), av ||| bv, am ||| bm⟩ 32; refine wpList_appK kdT ktT rfl (.tmp 37) (.tmp 50) rfl w.heap.size (.slice a6 (toTn (bothK A B) f).length c6) (toTn (bothK A B) f) rfl (own_below HI.out.1.own (HV2.out.trans (gI.mono HV2.out.size))) V2.heap.size 0 1 1 [⟨(f : Int), av ||| bv, am ||| bm⟩] rfl rfl hcs (by have := HLe.out; simp; omega) (Nat.le_trans HI.out.1.bel.size (Nat.le_trans HV2.out.size gI.size)) ?_; intro v' w4 ho2 hg2 _; have HN1 : Hid (RwI 32 tstL 3 w v' (toTn (bothK A B) (f + 1)) w4) := (show RwI _ _ _ _ _ _ _ by (rw [HTe2.out]; exact HI.out.1.app (HV2.out.trans (gI.mono HV2.out.size)) ho2 hg2)); clear ho2 hg2 hcs gI))
          refine ⟨⟨f + 1, by omega, by omega, by go_num, ⟨HN1.out, HCn.out⟩⟩, by simp [intOf]; omega⟩
      · have q1 : (nb (av &&& bm) != nb (bv &&& am)) = true := by simpa [nb_inj] using hc
        have HN := HNf.out (fun h => hc (HCo.out.1 h))
        have HNx : Hid (∀ w', Below w.heap.size w w' → MtD w A B (.returned (.tuple #[.slice none 0 0, .bool false])) w') := HN
        clear hc HCo HNf HN HTz HTn
        go_wp2_with (first
          | (go_at_call_of 48 (Value.slice a l.length cap); refine HAf2.out.mono ?_; rintro e w1 ⟨rfl, h1⟩; (obtain ⟨V1, hV1, k1, k2, k3⟩ := HWx.out w1 h1); have HV1 : Hid (w1.alloc (.cells #[.int .i64 (f : Int), cv av, cv am] 32) = V1 ∧ Below wr.heap.size wr V1 ∧ C3 V1 w1.heap.size 0 ⟨(f : Int), av, am⟩ ∧ w1.heap.size < V1.heap.size) := ⟨hV1, k2, k1, k3⟩; clear h1 hV1 k1 k2 k3 HAf2)
          | (rw [HV1.out.1]; go_at_call 48; refine (HBf2.out _ (btr HI.out.1.bel HV1.out.2.1 (Nat.le_refl _))).mono ?_; rintro e w2 ⟨rfl, h1⟩; (obtain ⟨V2, hV2, ⟨k0, k1, k2⟩, k3⟩ := HWy.out w2); (obtain ⟨m0, m1, m2⟩ := (HV1.out.2.2.1.below HV1.out.2.2.2 h1).below (Nat.lt_of_lt_of_le HV1.out.2.2.2 h1.size) k3); have HV2 : Hid (Below wr.heap.size wr V2) := (show Below _ _ _ from btr (btr HV1.out.2.1 h1 (Nat.le_refl _)) k3 (Nat.le_refl _)); clear h1 k3 HBf2))
        (try rw [Exit.noGoto_ret])
        go_ret2
        exact HNx.out _ (btr HI.out.1.bel HV2.out (Nat.le_refl _))
    · have q0 : decide ((f : Int) ≤ 9) = false := by simp; omega
      have h10 : f = 10 := by omega
      have HQ : Hid (RwI 32 tstL 3 w u6 (toT (bothK A B)) wr ∧ ∀ g, g < 10 → condF A B g) := (show _ ∧ _ by subst h10; exact HI.out)
      obtain ⟨a6, c6, hf6⟩ := own_form HI.out.1.own
      subst hf6
      clear h10 HI
      go_wp2_with fail
      go_ret2
      exact HYes.out HQ.out.2 _ _ HQ.out.1
/-- Numbers of 64 bits, as a row. -/
def b64L (x : B64) : List Value := [cv x]
theorem kdU : Kd b64L 1 := ⟨fun _ => rfl, fun t u hu => by simp [b64L] at hu; subst hu; rfl, by decide⟩
theorem ktU : Kt 25 30 1 := ⟨Try.underlying25, .int .u64 0, 8, by kernel_rfl, rfl, by decide⟩
theorem Sk.vs {w : World} {a : Option Addr} {l : List B64} (h : Sk b64L 1 w a l) : Vs w a l := by
  rcases h with h | ⟨g, o, ha, hb, hc⟩
  · exact .inl h
  · refine .inr ⟨g, o, ha, hb, fun i hi => ?_⟩
    have := hc i hi 0 (by decide)
    rw [Nat.mul_one, Nat.add_zero] at this
    exact this
theorem field_test (f : Int) (v m : B64) (w : World) : (Instr.field 32 (.agg #[.int .i64 f, cv v, cv m]) 1).run Try.prog w = .ok (cv v) w := by
  have u := under_test
  have a3 := Try.isAgg30
  have z3 := Try.sizeOf30
  have hf : (Try.prog.fieldsOf 32)[1]?.map (fun f => (f.type, f.offset)) = some (30, 1) := by kernel_rfl
  cases hq : (Try.prog.fieldsOf 32)[1]? with
  | none => rw [hq] at hf; cases hf
  | some g =>
    rw [hq] at hf
    have h1 : g.type = 30 := (Prod.mk.inj (Option.some.inj hf)).1
    have h2 : g.offset = 1 := (Prod.mk.inj (Option.some.inj hf)).2
    simp [Instr.field, run_underlying u, hq, h1, h2, part, a3, z3, asAgg]
theorem pk_take (k : K) (f : Nat) : (List.range (f + 1)).map k.v = (List.range f).map k.v ++ [k.v f] := by rw [List.range_succ, List.map_append]; rfl
set_option maxRecDepth 20000 in
set_option maxHeartbeats 8000000 in
theorem rpick_any (a : Option Addr) (l : List Tst) (cap : Nat) (w : World) (hs : Ts w a l) (hl : l.length ≤ 9223372036854775807) :
    Calls Try.prog 27 #[.slice a l.length cap] w fun e w' => ∃ x c, e = .returned (.slice x (if wholeB l then pkL (cubF l) else []).length c) ∧ Vs w' x (if wholeB l then pkL (cubF l) else []) ∧ Below w.heap.size w w' := by
  have HW : Hid (Calls Try.prog 21 #[.slice a l.length cap] w fun e w' => e = .returned (.bool (wholeB l)) ∧ Below w.heap.size w w') := rwhole_any a l cap w hs hl
  cases hw : wholeB l with
  | false =>
    rw [hw] at HW
    rw [if_neg (by simp)]
    clear hw hs
    go_enter Try.func27, Try.ntmps27
    go_wp2_with (go_at_call 21; refine HW.out.mono ?_; rintro e w1 ⟨rfl, h1⟩; have HB1 : Hid (Below w.heap.size w w1) := h1; clear h1)
    go_ret
    exact ⟨none, 0, rfl, .inl rfl, HB1.out⟩
  | true =>
    have HA : Hid (∀ u (f : Nat), Below w.heap.size w u → Calls Try.prog 48 #[.slice a l.length cap, .int .i64 (f : Int)] u fun e w' => e = .returned (tV (tstF (cubF l) f)) ∧ Below u.heap.size u w') := (show ∀ u f, _ from fun u f g => asks_any a l cap f u (hs.below g) hw hl)
    have vk := cubF_vk hw
    rw [hw] at HW
    rw [if_pos rfl]
    obtain ⟨k, hk⟩ : ∃ k, cubF l = k := ⟨_, rfl⟩
    rw [hk] at HA vk ⊢
    have hp : ∃ P, pkL k = P := ⟨_, rfl⟩
    have H1 : Hid (∀ w1, Below w.heap.size w w1 → RwI 30 b64L 1 w (.slice (some ⟨w1.heap.size, 0, none⟩) 1 1) ((List.range 1).map k.v) (w1.alloc (.cells #[.int .u64 0] 30))) := (show ∀ w1, _ from fun w1 g => by
      have e : (List.range 1).map k.v = [0#64] := by
        show [k.v 0] = _
        rw [(vk.v0 (f := 0) (by omega)).2]
      rw [e]
      exact ⟨own_base (own_one kdU 30 w1 0#64) g.size, btr g (by go_grown) (Nat.le_refl _)⟩)
    have HPk : Hid (pkL k = (List.range 10).map k.v) := (show _ = _ from rfl)
    clear hw hs vk hk hp
    go_enter Try.func27, Try.ntmps27
    go_wp2_with (go_at_call 21; refine HW.out.mono ?_; rintro e w1 ⟨rfl, h1⟩; have HB1 : Hid (RwI 30 b64L 1 w (.slice (some ⟨w1.heap.size, 0, none⟩) 1 1) ((List.range 1).map k.v) (w1.alloc (.cells #[.int .u64 0] 30))) := H1.out w1 h1; clear h1)
    clear H1 HW
    go_loopw [3, 4] (fun v3 v4 wr => ∃ f : Nat, 1 ≤ f ∧ f ≤ 10 ∧ v4 = .int .i64 f ∧ Hid (RwI 30 b64L 1 w v3 ((List.range f).map k.v) wr)) (fun _ v4 _ => 10 - (intOf v4).toNat)
    case atStart => exact ⟨1, by omega, by omega, rfl, HB1⟩
    case round =>
      obtain ⟨f, hf1, hf2, rfl, HI⟩ := hrel
      clear HB1
      by_cases hlt : f < 10
      · have q0 : decide ((f : Int) ≤ 9) = true := by simp; omega
        have HAf2 : Hid (Calls Try.prog 48 #[.slice a l.length cap, .int .i64 (f : Int)] wr fun e w' => e = .returned (.agg #[.int .i64 (f : Int), cv (k.v f), cv (k.m f)]) ∧ Below wr.heap.size wr w') := HA.out wr f HI.out.bel
        have HT : Hid ((List.range (f + 1)).map k.v = (List.range f).map k.v ++ [k.v f]) := pk_take k f
        have HLe : Hid (((List.range f).map k.v).length ≤ 10) := (show _ ≤ _ by simp; omega)
        have hft := field_test (f : Int) (k.v f) (k.m f)
        obtain ⟨x, hx⟩ : ∃ x, k.v f = x := ⟨_, rfl⟩
        rw [hx] at HAf2 HT hft
        obtain ⟨y, hy⟩ : ∃ y, k.m f = y := ⟨_, rfl⟩
        rw [hy] at HAf2 hft
        clear hx hy
        generalize (List.range f).map k.v = L0 at *
        obtain ⟨L1, hL1⟩ : ∃ L1, (List.range (f + 1)).map k.v = L1 := ⟨_, rfl⟩
        have HL1 : Hid ((List.range (f + 1)).map k.v = L1) := hL1
        rw [hL1] at HT
        clear hL1
        obtain ⟨a6, c6, hf6⟩ := own_form HI.out.own
        subst hf6
        go_wp2_with (first
          | (go_at_call 48; refine HAf2.out.mono ?_; rintro e w2 ⟨rfl, h1⟩; have HB2 : Hid (Below wr.heap.size wr w2) := h1; clear h1)
          | (at_builtin; have gI : Below w2.heap.size w2 (w2.alloc (.cells #[cv x] 30)) := (by go_grown); have hcs : Cs b64L 1 (w2.alloc (.cells #[cv x] 30)) w2.heap.size 0 [x] := cs_new (k := b64L) (s := 1) w2 x 30; refine wpList_appK kdU ktU rfl (.tmp 13) (.tmp 18) rfl w.heap.size (.slice a6 L0.length c6) L0 rfl (own_below HI.out.own (HB2.out.trans (gI.mono HB2.out.size))) w2.heap.size 0 1 1 [x] rfl rfl hcs (by have := HLe.out; simp; omega) (Nat.le_trans HI.out.bel.size (Nat.le_trans HB2.out.size gI.size)) ?_; intro v' w4 ho2 hg2 _; have HN1 : Hid (RwI 30 b64L 1 w v' L1 w4) := (show RwI _ _ _ _ _ _ _ by (rw [HT.out]; exact HI.out.app (HB2.out.trans (gI.mono HB2.out.size)) ho2 hg2)); clear ho2 hg2 hcs gI))
        have HN2 : Hid (RwI 30 b64L 1 w v' ((List.range (f + 1)).map k.v) w4) := (show RwI _ _ _ _ _ _ _ by rw [HL1.out]; exact HN1.out)
        refine ⟨⟨f + 1, by omega, by omega, by go_num, HN2⟩, by simp [intOf]; omega⟩
      · have q0 : decide ((f : Int) ≤ 9) = false := by simp; omega
        have HQ : Hid (RwI 30 b64L 1 w u3 (pkL k) wr) := (show RwI _ _ _ _ _ _ _ by
          have h10 : f = 10 := by omega
          rw [HPk.out]
          subst h10
          exact HI.out)
        obtain ⟨a6, c6, hf6, hc6, hsk⟩ := own_sk kdU HQ.out.own
        subst hf6
        clear HI
        go_wp2_with fail
        go_ret
        exact ⟨a6, c6, rfl, hsk.vs, HQ.out.bel⟩
def numsB (l m : List B64) : Bool := l == m
theorem nums_len {l m : List B64} (h : ¬ l.length = m.length) : numsB l m = false := by
  unfold numsB
  rw [beq_eq_false_iff_ne]
  intro e
  rw [e] at h
  exact h rfl
theorem nums_drop {l m : List B64} {k : Nat} (h1 : k < l.length) (h2 : k < m.length) : numsB (l.drop k) (m.drop k) = ((l[k] == m[k]) && numsB (l.drop (k + 1)) (m.drop (k + 1))) := by
  unfold numsB
  rw [List.drop_eq_getElem_cons h1, List.drop_eq_getElem_cons h2]
  rfl
set_option maxRecDepth 20000 in
set_option maxHeartbeats 4000000 in
theorem nums_any (a : Option Addr) (l : List B64) (cap : Nat) (b : Option Addr) (m : List B64) (mc : Nat) (w : World) (hs : Vs w a l) (ht : Vs w b m) (hl : l.length ≤ 1000) (hm : m.length ≤ 1000) :
    Calls Try.prog 25 #[.slice a l.length cap, .slice b m.length mc] w fun e w' => e = .returned (.bool (numsB l m)) ∧ Below w.heap.size w w' := by
  by_cases hlen : l.length = m.length
  · have HS : Hid (Vs w a l ∧ Vs w b m ∧ l.length = m.length) := ⟨hs, ht, hlen⟩
    have H0 : Hid (numsB l m = numsB (l.drop 0) (m.drop 0)) := (show _ = _ from rfl)
    obtain ⟨R, hR⟩ : ∃ R, numsB l m = R := ⟨_, rfl⟩
    rw [hR] at H0 ⊢
    obtain ⟨n, hn⟩ : ∃ n, l.length = n := ⟨_, rfl⟩
    have HN : Hid (l.length = n) := hn
    rw [← hlen, hn]
    rw [hn] at hl
    clear hs ht hlen hR hn hm
    go_enter Try.func25, Try.ntmps25
    go_wp2_with fail
    go_loopw [5] (fun v5 wr => ∃ k : Nat, k ≤ n ∧ v5 = .int .i64 k ∧ Hid (R = numsB (l.drop k) (m.drop k)) ∧ Hid (Below w.heap.size w wr)) (fun v5 _ => n - (intOf v5).toNat)
    case atStart => exact ⟨0, Nat.zero_le _, rfl, H0, Below.refl _ _⟩
    case round =>
      obtain ⟨k, hk, rfl, HK, HB⟩ := hrel
      clear H0
      by_cases hlt : k < n
      · have hkl : k < l.length := by have := HN.out; omega
        have hkm : k < m.length := by have := HN.out; have := HS.out.2.2; omega
        obtain ⟨g, o, rfl, hg, hc⟩ := (HS.out.1.below HB.out).at hkl
        obtain ⟨g2, o2, rfl, hg2, hc2⟩ := (HS.out.2.1.below HB.out).at hkm
        have c0 := hc k hkl
        have d0 := hc2 k hkm
        have HD : Hid (R = ((l[k] == m[k]) && numsB (l.drop (k + 1)) (m.drop (k + 1)))) := (show _ = _ by rw [HK.out, nums_drop hkl hkm])
        have HN2 : Hid (∀ q, Below w.heap.size w (wr.drewN q)) := (show ∀ q, _ from fun q => bdr HB.out q)
        clear HK hc hc2
        generalize l[k] = x at *
        generalize m[k] = y at *
        clear hkl hkm
        by_cases h1 : x = y
        · subst h1
          have HE : Hid (R = numsB (l.drop (k + 1)) (m.drop (k + 1))) := (show _ = _ by rw [HD.out]; simp)
          clear HD
          go_wp2_with fail
          go_quiet (fail)
          go_wp2_with fail
          go_roundw
          case rel => exact ⟨k + 1, by omega, by go_num, HE, HN2.out _⟩
          case measure => simp [intOf]; omega
        · have HE : Hid (R = false) := (show _ = _ by rw [HD.out, (show (x == y) = false by simpa using h1)]; rfl)
          have h1' : (nb x != nb y) = true := by simpa [nb_inj] using h1
          clear HD h1
          go_wp2_with fail
          go_quiet (fail)
          go_wp2_with fail
          go_ret
          exact ⟨by rw [HE.out]; rfl, HN2.out _⟩
      · have HE : Hid (R = true) := (show _ = _ by
          rw [HK.out, List.drop_of_length_le (by have := HN.out; omega), List.drop_of_length_le (by have := HN.out; have := HS.out.2.2; omega)]
          rfl)
        clear HK
        go_wp2_with fail
        go_ret
        exact ⟨by rw [HE.out]; rfl, HB.out⟩
  · have hE : numsB l m = false := nums_len hlen
    rw [hE]
    have h1 : ¬ (l.length : Int) = (m.length : Int) := by omega
    have h2 : ((l.length : Int) == (m.length : Int)) = false := by simpa using h1
    clear hE
    go_enter Try.func25, Try.ntmps25
    go_wp2_with fail
    go_ret
    exact ⟨rfl, Below.refl _ _⟩
end Go.Proofs.Ytmobmpghpdaddaa

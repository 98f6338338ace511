/-
  The document's node, Cubes.
-/
import Derived.Test.YtmobmpghpdaddaaRefK
import Derived.Test.YtmobmpghpdaddaaListO
import Derived.Test.YtmobmpghpdaddaaRefR
namespace Go.Proofs.Ytmobmpghpdaddaa
open Go.ChangeShapes Go.WideShapes Go.ChangeAt Go.RowKit
set_option linter.unusedVariables false
set_option linter.unusedSimpArgs false

/-- The lists of the nodes ahead. -/
structure LsF (F : Addr → Prop) (u : World) (a : Option Addr) (hv : List (List K)) : Prop where
  ex : ∃ hs : List Hd, (hs = [] ∨ ∃ g, a = some ⟨g, 0, none⟩ ∧ g < u.heap.size ∧ Cs hdL 1 u g 0 hs) ∧ Hs (fun u h l => h.n = l.length ∧ CuF F u h.a l) u hs hv
  few : ∀ l ∈ hv, l.length ≤ 128
  vk : ∀ l ∈ hv, AllVk l
theorem LsF.below {F : Addr → Prop} {u u' : World} {a : Option Addr} {hv : List (List K)} (h : LsF F u a hv) (g : Below u.heap.size u u') : LsF F u' a hv := by
  obtain ⟨hs, h1, h2⟩ := h.ex
  refine ⟨⟨hs, ?_, h2.mono fun i i1 i2 t => ⟨t.1, t.2.below g⟩⟩, h.few, h.vk⟩
  rcases h1 with e | ⟨q, e, hq, hc⟩
  · exact .inl e
  · exact .inr ⟨q, e, Nat.lt_of_lt_of_le hq g.size, hc.block (g.block q hq)⟩
theorem LsF.at {F : Addr → Prop} {u : World} {a : Option Addr} {hv : List (List K)} (h : LsF F u a hv) {j : Nat} (hj : j < hv.length) : ∃ g x c, a = some ⟨g, 0, none⟩ ∧ g < u.heap.size ∧ u.cell? ⟨g, j, none⟩ = some (.slice x hv[j].length c) ∧ CuF F u x hv[j] := by
  obtain ⟨hs, h1, h2⟩ := h.ex
  have hj' : j < hs.length := by rw [h2.1]; exact hj
  rcases h1 with e | ⟨g, e, hg, hc⟩
  · rw [e] at hj'; cases hj'
  · obtain ⟨t1, t2⟩ := h2.2 j hj' hj
    refine ⟨g, hs[j].a, hs[j].c, e, hg, ?_, t2⟩
    have := hc j hj' 0 (by decide)
    rw [Nat.mul_one, Nat.add_zero, Nat.zero_add] at this
    rw [this]
    show some (Value.slice _ hs[j].n _) = _
    rw [t1]
theorem allvk_top : AllVk [K.top] := fun k hk => by rw [List.mem_singleton] at hk; subst hk; exact Vk.top
theorem AllVk.both {l m : List K} (h : AllVk l) (g : AllVk m) : AllVk (bothL l m) := fun k hk => by
  obtain ⟨a, h1, h2⟩ := List.mem_flatMap.1 hk
  obtain ⟨b, h3, h4⟩ := List.mem_map.1 h2
  subst h4
  exact (h a h1).both (g b (List.mem_filter.1 h3).1)
theorem AllVk.left : ∀ (m l r : List K), AllVk l → AllVk m → leftL l m = some r → AllVk r
  | [], l, r, hl, hm, h => by cases h; exact hl
  | b :: m, l, r, hl, hm, h => by
    unfold leftL at h
    split at h
    · cases h
    · exact AllVk.left m _ r (hl.cut (hm b (List.mem_cons_self ..))) (fun k hk => hm k (List.mem_cons_of_mem _ hk)) h
/-- A list that the caller makes of a cube without tests. -/
theorem top_cuf (F : Addr → Prop) (u : World) (hF : ∀ p : Addr, u.heap.size ≤ p.block → F p) : CuF F (u.alloc (.cells #[.slice none 0 0] 43)) (some ⟨u.heap.size, 0, none⟩) [K.top] := by
  refine ⟨⟨[⟨none, 0, 0⟩], .inr ⟨u.heap.size, rfl, by simp, cs_new (k := hdL) (s := 1) u ⟨none, 0, 0⟩ 43⟩, ⟨rfl, fun i i1 i2 => ?_⟩, ⟨rfl, fun i i1 i2 h0 p hp => ?_⟩⟩, fun _ p hp => ?_⟩
  · obtain rfl : i = 0 := by simp at i1; omega
    exact ⟨rfl, Nat.le_refl _, .inl rfl⟩
  · obtain rfl : i = 0 := by simp at i1; omega
    exact absurd rfl h0
  · cases hp; exact hF _ (Nat.le_refl _)
theorem mask0 {t : Tst} (ht : trB t = true) (h : t.m = 0#64) : cubF [t] = K.top := by
  obtain ⟨r1, r2, r3⟩ := (trB_iff _).1 ht
  have hv : t.v = 0#64 := by
    rw [h, show ~~~(0#64) = BitVec.allOnes 64 by decide, BitVec.and_allOnes] at r3
    exact r3
  have e : cubF [t] = setT K.top t := rfl
  rw [e]
  refine K.ext' (fun g => ?_) (fun g => ?_)
  · unfold setT upd K.top; simp [h]
  · unfold setT upd K.top; simp [hv]
theorem mask1 {t : Tst} (ht : trB t = true) (h : ¬ t.m = 0#64) : wholeB [t] = true := by
  obtain ⟨r1, r2, r3⟩ := (trB_iff _).1 ht
  exact wholeFrom_cons.2 ⟨ht, h, by omega, rfl⟩
/-- A list of one cube of one test. -/
theorem one_cuf (F : Addr → Prop) (u : World) (t : Tst) (ht : wholeB [t] = true) (hF : ∀ p : Addr, u.heap.size ≤ p.block → F p) : CuF F ((u.alloc (.cells #[.int .i64 t.f, cv t.v, cv t.m] 32)).alloc (.cells #[.slice (some ⟨u.heap.size, 0, none⟩) 1 1] 43)) (some ⟨u.heap.size + 1, 0, none⟩) [cubF [t]] ∧ Below u.heap.size u ((u.alloc (.cells #[.int .i64 t.f, cv t.v, cv t.m] 32)).alloc (.cells #[.slice (some ⟨u.heap.size, 0, none⟩) 1 1] 43)) ∧ (u.alloc (.cells #[.int .i64 t.f, cv t.v, cv t.m] 32)).heap.size = u.heap.size + 1 := by
  obtain ⟨V, hV, hC, gV, zV⟩ := box3 u t
  rw [hV]
  have gW : Below V.heap.size V (V.alloc (.cells #[.slice (some ⟨u.heap.size, 0, none⟩) 1 1] 43)) := by go_grown
  have hc := cs_new (k := hdL) (s := 1) V ⟨some ⟨u.heap.size, 0, none⟩, 1, 1⟩ 43
  rw [zV] at hc
  refine ⟨⟨⟨[⟨some ⟨u.heap.size, 0, none⟩, 1, 1⟩], .inr ⟨u.heap.size + 1, rfl, by simp [zV], hc⟩, ⟨rfl, fun i i1 i2 => ?_⟩, ⟨rfl, fun i i1 i2 h0 p hp => ?_⟩⟩, fun _ p hp => ?_⟩, btr gV gW (by omega), zV⟩
  · obtain rfl : i = 0 := by simp at i1; omega
    refine ⟨?_, Nat.le_refl _, ?_⟩
    · show 1 = (toT (cubF [t])).length
      rw [toT_cubF ht]
      rfl
    · show Sk tstL 3 _ _ (toT (cubF [t]))
      rw [toT_cubF ht]
      refine .inr ⟨u.heap.size, 0, rfl, by have := gW.size; omega, Cs.of_ts fun i hi => ?_⟩
      obtain rfl : i = 0 := by simp at hi; omega
      exact hC.below (by omega) gW
  · obtain rfl : i = 0 := by simp at i1; omega
    cases hp; exact hF _ (Nat.le_refl _)
  · cases hp; exact hF _ (Nat.le_succ _)
end Go.Proofs.Ytmobmpghpdaddaa
namespace Go.Proofs.Ytmobmpghpdaddaa
open Go.ChangeShapes Go.WideShapes Go.ChangeAt Go.RowKit
set_option linter.unusedVariables false
set_option linter.unusedSimpArgs false

theorem parts_get (hv : List (List K)) (s : List Int) (i : Nat) (hp : i < (partsOf hv s).length) (h : i < s.length) (hm : s[i].toNat < hv.length) : (partsOf hv s)[i] = hv[s[i].toNat] := by
  have e : (partsOf hv s)[i]? = some hv[s[i].toNat] := by
    unfold partsOf
    rw [List.getElem?_map, List.getElem?_eq_getElem h, Option.map_some, List.getD_eq_getElem?_getD, List.getElem?_eq_getElem hm]
    rfl
  rw [List.getElem?_eq_getElem hp] at e
  exact Option.some.inj e
set_option maxRecDepth 20000 in
set_option maxHeartbeats 4000000 in
theorem node_f (F : Addr → Prop) (x : Nd) (xa : Option Addr) (xc : Nat) (ha : Option Addr) (hv : List (List K)) (hc : Nat) (w : World) (hs : Is w xa x.s) (ht : LsF F w ha hv) (hr : rnB x (hv.length : Int) = true) (hF : ∀ p : Addr, w.heap.size ≤ p.block → F p) (hn : hv.length ≤ 1000) :
    Calls Try.prog 55 #[ndV x xa xc, .slice ha hv.length hc] w fun e w' => LoR F w (nodeL x (partsOf hv x.s)) e w' := by
  obtain ⟨X, hX⟩ : ∃ X, w.alloc (.cells #[.int .i64 x.k, .int .i64 x.t.f, cv x.t.v, cv x.t.m, .slice xa x.s.length xc] 39) = X := ⟨_, rfl⟩
  have gX : Below w.heap.size w X := by rw [← hX]; go_grown
  have zX : X.heap.size = w.heap.size + 1 := by rw [← hX]; simp
  have d0 : X.cell? ⟨w.heap.size, 0, none⟩ = some (.int .i64 x.k) := by rw [← hX]; simp
  have d1 : X.cell? ⟨w.heap.size, 1, none⟩ = some (.int .i64 x.t.f) := by rw [← hX]; simp
  have d2 : X.cell? ⟨w.heap.size, 2, none⟩ = some (cv x.t.v) := by rw [← hX]; simp
  have d3 : X.cell? ⟨w.heap.size, 3, none⟩ = some (cv x.t.m) := by rw [← hX]; simp
  have d4 : X.cell? ⟨w.heap.size, 4, none⟩ = some (.slice xa x.s.length xc) := by rw [← hX]; simp
  have HS : Hid (Is X xa x.s ∧ LsF F X ha hv) := ⟨hs.below gX, ht.below gX⟩
  have HG : Hid (Below w.heap.size w X ∧ w.heap.size < X.heap.size) := ⟨gX, by omega⟩
  have HF : Hid (∀ p : Addr, w.heap.size ≤ p.block → F p) := hF
  have HSub : Hid (∀ i ∈ x.s, 0 ≤ i ∧ i < (hv.length : Int)) := rnB_subs hr
  have HD4 : Hid (∀ u, Below X.heap.size X u → u.cell? ⟨w.heap.size, 4, none⟩ = some (.slice xa x.s.length xc)) := (show ∀ u, _ from fun u g => (g.cell (p := ⟨w.heap.size, 4, none⟩) (by show w.heap.size < _; omega)).trans d4)
  have hx12 := rnB_len hr
  obtain ⟨hn0, hhn0⟩ : ∃ n, hv.length = n := ⟨_, rfl⟩
  have HHn : Hid (hv.length = hn0) := hhn0
  obtain ⟨R, hR⟩ : ∃ R, nodeL x (partsOf hv x.s) = R := ⟨_, rfl⟩
  have HR : Hid (R = if x.k = 1 then some [K.top] else if x.k = 3 then some [cubF [x.t]] else if x.k = 4 then andL [K.top] (partsOf hv x.s) else if x.k = 5 then orL [] (partsOf hv x.s) else if x.k = 6 then leftL [K.top] ((partsOf hv x.s).headD []) else some []) := (show _ = _ from hR.symm)
  have HRi : Hid (rnB x (hv.length : Int) = true) := hr
  have HPt : Hid (∀ i (h : i < x.s.length), ∃ m, x.s[i] = ((m : Nat) : Int) ∧ ∃ h2 : m < hv.length, (partsOf hv x.s).drop i = hv[m] :: (partsOf hv x.s).drop (i + 1)) := (show ∀ i (h : i < x.s.length), _ from fun i h => by
    obtain ⟨m0, m1⟩ := HSub.out _ (List.getElem_mem h)
    refine ⟨x.s[i].toNat, by omega, by omega, ?_⟩
    have hp : i < (partsOf hv x.s).length := by unfold partsOf; rw [List.length_map]; exact h
    rw [List.drop_eq_getElem_cons hp, parts_get hv x.s i hp h (by omega)])
  have HPl : Hid ((partsOf hv x.s).length = x.s.length) := (show _ = _ by unfold partsOf; rw [List.length_map])
  rw [hR, hhn0]
  rw [hhn0] at hn
  show Calls Try.prog 55 #[.agg #[.int .i64 x.k, .int .i64 x.t.f, cv x.t.v, cv x.t.m, .slice xa x.s.length xc], .slice ha hn0 hc] w _
  clear hs ht hr hF hR gX zX hhn0
  by_cases k2 : x.k = 2
  · have HRn : Hid (R = some []) := (show _ = _ by rw [HR.out]; simp [k2])
    rw [k2] at d0 hX ⊢
    clear HR k2 HRi
    go_enter Try.func55, Try.ntmps55
    go_wp2_with fail
    go_ret2
    exact ⟨HG.out.1, .inl ⟨[], none, 0, HRn.out, rfl, CuF.nil F _⟩⟩
  by_cases k3 : x.k = 3
  · have ht : trB x.t = true ∧ x.s.length = 0 := by
      have h := HRi.out
      unfold rnB at h
      rw [if_neg (by omega), if_pos k3, Bool.and_eq_true] at h
      exact ⟨h.1, by simpa using h.2⟩
    by_cases hm : x.t.m = 0#64
    · have q1 : (nb x.t.m != 0) = false := by rw [hm]; rfl
      have HRA : Hid (R = andL [K.top] ((partsOf hv x.s).drop 0)) := (show _ = _ by
        rw [HR.out]
        simp only [k3]
        have e : partsOf hv x.s = [] := List.eq_nil_of_length_eq_zero (by have := HPl.out; omega)
        rw [e, mask0 ht.1 hm]
        rfl)
      rw [k3] at d0 hX ⊢
      clear HR k3 hm ht
      have HT0 := top_cuf F X (fun p hp => HF.out p (Nat.le_trans HG.out.1.size hp))
      have HX6 : Hid (CuF F (X.alloc (.cells #[.slice none 0 0] 43)) (some ⟨X.heap.size, 0, none⟩) [K.top] ∧ Below X.heap.size X (X.alloc (.cells #[.slice none 0 0] 43))) := ⟨HT0, by go_grown⟩
      clear HT0 HRi
      go_enter Try.func55, Try.ntmps55
      go_wp2_with fail
      clear hX
      go_loopw [6, 7] (fun v6 v7 wr => ∃ (i : Nat) (l0 : List K) (a0 : Option Addr) (n0 c0 : Nat), i ≤ x.s.length ∧ v7 = .int .i64 i ∧ v6 = .slice a0 n0 c0 ∧ n0 ≤ 128 ∧ Hid (l0.length = n0) ∧ Hid (R = andL l0 ((partsOf hv x.s).drop i)) ∧ Hid (CuF F wr a0 l0) ∧ Hid (AllVk l0) ∧ Hid (Below X.heap.size X wr)) (fun _ v7 _ => x.s.length - (intOf v7).toNat)
      case atStart => exact ⟨0, [K.top], some ⟨X.heap.size, 0, none⟩, 1, 1, Nat.zero_le _, rfl, rfl, by omega, rfl, HRA, HX6.out.1, allvk_top, HX6.out.2⟩
      case round =>
        obtain ⟨i, l0, a0, n0, c0, hi, rfl, rfl, hn0', HL0, HE, HC0, HV0, HB⟩ := hrel
        have e4 := HD4.out wr HB.out
        clear HX6 HRA d0 d1 d2 d3 d4
        by_cases hlt : i < x.s.length
        · obtain ⟨g, o, rfl, hg, hcs⟩ := (HS.out.1.below HB.out).at hlt
          have e0 := hcs i hlt
          obtain ⟨m, hm, hmv, hdr⟩ := HPt.out i hlt
          rw [hm] at e0
          obtain ⟨gh, y, yc, hbh, hgh, hcy, hcu⟩ := (HS.out.2.below HB.out).at hmv
          have hyn : hv[m].length ≤ 128 := HS.out.2.few _ (List.getElem_mem hmv)
          have hyv := HS.out.2.vk _ (List.getElem_mem hmv)
          have HE2 : Hid (R = if 128 < (bothL l0 hv[m]).length then none else andL (bothL l0 hv[m]) ((partsOf hv x.s).drop (i + 1))) := (show _ = _ by rw [HE.out, hdr]; rfl)
          have hmn : m < hn0 := by have := HHn.out; omega
          obtain ⟨P, hP⟩ : ∃ P, hv[m] = P := ⟨_, rfl⟩
          rw [hP] at hcy hcu hyn hyv HE2
          have HBo : Hid (Calls Try.prog 57 #[.slice a0 n0 c0, .slice y P.length yc] wr fun e w' => ∃ z d, e = .returned (.slice z (bothL l0 P).length d) ∧ CuF F w' z (bothL l0 P) ∧ Below wr.heap.size wr w') := (show Calls _ _ _ _ _ by
            have h := both_f F a0 l0 c0 y P yc wr HC0.out hcu HV0.out hyv (by have := HL0.out; omega) hyn (fun p hp => HF.out p (Nat.le_trans HG.out.1.size (Nat.le_trans HB.out.size hp)))
            rw [HL0.out] at h
            exact h)
          have HVb : Hid (AllVk (bothL l0 P)) := HV0.out.both hyv
          obtain ⟨L1, hL1⟩ : ∃ L, bothL l0 P = L := ⟨_, rfl⟩
          rw [hL1] at HBo HE2 HVb
          obtain ⟨n1, hn1⟩ : ∃ n, L1.length = n := ⟨_, rfl⟩
          have HN1 : Hid (L1.length = n1) := hn1
          obtain ⟨yn, hyn2⟩ : ∃ n, P.length = n := ⟨_, rfl⟩
          rw [hn1] at HBo HE2
          rw [hyn2] at hcy HBo
          subst hbh
          clear HE hdr hP hL1 hn1 hyn hyv hcu hcs hm hyn2 hmv
          by_cases hbig : 128 < n1
          · have HRn : Hid (R = none) := (show _ = _ by rw [HE2.out, if_pos hbig])
            have j1 : (128 : Int) < (n1 : Int) := by omega
            have j2 : decide ((128 : Int) < (n1 : Int)) = true := decide_eq_true j1
            clear HE2
            go_wp2_with (go_at_call 57; refine HBo.out.mono ?_; rintro e w4 ⟨z, d, rfl, h1, h2⟩; have HQ4 : Hid (CuF F w4 z L1 ∧ Below X.heap.size X w4) := ⟨h1, btr HB.out h2 (Nat.le_refl _)⟩; clear h1 h2)
            go_ret2
            exact ⟨btr HG.out.1 HQ4.out.2 (by have := HG.out.2; omega), .inr ⟨HRn.out, rfl⟩⟩
          · have HRn : Hid (R = andL L1 ((partsOf hv x.s).drop (i + 1))) := (show _ = _ by rw [HE2.out, if_neg hbig])
            have j1 : ¬ (128 : Int) < (n1 : Int) := by omega
            have j2 : decide ((128 : Int) < (n1 : Int)) = false := decide_eq_false j1
            clear HE2
            go_wp2_with (go_at_call 57; refine HBo.out.mono ?_; rintro e w4 ⟨z, d, rfl, h1, h2⟩; have HQ4 : Hid (CuF F w4 z L1 ∧ Below X.heap.size X w4) := ⟨h1, btr HB.out h2 (Nat.le_refl _)⟩; clear h1 h2)
            refine ⟨⟨i + 1, L1, z, n1, d, by omega, by go_num, rfl, by omega, HN1, HRn, HQ4.out.1, HVb, HQ4.out.2⟩, by simp [intOf]; omega⟩
        · have HRn : Hid (R = some l0) := (show _ = _ by rw [HE.out, List.drop_of_length_le (by have := HPl.out; omega)]; rfl)
          clear HE
          go_wp2_with fail
          go_ret2
          exact ⟨btr HG.out.1 HB.out (by have := HG.out.2; omega), .inl ⟨l0, a0, c0, HRn.out, by rw [HL0.out]; rfl, HC0.out⟩⟩
    · have q1 : (nb x.t.m != 0) = true := by
        have : ¬ nb x.t.m = 0 := fun h => hm ((nb_eq0 _).1 h)
        simpa using this
      have HRn : Hid (R = some [cubF [x.t]]) := (show _ = _ by rw [HR.out]; simp [k3])
      have HO := one_cuf F X x.t (mask1 ht.1 hm) (fun p hp => HF.out p (Nat.le_trans HG.out.1.size hp))
      have HO2 : Hid _ := HO
      have zz := HO.2.2
      clear HO
      rw [k3] at d0 hX ⊢
      clear HR k3 hm ht HRi
      go_enter Try.func55, Try.ntmps55
      go_wp2_with fail
      go_ret2
      exact ⟨btr HG.out.1 HO2.out.2.1 (by have := HG.out.2; omega), .inl ⟨[cubF [x.t]], _, 1, HRn.out, rfl, HO2.out.1⟩⟩
  by_cases k6 : x.k = 6
  · have ht : x.s.length = 1 := by
      have h := HRi.out
      unfold rnB at h
      rw [if_neg (by omega), if_neg (by omega), if_neg (by omega), if_pos k6, Bool.and_eq_true, Bool.and_eq_true] at h
      simpa using h.1.2
    obtain ⟨g, o, rfl, hg, hcs⟩ := HS.out.1.at (j := 0) (by omega)
    have e0 := hcs 0 (by omega)
    obtain ⟨m, hm, hmv, hdr⟩ := HPt.out 0 (by omega)
    rw [hm] at e0
    obtain ⟨gh, y, yc, hbh, hgh, hcy, hcu⟩ := HS.out.2.at hmv
    have hyn : hv[m].length ≤ 128 := HS.out.2.few _ (List.getElem_mem hmv)
    have hyv := HS.out.2.vk _ (List.getElem_mem hmv)
    have HRn : Hid (R = leftL [K.top] hv[m]) := (show _ = _ by
      rw [HR.out, if_neg (by omega), if_neg (by omega), if_neg (by omega), if_neg (by omega), if_pos k6]
      rw [List.drop_zero] at hdr
      rw [hdr]
      rfl)
    have hmn : m < hn0 := by have := HHn.out; omega
    obtain ⟨P, hP⟩ : ∃ P, hv[m] = P := ⟨_, rfl⟩
    rw [hP] at hcy hcu hyn hyv HRn
    have gY : Below X.heap.size X (X.alloc (.cells #[.slice none 0 0] 43)) := by go_grown
    have HW : Hid (Calls Try.prog 63 #[.slice (some ⟨X.heap.size, 0, none⟩) 1 1, .slice y P.length yc] (X.alloc (.cells #[.slice none 0 0] 43)) fun e w' => LoR F w R e w') := (show Calls _ _ _ _ _ by
      rw [HRn.out]
      have h := without_f F (some ⟨X.heap.size, 0, none⟩) [K.top] 1 y P yc (X.alloc (.cells #[.slice none 0 0] 43)) (top_cuf F X (fun p hp => HF.out p (Nat.le_trans HG.out.1.size hp))) (hcu.below gY) allvk_top hyv (by simp) hyn (fun p hp => HF.out p (Nat.le_trans HG.out.1.size (Nat.le_trans gY.size hp)))
      exact h.mono fun e w' hq => ⟨btr (btr HG.out.1 gY (by have := HG.out.2; omega)) hq.1 (by have := HG.out.2; have := gY.size; omega), hq.2⟩)
    have HE4 : Hid ((X.alloc (.cells #[.slice none 0 0] 43)).cell? ⟨w.heap.size, 4, none⟩ = some (.slice (some ⟨g, o, none⟩) x.s.length xc) ∧ (X.alloc (.cells #[.slice none 0 0] 43)).cell? ⟨g, o, none⟩ = some (.int .i64 m) ∧ (X.alloc (.cells #[.slice none 0 0] 43)).cell? ⟨gh, m, none⟩ = some (.slice y P.length yc)) := (show _ ∧ _ from ⟨HD4.out _ gY, (gY.cell (p := ⟨g, o, none⟩) hg).trans e0, (gY.cell (p := ⟨gh, m, none⟩) hgh).trans hcy⟩)
    obtain ⟨yn, hyn2⟩ : ∃ n, P.length = n := ⟨_, rfl⟩
    rw [hyn2] at hcy HW HE4
    obtain ⟨Y, hY⟩ : ∃ Y, X.alloc (.cells #[.slice none 0 0] 43) = Y := ⟨_, rfl⟩
    rw [hY] at HW HE4
    obtain ⟨f4, f0, fy⟩ := HE4.out
    rw [k6] at d0 hX ⊢
    rw [ht] at d4 hX f4 ⊢
    subst hbh
    clear HR k6 HRi HE4 HRn hdr hP hyn hyv hcu hcs hm hyn2 hmv gY ht hx12 HPt HPl HSub HD4
    go_enter Try.func55, Try.ntmps55
    go_wp2_with (go_at_call 63; refine HW.out.mono ?_; rintro e w4 ⟨h1, h2⟩; have HQ : Hid (LoR F w R e w4) := ⟨h1, h2⟩; (rcases h2 with ⟨L, z, d, h3, rfl, h4⟩ | ⟨h3, rfl⟩); all_goals clear h1)
    all_goals
      go_ret2
      exact HQ.out
  by_cases k1 : x.k = 1
  · have ht : x.s.length = 0 := by
      have h := HRi.out
      unfold rnB at h
      rw [if_pos (.inl k1), Bool.and_eq_true] at h
      simpa using h.2
    have HRA : Hid (R = andL [K.top] ((partsOf hv x.s).drop 0)) := (show _ = _ by
      rw [HR.out, if_pos k1]
      have e : partsOf hv x.s = [] := List.eq_nil_of_length_eq_zero (by have := HPl.out; omega)
      rw [e]
      rfl)
    rw [k1] at d0 hX ⊢
    clear HR k1 ht
    have HT0 := top_cuf F X (fun p hp => HF.out p (Nat.le_trans HG.out.1.size hp))
    have HX6 : Hid (CuF F (X.alloc (.cells #[.slice none 0 0] 43)) (some ⟨X.heap.size, 0, none⟩) [K.top] ∧ Below X.heap.size X (X.alloc (.cells #[.slice none 0 0] 43))) := ⟨HT0, by go_grown⟩
    clear HT0 HRi
    go_enter Try.func55, Try.ntmps55
    go_wp2_with fail
    clear hX
    go_loopw [6, 7] (fun v6 v7 wr => ∃ (i : Nat) (l0 : List K) (a0 : Option Addr) (n0 c0 : Nat), i ≤ x.s.length ∧ v7 = .int .i64 i ∧ v6 = .slice a0 n0 c0 ∧ n0 ≤ 128 ∧ Hid (l0.length = n0) ∧ Hid (R = andL l0 ((partsOf hv x.s).drop i)) ∧ Hid (CuF F wr a0 l0) ∧ Hid (AllVk l0) ∧ Hid (Below X.heap.size X wr)) (fun _ v7 _ => x.s.length - (intOf v7).toNat)
    case atStart => exact ⟨0, [K.top], some ⟨X.heap.size, 0, none⟩, 1, 1, Nat.zero_le _, rfl, rfl, by omega, rfl, HRA, HX6.out.1, allvk_top, HX6.out.2⟩
    case round =>
      obtain ⟨i, l0, a0, n0, c0, hi, rfl, rfl, hn0', HL0, HE, HC0, HV0, HB⟩ := hrel
      have e4 := HD4.out wr HB.out
      clear HX6 HRA d0 d1 d2 d3 d4
      by_cases hlt : i < x.s.length
      · obtain ⟨g, o, rfl, hg, hcs⟩ := (HS.out.1.below HB.out).at hlt
        have e0 := hcs i hlt
        obtain ⟨m, hm, hmv, hdr⟩ := HPt.out i hlt
        rw [hm] at e0
        obtain ⟨gh, y, yc, hbh, hgh, hcy, hcu⟩ := (HS.out.2.below HB.out).at hmv
        have hyn : hv[m].length ≤ 128 := HS.out.2.few _ (List.getElem_mem hmv)
        have hyv := HS.out.2.vk _ (List.getElem_mem hmv)
        have HE2 : Hid (R = if 128 < (bothL l0 hv[m]).length then none else andL (bothL l0 hv[m]) ((partsOf hv x.s).drop (i + 1))) := (show _ = _ by rw [HE.out, hdr]; rfl)
        have hmn : m < hn0 := by have := HHn.out; omega
        obtain ⟨P, hP⟩ : ∃ P, hv[m] = P := ⟨_, rfl⟩
        rw [hP] at hcy hcu hyn hyv HE2
        have HBo : Hid (Calls Try.prog 57 #[.slice a0 n0 c0, .slice y P.length yc] wr fun e w' => ∃ z d, e = .returned (.slice z (bothL l0 P).length d) ∧ CuF F w' z (bothL l0 P) ∧ Below wr.heap.size wr w') := (show Calls _ _ _ _ _ by
          have h := both_f F a0 l0 c0 y P yc wr HC0.out hcu HV0.out hyv (by have := HL0.out; omega) hyn (fun p hp => HF.out p (Nat.le_trans HG.out.1.size (Nat.le_trans HB.out.size hp)))
          rw [HL0.out] at h
          exact h)
        have HVb : Hid (AllVk (bothL l0 P)) := HV0.out.both hyv
        obtain ⟨L1, hL1⟩ : ∃ L, bothL l0 P = L := ⟨_, rfl⟩
        rw [hL1] at HBo HE2 HVb
        obtain ⟨n1, hn1⟩ : ∃ n, L1.length = n := ⟨_, rfl⟩
        have HN1 : Hid (L1.length = n1) := hn1
        obtain ⟨yn, hyn2⟩ : ∃ n, P.length = n := ⟨_, rfl⟩
        rw [hn1] at HBo HE2
        rw [hyn2] at hcy HBo
        subst hbh
        clear HE hdr hP hL1 hn1 hyn hyv hcu hcs hm hyn2 hmv
        by_cases hbig : 128 < n1
        · have HRn : Hid (R = none) := (show _ = _ by rw [HE2.out, if_pos hbig])
          have j1 : (128 : Int) < (n1 : Int) := by omega
          have j2 : decide ((128 : Int) < (n1 : Int)) = true := decide_eq_true j1
          clear HE2
          go_wp2_with (go_at_call 57; refine HBo.out.mono ?_; rintro e w4 ⟨z, d, rfl, h1, h2⟩; have HQ4 : Hid (CuF F w4 z L1 ∧ Below X.heap.size X w4) := ⟨h1, btr HB.out h2 (Nat.le_refl _)⟩; clear h1 h2)
          go_ret2
          exact ⟨btr HG.out.1 HQ4.out.2 (by have := HG.out.2; omega), .inr ⟨HRn.out, rfl⟩⟩
        · have HRn : Hid (R = andL L1 ((partsOf hv x.s).drop (i + 1))) := (show _ = _ by rw [HE2.out, if_neg hbig])
          have j1 : ¬ (128 : Int) < (n1 : Int) := by omega
          have j2 : decide ((128 : Int) < (n1 : Int)) = false := decide_eq_false j1
          clear HE2
          go_wp2_with (go_at_call 57; refine HBo.out.mono ?_; rintro e w4 ⟨z, d, rfl, h1, h2⟩; have HQ4 : Hid (CuF F w4 z L1 ∧ Below X.heap.size X w4) := ⟨h1, btr HB.out h2 (Nat.le_refl _)⟩; clear h1 h2)
          refine ⟨⟨i + 1, L1, z, n1, d, by omega, by go_num, rfl, by omega, HN1, HRn, HQ4.out.1, HVb, HQ4.out.2⟩, by simp [intOf]; omega⟩
      · have HRn : Hid (R = some l0) := (show _ = _ by rw [HE.out, List.drop_of_length_le (by have := HPl.out; omega)]; rfl)
        clear HE
        go_wp2_with fail
        go_ret2
        exact ⟨btr HG.out.1 HB.out (by have := HG.out.2; omega), .inl ⟨l0, a0, c0, HRn.out, by rw [HL0.out]; rfl, HC0.out⟩⟩
  by_cases k4 : x.k = 4
  · have HRA : Hid (R = andL [K.top] ((partsOf hv x.s).drop 0)) := (show _ = _ by
      rw [HR.out, if_neg (by omega), if_neg (by omega), if_pos k4]
      rfl)
    rw [k4] at d0 hX ⊢
    clear HR k4
    have HT0 := top_cuf F X (fun p hp => HF.out p (Nat.le_trans HG.out.1.size hp))
    have HX6 : Hid (CuF F (X.alloc (.cells #[.slice none 0 0] 43)) (some ⟨X.heap.size, 0, none⟩) [K.top] ∧ Below X.heap.size X (X.alloc (.cells #[.slice none 0 0] 43))) := ⟨HT0, by go_grown⟩
    clear HT0 HRi
    go_enter Try.func55, Try.ntmps55
    go_wp2_with fail
    clear hX
    go_loopw [6, 7] (fun v6 v7 wr => ∃ (i : Nat) (l0 : List K) (a0 : Option Addr) (n0 c0 : Nat), i ≤ x.s.length ∧ v7 = .int .i64 i ∧ v6 = .slice a0 n0 c0 ∧ n0 ≤ 128 ∧ Hid (l0.length = n0) ∧ Hid (R = andL l0 ((partsOf hv x.s).drop i)) ∧ Hid (CuF F wr a0 l0) ∧ Hid (AllVk l0) ∧ Hid (Below X.heap.size X wr)) (fun _ v7 _ => x.s.length - (intOf v7).toNat)
    case atStart => exact ⟨0, [K.top], some ⟨X.heap.size, 0, none⟩, 1, 1, Nat.zero_le _, rfl, rfl, by omega, rfl, HRA, HX6.out.1, allvk_top, HX6.out.2⟩
    case round =>
      obtain ⟨i, l0, a0, n0, c0, hi, rfl, rfl, hn0', HL0, HE, HC0, HV0, HB⟩ := hrel
      have e4 := HD4.out wr HB.out
      clear HX6 HRA d0 d1 d2 d3 d4
      by_cases hlt : i < x.s.length
      · obtain ⟨g, o, rfl, hg, hcs⟩ := (HS.out.1.below HB.out).at hlt
        have e0 := hcs i hlt
        obtain ⟨m, hm, hmv, hdr⟩ := HPt.out i hlt
        rw [hm] at e0
        obtain ⟨gh, y, yc, hbh, hgh, hcy, hcu⟩ := (HS.out.2.below HB.out).at hmv
        have hyn : hv[m].length ≤ 128 := HS.out.2.few _ (List.getElem_mem hmv)
        have hyv := HS.out.2.vk _ (List.getElem_mem hmv)
        have HE2 : Hid (R = if 128 < (bothL l0 hv[m]).length then none else andL (bothL l0 hv[m]) ((partsOf hv x.s).drop (i + 1))) := (show _ = _ by rw [HE.out, hdr]; rfl)
        have hmn : m < hn0 := by have := HHn.out; omega
        obtain ⟨P, hP⟩ : ∃ P, hv[m] = P := ⟨_, rfl⟩
        rw [hP] at hcy hcu hyn hyv HE2
        have HBo : Hid (Calls Try.prog 57 #[.slice a0 n0 c0, .slice y P.length yc] wr fun e w' => ∃ z d, e = .returned (.slice z (bothL l0 P).length d) ∧ CuF F w' z (bothL l0 P) ∧ Below wr.heap.size wr w') := (show Calls _ _ _ _ _ by
          have h := both_f F a0 l0 c0 y P yc wr HC0.out hcu HV0.out hyv (by have := HL0.out; omega) hyn (fun p hp => HF.out p (Nat.le_trans HG.out.1.size (Nat.le_trans HB.out.size hp)))
          rw [HL0.out] at h
          exact h)
        have HVb : Hid (AllVk (bothL l0 P)) := HV0.out.both hyv
        obtain ⟨L1, hL1⟩ : ∃ L, bothL l0 P = L := ⟨_, rfl⟩
        rw [hL1] at HBo HE2 HVb
        obtain ⟨n1, hn1⟩ : ∃ n, L1.length = n := ⟨_, rfl⟩
        have HN1 : Hid (L1.length = n1) := hn1
        obtain ⟨yn, hyn2⟩ : ∃ n, P.length = n := ⟨_, rfl⟩
        rw [hn1] at HBo HE2
        rw [hyn2] at hcy HBo
        subst hbh
        clear HE hdr hP hL1 hn1 hyn hyv hcu hcs hm hyn2 hmv
        by_cases hbig : 128 < n1
        · have HRn : Hid (R = none) := (show _ = _ by rw [HE2.out, if_pos hbig])
          have j1 : (128 : Int) < (n1 : Int) := by omega
          have j2 : decide ((128 : Int) < (n1 : Int)) = true := decide_eq_true j1
          clear HE2
          go_wp2_with (go_at_call 57; refine HBo.out.mono ?_; rintro e w4 ⟨z, d, rfl, h1, h2⟩; have HQ4 : Hid (CuF F w4 z L1 ∧ Below X.heap.size X w4) := ⟨h1, btr HB.out h2 (Nat.le_refl _)⟩; clear h1 h2)
          go_ret2
          exact ⟨btr HG.out.1 HQ4.out.2 (by have := HG.out.2; omega), .inr ⟨HRn.out, rfl⟩⟩
        · have HRn : Hid (R = andL L1 ((partsOf hv x.s).drop (i + 1))) := (show _ = _ by rw [HE2.out, if_neg hbig])
          have j1 : ¬ (128 : Int) < (n1 : Int) := by omega
          have j2 : decide ((128 : Int) < (n1 : Int)) = false := decide_eq_false j1
          clear HE2
          go_wp2_with (go_at_call 57; refine HBo.out.mono ?_; rintro e w4 ⟨z, d, rfl, h1, h2⟩; have HQ4 : Hid (CuF F w4 z L1 ∧ Below X.heap.size X w4) := ⟨h1, btr HB.out h2 (Nat.le_refl _)⟩; clear h1 h2)
          refine ⟨⟨i + 1, L1, z, n1, d, by omega, by go_num, rfl, by omega, HN1, HRn, HQ4.out.1, HVb, HQ4.out.2⟩, by simp [intOf]; omega⟩
      · have HRn : Hid (R = some l0) := (show _ = _ by rw [HE.out, List.drop_of_length_le (by have := HPl.out; omega)]; rfl)
        clear HE
        go_wp2_with fail
        go_ret2
        exact ⟨btr HG.out.1 HB.out (by have := HG.out.2; omega), .inl ⟨l0, a0, c0, HRn.out, by rw [HL0.out]; rfl, HC0.out⟩⟩
  have k5 : x.k = 5 := by
    have h := HRi.out
    unfold rnB at h
    by_cases k5 : x.k = 5
    · exact k5
    · simp [k1, k2, k3, k4, k5, k6] at h
  have HRA : Hid (R = orL [] ((partsOf hv x.s).drop 0)) := (show _ = _ by
    rw [HR.out, if_neg (by omega), if_neg (by omega), if_neg (by omega), if_pos k5]
    rfl)
  rw [k5] at d0 hX ⊢
  clear HR k1 k2 k3 k4 k5 k6 HRi
  go_enter Try.func55, Try.ntmps55
  go_wp2_with fail
  clear hX
  go_loopw [8, 9] (fun v8 v9 wr => ∃ (i : Nat) (l0 : List K) (a0 : Option Addr) (n0 c0 : Nat), i ≤ x.s.length ∧ v9 = .int .i64 i ∧ v8 = .slice a0 n0 c0 ∧ n0 ≤ 128 ∧ Hid (l0.length = n0) ∧ Hid (R = orL l0 ((partsOf hv x.s).drop i)) ∧ Hid (CuF F wr a0 l0) ∧ Hid (AllVk l0) ∧ Hid (Below X.heap.size X wr)) (fun _ v9 _ => x.s.length - (intOf v9).toNat)
  case atStart => exact ⟨0, [], none, 0, 0, Nat.zero_le _, rfl, rfl, by omega, rfl, HRA, CuF.nil F _, (show AllVk [] from fun k hk => by cases hk), Below.refl _ _⟩
  case round =>
    obtain ⟨i, l0, a0, n0, c0, hi, rfl, rfl, hn0', HL0, HE, HC0, HV0, HB⟩ := hrel
    have e4 := HD4.out wr HB.out
    clear HRA d0 d1 d2 d3 d4
    by_cases hlt : i < x.s.length
    · obtain ⟨g, o, rfl, hg, hcs⟩ := (HS.out.1.below HB.out).at hlt
      have e0 := hcs i hlt
      obtain ⟨m, hm, hmv, hdr⟩ := HPt.out i hlt
      rw [hm] at e0
      obtain ⟨gh, y, yc, hbh, hgh, hcy, hcu⟩ := (HS.out.2.below HB.out).at hmv
      have hyn : hv[m].length ≤ 128 := HS.out.2.few _ (List.getElem_mem hmv)
      have hyv := HS.out.2.vk _ (List.getElem_mem hmv)
      have HE2 : Hid (R = match leftL hv[m] l0 with | none => none | some q => if 128 < (l0 ++ q).length then none else orL (l0 ++ q) ((partsOf hv x.s).drop (i + 1))) := (show _ = _ by rw [HE.out, hdr]; rfl)
      have hmn : m < hn0 := by have := HHn.out; omega
      obtain ⟨P, hP⟩ : ∃ P, hv[m] = P := ⟨_, rfl⟩
      rw [hP] at hcy hcu hyn hyv HE2
      have HW : Hid (Calls Try.prog 63 #[.slice y P.length yc, .slice a0 n0 c0] wr fun e w' => LoR F wr (leftL P l0) e w') := (show Calls _ _ _ _ _ by
        have h := without_f F y P yc a0 l0 c0 wr hcu HC0.out hyv HV0.out hyn (by have := HL0.out; omega) (fun p hp => HF.out p (Nat.le_trans HG.out.1.size (Nat.le_trans HB.out.size hp)))
        rw [HL0.out] at h
        exact h)
      obtain ⟨yn, hyn2⟩ : ∃ n, P.length = n := ⟨_, rfl⟩
      rw [hyn2] at hcy HW
      subst hbh
      cases hle : leftL P l0 with
      | none =>
        have HRn : Hid (R = none) := (show _ = _ by rw [HE2.out, hle])
        have HWn : Hid (Calls Try.prog 63 #[.slice y yn yc, .slice a0 n0 c0] wr fun e w' => e = .returned (.tuple #[.slice none 0 0, .bool false]) ∧ Below wr.heap.size wr w') := (show Calls _ _ _ _ _ from HW.out.mono fun e w' ⟨h0, hq⟩ => by
          rcases hq with ⟨L, z, d, h1, _⟩ | ⟨_, h1⟩
          · rw [hle] at h1; cases h1
          · exact ⟨h1, h0⟩)
        clear HE HE2 hle HW hdr hP hyn hyv hcu hcs hm hyn2 hmv
        go_wp2_with (go_at_call 63; refine HWn.out.mono ?_; rintro e w4 ⟨rfl, h1⟩; have HQ4 : Hid (Below X.heap.size X w4) := (show Below _ _ _ from btr HB.out h1 (Nat.le_refl _)); clear h1)
        go_ret2
        exact ⟨btr HG.out.1 HQ4.out (by have := HG.out.2; omega), .inr ⟨HRn.out, rfl⟩⟩
      | some q =>
        have HWy : Hid (Calls Try.prog 63 #[.slice y yn yc, .slice a0 n0 c0] wr fun e w' => ∃ z d, e = .returned (.tuple #[.slice z q.length d, .bool true]) ∧ CuF F w' z q ∧ Below wr.heap.size wr w') := (show Calls _ _ _ _ _ from HW.out.mono fun e w' ⟨h0, hq⟩ => by
          rcases hq with ⟨L, z, d, h1, h2, h3⟩ | ⟨h1, _⟩
          · rw [hle] at h1; cases h1; exact ⟨z, d, h2, h3, h0⟩
          · rw [hle] at h1; cases h1)
        have HE3 : Hid (R = if 128 < (l0 ++ q).length then none else orL (l0 ++ q) ((partsOf hv x.s).drop (i + 1))) := (show _ = _ by rw [HE2.out, hle])
        have HVq : Hid (AllVk (l0 ++ q)) := (show AllVk _ from fun k hk => by
          rcases List.mem_append.1 hk with hk | hk
          · exact HV0.out k hk
          · exact AllVk.left l0 P q hyv HV0.out hle k hk)
        have hqn : q.length ≤ 128 := leftL_len l0 P q hyn hle
        obtain ⟨qn, hqn2⟩ : ∃ n, q.length = n := ⟨_, rfl⟩
        have HQn : Hid (q.length = qn) := hqn2
        rw [hqn2] at HWy hqn
        have hapl : (l0 ++ q).length = n0 + qn := by rw [List.length_append, HL0.out, hqn2]
        clear HE HE2 hle HW hdr hP hyn hyv hcu hcs hm hyn2 hmv hqn2
        by_cases hbig : 128 < n0 + qn
        · have HRn : Hid (R = none) := (show _ = _ by rw [HE3.out, hapl, if_pos hbig])
          have j1 : (128 : Int) < (n0 : Int) + (qn : Int) := by omega
          have j2 : decide ((128 : Int) < (n0 : Int) + (qn : Int)) = true := decide_eq_true j1
          clear HE3 hapl
          go_wp2_with (go_at_call 63; refine HWy.out.mono ?_; rintro e w4 ⟨z, d, rfl, h1, h2⟩; have HQ4 : Hid (CuF F w4 z q ∧ Below X.heap.size X w4) := ⟨h1, btr HB.out h2 (Nat.le_refl _)⟩; clear h1 h2)
          go_ret2
          exact ⟨btr HG.out.1 HQ4.out.2 (by have := HG.out.2; omega), .inr ⟨HRn.out, rfl⟩⟩
        · have HRn : Hid (R = orL (l0 ++ q) ((partsOf hv x.s).drop (i + 1))) := (show _ = _ by rw [HE3.out, hapl, if_neg hbig])
          have j1 : ¬ (128 : Int) < (n0 : Int) + (qn : Int) := by omega
          have j2 : decide ((128 : Int) < (n0 : Int) + (qn : Int)) = false := decide_eq_false j1
          have HAp : Hid ((l0 ++ q).length = n0 + qn) := hapl
          have HX1 : Hid (∀ w4, Below wr.heap.size wr w4 → ∃ hs, Sk hdL 1 w4 a0 hs ∧ n0 = hs.length ∧ ∀ v' w5, Own 43 hdL 1 w4.heap.size w5 v' hs → w4.grownBy w5 none → (v'.ownBlock = none ∨ v'.ownBlock = some w4.heap.size) → TlF F w4 v' l0 w5 ∧ Below w4.heap.size w4 w5 ∧ Hs (Kp v') w5 hs l0 ∧ Hs (Fq F) w5 hs l0) := (show ∀ w4, _ from fun w4 g => by
            obtain ⟨hs, k1, k2, k3⟩ := (HC0.out.below g).ex
            refine ⟨hs, k1.sk, by have := k2.1; have := HL0.out; omega, fun v' w5 ho hg hat => ?_⟩
            have hb : Below w4.heap.size w4 w5 := ⟨hg.os, hg.tape, hg.output, hg.size, fun j hj => hg.block j hj (by simp)⟩
            have := (TlF.nil F w4).app (hs' := hs) (v' := v') (w2 := w5) (V := w4) (World.ownsRow_nil _ _ _ _) (Hs.nil _) (Hs.nil _) ⟨k2.1, fun i i1 i2 => ⟨k2.2 i i1 i2, fun h0 p hp => ⟨tc_lt (k2.2 i i1 i2) h0 p hp, by simp [Value.ownBlock]⟩⟩⟩ k3 (Below.refl _ _) ho hg hat
            exact ⟨by simpa using this, hb, Hs.mono (P := Kp (.slice none 0 0)) (w := w4) (P' := Kp v') (w' := w5) ⟨k2.1, fun i i1 i2 => ⟨k2.2 i i1 i2, fun h0 p hp => ⟨tc_lt (k2.2 i i1 i2) h0 p hp, by simp [Value.ownBlock]⟩⟩⟩ (fun i i1 i2 t => t.app (Below.refl _ _) hg hat), ⟨k3.1, fun i i1 i2 => k3.2 i i1 i2⟩⟩)
          have HX2 : Hid (∀ w4 z, CuF F w4 z q → ∃ ys, Sk hdL 1 w4 z ys ∧ qn = ys.length ∧ ∀ w5 v' hs, Below w4.heap.size w4 w5 → TlF F w4 v' l0 w5 → Own 43 hdL 1 w4.heap.size w5 v' hs → Hs (Kp v') w5 hs l0 → Hs (Fq F) w5 hs l0 → ∀ v'' w6, Own 43 hdL 1 w4.heap.size w6 v'' (hs ++ ys) → w5.grownBy w6 v'.ownBlock → (v''.ownBlock = v'.ownBlock ∨ v''.ownBlock = some w5.heap.size) → TlF F w4 v'' (l0 ++ q) w6) := (show ∀ w4 z, _ from fun w4 z hq => by
            obtain ⟨ys, k1, k2, k3⟩ := hq.ex
            refine ⟨ys, k1.sk, by have := k2.1; have := HQn.out; omega, fun w5 v' hs hb ht ho o2 o3 v'' w6 ho2 hg2 hat => ?_⟩
            exact ht.app ho o2 o3 ⟨k2.1, fun i i1 i2 => ⟨(k2.2 i i1 i2).below hb, fun h0 p hp => by
              have h9 := tc_lt (k2.2 i i1 i2) h0 p hp
              exact ⟨Nat.lt_of_lt_of_le h9 hb.size, fun e => by have := (ho.lt _ e).1; omega⟩⟩⟩ ⟨k3.1, fun i i1 i2 => k3.2 i i1 i2⟩ (Below.refl _ _) ho2 hg2 hat)
          clear HE3 hapl
          go_wp2_with (first
            | (go_at_call 63; refine HWy.out.mono ?_; rintro e w4 ⟨z, d, rfl, h1, h2⟩; have HQ4 : Hid (CuF F w4 z q ∧ Below wr.heap.size wr w4) := ⟨h1, h2⟩; (obtain ⟨hs1, s1, s2, s3⟩ := HX1.out w4 h2); (obtain ⟨ys, r1, r2, r3⟩ := HX2.out w4 z h1); have HS1 : Hid (Sk hdL 1 w4 a0 hs1 ∧ n0 = hs1.length ∧ ∀ v' w5, Own 43 hdL 1 w4.heap.size w5 v' hs1 → w4.grownBy w5 none → (v'.ownBlock = none ∨ v'.ownBlock = some w4.heap.size) → TlF F w4 v' l0 w5 ∧ Below w4.heap.size w4 w5 ∧ Hs (Kp v') w5 hs1 l0 ∧ Hs (Fq F) w5 hs1 l0) := ⟨s1, s2, s3⟩; have HR1 : Hid (Sk hdL 1 w4 z ys ∧ qn = ys.length ∧ ∀ w5 v' hs, Below w4.heap.size w4 w5 → TlF F w4 v' l0 w5 → Own 43 hdL 1 w4.heap.size w5 v' hs → Hs (Kp v') w5 hs l0 → Hs (Fq F) w5 hs l0 → ∀ v'' w6, Own 43 hdL 1 w4.heap.size w6 v'' (hs ++ ys) → w5.grownBy w6 v'.ownBlock → (v''.ownBlock = v'.ownBlock ∨ v''.ownBlock = some w5.heap.size) → TlF F w4 v'' (l0 ++ q) w6) := ⟨r1, r2, r3⟩; clear h1 h2 s1 s2 s3 r1 r2 r3)
            | (at_builtin; refine wpList_appS kdH ktH rfl (.tmp 101) (.tmp 102) rfl w4.heap.size vv1 hs1 rfl HQ5.out.2.1 z qn d ys rfl HR1.out.2.1 HZ5.out (by have := HR1.out.2.1; have := HS1.out.2.1; omega) HQ5.out.2.2.1.size ?_; intro vv2 w6 ho2 hg2 hat; have HQ6 : Hid (TlF F w4 vv2 (l0 ++ q) w6) := HR1.out.2.2 w5 vv1 hs1 HQ5.out.2.2.1 HQ5.out.1 HQ5.out.2.1 HQ5.out.2.2.2.1 HQ5.out.2.2.2.2 vv2 w6 ho2 hg2 hat; clear ho2 hg2 hat)
            | (at_builtin; refine wpList_appS kdH ktH rfl (.tmp 98) (.tmp 99) rfl w4.heap.size (.slice none 0 0) [] rfl (World.ownsRow_nil _ _ _ _) a0 n0 c0 hs1 rfl HS1.out.2.1 HS1.out.1 (by have := HS1.out.2.1; simp; omega) (Nat.le_refl _) ?_; intro vv1 w5 ho2 hg2 hat; have HQ5 : Hid (TlF F w4 vv1 l0 w5 ∧ Own 43 hdL 1 w4.heap.size w5 vv1 hs1 ∧ Below w4.heap.size w4 w5 ∧ Hs (Kp vv1) w5 hs1 l0 ∧ Hs (Fq F) w5 hs1 l0) := ⟨(HS1.out.2.2 vv1 w5 (by simpa using ho2) hg2 hat).1, by simpa using ho2, (HS1.out.2.2 vv1 w5 (by simpa using ho2) hg2 hat).2⟩; have HZ5 : Hid (Sk hdL 1 w5 z ys) := (show Sk _ _ _ _ _ from HR1.out.1.below HQ5.out.2.2.1); clear ho2 hg2 hat)
            | fail)
          obtain ⟨a6, c6, hf6, hcu6⟩ := HQ6.out.cuf (fun p hp => HF.out p (Nat.le_trans HG.out.1.size (Nat.le_trans HB.out.size (Nat.le_trans HQ4.out.2.size hp))))
          subst hf6
          have HQ7 : Hid (CuF F w6 a6 (l0 ++ q) ∧ Below X.heap.size X w6) := ⟨hcu6, btr HB.out (HQ4.out.2.trans (HQ6.out.bel.mono HQ4.out.2.size)) (Nat.le_refl _)⟩
          clear hcu6
          rw [HAp.out]
          refine ⟨⟨i + 1, l0 ++ q, a6, n0 + qn, c6, by omega, by go_num, rfl, by omega, HAp, HRn, HQ7.out.1, HVq, HQ7.out.2⟩, by simp [intOf]; omega⟩
    · have HRn : Hid (R = some l0) := (show _ = _ by rw [HE.out, List.drop_of_length_le (by have := HPl.out; omega)]; rfl)
      clear HE
      go_wp2_with fail
      go_ret2
      exact ⟨btr HG.out.1 HB.out (by have := HG.out.2; omega), .inl ⟨l0, a0, c0, HRn.out, by rw [HL0.out]; rfl, HC0.out⟩⟩
end Go.Proofs.Ytmobmpghpdaddaa
namespace Go.Proofs.Ytmobmpghpdaddaa
open Go.ChangeShapes Go.WideShapes Go.ChangeAt Go.RowKit
set_option linter.unusedVariables false
set_option linter.unusedSimpArgs false

theorem ktR : Kt 81 52 1 := ⟨Try.underlying81, .slice none 0 0, 24, by kernel_rfl, rfl, by decide⟩
abbrev Ap (v : Value) (p : Addr) : Prop := v.ownBlock ≠ some p.block
theorem CuF.app {v v' : Value} {w V w2 : World} {a : Option Addr} {l : List K} (h : CuF (Ap v) w a l) (gV : Below w.heap.size w V) (g : V.grownBy w2 v.ownBlock) (hat : v'.ownBlock = v.ownBlock ∨ v'.ownBlock = some V.heap.size) : CuF (Ap v') w2 a l := by
  obtain ⟨hs, h1, h2, h3⟩ := h.ex
  have hsz := gV.size
  have hsz2 := g.size
  have keep : ∀ j, j < w.heap.size → v.ownBlock ≠ some j → w2.heap[j]? = w.heap[j]? ∧ v'.ownBlock ≠ some j := fun j hj hn => by
    refine ⟨(g.block j (by omega) (fun e => hn e.symm)).trans (gV.block j hj), ?_⟩
    rcases hat with e | e
    · rw [e]; exact hn
    · rw [e]; intro e2; have := Option.some.inj e2; omega
  refine ⟨⟨hs, ?_, ⟨h2.1, fun i i1 i2 => ?_⟩, ⟨h3.1, fun i i1 i2 h0 p hp => ?_⟩⟩, fun hl p hp => ?_⟩
  · rcases h1 with e | ⟨q, e, hq, hc⟩
    · exact .inl e
    · refine .inr ⟨q, e, by omega, ?_⟩
      by_cases hl : l = []
      · have : hs = [] := List.eq_nil_of_length_eq_zero (by rw [h2.1, hl]; rfl)
        subst this
        intro j hj
        cases hj
      · exact hc.block (keep q hq (h.fa hl _ e)).1
  · obtain ⟨t1, t2, t3⟩ := h2.2 i i1 i2
    refine ⟨t1, t2, ?_⟩
    by_cases h0 : toT l[i] = []
    · exact .inl h0
    · rcases t3 with e | ⟨q, o, e1, e2, e3⟩
      · exact .inl e
      · exact .inr ⟨q, o, e1, by omega, e3.block (keep q e2 (h3.2 i i1 i2 h0 _ e1)).1⟩
  · exact (keep p.block (tc_lt (h2.2 i i1 i2) h0 p hp) (h3.2 i i1 i2 h0 p hp)).2
  · rcases h1 with ⟨e, _⟩ | ⟨q, e, hq, hc⟩
    · rw [e] at hp; cases hp
    · rw [e] at hp
      cases hp
      exact (keep q hq (h.fa hl _ e)).2
/-- The document's lists so far. -/
structure LqI (w : World) (v : Value) (hv : List (List K)) (wr : World) : Prop where
  ex : ∃ hs, Own 52 hdL 1 w.heap.size wr v hs ∧ Hs (fun u h l => h.n = l.length ∧ CuF (Ap v) u h.a l) wr hs hv
  few : ∀ p ∈ hv, p.length ≤ 128
  vk : ∀ l ∈ hv, AllVk l
  bel : Below w.heap.size w wr
theorem LqI.nil (w : World) : LqI w (.slice none 0 0) [] w := ⟨⟨[], World.ownsRow_nil _ _ _ _, Hs.nil _⟩, fun p hp => (by cases hp), fun p hp => (by cases hp), Below.refl _ _⟩
theorem LqI.form {w wr : World} {v : Value} {hv : List (List K)} (h : LqI w v hv wr) : ∃ a c, v = .slice a hv.length c := by
  obtain ⟨hs, h1, h2⟩ := h.ex
  obtain ⟨a, c, e⟩ := own_form h1
  exact ⟨a, c, by rw [e, h2.1]⟩
theorem LqI.grow {w wr V : World} {v : Value} {hv : List (List K)} (h : LqI w v hv wr) (g : Below wr.heap.size wr V) : LqI w v hv V := by
  obtain ⟨hs, h1, h2⟩ := h.ex
  exact ⟨⟨hs, own_below h1 g, h2.mono fun i i1 i2 t => ⟨t.1, t.2.below g⟩⟩, h.few, h.vk, btr h.bel g (Nat.le_refl _)⟩
theorem LqI.ls {w wr : World} {a : Option Addr} {c : Nat} {hv : List (List K)} (h : LqI w (.slice a hv.length c) hv wr) : LsF (Ap (.slice a hv.length c)) wr a hv := by
  obtain ⟨hs, h1, h2⟩ := h.ex
  refine ⟨⟨hs, ?_, h2⟩, h.few, h.vk⟩
  by_cases h0 : 0 < hs.length
  · obtain ⟨g, cap, e, _, _, hg, hcs⟩ := own_at kdH h1 h0
    obtain ⟨e1, _, _⟩ := Value.slice.inj e
    exact .inr ⟨g, e1, hg, hcs⟩
  · exact .inl (List.length_eq_zero_iff.1 (by omega))
theorem LqI.app {w wr V w2 : World} {v v' : Value} {hv : List (List K)} {hs : List Hd} (h : LqI w v hv wr) (h1 : Own 52 hdL 1 w.heap.size wr v hs) (h2 : Hs (fun u h l => h.n = l.length ∧ CuF (Ap v) u h.a l) wr hs hv) {x : Hd} {r : List K} (hx : x.n = r.length ∧ CuF (Ap v) wr x.a r) (hr : r.length ≤ 128) (hk : AllVk r)
    (gV : Below wr.heap.size wr V) (o : Own 52 hdL 1 w.heap.size w2 v' (hs ++ [x])) (g : V.grownBy w2 v.ownBlock) (hat : v'.ownBlock = v.ownBlock ∨ v'.ownBlock = some V.heap.size) : LqI w v' (hv ++ [r]) w2 := by
  refine ⟨⟨hs ++ [x], o, Hs.snoc (Hs.mono (P' := fun u h l => h.n = l.length ∧ CuF (Ap v') u h.a l) (w' := w2) h2 fun i i1 i2 t => ⟨t.1, t.2.app gV g hat⟩) ⟨hx.1, hx.2.app gV g hat⟩⟩, fun p hp => ?_, fun p hp => ?_, (h.bel.trans (gV.mono h.bel.size)).grown g (Nat.le_trans h.bel.size gV.size) (fun j hj => (h1.lt j hj).1)⟩
  · rcases List.mem_append.1 hp with hp | hp
    · exact h.few p hp
    · rw [List.mem_singleton] at hp; subst hp; exact hr
  · rcases List.mem_append.1 hp with hp | hp
    · exact h.vk p hp
    · rw [List.mem_singleton] at hp; subst hp; exact hk
theorem AllVk.and : ∀ (ps : List (List K)) (l r : List K), AllVk l → (∀ p ∈ ps, AllVk p) → andL l ps = some r → AllVk r
  | [], l, r, hl, hm, h => by cases h; exact hl
  | p :: ps, l, r, hl, hm, h => by
    unfold andL at h
    split at h
    · cases h
    · exact AllVk.and ps _ r (hl.both (hm p (List.mem_cons_self ..))) (fun q hq => hm q (List.mem_cons_of_mem _ hq)) h
theorem AllVk.or : ∀ (ps : List (List K)) (l r : List K), AllVk l → (∀ p ∈ ps, AllVk p) → orL l ps = some r → AllVk r
  | [], l, r, hl, hm, h => by cases h; exact hl
  | p :: ps, l, r, hl, hm, h => by
    unfold orL at h
    split at h
    · cases h
    · next q hq =>
      split at h
      · cases h
      · refine AllVk.or ps _ r (fun k hk => ?_) (fun q hq => hm q (List.mem_cons_of_mem _ hq)) h
        rcases List.mem_append.1 hk with hk | hk
        · exact hl k hk
        · exact AllVk.left l p q (hm p (List.mem_cons_self ..)) hl hq k hk
theorem AllVk.node {x : Nd} {hv : List (List K)} {n : Int} {r : List K} (hx : rnB x n = true) (hm : ∀ p ∈ hv, AllVk p) (h : nodeL x (partsOf hv x.s) = some r) : AllVk r := by
  have hp : ∀ p ∈ partsOf hv x.s, AllVk p := fun p hp => by
    obtain ⟨i, _, e⟩ := List.mem_map.1 hp
    subst e
    rw [List.getD_eq_getElem?_getD]
    cases hg : hv[i.toNat]? with
    | none => exact fun k hk => by cases hk
    | some q => exact hm q (List.mem_of_getElem? hg)
  unfold nodeL at h
  split at h
  · cases h; exact allvk_top
  · split at h
    · next k3 =>
      cases h
      intro k hk
      rw [List.mem_singleton] at hk
      subst hk
      unfold rnB at hx
      rw [if_neg (by omega), if_pos k3, Bool.and_eq_true] at hx
      by_cases hm0 : x.t.m = 0#64
      · rw [mask0 hx.1 hm0]; exact Vk.top
      · exact cubF_vk (mask1 hx.1 hm0)
    · split at h
      · exact AllVk.and _ _ _ allvk_top hp h
      · split at h
        · exact AllVk.or _ _ _ (fun k hk => by cases hk) hp h
        · split at h
          · refine AllVk.left _ _ _ allvk_top ?_ h
            cases hq : partsOf hv x.s with
            | nil => exact fun k hk => by cases hk
            | cons p ps => exact hp p (by rw [hq]; exact List.mem_cons_self ..)
          · cases h; exact fun k hk => by cases hk
/-- What the document's Cubes answers. -/
def CdR (w : World) (l : List Nd) (e : Ending) (w' : World) : Prop :=
  (rightB l = false ∧ e = .returned (.tuple #[.slice none 0 0, .int .i64 1]) ∧ Below w.heap.size w w') ∨
  (rightB l = true ∧ listO l = none ∧ e = .returned (.tuple #[.slice none 0 0, .int .i64 44]) ∧ Below w.heap.size w w') ∨
  (rightB l = true ∧ ∃ r x d, listO l = some r ∧ e = .returned (.tuple #[.slice x r.length d, .int .i64 0]) ∧ CuF (fun _ => True) w' x r ∧ AllVk r ∧ Below w.heap.size w w')
set_option maxRecDepth 20000 in
set_option maxHeartbeats 4000000 in
theorem rcubes_any (a : Option Addr) (l : List Nd) (cap : Nat) (w : World) (hs : Ns w a l) (hl : l.length ≤ 9223372036854775807) (hss : ∀ x ∈ l, x.s.length ≤ 9223372036854775807) :
    Calls Try.prog 34 #[.agg #[.slice a l.length cap]] w fun e w' => CdR w l e w' := by
  obtain ⟨X, hX⟩ : ∃ X, w.alloc (.cells #[.slice a l.length cap] 24) = X := ⟨_, rfl⟩
  have gX : Below w.heap.size w X := by rw [← hX]; go_grown
  have cX : X.cell? ⟨w.heap.size, 0, none⟩ = some (.slice a l.length cap) := by rw [← hX]; simp
  have zX : X.heap.size = w.heap.size + 1 := by rw [← hX]; simp
  have HG : Hid (Below w.heap.size w X ∧ w.heap.size < X.heap.size) := ⟨gX, by omega⟩
  have HCd : Hid (∀ u, Below X.heap.size X u → u.cell? ⟨w.heap.size, 0, none⟩ = some (.slice a l.length cap)) := (show ∀ u, _ from fun u g => (g.cell (p := ⟨w.heap.size, 0, none⟩) (by show w.heap.size < _; omega)).trans cX)
  have HR : Hid (Calls Try.prog 10 #[.agg #[.slice a l.length cap]] X fun e w' => e = .returned (.bool (rightB l)) ∧ Below X.heap.size X w') := (show Calls _ _ _ _ _ from rright_any a l cap X (hs.below gX) hl hss)
  have HS : Hid (Ns X a l) := hs.below gX
  clear hs gX zX hss
  cases hb : rightB l with
  | false =>
    have HNo : Hid (∀ w', Below w.heap.size w w' → CdR w l (.returned (.tuple #[.slice none 0 0, .int .i64 1])) w') := (show ∀ w', _ from fun w' g => .inl ⟨hb, rfl, g⟩)
    rw [hb] at HR
    clear hb
    go_enter Try.func34, Try.ntmps34
    go_wp2_with (go_at_call 10; refine HR.out.mono ?_; rintro r w1 ⟨rfl, hb⟩; have HB1 : Hid (Below X.heap.size X w1) := hb; clear hb)
    go_ret2
    exact HNo.out _ (btr HG.out.1 HB1.out (by have := HG.out.2; omega))
  | true =>
    have HRb : Hid (rightB l = true) := hb
    obtain ⟨h1, h60⟩ := rightB_len hb
    obtain ⟨R, hR⟩ : ∃ R, listsF [] l = R := ⟨_, rfl⟩
    have H0 : Hid (R = listsF [] (l.drop 0)) := (show _ = _ from hR.symm)
    have HLo : Hid (listO l = R.map fun hv => hv.getLastD []) := (show _ = _ by unfold listO; rw [hR])
    rw [hb] at HR
    have HRes : Hid (∀ e w', Below w.heap.size w w' → ((listO l = none ∧ e = .returned (.tuple #[.slice none 0 0, .int .i64 44])) ∨ ∃ r x d, listO l = some r ∧ e = .returned (.tuple #[.slice x r.length d, .int .i64 0]) ∧ CuF (fun _ => True) w' x r ∧ AllVk r) → CdR w l e w') := (show ∀ e w', _ from fun e w' g h => by
      rcases h with ⟨h1, h2⟩ | ⟨r, x, d, h1, h2, h3, h4⟩
      · exact .inr (.inl ⟨hb, h1, h2, g⟩)
      · exact .inr (.inr ⟨hb, r, x, d, h1, h2, h3, h4, g⟩))
    obtain ⟨n, hn⟩ : ∃ n, l.length = n := ⟨_, rfl⟩
    have HN : Hid (l.length = n) := hn
    rw [hn] at h1 h60 hl HCd cX hX HR ⊢
    clear hn hb hR
    go_enter Try.func34, Try.ntmps34
    go_wp2_with (go_at_call 10; refine HR.out.mono ?_; rintro r w1 ⟨rfl, hb⟩; have HB1 : Hid (Below X.heap.size X w1) := hb; clear hb HR)
    clear cX hX
    go_loopw [4, 5] (fun v4 v5 wr => ∃ (k : Nat) (hv : List (List K)), k ≤ n ∧ v5 = .int .i64 k ∧ Hid (hv.length = k) ∧ Hid (LqI w1 v4 hv wr) ∧ Hid (R = listsF hv (l.drop k))) (fun _ v5 _ => n - (intOf v5).toNat)
    case atStart => exact ⟨0, [], Nat.zero_le _, rfl, rfl, LqI.nil w1, H0⟩
    case round =>
      obtain ⟨k, hv, hk, rfl, HP, HI, HE⟩ := hrel
      have HBr : Hid (Below X.heap.size X wr) := (show Below _ _ _ from HB1.out.trans (HI.out.bel.mono HB1.out.size))
      have cc := HCd.out wr HBr.out
      obtain ⟨a4, c4, hf4⟩ := HI.out.form
      have HI2 : Hid (LqI w1 (.slice a4 hv.length c4) hv wr) := (show LqI _ _ _ _ by rw [← hf4]; exact HI.out)
      rw [HP.out] at hf4
      subst hf4
      clear H0 HI
      by_cases hlt : k < n
      · have hkl : k < l.length := by have := HN.out; omega
        obtain ⟨g, o, rfl, hg, bb, c, hN, hc, hIs⟩ := (HS.out.below HBr.out).at hkl
        have hrn := rightB_at HRb.out k hkl
        have HE2 : Hid (R = match nodeL l[k] (partsOf hv l[k].s) with | none => none | some r => listsF (hv ++ [r]) (l.drop (k + 1))) := (show _ = _ by rw [HE.out, List.drop_eq_getElem_cons hkl]; rfl)
        obtain ⟨x, hx⟩ : ∃ y, l[k] = y := ⟨_, rfl⟩
        rw [hx] at hN hIs HE2 hrn hc
        obtain ⟨hs4, ow4, ls4⟩ := HI2.out.ex
        have HNd : Hid (Calls Try.prog 55 #[ndV x bb c, .slice a4 k c4] wr fun e w' => LoR (Ap (.slice a4 k c4)) wr (nodeL x (partsOf hv x.s)) e w') := (show Calls _ _ _ _ _ by
          have h := node_f (Ap (.slice a4 hv.length c4)) x bb c a4 hv c4 wr hIs HI2.out.ls (by rw [HP.out]; exact hrn) (fun p hp e => by have := (ow4.lt _ e).2; omega) (by have := HP.out; omega)
          rw [HP.out] at h
          exact h)
        have hrl : ∀ r, nodeL x (partsOf hv x.s) = some r → r.length ≤ 128 ∧ AllVk r := fun r h => ⟨nodeL_len h, AllVk.node hrn HI2.out.vk h⟩
        have HX4 : Hid (∀ w4 z d r, nodeL x (partsOf hv x.s) = some r → Below wr.heap.size wr w4 → CuF (Ap (.slice a4 k c4)) w4 z r → ∀ v' w5, Own 52 hdL 1 w1.heap.size w5 v' (hs4 ++ [⟨z, r.length, d⟩]) → (w4.alloc (.cells #[.slice z r.length d] 52)).grownBy w5 (Value.slice a4 k c4).ownBlock → (v'.ownBlock = (Value.slice a4 k c4).ownBlock ∨ v'.ownBlock = some (w4.alloc (.cells #[.slice z r.length d] 52)).heap.size) → LqI w1 v' (hv ++ [r]) w5) := (show ∀ w4 z d r, _ from fun w4 z d r hr g hz v' w5 ho2 hg2 hat => by
          have h2 := HI2.out.grow g
          have ls5 : Hs (fun u h l => h.n = l.length ∧ CuF (Ap (.slice a4 hv.length c4)) u h.a l) w4 hs4 hv := ls4.mono fun i i1 i2 t => ⟨t.1, t.2.below g⟩
          rw [← HP.out] at hz hg2 hat
          exact h2.app (own_below ow4 g) ls5 (x := ⟨z, r.length, d⟩) ⟨rfl, hz⟩ (hrl r hr).1 (hrl r hr).2 (by go_grown) ho2 hg2 hat)
        have HOw : Hid (Own 52 hdL 1 w1.heap.size wr (.slice a4 k c4) hs4 ∧ hs4.length = k ∧ w1.heap.size ≤ wr.heap.size) := ⟨by rw [← HP.out]; exact ow4, by rw [ls4.1, HP.out], HI2.out.bel.size⟩
        obtain ⟨c0, c1, c2, c3, c4'⟩ := hN
        clear HE hrn hx hIs hc ow4 ls4
        cases hO : nodeL x (partsOf hv x.s) with
        | none =>
          have HRn : Hid (listO l = none) := (show _ = _ by rw [HLo.out, HE2.out, hO]; rfl)
          have HNn : Hid (Calls Try.prog 55 #[ndV x bb c, .slice a4 k c4] wr fun e w' => e = .returned (.tuple #[.slice none 0 0, .bool false]) ∧ Below wr.heap.size wr w') := (show Calls _ _ _ _ _ from HNd.out.mono fun e w' ⟨h0, hq⟩ => by
            rcases hq with ⟨L, z, d, h1, _⟩ | ⟨_, h1⟩
            · rw [hO] at h1; cases h1
            · exact ⟨h1, h0⟩)
          clear HE2 HX4 hrl hO HNd
          go_wp2_with (go_at_call 55; refine HNn.out.mono ?_; rintro e w4 ⟨rfl, h1⟩; have HQ4 : Hid (Below X.heap.size X w4) := (show Below _ _ _ from btr HBr.out h1 (Nat.le_refl _)); clear h1)
          go_ret2
          exact HRes.out _ _ (btr HG.out.1 HQ4.out (by have := HG.out.2; omega)) (.inl ⟨HRn.out, rfl⟩)
        | some r =>
          have HRn : Hid (R = listsF (hv ++ [r]) (l.drop (k + 1))) := (show _ = _ by rw [HE2.out, hO])
          have HNy : Hid (Calls Try.prog 55 #[ndV x bb c, .slice a4 k c4] wr fun e w' => ∃ z d, e = .returned (.tuple #[.slice z r.length d, .bool true]) ∧ CuF (Ap (.slice a4 k c4)) w' z r ∧ Below wr.heap.size wr w') := (show Calls _ _ _ _ _ from HNd.out.mono fun e w' ⟨h0, hq⟩ => by
            rcases hq with ⟨L, z, d, h1, h2, h3⟩ | ⟨h1, _⟩
            · rw [hO] at h1; cases h1; exact ⟨z, d, h2, h3, h0⟩
            · rw [hO] at h1; cases h1)
          have HX5 : Hid (∀ w4 z d, Below wr.heap.size wr w4 → CuF (Ap (.slice a4 k c4)) w4 z r → ∀ v' w5, Own 52 hdL 1 w1.heap.size w5 v' (hs4 ++ [⟨z, r.length, d⟩]) → (w4.alloc (.cells #[.slice z r.length d] 52)).grownBy w5 (Value.slice a4 k c4).ownBlock → (v'.ownBlock = (Value.slice a4 k c4).ownBlock ∨ v'.ownBlock = some (w4.alloc (.cells #[.slice z r.length d] 52)).heap.size) → LqI w1 v' (hv ++ [r]) w5) := (show ∀ w4 z d, _ from fun w4 z d => HX4.out w4 z d r hO)
          clear HE2 HX4 hrl hO HNd
          generalize r.length = rn at *
          go_wp2_with (first
            | (go_at_call 55; refine HNy.out.mono ?_; rintro e w4 ⟨z, d, rfl, h1, h2⟩; have HQ4 : Hid (CuF (Ap (.slice a4 k c4)) w4 z r ∧ Below wr.heap.size wr w4) := ⟨h1, h2⟩; clear h1 h2)
            | (at_builtin; have gI : Below w4.heap.size w4 (w4.alloc (.cells #[.slice z rn d] 52)) := (by go_grown); have hcs : Cs hdL 1 (w4.alloc (.cells #[.slice z rn d] 52)) w4.heap.size 0 [⟨z, rn, d⟩] := cs_new (k := hdL) (s := 1) w4 ⟨z, rn, d⟩ 52; refine wpList_appK kdH ktR rfl (.tmp 30) (.tmp 32) rfl w1.heap.size (.slice a4 k c4) hs4 rfl (own_below HOw.out.1 (HQ4.out.2.trans (gI.mono HQ4.out.2.size))) w4.heap.size 0 1 1 [⟨z, rn, d⟩] rfl rfl hcs (by have := HOw.out.2.1; simp; omega) (Nat.le_trans HOw.out.2.2 (Nat.le_trans HQ4.out.2.size gI.size)) ?_; intro v' w5 ho2 hg2 hat; have HQ5 : Hid (LqI w1 v' (hv ++ [r]) w5) := HX5.out w4 z d HQ4.out.2 HQ4.out.1 v' w5 ho2 hg2 hat; clear ho2 hg2 hcs gI hat)
            | fail)
          go_roundw
          case rel => exact ⟨k + 1, hv ++ [r], by omega, by go_num, by rw [List.length_append, HP.out]; rfl, HQ5, HRn⟩
          case measure => simp [intOf]; omega
      · have hkn : k = n := by omega
        subst hkn
        have HRn : Hid (listO l = some (hv.getLastD [])) := (show _ = _ by
          rw [HLo.out, HE.out, List.drop_of_length_le (by have := HN.out; omega)]
          rfl)
        obtain ⟨N, hN⟩ : ∃ N, k = N + 1 := ⟨k - 1, by omega⟩
        subst hN
        have hNv : N < hv.length := by have := HP.out; omega
        obtain ⟨g4, y, d, ha4, hg4, hcy, hcu⟩ := HI2.out.ls.at hNv
        have hla := getLastD_at hv (by omega)
        have hgl : hv.getLastD [] = hv[N] := by rw [hla]; congr 1; have := HP.out; omega
        have hvk := HI2.out.vk _ (List.getElem_mem hNv)
        rw [hgl] at HRn
        obtain ⟨P, hP⟩ : ∃ P, hv[N] = P := ⟨_, rfl⟩
        rw [hP] at hcy hcu HRn hvk
        have HZ : Hid (CuF (fun _ => True) wr y P ∧ AllVk P ∧ Below w.heap.size w wr) := ⟨hcu.mono (fun _ _ _ => trivial), hvk, HG.out.1.trans (HBr.out.mono (by have := HG.out.2; omega))⟩
        obtain ⟨pn, hpn⟩ : ∃ n, P.length = n := ⟨_, rfl⟩
        have HPn : Hid (P.length = pn) := hpn
        rw [hpn] at hcy
        subst ha4
        clear hP hla hgl hcu hvk hNv hpn HE HI2
        go_wp2_with fail
        go_ret2
        exact HRes.out _ _ HZ.out.2.2 (.inr ⟨P, y, d, HRn.out, by rw [HPn.out]; rfl, HZ.out.1, HZ.out.2.1⟩)
end Go.Proofs.Ytmobmpghpdaddaa

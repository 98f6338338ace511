/-
  PredClash, walked.
-/
import Derived.Test.YtmobmpghpdaddabPickP
namespace Go.Proofs.Ytmobmpghpdaddab
open Go.ChangeShapes Go.WideShapes Go.ChangeAt Go.RowKit
set_option linter.unusedVariables false
set_option linter.unusedSimpArgs false

/-- Of two lists that are apart nothing is in both; of others something is. -/
theorem apart_both {A B : List K} {p q : Rw → Bool} (hA : Gd A p) (hB : Gd B q) (h : apartB A B = true) (r : Rw) : (p r && q r) = false := by
  cases hp : p r with
  | false => rfl
  | true =>
    cases hq : q r with
    | false => rfl
    | true =>
      have ca := hA.2 r
      have cb := hB.2 r
      rw [hp] at ca
      rw [hq] at cb
      simp only [if_true] at ca cb
      unfold cnt at ca cb
      obtain ⟨a, ha, ha2⟩ := List.countP_pos_iff.1 (show 0 < _ by omega : 0 < A.countP fun k => hasB k r)
      obtain ⟨b, hb, hb2⟩ := List.countP_pos_iff.1 (show 0 < _ by omega : 0 < B.countP fun k => hasB k r)
      have key := both_has (hA.1 a ha) (hB.1 b hb) r
      rw [ha2, hb2] at key
      unfold apartB noneB at h
      have h1 := List.all_eq_true.1 (List.all_eq_true.1 h a ha) b hb
      rw [Bool.not_eq_true'] at h1
      rw [h1] at key
      simp at key
theorem both_pick {A B : List K} {p q : Rw → Bool} (hA : Gd A p) (hB : Gd B q) {a b : K} (ha : a ∈ A) (hb : b ∈ B) (h : meetB a b = true) : p (valR (pkL (bothK a b))) = true ∧ q (valR (pkL (bothK a b))) = true := by
  have va := hA.1 a ha
  have vb := hB.1 b hb
  have hk := hasB_pk (va.both vb)
  have key := both_has va vb (valR (pkL (bothK a b)))
  rw [h, hk, Bool.and_true] at key
  obtain ⟨h1, h2⟩ := Bool.and_eq_true_iff.1 key.symm
  have c1 := cnt_pos ha h1
  have c2 := cnt_pos hb h2
  rw [hA.2] at c1
  rw [hB.2] at c2
  constructor
  · cases hp : p (valR (pkL (bothK a b))) with
    | true => rfl
    | false => rw [hp] at c1; simp at c1
  · cases hp : q (valR (pkL (bothK a b))) with
    | true => rfl
    | false => rw [hp] at c2; simp at c2
/-- Two predicates that are handed in, in boxes. -/
structure PyI (w : World) (a : Option Addr) (l : List Nd) (c : Nat) (b : Option Addr) (m : List Nd) (d : Nat) (u : World) : Prop where
  b1 : u.cell? ⟨w.heap.size, 0, none⟩ = some (.slice a l.length c)
  b2 : u.cell? ⟨w.heap.size + 1, 0, none⟩ = some (.slice b m.length d)
  n1 : Ns u a l
  n2 : Ns u b m
  lt : w.heap.size + 1 < u.heap.size
  bel : Below w.heap.size w u
theorem PyI.grow {w u u' : World} {a b : Option Addr} {l m : List Nd} {c d : Nat} (h : PyI w a l c b m d u) (g : Below u.heap.size u u') : PyI w a l c b m d u' :=
  ⟨(g.cell (p := ⟨w.heap.size, 0, none⟩) (Nat.lt_of_succ_lt h.lt)).trans h.b1, (g.cell (p := ⟨w.heap.size + 1, 0, none⟩) h.lt).trans h.b2, h.n1.below g, h.n2.below g, Nat.lt_of_lt_of_le h.lt g.size, btr h.bel g (Nat.le_refl _)⟩
theorem PyI.new (w : World) (a : Option Addr) (l : List Nd) (c : Nat) (b : Option Addr) (m : List Nd) (d : Nat) (h : Ns w a l) (g : Ns w b m) : PyI w a l c b m d ((w.alloc (.cells #[.slice a l.length c] 24)).alloc (.cells #[.slice b m.length d] 24)) :=
  ⟨by simp, by simp, h.below (by go_grown), g.below (by go_grown), by simp, by go_grown⟩
/-- Both lists of cubes, and the predicates. -/
structure ClI (w U1 U2 : World) (ga gb : Nat) (A B : List K) (a : Option Addr) (l : List Nd) (c : Nat) (b : Option Addr) (m : List Nd) (d : Nat) (u : World) : Prop where
  f1 : FiH U1 ga A.length A u
  f2 : FiH U2 gb B.length B u
  py : PyI w a l c b m d u
theorem ClI.grow {w U1 U2 u u' : World} {ga gb : Nat} {A B : List K} {a b : Option Addr} {l m : List Nd} {c d : Nat} (h : ClI w U1 U2 ga gb A B a l c b m d u) (g : Below u.heap.size u u') : ClI w U1 U2 ga gb A B a l c b m d u' := ⟨h.f1.grow g, h.f2.grow g, h.py.grow g⟩
set_option maxRecDepth 20000 in
set_option maxHeartbeats 8000000 in
theorem clash_walk (a : Option Addr) (l : List Nd) (cap : Nat) (b : Option Addr) (m : List Nd) (mc : Nat) (bv : Option Addr) (vs : List B64) (vc : Nat) (w : World) (hs : Ns w a l) (hss : ∀ x ∈ l, x.s.length ≤ 9223372036854775807) (hl : l.length ≤ 9223372036854775807) (hcap : l.length ≤ cap) (ht : Ns w b m) (hst : ∀ x ∈ m, x.s.length ≤ 9223372036854775807) (hm : m.length ≤ 9223372036854775807) (hmcap : m.length ≤ mc) (hv : Vs w bv vs) (hvl : vs.length ≤ 9223372036854775807) (hvc : vs.length ≤ vc) :
    Calls Try.prog 5 #[.agg #[.slice a l.length cap], .agg #[.slice b m.length mc], .slice bv vs.length vc] w fun e w' => e = .returned (.bool true) ∧ Below w.heap.size w w' := by
  have HAw : Hid (∀ u, Calls Try.prog 7 #[] u fun e w' => e = .returned (.bool true) ∧ Below u.heap.size u w') := (show ∀ u, _ from fun u => awake_any u)
  obtain ⟨X, hX⟩ : ∃ X, (w.alloc (.cells #[.slice a l.length cap] 24)).alloc (.cells #[.slice b m.length mc] 24) = X := ⟨_, rfl⟩
  have hP : PyI w a l cap b m mc X := by rw [← hX]; exact PyI.new w a l cap b m mc hs ht
  have cX := hP.b1
  have dX := hP.b2
  have HP : Hid (PyI w a l cap b m mc X) := hP
  have HV : Hid (∀ u, Below w.heap.size w u → Vs u bv vs) := (show ∀ u, _ from fun u g => hv.below g)
  have HDj : Hid (Calls Try.prog 15 #[.agg #[.slice a l.length cap], .agg #[.slice b m.length mc]] X fun e w' => e = .returned (.tuple #[.bool (djP l m).1, .int .i64 (djP l m).2]) ∧ PyI w a l cap b m mc w') := (show Calls _ _ _ _ _ from (disjoint_any a l cap b m mc X hP.n1 hP.n2 hl hm hss hst).mono fun e w' ⟨h1, h2⟩ => ⟨h1, hP.grow h2⟩)
  have HC1 : Hid (∀ u, PyI w a l cap b m mc u → Calls Try.prog 8 #[.agg #[.slice a l.length cap]] u fun e w' => CbR u l e w') := (show ∀ u, _ from fun u h => cubes_any a l cap u h.n1 hl hss)
  have HC2 : Hid (∀ u, PyI w a l cap b m mc u → Calls Try.prog 8 #[.agg #[.slice b m.length mc]] u fun e w' => CbR u m e w') := (show ∀ u, _ from fun u h => cubes_any b m mc u h.n2 hm hst)
  have HE1 : Hid (∀ u bx vx vy, PyI w a l cap b m mc u → Vs u bx vx → Calls Try.prog 11 #[.agg #[.slice a l.length cap], .slice bx vx.length vy] u fun e w' => e = .returned (.bool (evalB (valR vx) l)) ∧ Below u.heap.size u w') := (show ∀ u bx vx vy, _ from fun u bx vx vy h g => eval_any a l cap bx vx vy u h.n1 g hl hss)
  have HE2 : Hid (∀ u bx vx vy, PyI w a l cap b m mc u → Vs u bx vx → Calls Try.prog 11 #[.agg #[.slice b m.length mc], .slice bx vx.length vy] u fun e w' => e = .returned (.bool (evalB (valR vx) m)) ∧ Below u.heap.size u w') := (show ∀ u bx vx vy, _ from fun u bx vx vy h g => eval_any b m mc bx vx vy u h.n2 g hm hst)
  clear hP hs hss hv ht hst hvl hvc hcap hmcap
  by_cases h30 : 30 < l.length
  · have q1 : decide ((30 : Int) < (l.length : Int)) = true := by simp; omega
    clear h30 hl hm
    go_enter Try.func5, Try.ntmps5
    go_wp2_with (go_at_call 7; refine (HAw.out _).mono ?_; rintro e w2 ⟨rfl, hb⟩; have HB : Hid (Below w.heap.size w w2) := (show Below _ _ _ from btr HP.out.bel hb (Nat.le_refl _)); clear hb)
    go_ret
    exact ⟨rfl, HB.out⟩
  have q1 : decide ((30 : Int) < (l.length : Int)) = false := by simp; omega
  by_cases h31 : 30 < m.length
  · have q2 : decide ((30 : Int) < (m.length : Int)) = true := by simp; omega
    clear h30 h31 hl hm
    go_enter Try.func5, Try.ntmps5
    go_wp2_with (go_at_call 7; refine (HAw.out _).mono ?_; rintro e w2 ⟨rfl, hb⟩; have HB : Hid (Below w.heap.size w w2) := (show Below _ _ _ from btr HP.out.bel hb (Nat.le_refl _)); clear hb)
    go_ret
    exact ⟨rfl, HB.out⟩
  have q2 : decide ((30 : Int) < (m.length : Int)) = false := by simp; omega
  clear h30 h31
  rcases (show (∃ x : Int, (x = 1 ∨ x = 44) ∧ djP l m = (false, x)) ∨ (rightB l = true ∧ rightB m = true ∧ ∃ A B, listO l = some A ∧ listO m = some B ∧ djP l m = (apartB A B, 0)) by
    unfold djP
    cases h1 : rightB l <;> cases h2 : rightB m
    · exact .inl ⟨1, .inl rfl, rfl⟩
    · exact .inl ⟨1, .inl rfl, rfl⟩
    · exact .inl ⟨1, .inl rfl, rfl⟩
    · cases h3 : listO l with
      | none => exact .inl ⟨44, .inr rfl, rfl⟩
      | some A =>
        cases h4 : listO m with
        | none => exact .inl ⟨44, .inr rfl, rfl⟩
        | some B => exact .inr ⟨rfl, rfl, A, B, rfl, rfl, rfl⟩) with ⟨x, hx, hd⟩ | ⟨hr1, hr2, A, B, hA, hB, hd⟩
  · rw [hd] at HDj
    have hx0 : ¬ x = 0 := by omega
    have hx1 : (x == 0) = false := by simpa using hx0
    clear hd hx HC1 HC2 HE1 HE2 hl hm
    go_enter Try.func5, Try.ntmps5
    go_wp2_with (first
      | (go_at_call 15; refine HDj.out.mono ?_; rintro e w1 ⟨rfl, h1⟩; have HP1 : Hid (PyI w a l cap b m mc w1) := h1; clear h1)
      | (go_at_call 7; refine (HAw.out _).mono ?_; rintro e w2 ⟨rfl, hb⟩; have HB : Hid (Below w.heap.size w w2) := (show Below _ _ _ from btr HP1.out.bel hb (Nat.le_refl _)); clear hb))
    go_ret
    exact ⟨rfl, HB.out⟩
  · rw [hd] at HDj
    have HGA : Hid (Gd A (fun v => evalB v l)) := parts_good hr1 hA
    have HGB : Hid (Gd B (fun v => evalB v m)) := parts_good hr2 hB
    have hA128 := listO_len hA
    have hB128 := listO_len hB
    have HCp : Hid (∀ u, PyI w a l cap b m mc u → Calls Try.prog 8 #[.agg #[.slice a l.length cap]] u fun e w' => ∃ g, e = .returned (.tuple #[.slice (some ⟨g, 0, none⟩) A.length A.length, .int .i64 0]) ∧ FiH u g A.length A w' ∧ PyI w a l cap b m mc w') := (show ∀ u, _ from fun u hu => (HC1.out u hu).mono fun e w' h => by
      rcases h with ⟨h, _⟩ | ⟨_, h, _⟩ | ⟨_, r', q, h, h2, h3⟩
      · rw [hr1] at h; cases h
      · rw [hA] at h; cases h
      · rw [hA] at h; cases h; exact ⟨q, h2, h3, hu.grow h3.bel⟩)
    have HCq : Hid (∀ u, PyI w a l cap b m mc u → Calls Try.prog 8 #[.agg #[.slice b m.length mc]] u fun e w' => ∃ g, e = .returned (.tuple #[.slice (some ⟨g, 0, none⟩) B.length B.length, .int .i64 0]) ∧ FiH u g B.length B w' ∧ Below u.heap.size u w') := (show ∀ u, _ from fun u hu => (HC2.out u hu).mono fun e w' h => by
      rcases h with ⟨h, _⟩ | ⟨_, h, _⟩ | ⟨_, r', q, h, h2, h3⟩
      · rw [hr2] at h; cases h
      · rw [hB] at h; cases h
      · rw [hB] at h; cases h; exact ⟨q, h2, h3, h3.bel⟩)
    clear hd HC1 HC2 hr1 hr2 hA hB hl hm
    cases hap : apartB A B with
    | true =>
      rw [hap] at HDj
      have hno := apart_both HGA.out HGB.out hap (valR vs)
      have HEp : Hid (∀ u, PyI w a l cap b m mc u → Calls Try.prog 11 #[.agg #[.slice a l.length cap], .slice bv vs.length vc] u fun e w' => e = .returned (.bool (evalB (valR vs) l)) ∧ PyI w a l cap b m mc w') := (show ∀ u, _ from fun u h => (HE1.out u bv vs vc h (HV.out u h.bel)).mono fun e w' ⟨h1, h2⟩ => ⟨h1, h.grow h2⟩)
      have HEq : Hid (∀ u, PyI w a l cap b m mc u → Calls Try.prog 11 #[.agg #[.slice b m.length mc], .slice bv vs.length vc] u fun e w' => e = .returned (.bool (evalB (valR vs) m)) ∧ PyI w a l cap b m mc w') := (show ∀ u, _ from fun u h => (HE2.out u bv vs vc h (HV.out u h.bel)).mono fun e w' ⟨h1, h2⟩ => ⟨h1, h.grow h2⟩)
      generalize evalB (valR vs) l = x at *
      generalize evalB (valR vs) m = y at *
      clear hap HE1 HE2 HCp HCq HGA HGB hA128 hB128
      cases x with
      | false =>
        clear hno
        go_enter Try.func5, Try.ntmps5
        go_wp2_with (first
          | (go_at_call 15; refine HDj.out.mono ?_; rintro e w1 ⟨rfl, h1⟩; have HP1 : Hid (PyI w a l cap b m mc w1) := h1; have k1 := h1.b1; have k2 := h1.b2; clear h1)
          | (go_at_call 11; refine (HEp.out _ HP1.out).mono ?_; rintro e w2 ⟨rfl, h1⟩; have HP2 : Hid (PyI w a l cap b m mc w2) := h1; clear h1)
          | (go_at_call 7; refine (HAw.out _).mono ?_; rintro e w3 ⟨rfl, hb⟩; have HB : Hid (Below w.heap.size w w3) := (show Below _ _ _ from btr HP2.out.bel hb (Nat.le_refl _)); clear hb))
        go_ret
        exact ⟨rfl, HB.out⟩
      | true =>
        obtain rfl : y = false := hno
        go_enter Try.func5, Try.ntmps5
        go_wp2_with (first
          | (go_at_call 15; refine HDj.out.mono ?_; rintro e w1 ⟨rfl, h1⟩; have HP1 : Hid (PyI w a l cap b m mc w1) := h1; have k1 := h1.b1; have k2 := h1.b2; clear h1)
          | (go_at_call_of 11 (Value.agg #[.slice a l.length cap]); refine (HEp.out _ HP1.out).mono ?_; rintro e w2 ⟨rfl, h1⟩; have HP2 : Hid (PyI w a l cap b m mc w2) := h1; have k3 := h1.b2; clear h1 HEp)
          | (go_at_call 11; refine (HEq.out _ HP2.out).mono ?_; rintro e w4 ⟨rfl, h1⟩; have HP4 : Hid (PyI w a l cap b m mc w4) := h1; clear h1)
          | (go_at_call 7; refine (HAw.out _).mono ?_; rintro e w3 ⟨rfl, hb⟩; have HB : Hid (Below w.heap.size w w3) := (show Below _ _ _ from btr HP4.out.bel hb (Nat.le_refl _)); clear hb))
        go_ret
        exact ⟨rfl, HB.out⟩
    | false =>
      rw [hap] at HDj
      have HAp : Hid (apartB A B = false) := hap
      clear hap HV
      go_enter Try.func5, Try.ntmps5
      go_wp2_with (first
        | (go_at_call 15; refine HDj.out.mono ?_; rintro e w1 ⟨rfl, h1⟩; have HP1 : Hid (PyI w a l cap b m mc w1) := h1; have k1 := h1.b1; have k2 := h1.b2; clear h1)
        | (go_at_call_of 8 (Value.agg #[.slice a l.length cap]); refine (HCp.out _ HP1.out).mono ?_; rintro e w2 ⟨ga, rfl, h1, h2⟩; have HP2 : Hid (FiH w1 ga A.length A w2 ∧ PyI w a l cap b m mc w2) := ⟨h1, h2⟩; have k3 := h2.b2; clear h1 h2 HCp)
        | (go_at_call 8; refine (HCq.out _ HP2.out.2).mono ?_; rintro e w3 ⟨gb, rfl, h1, h2⟩; have HC : Hid (ClI w w1 w2 ga gb A B a l cap b m mc w3) := ⟨HP2.out.1.grow h2, h1, HP2.out.2.grow h2⟩; clear h1 h2 HCq))
      obtain ⟨nA, hnA⟩ : ∃ n, A.length = n := ⟨_, rfl⟩
      obtain ⟨nB, hnB⟩ : ∃ n, B.length = n := ⟨_, rfl⟩
      have HN : Hid (A.length = nA ∧ B.length = nB) := ⟨hnA, hnB⟩
      rw [hnA] at hA128 ⊢
      rw [hnB] at hB128 ⊢
      have H0 : Hid ((A.take 0).all (fun a => noneB a B) = true) := (show _ = _ from rfl)
      clear hnA hnB hX cX dX k1 k2 k3
      go_loopw [13] (fun v13 wr => ∃ i : Nat, i ≤ nA ∧ v13 = .int .i64 i ∧ Hid ((A.take i).all (fun a => noneB a B) = true) ∧ Hid (ClI w w1 w2 ga gb A B a l cap b m mc wr)) (fun v13 _ => nA - (intOf v13).toNat)
      case atStart => exact ⟨0, Nat.zero_le _, rfl, H0, HC⟩
      case round =>
        obtain ⟨i, hi, rfl, HI, HCw⟩ := hrel
        clear H0 HC
        by_cases hlt : i < nA
        · have hil : i < A.length := by have := HN.out.1; omega
          have H1 : Hid (noneB A[i] (B.take 0) = true) := (show _ = _ from rfl)
          have HNx : Hid (noneB A[i] B = true → (A.take (i + 1)).all (fun a => noneB a B) = true) := (show _ → _ from fun h => by rw [List.take_succ_eq_append_getElem hil, List.all_append, HI.out]; simp [h])
          obtain ⟨x, c, hcx, _, hTx⟩ := HCw.out.f1.at hil
          have HX : Hid (∀ u, Below wr.heap.size wr u → u.cell? ⟨ga, i, none⟩ = some (.slice x (toT A[i]).length c) ∧ Ts u x (toT A[i])) := (show ∀ u, _ from fun u g => ⟨(g.cell (p := ⟨ga, i, none⟩) HCw.out.f1.lt).trans hcx, hTx.below g⟩)
          have HAm : Hid (A[i] ∈ A ∧ Vk A[i]) := ⟨List.getElem_mem hil, HGA.out.1 _ (List.getElem_mem hil)⟩
          have HCg : Hid (∀ u, Below wr.heap.size wr u → ClI w w1 w2 ga gb A B a l cap b m mc u) := (show ∀ u, _ from fun u g => HCw.out.grow g)
          generalize A[i] = k at *
          clear hcx hTx HI HCw hil
          go_wp2_with fail
          obtain ⟨wo, hwo⟩ : ∃ y, y = wr := ⟨_, rfl⟩
          subst hwo
          go_loopw [14] (fun v14 wr2 => ∃ j : Nat, j ≤ nB ∧ v14 = .int .i64 j ∧ Hid (noneB k (B.take j) = true) ∧ Hid (Below wo.heap.size wo wr2)) (fun v14 _ => nB - (intOf v14).toNat)
          case atStart => exact ⟨0, Nat.zero_le _, rfl, H1, Below.refl _ _⟩
          case round =>
            obtain ⟨j, hj, rfl, HJ, HBw⟩ := hrel
            clear H1
            by_cases hlt2 : j < nB
            · have hjl : j < B.length := by have := HN.out.2; omega
              obtain ⟨y, d, hcy, _, hTy⟩ := (HCg.out wr HBw.out).f2.at hjl
              have hcx := (HX.out wr HBw.out).1
              have hTx := (HX.out wr HBw.out).2
              have hga := (HCg.out wr HBw.out).f1.lt
              have hgb := (HCg.out wr HBw.out).f2.lt
              have HJx : Hid (meetB k B[j] = false → noneB k (B.take (j + 1)) = true) := (show _ → _ from fun h => by
                have := HJ.out
                unfold noneB at this ⊢
                rw [List.take_succ_eq_append_getElem hjl, List.all_append, this]; simp [h])
              have HBm : Hid (B[j] ∈ B ∧ Vk B[j]) := ⟨List.getElem_mem hjl, HGB.out.1 _ (List.getElem_mem hjl)⟩
              generalize B[j] = q at *
              cases hme : meetB k q with
              | false =>
                have HM : Hid (∀ z : GrT wr, Calls Try.prog 14 #[.slice x (toT k).length c, .slice y (toT q).length d] z.w fun e w' => e = .returned (.tuple #[.slice none 0 0, .bool false]) ∧ Below z.w.heap.size z.w w') := (show ∀ z : GrT wr, _ from fun z => meet_no HAm.out.2 HBm.out.2 hme (hTx.below z.h) (hTy.below z.h))
                have HQ : Hid (noneB k (B.take (j + 1)) = true) := HJx.out hme
                generalize (toT k).length = M0 at *
                generalize (toT q).length = M1 at *
                have hx' : ∀ z : GrT wr, z.w.cell? ⟨ga, i, none⟩ = some (.slice x M0 c) := fun z => cell_gr hcx hga z
                have hy' : ∀ z : GrT wr, z.w.cell? ⟨gb, j, none⟩ = some (.slice y M1 d) := fun z => cell_gr hcy hgb z
                clear hTx hTy hcx hcy hga hgb HJ HJx hme HBm
                go_wp2_with fail
                refine wp_region_grow (by kernel_rfl) (by kernel_rfl) ?_
                repeat (go_big_quiet_step ((go_at_call 14; exact quiet_gr (HM.out _))))
                refine wpQuiet_nil ?_
                rintro w6 hw'
                have g1 := gr_elim hw'
                clear hw'
                have HB6 : Hid (Below wo.heap.size wo w6) := (show Below _ _ _ from btr HBw.out g1 (Nat.le_refl _))
                clear g1 hx' hy'
                go_wp2_with fail
                go_roundw
                case rel => exact ⟨j + 1, by omega, by go_num, HQ, HB6⟩
                case measure => simp [intOf]; omega
              | true =>
                have hpk := both_pick HGA.out HGB.out HAm.out.1 HBm.out.1 hme
                have vbk : Vk (bothK k q) := HAm.out.2.both HBm.out.2
                have HM : Hid (∀ u, Below wr.heap.size wr u → Calls Try.prog 14 #[.slice x (toT k).length c, .slice y (toT q).length d] u fun e w' => ∃ z f, e = .returned (.tuple #[.slice z (toT (bothK k q)).length f, .bool true]) ∧ Ts w' z (toT (bothK k q)) ∧ Below wr.heap.size wr w' ∧ w'.cell? ⟨ga, i, none⟩ = some (.slice x (toT k).length c) ∧ w'.cell? ⟨gb, j, none⟩ = some (.slice y (toT q).length d)) := (show ∀ u, _ from fun u g => (meet_yes HAm.out.2 HBm.out.2 hme (hTx.below g) (hTy.below g)).mono fun e w' ⟨z, f, h1, h2, h3⟩ => by
                  have g2 := btr g h3 (Nat.le_refl _)
                  exact ⟨z, f, h1, h2, g2, (g2.cell (p := ⟨ga, i, none⟩) hga).trans hcx, (g2.cell (p := ⟨gb, j, none⟩) hgb).trans hcy⟩)
                have HPk : Hid (∀ u z f, Below wr.heap.size wr u → Ts u z (toT (bothK k q)) → Calls Try.prog 12 #[.slice z (toT (bothK k q)).length f] u fun e w' => ∃ bb, e = .returned (.slice (some ⟨bb, 0, none⟩) 10 10) ∧ Vs w' (some ⟨bb, 0, none⟩) (pkL (bothK k q)) ∧ PyI w a l cap b m mc w') := (show ∀ u z f, _ from fun u z f g hT => (pick_k vbk hT).mono fun e w' ⟨bb, h1, h2, h3⟩ => ⟨bb, h1, h2, (HCg.out w' (btr HBw.out (btr g h3 (Nat.le_refl _)) (Nat.le_refl _))).py⟩)
                have HEp : Hid (∀ u bb, PyI w a l cap b m mc u → Vs u (some ⟨bb, 0, none⟩) (pkL (bothK k q)) → Calls Try.prog 11 #[.agg #[.slice a l.length cap], .slice (some ⟨bb, 0, none⟩) 10 10] u fun e w' => e = .returned (.bool true) ∧ PyI w a l cap b m mc w' ∧ Vs w' (some ⟨bb, 0, none⟩) (pkL (bothK k q))) := (show ∀ u bb, _ from fun u bb h g => by
                  have := HE1.out u (some ⟨bb, 0, none⟩) (pkL (bothK k q)) 10 h g
                  rw [pkL_len, hpk.1] at this
                  exact this.mono fun e w' ⟨h1, h2⟩ => ⟨h1, h.grow h2, g.below h2⟩)
                have HEq : Hid (∀ u bb, PyI w a l cap b m mc u → Vs u (some ⟨bb, 0, none⟩) (pkL (bothK k q)) → Calls Try.prog 11 #[.agg #[.slice b m.length mc], .slice (some ⟨bb, 0, none⟩) 10 10] u fun e w' => e = .returned (.bool true) ∧ PyI w a l cap b m mc w') := (show ∀ u bb, _ from fun u bb h g => by
                  have := HE2.out u (some ⟨bb, 0, none⟩) (pkL (bothK k q)) 10 h g
                  rw [pkL_len, hpk.2] at this
                  exact this.mono fun e w' ⟨h1, h2⟩ => ⟨h1, h.grow h2⟩)
                generalize pkL (bothK k q) = P0 at *
                generalize toT (bothK k q) = T0 at *
                generalize (toT k).length = M0 at *
                generalize (toT q).length = M1 at *
                have HDr : Hid (Below wr.heap.size wr wr.drew) := (show Below _ _ _ from (Below.refl _ _).drew)
                clear hTx hTy hga hgb HJ HJx hme HBm HAm hpk vbk HX HCg HNx HE1 HE2
                go_wp2_with fail
                go_region_held (fun W => W.cell? ⟨ga, i, none⟩ = some (.slice x M0 c) ∧ W.cell? ⟨gb, j, none⟩ = some (.slice y M1 d)) (first | assumption | exact ⟨by assumption, by assumption⟩ | exact ⟨hcx, hcy⟩) ((go_at_call 14; refine (HM.out _ HDr.out).mono ?_; rintro e w6 ⟨z, f, rfl, h1, h2, h3, h4⟩; have HM6 : Hid (Ts w6 z T0 ∧ Below wr.heap.size wr w6) := ⟨h1, h2⟩; clear h1 h2))
                go_wp2_with (first
                  | (go_at_call 12; refine (HPk.out _ z f HM6.out.2 HM6.out.1).mono ?_; rintro e w7 ⟨bb, rfl, h1, h2⟩; have HP7 : Hid (PyI w a l cap b m mc w7 ∧ Vs w7 (some ⟨bb, 0, none⟩) P0) := ⟨h2, h1⟩; have k1 := h2.b1; clear h1 h2)
                  | (go_at_call_of 11 (Value.agg #[.slice a l.length cap]); refine (HEp.out _ bb HP7.out.1 HP7.out.2).mono ?_; rintro e w8 ⟨rfl, h1, h2⟩; have HP8 : Hid (PyI w a l cap b m mc w8 ∧ Vs w8 (some ⟨bb, 0, none⟩) P0) := ⟨h1, h2⟩; have k2 := h1.b2; clear h1 h2 HEp)
                  | (go_at_call 11; refine (HEq.out _ bb HP8.out.1 HP8.out.2).mono ?_; rintro e w9 ⟨rfl, h1⟩; have HP9 : Hid (PyI w a l cap b m mc w9) := h1; clear h1)
                  | (go_at_call 7; refine (HAw.out _).mono ?_; rintro e w10 ⟨rfl, hb⟩; have HB : Hid (Below w.heap.size w w10) := (show Below _ _ _ from btr HP9.out.bel hb (Nat.le_refl _)); clear hb))
                go_ret
                exact ⟨rfl, HB.out⟩
            · have HQ : Hid ((A.take (i + 1)).all (fun a => noneB a B) = true ∧ ClI w w1 w2 ga gb A B a l cap b m mc wr) := ⟨HNx.out (by have := HJ.out; rwa [List.take_of_length_le (by have := HN.out.2; omega)] at this), HCg.out wr HBw.out⟩
              clear HJ HNx
              go_wp2_with fail
              refine ⟨⟨i + 1, by omega, by go_num, HQ.out.1, HQ.out.2⟩, by simp [intOf]; omega⟩
        · exfalso
          have h1 := HI.out
          rw [List.take_of_length_le (by have := HN.out.1; omega)] at h1
          have h2 := HAp.out
          unfold apartB at h2
          rw [h1] at h2
          cases h2
end Go.Proofs.Ytmobmpghpdaddab

/-
  The cubes of the last node.
-/
import Derived.Test.YtmobmpghpdaddaaNodeL
namespace Go.Proofs.Ytmobmpghpdaddaa
open Go.ChangeShapes Go.WideShapes Go.ChangeAt Go.RowKit
set_option linter.unusedVariables false

def partsOf (hv : List (List K)) (s : List Int) : List (List K) := s.map fun i => hv.getD i.toNat []
def listsF : List (List K) → List Nd → Option (List (List K))
  | hv, [] => some hv
  | hv, x :: l => match nodeL x (partsOf hv x.s) with
    | none => none
    | some r => listsF (hv ++ [r]) l
def listO (l : List Nd) : Option (List K) := (listsF [] l).map fun hv => hv.getLastD []
theorem andL_len : ∀ (ps : List (List K)) (l r : List K), l.length ≤ 128 → andL l ps = some r → r.length ≤ 128
  | [], l, r, hl, h => by cases h; exact hl
  | p :: ps, l, r, hl, h => by
    unfold andL at h
    split at h
    · cases h
    · exact andL_len ps _ r (by omega) h
theorem orL_len : ∀ (ps : List (List K)) (l r : List K), l.length ≤ 128 → orL l ps = some r → r.length ≤ 128
  | [], l, r, hl, h => by cases h; exact hl
  | p :: ps, l, r, hl, h => by
    unfold orL at h
    split at h
    · cases h
    · split at h
      · cases h
      · exact orL_len ps _ r (by omega) h
theorem nodeL_len {x : Nd} {ps : List (List K)} {r : List K} (h : nodeL x ps = some r) : r.length ≤ 128 := by
  unfold nodeL at h
  split at h
  · cases h; simp
  · split at h
    · cases h; simp
    · split at h
      · exact andL_len _ _ _ (by simp) h
      · split at h
        · exact orL_len _ _ _ (by simp) h
        · split at h
          · exact leftL_len _ _ _ (by simp) h
          · cases h; simp
/-- Lists of cubes: a row of headers of its own, and what they lead to beside it. -/
structure LiI (w : World) (v : Value) (hv : List (List K)) (wr : World) : Prop where
  ex : ∃ hs, Own 84 hdL 1 w.heap.size wr v hs ∧ Hs (fun u h l => Cc u h l ∧ (l ≠ [] → ∀ p, h.a = some p → p.block < u.heap.size ∧ v.ownBlock ≠ some p.block)) wr hs hv
  few : ∀ p ∈ hv, p.length ≤ 128
  bel : Below w.heap.size w wr
theorem ktL : Kt 93 84 1 := ⟨Try.underlying93, .slice none 0 0, 24, by kernel_rfl, rfl, by decide⟩
theorem LiI.nil (w : World) : LiI w (.slice none 0 0) [] w := ⟨⟨[], World.ownsRow_nil _ _ _ _, Hs.nil _⟩, fun p hp => (by cases hp), Below.refl _ _⟩
theorem LiI.grow {w wr V : World} {v : Value} {hv : List (List K)} (h : LiI w v hv wr) (g : Below wr.heap.size wr V) : LiI w v hv V := by
  obtain ⟨hs, h1, h2⟩ := h.ex
  exact ⟨⟨hs, own_below h1 g, h2.mono fun i i1 i2 ⟨t1, t2⟩ => ⟨t1.below g, fun hl p hp => ⟨Nat.lt_of_lt_of_le (t2 hl p hp).1 g.size, (t2 hl p hp).2⟩⟩⟩, h.few, btr h.bel g (Nat.le_refl _)⟩
theorem LiI.form {w wr : World} {v : Value} {hv : List (List K)} (h : LiI w v hv wr) : ∃ a c, v = .slice a hv.length c := by
  obtain ⟨hs, h1, h2⟩ := h.ex
  obtain ⟨a, c, e⟩ := own_form h1
  exact ⟨a, c, by rw [e, h2.1]⟩
theorem LiI.at {w wr : World} {a : Option Addr} {c : Nat} {hv : List (List K)} (h : LiI w (.slice a hv.length c) hv wr) {j : Nat} (hj : j < hv.length) : ∃ g x n d, a = some ⟨g, 0, none⟩ ∧ wr.cell? ⟨g, j, none⟩ = some (.slice x n d) ∧ g < wr.heap.size ∧ n = hv[j].length ∧ Cc wr ⟨x, n, d⟩ hv[j] ∧ (hv[j] ≠ [] → ∀ p, x = some p → p.block < wr.heap.size) := by
  obtain ⟨hs, h1, h2⟩ := h.ex
  obtain ⟨g, cap, hv', hc, hb, hg, hcs⟩ := own_at kdH h1 (by rw [h2.1]; omega)
  obtain ⟨e1, _, _⟩ := Value.slice.inj hv'
  subst e1
  have := hcs j (by rw [h2.1]; exact hj) 0 (by decide)
  have h4 := h2.2 j (by rw [h2.1]; exact hj) hj
  refine ⟨g, hs[j].a, hs[j].n, hs[j].c, rfl, ?_, hg, h4.1.1, h4.1, fun hl p hp => (h4.2 hl p hp).1⟩
  rw [Nat.mul_one, Nat.add_zero, Nat.zero_add] at this
  exact this
/-- One list more. -/
theorem LiI.app {w wr V w2 : World} {v v' : Value} {hv : List (List K)} {hs : List Hd} (h : LiI w v hv wr) (h1 : Own 84 hdL 1 w.heap.size wr v hs) (h2 : Hs (fun u h l => Cc u h l ∧ (l ≠ [] → ∀ p, h.a = some p → p.block < u.heap.size ∧ v.ownBlock ≠ some p.block)) wr hs hv) {x : Hd} {r : List K} (hx : Cc wr x r) (hxl : r ≠ [] → ∀ p, x.a = some p → p.block < wr.heap.size ∧ v.ownBlock ≠ some p.block) (hr : r.length ≤ 128)
    (gV : Below wr.heap.size wr V) (o : Own 84 hdL 1 w.heap.size w2 v' (hs ++ [x])) (g : V.grownBy w2 v.ownBlock) (hat : v'.ownBlock = v.ownBlock ∨ v'.ownBlock = some V.heap.size) : LiI w v' (hv ++ [r]) w2 := by
  have hsz := gV.size
  have keep : ∀ {h : Hd} {l : List K}, Cc wr h l → (l ≠ [] → ∀ p, h.a = some p → p.block < wr.heap.size ∧ v.ownBlock ≠ some p.block) → Cc w2 h l ∧ (l ≠ [] → ∀ p, h.a = some p → p.block < w2.heap.size ∧ v'.ownBlock ≠ some p.block) := fun {h l} t1 t2 => by
    by_cases hl : l = []
    · exact ⟨⟨t1.1, t1.2.1, .inl hl⟩, fun h => absurd hl h⟩
    refine ⟨⟨t1.1, t1.2.1, ?_⟩, fun _ p hp => ?_⟩
    · rcases t1.2.2 with e | ⟨b, o, e1, e2, e3⟩
      · exact .inl e
      · have := t2 hl _ e1
        have eb : w2.heap[b]? = wr.heap[b]? := (g.block b (by omega) (fun e => this.2 e.symm)).trans (gV.block b e2)
        exact .inr ⟨b, o, e1, by have := g.size; omega, e3.block eb⟩
    · have := t2 hl p hp
      refine ⟨by have := g.size; omega, ?_⟩
      rcases hat with e | e
      · rw [e]; exact this.2
      · rw [e]; intro e2; have := Option.some.inj e2; omega
  refine ⟨⟨hs ++ [x], o, Hs.snoc (Hs.mono (P' := fun u h l => Cc u h l ∧ (l ≠ [] → ∀ p, h.a = some p → p.block < u.heap.size ∧ v'.ownBlock ≠ some p.block)) (w' := w2) h2 fun i i1 i2 t => keep t.1 t.2) (keep hx hxl)⟩, fun p hp => ?_, (h.bel.trans (gV.mono h.bel.size)).grown g (Nat.le_trans h.bel.size hsz) (fun j hj => (h1.lt j hj).1)⟩
  rcases List.mem_append.1 hp with hp | hp
  · exact h.few p hp
  · rw [List.mem_singleton] at hp; subst hp; exact hr
theorem right_at : ∀ (l : List Nd) (j : Nat), rightFrom j l = true → ∀ i (h : i < l.length), rnB l[i] ((j + i : Nat) : Int) = true
  | [], j, _, i, h => by cases h
  | x :: l, j, hr, i, h => by
    unfold rightFrom at hr
    rw [Bool.and_eq_true] at hr
    cases i with
    | zero => exact hr.1
    | succ i =>
      have := right_at l (j + 1) hr.2 i (by simpa using h)
      rw [show j + (i + 1) = j + 1 + i by omega]
      exact this
theorem rightB_at {l : List Nd} (h : rightB l = true) (i : Nat) (hi : i < l.length) : rnB l[i] (i : Int) = true := by
  unfold rightB at h
  rw [Bool.and_eq_true] at h
  have := right_at l 0 h.2 i hi
  rwa [Nat.zero_add] at this
theorem rightB_len {l : List Nd} (h : rightB l = true) : 1 ≤ l.length ∧ l.length ≤ 60 := by
  unfold rightB at h
  simp at h
  have := h.1.1
  refine ⟨?_, h.1.2⟩
  cases l with
  | nil => simp at this
  | cons x l => simp
theorem rnB_subs {x : Nd} {p : Int} (h : rnB x p = true) : ∀ i ∈ x.s, 0 ≤ i ∧ i < p := by
  have ah : aheadB x.s p = true ∨ x.s.length = 0 := by
    unfold rnB at h
    split at h
    · simp at h; right; simp [h.2]
    · split at h
      · simp at h; right; simp [h.2]
      · split at h
        · rw [Bool.and_eq_true] at h; exact .inl h.2
        · split at h
          · rw [Bool.and_eq_true] at h; exact .inl h.2
          · cases h
  intro i hi
  rcases ah with ah | ah
  · unfold aheadB at ah
    rw [Bool.not_eq_true', List.any_eq_false] at ah
    have := ah i hi
    unfold badB at this
    simp at this
    omega
  · rw [List.length_eq_zero_iff.1 ah] at hi; cases hi
theorem getLastD_at (hv : List (List K)) (h : 0 < hv.length) : hv.getLastD [] = hv[hv.length - 1]'(by omega) := by
  rw [List.getLastD_eq_getLast?, List.getLast?_eq_getElem?, List.getElem?_eq_getElem (by omega)]
  rfl
/-- What is handed on, part by part: its contents lie below B. -/
abbrev CcB (B : Nat) (u : World) (h : Hd) (l : List K) : Prop := Cc u h l ∧ (l ≠ [] → ∀ p, h.a = some p → p.block < B)
theorem parts_step {V wr Y w4 : World} {v v' : Value} {phs : List Hd} {P P' : List (List K)} {x : Hd} {q : List K} (h : RwI 84 hdL 1 V v phs wr) (h2 : Hs (CcB V.heap.size) wr phs P) (gY : Below wr.heap.size wr Y) (hx : CcB V.heap.size wr x q) (o : Own 84 hdL 1 V.heap.size w4 v' (phs ++ [x])) (g : Y.grownBy w4 v.ownBlock) (e : P' = P ++ [q]) :
    ∃ phs, RwI 84 hdL 1 V v' phs w4 ∧ Hs (CcB V.heap.size) w4 phs P' := by
  have gg : Below V.heap.size V w4 := (h.app gY o g).bel
  have hlt : ∀ j, v.ownBlock = some j → V.heap.size ≤ j := fun j hj => (own_lt h.own hj).1
  have keep : ∀ {h' : Hd} {l : List K}, CcB V.heap.size wr h' l → CcB V.heap.size w4 h' l := fun {h' l} t => by
    by_cases hl : l = []
    · exact ⟨⟨t.1.1, t.1.2.1, .inl hl⟩, fun h => absurd hl h⟩
    refine ⟨⟨t.1.1, t.1.2.1, ?_⟩, t.2⟩
    rcases t.1.2.2 with e | ⟨b, o, e1, e2, e3⟩
    · exact .inl e
    · have hbV : b < V.heap.size := t.2 hl _ e1
      have eb : w4.heap[b]? = wr.heap[b]? := (g.block b (Nat.lt_of_lt_of_le e2 gY.size) (fun e => by have := hlt b e.symm; omega)).trans (gY.block b e2)
      exact .inr ⟨b, o, e1, Nat.lt_of_lt_of_le e2 (Nat.le_trans gY.size g.size), e3.block eb⟩
  rw [e]
  exact ⟨phs ++ [x], h.app gY o g, Hs.snoc (Hs.mono (P' := CcB V.heap.size) (w' := w4) h2 fun i i1 i2 t => keep t) (keep hx)⟩
set_option maxRecDepth 20000 in
set_option maxHeartbeats 16000000 in
theorem listOf_any (a : Option Addr) (l : List Nd) (cap : Nat) (w : World) (hs : Ns w a l) (hl : l.length ≤ 9223372036854775807) (hss : ∀ x ∈ l, x.s.length ≤ 9223372036854775807) :
    Calls Try.prog 56 #[.agg #[.slice a l.length cap]] w fun e w' => (rightB l = false ∧ e = .returned (.tuple #[.slice none 0 0, .int .i64 1]) ∧ Below w.heap.size w w') ∨ (rightB l = true ∧ LsR w (fun _ => True) (listO l) e w') := by
  obtain ⟨X, hX⟩ : ∃ X, w.alloc (.cells #[.slice a l.length cap] 24) = X := ⟨_, rfl⟩
  have gX : Below w.heap.size w X := by rw [← hX]; go_grown
  have zX : X.heap.size = w.heap.size + 1 := by rw [← hX]; simp
  have cX : X.cell? ⟨w.heap.size, 0, none⟩ = some (.slice a l.length cap) := by rw [← hX]; simp
  have HG : Hid (Below w.heap.size w X ∧ w.heap.size < X.heap.size) := ⟨gX, by omega⟩
  have HR : Hid (Calls Try.prog 9 #[.agg #[.slice a l.length cap]] X fun e w' => e = .returned (.bool (rightB l)) ∧ Below X.heap.size X w' ∧ w'.cell? ⟨w.heap.size, 0, none⟩ = some (.slice a l.length cap)) := (show Calls _ _ _ _ _ from (right_any a l cap X (hs.below gX) hl hss).mono fun e w' ⟨h1, h2⟩ => ⟨h1, h2, (h2.cell (p := ⟨w.heap.size, 0, none⟩) (by show w.heap.size < _; omega)).trans cX⟩)
  have HS : Hid (Ns X a l) := hs.below gX
  clear gX zX hs hss
  cases hb : rightB l with
  | false =>
    rw [hb] at HR
    clear hb
    go_enter Try.func56, Try.ntmps56
    go_wp2_with (go_at_call 9; refine HR.out.mono ?_; rintro r w1 ⟨rfl, hb, hc⟩; have HB1 : Hid (Below X.heap.size X w1) := hb; clear hb)
    go_ret2
    exact .inl ⟨by first | rfl | trivial, rfl, btr HG.out.1 HB1.out (by have := HG.out.2; omega)⟩
  | true =>
    have HRb : Hid (rightB l = true) := hb
    have h60 := (rightB_len hb).2
    rw [hb] at HR
    clear hb
    have HYes : Hid (∀ (r : List K) a' c' w', listO l = some r → Below w.heap.size w w' → Sk cubL 20 w' a' r → r.length ≤ c' → LsR w (fun _ => True) (listO l) (.returned (.tuple #[.slice a' r.length c', .int .i64 0])) w') := (show ∀ (r : List K) a' c' w', _ from fun r a' c' w' h1 h2 h3 h4 => ⟨h2, .inl ⟨r, a', c', h1, rfl, h3, h4, fun p hp => .inr trivial⟩⟩)
    have HNo : Hid (∀ w', listO l = none → Below w.heap.size w w' → LsR w (fun _ => True) (listO l) (.returned (.tuple #[.slice none 0 0, .int .i64 44])) w') := (show ∀ w', _ from fun w' h1 h2 => ⟨h2, .inr ⟨h1, rfl⟩⟩)
    have HE0 : Hid (listsF [] l = listsF [] (l.drop 0)) := (show _ = _ from rfl)
    obtain ⟨R, hR⟩ : ∃ R, listsF [] l = R := ⟨_, rfl⟩
    have HRo : Hid (listO l = R.map fun hv => hv.getLastD []) := (show _ = _ by rw [← hR]; rfl)
    rw [hR] at HE0
    obtain ⟨RO, hRO⟩ : ∃ RO, listO l = RO := ⟨_, rfl⟩
    rw [hRO] at HYes HNo HRo ⊢
    clear hR hRO
    go_enter Try.func56, Try.ntmps56
    go_wp2_with (go_at_call 9; refine HR.out.mono ?_; rintro r w1 ⟨rfl, hb, hc⟩; have HB1 : Hid (Below X.heap.size X w1 ∧ Ns w1 a l) := ⟨hb, HS.out.below hb⟩; clear hb)
    clear cX hX
    go_loopw [4, 18] (fun v4 v18 wr => ∃ (k : Nat) (hv : List (List K)), k ≤ l.length ∧ v18 = .int .i64 k ∧ hv.length = k ∧ Hid (LiI w1 v4 hv wr) ∧ Hid (R = listsF hv (l.drop k))) (fun _ v18 _ => l.length - (intOf v18).toNat)
    case atStart => exact ⟨0, [], Nat.zero_le _, rfl, rfl, LiI.nil w1, HE0⟩
    case round =>
      obtain ⟨k, hv, hk, rfl, hvl, HI, HE⟩ := hrel
      have HVl : Hid (hv.length = k) := hvl
      clear HE0 hvl hc
      by_cases hlt : k < l.length
      · obtain ⟨g, o, rfl, hg, b, c, hN, hc, hIs⟩ := (HB1.out.2.below HI.out.bel).at hlt
        have HE2 : Hid (R = match nodeL l[k] (partsOf hv l[k].s) with | none => none | some r => listsF (hv ++ [r]) (l.drop (k + 1))) := (show _ = _ by rw [HE.out, List.drop_eq_getElem_cons hlt]; rfl)
        have hrn := rightB_at HRb.out k hlt
        obtain ⟨x, hx⟩ : ∃ y, l[k] = y := ⟨_, rfl⟩
        rw [hx] at hN hIs HE2 hrn hc
        have HRn : Hid (rnB x k = true) := hrn
        have HSub : Hid (∀ i ∈ x.s, 0 ≤ i ∧ i < (k : Int)) := rnB_subs hrn
        have hs12 := rnB_len hrn
        clear HE hx hrn
        obtain ⟨wo, hwo⟩ : ∃ y, y = wr := ⟨_, rfl⟩
        subst hwo
        obtain ⟨V, hV, hNV, gV, zV⟩ := boxN wo x b c
        obtain ⟨c0, c1, c2, c3, c4⟩ := hN
        have HN5 : Hid (N5 V wo.heap.size 0 x b c ∧ wo.heap.size < V.heap.size) := ⟨hNV, by omega⟩
        obtain ⟨d0, d1, d2, d3, d4⟩ := hNV
        have HLi : Hid (LiI w1 u4 hv V) := HI.out.grow gV
        have HIs : Hid (Is V b x.s) := hIs.below gV
        obtain ⟨a4, c4', h4⟩ := HI.out.form
        clear HI gV hIs
        have H0 : Hid (∃ phs, RwI 84 hdL 1 V (.slice none 0 0) phs V ∧ Hs (CcB V.heap.size) V phs (partsOf hv (x.s.take 0))) := ⟨[], RwI.nil V, Hs.nil V⟩
        subst h4
        rw [HVl.out] at HLi ⊢
        go_wp2_with fail
        go_loopw [7, 25] (fun v7 v25 wr => ∃ i : Nat, i ≤ x.s.length ∧ v25 = .int .i64 i ∧ Hid (∃ phs, RwI 84 hdL 1 V v7 phs wr ∧ Hs (CcB V.heap.size) wr phs (partsOf hv (x.s.take i)))) (fun _ v25 _ => x.s.length - (intOf v25).toNat)
        case atStart => exact ⟨0, Nat.zero_le _, rfl, H0⟩
        case round =>
          obtain ⟨i, hi, rfl, HP⟩ := hrel
          clear H0
          obtain ⟨phs, hRw, hHs⟩ := HP.out
          have HBw : Hid (Below V.heap.size V wr) := hRw.bel
          by_cases hlt2 : i < x.s.length
          · obtain ⟨g2, o2, rfl, hg2, hcs⟩ := (HIs.out.below hRw.bel).at hlt2
            have e0 := hcs i hlt2
            obtain ⟨m0, m1⟩ := HSub.out _ (List.getElem_mem hlt2)
            have HT : Hid (partsOf hv (x.s.take (i + 1)) = partsOf hv (x.s.take i) ++ [hv.getD x.s[i].toNat []]) := (show _ = _ by unfold partsOf; rw [List.take_succ_eq_append_getElem hlt2, List.map_append]; rfl)
            obtain ⟨z, hz⟩ : ∃ y, x.s[i] = y := ⟨_, rfl⟩
            rw [hz] at e0 m0 m1 HT
            obtain ⟨m, rfl⟩ : ∃ m : Nat, z = (m : Int) := ⟨z.toNat, by omega⟩
            have hmk : m < k := by omega
            have hvlen := HVl.out
            have hmv : m < hv.length := by omega
            obtain ⟨g4, y, n, d, e4, hcell0, hg4, hn, hCc, hpb⟩ := LiI.at (a := a4) (c := c4') (by rw [hvlen]; exact HLi.out) (j := m) hmv
            subst e4
            have hq0 : hv.getD ((m : Int)).toNat [] = hv[m] := by simp [List.getD_eq_getElem?_getD, hmv]
            obtain ⟨q, hq⟩ : ∃ q, hv[m] = q := ⟨_, rfl⟩
            rw [hq] at hCc hq0 hpb
            have hcell : wr.cell? ⟨g4, m, none⟩ = some (.slice y n d) := (hRw.bel.cell (p := ⟨g4, m, none⟩) hg4).trans hcell0
            have HM : Hid (hv.getD ((m : Int)).toNat [] = q ∧ CcB V.heap.size wr ⟨y, n, d⟩ q) := (show _ ∧ _ from ⟨hq0, hCc.below hRw.bel, hpb⟩)
            clear hq hq0 hcell0 hpb hg4 hn hmv
            obtain ⟨Y, hY⟩ : ∃ Y, wr.alloc (.cells #[.slice y n d] 84) = Y := ⟨_, rfl⟩
            have cY := cs_new (k := hdL) (s := 1) wr ⟨y, n, d⟩ 84
            have gY : Below wr.heap.size wr (wr.alloc (.cells #[.slice y n d] 84)) := by go_grown
            have HY : Hid (Cs hdL 1 (wr.alloc (.cells #[.slice y n d] 84)) wr.heap.size 0 [⟨y, n, d⟩] ∧ Below wr.heap.size wr (wr.alloc (.cells #[.slice y n d] 84))) := ⟨cY, gY⟩
            obtain ⟨a7, c7, hf7⟩ := own_form hRw.own
            subst hf7
            have HRw : Hid (RwI 84 hdL 1 V (.slice a7 phs.length c7) phs wr ∧ Hs (CcB V.heap.size) wr phs (partsOf hv (x.s.take i)) ∧ phs.length ≤ 1000) := ⟨hRw, hHs, by rw [hHs.1]; unfold partsOf; rw [List.length_map, List.length_take]; omega⟩
            have hmk' : (m : Int) < (k : Int) := by omega
            clear hY cY gY hCc hz hcs hRw hHs HP hvlen
            go_wp2_with (at_builtin; refine wpList_appK kdH ktL rfl (.tmp 29) (.tmp 34) rfl V.heap.size (.slice a7 phs.length c7) phs rfl (own_below HRw.out.1.own HY.out.2) wr.heap.size 0 1 1 [⟨y, n, d⟩] rfl rfl HY.out.1 (by have := HRw.out.2.2; simp; omega) (by have := HRw.out.1.bel.size; have := HY.out.2.size; omega) ?_; intro v' w4 ho2 hg2 _; have HQ : Hid (∃ phs, RwI 84 hdL 1 V v' phs w4 ∧ Hs (CcB V.heap.size) w4 phs (partsOf hv (x.s.take (i + 1)))) := (show ∃ phs, _ from parts_step HRw.out.1 HRw.out.2.1 HY.out.2 HM.out.2 ho2 hg2 (by (rw [HT.out, HM.out.1]))); clear ho2 hg2)
            go_roundw
            case rel => exact ⟨i + 1, by omega, by go_num, HQ⟩
            case measure => simp [intOf]; omega
          · obtain ⟨phs, hRw, hHs⟩ := HP.out
            have hE : x.s.take i = x.s := List.take_of_length_le (by omega)
            rw [hE] at hHs
            obtain ⟨PS, hPS⟩ : ∃ y, partsOf hv x.s = y := ⟨_, rfl⟩
            have hPl : PS.length = x.s.length := by rw [← hPS]; unfold partsOf; rw [List.length_map]
            rw [hPS] at hHs HE2
            have hfew : ∀ p ∈ PS, p.length ≤ 128 := fun p hp => by
              rw [← hPS] at hp
              unfold partsOf at hp
              obtain ⟨z, hz, rfl⟩ := List.mem_map.1 hp
              have hm := HSub.out z hz
              have hvlen := HVl.out
              rw [List.getD_eq_getElem?_getD, List.getElem?_eq_getElem (by omega)]
              exact HLi.out.few _ (List.getElem_mem _)
            obtain ⟨a7, c7, hf7, hc7, hsk7⟩ := own_sk kdH hRw.own
            rw [hHs.1] at hf7
            have hPts : Pts wr a7 PS := ⟨⟨phs, hHs.1, hsk7, hHs.mono fun i i1 i2 t => t.1⟩, hfew⟩
            subst hf7
            have HNl : Hid (Calls Try.prog 64 #[ndV x b c, .slice a7 PS.length c7] wr fun e w' => LsR wr (fun _ => False) (nodeL x PS) e w') := nodeList_any x b c a7 PS c7 k wr hPts (by omega) HRn.out hPl
            have HBw : Hid (Below V.heap.size V wr) := hRw.bel
            have HLw : Hid (LiI w1 (.slice a4 k c4') hv wr) := HLi.out.grow hRw.bel
            have HLen : Hid (∀ r, nodeL x PS = some r → r.length ≤ 128) := (show ∀ r, _ from fun r h => nodeL_len h)
            have e0 : wr.cell? ⟨wo.heap.size, 0, none⟩ = some (.int .i64 x.k) := (hRw.bel.cell (p := ⟨wo.heap.size, 0, none⟩) HN5.out.2).trans HN5.out.1.c0
            have e1 : wr.cell? ⟨wo.heap.size, 1, none⟩ = some (.int .i64 x.t.f) := (hRw.bel.cell (p := ⟨wo.heap.size, 1, none⟩) HN5.out.2).trans HN5.out.1.c1
            have e2 : wr.cell? ⟨wo.heap.size, 2, none⟩ = some (cv x.t.v) := (hRw.bel.cell (p := ⟨wo.heap.size, 2, none⟩) HN5.out.2).trans HN5.out.1.c2
            have e3 : wr.cell? ⟨wo.heap.size, 3, none⟩ = some (cv x.t.m) := (hRw.bel.cell (p := ⟨wo.heap.size, 3, none⟩) HN5.out.2).trans HN5.out.1.c3
            have e4 : wr.cell? ⟨wo.heap.size, 4, none⟩ = some (.slice b x.s.length c) := (hRw.bel.cell (p := ⟨wo.heap.size, 4, none⟩) HN5.out.2).trans HN5.out.1.c4
            have HBall : Hid (Below w.heap.size w wr) := (show Below _ _ _ from btr (btr HG.out.1 HB1.out.1 (by have := HG.out.2; omega)) HLw.out.bel (by have := HG.out.2; have := HB1.out.1.size; omega))
            clear hE hPS hPl hfew hsk7 hPts hHs hRw HP hc7 HLi d0 d1 d2 d3 d4 c0 c1 c2 c3 c4
            cases hnl : nodeL x PS with
            | none =>
              have HR2 : Hid (RO = none) := (show _ = _ by rw [HRo.out, HE2.out, hnl]; rfl)
              rw [hnl] at HNl
              clear HE2 HLen hnl
              go_wp2_with (go_at_call 64; refine HNl.out.mono ?_; rintro e w2 ⟨hb, hq⟩; have HB2 : Hid (Below w.heap.size w w2) := (show Below _ _ _ from btr HBall.out hb (Nat.le_refl _)); rcases hq with ⟨m, am, cm, hm, _⟩ | ⟨_, rfl⟩; exact absurd hm (by simp); clear hb)
              go_ret2
              exact .inr ⟨by first | rfl | trivial | exact HRb.out, HNo.out _ HR2.out HB2.out⟩
            | some r =>
              have HR2 : Hid (R = listsF (hv ++ [r]) (l.drop (k + 1))) := (show _ = _ by rw [HE2.out, hnl])
              have hr128 := HLen.out r hnl
              rw [hnl] at HNl
              have HNl2 : Hid (Calls Try.prog 64 #[ndV x b c, .slice a7 PS.length c7] wr fun e w' => ∃ am cm, e = .returned (.tuple #[.slice am r.length cm, .int .i64 0]) ∧ LiI w1 (.slice a4 k c4') hv w' ∧ Cc w' ⟨am, r.length, cm⟩ r ∧ (r ≠ [] → ∀ p, am = some p → p.block < w'.heap.size ∧ (Value.slice a4 k c4').ownBlock ≠ some p.block)) := (show Calls _ _ _ _ _ from HNl.out.mono fun e w' ⟨hb, hq⟩ => by
                rcases hq with ⟨m2, am, cm, hm, he, h3, h4, h5⟩ | ⟨hm, _⟩
                · cases hm
                  refine ⟨am, cm, he, HLw.out.grow hb, ⟨rfl, h4, h3⟩, fun hl p hp => ⟨?_, fun e => ?_⟩⟩
                  · rcases h3 with h | ⟨g', o', h6, h7, _⟩
                    · exact absurd h hl
                    · rw [hp] at h6; cases h6; exact h7
                  · have h7 := (h5 p hp).elim id (fun h => h.elim)
                    obtain ⟨hs4, h8, _⟩ := HLw.out.ex
                    have := (own_lt h8 e).2
                    omega
                · cases hm)
              have HBn : Hid (w.heap.size ≤ wr.heap.size) := HBall.out.size
              clear HE2 HLen hnl HNl
              go_wp2_with (first
                | (go_at_call 64; refine HNl2.out.mono ?_; rintro e w2 ⟨am, cm, rfl, p1, p2, p3⟩; have HP2 : Hid (LiI w1 (.slice a4 k c4') hv w2 ∧ Cc w2 ⟨am, r.length, cm⟩ r ∧ (r ≠ [] → ∀ p, am = some p → p.block < w2.heap.size ∧ (Value.slice a4 k c4').ownBlock ≠ some p.block)) := ⟨p1, p2, p3⟩; (obtain ⟨hs4, p4, p5⟩ := p1.ex); have gY : Below w2.heap.size w2 (w2.alloc (.cells #[.slice am r.length cm] 84)) := (by go_grown); have HP4 : Hid (Own 84 hdL 1 w1.heap.size w2 (.slice a4 k c4') hs4 ∧ Hs (fun u h l => Cc u h l ∧ (l ≠ [] → ∀ p, h.a = some p → p.block < u.heap.size ∧ (Value.slice a4 k c4').ownBlock ≠ some p.block)) w2 hs4 hv ∧ hs4.length ≤ 1000 ∧ Below w2.heap.size w2 (w2.alloc (.cells #[.slice am r.length cm] 84)) ∧ Cs hdL 1 (w2.alloc (.cells #[.slice am r.length cm] 84)) w2.heap.size 0 [⟨am, r.length, cm⟩]) := ⟨p4, p5, (by (rw [p5.1, HVl.out]); omega), gY, cs_new (k := hdL) (s := 1) w2 ⟨am, r.length, cm⟩ 84⟩; clear p1 p2 p3 p4 p5 gY)
                | (at_builtin; refine wpList_appK kdH ktL rfl (.tmp 46) (.tmp 48) rfl w1.heap.size (.slice a4 k c4') hs4 rfl (own_below HP4.out.1 HP4.out.2.2.2.1) w2.heap.size 0 1 1 [⟨am, r.length, cm⟩] rfl rfl HP4.out.2.2.2.2 (by have := HP4.out.2.2.1; simp; omega) (by have := HP2.out.1.bel.size; have := HP4.out.2.2.2.1.size; omega) ?_; intro v' w4 ho2 hg2 hat; have HQ : Hid (LiI w1 v' (hv ++ [r]) w4) := (show LiI _ _ _ _ from HP2.out.1.app HP4.out.1 HP4.out.2.1 HP2.out.2.1 HP2.out.2.2 hr128 HP4.out.2.2.2.1 ho2 hg2 hat); clear ho2 hg2 hat))
              go_roundw
              case rel => exact ⟨k + 1, hv ++ [r], by omega, by go_num, by rw [List.length_append, HVl.out]; rfl, HQ, HR2⟩
              case measure => simp [intOf]; omega
      · have hk2 : k = l.length := by omega
        have hpos : 0 < hv.length := by have := (rightB_len HRb.out).1; have := HVl.out; omega
        have hvlen := HVl.out
        obtain ⟨a4, c4', h4⟩ := HI.out.form
        subst h4
        obtain ⟨g4, y, n, d, e4, hcell, hg4, hn, hCc, hpb⟩ := HI.out.at (j := hv.length - 1) (by omega)
        have HRes : Hid (RO = some (hv[hv.length - 1]'(by omega))) := (show _ = _ by rw [HRo.out, HE.out, List.drop_of_length_le (by omega)]; show some (hv.getLastD []) = _; rw [getLastD_at hv hpos])
        obtain ⟨q, hq⟩ : ∃ q, hv[hv.length - 1]'(by omega) = q := ⟨_, rfl⟩
        rw [hq] at HRes hCc hn
        have HC : Hid (Cc wr ⟨y, n, d⟩ q ∧ Below w.heap.size w wr) := ⟨hCc, btr (btr HG.out.1 HB1.out.1 (by have := HG.out.2; omega)) HI.out.bel (by have := HG.out.2; have := HB1.out.1.size; omega)⟩
        subst e4
        obtain ⟨N, hN⟩ : ∃ N, hv.length = N + 1 := ⟨hv.length - 1, by omega⟩
        rw [hN] at hcell ⊢
        rw [Nat.add_sub_cancel] at hcell
        have hN1 : (N : Int) + 1 < 1000 := by omega
        subst hn
        clear hpb hq HI HE hCc hpos hvlen hk2 hN
        go_wp2_with fail
        go_ret2
        exact .inr ⟨by first | rfl | trivial | exact HRb.out, HYes.out _ _ _ _ HRes.out HC.out.2 HC.out.1.2.2 HC.out.1.2.1⟩
end Go.Proofs.Ytmobmpghpdaddaa

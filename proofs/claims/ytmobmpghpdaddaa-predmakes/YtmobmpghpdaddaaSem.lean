/-
  The cubes of a predicate are its parts (nothing of the program).
-/
import Derived.Test.YtmobmpghpdaddaaAwake
namespace Go.Proofs.Ytmobmpghpdaddaa
open Go.ChangeShapes Go.WideShapes Go.ChangeAt Go.RowKit
set_option linter.unusedVariables false
set_option linter.unusedSimpArgs false

abbrev Rw := Nat → B64
/-- Cubes, each as whole ones are, of which just one has values in it that are told. -/
def Gd (L : List K) (p : Rw → Bool) : Prop := (∀ k ∈ L, Vk k) ∧ ∀ r, cnt r L = if p r then 1 else 0
theorem Gd.congr {L : List K} {p q : Rw → Bool} (h : Gd L p) (e : ∀ r, p r = q r) : Gd L q := ⟨h.1, fun r => by rw [h.2 r, e r]⟩
theorem hasB_top (r : Rw) : hasB K.top r = true := by
  rw [hasB_iff]
  intro f _
  simp [K.top]
theorem Gd.top : Gd [K.top] (fun _ => true) := ⟨fun k hk => by rw [List.mem_singleton] at hk; subst hk; exact Vk.top, fun r => by rw [cnt_one, hasB_top]⟩
theorem Gd.nil : Gd [] (fun _ => false) := ⟨fun k hk => (by cases hk), fun r => (by simp [cnt])⟩
theorem vk_one {t : Tst} (h : trB t = true) : Vk (cubF [t]) := by
  obtain ⟨h1, h2, h3⟩ := (trB_iff t).1 h
  have e : cubF [t] = setT K.top t := rfl
  rw [e]
  refine ⟨fun f hf => ?_, fun f => ?_⟩
  · unfold setT at hf
    by_cases hft : f = t.f.toNat
    · omega
    · simp only at hf
      rw [upd_other _ _ hft] at hf
      exact absurd rfl hf
  · unfold setT
    by_cases hft : f = t.f.toNat
    · subst hft
      simp only
      rw [upd_same, upd_same]
      exact sub_of h3
    · simp only
      rw [upd_other _ _ hft, upd_other _ _ hft]
      simp [K.top]
theorem Gd.one {t : Tst} (h : trB t = true) : Gd [cubF [t]] (fun r => hasB (cubF [t]) r) := ⟨fun k hk => by rw [List.mem_singleton] at hk; subst hk; exact vk_one h, fun r => cnt_one r _⟩
theorem both1_mem {a k : K} {m : List K} (h : k ∈ both1 a m) : ∃ b ∈ m, k = bothK a b := by
  unfold both1 at h
  obtain ⟨b, hb, rfl⟩ := List.mem_map.1 h
  exact ⟨b, (List.mem_filter.1 hb).1, rfl⟩
theorem both1_cnt {a : K} (ha : Vk a) (r : Rw) : ∀ m : List K, (∀ k ∈ m, Vk k) → cnt r (both1 a m) = if hasB a r then cnt r m else 0
  | [], _ => by unfold both1; simp [cnt]
  | b :: m, h => by
    have ih := both1_cnt ha r m (fun k hk => h k (List.mem_cons_of_mem _ hk))
    have hb := h b (List.mem_cons_self ..)
    have key := both_has ha hb r
    unfold both1 at ih ⊢
    rw [List.filter_cons]
    cases hm : meetB a b with
    | true =>
      rw [hm, Bool.true_and] at key
      rw [if_pos rfl, List.map_cons, cnt_cons, ih, key, cnt_cons]
      cases hasB a r <;> cases hasB b r <;> simp
    | false =>
      rw [hm, Bool.false_and] at key
      rw [if_neg (by simp), ih, cnt_cons]
      revert key
      cases hasB a r <;> cases hasB b r <;> simp
theorem bothL_vk {l m : List K} (hl : ∀ k ∈ l, Vk k) (hm : ∀ k ∈ m, Vk k) : ∀ k ∈ bothL l m, Vk k := fun k hk => by
  unfold bothL at hk
  obtain ⟨a, ha, hk⟩ := List.mem_flatMap.1 hk
  obtain ⟨b, hb, rfl⟩ := both1_mem hk
  exact (hl a ha).both (hm b hb)
theorem bothL_cnt (r : Rw) {m : List K} (hm : ∀ k ∈ m, Vk k) : ∀ l : List K, (∀ k ∈ l, Vk k) → cnt r (bothL l m) = cnt r l * cnt r m
  | [], _ => by simp [bothL, cnt]
  | a :: l, h => by
    have ih := bothL_cnt r hm l (fun k hk => h k (List.mem_cons_of_mem _ hk))
    have e : bothL (a :: l) m = both1 a m ++ bothL l m := rfl
    rw [e, cnt_app, ih, both1_cnt (h a (List.mem_cons_self ..)) r m hm, cnt_cons]
    cases hasB a r <;> simp [Nat.add_mul]
theorem Gd.both {l m : List K} {p q : Rw → Bool} (h : Gd l p) (g : Gd m q) : Gd (bothL l m) (fun r => p r && q r) :=
  ⟨bothL_vk h.1 g.1, fun r => by rw [bothL_cnt r g.1 l h.1, h.2 r, g.2 r]; show _ = if (p r && q r) = true then 1 else 0; cases p r <;> cases q r <;> simp⟩
/-- What is cut off. -/
theorem cutR_vk {o : K} (ho : Vk o) : ∀ (ps : List (Nat × Nat)) (c : K), Vk c → (∀ q ∈ ps, (o.m q.1).getLsbD q.2 = true) → ∀ k ∈ cutR o c ps, Vk k
  | [], c, _, _ => fun k hk => by cases hk
  | p :: ps, c, hc, hp => fun k hk => by
    have h0 := hp p (List.mem_cons_self ..)
    rcases List.mem_cons.1 hk with rfl | hk
    · exact hc.flip ho h0
    · exact cutR_vk ho ps _ (hc.keep ho h0) (fun q hq => hp q (List.mem_cons_of_mem _ hq)) k hk
theorem cutL_vk {c o : K} (hc : Vk c) (ho : Vk o) : ∀ k ∈ cutL c o, Vk k := by
  unfold cutL
  split
  · exact cutR_vk ho _ c hc (fun q hq => ((pos_mem c o 10 q).1 hq).2.2.1)
  · intro k hk
    rw [List.mem_singleton] at hk
    subst hk
    exact hc
theorem flat_cnt {b : K} (hb : Vk b) (r : Rw) : ∀ l : List K, (∀ k ∈ l, Vk k) → cnt r (l.flatMap fun k => cutL k b) = if hasB b r then 0 else cnt r l
  | [], _ => by simp [cnt]
  | a :: l, h => by
    have ih := flat_cnt hb r l (fun k hk => h k (List.mem_cons_of_mem _ hk))
    rw [List.flatMap_cons, cnt_app, ih, cutL_cnt (h a (List.mem_cons_self ..)) hb, cnt_cons]
    cases hasB a r <;> cases hasB b r <;> simp
theorem leftL_good (r : Rw) : ∀ (gone l L : List K), (∀ k ∈ l, Vk k) → (∀ k ∈ gone, Vk k) → leftL l gone = some L → (∀ k ∈ L, Vk k) ∧ cnt r L = if cnt r gone = 0 then cnt r l else 0
  | [], l, L, hl, _, h => by
    cases h
    exact ⟨hl, by simp [cnt]⟩
  | b :: gone, l, L, hl, hg, h => by
    unfold leftL at h
    split at h
    · cases h
    · have hb := hg b (List.mem_cons_self ..)
      have hv : ∀ k ∈ l.flatMap fun k => cutL k b, Vk k := fun k hk => by
        obtain ⟨a, ha, hk⟩ := List.mem_flatMap.1 hk
        exact cutL_vk (hl a ha) hb k hk
      obtain ⟨h1, h2⟩ := leftL_good r gone _ L hv (fun k hk => hg k (List.mem_cons_of_mem _ hk)) h
      refine ⟨h1, ?_⟩
      rw [h2, flat_cnt hb r l hl, cnt_cons]
      cases hasB b r <;> simp
theorem Gd.left {l m L : List K} {p q : Rw → Bool} (h : Gd l p) (g : Gd m q) (e : leftL l m = some L) : Gd L (fun r => p r && !q r) :=
  ⟨(leftL_good (fun _ => 0#64) m l L h.1 g.1 e).1, fun r => by rw [(leftL_good r m l L h.1 g.1 e).2, h.2 r, g.2 r]; show _ = if (p r && !q r) = true then 1 else 0; cases p r <;> cases q r <;> simp⟩
theorem Gd.app {l m : List K} {p q : Rw → Bool} (h : Gd l p) (g : Gd m (fun r => q r && !p r)) : Gd (l ++ m) (fun r => p r || q r) :=
  ⟨fun k hk => (List.mem_append.1 hk).elim (h.1 k) (g.1 k), fun r => by rw [cnt_app, h.2 r, g.2 r]; show _ + (if (q r && !p r) = true then 1 else 0) = if (p r || q r) = true then 1 else 0; cases p r <;> cases q r <;> simp⟩
/-- And, Or of parts that are told by their places. -/
theorem andL_good {α : Type} (F : α → List K) (q : α → Rw → Bool) : ∀ (s : List α) (l L : List K) (p : Rw → Bool), Gd l p → (∀ i ∈ s, Gd (F i) (q i)) → andL l (s.map F) = some L → Gd L (fun r => p r && s.all fun i => q i r)
  | [], l, L, p, h, _, e => by
    cases e
    exact h.congr fun r => by simp
  | i :: s, l, L, p, h, g, e => by
    rw [List.map_cons] at e
    unfold andL at e
    split at e
    · cases e
    · have hi := g i (List.mem_cons_self ..)
      exact (andL_good F q s _ L _ (h.both hi) (fun j hj => g j (List.mem_cons_of_mem _ hj)) e).congr fun r => by rw [List.all_cons, Bool.and_assoc]
theorem orL_good {α : Type} (F : α → List K) (q : α → Rw → Bool) : ∀ (s : List α) (l L : List K) (p : Rw → Bool), Gd l p → (∀ i ∈ s, Gd (F i) (q i)) → orL l (s.map F) = some L → Gd L (fun r => p r || s.any fun i => q i r)
  | [], l, L, p, h, _, e => by
    cases e
    exact h.congr fun r => by simp
  | i :: s, l, L, p, h, g, e => by
    rw [List.map_cons] at e
    unfold orL at e
    have hi := g i (List.mem_cons_self ..)
    cases hm : leftL (F i) l with
    | none => rw [hm] at e; cases e
    | some m =>
      rw [hm] at e
      simp only at e
      split at e
      · cases e
      · exact (orL_good F q s _ L _ (h.app (hi.left h hm)) (fun j hj => g j (List.mem_cons_of_mem _ hj)) e).congr fun r => by rw [List.any_cons, Bool.or_assoc]
theorem yes_all (s : List Int) (P : List Bool) : decide (yesC s P = s.length) = s.all fun i => P.getD i.toNat false := by
  induction s with
  | nil => rfl
  | cons i s ih =>
    have hle := yesC_le s P
    unfold yesC at ih hle ⊢
    rw [List.filter_cons, List.all_cons, ← ih]
    generalize P.getD i.toNat false = y
    cases y with
    | true => simp
    | false =>
      rw [if_neg (by simp), Bool.false_and, List.length_cons]
      exact decide_eq_false (by omega)
theorem yes_any (s : List Int) (P : List Bool) : decide (0 < yesC s P) = s.any fun i => P.getD i.toNat false := by
  induction s with
  | nil => rfl
  | cons i s ih =>
    unfold yesC at ih ⊢
    rw [List.filter_cons, List.any_cons, ← ih]
    cases P.getD i.toNat false with
    | true => simp
    | false => simp
/-- The lists of the nodes so far, and what those nodes say. -/
def Hv (hv : List (List K)) (P : Rw → List Bool) : Prop := (∀ r, (P r).length = hv.length) ∧ ∀ i, i < hv.length → Gd (hv.getD i []) (fun r => (P r).getD i false)
theorem node_good {x : Nd} {hv : List (List K)} {P : Rw → List Bool} {R : List K} (h : Hv hv P) (hr : rnB x hv.length = true) (e : nodeL x (partsOf hv x.s) = some R) : Gd R (fun r => saysB x (P r) r) := by
  have hsub := rnB_subs hr
  have hg : ∀ i ∈ x.s, Gd (hv.getD i.toNat []) (fun r => (P r).getD i.toNat false) := fun i hi => h.2 _ (by have := hsub i hi; omega)
  unfold nodeL at e
  unfold saysB
  unfold rnB at hr
  unfold partsOf at e
  by_cases k1 : x.k = 1
  · rw [if_pos k1] at e
    cases e
    exact Gd.top.congr fun r => by rw [if_pos k1]
  rw [if_neg k1] at e
  by_cases k3 : x.k = 3
  · rw [if_pos k3] at e
    cases e
    rw [if_neg (by omega), if_pos k3, Bool.and_eq_true] at hr
    exact (Gd.one hr.1).congr fun r => by rw [if_neg k1, if_pos k3]
  rw [if_neg k3] at e
  by_cases k4 : x.k = 4
  · rw [if_pos k4] at e
    exact (andL_good (fun i : Int => hv.getD i.toNat []) (fun i r => (P r).getD i.toNat false) x.s _ R _ Gd.top hg e).congr fun r => by rw [if_neg k1, if_neg k3, if_pos k4, yes_all, Bool.true_and]
  rw [if_neg k4] at e
  by_cases k5 : x.k = 5
  · rw [if_pos k5] at e
    exact (orL_good (fun i : Int => hv.getD i.toNat []) (fun i r => (P r).getD i.toNat false) x.s _ R _ Gd.nil hg e).congr fun r => by rw [if_neg k1, if_neg k3, if_neg k4, if_pos k5, yes_any, Bool.false_or]
  rw [if_neg k5] at e
  by_cases k6 : x.k = 6
  · rw [if_pos k6] at e
    rw [if_neg (by omega), if_neg k3, if_neg (by omega), if_pos k6, Bool.and_eq_true, Bool.and_eq_true] at hr
    have hl : x.s.length = 1 := by simpa using hr.1.2
    obtain ⟨i, hi⟩ := List.length_eq_one_iff.1 hl
    rw [hi] at e hg
    have := hg i (by simp)
    exact (Gd.top.left this e).congr fun r => by
      rw [if_neg k1, if_neg k3, if_neg k4, if_neg k5, if_pos k6, hi]
      unfold yesC
      rw [List.filter_cons]
      cases (P r).getD i.toNat false <;> simp
  rw [if_neg k6] at e
  cases e
  exact Gd.nil.congr fun r => by rw [if_neg k1, if_neg k3, if_neg k4, if_neg k5, if_neg k6]
theorem lists_good : ∀ (l : List Nd) (hv R : List (List K)) (P : Rw → List Bool), Hv hv P → rightFrom hv.length l = true → listsF hv l = some R → Hv R (fun r => saidL r l (P r))
  | [], hv, R, P, h, _, e => by
    cases e
    exact h
  | x :: l, hv, R, P, h, hr, e => by
    unfold listsF at e
    unfold rightFrom at hr
    rw [Bool.and_eq_true] at hr
    split at e
    · cases e
    · next q hq =>
      have hn := node_good h hr.1 hq
      have h' : Hv (hv ++ [q]) (fun r => P r ++ [saysB x (P r) r]) := by
        refine ⟨fun r => by rw [List.length_append, List.length_append, h.1 r]; rfl, fun i hi => ?_⟩
        by_cases hlt : i < hv.length
        · have e1 : (hv ++ [q]).getD i [] = hv.getD i [] := by rw [List.getD_eq_getElem?_getD, List.getD_eq_getElem?_getD, List.getElem?_append_left hlt]
          rw [e1]
          exact (h.2 i hlt).congr fun r => by rw [List.getD_eq_getElem?_getD, List.getD_eq_getElem?_getD, List.getElem?_append_left (by rw [h.1 r]; exact hlt)]
        · have e0 : i = hv.length := by simp at hi; omega
          subst e0
          have e1 : (hv ++ [q]).getD hv.length [] = q := by simp
          rw [e1]
          exact hn.congr fun r => by rw [List.getD_eq_getElem?_getD, List.getElem?_append_right (by rw [h.1 r]; exact Nat.le_refl _), h.1 r]; simp
      exact lists_good l (hv ++ [q]) R _ h' (by rw [List.length_append]; exact hr.2) e
/-- THE STAGE's THEOREM, of lists. -/
theorem parts_good {l : List Nd} {R : List K} (h : rightB l = true) (e : listO l = some R) : Gd R (fun r => evalB r l) := by
  unfold listO at e
  cases hR : listsF [] l with
  | none => rw [hR] at e; cases e
  | some hv =>
    rw [hR] at e
    cases e
    have hrf : rightFrom 0 l = true := by unfold rightB at h; rw [Bool.and_eq_true] at h; exact h.2
    have hg := lists_good l [] hv (fun _ => []) ⟨fun _ => rfl, fun i hi => by cases hi⟩ hrf hR
    have hpos := (rightB_len h).1
    have hlen : hv.length = l.length := by
      have := hg.1 (fun _ => 0#64)
      rw [saidL_len] at this
      simpa using this.symm
    have hg2 := hg.2 (hv.length - 1) (by omega)
    have e1 : hv.getD (hv.length - 1) [] = hv.getLastD [] := by rw [List.getLastD_eq_getLast?, List.getLast?_eq_getElem?, List.getD_eq_getElem?_getD]
    rw [e1] at hg2
    refine hg2.congr fun r => ?_
    unfold evalB
    rw [h, Bool.true_and, List.getLastD_eq_getLast?, List.getLast?_eq_getElem?, List.getD_eq_getElem?_getD]
    have := hg.1 r
    simp only at this
    rw [this]
end Go.Proofs.Ytmobmpghpdaddaa

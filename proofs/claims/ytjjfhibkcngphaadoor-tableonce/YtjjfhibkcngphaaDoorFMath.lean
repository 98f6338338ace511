/-
  What Add, Modify and Delete keep: the order, that no two are twins, that no two clash.
-/
import Derived.Test.YtjjfhibkcngphaaDoorFSmall
import Derived.Test.YtjjfhibkcngphaaDoorFOpen
namespace Go.Proofs.YtjjfhibkcngphaaDoor
open Go.ChangeShapes Go.WideShapes Go.ChangeAt Go.RowKit
set_option linter.unusedVariables false
set_option linter.unusedSimpArgs false

/-- What an entry is known by: its Priority and its Tests. -/
def Fp.k (x : Fp) : Int × List Mt.T := (x.pri, x.lt)
theorem twin_iff {x y : Fp} : twinB x y = true ↔ x.k = y.k := by
  unfold twinB Fp.k Mt.sameB
  simp [Prod.mk.injEq]
theorem ins_pairwise {α : Type} {R : α → α → Prop} {l : List α} {E : Nat} {k : α} (h : l.Pairwise R) (h1 : ∀ a ∈ l.take E, R a k) (h2 : ∀ b ∈ l.drop E, R k b) : (l.take E ++ k :: l.drop E).Pairwise R := by
  rw [← List.take_append_drop E l] at h
  rw [List.pairwise_append] at h ⊢
  obtain ⟨a1, a2, a3⟩ := h
  refine ⟨a1, List.pairwise_cons.2 ⟨h2, a2⟩, fun a ha b hb => ?_⟩
  rcases List.mem_cons.1 hb with rfl | hb
  · exact h1 a ha
  · exact a3 a ha b hb
theorem end_before (p : Int) : ∀ (l : List Fp), ∀ y ∈ l.take (endV p l), p ≤ y.pri
  | [], y, hy => by simp [endV] at hy
  | z :: l, y, hy => by
    unfold endV at hy
    split at hy
    · simp at hy
    · rename_i h
      rw [List.take_succ_cons] at hy
      rcases List.mem_cons.1 hy with rfl | hy
      · omega
      · exact end_before p l y hy
theorem end_after (p : Int) : ∀ (l : List Fp), (l.map Fp.k).Pairwise (fun a b => b.1 ≤ a.1) → ∀ y ∈ l.drop (endV p l), y.pri < p
  | [], _, y, hy => by simp [endV] at hy
  | z :: l, hs, y, hy => by
    rw [List.map_cons, List.pairwise_cons] at hs
    unfold endV at hy
    split at hy
    · rename_i h
      rw [List.drop_zero] at hy
      rcases List.mem_cons.1 hy with rfl | hy
      · exact h
      · have := hs.1 y.k (List.mem_map.2 ⟨y, hy, rfl⟩)
        simp only [Fp.k] at this
        omega
    · rw [List.drop_succ_cons] at hy
      exact end_after p l hs.2 y hy
/-- How a list of entries may be put. -/
theorem put_ways (l : List Fp) (x : Fp) : (∃ i, ∃ h : i < l.length, l[i].k = x.k ∧ putL l x = l.set i x) ∨ ((∀ y ∈ l, y.k ≠ x.k) ∧ putL l x = insL l x) := by
  unfold putL
  cases hf : l.findIdx? (twinB x) with
  | none =>
    right
    rw [List.findIdx?_eq_none_iff] at hf
    refine ⟨fun y hy e => ?_, rfl⟩
    have h1 := hf y hy
    have h2 := twin_iff.2 e.symm
    rw [h2] at h1
    cases h1
  | some i =>
    left
    rw [List.findIdx?_eq_some_iff_getElem] at hf
    obtain ⟨hk, h1, _⟩ := hf
    exact ⟨i, hk, (twin_iff.1 h1).symm, rfl⟩
theorem set_k {l : List Fp} {i : Nat} {x : Fp} (h : i < l.length) (e : l[i].k = x.k) : (l.set i x).map Fp.k = l.map Fp.k := by
  rw [List.map_set, ← e]
  have : l[i].k = (l.map Fp.k)[i]'(by simpa using h) := by simp
  rw [this]
  exact List.set_getElem_self _
theorem ins_k (l : List Fp) (x : Fp) : (insL l x).map Fp.k = (l.map Fp.k).take (endV x.pri l) ++ x.k :: (l.map Fp.k).drop (endV x.pri l) := by
  unfold insL
  rw [List.map_append, List.map_cons, List.map_take, List.map_drop]
theorem mod_k (l : List Fp) (x : Fp) (s : Bool) : (modL l x s).map Fp.k = l.map Fp.k := by
  unfold modL
  rw [List.map_map]
  apply List.map_congr_left
  intro y _
  simp only [Function.comp]
  unfold chgE
  split <;> rfl
theorem del_k (l : List Fp) (x : Fp) (s : Bool) : ((delL l x s).map Fp.k).Sublist (l.map Fp.k) := by
  unfold delL
  exact List.Sublist.map _ List.filter_sublist
/-- What is kept of the entries of a table. -/
structure KI (l : List Fp) : Prop where
  dn : (l.map Fp.k).Pairwise (fun a b => b.1 ≤ a.1)
  nd : (l.map Fp.k).Pairwise (fun a b => a ≠ b)
  tw : ∀ k ∈ l.map Fp.k, Mt.TWs k.2
theorem KI.nil : KI [] := ⟨List.Pairwise.nil, List.Pairwise.nil, by simp⟩
theorem KI.of_k {l m : List Fp} (h : KI l) (e : m.map Fp.k = l.map Fp.k) : KI m := ⟨by rw [e]; exact h.dn, by rw [e]; exact h.nd, by rw [e]; exact h.tw⟩
theorem KI.sub {l m : List Fp} (h : KI l) (e : (m.map Fp.k).Sublist (l.map Fp.k)) : KI m := ⟨h.dn.sublist e, h.nd.sublist e, fun k hk => h.tw k (e.subset hk)⟩
theorem KI.put {l : List Fp} (h : KI l) {x : Fp} (hx : Mt.TWs x.lt) : KI (putL l x) := by
  rcases put_ways l x with ⟨i, hi, e, hp⟩ | ⟨hn, hp⟩
  · rw [hp]; exact h.of_k (set_k hi e)
  · rw [hp]
    have mt : ∀ a ∈ (l.map Fp.k).take (endV x.pri l), ∃ y ∈ l.take (endV x.pri l), y.k = a := fun a ha => by rw [← List.map_take] at ha; exact List.mem_map.1 ha
    have md : ∀ a ∈ (l.map Fp.k).drop (endV x.pri l), ∃ y ∈ l.drop (endV x.pri l), y.k = a := fun a ha => by rw [← List.map_drop] at ha; exact List.mem_map.1 ha
    refine ⟨?_, ?_, ?_⟩
    · rw [ins_k]
      refine ins_pairwise h.dn (fun a ha => ?_) (fun b hb => ?_)
      · obtain ⟨y, hy, rfl⟩ := mt a ha
        exact end_before _ _ y hy
      · obtain ⟨y, hy, rfl⟩ := md b hb
        have := end_after _ _ h.dn y hy
        show y.pri ≤ x.pri
        omega
    · rw [ins_k]
      refine ins_pairwise h.nd (fun a ha => ?_) (fun b hb => ?_)
      · obtain ⟨y, hy, rfl⟩ := mt a ha
        exact hn y (List.mem_of_mem_take hy)
      · obtain ⟨y, hy, rfl⟩ := md b hb
        exact fun e => hn y (List.mem_of_mem_drop hy) e.symm
    · intro k hk
      rw [ins_k] at hk
      rcases List.mem_append.1 hk with hk | hk
      · exact h.tw k (List.mem_of_mem_take hk)
      · rcases List.mem_cons.1 hk with rfl | hk
        · exact hx
        · exact h.tw k (List.mem_of_mem_drop hk)
theorem KI.add {room : Int} {l : List Fp} (h : KI l) {x : Fp} (hx : Mt.TWs x.lt) (chk : Bool) : KI (addL room l x chk) := by
  unfold addL
  split
  · exact h.put hx
  · exact h
theorem KI.upd {P : Nat → List Fp} (h : ∀ t, KI (P t)) {t : Nat} {l : List Fp} (hl : KI l) : ∀ u, KI (upd P t l u) := fun u => by
  unfold Go.Proofs.YtjjfhibkcngphaaDoor.upd
  split
  · exact hl
  · exact h u
theorem KI.do_ {room : Int} {P : Nat → List Fp} (h : ∀ t, KI (P t)) (k : Int) {x : Fp} (hx : Mt.TWs x.lt) (s : Bool) : ∀ t, KI (doP room P k x s t) := by
  unfold doP
  split
  · unfold addT; split
    · exact KI.upd h ((h _).add hx s)
    · exact h
  · split
    · unfold modP; split
      · exact KI.upd h ((h _).of_k (mod_k _ _ _))
      · exact h
    · unfold delP; split
      · exact KI.upd h ((h _).sub (del_k _ _ _))
      · exact h
/-- No two clash. -/
def noCl (a b : Int × List Mt.T) : Prop := (a.1 = b.1 → Mt.meetsB a.2 b.2 = false) ∧ (a.1 = b.1 → Mt.meetsB b.2 a.2 = false)
def CI (l : List Fp) : Prop := (l.map Fp.k).Pairwise noCl
theorem clashT_sym (t u : Mt.T) : Mt.clashT t u = Mt.clashT u t := by
  unfold Mt.clashT
  rw [Mt.feq_sym, Mt.clash_sym]
theorem meets_sym (a b : List Mt.T) : Mt.meetsB a b = Mt.meetsB b a := by
  apply Mt.bool_iff
  unfold Mt.meetsB
  simp only [List.all_eq_true]
  constructor
  · intro h t ht u hu
    have := h u hu t ht
    rwa [clashT_sym] at this
  · intro h t ht u hu
    have := h u hu t ht
    rwa [clashT_sym] at this
theorem CI.add {room : Int} {l : List Fp} (h : CI l) (x : Fp) : CI (addL room l x true) := by
  unfold addL
  split
  · rename_i he
    have hcl : l.any (clashB x) = false := by
      cases hc : l.any (clashB x) with
      | false => rfl
      | true =>
        unfold addE at he
        rw [hc] at he
        simp at he
    rw [List.any_eq_false] at hcl
    have hno : ∀ y ∈ l, noCl x.k y.k := fun y hy => by
      have h1 : clashB x y = false := by simpa using hcl y hy
      have h2 : x.pri = y.pri → Mt.meetsB x.lt y.lt = false := fun e => by
        unfold clashB at h1
        rw [e] at h1
        simpa using h1
      exact ⟨h2, fun e => by rw [meets_sym]; exact h2 e⟩
    rcases put_ways l x with ⟨i, hi, e, hp⟩ | ⟨hn, hp⟩
    · rw [hp]
      unfold CI
      rw [set_k hi e]
      exact h
    · rw [hp]
      unfold CI
      rw [ins_k]
      refine ins_pairwise h (fun a ha => ?_) (fun b hb => ?_)
      · rw [← List.map_take] at ha
        obtain ⟨y, hy, rfl⟩ := List.mem_map.1 ha
        have := hno y (List.mem_of_mem_take hy)
        exact ⟨fun e => this.2 e.symm, fun e => this.1 e.symm⟩
      · rw [← List.map_drop] at hb
        obtain ⟨y, hy, rfl⟩ := List.mem_map.1 hb
        exact hno y (List.mem_of_mem_drop hy)
  · exact h
theorem CI.addT {room : Int} {P : Nat → List Fp} (h : ∀ t, CI (P t)) (x : Fp) : ∀ t, CI (addT room P x true t) := by
  unfold Go.Proofs.YtjjfhibkcngphaaDoor.addT
  split
  · intro u
    unfold Go.Proofs.YtjjfhibkcngphaaDoor.upd
    split
    · exact (h _).add x
    · exact h u
  · exact h
/-- Two that take one packet meet. -/
theorem sound2 (a b : List Mt.T) (s : Mt.Sn) (ha : Mt.TWs a) (hb : Mt.TWs b) (hx : Mt.takesB a s = true) (hy : Mt.takesB b s = true) : Mt.meetsB a b = true := by
  unfold Mt.meetsB
  unfold Mt.takesB at hx hy
  rw [List.all_eq_true] at hx hy ⊢
  intro t ht
  rw [List.all_eq_true]
  intro u hu
  have h1 := hx t ht
  have h2 := hy u hu
  have wt := ha t ht
  have wu := hb u hu
  unfold Mt.takeT at h1 h2
  simp only [Bool.and_eq_true, beq_iff_eq] at h1 h2
  rw [Bool.not_eq_true']
  unfold Mt.clashT
  by_cases he : u.1 = t.1
  · rw [he] at h2
    have := and_meet (Mt.getV s t.1) u.2.2 u.2.1 t.2.2 t.2.1 wt.v0 wt.v1 wu.v0 wu.v1 h1.2 h2.2
    rw [this]
    simp
  · have : (u.1 == t.1) = false := by simpa using he
    rw [this]
    rfl
/-- A right match covers itself. -/
theorem fit_all : ∀ (r l : List Mt.T), Mt.rightGo l r = 0 → ∀ t ∈ r, Mt.fitB t = true ∧ ¬ (t.1 < 1 ∨ 9 < t.1)
  | [], _, _, t, ht => by cases ht
  | t :: r, l, h, u, hu => by
    obtain ⟨h1, h2⟩ := Mt.right_cons.1 h
    rcases List.mem_cons.1 hu with rfl | hu
    · unfold Mt.behindE at h1
      split at h1
      · cases h1
      · rename_i hw
        split at h1
        · cases h1
        · rename_i hc
          refine ⟨?_, fun e => hw (Mt.wdV_none e)⟩
          cases hf : Mt.fitB u with
          | true => rfl
          | false => exact absurd (.inr (.inl hf)) hc
    · exact fit_all r _ h2 u hu
theorem covers_self (l : List Mt.T) (hr : Mt.rightE l = 0) (hw : Mt.TWs l) : Mt.coversB l l = true := by
  unfold Mt.coversB
  rw [List.all_eq_true]
  intro t ht
  rw [List.any_eq_true]
  refine ⟨t, ht, ?_⟩
  obtain ⟨h1, h2⟩ := fit_all l [] hr t ht
  have h3 := Mt.rfit_eq t (hw t ht) h2
  rw [h1] at h3
  unfold Mt.rfitB at h3
  simp only [Bool.and_eq_true, beq_iff_eq] at h3
  unfold Mt.coverT
  simp only [Bool.and_eq_true, beq_iff_eq]
  refine ⟨⟨trivial, ?_⟩, h3.2⟩
  have hm := hw t ht
  rw [u_and, BitVec.and_self, nat_bv _ hm.m0 hm.m1]
/-- How many twins there are. -/
def cntT (l : List Fp) (x : Fp) : Nat := (l.filter fun y => twinB y x).length
theorem cnt_snoc {l : List Fp} {x : Fp} {k : Nat} (h : k < l.length) : cntT (l.take (k + 1)) x = cntT (l.take k) x + if twinB l[k] x = true then 1 else 0 := by
  unfold cntT
  rw [List.take_succ_eq_append_getElem h, List.filter_append, List.length_append]
  congr 1
  split <;> simp_all
theorem one_of {α : Type} {l : List α} (c : α) (h : l.Pairwise (fun a b => a ≠ b)) (he : ∀ a ∈ l, a = c) : l.length ≤ 1 := by
  match l, h, he with
  | [], _, _ => simp
  | [_], _, _ => simp
  | a :: b :: r, h, he =>
    rw [List.pairwise_cons] at h
    exact absurd ((he a (by simp)).trans (he b (by simp)).symm) (h.1 b (by simp))
theorem KI.cnt {l : List Fp} (h : KI l) (x : Fp) : cntT l x ≤ 1 := by
  unfold cntT
  have h1 : (((l.filter fun y => twinB y x)).map Fp.k).Pairwise (fun a b => a ≠ b) := h.nd.sublist (List.Sublist.map _ List.filter_sublist)
  have h2 := one_of x.k h1 (fun a ha => by
    obtain ⟨y, hy, rfl⟩ := List.mem_map.1 ha
    exact twin_iff.1 (List.mem_filter.1 hy).2)
  simpa using h2
theorem KI.same {l : List Fp} (h : KI l) {x y : Fp} (hx : x ∈ l) (hy : y ∈ l) (e : y.k = x.k) : y = x := by
  obtain ⟨i, hi, rfl⟩ := List.mem_iff_getElem.1 hx
  obtain ⟨j, hj, rfl⟩ := List.mem_iff_getElem.1 hy
  have hp := List.pairwise_iff_getElem.1 h.nd
  rcases Nat.lt_trichotomy i j with hlt | rfl | hlt
  · exact absurd (by rw [List.getElem_map, List.getElem_map]; exact e.symm) (hp i j (by simpa using hi) (by simpa using hj) hlt)
  · rfl
  · exact absurd (by rw [List.getElem_map, List.getElem_map]; exact e) (hp j i (by simpa using hj) (by simpa using hi) hlt)
theorem cnt_pos {l : List Fp} {x : Fp} (h : x ∈ l) : 0 < cntT l x := by
  unfold cntT
  exact List.length_pos_of_mem (List.mem_filter.2 ⟨h, twin_iff.2 rfl⟩)
theorem mem_put (l : List Fp) (x : Fp) : x ∈ putL l x := by
  rcases put_ways l x with ⟨i, hi, e, hp⟩ | ⟨hn, hp⟩
  · rw [hp]; exact List.mem_set hi x
  · rw [hp]; unfold insL; exact List.mem_append_right _ (List.mem_cons_self)
theorem tab_addT {room : Int} {P : Nat → List Fp} {x : Fp} {chk : Bool} (h : addR room P x chk = 0) : x ∈ tabOf (addT room P x chk) x.tab := by
  unfold addR at h
  split at h
  · rename_i hw
    obtain ⟨h0, h8⟩ := wrong_tab hw
    unfold tabOf addT
    rw [if_pos ⟨h0, h8⟩, if_pos hw, upd_same]
    unfold addL
    rw [if_pos h]
    exact mem_put _ _
  · rename_i hw
    exact absurd h hw
theorem tab_delP {P : Nat → List Fp} {x : Fp} {s : Bool} (h : wrongE x = 0) (hw : Mt.TWs x.lt) : cntT (tabOf (delP P x s) x.tab) x = 0 := by
  obtain ⟨h0, h8⟩ := wrong_tab h
  unfold tabOf delP
  rw [if_pos ⟨h0, h8⟩, if_pos h, upd_same]
  unfold cntT
  rw [List.length_eq_zero_iff, List.filter_eq_nil_iff]
  intro y hy ht
  unfold delL at hy
  obtain ⟨_, hm⟩ := List.mem_filter.1 hy
  have e := twin_iff.1 ht
  have hr : Mt.rightE x.lt = 0 := by
    unfold wrongE at h
    split at h
    · rename_i h1; exact absurd h h1
    · split at h
      · rename_i h1; exact absurd h h1
      · rename_i h1; simpa using h1
  unfold meansB at hm
  cases s with
  | true =>
    rw [if_pos rfl, twin_iff.2 e.symm] at hm
    cases hm
  | false =>
    have el : y.lt = x.lt := congrArg Prod.snd e
    rw [if_neg (by decide), el, covers_self x.lt hr hw] at hm
    cases hm
theorem KI.tab {P : Nat → List Fp} (h : ∀ t, KI (P t)) (t : Int) : KI (tabOf P t) := by
  unfold tabOf
  split
  · exact h _
  · exact KI.nil
/-- The order, one by one. -/
theorem KI.down {l : List Fp} (h : KI l) {i : Nat} (h0 : 0 < i) (hi : i < l.length) : l[i].pri ≤ (l[i - 1]'(by omega)).pri := by
  have hp := List.pairwise_iff_getElem.1 h.dn (i - 1) i (by simp; omega) (by simpa using hi) (by omega)
  simpa [Fp.k] using hp
theorem clash_no {l : List Fp} (hk : KI l) (hc : CI l) (s : Mt.Sn) {i k : Nat} (hi : i < l.length) (hki : k < i) (e : l[i].pri = (l[k]'(by omega)).pri) (h1 : Mt.takesB l[i].lt s = true) : Mt.takesB (l[k]'(by omega)).lt s = false := by
  cases h2 : Mt.takesB (l[k]'(by omega)).lt s with
  | false => rfl
  | true =>
    have hp := List.pairwise_iff_getElem.1 hc k i (by simp; omega) (by simpa using hi) hki
    have hm : Mt.meetsB (l[k]'(by omega)).lt l[i].lt = true := sound2 _ _ s (hk.tw _ (List.mem_map.2 ⟨_, List.getElem_mem (by omega), rfl⟩)) (hk.tw _ (List.mem_map.2 ⟨_, List.getElem_mem hi, rfl⟩)) h2 h1
    have := hp.1 (by simpa [Fp.k] using e.symm)
    simp [Fp.k] at this
    rw [hm] at this
    cases this
end Go.Proofs.YtjjfhibkcngphaaDoor

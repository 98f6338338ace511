/-
  Both tables side by side: what depends on the groups' parts alone; what stays true call by call.
-/
import Derived.Test.YteodlkgbakkjmaaDoorRMod
namespace Go.Proofs.YteodlkgbakkjmaaDoor
open Go.ChangeShapes Go.WideShapes Go.ChangeAt Go.RowKit Go.Maps
set_option linter.unusedVariables false
open scoped Classical

/-- Lists of parts. -/
def insP (g : P3) : List P3 → List P3
  | [] => [g]
  | y :: r => if g.1 < y.1 then g :: y :: r else y :: insP g r
def delP (i : Int) (M : List P3) : List P3 := M.filter fun g => !decide (g.1 = i)
theorem ins_p (g : Gr) : ∀ L : List Gr, (insG g L).map Gr.p = insP g.p (L.map Gr.p)
  | [] => rfl
  | y :: r => by
    rw [insG, List.map_cons, insP]
    by_cases h : g.id < y.id
    · rw [if_pos h, if_pos (show g.p.1 < y.p.1 from h)]; rfl
    · rw [if_neg h, if_neg (show ¬ g.p.1 < y.p.1 from h), List.map_cons, ins_p g r]
theorem del_p (i : Int) : ∀ L : List Gr, (delG i L).map Gr.p = delP i (L.map Gr.p)
  | [] => rfl
  | y :: r => by
    have ih := del_p i r
    unfold delG delP at ih ⊢
    rw [List.map_cons, List.filter_cons, List.filter_cons]
    by_cases h : y.id = i
    · rw [if_neg (by simp [h]), if_neg (by simp [show y.p.1 = i from h])]; exact ih
    · rw [if_pos (by simp [h]), if_pos (by simp [show y.p.1 ≠ i from h]), List.map_cons, ih]
theorem put_p (g : Gr) (L : List Gr) : (putG g L).map Gr.p = insP g.p (delP g.p.1 (L.map Gr.p)) := by
  unfold putG
  rw [ins_p, del_p]
  rfl
theorem put_pp {g g' : Gr} {L Q : List Gr} (hp : g'.p = g.p) (h : L.map Gr.p = Q.map Gr.p) : (putG g' L).map Gr.p = (putG g Q).map Gr.p := by rw [put_p, put_p, hp, h]
theorem del_pp {i : Int} {L Q : List Gr} (h : L.map Gr.p = Q.map Gr.p) : (delG i L).map Gr.p = (delG i Q).map Gr.p := by rw [del_p, del_p, h]
theorem has_p (L : List Gr) (i : Int) : hasP L i = (L.map Gr.p).any (fun p => decide (p.1 = i)) := by
  unfold hasP
  rw [List.any_map]
  rfl
theorem has_pp {L Q : List Gr} (h : L.map Gr.p = Q.map Gr.p) : hasP L = hasP Q := by
  funext i
  rw [has_p, has_p, h]
theorem led_pp {L Q : List Gr} (h : L.map Gr.p = Q.map Gr.p) (i : Int) : ledB L i = ledB Q i := by
  have e : ∀ L : List Gr, ledB L i = (L.map Gr.p).any (fun p => (rawL p.2.2).contains i) := fun L => by
    unfold ledB
    rw [List.any_map]
    rfl
  rw [e, e, h]
theorem len_pp {L Q : List Gr} (h : L.map Gr.p = Q.map Gr.p) : L.length = Q.length := by
  have := congrArg List.length h
  simpa using this
theorem addE_pp {room : Int} {L Q : List Gr} (h : L.map Gr.p = Q.map Gr.p) (g : Gr) : addE room L g = addE room Q g := by
  unfold addE leadsAll
  rw [has_pp h, len_pp h]
theorem delE_pp {L Q : List Gr} (h : L.map Gr.p = Q.map Gr.p) (i : Int) : delE L i = delE Q i := by
  unfold delE
  rw [has_pp h, led_pp h]
theorem modE_pp {L Q : List Gr} (h : L.map Gr.p = Q.map Gr.p) (g : Gr) : modE L g = modE Q g := by
  unfold modE leadsAll rcB
  rw [has_pp h, h]
theorem cl_pp {L Q : List Gr} (h : L.map Gr.p = Q.map Gr.p) (hc : Cl L) : Cl Q := by
  intro x hx y hy
  have hm : x.p ∈ L.map Gr.p := by rw [h]; exact List.mem_map.2 ⟨x, hx, rfl⟩
  obtain ⟨z, hz, e⟩ := List.mem_map.1 hm
  rw [← has_pp h]
  exact hc z hz y (by rw [show rawL (z.l.map Bk.b3) = rawL (x.l.map Bk.b3) from rawG_p e]; exact hy)
/-- The groups behind a call. -/
def addM (room : Int) (Q : List Gr) (g : Gr) : List P3 := if addE room Q g = 0 then (putG g Q).map Gr.p else Q.map Gr.p
def modM (Q : List Gr) (g : Gr) [Decidable (Rc (Q.map Gr.p) g.p g.id)] : List P3 := if modE Q g = 0 then (putG g Q).map Gr.p else Q.map Gr.p
def delM (Q : List Gr) (i : Int) : List P3 := if delE Q i = 0 then (delG i Q).map Gr.p else Q.map Gr.p
/-- Get of both. -/
theorem get_pp {L Q : List Gr} {i : Int} (h : L.map Gr.p = Q.map Gr.p) (hs : SrtG Q) {x y : Gr} {er fr : Int} (hx : (hasP L i = false ∧ x = gr0 ∧ er = 31) ∨ ∃ g ∈ L, g.id = i ∧ x.p = g.p ∧ er = 0) (hy : (hasP Q i = false ∧ y = gr0 ∧ fr = 31) ∨ (y ∈ Q ∧ y.id = i ∧ fr = 0)) : x.p = y.p ∧ er = fr := by
  rcases hx with ⟨h1, rfl, rfl⟩ | ⟨g, hg, hid, hp, rfl⟩
  · rcases hy with ⟨_, rfl, rfl⟩ | ⟨hy, hid, _⟩
    · exact ⟨rfl, rfl⟩
    · rw [has_pp h, hasP_iff.2 ⟨y, hy, hid⟩] at h1; cases h1
  · have hm : g.p ∈ Q.map Gr.p := by rw [← h]; exact List.mem_map.2 ⟨g, hg, rfl⟩
    obtain ⟨z, hz, e⟩ := List.mem_map.1 hm
    have hzi : z.id = i := (id_p e).trans hid
    rcases hy with ⟨h1, _, _⟩ | ⟨hy, hid2, rfl⟩
    · rw [hasP_iff.2 ⟨z, hz, hzi⟩] at h1; cases h1
    · have : z = y := srt_one hs hz hy (hzi.trans hid2.symm)
      subst this
      exact ⟨hp.trans e.symm, rfl⟩
theorem sGrp_pp {x y : Gr} (h : x.p = y.p) : sGrp x.id x.kd (x.l.map Bk.b3) y.id y.kd (y.l.map Bk.b3) = true := by
  unfold Gr.p at h
  simp only [Prod.mk.injEq] at h
  obtain ⟨h1, h2, h3⟩ := h
  unfold sGrp
  rw [h1, h2, h3, sBks_refl]
  simp
/-- A table is kept where another block is written. -/
theorem Tb.other {w w' : World} {tb mb x : Nat} {room : Int} {L : List Gr} (h : Tb w tb mb room L) (k : w.grownBy w' (some x)) (h1 : tb ≠ x) (h2 : mb ≠ x) (h3 : ∀ g ∈ L, ¬ InB g.a g.l x) : Tb w' tb mb room L := by
  have hb := k.block tb h.lt (fun e => by cases e; exact h1 rfl)
  refine ⟨(World.cell?_of_block (a := ⟨tb, 0, none⟩) hb).trans h.c0, (World.cell?_of_block (a := ⟨tb, 1, none⟩) hb).trans h.c1, Nat.lt_of_lt_of_le h.lt k.size, h.own.kept k (fun e => by cases e; exact h2 rfl), fun g hg => ?_, h.srt⟩
  have hw := h.grp g hg
  exact ⟨hw.bs.stay k.size (fun b hb hlt => k.block b hlt (fun e => by cases e; exact h3 g hg hb)), hw.sm, hw.ok, hw.ne⟩
/-- Both tables. -/
structure PI (W : World) (rb : Nat) (room : Int) (v : Value) (L Q : List Gr) (wr : World) : Prop where
  r : RunI W (W.heap.size + 1) W.heap.size room L wr
  t : RT W rb room v Q wr
  n1 : W.heap.size + 1 < rb
  n2 : ∀ b, v.ownBlock = some b → W.heap.size + 1 < b
  n3 : ∀ g ∈ L, ∀ b, InB g.a g.l b → b ≠ rb ∧ v.ownBlock ≠ some b
theorem PI.grow {W : World} {rb : Nat} {room : Int} {v : Value} {L Q : List Gr} {wr w2 : World} (h : PI W rb room v L Q wr) (k : Below wr.heap.size wr w2) : PI W rb room v L Q w2 := ⟨h.r.grow k, h.t.below k, h.n1, h.n2, h.n3⟩
/-- The program's call is made. -/
theorem PI.mid {W : World} {rb : Nat} {room : Int} {v : Value} {L L' Q : List Gr} {wr w2 : World} (h : PI W rb room v L Q wr) (hr : RunI W (W.heap.size + 1) W.heap.size room L' w2) (k : wr.grownBy w2 (some W.heap.size)) (hn : ∀ g ∈ L', g ∈ L ∨ ∀ b, InB g.a g.l b → wr.heap.size ≤ b) : PI W rb room v L' Q w2 := by
  refine ⟨hr, h.t.other k (Nat.le_refl _) (by have := h.n1; omega) (fun e => by have := h.n2 _ e; omega), h.n1, h.n2, fun g hg b hb => ?_⟩
  rcases hn g hg with hg | hg
  · exact h.n3 g hg b hb
  · have h1 := hg b hb
    refine ⟨by have := h.t.lt; omega, fun e => ?_⟩
    have := (h.t.row.lt b e).2
    omega
/-- The document's call is made. -/
theorem PI.fin {W : World} {rb x : Nat} {room : Int} {v v' : Value} {L Q Q' : List Gr} {wr w2 : World} (h : PI W rb room v L Q wr) (hd : Cd W) (ht : RT W rb room v' Q' w2) (k : wr.grownBy w2 (some x)) (hx : x = rb ∨ v.ownBlock = some x) (hv : ∀ b, v'.ownBlock = some b → v.ownBlock = some b ∨ wr.heap.size ≤ b) : PI W rb room v' L Q' w2 := by
  have hxW : W.heap.size + 1 < x := by
    rcases hx with rfl | e
    · exact h.n1
    · exact h.n2 _ e
  have hB : Below W.heap.size W w2 := h.r.b.grown k h.r.b.size (fun j hj => by cases hj; omega)
  refine ⟨⟨h.r.t.other k (by omega) (by omega) (fun g hg hb => ?_), h.r.i, hB, hd.below hB⟩, ht, h.n1, fun b hb => ?_, fun g hg b hb => ⟨(h.n3 g hg b hb).1, fun e => ?_⟩⟩
  · rcases hx with e | e
    · exact (h.n3 g hg x hb).1 e
    · exact (h.n3 g hg x hb).2 e
  · rcases hv b hb with e | e
    · exact h.n2 b e
    · have := h.n1; have := h.t.lt; omega
  · rcases hv b e with e | e
    · exact (h.n3 g hg b hb).2 e
    · have := ((h.r.t.grp g hg).bs).lt hb
      omega
theorem PI.len {W : World} {rb : Nat} {room : Int} {v : Value} {L Q : List Gr} {wr : World} (h : PI W rb room v L Q wr) (hr : room ≤ 64) (e : L.map Gr.p = Q.map Gr.p) : Q.length ≤ 64 := by rw [← len_pp e]; exact h.r.len hr
/-- What a call leaves in other blocks. -/
abbrev KeepP (W w w' : World) : Prop := w.heap.size ≤ w'.heap.size ∧ ∀ k, k < w.heap.size → k ≠ W.heap.size → w'.heap[k]? = w.heap[k]?
abbrev KeepR (rb : Nat) (v : Value) (w w' : World) : Prop := w.heap.size ≤ w'.heap.size ∧ ∀ k, k < w.heap.size → k ≠ rb → v.ownBlock ≠ some k → w'.heap[k]? = w.heap[k]?
theorem keepP {W w w' : World} (k : w.grownBy w' (some W.heap.size)) : KeepP W w w' := ⟨k.size, fun j hj hne => k.block j hj (fun e => by cases e; exact hne rfl)⟩
theorem keepR {rb x : Nat} {v : Value} {w w' : World} (k : w.grownBy w' (some x)) (hx : x = rb ∨ v.ownBlock = some x) : KeepR rb v w w' := ⟨k.size, fun j hj h1 h2 => k.block j hj (fun e => by
  cases e
  rcases hx with e | e
  · exact h1 e
  · exact h2 e)⟩
theorem PI.add1 {W : World} {rb : Nat} {room : Int} {v : Value} {L Q : List Gr} {wr : World} (h : PI W rb room v L Q wr) (e : L.map Gr.p = Q.map Gr.p) (hr : room ≤ 64) (g : Gr) (hg : GIn W g) (hf : fewB g.l = true) : Calls Tryd.prog 12 #[ptr (W.heap.size + 1), gV g] wr fun e w' => e = .returned (.int .i64 (addE room Q g)) ∧ ∃ L', PI W rb room v L' Q w' ∧ L'.map Gr.p = addM room Q g ∧ KeepP W wr w' := by
  refine (h.r.add (Nat.le_refl _) hr g hg hf).mono ?_
  rintro e' w' ⟨rfl, L', hI, hL, hk⟩
  rw [addE_pp e] at hL
  refine ⟨by rw [addE_pp e], L', h.mid hI hk (fun y hy => ?_), ?_, keepP hk⟩
  · rcases hL with ⟨_, rfl⟩ | ⟨_, g', _, rfl, hnw⟩
    · exact .inl hy
    · rcases mem_put.1 hy with rfl | ⟨hy, _⟩
      · exact .inr hnw
      · exact .inl hy
  · unfold addM
    rcases hL with ⟨hz, rfl⟩ | ⟨hz, g', hp, rfl, _⟩
    · rw [if_neg hz]; exact e
    · rw [if_pos hz]; exact put_pp hp e
theorem PI.mod1 {W : World} {rb : Nat} {room : Int} {v : Value} {L Q : List Gr} {wr : World} (h : PI W rb room v L Q wr) (e : L.map Gr.p = Q.map Gr.p) (hr : room ≤ 64) (g : Gr) (hg : GIn W g) (hf : fewB g.l = true) : Calls Tryd.prog 14 #[ptr (W.heap.size + 1), gV g] wr fun e w' => e = .returned (.int .i64 (modE Q g)) ∧ ∃ L', PI W rb room v L' Q w' ∧ L'.map Gr.p = modM Q g ∧ KeepP W wr w' := by
  refine (h.r.mod (Nat.le_refl _) hr g hg hf).mono ?_
  rintro e' w' ⟨rfl, L', hI, hL, hk⟩
  rw [modE_pp e] at hL
  refine ⟨by rw [modE_pp e], L', h.mid hI hk (fun y hy => ?_), ?_, keepP hk⟩
  · rcases hL with ⟨_, rfl⟩ | ⟨_, g', _, rfl, hnw⟩
    · exact .inl hy
    · rcases mem_put.1 hy with rfl | ⟨hy, _⟩
      · exact .inr hnw
      · exact .inl hy
  · unfold modM
    rcases hL with ⟨hz, rfl⟩ | ⟨hz, g', hp, rfl, _⟩
    · rw [if_neg hz]; exact e
    · rw [if_pos hz]; exact put_pp hp e
theorem PI.del1 {W : World} {rb : Nat} {room : Int} {v : Value} {L Q : List Gr} {wr : World} (h : PI W rb room v L Q wr) (e : L.map Gr.p = Q.map Gr.p) (g : Gr) (hg : GIn W g) : Calls Tryd.prog 16 #[ptr (W.heap.size + 1), .int .i64 g.id] wr fun e w' => e = .returned (.int .i64 (delE Q g.id)) ∧ ∃ L', PI W rb room v L' Q w' ∧ L'.map Gr.p = delM Q g.id ∧ KeepP W wr w' := by
  refine (h.r.del (Nat.le_refl _) g hg).mono ?_
  rintro e' w' ⟨rfl, L', hI, hL, hk⟩
  rw [delE_pp e] at hL
  refine ⟨by rw [delE_pp e], L', h.mid hI hk (fun y hy => ?_), ?_, keepP hk⟩
  · rcases hL with ⟨_, rfl⟩ | ⟨_, rfl⟩
    · exact .inl hy
    · exact .inl (mem_del.1 hy).1
  · unfold delM
    rcases hL with ⟨hz, rfl⟩ | ⟨hz, rfl⟩
    · rw [if_neg hz]; exact e
    · rw [if_pos hz]; exact del_pp e
theorem PI.add2 {W : World} {rb : Nat} {room : Int} {v : Value} {L Q : List Gr} {wr : World} (h : PI W rb room v L Q wr) (hd : Cd W) (hQ : Q.length ≤ 64) (g : Gr) (hg : GIn W g) (hf : fewB g.l = true) : Calls Tryd.prog 13 #[ptr rb, gV g] wr fun e w' => e = .returned (.int .i64 (addE room Q g)) ∧ ∃ v' Q', PI W rb room v' L Q' w' ∧ Q'.map Gr.p = addM room Q g ∧ KeepR rb v wr w' := by
  refine (radd_any g wr h.t hQ hg.bs (fewB_sm hf) hg.u).mono ?_
  rintro e' w' ⟨rfl, h1, h2⟩
  refine ⟨rfl, ?_⟩
  unfold addM
  by_cases hz : addE room Q g = 0
  · obtain ⟨v', ht, hk, hv⟩ := h2 hz
    refine ⟨v', insG g Q, h.fin hd ht hk (.inl rfl) (fun b hb => .inr (hv b hb)), ?_, keepR hk (.inl rfl)⟩
    rw [if_pos hz]
    unfold putG
    rw [del_none (add_zero hz).2.1]
  · exact ⟨v, Q, h.grow (h1 hz), by rw [if_neg hz], keepR (gby (h1 hz) _) (.inl rfl)⟩
theorem PI.mod2 {W : World} {rb : Nat} {room : Int} {v : Value} {L Q : List Gr} {wr : World} (h : PI W rb room v L Q wr) (hd : Cd W) (hQ : Q.length ≤ 64) (hCl : Cl Q) (g : Gr) (hg : GIn W g) (hf : fewB g.l = true) : Calls Tryd.prog 15 #[ptr rb, gV g] wr fun e w' => e = .returned (.int .i64 (modE Q g)) ∧ ∃ v' Q', PI W rb room v' L Q' w' ∧ Q'.map Gr.p = modM Q g ∧ KeepR rb v wr w' := by
  refine (rmod_any g wr h.t hQ hg.bs (fewB_sm hf) hg.u hCl).mono ?_
  rintro e' w' ⟨rfl, h1, h2⟩
  refine ⟨rfl, ?_⟩
  unfold modM
  by_cases hz : modE Q g = 0
  · obtain ⟨ht, b, hb, hk⟩ := h2 hz
    exact ⟨v, putG g Q, h.fin hd ht hk (.inr hb) (fun b hb => .inl hb), by rw [if_pos hz], keepR hk (.inr hb)⟩
  · exact ⟨v, Q, h.grow (h1 hz), by rw [if_neg hz], keepR (gby (h1 hz) _) (.inl rfl)⟩
theorem PI.del2 {W : World} {rb : Nat} {room : Int} {v : Value} {L Q : List Gr} {wr : World} (h : PI W rb room v L Q wr) (hd : Cd W) (hQ : Q.length ≤ 64) (i : Int) : Calls Tryd.prog 17 #[ptr rb, .int .i64 i] wr fun e w' => e = .returned (.int .i64 (delE Q i)) ∧ ∃ v' Q', PI W rb room v' L Q' w' ∧ Q'.map Gr.p = delM Q i ∧ KeepR rb v wr w' := by
  refine (rdel_any i wr h.t hQ).mono ?_
  rintro e' w' ⟨rfl, h1, h2⟩
  refine ⟨rfl, ?_⟩
  unfold delM
  by_cases hz : delE Q i = 0
  · obtain ⟨v', ht, hk, hv⟩ := h2 hz
    exact ⟨v', delG i Q, h.fin hd ht hk (.inl rfl) (fun b hb => .inr (hv b hb)), by rw [if_pos hz], keepR hk (.inl rfl)⟩
  · exact ⟨v, Q, h.grow (h1 hz), by rw [if_neg hz], keepR (gby (h1 hz) _) (.inl rfl)⟩
/-- The document's list as a list of groups. -/
theorem RT.gs {W : World} {rb : Nat} {room : Int} {v : Value} {L : List Gr} {wr : World} (h : RT W rb room v L wr) : ∃ a c, v = .slice a L.length c ∧ L.length ≤ c ∧ Gs wr a L := by
  obtain ⟨a, c, rfl, hlc, _, hor⟩ := h.slice
  refine ⟨a, c, rfl, hlc, ?_, fun x hx => (h.grp x hx).1.below h.bel, fun x hx => (h.grp x hx).2.1⟩
  rcases hor with e | ⟨b, ha, hb, hc⟩
  · exact .inl e
  · exact .inr ⟨b, 0, ha, hb, fun i hi => by rw [Nat.zero_add]; exact hc i hi⟩
theorem rt_new (W w : World) (room : Int) (hb : Below W.heap.size W w) : RT W w.heap.size room (.slice none 0 0) [] (w.alloc (.cells #[.slice none 0 0, .int .i64 room] 46)) :=
  ⟨by simp, by simp, by simp, by simp, hb.size, World.ownsRow_nil _ _ _ _, by simp [Value.ownBlock], by simp, List.Pairwise.nil, btr hb (by go_grown) (Nat.le_refl _)⟩
set_option maxHeartbeats 2000000 in
theorem rnew_no (room : Int) (w : World) (h : inB room 1 64 = false) : Calls Tryd.prog 9 #[.int .i64 room] w fun e w' => e = .returned (.tuple #[.pointer none, .int .i64 1]) ∧ w' = w := by
  by_cases h1 : room < 1
  · have hb : decide (room < 1) = true := decide_eq_true h1
    clear h h1
    go_enter Tryd.func9, Tryd.ntmps9
    go_wp2_with fail
    go_ret2
    exact ⟨rfl, rfl⟩
  · have hb : decide (room < 1) = false := decide_eq_false h1
    have hb2 : decide (64 < room) = true := decide_eq_true (by unfold inB at h; simp at h; omega)
    clear h h1
    go_enter Tryd.func9, Tryd.ntmps9
    go_wp2_with fail
    go_ret2
    exact ⟨rfl, rfl⟩
set_option maxHeartbeats 2000000 in
theorem rnew_yes (room : Int) (w : World) (h : inB room 1 64 = true) : Calls Tryd.prog 9 #[.int .i64 room] w fun e w' => e = .returned (.tuple #[ptr w.heap.size, .int .i64 0]) ∧ w' = w.alloc (.cells #[.slice none 0 0, .int .i64 room] 46) := by
  obtain ⟨h1, h2⟩ := in_pos h
  have hb : decide (room < 1) = false := decide_eq_false (by omega)
  have hb2 : decide (64 < room) = false := decide_eq_false (by omega)
  clear h h1 h2
  go_enter Tryd.func9, Tryd.ntmps9
  go_wp2_with fail
  go_ret2
  exact ⟨rfl, rfl⟩
set_option maxRecDepth 20000 in
set_option maxHeartbeats 8000000 in
/-- Two lists of groups of the same parts. -/
theorem lsame_any (a : Option Addr) (l : List Gr) (c : Nat) (b : Option Addr) (r : List Gr) (d : Nat) (w : World) (hl : Gs w a l) (hr : Gs w b r) (hp : l.map Gr.p = r.map Gr.p) (hn : l.length ≤ 64) (hc : l.length ≤ c) (hd : r.length ≤ d) : Calls Tryd.prog 21 #[.slice a l.length c, .slice b r.length d] w fun e w' => e = .returned (.bool true) ∧ Below w.heap.size w w' := by
  have hlr := len_pp hp
  rw [← hlr] at hd ⊢
  have HS : Hid (∀ i (h1 : i < l.length) (h2 : i < r.length) w1, Below w.heap.size w w1 → Calls Tryd.prog 20 #[gV l[i], gV r[i]] w1 fun e w' => e = .returned (.bool true) ∧ Below w1.heap.size w1 w') := (show ∀ i (h1 : i < l.length) (h2 : i < r.length) w1, _ from fun i h1 h2 w1 k => by
    have e : l[i].p = r[i].p := by
      have e1 : (l.map Gr.p)[i]'(by simpa using h1) = l[i].p := by simp
      have e2 : (r.map Gr.p)[i]'(by simpa using h2) = r[i].p := by simp
      rw [← e1, ← e2]
      simp only [hp]
    have := sGrp_any l[i].id l[i].kd l[i].a l[i].l l[i].c r[i].id r[i].kd r[i].a r[i].l r[i].c w1 ((hl.bs _ (List.getElem_mem h1)).below k) ((hr.bs _ (List.getElem_mem h2)).below k) (hl.sm _ (List.getElem_mem h1)) (hr.sm _ (List.getElem_mem h2))
    rw [sGrp_pp e] at this
    exact this)
  have HL : Hid (Gs w a l) := hl
  have HR : Hid (Gs w b r) := hr
  have HN : Hid (l.length = r.length) := hlr
  clear hl hr hp hlr
  go_enter Tryd.func21, Tryd.ntmps21
  go_wp2_with fail
  go_loopw [5] (fun v wr => ∃ q : Nat, q ≤ l.length ∧ v = .int .i64 q ∧ Hid (Below w.heap.size w wr)) (fun v _ => l.length - (intOf v).toNat)
  case atStart => exact ⟨0, Nat.zero_le _, rfl, (show Below _ _ _ from Below.refl _ _)⟩
  case round =>
    obtain ⟨q, hq, rfl, HB⟩ := hrel
    by_cases hlt : q < l.length
    · have hlt2 : q < r.length := by rw [← HN.out]; exact hlt
      obtain ⟨b1, o1, rfl, hb1, hc1⟩ := (HL.out.below HB.out).at hlt
      obtain ⟨b2, o2, rfl, hb2, hc2⟩ := (HR.out.below HB.out).at hlt2
      obtain ⟨d0, d1, d2⟩ := hc1 q hlt
      obtain ⟨e0, e1, e2⟩ := hc2 q hlt2
      have HSq : Hid (Calls Tryd.prog 20 #[gV l[q], gV r[q]] wr.drew fun e w' => e = .returned (.bool true) ∧ Below wr.drew.heap.size wr.drew w') := HS.out q hlt hlt2 wr.drew (btr HB.out (bdr (Below.refl _ _) 1) (Nat.le_refl _))
      clear hc1 hc2
      generalize l[q] = X at *
      generalize r[q] = Y at *
      obtain ⟨xi, xk, xa, xl, xc⟩ := X
      obtain ⟨yi, yk, ya, yl, yc⟩ := Y
      simp only at *
      go_wp2_with fail
      go_region_with (go_at_call 20; refine HSq.out.mono ?_; rintro e w2 ⟨rfl, g2⟩)
      all_goals
        have HB2 : Hid (Below w.heap.size w w2) := (show Below _ _ _ from btr (btr HB.out (bdr (Below.refl _ _) 1) (Nat.le_refl _)) g2 (Nat.le_refl _))
        clear d0 d1 d2 e0 e1 e2 g2
        go_wp2_with fail
        go_roundw
        case rel => exact ⟨q + 1, by omega, by go_num, HB2⟩
        case measure => simp [intOf]; omega
    · have e : q = l.length := by omega
      subst e
      have G := HB.out
      go_wp2_with fail
      go_ret
      exact ⟨rfl, G⟩
end Go.Proofs.YteodlkgbakkjmaaDoor

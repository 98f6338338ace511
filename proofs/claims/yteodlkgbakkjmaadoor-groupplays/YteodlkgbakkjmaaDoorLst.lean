/-
  What List, Get and Delete answer and do, as contracts.
-/
import Derived.Test.YteodlkgbakkjmaaDoorNums
import Derived.Maps.AppendAt
namespace Go.Proofs.YteodlkgbakkjmaaDoor
open Go.ChangeShapes Go.WideShapes Go.ChangeAt Go.RowKit Go.Maps
set_option linter.unusedVariables false

/-- Groups as cells. -/
def flatG (l : List Gr) : List Value := l.flatMap fun t => [.int .i64 t.id, .int .i64 t.kd, .slice t.a t.l.length t.c]
theorem flatG_length : ∀ l : List Gr, (flatG l).length = l.length * 3
  | [] => rfl
  | t :: l => by simp only [flatG, List.flatMap_cons, List.length_append, List.length_cons, List.length_nil]; have := flatG_length l; unfold flatG at this; rw [this]; omega
theorem flatG_append (l m : List Gr) : flatG (l ++ m) = flatG l ++ flatG m := by simp [flatG]
theorem flatG_at : ∀ (l : List Gr) (i : Nat) (h : i < l.length), (flatG l)[i * 3]? = some (.int .i64 l[i].id) ∧ (flatG l)[i * 3 + 1]? = some (.int .i64 l[i].kd) ∧ (flatG l)[i * 3 + 2]? = some (.slice l[i].a l[i].l.length l[i].c)
  | t :: l, 0, _ => by simp [flatG]
  | t :: l, i + 1, h => by
    have ih := flatG_at l i (by simpa using h)
    unfold flatG at ih ⊢
    rw [List.flatMap_cons, show (i + 1) * 3 = i * 3 + 3 by omega]
    simpa using ih
theorem flatG_cell (l : List Gr) (j : Nat) (u : Value) (h : (flatG l)[j]? = some u) : ∃ i, ∃ hi : i < l.length, (j = i * 3 ∧ u = .int .i64 l[i].id) ∨ (j = i * 3 + 1 ∧ u = .int .i64 l[i].kd) ∨ (j = i * 3 + 2 ∧ u = .slice l[i].a l[i].l.length l[i].c) := by
  have hj : j < (flatG l).length := by
    rcases Nat.lt_or_ge j (flatG l).length with h' | h'
    · exact h'
    · rw [List.getElem?_eq_none h'] at h; cases h
  rw [flatG_length] at hj
  have hi : j / 3 < l.length := by omega
  obtain ⟨x0, x1, x2⟩ := flatG_at l (j / 3) hi
  refine ⟨j / 3, hi, ?_⟩
  have : j % 3 = 0 ∨ j % 3 = 1 ∨ j % 3 = 2 := by omega
  rcases this with q | q | q
  · have e : j = j / 3 * 3 := by omega
    refine .inl ⟨e, ?_⟩
    rw [← e] at x0
    exact Option.some.inj (h.symm.trans x0)
  · have e : j = j / 3 * 3 + 1 := by omega
    refine .inr (.inl ⟨e, ?_⟩)
    rw [← e] at x1
    exact Option.some.inj (h.symm.trans x1)
  · have e : j = j / 3 * 3 + 2 := by omega
    refine .inr (.inr ⟨e, ?_⟩)
    rw [← e] at x2
    exact Option.some.inj (h.symm.trans x2)
theorem flatG_one (l : List Gr) : ∀ u ∈ flatG l, u.oneCell' = true := by
  intro u hu
  unfold flatG at hu
  rw [List.mem_flatMap] at hu
  obtain ⟨t, _, ht⟩ := hu
  simp at ht
  rcases ht with rfl | rfl | rfl <;> rfl
theorem infoGr : (Tryd.prog.info? 33).map (fun i => (i.zero, i.size, i.bytes)) = some (some (.agg #[.int .i64 0, .int .i64 0, .slice none 0 0]), 3, 40) := by kernel_rfl
theorem rowG_cells {base : Nat} {w : World} {g n cap : Nat} {l : List Gr} (hn : n = l.length) (h : w.ownsRow base 33 3 (.slice (some ⟨g, 0, none⟩) n cap) n (flatG l)) (i : Nat) (hi : i < l.length) : Cg w g (i * 3) l[i] := by
  subst hn
  obtain ⟨x0, x1, x2⟩ := flatG_at l i hi
  refine ⟨?_, ?_, ?_⟩
  · rw [h.cellAt (i * 3) (by omega)]; exact x0
  · rw [h.cellAt (i * 3 + 1) (by omega)]; exact x1
  · rw [h.cellAt (i * 3 + 2) (by omega)]; exact x2
/-- Groups that a call has put into a row of its own, behind world V, with what they have. -/
structure LsI (V : World) (v : Value) (r : List Gr) (wr : World) : Prop where
  row : wr.ownsRow V.heap.size 33 3 v r.length (flatG r)
  bel : Below V.heap.size V wr
  bs : ∀ x ∈ r, Bs wr x.a x.l
  sm : ∀ x ∈ r, Sm x.l
  ap : ∀ x ∈ r, ∀ b, InB x.a x.l b → v.ownBlock ≠ some b
theorem LsI.grow {V : World} {v : Value} {r : List Gr} {wr w2 : World} (h : LsI V v r wr) (g : Below wr.heap.size wr w2) : LsI V v r w2 := ⟨own_below h.row g, h.bel.trans (g.mono h.bel.size), fun x hx => (h.bs x hx).below g, h.sm, h.ap⟩
/-- A group is appended. -/
theorem wpList_appG1 {w : World} {ops : Array Oper} {rest : List Oper} {o : Oper} {a : Act} {Q : Exit → Act → World → Prop} (hgd : o.guard = none) (s x : Operand)
    (ho : o.op = .call { callee := .builtin .append, args := #[s, x], argTypes := #[43, 43] }) (V : World) (v : Value) (r : List Gr) (hs : a.eval s = v) (hI : LsI V v r w)
    (g : Nat) (b : Gr) (hx : a.eval x = .slice (some ⟨g, 0, none⟩) 1 1) (hc : Cg w g 0 b) (hn : r.length ≤ 1000) (hb : Bs w b.a b.l) (hsm : Sm b.l) (hap : ∀ k, InB b.a b.l k → v.ownBlock ≠ some k)
    (h : ∀ v' w', LsI V v' (r ++ [b]) w' → wpList Tryd.prog ops Q rest (a.put o.dst v') w') : wpList Tryd.prog ops Q (o :: rest) a w := by
  obtain ⟨i0, hi, hz0, hz1, hz2⟩ := info_parts infoGr
  refine wpList_append_own_at w hgd s x 43 ho V.heap.size 33 i0 (.agg #[.int .i64 0, .int .i64 0, .slice none 0 0]) 3 40 Tryd.underlying43 hi hz0 hz1 hz2 rfl (by decide) v r.length (flatG r) hs hI.row ⟨g, 0, none⟩ 1 1 (flatG [b]) hx (by simp [flatG]) ?_ (flatG_one [b]) (by unfold maxLen; omega) (by omega) hI.bel.size ?_
  · intro j u hj
    obtain ⟨c0, c1, c2⟩ := hc
    rw [addP, Nat.zero_add]
    match j, hj with
    | 0, hj => simp [flatG] at hj; rw [← hj]; exact c0
    | 1, hj => simp [flatG] at hj; rw [← hj]; simpa using c1
    | 2, hj => simp [flatG] at hj; rw [← hj]; simpa using c2
    | j + 3, hj => simp [flatG] at hj
  · intro v' w' h1 h2 _ hloc
    refine h v' w' ⟨by rw [List.length_append, flatG_append]; exact h1, hI.bel.grown h2 hI.bel.size (fun j hj => (hI.row.lt j hj).1), ?_, ?_, ?_⟩
    · intro y hy
      rcases List.mem_append.1 hy with hy | hy
      · exact (hI.bs y hy).stay h2.size (fun k hk hlt => h2.block k hlt (fun e => hI.ap y hy k hk e.symm))
      · simp at hy
        subst hy
        exact hb.stay h2.size (fun k hk hlt => h2.block k hlt (fun e => hap k hk e.symm))
    · intro y hy
      rcases List.mem_append.1 hy with hy | hy
      · exact hI.sm y hy
      · simp at hy; subst hy; exact hsm
    · intro y hy k hk
      have hlt : k < w.heap.size := by
        rcases List.mem_append.1 hy with hy | hy
        · exact (hI.bs y hy).lt hk
        · simp at hy; subst hy; exact hb.lt hk
      rcases hloc with e | e
      · rw [e]
        rcases List.mem_append.1 hy with hy | hy
        · exact hI.ap y hy k hk
        · simp at hy; subst hy; exact hap k hk
      · rw [e]
        intro e2
        cases e2
        omega
/-- A slice of groups, and what they have. -/
structure Gs (w : World) (a : Option Addr) (l : List Gr) : Prop where
  cs : l = [] ∨ ∃ g o, a = some ⟨g, o, none⟩ ∧ g < w.heap.size ∧ ∀ i (h : i < l.length), Cg w g (o + i * 3) l[i]
  bs : ∀ x ∈ l, Bs w x.a x.l
  sm : ∀ x ∈ l, Sm x.l
theorem Gs.below {w w' : World} {a : Option Addr} {l : List Gr} (h : Gs w a l) (k : Below w.heap.size w w') : Gs w' a l := by
  refine ⟨?_, fun x hx => (h.bs x hx).below k, h.sm⟩
  rcases h.cs with e | ⟨g, o, ha, hg, hc⟩
  · exact .inl e
  · exact .inr ⟨g, o, ha, Nat.lt_of_lt_of_le hg k.size, fun i hi => (hc i hi).below hg k⟩
theorem Gs.at {w : World} {a : Option Addr} {l : List Gr} (h : Gs w a l) {k : Nat} (hk : k < l.length) : ∃ g o, a = some ⟨g, o, none⟩ ∧ g < w.heap.size ∧ ∀ i (h : i < l.length), Cg w g (o + i * 3) l[i] := by
  rcases h.cs with rfl | h
  · cases hk
  · exact h
theorem LsI.gs {V : World} {v : Value} {r : List Gr} {wr : World} (h : LsI V v r wr) : ∃ a c, v = .slice a r.length c ∧ r.length ≤ c ∧ Gs wr a r := by
  rcases h.row.2 with ⟨rfl, h0⟩ | ⟨g, cap, cur, rfl, hbg, hb, hnc, hcm, _⟩
  · have hr : r = [] := List.length_eq_zero_iff.1 h0
    subst hr
    exact ⟨none, 0, rfl, Nat.le_refl _, .inl rfl, by simp, by simp⟩
  · exact ⟨_, _, rfl, hnc, .inr ⟨g, 0, rfl, (Array.getElem?_eq_some_iff.1 hb).1, fun i hi => by rw [Nat.zero_add]; exact rowG_cells rfl h.row i hi⟩, h.bs, h.sm⟩
set_option maxRecDepth 20000 in
set_option maxHeartbeats 8000000 in
theorem list_any {tb mb : Nat} {room : Int} {L : List Gr} (w : World) (h : Tb w tb mb room L) (hL : L.length ≤ 64) : Calls Tryd.prog 22 #[ptr tb] w fun e w' => ∃ a c r, e = .returned (.slice a r.length c) ∧ r.map Gr.p = L.map Gr.p ∧ r.length ≤ c ∧ Gs w' a r ∧ Below w.heap.size w w' := by
  have HN : Hid (Calls Tryd.prog 42 #[ptr tb] w fun e w' => ∃ v, e = .returned v ∧ OwnI w.heap.size w' v (L.map Gr.id) ∧ Below w.heap.size w w') := numbers_any w h hL
  have HT : Hid (∀ w', Below w.heap.size w w' → Tb w' tb mb room L) := (show ∀ w', _ from fun w' k => h.below k)
  have HLk : Hid (∀ i (hi : i < L.length) w', Below w.heap.size w w' → (Instr.lookup 57 (.map (some mb)) (.int .i64 L[i].id) false).run Tryd.prog w' = .ok (.agg #[.int .i64 L[i].id, .int .i64 L[i].kd, .slice L[i].a L[i].l.length L[i].c]) w') := (show ∀ i (hi : i < L.length) w', _ from fun i hi w' k => by
    have hm := List.getElem_mem hi
    have hw := id_wf (h.grp _ hm).ok
    rcases (h.below k).look false L[i].id (by omega) (by omega) with ⟨hf, _⟩ | ⟨g, hg, hid, _, hr⟩
    · rw [hasP_iff.2 ⟨_, hm, rfl⟩] at hf; cases hf
    · have e : g = L[i] := srt_one h.srt hg hm hid
      subst e
      exact hr)
  have HC : Hid (∀ i (hi : i < L.length) w', Below w.heap.size w w' → Calls Tryd.prog 32 #[.agg #[.int .i64 L[i].id, .int .i64 L[i].kd, .slice L[i].a L[i].l.length L[i].c]] w' fun e w'' => ∃ a' r c', e = .returned (.agg #[.int .i64 L[i].id, .int .i64 L[i].kd, .slice a' r.length c']) ∧ (Gr.mk L[i].id L[i].kd a' r c').p = L[i].p ∧ BsF w'.heap.size w'' a' r ∧ Below w'.heap.size w' w'') := (show ∀ i (hi : i < L.length) w', _ from fun i hi w' k => copyOf_parts L[i] w' ((h.grp _ (List.getElem_mem hi)).bs.below k) (h.grp _ (List.getElem_mem hi)).sm)
  have HSm : Hid (∀ i (hi : i < L.length), Sm L[i].l) := (show ∀ i (hi : i < L.length), _ from fun i hi => (h.grp _ (List.getElem_mem hi)).sm)
  have HL : Hid (L.length ≤ 64) := hL
  have hne : tb < w.heap.size := h.lt
  clear h hL hne
  go_enter Tryd.func22, Tryd.ntmps22
  go_wp2_with fail
  refine HN.out.mono ?_
  rintro e w1 ⟨v, rfl, ho, g1⟩
  rcases own_cells ho with ⟨hz, a, c, rfl⟩ | ⟨ng, cap, rfl, hng, hcap, hnc⟩
  · have hl : L = [] := by simpa using hz
    subst hl
    clear ho hz
    go_wp2_with fail
    go_loopw [3, 11] (fun v3 v wr => v3 = .slice none 0 0 ∧ v = .int .i64 0 ∧ wr = w1) (fun _ _ _ => 0)
    case atStart => exact ⟨rfl, rfl, rfl⟩
    case round =>
      obtain ⟨rfl, rfl, rfl⟩ := hrel
      go_wp2_with fail
      go_ret
      have hgs : Gs wr none [] := ⟨.inl rfl, (by simp), (by simp)⟩
      first | exact ⟨none, 0, [], rfl, rfl, Nat.le_refl _, hgs, g1⟩ | (refine ⟨none, 0, [], ?_⟩; simp; exact ⟨hgs, g1⟩)
  · have e1 : (L.map Gr.id).length = L.length := by simp
    rw [e1] at hcap ⊢
    have HNc : Hid (∀ i (hi : i < L.length) w', Below w1.heap.size w1 w' → w'.cell? ⟨ng, i, none⟩ = some (.int .i64 L[i].id)) := (show ∀ i (hi : i < L.length) w', _ from fun i hi w' k => by
      have := hnc i (by simpa using hi)
      rw [(k.cell (p := ⟨ng, i, none⟩) hng), this]
      simp)
    have HG1 : Hid (Below w.heap.size w w1) := g1
    have H0 : Hid (LsI w1 (.slice none 0 0) [] w1) := (show LsI _ _ _ _ from ⟨World.ownsRow_nil _ _ _ _, Below.refl _ _, by simp, by simp, by simp⟩)
    have hL := HL.out
    clear hnc ho e1
    go_wp2_with fail
    go_loopw [3, 11] (fun v3 v wr => ∃ (q : Nat) (r : List Gr), q ≤ L.length ∧ v = .int .i64 q ∧ Hid (LsI w1 v3 r wr ∧ r.map Gr.p = (L.take q).map Gr.p)) (fun _ v _ => L.length - (intOf v).toNat)
    case atStart => exact ⟨0, [], Nat.zero_le _, rfl, (show _ ∧ _ from ⟨H0.out, rfl⟩)⟩
    case round =>
      obtain ⟨q, r, hq, rfl, HI⟩ := hrel
      by_cases hlt : q < L.length
      · have hwr : Below w.heap.size w wr := btr HG1.out HI.out.1.bel (Nat.le_refl _)
        have tT := HT.out _ hwr
        have t1 := tT.c1
        have tl := tT.lt
        have hcell := HNc.out q hlt wr HI.out.1.bel
        have hlk := HLk.out q hlt wr hwr
        have HCq : Hid (Calls Tryd.prog 32 #[.agg #[.int .i64 L[q].id, .int .i64 L[q].kd, .slice L[q].a L[q].l.length L[q].c]] wr fun e w'' => ∃ a' r c', e = .returned (.agg #[.int .i64 L[q].id, .int .i64 L[q].kd, .slice a' r.length c']) ∧ (Gr.mk L[q].id L[q].kd a' r c').p = L[q].p ∧ BsF wr.heap.size w'' a' r ∧ Below wr.heap.size wr w'') := HC.out q hlt wr hwr
        have HPn : Hid ((L.take (q + 1)).map Gr.p = (L.take q).map Gr.p ++ [L[q].p]) := (show _ = _ by rw [List.take_succ_eq_append_getElem hlt, List.map_append]; rfl)
        have HSq : Hid (Sm L[q].l) := HSm.out q hlt
        clear tT hwr
        generalize L[q] = X at *
        go_wp2_with fail
        refine HCq.out.mono ?_
        rintro e w2 ⟨a', rb, c', rfl, hp, hb, g2⟩
        have hrl : r.length ≤ 1000 := by have := congrArg List.length HI.out.2; simp at this; omega
        have HI2 : Hid (LsI w1 u3 r (w2.alloc (.cells #[.int .i64 X.id, .int .i64 X.kd, .slice a' rb.length c'] 33))) := (show LsI _ _ _ _ from (HI.out.1.grow g2).grow (by go_grown))
        have HBb : Hid (Bs (w2.alloc (.cells #[.int .i64 X.id, .int .i64 X.kd, .slice a' rb.length c'] 33)) a' rb) := (show Bs _ _ _ from hb.b.alloc _)
        have HAp : Hid (∀ k, InB a' rb k → u3.ownBlock ≠ some k) := (show ∀ k, _ from fun k hk e => by
          have h1 := hb.new hk
          have h2 := (HI.out.1.row.lt k e).2
          omega)
        have HSb : Hid (Sm rb) := (show Sm _ from sm_of (g := X) (g' := ⟨X.id, X.kd, a', rb, c'⟩) HSq.out hp)
        have HP : Hid ((Gr.mk X.id X.kd a' rb c').p = X.p) := hp
        clear hp hb g2 hlk hcell
        go_wp2_with (at_builtin; refine wpList_appG1 rfl _ _ rfl w1 u3 r rfl HI2.out w2.heap.size ⟨X.id, X.kd, a', rb, c'⟩ rfl ⟨by simp, by simp, by simp⟩ hrl HBb.out HSb.out HAp.out ?_; intro v' w3 hI3)
        have HI3 : Hid (LsI w1 v' (r ++ [Gr.mk X.id X.kd a' rb c']) w3 ∧ (r ++ [Gr.mk X.id X.kd a' rb c']).map Gr.p = (L.take (q + 1)).map Gr.p) := (show _ ∧ _ from ⟨hI3, by rw [List.map_append, HI.out.2, HPn.out]; simp [HP.out]⟩)
        clear hI3
        go_wp2_with fail
        go_roundw
        case rel => exact ⟨q + 1, _, by omega, by go_num, HI3⟩
        case measure => simp [intOf]; omega
      · have e : q = L.length := by omega
        subst e
        obtain ⟨ra, rc, er, hrc, hgs⟩ := HI.out.1.gs
        have HR : Hid (Gs wr ra r ∧ r.map Gr.p = L.map Gr.p ∧ r.length ≤ rc ∧ Below w.heap.size w wr) := (show _ ∧ _ ∧ _ ∧ _ from ⟨hgs, by have := HI.out.2; rwa [List.take_length] at this, hrc, btr HG1.out HI.out.1.bel (Nat.le_refl _)⟩)
        rw [er]
        clear hgs er hrc
        go_wp2_with fail
        go_ret
        exact ⟨ra, rc, r, rfl, HR.out.2.1, HR.out.2.2.1, HR.out.1, HR.out.2.2.2⟩
def gr0 : Gr := ⟨0, 0, none, [], 0⟩
set_option maxRecDepth 20000 in
set_option maxHeartbeats 8000000 in
/-- What Get answers. -/
theorem get_any {tb mb : Nat} {room : Int} {L : List Gr} (i : Int) (w : World) (h : Tb w tb mb room L) (h0 : -9223372036854775808 ≤ i) (h1 : i ≤ 9223372036854775807) :
    Calls Tryd.prog 18 #[ptr tb, .int .i64 i] w fun e w' => ∃ (g' : Gr) (er : Int), e = .returned (.tuple #[gV g', .int .i64 er]) ∧ ((hasP L i = false ∧ g' = gr0 ∧ er = 31) ∨ ∃ g ∈ L, g.id = i ∧ g'.p = g.p ∧ er = 0) ∧ Bs w' g'.a g'.l ∧ Sm g'.l ∧ Below w.heap.size w w' := by
  have HH : Hid (∀ w1, Below w.heap.size w w1 → Calls Tryd.prog 29 #[ptr tb, .int .i64 i] w1 fun e w' => e = .returned (.bool (hasP L i)) ∧ Below w1.heap.size w1 w') := (show ∀ w1, _ from fun w1 k => has_any i w1 (h.below k) h0 h1)
  have HT : Hid (∀ w1, Below w.heap.size w w1 → Tb w1 tb mb room L) := (show ∀ w1, _ from fun w1 k => h.below k)
  obtain ⟨V, hV⟩ : ∃ V, w.alloc (.cells #[.int .i64 0, .int .i64 0, .slice none 0 0] 33) = V := ⟨_, rfl⟩
  have GV : Below w.heap.size w V := by rw [← hV]; go_grown
  have zV : w.heap.size < V.heap.size := by rw [← hV]; simp
  have b1 : V.cell? ⟨w.heap.size, 0, none⟩ = some (.int .i64 0) ∧ V.cell? ⟨w.heap.size, 1, none⟩ = some (.int .i64 0) ∧ V.cell? ⟨w.heap.size, 2, none⟩ = some (.slice none 0 0) ∧ ∀ o, V.frozen? ⟨w.heap.size, o, none⟩ = false := by rw [← hV]; simp
  have HV : Hid (w.alloc (.cells #[.int .i64 0, .int .i64 0, .slice none 0 0] 33) = V) := hV
  have HX : Hid (∀ w', Below V.heap.size V w' → (w'.cell? ⟨w.heap.size, 0, none⟩ = some (.int .i64 0) ∧ w'.cell? ⟨w.heap.size, 1, none⟩ = some (.int .i64 0) ∧ w'.cell? ⟨w.heap.size, 2, none⟩ = some (.slice none 0 0) ∧ ∀ o, w'.frozen? ⟨w.heap.size, o, none⟩ = false) ∧ Below w.heap.size w w' ∧ w.heap.size < w'.heap.size) := (show ∀ w', _ from fun w' k => ⟨⟨(k.cell (p := ⟨w.heap.size, 0, none⟩) zV).trans b1.1, (k.cell (p := ⟨w.heap.size, 1, none⟩) zV).trans b1.2.1, (k.cell (p := ⟨w.heap.size, 2, none⟩) zV).trans b1.2.2.1, fun o => (k.frozen (p := ⟨w.heap.size, o, none⟩) zV).trans (b1.2.2.2 o)⟩, btr GV k (Nat.le_refl _), Nat.lt_of_lt_of_le zV k.size⟩)
  rcases h.look false i h0 h1 with ⟨hf, _⟩ | ⟨g, hg, hid, hf, _⟩
  · rw [hf] at HH
    have HE : Hid (hasP L i = false) := hf
    clear h hV b1 zV hf
    go_enter Tryd.func18, Tryd.ntmps18
    go_wp2_with fail
    rw [HV.out]
    refine (HH.out V GV).mono ?_
    rintro e w1 ⟨rfl, g1⟩
    obtain ⟨⟨c0, c1, c2, cf⟩, G1, z1⟩ := HX.out w1 g1
    clear g1
    go_wp2_with fail
    obtain ⟨s0, s1, s2⟩ := s3_cells (o := 0) (x := .int .i64 0) (y := .int .i64 0) (z := .slice none 0 0) c0 c1 c2
    have O5 := Only.s3 w1 w.heap.size 0 (.int .i64 0) (.int .i64 0) (.slice none 0 0)
    refine bodyPost_ret (resGe (b := w.heap.size) (t := gr0) rfl rfl ⟨s0, s1, s2⟩) rfl ?_
    exact ⟨gr0, 31, rfl, .inl ⟨HE.out, rfl, rfl⟩, ⟨by simp [gr0], .inl rfl⟩, ⟨by simp [gr0], by simp [gr0]⟩, O5.below (Nat.le_refl _) G1⟩
  · rw [hf] at HH
    have HLk : Hid (∀ w', Below w.heap.size w w' → (Instr.lookup 57 (.map (some mb)) (.int .i64 i) false).run Tryd.prog w' = .ok (.agg #[.int .i64 g.id, .int .i64 g.kd, .slice g.a g.l.length g.c]) w') := (show ∀ w', _ from fun w' k => by
      rcases (h.below k).look false i h0 h1 with ⟨hf2, _⟩ | ⟨g2, hg2, hid2, _, hr⟩
      · rw [hf] at hf2; cases hf2
      · have e : g2 = g := srt_one h.srt hg2 hg (hid2.trans hid.symm)
        subst e
        exact hr)
    have HC : Hid (∀ w1, Below w.heap.size w w1 → Calls Tryd.prog 32 #[.agg #[.int .i64 g.id, .int .i64 g.kd, .slice g.a g.l.length g.c]] w1 fun e w' => ∃ a' r c', e = .returned (.agg #[.int .i64 g.id, .int .i64 g.kd, .slice a' r.length c']) ∧ (Gr.mk g.id g.kd a' r c').p = g.p ∧ BsF w1.heap.size w' a' r ∧ Below w1.heap.size w1 w') := (show ∀ w1, _ from fun w1 k => copyOf_parts g w1 ((h.grp g hg).bs.below k) (h.grp g hg).sm)
    have HS : Hid (Sm g.l) := (h.grp g hg).sm
    have HM : Hid (g ∈ L ∧ g.id = i) := (show _ ∧ _ from ⟨hg, hid⟩)
    clear h hV b1 zV hf hg hid
    go_enter Tryd.func18, Tryd.ntmps18
    go_wp2_with fail
    rw [HV.out]
    refine (HH.out V GV).mono ?_
    rintro e w1 ⟨rfl, g1⟩
    obtain ⟨_, G1, z1⟩ := HX.out w1 g1
    have tT := HT.out w1 G1
    have t1 := tT.c1
    have tl := tT.lt
    have hlk := HLk.out w1 G1
    have Hg1 : Hid (Below V.heap.size V w1) := g1
    clear g1 tT
    go_wp2_with fail
    refine (HC.out w1 G1).mono ?_
    rintro e w2 ⟨a', r, c', rfl, hp, hb, g2⟩
    have gg2 : Below V.heap.size V w2 := btr Hg1.out g2 (Nat.le_refl _)
    obtain ⟨⟨c0, c1, c2, cf⟩, G2, z2⟩ := HX.out w2 gg2
    have HB : Hid (BsF w1.heap.size w2 a' r) := hb
    have HP : Hid ((Gr.mk g.id g.kd a' r c').p = g.p) := hp
    have HSr : Hid (Sm r) := (show Sm _ from sm_of (g := g) (g' := ⟨g.id, g.kd, a', r, c'⟩) HS.out hp)
    clear hp hb g2 gg2 hlk
    go_wp2_with fail
    obtain ⟨s0, s1, s2⟩ := s3_cells (o := 0) (x := .int .i64 g.id) (y := .int .i64 g.kd) (z := .slice a' r.length c') c0 c1 c2
    have O5 := Only.s3 w2 w.heap.size 0 (.int .i64 g.id) (.int .i64 g.kd) (.slice a' r.length c')
    refine bodyPost_ret (resGe (b := w.heap.size) (t := ⟨g.id, g.kd, a', r, c'⟩) rfl rfl ⟨s0, s1, s2⟩) rfl ?_
    refine ⟨⟨g.id, g.kd, a', r, c'⟩, 0, rfl, .inr ⟨g, HM.out.1, HM.out.2, HP.out, rfl⟩, ?_, HSr.out, O5.below (Nat.le_refl _) G2⟩
    exact (HB.out.mono (base' := w1.heap.size) (Nat.le_refl _) (by rw [O5.size]; exact Nat.le_refl _) (fun b hb1 _ => O5.block b (by omega))).b
/-- What Delete answers. -/
def delE (L : List Gr) (i : Int) : Int := if hasP L i = false then 31 else if ledB L i = true then 30 else 0
theorem Tb.del {w w' : World} {tb mb : Nat} {room : Int} {L : List Gr} (h : Tb w tb mb room L) (i : Int) (hown : w'.ownsMap Tryd.prog 3 Re mb L.length ((mD L).del (kL i))) (hg : w.grownBy w' (some mb)) : Tb w' tb mb room (delG i L) := by
  rw [del_mD] at hown
  refine ⟨?_, ?_, Nat.lt_of_lt_of_le h.lt hg.size, own_len hown, ?_, srt_del h.srt⟩
  · exact (World.cell?_of_block (a := ⟨tb, 0, none⟩) (hg.block tb h.lt (fun e => by cases e; exact h.ne rfl))).trans h.c0
  · exact (World.cell?_of_block (a := ⟨tb, 1, none⟩) (hg.block tb h.lt (fun e => by cases e; exact h.ne rfl))).trans h.c1
  · intro x hx
    exact (h.grp x (mem_del.1 hx).1).grown hg
set_option maxRecDepth 20000 in
set_option maxHeartbeats 8000000 in
theorem delete_any {tb mb : Nat} {room : Int} {L : List Gr} (i : Int) (w : World) (h : Tb w tb mb room L) (hd : Cd w) (h0 : -9223372036854775808 ≤ i) (h1 : i ≤ 9223372036854775807) :
    Calls Tryd.prog 16 #[ptr tb, .int .i64 i] w fun e w' => e = .returned (.int .i64 (delE L i)) ∧ (delE L i ≠ 0 → Below w.heap.size w w') ∧ (delE L i = 0 → Tb w' tb mb room (delG i L) ∧ w.grownBy w' (some mb) ∧ Cd w') := by
  have HH : Hid (∀ w1, Below w.heap.size w w1 → Calls Tryd.prog 29 #[ptr tb, .int .i64 i] w1 fun e w' => e = .returned (.bool (hasP L i)) ∧ Below w1.heap.size w1 w') := (show ∀ w1, _ from fun w1 k => has_any i w1 (h.below k) h0 h1)
  have HI : Hid (∀ w1, Below w.heap.size w w1 → Calls Tryd.prog 40 #[ptr tb, .int .i64 i] w1 fun e w' => e = .returned (.bool (ledB L i)) ∧ Below w1.heap.size w1 w') := (show ∀ w1, _ from fun w1 k => isLedTo_any i w1 (h.below k))
  have HT : Hid (∀ w1, Below w.heap.size w w1 → Tb w1 tb mb room L) := (show ∀ w1, _ from fun w1 k => h.below k)
  have HD : Hid (Cd w ∧ Tb w tb mb room L) := (show _ ∧ _ from ⟨hd, h⟩)
  have HE : Hid (delE L i = if hasP L i = false then 31 else if ledB L i = true then 30 else 0) := (show _ = _ from rfl)
  have hkey := key_wf h0 h1
  clear h hd h0 h1
  generalize delE L i = DE at *
  go_enter Tryd.func16, Tryd.ntmps16
  go_wp2_with fail
  refine (HH.out w (Below.refl _ _)).mono ?_
  rintro e w1 ⟨rfl, g1⟩
  generalize hasP L i = HB at *
  cases HB with
  | false =>
    have HE2 : Hid (DE = 31) := HE.out
    go_wp2_with fail
    go_ret
    exact ⟨by rw [HE2.out]; rfl, fun _ => g1, fun e => by rw [HE2.out] at e; cases e⟩
  | true =>
    go_wp2_with fail
    refine (HI.out w1 g1).mono ?_
    rintro e w2 ⟨rfl, g2⟩
    have G2 : Below w.heap.size w w2 := btr g1 g2 (Nat.le_refl _)
    generalize ledB L i = LB at *
    cases LB with
    | true =>
      have HE2 : Hid (DE = 30) := HE.out
      go_wp2_with fail
      go_ret
      exact ⟨by rw [HE2.out]; rfl, fun _ => G2, fun e => by rw [HE2.out] at e; cases e⟩
    | false =>
      have HE2 : Hid (DE = 0) := HE.out
      have tT := HT.out w2 G2
      have t1 := tT.c1
      have tl := tT.lt
      have hown := tT.own
      have HTT : Hid (Tb w2 tb mb room L) := tT
      clear tT
      go_wp2_with (at_delete; refine wpList_delete_own _ rfl _ _ 57 3 rfl 33 law Tryd.underlying57 _ mb L.length _ rfl hown _ _ rfl hkey ?_; intro w3 ho ht)
      have HF : Hid (Tb w3 tb mb room (delG i L) ∧ w.grownBy w3 (some mb)) := (show _ ∧ _ from ⟨HTT.out.del i ho ht.grown, by
        have hg := ht.grown
        exact ⟨hg.os.trans G2.os, hg.tape.trans G2.tape, hg.output.trans G2.output, Nat.le_trans G2.size hg.size, fun j hj hne => (hg.block j (Nat.lt_of_lt_of_le hj G2.size) hne).trans (G2.block j hj)⟩⟩)
      clear ho ht hown
      go_wp2_with fail
      go_ret
      exact ⟨by rw [HE2.out]; rfl, fun e => absurd HE2.out e, fun _ => ⟨HF.out.1, HF.out.2, HD.out.1.grown HD.out.2 HF.out.2⟩⟩
end Go.Proofs.YteodlkgbakkjmaaDoor

/-
  What reached answers, as a contract: all that can be come to.
-/
import Derived.Test.YteodlkgbakkjmaaDoorLst
namespace Go.Proofs.YteodlkgbakkjmaaDoor
open Go.ChangeShapes Go.WideShapes Go.ChangeAt Go.RowKit Go.Maps
set_option linter.unusedVariables false

/-- A group without its place in memory. -/
abbrev P3 := Int × Int × List B3
/-- What can be come to from a group. -/
def Rc (M : List P3) (g : P3) (z : Int) : Prop :=
  ∀ C : Int → Prop, (∀ x ∈ rawL g.2.2, C x) → (∀ (x y : Int) (h : P3), C x → h ∈ M → h.1 = x → y ∈ rawL h.2.2 → C y) → C z
theorem Rc.base {M : List P3} {g : P3} {x : Int} (h : x ∈ rawL g.2.2) : Rc M g x := fun _ h1 _ => h1 x h
theorem Rc.step {M : List P3} {g : P3} {x y : Int} {h : P3} (hr : Rc M g x) (hm : h ∈ M) (he : h.1 = x) (hy : y ∈ rawL h.2.2) : Rc M g y := fun C h1 h2 => h2 x y h (hr C h1 h2) hm he hy
/-- What groups lead to is there. -/
def Cl (L : List Gr) : Prop := ∀ h ∈ L, ∀ y ∈ rawL (h.l.map Bk.b3), hasP L y = true
/-- Numbers without repeats among others are no more than these. -/
theorem nodup_le : ∀ {ext ids : List Int}, ext.Nodup → (∀ x ∈ ext, x ∈ ids) → ext.length ≤ ids.length
  | [], _, _, _ => Nat.zero_le _
  | x :: ext, ids, hn, hm => by
    obtain ⟨h1, h2⟩ := List.nodup_cons.1 hn
    have hx := hm x (by simp)
    have := nodup_le (ids := ids.erase x) h2 (fun y hy => (List.mem_erase_of_ne (fun e => h1 (by rw [← e]; exact hy))).2 (hm y (by simp [hy])))
    rw [List.length_erase_of_mem hx] at this
    have hp : 0 < ids.length := List.length_pos_of_mem hx
    simp only [List.length_cons]
    omega
theorem wpList_app1_at {w : World} {ops : Array Oper} {rest : List Oper} {o : Oper} {a : Act} {Q : Exit → Act → World → Prop} (hgd : o.guard = none) (s x : Operand)
    (ho : o.op = .call { callee := .builtin .append, args := #[s, x], argTypes := #[65, 65] }) (base : Nat) (v : Value) (zs : List Int) (hs : a.eval s = v) (hown : OwnI base w v zs)
    (g : Nat) (z : Int) (hx : a.eval x = .slice (some ⟨g, 0, none⟩) 1 1) (hc : w.cell? ⟨g, 0, none⟩ = some (.int .i64 z)) (hn : zs.length ≤ 100000) (hbase : base ≤ w.heap.size)
    (h : ∀ v' w', OwnI base w' v' (zs ++ [z]) → w.grownBy w' v.ownBlock → (v'.ownBlock = v.ownBlock ∨ v'.ownBlock = some w.heap.size) → wpList Tryd.prog ops Q rest (a.put o.dst v') w') : wpList Tryd.prog ops Q (o :: rest) a w := by
  obtain ⟨i0, hi, hz0, hz1, hz2⟩ := info_parts infoI
  exact wpList_append_own_at w hgd s x 65 ho base 3 i0 (.int .i64 0) 1 8 Tryd.underlying65 hi hz0 hz1 hz2 rfl (by decide) v zs.length _ hs hown ⟨g, 0, none⟩ 1 1 [.int .i64 z] hx rfl
    (fun j u hj => by
      cases j with
      | zero => simp at hj; subst hj; rw [addP]; exact hc
      | succ j => simp at hj) (fun u hu => by simp at hu; subst hu; rfl) (by unfold maxLen; omega) (by omega) hbase (fun v' w' h1 h2 _ h3 => h v' w' (by
        unfold OwnI
        rw [List.length_append, List.map_append]
        exact h1) h2 h3)
/-- What has been come to so far. -/
structure RcI (w0 : World) (L : List Gr) (g : Gr) (zs0 : List Int) (v : Value) (zs : List Int) (wr : World) : Prop where
  own : OwnI w0.heap.size wr v zs
  bel : Below w0.heap.size w0 wr
  snd : ∀ x ∈ zs, Rc (L.map Gr.p) g.p x
  all : ∀ x ∈ rawL (g.l.map Bk.b3), x ∈ zs
  has : ∀ x ∈ zs, hasP L x = true
  ext : ∃ t, zs = zs0 ++ t ∧ t.Nodup ∧ ∀ x ∈ t, x ∈ L.map Gr.id
theorem RcI.len {w0 : World} {L : List Gr} {g : Gr} {zs0 : List Int} {v : Value} {zs : List Int} {wr : World} (h : RcI w0 L g zs0 v zs wr) (h0 : zs0.length ≤ 10000) (hL : L.length ≤ 64) : zs.length ≤ 10064 := by
  obtain ⟨t, e, h1, h2⟩ := h.ext
  have := nodup_le h1 h2
  rw [List.length_map] at this
  rw [e, List.length_append]
  omega
theorem RcI.grow {w0 : World} {L : List Gr} {g : Gr} {zs0 : List Int} {v : Value} {zs : List Int} {wr w2 : World} (h : RcI w0 L g zs0 v zs wr) (k : Below wr.heap.size wr w2) : RcI w0 L g zs0 v zs w2 := ⟨own_below h.own k, h.bel.trans (k.mono h.bel.size), h.snd, h.all, h.has, h.ext⟩
/-- What is come to from there is among them. -/
def ClsAt (L : List Gr) (zs : List Int) (x : Int) : Prop := ∀ h ∈ L, h.id = x → ∀ y ∈ rawL (h.l.map Bk.b3), y ∈ zs
theorem ClsAt.mono {L : List Gr} {zs ts : List Int} {x : Int} (h : ClsAt L zs x) (hm : ∀ y ∈ zs, y ∈ ts) : ClsAt L ts x := fun g hg e y hy => hm y (h g hg e y hy)
theorem RcI.done {w0 : World} {L : List Gr} {g : Gr} {zs0 : List Int} {v : Value} {zs : List Int} {wr : World} (h : RcI w0 L g zs0 v zs wr) (hc : ∀ x ∈ zs, ClsAt L zs x) (x : Int) : x ∈ zs ↔ Rc (L.map Gr.p) g.p x := by
  refine ⟨h.snd x, fun hr => ?_⟩
  refine hr (fun z => z ∈ zs) (fun y hy => h.all _ hy) (fun y z q ih hm he hy => ?_)
  obtain ⟨q, hq, rfl⟩ := List.mem_map.1 hm
  exact hc _ ih q hq he _ hy
theorem RcI.app {w0 : World} {L : List Gr} {g : Gr} {zs0 : List Int} {v v' : Value} {zs : List Int} {wr w2 : World} (h : RcI w0 L g zs0 v zs wr) {x : Int} (hx : x ∉ zs) (hr : Rc (L.map Gr.p) g.p x) (hh : hasP L x = true) (ho : OwnI w0.heap.size w2 v' (zs ++ [x])) (hg : wr.grownBy w2 v.ownBlock) : RcI w0 L g zs0 v' (zs ++ [x]) w2 := by
  refine ⟨ho, h.bel.grown hg h.bel.size (fun j hj => (h.own.lt j hj).1), ?_, ?_, ?_, ?_⟩
  · intro y hy
    rcases List.mem_append.1 hy with hy | hy
    · exact h.snd y hy
    · simp at hy; subst hy; exact hr
  · intro y hy
    exact List.mem_append_left _ (h.all y hy)
  · intro y hy
    rcases List.mem_append.1 hy with hy | hy
    · exact h.has y hy
    · simp at hy; subst hy; exact hh
  · obtain ⟨t, e, h1, h2⟩ := h.ext
    refine ⟨t ++ [x], by rw [e, List.append_assoc], ?_, ?_⟩
    · rw [List.nodup_append]
      refine ⟨h1, by simp, fun a ha b hb => ?_⟩
      simp at hb
      subst hb
      intro e2
      subst e2
      exact hx (by rw [e]; exact List.mem_append_right _ ha)
    · intro y hy
      rcases List.mem_append.1 hy with hy | hy
      · exact h2 y hy
      · simp at hy
        subst hy
        obtain ⟨q, hq, e2⟩ := hasP_iff.1 hh
        exact List.mem_map.2 ⟨q, hq, e2⟩
/-- The numbers that are gone through, in a row apart from the one that grows. -/
def LsR (wr : World) (a : Option Addr) (ls : List Int) (v : Value) : Prop := ls = [] ∨ ∃ b, a = some ⟨b, 0, none⟩ ∧ b < wr.heap.size ∧ v.ownBlock ≠ some b ∧ ∀ i (hi : i < ls.length), wr.cell? ⟨b, i, none⟩ = some (.int .i64 ls[i])
theorem LsR.start {w2 : World} {base b5 n5 c5 : Nat} {a : Option Addr} {c : Nat} {ls : List Int} (ho : OwnI base w2 (.slice a ls.length c) ls) (hb : b5 < base) : LsR w2 a ls (.slice (some ⟨b5, 0, none⟩) n5 c5) := by
  rcases own_cells ho with ⟨e, _⟩ | ⟨b, cap, e, hlt, hcap, hc⟩
  · exact .inl e
  · cases e
    refine .inr ⟨b, rfl, hlt, ?_, hc⟩
    have := (ho.lt b rfl).1
    intro e2
    simp [Value.ownBlock] at e2
    omega
theorem LsR.grow {wr w2 : World} {a : Option Addr} {ls : List Int} {v : Value} (h : LsR wr a ls v) (k : Below wr.heap.size wr w2) : LsR w2 a ls v := by
  rcases h with h | ⟨b, ha, hb, hv, hc⟩
  · exact .inl h
  · exact .inr ⟨b, ha, Nat.lt_of_lt_of_le hb k.size, hv, fun i hi => (k.cell (p := ⟨b, i, none⟩) hb).trans (hc i hi)⟩
theorem LsR.app {wr w2 : World} {a : Option Addr} {ls : List Int} {v v' : Value} (h : LsR wr a ls v) (k : wr.grownBy w2 v.ownBlock) (hl : v'.ownBlock = v.ownBlock ∨ v'.ownBlock = some wr.heap.size) : LsR w2 a ls v' := by
  rcases h with h | ⟨b, ha, hb, hv, hc⟩
  · exact .inl h
  · refine .inr ⟨b, ha, Nat.lt_of_lt_of_le hb k.size, ?_, fun i hi => (World.cell?_of_block (a := ⟨b, i, none⟩) (k.block b hb (fun e => hv e.symm))).trans (hc i hi)⟩
    rcases hl with e | e
    · rw [e]; exact hv
    · rw [e]
      intro e2
      cases e2
      omega
/-- A round of the inner loop. -/
structure RiI (w0 : World) (L : List Gr) (g : Gr) (zs0 zs : List Int) (a : Option Addr) (ls : List Int) (j : Nat) (v : Value) (ts : List Int) (wr : World) : Prop where
  i : RcI w0 L g zs0 v ts wr
  p : ∃ t, ts = zs ++ t
  m : ∀ k (hk : k < ls.length), k < j → ls[k] ∈ ts
  r : LsR wr a ls v
theorem RiI.skip {w0 : World} {L : List Gr} {g : Gr} {zs0 zs : List Int} {a : Option Addr} {ls : List Int} {j : Nat} {v : Value} {ts : List Int} {wr : World} (h : RiI w0 L g zs0 zs a ls j v ts wr) (hj : j < ls.length) (hm : ls[j] ∈ ts) : RiI w0 L g zs0 zs a ls (j + 1) v ts wr :=
  ⟨h.i, h.p, fun k hk hlt => by
    by_cases e : k = j
    · subst e; exact hm
    · exact h.m k hk (by omega), h.r⟩
theorem RiI.app {w0 : World} {L : List Gr} {g : Gr} {zs0 zs : List Int} {a : Option Addr} {ls : List Int} {j : Nat} {v v' : Value} {ts : List Int} {wr w2 w3 : World} (h : RiI w0 L g zs0 zs a ls j v ts wr) (hj : j < ls.length) (hm : ls[j] ∉ ts) (k : Below wr.heap.size wr w2) (hr : Rc (L.map Gr.p) g.p ls[j]) (hh : hasP L ls[j] = true)
    (ho : OwnI w0.heap.size w3 v' (ts ++ [ls[j]])) (hg : w2.grownBy w3 v.ownBlock) (hl : v'.ownBlock = v.ownBlock ∨ v'.ownBlock = some w2.heap.size) : RiI w0 L g zs0 zs a ls (j + 1) v' (ts ++ [ls[j]]) w3 :=
  ⟨(h.i.grow k).app hm hr hh ho hg, by
    obtain ⟨t, e⟩ := h.p
    exact ⟨t ++ [ls[j]], by rw [e, List.append_assoc]⟩, fun q hq hlt => by
    by_cases e : q = j
    · subst e; simp
    · exact List.mem_append_left _ (h.m q hq (by omega)), (h.r.grow k).app hg hl⟩
theorem RiI.next {w0 : World} {L : List Gr} {g : Gr} {zs0 zs : List Int} {a : Option Addr} {ls : List Int} {v : Value} {ts : List Int} {wr : World} (h : RiI w0 L g zs0 zs a ls ls.length v ts wr) {q : Nat} (hq : q < zs.length) (hc : ∀ i (hi : i < zs.length), i < q → ClsAt L zs zs[i]) {gi gk : Int} {ga : Option Addr} {gl : List Bk} {gc : Nat} (hgm : Gr.mk gi gk ga gl gc ∈ L) (hgi : gi = zs[q]) (hs : SrtG L) (hz : ∀ x, x ∈ ls ↔ x ∈ rawL (gl.map Bk.b3)) :
    q + 1 ≤ ts.length ∧ RcI w0 L g zs0 v ts wr ∧ ∀ i (hi : i < ts.length), i < q + 1 → ClsAt L ts ts[i] := by
  obtain ⟨t, e⟩ := h.p
  have hm := h.m
  have hi0 := h.i
  subst e
  refine ⟨by rw [List.length_append]; omega, hi0, fun i hi hlt => ?_⟩
  by_cases e : i = q
  · subst e
    rw [List.getElem_append_left hq]
    intro x hx hid y hy
    have ex : x = ⟨gi, gk, ga, gl, gc⟩ := srt_one hs hx hgm (by rw [hid, hgi])
    subst ex
    obtain ⟨k, hk, ey⟩ := List.getElem_of_mem ((hz y).2 hy)
    rw [← ey]
    exact hm k hk hk
  · rw [List.getElem_append_left (by omega)]
    exact (hc i (by omega) (by omega)).mono (fun y hy => List.mem_append_left _ hy)
end Go.Proofs.YteodlkgbakkjmaaDoor

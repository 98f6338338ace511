/-
  A table of groups as it lies in memory: a map of groups by their numbers; what a look-up of it answers.
-/
import Derived.Test.YteodlkgbakkjmaaDoorLeads
import Derived.Test.YteodlkgbakkjmaaDoorCopies
import Derived.Maps.RangeWalk
import Derived.Maps.OwnSet
namespace Go.Proofs.YteodlkgbakkjmaaDoor
open Go.ChangeShapes Go.WideShapes Go.ChangeAt Go.RowKit Go.Maps
open Go.WideElems (Fit rd rg pl)
set_option linter.unusedVariables false

/-- A group's value, in parts. -/
abbrev GH := Int × Int × Option Addr × Nat × Nat
abbrev hV (h : GH) : Value := .agg #[.int .i64 h.1, .int .i64 h.2.1, .slice h.2.2.1 h.2.2.2.1 h.2.2.2.2]
def Gr.h (g : Gr) : GH := (g.id, g.kd, g.a, g.l.length, g.c)
theorem hV_h (g : Gr) : hV g.h = gV g := rfl
/-- How an element of the map reads: as itself. -/
def Re (v : Value) : Option (DataW GH × List MemPlace) :=
  match v with
  | .agg cs => (match cs.toList with
    | [.int .i64 i, .int .i64 k, .slice a n c] => some (.held (i, k, a, n, c), [])
    | _ => none)
  | _ => none
theorem Re_mk (h : GH) : Re (hV h) = some (.held h, []) := rfl
theorem Re_inv {v : Value} {y : DataW GH × List MemPlace} (h : Re v = some y) : ∃ g : GH, v = hV g ∧ y = (.held g, []) := by
  unfold Re at h
  split at h
  · rename_i cs
    split at h
    · rename_i i k a n c hcs
      refine ⟨(i, k, a, n, c), ?_, (Option.some.inj h).symm⟩
      have e : cs = #[.int .i64 i, .int .i64 k, .slice a n c] := Array.toList_inj.1 (by simpa using hcs)
      rw [e]
    · cases h
  · cases h
theorem law : Keyed Tryd.prog 3 := int_keyed Tryd.underlying3
theorem zeroG (w : World) : (zeroValue 33).run Tryd.prog w = .ok (hV (0, 0, none, 0, 0)) w := by kernel_rfl
abbrev kL (i : Int) : Lit := .int .i64 i
/-- The map's datum. -/
def eG (g : Gr) : Lit × DataW GH := (kL g.id, .held g.h)
def mD (L : List Gr) : DataW GH := .map (L.map eG)
/-- Whether there is a group of a number. -/
def hasP (L : List Gr) (i : Int) : Bool := L.any fun g => decide (g.id = i)
theorem hasP_iff {L : List Gr} {i : Int} : hasP L i = true ↔ ∃ g ∈ L, g.id = i := by
  unfold hasP
  rw [List.any_eq_true]
  constructor
  · rintro ⟨g, h1, h2⟩; exact ⟨g, h1, of_decide_eq_true h2⟩
  · rintro ⟨g, h1, h2⟩; exact ⟨g, h1, decide_eq_true h2⟩
theorem same_kL (i j : Int) : (kL i).sameKey (kL j) = decide (i = j) := by simp [Lit.sameKey]
theorem has_mD (L : List Gr) (i : Int) : Maps.has (mD L) (kL i) = hasP L i := by
  unfold mD hasP
  rw [Maps.has_eq, List.any_map]
  congr 1
  funext g
  exact same_kL _ _
theorem at_mD {L : List Gr} {i : Int} {h : GH} (ha : ∀ z, (mD L).atKey (kL i) z = .held h) : ∃ g ∈ L, g.id = i ∧ g.h = h := by
  have h0 := ha .nil
  unfold mD DataW.atKey at h0
  simp only at h0
  split at h0
  · rename_i p hp
    obtain ⟨g, hg, e⟩ := List.mem_map.1 (List.mem_of_find?_eq_some hp)
    have hs := List.find?_some hp
    subst e
    refine ⟨g, hg, ?_, ?_⟩
    · simpa [eG, same_kL] using hs
    · simpa [eG] using h0
  · cases h0
/-- A group put into its place by its number. -/
def insG (g : Gr) : List Gr → List Gr
  | [] => [g]
  | y :: r => if g.id < y.id then g :: y :: r else y :: insG g r
def delG (i : Int) (L : List Gr) : List Gr := L.filter fun g => !decide (g.id = i)
def putG (g : Gr) (L : List Gr) : List Gr := insG g (delG g.id L)
theorem ins_map (g : Gr) : ∀ L : List Gr, DataW.insert (eG g) (L.map eG) = (insG g L).map eG
  | [] => rfl
  | y :: r => by
    rw [List.map_cons, DataW.insert, insG]
    have e : (eG g).1.before (eG y).1 = decide (g.id < y.id) := rfl
    rw [e]
    by_cases h : g.id < y.id
    · simp [h]
    · simp [h, ins_map g r]
theorem del_map (i : Int) (L : List Gr) : (L.map eG).filter (fun p => !p.1.sameKey (kL i)) = (delG i L).map eG := by
  unfold delG
  rw [List.filter_map]
  congr 1
  apply List.filter_congr
  intro g _
  simp [eG, same_kL]
theorem del_mD (i : Int) (L : List Gr) : (mD L).del (kL i) = mD (delG i L) := by
  unfold mD DataW.del
  simp only
  rw [del_map]
theorem put_mD (g : Gr) (L : List Gr) : (mD L).put (kL g.id) (.held g.h) = mD (putG g L) := by
  unfold mD DataW.put putG
  simp only
  rw [del_map]
  exact congrArg _ (ins_map g _)
theorem size_mD (L : List Gr) : Maps.size (mD L) = L.length := by unfold mD; rw [Maps.size_eq, List.length_map]
theorem mem_ins {g x : Gr} : ∀ {L : List Gr}, x ∈ insG g L ↔ x = g ∨ x ∈ L
  | [] => by simp [insG]
  | y :: r => by
    unfold insG
    split
    · simp
    · rw [List.mem_cons, mem_ins, List.mem_cons]
      constructor
      · rintro (h | h | h)
        · exact .inr (.inl h)
        · exact .inl h
        · exact .inr (.inr h)
      · rintro (h | h | h)
        · exact .inr (.inl h)
        · exact .inl h
        · exact .inr (.inr h)
theorem mem_del {x : Gr} {i : Int} {L : List Gr} : x ∈ delG i L ↔ x ∈ L ∧ x.id ≠ i := by simp [delG]
theorem mem_put {g x : Gr} {L : List Gr} : x ∈ putG g L ↔ x = g ∨ (x ∈ L ∧ x.id ≠ g.id) := by unfold putG; rw [mem_ins, mem_del]
theorem len_ins (g : Gr) : ∀ L : List Gr, (insG g L).length = L.length + 1
  | [] => rfl
  | y :: r => by
    unfold insG
    split
    · simp
    · simp [len_ins g r]
theorem del_none {i : Int} {L : List Gr} (h : hasP L i = false) : delG i L = L := by
  unfold delG
  rw [List.filter_eq_self]
  intro g hg
  have : ¬ g.id = i := fun e => by
    have : hasP L i = true := hasP_iff.2 ⟨g, hg, e⟩
    rw [h] at this
    cases this
  simp [this]
abbrev SrtG (L : List Gr) : Prop := L.Pairwise fun x y => x.id < y.id
theorem srt_ins {g : Gr} : ∀ {L : List Gr}, SrtG L → (∀ x ∈ L, x.id ≠ g.id) → SrtG (insG g L)
  | [], _, _ => by simp [insG, SrtG]
  | y :: r, h, hn => by
    obtain ⟨h1, h2⟩ := List.pairwise_cons.1 h
    unfold insG
    split
    · rename_i hlt
      refine List.pairwise_cons.2 ⟨fun x hx => ?_, h⟩
      rcases List.mem_cons.1 hx with rfl | hx
      · exact hlt
      · have := h1 x hx; omega
    · rename_i hlt
      refine List.pairwise_cons.2 ⟨fun x hx => ?_, srt_ins h2 (fun x hx => hn x (List.mem_cons_of_mem _ hx))⟩
      rcases mem_ins.1 hx with rfl | hx
      · have := hn y (by simp); omega
      · exact h1 x hx
theorem srt_del {i : Int} {L : List Gr} (h : SrtG L) : SrtG (delG i L) := List.Pairwise.sublist List.filter_sublist h
theorem srt_put {g : Gr} {L : List Gr} (h : SrtG L) : SrtG (putG g L) := srt_ins (srt_del h) (fun x hx => (mem_del.1 hx).2)
theorem srt_one : ∀ {L : List Gr}, SrtG L → ∀ {x y : Gr}, x ∈ L → y ∈ L → x.id = y.id → x = y
  | [], _, _, _, hx, _, _ => by cases hx
  | z :: r, h, x, y, hx, hy, e => by
    obtain ⟨h1, h2⟩ := List.pairwise_cons.1 h
    rcases List.mem_cons.1 hx with ex | hx'
    · rcases List.mem_cons.1 hy with ey | hy'
      · rw [ex, ey]
      · have := h1 y hy'; rw [← ex] at this; omega
    · rcases List.mem_cons.1 hy with ey | hy'
      · have := h1 x hx'; rw [← ey] at this; omega
      · exact srt_one h2 hx' hy' e
/-- A group as a table has it. -/
structure GW (w : World) (mb : Nat) (g : Gr) : Prop where
  bs : Bs w g.a g.l
  sm : Sm g.l
  ok : rightE g.p = 0
  ne : ¬ InB g.a g.l mb
theorem GW.below {w w' : World} {mb : Nat} {g : Gr} (h : GW w mb g) (k : Below w.heap.size w w') : GW w' mb g := ⟨h.bs.below k, h.sm, h.ok, h.ne⟩
theorem GW.grown {w w' : World} {mb : Nat} {g : Gr} (h : GW w mb g) (k : w.grownBy w' (some mb)) : GW w' mb g :=
  ⟨h.bs.stay k.size (fun b hb hlt => k.block b hlt (fun e => by cases e; exact h.ne hb)), h.sm, h.ok, h.ne⟩
/-- A table at block tb, its map at block mb. -/
structure Tb (w : World) (tb mb : Nat) (room : Int) (L : List Gr) : Prop where
  c0 : w.cell? ⟨tb, 0, none⟩ = some (.int .i64 room)
  c1 : w.cell? ⟨tb, 1, none⟩ = some (.map (some mb))
  lt : tb < w.heap.size
  own : w.ownsMap Tryd.prog 3 Re mb L.length (mD L)
  grp : ∀ g ∈ L, GW w mb g
  srt : SrtG L
theorem own_len {w : World} {mb n : Nat} {L : List Gr} (h : w.ownsMap Tryd.prog 3 Re mb n (mD L)) : w.ownsMap Tryd.prog 3 Re mb L.length (mD L) := by
  obtain ⟨es, clock, h1, h2, h3, h4⟩ := h
  refine ⟨es, clock, h1, h2, ?_, h4⟩
  have e := congrArg Maps.size h4
  rw [size_mD, Maps.size_eq, length_sorted] at e
  simp at e
  omega
theorem Tb.mlt {w : World} {tb mb : Nat} {room : Int} {L : List Gr} (h : Tb w tb mb room L) : mb < w.heap.size := h.own.lt
theorem Tb.ne {w : World} {tb mb : Nat} {room : Int} {L : List Gr} (h : Tb w tb mb room L) : tb ≠ mb := by
  intro e
  subst e
  obtain ⟨es, clock, h1, _⟩ := h.own
  have := h.c0
  simp [World.cell?, h1] at this
theorem Tb.below {w w' : World} {tb mb : Nat} {room : Int} {L : List Gr} (h : Tb w tb mb room L) (k : Below w.heap.size w w') : Tb w' tb mb room L :=
  ⟨(k.cell (p := ⟨tb, 0, none⟩) h.lt).trans h.c0, (k.cell (p := ⟨tb, 1, none⟩) h.lt).trans h.c1, Nat.lt_of_lt_of_le h.lt k.size, h.own.kept (row := none) ⟨k.os, k.tape, k.output, k.size, fun i hi _ => k.block i hi⟩ (by simp), fun g hg => (h.grp g hg).below k, h.srt⟩
theorem id_wf {g : Gr} (h : rightE g.p = 0) : 1 ≤ g.id ∧ g.id ≤ 65535 := by
  unfold rightE at h
  by_cases hf : formB g.p.1 g.p.2.1 g.p.2.2 = true
  · unfold formB headB inB at hf
    simp only [Bool.and_eq_true, decide_eq_true_eq] at hf
    exact hf.1.1.1
  · rw [if_neg hf] at h
    cases h
theorem key_wf {i : Int} (h0 : -9223372036854775808 ≤ i) (h1 : i ≤ 9223372036854775807) : keyOf Tryd.prog 3 (.int .i64 i) = some (kL i) := keyOf_int_mk Tryd.underlying3 (WalkArith.wf_i64 (by omega))
/-- A look-up. -/
theorem Tb.look {w : World} {tb mb : Nat} {room : Int} {L : List Gr} (h : Tb w tb mb room L) (c : Bool) (i : Int) (h0 : -9223372036854775808 ≤ i) (h1 : i ≤ 9223372036854775807) :
    (hasP L i = false ∧ (Instr.lookup 57 (.map (some mb)) (.int .i64 i) c).run Tryd.prog w = .ok (if c then .tuple #[hV (0, 0, none, 0, 0), .bool false] else hV (0, 0, none, 0, 0)) w) ∨
    ∃ g ∈ L, g.id = i ∧ hasP L i = true ∧ (Instr.lookup 57 (.map (some mb)) (.int .i64 i) c).run Tryd.prog w = .ok (if c then .tuple #[gV g, .bool true] else gV g) w := by
  obtain ⟨es, clock, hb, F, _, hD⟩ := h.own
  rcases fit_look c law Tryd.underlying57 (zeroG w) hb F (key_wf h0 h1) with ⟨hr, _, ha⟩ | ⟨e0, y, _, _, hr, hy, ha, _⟩
  · rw [← hD] at ha
    refine .inl ⟨?_, hr⟩
    rw [← has_mD]
    exact Maps.has_false_of_atKey ha
  · rw [← hD] at ha
    obtain ⟨gh, e1, e2⟩ := Re_inv hy
    have ha' : ∀ z, (mD L).atKey (kL i) z = .held gh := fun z => by rw [ha z, e2]
    obtain ⟨g, hg, hid, hh⟩ := at_mD ha'
    refine .inr ⟨g, hg, hid, hasP_iff.2 ⟨g, hg, hid⟩, ?_⟩
    rw [hr, e1, ← hh, hV_h]
end Go.Proofs.YteodlkgbakkjmaaDoor

/-
  Blocks of an entry that may be written.
-/
import Derived.Test.YtcbhkbiofmimbaaDoorEEnc
import Derived.Deep.MidRow
namespace Go.Proofs.YtcbhkbiofmimbaaDoor
open Go.ChangeShapes Go.WideShapes Go.ChangeAt Go.RowKit

/-- A block of an entry that may be written. -/
abbrev Wn (w : World) (b : Nat) (x : En) : Prop := Bn w b x ∧ ∀ i, w.frozen? ⟨b, i, none⟩ = false
theorem Wn.block {w w' : World} {b : Nat} {x : En} (h : Wn w b x) (g : w'.heap[b]? = w.heap[b]?) : Wn w' b x :=
  ⟨h.1.block g, fun i => (World.frozen?_of_block (w := w) g).trans (h.2 i)⟩
theorem Wn.below {w w' : World} {b B : Nat} {x : En} (h : Wn w b x) (hb : b < B) (g : Below B w w') : Wn w' b x := h.block (g.block b hb)
theorem Wn.new (w : World) (x : En) : Wn (ex w x) w.heap.size x := by unfold Wn Bn ex; simp
theorem Wn.alloc {w : World} {b : Nat} {x : En} (h : Wn w b x) (hb : b < w.heap.size) (o : Obj) : Wn (w.alloc o) b x := h.below (B := w.heap.size) hb ((Below.refl _ _).alloc (Nat.le_refl _) o)
theorem Wn.out {w : World} {b c o : Nat} {x : En} {v : Value} (h : Wn w b x) (hbc : b ≠ c) : Wn (w.setCell ⟨c, o, none⟩ v) b x := h.block (Below.heap_setCell _ _ _ _ hbc)
theorem Wn.set3 {w : World} {b : Nat} {x : En} (h : Wn w b x) (a : Option Addr) (l : List A) (c : Nat) : Wn (w.setCell ⟨b, 3, none⟩ (.slice a l.length c)) b { x with aa := a, la := l, ca := c } := by
  obtain ⟨⟨h0, h1, h2, h3, h4, h5, h6, h7, h8, h9⟩, hf⟩ := h
  exact ⟨⟨(World.cell?_setCell_other _ _ _ _ (by simp)).trans h0, (World.cell?_setCell_other _ _ _ _ (by simp)).trans h1, (World.cell?_setCell_other _ _ _ _ (by simp)).trans h2, World.cell?_setCell_same _ _ _ h3, (World.cell?_setCell_other _ _ _ _ (by simp)).trans h4, (World.cell?_setCell_other _ _ _ _ (by simp)).trans h5, (World.cell?_setCell_other _ _ _ _ (by simp)).trans h6, (World.cell?_setCell_other _ _ _ _ (by simp)).trans h7, (World.cell?_setCell_other _ _ _ _ (by simp)).trans h8, (World.cell?_setCell_other _ _ _ _ (by simp)).trans h9⟩, fun i => by simp [hf]⟩
theorem Wn.set4 {w : World} {b : Nat} {x : En} (h : Wn w b x) (a : Option Addr) (l : List A) (c : Nat) : Wn (w.setCell ⟨b, 4, none⟩ (.slice a l.length c)) b { x with aw := a, lw := l, cw := c } := by
  obtain ⟨⟨h0, h1, h2, h3, h4, h5, h6, h7, h8, h9⟩, hf⟩ := h
  exact ⟨⟨(World.cell?_setCell_other _ _ _ _ (by simp)).trans h0, (World.cell?_setCell_other _ _ _ _ (by simp)).trans h1, (World.cell?_setCell_other _ _ _ _ (by simp)).trans h2, (World.cell?_setCell_other _ _ _ _ (by simp)).trans h3, World.cell?_setCell_same _ _ _ h4, (World.cell?_setCell_other _ _ _ _ (by simp)).trans h5, (World.cell?_setCell_other _ _ _ _ (by simp)).trans h6, (World.cell?_setCell_other _ _ _ _ (by simp)).trans h7, (World.cell?_setCell_other _ _ _ _ (by simp)).trans h8, (World.cell?_setCell_other _ _ _ _ (by simp)).trans h9⟩, fun i => by simp [hf]⟩
theorem Wn.set5 {w : World} {b : Nat} {x : En} (h : Wn w b x) (v : Bool) : Wn (w.setCell ⟨b, 5, none⟩ (.bool v)) b { x with clr := v } := by
  obtain ⟨⟨h0, h1, h2, h3, h4, h5, h6, h7, h8, h9⟩, hf⟩ := h
  exact ⟨⟨(World.cell?_setCell_other _ _ _ _ (by simp)).trans h0, (World.cell?_setCell_other _ _ _ _ (by simp)).trans h1, (World.cell?_setCell_other _ _ _ _ (by simp)).trans h2, (World.cell?_setCell_other _ _ _ _ (by simp)).trans h3, (World.cell?_setCell_other _ _ _ _ (by simp)).trans h4, World.cell?_setCell_same _ _ _ h5, (World.cell?_setCell_other _ _ _ _ (by simp)).trans h6, (World.cell?_setCell_other _ _ _ _ (by simp)).trans h7, (World.cell?_setCell_other _ _ _ _ (by simp)).trans h8, (World.cell?_setCell_other _ _ _ _ (by simp)).trans h9⟩, fun i => by simp [hf]⟩
theorem Wn.set6 {w : World} {b : Nat} {x : En} (h : Wn w b x) (v : Int) : Wn (w.setCell ⟨b, 6, none⟩ (.int .u64 v)) b { x with mt := v } := by
  obtain ⟨⟨h0, h1, h2, h3, h4, h5, h6, h7, h8, h9⟩, hf⟩ := h
  exact ⟨⟨(World.cell?_setCell_other _ _ _ _ (by simp)).trans h0, (World.cell?_setCell_other _ _ _ _ (by simp)).trans h1, (World.cell?_setCell_other _ _ _ _ (by simp)).trans h2, (World.cell?_setCell_other _ _ _ _ (by simp)).trans h3, (World.cell?_setCell_other _ _ _ _ (by simp)).trans h4, (World.cell?_setCell_other _ _ _ _ (by simp)).trans h5, World.cell?_setCell_same _ _ _ h6, (World.cell?_setCell_other _ _ _ _ (by simp)).trans h7, (World.cell?_setCell_other _ _ _ _ (by simp)).trans h8, (World.cell?_setCell_other _ _ _ _ (by simp)).trans h9⟩, fun i => by simp [hf]⟩
theorem Wn.set7 {w : World} {b : Nat} {x : En} (h : Wn w b x) (v : Int) : Wn (w.setCell ⟨b, 7, none⟩ (.int .u64 v)) b { x with mm := v } := by
  obtain ⟨⟨h0, h1, h2, h3, h4, h5, h6, h7, h8, h9⟩, hf⟩ := h
  exact ⟨⟨(World.cell?_setCell_other _ _ _ _ (by simp)).trans h0, (World.cell?_setCell_other _ _ _ _ (by simp)).trans h1, (World.cell?_setCell_other _ _ _ _ (by simp)).trans h2, (World.cell?_setCell_other _ _ _ _ (by simp)).trans h3, (World.cell?_setCell_other _ _ _ _ (by simp)).trans h4, (World.cell?_setCell_other _ _ _ _ (by simp)).trans h5, (World.cell?_setCell_other _ _ _ _ (by simp)).trans h6, World.cell?_setCell_same _ _ _ h7, (World.cell?_setCell_other _ _ _ _ (by simp)).trans h8, (World.cell?_setCell_other _ _ _ _ (by simp)).trans h9⟩, fun i => by simp [hf]⟩
theorem Wn.set8 {w : World} {b : Nat} {x : En} (h : Wn w b x) (v : Int) : Wn (w.setCell ⟨b, 8, none⟩ (.int .i64 v)) b { x with met := v } := by
  obtain ⟨⟨h0, h1, h2, h3, h4, h5, h6, h7, h8, h9⟩, hf⟩ := h
  exact ⟨⟨(World.cell?_setCell_other _ _ _ _ (by simp)).trans h0, (World.cell?_setCell_other _ _ _ _ (by simp)).trans h1, (World.cell?_setCell_other _ _ _ _ (by simp)).trans h2, (World.cell?_setCell_other _ _ _ _ (by simp)).trans h3, (World.cell?_setCell_other _ _ _ _ (by simp)).trans h4, (World.cell?_setCell_other _ _ _ _ (by simp)).trans h5, (World.cell?_setCell_other _ _ _ _ (by simp)).trans h6, (World.cell?_setCell_other _ _ _ _ (by simp)).trans h7, World.cell?_setCell_same _ _ _ h8, (World.cell?_setCell_other _ _ _ _ (by simp)).trans h9⟩, fun i => by simp [hf]⟩
theorem Wn.set9 {w : World} {b : Nat} {x : En} (h : Wn w b x) (v : Int) : Wn (w.setCell ⟨b, 9, none⟩ (.int .i64 v)) b { x with go := v } := by
  obtain ⟨⟨h0, h1, h2, h3, h4, h5, h6, h7, h8, h9⟩, hf⟩ := h
  exact ⟨⟨(World.cell?_setCell_other _ _ _ _ (by simp)).trans h0, (World.cell?_setCell_other _ _ _ _ (by simp)).trans h1, (World.cell?_setCell_other _ _ _ _ (by simp)).trans h2, (World.cell?_setCell_other _ _ _ _ (by simp)).trans h3, (World.cell?_setCell_other _ _ _ _ (by simp)).trans h4, (World.cell?_setCell_other _ _ _ _ (by simp)).trans h5, (World.cell?_setCell_other _ _ _ _ (by simp)).trans h6, (World.cell?_setCell_other _ _ _ _ (by simp)).trans h7, (World.cell?_setCell_other _ _ _ _ (by simp)).trans h8, World.cell?_setCell_same _ _ _ h9⟩, fun i => by simp [hf]⟩
theorem hiE (x : En) : (Tryd.prog.info? 26).map (·.size) = some (enC x).size := by kernel_rfl
theorem oneE (x : En) : (enC x).all (·.oneCell') = true := by simp [Value.oneCell']
theorem wn_there {w : World} {b : Nat} {x : En} (h : Wn w b x) : w.there b 0 10 := by
  intro j hj
  obtain ⟨⟨h0, h1, h2, h3, h4, h5, h6, h7, h8, h9⟩, hf⟩ := h
  refine ⟨?_, hf _⟩
  match j, hj with
  | 0, _ => simp [h0]
  | 1, _ => simp [h1]
  | 2, _ => simp [h2]
  | 3, _ => simp [h3]
  | 4, _ => simp [h4]
  | 5, _ => simp [h5]
  | 6, _ => simp [h6]
  | 7, _ => simp [h7]
  | 8, _ => simp [h8]
  | 9, _ => simp [h9]
/-- All of an entry is written into block b. -/
abbrev sE (w : World) (b : Nat) (x : En) : World := w.setCells b 0 (enC x).toList
theorem wn_set {w : World} {b : Nat} {y : En} (h : Wn w b y) (x : En) : Wn (sE w b x) b x := by
  have r := World.rangeAt_setCells_same w b 0 (enC x).toList (wn_there h)
  exact ⟨⟨r 0 _ rfl, r 1 _ rfl, r 2 _ rfl, r 3 _ rfl, r 4 _ rfl, r 5 _ rfl, r 6 _ rfl, r 7 _ rfl, r 8 _ rfl, r 9 _ rfl⟩, fun i => by rw [World.frozen?_setCells]; exact h.2 i⟩
theorem bn_out {w : World} {b c : Nat} {y : En} (h : Bn w b y) (x : En) (hbc : b ≠ c) : Bn (sE w c x) b y := by
  obtain ⟨h0, h1, h2, h3, h4, h5, h6, h7, h8, h9⟩ := h
  have q : ∀ p, (sE w c x).cell? ⟨b, p, none⟩ = w.cell? ⟨b, p, none⟩ := fun p => World.cell?_setCells_out c _ 0 w _ (fun e => absurd e hbc)
  exact ⟨(q _).trans h0, (q _).trans h1, (q _).trans h2, (q _).trans h3, (q _).trans h4, (q _).trans h5, (q _).trans h6, (q _).trans h7, (q _).trans h8, (q _).trans h9⟩
theorem wn_out {w : World} {b c : Nat} {y : En} (h : Wn w b y) (x : En) (hbc : b ≠ c) : Wn (sE w c x) b y :=
  ⟨bn_out h.1 x hbc, fun i => by rw [World.frozen?_setCells]; exact h.2 i⟩
theorem below_cells {a : World} {k c : Nat} (hk : k ≤ c) : ∀ (vs : List Value) (o : Nat) (w : World), Below k a w → Below k a (w.setCells c o vs)
  | [], _, _, g => g
  | _ :: r, o, _, g => below_cells hk r (o + 1) _ (g.setCell hk _)
theorem below_sE {a w : World} {k c : Nat} (x : En) (g : Below k a w) (hk : k ≤ c) : Below k a (sE w c x) := below_cells hk _ _ _ g
/-- An entry of nothing. -/
def en0 : En := ⟨0, 0, none, 0, 0, none, [], 0, none, [], 0, false, 0, 0, 0, 0⟩
def sp0 : Sp := ⟨0, [], [], false, 0, 0, 0, 0⟩
theorem en0_sp : en0.sp = sp0 := rfl
theorem en0_w (w : World) : EW w en0 := ⟨.inl rfl, .inl rfl, by decide, by decide⟩
end Go.Proofs.YtcbhkbiofmimbaaDoor

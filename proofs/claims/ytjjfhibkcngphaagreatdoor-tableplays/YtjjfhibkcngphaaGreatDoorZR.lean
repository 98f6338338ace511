/-
  Joined: RFl, RFl2, RFUp, RFAdd, RFDel, RFMod, RFLook, RJ, RPlay, LawPlays.
-/
import Derived.Test.YtjjfhibkcngphaaGreatDoorZF
import Derived.Test.YtjjfhibkcngphaaGreatDoorRRight
import Derived.Test.YtjjfhibkcngphaaGreatDoorMRefRight
import Derived.Deep.RegionHeld
import Derived.Shelf.RegionOpenPlain
import Derived.Deep.CutBlock
/-
  The document's tables as they lie in memory; what New, Wrong, alike, meant, List, Look and the law's same answer, as contracts.
-/
namespace Go.Proofs.YtjjfhibkcngphaaGreatDoor
open Go.ChangeShapes Go.WideShapes Go.ChangeAt Go.RowKit
set_option linter.unusedVariables false
set_option linter.unusedSimpArgs false

/-- The document's tables: one row of entries, whose lists are those that were handed in. -/
structure Rm (base : Nat) (w : World) (r : Nat) (S : Nat → Prop) (room : Int) (v : Value) (l : List Fe) : Prop where
  cl : w.cell? ⟨r, 0, none⟩ = some v
  cr : w.cell? ⟨r, 1, none⟩ = some (.int .i64 room)
  fz : ∀ o, w.frozen? ⟨r, o, none⟩ = false
  row : OwnE base w v l
  sr : S r
  so : ∀ g, v.ownBlock = some g → S g ∧ g ≠ r
  en : ∀ x ∈ l, FW w x ∧ ∀ b, InF x b → b < base
  lo : ∀ b, S b → base ≤ b
  lt : ∀ b, S b → b < w.heap.size
  r1 : 1 ≤ room
  r2 : room ≤ 256
def Rs (base : Nat) (w : World) (r : Nat) (S : Nat → Prop) (room : Int) (L : List Fp) : Prop := ∃ v l, Rm base w r S room v l ∧ l.map Fe.p = L
theorem Rm.keep {base : Nat} {w w' : World} {r : Nat} {S : Nat → Prop} {room : Int} {v : Value} {l : List Fe} (h : Rm base w r S room v l) (hz : w.heap.size ≤ w'.heap.size) (g : ∀ b, S b → w'.heap[b]? = w.heap[b]?) (g2 : ∀ b, b < base → b < w.heap.size → w'.heap[b]? = w.heap[b]?) : Rm base w' r S room v l := by
  have hc : ∀ o, w'.cell? ⟨r, o, none⟩ = w.cell? ⟨r, o, none⟩ := fun o => World.cell?_of_block (w := w) (g r h.sr)
  have hf : ∀ o, w'.frozen? ⟨r, o, none⟩ = w.frozen? ⟨r, o, none⟩ := fun o => World.frozen?_of_block (w := w) (g r h.sr)
  refine ⟨(hc _).trans h.cl, (hc _).trans h.cr, fun o => (hf o).trans (h.fz o), ?_, h.sr, h.so, fun x hx => ⟨(h.en x hx).1.stay hz (fun b hb hlt => g2 b ((h.en x hx).2 b hb) hlt), (h.en x hx).2⟩, h.lo, fun b hb => Nat.lt_of_lt_of_le (h.lt b hb) hz, h.r1, h.r2⟩
  have hr := h.row
  refine ⟨hr.1, ?_⟩
  rcases hr.2 with hn | ⟨g', cap, cur, hv, hb, hgg, rest⟩
  · exact .inl hn
  · exact .inr ⟨g', cap, cur, hv, hb, (g g' (h.so g' (by rw [hv]; rfl)).1).trans hgg, rest⟩
theorem Rm.below {base : Nat} {w w' : World} {r : Nat} {S : Nat → Prop} {room : Int} {v : Value} {l : List Fe} (h : Rm base w r S room v l) (g : Below w.heap.size w w') : Rm base w' r S room v l := h.keep g.size (fun b hb => g.block b (h.lt b hb)) (fun b _ hb => g.block b hb)
theorem Rs.below {base : Nat} {w w' : World} {r : Nat} {S : Nat → Prop} {room : Int} {L : List Fp} (h : Rs base w r S room L) (g : Below w.heap.size w w') : Rs base w' r S room L := by
  obtain ⟨v, l, h, e⟩ := h
  exact ⟨v, l, h.below g, e⟩
theorem Rs.kept {base : Nat} {w w' : World} {r : Nat} {S T : Nat → Prop} {room : Int} {L : List Fp} (h : Rs base w r S room L) (g : Kept T w w') (hd : ∀ b, S b → ¬ T b) (ht : ∀ b, T b → base ≤ b) : Rs base w' r S room L := by
  obtain ⟨v, l, h, e⟩ := h
  exact ⟨v, l, h.keep g.size (fun b hb => g.block b (h.lt b hb) (hd b hb)) (fun b hb hlt => g.block b hlt (fun h' => by have := ht b h'; omega)), e⟩
theorem Rs.lt {base : Nat} {w : World} {r : Nat} {S : Nat → Prop} {room : Int} {L : List Fp} (h : Rs base w r S room L) : ∀ b, S b → b < w.heap.size := by
  obtain ⟨v, l, h, e⟩ := h
  exact h.lt
theorem Rs.lo {base : Nat} {w : World} {r : Nat} {S : Nat → Prop} {room : Int} {L : List Fp} (h : Rs base w r S room L) : ∀ b, S b → base ≤ b := by
  obtain ⟨v, l, h, e⟩ := h
  exact h.lo
set_option maxHeartbeats 2000000 in
theorem rnew_no (room : Int) (w : World) (h : room < 1 ∨ 256 < room) : Calls Tryz.prog 5 #[.int .i64 room] w fun e w' => e = .returned (.tuple #[.pointer none, .int .i64 1]) ∧ w' = w := by
  rcases h with h | h
  · go_enter Tryz.func5, Tryz.ntmps5
    go_wp2
    go_ret2
    exact ⟨rfl, rfl⟩
  · have h1 : ¬ room < 1 := by omega
    go_enter Tryz.func5, Tryz.ntmps5
    go_wp2
    go_ret2
    exact ⟨rfl, rfl⟩
set_option maxHeartbeats 2000000 in
theorem rnew_yes (base : Nat) (room : Int) (w : World) (h1 : 1 ≤ room) (h2 : room ≤ 256) (hb : base ≤ w.heap.size) : Calls Tryz.prog 5 #[.int .i64 room] w fun e w' => e = .returned (.tuple #[.pointer (some ⟨w.heap.size, 0, none⟩), .int .i64 0]) ∧ Rs base w' w.heap.size (fun b => b = w.heap.size) room [] ∧ Below w.heap.size w w' := by
  go_enter Tryz.func5, Tryz.ntmps5
  go_wp2
  go_ret2
  exact ⟨rfl, ⟨.slice none 0 0, [], ⟨by simp, by simp, by simp, World.ownsRow_nil _ _ _ _, rfl, fun g hg => (by simp [Value.ownBlock] at hg), fun x hx => (by cases hx), fun b h => (by rw [h]; exact hb), fun b h => (by rw [h]; simp), h1, h2⟩, rfl⟩, by go_grown⟩
/-- What is wrong with an entry that is handed in. -/
structure VF (x : Fp) : Prop where
  t : Mt.TWs x.lt
  a : AWs x.la
  w : AWs x.lw
  m0 : 0 ≤ x.mt
  m1 : x.mt < 18446744073709551616
theorem FIn.vf {w : World} {x : Fe} (h : FIn w x) : VF x.p := ⟨h.vt, h.va, h.vw, h.m0.1, h.m0.2⟩
theorem rises_nil : Mt.Rises [] := by simp [Mt.Rises]
set_option maxHeartbeats 4000000 in
theorem rwrong_any (x : Fe) (w : World) (hx : FW w x) (hv : VF x.p) : Calls Tryz.prog 20 #[feV x] w fun e w' => e = .returned (.int .i64 (wrongE x.p)) ∧ Below w.heap.size w w' := by
  have g0 : Below w.heap.size w (fx w x) := by go_grown
  have HI : Hid (Calls Tryz.prog 39 #[feV x] (fx w x) fun e w' => e = .returned (.int .i64 (rightX x.p.sp)) ∧ Below (fx w x).heap.size (fx w x) w') := (show Calls _ _ _ _ _ from by
    have := rrX_any x.en (fx w x) (hx.below g0).ew hv.a hv.w hv.m0 hv.m1
    rwa [fe_en, en_sp] at this)
  have HM : Hid (∀ w1, Below w.heap.size w w1 → Calls Tryz.prog 40 #[.slice x.ta x.p.lt.length x.tc] w1 fun e w' => e = .returned (.int .i64 (Mt.rightE x.p.lt)) ∧ Below w1.heap.size w1 w') := (show ∀ w1, _ from fun w1 g => by
    have := Mt.rright_any x.ta x.p.lt x.tc w1 (hx.t.below g) (by have := hx.nt; omega)
    rwa [Mt.rright_eq x.p.lt [] hv.t rises_nil] at this)
  have HX : Hid (Be (fx w x) w.heap.size 0 x) := Be.new w x
  have HR : Hid (wrongE x.p = if rightX x.p.sp ≠ 0 then rightX x.p.sp else if Mt.rightE x.p.lt ≠ 0 then Mt.rightE x.p.lt else if priB x.p.pri = true then 1 else 0) := (show _ = _ from rfl)
  clear hx hv
  generalize rightX x.p.sp = E1 at *
  generalize Mt.rightE x.p.lt = E2 at *
  by_cases h1 : E1 = 0
  · have b1 : (E1 != 0) = false := by simp [h1]
    by_cases h2 : E2 = 0
    · have b2 : (E2 != 0) = false := by simp [h2]
      have hc : (x.p.pri < 0 ∧ wrongE x.p = 1) ∨ (¬ x.p.pri < 0 ∧ 65535 < x.p.pri ∧ wrongE x.p = 1) ∨ (¬ x.p.pri < 0 ∧ ¬ 65535 < x.p.pri ∧ wrongE x.p = 0) := by
        rw [HR.out, if_neg (by simpa using h1), if_neg (by simpa using h2)]
        by_cases hp1 : x.p.pri < 0
        · exact .inl ⟨hp1, if_pos (by simp [priB, hp1])⟩
        · by_cases hp2 : 65535 < x.p.pri
          · exact .inr (.inl ⟨hp1, hp2, if_pos (by simp [priB, hp2])⟩)
          · exact .inr (.inr ⟨hp1, hp2, if_neg (by unfold priB; rw [decide_eq_false hp1, decide_eq_false hp2]; decide)⟩)
      clear HR h1 h2
      rcases hc with ⟨hp1, h3⟩ | ⟨hp1, hp2, h3⟩ | ⟨hp1, hp2, h3⟩
      all_goals
        have HR3 : Hid _ := h3
        clear h3
        go_enter Tryz.func20, Tryz.ntmps20
        go_wp2_with (refine load_E rfl (.tmp 1) rfl w.heap.size 0 x rfl HX.out ?_)
        refine HI.out.mono ?_
        rintro e w1 ⟨rfl, g1⟩
        have G1 := btr g0 g1 (Nat.le_refl _)
        obtain ⟨_, c1, c2, _⟩ := (HX.out.below (by simp) g1).cs
        go_wp2_with fail
        refine (HM.out w1 G1).mono ?_
        rintro e w2 ⟨rfl, g2⟩
        have z1 := g1.size
        simp at z1
        have c1' : w2.cell? ⟨w.heap.size, 1, none⟩ = some (.int .i64 x.p.pri) := (g2.cell (p := ⟨w.heap.size, 1, none⟩) (by show w.heap.size < w1.heap.size; omega)).trans c1
        go_wp2_with fail
        go_ret
        exact ⟨by rw [HR3.out]; rfl, btr G1 g2 (Nat.le_refl _)⟩
    · have b2 : (E2 != 0) = true := by simp [h2]
      have HR3 : Hid (wrongE x.p = E2) := (show _ = _ by rw [HR.out, if_neg (by simpa using h1), if_pos h2])
      clear HR h1 h2
      go_enter Tryz.func20, Tryz.ntmps20
      go_wp2_with (refine load_E rfl (.tmp 1) rfl w.heap.size 0 x rfl HX.out ?_)
      refine HI.out.mono ?_
      rintro e w1 ⟨rfl, g1⟩
      have G1 := btr g0 g1 (Nat.le_refl _)
      obtain ⟨_, c1, c2, _⟩ := (HX.out.below (by simp) g1).cs
      go_wp2_with fail
      refine (HM.out w1 G1).mono ?_
      rintro e w2 ⟨rfl, g2⟩
      go_wp2_with fail
      go_ret
      exact ⟨by rw [HR3.out]; rfl, btr G1 g2 (Nat.le_refl _)⟩
  · have b1 : (E1 != 0) = true := by simp [h1]
    have HR3 : Hid (wrongE x.p = E1) := (show _ = _ by rw [HR.out, if_pos h1])
    clear HR h1
    go_enter Tryz.func20, Tryz.ntmps20
    go_wp2_with (refine load_E rfl (.tmp 1) rfl w.heap.size 0 x rfl HX.out ?_)
    refine HI.out.mono ?_
    rintro e w1 ⟨rfl, g1⟩
    go_wp2_with fail
    go_ret
    exact ⟨by rw [HR3.out]; rfl, btr g0 g1 (Nat.le_refl _)⟩
/-- Alike, meant. -/
def alikeB (x y : Fp) : Bool := (x.tab == y.tab) && twinB x y
def meantB (x y : Fp) (s : Bool) : Bool := if s then alikeB x y else (x.tab == y.tab) && Mt.coversB x.lt y.lt
set_option maxHeartbeats 2000000 in
theorem alike_any (x y : Fe) (w : World) (hx : FW w x) (hy : FW w y) :
    Calls Tryz.prog 22 #[feV x, feV y] w fun e w' => e = .returned (.bool (alikeB x.p y.p)) ∧ Below w.heap.size w w' := by
  have HS : Hid (∀ w1, Below w.heap.size w w1 → Calls Tryz.prog 30 #[.slice x.ta x.p.lt.length x.tc, .slice y.ta y.p.lt.length y.tc] w1 fun e w' => e = .returned (.bool (Mt.sameB x.p.lt y.p.lt)) ∧ Below w1.heap.size w1 w') := (show ∀ w1, _ from fun w1 g => Mt.rsame_any _ _ _ _ _ _ w1 (hx.t.below g) (by have := hx.nt; omega) (hy.t.below g) (by have := hy.nt; omega))
  clear hx hy
  obtain ⟨W, hW, zW, gW, bx, bY⟩ := two_boxes w x y
  have HG : Hid (Below w.heap.size w W) := gW
  obtain ⟨c0, c1, c2, _⟩ := bx.cs
  obtain ⟨d0, d1, d2, _⟩ := bY.cs
  clear bx bY gW
  unfold alikeB twinB
  cases ht : (x.p.tab == y.p.tab) with
  | false =>
    go_enter Tryz.func22, Tryz.ntmps22
    go_wp2_with fail
    go_ret
    exact ⟨rfl, HG.out⟩
  | true =>
    cases hp : (x.p.pri == y.p.pri) with
    | false =>
      go_enter Tryz.func22, Tryz.ntmps22
      go_wp2_with fail
      go_ret
      exact ⟨rfl, HG.out⟩
    | true =>
      generalize Mt.sameB x.p.lt y.p.lt = B at *
      go_enter Tryz.func22, Tryz.ntmps22
      go_wp2_with fail
      refine (HS.out W HG.out).mono ?_
      rintro e w3 ⟨rfl, g3⟩
      go_wp2_with fail
      go_ret
      exact ⟨rfl, btr HG.out g3 (Nat.le_refl _)⟩
set_option maxHeartbeats 2000000 in
theorem meant_any (x y : Fe) (s : Bool) (w : World) (hx : FW w x) (hy : FW w y) :
    Calls Tryz.prog 23 #[feV x, feV y, .bool s] w fun e w' => e = .returned (.bool (meantB x.p y.p s)) ∧ Below w.heap.size w w' := by
  have HS : Hid (∀ w1, Below w.heap.size w w1 → Calls Tryz.prog 41 #[.slice x.ta x.p.lt.length x.tc, .slice y.ta y.p.lt.length y.tc] w1 fun e w' => e = .returned (.bool (Mt.coversB x.p.lt y.p.lt)) ∧ Below w1.heap.size w1 w') := (show ∀ w1, _ from fun w1 g => Mt.rcovers_any _ _ _ _ _ _ w1 (hx.t.below g) (by have := hx.nt; omega) (hy.t.below g) (by have := hy.nt; omega))
  have HT : Hid (∀ w1, Below w.heap.size w w1 → Calls Tryz.prog 22 #[feV x, feV y] w1 fun e w' => e = .returned (.bool (alikeB x.p y.p)) ∧ Below w1.heap.size w1 w') := (show ∀ w1, _ from fun w1 g => alike_any x y w1 (hx.below g) (hy.below g))
  clear hx hy
  obtain ⟨W, hW, zW, gW, bx, bY⟩ := two_boxes w x y
  have HG : Hid (Below w.heap.size w W) := gW
  have HX : Hid (Be W w.heap.size 0 x) := bx
  have HY : Hid (Be W (w.heap.size + 1) 0 y) := bY
  obtain ⟨c0, _, c2, _⟩ := bx.cs
  obtain ⟨d0, _, d2, _⟩ := bY.cs
  clear bx bY gW
  unfold meantB
  cases s with
  | true =>
    rw [if_pos rfl]
    generalize alikeB x.p y.p = B at *
    go_enter Tryz.func23, Tryz.ntmps23
    go_wp2_with (first | (refine load_E rfl (.tmp 3) rfl w.heap.size 0 x rfl HX.out ?_) | (refine load_E rfl (.tmp 4) rfl (w.heap.size + 1) 0 y rfl HY.out ?_))
    refine (HT.out W HG.out).mono ?_
    rintro e w3 ⟨rfl, g3⟩
    go_wp2_with fail
    go_ret
    exact ⟨rfl, btr HG.out g3 (Nat.le_refl _)⟩
  | false =>
    rw [if_neg (by decide)]
    cases ht : (x.p.tab == y.p.tab) with
    | false =>
      go_enter Tryz.func23, Tryz.ntmps23
      go_wp2_with fail
      go_ret
      exact ⟨rfl, HG.out⟩
    | true =>
      generalize Mt.coversB x.p.lt y.p.lt = B at *
      go_enter Tryz.func23, Tryz.ntmps23
      go_wp2_with fail
      refine (HS.out W HG.out).mono ?_
      rintro e w3 ⟨rfl, g3⟩
      go_wp2_with fail
      go_ret
      exact ⟨rfl, btr HG.out g3 (Nat.le_refl _)⟩
end Go.Proofs.YtjjfhibkcngphaaGreatDoor
/-
  What the document's List and Look and the law's same answer, as contracts.
-/
namespace Go.Proofs.YtjjfhibkcngphaaGreatDoor
open Go.ChangeShapes Go.WideShapes Go.ChangeAt Go.RowKit
set_option linter.unusedVariables false
set_option linter.unusedSimpArgs false

/-- A table's entries. -/
def inT (t : Int) (x : Fp) : Bool := x.tab == t
theorem filter_snoc {l : List Fe} {t : Int} {k : Nat} (h : k < l.length) : (l.take (k + 1)).filter (fun x => inT t x.p) = (l.take k).filter (fun x => inT t x.p) ++ if inT t l[k].p = true then [l[k]] else [] := by
  rw [List.take_succ_eq_append_getElem h, List.filter_append]
  congr 1
  split <;> simp_all
set_option maxHeartbeats 8000000 in
theorem rlist_of (base : Nat) (r : Nat) (S : Nat → Prop) (room : Int) (v : Value) (l : List Fe) (t : Int) (w : World) (h : Rm base w r S room v l) (hl : l.length ≤ 1000) :
    Calls Tryz.prog 14 #[.pointer (some ⟨r, 0, none⟩), .int .i64 t] w fun e w' => ∃ v', e = .returned v' ∧ OwnE w.heap.size w' v' (l.filter fun x => inT t x.p) ∧ Below w.heap.size w w' := by
  obtain ⟨i0, hi, hz0, hz1, hz2⟩ := info_parts infoFe
  obtain ⟨a, cap, rfl, hform⟩ := OwnE.form2 h.row
  have HO : Hid (OwnE base w (.slice a l.length cap) l) := h.row
  have HF : Hid (a = none ∧ l = [] ∧ cap = 0 ∨ ∃ g, a = some ⟨g, 0, none⟩ ∧ base ≤ g ∧ g < w.heap.size ∧ l.length ≤ cap ∧ cap ≤ maxLen) := hform
  have hcl := h.cl
  have hrl : r < w.heap.size := h.lt r h.sr
  clear h hform
  go_enter Tryz.func14, Tryz.ntmps14
  go_wp2
  go_loopw [5, 6] (fun s5 i wr => ∃ (k : Nat) (v : Value), k ≤ l.length ∧ v = s5 ∧ i = .int .i64 k ∧ Hid (OwnE w.heap.size wr v ((l.take k).filter fun x => inT t x.p)) ∧ Below w.heap.size w wr) (fun _ i _ => l.length - (intOf i).toNat)
  case atStart => exact ⟨0, _, Nat.zero_le _, rfl, rfl, (show World.ownsRow _ _ _ _ _ _ _ from World.ownsRow_nil _ _ _ _), Below.refl _ _⟩
  case round =>
    obtain ⟨k, v, hk, rfl, rfl, HM, hbel⟩ := hrel
    have c0 : wr.cell? ⟨r, 0, none⟩ = some (.slice a l.length cap) := (hbel.cell (p := ⟨r, 0, none⟩) hrl).trans hcl
    have HL : Hid (Below w.heap.size w wr) := hbel
    have zl := hbel.size
    clear hbel
    by_cases hlt : k < l.length
    · obtain ⟨gb, rfl, _, hgb, hnc, _⟩ : ∃ g, a = some ⟨g, 0, none⟩ ∧ base ≤ g ∧ g < w.heap.size ∧ l.length ≤ cap ∧ cap ≤ maxLen := by
        rcases HF.out with ⟨_, h, _⟩ | h
        · subst h; cases hlt
        · exact h
      have HB : Hid (Be wr gb (k * 10) l[k]) := (OwnE.be rfl HO.out k hlt).below hgb HL.out
      have ct : wr.cell? ⟨gb, k * 10, none⟩ = some (.int .i64 l[k].p.tab) := HB.out 0 _ rfl
      have HS := filter_snoc (t := t) hlt
      have HSn : Hid _ := HS
      clear HS
      have hlf : ((l.take k).filter fun x => inT t x.p).length ≤ 1000 := Nat.le_trans (List.length_filter_le _ _) (Nat.le_trans (List.length_take_le _ _) (by omega))
      cases hq : (l[k].p.tab == t) with
      | false =>
        have HM2 : Hid (OwnE w.heap.size wr v ((l.take (k + 1)).filter fun x => inT t x.p)) := (show World.ownsRow _ _ _ _ _ _ _ from by
          have e : (l.take (k + 1)).filter (fun x => inT t x.p) = (l.take k).filter (fun x => inT t x.p) := by rw [HSn.out, if_neg (by unfold inT; rw [hq]; decide), List.append_nil]
          rw [e]; exact HM.out)
        go_wp2_with fail
        go_roundw
        case rel => exact ⟨k + 1, v, by omega, rfl, by go_num, HM2, HL.out⟩
        case measure => simp [intOf]; omega
      | true =>
        have HM2 : Hid ((l.take (k + 1)).filter (fun x => inT t x.p) = (l.take k).filter (fun x => inT t x.p) ++ [l[k]]) := (show _ = _ by rw [HSn.out, if_pos (show inT t l[k].p = true from hq)])
        clear HSn
        generalize (l.take k).filter (fun x => inT t x.p) = m at *
        generalize l[k] = Y at *
        obtain ⟨W3, hW3⟩ : ∃ W3, wr.alloc (.cells (feC Y) 40) = W3 := ⟨_, rfl⟩
        have g3 : Below wr.heap.size wr W3 := by rw [← hW3]; go_grown
        have HN : Hid (W3.heap[wr.heap.size]? = some (.cells (feC Y) 40 (0, 0))) := (show _ = _ by rw [← hW3]; exact heap_alloc_new wr _)
        have HO3 : Hid (OwnE w.heap.size W3 v m) := ownE_below HM.out g3
        have HG3 : Hid (Below w.heap.size w W3) := btr HL.out g3 (Nat.le_refl _)
        have z3 : W3.heap.size = wr.heap.size + 1 := by rw [← hW3]; simp
        clear g3
        go_wp2_with (first
          | (refine load_E rfl (.tmp 32) rfl gb (k * 10) Y (by simp [Act.eval, Act.put]) HB.out ?_)
          | (at_builtin; refine wpList_append_lies W3 rfl (.tmp 26) (.tmp 34) 47 rfl w.heap.size 40 i0 zeroV 10 128 Tryz.underlying47 hi hz0 hz1 hz2 rfl (by decide) v m.length (flatE m) rfl HO3.out ⟨wr.heap.size, 0, none⟩ 1 1 (flatE [Y]) rfl rfl (news_one HN.out) (flatE_one _) (by decide) (by unfold maxLen; omega) (by omega) (by omega) _ rfl ?_; intro g4 cap4 w4 hown hgrow hat hlt4; have HM4 : Hid (OwnE w.heap.size w4 (.slice (some ⟨g4, 0, none⟩) (m.length + 1) cap4) (m ++ [Y])) := (show World.ownsRow _ _ _ _ _ _ _ from (by rw [List.length_append, flatE_append]; exact hown)); have HG4 : Hid (Below w.heap.size w w4) := HG3.out.grown hgrow (by omega) (fun k hk => (HO3.out.lt k hk).1); clear hown hgrow hat hlt4))
        go_roundw
        case rel => exact ⟨k + 1, _, by omega, rfl, by go_num, (show World.ownsRow _ _ _ _ _ _ _ from by rw [HM2.out]; exact HM4.out), HG4.out⟩
        case measure => simp [intOf]; omega
    · have hk' : k = l.length := by omega
      subst hk'
      have HR : Hid (OwnE w.heap.size wr v (l.filter fun x => inT t x.p)) := (show World.ownsRow _ _ _ _ _ _ _ from by have := HM.out; rwa [List.take_length] at this)
      go_wp2
      go_ret
      exact ⟨v, rfl, HR.out, HL.out⟩
theorem rlist_any (base : Nat) (r : Nat) (S : Nat → Prop) (room : Int) (L : List Fp) (t : Int) (w : World) (h : Rs base w r S room L) (hl : L.length ≤ 1000) :
    Calls Tryz.prog 14 #[.pointer (some ⟨r, 0, none⟩), .int .i64 t] w fun e w' => ∃ v' l', e = .returned v' ∧ OwnE w.heap.size w' v' l' ∧ (∀ x ∈ l', FW w' x) ∧ l'.map Fe.p = L.filter (inT t) ∧ Below w.heap.size w w' := by
  obtain ⟨v, l, h, rfl⟩ := h
  refine (rlist_of base r S room v l t w h (by simpa using hl)).mono fun e w' ⟨v', a, b, c⟩ => ⟨v', _, a, b, fun x hx => (h.en x (List.mem_filter.1 hx).1).1.below c, ?_, c⟩
  rw [List.filter_map]
  rfl
set_option maxRecDepth 20000 in
set_option maxHeartbeats 8000000 in
theorem lsame_any (v1 v2 : Value) (b1 b2 : Nat) (l m : List Fe) (w : World) (h1 : OwnE b1 w v1 l) (h2 : OwnE b2 w v2 m) (f1 : ∀ x ∈ l, FW w x) (f2 : ∀ x ∈ m, FW w x) (e : l.map Fe.p = m.map Fe.p) (hl : l.length ≤ 1000) :
    Calls Tryz.prog 12 #[v1, v2] w fun e w' => e = .returned (.bool true) ∧ Below w.heap.size w w' := by
  have hlen : l.length = m.length := by have := congrArg List.length e; simpa using this
  obtain ⟨a, cap, rfl, hform⟩ := OwnE.form2 h1
  obtain ⟨a2, cap2, rfl, hform2⟩ := OwnE.form2 h2
  have h2' : w.ownsRow b2 40 10 (.slice a2 m.length cap2) m.length (flatE m) := h2
  clear h2
  rw [← hlen] at h2' ⊢
  have HO : Hid (OwnE b1 w (.slice a l.length cap) l) := h1
  have HO2 : Hid (w.ownsRow b2 40 10 (.slice a2 l.length cap2) l.length (flatE m)) := (show World.ownsRow _ _ _ _ _ _ _ from h2')
  have HF : Hid (a = none ∧ l = [] ∧ cap = 0 ∨ ∃ g, a = some ⟨g, 0, none⟩ ∧ b1 ≤ g ∧ g < w.heap.size ∧ l.length ≤ cap ∧ cap ≤ maxLen) := hform
  have HF2 : Hid (a2 = none ∧ m = [] ∧ cap2 = 0 ∨ ∃ g, a2 = some ⟨g, 0, none⟩ ∧ b2 ≤ g ∧ g < w.heap.size ∧ m.length ≤ cap2 ∧ cap2 ≤ maxLen) := hform2
  have HW : Hid ((∀ x ∈ l, FW w x) ∧ (∀ x ∈ m, FW w x) ∧ l.map Fe.p = m.map Fe.p ∧ l.length = m.length) := (show _ ∧ _ from ⟨f1, f2, e, hlen⟩)
  have hne : ((l.length : Int) != (l.length : Int)) = false := by simp
  clear h1 h2' hform hform2 f1 f2 e hlen
  go_enter Tryz.func12, Tryz.ntmps12
  go_wp2
  go_loopw [5] (fun i wr => ∃ k : Nat, k ≤ l.length ∧ i = .int .i64 k ∧ Below w.heap.size w wr) (fun i _ => l.length - (intOf i).toNat)
  case atStart => exact ⟨0, Nat.zero_le _, rfl, Below.refl _ _⟩
  case round =>
    obtain ⟨k, hk, rfl, hbel⟩ := hrel
    by_cases hlt : k < l.length
    · have hltm : k < m.length := by have := HW.out.2.2.2; omega
      obtain ⟨gb, rfl, _, hgb, hnc, _⟩ : ∃ g, a = some ⟨g, 0, none⟩ ∧ b1 ≤ g ∧ g < w.heap.size ∧ l.length ≤ cap ∧ cap ≤ maxLen := by
        rcases HF.out with ⟨_, h, _⟩ | h
        · subst h; cases hlt
        · exact h
      obtain ⟨gc, rfl, _, hgc, hnc2, _⟩ : ∃ g, a2 = some ⟨g, 0, none⟩ ∧ b2 ≤ g ∧ g < w.heap.size ∧ m.length ≤ cap2 ∧ cap2 ≤ maxLen := by
        rcases HF2.out with ⟨_, h, _⟩ | h
        · subst h; cases hltm
        · exact h
      have hpe : m[k].p = l[k].p := by
        have := congrArg (fun z => z[k]?) HW.out.2.2.1
        simpa [hlt, hltm] using this.symm
      have HSe : Hid (∀ w1, Below wr.heap.size wr w1 → Calls Tryz.prog 18 #[feV l[k], feV m[k]] w1 fun e w' => e = .returned (.bool true) ∧ Below w1.heap.size w1 w') := (show ∀ w1, _ from fun w1 g => sameE l[k] m[k] w1 hpe (((HW.out.1 _ (List.getElem_mem _)).below hbel).below g) (((HW.out.2.1 _ (List.getElem_mem _)).below hbel).below g))
      have hB1 := (OwnE.be rfl HO.out k hlt).below hgb hbel
      have hB2 := (OwnE.be HW.out.2.2.2 HO2.out k hltm).below hgc hbel
      have HL : Hid (Below w.heap.size w wr) := hbel
      have zr := hbel.size
      clear hpe hbel
      generalize l[k] = A at *
      generalize m[k] = B at *
      obtain ⟨a0, a1, a2, a3, a4, a5, a6, a7, a8, a9⟩ := be_gr hB1 (by omega)
      obtain ⟨d0, d1, d2, d3, d4, d5, d6, d7, d8, d9⟩ := be_gr hB2 (by omega)
      clear hB1 hB2
      go_wp2_with fail
      refine wp_region_grow (by kernel_rfl) (by kernel_rfl) ?_
      repeat (go_big_quiet_step (first | (go_at_call 18; exact quiet_gr (HSe.out _ (GrT.h _)))))
      refine wpQuiet_nil ?_
      rintro w7 hw'
      have g7 := gr_elim hw'
      have HG7 : Hid (Below w.heap.size w w7) := btr HL.out g7 (Nat.le_refl _)
      clear hw' g7 a0 a1 a2 a3 a4 a5 a6 a7 a8 a9 d0 d1 d2 d3 d4 d5 d6 d7 d8 d9
      go_wp2_with fail
      go_roundw
      case rel => exact ⟨k + 1, by omega, by go_num, HG7.out⟩
      case measure => simp [intOf]; omega
    · go_wp2
      go_ret
      exact ⟨rfl, hbel⟩
end Go.Proofs.YtjjfhibkcngphaaGreatDoor
/-
  The document's tables behind a change; small laws for it.
-/
namespace Go.Proofs.YtjjfhibkcngphaaGreatDoor
open Go.ChangeShapes Go.WideShapes Go.ChangeAt Go.RowKit
set_option linter.unusedVariables false
set_option linter.unusedSimpArgs false

/-- What the document's tables have behind a call. -/
theorem Rm.update {base : Nat} {w w' : World} {r : Nat} {S : Nat → Prop} {room : Int} {v v' : Value} {l m : List Fe} (h : Rm base w r S room v l) (hz : w.heap.size ≤ w'.heap.size)
    (hk : ∀ b, b < base → b < w.heap.size → w'.heap[b]? = w.heap[b]?)
    (hc0 : w'.cell? ⟨r, 0, none⟩ = some v') (hc1 : w'.cell? ⟨r, 1, none⟩ = w.cell? ⟨r, 1, none⟩) (hf : ∀ o, w'.frozen? ⟨r, o, none⟩ = w.frozen? ⟨r, o, none⟩)
    (hown : OwnE base w' v' m) (hv : v'.ownBlock = v.ownBlock ∨ ∀ g, v'.ownBlock = some g → w.heap.size ≤ g)
    (hm : ∀ x ∈ m, FW w x ∧ ∀ b, InF x b → b < base) : Rm base w' r (more S w w') room v' m := by
  have hrl := h.lt r h.sr
  refine ⟨hc0, hc1.trans h.cr, fun o => (hf o).trans (h.fz o), hown, .inl h.sr, ?_, fun x hx => ⟨(hm x hx).1.stay hz (fun b hb hlt => hk b ((hm x hx).2 b hb) hlt), (hm x hx).2⟩, ?_, ?_, h.r1, h.r2⟩
  · intro g hg
    rcases hv with e | e
    · have := h.so g (by rw [← e]; exact hg)
      exact ⟨.inl this.1, this.2⟩
    · have := e g hg
      exact ⟨.inr ⟨this, (hown.lt g hg).2⟩, by omega⟩
  · intro b hb
    rcases hb with hb | hb
    · exact h.lo b hb
    · have := h.lo r h.sr; omega
  · intro b hb
    rcases hb with hb | hb
    · exact Nat.lt_of_lt_of_le (h.lt b hb) hz
    · exact hb.2
/-- An entry in another's place. -/
theorem Rm.set {base : Nat} {w : World} {r : Nat} {S : Nat → Prop} {room : Int} {g cap : Nat} {l : List Fe} (h : Rm base w r S room (.slice (some ⟨g, 0, none⟩) l.length cap) l) (i : Nat) (hi : i < l.length) (x : Fe) (hx : FW w x ∧ ∀ b, InF x b → b < base) :
    Rm base (w.setCells g (i * 10) (feC x).toList) r S room (.slice (some ⟨g, 0, none⟩) l.length cap) (l.set i x) ∧ Kept S w (w.setCells g (i * 10) (feC x).toList) := by
  have hs := OwnE.set rfl h.row i hi x
  have o : Only g w (w.setCells g (i * 10) (feC x).toList) := only_cells g _ _ _ _ (Only.refl g w)
  generalize w.setCells g (i * 10) (feC x).toList = V at *
  have hg := h.so g rfl
  have hb : base ≤ g := h.lo g hg.1
  have hr := o.block r (fun e => hg.2 e.symm)
  have hz : w.heap.size ≤ V.heap.size := by rw [o.size]; exact Nat.le_refl _
  refine ⟨⟨(World.cell?_of_block (w := w) hr).trans h.cl, (World.cell?_of_block (w := w) hr).trans h.cr, fun k => (World.frozen?_of_block (w := w) hr).trans (h.fz k), ?_, h.sr, h.so, ?_, h.lo, fun b hb => Nat.lt_of_lt_of_le (h.lt b hb) hz, h.r1, h.r2⟩, ⟨o.os, o.tape, o.output, hz, fun b hb hn => o.block b (fun e => hn (by rw [e]; exact hg.1))⟩⟩
  · show World.ownsRow _ _ _ _ _ _ _
    rw [List.length_set]
    exact hs
  · intro y hy
    have hy' : FW w y ∧ ∀ b, InF y b → b < base := by
      rcases List.mem_or_eq_of_mem_set hy with h1 | h1
      · exact h.en y h1
      · rw [h1]; exact hx
    exact ⟨hy'.1.stay hz (fun b hb' hlt => o.block b (fun e => by have := hy'.2 b hb'; omega)), hy'.2⟩
/-- Add's row is made, and stored. -/
theorem radd_fin {base : Nat} {w : World} {r : Nat} {S : Nat → Prop} {room : Int} {v : Value} {l : List Fe} (h : Rm base w r S room v l) {w6 : World} (g6 : Below w.heap.size w w6) {B : Nat} (hB : w.heap.size ≤ B) {a6 : Option Addr} {n6 cap6 : Nat} {m : List Fe} (hn : n6 = m.length) (ho : OwnE B w6 (.slice a6 n6 cap6) m)
    (hm : ∀ x ∈ m, FW w x ∧ ∀ b, InF x b → b < base) (E : Int) (L' : List Fp) (hL : m.map Fe.p = L') : ∃ S', Rs base (w6.setCell ⟨r, 0, none⟩ (.slice a6 n6 cap6)) r S' room L' ∧ Kept S w (w6.setCell ⟨r, 0, none⟩ (.slice a6 n6 cap6)) ∧ ∀ b, S' b → S b ∨ w.heap.size ≤ b := by
  subst hn
  have hrl := h.lt r h.sr
  have hrb := h.lo r h.sr
  obtain ⟨V, hV⟩ : ∃ V, w6.setCell ⟨r, 0, none⟩ (.slice a6 m.length cap6) = V := ⟨_, rfl⟩
  have o : Only r w6 V := by rw [← hV]; exact (Only.refl r w6).setCell 0 _
  have hz : w.heap.size ≤ V.heap.size := by rw [o.size]; exact g6.size
  have hc1 : V.cell? ⟨r, 1, none⟩ = w.cell? ⟨r, 1, none⟩ := by rw [← hV, World.cell?_setCell_other _ _ _ _ (by simp)]; exact g6.cell (p := ⟨r, 1, none⟩) hrl
  have hc0 : V.cell? ⟨r, 0, none⟩ = some (.slice a6 m.length cap6) := by rw [← hV]; exact World.cell?_setCell_same _ _ _ ((g6.cell (p := ⟨r, 0, none⟩) hrl).trans h.cl)
  have hf : ∀ k, V.frozen? ⟨r, k, none⟩ = w.frozen? ⟨r, k, none⟩ := fun k => by rw [← hV, World.frozen?_setCell]; exact World.frozen?_of_block (w := w) (g6.block r hrl)
  have hb : ∀ b, b < w.heap.size → b ≠ r → V.heap[b]? = w.heap[b]? := fun b hb hne => (o.block b hne).trans (g6.block b hb)
  rw [hV]
  have hown : OwnE base V (.slice a6 m.length cap6) m := by
    refine ⟨ho.1, ?_⟩
    rcases ho.2 with hn | ⟨g', cap, cur, hv, hbb, hgg, rest⟩
    · exact .inl hn
    · exact .inr ⟨g', cap, cur, hv, by omega, (o.block g' (by omega)).trans hgg, rest⟩
  have hup := h.update (m := m) hz (fun b hb1 hb2 => hb b hb2 (by omega)) hc0 hc1 hf hown (.inr fun g hg => by have := (ho.lt g hg).1; omega) hm
  refine ⟨_, ⟨_, _, hup, hL⟩, ⟨o.os.trans g6.os, o.tape.trans g6.tape, o.output.trans g6.output, hz, fun b hb1 hb2 => hb b hb1 (fun e => hb2 (by rw [e]; exact h.sr))⟩, fun b hb => ?_⟩
  rcases hb with hb | hb
  · exact .inl hb
  · exact .inr hb.1
theorem ins_map (l : List Fe) (x : Fe) (k : Nat) (L : List Fp) (hL : l.map Fe.p = L) (hE : endV x.p.pri L = k) : (l.take k ++ [x] ++ l.drop k).map Fe.p = insL L x.p := by
  subst hL
  unfold insL
  rw [hE]
  simp [List.map_take, List.map_drop]
theorem row_cells {base : Nat} {w : World} {g n cap : Nat} {l : List Fe} (hn : n = l.length) (h : w.ownsRow base 40 10 (.slice (some ⟨g, 0, none⟩) n cap) n (flatE l)) (k : Nat) (hk : k ≤ l.length) : ∀ j u, (flatE (l.drop k))[j]? = some u → w.cell? ⟨g, k * 10 + j, none⟩ = some u := by
  subst hn
  intro j u hj
  rw [← flatE_drop, List.getElem?_drop] at hj
  have hlt := (List.getElem?_eq_some_iff.1 hj).1
  rw [flatE_length] at hlt
  rw [h.cellAt (k * 10 + j) (by omega)]
  exact hj
theorem row_take {base : Nat} {w : World} {g n cap : Nat} {l : List Fe} (hn : n = l.length) (h : w.ownsRow base 40 10 (.slice (some ⟨g, 0, none⟩) n cap) n (flatE l)) (k : Nat) : ∀ j u, (flatE (l.take k))[j]? = some u → w.cell? ⟨g, 0 + j, none⟩ = some u := by
  subst hn
  intro j u hj
  rw [← flatE_take, List.getElem?_take] at hj
  split at hj
  · have hlt := (List.getElem?_eq_some_iff.1 hj).1
    rw [flatE_length] at hlt
    rw [Nat.zero_add, h.cellAt j (by omega)]
    exact hj
  · cases hj
/-- Entries appended, many or none. -/
theorem wpList_appE {w : World} {ops : Array Oper} {rest : List Oper} {o : Oper} {a : Go.Act} {Q : Exit → Go.Act → World → Prop} (hgd : o.guard = none) (s x : Operand)
    (ho : o.op = .call { callee := .builtin .append, args := #[s, x], argTypes := #[47, 47] }) (base : Nat) (v : Value) (n : Nat) (xs : List Value) (hs : a.eval s = v) (hown : w.ownsRow base 40 10 v n xs)
    (ad : Option Addr) (m cap : Nat) (l : List Fe) (hm : m = l.length) (hx : a.eval x = .slice ad m cap) (hT : l = [] ∨ ∃ g o, ad = some ⟨g, o, none⟩ ∧ ∀ j u, (flatE l)[j]? = some u → w.cell? ⟨g, o + j, none⟩ = some u) (hn : n + l.length ≤ 100000) (hbase : base ≤ w.heap.size)
    (h : ∀ v' w', w'.ownsRow base 40 10 v' (n + m) (xs ++ flatE l) → w.grownBy w' v.ownBlock → wpList Tryz.prog ops Q rest (a.put o.dst v') w') : wpList Tryz.prog ops Q (o :: rest) a w := by
  obtain ⟨i0, hi, hz0, hz1, hz2⟩ := info_parts infoFe
  subst hm
  rcases hT with rfl | ⟨g, of, rfl, hc⟩
  · have src : Src Tryz.prog i0.size 47 (.slice ad 0 cap) 0 [] w := by
      cases ad with
      | none => exact Src.ofNil w Tryz.underlying47 cap
      | some q => exact Src.ofSlice w Tryz.underlying47 q 0 cap [] (by simp) (fun j u hj => by simp at hj) (fun u hu => by simp at hu)
    rcases hown.2 with ⟨rfl, h0⟩ | ⟨g, c, cur, rfl, hbg, hhg, hnc, hcm, hcs, htk⟩
    · refine Lib.wpList_append_run w hgd s x 47 47 ho _ _ hs hx _ _ (run_append_nothing w 47 47 o.type 40 i0 Tryz.underlying47 hi none 0 0 (Nat.le_refl _) _ src) ?_
      refine h _ _ ?_ ⟨rfl, rfl, rfl, Nat.le_refl _, fun _ _ _ => rfl⟩
      simpa [flatE] using hown
    · refine Lib.wpList_append_run w hgd s x 47 47 ho _ _ hs hx _ _ (run_append_nothing w 47 47 o.type 40 i0 Tryz.underlying47 hi (some ⟨g, 0, none⟩) n c hnc _ src) ?_
      refine h _ _ ?_ ⟨rfl, rfl, rfl, Nat.le_refl _, fun _ _ _ => rfl⟩
      simpa [flatE] using hown
  · exact wpList_append_own w hgd s x 47 ho base 40 i0 zeroV 10 128 Tryz.underlying47 hi hz0 hz1 hz2 rfl (by decide) v n xs hs hown ⟨g, of, none⟩ l.length cap (flatE l) hx (flatE_length l) (fun j u hj => by rw [addP]; exact hc j u hj) (flatE_one l) (by unfold maxLen; omega) (by omega) hbase (fun v' w' h1 h2 _ => h v' w' h1 h2)
/-- What the region that puts an entry in another's place reads. -/
abbrev SR (b r gb n cap : Nat) (x : Fe) (w : World) : Prop :=
  w.cell? ⟨r, 0, none⟩ = some (.slice (some ⟨gb, 0, none⟩) n cap) ∧ SX b x.p.tab x w
theorem sr_of {b r gb n cap : Nat} {x : Fe} {W : World} (h : Be W b 0 x) (hc : W.cell? ⟨r, 0, none⟩ = some (.slice (some ⟨gb, 0, none⟩) n cap)) : SR b r gb n cap x W := ⟨hc, sx_of rfl h⟩
/-- One step of a region that draws: a whole entry is stored. -/
theorem step_store_E {ops : Array Oper} {o : Oper} {a : Go.Act} {w : World} {K : Go.Act → World → Prop} {Q : Exit → Go.Act → World → Prop} {E : Prop}
    (hg : o.guard = none) (t y : Operand) (ho : o.op = .store 40 t y) (b k : Nat) (x : Fe) (hx : a.eval t = .pointer (some ⟨b, k, none⟩)) (hy : a.eval y = feV x) (ht : w.there b k 10)
    (hK : ∀ V, V = w.setCells b k (feC x).toList → K (a.put o.dst undef) V) : if Region.wanted o (yielded ops a.tmps) = true then Oper.wp Tryz.prog o a w K Q else E := by
  have hw : Region.wanted o (yielded ops a.tmps) = true := by simp [Region.wanted, hg]
  rw [if_pos hw]
  exact wp_store_mid 40 t y ho b k (feC x) hx hy ht (hiE x) (oneE x) (hK _ rfl)
end Go.Proofs.YtjjfhibkcngphaaGreatDoor
/-
  What the document's Add does, as a contract.
-/
namespace Go.Proofs.YtjjfhibkcngphaaGreatDoor
open Go.ChangeShapes Go.WideShapes Go.ChangeAt Go.RowKit
set_option linter.unusedVariables false
set_option linter.unusedSimpArgs false

def rclashB (x y : Fp) : Bool := ((y.tab == x.tab) && (y.pri == x.pri)) && Mt.meetsB y.lt x.lt
/-- What the document's Add answers, and what there is behind it. -/
def AddRel (room : Int) (L : List Fp) (x : Fp) (chk : Bool) (E : Int) (L' : List Fp) : Prop :=
  (wrongE x ≠ 0 ∧ E = wrongE x ∧ L' = L) ∨ (wrongE x = 0 ∧ (chk && L.any (rclashB x)) = true ∧ E = 28 ∧ L' = L) ∨
  (wrongE x = 0 ∧ (chk && L.any (rclashB x)) = false ∧ ((∃ i, ∃ h : i < L.length, alikeB x (L[i]'h) = true ∧ E = 0 ∧ L' = L.set i x) ∨
    ((∀ y ∈ L, alikeB x y = false) ∧ ((room ≤ (L.filter (inT x.tab)).length ∧ E = 27 ∧ L' = L) ∨ (¬ room ≤ (L.filter (inT x.tab)).length ∧ E = 0 ∧ L' = insL L x)))))
set_option maxRecDepth 20000 in
set_option maxHeartbeats 16000000 in
theorem radd_any (base : Nat) (r : Nat) (S : Nat → Prop) (room : Int) (L : List Fp) (x : Fe) (chk : Bool) (w : World) (h : Rs base w r S room L) (hx : FW w x) (hv : VF x.p) (hi : ∀ b, InF x b → b < base) (hn : L.length ≤ 900) :
    Calls Tryz.prog 8 #[.pointer (some ⟨r, 0, none⟩), feV x, .bool chk] w fun e w' => ∃ E L', e = .returned (.int .i64 E) ∧ AddRel room L x.p chk E L' ∧ ∃ S', Rs base w' r S' room L' ∧ Kept S w w' ∧ ∀ b, S' b → S b ∨ w.heap.size ≤ b := by
  have HX : Hid (Be (fx w x) w.heap.size 0 x) := Be.new w x
  have g0 : Below w.heap.size w (fx w x) := by go_grown
  have HWr : Hid (Calls Tryz.prog 20 #[feV x] (fx w x) fun e w' => e = .returned (.int .i64 (wrongE x.p)) ∧ Below (fx w x).heap.size (fx w x) w') := rwrong_any x _ (hx.below g0) hv
  have HRs : Hid (Rs base w r S room L) := h
  have HNo : Hid (∀ W, Below w.heap.size w W → ∃ S', Rs base W r S' room L ∧ Kept S w W ∧ ∀ b, S' b → S b ∨ w.heap.size ≤ b) := (show ∀ W, _ from fun W g => ⟨S, HRs.out.below g, Kept.of_below g, fun b hb => .inl hb⟩)
  by_cases hw0 : wrongE x.p = 0
  · have HW0 : Hid (wrongE x.p = 0) := hw0
    rw [hw0] at HWr
    obtain ⟨v, l, hR, hL⟩ := h
    obtain ⟨a, cap, hvv, hform⟩ := OwnE.form2 hR.row
    subst hvv
    have HR : Hid (Rm base w r S room (.slice a l.length cap) l) := hR
    have HF : Hid (a = none ∧ l = [] ∧ cap = 0 ∨ ∃ g, a = some ⟨g, 0, none⟩ ∧ base ≤ g ∧ g < w.heap.size ∧ l.length ≤ cap ∧ cap ≤ maxLen) := hform
    have HLe : Hid (l.map Fe.p = L) := hL
    have hln : l.length ≤ 900 := by rw [← hL, List.length_map] at hn; exact hn
    have hcl := hR.cl
    have hcr := hR.cr
    have hrl := hR.lt r hR.sr
    have HXW : Hid (FW w x ∧ ∀ b, InF x b → b < base) := (show _ ∧ _ from ⟨hx, hi⟩)
    clear hx hv hi hn hw0 hR hform hL
    go_enter Tryz.func8, Tryz.ntmps8
    go_wp2_with (refine load_E rfl (.tmp 4) rfl w.heap.size 0 x rfl HX.out ?_)
    refine HWr.out.mono ?_
    rintro e w1 ⟨rfl, g1⟩
    have HG1 : Hid (Below w.heap.size w w1) := btr g0 g1 (Nat.le_refl _)
    have HX1 : Hid (Be w1 w.heap.size 0 x) := HX.out.below (by simp) g1
    have z1 := g1.size
    simp at z1
    clear g1
    go_wp2_with fail
    go_loopw [8, 9, 10] (fun s8 i _ wr => ∃ (k : Nat) (pl : Int), k ≤ l.length ∧ s8 = .int .i64 pl ∧ i = .int .i64 k ∧ Hid ((pl = -1 ∧ ∀ j (hj : j < l.length), j < k → alikeB x.p l[j].p = false) ∨ ∃ i, ∃ hi : i < l.length, i < k ∧ pl = i ∧ alikeB x.p l[i].p = true) ∧ Hid (∀ j (hj : j < l.length), j < k → (chk && rclashB x.p l[j].p) = false) ∧ Hid (Below w1.heap.size w1 wr)) (fun _ i _ _ => l.length - (intOf i).toNat)
    case atStart => exact ⟨0, -1, Nat.zero_le _, rfl, rfl, (show _ ∨ _ from .inl ⟨rfl, fun j _ hj => absurd hj (Nat.not_lt_zero _)⟩), (show ∀ j, _ from fun j _ hj => absurd hj (Nat.not_lt_zero _)), Below.refl _ _⟩
    case round =>
      obtain ⟨k, pl, hk, rfl, rfl, HPl, HCl, HB1⟩ := hrel
      have HGr : Hid (Below w.heap.size w wr) := btr HG1.out HB1.out (by omega)
      have zr := HB1.out.size
      have c0 : wr.cell? ⟨r, 0, none⟩ = some (.slice a l.length cap) := (HGr.out.cell (p := ⟨r, 0, none⟩) hrl).trans hcl
      have HXr : Hid (Be wr w.heap.size 0 x) := HX1.out.below (by omega) HB1.out
      by_cases hlt : k < l.length
      · obtain ⟨gb, rfl, hgb0, hgb, hnc, _⟩ : ∃ g, a = some ⟨g, 0, none⟩ ∧ base ≤ g ∧ g < w.heap.size ∧ l.length ≤ cap ∧ cap ≤ maxLen := by
          rcases HF.out with ⟨_, h, _⟩ | h
          · subst h; cases hlt
          · exact h
        have HYb : Hid (Be wr gb (k * 10) l[k]) := (OwnE.be rfl HR.out.row k hlt).below hgb HGr.out
        have HYw : Hid (FW wr l[k]) := (HR.out.en _ (List.getElem_mem _)).1.below HGr.out
        have HXw : Hid (FW wr x) := HXW.out.1.below HGr.out
        have HPn : Hid (∀ b, alikeB x.p l[k].p = b → (if b = true then (k : Int) else pl) = (if b = true then (k : Int) else pl) ∧ (((if b = true then (k : Int) else pl) = -1 ∧ ∀ j (hj : j < l.length), j < k + 1 → alikeB x.p l[j].p = false) ∨ ∃ i, ∃ hi : i < l.length, i < k + 1 ∧ (if b = true then (k : Int) else pl) = i ∧ alikeB x.p l[i].p = true)) := (show ∀ b, _ from fun b hb => ⟨rfl, by
          cases b with
          | true => exact .inr ⟨k, hlt, by omega, by simp, hb⟩
          | false =>
            rcases HPl.out with ⟨h1, h2⟩ | ⟨i, h1, h2, h3, h4⟩
            · refine .inl ⟨by simpa using h1, fun j hj hjk => ?_⟩
              by_cases e : j = k
              · subst e; exact hb
              · exact h2 j hj (by omega)
            · exact .inr ⟨i, h1, by omega, by simpa using h3, h4⟩⟩)
        have HCn : Hid ((chk && rclashB x.p l[k].p) = false → ∀ j (hj : j < l.length), j < k + 1 → (chk && rclashB x.p l[j].p) = false) := (show _ → ∀ j, _ from fun hb j hj hjk => by
          by_cases e : j = k
          · subst e; exact hb
          · exact HCl.out j hj (by omega))
        have HCy : Hid (rclashB x.p l[k].p = true → chk = true → AddRel room L x.p chk 28 L) := (show _ → _ → _ from fun h1 h2 => .inr (.inl ⟨HW0.out, by
          rw [h2, Bool.true_and, List.any_eq_true, ← HLe.out]
          exact ⟨l[k].p, List.mem_map.2 ⟨_, List.getElem_mem _, rfl⟩, h1⟩, rfl, rfl⟩))
        have hrc : rclashB x.p l[k].p = (((l[k].p.tab == x.p.tab) && (l[k].p.pri == x.p.pri)) && Mt.meetsB l[k].p.lt x.p.lt) := rfl
        generalize l[k] = Y at *
        have hways : (chk = false ∨ (chk = true ∧ (Y.p.tab == x.p.tab) = false) ∨ (chk = true ∧ (Y.p.tab == x.p.tab) = true ∧ (Y.p.pri == x.p.pri) = false)) ∨ (chk = true ∧ (Y.p.tab == x.p.tab) = true ∧ (Y.p.pri == x.p.pri) = true) := by
          cases chk <;> cases (Y.p.tab == x.p.tab) <;> cases (Y.p.pri == x.p.pri) <;> simp
        rcases hways with hw3 | ⟨hch, hta, hpr⟩
        · have hcf : (chk && rclashB x.p Y.p) = false := by
            rw [hrc]
            rcases hw3 with h1 | ⟨h1, h2⟩ | ⟨h1, h2, h3⟩ <;> simp [*]
          have HCf := HCn.out hcf
          have HCf2 : Hid _ := HCf
          clear HCf hcf hrc HCy HCn
          rcases hw3 with h1 | ⟨h1, h2⟩ | ⟨h1, h2, h3⟩
          all_goals
            subst h1
            go_wp2_with (first
              | (refine load_E rfl (.tmp 32) rfl gb (k * 10) Y (by simp [Act.eval, Act.put]) HYb.out ?_)
              | (refine store_E rfl (.tmp 10) (.tmp 33) rfl wr.heap.size 0 Y rfl rfl (there_new wr zeroE 40) ?_; intro V hV bV tV oV; clear hV; have HBV : Hid (Be V wr.heap.size 0 Y) := bV; have HGV : Hid (Below wr.heap.size wr V) := oV.below (Nat.le_refl _) (show Below wr.heap.size wr (wr.alloc (.cells zeroE 40)) by go_grown); have zV : V.heap.size = wr.heap.size + 1 := (by rw [oV.size]; simp); obtain ⟨d0, d1, d2, _⟩ := bV.cs; obtain ⟨e0, e1, e2, _⟩ := (HXr.out.below (by omega) HGV.out).cs; have HXV : Hid (Be V w.heap.size 0 x) := HXr.out.below (by omega) HGV.out; clear bV tV oV)
              | (refine load_E rfl (.tmp 4) rfl w.heap.size 0 x rfl HXV.out ?_)
              | (refine load_E rfl (.tmp 10) rfl wr.heap.size 0 Y rfl HBV.out ?_))
            refine (alike_any x Y V (HXw.out.below HGV.out) (HYw.out.below HGV.out)).mono ?_
            rintro e w5 ⟨rfl, g5⟩
            have HB5 : Hid (Below w1.heap.size w1 w5) := btr (btr HB1.out HGV.out (Nat.le_refl _)) g5 (by have := HB1.out.size; omega)
            clear g5 d0 d1 d2 e0 e1 e2
            cases hal : alikeB x.p Y.p with
            | true =>
              have HP2 := (HPn.out true hal).2
              have HP3 : Hid _ := HP2
              clear HP2
              go_wp2_with fail
              go_roundw
              case rel => exact ⟨k + 1, (k : Int), by omega, rfl, by go_num, (show _ ∨ _ from by simpa using HP3.out), HCf2, HB5⟩
              case measure => simp [intOf]; omega
            | false =>
              have HP2 := (HPn.out false hal).2
              have HP3 : Hid _ := HP2
              clear HP2
              go_wp2_with fail
              go_roundw
              case rel => exact ⟨k + 1, pl, by omega, rfl, by go_num, (show _ ∨ _ from by simpa using HP3.out), HCf2, HB5⟩
              case measure => simp [intOf]; omega
        · have HMe : Hid (∀ w1, FW w1 Y → FW w1 x → Calls Tryz.prog 21 #[.slice Y.ta Y.p.lt.length Y.tc, .slice x.ta x.p.lt.length x.tc] w1 fun e w' => e = .returned (.bool (Mt.meetsB Y.p.lt x.p.lt)) ∧ Below w1.heap.size w1 w') := (show ∀ w1, _ from fun w1 h1 h2 => Mt.rmeets_any _ _ _ _ _ _ w1 h1.t (by have := h1.nt; omega) h2.t (by have := h2.nt; omega))
          rw [hta, hpr] at hrc
          simp only [Bool.true_and] at hrc
          have HRc : Hid (rclashB x.p Y.p = Mt.meetsB Y.p.lt x.p.lt) := hrc
          clear hrc
          subst hch
          go_wp2_with (first
            | (refine load_E rfl (.tmp 32) rfl gb (k * 10) Y (by simp [Act.eval, Act.put]) HYb.out ?_)
            | (refine store_E rfl (.tmp 10) (.tmp 33) rfl wr.heap.size 0 Y rfl rfl (there_new wr zeroE 40) ?_; intro V hV bV tV oV; clear hV; have HBV : Hid (Be V wr.heap.size 0 Y) := bV; have HGV : Hid (Below wr.heap.size wr V) := oV.below (Nat.le_refl _) (show Below wr.heap.size wr (wr.alloc (.cells zeroE 40)) by go_grown); have zV : V.heap.size = wr.heap.size + 1 := (by rw [oV.size]; simp); obtain ⟨d0, d1, d2, _⟩ := bV.cs; obtain ⟨e0, e1, e2, _⟩ := (HXr.out.below (by omega) HGV.out).cs; have HXV : Hid (Be V w.heap.size 0 x) := HXr.out.below (by omega) HGV.out; clear bV tV oV))
          refine (HMe.out V (HYw.out.below HGV.out) (HXw.out.below HGV.out)).mono ?_
          rintro e w4 ⟨rfl, g4⟩
          have HG4 : Hid (Below wr.heap.size wr w4) := btr HGV.out g4 (Nat.le_refl _)
          have HX4 : Hid (Be w4 w.heap.size 0 x) := HXr.out.below (by omega) HG4.out
          have HY4 : Hid (Be w4 wr.heap.size 0 Y) := HBV.out.below (by omega) g4
          clear g4 d0 d1 d2 e0 e1 e2
          cases hme : Mt.meetsB Y.p.lt x.p.lt with
          | true =>
            have HAr : Hid (AddRel room L x.p true 28 L) := HCy.out (by rw [HRc.out, hme]) trivial
            have HG5 : Hid (Below w.heap.size w w4) := btr HGr.out HG4.out (Nat.le_refl _)
            go_wp2_with fail
            go_ret
            exact ⟨28, L, rfl, HAr.out, HNo.out _ HG5.out⟩
          | false =>
            have HCf2 : Hid (∀ j (hj : j < l.length), j < k + 1 → (true && rclashB x.p l[j].p) = false) := HCn.out (by rw [HRc.out, hme]; rfl)
            go_wp2_with (first
              | (refine load_E rfl (.tmp 4) rfl w.heap.size 0 x rfl HX4.out ?_)
              | (refine load_E rfl (.tmp 10) rfl wr.heap.size 0 Y rfl HY4.out ?_))
            refine (alike_any x Y w4 (HXw.out.below HG4.out) (HYw.out.below HG4.out)).mono ?_
            rintro e w5 ⟨rfl, g5⟩
            have HB5 : Hid (Below w1.heap.size w1 w5) := btr (btr HB1.out HG4.out (Nat.le_refl _)) g5 (by have := HB1.out.size; omega)
            clear g5
            cases hal : alikeB x.p Y.p with
            | true =>
              have HP2 := (HPn.out true hal).2
              have HP3 : Hid _ := HP2
              clear HP2
              go_wp2_with fail
              go_roundw
              case rel => exact ⟨k + 1, (k : Int), by omega, rfl, by go_num, (show _ ∨ _ from by simpa using HP3.out), HCf2, HB5⟩
              case measure => simp [intOf]; omega
            | false =>
              have HP2 := (HPn.out false hal).2
              have HP3 : Hid _ := HP2
              clear HP2
              go_wp2_with fail
              go_roundw
              case rel => exact ⟨k + 1, pl, by omega, rfl, by go_num, (show _ ∨ _ from by simpa using HP3.out), HCf2, HB5⟩
              case measure => simp [intOf]; omega
      · --END1
        have hk' : k = l.length := by omega
        subst hk'
        have HCe : Hid ((chk && L.any (rclashB x.p)) = false) := (show _ = _ by
          rw [← HLe.out]
          cases hch : chk with
          | false => rfl
          | true =>
            rw [Bool.true_and, Bool.eq_false_iff]
            intro h
            obtain ⟨y, hy, hc⟩ := List.any_eq_true.1 h
            obtain ⟨z, hz, rfl⟩ := List.mem_map.1 hy
            obtain ⟨j, hj, rfl⟩ := List.mem_iff_getElem.1 hz
            have := HCl.out j hj hj
            rw [hch, Bool.true_and, hc] at this
            cases this)
        have c1 : wr.cell? ⟨r, 1, none⟩ = some (.int .i64 room) := (HGr.out.cell (p := ⟨r, 1, none⟩) hrl).trans hcr
        rcases HPl.out with ⟨rfl, hno⟩ | ⟨i, hil, _, rfl, hal⟩
        · have HNa : Hid (∀ y ∈ L, alikeB x.p y = false) := (show ∀ y ∈ L, _ from fun y hy => by
            rw [← HLe.out] at hy
            obtain ⟨z, hz, rfl⟩ := List.mem_map.1 hy
            obtain ⟨j, hj, rfl⟩ := List.mem_iff_getElem.1 hz
            exact hno j hj hj)
          have HGd : Hid (Below w.heap.size w wr.drew) := btr HGr.out (show Below wr.heap.size wr wr.drew by go_grown) (by omega)
          have hlm : L.filter (inT x.p.tab) = (l.filter fun y => inT x.p.tab y.p).map Fe.p := by rw [← HLe.out, List.filter_map]; rfl
          have HAl : Hid ((room ≤ (l.filter fun y => inT x.p.tab y.p).length → AddRel room L x.p chk 27 L) ∧ (¬ room ≤ (l.filter fun y => inT x.p.tab y.p).length → AddRel room L x.p chk 0 (insL L x.p))) := (show _ ∧ _ from
            ⟨fun h1 => .inr (.inr ⟨HW0.out, HCe.out, .inr ⟨HNa.out, .inl ⟨by rw [hlm, List.length_map]; exact h1, rfl, rfl⟩⟩⟩), fun h1 => .inr (.inr ⟨HW0.out, HCe.out, .inr ⟨HNa.out, .inr ⟨by rw [hlm, List.length_map]; exact h1, rfl, rfl⟩⟩⟩)⟩)
          have HLs : Hid (Calls Tryz.prog 14 #[.pointer (some ⟨r, 0, none⟩), .int .i64 x.p.tab] wr.drew fun e w' => ∃ v', e = .returned v' ∧ OwnE wr.drew.heap.size w' v' (l.filter fun y => inT x.p.tab y.p) ∧ Below wr.drew.heap.size wr.drew w') := rlist_of base r S room _ l x.p.tab wr.drew (HR.out.below HGd.out) (by omega)
          have HXd : Hid (∀ W, Below wr.drew.heap.size wr.drew W → Be W w.heap.size 0 x) := (show ∀ W, _ from fun W g => (HXr.out.below (w := wr) (by omega) (show Below wr.heap.size wr wr.drew by go_grown)).below (by show _ < wr.heap.size; omega) g)
          have HKs : Hid (∀ W, Below wr.drew.heap.size wr.drew W → W.cell? ⟨w.heap.size, 0, none⟩ = some (.int .i64 x.p.tab) ∧ W.cell? ⟨r, 1, none⟩ = some (.int .i64 room)) := (show ∀ W, _ from fun W g => ⟨HXd.out W g 0 _ rfl, (g.cell (p := ⟨r, 1, none⟩) (show r < wr.heap.size by omega)).trans c1⟩)
          have HBd : Hid (Below wr.drew.heap.size wr.drew wr.drew) := Below.refl _ _
          clear HCe HNa hlm HCl HPl HWr hno hk hlt
          have b0 : wr.cell? ⟨w.heap.size, 0, none⟩ = some (.int .i64 x.p.tab) := HXr.out 0 _ rfl
          have hml : (l.filter fun y => inT x.p.tab y.p).length ≤ 900 := Nat.le_trans (List.length_filter_le _ _) hln
          generalize (l.filter fun y => inT x.p.tab y.p) = m at *
          obtain ⟨nm, hnm⟩ : ∃ n, n = m.length := ⟨_, rfl⟩
          rw [← hnm] at HAl hml
          have HNm : Hid (nm = m.length) := hnm
          clear hnm
          by_cases hfull : room ≤ nm
          · have HA : Hid (AddRel room L x.p chk 27 L) := HAl.out.1 hfull
            clear HAl
            go_wp2_with fail
            go_region_with (go_at_call 14; refine HLs.out.mono ?_; rintro e w2 ⟨v', rfl, hov, g2⟩; obtain ⟨a2, cap2, hv2, hf2⟩ := OwnE.form2 hov; rw [← HNm.out] at hv2; subst hv2; have HB2 : Hid (Below wr.drew.heap.size wr.drew w2) := g2; have k2 : w2.cell? ⟨r, 1, none⟩ = some (.int .i64 room) := (HKs.out _ g2).2; clear hov hf2 g2)
            all_goals
              go_wp2_with fail
              go_ret
              exact ⟨27, L, rfl, HA.out, HNo.out _ (btr HGd.out HB2.out (Nat.le_refl _))⟩
          · have HA : Hid (AddRel room L x.p chk 0 (insL L x.p)) := HAl.out.2 hfull
            clear HAl
            go_wp2_with fail
            go_region_with (go_at_call 14; refine HLs.out.mono ?_; rintro e w2 ⟨v', rfl, hov, g2⟩; obtain ⟨a2, cap2, hv2, hf2⟩ := OwnE.form2 hov; rw [← HNm.out] at hv2; subst hv2; have HB2 : Hid (Below wr.drew.heap.size wr.drew w2) := g2; have k2 : w2.cell? ⟨r, 1, none⟩ = some (.int .i64 room) := (HKs.out _ g2).2; clear hov hf2 g2)
            all_goals
              --TAIL
              have HG2 : Hid (Below w.heap.size w w2) := btr HGd.out HB2.out (Nat.le_refl _)
              have z2 : wr.heap.size ≤ w2.heap.size := HB2.out.size
              have HX2 : Hid (Be w2 w.heap.size 0 x) := HXd.out _ HB2.out
              clear HB2 HXd HKs HLs HNm k2 b0 c0 c1 HBd
              go_wp2_with fail
              go_loopw [11] (fun i wq => ∃ k : Nat, k ≤ l.length ∧ i = .int .i64 k ∧ Hid (∀ j (hj : j < l.length), j < k → x.p.pri ≤ l[j].p.pri) ∧ Hid (Below w2.heap.size w2 wq)) (fun i _ => l.length - (intOf i).toNat)
              case atStart => exact ⟨0, Nat.zero_le _, rfl, (show ∀ j, _ from fun j _ hj => absurd hj (Nat.not_lt_zero _)), Below.refl _ _⟩
              case round =>
                obtain ⟨k, hk, rfl, HP, HBq⟩ := hrel
                have HGq : Hid (Below w.heap.size w wr) := btr HG2.out HBq.out (Nat.le_refl _)
                have zq := HBq.out.size
                have c0 : wr.cell? ⟨r, 0, none⟩ = some (.slice a l.length cap) := (HGq.out.cell (p := ⟨r, 0, none⟩) hrl).trans hcl
                have cb : wr.cell? ⟨w.heap.size, 1, none⟩ = some (.int .i64 x.p.pri) := HX2.out.below (by omega) HBq.out 1 _ rfl
                by_cases hgo : ∃ hl : k < l.length, ¬ l[k].p.pri < x.p.pri
                · obtain ⟨hlt, hge⟩ := hgo
                  obtain ⟨gb, rfl, hgb0, hgb, hnc, hcm⟩ : ∃ g, a = some ⟨g, 0, none⟩ ∧ base ≤ g ∧ g < w.heap.size ∧ l.length ≤ cap ∧ cap ≤ maxLen := by
                    rcases HF.out with ⟨_, h, _⟩ | h
                    · subst h; cases hlt
                    · exact h
                  have HP2 : Hid (∀ j (hj : j < l.length), j < k + 1 → x.p.pri ≤ l[j].p.pri) := (show ∀ j, _ from fun j hj hjk => by
                    by_cases e : j = k
                    · subst e; omega
                    · exact HP.out j hj (by omega))
                  have y1 : wr.cell? ⟨gb, k * 10 + 1, none⟩ = some (.int .i64 l[k].p.pri) := (OwnE.be rfl HR.out.row k hlt).below hgb HGq.out 1 _ rfl
                  have hge2 : x.p.pri ≤ l[k].p.pri := by omega
                  clear HP
                  generalize l[k].p.pri = py at *
                  go_wp2_with fail
                  go_quiet (fail)
                  go_wp2_with fail
                  go_roundw
                  case rel => exact ⟨k + 1, by omega, by go_num, HP2, bdr HBq.out _⟩
                  case measure => simp [intOf]; omega
                · --OUT
                  have HE : Hid (endV x.p.pri L = k) := (show _ = _ by
                    rw [← HLe.out]
                    by_cases hlt : k < l.length
                    · refine endV_at x.p.pri _ k (by simpa using hlt) (fun j hj hjk => by have := HP.out j (by simpa using hj) hjk; rw [List.getElem_map]; omega) ?_
                      rw [List.getElem_map]
                      by_cases h : l[k].p.pri < x.p.pri
                      · exact h
                      · exact absurd ⟨hlt, h⟩ hgo
                    · have hkl : k = l.length := by omega
                      rw [endV_none x.p.pri _ (fun j hj => by have := HP.out j (by simpa using hj) (by rw [hkl]; simpa using hj); rw [List.getElem_map]; omega), List.length_map, hkl])
                  clear HP
                  by_cases hlt : k < l.length
                  · obtain ⟨gb, rfl, hgb0, hgb, hnc, hcm⟩ : ∃ g, a = some ⟨g, 0, none⟩ ∧ base ≤ g ∧ g < w.heap.size ∧ l.length ≤ cap ∧ cap ≤ maxLen := by
                      rcases HF.out with ⟨_, h, _⟩ | h
                      · subst h; cases hlt
                      · exact h
                    have y1 : wr.cell? ⟨gb, k * 10 + 1, none⟩ = some (.int .i64 l[k].p.pri) := (OwnE.be rfl HR.out.row k hlt).below hgb HGq.out 1 _ rfl
                    have hge2 : ¬ x.p.pri ≤ l[k].p.pri := by
                      by_cases h : l[k].p.pri < x.p.pri
                      · omega
                      · exact absurd ⟨hlt, h⟩ hgo
                    clear hgo
                    generalize l[k].p.pri = py at *
                    have hck : ¬ (cap = k) := by omega
                    have hkc : k ≤ cap := by omega
                    go_wp2_with fail
                    go_quiet (fail)
                    obtain ⟨U, hU⟩ : ∃ U, wr.drewN nq = U := ⟨_, rfl⟩
                    rw [hU]
                    have HGU : Hid (Below w.heap.size w U) := (show Below _ _ _ by rw [← hU]; exact bdr HGq.out nq)
                    have HXU : Hid (Be U w.heap.size 0 x) := (show Be _ _ _ _ by have hb : Be wr w.heap.size 0 x := HX2.out.below (by omega) HBq.out; rw [← hU]; exact hb)
                    have zU : w.heap.size + 1 ≤ U.heap.size := by rw [← hU]; show _ ≤ wr.heap.size; omega
                    have HRU : Hid (Rm base U r S room (.slice (some ⟨gb, 0, none⟩) l.length cap) l) := HR.out.below HGU.out
                    have cU : U.cell? ⟨r, 0, none⟩ = some (.slice (some ⟨gb, 0, none⟩) l.length cap) := HRU.out.cl
                    clear hU c0 cb
                    go_wp2_with (first
                      | (at_builtin; refine wpList_appE rfl (.tmp 101) (.tmp 107) rfl U.heap.size (.slice none 0 0) 0 [] rfl (World.ownsRow_nil _ _ _ _) (some ⟨gb, 0, none⟩) k cap (l.take k) (by first | (rw [List.length_take]; omega) | simp) (by simp [Act.eval, Act.put]) (.inr ⟨gb, 0, rfl, row_take rfl HRU.out.row k⟩) (by first | (rw [List.length_take]; omega) | simp) (Nat.le_refl _) ?_; intro v3 w3 h3 b3; have HO3 : Hid (w3.ownsRow U.heap.size 40 10 v3 k (flatE (l.take k))) := (show World.ownsRow _ _ _ _ _ _ _ by simpa using h3); have g3 : Below U.heap.size U w3 := ⟨b3.os, b3.tape, b3.output, b3.size, fun q hq => b3.block q hq (by simp [Value.ownBlock])⟩; have HG3 : Hid (Below U.heap.size U w3) := g3; have z3 := g3.size; have HX3 : Hid (Be w3 w.heap.size 0 x) := HXU.out.below (by omega) g3; have HO4 : Hid ((w3.alloc (.cells (feC x) 40)).ownsRow U.heap.size 40 10 v3 k (flatE (l.take k))) := own_below HO3.out (by go_grown); have HN4 : Hid ((w3.alloc (.cells (feC x) 40)).heap[w3.heap.size]? = some (.cells (feC x) 40 (0, 0))) := heap_alloc_new w3 _; have HG4 : Hid (Below U.heap.size U (w3.alloc (.cells (feC x) 40))) := btr g3 (by go_grown) (Nat.le_refl _); clear h3 b3 g3)
                      | (refine load_E rfl (.tmp 4) rfl w.heap.size 0 x rfl HX3.out ?_)
                      | (at_builtin; refine wpList_appE rfl (.tmp 109) (.tmp 111) rfl U.heap.size v3 k (flatE (l.take k)) rfl HO4.out (some ⟨w3.heap.size, 0, none⟩) 1 1 [x] rfl rfl (.inr ⟨_, _, rfl, fun j u hj => (by have hq := news_one HN4.out j u hj; rw [addP] at hq; exact hq)⟩) (by simp <;> omega) (by simp <;> omega) ?_; intro v5 w5 h5 b5; have HO5 : Hid (w5.ownsRow U.heap.size 40 10 v5 (k + 1) (flatE (l.take k ++ [x]))) := (show World.ownsRow _ _ _ _ _ _ _ by rw [flatE_append]; exact h5); have g5 : Below U.heap.size U w5 := HG4.out.grown b5 (by simp <;> omega) (fun q hq => (HO4.out.lt q hq).1); have HG5 : Hid (Below U.heap.size U w5) := g5; have z5 := g5.size; have HR5 : Hid (Rm base w5 r S room (.slice (some ⟨gb, 0, none⟩) l.length cap) l) := HRU.out.below g5; have c5 : w5.cell? ⟨r, 0, none⟩ = some (.slice (some ⟨gb, 0, none⟩) l.length cap) := HR5.out.cl; clear h5 b5 g5)
                      | (at_builtin; refine wpList_appE rfl (.tmp 114) (.tmp 120) rfl U.heap.size v5 (k + 1) (flatE (l.take k ++ [x])) rfl HO5.out (some ⟨gb, k * 10, none⟩) (l.length - k) (cap - k) (l.drop k) (by simp) (by simp [Act.eval, Act.put]) (.inr ⟨gb, k * 10, rfl, row_cells rfl HR5.out.row k hk⟩) (by first | (rw [List.length_drop]; omega) | simp) (by omega) ?_; intro v6 w6 h6 b6; have h6' : OwnE U.heap.size w6 v6 (l.take k ++ [x] ++ l.drop k) := (show World.ownsRow _ _ _ _ _ _ _ by rw [flatE_append, show (l.take k ++ [x] ++ l.drop k).length = k + 1 + (l.length - k) by simp <;> omega]; exact h6); obtain ⟨a6, cap6, hv6, hf6⟩ := OwnE.form2 h6'; obtain ⟨n6, hn6⟩ : ∃ n, n = (l.take k ++ [x] ++ l.drop k).length := ⟨_, rfl⟩; rw [← hn6] at hv6; subst hv6; have g6 : Below w.heap.size w w6 := btr HGU.out (HG5.out.grown b6 (by omega) (fun q hq => (HO5.out.lt q hq).1)) (Nat.le_refl _); have HG6 : Hid (Below w.heap.size w w6) := g6; have HO6 : Hid (n6 = (l.take k ++ [x] ++ l.drop k).length ∧ OwnE U.heap.size w6 (.slice a6 n6 cap6) (l.take k ++ [x] ++ l.drop k)) := (show _ ∧ _ from ⟨hn6, h6'⟩); have d1 : w6.cell? ⟨r, 0, none⟩ = some (.slice (some ⟨gb, 0, none⟩) l.length cap) := (g6.cell (p := ⟨r, 0, none⟩) hrl).trans hcl; have d2 : w6.frozen? ⟨r, 0, none⟩ = false := (World.frozen?_of_block (w := w) (g6.block r hrl)).trans (HR.out.fz 0); clear h6 h6' b6 hf6 hn6 g6))
                    go_ret
                    refine ⟨0, insL L x.p, rfl, HA.out, ?_⟩
                    exact radd_fin HR.out HG6.out (by omega) HO6.out.1 HO6.out.2 (fun y hy => by
                      simp only [List.mem_append, List.mem_singleton] at hy
                      rcases hy with (hy | hy) | hy
                      · exact HR.out.en y (List.mem_of_mem_take hy)
                      · rw [hy]; exact HXW.out
                      · exact HR.out.en y (List.mem_of_mem_drop hy)) 0 _ (ins_map _ x _ L HLe.out HE.out)
                  · clear hgo
                    have hkl : k = l.length := by omega
                    subst hkl
                    rcases HF.out with ⟨rfl, hl0, rfl⟩ | ⟨gb, rfl, hgb0, hgb, hnc, hcm⟩
                    · subst hl0
                      simp only [List.length_nil] at *
                      go_wp2_with fail
                      go_quiet (fail)
                      obtain ⟨U, hU⟩ : ∃ U, wr.drewN nq = U := ⟨_, rfl⟩
                      rw [hU]
                      have HGU : Hid (Below w.heap.size w U) := (show Below _ _ _ by rw [← hU]; exact bdr HGq.out nq)
                      have HXU : Hid (Be U w.heap.size 0 x) := (show Be _ _ _ _ by have hb : Be wr w.heap.size 0 x := HX2.out.below (by omega) HBq.out; rw [← hU]; exact hb)
                      have zU : w.heap.size + 1 ≤ U.heap.size := by rw [← hU]; show _ ≤ wr.heap.size; omega
                      have HRU : Hid (Rm base U r S room (.slice none 0 0) ([] : List Fe)) := HR.out.below HGU.out
                      have cU : U.cell? ⟨r, 0, none⟩ = some (.slice none 0 0) := HRU.out.cl
                      clear hU c0 cb
                      go_wp2_with (first
                        | (at_builtin; refine wpList_appE rfl (.tmp 101) (.tmp 107) rfl U.heap.size (.slice none 0 0) 0 [] rfl (World.ownsRow_nil _ _ _ _) none 0 0 (([] : List Fe).take 0) (by first | (rw [List.length_take]; omega) | simp) (by simp [Act.eval, Act.put]) (.inl rfl) (by first | (rw [List.length_take]; omega) | simp) (Nat.le_refl _) ?_; intro v3 w3 h3 b3; have HO3 : Hid (w3.ownsRow U.heap.size 40 10 v3 0 (flatE (([] : List Fe).take 0))) := (show World.ownsRow _ _ _ _ _ _ _ by simpa using h3); have g3 : Below U.heap.size U w3 := ⟨b3.os, b3.tape, b3.output, b3.size, fun q hq => b3.block q hq (by simp [Value.ownBlock])⟩; have HG3 : Hid (Below U.heap.size U w3) := g3; have z3 := g3.size; have HX3 : Hid (Be w3 w.heap.size 0 x) := HXU.out.below (by omega) g3; have HO4 : Hid ((w3.alloc (.cells (feC x) 40)).ownsRow U.heap.size 40 10 v3 0 (flatE (([] : List Fe).take 0))) := own_below HO3.out (by go_grown); have HN4 : Hid ((w3.alloc (.cells (feC x) 40)).heap[w3.heap.size]? = some (.cells (feC x) 40 (0, 0))) := heap_alloc_new w3 _; have HG4 : Hid (Below U.heap.size U (w3.alloc (.cells (feC x) 40))) := btr g3 (by go_grown) (Nat.le_refl _); clear h3 b3 g3)
                        | (refine load_E rfl (.tmp 4) rfl w.heap.size 0 x rfl HX3.out ?_)
                        | (at_builtin; refine wpList_appE rfl (.tmp 109) (.tmp 111) rfl U.heap.size v3 0 (flatE (([] : List Fe).take 0)) rfl HO4.out (some ⟨w3.heap.size, 0, none⟩) 1 1 [x] rfl rfl (.inr ⟨_, _, rfl, fun j u hj => (by have hq := news_one HN4.out j u hj; rw [addP] at hq; exact hq)⟩) (by simp <;> omega) (by simp <;> omega) ?_; intro v5 w5 h5 b5; have HO5 : Hid (w5.ownsRow U.heap.size 40 10 v5 (0 + 1) (flatE (([] : List Fe).take 0 ++ [x]))) := (show World.ownsRow _ _ _ _ _ _ _ by rw [flatE_append]; exact h5); have g5 : Below U.heap.size U w5 := HG4.out.grown b5 (by simp <;> omega) (fun q hq => (HO4.out.lt q hq).1); have HG5 : Hid (Below U.heap.size U w5) := g5; have z5 := g5.size; have HR5 : Hid (Rm base w5 r S room (.slice none 0 0) ([] : List Fe)) := HRU.out.below g5; have c5 : w5.cell? ⟨r, 0, none⟩ = some (.slice none 0 0) := HR5.out.cl; clear h5 b5 g5)
                        | (at_builtin; refine wpList_appE rfl (.tmp 114) (.tmp 120) rfl U.heap.size v5 (0 + 1) (flatE (([] : List Fe).take 0 ++ [x])) rfl HO5.out none 0 0 (([] : List Fe).drop 0) (by simp) (by simp [Act.eval, Act.put]) (.inl rfl) (by first | (rw [List.length_drop]; omega) | simp) (by omega) ?_; intro v6 w6 h6 b6; have h6' : OwnE U.heap.size w6 v6 (([] : List Fe).take 0 ++ [x] ++ ([] : List Fe).drop 0) := (show World.ownsRow _ _ _ _ _ _ _ by rw [flatE_append, show (([] : List Fe).take 0 ++ [x] ++ ([] : List Fe).drop 0).length = 0 + 1 + 0 by simp <;> omega]; exact h6); obtain ⟨a6, cap6, hv6, hf6⟩ := OwnE.form2 h6'; obtain ⟨n6, hn6⟩ : ∃ n, n = (([] : List Fe).take 0 ++ [x] ++ ([] : List Fe).drop 0).length := ⟨_, rfl⟩; rw [← hn6] at hv6; subst hv6; have g6 : Below w.heap.size w w6 := btr HGU.out (HG5.out.grown b6 (by omega) (fun q hq => (HO5.out.lt q hq).1)) (Nat.le_refl _); have HG6 : Hid (Below w.heap.size w w6) := g6; have HO6 : Hid (n6 = (([] : List Fe).take 0 ++ [x] ++ ([] : List Fe).drop 0).length ∧ OwnE U.heap.size w6 (.slice a6 n6 cap6) (([] : List Fe).take 0 ++ [x] ++ ([] : List Fe).drop 0)) := (show _ ∧ _ from ⟨hn6, h6'⟩); have d1 : w6.cell? ⟨r, 0, none⟩ = some (.slice none 0 0) := (g6.cell (p := ⟨r, 0, none⟩) hrl).trans hcl; have d2 : w6.frozen? ⟨r, 0, none⟩ = false := (World.frozen?_of_block (w := w) (g6.block r hrl)).trans (HR.out.fz 0); clear h6 h6' b6 hf6 hn6 g6))
                      go_ret
                      refine ⟨0, insL L x.p, rfl, HA.out, ?_⟩
                      exact radd_fin HR.out HG6.out (by omega) HO6.out.1 HO6.out.2 (fun y hy => by
                        simp only [List.mem_append, List.mem_singleton] at hy
                        rcases hy with (hy | hy) | hy
                        · exact HR.out.en y (List.mem_of_mem_take hy)
                        · rw [hy]; exact HXW.out
                        · exact HR.out.en y (List.mem_of_mem_drop hy)) 0 _ (ins_map _ x _ L HLe.out HE.out)
                    · by_cases hck : cap = l.length
                      · subst hck
                        go_wp2_with fail
                        go_quiet (fail)
                        obtain ⟨U, hU⟩ : ∃ U, wr.drewN nq = U := ⟨_, rfl⟩
                        rw [hU]
                        have HGU : Hid (Below w.heap.size w U) := (show Below _ _ _ by rw [← hU]; exact bdr HGq.out nq)
                        have HXU : Hid (Be U w.heap.size 0 x) := (show Be _ _ _ _ by have hb : Be wr w.heap.size 0 x := HX2.out.below (by omega) HBq.out; rw [← hU]; exact hb)
                        have zU : w.heap.size + 1 ≤ U.heap.size := by rw [← hU]; show _ ≤ wr.heap.size; omega
                        have HRU : Hid (Rm base U r S room (.slice (some ⟨gb, 0, none⟩) l.length l.length) l) := HR.out.below HGU.out
                        have cU : U.cell? ⟨r, 0, none⟩ = some (.slice (some ⟨gb, 0, none⟩) l.length l.length) := HRU.out.cl
                        clear hU c0 cb
                        go_wp2_with (first
                          | (at_builtin; refine wpList_appE rfl (.tmp 101) (.tmp 107) rfl U.heap.size (.slice none 0 0) 0 [] rfl (World.ownsRow_nil _ _ _ _) (some ⟨gb, 0, none⟩) l.length l.length (l.take l.length) (by first | (rw [List.length_take]; omega) | simp) (by simp [Act.eval, Act.put]) (.inr ⟨gb, 0, rfl, row_take rfl HRU.out.row l.length⟩) (by first | (rw [List.length_take]; omega) | simp) (Nat.le_refl _) ?_; intro v3 w3 h3 b3; have HO3 : Hid (w3.ownsRow U.heap.size 40 10 v3 l.length (flatE (l.take l.length))) := (show World.ownsRow _ _ _ _ _ _ _ by simpa using h3); have g3 : Below U.heap.size U w3 := ⟨b3.os, b3.tape, b3.output, b3.size, fun q hq => b3.block q hq (by simp [Value.ownBlock])⟩; have HG3 : Hid (Below U.heap.size U w3) := g3; have z3 := g3.size; have HX3 : Hid (Be w3 w.heap.size 0 x) := HXU.out.below (by omega) g3; have HO4 : Hid ((w3.alloc (.cells (feC x) 40)).ownsRow U.heap.size 40 10 v3 l.length (flatE (l.take l.length))) := own_below HO3.out (by go_grown); have HN4 : Hid ((w3.alloc (.cells (feC x) 40)).heap[w3.heap.size]? = some (.cells (feC x) 40 (0, 0))) := heap_alloc_new w3 _; have HG4 : Hid (Below U.heap.size U (w3.alloc (.cells (feC x) 40))) := btr g3 (by go_grown) (Nat.le_refl _); clear h3 b3 g3)
                          | (refine load_E rfl (.tmp 4) rfl w.heap.size 0 x rfl HX3.out ?_)
                          | (at_builtin; refine wpList_appE rfl (.tmp 109) (.tmp 111) rfl U.heap.size v3 l.length (flatE (l.take l.length)) rfl HO4.out (some ⟨w3.heap.size, 0, none⟩) 1 1 [x] rfl rfl (.inr ⟨_, _, rfl, fun j u hj => (by have hq := news_one HN4.out j u hj; rw [addP] at hq; exact hq)⟩) (by simp <;> omega) (by simp <;> omega) ?_; intro v5 w5 h5 b5; have HO5 : Hid (w5.ownsRow U.heap.size 40 10 v5 (l.length + 1) (flatE (l.take l.length ++ [x]))) := (show World.ownsRow _ _ _ _ _ _ _ by rw [flatE_append]; exact h5); have g5 : Below U.heap.size U w5 := HG4.out.grown b5 (by simp <;> omega) (fun q hq => (HO4.out.lt q hq).1); have HG5 : Hid (Below U.heap.size U w5) := g5; have z5 := g5.size; have HR5 : Hid (Rm base w5 r S room (.slice (some ⟨gb, 0, none⟩) l.length l.length) l) := HRU.out.below g5; have c5 : w5.cell? ⟨r, 0, none⟩ = some (.slice (some ⟨gb, 0, none⟩) l.length l.length) := HR5.out.cl; clear h5 b5 g5)
                          | (at_builtin; refine wpList_appE rfl (.tmp 114) (.tmp 120) rfl U.heap.size v5 (l.length + 1) (flatE (l.take l.length ++ [x])) rfl HO5.out (some ⟨gb, 0, none⟩) 0 0 (l.drop l.length) (by simp) (by simp [Act.eval, Act.put]) (.inl List.drop_length) (by first | (rw [List.length_drop]; omega) | simp) (by omega) ?_; intro v6 w6 h6 b6; have h6' : OwnE U.heap.size w6 v6 (l.take l.length ++ [x] ++ l.drop l.length) := (show World.ownsRow _ _ _ _ _ _ _ by rw [flatE_append, show (l.take l.length ++ [x] ++ l.drop l.length).length = l.length + 1 + 0 by simp <;> omega]; exact h6); obtain ⟨a6, cap6, hv6, hf6⟩ := OwnE.form2 h6'; obtain ⟨n6, hn6⟩ : ∃ n, n = (l.take l.length ++ [x] ++ l.drop l.length).length := ⟨_, rfl⟩; rw [← hn6] at hv6; subst hv6; have g6 : Below w.heap.size w w6 := btr HGU.out (HG5.out.grown b6 (by omega) (fun q hq => (HO5.out.lt q hq).1)) (Nat.le_refl _); have HG6 : Hid (Below w.heap.size w w6) := g6; have HO6 : Hid (n6 = (l.take l.length ++ [x] ++ l.drop l.length).length ∧ OwnE U.heap.size w6 (.slice a6 n6 cap6) (l.take l.length ++ [x] ++ l.drop l.length)) := (show _ ∧ _ from ⟨hn6, h6'⟩); have d1 : w6.cell? ⟨r, 0, none⟩ = some (.slice (some ⟨gb, 0, none⟩) l.length l.length) := (g6.cell (p := ⟨r, 0, none⟩) hrl).trans hcl; have d2 : w6.frozen? ⟨r, 0, none⟩ = false := (World.frozen?_of_block (w := w) (g6.block r hrl)).trans (HR.out.fz 0); clear h6 h6' b6 hf6 hn6 g6))
                        go_ret
                        refine ⟨0, insL L x.p, rfl, HA.out, ?_⟩
                        exact radd_fin HR.out HG6.out (by omega) HO6.out.1 HO6.out.2 (fun y hy => by
                          simp only [List.mem_append, List.mem_singleton] at hy
                          rcases hy with (hy | hy) | hy
                          · exact HR.out.en y (List.mem_of_mem_take hy)
                          · rw [hy]; exact HXW.out
                          · exact HR.out.en y (List.mem_of_mem_drop hy)) 0 _ (ins_map _ x _ L HLe.out HE.out)
                      · have hkc : l.length ≤ cap := by omega
                        go_wp2_with fail
                        go_quiet (fail)
                        obtain ⟨U, hU⟩ : ∃ U, wr.drewN nq = U := ⟨_, rfl⟩
                        rw [hU]
                        have HGU : Hid (Below w.heap.size w U) := (show Below _ _ _ by rw [← hU]; exact bdr HGq.out nq)
                        have HXU : Hid (Be U w.heap.size 0 x) := (show Be _ _ _ _ by have hb : Be wr w.heap.size 0 x := HX2.out.below (by omega) HBq.out; rw [← hU]; exact hb)
                        have zU : w.heap.size + 1 ≤ U.heap.size := by rw [← hU]; show _ ≤ wr.heap.size; omega
                        have HRU : Hid (Rm base U r S room (.slice (some ⟨gb, 0, none⟩) l.length cap) l) := HR.out.below HGU.out
                        have cU : U.cell? ⟨r, 0, none⟩ = some (.slice (some ⟨gb, 0, none⟩) l.length cap) := HRU.out.cl
                        clear hU c0 cb
                        go_wp2_with (first
                          | (at_builtin; refine wpList_appE rfl (.tmp 101) (.tmp 107) rfl U.heap.size (.slice none 0 0) 0 [] rfl (World.ownsRow_nil _ _ _ _) (some ⟨gb, 0, none⟩) l.length cap (l.take l.length) (by first | (rw [List.length_take]; omega) | simp) (by simp [Act.eval, Act.put]) (.inr ⟨gb, 0, rfl, row_take rfl HRU.out.row l.length⟩) (by first | (rw [List.length_take]; omega) | simp) (Nat.le_refl _) ?_; intro v3 w3 h3 b3; have HO3 : Hid (w3.ownsRow U.heap.size 40 10 v3 l.length (flatE (l.take l.length))) := (show World.ownsRow _ _ _ _ _ _ _ by simpa using h3); have g3 : Below U.heap.size U w3 := ⟨b3.os, b3.tape, b3.output, b3.size, fun q hq => b3.block q hq (by simp [Value.ownBlock])⟩; have HG3 : Hid (Below U.heap.size U w3) := g3; have z3 := g3.size; have HX3 : Hid (Be w3 w.heap.size 0 x) := HXU.out.below (by omega) g3; have HO4 : Hid ((w3.alloc (.cells (feC x) 40)).ownsRow U.heap.size 40 10 v3 l.length (flatE (l.take l.length))) := own_below HO3.out (by go_grown); have HN4 : Hid ((w3.alloc (.cells (feC x) 40)).heap[w3.heap.size]? = some (.cells (feC x) 40 (0, 0))) := heap_alloc_new w3 _; have HG4 : Hid (Below U.heap.size U (w3.alloc (.cells (feC x) 40))) := btr g3 (by go_grown) (Nat.le_refl _); clear h3 b3 g3)
                          | (refine load_E rfl (.tmp 4) rfl w.heap.size 0 x rfl HX3.out ?_)
                          | (at_builtin; refine wpList_appE rfl (.tmp 109) (.tmp 111) rfl U.heap.size v3 l.length (flatE (l.take l.length)) rfl HO4.out (some ⟨w3.heap.size, 0, none⟩) 1 1 [x] rfl rfl (.inr ⟨_, _, rfl, fun j u hj => (by have hq := news_one HN4.out j u hj; rw [addP] at hq; exact hq)⟩) (by simp <;> omega) (by simp <;> omega) ?_; intro v5 w5 h5 b5; have HO5 : Hid (w5.ownsRow U.heap.size 40 10 v5 (l.length + 1) (flatE (l.take l.length ++ [x]))) := (show World.ownsRow _ _ _ _ _ _ _ by rw [flatE_append]; exact h5); have g5 : Below U.heap.size U w5 := HG4.out.grown b5 (by simp <;> omega) (fun q hq => (HO4.out.lt q hq).1); have HG5 : Hid (Below U.heap.size U w5) := g5; have z5 := g5.size; have HR5 : Hid (Rm base w5 r S room (.slice (some ⟨gb, 0, none⟩) l.length cap) l) := HRU.out.below g5; have c5 : w5.cell? ⟨r, 0, none⟩ = some (.slice (some ⟨gb, 0, none⟩) l.length cap) := HR5.out.cl; clear h5 b5 g5)
                          | (at_builtin; refine wpList_appE rfl (.tmp 114) (.tmp 120) rfl U.heap.size v5 (l.length + 1) (flatE (l.take l.length ++ [x])) rfl HO5.out (some ⟨gb, l.length * 10, none⟩) 0 (cap - l.length) (l.drop l.length) (by simp) (by simp [Act.eval, Act.put]) (.inl List.drop_length) (by first | (rw [List.length_drop]; omega) | simp) (by omega) ?_; intro v6 w6 h6 b6; have h6' : OwnE U.heap.size w6 v6 (l.take l.length ++ [x] ++ l.drop l.length) := (show World.ownsRow _ _ _ _ _ _ _ by rw [flatE_append, show (l.take l.length ++ [x] ++ l.drop l.length).length = l.length + 1 + 0 by simp <;> omega]; exact h6); obtain ⟨a6, cap6, hv6, hf6⟩ := OwnE.form2 h6'; obtain ⟨n6, hn6⟩ : ∃ n, n = (l.take l.length ++ [x] ++ l.drop l.length).length := ⟨_, rfl⟩; rw [← hn6] at hv6; subst hv6; have g6 : Below w.heap.size w w6 := btr HGU.out (HG5.out.grown b6 (by omega) (fun q hq => (HO5.out.lt q hq).1)) (Nat.le_refl _); have HG6 : Hid (Below w.heap.size w w6) := g6; have HO6 : Hid (n6 = (l.take l.length ++ [x] ++ l.drop l.length).length ∧ OwnE U.heap.size w6 (.slice a6 n6 cap6) (l.take l.length ++ [x] ++ l.drop l.length)) := (show _ ∧ _ from ⟨hn6, h6'⟩); have d1 : w6.cell? ⟨r, 0, none⟩ = some (.slice (some ⟨gb, 0, none⟩) l.length cap) := (g6.cell (p := ⟨r, 0, none⟩) hrl).trans hcl; have d2 : w6.frozen? ⟨r, 0, none⟩ = false := (World.frozen?_of_block (w := w) (g6.block r hrl)).trans (HR.out.fz 0); clear h6 h6' b6 hf6 hn6 g6))
                        go_ret
                        refine ⟨0, insL L x.p, rfl, HA.out, ?_⟩
                        exact radd_fin HR.out HG6.out (by omega) HO6.out.1 HO6.out.2 (fun y hy => by
                          simp only [List.mem_append, List.mem_singleton] at hy
                          rcases hy with (hy | hy) | hy
                          · exact HR.out.en y (List.mem_of_mem_take hy)
                          · rw [hy]; exact HXW.out
                          · exact HR.out.en y (List.mem_of_mem_drop hy)) 0 _ (ins_map _ x _ L HLe.out HE.out)
        · obtain ⟨gb, rfl, hgb0, hgb, hnc, hcm⟩ : ∃ g, a = some ⟨g, 0, none⟩ ∧ base ≤ g ∧ g < w.heap.size ∧ l.length ≤ cap ∧ cap ≤ maxLen := by
            rcases HF.out with ⟨_, h, _⟩ | h
            · subst h; cases hil
            · exact h
          have HAr : Hid (AddRel room L x.p chk 0 (L.set i x.p)) := (show AddRel _ _ _ _ _ _ from .inr (.inr ⟨HW0.out, HCe.out, .inl ⟨i, by rw [← HLe.out, List.length_map]; exact hil, by rw [← hal]; congr 1; subst HLe; simp, rfl, rfl⟩⟩))
          have hi0 : ¬ ((i : Int) < 0) := by omega
          have hi1 : (i : Int) ≥ 0 := by omega
          have HSr : Hid (∀ W, Be W w.heap.size 0 x → W.cell? ⟨r, 0, none⟩ = some (.slice (some ⟨gb, 0, none⟩) l.length cap) → SR w.heap.size r gb l.length cap x W) := (show ∀ W, _ from fun W hB hc => sr_of hB hc)
          have HXd : Hid (Be wr.drew w.heap.size 0 x) := HXr.out.below (w := wr) (by omega) (show Below wr.heap.size wr wr.drew by go_grown)
          have c0d : wr.drew.cell? ⟨r, 0, none⟩ = some (.slice (some ⟨gb, 0, none⟩) l.length cap) := c0
          have HGd : Hid (Below w.heap.size w wr.drew) := btr HGr.out (show Below wr.heap.size wr wr.drew by go_grown) (by omega)
          have HRd : Hid (Rm base wr.drew r S room (.slice (some ⟨gb, 0, none⟩) l.length cap) l) := HR.out.below HGd.out
          have HTh : Hid (wr.drew.there gb (i * 10) 10) := OwnE.there rfl HRd.out.row i hil
          have HSv : Hid (∀ V, V = wr.drew.setCells gb (i * 10) (feC x).toList → Be V w.heap.size 0 x ∧ V.cell? ⟨r, 0, none⟩ = some (.slice (some ⟨gb, 0, none⟩) l.length cap)) := (show ∀ V, _ from fun V hV => by
            have o : Only gb wr.drew V := by rw [hV]; exact only_cells gb _ _ _ _ (Only.refl gb wr.drew)
            exact ⟨range_block (w := wr.drew) HXd.out (o.block _ (by omega)), (World.cell?_of_block (w := wr.drew) (o.block r (fun e => (HRd.out.so gb rfl).2 e.symm))).trans HRd.out.cl⟩)
          have HSe : Hid (∀ V, V = wr.drew.setCells gb (i * 10) (feC x).toList → Rs base V r S room (L.set i x.p) ∧ Kept S w V) := (show ∀ V, _ from fun V hV => by
            have h1 := HRd.out.set i hil x ⟨HXW.out.1.below HGd.out, HXW.out.2⟩
            subst hV
            refine ⟨⟨_, _, h1.1, by rw [← HLe.out, List.map_set]⟩, (Kept.of_below HGd.out).trans h1.2 (fun k hk => .inl hk)⟩)
          clear HPl HF HR hcl hcr HWr HNo HRs
          go_wp2_with fail
          refine wp_region_held_drew (S := fun W => Be W w.heap.size 0 x ∧ W.cell? ⟨r, 0, none⟩ = some (.slice (some ⟨gb, 0, none⟩) l.length cap)) (by kernel_rfl) ⟨HXd.out, c0d⟩ (fun hHeld => ?_)
          refine wpAnyH_take (i := 0) (oi := { dst := some 62, op := Op.move (Operand.tmp 0), type := 33, pos := _, after := #[], guard := none }) (v := ?_) rfl (by kernel_rfl) (by kernel_rfl) (by kernel_rfl) (fun _ _ _ h => h) (Or.inl ⟨by rfl, ?_⟩) (by assumption) ?_
          rotate_left 1
          focus (intro W hSw; (try dsimp only at hSw); (try obtain ⟨hSw1, hSw2⟩ := hSw); go_simp; (try with_reducible rfl))
          try simp only [Act.put, List.setIfInBounds_toArray, List.set_cons_zero, List.set_cons_succ]
          refine wpAnyH_take (i := 1) (oi := { dst := some 63, op := Op.nilCheck (Operand.tmp 62), type := 0, pos := _, after := #[{ on := 0, ground := Ground.data }], guard := none }) (v := ?_) rfl (by kernel_rfl) (by kernel_rfl) (by kernel_rfl) (fun _ _ _ h => h) (Or.inl ⟨by rfl, ?_⟩) (by assumption) ?_
          rotate_left 1
          focus (intro W hSw; (try dsimp only at hSw); (try obtain ⟨hSw1, hSw2⟩ := hSw); go_simp; (try with_reducible rfl))
          try simp only [Act.put, List.setIfInBounds_toArray, List.set_cons_zero, List.set_cons_succ]
          refine wpAnyH_take (i := 2) (oi := { dst := some 64, op := Op.fieldAddr 60 (Operand.tmp 63) 0, type := 0, pos := _, after := #[{ on := 1, ground := Ground.data }], guard := none }) (v := ?_) rfl (by kernel_rfl) (by kernel_rfl) (by kernel_rfl) (fun _ _ _ h => h) (Or.inl ⟨by rfl, ?_⟩) (by assumption) ?_
          rotate_left 1
          focus (intro W hSw; (try dsimp only at hSw); (try obtain ⟨hSw1, hSw2⟩ := hSw); go_simp; (try with_reducible rfl))
          try simp only [Act.put, List.setIfInBounds_toArray, List.set_cons_zero, List.set_cons_succ]
          refine wpAnyH_take (i := 3) (oi := { dst := some 65, op := Op.load 47 (Operand.tmp 64), type := 47, pos := _, after := #[{ on := 2, ground := Ground.data }], guard := none }) (v := ?_) rfl (by kernel_rfl) (by kernel_rfl) (by kernel_rfl) (fun _ _ _ h => h) (Or.inl ⟨by rfl, ?_⟩) (by assumption) ?_
          rotate_left 1
          focus (intro W hSw; (try dsimp only at hSw); (try obtain ⟨hSw1, hSw2⟩ := hSw); go_simp; (try with_reducible rfl))
          try simp only [Act.put, List.setIfInBounds_toArray, List.set_cons_zero, List.set_cons_succ]
          refine wpAnyH_take (i := 4) (oi := { dst := some 66, op := Op.move (Operand.tmp 8), type := 3, pos := _, after := #[], guard := none }) (v := ?_) rfl (by kernel_rfl) (by kernel_rfl) (by kernel_rfl) (fun _ _ _ h => h) (Or.inl ⟨by rfl, ?_⟩) (by assumption) ?_
          rotate_left 1
          focus (intro W hSw; (try dsimp only at hSw); (try obtain ⟨hSw1, hSw2⟩ := hSw); go_simp; (try with_reducible rfl))
          try simp only [Act.put, List.setIfInBounds_toArray, List.set_cons_zero, List.set_cons_succ]
          refine wpAnyH_take (i := 5) (oi := { dst := some 67, op := Op.load 40 (Operand.tmp 4), type := 40, pos := _, after := #[], guard := none }) (v := feV x) rfl (by kernel_rfl) (by kernel_rfl) (by kernel_rfl) (fun _ _ _ h => h) (yieldsIf_load_mid (by rfl) 40 (.tmp 4) rfl w.heap.size 0 rfl (feC x).toList _ (fun W hW => hW.1) Tryz.underlying40 rfl (infoE x)) (by assumption) ?_
          try simp only [Act.put, List.setIfInBounds_toArray, List.set_cons_zero, List.set_cons_succ]
          refine wpAnyH_take (i := 6) (oi := { dst := some 68, op := Op.indexAddr 47 (Operand.tmp 65) (Operand.tmp 66), type := 0, pos := _, after := #[{ on := 3, ground := Ground.data }, { on := 4, ground := Ground.data }, { on := 0, ground := Ground.phase }, { on := 1, ground := Ground.phase }, { on := 2, ground := Ground.phase }, { on := 3, ground := Ground.phase }, { on := 4, ground := Ground.phase }, { on := 5, ground := Ground.phase }], guard := none }) (v := ?_) rfl (by kernel_rfl) (by kernel_rfl) (by kernel_rfl) (fun _ _ _ h => h) (Or.inl ⟨by rfl, ?_⟩) (by assumption) ?_
          rotate_left 1
          focus (intro W hSw; (try dsimp only at hSw); (try obtain ⟨hSw1, hSw2⟩ := hSw); go_simp; (try with_reducible rfl))
          try simp only [Act.put, List.setIfInBounds_toArray, List.set_cons_zero, List.set_cons_succ]
          refine wpAnyH_ready (rs := [7]) (by kernel_rfl) (by simp) ?_
          refine AllReadyH.cons rfl (fun K hK => ?_) AllReadyH.nil
          refine step_store_E rfl (.tmp 68) (.tmp 67) rfl gb (i * 10) x (by simp [Act.eval]) rfl HTh.out ?_
          intro V hV
          refine hK.out _ _ (HSv.out V hV) (fun hHeld => ?_)
          have HVR := HSe.out V hV
          have HVr : Hid _ := HVR
          clear HVR hHeld hK HSe HSv hV HTh HXd c0d HSr c0 c1 hi0 hi1
          refine wpAnyH_done (by kernel_rfl) ?_ _
          simp only [Act.put]
          go_wp2_with fail
          go_ret
          exact ⟨0, L.set i x.p, rfl, HAr.out, S, HVr.out.1, HVr.out.2, fun b hb => .inl hb⟩
  · have hn2 : (wrongE x.p != 0) = true := by simp [hw0]
    have HAr : Hid (AddRel room L x.p chk (wrongE x.p) L) := (show AddRel _ _ _ _ _ _ from .inl ⟨hw0, rfl, rfl⟩)
    clear h hx hv hi hw0
    generalize wrongE x.p = E at *
    go_enter Tryz.func8, Tryz.ntmps8
    go_wp2_with (refine load_E rfl (.tmp 4) rfl w.heap.size 0 x rfl HX.out ?_)
    refine HWr.out.mono ?_
    rintro e w1 ⟨rfl, g1⟩
    have HG1 : Hid (Below w.heap.size w w1) := btr g0 g1 (Nat.le_refl _)
    clear g1
    go_wp2_with fail
    go_ret
    exact ⟨E, L, rfl, HAr.out, HNo.out _ HG1.out⟩
end Go.Proofs.YtjjfhibkcngphaaGreatDoor
/-
  What the document's Delete does, as a contract.
-/
namespace Go.Proofs.YtjjfhibkcngphaaGreatDoor
open Go.ChangeShapes Go.WideShapes Go.ChangeAt Go.RowKit
set_option linter.unusedVariables false
set_option linter.unusedSimpArgs false

theorem filter_snoc2 {l : List Fe} (p : Fe → Bool) {k : Nat} (h : k < l.length) : (l.take (k + 1)).filter p = (l.take k).filter p ++ if p l[k] = true then [l[k]] else [] := by
  rw [List.take_succ_eq_append_getElem h, List.filter_append]
  congr 1
  split <;> simp_all
def rdelL (L : List Fp) (x : Fp) (s : Bool) : List Fp := if wrongE x = 0 then L.filter (fun y => !meantB x y s) else L
set_option maxRecDepth 20000 in
set_option maxHeartbeats 16000000 in
theorem rdel_any (base : Nat) (r : Nat) (S : Nat → Prop) (room : Int) (L : List Fp) (x : Fe) (s : Bool) (w : World) (h : Rs base w r S room L) (hx : FW w x) (hv : VF x.p) (hn : L.length ≤ 900) :
    Calls Tryz.prog 10 #[.pointer (some ⟨r, 0, none⟩), feV x, .bool s] w fun e w' => e = .returned (.int .i64 (wrongE x.p)) ∧ ∃ S', Rs base w' r S' room (rdelL L x.p s) ∧ Kept S w w' ∧ ∀ b, S' b → S b ∨ w.heap.size ≤ b := by
  obtain ⟨i0, hi, hz0, hz1, hz2⟩ := info_parts infoFe
  have HX : Hid (Be (fx w x) w.heap.size 0 x) := Be.new w x
  have g0 : Below w.heap.size w (fx w x) := by go_grown
  have HWr : Hid (Calls Tryz.prog 20 #[feV x] (fx w x) fun e w' => e = .returned (.int .i64 (wrongE x.p)) ∧ Below (fx w x).heap.size (fx w x) w') := rwrong_any x _ (hx.below g0) hv
  by_cases hw0 : wrongE x.p = 0
  · have HDe : Hid (rdelL L x.p s = L.filter (fun y => !meantB x.p y s)) := (show _ = _ by unfold rdelL; rw [if_pos hw0])
    rw [hw0] at HWr ⊢
    obtain ⟨v, l, hR, hL⟩ := h
    obtain ⟨a, cap, hvv, hform⟩ := OwnE.form2 hR.row
    subst hvv
    have HR : Hid (Rm base w r S room (.slice a l.length cap) l) := hR
    have HF : Hid (a = none ∧ l = [] ∧ cap = 0 ∨ ∃ g, a = some ⟨g, 0, none⟩ ∧ base ≤ g ∧ g < w.heap.size ∧ l.length ≤ cap ∧ cap ≤ maxLen) := hform
    have HLe : Hid (l.map Fe.p = L) := hL
    have hln : l.length ≤ 900 := by rw [← hL, List.length_map] at hn; exact hn
    have hcl := hR.cl
    have hrl := hR.lt r hR.sr
    have HXw : Hid (FW w x) := hx
    clear hx hv hn hw0 hR hform hL
    go_enter Tryz.func10, Tryz.ntmps10
    go_wp2_with (refine load_E rfl (.tmp 4) rfl w.heap.size 0 x rfl HX.out ?_)
    refine HWr.out.mono ?_
    rintro e w1 ⟨rfl, g1⟩
    have HG1 : Hid (Below w.heap.size w w1) := btr g0 g1 (Nat.le_refl _)
    have HX1 : Hid (Be w1 w.heap.size 0 x) := HX.out.below (by simp) g1
    have z1 := g1.size
    simp at z1
    clear g1 g0 HWr
    go_wp2_with fail
    go_loopw [8, 9] (fun s8 i wr => ∃ (k : Nat) (v : Value), k ≤ l.length ∧ v = s8 ∧ i = .int .i64 k ∧ Hid (OwnE w1.heap.size wr v ((l.take k).filter fun y => !meantB x.p y.p s)) ∧ Hid (Below w1.heap.size w1 wr)) (fun _ i _ => l.length - (intOf i).toNat)
    case atStart => exact ⟨0, _, Nat.zero_le _, rfl, rfl, (show World.ownsRow _ _ _ _ _ _ _ from World.ownsRow_nil _ _ _ _), Below.refl _ _⟩
    case round =>
      obtain ⟨k, v, hk, rfl, rfl, HM, HB1⟩ := hrel
      have HGr : Hid (Below w.heap.size w wr) := btr HG1.out HB1.out (Nat.le_refl _)
      have zr := HB1.out.size
      have c0 : wr.cell? ⟨r, 0, none⟩ = some (.slice a l.length cap) := (HGr.out.cell (p := ⟨r, 0, none⟩) hrl).trans hcl
      have HXr : Hid (Be wr w.heap.size 0 x) := HX1.out.below (by omega) HB1.out
      by_cases hlt : k < l.length
      · obtain ⟨gb, rfl, hgb0, hgb, hnc, _⟩ : ∃ g, a = some ⟨g, 0, none⟩ ∧ base ≤ g ∧ g < w.heap.size ∧ l.length ≤ cap ∧ cap ≤ maxLen := by
          rcases HF.out with ⟨_, h, _⟩ | h
          · subst h; cases hlt
          · exact h
        have HS := filter_snoc2 (fun y => !meantB x.p y.p s) hlt
        have HSn : Hid _ := HS
        clear HS
        have hlf : ((l.take k).filter fun y => !meantB x.p y.p s).length ≤ 900 := Nat.le_trans (List.length_filter_le _ _) (Nat.le_trans (List.length_take_le _ _) (by omega))
        have HYw : Hid (FW w l[k]) := (HR.out.en _ (List.getElem_mem _)).1
        have HMe : Hid (∀ w1, Below wr.heap.size wr w1 → Calls Tryz.prog 23 #[feV x, feV l[k], .bool s] w1 fun e w' => e = .returned (.bool (meantB x.p l[k].p s)) ∧ Below w1.heap.size w1 w') := (show ∀ w1, _ from fun w1 g => meant_any x l[k] s w1 ((HXw.out.below HGr.out).below g) ((HYw.out.below HGr.out).below g))
        have hB1 : Be wr w.heap.size 0 x := HXr.out
        have hB2 : Be wr gb (k * 10) l[k] := (OwnE.be rfl HR.out.row k hlt).below hgb HGr.out
        have HB2 : Hid (Be wr gb (k * 10) l[k]) := hB2
        have hgr : ∀ W : GrT wr, W.w.cell? ⟨r, 0, none⟩ = some (.slice (some ⟨gb, 0, none⟩) l.length cap) := fun W => (W.h.cell (p := ⟨r, 0, none⟩) (by show r < wr.heap.size; omega)).trans c0
        generalize (l.take k).filter (fun y => !meantB x.p y.p s) = m at *
        obtain ⟨B, hB⟩ : ∃ B, B = meantB x.p l[k].p s := ⟨_, rfl⟩
        rw [← hB] at HSn HMe
        clear hB HYw
        generalize l[k] = Y at *
        obtain ⟨a0, a1, a2, a3, a4, a5, a6, a7, a8, a9⟩ := be_gr0 hB1 (by omega)
        obtain ⟨d0, d1, d2, d3, d4, d5, d6, d7, d8, d9⟩ := be_gr hB2 (by omega)
        clear hB1 hB2
        go_wp2_with fail
        refine wp_region_grow (by kernel_rfl) (by kernel_rfl) ?_
        repeat (go_big_quiet_step (first | (go_at_call 23; exact quiet_gr (HMe.out _ (GrT.h _)))))
        refine wpQuiet_nil ?_
        rintro w7 hw'
        have g7 := gr_elim hw'
        have HG7 : Hid (Below w1.heap.size w1 w7) := btr HB1.out g7 (Nat.le_refl _)
        have HM7 : Hid (OwnE w1.heap.size w7 v m) := ownE_below HM.out g7
        have HB7 : Hid (Be w7 gb (k * 10) Y) := HB2.out.below (by omega) g7
        have c7 : w7.cell? ⟨r, 0, none⟩ = some (.slice (some ⟨gb, 0, none⟩) l.length cap) := (g7.cell (p := ⟨r, 0, none⟩) (by show r < wr.heap.size; omega)).trans c0
        have z7 := g7.size
        clear hw' g7 a0 a1 a2 a3 a4 a5 a6 a7 a8 a9 d0 d1 d2 d3 d4 d5 d6 d7 d8 d9 hgr HMe c0
        cases B with
        | true =>
          have HM2 : Hid (OwnE w1.heap.size w7 v ((l.take (k + 1)).filter fun y => !meantB x.p y.p s)) := (show World.ownsRow _ _ _ _ _ _ _ from by
            have e := HSn.out
            simp only [Bool.not_true, Bool.false_eq_true, if_false, List.append_nil] at e
            rw [e]; exact HM7.out)
          go_wp2_with fail
          go_roundw
          case rel => exact ⟨k + 1, v, by omega, rfl, by go_num, HM2, HG7⟩
          case measure => simp [intOf]; omega
        | false =>
          have HM2 : Hid ((l.take (k + 1)).filter (fun y => !meantB x.p y.p s) = m ++ [Y]) := (show _ = _ by
            have e := HSn.out
            simpa using e)
          clear HSn
          obtain ⟨W3, hW3⟩ : ∃ W3, w7.alloc (.cells (feC Y) 40) = W3 := ⟨_, rfl⟩
          have g3 : Below w7.heap.size w7 W3 := by rw [← hW3]; go_grown
          have HN : Hid (W3.heap[w7.heap.size]? = some (.cells (feC Y) 40 (0, 0))) := (show _ = _ by rw [← hW3]; exact heap_alloc_new w7 _)
          have HO3 : Hid (OwnE w1.heap.size W3 v m) := ownE_below HM7.out g3
          have HG3 : Hid (Below w1.heap.size w1 W3) := btr HG7.out g3 (Nat.le_refl _)
          have z3 : W3.heap.size = w7.heap.size + 1 := by rw [← hW3]; simp
          clear g3
          go_wp2_with (first
            | (refine load_E rfl (.tmp 41) rfl gb (k * 10) Y (by simp [Act.eval, Act.put]) HB7.out ?_)
            | (at_builtin; refine wpList_append_lies W3 rfl (.tmp 35) (.tmp 43) 47 rfl w1.heap.size 40 i0 zeroV 10 128 Tryz.underlying47 hi hz0 hz1 hz2 rfl (by decide) v m.length (flatE m) rfl HO3.out ⟨w7.heap.size, 0, none⟩ 1 1 (flatE [Y]) rfl rfl (news_one HN.out) (flatE_one _) (by decide) (by unfold maxLen; omega) (by omega) (by omega) _ rfl ?_; intro g4 cap4 w4 hown hgrow hat hlt4; have HM4 : Hid (OwnE w1.heap.size w4 (.slice (some ⟨g4, 0, none⟩) (m.length + 1) cap4) (m ++ [Y])) := (show World.ownsRow _ _ _ _ _ _ _ from (by rw [List.length_append, flatE_append]; exact hown)); have HG4 : Hid (Below w1.heap.size w1 w4) := HG3.out.grown hgrow (by omega) (fun k hk => (HO3.out.lt k hk).1); clear hown hgrow hat hlt4))
          go_roundw
          case rel => exact ⟨k + 1, _, by omega, rfl, by go_num, (show World.ownsRow _ _ _ _ _ _ _ from by rw [HM2.out]; exact HM4.out), HG4⟩
          case measure => simp [intOf]; omega
      · have hk' : k = l.length := by omega
        subst hk'
        have HM2 : Hid (OwnE w1.heap.size wr v (l.filter fun y => !meantB x.p y.p s)) := (show World.ownsRow _ _ _ _ _ _ _ from by have := HM.out; rwa [List.take_length] at this)
        clear HM
        have HMp : Hid ((l.filter fun y => !meantB x.p y.p s).map Fe.p = rdelL L x.p s ∧ ∀ y ∈ (l.filter fun y => !meantB x.p y.p s), FW w y ∧ ∀ b, InF y b → b < base) := (show _ ∧ _ from ⟨by rw [HDe.out, ← HLe.out, List.filter_map]; rfl, fun y hy => HR.out.en y (List.mem_filter.1 hy).1⟩)
        generalize (l.filter fun y => !meantB x.p y.p s) = m at *
        obtain ⟨a6, cap6, hv6, _⟩ := OwnE.form2 HM2.out
        obtain ⟨n6, hn6⟩ : ∃ n, n = m.length := ⟨_, rfl⟩
        rw [← hn6] at hv6
        subst hv6
        have HN6 : Hid (n6 = m.length) := hn6
        clear hn6
        have d2 : wr.frozen? ⟨r, 0, none⟩ = false := (World.frozen?_of_block (w := w) (HGr.out.block r hrl)).trans (HR.out.fz 0)
        go_wp2_with fail
        go_ret
        refine ⟨rfl, ?_⟩
        exact radd_fin HR.out HGr.out (by omega) HN6.out HM2.out HMp.out.2 0 _ HMp.out.1
  · have hn2 : (wrongE x.p != 0) = true := by simp [hw0]
    have HDe : Hid (rdelL L x.p s = L) := (show _ = _ by unfold rdelL; rw [if_neg hw0])
    have HRs : Hid (Rs base w r S room L) := h
    clear h hx hv hw0
    generalize wrongE x.p = E at *
    go_enter Tryz.func10, Tryz.ntmps10
    go_wp2_with (refine load_E rfl (.tmp 4) rfl w.heap.size 0 x rfl HX.out ?_)
    refine HWr.out.mono ?_
    rintro e w1 ⟨rfl, g1⟩
    have HG1 : Hid (Below w.heap.size w w1) := btr g0 g1 (Nat.le_refl _)
    clear g1
    go_wp2_with fail
    go_ret
    exact ⟨rfl, S, by rw [HDe.out]; exact HRs.out.below HG1.out, Kept.of_below HG1.out, fun b hb => .inl hb⟩
end Go.Proofs.YtjjfhibkcngphaaGreatDoor
/-
  What the document's Modify does, as a contract.
-/
namespace Go.Proofs.YtjjfhibkcngphaaGreatDoor
open Go.ChangeShapes Go.WideShapes Go.ChangeAt Go.RowKit
set_option linter.unusedVariables false
set_option linter.unusedSimpArgs false

def rchg (x y : Fp) (s : Bool) : Fp := if meantB x y s = true then { x with pri := y.pri, lt := y.lt } else y
def rmodL (L : List Fp) (x : Fp) (s : Bool) : List Fp := if wrongE x = 0 then L.map (fun y => rchg x y s) else L
/-- The new entry: the old one's priority and tests. -/
def newE (x y : Fe) : Fe := { x with p := { x.p with pri := y.p.pri, lt := y.p.lt }, ta := y.ta, tc := y.tc }
theorem newE_fw {w : World} {x y : Fe} (hx : FW w x) (hy : FW w y) : FW w (newE x y) := ⟨hy.t, hx.a, hx.w, hy.nt, hx.na, hx.nw, hy.ct⟩
theorem newE_in {x y : Fe} {base : Nat} (hx : ∀ b, InF x b → b < base) (hy : ∀ b, InF y b → b < base) : ∀ b, InF (newE x y) b → b < base := fun b hb => by
  rcases hb with h | h | h
  · exact hy b (.inl h)
  · exact hx b (.inr (.inl h))
  · exact hx b (.inr (.inr h))
theorem newE_be {w : World} {b : Nat} {x : Fe} (h : Be w b 0 x) (y : Fe) : Be ((w.setCell ⟨b, 1, none⟩ (.int .i64 y.p.pri)).setCell ⟨b, 2, none⟩ (.slice y.ta y.p.lt.length y.tc)) b 0 (newE x y) :=
  range_set (range_set h 1 _ (by simp)) 2 _ (by simp)
theorem Rm.set2 {base : Nat} {w : World} {r : Nat} {S : Nat → Prop} {room : Int} {g n cap : Nat} {l : List Fe} (hn : n = l.length) (h : Rm base w r S room (.slice (some ⟨g, 0, none⟩) n cap) l) (i : Nat) (hi : i < l.length) (x : Fe) (hx : FW w x ∧ ∀ b, InF x b → b < base) :
    Rm base (w.setCells g (i * 10) (feC x).toList) r S room (.slice (some ⟨g, 0, none⟩) n cap) (l.set i x) ∧ Kept S w (w.setCells g (i * 10) (feC x).toList) := by
  subst hn
  exact h.set i hi x hx
/-- What stands while Modify goes on. -/
structure RMI (base : Nat) (w w1 : World) (r : Nat) (S : Nat → Prop) (room : Int) (a : Option Addr) (cap : Nat) (l : List Fe) (x : Fe) (s : Bool) (k : Nat) (wr : World) (m : List Fe) : Prop where
  len : m.length = l.length
  done : ∀ j (h : j < m.length) (h' : j < l.length), j < k → m[j].p = rchg x.p l[j].p s
  left : ∀ j (h : j < m.length) (h' : j < l.length), k ≤ j → m[j] = l[j]
  rm : Rm base wr r S room (.slice a l.length cap) m
  kept : Kept S w wr
  size : w1.heap.size ≤ wr.heap.size
  box : Be wr w.heap.size 0 x
set_option maxRecDepth 20000 in
set_option maxHeartbeats 16000000 in
theorem rmod_any (base : Nat) (r : Nat) (S : Nat → Prop) (room : Int) (L : List Fp) (x : Fe) (s : Bool) (w : World) (h : Rs base w r S room L) (hx : FW w x) (hv : VF x.p) (hi : ∀ b, InF x b → b < base) (hn : L.length ≤ 900) :
    Calls Tryz.prog 9 #[.pointer (some ⟨r, 0, none⟩), feV x, .bool s] w fun e w' => e = .returned (.int .i64 (wrongE x.p)) ∧ ∃ S', Rs base w' r S' room (rmodL L x.p s) ∧ Kept S w w' ∧ ∀ b, S' b → S b ∨ w.heap.size ≤ b := by
  have HX : Hid (Be (fx w x) w.heap.size 0 x) := Be.new w x
  have g0 : Below w.heap.size w (fx w x) := by go_grown
  have HWr : Hid (Calls Tryz.prog 20 #[feV x] (fx w x) fun e w' => e = .returned (.int .i64 (wrongE x.p)) ∧ Below (fx w x).heap.size (fx w x) w') := rwrong_any x _ (hx.below g0) hv
  by_cases hw0 : wrongE x.p = 0
  · have HDe : Hid (rmodL L x.p s = L.map (fun y => rchg x.p y s)) := (show _ = _ by unfold rmodL; rw [if_pos hw0])
    rw [hw0] at HWr ⊢
    obtain ⟨v, l, hR, hL⟩ := h
    obtain ⟨a, cap, hvv, hform⟩ := OwnE.form2 hR.row
    subst hvv
    have HR : Hid (Rm base w r S room (.slice a l.length cap) l) := hR
    have HF : Hid (a = none ∧ l = [] ∧ cap = 0 ∨ ∃ g, a = some ⟨g, 0, none⟩ ∧ base ≤ g ∧ g < w.heap.size ∧ l.length ≤ cap ∧ cap ≤ maxLen) := hform
    have HLe : Hid (l.map Fe.p = L) := hL
    have hln : l.length ≤ 900 := by rw [← hL, List.length_map] at hn; exact hn
    have hrl := hR.lt r hR.sr
    have hrb := hR.lo r hR.sr
    have HXw : Hid (FW w x ∧ ∀ b, InF x b → b < base) := (show _ ∧ _ from ⟨hx, hi⟩)
    clear hx hv hn hw0 hR hform hL hi
    go_enter Tryz.func9, Tryz.ntmps9
    go_wp2_with (refine load_E rfl (.tmp 4) rfl w.heap.size 0 x rfl HX.out ?_)
    refine HWr.out.mono ?_
    rintro e w1 ⟨rfl, g1⟩
    have HG1 : Hid (Below w.heap.size w w1) := btr g0 g1 (Nat.le_refl _)
    have HX1 : Hid (Be w1 w.heap.size 0 x) := HX.out.below (by simp) g1
    have z1 := g1.size
    simp at z1
    clear g1 g0 HWr
    go_wp2_with fail
    go_loopw [8, 9] (fun i _ wr => ∃ (k : Nat) (m : List Fe), k ≤ l.length ∧ i = .int .i64 k ∧ Hid (RMI base w w1 r S room a cap l x s k wr m)) (fun i _ _ => l.length - (intOf i).toNat)
    case atStart => exact ⟨0, l, Nat.zero_le _, rfl, (show RMI _ _ _ _ _ _ _ _ _ _ _ _ _ _ from ⟨rfl, fun j _ _ h => absurd h (Nat.not_lt_zero _), fun _ _ _ _ => rfl, HR.out.below HG1.out, Kept.of_below HG1.out, Nat.le_refl _, HX1.out⟩)⟩
    case round =>
      obtain ⟨k, m, hk, rfl, HI⟩ := hrel
      have zr := HI.out.size
      have hml := HI.out.len
      have c0 : wr.cell? ⟨r, 0, none⟩ = some (.slice a l.length cap) := HI.out.rm.cl
      by_cases hlt : k < l.length
      · obtain ⟨gb, rfl, hgb0, hgb, hnc, _⟩ : ∃ g, a = some ⟨g, 0, none⟩ ∧ base ≤ g ∧ g < w.heap.size ∧ l.length ≤ cap ∧ cap ≤ maxLen := by
          rcases HF.out with ⟨_, h, _⟩ | h
          · subst h; cases hlt
          · exact h
        have hmk : m[k]'(by omega) = l[k] := HI.out.left k (by omega) hlt (Nat.le_refl _)
        have hB2 : Be wr gb (k * 10) l[k] := by rw [← hmk]; exact OwnE.be hml.symm (show World.ownsRow _ _ _ _ _ _ _ by have := HI.out.rm.row; unfold OwnE at this; rwa [hml] at this) k (by omega)
        have HYw : Hid (FW wr l[k] ∧ ∀ b, InF l[k] b → b < base) := (show _ ∧ _ by rw [← hmk]; exact HI.out.rm.en _ (List.getElem_mem _))
        have HXr : Hid (FW wr x) := HXw.out.1.stay (by omega) (fun b hb hlt => HI.out.kept.block b hlt (fun h' => by have := HXw.out.2 b hb; have := HR.out.lo b h'; omega))
        have HMe : Hid (∀ w1, Below wr.heap.size wr w1 → Calls Tryz.prog 23 #[feV x, feV l[k], .bool s] w1 fun e w' => e = .returned (.bool (meantB x.p l[k].p s)) ∧ Below w1.heap.size w1 w') := (show ∀ w1, _ from fun w1 g => meant_any x l[k] s w1 (HXr.out.below g) (HYw.out.1.below g))
        have HNx : Hid (∀ V, RMI base w w1 r S room (some ⟨gb, 0, none⟩) cap l x s k V m → meantB x.p l[k].p s = false → RMI base w w1 r S room (some ⟨gb, 0, none⟩) cap l x s (k + 1) V m) := (show ∀ V, _ from fun V hI hB => ⟨hI.len, fun j h h' hj => by
            by_cases e : j = k
            · subst e; rw [hI.left j h h' (Nat.le_refl _)]; unfold rchg; rw [hB]; rfl
            · exact hI.done j h h' (by omega), fun j h h' hj => hI.left j h h' (by omega), hI.rm, hI.kept, hI.size, hI.box⟩)
        have HNy : Hid (∀ V, V.heap.size ≥ wr.heap.size → RMI base w w1 r S room (some ⟨gb, 0, none⟩) cap l x s k V m → FW V l[k] → FW V x → meantB x.p l[k].p s = true → RMI base w w1 r S room (some ⟨gb, 0, none⟩) cap l x s (k + 1) (V.setCells gb (k * 10) (feC (newE x l[k])).toList) (m.set k (newE x l[k]))) := (show ∀ V, _ from fun V hz hI h1 h2 hB => by
          have hs := Rm.set2 hI.len.symm hI.rm k (by have := hI.len; omega) (newE x l[k]) ⟨newE_fw h2 h1, newE_in HXw.out.2 HYw.out.2⟩
          have o : Only gb V (V.setCells gb (k * 10) (feC (newE x l[k])).toList) := only_cells gb _ _ _ _ (Only.refl gb V)
          refine ⟨by rw [List.length_set]; exact hI.len, fun j h h' hj => ?_, fun j h h' hj => ?_, hs.1, hI.kept.trans hs.2 (fun b hb => .inl hb), by rw [o.size]; exact hI.size, range_block (w := V) hI.box (o.block _ (by omega))⟩
          · by_cases e : j = k
            · subst e; rw [List.getElem_set_self]; unfold rchg; rw [hB]; rfl
            · rw [List.getElem_set_ne (Ne.symm e)]; exact hI.done j (by simpa using h) h' (by omega)
          · rw [List.getElem_set_ne (by omega)]; exact hI.left j (by simpa using h) h' (by omega))
        have HB2 : Hid (Be wr gb (k * 10) l[k]) := hB2
        obtain ⟨B, hB⟩ : ∃ B, B = meantB x.p l[k].p s := ⟨_, rfl⟩
        rw [← hB] at HMe HNx HNy
        clear hB hmk
        have hgr : ∀ W : GrT wr, W.w.cell? ⟨r, 0, none⟩ = some (.slice (some ⟨gb, 0, none⟩) l.length cap) := fun W => (W.h.cell (p := ⟨r, 0, none⟩) (by show r < wr.heap.size; omega)).trans c0
        generalize l[k] = Y at *
        obtain ⟨a0, a1, a2, a3, a4, a5, a6, a7, a8, a9⟩ := be_gr0 HI.out.box (by omega)
        obtain ⟨d0, d1, d2, d3, d4, d5, d6, d7, d8, d9⟩ := be_gr hB2 (by omega)
        clear hB2
        go_wp2_with fail
        refine wp_region_grow (by kernel_rfl) (by kernel_rfl) ?_
        repeat (go_big_quiet_step (first | (go_at_call 23; exact quiet_gr (HMe.out _ (GrT.h _)))))
        refine wpQuiet_nil ?_
        rintro w7 hw'
        have g7 := gr_elim hw'
        have HG7 : Hid (Below wr.heap.size wr w7) := g7
        have z7 := g7.size
        have HI7 : Hid (∀ V, Below wr.heap.size wr V → RMI base w w1 r S room (some ⟨gb, 0, none⟩) cap l x s k V m) := (show ∀ V, _ from fun V g => ⟨HI.out.len, HI.out.done, HI.out.left, HI.out.rm.below g, HI.out.kept.trans (Kept.of_below (S := S) g) (fun b hb => .inl hb), Nat.le_trans HI.out.size g.size, HI.out.box.below (by omega) g⟩)
        have HX7 : Hid (Be w7 w.heap.size 0 x) := (HI7.out _ g7).box
        clear hw' g7 a0 a1 a2 a3 a4 a5 a6 a7 a8 a9 d0 d1 d2 d3 d4 d5 d6 d7 d8 d9 hgr HMe c0
        cases B with
        | false =>
          go_wp2_with fail
          go_roundw
          case rel => exact ⟨k + 1, m, by omega, by go_num, HNx.out _ (HI7.out _ HG7.out) rfl⟩
          case measure => simp [intOf]; omega
        | true =>
          have HY7 : Hid (∀ V, Below wr.heap.size wr V → Be V gb (k * 10) Y ∧ V.cell? ⟨r, 0, none⟩ = some (.slice (some ⟨gb, 0, none⟩) l.length cap) ∧ FW V Y ∧ FW V x ∧ V.there gb (k * 10) 10) := (show ∀ V, _ from fun V g => ⟨HB2.out.below (by omega) g, (HI7.out V g).rm.cl, HYw.out.1.below g, HXr.out.below g, OwnE.there hml.symm (show World.ownsRow _ _ _ _ _ _ _ by have := (HI7.out V g).rm.row; unfold OwnE at this; rwa [hml] at this) k (by omega)⟩)
          clear HNx HXr HYw HB2 HI
          go_wp2_with (first
            | (refine load_E rfl (.tmp 4) rfl w.heap.size 0 x rfl HX7.out ?_)
            | (refine store_E rfl (.tmp 9) (.tmp 34) rfl w7.heap.size 0 x rfl rfl (there_new w7 zeroE 40) ?_; intro V hV bV tV oV; clear hV; have HGV : Hid (Below wr.heap.size wr V) := oV.below (by omega) (btr HG7.out (show Below w7.heap.size w7 (w7.alloc (.cells zeroE 40)) by go_grown) (Nat.le_refl _)); obtain ⟨x1, e0, _⟩ := HY7.out V HGV.out; have e1 : V.cell? ⟨gb, k * 10 + 1, none⟩ = some (.int .i64 Y.p.pri) := x1 1 _ rfl; have f1 := there_frozen tV 1 (by omega); have q1 := bV.cs.2.1; obtain ⟨V1, h1⟩ : ∃ V1, V.setCell ⟨w7.heap.size, 1, none⟩ (.int .i64 Y.p.pri) = V1 := ⟨_, rfl⟩; have HG1V : Hid (Below wr.heap.size wr V1) := ((Only.refl w7.heap.size V).setCell 1 (.int .i64 Y.p.pri)).below (by omega) HGV.out |> (fun h => (show Below _ _ _ by rw [← h1]; exact h)); obtain ⟨x2, e0', _⟩ := HY7.out V1 HG1V.out; have e2 : V1.cell? ⟨gb, k * 10 + 2, none⟩ = some (.slice Y.ta Y.p.lt.length Y.tc) := x2 2 _ rfl; have t1 : V1.there w7.heap.size 0 10 := (by rw [← h1]; exact there_set tV _ _ rfl); have f2 := there_frozen t1 2 (by omega); have q2 : V1.cell? ⟨w7.heap.size, 2, none⟩ = some (.slice x.ta x.p.lt.length x.tc) := (by rw [← h1, World.cell?_setCell_other _ _ _ _ (by simp)]; exact bV.cs.2.2.1); obtain ⟨V2, h2⟩ : ∃ V2, V1.setCell ⟨w7.heap.size, 2, none⟩ (.slice Y.ta Y.p.lt.length Y.tc) = V2 := ⟨_, rfl⟩; have HG2V : Hid (Below wr.heap.size wr V2) := ((Only.refl w7.heap.size V1).setCell 2 (.slice Y.ta Y.p.lt.length Y.tc)).below (by omega) HG1V.out |> (fun h => (show Below _ _ _ by rw [← h2]; exact h)); have HBN : Hid (Be V2 w7.heap.size 0 (newE x Y)) := (show Be _ _ _ _ by rw [← h2, ← h1]; exact newE_be bV Y); have zV : V2.heap.size = w7.heap.size + 1 := (by rw [← h2, ← h1]; simp [World.setCell, oV.size]); clear x1 x2 tV t1 bV oV))
          have HGd : Hid (Below wr.heap.size wr V2.drew) := btr HG2V.out (show Below V2.heap.size V2 V2.drew by go_grown) (Nat.le_refl _)
          have HBd : Hid (Be V2.drew w7.heap.size 0 (newE x Y)) := HBN.out
          have HFd : Hid (V2.drew.cell? ⟨r, 0, none⟩ = some (.slice (some ⟨gb, 0, none⟩) l.length cap)) := (HY7.out _ HGd.out).2.1
          have HTd : Hid (V2.drew.there gb (k * 10) 10) := (HY7.out _ HGd.out).2.2.2.2
          have HSv : Hid (∀ V, V = V2.drew.setCells gb (k * 10) (feC (newE x Y)).toList → (Be V w7.heap.size 0 (newE x Y) ∧ V.cell? ⟨r, 0, none⟩ = some (.slice (some ⟨gb, 0, none⟩) l.length cap)) ∧ RMI base w w1 r S room (some ⟨gb, 0, none⟩) cap l x s (k + 1) V (m.set k (newE x Y))) := (show ∀ V, _ from fun V hV => by
            have hh := HY7.out _ HGd.out
            have hI := HNy.out V2.drew HGd.out.size (HI7.out _ HGd.out) hh.2.2.1 hh.2.2.2.1 trivial
            rw [← hV] at hI
            have o : Only gb V2.drew V := by rw [hV]; exact only_cells gb _ _ _ _ (Only.refl gb V2.drew)
            exact ⟨⟨range_block (w := V2.drew) HBd.out (o.block _ (by omega)), hI.rm.cl⟩, hI⟩)
          clear e0 e1 e2 e0' f1 f2 q1 q2 h1 h2 HNy HI7 HY7
          refine wp_region_held_drew (S := fun W => Be W w7.heap.size 0 (newE x Y) ∧ W.cell? ⟨r, 0, none⟩ = some (.slice (some ⟨gb, 0, none⟩) l.length cap)) (by kernel_rfl) ⟨HBd.out, HFd.out⟩ (fun hHeld => ?_)
          refine wpAnyH_take (i := 0) (oi := { dst := some 53, op := Op.move (Operand.tmp 0), type := 33, pos := _, after := #[], guard := none }) (v := ?_) rfl (by kernel_rfl) (by kernel_rfl) (by kernel_rfl) (fun _ _ _ h => h) (Or.inl ⟨by rfl, ?_⟩) (by assumption) ?_
          rotate_left 1
          focus (intro W hSw; (try dsimp only at hSw); (try obtain ⟨hSw1, hSw2⟩ := hSw); go_simp; (try with_reducible rfl))
          try simp only [Act.put, List.setIfInBounds_toArray, List.set_cons_zero, List.set_cons_succ]
          refine wpAnyH_take (i := 1) (oi := { dst := some 54, op := Op.nilCheck (Operand.tmp 53), type := 0, pos := _, after := #[{ on := 0, ground := Ground.data }], guard := none }) (v := ?_) rfl (by kernel_rfl) (by kernel_rfl) (by kernel_rfl) (fun _ _ _ h => h) (Or.inl ⟨by rfl, ?_⟩) (by assumption) ?_
          rotate_left 1
          focus (intro W hSw; (try dsimp only at hSw); (try obtain ⟨hSw1, hSw2⟩ := hSw); go_simp; (try with_reducible rfl))
          try simp only [Act.put, List.setIfInBounds_toArray, List.set_cons_zero, List.set_cons_succ]
          refine wpAnyH_take (i := 2) (oi := { dst := some 55, op := Op.fieldAddr 60 (Operand.tmp 54) 0, type := 0, pos := _, after := #[{ on := 1, ground := Ground.data }], guard := none }) (v := ?_) rfl (by kernel_rfl) (by kernel_rfl) (by kernel_rfl) (fun _ _ _ h => h) (Or.inl ⟨by rfl, ?_⟩) (by assumption) ?_
          rotate_left 1
          focus (intro W hSw; (try dsimp only at hSw); (try obtain ⟨hSw1, hSw2⟩ := hSw); go_simp; (try with_reducible rfl))
          try simp only [Act.put, List.setIfInBounds_toArray, List.set_cons_zero, List.set_cons_succ]
          refine wpAnyH_take (i := 3) (oi := { dst := some 56, op := Op.load 47 (Operand.tmp 55), type := 47, pos := _, after := #[{ on := 2, ground := Ground.data }], guard := none }) (v := ?_) rfl (by kernel_rfl) (by kernel_rfl) (by kernel_rfl) (fun _ _ _ h => h) (Or.inl ⟨by rfl, ?_⟩) (by assumption) ?_
          rotate_left 1
          focus (intro W hSw; (try dsimp only at hSw); (try obtain ⟨hSw1, hSw2⟩ := hSw); go_simp; (try with_reducible rfl))
          try simp only [Act.put, List.setIfInBounds_toArray, List.set_cons_zero, List.set_cons_succ]
          refine wpAnyH_take (i := 4) (oi := { dst := some 57, op := Op.move (Operand.tmp 8), type := 3, pos := _, after := #[], guard := none }) (v := ?_) rfl (by kernel_rfl) (by kernel_rfl) (by kernel_rfl) (fun _ _ _ h => h) (Or.inl ⟨by rfl, ?_⟩) (by assumption) ?_
          rotate_left 1
          focus (intro W hSw; (try dsimp only at hSw); (try obtain ⟨hSw1, hSw2⟩ := hSw); go_simp; (try with_reducible rfl))
          try simp only [Act.put, List.setIfInBounds_toArray, List.set_cons_zero, List.set_cons_succ]
          refine wpAnyH_take (i := 5) (oi := { dst := some 58, op := Op.load 40 (Operand.tmp 9), type := 40, pos := _, after := #[], guard := none }) (v := feV (newE x Y)) rfl (by kernel_rfl) (by kernel_rfl) (by kernel_rfl) (fun _ _ _ h => h) (yieldsIf_load_mid (by rfl) 40 (.tmp 9) rfl w7.heap.size 0 rfl (feC (newE x Y)).toList _ (fun W hW => hW.1) Tryz.underlying40 rfl (infoE (newE x Y))) (by assumption) ?_
          try simp only [Act.put, List.setIfInBounds_toArray, List.set_cons_zero, List.set_cons_succ]
          refine wpAnyH_take (i := 6) (oi := { dst := some 59, op := Op.indexAddr 47 (Operand.tmp 56) (Operand.tmp 57), type := 0, pos := _, after := #[{ on := 3, ground := Ground.data }, { on := 4, ground := Ground.data }, { on := 0, ground := Ground.phase }, { on := 1, ground := Ground.phase }, { on := 2, ground := Ground.phase }, { on := 3, ground := Ground.phase }, { on := 4, ground := Ground.phase }, { on := 5, ground := Ground.phase }], guard := none }) (v := ?_) rfl (by kernel_rfl) (by kernel_rfl) (by kernel_rfl) (fun _ _ _ h => h) (Or.inl ⟨by rfl, ?_⟩) (by assumption) ?_
          rotate_left 1
          focus (intro W hSw; (try dsimp only at hSw); (try obtain ⟨hSw1, hSw2⟩ := hSw); go_simp; (try with_reducible rfl))
          try simp only [Act.put, List.setIfInBounds_toArray, List.set_cons_zero, List.set_cons_succ]
          refine wpAnyH_ready (rs := [7]) (by kernel_rfl) (by simp) ?_
          refine AllReadyH.cons rfl (fun K hK => ?_) AllReadyH.nil
          refine step_store_E rfl (.tmp 59) (.tmp 58) rfl gb (k * 10) (newE x Y) (by simp [Act.eval]) rfl HTd.out ?_
          intro V hV
          refine hK.out _ _ (HSv.out V hV).1 (fun hHeld => ?_)
          have HVr : Hid (RMI base w w1 r S room (some ⟨gb, 0, none⟩) cap l x s (k + 1) V (m.set k (newE x Y))) := (HSv.out V hV).2
          clear hHeld hK HSv hV HTd HBd HFd HGd
          refine wpAnyH_done (by kernel_rfl) ?_ _
          simp only [Act.put]
          go_wp2_with fail
          go_roundw
          case rel => exact ⟨k + 1, m.set k (newE x Y), by omega, by go_num, HVr⟩
          case measure => simp [intOf]; omega
      · have hk' : k = l.length := by omega
        subst hk'
        have HL2 : Hid (m.map Fe.p = rmodL L x.p s) := (show _ = _ by
          rw [HDe.out, ← HLe.out, List.map_map]
          refine List.ext_getElem (by simp [hml]) fun j h1 h2 => ?_
          simp only [List.length_map] at h1 h2
          simp only [List.getElem_map, Function.comp]
          exact HI.out.done j h1 h2 h2)
        go_wp2_with fail
        go_ret
        exact ⟨rfl, S, ⟨_, m, HI.out.rm, HL2.out⟩, HI.out.kept, fun b hb => .inl hb⟩
  · have hn2 : (wrongE x.p != 0) = true := by simp [hw0]
    have HDe : Hid (rmodL L x.p s = L) := (show _ = _ by unfold rmodL; rw [if_neg hw0])
    have HRs : Hid (Rs base w r S room L) := h
    clear h hx hv hw0
    generalize wrongE x.p = E at *
    go_enter Tryz.func9, Tryz.ntmps9
    go_wp2_with (refine load_E rfl (.tmp 4) rfl w.heap.size 0 x rfl HX.out ?_)
    refine HWr.out.mono ?_
    rintro e w1 ⟨rfl, g1⟩
    have HG1 : Hid (Below w.heap.size w w1) := btr g0 g1 (Nat.le_refl _)
    clear g1
    go_wp2_with fail
    go_ret
    exact ⟨rfl, S, by rw [HDe.out]; exact HRs.out.below HG1.out, Kept.of_below HG1.out, fun b hb => .inl hb⟩
end Go.Proofs.YtjjfhibkcngphaaGreatDoor
/-
  What the document's Look answers, as a contract.
-/
namespace Go.Proofs.YtjjfhibkcngphaaGreatDoor
open Go.ChangeShapes Go.WideShapes Go.ChangeAt Go.RowKit
set_option linter.unusedVariables false
set_option linter.unusedSimpArgs false

set_option maxRecDepth 20000 in
set_option maxHeartbeats 8000000 in
theorem rlook_any (base : Nat) (r : Nat) (S : Nat → Prop) (room : Int) (L : List Fp) (t : Int) (s : Mt.Sn) (hs : Mt.Wf s) (w : World) (h : Rs base w r S room L) (hl : L.length ≤ 1000) :
    Calls Tryz.prog 16 #[.pointer (some ⟨r, 0, none⟩), .int .i64 t, Mt.snV s] w fun e w' => ∃ y : Fe, e = .returned (.tuple #[feV y, .bool (lookP (L.filter (inT t)) s).isSome]) ∧ y.p = (lookP (L.filter (inT t)) s).getD fp0 ∧ FW w' y ∧ Below w.heap.size w w' := by
  obtain ⟨W2, hW2⟩ : ∃ W2, (Mt.rx w s).alloc (.cells zeroE 40) = W2 := ⟨_, rfl⟩
  have z2 : W2.heap.size = w.heap.size + 2 := by rw [← hW2]; simp
  have g2 : Below w.heap.size w W2 := by rw [← hW2]; go_grown
  have HG2 : Hid (Below w.heap.size w W2) := g2
  have HS2 : Hid (W2.rangeAt w.heap.size 0 (Mt.snC s).toList) := (show World.rangeAt _ _ _ _ by
    rw [← hW2]
    have h1 := range_new w (Mt.snC s) 52
    exact range_block h1 (heap_alloc_old _ _ (by simp)))
  have HY2 : Hid (W2.there (w.heap.size + 1) 0 10) := (show World.there _ _ _ _ by rw [← hW2]; have := there_new (Mt.rx w s) zeroE 40; simpa using this)
  have HLs : Hid (Calls Tryz.prog 14 #[.pointer (some ⟨r, 0, none⟩), .int .i64 t] W2 fun e w' => ∃ v' l', e = .returned v' ∧ OwnE W2.heap.size w' v' l' ∧ (∀ x ∈ l', FW w x) ∧ l'.map Fe.p = L.filter (inT t) ∧ Below W2.heap.size W2 w') := (show Calls _ _ _ _ _ from by
    obtain ⟨v, l, h, rfl⟩ := h
    refine (rlist_of base r S room v l t W2 (h.below g2) (by simpa using hl)).mono fun e w' ⟨v', a, b, c⟩ => ⟨v', _, a, b, fun x hx => (h.en x (List.mem_filter.1 hx).1).1, ?_, c⟩
    rw [List.filter_map]
    rfl)
  have HT : Hid (∀ (x : Fe) w1, FW w1 x → Calls Tryz.prog 29 #[.slice x.ta x.p.lt.length x.tc, Mt.snV s] w1 fun e w' => e = .returned (.bool (Mt.takesB x.p.lt s)) ∧ Below w1.heap.size w1 w') := (show ∀ x w1, _ from fun x w1 h => Mt.rtakes_any _ _ _ s w1 h.t (by have := h.nt; omega) hs)
  have hfl : (L.filter (inT t)).length ≤ 1000 := Nat.le_trans (List.length_filter_le _ _) hl
  clear h hs g2 hl
  generalize L.filter (inT t) = M at *
  go_enter Tryz.func16, Tryz.ntmps16
  go_wp2_with fail
  refine HLs.out.mono ?_
  rintro e w3 ⟨v', l, rfl, hO, hW, hM, g3⟩
  obtain ⟨a, cap, hv', hform⟩ := OwnE.form2 hO
  subst hv'
  have HO : Hid (OwnE W2.heap.size w3 (.slice a l.length cap) l) := hO
  have HW : Hid (∀ x ∈ l, FW w x) := hW
  have HMp : Hid (l.map Fe.p = M) := hM
  have HF : Hid (a = none ∧ l = [] ∧ cap = 0 ∨ ∃ g, a = some ⟨g, 0, none⟩ ∧ W2.heap.size ≤ g ∧ g < w3.heap.size ∧ l.length ≤ cap ∧ cap ≤ maxLen) := hform
  have hll : l.length ≤ 1000 := by rw [← hM, List.length_map] at hfl; exact hfl
  have HG3 : Hid (Below W2.heap.size W2 w3) := g3
  have z3 := g3.size
  clear hO hW hM hform g3 HLs hfl hW2
  go_wp2_with fail
  go_loopw [9] (fun i wr => ∃ (k : Nat), k ≤ l.length ∧ i = .int .i64 k ∧ Hid (∀ j (hj : j < l.length), j < k → Mt.takesB l[j].p.lt s = false) ∧ Hid (Below w3.heap.size w3 wr)) (fun i _ => l.length - (intOf i).toNat)
  case atStart => exact ⟨0, Nat.zero_le _, rfl, (show ∀ j, _ from fun j _ hj => absurd hj (Nat.not_lt_zero _)), Below.refl _ _⟩
  case round =>
    obtain ⟨k, hk, rfl, HN, HL⟩ := hrel
    have zr := HL.out.size
    have HGr : Hid (Below W2.heap.size W2 wr) := btr HG3.out HL.out (Nat.le_refl _)
    by_cases hlt : k < l.length
    · obtain ⟨gb, rfl, _, hgb, hnc, _⟩ : ∃ g, a = some ⟨g, 0, none⟩ ∧ W2.heap.size ≤ g ∧ g < w3.heap.size ∧ l.length ≤ cap ∧ cap ≤ maxLen := by
        rcases HF.out with ⟨_, h, _⟩ | h
        · subst h; cases hlt
        · exact h
      have hB : Be wr gb (k * 10) l[k] := (OwnE.be rfl HO.out k hlt).below hgb HL.out
      have HB : Hid (Be wr gb (k * 10) l[k]) := hB
      have HF0 : Hid (FW w l[k]) := HW.out _ (List.getElem_mem _)
      have HFy : Hid (FW wr l[k]) := HF0.out.below (HG2.out.trans (HGr.out.mono (by omega)))
      have HTk : Hid (∀ w1, Below wr.heap.size wr w1 → Calls Tryz.prog 29 #[.slice l[k].ta l[k].p.lt.length l[k].tc, Mt.snV s] w1 fun e w' => e = .returned (.bool (Mt.takesB l[k].p.lt s)) ∧ Below w1.heap.size w1 w') := (show ∀ w1, _ from fun w1 g => HT.out l[k] w1 (HFy.out.below g))
      have HR1 : Hid (Mt.takesB l[k].p.lt s = true → lookP M s = some l[k].p) := (show _ → _ from fun hq => by rw [← HMp.out]; exact lookP_at hlt HN.out hq)
      have HN2 : Hid (Mt.takesB l[k].p.lt s = false → ∀ j (hj : j < l.length), j < k + 1 → Mt.takesB l[j].p.lt s = false) := (show _ → ∀ j, _ from fun hq j hj h => by
        by_cases e : j = k
        · subst e; exact hq
        · exact HN.out j hj (by omega))
      clear HN
      obtain ⟨B, hBB⟩ : ∃ B, B = Mt.takesB l[k].p.lt s := ⟨_, rfl⟩
      rw [← hBB] at HTk HR1 HN2
      clear hBB
      generalize l[k] = Y at *
      obtain ⟨d0, d1, d2, d3, d4, d5, d6, d7, d8, d9⟩ := be_gr hB (by omega)
      have hSr : wr.rangeAt w.heap.size 0 (Mt.snC s).toList := range_block HS2.out (HGr.out.block _ (by omega))
      obtain ⟨s0, s1, s2, s3, s4, s5, s6, s7, s8, s9, s10, s11, s12⟩ := sn_gr hSr (by omega)
      clear hB hSr
      go_wp2_with fail
      refine wp_region_grow (by kernel_rfl) (by kernel_rfl) ?_
      repeat (go_big_quiet_step (first | (go_at_call 29; exact quiet_gr (HTk.out _ (GrT.h _)))))
      refine wpQuiet_nil ?_
      rintro w7 hw'
      have g7 := gr_elim hw'
      have HG7 : Hid (Below w3.heap.size w3 w7) := btr HL.out g7 (Nat.le_refl _)
      have HB7 : Hid (Be w7 gb (k * 10) Y) := HB.out.below (by omega) g7
      have HF7 : Hid (FW w7 Y) := HFy.out.below g7
      have z7 := g7.size
      clear hw' g7 d0 d1 d2 d3 d4 d5 d6 d7 d8 d9 s0 s1 s2 s3 s4 s5 s6 s7 s8 s9 s10 s11 s12 HTk
      cases B with
      | false =>
        go_wp2_with fail
        go_roundw
        case rel => exact ⟨k + 1, by omega, by go_num, HN2.out rfl, HG7⟩
        case measure => simp [intOf]; omega
      | true =>
        have HR : Hid (lookP M s = some Y.p) := HR1.out rfl
        have HGw : Hid (Below W2.heap.size W2 w7) := btr HG3.out HG7.out (Nat.le_refl _)
        go_wp2_with (first
          | (refine load_E rfl (.tmp 28) rfl gb (k * 10) Y (by simp [Act.eval, Act.put]) HB7.out ?_)
          | (refine store_E rfl (.tmp 6) (.tmp 29) rfl (w.heap.size + 1) 0 Y rfl rfl (there_below HY2.out (by omega) HGw.out) ?_; intro U hU bU tU oU; clear hU))
        refine bodyPost_ret (resFb (b := w.heap.size + 1) (x := Y) rfl rfl bU) rfl ?_
        have hg := oU.below (B := w.heap.size) (by omega) (HG2.out.trans (HGw.out.mono (by omega)))
        exact ⟨Y, by rw [HR.out]; rfl, by rw [HR.out]; rfl, HF0.out.below hg, hg⟩
    · have hk' : k = l.length := by omega
      subst hk'
      have HR : Hid (lookP M s = none) := (show _ = _ by rw [← HMp.out]; exact lookP_none (fun j hj => HN.out j hj hj))
      go_wp2_with (refine store_E rfl (.tmp 6) (.tmp 30) rfl (w.heap.size + 1) 0 fe0 rfl rfl (there_below HY2.out (by omega) HGr.out) ?_; intro U hU bU tU oU; clear hU)
      refine bodyPost_ret (resFb (b := w.heap.size + 1) (x := fe0) rfl rfl bU) rfl ?_
      refine ⟨fe0, by rw [HR.out]; rfl, by rw [HR.out]; rfl, fe0_w _, oU.below (by omega) (HG2.out.trans (HGr.out.mono (by omega)))⟩
end Go.Proofs.YtjjfhibkcngphaaGreatDoor
/-
  The tables and the document's one row, side by side.
-/
namespace Go.Proofs.YtjjfhibkcngphaaGreatDoor
set_option linter.unusedVariables false
set_option linter.unusedSimpArgs false

def Fp.k3 (x : Fp) : Int × Int × List Mt.T := (x.tab, x.k)
structure J (P : Nat → List Fp) (L : List Fp) : Prop where
  p : ∀ t : Nat, t < 8 → P t = L.filter (inT (t : Int))
  r : ∀ y ∈ L, 0 ≤ y.tab ∧ y.tab < 8
  dn : L.Pairwise (fun a b => b.pri ≤ a.pri)
  nd : L.Pairwise (fun a b => a.k3 ≠ b.k3)
theorem J.nil : J (fun _ => []) [] := ⟨fun _ _ => rfl, by simp, List.Pairwise.nil, List.Pairwise.nil⟩
theorem J.tab {P : Nat → List Fp} {L : List Fp} (h : J P L) (t : Int) : tabOf P t = L.filter (inT t) := by
  unfold tabOf
  split
  · rename_i ht
    rw [h.p t.toNat (by omega), show ((t.toNat : Nat) : Int) = t by omega]
  · rename_i ht
    symm
    rw [List.filter_eq_nil_iff]
    intro y hy e
    have := h.r y hy
    unfold inT at e
    have : y.tab = t := by simpa using e
    omega
theorem upd_filter {P : Nat → List Fp} {L L' : List Fp} {T : Nat} {l : List Fp} (h : ∀ t : Nat, t < 8 → P t = L.filter (inT (t : Int))) (h1 : T < 8 → l = L'.filter (inT (T : Int))) (h2 : ∀ t : Nat, t ≠ T → t < 8 → L'.filter (inT (t : Int)) = L.filter (inT (t : Int))) :
    ∀ t : Nat, t < 8 → upd P T l t = L'.filter (inT (t : Int)) := fun t ht => by
  by_cases e : t = T
  · subst e; rw [upd_same]; exact h1 ht
  · rw [upd_other _ _ _ e, h t ht, h2 t e ht]
theorem filter_map_tab {L : List Fp} (f : Fp → Fp) (hf : ∀ y ∈ L, (f y).tab = y.tab) (t : Int) : (L.map f).filter (inT t) = (L.filter (inT t)).map f := by
  rw [List.filter_map]
  congr 1
  refine List.filter_congr fun y hy => ?_
  simp only [Function.comp, inT, hf y hy]
theorem meant_tab {x y : Fp} {s : Bool} (h : meantB x y s = true) : x.tab = y.tab := by
  unfold meantB alikeB at h
  split at h <;> simp_all
theorem meant_eq {x y : Fp} {s : Bool} (h : x.tab = y.tab) : meantB x y s = meansB x y s := by
  unfold meantB meansB alikeB
  rw [h]
  simp
theorem rchg_tab (x y : Fp) (s : Bool) : (rchg x y s).tab = y.tab := by
  unfold rchg
  split
  · rename_i h; show x.tab = y.tab; exact meant_tab h
  · rfl
theorem rchg_k3 (x y : Fp) (s : Bool) : (rchg x y s).k3 = y.k3 := by
  have h := rchg_tab x y s
  unfold Fp.k3
  rw [h]
  unfold rchg
  split <;> rfl
theorem rchg_pri (x y : Fp) (s : Bool) : (rchg x y s).pri = y.pri := by unfold rchg; split <;> rfl
theorem in_tab {y : Fp} {t : Int} (h : inT t y = true) : y.tab = t := by unfold inT at h; simpa using h
theorem J.mod {P : Nat → List Fp} {L : List Fp} (h : J P L) (x : Fp) (s : Bool) : J (modP P x s) (rmodL L x s) := by
  unfold modP rmodL
  split
  · rename_i hw
    obtain ⟨h0, h8⟩ := wrong_tab hw
    have hx : ((x.tab.toNat : Nat) : Int) = x.tab := by omega
    refine ⟨upd_filter h.p (fun hT => ?_) (fun t ht ht8 => ?_), ?_, ?_, ?_⟩
    · rw [filter_map_tab _ (fun y _ => rchg_tab x y s), h.p _ hT]
      unfold modL
      refine List.map_congr_left fun y hy => ?_
      have ht := in_tab (List.mem_filter.1 hy).2
      unfold chgE rchg
      rw [meant_eq (by omega)]
    · rw [filter_map_tab _ (fun y _ => rchg_tab x y s)]
      conv => rhs; rw [← List.map_id (L.filter (inT (t : Int)))]
      refine List.map_congr_left fun y hy => ?_
      have hty := in_tab (List.mem_filter.1 hy).2
      unfold rchg
      rw [if_neg (fun hm => by have := meant_tab hm; omega)]
      rfl
    · intro y hy
      obtain ⟨z, hz, rfl⟩ := List.mem_map.1 hy
      rw [rchg_tab]; exact h.r z hz
    · rw [List.pairwise_map]
      exact h.dn.imp (fun hab => by rw [rchg_pri, rchg_pri]; exact hab)
    · rw [List.pairwise_map]
      exact h.nd.imp (fun hab => by rw [rchg_k3, rchg_k3]; exact hab)
  · exact h
theorem J.del {P : Nat → List Fp} {L : List Fp} (h : J P L) (x : Fp) (s : Bool) : J (delP P x s) (rdelL L x s) := by
  unfold delP rdelL
  split
  · rename_i hw
    obtain ⟨h0, h8⟩ := wrong_tab hw
    refine ⟨upd_filter h.p (fun hT => ?_) (fun t ht ht8 => ?_), fun y hy => h.r y (List.mem_filter.1 hy).1, h.dn.sublist List.filter_sublist, h.nd.sublist List.filter_sublist⟩
    · rw [h.p _ hT]
      unfold delL
      rw [List.filter_filter, List.filter_filter]
      refine List.filter_congr fun y hy => ?_
      by_cases e : inT (x.tab.toNat : Int) y = true
      · have := in_tab e
        rw [e, meant_eq (by omega)]
        simp
      · have e' : inT (x.tab.toNat : Int) y = false := by simpa using e
        rw [e']
        simp
    · rw [List.filter_filter]
      refine List.filter_congr fun y hy => ?_
      by_cases e : inT (t : Int) y = true
      · have := in_tab e
        have hm : meantB x y s = false := by
          cases hm : meantB x y s with
          | false => rfl
          | true => have := meant_tab hm; omega
        rw [e, hm]; rfl
      · have e' : inT (t : Int) y = false := by simpa using e
        rw [e']
        simp
  · exact h
theorem set_map {l : List Fp} {i : Nat} (hi : i < l.length) (x : Fp) (p : Fp → Bool) (h : p l[i] = true) (hu : ∀ j (hj : j < l.length), j ≠ i → p l[j] = false) : l.set i x = l.map (fun y => if p y = true then x else y) := by
  refine List.ext_getElem (by simp) fun j h1 h2 => ?_
  rw [List.getElem_map]
  by_cases e : j = i
  · subst e; rw [List.getElem_set_self, if_pos h]
  · rw [List.getElem_set_ne (Ne.symm e), if_neg (by rw [hu j (by simpa using h1) e]; decide)]
theorem insL_cons (y : Fp) (L : List Fp) (x : Fp) : insL (y :: L) x = if y.pri < x.pri then x :: y :: L else y :: insL L x := by
  unfold insL
  rw [show endV x.pri (y :: L) = if y.pri < x.pri then 0 else endV x.pri L + 1 from rfl]
  split <;> simp
theorem insL_first {x : Fp} : ∀ {L : List Fp}, (∀ y ∈ L, y.pri < x.pri) → insL L x = x :: L
  | [], _ => rfl
  | y :: L, h => by rw [insL_cons, if_pos (h y (by simp))]
theorem ins_filter (x : Fp) (t : Int) (ht : x.tab = t) : ∀ (L : List Fp), L.Pairwise (fun a b => b.pri ≤ a.pri) → (insL L x).filter (inT t) = insL (L.filter (inT t)) x
  | [], _ => by simp [insL, endV, inT, ht]
  | y :: L, hs => by
    have hxt : inT t x = true := by simp [inT, ht]
    rw [List.pairwise_cons] at hs
    rw [insL_cons]
    split
    · rename_i hp
      rw [List.filter_cons_of_pos hxt, insL_first]
      intro z hz
      rcases List.mem_cons.1 (List.mem_filter.1 hz).1 with h | h
      · rw [h]; exact hp
      · have := hs.1 z h; omega
    · rename_i hp
      by_cases hy : inT t y = true
      · rw [List.filter_cons_of_pos hy, List.filter_cons_of_pos hy, insL_cons, if_neg hp, ins_filter x t ht L hs.2]
      · rw [List.filter_cons_of_neg hy, List.filter_cons_of_neg hy, ins_filter x t ht L hs.2]
theorem ins_other (x : Fp) (t : Int) (ht : x.tab ≠ t) (L : List Fp) : (insL L x).filter (inT t) = L.filter (inT t) := by
  unfold insL
  rw [List.filter_append, List.filter_cons_of_neg (by simp [inT, ht]), ← List.filter_append, List.take_append_drop]
theorem alike_k3 {x y : Fp} : alikeB x y = true ↔ x.k3 = y.k3 := by
  unfold alikeB Fp.k3
  rw [Bool.and_eq_true, twin_iff, beq_iff_eq]
  exact ⟨fun h => by rw [h.1, h.2], fun h => ⟨congrArg Prod.fst h, congrArg Prod.snd h⟩⟩
theorem any_clash {L : List Fp} (x : Fp) : (L.filter (inT x.tab)).any (clashB x) = L.any (rclashB x) := by
  rw [List.any_filter]
  congr 1
  funext y
  unfold inT clashB rclashB
  rw [meets_sym x.lt y.lt, show (x.pri == y.pri) = (y.pri == x.pri) from Bool.beq_comm, Bool.and_assoc]
theorem J.add {P : Nat → List Fp} {L L' : List Fp} {room : Int} {x : Fp} {chk : Bool} {E : Int} (h : J P L) (ha : AddRel room L x chk E L') : E = addR room P x chk ∧ J (addT room P x chk) L' := by
  unfold addR addT
  rcases ha with ⟨hw, rfl, rfl⟩ | ⟨hw, hc, rfl, rfl⟩ | ⟨hw, hc, ha⟩
  · rw [if_neg hw, if_neg hw]; exact ⟨rfl, h⟩
  · obtain ⟨h0, h8⟩ := wrong_tab hw
    have hx : ((x.tab.toNat : Nat) : Int) = x.tab := by omega
    have hE : addE room (P x.tab.toNat) x chk = 28 := by
      unfold addE
      rw [h.p _ (by omega), hx, any_clash, hc, if_pos rfl]
    rw [if_pos hw, if_pos hw, hE]
    refine ⟨rfl, ⟨upd_filter h.p (fun hT => ?_) (fun t ht ht8 => rfl), h.r, h.dn, h.nd⟩⟩
    unfold addL
    rw [hE, if_neg (by decide)]
    exact h.p _ hT
  · obtain ⟨h0, h8⟩ := wrong_tab hw
    have hx : ((x.tab.toNat : Nat) : Int) = x.tab := by omega
    have hc2 : (chk && (P x.tab.toNat).any (clashB x)) = false := by rw [h.p _ (by omega), hx, any_clash]; exact hc
    rw [if_pos hw, if_pos hw]
    rcases ha with ⟨i, hi, hal, rfl, rfl⟩ | ⟨hno, ha⟩
    · have hk := alike_k3.1 hal
      have htab : x.tab = L[i].tab := congrArg Prod.fst hk
      have htw : (P x.tab.toNat).any (twinB x) = true := by
        rw [List.any_eq_true, h.p _ (by omega), hx]
        exact ⟨L[i], List.mem_filter.2 ⟨List.getElem_mem _, by simp [inT, htab]⟩, twin_iff.2 (congrArg Prod.snd hk)⟩
      have hE : addE room (P x.tab.toNat) x chk = 0 := by
        unfold addE
        rw [if_neg (by rw [hc2]; decide), if_pos htw]
      have hu : ∀ j (hj : j < L.length), j ≠ i → alikeB x L[j] = false := fun j hj hne => by
        cases hq : alikeB x L[j] with
        | false => rfl
        | true =>
          have hk2 := alike_k3.1 hq
          rcases Nat.lt_or_gt_of_ne hne with hlt | hlt
          · exact absurd (hk2.symm.trans hk) (List.pairwise_iff_getElem.1 h.nd j i hj hi hlt)
          · exact absurd (hk.symm.trans hk2) (List.pairwise_iff_getElem.1 h.nd i j hi hj hlt)
      have hset : L.set i x = L.map (fun y => if alikeB x y = true then x else y) := set_map hi x _ hal hu
      have hft : ∀ y ∈ L, (if alikeB x y = true then x else y).tab = y.tab := fun y _ => by
        split
        · rename_i hq; exact congrArg Prod.fst (alike_k3.1 hq)
        · rfl
      rw [hE]
      refine ⟨rfl, ⟨upd_filter h.p (fun hT => ?_) (fun t ht ht8 => ?_), fun y hy => ?_, ?_, ?_⟩⟩
      · unfold addL
        rw [hE, if_pos rfl, hset, filter_map_tab _ hft, h.p _ hT, hx]
        obtain ⟨l, hl⟩ : ∃ l, l = L.filter (inT x.tab) := ⟨_, rfl⟩
        rw [← hl]
        have hlt : ∀ y ∈ l, y.tab = x.tab := fun y hy => by rw [hl] at hy; exact in_tab (List.mem_filter.1 hy).2
        have hnd : l.Pairwise (fun a b => a.k3 ≠ b.k3) := by rw [hl]; exact h.nd.sublist List.filter_sublist
        rcases put_ways l x with ⟨i', hi', e, hp⟩ | ⟨hn, hp⟩
        · have h3 : l[i'].k3 = x.k3 := by unfold Fp.k3; rw [e, hlt _ (List.getElem_mem _)]
          rw [hp]
          refine set_map hi' x _ (alike_k3.2 h3.symm) fun j hj hne => ?_
          cases hq : alikeB x l[j] with
          | false => rfl
          | true =>
            have hk2 := alike_k3.1 hq
            rcases Nat.lt_or_gt_of_ne hne with hlt' | hlt'
            · exact absurd (hk2.symm.trans h3.symm) (List.pairwise_iff_getElem.1 hnd j i' hj hi' hlt')
            · exact absurd (h3.trans hk2) (List.pairwise_iff_getElem.1 hnd i' j hi' hj hlt')
        · exact absurd (congrArg Prod.snd hk).symm (hn L[i] (by rw [hl]; exact List.mem_filter.2 ⟨List.getElem_mem _, by simp [inT, htab]⟩))
      · rw [hset, filter_map_tab _ hft]
        conv => rhs; rw [← List.map_id (L.filter (inT (t : Int)))]
        refine List.map_congr_left fun y hy => ?_
        have hty := in_tab (List.mem_filter.1 hy).2
        rw [if_neg (fun hq => by have : x.tab = y.tab := congrArg Prod.fst (alike_k3.1 hq); omega)]
        rfl
      · rcases List.mem_or_eq_of_mem_set hy with h1 | h1
        · exact h.r y h1
        · rw [h1]; exact ⟨h0, h8⟩
      · rw [hset, List.pairwise_map]
        have hp : ∀ y : Fp, (if alikeB x y = true then x else y).pri = y.pri := fun y => by
          split
          · rename_i hq; exact congrArg (fun z => z.2.1) (alike_k3.1 hq)
          · rfl
        exact h.dn.imp (fun hab => by rw [hp, hp]; exact hab)
      · rw [hset, List.pairwise_map]
        have hp : ∀ y : Fp, (if alikeB x y = true then x else y).k3 = y.k3 := fun y => by
          split
          · rename_i hq; exact alike_k3.1 hq
          · rfl
        exact h.nd.imp (fun hab => by rw [hp, hp]; exact hab)
    · have htw : (P x.tab.toNat).any (twinB x) = false := by
        rw [Bool.eq_false_iff, h.p _ (by omega), hx]
        intro ht
        obtain ⟨y, hy, hq⟩ := List.any_eq_true.1 ht
        have hty := in_tab (List.mem_filter.1 hy).2
        have := hno y (List.mem_filter.1 hy).1
        unfold alikeB at this
        rw [hq, hty] at this
        simp at this
      have hlen : (L.filter (inT x.tab)).length = (P x.tab.toNat).length := by rw [h.p _ (by omega), hx]
      rcases ha with ⟨hf, rfl, rfl⟩ | ⟨hf, rfl, rfl⟩
      · have hE : addE room (P x.tab.toNat) x chk = 27 := by
          unfold addE
          rw [if_neg (by rw [hc2]; decide), if_neg (by rw [htw]; decide), if_pos (by rw [← hlen]; exact hf)]
        rw [hE]
        refine ⟨rfl, ⟨upd_filter h.p (fun hT => ?_) (fun t ht ht8 => rfl), h.r, h.dn, h.nd⟩⟩
        unfold addL
        rw [hE, if_neg (by decide)]
        exact h.p _ hT
      · have hE : addE room (P x.tab.toNat) x chk = 0 := by
          unfold addE
          rw [if_neg (by rw [hc2]; decide), if_neg (by rw [htw]; decide), if_neg (by rw [← hlen]; exact hf)]
        have hdk : (L.map Fp.k).Pairwise (fun a b => b.1 ≤ a.1) := by rw [List.pairwise_map]; exact h.dn
        rw [hE]
        refine ⟨rfl, ⟨upd_filter h.p (fun hT => ?_) (fun t ht ht8 => ?_), fun y hy => ?_, ?_, ?_⟩⟩
        · unfold addL
          rw [hE, if_pos rfl, h.p _ hT, hx, ins_filter x x.tab rfl L h.dn]
          rcases put_ways (L.filter (inT x.tab)) x with ⟨i', hi', e, hp⟩ | ⟨hn, hp⟩
          · exfalso
            have hm := List.getElem_mem hi'
            have hty := in_tab (List.mem_filter.1 hm).2
            have := hno _ (List.mem_filter.1 hm).1
            rw [Bool.eq_false_iff] at this
            exact this (alike_k3.2 (by unfold Fp.k3; rw [e, hty]))
          · exact hp
        · exact ins_other x t (by omega) L
        · unfold insL at hy
          simp only [List.mem_append, List.mem_cons] at hy
          rcases hy with h1 | rfl | h1
          · exact h.r y (List.mem_of_mem_take h1)
          · exact ⟨h0, h8⟩
          · exact h.r y (List.mem_of_mem_drop h1)
        · exact ins_pairwise h.dn (fun a ha => end_before x.pri L a ha) (fun b hb => by have := end_after x.pri L hdk b hb; omega)
        · refine ins_pairwise h.nd (fun a ha e => ?_) (fun b hb e => ?_)
          · have := hno a (List.mem_of_mem_take ha)
            rw [Bool.eq_false_iff] at this
            exact this (alike_k3.2 e.symm)
          · have := hno b (List.mem_of_mem_drop hb)
            rw [Bool.eq_false_iff] at this
            exact this (alike_k3.2 e)
end Go.Proofs.YtjjfhibkcngphaaGreatDoor
/-
  Both tables side by side in memory, and a call of the document's.
-/
namespace Go.Proofs.YtjjfhibkcngphaaGreatDoor
open Go.ChangeShapes Go.WideShapes Go.ChangeAt Go.RowKit
set_option linter.unusedVariables false
set_option linter.unusedSimpArgs false

structure PI (w : World) (f r : Nat) (S T : Nat → Prop) (room : Int) (wr : World) (P : Nat → List Fp) (L : List Fp) : Prop where
  li : LI w wr f S room P
  rs : Rs w.heap.size wr r T room L
  dj : ∀ b, S b → ¬ T b
theorem PI.below {w : World} {f r : Nat} {S T : Nat → Prop} {room : Int} {wr w' : World} {P : Nat → List Fp} {L : List Fp} (h : PI w f r S T room wr P L) (g : Below wr.heap.size wr w') : PI w f r S T room w' P L := ⟨h.li.below g, h.rs.below g, h.dj⟩
theorem PI.ref {w : World} {f r : Nat} {S T T' : Nat → Prop} {room : Int} {wr w' : World} {P : Nat → List Fp} {L L' : List Fp} (h : PI w f r S T room wr P L) (hk : Kept T wr w') (hr : Rs w.heap.size w' r T' room L') (hT : ∀ b, T' b → T b ∨ wr.heap.size ≤ b) : PI w f r S T' room w' P L' := by
  refine ⟨⟨h.li.fs.kept hk (fun b hb => h.dj b hb), h.li.sb, ?_⟩, hr, fun b hb hb' => ?_⟩
  · have := hk.below (B := w.heap.size) h.li.bl.size h.rs.lo
    exact h.li.bl.trans this
  · rcases hT b hb' with h1 | h1
    · exact h.dj b hb h1
    · have := h.li.fs.lt b hb; omega
theorem PI.tab {w : World} {f r : Nat} {S S' T : Nat → Prop} {room : Int} {wr w' : World} {P P' : Nat → List Fp} {L : List Fp} (h : PI w f r S T room wr P L) (hk : Kept S wr w') (hf : Fs w' f S' room P') (hS : ∀ b, S' b → S b ∨ wr.heap.size ≤ b) : PI w f r S' T room w' P' L := by
  refine ⟨h.li.kept hk hf hS, h.rs.kept hk (fun b hb hs => h.dj b hs hb) h.li.sb, fun b hb hb' => ?_⟩
  rcases hS b hb with h1 | h1
  · exact h.dj b h1 hb'
  · have := h.rs.lt b hb'; omega
theorem add_len {room : Int} {L L' : List Fp} {x : Fp} {chk : Bool} {E : Int} (h : AddRel room L x chk E L') : L'.length ≤ L.length + 1 := by
  rcases h with ⟨_, _, rfl⟩ | ⟨_, _, _, rfl⟩ | ⟨_, _, ⟨i, hi, _, _, rfl⟩ | ⟨_, ⟨_, _, rfl⟩ | ⟨_, _, rfl⟩⟩⟩
  · omega
  · omega
  · rw [List.length_set]; omega
  · omega
  · unfold insL
    rw [List.length_append, List.length_cons, List.length_take, List.length_drop]
    have := endV_le x.pri L
    omega
theorem rdo_add {w : World} {f r : Nat} {S T : Nat → Prop} {room : Int} {wr : World} {P : Nat → List Fp} {L : List Fp} (h : PI w f r S T room wr P L) (j : J P L) (hl : L.length ≤ 100) (o : Opn) (h0 : o.ask = 0) (hx : FW wr o.x) (hv : VF o.x.p) (hi : ∀ b, InF o.x b → b < w.heap.size) :
    Calls Tryz.prog 8 #[.pointer (some ⟨r, 0, none⟩), feV o.x, .bool o.hard] wr fun e w' => e = .returned (.int .i64 (doR room P o.ask o.x.p o.hard)) ∧ ∃ T' L', PI w f r S T' room w' P L' ∧ J (doP room P o.ask o.x.p o.hard) L' ∧ L'.length ≤ L.length + 1 ∧ Kept T wr w' := by
  refine (radd_any w.heap.size r T room L o.x o.hard wr h.rs hx hv hi (by omega)).mono ?_
  rintro e w' ⟨E, L', rfl, ha, T', hr, hk, hT⟩
  have hj := j.add ha
  refine ⟨by unfold doR; rw [if_pos h0, hj.1], T', L', h.ref hk hr hT, by unfold doP; rw [if_pos h0]; exact hj.2, add_len ha, hk⟩
theorem rdo_mod {w : World} {f r : Nat} {S T : Nat → Prop} {room : Int} {wr : World} {P : Nat → List Fp} {L : List Fp} (h : PI w f r S T room wr P L) (j : J P L) (hl : L.length ≤ 100) (o : Opn) (h0 : o.ask = 1) (hx : FW wr o.x) (hv : VF o.x.p) (hi : ∀ b, InF o.x b → b < w.heap.size) :
    Calls Tryz.prog 9 #[.pointer (some ⟨r, 0, none⟩), feV o.x, .bool o.hard] wr fun e w' => e = .returned (.int .i64 (doR room P o.ask o.x.p o.hard)) ∧ ∃ T' L', PI w f r S T' room w' P L' ∧ J (doP room P o.ask o.x.p o.hard) L' ∧ L'.length ≤ L.length + 1 ∧ Kept T wr w' := by
  refine (rmod_any w.heap.size r T room L o.x o.hard wr h.rs hx hv hi (by omega)).mono ?_
  rintro e w' ⟨rfl, T', hr, hk, hT⟩
  refine ⟨by unfold doR; rw [if_neg (by omega)], T', _, h.ref hk hr hT, by unfold doP; rw [if_neg (by omega), if_pos h0]; exact j.mod _ _, ?_, hk⟩
  unfold rmodL
  split <;> simp
theorem rdo_del {w : World} {f r : Nat} {S T : Nat → Prop} {room : Int} {wr : World} {P : Nat → List Fp} {L : List Fp} (h : PI w f r S T room wr P L) (j : J P L) (hl : L.length ≤ 100) (o : Opn) (h0 : o.ask ≠ 0) (h1 : o.ask ≠ 1) (hx : FW wr o.x) (hv : VF o.x.p) (hi : ∀ b, InF o.x b → b < w.heap.size) :
    Calls Tryz.prog 10 #[.pointer (some ⟨r, 0, none⟩), feV o.x, .bool o.hard] wr fun e w' => e = .returned (.int .i64 (doR room P o.ask o.x.p o.hard)) ∧ ∃ T' L', PI w f r S T' room w' P L' ∧ J (doP room P o.ask o.x.p o.hard) L' ∧ L'.length ≤ L.length + 1 ∧ Kept T wr w' := by
  refine (rdel_any w.heap.size r T room L o.x o.hard wr h.rs hx hv (by omega)).mono ?_
  rintro e w' ⟨rfl, T', hr, hk, hT⟩
  refine ⟨by unfold doR; rw [if_neg h0], T', _, h.ref hk hr hT, by unfold doP; rw [if_neg h0, if_neg h1]; exact j.del _ _, ?_, hk⟩
  unfold rdelL
  split
  · exact Nat.le_trans (List.length_filter_le _ _) (Nat.le_succ _)
  · omega
end Go.Proofs.YtjjfhibkcngphaaGreatDoor
/-
  The law TablePlays answers true.
-/
namespace Go.Proofs.YtjjfhibkcngphaaGreatDoor
open Go.ChangeShapes Go.WideShapes Go.ChangeAt Go.RowKit
set_option linter.unusedVariables false
set_option linter.unusedSimpArgs false

theorem FIn.below' {w w' : World} {x : Fe} (h : FIn w x) (g : Below w.heap.size w w') : FIn w' x := ⟨h.t.below g, h.a.below g, h.w.below g, h.ct, h.nt, h.na, h.nw, h.vt, h.va, h.vw, h.m0, h.m1, h.i0, h.i1, h.i2, h.i3⟩
set_option maxRecDepth 20000 in
set_option maxHeartbeats 16000000 in
theorem plays_walk (room : Int) (a : Option Addr) (l : List Opn) (cap : Nat) (s : Mt.Sn) (w : World) (hr : -9223372036854775808 ≤ room ∧ room < 9223372036854775808) (ht : OpAt w a l) (hu : ∀ y ∈ l, FIn w y.x) (hn : l.length ≤ maxLen) (hc : l.length ≤ cap) (hs : Mt.Wf s) (hd : Cd w) :
    Calls Tryz.prog 3 #[.int .i64 room, .slice a l.length cap, Mt.snV s] w fun e w' => e = .returned (.bool true) ∧ Below w.heap.size w w' := by
  unfold maxLen at hn
  obtain ⟨W, hW⟩ : ∃ W, Mt.bx w s = W := ⟨_, rfl⟩
  have zW : W.heap.size = w.heap.size + 1 := by rw [← hW]; simp
  have gW : Below w.heap.size w W := by rw [← hW]; go_grown
  have HS0 : W.rangeAt w.heap.size 0 (Mt.snC s).toList := by rw [← hW]; exact range_new w (Mt.snC s) 28
  have HS : Hid (∀ V, Below W.heap.size W V → V.rangeAt w.heap.size 0 (Mt.snC s).toList) := (show ∀ V, _ from fun V g => range_block HS0 (g.block _ (by omega)))
  clear HS0
  have HD : Hid (Cd W) := hd.below gW
  have HE : Hid (OpAt w a l) := ht
  have HU : Hid (∀ y ∈ l, FIn W y.x) := (show ∀ y ∈ l, _ from fun y hy => (hu y hy).below' gW)
  have HA : Hid (∀ w1, Below W.heap.size W w1 → Calls Tryz.prog 6 #[] w1 fun e w' => e = .returned (.bool true) ∧ Below w1.heap.size w1 w') := (show ∀ w1, _ from fun w1 g => awake_any w1 (HD.out.below g))
  have HPl : Hid (∀ w1, Calls Tryz.prog 17 #[Mt.snV s] w1 fun e w' => e = .returned (Mt.snV s) ∧ Below w1.heap.size w1 w') := (show ∀ w1, _ from fun w1 => Mt.plain_any s w1)
  have HGW : Hid (Below w.heap.size w W) := gW
  have HWf : Hid (Mt.Wf s) := hs
  have hDD := hd.below gW
  clear ht hu hs hd gW
  by_cases hro : room < 1 ∨ 256 < room
  · have HN : Hid (Calls Tryz.prog 4 #[.int .i64 room] W fun e w' => e = .returned (.tuple #[.pointer none, .int .i64 1]) ∧ w' = W) := new_no room W hro
    have HN2 : Hid (Calls Tryz.prog 5 #[.int .i64 room] W fun e w' => e = .returned (.tuple #[.pointer none, .int .i64 1]) ∧ w' = W) := rnew_no room W hro
    clear hDD hro
    go_enter Tryz.func3, Tryz.ntmps3
    go_wp2_with fail
    refine HN.out.mono ?_
    rintro e w1 ⟨rfl, rfl⟩
    go_wp2_with fail
    refine HN2.out.mono ?_
    rintro e w2 ⟨rfl, h2⟩
    obtain rfl : w1 = w2 := h2.symm
    go_wp2_with fail
    refine (HA.out _ (Below.refl _ _)).mono ?_
    rintro e w3 ⟨rfl, g3⟩
    have HG3 : Hid (Below w.heap.size w w3) := btr HGW.out g3 (Nat.le_refl _)
    clear g3
    go_wp2_with fail
    go_ret
    exact ⟨rfl, HG3.out⟩
  have hr1 : 1 ≤ room := by omega
  have hr2 : room ≤ 256 := by omega
  clear hro
  have HN : Hid (Calls Tryz.prog 4 #[.int .i64 room] W fun e w' => e = .returned (.tuple #[.pointer (some ⟨w.heap.size + 1, 0, none⟩), .int .i64 0]) ∧ Fs w' (w.heap.size + 1) (fun b => b = w.heap.size + 1) room (fun _ => []) ∧ Below W.heap.size W w') := (show Calls _ _ _ _ _ from by
    have := new_yes room W hr1 hr2 hDD
    rwa [zW] at this ⊢)
  clear hDD
  go_enter Tryz.func3, Tryz.ntmps3
  go_wp2_with fail
  refine HN.out.mono ?_
  rintro e w1 ⟨rfl, hf1, g1⟩
  have HL1 : Hid (LI W w1 (w.heap.size + 1) (fun b => b = w.heap.size + 1) room (fun _ => [])) := (show LI _ _ _ _ _ _ from ⟨hf1, fun b hb => by rw [hb, zW]; exact Nat.le_refl _, g1⟩)
  have z1 := hf1.lt (w.heap.size + 1) rfl
  have HN2 : Hid (Calls Tryz.prog 5 #[.int .i64 room] w1 fun e w' => e = .returned (.tuple #[.pointer (some ⟨w1.heap.size, 0, none⟩), .int .i64 0]) ∧ Rs W.heap.size w' w1.heap.size (fun b => b = w1.heap.size) room [] ∧ Below w1.heap.size w1 w') := rnew_yes W.heap.size room w1 hr1 hr2 g1.size
  clear hf1 g1 hW
  go_wp2_with fail
  refine HN2.out.mono ?_
  rintro e w2 ⟨rfl, hr2', g2⟩
  have HI2 : Hid (PI W (w.heap.size + 1) w1.heap.size (fun b => b = w.heap.size + 1) (fun b => b = w1.heap.size) room w2 (fun _ => []) []) := (show PI _ _ _ _ _ _ _ _ _ from ⟨HL1.out.below g2, hr2', fun b h1 h2 => by have e1 : b = w.heap.size + 1 := h1; have e2 : b = w1.heap.size := h2; omega⟩)
  obtain ⟨r, hrr⟩ : ∃ r, r = w1.heap.size := ⟨_, rfl⟩
  rw [← hrr] at HI2
  rw [← hrr]
  clear hr2' g2 HN2 HL1 HN hrr z1
  go_wp2_with fail
  go_loopw [11, 12, 13, 14, 15, 16, 17, 18] (fun i _ _ _ _ _ _ _ wr => ∃ (k : Nat) (S T : Nat → Prop) (P : Nat → List Fp) (L : List Fp), k ≤ l.length ∧ k ≤ 40 ∧ i = .int .i64 k ∧ Hid (PI W (w.heap.size + 1) r S T room wr P L ∧ J P L ∧ L.length ≤ k)) (fun i _ _ _ _ _ _ _ _ => l.length - (intOf i).toNat)
  case atStart => exact ⟨0, _, _, _, _, Nat.zero_le _, by omega, rfl, (show _ ∧ _ from ⟨HI2.out, J.nil, by simp⟩)⟩
  case round =>
    obtain ⟨k, S, T, P, L, hk, hk40, rfl, HI⟩ := hrel
    by_cases hgo : k < l.length ∧ k < 40
    · obtain ⟨hlt, h40⟩ := hgo
      obtain ⟨g, o, rfl, hg, hB⟩ := HE.out.at hlt
      have HR : Hid (wr.rangeAt g (o + k * 12) (opC l[k]).toList) := range_block hB ((HI.out.1.li.bl.block g (by omega)).trans (HGW.out.block g hg))
      have HX := HU.out l[k] (List.getElem_mem _)
      have h40i : (k : Int) < 40 := by omega
      clear hB
      generalize hO : l[k] = O at *
      clear hO
      go_wp2_with (first
        | (refine load_O rfl (.tmp 55) rfl g (o + k * 12) O (by simp [Act.eval, Act.put]) HR.out ?_)
        | (refine store_O rfl (.tmp 12) (.tmp 56) rfl wr.heap.size 0 O rfl rfl (there_new wr zeroO 42) ?_; intro V bV oV; have HRV : Hid (V.rangeAt wr.heap.size 0 (opC O).toList) := bV; have HGV : Hid (Below wr.heap.size wr V) := oV.below (Nat.le_refl _) (show Below wr.heap.size wr (wr.alloc (.cells zeroO 42)) by go_grown); have zV : V.heap.size = wr.heap.size + 1 := (by rw [oV.size]; simp); clear bV oV)
        | (refine load_E rfl (.tmp 57) rfl wr.heap.size 1 O.x rfl (by have := op_be HRV.out; rwa [Nat.zero_add] at this) ?_))
      refine (few_any O.x V HX.nt HX.na HX.nw).mono ?_
      rintro e w2 ⟨rfl, g2⟩
      have HL2 : Hid (PI W (w.heap.size + 1) r S T room w2 P L) := HI.out.1.below (btr HGV.out g2 (Nat.le_refl _))
      have HR2 : Hid (w2.rangeAt wr.heap.size 0 (opC O).toList) := range_block HRV.out (g2.block _ (by omega))
      have HXh : Hid (FIn W O.x) := HX
      have z2 := g2.size
      clear g2 HX
      cases hf : fewB O.x.p with
      | false =>
        go_wp2_with fail
        refine (HA.out w2 HL2.out.li.bl).mono ?_
        rintro e w3 ⟨rfl, g3⟩
        have HG3 : Hid (Below w.heap.size w w3) := btr (HGW.out.trans (HL2.out.li.bl.mono (by omega))) g3 (Nat.le_refl _)
        clear g3
        go_wp2_with fail
        go_ret
        exact ⟨rfl, HG3.out⟩
      | true =>
        have HNS : Hid (∀ b, S b ∨ T b → b < wr.heap.size) := (show ∀ b, _ from fun b hb => by
          rcases hb with hb | hb
          · exact HI.out.1.li.fs.lt b hb
          · exact HI.out.1.rs.lt b hb)
        have HFw : Hid (FW w2 O.x ∧ VF O.x.p ∧ ∀ b, InF O.x b → b < W.heap.size) := (show _ ∧ _ from ⟨(HXh.out.fw hf).below HL2.out.li.bl, HXh.out.vf, fun b hb => HXh.out.lt hb⟩)
        have HBe : Hid (Be w2 wr.heap.size 1 O.x) := (show Be _ _ _ _ by have := op_be HR2.out; rwa [Nat.zero_add] at this)
        have HlL : Hid (L.length ≤ 100 ∧ L.length ≤ k) := (show _ ∧ _ from ⟨by have := HI.out.2.2; omega, HI.out.2.2⟩)
        have HJJ : Hid (J P L) := HI.out.2.1
        have HFf : Hid (fewB O.x.p = true) := hf
        have HWz : Hid (wr.heap.size < w2.heap.size) := (show _ < _ by omega)
        have hc0 : w2.cell? ⟨wr.heap.size, 0, none⟩ = some (.int .i64 O.ask) := by have := HR2.out 0 _ rfl; rwa [Nat.zero_add] at this
        have c11 : w2.cell? ⟨wr.heap.size, 11, none⟩ = some (.bool O.hard) := by have := HR2.out 11 _ rfl; rwa [Nat.zero_add] at this
        obtain ⟨R, hR⟩ : ∃ R, R = doR room P O.ask O.x.p O.hard := ⟨_, rfl⟩
        obtain ⟨P4, hP4⟩ : ∃ P4, P4 = doP room P O.ask O.x.p O.hard := ⟨_, rfl⟩
        have HRP : Hid (R = doR room P O.ask O.x.p O.hard ∧ P4 = doP room P O.ask O.x.p O.hard) := (show _ ∧ _ from ⟨hR, hP4⟩)
        clear hR hP4 hf HI z2 zV HRV HGV HR HE HU
        go_upto_block 2 with fail
        go_cut [13] from 43 to 127 (fun b wx => ∃ (T3 : Nat → Prop) (L3 : List Fp), b = .int .i64 R ∧ Hid (PI W (w.heap.size + 1) r S T3 room wx P L3 ∧ J P4 L3 ∧ L3.length ≤ k + 1 ∧ wx.rangeAt wr.heap.size 0 (opC O).toList ∧ wr.heap.size < wx.heap.size))
        case first =>
          have HEnd : Hid (∀ T3 L3 w3, PI W (w.heap.size + 1) r S T3 room w3 P L3 → J (doP room P O.ask O.x.p O.hard) L3 → L3.length ≤ L.length + 1 → Kept T w2 w3 → PI W (w.heap.size + 1) r S T3 room w3 P L3 ∧ J P4 L3 ∧ L3.length ≤ k + 1 ∧ w3.rangeAt wr.heap.size 0 (opC O).toList ∧ wr.heap.size < w3.heap.size) := (show ∀ T3 L3 w3, _ from fun T3 L3 w3 h1 h2 h3 h4 => ⟨h1, by rw [HRP.out.2]; exact h2, by have := HlL.out.2; omega, range_block HR2.out (h4.block _ HWz.out (fun h => by have := HNS.out _ (.inr h); omega)), by have := h4.size; have := HWz.out; omega⟩)
          have hways : O.ask = 0 ∨ (O.ask ≠ 0 ∧ O.ask = 1) ∨ (O.ask ≠ 0 ∧ O.ask ≠ 1) := by omega
          rcases hways with h0 | ⟨h0, h1⟩ | ⟨h0, h1⟩
          · have HCa := rdo_add HL2.out HJJ.out HlL.out.1 O h0 HFw.out.1 HFw.out.2.1 HFw.out.2.2
            rw [← HRP.out.1] at HCa
            have HCall : Hid (Calls _ _ _ _ _) := HCa
            clear HCa
            have b0 : (O.ask == 0) = true := by simp [h0]
            clear h0
            go_wp2_with (refine load_E rfl (.tmp 73) rfl wr.heap.size 1 O.x rfl HBe.out ?_)
            refine HCall.out.mono ?_
            rintro e w3 ⟨rfl, T3, L3, hp3, hj3, hl3, hk3⟩
            have HE3 := HEnd.out T3 L3 w3 hp3 hj3 hl3 hk3
            have HE3h : Hid _ := HE3
            clear HE3 hp3 hj3 hl3 hk3 hc0 c11 HCall HBe HEnd b0
            go_wp2_with fail
            go_meet
            exact ⟨T3, L3, rfl, HE3h⟩
          · have HCa := rdo_mod HL2.out HJJ.out HlL.out.1 O h1 HFw.out.1 HFw.out.2.1 HFw.out.2.2
            rw [← HRP.out.1] at HCa
            have HCall : Hid (Calls _ _ _ _ _) := HCa
            clear HCa
            have b0 : (O.ask == 0) = false := by simpa using h0
            have b1 : (O.ask == 1) = true := by simp [h1]
            clear h0 h1
            go_wp2_with (refine load_E rfl (.tmp 81) rfl wr.heap.size 1 O.x rfl HBe.out ?_)
            refine HCall.out.mono ?_
            rintro e w3 ⟨rfl, T3, L3, hp3, hj3, hl3, hk3⟩
            have HE3 := HEnd.out T3 L3 w3 hp3 hj3 hl3 hk3
            have HE3h : Hid _ := HE3
            clear HE3 hp3 hj3 hl3 hk3 hc0 c11 HCall HBe HEnd b0
            go_wp2_with fail
            go_meet
            exact ⟨T3, L3, rfl, HE3h⟩
          · have HCa := rdo_del HL2.out HJJ.out HlL.out.1 O h0 h1 HFw.out.1 HFw.out.2.1 HFw.out.2.2
            rw [← HRP.out.1] at HCa
            have HCall : Hid (Calls _ _ _ _ _) := HCa
            clear HCa
            have b0 : (O.ask == 0) = false := by simpa using h0
            have b1 : (O.ask == 1) = false := by simpa using h1
            clear h0 h1
            go_wp2_with (refine load_E rfl (.tmp 65) rfl wr.heap.size 1 O.x rfl HBe.out ?_)
            refine HCall.out.mono ?_
            rintro e w3 ⟨rfl, T3, L3, hp3, hj3, hl3, hk3⟩
            have HE3 := HEnd.out T3 L3 w3 hp3 hj3 hl3 hk3
            have HE3h : Hid _ := HE3
            clear HE3 hp3 hj3 hl3 hk3 hc0 c11 HCall HBe HEnd b0
            go_wp2_with fail
            go_meet
            exact ⟨T3, L3, rfl, HE3h⟩
        case rest =>
          obtain ⟨T3, L3, rfl, HC⟩ := hcut
          clear hc0 c11 HBe HNS HL2 HR2 HWz HlL HJJ
          generalize wc = w3 at *
          have HP3 : Hid (PI W (w.heap.size + 1) r S T3 room w3 P L3) := HC.out.1
          have HJ3 : Hid (J P4 L3 ∧ L3.length ≤ k + 1) := (show _ ∧ _ from ⟨HC.out.2.1, HC.out.2.2.1⟩)
          have HR3 : Hid (w3.rangeAt wr.heap.size 0 (opC O).toList) := HC.out.2.2.2.1
          clear HC
          have c1 : w3.cell? ⟨wr.heap.size, 1, none⟩ = some (.int .i64 O.x.p.tab) := by have := HR3.out 1 _ rfl; rwa [Nat.zero_add] at this
          have HDo := do_any (w.heap.size + 1) S room P O w3 HP3.out.li.fs ((HXh.out.fw HFf.out).below HP3.out.li.bl) (fun b hb hs => by have := HP3.out.li.sb b hs; have := HXh.out.lt hb; omega) (HD.out.below HP3.out.li.bl)
          rw [← HRP.out.1, ← HRP.out.2] at HDo
          have HDoc : Hid (Calls _ _ _ _ _) := HDo
          clear HDo HRP HFf HXh
          have hRR : (R != R) = false := by simp
          go_wp2_with (refine load_O rfl (.tmp 12) rfl wr.heap.size 0 O rfl HR3.out ?_)
          refine HDoc.out.mono ?_
          rintro e w4 ⟨rfl, S4, hf4, hk4, hs4⟩
          have HP4 : Hid (PI W (w.heap.size + 1) r S4 T3 room w4 P4 L3) := HP3.out.tab hk4 hf4 hs4
          clear hf4 hk4 hs4 HDoc c1 HP3 HR3
          go_wp2_with fail
          refine (list_any (w.heap.size + 1) S4 room P4 O.x.p.tab w4 HP4.out.li.fs).mono ?_
          rintro e w5 ⟨v5, m5, rfl, hm5, hmp5, g5⟩
          have HP5 : Hid (PI W (w.heap.size + 1) r S4 T3 room w5 P4 L3) := HP4.out.below g5
          have HM5 : Hid (Made w4.heap.size w5 v5 m5 ∧ m5.map Fe.p = tabOf P4 O.x.p.tab) := (show _ ∧ _ from ⟨hm5, hmp5⟩)
          have z5 := g5.size
          clear hm5 hmp5 g5
          go_wp2_with fail
          refine (rlist_any W.heap.size r T3 room L3 O.x.p.tab w5 HP5.out.rs (by have := HJ3.out.2; omega)).mono ?_
          rintro e w6 ⟨v6, m6, rfl, ho6, hw6, hmp6, g6⟩
          have HP6 : Hid (PI W (w.heap.size + 1) r S4 T3 room w6 P4 L3) := HP5.out.below g6
          have HSm := lsame_any v5 v6 w4.heap.size w5.heap.size m5 m6 w6 (ownE_below HM5.out.1.own g6) ho6 (fun x hx => (HM5.out.1.fw x hx).below g6) hw6 (by rw [HM5.out.2, hmp6, HJ3.out.1.tab]) (by
            have h1 := congrArg List.length HM5.out.2
            rw [HJ3.out.1.tab, List.length_map] at h1
            have h2 := List.length_filter_le (inT O.x.p.tab) L3
            have := HJ3.out.2
            omega)
          have HSmc : Hid (Calls _ _ _ _ _) := HSm
          clear HSm ho6 hw6 hmp6 g6 HM5 z5
          go_wp2_with fail
          refine HSmc.out.mono ?_
          rintro e w7 ⟨rfl, g7⟩
          have HP7 : Hid (PI W (w.heap.size + 1) r S4 T3 room w7 P4 L3) := HP6.out.below g7
          clear g7 HSmc HP6 HP5 HP4
          go_wp2_with (refine load_S rfl (.tmp 5) rfl w.heap.size s rfl (HS.out _ HP7.out.li.bl) ?_)
          refine (look_any (w.heap.size + 1) S4 room P4 O.x.p.tab s HWf.out w7 HP7.out.li.fs).mono ?_
          rintro e w8 ⟨y8, rfl, hy8, hw8, hi8, g8⟩
          have HP8 : Hid (PI W (w.heap.size + 1) r S4 T3 room w8 P4 L3) := HP7.out.below g8
          have HY8 : Hid (y8.p = (lookP (L3.filter (inT O.x.p.tab)) s).getD fp0 ∧ FW w8 y8) := (show _ ∧ _ from ⟨by rw [hy8, HJ3.out.1.tab], hw8⟩)
          have hBl : (lookP (tabOf P4 O.x.p.tab) s).isSome = (lookP (L3.filter (inT O.x.p.tab)) s).isSome := by rw [HJ3.out.1.tab]
          rw [hBl]
          clear hy8 hw8 hi8 g8 hBl HP7
          have HLk : Hid (∀ V, Below w8.heap.size w8 V → Calls Tryz.prog 16 #[.pointer (some ⟨r, 0, none⟩), .int .i64 O.x.p.tab, Mt.snV s] V fun e w' => ∃ y : Fe, e = .returned (.tuple #[feV y, .bool (lookP (L3.filter (inT O.x.p.tab)) s).isSome]) ∧ y.p = (lookP (L3.filter (inT O.x.p.tab)) s).getD fp0 ∧ FW w' y ∧ Below V.heap.size V w') := (show ∀ V, _ from fun V g => rlook_any W.heap.size r T3 room L3 O.x.p.tab s HWf.out V (HP8.out.rs.below g) (by have := HJ3.out.2; omega))
          generalize (lookP (L3.filter (inT O.x.p.tab)) s).isSome = B at *
          generalize (lookP (L3.filter (inT O.x.p.tab)) s).getD fp0 = Yp at *
          have hBB : (B != B) = false := by simp
          go_wp2_with (first
            | (refine store_E rfl (.tmp 15) (.tmp 109) rfl w8.heap.size 0 y8 rfl rfl (there_new w8 zeroE 40) ?_; intro V9 hV bV tV oV; clear hV; have HB9 : Hid (Be V9 w8.heap.size 0 y8) := bV; have HG9 : Hid (Below w8.heap.size w8 V9) := oV.below (Nat.le_refl _) (show Below w8.heap.size w8 (w8.alloc (.cells zeroE 40)) by go_grown); have z9 : V9.heap.size = w8.heap.size + 1 := (by rw [oV.size]; simp); clear bV tV oV)
            | (refine load_S rfl (.tmp 5) rfl w.heap.size s rfl (HS.out _ (HP8.out.below HG9.out).li.bl) ?_))
          refine (HPl.out V9).mono ?_
          rintro e w10 ⟨rfl, g10⟩
          have HG10 : Hid (Below w8.heap.size w8 w10) := btr HG9.out g10 (Nat.le_refl _)
          have HB10 : Hid (Be w10 w8.heap.size 0 y8) := HB9.out.below (by omega) g10
          have z10 := g10.size
          clear g10
          go_wp2_with fail
          refine (HLk.out w10 HG10.out).mono ?_
          rintro e w11 ⟨y11, rfl, hy11, hw11, g11⟩
          have HG11 : Hid (Below w8.heap.size w8 w11) := btr HG10.out g11 (Nat.le_refl _)
          have HB11 : Hid (Be w11 w8.heap.size 0 y8) := HB10.out.below (by omega) g11
          have HY11 : Hid (y11.p = Yp ∧ FW w11 y11) := (show _ ∧ _ from ⟨hy11, hw11⟩)
          have z11 := g11.size
          clear hy11 hw11 g11
          go_wp2_with (first
            | (refine store_E rfl (.tmp 17) (.tmp 117) rfl w11.heap.size 0 y11 rfl rfl (there_new w11 zeroE 40) ?_; intro V12 hV bV tV oV; clear hV; have HB12 : Hid (Be V12 w11.heap.size 0 y11) := bV; have g12 : Below w11.heap.size w11 V12 := oV.below (Nat.le_refl _) (show Below w11.heap.size w11 (w11.alloc (.cells zeroE 40)) by go_grown); have HG12 : Hid (Below w8.heap.size w8 V12) := btr HG11.out g12 (Nat.le_refl _); have HB12' : Hid (Be V12 w8.heap.size 0 y8) := HB11.out.below (by omega) g12; have HF12 : Hid (FW V12 y11) := HY11.out.2.below g12; clear bV tV oV g12)
            | (refine load_E rfl (.tmp 15) rfl w8.heap.size 0 y8 rfl HB12'.out ?_)
            | (refine load_E rfl (.tmp 17) rfl w11.heap.size 0 y11 rfl HB12.out ?_))
          refine (sameE y8 y11 V12 (by rw [HY11.out.1, HY8.out.1]) (HY8.out.2.below HG12.out) HF12.out).mono ?_
          rintro e w13 ⟨rfl, g13⟩
          have HP13 : Hid (PI W (w.heap.size + 1) r S4 T3 room w13 P4 L3 ∧ J P4 L3 ∧ L3.length ≤ k + 1) := (show _ ∧ _ from ⟨(HP8.out.below HG12.out).below g13, HJ3.out⟩)
          clear g13
          go_wp2_with fail
          go_roundw
          case rel => exact ⟨k + 1, S4, T3, P4, L3, by omega, by omega, by go_num, HP13⟩
          case measure => simp [intOf]; omega
    · have hgo' : (k < l.length ∧ ¬ k < 40) ∨ ¬ k < l.length := by omega
      clear hgo
      rcases hgo' with ⟨hlt, h40⟩ | hlt
      all_goals
        clear HPl HS HE HU
        have HI' := HI.out
        have HIx : Hid (PI W (w.heap.size + 1) r S T room wr P L ∧ J P L ∧ L.length ≤ 40) := (show _ ∧ _ from ⟨HI'.1, HI'.2.1, by have := HI'.2.2; omega⟩)
        clear HI HI'
        generalize wr = Wx at *
        go_wp2_with fail
        go_loopw [19] (fun t wq => ∃ z : Int, -1 ≤ z ∧ z ≤ 9 ∧ t = .int .i64 z ∧ Hid (Below Wx.heap.size Wx wq)) (fun t _ => (9 - intOf t).toNat)
        case atStart => exact ⟨-1, by omega, by omega, rfl, Below.refl _ _⟩
        case round =>
          obtain ⟨z, hz1, hz2, rfl, HB⟩ := hrel
          have HP4 : Hid (PI W (w.heap.size + 1) r S T room wr P L) := HIx.out.1.below HB.out
          by_cases h8 : z ≤ 8
          · go_wp2_with fail
            refine (list_any (w.heap.size + 1) S room P z wr HP4.out.li.fs).mono ?_
            rintro e w5 ⟨v5, m5, rfl, hm5, hmp5, g5⟩
            have HP5 : Hid (PI W (w.heap.size + 1) r S T room w5 P L) := HP4.out.below g5
            have HM5 : Hid (Made wr.heap.size w5 v5 m5 ∧ m5.map Fe.p = tabOf P z) := (show _ ∧ _ from ⟨hm5, hmp5⟩)
            have HG5 : Hid (Below Wx.heap.size Wx w5) := btr HB.out g5 (Nat.le_refl _)
            clear hm5 hmp5 g5
            go_wp2_with fail
            refine (rlist_any W.heap.size r T room L z w5 HP5.out.rs (by have := HIx.out.2.2; omega)).mono ?_
            rintro e w6 ⟨v6, m6, rfl, ho6, hw6, hmp6, g6⟩
            have HSm := lsame_any v5 v6 wr.heap.size w5.heap.size m5 m6 w6 (ownE_below HM5.out.1.own g6) ho6 (fun x hx => (HM5.out.1.fw x hx).below g6) hw6 (by rw [HM5.out.2, hmp6, HIx.out.2.1.tab]) (by
              have h1 := congrArg List.length HM5.out.2
              rw [HIx.out.2.1.tab, List.length_map] at h1
              have h2 := List.length_filter_le (inT z) L
              have := HIx.out.2.2
              omega)
            have HSmc : Hid (Calls _ _ _ _ _) := HSm
            have HG6 : Hid (Below Wx.heap.size Wx w6) := btr HG5.out g6 (Nat.le_refl _)
            clear HSm ho6 hw6 hmp6 g6
            go_wp2_with fail
            refine HSmc.out.mono ?_
            rintro e w7 ⟨rfl, g7⟩
            have HG7 : Hid (Below Wx.heap.size Wx w7) := btr HG6.out g7 (Nat.le_refl _)
            clear g7 HSmc HM5 HP5
            go_wp2_with fail
            go_roundw
            case rel => exact ⟨z + 1, by omega, by omega, by go_num, HG7⟩
            case measure => simp [intOf]; omega
          · go_wp2_with fail
            refine (HA.out wr HP4.out.li.bl).mono ?_
            rintro e w3 ⟨rfl, g3⟩
            have HG3 : Hid (Below w.heap.size w w3) := btr (HGW.out.trans (HP4.out.li.bl.mono (by omega))) g3 (Nat.le_refl _)
            clear g3
            go_wp2_with fail
            go_ret
            exact ⟨rfl, HG3.out⟩
end Go.Proofs.YtjjfhibkcngphaaGreatDoor

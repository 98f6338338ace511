/-
  What the rows hand to the walks: an entry.
-/
import Derived.Test.YtcbhkbiofmimbaaDoorOpen
import Derived.Test.YtcbhkbiofmimbaaDoorEEnc
namespace Go.Proofs.YtcbhkbiofmimbaaDoor
open Go.ChangeShapes Go.WideShapes Go.ChangeAt Go.RowKit

/-- An entry that is handed in. -/
structure EIn (w : World) (x : En) : Prop where
  a : Ts w x.aa x.la
  w : Ts w x.aw x.lw
  va : AWs x.la
  vw : AWs x.lw
  u : EU x
  mt : -9223372036854775808 ≤ x.met ∧ x.met < 9223372036854775808
  gt : -9223372036854775808 ≤ x.go ∧ x.go < 9223372036854775808
theorem acts_in {H : Type} {enc : TypeId × Value → H} {W : World} {c : Value} {fuel : Nat} {x : DataW H × List MemPlace}
    (h : DataW.trod enc Tryd.prog W 0 (fun _ => true) true fuel 23 [c] = some x) : ∃ a, ∃ l : List A, ∃ cap, c = .slice a l.length cap ∧ Ts W a l ∧ AWs l := by
  have hlt : ∀ p ∈ x.2, p.block < W.heap.size := DataW.trod_lt fuel _ _ _ h
  rcases Deep.open_slice Tryd.underlying23 h with ⟨hcs, _⟩ | ⟨ad, ln, cp, _, _, _, _, hcs, _⟩
  · have hc : c = .slice none 0 0 := (List.cons.inj hcs).1
    subst hc
    exact ⟨none, [], 0, rfl, .inl rfl, by simp⟩
  · have hc : c = .slice (some ad) ln cp := (List.cons.inj hcs).1
    subst hc
    obtain ⟨l, h1, h2, h3, _⟩ := acts_of hlt h
    exact ⟨some ad, l, cp, by rw [h1], h2, h3⟩
theorem tests_in {H : Type} {enc : TypeId × Value → H} {W : World} {c : Value} {fuel : Nat} {x : DataW H × List MemPlace}
    (h : DataW.trod enc Tryd.prog W 0 (fun _ => true) true fuel 22 [c] = some x) : ∃ a n cap, c = .slice a n cap := by
  rcases Deep.open_slice Tryd.underlying22 h with ⟨hcs, _⟩ | ⟨ad, ln, cp, _, _, _, _, hcs, _⟩
  · exact ⟨none, 0, 0, (List.cons.inj hcs).1⟩
  · exact ⟨some ad, ln, cp, (List.cons.inj hcs).1⟩
theorem array10 {α : Type} {cs : Array α} (h : cs.size = 10) : ∃ c0 c1 c2 c3 c4 c5 c6 c7 c8 c9, cs = #[c0, c1, c2, c3, c4, c5, c6, c7, c8, c9] := by
  obtain ⟨l⟩ := cs
  match l, h with
  | [c0, c1, c2, c3, c4, c5, c6, c7, c8, c9], _ => exact ⟨c0, c1, c2, c3, c4, c5, c6, c7, c8, c9, rfl⟩
theorem cellsActs : Tryd.prog.cellsOf 23 = 1 := by kernel_rfl
theorem cellsTests : Tryd.prog.cellsOf 22 = 1 := by kernel_rfl
theorem cellsBool : Tryd.prog.cellsOf 4 = 1 := by kernel_rfl
set_option maxRecDepth 100000 in
theorem open_en {H : Type} {enc : TypeId × Value → H} {W : World} {r : Reach} {b0 : Nat} {v : Value} {d : DataW H} {ps : List MemPlace} (_ : ∀ p ∈ ps, p.block < W.heap.size) (hv : Value.okWide Tryd.prog W r b0 26 v) (h : DataW.Trod enc Tryd.prog W 0 (fun _ => true) true 26 v d ps) :
    ∃ x : En, v = enV x ∧ EIn W x := by
  obtain ⟨cs, rfl, hsz⟩ := okWide_struct Tryd.underlying26 hv
  obtain ⟨c0, c1, c2, c3, c4, c5, c6, c7, c8, c9, rfl⟩ := array10 (hsz.trans (by kernel_rfl))
  obtain ⟨fuel, hf⟩ := h
  obtain ⟨xs, m, _, _, _, hlen, hfs⟩ := DataW.trod_struct Tryd.underlying26 hf
  match xs, hlen with
  | [y0, y1, y2, y3, y4, y5, y6, y7, y8, y9], _ =>
    have t0 : DataW.trod enc Tryd.prog W 0 (fun _ => true) true m 3 [c0] = some y0 := by simpa [Value.cells, cellsInt] using hfs 0 _ rfl
    have t1 : DataW.trod enc Tryd.prog W 0 (fun _ => true) true m 3 [c1] = some y1 := by simpa [Value.cells, cellsInt] using hfs 1 _ rfl
    have t2 : DataW.trod enc Tryd.prog W 0 (fun _ => true) true m 22 [c2] = some y2 := by simpa [Value.cells, cellsTests] using hfs 2 _ rfl
    have t3 : DataW.trod enc Tryd.prog W 0 (fun _ => true) true m 23 [c3] = some y3 := by simpa [Value.cells, cellsActs] using hfs 3 _ rfl
    have t4 : DataW.trod enc Tryd.prog W 0 (fun _ => true) true m 23 [c4] = some y4 := by simpa [Value.cells, cellsActs] using hfs 4 _ rfl
    have t5 : DataW.trod enc Tryd.prog W 0 (fun _ => true) true m 4 [c5] = some y5 := by simpa [Value.cells, cellsBool] using hfs 5 _ rfl
    have t6 : DataW.trod enc Tryd.prog W 0 (fun _ => true) true m 24 [c6] = some y6 := by simpa [Value.cells, cellsU] using hfs 6 _ rfl
    have t7 : DataW.trod enc Tryd.prog W 0 (fun _ => true) true m 24 [c7] = some y7 := by simpa [Value.cells, cellsU] using hfs 7 _ rfl
    have t8 : DataW.trod enc Tryd.prog W 0 (fun _ => true) true m 3 [c8] = some y8 := by simpa [Value.cells, cellsInt] using hfs 8 _ rfl
    have t9 : DataW.trod enc Tryd.prog W 0 (fun _ => true) true m 3 [c9] = some y9 := by simpa [Value.cells, cellsInt] using hfs 9 _ rfl
    obtain ⟨n0, q0, _, w0⟩ := DataW.trod_int Tryd.underlying3 t0
    obtain ⟨n1, q1, _, w1⟩ := DataW.trod_int Tryd.underlying3 t1
    obtain ⟨ta, tl, tc, z2⟩ := tests_in t2
    obtain ⟨aa, la, ca, z3, ha, va⟩ := acts_in t3
    obtain ⟨aw, lw, cw, z4, hw, vw⟩ := acts_in t4
    obtain ⟨b5, q5, _⟩ := DataW.trod_bool Tryd.underlying4 t5
    obtain ⟨n6, q6, _, w6⟩ := DataW.trod_int Tryd.underlying24 t6
    obtain ⟨n7, q7, _, w7⟩ := DataW.trod_int Tryd.underlying24 t7
    obtain ⟨n8, q8, _, w8⟩ := DataW.trod_int Tryd.underlying3 t8
    obtain ⟨n9, q9, _, w9⟩ := DataW.trod_int Tryd.underlying3 t9
    have z0 := (List.cons.inj q0).1
    have z1 := (List.cons.inj q1).1
    have z5 := (List.cons.inj q5).1
    have z6 := (List.cons.inj q6).1
    have z7 := (List.cons.inj q7).1
    have z8 := (List.cons.inj q8).1
    have z9 := (List.cons.inj q9).1
    obtain ⟨a0, a1⟩ := wf_u64 w6
    obtain ⟨b0', b1⟩ := wf_u64 w7
    exact ⟨⟨n0, n1, ta, tl, tc, aa, la, ca, aw, lw, cw, b5, n6, n7, n8, n9⟩, by rw [z0, z1, z2, z3, z4, z5, z6, z7, z8, z9], ⟨ha, hw, va, vw, ⟨a0, a1, b0', b1⟩, wf_i64 w8, wf_i64 w9⟩⟩
end Go.Proofs.YtcbhkbiofmimbaaDoor

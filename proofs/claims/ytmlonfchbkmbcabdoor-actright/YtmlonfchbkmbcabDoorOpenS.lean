/-
  A packet in a switch that is handed in is one of numbers of their types, and a string.
-/
import Derived.Test.YtmlonfchbkmbcabDoorSn
import Derived.Test.YtmlonfchbkmbcabDoorOpen
import Derived.ShutString
import Derived.ChangeOld
import Derived.Below
import Derived.SizedLaws
import Derived.Carry
namespace Go.Proofs.YtmlonfchbkmbcabDoor
open Go.ChangeShapes Go.WideShapes Go.ChangeAt Go.RowKit

theorem array13 {α : Type} {cs : Array α} (h : cs.size = 13) : ∃ c0 c1 c2 c3 c4 c5 c6 c7 c8 c9 c10 c11 c12, cs = #[c0, c1, c2, c3, c4, c5, c6, c7, c8, c9, c10, c11, c12] := by
  obtain ⟨l⟩ := cs
  match l, h with
  | [c0, c1, c2, c3, c4, c5, c6, c7, c8, c9, c10, c11, c12], _ => exact ⟨c0, c1, c2, c3, c4, c5, c6, c7, c8, c9, c10, c11, c12, rfl⟩
theorem wf_u32 {n : Int} (h : (Lit.int .u32 n).wf = true) : 0 ≤ n ∧ n < 4294967296 := by
  simp [Lit.wf, IntKind.min, IntKind.max, IntKind.signed, IntKind.bits] at h; omega
theorem e22 : Tryd.prog.cellsOf 22 = 1 := by kernel_rfl
theorem e23 : Tryd.prog.cellsOf 23 = 1 := by kernel_rfl
theorem e3 : Tryd.prog.cellsOf 3 = 1 := by kernel_rfl
theorem e9 : Tryd.prog.cellsOf 9 = 1 := by kernel_rfl
theorem e25 : Tryd.prog.cellsOf 25 = 11 := by kernel_rfl
set_option maxRecDepth 100000 in
theorem open_sn {H : Type} {enc : TypeId × Value → H} {W : World} {r : Reach} {b0 base : Nat} {sp : Nat → Bool} {held : Bool} {v : Value} {d : DataW H} {ps : List MemPlace} (hv : Value.okWide Tryd.prog W r b0 27 v) (h : DataW.Trod enc Tryd.prog W base sp held 27 v d ps) :
    ∃ s : Sn, v = snV s ∧ Wf s ∧ s.data.size ≤ maxLen := by
  obtain ⟨cs, rfl, hsz⟩ := okWide_struct Tryd.underlying27 hv
  obtain ⟨c0, c1, c2, c3, c4, c5, c6, c7, c8, c9, c10, c11, c12, rfl⟩ := array13 (hsz.trans (by kernel_rfl))
  obtain ⟨fuel, hf⟩ := h
  obtain ⟨xs, m, _, _, _, hlen, hfs⟩ := DataW.trod_struct Tryd.underlying27 hf
  match xs, hlen with
  | [y0, y1, yp], _ =>
    have tp : DataW.trod enc Tryd.prog W base sp held m 25 [c2, c3, c4, c5, c6, c7, c8, c9, c10, c11, c12] = some yp := by simpa [Value.cells, e25] using hfs 2 _ rfl
    obtain ⟨zs, n, _, _, _, hlen2, hgs⟩ := DataW.trod_struct Tryd.underlying25 tp
    match zs, hlen2 with
    | [y2, y3, y4, y5, y6, y7, y8, y9, y10, y11, y12], _ =>
      have t0 : DataW.trod enc Tryd.prog W base sp held m 3 [c0] = some y0 := by simpa [Value.cells, e3] using hfs 0 _ rfl
      obtain ⟨n0, q0, _, w0⟩ := DataW.trod_int Tryd.underlying3 t0
      have z0 := (List.cons.inj q0).1
      have t1 : DataW.trod enc Tryd.prog W base sp held m 22 [c1] = some y1 := by simpa [Value.cells, e22] using hfs 1 _ rfl
      obtain ⟨n1, q1, _, w1⟩ := DataW.trod_int Tryd.underlying22 t1
      have z1 := (List.cons.inj q1).1
      have t2 : DataW.trod enc Tryd.prog W base sp held n 22 [c2] = some y2 := by simpa [Value.cells, e22] using hgs 0 _ rfl
      obtain ⟨n2, q2, _, w2⟩ := DataW.trod_int Tryd.underlying22 t2
      have z2 := (List.cons.inj q2).1
      have t3 : DataW.trod enc Tryd.prog W base sp held n 22 [c3] = some y3 := by simpa [Value.cells, e22] using hgs 1 _ rfl
      obtain ⟨n3, q3, _, w3⟩ := DataW.trod_int Tryd.underlying22 t3
      have z3 := (List.cons.inj q3).1
      have t4 : DataW.trod enc Tryd.prog W base sp held n 3 [c4] = some y4 := by simpa [Value.cells, e3] using hgs 2 _ rfl
      obtain ⟨n4, q4, _, w4⟩ := DataW.trod_int Tryd.underlying3 t4
      have z4 := (List.cons.inj q4).1
      have t5 : DataW.trod enc Tryd.prog W base sp held n 3 [c5] = some y5 := by simpa [Value.cells, e3] using hgs 3 _ rfl
      obtain ⟨n5, q5, _, w5⟩ := DataW.trod_int Tryd.underlying3 t5
      have z5 := (List.cons.inj q5).1
      have t6 : DataW.trod enc Tryd.prog W base sp held n 23 [c6] = some y6 := by simpa [Value.cells, e23] using hgs 4 _ rfl
      obtain ⟨n6, q6, _, w6⟩ := DataW.trod_int Tryd.underlying23 t6
      have z6 := (List.cons.inj q6).1
      have t7 : DataW.trod enc Tryd.prog W base sp held n 23 [c7] = some y7 := by simpa [Value.cells, e23] using hgs 5 _ rfl
      obtain ⟨n7, q7, _, w7⟩ := DataW.trod_int Tryd.underlying23 t7
      have z7 := (List.cons.inj q7).1
      have t8 : DataW.trod enc Tryd.prog W base sp held n 3 [c8] = some y8 := by simpa [Value.cells, e3] using hgs 6 _ rfl
      obtain ⟨n8, q8, _, w8⟩ := DataW.trod_int Tryd.underlying3 t8
      have z8 := (List.cons.inj q8).1
      have t9 : DataW.trod enc Tryd.prog W base sp held n 3 [c9] = some y9 := by simpa [Value.cells, e3] using hgs 7 _ rfl
      obtain ⟨n9, q9, _, w9⟩ := DataW.trod_int Tryd.underlying3 t9
      have z9 := (List.cons.inj q9).1
      have t10 : DataW.trod enc Tryd.prog W base sp held n 3 [c10] = some y10 := by simpa [Value.cells, e3] using hgs 8 _ rfl
      obtain ⟨n10, q10, _, w10⟩ := DataW.trod_int Tryd.underlying3 t10
      have z10 := (List.cons.inj q10).1
      have t11 : DataW.trod enc Tryd.prog W base sp held n 3 [c11] = some y11 := by simpa [Value.cells, e3] using hgs 9 _ rfl
      obtain ⟨n11, q11, _, w11⟩ := DataW.trod_int Tryd.underlying3 t11
      have z11 := (List.cons.inj q11).1
      have t12 : DataW.trod enc Tryd.prog W base sp held n 9 [c12] = some y12 := by simpa [Value.cells, e9] using hgs 10 _ rfl
      obtain ⟨n12, q12, _, w12⟩ := DataW.trod_string Tryd.underlying9 t12
      have z12 := (List.cons.inj q12).1
      have a0 := wf_u64 w1
      have a4 := wf_u32 w6
      have a5 := wf_u32 w7
      exact ⟨⟨n0, n1, n2, n3, n4, n5, n6, n7, n8, n9, n10, n11, n12⟩, by rw [z0, z1, z2, z3, z4, z5, z6, z7, z8, z9, z10, z11, z12], ⟨a0.1, a0.2, a4.1, a4.2, a5.1, a5.2⟩, w12⟩
end Go.Proofs.YtmlonfchbkmbcabDoor

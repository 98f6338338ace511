/-
  The chapter's examples, as the law's own test has them.
-/
import Derived.Test.YtcjojcaahpkacaaReachW
namespace Go.Proofs.Ytcjojcaahpkacaa
open Go.ChangeShapes Go.WideShapes Go.ChangeAt Go.RowKit
set_option linter.unusedVariables false

def lk0 : Lk := ⟨1, 3, 2, 4, 0⟩
theorem lk0_good : goodB 2 [lk0] = true := by kernel_rfl
theorem lk0_goodF : goodF 2 [] [lk0] = true := by kernel_rfl
theorem lk0_peer : peerX 2 [lk0] 1 3 = (2, 4, 1) := by kernel_rfl
theorem lk0_reach {zs : List Int} (h : Rd 2 [lk0] [1] 1 zs) : zs = [1] := by
  refine rise_ext h.1 (by simp) (fun x => ?_)
  rw [h.2.1 x]
  constructor
  · rintro ⟨_, hr⟩
    have := hr (fun y => y = 1) rfl (fun y z _ hz => by
      obtain ⟨i, hi, h1, _⟩ := hz
      have : i = 0 := by simpa using hi
      subst this
      simp at h1)
    simpa using this
  · intro hx
    have hx' : x = 1 := by simpa using hx
    subst hx'
    exact ⟨⟨by omega, by omega⟩, Rch.refl _ _ _⟩
set_option maxRecDepth 20000 in
set_option maxHeartbeats 4000000 in
theorem awake_any (w : World) : Calls Try.prog 9 #[] w fun e w' => e = .returned (.bool true) ∧ Below w.heap.size w w' := by
  obtain ⟨V, hV⟩ : ∃ V, lx w lk0 = V := ⟨_, rfl⟩
  have gV : Below w.heap.size w V := by rw [← hV]; go_grown
  have zV : w.heap.size < V.heap.size := by rw [← hV]; simp
  have hc5 := C5.new w lk0
  rw [hV] at hc5
  have hls : Ls V (some ⟨w.heap.size, 0, none⟩) [lk0] := .inr ⟨w.heap.size, 0, rfl, zV, fun i hi => by
    have : i = 0 := by simpa using hi
    subst this
    exact hc5⟩
  have HN : Hid (Calls Try.prog 10 #[.int .i64 2, .slice (some ⟨w.heap.size, 0, none⟩) 1 1] V fun r w' => (∃ cv, Tm V.heap.size w' (V.heap.size + 1) V.heap.size cv 2 [lk0]) ∧ r = .returned (.tuple #[.pointer (some ⟨V.heap.size + 1, 0, none⟩), .int .i64 0]) ∧ Below w.heap.size w w') := (show Calls _ _ _ _ _ by
    refine (new_any 2 _ [lk0] 1 V hls (by simp)).mono ?_
    rintro r w' ⟨g, h | h⟩
    · obtain ⟨_, ⟨cv, N, hN, ht⟩, hr⟩ := h
      have : N = 2 := by omega
      subst this
      exact ⟨⟨cv, ht⟩, hr, btr gV g (Nat.le_refl _)⟩
    · have := h.1
      rw [lk0_good] at this
      cases this)
  have HV : Hid (w.alloc (.cells #[.int .i64 1, .int .i64 3, .int .i64 2, .int .i64 4, .float .f64 0] 52) = V) := hV
  clear hls hc5 hV zV gV
  go_enter Try.func9, Try.ntmps9
  go_wp2_with fail
  rw [HV.out]
  refine HN.out.mono ?_
  rintro r w1 ⟨⟨cv, ht⟩, rfl, b1⟩
  have HT : Hid (Tm V.heap.size w1 (V.heap.size + 1) V.heap.size cv 2 [lk0]) := ht
  have HB : Hid (Below w.heap.size w w1) := b1
  clear ht b1
  go_wp2_with fail
  have hp := peer_any HT.out 1 3
  rw [lk0_peer] at hp
  refine hp.mono ?_
  rintro r w2 ⟨rfl, g2⟩
  have HT2 : Hid (Tm V.heap.size w2 (V.heap.size + 1) V.heap.size cv 2 [lk0]) := HT.out.below g2
  have HB2 : Hid (Below w.heap.size w w2) := (show Below _ _ _ from btr HB.out g2 (Nat.le_refl _))
  clear hp g2
  go_wp2_with fail
  have hr := reach_any (HT2.out.alloc (.cells #[.int .i64 1] 3)) lk0_goodF (by simp) 1 (some ⟨w2.heap.size, 0, none⟩) [1] 1 (.inr ⟨w2.heap.size, 0, rfl, by simp, fun i hi => by
    have : i = 0 := by simpa using hi
    subst this
    simp⟩) (by simp)
  refine hr.mono ?_
  rintro r w3 ⟨v, zs, rfl, ho, hd, g3⟩
  obtain rfl := lk0_reach hd
  obtain ⟨g, lc, rfl, _, _, hc⟩ := own_at ho 0 (by simp)
  have c0 : w3.cell? ⟨g, 0, none⟩ = some (.int .i64 1) := hc 0 (by simp)
  have HB3 : Hid (Below w.heap.size w w3) := (show Below _ _ _ from btr (btr HB2.out (by go_grown) (Nat.le_refl _)) g3 (Nat.le_refl _))
  clear hr ho hd g3 hc
  go_wp2
  go_ret
  exact ⟨rfl, HB3.out⟩
end Go.Proofs.Ytcjojcaahpkacaa

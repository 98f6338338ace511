/-
  What Merge answers, as a contract.
-/
import Derived.Test.YtmlonfchbkmbcabDoorStable
import Derived.Test.YtmlonfchbkmbcabDoorLast
import Derived.Test.YtmlonfchbkmbcabDoorConcat
namespace Go.Proofs.YtmlonfchbkmbcabDoor
open Go.ChangeShapes Go.WideShapes Go.ChangeAt Go.RowKit

theorem isort_len (l : List A) : (isort kap l).length = l.length := by
  have ins_len : ∀ (x : A) (l : List A), (ins kap x l).length = l.length + 1 := fun x l => by
    induction l with
    | nil => rfl
    | cons y t ih =>
      unfold ins
      split
      · rw [List.length_cons, ih, List.length_cons]
      · simp
  have go : ∀ (l acc : List A), (l.foldl (fun acc x => ins kap x acc) acc).length = acc.length + l.length := fun l => by
    induction l with
    | nil => intro acc; simp
    | cons x t ih => intro acc; rw [List.foldl_cons, ih, ins_len, List.length_cons]; omega
  have := go l []
  simpa [isort] using this
theorem rw_ts {w : World} {g : Nat} {l : List A} (h : Rw w g l) : Ts w (some ⟨g, 0, none⟩) l := .inr ⟨g, 0, rfl, h.lt, fun i hi => by rw [Nat.zero_add, ← at_get l i hi]; exact h.cells i hi⟩
set_option maxHeartbeats 4000000 in
theorem merge_any (a b : Option Addr) (l m : List A) (ca cb : Nat) (w : World) (ha : Ts w a l) (hb : Ts w b m) (hla : AWs l) (hlb : AWs m) (hl : l.length + m.length ≤ 1000) :
    Calls Tryd.prog 14 #[.slice a l.length ca, .slice b m.length cb] w fun e w' => ∃ v, e = .returned v ∧ w'.ownsRow w.heap.size 29 3 v (mergeV (l ++ m)).length (flat (mergeV (l ++ m))) ∧ Below w.heap.size w w' := by
  have haw : AWs (l ++ m) := fun x hx => (List.mem_append.1 hx).elim (hla x) (hlb x)
  have hlen : (l ++ m).length ≤ 1000 := by rw [List.length_append]; exact hl
  have HC : Hid (∀ (q : Nat) (w : World), q < w.heap.size → w.cell? ⟨q, 0, none⟩ = some (.slice a l.length ca) → w.cell? ⟨q, 1, none⟩ = some (.slice b m.length cb) → Ts w a l → Ts w b m →
    Calls Tryd.prog 26 #[.slice (some ⟨q, 0, none⟩) 2 2] w fun e w' => ∃ v, e = .returned v ∧ w'.ownsRow w.heap.size 29 3 v (l ++ m).length (flat (l ++ m)) ∧ Below w.heap.size w w') := (show ∀ _, _ from fun q w h1 h2 h3 h4 h5 => concat_any q a b l m ca cb w h1 h2 h3 h4 h5 hl)
  generalize l ++ m = L at *
  have HK : Hid (∀ (a : Option Addr) (cap : Nat) (w : World), Ts w a L → Calls Tryd.prog 25 #[.slice a L.length cap] w fun e w' => ∃ v, e = .returned v ∧ w'.ownsRow w.heap.size 29 3 v (knownL L).length (flat (knownL L)) ∧ Below w.heap.size w w') := (show ∀ _, _ from fun a cap w h => known_any a L cap w h hlen)
  have hkl := Nat.le_trans (known_len L) hlen
  have hkw : AWs (knownL L) := fun x hx => haw x (List.mem_filter.1 hx).1
  have HM : Hid (mergeV L = lastOf kap (isort kap (knownL L))) := (show mergeV L = _ from rfl)
  generalize knownL L = K at *
  have hil := isort_len K
  have hiw : AWs (isort kap K) := fun x hx => hkw x ((mem_isort _ _).1 hx)
  have HL : Hid (∀ (a : Option Addr) (cap : Nat) (w : World), Ts w a (isort kap K) → Calls Tryd.prog 29 #[.slice a K.length cap] w fun e w' => ∃ v, e = .returned v ∧ w'.ownsRow w.heap.size 29 3 v (mergeV L).length (flat (mergeV L)) ∧ Below w.heap.size w w') := (show ∀ _, _ from fun a cap w h => by
    have := last_any a (isort kap K) cap w h hiw (by omega)
    rw [hil] at this
    rw [HM.out]
    exact this)
  have HS : Hid (∀ (g : Nat) (cap : Nat) (w : World), Rw w g K → Calls Tryd.prog 27 #[.slice (some ⟨g, 0, none⟩) K.length cap, fvP] w fun e w' => e = .returned (.tuple #[]) ∧ Rw w' g (isort kap K) ∧ Below g w w') := (show ∀ _, _ from fun g cap w h => sortStable_any g K cap K.length rfl w h hkw hkl)
  have HS0 : Hid (K = [] → ∀ (a : Option Addr) (cap : Nat) (w : World), Calls Tryd.prog 27 #[.slice a K.length cap, fvP] w fun e w' => e = .returned (.tuple #[]) ∧ w' = w) := (show _ → _ from fun h a cap w => by rw [h]; exact sortStable_none a cap w)
  have tA := ha.alloc (.cells #[.slice a l.length ca, .slice b m.length cb] 42)
  have tB := hb.alloc (.cells #[.slice a l.length ca, .slice b m.length cb] 42)
  clear hil hiw hkw hkl haw hlen HM hla hlb hl
  go_enter Tryd.func14, Tryd.ntmps14
  go_wp2_with fail
  refine (HC.out _ _ (by simp) (by simp) (by simp) tA tB).mono ?_
  rintro r w1 ⟨v1, rfl, o1, g1⟩
  obtain ⟨a1, c1, rfl, _, t1, _⟩ := own_ts o1
  have b1 : Below w.heap.size w w1 := btr (by go_grown) g1 (by simp)
  clear tA tB HC g1
  go_wp2_with fail
  refine (HK.out _ _ _ t1).mono ?_
  rintro r w2 ⟨v2, rfl, o2, g2⟩
  obtain ⟨a2, c2, rfl, _, t2, hrow⟩ := own_ts o2
  have b2 := btr b1 g2 (Nat.le_refl _)
  have hs1 := b1.size
  clear HK g2 t1 o1 b1
  go_wp2_with fail
  rcases hrow with hK | ⟨g, rfl, hg, hrw⟩
  · have hs0 : Calls Tryd.prog 27 #[.slice a2 K.length c2, fvP] w2 fun e w' => e = .returned (.tuple #[]) ∧ w' = w2 := by rw [hK]; exact sortStable_none a2 c2 w2
    have hi0 : isort kap K = [] := by rw [hK]; simp [isort]
    have HI0 : Hid (isort kap K = []) := hi0
    clear hi0 hK
    refine Calls.mono hs0 ?_
    rintro r w3 ⟨rfl, rfl⟩
    go_wp2_with fail
    refine (HL.out _ _ _ (Or.inl HI0.out)).mono ?_
    rintro r w4 ⟨v4, rfl, o4, g4⟩
    go_wp2_with fail
    go_ret
    exact ⟨_, rfl, own_mono o4 b2.size, btr b2 g4 (Nat.le_refl _)⟩
  · refine (HS.out _ _ _ hrw).mono ?_
    rintro r w3 ⟨rfl, r3, g3⟩
    have b3 : Below w.heap.size w w3 := b2.trans (g3.mono (by omega))
    go_wp2_with fail
    refine (HL.out _ _ _ (rw_ts r3)).mono ?_
    rintro r w4 ⟨v4, rfl, o4, g4⟩
    go_wp2_with fail
    go_ret
    exact ⟨_, rfl, own_mono o4 b3.size, btr b3 g4 (Nat.le_refl _)⟩
end Go.Proofs.YtmlonfchbkmbcabDoor

/-
  Proved here: for every slice of entries and every packet in a switch the law TableClash answers true (tables of room 256 to which the first 30 entries are added with check, as long as these have up to 20 tests, up to 40 actions to apply and up to 40 to write, have no two entries of one table and one Priority that both take the packet; where one of them has more, and of what comes behind the 30 entries, the law says nothing but the chapter's example), and its arguments read afterwards as before. Condition: the tables act.kinds and act.codes start as the program's text lays them (the card ties them); there are no other conditions.
-/
import Derived.Test.YtjjfhibkcngphaaDoorRows
import Derived.Test.YtjjfhibkcngphaaDoorCards
import Derived.Test.YtjjfhibkcngphaaDoorTie
import Derived.Test.YtjjfhibkcngphaaDoorLawClash
import Derived.Test.YtjjfhibkcngphaaDoorFOpen
import Derived.SevenTiedAt
namespace Go.Proofs.YtjjfhibkcngphaaDoor
namespace tableClash
open Go.ChangeShapes Go.WideShapes Go.ChangeAt Go.RowKit
open Go.ChangeMaps (open_string shut_string)
set_option linter.unusedVariables false

set_option maxRecDepth 100000 in
theorem lifted (os : Os) (started : os.Started) (H : Type) (enc : TypeId × Value → H) :
    ReturnsInHanded {} Tryd.checked os 5 .any (fun w args => (Rows.tableClashSpec.pre enc Tryd.prog Tryd.f5 [] false w args ∧ laidMetH Tryd.prog laidL w) ∧ sizedMet enc Tryd.prog Tryd.f5 (OpenSpec.ofChange Rows.tableClashSpec) false w args)
      (Rows.tableClashSpec.post enc Tryd.prog Tryd.f5 false true false false) := by
  refine returnsInHanded_of_change_and (C := Tryd.checked) (X := fun w _ => laidMetH Tryd.prog laidL w) (fun _ _ _ hh h => h.of_heap hh) own started (by kernel_rfl) Tryd.func5
    (ChangeSpec.witness_shaped (enc := enc) (C := Tryd.checked) (os := os) (X := fun w _ => laidMetH Tryd.prog laidL w) false (World.doorLaid Tryd.prog 400 os) #[.slice none 0 0, .agg #[.int .i64 0, .int .u64 0, .int .u64 0, .int .u64 0, .int .i64 0, .int .i64 0, .int .u32 0, .int .u32 0, .int .i64 0, .int .i64 0, .int .i64 0, .int .i64 0, .string ⟨#[]⟩]] 8 rfl (World.shaped_of_RefB (by kernel_rfl) (by kernel_rfl)) (by kernel_rfl) (by kernel_rfl) (by kernel_rfl) (door_met os _)) ?_
  intro W base args ds gs before hval0 hW _ _ hL _
  have hval : ∀ (j : Nat) t v, Tryd.f5.params[j]? = some t → args[j]? = some v → Value.okWide Tryd.prog W .any base t v := hval0
  have hW' := hW
  obtain ⟨p, q, hA0, hV, rfl, hfz, hnd⟩ := hW
  have hA : DataW.TrodAll enc Tryd.prog W 0 (fun _ => true) true Tryd.f5.params.toList args.toList ds p := hA0
  rw [Tryd.params5] at hA hval
  obtain ⟨v0, vs0, d0, ds0, p0, q0, hargs, rfl, rfl, h0, r0⟩ := trodAll_cons hA
  obtain ⟨v1, vs1, d1, ds1, p1, q1, rfl, rfl, rfl, h1, r1⟩ := trodAll_cons r0
  obtain ⟨rfl, rfl, rfl⟩ := trodAll_nil r1
  obtain rfl : args = #[v0, v1] := by cases args; simp_all
  obtain ⟨rfl, rfl⟩ := trodVars_none hV
  obtain ⟨a0, len0, cap0, rfl⟩ := okWide_slice Tryd.underlying42 (hval 0 42 v0 rfl rfl)
  have k0 := h0
  have lt0 : ∀ x ∈ p0, x.block < W.heap.size := by obtain ⟨m, hm⟩ := k0; exact DataW.trod_lt m _ _ _ hm
  obtain ⟨l0, e0, t0, u0, n0, c0⟩ : ∃ l : List Fe, l.length = len0 ∧ EnAt W a0 l ∧ (∀ y ∈ l, FIn W y) ∧ len0 ≤ maxLen ∧ len0 ≤ cap0 := by
    obtain ⟨fuel, hf⟩ := h0
    exact entries_of (x := (d0, p0)) lt0 hf
  subst e0
  have k1 := h1
  have lt1 : ∀ x ∈ p1, x.block < W.heap.size := by obtain ⟨m, hm⟩ := k1; exact DataW.trod_lt m _ _ _ hm
  obtain ⟨s1, rfl, w1, _⟩ := open_sn (hval 1 28 v1 rfl rfl) h1
  have hcd := cd_of_laid hL
  clear hA0 hval0
  refine (clash_walk a0 l0 cap0 s1 W t0 u0 n0 c0 w1 hcd).mono fun e W' ⟨he, bel⟩ => ?_
  subst he
  exact ⟨_, rfl, _, _, _, [], _, [], hW', trodAll_mk1 (shut_bool Tryd.underlying4 _), (trodAll_cons_mk (Below.trod laidOut (by kernel_rfl) (of_decide_eq_true (by kernel_rfl)) k0 bel lt0) (trodAll_cons_mk (Below.trod laidOut (by kernel_rfl) (of_decide_eq_true (by kernel_rfl)) k1 bel lt1) trodAll_mk0)), rfl, bel.frame _, fun h => by cases h⟩

theorem over : Rows.TableClashSaid :=
  OpenClaim.holds_of_wide 5 Tryd.f5 rfl rfl rfl rfl rfl rfl rfl ⟨rfl, rfl, rfl, rfl, rfl⟩ rfl rfl rfl rfl rfl (by kernel_rfl) Tryd.func5 (by kernel_rfl)
    (of_decide_eq_true (by kernel_rfl)) (by unfold Func.isWrapper; first | (rw [if_pos (by decide +kernel)]; kernel_rfl) | (rw [if_neg (by decide +kernel)]; exact ⟨rfl, rfl⟩))
    (fun os started H enc _ => lifted os started H enc)
theorem card : Rows.TableClashCardSaid :=
  Claim7.holds_tied_plain_at .later [] [.data, .data] true (true, "f13f1dc1bf588dfde507cd4fe444f92acf04e77adba79bf0ca871e7d6bf691d3") false
    over (fun _ h => by cases h) (by kernel_rfl) (fun _ h => by cases h) tableClash_row_tie rfl ⟨rfl, rfl⟩ (by kernel_rfl) rfl
    (fun f fn hf hfn => by
      obtain rfl : f = 5 := Option.some.inj ((show Tryd.prog.funcNamed Rows.tableClashRow.func = some 5 by kernel_rfl).symm.trans hf) |>.symm
      obtain rfl : fn = Tryd.f5 := (Option.some.inj (Tryd.func5.symm.trans hfn)).symm
      exact ⟨by kernel_rfl, fun j t ht => by
        rw [Tryd.params5] at ht
        rcases j with _ | j
        · have h3 : t = 42 := by simpa using ht.symm
          subst h3
          exact (show Tryd.prog.wantsStandIn 42 = false by kernel_rfl)
        rcases j with _ | j
        · have h3 : t = 28 := by simpa using ht.symm
          subst h3
          exact (show Tryd.prog.wantsStandIn 28 = false by kernel_rfl)
        simp at ht⟩)
    (by kernel_rfl)
end tableClash
theorem tableClash_holds : Rows.TableClashCardSaid := tableClash.card
end Go.Proofs.YtjjfhibkcngphaaDoor

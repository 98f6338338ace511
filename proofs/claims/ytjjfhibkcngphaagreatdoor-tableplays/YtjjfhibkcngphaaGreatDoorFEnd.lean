/-
  What clashes and endOf answer, as contracts.
-/
import Derived.Test.YtjjfhibkcngphaaGreatDoorFIdx
namespace Go.Proofs.YtjjfhibkcngphaaGreatDoor
open Go.ChangeShapes Go.WideShapes Go.ChangeAt Go.RowKit
set_option linter.unusedVariables false
set_option linter.unusedSimpArgs false

theorem enCl : ∀ args w, (callFunc 55 args).run Tryz.prog w = .ok (.enter 55 args) w := enters_of Tryz.func55 (by kernel_rfl) rfl
theorem enA : ∀ args w, (callFunc 34 args).run Tryz.prog w = .ok (.enter 34 args) w := enters_of Tryz.func34 (by kernel_rfl) rfl
theorem enD : ∀ args w, (callFunc 45 args).run Tryz.prog w = .ok (.enter 45 args) w := enters_of Tryz.func45 (by kernel_rfl) rfl
theorem ownE_below {base : Nat} {w w' : World} {v : Value} {l : List Fe} (h : OwnE base w v l) (g : Below w.heap.size w w') : OwnE base w' v l := own_below h g
set_option maxHeartbeats 2000000 in
theorem clashes_any (x : Fe) (base : Nat) (v : Value) (l : List Fe) (w : World) (hx : FW w x) (hO : OwnE base w v l) (hl : l.length ≤ 100000) (hw : ∀ y ∈ l, FW w y) :
    Calls Tryz.prog 36 #[feV x, v] w fun e w' => e = .returned (.bool (l.any fun y => clashB x.p y.p)) ∧ Below w.heap.size w w' := by
  have g0 : Below w.heap.size w (fx w x) := by go_grown
  have HC : Hid (Calls Tryz.prog 54 #[v, .func (.func 55) #[] #[.pointer (some ⟨w.heap.size, 0, none⟩)]] (fx w x) fun e w' => e = .returned (.bool (l.any fun y => clashB x.p y.p)) ∧ Below (fx w x).heap.size (fx w x) w') :=
    has_any 55 _ enCl (fun y => clashB x.p y.p) base v l _ (ownE_below hO g0) hl (fun W y hy g => by
      have g1 := g0.trans (g.mono (by simp))
      have hz := g.size
      simp at hz
      exact clashF_any x y w.heap.size W (by omega) ((Be.new w x).below (by simp) g) (hx.below g1) ((hw y hy).below g1))
  clear hx hO hw
  generalize (l.any fun y => clashB x.p y.p) = B at *
  go_enter Tryz.func36, Tryz.ntmps36
  go_wp2_with fail
  refine HC.out.mono ?_
  rintro e w1 ⟨rfl, g1⟩
  go_wp2_with fail
  go_ret
  exact ⟨rfl, btr g0 g1 (Nat.le_refl _)⟩
/-- The place behind the entries of a Priority. -/
def endV (pri : Int) : List Fp → Nat
  | [] => 0
  | y :: l => if y.pri < pri then 0 else endV pri l + 1
theorem endV_le (pri : Int) : ∀ l : List Fp, endV pri l ≤ l.length
  | [] => Nat.le_refl _
  | y :: l => by unfold endV; split <;> simp [endV_le pri l]
theorem endV_at (pri : Int) : ∀ (l : List Fp) (k : Nat) (hk : k < l.length), (∀ j (hj : j < l.length), j < k → ¬ l[j].pri < pri) → l[k].pri < pri → endV pri l = k
  | y :: l, 0, _, _, h => by unfold endV; rw [if_pos (by simpa using h)]
  | y :: l, k + 1, hk, h0, h => by
    unfold endV
    rw [if_neg (show ¬ y.pri < pri from h0 0 (by simp) (by omega)), endV_at pri l k (by simpa using hk) (fun j hj hjk => h0 (j + 1) (by simpa using hj) (by omega)) (by simpa using h)]
theorem endV_none (pri : Int) : ∀ (l : List Fp), (∀ j (hj : j < l.length), ¬ l[j].pri < pri) → endV pri l = l.length
  | [], _ => rfl
  | y :: l, h0 => by
    unfold endV
    rw [if_neg (show ¬ y.pri < pri from h0 0 (by simp)), endV_none pri l (fun j hj => h0 (j + 1) (by simpa using hj))]
    simp
set_option maxHeartbeats 4000000 in
theorem endOf_any (pri : Int) (base : Nat) (v : Value) (l : List Fe) (w : World) (hO : OwnE base w v l) (hl : l.length ≤ 100000) :
    Calls Tryz.prog 38 #[.int .i64 pri, v] w fun e w' => e = .returned (.int .i64 (endV pri (l.map Fe.p))) ∧ Below w.heap.size w w' := by
  obtain ⟨a, cap, rfl, hform⟩ := OwnE.form2 hO
  have HO : Hid (OwnE base w (.slice a l.length cap) l) := hO
  have HF : Hid (a = none ∧ l = [] ∧ cap = 0 ∨ ∃ g, a = some ⟨g, 0, none⟩ ∧ base ≤ g ∧ g < w.heap.size ∧ l.length ≤ cap ∧ cap ≤ maxLen) := hform
  clear hO hform
  go_enter Tryz.func38, Tryz.ntmps38
  go_wp2
  go_loopw [5, 6, 9] (fun _ _ i wr => ∃ k : Nat, k ≤ l.length ∧ i = .int .i64 k ∧ Hid (∀ j (hj : j < l.length), j < k → ¬ l[j].p.pri < pri) ∧ Below w.heap.size w wr) (fun _ _ i _ => l.length - (intOf i).toNat)
  case atStart => exact ⟨0, Nat.zero_le _, rfl, (show ∀ j, _ from fun j _ hj => absurd hj (Nat.not_lt_zero _)), Below.refl _ _⟩
  case round =>
    obtain ⟨k, hk, rfl, HN, hbel⟩ := hrel
    by_cases hlt : k < l.length
    · obtain ⟨gb, rfl, _, hgb, hnc, _⟩ : ∃ g, a = some ⟨g, 0, none⟩ ∧ base ≤ g ∧ g < w.heap.size ∧ l.length ≤ cap ∧ cap ≤ maxLen := by
        rcases HF.out with ⟨_, h, _⟩ | h
        · subst h; cases hlt
        · exact h
      have HB : Hid (Be wr gb (k * 10) l[k]) := (OwnE.be rfl HO.out k hlt).below hgb hbel
      have HL : Hid (Below w.heap.size w wr) := hbel
      by_cases hp : l[k].p.pri < pri
      · have HR : Hid (endV pri (l.map Fe.p) = k) := endV_at pri _ k (by simpa using hlt) (fun j hj h => by simpa using HN.out j (by simpa using hj) h) (by simpa using hp)
        go_wp2_with (first | (refine load_E rfl (.tmp 12) rfl gb (k * 10) l[k] (by simp [Act.eval, Act.put]) HB.out ?_) | (refine store_E rfl (.tmp 6) (.tmp 13) rfl wr.heap.size 0 l[k] rfl rfl (there_new wr zeroE 40) ?_; intro V hV bV tV oV; clear hV; have d1 := bV.cs.2.1))
        go_ret
        exact ⟨by rw [HR.out]; rfl, oV.below HL.out.size (HL.out.alloc HL.out.size _)⟩
      · have HN2 : Hid (∀ j (hj : j < l.length), j < k + 1 → ¬ l[j].p.pri < pri) := (show ∀ j, _ from fun j hj h => by
          by_cases e : j = k
          · subst e; exact hp
          · exact HN.out j hj (by omega))
        go_wp2_with (first | (refine load_E rfl (.tmp 12) rfl gb (k * 10) l[k] (by simp [Act.eval, Act.put]) HB.out ?_) | (refine store_E rfl (.tmp 6) (.tmp 13) rfl wr.heap.size 0 l[k] rfl rfl (there_new wr zeroE 40) ?_; intro V hV bV tV oV; clear hV; have d1 := bV.cs.2.1))
        go_roundw
        case rel => exact ⟨k + 1, by omega, by go_num, HN2, oV.below HL.out.size (HL.out.alloc HL.out.size _)⟩
        case measure => simp [intOf]; omega
    · have hk' : k = l.length := by omega
      subst hk'
      have HR : Hid (endV pri (l.map Fe.p) = l.length) := (endV_none pri _ (fun j hj => by simpa using HN.out j (by simpa using hj) (by simpa using hj))).trans (by simp)
      go_wp2
      go_ret
      exact ⟨by rw [HR.out]; rfl, hbel⟩
end Go.Proofs.YtjjfhibkcngphaaGreatDoor

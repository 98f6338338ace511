/-
  What the law's own 'there' answers, as a contract.
-/
import Derived.Test.YteodlkgbakkjmaaDoorLLeads
namespace Go.Proofs.YteodlkgbakkjmaaDoor
open Go.ChangeShapes Go.WideShapes Go.ChangeAt Go.RowKit
set_option linter.unusedVariables false

/-- What is asked of the groups that are looked at: their actions are right, and whom they lead to is there. -/
def ThR (L r : List Gr) : Prop := ∀ x ∈ r, ∀ b ∈ x.l, ∀ a ∈ b.l, 0 ≤ a.2.2 ∧ a.2.2 ≤ 4294967295 ∧ (a.1 = 2 → hasP L a.2.2 = true)
set_option maxRecDepth 20000 in
set_option maxHeartbeats 16000000 in
theorem lthere_any {tb mb : Nat} {room : Int} {L : List Gr} (sa : Option Addr) (r : List Gr) (sc : Nat) (w : World) (h : Tb w tb mb room L) (hG : Gs w sa r) (hn : r.length ≤ 100) (hR : ThR L r) :
    Calls Tryd.prog 26 #[ptr tb, .slice sa r.length sc] w fun e w' => e = .returned (.bool true) ∧ Below w.heap.size w w' := by
  have HG : Hid (∀ (i : Int) w1, 0 ≤ i ∧ i ≤ 4294967295 → Below w.heap.size w w1 → Calls Tryd.prog 18 #[ptr tb, .int .i64 i] w1 fun e w' => ∃ (g' : Gr) (er : Int), e = .returned (.tuple #[gV g', .int .i64 er]) ∧ (hasP L i = true → er = 0) ∧ Below w1.heap.size w1 w') := (show ∀ (i : Int) w1, _ from fun i w1 hi k => by
    refine (get_any i w1 (h.below k) (by omega) (by omega)).mono ?_
    rintro e w' ⟨g', er, rfl, hc, _, _, hb⟩
    refine ⟨g', er, rfl, fun hh => ?_, hb⟩
    rcases hc with ⟨hf, _⟩ | ⟨_, _, _, _, e⟩
    · rw [hh] at hf; cases hf
    · exact e)
  have HS : Hid (∀ w', Below w.heap.size w w' → Gs w' sa r) := (show ∀ w', _ from fun w' k => hG.below k)
  have HN : Hid (r.length ≤ 100) := hn
  have HR : Hid (ThR L r) := hR
  clear h hG hn hR
  go_enter Tryd.func26, Tryd.ntmps26
  go_wp2_with fail
  go_loopw [5] (fun v wr => ∃ q : Nat, q ≤ r.length ∧ v = .int .i64 q ∧ Below w.heap.size w wr) (fun v _ => r.length - (intOf v).toNat)
  case atStart => exact ⟨0, Nat.zero_le _, rfl, Below.refl _ _⟩
  case round =>
    obtain ⟨q, hq, rfl, hbel⟩ := hrel
    have hn := HN.out
    by_cases hlt : q < r.length
    · have hxm := List.getElem_mem hlt
      have HRq : Hid (∀ b ∈ r[q].l, ∀ a ∈ b.l, 0 ≤ a.2.2 ∧ a.2.2 ≤ 4294967295 ∧ (a.1 = 2 → hasP L a.2.2 = true)) := HR.out _ hxm
      have HSq : Hid (∀ w', Below w.heap.size w w' → ∃ b o, sa = some ⟨b, o, none⟩ ∧ b < w'.heap.size ∧ w'.cell? ⟨b, o + q * 3 + 2, none⟩ = some (.slice r[q].a r[q].l.length r[q].c) ∧ Bs w' r[q].a r[q].l ∧ r[q].l.length ≤ 100 ∧ ∀ b ∈ r[q].l, b.l.length ≤ 100) := (show ∀ w', _ from fun w' k => by
        obtain ⟨b, o, e, hb, hc⟩ := (HS.out w' k).at hlt
        exact ⟨b, o, e, hb, (hc q hlt).2.2, (HS.out w' k).bs _ hxm, ((HS.out w' k).sm _ hxm).n, ((HS.out w' k).sm _ hxm).a⟩)
      have HB : Hid (Below w.heap.size w wr) := hbel
      clear hxm hbel
      generalize r[q] = X at *
      obtain ⟨xi, xk, xa, xl, xc⟩ := X
      simp only at HRq HSq
      go_wp2_with fail
      go_loopw [6] (fun v wr => ∃ j : Nat, j ≤ xl.length ∧ v = .int .i64 j ∧ Below w.heap.size w wr) (fun v _ => xl.length - (intOf v).toNat)
      case atStart => exact ⟨0, Nat.zero_le _, rfl, HB.out⟩
      case round =>
        obtain ⟨j, hj, rfl, hbj⟩ := hrel
        obtain ⟨sb, so, rfl, hsb, hsc, hBs, hl1, hl2⟩ := HSq.out _ hbj
        by_cases hjt : j < xl.length
        · have hbm := List.getElem_mem hjt
          have HRj : Hid (∀ a ∈ xl[j].l, 0 ≤ a.2.2 ∧ a.2.2 ≤ 4294967295 ∧ (a.1 = 2 → hasP L a.2.2 = true)) := HRq.out _ hbm
          have HSj : Hid (∀ w', Below w.heap.size w w' → sb < w'.heap.size ∧ w'.cell? ⟨sb, so + q * 3 + 2, none⟩ = some (.slice xa xl.length xc) ∧ ∃ b o, xa = some ⟨b, o, none⟩ ∧ b < w'.heap.size ∧ w'.cell? ⟨b, o + j * 3 + 2, none⟩ = some (.slice xl[j].a xl[j].l.length xl[j].c) ∧ Ts w' xl[j].a xl[j].l ∧ xl[j].l.length ≤ 100) := (show ∀ w', _ from fun w' k => by
            obtain ⟨sb', so', e, hsb', hsc', hBs', _, hl2'⟩ := HSq.out w' k
            cases e
            obtain ⟨b, o, e, hb, hc⟩ := hBs'.at hjt
            exact ⟨hsb', hsc', b, o, e, hb, (hc j hjt).2.2, hBs'.1 _ hbm, hl2' _ hbm⟩)
          have HBj : Hid (Below w.heap.size w wr) := hbj
          clear hbm hBs hl2 hbj
          generalize xl[j] = Y at *
          obtain ⟨yw, ye, ya, yl, yc⟩ := Y
          simp only at HRj HSj
          go_wp2_with fail
          clear hsc hsb
          go_loopw [7] (fun v wr => ∃ m : Nat, m ≤ yl.length ∧ v = .int .i64 m ∧ Below w.heap.size w wr) (fun v _ => yl.length - (intOf v).toNat)
          case atStart => exact ⟨0, Nat.zero_le _, rfl, HBj.out⟩
          case round =>
            obtain ⟨m, hm, rfl, hbm⟩ := hrel
            obtain ⟨hsb, hsc, bb, bo, rfl, hbb, hbc, hTs, hl3⟩ := HSj.out _ hbm
            by_cases hmt : m < yl.length
            · obtain ⟨b2, o2, rfl, hb2, hc2⟩ := hTs.at hmt
              obtain ⟨e0, e1, e2⟩ := hc2 m hmt
              obtain ⟨v0, v1, v2⟩ := HRj.out _ (List.getElem_mem hmt)
              have HGm : Hid (∀ w1, Below w.heap.size w w1 → Calls Tryd.prog 18 #[ptr tb, .int .i64 yl[m].2.2] w1 fun e w' => ∃ (g' : Gr) (er : Int), e = .returned (.tuple #[gV g', .int .i64 er]) ∧ (hasP L yl[m].2.2 = true → er = 0) ∧ Below w1.heap.size w1 w') := (show ∀ w1, _ from fun w1 k => HG.out _ w1 ⟨v0, v1⟩ k)
              have HBa : Hid (∀ o : Obj, Below w.heap.size w (wr.alloc o)) := (show ∀ o : Obj, _ from fun o => btr hbm (by go_grown) (Nat.le_refl _))
              have HV2 : Hid (yl[m].1 = 2 → hasP L yl[m].2.2 = true) := v2
              clear hc2 hTs v2 hbm
              generalize yl[m] = Z at *
              obtain ⟨zk, zf, zv⟩ := Z
              simp only at e0 e1 e2 v0 v1 HGm HV2
              go_wp2_with fail
              refine (HGm.out _ (HBa.out _)).mono ?_
              rintro e w2 ⟨g', er, rfl, her, g2⟩
              have hb2 := btr (HBa.out (.cells #[.int .i64 zk, .int .i64 zf, .int .u64 zv] 62)) g2 (Nat.le_refl _)
              have f0 : w2.cell? ⟨wr.heap.size, 0, none⟩ = some (.int .i64 zk) := (g2.cell (p := ⟨wr.heap.size, 0, none⟩) (by simp)).trans (by simp)
              have zz : wr.heap.size < w2.heap.size := Nat.lt_of_lt_of_le (by simp) g2.size
              have HB2 : Hid (∀ o : Obj, Below w.heap.size w (w2.alloc o)) := (show ∀ o : Obj, _ from fun o => btr hb2 (by go_grown) (Nat.le_refl _))
              clear g2 hb2 e0 e1 e2 hsc hbc
              by_cases hk : zk = 2
              · have hkb : (zk == 2) = true := by simp [hk]
                have hz : er = 0 := her (HV2.out hk)
                subst hz
                clear her hk
                go_wp2_with fail
                go_roundw
                case rel => exact ⟨m + 1, by omega, by go_num, HB2.out _⟩
                case measure => simp [intOf]; omega
              · have hkb : (zk == 2) = false := by simp [hk]
                clear her hk
                go_wp2_with fail
                go_roundw
                case rel => exact ⟨m + 1, by omega, by go_num, HB2.out _⟩
                case measure => simp [intOf]; omega
            · have e : m = yl.length := by omega
              subst e
              clear hTs
              go_wp2_with fail
              go_roundw
              case rel => exact ⟨j + 1, by omega, by go_num, hbm⟩
              case measure => simp [intOf]; omega
        · have e : j = xl.length := by omega
          subst e
          clear hBs hl2
          go_wp2_with fail
          go_roundw
          case rel => exact ⟨q + 1, by omega, by go_num, hbj⟩
          case measure => simp [intOf]; omega
    · have e : q = r.length := by omega
      subst e
      go_wp2_with fail
      go_ret
      exact ⟨rfl, hbel⟩
end Go.Proofs.YteodlkgbakkjmaaDoor

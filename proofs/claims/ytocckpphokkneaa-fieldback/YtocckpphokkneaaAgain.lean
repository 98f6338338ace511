/-
  What was put is got, and the other fields stay: the plain mathematics.
-/
import Derived.Test.YtocckpphokkneaaTags
namespace Go.Proofs.Ytocckpphokkneaa

theorem with_has (s : Sn) (f v g : Int) : hasB (withV s f v) g = hasB s g := by
  unfold withV
  repeat' split
  all_goals rfl
theorem with_rest (s : Sn) (f v : Int) : (withV s f v).data = s.data ∧ (withV s f v).to = s.to ∧ (withV s f v).fr = s.fr ∧ (withV s f v).life = s.life := by
  unfold withV
  repeat' split
  all_goals exact ⟨rfl, rfl, rfl, rfl⟩
theorem with_same (s : Sn) (f v : Int) (hf : f = 2 ∨ f = 3 ∨ f = 5 ∨ f = 6 ∨ f = 8 ∨ f = 9) (h0 : 0 ≤ v) (h1 : v < 18446744073709551616) : stV (withV s f v) f = v := by
  rcases hf with rfl | rfl | rfl | rfl | rfl | rfl
  · rfl
  · show v % 18446744073709551616 = v
    omega
  · rfl
  · rfl
  · show v % 18446744073709551616 = v
    omega
  · show v % 18446744073709551616 = v
    omega
theorem with_other (s : Sn) (f v g : Int) (hne : g ≠ f) : stV (withV s f v) g = stV s g := by
  unfold withV
  by_cases c2 : f = 2
  · rw [if_pos c2]; unfold stV; simp only [show ¬ g = 2 by omega, if_false]
  rw [if_neg c2]
  by_cases c3 : f = 3
  · rw [if_pos c3]; unfold stV; simp only [show ¬ g = 3 by omega, if_false]
  rw [if_neg c3]
  by_cases c5 : f = 5
  · rw [if_pos c5]; unfold stV; simp only [show ¬ g = 5 by omega, if_false]
  rw [if_neg c5]
  by_cases c6 : f = 6
  · rw [if_pos c6]; unfold stV; simp only [show ¬ g = 6 by omega, if_false]
  rw [if_neg c6]
  by_cases c8 : f = 8
  · rw [if_pos c8]; unfold stV; simp only [show ¬ g = 8 by omega, if_false]
  rw [if_neg c8]
  by_cases c9 : f = 9
  · rw [if_pos c9]; unfold stV; simp only [show ¬ g = 9 by omega, if_false]
  rw [if_neg c9]
theorem put_ok {s : Sn} {f v : Int} (h : putE s f v = 0) : mayB f = true ∧ hasB s f = true ∧ v ≤ grV f := by
  unfold putE at h
  by_cases c : mayB f = true ∧ hasB s f = true
  · rw [if_pos c] at h
    refine ⟨c.1, c.2, ?_⟩
    by_cases d : v > grV f ∨ (f = 3 ∧ v < 4096)
    · rw [if_pos d] at h; omega
    · omega
  · rw [if_neg c] at h; omega
theorem grV_le (f : Int) : grV f < 18446744073709551616 := by
  unfold grV
  repeat' split
  all_goals omega
/-- What was put is got. -/
theorem put_same (s : Sn) (f v : Int) (h : putE s f v = 0) (h0 : 0 ≤ v) : getV (withV s f v) f = v := by
  obtain ⟨hm, hh, hv⟩ := put_ok h
  have hg := grV_le f
  unfold getV
  rw [with_has, if_pos hh, with_same s f v (may_six hm (has_field hh)) h0 (by omega)]
  exact Int.emod_eq_of_lt h0 (by omega)
/-- The other fields stay. -/
theorem put_other (s : Sn) (f v g : Int) (hne : g ≠ f) : getV (withV s f v) g = getV s g := by
  unfold getV
  rw [with_has, with_other s f v g hne]
theorem put_err (s : Sn) (f v g : Int) : getE (withV s f v) g = getE s g := by
  unfold getE
  rw [with_has]
theorem with_wf (s : Sn) (f v : Int) (hw : Wf s) (h0 : 0 ≤ v) (h1 : v ≤ grV f) : Wf (withV s f v) := by
  obtain ⟨m0, m1, a0, a1, c0, c1⟩ := hw
  have hg := grV_le f
  unfold withV
  by_cases c2 : f = 2
  · rw [if_pos c2]; exact ⟨h0, by show v < 18446744073709551616; omega, a0, a1, c0, c1⟩
  rw [if_neg c2]
  by_cases c3 : f = 3
  · rw [if_pos c3]; exact ⟨m0, m1, a0, a1, c0, c1⟩
  rw [if_neg c3]
  by_cases c5 : f = 5
  · subst c5
    have e : grV 5 = 4294967295 := rfl
    rw [if_pos rfl]; exact ⟨m0, m1, h0, by show v < 4294967296; omega, c0, c1⟩
  rw [if_neg c5]
  by_cases c6 : f = 6
  · subst c6
    have e : grV 6 = 4294967295 := rfl
    rw [if_pos rfl]; exact ⟨m0, m1, a0, a1, h0, by show v < 4294967296; omega⟩
  rw [if_neg c6]
  repeat' split
  all_goals exact ⟨m0, m1, a0, a1, c0, c1⟩
/-- Pop of Push is the packet; what Push laid is got. -/
theorem push_ok {s : Sn} {n : Int} (h : pushE s n = 0) : s.vl = 0 ∧ n ≤ 4095 := by
  unfold pushE at h
  by_cases c : s.vl = 0
  · rw [if_pos c] at h
    refine ⟨c, ?_⟩
    by_cases d : n > 4095
    · rw [if_pos d] at h; omega
    · omega
  · rw [if_neg c] at h; omega
theorem pop_push (s : Sn) (n : Int) (h : pushE s n = 0) (h0 : 0 ≤ n) : popS { s with vl := 4096 + n } = s ∧ popE { s with vl := 4096 + n } = 0 := by
  obtain ⟨hv, hn⟩ := push_ok h
  have hne : ¬ (4096 + n = 0) := by omega
  unfold popS popE
  refine ⟨?_, if_neg hne⟩
  rw [if_neg hne]
  cases s
  simp only at hv
  subst hv
  rfl
theorem get_push (s : Sn) (n : Int) (h0 : 0 ≤ n) (h1 : n ≤ 4095) : getV { s with vl := 4096 + n } 3 = 4096 + n ∧ getE { s with vl := 4096 + n } 3 = 0 := by
  have e : stV { s with vl := 4096 + n } 3 = (4096 + n) % 18446744073709551616 := rfl
  have g : grV 3 = 8191 := rfl
  refine ⟨?_, rfl⟩
  show stV { s with vl := 4096 + n } 3 % (grV 3 + 1) = 4096 + n
  rw [e, g]
  omega
end Go.Proofs.Ytocckpphokkneaa

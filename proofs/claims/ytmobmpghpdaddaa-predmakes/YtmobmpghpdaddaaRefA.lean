/-
  The document's asks, Meet and Pick; the statement's nums.
-/
import Derived.Test.YtmobmpghpdaddaaRefW
namespace Go.Proofs.Ytmobmpghpdaddaa
open Go.ChangeShapes Go.WideShapes Go.ChangeAt Go.RowKit
set_option linter.unusedVariables false
set_option linter.unusedSimpArgs false

theorem range3 {w : World} {b o : Nat} {t : Tst} (h : C3 w b o t) : w.rangeAt b o (tstL t) := fun j v hj => by
  have hl : j < 3 := (List.getElem?_eq_some_iff.1 hj).1
  have : j = 0 ∨ j = 1 ∨ j = 2 := by omega
  rcases this with rfl | rfl | rfl
  · simp [tstL] at hj; subst hj; exact h.1
  · simp [tstL] at hj; subst hj; exact h.2.1
  · simp [tstL] at hj; subst hj; exact h.2.2
theorem c3_of {w : World} {b o : Nat} {t : Tst} (h : w.rangeAt b o (tstL t)) : C3 w b o t := ⟨h 0 _ rfl, h 1 _ rfl, h 2 _ rfl⟩
theorem under_test : Try.prog.underlying 32 = some (.struct (Try.prog.fieldsOf 32)) := by kernel_rfl
theorem info_test : (Try.prog.info? 32).map (·.size) = some 3 := by kernel_rfl
theorem results_test {fn : Func} {p : Tmp} (h : fn.results = #[.cell p 32]) (tmps : Array Value) (w : World) (b : Nat) (t : Tst) (hp : tmps.getD p undef = .pointer (some ⟨b, 0, none⟩)) (hv : C3 w b 0 t) : (results fn tmps).run Try.prog w = .ok (tV t) w := by
  have hp' : tmps[p]?.getD undef = .pointer (some ⟨b, 0, none⟩) := by simpa using hp
  have := run_loadVar_mid (P := Try.prog) w b 0 32 (tstL t) _ (range3 hv) under_test rfl info_test
  simp [results, h, hp', asAddr, this, tstL]
theorem store_test {w : World} {ops : Array Oper} {rest : List Oper} {o : Oper} {a : Go.Act} {Q : Exit → Go.Act → World → Prop} (hgd : o.guard = none) (x y : Operand) (ho : o.op = .store 32 x y) (b off : Nat) (hx : a.eval x = .pointer (some ⟨b, off, none⟩)) (t : Tst) (hy : a.eval y = tV t) (ht : w.there b off 3)
    (hQ : wpList Try.prog ops Q rest (a.put o.dst undef) (w.setCells b off (tstL t))) : wpList Try.prog ops Q (o :: rest) a w :=
  wpList_store_mid hgd 32 x y ho b off (tstL t).toArray hx hy ht info_test (by simp [tstL]; exact ⟨rfl, rfl, rfl⟩) hQ
theorem stored_test {w : World} {b : Nat} (ht : w.there b 0 3) (t : Tst) : C3 (w.setCells b 0 (tstL t)) b 0 t := c3_of (World.rangeAt_setCells_same w b 0 (tstL t) ht)
theorem asks_found {l : List Tst} (h : wholeB l = true) {t : Tst} (ht : t ∈ l) {f : Nat} (hf : t.f = (f : Int)) : tstF (cubF l) f = t := by
  obtain ⟨k1, k2⟩ := fold_at l K.top (Int.le_refl 0) h t ht
  have e : t.f.toNat = f := by omega
  rw [e] at k1 k2
  obtain ⟨tf, tv, tm⟩ := t
  simp only at hf k1 k2
  unfold tstF
  have e1 : (cubF l).m f = tm := k1
  have e2 : (cubF l).v f = tv := k2
  rw [e1, e2, hf]
theorem asks_none {l : List Tst} {f : Nat} (h : ∀ t ∈ l, t.f ≠ (f : Int)) (hw : wholeB l = true) : tstF (cubF l) f = ⟨(f : Int), 0#64, 0#64⟩ := by
  have := cubF_cons_lt l K.top (f := f) (fun t ht e => by
    obtain ⟨t1, _, _⟩ := whole_all hw t ht
    obtain ⟨r1, _⟩ := (trB_iff t).1 t1
    exact h t ht (by omega))
  unfold tstF
  have e1 : (cubF l).m f = 0#64 := this.1
  have e2 : (cubF l).v f = 0#64 := this.2
  rw [e1, e2]
set_option maxRecDepth 20000 in
set_option maxHeartbeats 4000000 in
theorem asks_any (a : Option Addr) (l : List Tst) (cap : Nat) (f : Nat) (w : World) (hs : Ts w a l) (hw : wholeB l = true) (hl : l.length ≤ 9223372036854775807) :
    Calls Try.prog 48 #[.slice a l.length cap, .int .i64 (f : Int)] w fun e w' => e = .returned (tV (tstF (cubF l) f)) ∧ Below w.heap.size w w' := by
  obtain ⟨X, hX⟩ : ∃ X, w.alloc (.cells #[.int .i64 0, .int .u64 0, .int .u64 0] 32) = X := ⟨_, rfl⟩
  have gX : Below w.heap.size w X := by rw [← hX]; go_grown
  have tX : X.there w.heap.size 0 3 := by rw [← hX]; exact there_new w #[.int .i64 0, .int .u64 0, .int .u64 0] 32 3 rfl
  have HX : Hid (Below w.heap.size w X ∧ X.there w.heap.size 0 3 ∧ Ts X a l) := ⟨gX, tX, hs.below gX⟩
  have HFo : Hid (∀ t ∈ l, t.f = (f : Int) → tstF (cubF l) f = t) := (show ∀ t ∈ l, _ from fun t ht hf => asks_found hw ht hf)
  have HNo : Hid ((∀ t ∈ l, t.f ≠ (f : Int)) → tstF (cubF l) f = ⟨(f : Int), 0#64, 0#64⟩) := (show _ → _ from fun h => asks_none h hw)
  have HSt : Hid (∀ t, Below w.heap.size w (X.setCells w.heap.size 0 (tstL t)) ∧ C3 (X.setCells w.heap.size 0 (tstL t)) w.heap.size 0 t) := (show ∀ t, _ from fun t => ⟨below_setCells gX (Nat.le_refl _) _ _, stored_test tX t⟩)
  have H0 : Hid (∀ t ∈ l.take 0, t.f ≠ (f : Int)) := (show ∀ t ∈ l.take 0, _ from fun t ht => by simp at ht)
  obtain ⟨R, hR⟩ : ∃ R, tstF (cubF l) f = R := ⟨_, rfl⟩
  rw [hR] at HFo HNo ⊢
  clear hs hw gX tX hR
  go_enter Try.func48, Try.ntmps48
  go_wp2_with fail
  clear hX
  go_loopw [5] (fun v5 wr => ∃ i : Nat, i ≤ l.length ∧ v5 = .int .i64 i ∧ Hid (∀ t ∈ l.take i, t.f ≠ (f : Int)) ∧ wr = X) (fun v5 _ => l.length - (intOf v5).toNat)
  case atStart => exact ⟨0, Nat.zero_le _, rfl, H0, rfl⟩
  case round =>
    obtain ⟨i, hi, rfl, HK, hwr⟩ := hrel
    obtain rfl : X = wr := hwr.symm
    clear H0 hwr
    by_cases hlt : i < l.length
    · obtain ⟨g, o, rfl, hg, hc⟩ := HX.out.2.2.at hlt
      obtain ⟨c0, c1, c2⟩ := hc i hlt
      have HF1 : Hid (l[i].f = (f : Int) → R = l[i]) := (show _ → _ from fun h => (HFo.out _ (List.getElem_mem hlt) h).symm ▸ rfl)
      have HN1 : Hid (l[i].f ≠ (f : Int) → ∀ t ∈ l.take (i + 1), t.f ≠ (f : Int)) := (show _ → _ from fun h t ht => by
        rw [List.take_succ_eq_append_getElem hlt] at ht
        rcases List.mem_append.1 ht with ht | ht
        · exact HK.out t ht
        · rw [List.mem_singleton] at ht; subst ht; exact h)
      generalize l[i] = t at *
      clear hc HK HFo HNo
      obtain ⟨tf, tv, tm⟩ := t
      simp only at c0 c1 c2 HF1 HN1
      by_cases hf : tf = (f : Int)
      · have HE : Hid (R = ⟨(f : Int), tv, tm⟩) := (show _ = _ by rw [HF1.out hf, hf])
        have HS2 := HSt.out ⟨(f : Int), tv, tm⟩
        have HS3 : Hid (Below w.heap.size w (X.setCells w.heap.size 0 (tstL ⟨(f : Int), tv, tm⟩)) ∧ C3 (X.setCells w.heap.size 0 (tstL ⟨(f : Int), tv, tm⟩)) w.heap.size 0 ⟨(f : Int), tv, tm⟩) := HS2
        clear HS2 HSt
        subst hf
        clear HF1 HN1
        go_wp2_with (refine store_test rfl (.tmp 4) (.tmp 22) rfl w.heap.size 0 rfl ⟨(f : Int), tv, tm⟩ rfl HX.out.2.1 ?_; generalize X.setCells w.heap.size 0 (tstL ⟨(f : Int), tv, tm⟩) = W at *)
        rw [HE.out]
        exact bodyPost_ret (results_test rfl _ _ w.heap.size _ rfl HS3.out.2) rfl ⟨rfl, HS3.out.1⟩
      · have HN2 := HN1.out hf
        have HN3 : Hid (∀ t ∈ l.take (i + 1), t.f ≠ (f : Int)) := HN2
        have q1 : (tf == (f : Int)) = false := by simpa using hf
        clear HF1 HN1 HN2
        go_wp2_with fail
        go_roundw
        case rel => exact ⟨i + 1, by omega, by go_num, HN3, by first | rfl | trivial⟩
        case measure => simp [intOf]; omega
    · have HE : Hid (R = ⟨(f : Int), 0#64, 0#64⟩) := (show _ = _ by
        have := HK.out
        rw [List.take_of_length_le (by omega)] at this
        exact (HNo.out this).symm ▸ rfl)
      have HS3 : Hid (Below w.heap.size w (X.setCells w.heap.size 0 (tstL ⟨(f : Int), 0#64, 0#64⟩)) ∧ C3 (X.setCells w.heap.size 0 (tstL ⟨(f : Int), 0#64, 0#64⟩)) w.heap.size 0 ⟨(f : Int), 0#64, 0#64⟩) := HSt.out _
      clear HSt HFo HNo HK
      go_wp2_with (refine store_test rfl (.tmp 4) (.tmp 24) rfl w.heap.size 0 rfl ⟨(f : Int), 0#64, 0#64⟩ rfl HX.out.2.1 ?_; generalize X.setCells w.heap.size 0 (tstL ⟨(f : Int), 0#64, 0#64⟩) = W at *)
      rw [HE.out]
      exact bodyPost_ret (results_test rfl _ _ w.heap.size _ rfl HS3.out.2) rfl ⟨rfl, HS3.out.1⟩
end Go.Proofs.Ytmobmpghpdaddaa

/-
  What read answers, as a contract.
-/
import Derived.Test.YtjmnnjhaiecglaaDoorReadT
import Derived.Laws.AppendOwn
import Derived.Laws.OwnMore
namespace Go.Proofs.YtjmnnjhaiecglaaDoor
open Go.ChangeShapes Go.WideShapes Go.ChangeAt Go.RowKit

theorem noB_size : noB.size = 0 := rfl
/-- Once something is wrong nothing is left. -/
def RI (r : RS) : Prop := r.e ≠ 0 → r.s.size = 0
theorem RI.skip {r : RS} (h : RI r) (n : Int) : RI (r.skip n) := by
  unfold RI RS.skip takeS takeE
  by_cases he : r.e = 0
  · by_cases hm : szB n = true
    · by_cases hn : n ≤ r.s.size
      · simp [he, hm, hn]
      · simp [he, hm, hn, noB_size]
    · simp [he, hm, noB_size]
  · have := h he
    simp [he, this]
theorem RI.rest {r : RS} (h : RI r) : RI (restR r) := by
  unfold restR r3R
  split
  · exact (((((h.skip _).skip _).skip _).skip _).skip _)
  · exact ((((h.skip _).skip _).skip _).skip _)
theorem skip2_lt {r : RS} (h : RI r) (hp : 0 < r.s.size) : (r.skip 2).s.size < r.s.size := by
  have he : r.e = 0 := by
    by_cases he : r.e = 0
    · exact he
    · have := h he; omega
  unfold RS.skip takeS
  have hm : szB 2 = true := by decide
  by_cases hn : (2 : Int) ≤ r.s.size
  · simp only [he, hm, hn, and_self, if_true]
    rw [ByteArray.size_extract]
    have : (2 : Int).toNat = 2 := rfl
    omega
  · simp only [he, hm, hn, and_false, if_true, if_false]
    rw [noB_size]; exact hp
theorem rest_lt {r : RS} (h : RI r) (hp : 0 < r.s.size) : (restR r).s.size < r.s.size := by
  have h2 := skip2_lt h hp
  have h3 : (r3R r).s.size ≤ (r.skip 2).s.size := Nat.le_trans (RS.skip_size _ _) (RS.skip_size _ _)
  unfold restR
  split
  · exact Nat.lt_of_le_of_lt (Nat.le_trans (RS.skip_size _ _) (Nat.le_trans (RS.skip_size _ _) h3)) h2
  · exact Nat.lt_of_le_of_lt (Nat.le_trans (RS.skip_size _ _) h3) h2
/-- The tests that are read. -/
def readN : Nat → RS → List T
  | 0, _ => []
  | n + 1, r => if 0 < r.s.size then readT r :: readN n (restR r) else []
theorem readN_fuel : ∀ (k : Nat) (r : RS), RI r → r.s.size ≤ k → readN k r = readN r.s.size r := by
  intro k
  induction k using Nat.strongRecOn with
  | ind k ih =>
    intro r hr hk
    cases hs : r.s.size with
    | zero =>
      cases k with
      | zero => rfl
      | succ k => simp [readN, hs]
    | succ m =>
      cases k with
      | zero => omega
      | succ k =>
        have hp : 0 < r.s.size := by omega
        have hl := rest_lt hr hp
        rw [readN, readN, if_pos hp, if_pos hp, ih k (by omega) (restR r) hr.rest (by omega), ← ih m (by omega) (restR r) hr.rest (by omega)]
theorem readN_step {r : RS} (hr : RI r) (hp : 0 < r.s.size) : readN r.s.size r = readT r :: readN (restR r).s.size (restR r) := by
  obtain ⟨m, hm⟩ : ∃ m, r.s.size = m + 1 := ⟨r.s.size - 1, by omega⟩
  have hl := rest_lt hr hp
  have e : readN r.s.size r = readN (m + 1) r := by rw [hm]
  rw [e, readN, if_pos hp, readN_fuel m (restR r) hr.rest (by omega)]
theorem readT_w (r : RS) : TW (readT r) := by
  have hz := szV_le (fR r)
  have p8 : ∀ q : RS, 0 ≤ q.num (szV (fR r)) ∧ q.num (szV (fR r)) < 18446744073709551616 := fun q => by
    have h := RS.num_lt q (szV (fR r)) hz
    have h2 := Nat.pow_le_pow_right (show 0 < 256 by decide) hz
    have h3 := Int.ofNat_le.mpr h2
    rw [Int.natCast_pow, Int.natCast_pow] at h3
    exact ⟨h.1, Int.lt_of_lt_of_le h.2 h3⟩
  have hg := grV_lt (fR r)
  refine ⟨(p8 _).1, (p8 _).2, ?_, ?_⟩
  · unfold readT; simp only; split
    · exact (p8 _).1
    · exact hg.1
  · unfold readT; simp only; split
    · exact (p8 _).2
    · exact hg.2
theorem readN_w : ∀ (k : Nat) (r : RS), TWs (readN k r)
  | 0, _ => by simp [readN, TWs]
  | k + 1, r => by
    unfold readN
    split
    · intro t ht
      rcases List.mem_cons.1 ht with rfl | ht
      · exact readT_w r
      · exact readN_w k _ t ht
    · simp [TWs]
theorem readN_len : ∀ (k : Nat) (r : RS), (readN k r).length ≤ k
  | 0, _ => by simp [readN]
  | k + 1, r => by
    unfold readN
    split
    · rw [List.length_cons]; have := readN_len k (restR r); omega
    · simp

/-- Tests as cells. -/
def flat (l : List T) : List Value := l.flatMap fun t => [.int .i64 t.1, .int .u64 t.2.1, .int .u64 t.2.2]
theorem flat_length : ∀ l : List T, (flat l).length = l.length * 3
  | [] => rfl
  | t :: l => by simp only [flat, List.flatMap_cons, List.length_append, List.length_cons, List.length_nil]; have := flat_length l; unfold flat at this; rw [this]; omega
theorem flat_snoc (l : List T) (t : T) : flat (l ++ [t]) = flat l ++ [.int .i64 t.1, .int .u64 t.2.1, .int .u64 t.2.2] := by simp [flat]
theorem flat_at : ∀ (l : List T) (i : Nat) (h : i < l.length), (flat l)[i * 3]? = some (.int .i64 l[i].1) ∧ (flat l)[i * 3 + 1]? = some (.int .u64 l[i].2.1) ∧ (flat l)[i * 3 + 2]? = some (.int .u64 l[i].2.2)
  | t :: l, 0, _ => by simp [flat]
  | t :: l, i + 1, h => by
    have ih := flat_at l i (by simpa using h)
    unfold flat at ih ⊢
    rw [List.flatMap_cons, show (i + 1) * 3 = i * 3 + 3 by omega]
    simpa using ih
theorem infoT : (Tryd.prog.info? 47).map (fun i => (i.zero, i.size, i.bytes)) = some (some (.agg #[.int .i64 0, .int .u64 0, .int .u64 0]), 3, 24) := by kernel_rfl
theorem gro_grown {b : Nat} {x y : World} (g : Gro b x y) : x.grownBy y (some b) := ⟨g.os, g.tape, g.output, g.size, fun k hk hne => g.block k hk (fun h => hne (by rw [h]))⟩

theorem Rd.block {w w' : World} {b : Nat} {s : ByteArray} {e : Int} (r : Rd w b s e) (g : w'.heap[b]? = w.heap[b]?) : Rd w' b s e :=
  ⟨(World.cell?_of_block (w := w) g).trans r.c0, (World.cell?_of_block (w := w) g).trans r.c1, (World.frozen?_of_block (w := w) g).trans r.f0, (World.frozen?_of_block (w := w) g).trans r.f1⟩
theorem own_ne {w : World} {base : Nat} {e : TypeId} {size : Nat} {v : Value} {n : Nat} {xs : List Value} {b : Nat} (h : w.ownsRow base e size v n xs) (hb : b < base) : v.ownBlock = none ∨ v.ownBlock ≠ some b := by
  cases hv : v.ownBlock with
  | none => exact .inl rfl
  | some q => right; intro hq; have := (h.lt q hv).1; cases hq; omega
set_option maxHeartbeats 8000000 in
theorem readL_any (s : ByteArray) (w : World) (hs : s.size ≤ 100000) (hd : Cd w) :
    Calls Tryd.prog 40 #[.string s] w fun e w' => ∃ a cap, e = .returned (.slice a (readN s.size ⟨s, 0⟩).length cap) ∧ (readN s.size ⟨s, 0⟩).length ≤ cap ∧ Ts w' a (readN s.size ⟨s, 0⟩) ∧ Below w.heap.size w w' := by
  have HR : Hid (∀ w, Calls Tryd.prog 64 #[.string s] w fun x w' => x = .returned (.pointer (some ⟨w.heap.size, 0, none⟩)) ∧ w' = w.alloc (.cells #[.string s, .int .i64 0] 104)) := fun w => read_any s w
  have HT : Hid (∀ (r : RS) (w' : World), r.s.size ≤ 100000 → Rd w' w.heap.size r.s r.e → w.heap.size < w'.heap.size → Cd w' → Calls Tryd.prog 67 #[.pointer (some ⟨w.heap.size, 0, none⟩)] w' fun e w'' => e = .returned (tV (readT r)) ∧ Rd w'' w.heap.size (restR r).s (restR r).e ∧ Gro w.heap.size w' w'') := fun r w' hz h hb hd' => readTest_any _ r w' (by unfold maxLen; omega) h hb hd' (by have := hd.pos; omega)
  obtain ⟨i0, hi, hz0, hz1, hz2⟩ := info_parts infoT
  generalize hL : readN s.size ⟨s, 0⟩ = L
  have hLl : L.length ≤ 100000 := by rw [← hL]; exact Nat.le_trans (readN_len _ _) hs
  go_enter Tryd.func40, Tryd.ntmps40
  go_wp2_with fail
  refine (HR.out _).mono ?_
  rintro x w1 ⟨rfl, rfl⟩
  go_wp2_with fail
  go_loopw [3] (fun v wr => ∃ (l : List T) (r : RS), L = l ++ readN r.s.size r ∧ RI r ∧ r.s.size ≤ 100000 ∧ Rd wr w.heap.size r.s r.e ∧ wr.ownsRow (w.heap.size + 1) 47 3 v l.length (flat l) ∧ w.heap.size < wr.heap.size ∧ Below w.heap.size w wr)
    (fun _ wr => match wr.cell? ⟨w.heap.size, 0, none⟩ with | some (.string q) => q.size | _ => 0)
  case atStart => exact ⟨[], ⟨s, 0⟩, by rw [hL]; rfl, fun h => absurd rfl h, hs, Rd.new w s 0 _, World.ownsRow_nil _ _ _ _, by simp, by go_grown⟩
  case round =>
    obtain ⟨l, r, hl, hri, hrs, hrd, hown, hsz, hbel⟩ := hrel
    have hrd0 := hrd.c0
    by_cases hp : 0 < r.s.size
    · have hp' : (r.s.size : Int) > 0 := by omega
      have hstep := readN_step hri hp
      have HL : Hid (L = (l ++ [readT r]) ++ readN (restR r).s.size (restR r)) := (show _ = _ by rw [hl, hstep]; simp)
      have hlt := rest_lt hri hp
      have hll : l.length + 1 ≤ 100000 := by
        have := congrArg List.length HL.out
        simp at this
        omega
      clear hl hstep
      go_wp2_with fail
      refine (left_any _ r.s r.e _ hrd).mono ?_
      rintro x w2 ⟨rfl, rfl⟩
      go_wp2_with fail
      refine (HT.out r _ hrs hrd hsz (hd.below hbel)).mono ?_
      rintro x w3 ⟨rfl, r3, g3⟩
      have hne := own_ne (b := w.heap.size) hown (by omega)
      have hown3 := hown.kept (gro_grown g3) hne
      have hbel3 := g3.below hbel (Nat.le_refl _)
      have hsz3 := Nat.lt_of_lt_of_le hsz g3.size
      clear hown hrd hbel hsz g3 hne
      go_wp2_with (at_builtin; refine wpList_append_own _ rfl _ _ 22 rfl (w.heap.size + 1) 47 i0 (.agg #[.int .i64 0, .int .u64 0, .int .u64 0]) 3 24 Tryd.underlying22 hi hz0 hz1 hz2 rfl (by decide) _ _ _ rfl (hown3.alloc _) ⟨w3.heap.size, 0, none⟩ 1 1 [.int .i64 (readT r).1, .int .u64 (readT r).2.1, .int .u64 (readT r).2.2] rfl rfl ?c1 ?c2 ?c3 ?c4 ?c5 ?_)
      case c1 =>
        intro j u hj
        match j, hj with
        | 0, hj => simp at hj; subst hj; simp [Addr.add]
        | 1, hj => simp at hj; subst hj; simp [Addr.add]
        | 2, hj => simp at hj; subst hj; simp [Addr.add]
      case c2 => intro u hu; simp at hu; rcases hu with rfl | rfl | rfl <;> rfl
      case c3 => unfold maxLen; omega
      case c4 => omega
      case c5 => simp; omega
      · intro v' w4 hown' hgrow _
        have R1 : w4.ownsRow (w.heap.size + 1) 47 3 v' (l ++ [readT r]).length (flat (l ++ [readT r])) := by
          rw [flat_snoc, List.length_append]
          exact hown'
        have hrow := fun q hq => (hown3.lt q hq).1
        have R2 : Below w.heap.size w w4 := (hbel3.alloc hbel3.size _).grown hgrow (by simp; omega) (fun q hq => by have := hrow q hq; omega)
        have R3 : Rd w4 w.heap.size (restR r).s (restR r).e := by
          refine r3.block ?_
          refine (hgrow.block w.heap.size (by simp; omega) (fun h => by have := hrow _ h.symm; omega)).trans ?_
          exact heap_alloc_old w3 _ (by omega)
        have R4 : w.heap.size < w4.heap.size := Nat.lt_of_lt_of_le (by simp; omega) hgrow.size
        have hm3 := R3.c0
        clear hown' hgrow hown3 hbel3 hrow r3
        go_wp2
        go_roundw
        case rel => exact ⟨l ++ [readT r], restR r, HL.out, hri.rest, by omega, R3, R1, R4, R2⟩
        case measure =>
          simp only [hm3, hrd0]
          exact hlt
    · have hz : r.s.size = 0 := by omega
      have hp' : ¬ ((r.s.size : Int) > 0) := by omega
      have hLe : L = l := by rw [hl, hz]; simp [readN]
      subst hLe
      clear hl
      go_wp2_with fail
      refine (left_any _ r.s r.e _ hrd).mono ?_
      rintro x w2 ⟨rfl, rfl⟩
      rcases hown.2 with ⟨rfl, h'⟩ | ⟨g, cap, cur, rfl, hbg, hhg, hnc, _⟩
      · go_wp2_with fail
        go_ret
        refine ⟨none, 0, ?_, by omega, .inl (List.length_eq_zero_iff.1 h'), hbel⟩
        rw [h']; rfl
      · go_wp2_with fail
        go_ret
        have hlt2 := (hown.lt g rfl).2
        refine ⟨some ⟨g, 0, none⟩, cap, rfl, hnc, .inr ⟨g, 0, rfl, hlt2, fun i hi => ?_⟩, hbel⟩
        obtain ⟨x0, x1, x2⟩ := flat_at L i hi
        refine ⟨?_, ?_, ?_⟩
        · rw [show 0 + i * 3 = i * 3 by omega, hown.cellAt (i * 3) (by omega)]; exact x0
        · rw [show 0 + i * 3 + 1 = i * 3 + 1 by omega, hown.cellAt (i * 3 + 1) (by omega)]; exact x1
        · rw [show 0 + i * 3 + 2 = i * 3 + 2 by omega, hown.cellAt (i * 3 + 2) (by omega)]; exact x2
end Go.Proofs.YtjmnnjhaiecglaaDoor

/-
  The document's Same, Is, Made.
-/
import Derived.Test.YtmobmpghpdaddaaRefR
import Derived.BigQuiet
import Derived.Test.YtmobmpghpdaddaaJoin
namespace Go.Proofs.Ytmobmpghpdaddaa
open Go.ChangeShapes Go.WideShapes Go.ChangeAt Go.RowKit
set_option linter.unusedVariables false
set_option linter.unusedSimpArgs false

set_option maxRecDepth 20000 in
set_option maxHeartbeats 4000000 in
theorem rsame_any (a : Option Addr) (L : List Nd) (cap : Nat) (b : Option Addr) (mc : Nat) (w : World) (hs : Ns w a L) (ht : Ns w b L) (hl : L.length ≤ 1000) (hss : ∀ x ∈ L, x.s.length ≤ 1000) :
    Calls Try.prog 16 #[.agg #[.slice a L.length cap], .agg #[.slice b L.length mc]] w fun e w' => e = .returned (.bool true) ∧ Below w.heap.size w w' := by
  obtain ⟨X, hX⟩ : ∃ X, (w.alloc (.cells #[.slice a L.length cap] 24)).alloc (.cells #[.slice b L.length mc] 24) = X := ⟨_, rfl⟩
  have gX : Below w.heap.size w X := by rw [← hX]; go_grown
  have zX : X.heap.size = w.heap.size + 2 := by rw [← hX]; simp
  have c0 : X.cell? ⟨w.heap.size, 0, none⟩ = some (.slice a L.length cap) := by rw [← hX]; simp
  have c1 : X.cell? ⟨w.heap.size + 1, 0, none⟩ = some (.slice b L.length mc) := by rw [← hX]; simp
  have HG : Hid (Below w.heap.size w X ∧ w.heap.size + 1 < X.heap.size) := ⟨gX, by omega⟩
  have HC : Hid (∀ u, Below X.heap.size X u → u.cell? ⟨w.heap.size, 0, none⟩ = some (.slice a L.length cap) ∧ u.cell? ⟨w.heap.size + 1, 0, none⟩ = some (.slice b L.length mc)) := (show ∀ u, _ from fun u g => ⟨(g.cell (p := ⟨w.heap.size, 0, none⟩) (by show w.heap.size < _; omega)).trans c0, (g.cell (p := ⟨w.heap.size + 1, 0, none⟩) (by show w.heap.size + 1 < _; omega)).trans c1⟩)
  have HS : Hid (Ns X a L ∧ Ns X b L) := ⟨hs.below gX, ht.below gX⟩
  have HSS : Hid (∀ x ∈ L, x.s.length ≤ 1000) := hss
  obtain ⟨n, hn⟩ : ∃ n, L.length = n := ⟨_, rfl⟩
  have HN : Hid (L.length = n) := hn
  rw [hn] at c0 c1 hX hl HC ⊢
  clear hs ht hss gX zX hn
  go_enter Try.func16, Try.ntmps16
  go_wp2_with fail
  clear hX c0 c1
  go_loopw [5] (fun v5 wr => ∃ k : Nat, k ≤ n ∧ v5 = .int .i64 k ∧ Hid (Below X.heap.size X wr)) (fun v5 _ => n - (intOf v5).toNat)
  case atStart => exact ⟨0, Nat.zero_le _, rfl, Below.refl _ _⟩
  case round =>
    obtain ⟨k, hk, rfl, HB⟩ := hrel
    obtain ⟨k1, k2⟩ := HC.out wr HB.out
    by_cases hlt : k < n
    · have hkl : k < L.length := by have := HN.out; omega
      obtain ⟨g, o, rfl, hg, xa, xc, hN1, _, hI1⟩ := (HS.out.1.below HB.out).at hkl
      obtain ⟨g2, o2, rfl, hg2, ya, yc, hN2, _, hI2⟩ := (HS.out.2.below HB.out).at hkl
      have hxl := HSS.out _ (List.getElem_mem hkl)
      obtain ⟨x, hx⟩ : ∃ y, L[k] = y := ⟨_, rfl⟩
      rw [hx] at hN1 hN2 hI1 hI2 hxl
      obtain ⟨V, hV, hNV, gV, zV⟩ := boxN wr x xa xc
      have hN2V := hN2.block (gV.block g2 hg2)
      obtain ⟨V2, hV2, hNW, gW, zW⟩ := boxN V x ya yc
      have hNV2 := hNV.block (gW.block _ (by omega))
      have gT : Below wr.heap.size wr V2 := btr gV gW (by omega)
      have HV : Hid (Below X.heap.size X V2 ∧ Is V2 xa x.s ∧ Is V2 ya x.s) := ⟨btr HB.out gT (Nat.le_refl _), hI1.below gT, hI2.below gT⟩
      have k3 := (gV.cell (p := ⟨w.heap.size + 1, 0, none⟩) (by have := HB.out.size; have := HG.out.2; show w.heap.size + 1 < _; omega)).trans k2
      have k4 : V2.cell? ⟨w.heap.size, 0, none⟩ = some (.slice (some ⟨g, o, none⟩) n cap) := (gT.cell (p := ⟨w.heap.size, 0, none⟩) (by have := HB.out.size; have := HG.out.2; show w.heap.size < _; omega)).trans k1
      obtain ⟨p0, p1, p2, p3, p4⟩ := hN1
      obtain ⟨q0, q1, q2, q3, q4⟩ := hN2V
      obtain ⟨r0, r1, r2, r3, r4⟩ := hNV2
      obtain ⟨s0, s1, s2, s3, s4⟩ := hNW
      rw [zV] at s0 s1 s2 s3 s4
      obtain ⟨bw, hbw⟩ : ∃ y, wr.heap.size = y := ⟨_, rfl⟩
      have hzv : V.heap.size = bw + 1 := by omega
      rw [hbw] at r0 r1 r2 r3 r4 s0 s1 s2 s3 s4
      have b1 : (x.k != x.k) = false := by simp
      have b2 : (x.t.f != x.t.f) = false := by simp
      have b3 : (nb x.t.v != nb x.t.v) = false := by simp
      have b4 : (nb x.t.m != nb x.t.m) = false := by simp
      have hz2 : bw + 1 < V2.heap.size := by omega
      clear hN2 hx hI1 hI2 gV gW gT zW hg hg2
      go_wp2_with fail
      go_loopw [8] (fun v8 wr2 => ∃ j : Nat, j ≤ x.s.length ∧ v8 = .int .i64 j ∧ Hid (Below V2.heap.size V2 wr2)) (fun v8 _ => x.s.length - (intOf v8).toNat)
      case atStart => exact ⟨0, Nat.zero_le _, rfl, Below.refl _ _⟩
      case round =>
        obtain ⟨j, hj, rfl, HW⟩ := hrel
        have f1 := (HW.out.cell (p := ⟨bw, 4, none⟩) (by show bw < _; omega)).trans r4
        have f2 := (HW.out.cell (p := ⟨bw + 1, 4, none⟩) (by show bw + 1 < _; omega)).trans s4
        by_cases hlt2 : j < x.s.length
        · obtain ⟨g3, o3, rfl, hg3, hc3⟩ := (HV.out.2.1.below HW.out).at hlt2
          obtain ⟨g4, o4, rfl, hg4, hc4⟩ := (HV.out.2.2.below HW.out).at hlt2
          have e3 := hc3 j hlt2
          have e4 := hc4 j hlt2
          generalize x.s[j] = z at *
          have b5 : (z != z) = false := by simp
          clear hc3 hc4 hg3 hg4
          go_wp2_with fail
          go_quiet (fail)
          go_wp2_with fail
          go_roundw
          case rel => exact ⟨j + 1, by omega, by go_num, bdr HW.out _⟩
          case measure => simp [intOf]; omega
        · clear HSS
          go_wp2_with fail
          refine ⟨⟨k + 1, by omega, by go_num, btr HV.out.1 HW.out (Nat.le_refl _)⟩, by simp [intOf]; omega⟩
    · go_wp2_with fail
      go_ret
      exact ⟨rfl, btr HG.out.1 HB.out (by have := HG.out.2; omega)⟩
end Go.Proofs.Ytmobmpghpdaddaa
namespace Go.Proofs.Ytmobmpghpdaddaa
open Go.ChangeShapes Go.WideShapes Go.ChangeAt Go.RowKit
set_option linter.unusedVariables false
set_option linter.unusedSimpArgs false

set_option maxRecDepth 20000 in
set_option maxHeartbeats 4000000 in
theorem ris_any (t : Tst) (w : World) : Calls Try.prog 20 #[tV t] w fun e w' => PrR w (isL t) e w' := by
  obtain ⟨X, hX⟩ : ∃ X, (w.alloc (.cells #[.int .i64 t.f, cv t.v, cv t.m] 32)).alloc (.cells #[.slice none 0 0] 24) = X := ⟨_, rfl⟩
  have gX : Below w.heap.size w X := by rw [← hX]; go_grown
  have zX : X.heap.size = w.heap.size + 2 := by rw [← hX]; simp
  have d0 : X.cell? ⟨w.heap.size, 0, none⟩ = some (.int .i64 t.f) := by rw [← hX]; simp
  have d1 : X.cell? ⟨w.heap.size, 1, none⟩ = some (cv t.v) := by rw [← hX]; simp
  have d2 : X.cell? ⟨w.heap.size, 2, none⟩ = some (cv t.m) := by rw [← hX]; simp
  have d3 : X.cell? ⟨w.heap.size + 1, 0, none⟩ = some (.slice none 0 0) := by rw [← hX]; simp
  have d4 : X.frozen? ⟨w.heap.size + 1, 0, none⟩ = false := by rw [← hX]; simp
  have HG : Hid (Below w.heap.size w X ∧ X.heap.size = w.heap.size + 2) := ⟨gX, zX⟩
  have HR : Hid (Calls Try.prog 45 #[tV t] X fun e w' => e = .returned (.bool (trB t)) ∧ Below X.heap.size X w') := rright_test t X
  have HK : Hid (∀ u, Below X.heap.size X u → u.cell? ⟨w.heap.size, 0, none⟩ = some (.int .i64 t.f) ∧ u.cell? ⟨w.heap.size, 1, none⟩ = some (cv t.v) ∧ u.cell? ⟨w.heap.size, 2, none⟩ = some (cv t.m) ∧ u.cell? ⟨w.heap.size + 1, 0, none⟩ = some (.slice none 0 0) ∧ u.frozen? ⟨w.heap.size + 1, 0, none⟩ = false) := (show ∀ u, _ from fun u g => by
    obtain ⟨k1, k2⟩ := bcell g
    exact ⟨(k1 _ _ (by omega)).trans d0, (k1 _ _ (by omega)).trans d1, (k1 _ _ (by omega)).trans d2, (k1 _ _ (by omega)).trans d3, (k2 _ _ (by omega)).trans d4⟩)
  unfold isL
  clear gX zX
  cases hb : trB t with
  | false =>
    rw [hb] at HR
    clear hb
    go_enter Try.func20, Try.ntmps20
    go_wp2_with (go_at_call 45; refine HR.out.mono ?_; rintro r w1 ⟨rfl, hb⟩; have HB1 : Hid (Below X.heap.size X w1) := hb; (obtain ⟨e0, e1, e2, e3, e4⟩ := HK.out w1 hb); clear hb)
    exact bodyPost_ret (results_pred rfl _ _ (w.heap.size + 1) (.slice none 0 0) rfl (World.cell?_setCell_same _ _ _ e3)) rfl ⟨_, [], rfl, NR.nil _ _, rfl, (btr HG.out.1 HB1.out (by have := HG.out.2; omega)).setCell (by simp) _⟩
  | true =>
    rw [hb] at HR
    clear hb
    have HY : Hid (∀ w1, Below X.heap.size X w1 → ∀ W2, W2 = w1.alloc (.cells #[.int .i64 3, .int .i64 t.f, cv t.v, cv t.m, .slice none 0 0] 39) → W2.there (w.heap.size + 1) 0 1 ∧ NR w.heap.size (W2.setCell ⟨w.heap.size + 1, 0, none⟩ (.slice (some ⟨w1.heap.size, 0, none⟩) 1 1)) (.slice (some ⟨w1.heap.size, 0, none⟩) 1 1) [⟨⟨3, t, []⟩, none, 0⟩] ∧ Below w.heap.size w (W2.setCell ⟨w.heap.size + 1, 0, none⟩ (.slice (some ⟨w1.heap.size, 0, none⟩) 1 1)) ∧ (W2.setCell ⟨w.heap.size + 1, 0, none⟩ (.slice (some ⟨w1.heap.size, 0, none⟩) 1 1)).cell? ⟨w.heap.size + 1, 0, none⟩ = some (.slice (some ⟨w1.heap.size, 0, none⟩) 1 1)) := (show ∀ w1, _ from fun w1 g W2 hW => by
      have hz := HG.out.2
      have hz1 := g.size
      have h1 : Own 39 nhL 5 w1.heap.size W2 (.slice (some ⟨w1.heap.size, 0, none⟩) 1 1) [⟨⟨3, t, []⟩, none, 0⟩] := by rw [hW]; exact own_one kdN 39 w1 ⟨⟨3, t, []⟩, none, 0⟩
      have gW : Below w1.heap.size w1 W2 := by rw [hW]; go_grown
      have hc : W2.cell? ⟨w.heap.size + 1, 0, none⟩ = some (.slice none 0 0) := (gW.cell (p := ⟨w.heap.size + 1, 0, none⟩) (by show w.heap.size + 1 < _; omega)).trans (HK.out w1 g).2.2.2.1
      have hf : W2.frozen? ⟨w.heap.size + 1, 0, none⟩ = false := ((bcell gW).2 _ _ (by omega)).trans (HK.out w1 g).2.2.2.2
      refine ⟨fun j hj => ?_, ⟨own_base (own_chg h1 (fun j hj => setCell_block _ _ _ _ (fun e => by subst e; have := (own_lt h1 hj).1; omega))) (by omega), fun x hx => ?_⟩, (btr (btr HG.out.1 g (by omega)) gW (by omega)).setCell (by simp) _, World.cell?_setCell_same _ _ _ hc⟩
      · obtain rfl : j = 0 := by omega
        exact ⟨by rw [Nat.add_zero, hc]; rfl, by rw [Nat.add_zero, hf]⟩
      · rw [List.mem_singleton] at hx
        subst hx
        exact ⟨⟨Nat.le_refl _, .inl rfl⟩, fun q h => by cases h⟩)
    go_enter Try.func20, Try.ntmps20
    go_wp2_with (first
      | (go_at_call 45; refine HR.out.mono ?_; rintro r w1 ⟨rfl, hb⟩; have HB1 : Hid (Below X.heap.size X w1) := hb; (obtain ⟨e0, e1, e2, e3, e4⟩ := HK.out w1 hb); clear hb)
      | (have HY2 := HY.out w1 HB1.out _ rfl; refine store_pred rfl (.tmp 2) (.tmp 10) rfl (w.heap.size + 1) 0 rfl (.slice (some ⟨w1.heap.size, 0, none⟩) 1 1) rfl rfl HY2.1 ?_; have HZ : Hid _ := HY2.2; clear HY2))
    exact bodyPost_ret (results_pred rfl _ _ (w.heap.size + 1) (.slice (some ⟨w1.heap.size, 0, none⟩) 1 1) rfl HZ.out.2.2) rfl ⟨_, _, rfl, HZ.out.1, rfl, HZ.out.2.1⟩
/-- The document's way: it stops at sixty nodes, and knows no bound of parts. -/
def mdL : List Nd → List Int → List (List Nd) → Option (List Nd × List Int)
  | acc, tops, [] => some (acc, tops)
  | acc, tops, l :: ls => if rightB l && decide (acc.length + l.length < 60) then mdL (acc ++ l.map (mvN acc.length)) (tops ++ [((acc.length + l.length : Nat) : Int) - 1]) ls else none
theorem joinL_len : ∀ (ls : List (List Nd)) (acc : List Nd) (tops : List Int) (a : List Nd) (t : List Int), joinL acc tops ls = some (a, t) → acc.length ≤ a.length ∧ t.length = tops.length + ls.length
  | [], acc, tops, a, t, h => by cases h; exact ⟨Nat.le_refl _, rfl⟩
  | l :: ls, acc, tops, a, t, h => by
    unfold joinL at h
    split at h
    · have := joinL_len ls _ _ a t h
      rw [List.length_append, List.length_append] at this
      simp only [List.length_cons, List.length_nil] at this ⊢
      exact ⟨by omega, by omega⟩
    · cases h
theorem endL_long {k : Int} {a : List Nd} {t : List Int} (h : 60 ≤ a.length) : endL k (some (a, t)) = [] := by
  show (if rightB (a ++ [⟨k, zT, t⟩]) then a ++ [⟨k, zT, t⟩] else []) = []
  have : rightB (a ++ [⟨k, zT, t⟩]) = false := by
    cases hr : rightB (a ++ [⟨k, zT, t⟩]) with
    | false => rfl
    | true =>
      have := (rightB_len hr).2
      rw [List.length_append] at this
      simp at this
      omega
  rw [this]
  rfl
theorem endL_many {k : Int} {a : List Nd} {t : List Int} (h : 12 < t.length) : endL k (some (a, t)) = [] := by
  show (if rightB (a ++ [⟨k, zT, t⟩]) then a ++ [⟨k, zT, t⟩] else []) = []
  have : rightB (a ++ [⟨k, zT, t⟩]) = false := by
    cases hr : rightB (a ++ [⟨k, zT, t⟩]) with
    | false => rfl
    | true =>
      have h1 := rightB_at hr a.length (by simp)
      have h2 := rnB_len h1
      rw [List.getElem_append_right (by omega)] at h2
      simp at h2
      omega
  rw [this]
  rfl
theorem md_end (k : Int) : ∀ (ls : List (List Nd)) (acc : List Nd) (tops : List Int), endL k (mdL acc tops ls) = endL k (joinL acc tops ls)
  | [], acc, tops => rfl
  | l :: ls, acc, tops => by
    unfold mdL joinL
    cases hr : rightB l with
    | false => simp
    | true =>
      by_cases hb : acc.length + l.length < 60
      · simp only [hb, decide_true, Bool.and_true, if_true]
        exact md_end k ls _ _
      · simp only [hb, decide_false, Bool.and_false, if_true]
        have hE : ∀ j, joinL (acc ++ l.map (mvN acc.length)) (tops ++ [((acc.length + l.length : Nat) : Int) - 1]) ls = j → endL k j = [] := fun j hj => by
          cases j with
          | none => rfl
          | some p =>
            obtain ⟨a, t⟩ := p
            have := (joinL_len ls _ _ a t hj).1
            rw [List.length_append, List.length_map] at this
            exact endL_long (by omega)
        rw [hE _ rfl]
        rfl
theorem made_md (k : Int) (ps : List (List Nd)) : madeL k ps = endL k (mdL [] [] ps) := by
  unfold madeL
  rw [md_end]
  split
  · next h =>
    cases hj : joinL [] [] ps with
    | none => rfl
    | some p =>
      obtain ⟨a, t⟩ := p
      have := (joinL_len ps _ _ a t hj).2
      exact (endL_many (by simp at this; omega)).symm
  · rfl
end Go.Proofs.Ytmobmpghpdaddaa
namespace Go.Proofs.Ytmobmpghpdaddaa
open Go.ChangeShapes Go.WideShapes Go.ChangeAt Go.RowKit
set_option linter.unusedVariables false
set_option linter.unusedSimpArgs false

/-- Between two steps: the nodes so far (in the cell of out), the tops. -/
structure MdI (w : World) (B rb ob : Nat) (v5 v6 : Value) (hs : List Nh) (tops : List Int) (wr : World) : Prop where
  nr : NR B wr v5 hs
  c5 : wr.cell? ⟨ob, 0, none⟩ = some v5
  top : Own 3 intL 1 B wr v6 tops
  apart : ∀ q, v6.ownBlock = some q → v5.ownBlock ≠ some q ∧ ∀ h ∈ hs, h.x.s ≠ [] → h.b ≠ some ⟨q, 0, none⟩
  wri : wr.there ob 0 1
  res : wr.there rb 0 1
  lo : w.heap.size ≤ rb ∧ w.heap.size ≤ ob ∧ rb < B ∧ ob < B ∧ B ≤ wr.heap.size ∧ rb ≠ ob
  bel : Below w.heap.size w wr
section
variable {w wr : World} {B rb ob : Nat} {v5 v6 : Value} {hs : List Nh} {tops : List Int}
theorem MdI.grow {V : World} (h : MdI w B rb ob v5 v6 hs tops wr) (g : Below wr.heap.size wr V) : MdI w B rb ob v5 v6 hs tops V := by
  obtain ⟨l1, l2, l3, l4, l5, l6⟩ := h.lo
  obtain ⟨e1, e2⟩ := bcell g
  have hz := g.size
  exact ⟨h.nr.below g, (e1 _ _ (by omega)).trans h.c5, own_below h.top g, h.apart, there_block h.wri (g.block _ (by omega)), there_block h.res (g.block _ (by omega)), ⟨l1, l2, l3, l4, by omega, l6⟩, btr h.bel g (by omega)⟩
/-- A node more. -/
theorem MdI.node {V w2 : World} {v' : Value} {y : Nh} (h : MdI w B rb ob v5 v6 hs tops wr) (gV : Below wr.heap.size wr V) (hy : FrI wr.heap.size V y.b y.c y.x.s) (o : Own 39 nhL 5 B w2 v' (hs ++ [y])) (g : V.grownBy w2 v5.ownBlock) (hat : v'.ownBlock = v5.ownBlock ∨ v'.ownBlock = some V.heap.size) : w2.there ob 0 1 ∧ MdI w B rb ob v' v6 (hs ++ [y]) tops (w2.setCell ⟨ob, 0, none⟩ v') := by
  have hV := h.grow gV
  obtain ⟨l1, l2, l3, l4, l5, l6⟩ := h.lo
  have hz := gV.size
  have hz2 := g.size
  have ow : ∀ j, v5.ownBlock = some j → B ≤ j ∧ j < wr.heap.size := fun j hj => own_lt h.nr.own hj
  have blk : ∀ q, q < V.heap.size → v5.ownBlock ≠ some q → w2.heap[q]? = V.heap[q]? := fun q hq hn => g.block q hq (fun e => hn e.symm)
  have low : ∀ q, q < B → w2.heap[q]? = V.heap[q]? := fun q hq => blk q (by omega) (fun e => by have := (ow q e).1; omega)
  have nv : ∀ q, q < V.heap.size → v5.ownBlock ≠ some q → v'.ownBlock ≠ some q := fun q hq hn => by
    rcases hat with e | e
    · rw [e]; exact hn
    · rw [e]; intro e2; have := Option.some.inj e2; omega
  have set : ∀ q, q ≠ ob → (w2.setCell ⟨ob, 0, none⟩ v').heap[q]? = w2.heap[q]? := fun q hq => setCell_block _ _ _ _ hq
  have hzs : (w2.setCell ⟨ob, 0, none⟩ v').heap.size = w2.heap.size := by simp [World.setCell]
  have wo : w2.there ob 0 1 := there_block hV.wri (low ob l4)
  have cw : ∃ u, w2.cell? ⟨ob, 0, none⟩ = some u := ⟨v5, (World.cell?_of_block (w := V) (low ob l4)).trans hV.c5⟩
  obtain ⟨u0, hu0⟩ := cw
  have nr2 : NR B w2 v' (hs ++ [y]) := by
    refine ⟨o, fun x hx => ?_⟩
    rcases List.mem_append.1 hx with hx | hx
    · have hs := hV.nr.sub x hx
      have hlt : ∀ q, x.b = some ⟨q, 0, none⟩ → x.x.s ≠ [] → q < V.heap.size := fun q hq h0 => by
        rcases hs.1.2 with e | ⟨q', e, _, e3, _⟩
        · exact absurd e h0
        · rw [hq] at e; cases e; exact e3
      exact ⟨hs.1.blk hz2 (fun h0 q hq hq1 _ => blk q hq1 (hs.2 q hq h0)), fun q hq h0 => nv q (hlt q hq h0) (hs.2 q hq h0)⟩
    · rw [List.mem_singleton] at hx
      subst hx
      have hlt : ∀ q, x.b = some ⟨q, 0, none⟩ → x.x.s ≠ [] → q < V.heap.size ∧ v5.ownBlock ≠ some q := fun q hq h0 => by
        rcases hy.2 with e | ⟨q', e, e2, e3, _⟩
        · exact absurd e h0
        · rw [hq] at e; cases e; exact ⟨e3, fun e9 => by have := (ow q e9).2; omega⟩
      exact ⟨(hy.blk hz2 (fun h0 q hq hq1 _ => blk q hq1 (hlt q hq h0).2)).mono (by omega), fun q hq h0 => nv q (hlt q hq h0).1 (hlt q hq h0).2⟩
  refine ⟨wo, ⟨nr2.set l4, World.cell?_setCell_same _ _ _ hu0, own_chg (own_chg hV.top (fun j hj => blk j (own_lt hV.top hj).2 (hV.apart j hj).1)) (fun j hj => set j (by have := (own_lt h.top hj).1; omega)), fun q hq => ⟨nv q (own_lt hV.top hq).2 (hV.apart q hq).1, fun x hx h0 e => ?_⟩, there_set wo _ _, there_block hV.res ((set rb l6).trans (low rb l3)), ⟨l1, l2, l3, l4, by omega, l6⟩, ((h.bel.trans (gV.mono h.bel.size)).grown g (Nat.le_trans h.bel.size gV.size) (fun j hj => by have := (ow j hj).1; omega)).setCell (by simpa using l2) _⟩⟩
  rcases List.mem_append.1 hx with hx | hx
  · exact (hV.apart q hq).2 x hx h0 e
  · rw [List.mem_singleton] at hx
    subst hx
    rcases hy.2 with e1 | ⟨q', e1, e2, _⟩
    · exact absurd e1 h0
    · rw [e] at e1
      cases e1
      have := (own_lt h.top hq).2
      omega
/-- A top more. -/
theorem MdI.addT {V w2 : World} {v' : Value} {z : Int} (h : MdI w B rb ob v5 v6 hs tops wr) (gV : Below wr.heap.size wr V) (o : Own 3 intL 1 B w2 v' (tops ++ [z])) (g : V.grownBy w2 v6.ownBlock) (hat : v'.ownBlock = v6.ownBlock ∨ v'.ownBlock = some V.heap.size) : MdI w B rb ob v5 v' hs (tops ++ [z]) w2 := by
  have hV := h.grow gV
  obtain ⟨l1, l2, l3, l4, l5, l6⟩ := h.lo
  have hz := gV.size
  have hz2 := g.size
  have ow : ∀ j, v6.ownBlock = some j → B ≤ j ∧ j < wr.heap.size := fun j hj => own_lt h.top hj
  have blk : ∀ q, q < V.heap.size → v6.ownBlock ≠ some q → w2.heap[q]? = V.heap[q]? := fun q hq hn => g.block q hq (fun e => hn e.symm)
  have low : ∀ q, q < B → w2.heap[q]? = V.heap[q]? := fun q hq => blk q (by omega) (fun e => by have := (ow q e).1; omega)
  have nv : ∀ q, q < V.heap.size → v6.ownBlock ≠ some q → v'.ownBlock ≠ some q := fun q hq hn => by
    rcases hat with e | e
    · rw [e]; exact hn
    · rw [e]; intro e2; have := Option.some.inj e2; omega
  have n5 : ∀ j, v5.ownBlock = some j → v6.ownBlock ≠ some j := fun j hj e => (h.apart j e).1 hj
  have sb : ∀ x ∈ hs, ∀ q, x.b = some ⟨q, 0, none⟩ → x.x.s ≠ [] → q < V.heap.size ∧ v6.ownBlock ≠ some q := fun x hx q hq h0 => by
    rcases (hV.nr.sub x hx).1.2 with e | ⟨q', e, e2, e3, _⟩
    · exact absurd e h0
    · rw [hq] at e; cases e; exact ⟨e3, fun e9 => (h.apart q e9).2 x hx h0 hq⟩
  refine ⟨⟨own_chg hV.nr.own (fun j hj => blk j (own_lt hV.nr.own hj).2 (n5 j hj)), fun x hx => ⟨(hV.nr.sub x hx).1.blk hz2 (fun h0 q hq hq1 _ => blk q (sb x hx q hq h0).1 (sb x hx q hq h0).2), (hV.nr.sub x hx).2⟩⟩, (World.cell?_of_block (w := V) (low ob l4)).trans hV.c5, o, fun q hq => ⟨fun e => nv q (own_lt hV.nr.own e).2 (n5 q e) hq, fun x hx h0 e => nv q (sb x hx q e h0).1 (sb x hx q e h0).2 hq⟩, there_block hV.wri (low ob l4), there_block hV.res (low rb l3), ⟨l1, l2, l3, l4, by omega, l6⟩, (h.bel.trans (gV.mono h.bel.size)).grown g (Nat.le_trans h.bel.size gV.size) (fun j hj => by have := (ow j hj).1; omega)⟩
/-- The last node is laid. -/
theorem MdI.fin {V w2 : World} {ta : Option Addr} {ct : Nat} {v' : Value} {k : Int} (h : MdI w B rb ob v5 (.slice ta tops.length ct) hs tops wr) (gV : Below wr.heap.size wr V) (o : Own 39 nhL 5 B w2 v' (hs ++ [⟨⟨k, zT, tops⟩, ta, ct⟩])) (g : V.grownBy w2 v5.ownBlock) (hat : v'.ownBlock = v5.ownBlock ∨ v'.ownBlock = some V.heap.size) : (∃ v0, w2.cell? ⟨ob, 0, none⟩ = some v0) ∧ w2.frozen? ⟨ob, 0, none⟩ = false ∧ NR B (w2.setCell ⟨ob, 0, none⟩ v') v' (hs ++ [⟨⟨k, zT, tops⟩, ta, ct⟩]) ∧ (w2.setCell ⟨ob, 0, none⟩ v').there rb 0 1 ∧ Below w.heap.size w (w2.setCell ⟨ob, 0, none⟩ v') ∧ (w2.setCell ⟨ob, 0, none⟩ v').cell? ⟨ob, 0, none⟩ = some v' ∧ rb < (w2.setCell ⟨ob, 0, none⟩ v').heap.size ∧ ob < (w2.setCell ⟨ob, 0, none⟩ v').heap.size := by
  have hV := h.grow gV
  obtain ⟨l1, l2, l3, l4, l5, l6⟩ := h.lo
  have hz := gV.size
  have hz2 := g.size
  have ow : ∀ j, v5.ownBlock = some j → B ≤ j ∧ j < wr.heap.size := fun j hj => own_lt h.nr.own hj
  have blk : ∀ q, q < V.heap.size → v5.ownBlock ≠ some q → w2.heap[q]? = V.heap[q]? := fun q hq hn => g.block q hq (fun e => hn e.symm)
  have low : ∀ q, q < B → w2.heap[q]? = V.heap[q]? := fun q hq => blk q (by omega) (fun e => by have := (ow q e).1; omega)
  have nv : ∀ q, q < V.heap.size → v5.ownBlock ≠ some q → v'.ownBlock ≠ some q := fun q hq hn => by
    rcases hat with e | e
    · rw [e]; exact hn
    · rw [e]; intro e2; have := Option.some.inj e2; omega
  obtain ⟨b9, c9, e9, hfr⟩ := own_fri h.top
  cases e9
  have all : ∀ x : Nh, FrI B V x.b x.c x.x.s → (∀ q, x.b = some ⟨q, 0, none⟩ → x.x.s ≠ [] → v5.ownBlock ≠ some q) → FrI B w2 x.b x.c x.x.s ∧ ∀ q, x.b = some ⟨q, 0, none⟩ → x.x.s ≠ [] → v'.ownBlock ≠ some q := fun x hf hn => by
    have hlt : ∀ q, x.b = some ⟨q, 0, none⟩ → x.x.s ≠ [] → q < V.heap.size := fun q hq h0 => by
      rcases hf.2 with e | ⟨q', e, _, e3, _⟩
      · exact absurd e h0
      · rw [hq] at e; cases e; exact e3
    exact ⟨hf.blk hz2 (fun h0 q hq hq1 _ => blk q hq1 (hn q hq h0)), fun q hq h0 => nv q (hlt q hq h0) (hn q hq h0)⟩
  have set : ∀ q, q ≠ ob → (w2.setCell ⟨ob, 0, none⟩ v').heap[q]? = w2.heap[q]? := fun q hq => setCell_block _ _ _ _ hq
  have hzs : (w2.setCell ⟨ob, 0, none⟩ v').heap.size = w2.heap.size := by simp [World.setCell]
  have wo : w2.there ob 0 1 := there_block hV.wri (low ob l4)
  have hu0 : w2.cell? ⟨ob, 0, none⟩ = some v5 := (World.cell?_of_block (w := V) (low ob l4)).trans hV.c5
  have nr2 : NR B w2 v' (hs ++ [⟨⟨k, zT, tops⟩, ta, ct⟩]) := by
    refine ⟨o, fun x hx => ?_⟩
    rcases List.mem_append.1 hx with hx | hx
    · exact all x (hV.nr.sub x hx).1 (hV.nr.sub x hx).2
    · rw [List.mem_singleton] at hx
      subst hx
      exact all _ (hfr.below gV) (fun q hq _ => (h.apart q (by simp only at hq; rw [hq]; rfl)).1)
  refine ⟨⟨_, hu0⟩, by simpa using (wo 0 (by omega)).2, nr2.set l4, there_block hV.res ((set rb l6).trans (low rb l3)), ((h.bel.trans (gV.mono h.bel.size)).grown g (Nat.le_trans h.bel.size gV.size) (fun j hj => by have := (ow j hj).1; omega)).setCell (by simpa using l2) _, World.cell?_setCell_same _ _ _ hu0, by omega, by omega⟩
end
end Go.Proofs.Ytmobmpghpdaddaa
namespace Go.Proofs.Ytmobmpghpdaddaa
open Go.ChangeShapes Go.WideShapes Go.ChangeAt Go.RowKit
set_option linter.unusedVariables false
set_option linter.unusedSimpArgs false

theorem MdI.start (w X : World) (h : (w.alloc (.cells #[.slice none 0 0] 24)).alloc (.cells #[.slice none 0 0] 24) = X) : MdI w X.heap.size w.heap.size (w.heap.size + 1) (.slice none 0 0) (.slice none 0 0) [] [] X := by
  have zX : X.heap.size = w.heap.size + 2 := by rw [← h]; simp
  refine ⟨NR.nil _ _, by rw [← h]; simp, World.ownsRow_nil _ _ _ _, fun q hq => by simp [Value.ownBlock] at hq, fun j hj => ?_, fun j hj => ?_, ⟨by omega, by omega, by omega, by omega, by omega, by omega⟩, by rw [← h]; go_grown⟩
  · obtain rfl : j = 0 := by omega
    rw [← h]; simp
  · obtain rfl : j = 0 := by omega
    rw [← h]; simp
set_option maxRecDepth 20000 in
set_option maxHeartbeats 4000000 in
theorem rmade_any (k : Int) (a : Option Addr) (ps : List (List Nd)) (cap : Nat) (w : World) (hs : Ps w a ps) (hl : ps.length ≤ 9223372036854775807) (hll : ∀ l ∈ ps, l.length ≤ 9223372036854775807 ∧ ∀ x ∈ l, x.s.length ≤ 9223372036854775807) :
    Calls Try.prog 17 #[.int .i64 k, .slice a ps.length cap] w fun e w' => PrR w (madeL k ps) e w' := by
  rw [made_md]
  obtain ⟨X, hX⟩ : ∃ X, (w.alloc (.cells #[.slice none 0 0] 24)).alloc (.cells #[.slice none 0 0] 24) = X := ⟨_, rfl⟩
  have zX : X.heap.size = w.heap.size + 2 := by rw [← hX]; simp
  have gX : Below w.heap.size w X := by rw [← hX]; go_grown
  have HM0 : Hid (MdI w X.heap.size w.heap.size (w.heap.size + 1) (.slice none 0 0) (.slice none 0 0) [] [] X) := MdI.start w X hX
  have HS : Hid (Ps w a ps) := hs
  have HLL : Hid (∀ l ∈ ps, l.length ≤ 9223372036854775807 ∧ ∀ x ∈ l, x.s.length ≤ 9223372036854775807) := hll
  obtain ⟨R, hR⟩ : ∃ R, mdL [] [] ps = R := ⟨_, rfl⟩
  have H0 : Hid (R = mdL (([] : List Nh).map (·.x)) [] (ps.drop 0)) := (show _ = _ from hR.symm)
  rw [hR]
  obtain ⟨n, hn⟩ : ∃ n, ps.length = n := ⟨_, rfl⟩
  have HN : Hid (ps.length = n) := hn
  rw [hn] at hl ⊢
  have HZ : Hid (X.heap.size = w.heap.size + 2 ∧ Below w.heap.size w X) := ⟨zX, gX⟩
  clear hs hll hR hn zX gX
  go_enter Try.func17, Try.ntmps17
  go_wp2_with fail
  clear hX
  go_loopw [6, 7] (fun v6 v7 wr => ∃ (i : Nat) (v5 : Value) (nh : List Nh) (tops : List Int), i ≤ n ∧ v7 = .int .i64 i ∧ Hid (MdI w X.heap.size w.heap.size (w.heap.size + 1) v5 v6 nh tops wr) ∧ Hid (R = mdL (nh.map (·.x)) tops (ps.drop i)) ∧ Hid (nh.length < 60 ∧ tops.length ≤ nh.length ∧ ∀ y ∈ nh, y.x.s.length ≤ 12)) (fun _ v7 _ => n - (intOf v7).toNat)
  case atStart => exact ⟨0, _, [], [], Nat.zero_le _, rfl, HM0, H0, ⟨by simp, by simp, by simp⟩⟩
  case round =>
    obtain ⟨i, v5, nh, tops, hi, rfl, HM, HE, HB⟩ := hrel
    clear HM0 H0
    obtain ⟨a5, c5, hf5⟩ := own_form HM.out.nr.own
    obtain ⟨a6, c6, hf6⟩ := own_form HM.out.top
    subst hf5
    subst hf6
    have d5 := HM.out.c5
    by_cases hlt : i < n
    · have hip : i < ps.length := by have := HN.out; omega
      obtain ⟨g, o, rfl, hg0, b, c, hc0, hlc, hns0⟩ := HS.out.at hip
      have hg : g < wr.heap.size := Nat.lt_of_lt_of_le hg0 HM.out.bel.size
      have hc := (HM.out.bel.cell (p := ⟨g, o + i, none⟩) hg0).trans hc0
      have hns := hns0.below HM.out.bel
      have hll := HLL.out _ (List.getElem_mem hip)
      have HE2 : Hid (R = if rightB ps[i] && decide ((nh.map (·.x)).length + ps[i].length < 60) then mdL (nh.map (·.x) ++ ps[i].map (mvN (nh.map (·.x)).length)) (tops ++ [(((nh.map (·.x)).length + ps[i].length : Nat) : Int) - 1]) (ps.drop (i + 1)) else none) := (show _ = _ by rw [HE.out, List.drop_eq_getElem_cons hip]; rfl)
      obtain ⟨l, hl'⟩ : ∃ l, ps[i] = l := ⟨_, rfl⟩
      rw [hl'] at hc hc0 hlc hns hns0 hll HE2
      rw [List.length_map] at HE2
      have HR : Hid (Calls Try.prog 10 #[.agg #[.slice b l.length c]] wr fun e w' => e = .returned (.bool (rightB l)) ∧ Below wr.heap.size wr w') := rright_any b l c wr hns hll.1 hll.2
      have HNo : Hid (R = none → ∀ u, u.there w.heap.size 0 1 → Below w.heap.size w u → PrR w (endL k R) (.returned (.agg #[.slice none 0 0])) (u.setCell ⟨w.heap.size, 0, none⟩ (.slice none 0 0)) ∧ (u.setCell ⟨w.heap.size, 0, none⟩ (.slice none 0 0)).cell? ⟨w.heap.size, 0, none⟩ = some (.slice none 0 0)) := (show _ → ∀ u, _ from fun h u t g => by
        rw [h]
        obtain ⟨v0, e0⟩ := Option.isSome_iff_exists.1 (t 0 (by omega)).1
        exact ⟨⟨_, [], rfl, NR.nil _ _, rfl, g.setCell (by simp) _⟩, World.cell?_setCell_same _ _ _ (by simpa using e0)⟩)
      have HRw : Hid (∀ u, Below wr.heap.size wr u → MdI w X.heap.size w.heap.size (w.heap.size + 1) (.slice a5 nh.length c5) (.slice a6 tops.length c6) nh tops u ∧ u.cell? ⟨g, o + i, none⟩ = some (.slice b l.length c)) := (show ∀ u, _ from fun u g2 => ⟨HM.out.grow g2, (g2.cell (p := ⟨g, o + i, none⟩) hg).trans hc⟩)
      obtain ⟨M, hM⟩ : ∃ M, nh.length = M := ⟨_, rfl⟩
      obtain ⟨T, hT⟩ : ∃ T, tops.length = T := ⟨_, rfl⟩
      obtain ⟨ln, hln⟩ : ∃ n, l.length = n := ⟨_, rfl⟩
      have HLn : Hid (l.length = ln ∧ nh.length = M ∧ tops.length = T) := ⟨hln, hM, hT⟩
      rw [hM] at HE2 HRw d5
      rw [hT] at HRw ⊢
      rw [hln] at HE2 HRw HR hc hc0 hlc
      have HPw : Hid (∀ u, Below w.heap.size w u → u.cell? ⟨g, o + i, none⟩ = some (.slice b ln c) ∧ Ns u b l) := (show ∀ u, _ from fun u g2 => ⟨(g2.cell (p := ⟨g, o + i, none⟩) hg0).trans hc0, hns0.below g2⟩)
      have hM60 : M < 60 := by have := HB.out; omega
      cases hr : rightB l with
      | false =>
        have HRn : Hid (R = none) := (show _ = _ by rw [HE2.out, hr]; rfl)
        rw [hr] at HR
        clear HE HE2 hr hns hll hl' hM hT hln
        go_wp2_with (first
          | (go_at_call 10; refine HR.out.mono ?_; rintro e w2 ⟨rfl, h1⟩; have HM3 : Hid _ := HRw.out w2 h1; have d6 := (HRw.out w2 h1).1.c5; have c7 := (HRw.out w2 h1).2; clear h1)
          | (have hn2 := HNo.out HRn.out _ HM3.out.1.res HM3.out.1.bel; refine store_pred rfl (.tmp 4) (.tmp 39) rfl w.heap.size 0 rfl (.slice none 0 0) rfl rfl HM3.out.1.res ?_; have HN2 : Hid _ := hn2; clear hn2)
          | fail)
        exact bodyPost_ret (results_pred rfl _ _ w.heap.size (.slice none 0 0) rfl HN2.out.2) rfl HN2.out.1
      | true =>
        obtain ⟨l1, l60⟩ := rightB_len hr
        rw [hln] at l1 l60
        rw [hr] at HR
        by_cases hbig : M + ln < 60
        · have HRn : Hid (R = mdL (nh.map (·.x) ++ l.map (mvN M)) (tops ++ [((M + ln : Nat) : Int) - 1]) (ps.drop (i + 1))) := (show _ = _ by rw [HE2.out, hr]; simp [hbig])
          have j1 : ¬ (60 : Int) ≤ (M : Int) + (ln : Int) := by omega
          have j2 : decide ((60 : Int) ≤ (M : Int) + (ln : Int)) = false := decide_eq_false j1
          have HRb : Hid (rightB l = true) := hr
          clear HE HE2 hr hns hll hl' hM hT hln
          go_wp2_with (first
            | (go_at_call 10; refine HR.out.mono ?_; rintro e w2 ⟨rfl, h1⟩; have HM3 : Hid (MdI w X.heap.size w.heap.size (w.heap.size + 1) (.slice a5 M c5) (.slice a6 T c6) nh tops w2 ∧ w2.cell? ⟨g, o + i, none⟩ = some (.slice b ln c)) := HRw.out w2 h1; have d6 := (HRw.out w2 h1).1.c5; have c7 := (HRw.out w2 h1).2; clear h1)
            | fail)
          have HA0 : Hid (nh.map (·.x) = nh.map (·.x) ++ (l.take 0).map (mvN M)) := (show _ = _ by simp)
          go_loopw [9] (fun v9 wr => ∃ (q : Nat) (v5 : Value) (nh2 : List Nh), q ≤ ln ∧ v9 = .int .i64 q ∧ Hid (MdI w X.heap.size w.heap.size (w.heap.size + 1) v5 (.slice a6 T c6) nh2 tops wr) ∧ Hid (nh2.map (·.x) = nh.map (·.x) ++ (l.take q).map (mvN M))) (fun v9 _ => ln - (intOf v9).toNat)
          case atStart => exact ⟨0, _, nh, Nat.zero_le _, rfl, HM3.out.1, HA0⟩
          case round =>
            obtain ⟨q, v5, nh2, hq, rfl, HMq, HAq⟩ := hrel
            clear HA0 HM3 d6 c7 d5
            obtain ⟨a5', c5', hf5⟩ := own_form HMq.out.nr.own
            subst hf5
            have d6 := HMq.out.c5
            obtain ⟨c7, hnq⟩ := HPw.out wr HMq.out.bel
            have HM2 : Hid (nh2.length = M + q) := (show _ = _ by
              have := congrArg List.length HAq.out
              rw [List.length_map, List.length_append, List.length_map, List.length_map, List.length_take, HLn.out.1, HLn.out.2.1] at this
              omega)
            by_cases hlt2 : q < ln
            · have hql : q < l.length := by have := HLn.out.1; omega
              obtain ⟨g3, o3, rfl, hg3, bb, cc, hN3, hcc, hI3⟩ := hnq.at hql
              have hrn := rightB_at HRb.out q hql
              have HAn : Hid (nh.map (·.x) ++ (l.take (q + 1)).map (mvN M) = (nh.map (·.x) ++ (l.take q).map (mvN M)) ++ [mvN M l[q]]) := (show _ = _ by rw [List.take_succ_eq_append_getElem hql, List.map_append, ← List.append_assoc]; rfl)
              obtain ⟨x, hx⟩ : ∃ y, l[q] = y := ⟨_, rfl⟩
              rw [hx] at hN3 hI3 hrn hcc HAn
              obtain ⟨V, hV, hNV, gV, zV⟩ := boxN wr x bb cc
              have HSub : Hid (∀ i ∈ x.s, 0 ≤ i ∧ i < (q : Int)) := rnB_subs hrn
              have hx12 := rnB_len hrn
              have HVI : Hid (MdI w X.heap.size w.heap.size (w.heap.size + 1) (.slice a5' nh2.length c5') (.slice a6 T c6) nh2 tops wr ∧ Below wr.heap.size wr V ∧ Is V bb x.s) := ⟨HMq.out, gV, hI3.below gV⟩
              obtain ⟨e0, e1, e2, e3, e4⟩ := hN3
              obtain ⟨f0, f1, f2, f3, f4⟩ := hNV
              have HS0 : Hid (RwI 3 intL 1 V (.slice none 0 0) ((x.s.take 0).map (· + (M : Int))) V) := RwI.nil V
              have hnb : wr.heap.size < V.heap.size := by omega
              clear HMq hnq hrn hx hI3 hcc gV zV
              go_wp2_with fail
              obtain ⟨nb0, hnb0⟩ : ∃ y, wr.heap.size = y := ⟨_, rfl⟩
              have HNb : Hid (nb0 < V.heap.size) := (show _ < _ by rw [← hnb0]; exact hnb)
              rw [hnb0] at f0 f1 f2 f3 f4 ⊢
              obtain ⟨w3, hw3⟩ : ∃ y, y = wr := ⟨_, rfl⟩
              subst hw3
              clear hV hnb0 hnb e0 e1 e2 e3 e4 c7 d6
              go_loopw [11, 12] (fun v11 v12 wr => ∃ (j : Nat), j ≤ x.s.length ∧ v12 = .int .i64 j ∧ Hid (RwI 3 intL 1 V v11 ((x.s.take j).map (· + (M : Int))) wr)) (fun _ v12 _ => x.s.length - (intOf v12).toNat)
              case atStart => exact ⟨0, Nat.zero_le _, rfl, HS0⟩
              case round =>
                obtain ⟨j, hj, rfl, HJ⟩ := hrel
                clear HS0
                have h4 := (HJ.out.bel.cell (p := ⟨nb0, 4, none⟩) HNb.out).trans f4
                by_cases hlt3 : j < x.s.length
                · obtain ⟨g4, o4, rfl, hg4, hc4⟩ := (HVI.out.2.2.below HJ.out.bel).at hlt3
                  have e0 := hc4 j hlt3
                  obtain ⟨m0, m1⟩ := HSub.out _ (List.getElem_mem hlt3)
                  have HTk : Hid ((x.s.take (j + 1)).map (· + (M : Int)) = (x.s.take j).map (· + (M : Int)) ++ [x.s[j] + (M : Int)]) := (show _ = _ by rw [List.take_succ_eq_append_getElem hlt3, List.map_append]; rfl)
                  generalize x.s[j] = z at *
                  obtain ⟨m, rfl⟩ : ∃ m : Nat, z = (m : Int) := ⟨z.toNat, by omega⟩
                  have hmq : m < q := by omega
                  obtain ⟨L0, hL0⟩ : ∃ L, (x.s.take j).map (· + (M : Int)) = L := ⟨_, rfl⟩
                  have hL0n : L0.length = j := by rw [← hL0, List.length_map, List.length_take]; omega
                  rw [hL0] at HJ HTk
                  obtain ⟨a11, c11, hf11⟩ := own_form HJ.out.own
                  subst hf11
                  have HLe : Hid (L0.length = j) := hL0n
                  clear hc4 hL0 hL0n
                  go_wp2_with (first
                    | (at_builtin; have gI : Below wr.heap.size wr (wr.alloc (.cells #[.int .i64 ((m : Int) + (M : Int))] 3)) := (by go_grown); have hcs : Cs intL 1 (wr.alloc (.cells #[.int .i64 ((m : Int) + (M : Int))] 3)) wr.heap.size 0 [(m : Int) + (M : Int)] := cs_new (k := intL) (s := 1) wr ((m : Int) + (M : Int)) 3; refine wpList_appK kdI ktI rfl (.tmp 65) (.tmp 73) rfl V.heap.size (.slice a11 L0.length c11) L0 rfl (own_below HJ.out.own gI) wr.heap.size 0 1 1 [(m : Int) + (M : Int)] rfl rfl hcs (by have := HLe.out; simp; omega) (Nat.le_trans HJ.out.bel.size gI.size) ?_; intro v' w5 ho2 hg2 hat; have HQ : Hid (RwI 3 intL 1 V v' ((x.s.take (j + 1)).map (· + (M : Int))) w5) := (show RwI _ _ _ _ _ _ _ by (rw [HTk.out]; exact HJ.out.app gI ho2 hg2)); clear ho2 hg2 hcs gI hat)
                    | fail)
                  go_roundw
                  case rel => exact ⟨j + 1, by omega, by go_num, HQ⟩
                  case measure => simp [intOf]; omega
                · have hjn : j = x.s.length := by omega
                  subst hjn
                  rw [List.take_of_length_le (Nat.le_refl _)] at HJ
                  obtain ⟨L1, hL1⟩ : ∃ L, x.s.map (· + (M : Int)) = L := ⟨_, rfl⟩
                  rw [hL1] at HJ
                  obtain ⟨a11, c11, hf11, hfr⟩ := own_fri HJ.out.own
                  subst hf11
                  have g3 : Below w3.heap.size w3 wr := HVI.out.2.1.trans (HJ.out.bel.mono HVI.out.2.1.size)
                  have HM5 : Hid (MdI w X.heap.size w.heap.size (w.heap.size + 1) (.slice a5' nh2.length c5') (.slice a6 T c6) nh2 tops wr) := HVI.out.1.grow g3
                  have d6 := HM5.out.c5
                  have h0 := (HJ.out.bel.cell (p := ⟨nb0, 0, none⟩) HNb.out).trans f0
                  have h1 := (HJ.out.bel.cell (p := ⟨nb0, 1, none⟩) HNb.out).trans f1
                  have h2 := (HJ.out.bel.cell (p := ⟨nb0, 2, none⟩) HNb.out).trans f2
                  have h3 := (HJ.out.bel.cell (p := ⟨nb0, 3, none⟩) HNb.out).trans f3
                  have HAy : Hid ((nh2 ++ [(⟨⟨x.k, x.t, L1⟩, a11, c11⟩ : Nh)]).map (·.x) = nh.map (·.x) ++ (l.take (q + 1)).map (mvN M)) := (show _ = _ by
                    rw [HAn.out, List.map_append, HAq.out, ← hL1]
                    rfl)
                  have HX : Hid (∀ v' w5, Own 39 nhL 5 X.heap.size w5 v' (nh2 ++ [⟨⟨x.k, x.t, L1⟩, a11, c11⟩]) → (wr.alloc (.cells #[.int .i64 x.k, .int .i64 x.t.f, cv x.t.v, cv x.t.m, .slice a11 L1.length c11] 39)).grownBy w5 (Value.slice a5' nh2.length c5').ownBlock → (v'.ownBlock = (Value.slice a5' nh2.length c5').ownBlock ∨ v'.ownBlock = some (wr.alloc (.cells #[.int .i64 x.k, .int .i64 x.t.f, cv x.t.v, cv x.t.m, .slice a11 L1.length c11] 39)).heap.size) → (∃ v0, w5.cell? ⟨w.heap.size + 1, 0, none⟩ = some v0) ∧ w5.frozen? ⟨w.heap.size + 1, 0, none⟩ = false ∧ MdI w X.heap.size w.heap.size (w.heap.size + 1) v' (.slice a6 T c6) (nh2 ++ [⟨⟨x.k, x.t, L1⟩, a11, c11⟩]) tops (w5.setCell ⟨w.heap.size + 1, 0, none⟩ v')) := (show ∀ v' w5, _ from fun v' w5 ho hg hat => by
                    have gI : Below wr.heap.size wr (wr.alloc (.cells #[.int .i64 x.k, .int .i64 x.t.f, cv x.t.v, cv x.t.m, .slice a11 L1.length c11] 39)) := by go_grown
                    obtain ⟨k1, k2⟩ := HVI.out.1.node (btr g3 gI (Nat.le_refl _)) (y := ⟨⟨x.k, x.t, L1⟩, a11, c11⟩) ((hfr.below gI).mono HVI.out.2.1.size) ho hg hat
                    obtain ⟨z1, z2⟩ := k1 0 (by omega)
                    exact ⟨by simpa using Option.isSome_iff_exists.1 z1, by simpa using z2, k2⟩)
                  have HLe : Hid (nh2.length ≤ 120 ∧ X.heap.size ≤ wr.heap.size) := ⟨by have := HM2.out; omega, HM5.out.lo.2.2.2.2.1⟩
                  have hL1n : L1.length = x.s.length := by rw [← hL1, List.length_map]
                  clear hL1 hL1n hfr HAn g3 f0 f1 f2 f3 f4
                  go_wp2_with (first
                    | (at_builtin; have gI : Below wr.heap.size wr (wr.alloc (.cells #[.int .i64 x.k, .int .i64 x.t.f, cv x.t.v, cv x.t.m, .slice a11 L1.length c11] 39)) := (by go_grown); have hcs : Cs nhL 5 (wr.alloc (.cells #[.int .i64 x.k, .int .i64 x.t.f, cv x.t.v, cv x.t.m, .slice a11 L1.length c11] 39)) wr.heap.size 0 [⟨⟨x.k, x.t, L1⟩, a11, c11⟩] := cs_new (k := nhL) (s := 5) wr ⟨⟨x.k, x.t, L1⟩, a11, c11⟩ 39; refine wpList_appK kdN ktN rfl (.tmp 76) (.tmp 83) rfl X.heap.size (.slice a5' nh2.length c5') nh2 rfl (own_below HM5.out.nr.own gI) wr.heap.size 0 1 1 [⟨⟨x.k, x.t, L1⟩, a11, c11⟩] rfl rfl hcs (by have := HLe.out.1; simp; omega) (Nat.le_trans HLe.out.2 gI.size) ?_; intro v' w5 ho2 hg2 hat; have HQ := HX.out v' w5 ho2 hg2 hat; (obtain ⟨a7, c7, hf7⟩ := own_form ho2); subst hf7; (obtain ⟨⟨v0, s1⟩, s2, s3⟩ := HQ); have el : (nh2 ++ [(⟨⟨x.k, x.t, L1⟩, a11, c11⟩ : Nh)]).length = nh2.length + 1 := (by simp); rw [el] at s3 ⊢; have HQ5 : Hid (MdI w X.heap.size w.heap.size (w.heap.size + 1) (.slice a7 (nh2.length + 1) c7) (.slice a6 T c6) (nh2 ++ [⟨⟨x.k, x.t, L1⟩, a11, c11⟩]) tops (w5.setCell ⟨w.heap.size + 1, 0, none⟩ (.slice a7 (nh2.length + 1) c7))) := s3; clear s3 ho2 hg2 hcs gI hat el)
                    | fail)
                  refine ⟨⟨q + 1, _, _, by omega, by go_num, HQ5, HAy⟩, by simp [intOf]; omega⟩
            · have hqn : q = ln := by omega
              subst hqn
              have HA2 : Hid (nh2.map (·.x) = nh.map (·.x) ++ l.map (mvN M)) := (show _ = _ by
                have := HAq.out
                rwa [List.take_of_length_le (by have := HLn.out.1; omega)] at this)
              have HRx : Hid (R = mdL (nh2.map (·.x)) (tops ++ [(nh2.length : Int) - 1]) (ps.drop (i + 1))) := (show _ = _ by
                rw [HRn.out, HA2.out, HM2.out])
              have H12 : Hid (∀ y ∈ nh2, y.x.s.length ≤ 12) := (show ∀ y ∈ nh2, _ from fun y hy => by
                have hm : y.x ∈ nh2.map (·.x) := List.mem_map_of_mem hy
                rw [HA2.out] at hm
                rcases List.mem_append.1 hm with hm | hm
                · obtain ⟨z, hz, e⟩ := List.mem_map.1 hm
                  rw [← e]
                  exact HB.out.2.2 z hz
                · obtain ⟨x, hx, e⟩ := List.mem_map.1 hm
                  rw [← e]
                  show (x.s.map _).length ≤ 12
                  rw [List.length_map]
                  exact (right_few HRb.out x hx).1)
              have hn120 : nh2.length ≤ 120 := by have := HM2.out; omega
              have hn1 : 1 ≤ nh2.length := by have := HM2.out; omega
              have HSz : Hid (X.heap.size ≤ wr.heap.size ∧ T ≤ M ∧ tops.length = T) := ⟨HMq.out.lo.2.2.2.2.1, by have := HB.out; have := HLn.out; omega, HLn.out.2.2⟩
              clear HAq HA2 HRn hnq
              go_wp2_with (first
                | (at_builtin; have gI : Below wr.heap.size wr (wr.alloc (.cells #[.int .i64 ((nh2.length : Int) - 1)] 3)) := (by go_grown); have hcs : Cs intL 1 (wr.alloc (.cells #[.int .i64 ((nh2.length : Int) - 1)] 3)) wr.heap.size 0 [(nh2.length : Int) - 1] := cs_new (k := intL) (s := 1) wr ((nh2.length : Int) - 1) 3; refine wpList_appK kdI ktI rfl (.tmp 86) (.tmp 91) rfl X.heap.size (.slice a6 T c6) tops rfl (own_below HMq.out.top gI) wr.heap.size 0 1 1 [(nh2.length : Int) - 1] rfl rfl hcs (by have := HSz.out; simp; omega) (Nat.le_trans HSz.out.1 gI.size) ?_; intro v' w5 ho2 hg2 hat; have HQ : Hid (MdI w X.heap.size w.heap.size (w.heap.size + 1) (.slice a5' nh2.length c5') v' nh2 (tops ++ [(nh2.length : Int) - 1]) w5) := HMq.out.addT gI ho2 hg2 hat; clear ho2 hg2 hcs gI hat)
                | fail)
              refine ⟨⟨i + 1, _, nh2, tops ++ [(nh2.length : Int) - 1], by omega, by go_num, HQ, HRx, ⟨by have := HM2.out; omega, by have := HSz.out; have := HM2.out; simp; omega, H12.out⟩⟩, by simp [intOf]; omega⟩
        · have HRn : Hid (R = none) := (show _ = _ by rw [HE2.out, hr]; simp [hbig])
          have j1 : (60 : Int) ≤ (M : Int) + (ln : Int) := by omega
          have j2 : decide ((60 : Int) ≤ (M : Int) + (ln : Int)) = true := decide_eq_true j1
          clear HE HE2 hr hns hll hl' hM hT hln
          go_wp2_with (first
            | (go_at_call 10; refine HR.out.mono ?_; rintro e w2 ⟨rfl, h1⟩; have HM3 : Hid _ := HRw.out w2 h1; have d6 := (HRw.out w2 h1).1.c5; have c7 := (HRw.out w2 h1).2; clear h1)
            | (have hn2 := HNo.out HRn.out _ HM3.out.1.res HM3.out.1.bel; refine store_pred rfl (.tmp 4) (.tmp 39) rfl w.heap.size 0 rfl (.slice none 0 0) rfl rfl HM3.out.1.res ?_; have HN2 : Hid _ := hn2; clear hn2)
            | fail)
          exact bodyPost_ret (results_pred rfl _ _ w.heap.size (.slice none 0 0) rfl HN2.out.2) rfl HN2.out.1
    · have hin : i = n := by omega
      have HEnd : Hid (endL k R = if rightB (nh.map (·.x) ++ [⟨k, zT, tops⟩]) then nh.map (·.x) ++ [⟨k, zT, tops⟩] else []) := (show _ = _ by rw [HE.out, List.drop_of_length_le (by have := HN.out; omega)]; rfl)
      have HLn : Hid (nh.length + [(⟨⟨k, zT, tops⟩, a6, c6⟩ : Nh)].length ≤ 500000000000 ∧ (nh ++ [(⟨⟨k, zT, tops⟩, a6, c6⟩ : Nh)]).length ≤ 9223372036854775807 ∧ X.heap.size ≤ wr.heap.size) := (show _ ∧ _ ∧ _ from ⟨by have := HB.out; simp; omega, by have := HB.out; simp; omega, HM.out.lo.2.2.2.2.1⟩)
      have HS14 : Hid (∀ x ∈ (nh ++ [(⟨⟨k, zT, tops⟩, a6, c6⟩ : Nh)]).map (fun h : Nh => h.x), x.s.length ≤ 9223372036854775807) := (show ∀ x ∈ _, _ from fun x hx => by
        obtain ⟨y, hy, rfl⟩ := List.mem_map.1 hx
        rcases List.mem_append.1 hy with hy | hy
        · have := HB.out.2.2 y hy; omega
        · rw [List.mem_singleton] at hy; subst hy; show tops.length ≤ _; have := HB.out; omega)
      have HMp : Hid ((nh ++ [(⟨⟨k, zT, tops⟩, a6, c6⟩ : Nh)]).map (fun h : Nh => h.x) = nh.map (·.x) ++ [⟨k, zT, tops⟩]) := (show _ = _ by rw [List.map_append]; rfl)
      obtain ⟨LL, hLL⟩ : ∃ LL, nh ++ [(⟨⟨k, zT, tops⟩, a6, c6⟩ : Nh)] = LL := ⟨_, rfl⟩
      have HLL2 : Hid (nh ++ [(⟨⟨k, zT, tops⟩, a6, c6⟩ : Nh)] = LL) := hLL
      have HFn : Hid (∀ V w2 v', Below wr.heap.size wr V → Own 39 nhL 5 X.heap.size w2 v' (nh ++ [⟨⟨k, zT, tops⟩, a6, c6⟩]) → V.grownBy w2 (Value.slice a5 nh.length c5).ownBlock → (v'.ownBlock = (Value.slice a5 nh.length c5).ownBlock ∨ v'.ownBlock = some V.heap.size) → (∃ v0, w2.cell? ⟨w.heap.size + 1, 0, none⟩ = some v0) ∧ w2.frozen? ⟨w.heap.size + 1, 0, none⟩ = false ∧ NR X.heap.size (w2.setCell ⟨w.heap.size + 1, 0, none⟩ v') v' LL ∧ (w2.setCell ⟨w.heap.size + 1, 0, none⟩ v').there w.heap.size 0 1 ∧ Below w.heap.size w (w2.setCell ⟨w.heap.size + 1, 0, none⟩ v') ∧ (w2.setCell ⟨w.heap.size + 1, 0, none⟩ v').cell? ⟨w.heap.size + 1, 0, none⟩ = some v' ∧ w.heap.size < (w2.setCell ⟨w.heap.size + 1, 0, none⟩ v').heap.size ∧ w.heap.size + 1 < (w2.setCell ⟨w.heap.size + 1, 0, none⟩ v').heap.size) := (show ∀ V w2 v', _ from fun V w2 v' f2 f3 f4 f5 => by
        have := HM.out.fin f2 f3 f4 f5
        rw [hLL] at this
        exact this)
      have HRt : Hid (∀ W a7 c7, NR X.heap.size W (.slice a7 LL.length c7) LL ∧ W.there w.heap.size 0 1 ∧ Below w.heap.size w W ∧ W.cell? ⟨w.heap.size + 1, 0, none⟩ = some (.slice a7 LL.length c7) ∧ w.heap.size < W.heap.size ∧ w.heap.size + 1 < W.heap.size → Calls Try.prog 10 #[.agg #[.slice a7 LL.length c7]] W fun e w' => e = .returned (.bool (rightB (nh.map (·.x) ++ [⟨k, zT, tops⟩]))) ∧ NR X.heap.size w' (.slice a7 LL.length c7) LL ∧ w'.there w.heap.size 0 1 ∧ Below w.heap.size w w' ∧ w'.cell? ⟨w.heap.size + 1, 0, none⟩ = some (.slice a7 LL.length c7)) := (show ∀ W a7 c7, _ from fun W a7 c7 ⟨f1, f2, f3, f4, f5, f6⟩ => by
        obtain ⟨a8, c8, e8, _, hns⟩ := f1.ns
        cases e8
        have h := rright_any a7 (LL.map (·.x)) c7 W hns (by rw [List.length_map, ← hLL]; exact HLn.out.2.1) (by rw [← hLL]; exact HS14.out)
        rw [List.length_map] at h
        have e9 : LL.map (·.x) = nh.map (·.x) ++ [⟨k, zT, tops⟩] := by rw [← hLL]; exact HMp.out
        rw [e9] at h
        exact h.mono fun e w' ⟨g1, g2⟩ => ⟨g1, f1.below g2, there_block f2 (g2.block _ f5), btr f3 g2 (by omega), (g2.cell (p := ⟨w.heap.size + 1, 0, none⟩) f6).trans f4⟩)
      rw [hLL] at HMp
      have hTp : tops.length ≤ 9223372036854775807 := by have := HB.out; omega
      clear hLL HE HS14 hTp
      cases hb : rightB (nh.map (·.x) ++ [⟨k, zT, tops⟩]) with
      | false =>
        have HR0 : Hid (endL k R = []) := (show _ = _ by rw [HEnd.out, hb]; rfl)
        rw [hb] at HRt
        clear HEnd hb
        go_wp2_with (first
          | (at_builtin; have gI : Below wr.heap.size wr (wr.alloc (.cells #[.int .i64 k, .int .i64 0, .int .u64 0, .int .u64 0, .slice a6 tops.length c6] 39)) := (by go_grown); have hcs : Cs nhL 5 (wr.alloc (.cells #[.int .i64 k, .int .i64 0, .int .u64 0, .int .u64 0, .slice a6 tops.length c6] 39)) wr.heap.size 0 [⟨⟨k, zT, tops⟩, a6, c6⟩] := cs_new (k := nhL) (s := 5) wr ⟨⟨k, zT, tops⟩, a6, c6⟩ 39; refine wpList_appK kdN ktN rfl (.tmp 94) (.tmp 98) rfl X.heap.size (.slice a5 nh.length c5) nh rfl (own_below HM.out.nr.own gI) wr.heap.size 0 1 1 [⟨⟨k, zT, tops⟩, a6, c6⟩] rfl rfl hcs HLn.out.1 (Nat.le_trans HLn.out.2.2 gI.size) ?_; intro v' w4 ho2 hg2 hat; have HQ := HFn.out _ w4 v' gI ho2 hg2 hat; rw [HLL2.out] at ho2; (obtain ⟨a7, c7, hf7⟩ := own_form ho2); subst hf7; (obtain ⟨⟨v0, s1⟩, s2, s3⟩ := HQ); have HRi : Hid _ := HRt.out _ a7 c7 s3; have s4 := s3.2.2.2.1; clear s3 ho2 hg2 hat hcs gI)
          | (go_at_call 10; refine (show Calls _ _ _ _ _ from HRi.out).mono ?_; rintro e w6 ⟨rfl, m1, m2, m3, m4⟩; have HM6 : Hid (w6.there w.heap.size 0 1 ∧ Below w.heap.size w w6) := ⟨m2, m3⟩; clear m1 m2 m3)
          | (refine store_pred rfl (.tmp 4) (.tmp 104) rfl w.heap.size 0 rfl (.slice none 0 0) rfl rfl HM6.out.1 ?_)
          | fail)
        have c0 := HM6.out.1 0 (by decide)
        obtain ⟨v0, hv0⟩ := Option.isSome_iff_exists.1 c0.1
        exact bodyPost_ret (results_pred rfl _ _ w.heap.size (.slice none 0 0) rfl (World.cell?_setCell_same _ _ _ hv0)) rfl (show PrR w (endL k R) _ _ from by rw [HR0.out]; exact ⟨_, [], rfl, NR.nil _ _, rfl, HM6.out.2.setCell (Nat.le_refl _) _⟩)
      | true =>
        have HR0 : Hid (endL k R = LL.map (·.x)) := (show _ = _ by rw [HEnd.out, hb, HMp.out]; rfl)
        rw [hb] at HRt
        clear HEnd hb
        go_wp2_with (first
          | (at_builtin; have gI : Below wr.heap.size wr (wr.alloc (.cells #[.int .i64 k, .int .i64 0, .int .u64 0, .int .u64 0, .slice a6 tops.length c6] 39)) := (by go_grown); have hcs : Cs nhL 5 (wr.alloc (.cells #[.int .i64 k, .int .i64 0, .int .u64 0, .int .u64 0, .slice a6 tops.length c6] 39)) wr.heap.size 0 [⟨⟨k, zT, tops⟩, a6, c6⟩] := cs_new (k := nhL) (s := 5) wr ⟨⟨k, zT, tops⟩, a6, c6⟩ 39; refine wpList_appK kdN ktN rfl (.tmp 94) (.tmp 98) rfl X.heap.size (.slice a5 nh.length c5) nh rfl (own_below HM.out.nr.own gI) wr.heap.size 0 1 1 [⟨⟨k, zT, tops⟩, a6, c6⟩] rfl rfl hcs HLn.out.1 (Nat.le_trans HLn.out.2.2 gI.size) ?_; intro v' w4 ho2 hg2 hat; have HQ := HFn.out _ w4 v' gI ho2 hg2 hat; rw [HLL2.out] at ho2; (obtain ⟨a7, c7, hf7⟩ := own_form ho2); subst hf7; (obtain ⟨⟨v0, s1⟩, s2, s3⟩ := HQ); have HRi : Hid _ := HRt.out _ a7 c7 s3; have s4 := s3.2.2.2.1; clear s3 ho2 hg2 hat hcs gI)
          | (go_at_call 10; refine (show Calls _ _ _ _ _ from HRi.out).mono ?_; rintro e w6 ⟨rfl, m1, m2, m3, m4⟩; have HM6 : Hid (w6.there w.heap.size 0 1 ∧ Below w.heap.size w w6 ∧ NR X.heap.size w6 (.slice a7 LL.length c7) LL) := ⟨m2, m3, m1⟩; clear m1 m2 m3)
          | (refine store_pred rfl (.tmp 4) (.tmp 105) rfl w.heap.size 0 rfl (.slice a7 LL.length c7) rfl rfl HM6.out.1 ?_)
          | fail)
        have c0 := HM6.out.1 0 (by decide)
        obtain ⟨v0, hv0⟩ := Option.isSome_iff_exists.1 c0.1
        exact bodyPost_ret (results_pred rfl _ _ w.heap.size (.slice a7 LL.length c7) rfl (World.cell?_setCell_same _ _ _ hv0)) rfl (show PrR w (endL k R) _ _ from by rw [HR0.out]; exact ⟨_, LL, rfl, (HM6.out.2.2.set (by have := HZ.out; omega)).mono (by have := HZ.out; omega), rfl, HM6.out.2.1.setCell (Nat.le_refl _) _⟩)
end Go.Proofs.Ytmobmpghpdaddaa

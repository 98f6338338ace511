/-
  The document's turned; lists of cubes as rows of slices; SameCubes.
-/
import Derived.Test.YtmobmpghpdaddaaRefM
namespace Go.Proofs.Ytmobmpghpdaddaa
open Go.ChangeShapes Go.WideShapes Go.ChangeAt Go.RowKit
set_option linter.unusedVariables false
set_option linter.unusedSimpArgs false

/-- One bit more is asked. -/
def addK (c : K) (f : Nat) (bit sv : B64) : K := ⟨upd c.m f (c.m f ||| bit), upd c.v f (c.v f ||| sv)⟩
def oneT (f : Nat) (bit sv : B64) : Tst := ⟨(f : Int), sv, bit⟩
theorem bit1_ne (b : Nat) (hb : b < 64) : bit1 b ≠ 0#64 := fun h => by
  have := congrArg (fun x => x.getLsbD b) h
  simp only [bit1_get _ _ hb] at this
  simp at this
theorem one_whole {f b : Nat} {sv : B64} (hf : 1 ≤ f ∧ f ≤ 9) (hb : b < 64) (has : sv &&& bit1 b = sv) : wholeB [oneT f (bit1 b) sv] = true := by
  refine wholeFrom_cons.2 ⟨(trB_iff _).2 ⟨?_, ?_, of_sub has⟩, bit1_ne b hb, ?_, rfl⟩
  · show (1 : Int) ≤ (f : Int); omega
  · show (f : Int) ≤ 9; omega
  · show (0 : Int) < (f : Int); omega
theorem one_cub (f : Nat) (bit sv : B64) (g : Nat) : (cubF [oneT f bit sv]).m g = (if g = f then bit else 0#64) ∧ (cubF [oneT f bit sv]).v g = (if g = f then sv else 0#64) := by
  have e : cubF [oneT f bit sv] = setT K.top (oneT f bit sv) := rfl
  rw [e]
  unfold setT oneT upd
  simp [K.top]
theorem add_both {c : K} {f b : Nat} {sv : B64} : bothK c (cubF [oneT f (bit1 b) sv]) = addK c f (bit1 b) sv := by
  refine K.ext' (fun g => ?_) (fun g => ?_)
  · show c.m g ||| _ = _
    rw [(one_cub f (bit1 b) sv g).1]
    unfold addK upd
    by_cases e : g = f
    · subst e; simp
    · simp [e]
  · show c.v g ||| _ = _
    rw [(one_cub f (bit1 b) sv g).2]
    unfold addK upd
    by_cases e : g = f
    · subst e; simp
    · simp [e]
theorem add_meets {c : K} (hc : Vk c) {f b : Nat} {sv : B64} (hb : b < 64) (hf : 1 ≤ f ∧ f ≤ 9) (has : sv &&& bit1 b = sv) (hm : (c.m f).getLsbD b = false) : meetB c (cubF [oneT f (bit1 b) sv]) = true := by
  rw [meet_cond hc (cubF_vk (one_whole hf hb has))]
  intro g hg
  unfold condF
  rw [(one_cub f (bit1 b) sv g).1, (one_cub f (bit1 b) sv g).2]
  by_cases e : g = f
  · subst e
    rw [if_pos rfl, if_pos rfl]
    have h0 : c.m g &&& bit1 b = 0#64 := bv_ext fun i hi => by
      rw [BitVec.getLsbD_and, bit1_get _ _ hi]
      by_cases e : i = b
      · subst e; rw [hm]; simp
      · simp [e]
    have h1 : c.v g &&& bit1 b = 0#64 := by rw [← hc.sub g, BitVec.and_assoc, h0]; simp
    have h2 : sv &&& c.m g = 0#64 := by rw [← has, BitVec.and_assoc, BitVec.and_comm (bit1 b), h0]; simp
    rw [h1, h2]
  · rw [if_neg e, if_neg e]
    simp
theorem flip_add (o c : K) (f b : Nat) : flipK o c (f, b) = addK c f (bit1 b) (bit1 b &&& ~~~ o.v f) := rfl
theorem keep_add (o c : K) (f b : Nat) : keepK o c (f, b) = addK c f (bit1 b) (bit1 b &&& o.v f) := rfl
set_option maxRecDepth 20000 in
set_option maxHeartbeats 4000000 in
theorem turned_any (a : Option Addr) (c : K) (cap f b : Nat) (sv : B64) (w : World) (hs : Ts w a (toT c)) (hc : Vk c) (hb : b < 64) (hf : 1 ≤ f ∧ f ≤ 9) (has : sv &&& bit1 b = sv) (hm : (c.m f).getLsbD b = false) :
    Calls Try.prog 54 #[.slice a (toT c).length cap, .int .i64 (f : Int), cv (bit1 b), cv sv] w fun e w' => ∃ x d, e = .returned (.slice x (toT (addK c f (bit1 b) sv)).length d) ∧ RwI 32 tstL 3 w (.slice x (toT (addK c f (bit1 b) sv)).length d) (toT (addK c f (bit1 b) sv)) w' := by
  obtain ⟨X, hX, hC3, gX, zX⟩ := box3 w (oneT f (bit1 b) sv)
  have HM : Hid (Calls Try.prog 29 #[.slice a (toT c).length cap, .slice (some ⟨w.heap.size, 0, none⟩) 1 1] X fun e w' => ∃ x d, e = .returned (.tuple #[.slice x (toT (addK c f (bit1 b) sv)).length d, .bool true]) ∧ RwI 32 tstL 3 w (.slice x (toT (addK c f (bit1 b) sv)).length d) (toT (addK c f (bit1 b) sv)) w') := (show Calls _ _ _ _ _ by
    have h := rmeet_any a (toT c) cap (some ⟨w.heap.size, 0, none⟩) [oneT f (bit1 b) sv] 1 X (hs.below gX) (.inr ⟨w.heap.size, 0, rfl, by omega, fun i hi => by
      obtain rfl : i = 0 := by simp at hi; omega
      exact hC3⟩) (toT_whole hc) (one_whole hf hb has) (toT_few c) (by simp)
    rw [cubF_toT hc] at h
    refine h.mono fun e w' hq => ?_
    rcases hq with ⟨_, v, h2, h3⟩ | ⟨h1, _⟩
    · rw [add_both] at h3
      have h4 := h3.from gX
      obtain ⟨x, d, hv⟩ := own_form h4.own
      subst hv
      exact ⟨x, d, h2, h4⟩
    · rw [add_meets hc hb hf has hm] at h1; cases h1)
  have HX : Hid (w.alloc (.cells #[.int .i64 (f : Int), cv sv, cv (bit1 b)] 32) = X) := hX
  generalize toT (addK c f (bit1 b) sv) = T1 at *
  generalize (toT c).length = N0 at *
  generalize bit1 b = bb at *
  clear hX hC3 gX zX hs hm has
  go_enter Try.func54, Try.ntmps54
  go_wp2_with (rw [HX.out]; go_at_call 29; refine HM.out.mono ?_; rintro e w1 ⟨x, d, rfl, h1⟩; have HR : Hid (RwI 32 tstL 3 w (.slice x T1.length d) T1 w1) := h1; clear h1)
  go_ret
  exact ⟨x, d, rfl, HR.out⟩
/-- A head that leads to a cube's tests, apart from the row v. -/
def Kp (v : Value) (u : World) (h : Hd) (k : K) : Prop := Tc u h k ∧ (toT k ≠ [] → ∀ p, h.a = some p → p.block < u.heap.size ∧ v.ownBlock ≠ some p.block)
theorem Kp.below {v : Value} {u u' : World} {h : Hd} {k : K} (t : Kp v u h k) (g : Below u.heap.size u u') : Kp v u' h k := ⟨t.1.below g, fun h0 p hp => ⟨Nat.lt_of_lt_of_le (t.2 h0 p hp).1 g.size, (t.2 h0 p hp).2⟩⟩
theorem Kp.app {v v' : Value} {wr V w2 : World} {h : Hd} {k : K} (t : Kp v wr h k) (gV : Below wr.heap.size wr V) (g : V.grownBy w2 v.ownBlock) (hat : v'.ownBlock = v.ownBlock ∨ v'.ownBlock = some V.heap.size) : Kp v' w2 h k := by
  have hsz := gV.size
  have hsz2 := g.size
  by_cases hl : toT k = []
  · exact ⟨⟨t.1.1, t.1.2.1, .inl hl⟩, fun h => absurd hl h⟩
  refine ⟨⟨t.1.1, t.1.2.1, ?_⟩, fun _ p hp => ?_⟩
  · rcases t.1.2.2 with e | ⟨b, o, e1, e2, e3⟩
    · exact .inl e
    · have := t.2 hl _ e1
      have eb : w2.heap[b]? = wr.heap[b]? := (g.block b (by omega) (fun e => this.2 e.symm)).trans (gV.block b e2)
      exact .inr ⟨b, o, e1, by omega, e3.block eb⟩
  · have := t.2 hl p hp
    refine ⟨by omega, ?_⟩
    rcases hat with e | e
    · rw [e]; exact this.2
    · rw [e]; intro e2; have := Option.some.inj e2; omega
theorem Kp.new {v : Value} {u w' : World} {x : Option Addr} {d : Nat} {k : K} (h : RwI 32 tstL 3 u (.slice x (toT k).length d) (toT k) w') (hv : ∀ j, v.ownBlock = some j → j < u.heap.size) : Kp v w' ⟨x, (toT k).length, d⟩ k := by
  obtain ⟨a, cap, e, hc, hsk⟩ := own_sk kdT h.own
  obtain ⟨e1, _, e2⟩ := Value.slice.inj e
  subst e1
  subst e2
  refine ⟨⟨rfl, hc, hsk⟩, fun h0 p hp => ?_⟩
  rcases h.own.2 with ⟨h1, h2⟩ | ⟨g, cap', cur, h1, h2, h3, _⟩
  · exact absurd (List.length_eq_zero_iff.1 h2) h0
  · obtain ⟨e3, _, _⟩ := Value.slice.inj h1
    simp only at hp
    rw [e3] at hp
    cases hp
    exact ⟨(Array.getElem?_eq_some_iff.1 h3).1, fun e => by have := hv _ e; simp only at this; omega⟩
structure TlI (w : World) (v : Value) (L : List K) (wr : World) : Prop where
  ex : ∃ hs, Own 43 hdL 1 w.heap.size wr v hs ∧ Hs (Kp v) wr hs L
  bel : Below w.heap.size w wr
theorem TlI.nil (w : World) : TlI w (.slice none 0 0) [] w := ⟨⟨[], World.ownsRow_nil _ _ _ _, Hs.nil _⟩, Below.refl _ _⟩
theorem TlI.grow {w wr V : World} {v : Value} {L : List K} (h : TlI w v L wr) (g : Below wr.heap.size wr V) : TlI w v L V := by
  obtain ⟨hs, h1, h2⟩ := h.ex
  exact ⟨⟨hs, own_below h1 g, h2.mono fun i i1 i2 t => t.below g⟩, btr h.bel g (Nat.le_refl _)⟩
theorem TlI.form {w wr : World} {v : Value} {L : List K} (h : TlI w v L wr) : ∃ a c, v = .slice a L.length c := by
  obtain ⟨hs, h1, h2⟩ := h.ex
  obtain ⟨a, c, e⟩ := own_form h1
  exact ⟨a, c, by rw [e, h2.1]⟩
theorem TlI.app {w wr V w2 : World} {v v' : Value} {L : List K} {hs : List Hd} {x : Hd} {k : K} (h : TlI w v L wr) (h1 : Own 43 hdL 1 w.heap.size wr v hs) (h2 : Hs (Kp v) wr hs L) (hx : Kp v wr x k)
    (gV : Below wr.heap.size wr V) (o : Own 43 hdL 1 w.heap.size w2 v' (hs ++ [x])) (g : V.grownBy w2 v.ownBlock) (hat : v'.ownBlock = v.ownBlock ∨ v'.ownBlock = some V.heap.size) : TlI w v' (L ++ [k]) w2 :=
  ⟨⟨hs ++ [x], o, Hs.snoc (Hs.mono (P' := Kp v') (w' := w2) h2 fun i i1 i2 t => t.app gV g hat) (hx.app gV g hat)⟩, (h.bel.trans (gV.mono h.bel.size)).grown g (Nat.le_trans h.bel.size gV.size) (fun j hj => (h1.lt j hj).1)⟩
/-- A list of cubes in a slice of slices. -/
def CuS (u : World) (a : Option Addr) (l : List K) : Prop := l = [] ∨ ∃ g, a = some ⟨g, 0, none⟩ ∧ g < u.heap.size ∧ ∀ i (h : i < l.length), ∃ x c, u.cell? ⟨g, i, none⟩ = some (.slice x (toT l[i]).length c) ∧ Ts u x (toT l[i])
theorem CuS.below {u u' : World} {a : Option Addr} {l : List K} (h : CuS u a l) (g : Below u.heap.size u u') : CuS u' a l := by
  rcases h with h | ⟨q, e, hq, hc⟩
  · exact .inl h
  · refine .inr ⟨q, e, Nat.lt_of_lt_of_le hq g.size, fun i hi => ?_⟩
    obtain ⟨x, c, h1, h2⟩ := hc i hi
    exact ⟨x, c, (g.cell (p := ⟨q, i, none⟩) hq).trans h1, h2.below g⟩
theorem cus_of {base : Nat} {w' : World} {v : Value} {l : List K} {hs : List Hd} (h1 : OwnH base w' v hs) (h2 : Hs Tc w' hs l) : ∃ a c, v = .slice a l.length c ∧ CuS w' a l := by
  by_cases h0 : 0 < hs.length
  · obtain ⟨g, cap, e, hc, hb, hg, hcs⟩ := own_at kdH h1 h0
    refine ⟨_, cap, by rw [e, h2.1], .inr ⟨g, rfl, hg, fun i hi => ?_⟩⟩
    have hi' : i < hs.length := by rw [h2.1]; exact hi
    obtain ⟨t1, t2, t3⟩ := h2.2 i hi' hi
    refine ⟨hs[i].a, hs[i].c, ?_, t3.ts⟩
    have := hcs i hi' 0 (by decide)
    rw [Nat.mul_one, Nat.add_zero, Nat.zero_add] at this
    rw [this]
    show some (Value.slice _ hs[i].n _) = _
    rw [t1]
  · obtain ⟨a, c, e⟩ := own_form h1
    have hz : l = [] := List.length_eq_zero_iff.1 (by have := h2.1; omega)
    exact ⟨a, c, by rw [e, h2.1], .inl hz⟩
theorem CuR.cus {w w' : World} {v : Value} {l : List K} (h : CuR w v l w') : ∃ a c, v = .slice a l.length c ∧ CuS w' a l := by
  obtain ⟨hs, h1, h2⟩ := h.ex
  exact cus_of h1 h2
theorem TlI.cus {w wr : World} {v : Value} {L : List K} (h : TlI w v L wr) : ∃ a c, v = .slice a L.length c ∧ CuS wr a L := by
  obtain ⟨hs, h1, h2⟩ := h.ex
  exact cus_of h1 (h2.mono fun i i1 i2 t => t.1)
theorem FiH.cus {U wr : World} {b n : Nat} {l : List K} (h : FiH U b n l wr) : CuS wr (some ⟨b, 0, none⟩) l := .inr ⟨b, rfl, h.lt, fun i hi => by
  obtain ⟨x, c, h1, _, h2⟩ := h.at hi
  exact ⟨x, c, h1, h2⟩⟩
set_option maxRecDepth 20000 in
set_option maxHeartbeats 4000000 in
theorem samecs_any (a : Option Addr) (L : List K) (cap : Nat) (b : Option Addr) (mc : Nat) (w : World) (hs : CuS w a L) (ht : CuS w b L) (hl : L.length ≤ 100000) :
    Calls Try.prog 32 #[.slice a L.length cap, .slice b L.length mc] w fun e w' => e = .returned (.bool true) ∧ Below w.heap.size w w' := by
  have HS : Hid (CuS w a L ∧ CuS w b L) := ⟨hs, ht⟩
  obtain ⟨n, hn⟩ : ∃ n, L.length = n := ⟨_, rfl⟩
  have HN : Hid (L.length = n) := hn
  rw [hn] at hl ⊢
  clear hs ht hn
  go_enter Try.func32, Try.ntmps32
  go_wp2_with fail
  go_loopw [5] (fun v5 wr => ∃ k : Nat, k ≤ n ∧ v5 = .int .i64 k ∧ Hid (Below w.heap.size w wr)) (fun v5 _ => n - (intOf v5).toNat)
  case atStart => exact ⟨0, Nat.zero_le _, rfl, Below.refl _ _⟩
  case round =>
    obtain ⟨k, hk, rfl, HB⟩ := hrel
    by_cases hlt : k < n
    · have hkl : k < L.length := by have := HN.out; omega
      have hne : ¬ L = [] := fun e => by rw [e] at hkl; cases hkl
      rcases HS.out.1.below HB.out with h | ⟨g, rfl, hg, hc⟩
      · exact absurd h hne
      rcases HS.out.2.below HB.out with h | ⟨g2, rfl, hg2, hc2⟩
      · exact absurd h hne
      obtain ⟨x, c, hx, tx⟩ := hc k hkl
      obtain ⟨y, d, hy, ty⟩ := hc2 k hkl
      have HM : Hid (∀ z : GrT wr, Calls Try.prog 30 #[.slice x (toT L[k]).length c, .slice y (toT L[k]).length d] z.w fun e w' => e = .returned (.bool true) ∧ Below z.w.heap.size z.w w') := (show ∀ z : GrT wr, _ from fun z => by
        have := sameC_any x (toT L[k]) c y (toT L[k]) d z.w (tx.below z.h) (ty.below z.h) (toT_few _) (toT_few _)
        rw [(sameT_iff _ _).2 rfl] at this
        exact this)
      generalize (toT L[k]).length = N0 at *
      have hx' : ∀ z : GrT wr, z.w.cell? ⟨g, k, none⟩ = some (.slice x N0 c) := fun z => cell_gr hx hg z
      have hy' : ∀ z : GrT wr, z.w.cell? ⟨g2, k, none⟩ = some (.slice y N0 d) := fun z => cell_gr hy hg2 z
      clear hc hc2 hx hy tx ty hne hg hg2
      go_wp2_with fail
      refine wp_region_grow (by kernel_rfl) (by kernel_rfl) ?_
      repeat (go_big_quiet_step ((go_at_call 30; exact quiet_gr (HM.out _))))
      refine wpQuiet_nil ?_
      rintro w6 hw'
      have g1 := gr_elim hw'
      clear hw'
      have HB6 : Hid (Below w.heap.size w w6) := (show Below _ _ _ from btr HB.out g1 (Nat.le_refl _))
      clear g1 hx' hy'
      go_wp2_with fail
      go_roundw
      case rel => exact ⟨k + 1, by omega, by go_num, HB6⟩
      case measure => simp [intOf]; omega
    · go_wp2_with fail
      go_ret
      exact ⟨rfl, HB.out⟩
end Go.Proofs.Ytmobmpghpdaddaa

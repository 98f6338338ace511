/-
  Lists of cubes of the document's: Cut, without, both.
-/
import Derived.Test.YtmobmpghpdaddaaRefC
import Derived.Test.YtmobmpghpdaddaaOr
import Derived.Deep.RegionHeld
import Derived.Deep.RegionHeldLaw
namespace Go.Proofs.Ytmobmpghpdaddaa
open Go.ChangeShapes Go.WideShapes Go.ChangeAt Go.RowKit
set_option linter.unusedVariables false
set_option linter.unusedSimpArgs false

/-- Where a cube's tests lie, if it has some. -/
def Fq (F : Addr → Prop) (_ : World) (h : Hd) (k : K) : Prop := toT k ≠ [] → ∀ p, h.a = some p → F p
def Sk0 (u : World) (a : Option Addr) (hs : List Hd) : Prop := (a = none ∧ hs = []) ∨ ∃ g, a = some ⟨g, 0, none⟩ ∧ g < u.heap.size ∧ Cs hdL 1 u g 0 hs
theorem Sk0.below {u u' : World} {a : Option Addr} {hs : List Hd} (h : Sk0 u a hs) (g : Below u.heap.size u u') : Sk0 u' a hs := by
  rcases h with h | ⟨q, e, hq, hc⟩
  · exact .inl h
  · exact .inr ⟨q, e, Nat.lt_of_lt_of_le hq g.size, hc.block (g.block q hq)⟩
/-- A list of cubes; all of it lies at places of F. -/
structure CuF (F : Addr → Prop) (u : World) (a : Option Addr) (l : List K) : Prop where
  ex : ∃ hs : List Hd, Sk0 u a hs ∧ Hs Tc u hs l ∧ Hs (Fq F) u hs l
  fa : l ≠ [] → ∀ p, a = some p → F p
theorem CuF.nil (F : Addr → Prop) (u : World) : CuF F u none [] := ⟨⟨[], .inl ⟨rfl, rfl⟩, Hs.nil _, Hs.nil _⟩, fun h => absurd rfl h⟩
theorem CuF.below {F : Addr → Prop} {u u' : World} {a : Option Addr} {l : List K} (h : CuF F u a l) (g : Below u.heap.size u u') : CuF F u' a l := by
  obtain ⟨hs, h1, h2, h3⟩ := h.ex
  exact ⟨⟨hs, h1.below g, h2.mono fun i i1 i2 t => t.below g, h3.mono fun i i1 i2 t => t⟩, h.fa⟩
theorem tc_lt {u : World} {h : Hd} {k : K} (t : Tc u h k) (h0 : toT k ≠ []) : ∀ p, h.a = some p → p.block < u.heap.size := by
  rcases t.2.2 with e | ⟨g, o, e1, e2, _⟩
  · exact absurd e h0
  · intro p hp
    rw [e1] at hp
    cases hp
    exact e2
theorem CuF.mono {F F' : Addr → Prop} {u : World} {a : Option Addr} {l : List K} (h : CuF F u a l) (hf : ∀ p : Addr, p.block < u.heap.size → F p → F' p) : CuF F' u a l := by
  obtain ⟨hs, h1, h2, h3⟩ := h.ex
  refine ⟨⟨hs, h1, h2, ⟨h3.1, fun i i1 i2 h0 p hp => hf p (tc_lt (h2.2 i i1 i2) h0 p hp) (h3.2 i i1 i2 h0 p hp)⟩⟩, fun hl p hp => ?_⟩
  refine hf p ?_ (h.fa hl p hp)
  rcases h1 with ⟨e, _⟩ | ⟨g, e, hg, _⟩
  · rw [e] at hp; cases hp
  · rw [e] at hp; cases hp; exact hg
theorem CuF.at {F : Addr → Prop} {u : World} {a : Option Addr} {l : List K} (h : CuF F u a l) {i : Nat} (hi : i < l.length) : ∃ g x c, a = some ⟨g, 0, none⟩ ∧ g < u.heap.size ∧ u.cell? ⟨g, i, none⟩ = some (.slice x (toT l[i]).length c) ∧ (toT l[i]).length ≤ c ∧ Ts u x (toT l[i]) ∧ (toT l[i] ≠ [] → ∀ p, x = some p → F p) := by
  obtain ⟨hs, h1, h2, h3⟩ := h.ex
  have hi' : i < hs.length := by rw [h2.1]; exact hi
  rcases h1 with ⟨_, e⟩ | ⟨g, e, hg, hc⟩
  · rw [e] at hi'; cases hi'
  · obtain ⟨t1, t2, t3⟩ := h2.2 i hi' hi
    refine ⟨g, hs[i].a, hs[i].c, e, hg, ?_, by omega, t3.ts, h3.2 i hi' hi⟩
    have := hc i hi' 0 (by decide)
    rw [Nat.mul_one, Nat.add_zero, Nat.zero_add] at this
    rw [this]
    show some (Value.slice _ hs[i].n _) = _
    rw [t1]
theorem CuF.cus {F : Addr → Prop} {u : World} {a : Option Addr} {l : List K} (h : CuF F u a l) : CuS u a l := by
  by_cases h0 : l = []
  · exact .inl h0
  · have hp : 0 < l.length := List.length_pos_iff.2 h0
    obtain ⟨g, x, c, e, hg, _⟩ := h.at hp
    refine .inr ⟨g, e, hg, fun i hi => ?_⟩
    obtain ⟨g', x', c', e', _, h1, _, h2, _⟩ := h.at hi
    rw [e] at e'
    cases e'
    exact ⟨x', c', h1, h2⟩
theorem Hs.app {β : Type} {P : World → Hd → β → Prop} {w : World} {hs hs' : List Hd} {l l' : List β} (h : Hs P w hs l) (h' : Hs P w hs' l') : Hs P w (hs ++ hs') (l ++ l') := by
  refine ⟨by rw [List.length_append, List.length_append, h.1, h'.1], fun i i1 i2 => ?_⟩
  by_cases e : i < hs.length
  · have e2 : i < l.length := by rw [← h.1]; exact e
    rw [List.getElem_append_left e, List.getElem_append_left e2]
    exact h.2 i e e2
  · have e2 : ¬ i < l.length := by rw [← h.1]; exact e
    rw [List.length_append] at i1 i2
    rw [List.getElem_append_right (by omega), List.getElem_append_right (by omega)]
    have h1 := h.1
    have := h'.2 (i - hs.length) (by omega) (by omega)
    simp only [← h1]
    exact this
/-- A row of cubes that the call makes. -/
structure TlF (F : Addr → Prop) (w : World) (v : Value) (L : List K) (wr : World) : Prop where
  ex : ∃ hs, Own 43 hdL 1 w.heap.size wr v hs ∧ Hs (Kp v) wr hs L ∧ Hs (Fq F) wr hs L
  bel : Below w.heap.size w wr
theorem TlF.nil (F : Addr → Prop) (w : World) : TlF F w (.slice none 0 0) [] w := ⟨⟨[], World.ownsRow_nil _ _ _ _, Hs.nil _, Hs.nil _⟩, Below.refl _ _⟩
theorem TlF.grow {F : Addr → Prop} {w wr V : World} {v : Value} {L : List K} (h : TlF F w v L wr) (g : Below wr.heap.size wr V) : TlF F w v L V := by
  obtain ⟨hs, h1, h2, h3⟩ := h.ex
  exact ⟨⟨hs, own_below h1 g, h2.mono fun i i1 i2 t => t.below g, h3.mono fun i i1 i2 t => t⟩, btr h.bel g (Nat.le_refl _)⟩
theorem TlF.form {F : Addr → Prop} {w wr : World} {v : Value} {L : List K} (h : TlF F w v L wr) : ∃ a c, v = .slice a L.length c := by
  obtain ⟨hs, h1, h2, _⟩ := h.ex
  obtain ⟨a, c, e⟩ := own_form h1
  exact ⟨a, c, by rw [e, h2.1]⟩
theorem TlF.app {F : Addr → Prop} {w wr V w2 : World} {v v' : Value} {L L' : List K} {hs hs' : List Hd} (h : TlF F w v L wr) (h1 : Own 43 hdL 1 w.heap.size wr v hs) (h2 : Hs (Kp v) wr hs L) (h3 : Hs (Fq F) wr hs L) (hx : Hs (Kp v) wr hs' L') (hf : Hs (Fq F) wr hs' L')
    (gV : Below wr.heap.size wr V) (o : Own 43 hdL 1 w.heap.size w2 v' (hs ++ hs')) (g : V.grownBy w2 v.ownBlock) (hat : v'.ownBlock = v.ownBlock ∨ v'.ownBlock = some V.heap.size) : TlF F w v' (L ++ L') w2 :=
  ⟨⟨hs ++ hs', o, Hs.app (Hs.mono (P' := Kp v') (w' := w2) h2 fun i i1 i2 t => t.app gV g hat) (Hs.mono (P' := Kp v') (w' := w2) hx fun i i1 i2 t => t.app gV g hat), Hs.app (Hs.mono (P' := Fq F) (w' := w2) h3 fun i i1 i2 t => t) (Hs.mono (P' := Fq F) (w' := w2) hf fun i i1 i2 t => t)⟩, (h.bel.trans (gV.mono h.bel.size)).grown g (Nat.le_trans h.bel.size gV.size) (fun j hj => (h1.lt j hj).1)⟩
theorem own_sk0 {B : Nat} {w : World} {v : Value} {hs : List Hd} (h : Own 43 hdL 1 B w v hs) : ∃ a c, v = .slice a hs.length c ∧ Sk0 w a hs ∧ (∀ p, a = some p → B ≤ p.block) := by
  by_cases h0 : 0 < hs.length
  · obtain ⟨g, c, e, _, hb, hg, hc⟩ := own_at kdH h h0
    exact ⟨_, c, e, .inr ⟨g, rfl, hg, hc⟩, fun p hp => by cases hp; exact hb⟩
  · have hz : hs = [] := List.length_eq_zero_iff.1 (by omega)
    subst hz
    rcases h.2 with ⟨rfl, _⟩ | ⟨g, c, cur, rfl, hb, hg, _⟩
    · exact ⟨none, 0, rfl, .inl ⟨rfl, rfl⟩, fun p hp => by cases hp⟩
    · exact ⟨_, c, rfl, .inr ⟨g, rfl, (Array.getElem?_eq_some_iff.1 hg).1, fun j hj => by cases hj⟩, fun p hp => by cases hp; exact hb⟩
theorem TlF.cuf {F : Addr → Prop} {w wr : World} {v : Value} {L : List K} (h : TlF F w v L wr) (hF : ∀ p : Addr, w.heap.size ≤ p.block → F p) : ∃ a c, v = .slice a L.length c ∧ CuF F wr a L := by
  obtain ⟨hs, h1, h2, h3⟩ := h.ex
  obtain ⟨a, c, e, hsk, hb⟩ := own_sk0 h1
  exact ⟨a, c, by rw [e, h2.1], ⟨hs, hsk, h2.mono fun i i1 i2 t => t.1, h3⟩, fun _ p hp => hF p (hb p hp)⟩
theorem Fq.new {F : Addr → Prop} {u w' : World} {x : Option Addr} {d : Nat} {k : K} (h : RwI 32 tstL 3 u (.slice x (toT k).length d) (toT k) w') (hF : ∀ p : Addr, u.heap.size ≤ p.block → F p) : Fq F w' ⟨x, (toT k).length, d⟩ k := by
  intro h0 p hp
  rcases h.own.2 with ⟨h1, h2⟩ | ⟨g, cap', cur, h1, h2, h3, _⟩
  · exact absurd (List.length_eq_zero_iff.1 h2) h0
  · obtain ⟨e3, _, _⟩ := Value.slice.inj h1
    simp only at hp
    rw [e3] at hp
    cases hp
    exact hF _ h2
/-- What is handed on lies apart from the row v. -/
theorem CuF.kp {F : Addr → Prop} {u : World} {v : Value} {a : Option Addr} {l : List K} (h : CuF (fun p => F p ∧ v.ownBlock ≠ some p.block) u a l) : ∃ hs, Sk0 u a hs ∧ hs.length = l.length ∧ Hs (Kp v) u hs l ∧ Hs (Fq F) u hs l := by
  obtain ⟨hs, h1, h2, h3⟩ := h.ex
  exact ⟨hs, h1, h2.1, ⟨h2.1, fun i i1 i2 => ⟨h2.2 i i1 i2, fun h0 p hp => ⟨tc_lt (h2.2 i i1 i2) h0 p hp, (h3.2 i i1 i2 h0 p hp).2⟩⟩⟩, ⟨h3.1, fun i i1 i2 h0 p hp => (h3.2 i i1 i2 h0 p hp).1⟩⟩
theorem Sk0.sk {u : World} {a : Option Addr} {hs : List Hd} (h : Sk0 u a hs) : Sk hdL 1 u a hs := by
  rcases h with ⟨_, e⟩ | ⟨g, e, hg, hc⟩
  · exact .inl e
  · exact .inr ⟨g, 0, e, hg, hc⟩
end Go.Proofs.Ytmobmpghpdaddaa
namespace Go.Proofs.Ytmobmpghpdaddaa
open Go.ChangeShapes Go.WideShapes Go.ChangeAt Go.RowKit
set_option linter.unusedVariables false
set_option linter.unusedSimpArgs false

set_option maxRecDepth 20000 in
set_option maxHeartbeats 4000000 in
theorem rcut_f (F : Addr → Prop) (a : Option Addr) (l : List Tst) (cap : Nat) (b : Option Addr) (m : List Tst) (mc : Nat) (w : World) (hs : Ts w a l) (ht : Ts w b m) (hwl : wholeB l = true) (hwm : wholeB m = true) (hl : l.length ≤ 9223372036854775807) (hm : m.length ≤ 9223372036854775807) (hcap : l.length ≤ cap) (hF : ∀ p : Addr, w.heap.size ≤ p.block → F p) (hFa : l ≠ [] → ∀ p, a = some p → F p) :
    Calls Try.prog 33 #[.slice a l.length cap, .slice b m.length mc] w fun e w' => ∃ x d, e = .returned (.slice x (cutL (cubF l) (cubF m)).length d) ∧ CuF F w' x (cutL (cubF l) (cubF m)) ∧ Below w.heap.size w w' := by
  have HFF : Hid ((∀ p : Addr, w.heap.size ≤ p.block → F p) ∧ (l ≠ [] → ∀ p, a = some p → F p)) := ⟨hF, hFa⟩
  clear hF hFa
  have HMe : Hid (Calls Try.prog 29 #[.slice a l.length cap, .slice b m.length mc] w fun e w' => MtD w (cubF l) (cubF m) e w') := rmeet_any a l cap b m mc w hs ht hwl hwm hl hm
  have HAl : Hid (∀ u (f : Nat), Below w.heap.size w u → Calls Try.prog 48 #[.slice a l.length cap, .int .i64 (f : Int)] u fun e w' => e = .returned (.agg #[.int .i64 (f : Int), cv ((cubF l).v f), cv ((cubF l).m f)]) ∧ Below u.heap.size u w') := (show ∀ u f, _ from fun u f g => asks_any a l cap f u (hs.below g) hwl hl)
  have HAm : Hid (∀ u (f : Nat), Below w.heap.size w u → Calls Try.prog 48 #[.slice b m.length mc, .int .i64 (f : Int)] u fun e w' => e = .returned (.agg #[.int .i64 (f : Int), cv ((cubF m).v f), cv ((cubF m).m f)]) ∧ Below u.heap.size u w') := (show ∀ u f, _ from fun u f g => asks_any b m mc f u (ht.below g) hwm hm)
  have vc := cubF_vk hwl
  have vo := cubF_vk hwm
  have htc := toT_cubF hwl
  obtain ⟨c, hc⟩ : ∃ c, cubF l = c := ⟨_, rfl⟩
  obtain ⟨o, ho⟩ : ∃ o, cubF m = o := ⟨_, rfl⟩
  rw [hc] at HMe HAl vc htc ⊢
  rw [ho] at HMe HAm vo ⊢
  have HTl : Hid (Ts w a l ∧ toT c = l) := ⟨hs, htc⟩
  cases hme : meetB c o with
  | false =>
    have hcl : cutL c o = [c] := by unfold cutL; rw [hme]; rfl
    rw [hcl]
    have HMn : Hid (Calls Try.prog 29 #[.slice a l.length cap, .slice b m.length mc] w fun e w' => e = .returned (.tuple #[.slice none 0 0, .bool false]) ∧ Below w.heap.size w w') := (show Calls _ _ _ _ _ from HMe.out.mono fun e w' hq => by
      rcases hq with ⟨h1, _⟩ | ⟨_, h2, h3⟩
      · rw [hme] at h1; cases h1
      · exact ⟨h2, h3⟩)
    have HCn : Hid (∀ w1, Below w.heap.size w w1 → CuF F (w1.alloc (.cells #[.slice a l.length cap] 43)) (some ⟨w1.heap.size, 0, none⟩) [c] ∧ Below w.heap.size w (w1.alloc (.cells #[.slice a l.length cap] 43))) := (show ∀ w1, _ from fun w1 g => by
      have g2 : Below w1.heap.size w1 (w1.alloc (.cells #[.slice a l.length cap] 43)) := by go_grown
      have g3 : Below w.heap.size w (w1.alloc (.cells #[.slice a l.length cap] 43)) := btr g g2 (Nat.le_refl _)
      refine ⟨⟨⟨[⟨a, l.length, cap⟩], .inr ⟨w1.heap.size, rfl, by simp, cs_new (k := hdL) (s := 1) w1 ⟨a, l.length, cap⟩ 43⟩, ⟨rfl, fun i i1 i2 => ?_⟩, ⟨rfl, fun i i1 i2 h0 p hp => ?_⟩⟩, fun _ p hp => ?_⟩, g3⟩
      · obtain rfl : i = 0 := by simp at i1; omega
        refine ⟨?_, ?_, ?_⟩
        · show l.length = (toT c).length
          rw [HTl.out.2]
        · exact hcap
        · show Sk tstL 3 _ a (toT c)
          rw [HTl.out.2]
          rcases HTl.out.1.below g3 with h | ⟨q, oo, e, hq, hcs⟩
          · exact .inl h
          · exact .inr ⟨q, oo, e, hq, Cs.of_ts hcs⟩
      · obtain rfl : i = 0 := by simp at i1; omega
        refine HFF.out.2 ?_ p hp
        intro e
        exact h0 (by show toT c = []; rw [HTl.out.2]; exact e)
      · cases hp
        exact HFF.out.1 _ (by show w.heap.size ≤ w1.heap.size; exact g.size))
    clear hcl hme HMe HAl HAm hs ht hwl hwm vc vo htc hc ho hl hm hcap
    go_enter Try.func33, Try.ntmps33
    go_wp2_with (go_at_call 29; refine HMn.out.mono ?_; rintro e w1 ⟨rfl, h1⟩; have HC1 := HCn.out w1 h1; have HC2 : Hid (CuF F (w1.alloc (.cells #[.slice a l.length cap] 43)) (some ⟨w1.heap.size, 0, none⟩) [c] ∧ Below w.heap.size w (w1.alloc (.cells #[.slice a l.length cap] 43))) := HC1; clear h1 HC1)
    go_ret
    exact ⟨_, 1, rfl, HC2.out.1, HC2.out.2⟩
  | true =>
    have hcl : cutL c o = cutR o c (pos c o 10) := by unfold cutL; rw [hme]; rfl
    rw [hcl]
    have HMy : Hid (Calls Try.prog 29 #[.slice a l.length cap, .slice b m.length mc] w fun e w' => ∃ z f, e = .returned (.tuple #[.slice z (toT (bothK c o)).length f, .bool true]) ∧ Below w.heap.size w w') := (show Calls _ _ _ _ _ from HMe.out.mono fun e w' hq => by
      rcases hq with ⟨_, v, h2, h3⟩ | ⟨h1, _⟩
      · obtain ⟨z, f, hv⟩ := own_form h3.own
        subst hv
        exact ⟨z, f, h2, h3.bel⟩
      · rw [hme] at h1; cases h1)
    have HVo : Hid (Vk o) := vo
    have hst := Ct.start vc vo
    obtain ⟨FL, hFL⟩ : ∃ FL, cutR o c (pos c o 10) = FL := ⟨_, rfl⟩
    rw [hFL] at hst ⊢
    have HSt : Hid (Ct o FL [] c (posX c o 1)) := hst
    have hfl := cutL_len c o
    rw [hcl, hFL] at hfl
    have HFl : Hid (FL.length ≤ 640) := hfl
    have HR0 : Hid (∀ u, Below w.heap.size w u → RtI (.slice a l.length cap) (.slice none 0 0) c u ∧ TlF F u (.slice none 0 0) [] u) := (show ∀ u, _ from fun u g => by
      refine ⟨⟨⟨a, l.length, cap⟩, rfl, ⟨by rw [HTl.out.2], hcap, ?_⟩, fun h0 p hp => ⟨?_, by simp [Value.ownBlock]⟩⟩, TlF.nil F u⟩
      · rw [HTl.out.2]
        rcases HTl.out.1.below g with h | ⟨q, oo, e, hq, hcs⟩
        · exact .inl h
        · exact .inr ⟨q, oo, e, hq, Cs.of_ts hcs⟩
      · rw [HTl.out.2] at h0
        rcases HTl.out.1.below g with h | ⟨q, oo, e, hq, hcs⟩
        · exact absurd h h0
        · simp only at hp; rw [hp] at e; cases e; exact hq)
    clear hcl hme HMe hs ht hwl hwm vc vo htc hc ho hl hm hcap hst hFL hfl
    generalize (toT (bothK c o)).length = MN at *
    go_enter Try.func33, Try.ntmps33
    go_wp2_with (go_at_call 29; refine HMy.out.mono ?_; rintro e w1 ⟨z, zf, rfl, h1⟩; have HB1 : Hid (Below w.heap.size w w1) := h1; have HR1 : Hid (RtI (.slice a l.length cap) (.slice none 0 0) c w1 ∧ TlF F w1 (.slice none 0 0) [] w1) := HR0.out w1 h1; clear h1)
    clear HR0 HMy
    go_loopw [7, 8, 9] (fun v7 v8 v9 wr => ∃ (f : Nat) (OL : List K) (RK : K), 1 ≤ f ∧ f ≤ 10 ∧ v9 = .int .i64 f ∧ Hid (Ct o FL OL RK (posX c o f)) ∧ Hid (TlF F w1 v7 OL wr) ∧ Hid (RtI v8 v7 RK wr)) (fun _ _ v9 _ => 10 - (intOf v9).toNat)
    case atStart => exact ⟨1, [], c, by omega, by omega, rfl, HSt, HR1.out.2, HR1.out.1⟩
    case round =>
      obtain ⟨f, OL0, RK0, hf1, hf2, rfl, HCt, HTl2, HRt⟩ := hrel
      clear HSt HR1
      by_cases hlt : f < 10
      · have q0 : decide ((f : Int) ≤ 9) = true := by simp; omega
        have HC64 : Hid (Ct o FL OL0 RK0 (psT c o f 64)) := (show Ct _ _ _ _ _ by rw [← psT_all c o hlt]; exact HCt.out)
        have hbw : Below w.heap.size w wr := HB1.out.trans (HTl2.out.bel.mono HB1.out.size)
        have HAo := HAm.out wr f hbw
        have HAo2 : Hid (Calls Try.prog 48 #[.slice b m.length mc, .int .i64 (f : Int)] wr fun e w' => e = .returned (.agg #[.int .i64 (f : Int), cv (o.v f), cv (o.m f)]) ∧ Below wr.heap.size wr w') := HAo
        have HWx : Hid (∀ w2, Below wr.heap.size wr w2 → ∃ V1, w2.alloc (.cells #[.int .i64 (f : Int), cv (o.v f), cv (o.m f)] 32) = V1 ∧ C3 V1 w2.heap.size 0 ⟨(f : Int), o.v f, o.m f⟩ ∧ Below wr.heap.size wr V1 ∧ w2.heap.size < V1.heap.size) := (show ∀ w1, _ from fun w1 g => by
          obtain ⟨V, h1, h2, h3, h4⟩ := box3 w1 ⟨(f : Int), o.v f, o.m f⟩
          exact ⟨V, h1, h2, btr g h3 (Nat.le_refl _), by omega⟩)
        clear HAo HCt hbw
        go_wp2_with (go_at_call 48; refine HAo2.out.mono ?_; rintro e w2 ⟨rfl, h1⟩; (obtain ⟨V1, hV1, k1, k2, k3⟩ := HWx.out w2 h1); have HV1 : Hid (w2.alloc (.cells #[.int .i64 (f : Int), cv (o.v f), cv (o.m f)] 32) = V1 ∧ Below wr.heap.size wr V1 ∧ C3 V1 w2.heap.size 0 ⟨(f : Int), o.v f, o.m f⟩ ∧ w2.heap.size < V1.heap.size) := ⟨hV1, k2, k1, k3⟩; have HWz : Hid (wr.heap.size ≤ w2.heap.size) := h1.size; clear h1 hV1 k1 k2 k3)
        rw [HV1.out.1]
        obtain ⟨wo, hwo⟩ : ∃ y, w2.heap.size = y := ⟨_, rfl⟩
        have HWs : Hid (wr.heap.size ≤ wo) := (show _ ≤ _ by rw [← hwo]; exact HWz.out)
        have HBx : Hid (C3 V1 wo 0 ⟨(f : Int), o.v f, o.m f⟩ ∧ wo < V1.heap.size) := (show _ ∧ _ by rw [← hwo]; exact HV1.out.2.2)
        have HT0 : Hid (TlF F w1 u7 OL0 V1 ∧ RtI u8 u7 RK0 V1) := ⟨HTl2.out.grow HV1.out.2.1, by
          obtain ⟨x, e, hk⟩ := HRt.out.ex
          exact ⟨x, e, hk.below HV1.out.2.1⟩⟩
        have HBo : Hid (BoI wo ⟨(f : Int), o.v f, o.m f⟩ u7 V1) := (show BoI _ _ _ _ from ⟨HBx.out.1, HBx.out.2, fun j hj => by
          obtain ⟨hs0, ow0, _, _⟩ := HTl2.out.ex
          have := (ow0.lt j hj).2
          have := HWs.out
          omega⟩)
        rw [hwo]
        clear hwo HWx HWs HBx HAo2 HV1 HTl2 HRt
        go_loopw [7, 8, 11] (fun v7 v8 v11 wr2 => ∃ (t : Nat) (OL : List K) (RK : K), t ≤ 64 ∧ v11 = cv (bitN t) ∧ Hid (Ct o FL OL RK (psT c o f t)) ∧ Hid (TlF F w1 v7 OL wr2) ∧ Hid (RtI v8 v7 RK wr2) ∧ Hid (BoI wo ⟨(f : Int), o.v f, o.m f⟩ v7 wr2)) (fun _ _ v11 _ => (intOf v11).toNat)
        case atStart => exact ⟨64, OL0, RK0, Nat.le_refl _, (by show Value.int .u64 _ = Value.int .u64 (nb (bitN 64)); rw [nb63]), HC64, HT0.out.1, HT0.out.2, HBo⟩
        case round =>
          obtain ⟨t, OL, RK, ht, rfl, HC, HTl3, HRt3, HBv⟩ := hrel
          clear HC64 HT0
          cases t with
          | zero =>
            have HCn : Hid (Ct o FL OL RK (posX c o (f + 1))) := (show Ct _ _ _ _ _ from HC.out)
            have e0 : nb (bitN 0) = 0 := rfl
            clear HC
            go_wp2_with fail
            refine ⟨⟨f + 1, OL, RK, by omega, by omega, by go_num, HCn, HTl3, HRt3⟩, by simp [intOf]; omega⟩
          | succ t =>
            have hpos := nb_bit_pos (show t < 64 by omega)
            have hdec : decide (0 < nb (bit1 t)) = true := decide_eq_true hpos
            have hu : nb (bitN (t + 1)) = nb (bit1 t) := rfl
            obtain ⟨d0, d1, d2⟩ := HBv.out.at_
            have e1 := b_and (o.m f) (bit1 t)
            cases h1 : (o.m f).getLsbD t with
            | false =>
              have q1 : (nb (o.m f &&& bit1 t) != 0) = false := by rw [(and_bit (by omega)).2 h1]; rfl
              have HCn : Hid (Ct o FL OL RK (psT c o f t)) := (show Ct _ _ _ _ _ by rw [← psT_no (.inl h1)]; exact HC.out)
              clear HC h1 hpos
              go_wp2_with fail
              refine ⟨⟨t, OL, RK, by omega, ?_, HCn, HTl3, HRt3, HBv⟩, half_less (by omega)⟩
              show Value.int .u64 _ = Value.int .u64 _
              rw [half_bit (by omega)]
            | true =>
              have q1 : (nb (o.m f &&& bit1 t) != 0) = true := by
                have : ¬ nb (o.m f &&& bit1 t) = 0 := fun h => by rw [(and_bit (show t < 64 by omega)).1 ((nb_eq0 _).1 h)] at h1; cases h1
                simpa using this
              have HAc : Hid (Calls Try.prog 48 #[.slice a l.length cap, .int .i64 (f : Int)] wr fun e w' => e = .returned (.agg #[.int .i64 (f : Int), cv (c.v f), cv (c.m f)]) ∧ Below wr.heap.size wr w') := HAl.out wr f (HB1.out.trans (HTl3.out.bel.mono HB1.out.size))
              have e2 := b_and (c.m f) (bit1 t)
              have hfm := field_testm (f : Int) (c.v f) (c.m f)
              cases h2 : (c.m f).getLsbD t with
              | true =>
                have q2 : (nb (c.m f &&& bit1 t) == 0) = false := by
                  have : ¬ nb (c.m f &&& bit1 t) = 0 := fun h => by rw [(and_bit (show t < 64 by omega)).1 ((nb_eq0 _).1 h)] at h2; cases h2
                  simpa using this
                have HCn : Hid (Ct o FL OL RK (psT c o f t)) := (show Ct _ _ _ _ _ by rw [← psT_no (.inr h2)]; exact HC.out)
                clear HC h1 h2 hpos
                go_wp2_with (go_at_call 48; refine HAc.out.mono ?_; rintro e w3 ⟨rfl, h1⟩; have HB3 : Hid (Below wr.heap.size wr w3) := h1; clear h1)
                have HQ : Hid (TlF F w1 u7 OL w3 ∧ RtI u8 u7 RK w3 ∧ BoI wo ⟨(f : Int), o.v f, o.m f⟩ u7 w3) := ⟨HTl3.out.grow HB3.out, by
                  obtain ⟨x, e, hk⟩ := HRt3.out.ex
                  exact ⟨x, e, hk.below HB3.out⟩, HBv.out.grow HB3.out⟩
                refine ⟨⟨t, OL, RK, by omega, ?_, HCn, HQ.out.1, HQ.out.2.1, HQ.out.2.2⟩, half_less (by omega)⟩
                show Value.int .u64 _ = Value.int .u64 _
                rw [half_bit (by omega)]
              | false =>
                have q2 : (nb (c.m f &&& bit1 t) == 0) = true := by rw [(and_bit (by omega)).2 h2]; rfl
                have HCy : Hid (Ct o FL OL RK ((f, t) :: psT c o f t)) := (show Ct _ _ _ _ _ by rw [← psT_yes (by omega) h1 h2]; exact HC.out)
                have HCn : Hid (Ct o FL (OL ++ [flipK o RK (f, t)]) (keepK o RK (f, t)) (psT c o f t)) := HCy.out.step HVo.out
                have e3 := b_and (o.v f) (bit1 t)
                have e4 := sub_bit (x := o.v f) (show t < 64 by omega)
                have hlen : OL.length ≤ 640 := by
                  have h3 := HFl.out
                  rw [HCy.out.eq, List.length_append] at h3
                  omega
                obtain ⟨x8, hx8, hk8⟩ := HRt3.out.ex
                obtain ⟨xa, xn, xc⟩ := x8
                have hxn : xn = (toT RK).length := hk8.1.1
                subst hxn
                subst hx8
                obtain ⟨a7, c7, hf7⟩ := HTl3.out.form
                subst hf7
                obtain ⟨hs7, ow7, hh7, hq7⟩ := HTl3.out.ex
                have h7l : hs7.length = OL.length := hh7.1
                have hnf : (RK.m f).getLsbD t = false := (HCy.out.ok (f, t) (List.mem_cons_self ..)).2.2.2
                have HT1 : Hid (∀ u v, Kp v u ⟨xa, (toT RK).length, xc⟩ RK → Calls Try.prog 54 #[.slice xa (toT RK).length xc, .int .i64 (f : Int), cv (bitN (t + 1)), cv (bit1 t &&& ~~~ o.v f)] u fun e w' => ∃ x d, e = .returned (.slice x (toT (flipK o RK (f, t))).length d) ∧ RwI 32 tstL 3 u (.slice x (toT (flipK o RK (f, t))).length d) (toT (flipK o RK (f, t))) w') := (show ∀ u v, _ from fun u v k => turned_any xa RK xc f t (bit1 t &&& ~~~ o.v f) u k.1.2.2.ts HCy.out.vk (by omega) ⟨hf1, by omega⟩ (by rw [BitVec.and_comm, ← BitVec.and_assoc, BitVec.and_self]) hnf)
                have HT2 : Hid (∀ u v, Kp v u ⟨xa, (toT RK).length, xc⟩ RK → Calls Try.prog 54 #[.slice xa (toT RK).length xc, .int .i64 (f : Int), cv (bitN (t + 1)), cv (o.v f &&& bit1 t)] u fun e w' => ∃ x d, e = .returned (.slice x (toT (keepK o RK (f, t))).length d) ∧ RwI 32 tstL 3 u (.slice x (toT (keepK o RK (f, t))).length d) (toT (keepK o RK (f, t))) w') := (show ∀ u v, _ from fun u v k => by
                  have h := turned_any xa RK xc f t (bit1 t &&& o.v f) u k.1.2.2.ts HCy.out.vk (by omega) ⟨hf1, by omega⟩ (by rw [BitVec.and_comm, ← BitVec.and_assoc, BitVec.and_self]) hnf
                  rw [← keep_add] at h
                  rw [BitVec.and_comm]
                  exact h)
                have hwr : IntKind.u64.wrap (nb (bit1 t &&& ~~~ o.v f)) = nb (bit1 t &&& ~~~ o.v f) := wrap_nat _
                generalize hFK : flipK o RK (f, t) = FK at *
                generalize hKK : keepK o RK (f, t) = KK at *
                generalize (toT RK).length = n0 at *
                obtain ⟨n1, hn1⟩ : ∃ n, (toT FK).length = n := ⟨_, rfl⟩
                obtain ⟨n2, hn2⟩ : ∃ n, (toT KK).length = n := ⟨_, rfl⟩
                have HX7 : Hid (∀ w4 x d, Below wr.heap.size wr w4 → Kp (.slice a7 OL.length c7) w4 ⟨x, n1, d⟩ FK ∧ Fq F w4 ⟨x, n1, d⟩ FK → ∀ v' w5, Own 43 hdL 1 w1.heap.size w5 v' (hs7 ++ [⟨x, n1, d⟩]) → (w4.alloc (.cells #[.slice x n1 d] 43)).grownBy w5 (Value.slice a7 OL.length c7).ownBlock → (v'.ownBlock = (Value.slice a7 OL.length c7).ownBlock ∨ v'.ownBlock = some (w4.alloc (.cells #[.slice x n1 d] 43)).heap.size) →
                    TlF F w1 v' (OL ++ [FK]) w5 ∧ Kp v' w5 ⟨xa, n0, xc⟩ RK ∧ BoI wo ⟨(f : Int), o.v f, o.m f⟩ v' w5) := (show ∀ w4 x d, _ from fun w4 x d g hx v' w5 ho2 hg2 hat => by
                  have gI : Below w4.heap.size w4 (w4.alloc (.cells #[.slice x n1 d] 43)) := by go_grown
                  exact ⟨(HTl3.out.grow g).app (own_below ow7 g) (hh7.mono fun i i1 i2 t => t.below g) ⟨hq7.1, hq7.2⟩ (Hs.snoc (Hs.nil _) hx.1) (Hs.snoc (Hs.nil _) hx.2) gI ho2 hg2 hat, (hk8.below g).app gI hg2 hat, ((HBv.out.grow g).grow gI).app hg2 hat⟩)
                have HOw : Hid (Own 43 hdL 1 w1.heap.size wr (.slice a7 OL.length c7) hs7 ∧ hs7.length ≤ 640 ∧ w1.heap.size ≤ wr.heap.size ∧ (∀ j, (Value.slice a7 OL.length c7).ownBlock = some j → j < wr.heap.size) ∧ Kp (.slice a7 OL.length c7) wr ⟨xa, n0, xc⟩ RK) := ⟨ow7, by omega, HTl3.out.bel.size, fun j hj => (ow7.lt j hj).2, hk8⟩
                rw [hn1] at HT1
                rw [hn2] at HT2
                have HSz : Hid (w.heap.size ≤ wr.heap.size) := (show _ ≤ _ from Nat.le_trans HB1.out.size HOw.out.2.2.1)
                clear HC h1 h2 hpos HCy hFK hKK hq7 ow7 hh7 h7l hk8 HTl3 HRt3 hnf hlen
                go_wp2_with (first
                  | (go_at_call 48; refine HAc.out.mono ?_; rintro e w3 ⟨rfl, h1⟩; have HB3 : Hid (Below wr.heap.size wr w3) := h1; (obtain ⟨m0, m1, m2⟩ := (HBv.out.grow h1).at_); clear h1 d0 d1 d2)
                  | (have hq5 := HT2.out w5 v' HQ5.out.2.1; go_at_call 54; refine hq5.mono ?_; clear hq5; rintro e w6 ⟨y, d6, rfl, h1⟩; have HY6 : Hid (Below w5.heap.size w5 w6 ∧ Kp v' w6 ⟨y, n2, d6⟩ KK) := (show _ ∧ _ from ⟨h1.bel, by rw [← hn2] at h1 ⊢; exact Kp.new h1 (fun j hj => by obtain ⟨hs9, ow9, _, _⟩ := HQ5.out.1.ex; exact (ow9.lt j hj).2)⟩); clear h1)
                  | (go_at_call 54; (have hkp3 : Kp (.slice a7 OL.length c7) w3 ⟨xa, n0, xc⟩ RK := HOw.out.2.2.2.2.below HB3.out; have hq3 := HT1.out w3 (.slice a7 OL.length c7) hkp3; clear hkp3; show Calls _ _ #[.slice xa n0 xc, .int .i64 (f : Int), cv (bitN (t + 1)), cv (bit1 t &&& ~~~ o.v f)] _ _; refine hq3.mono ?_; clear hq3; rintro e w4 ⟨x, d, rfl, h1⟩; have HY4 : Hid (Below wr.heap.size wr w4 ∧ Kp (.slice a7 OL.length c7) w4 ⟨x, n1, d⟩ FK ∧ Fq F w4 ⟨x, n1, d⟩ FK) := (show _ ∧ _ from ⟨btr HB3.out h1.bel (Nat.le_refl _), by rw [← hn1] at h1 ⊢; exact ⟨Kp.new h1 (fun j hj => Nat.lt_of_lt_of_le (HOw.out.2.2.2.1 j hj) HB3.out.size), Fq.new h1 (fun p hp => HFF.out.1 p (Nat.le_trans (HSz.out) (Nat.le_trans HB3.out.size hp)))⟩⟩); clear h1))
                  | (at_builtin; have gI : Below w4.heap.size w4 (w4.alloc (.cells #[.slice x n1 d] 43)) := (by go_grown); have hcs : Cs hdL 1 (w4.alloc (.cells #[.slice x n1 d] 43)) w4.heap.size 0 [⟨x, n1, d⟩] := cs_new (k := hdL) (s := 1) w4 ⟨x, n1, d⟩ 43; refine wpList_appK kdH ktH rfl (.tmp 48) (.tmp 59) rfl w1.heap.size (.slice a7 OL.length c7) hs7 rfl (own_below HOw.out.1 (HY4.out.1.trans (gI.mono HY4.out.1.size))) w4.heap.size 0 1 1 [⟨x, n1, d⟩] rfl rfl hcs (by have := HOw.out.2.1; simp; omega) (Nat.le_trans HOw.out.2.2.1 (Nat.le_trans HY4.out.1.size gI.size)) ?_; intro v' w5 ho2 hg2 hat; have HQ := HX7.out w4 x d HY4.out.1 HY4.out.2 v' w5 ho2 hg2 hat; have HQ5 : Hid _ := HQ; (obtain ⟨m0, m1, m2⟩ := HQ.2.2.at_); clear ho2 hg2 hcs gI HQ hat))
                have HR6 : Hid (TlF F w1 v' (OL ++ [FK]) w6 ∧ RtI (.slice y n2 d6) v' KK w6 ∧ BoI wo ⟨(f : Int), o.v f, o.m f⟩ v' w6) := (show _ ∧ _ from ⟨HQ5.out.1.grow HY6.out.1, ⟨⟨y, n2, d6⟩, rfl, HY6.out.2⟩, HQ5.out.2.2.grow HY6.out.1⟩)
                refine ⟨⟨t, OL ++ [FK], KK, by omega, ?_, HCn, HR6.out.1, HR6.out.2.1, HR6.out.2.2⟩, half_less (by omega)⟩
                show Value.int .u64 _ = Value.int .u64 _
                rw [half_bit (by omega)]
      · have e : f = 10 := by omega
        subst e
        have q0 : decide (((10 : Nat) : Int) ≤ 9) = false := rfl
        have hfl : FL = OL0 := by
          have h := HCt.out.eq
          rw [posX_end] at h
          rw [h]
          exact List.append_nil _
        obtain ⟨a7, c7, hv, hcu⟩ := HTl2.out.cuf (fun p hp => HFF.out.1 p (Nat.le_trans HB1.out.size hp))
        have HZ : Hid (CuF F wr a7 OL0 ∧ Below w.heap.size w wr) := ⟨hcu, HB1.out.trans (HTl2.out.bel.mono HB1.out.size)⟩
        subst hv
        clear hcu HTl2
        go_wp2_with fail
        go_ret
        rw [hfl]
        exact ⟨a7, c7, rfl, HZ.out.1, HZ.out.2⟩
end Go.Proofs.Ytmobmpghpdaddaa
namespace Go.Proofs.Ytmobmpghpdaddaa
open Go.ChangeShapes Go.WideShapes Go.ChangeAt Go.RowKit
set_option linter.unusedVariables false
set_option linter.unusedSimpArgs false

theorem step_appS {α : Type} {k : α → List Value} {s : Nat} (hk : Kd k s) {t e : TypeId} (hT : Kt t e s) {w : World} {ops : Array Oper} {o : Oper} {a : Go.Act} {N : Go.Act → World → Prop} {Q : Exit → Go.Act → World → Prop} {E : Prop} (hgd : o.guard = none) (sl x : Operand)
    (ho : o.op = .call { callee := .builtin .append, args := #[sl, x], argTypes := #[t, t] }) (base : Nat) (v : Value) (zs : List α) (hs : a.eval sl = v) (hown : Own e k s base w v zs)
    (b : Option Addr) (m c : Nat) (ys : List α) (hx : a.eval x = .slice b m c) (hm : m = ys.length) (hc : Sk k s w b ys) (hn : zs.length + ys.length ≤ 500000000000) (hbase : base ≤ w.heap.size)
    (h : ∀ v' w', Own e k s base w' v' (zs ++ ys) → w.grownBy w' v.ownBlock → (v'.ownBlock = v.ownBlock ∨ v'.ownBlock = some w.heap.size) → N (a.put o.dst v') w') : if Region.wanted o (yielded ops a.tmps) = true then Oper.wp Try.prog o a w N Q else E := by
  have hw : Region.wanted o (yielded ops a.tmps) = true := by simp [Region.wanted, hgd]
  cases b with
  | some p =>
    rw [if_pos hw]
    subst hm
    obtain ⟨z, b, hi', hz, hb⟩ := hT.inf
    obtain ⟨i0, hi, hz0, hz1, hz2⟩ := info_parts hi'
    have hnews : ∀ j u, (ys.flatMap k)[j]? = some u → w.cell? (p.add j) = some u := by
      rcases hc with h | ⟨g, q, h, hg, hcs⟩
      · rw [h]; intro j u hj; simp at hj
      · rw [Option.some.inj h]; exact hcs.flat hk
    obtain ⟨v', w', hr, h2, h3, _, h5⟩ := run_append_own_at (P := Try.prog) w base t o.type e i0 z s b hT.ty hi hz0 hz1 hz2 hz hk.pos v zs.length _ hown p ys.length c (ys.flatMap k) (flat_len hk ys)
      hnews (flat_one hk ys) (by unfold maxLen; omega) (Nat.le_trans (Nat.mul_le_mul hn hb) (by omega)) hbase
    unfold Oper.wp execOp
    simp only [ho, resolve, invoke, builtin, Sem.run_bind, Sem.run_pure, Result.andThen_ok, List.map_toArray, List.map_cons, List.map_nil, hs, hx, hr]
    exact h v' w' (by
      unfold Own
      rw [List.length_append, List.flatMap_append]
      exact h2) h3 h5
  | none =>
    have hy : ys = [] := by
      rcases hc with h | ⟨g, q, h, _⟩
      · exact h
      · cases h
    subst hy
    subst hm
    rw [if_pos hw]
    obtain ⟨z, by', hi', hz, hb⟩ := hT.inf
    obtain ⟨i0, hi, hz0, hz1, hz2⟩ := info_parts hi'
    obtain ⟨av, cv', rfl⟩ := own_form hown
    have hr := run_app_none (w := w) e o.type t i0 hT.ty hi av zs.length cv' c (own_cap hown)
    unfold Oper.wp execOp
    simp only [ho, resolve, invoke, builtin, Sem.run_bind, Sem.run_pure, Result.andThen_ok, List.map_toArray, List.map_cons, List.map_nil, hs, hx, List.length_nil, hr]
    exact h _ _ (by rw [List.append_nil]; exact hown) ⟨rfl, rfl, rfl, Nat.le_refl _, fun _ _ _ => rfl⟩ (.inl rfl)
/-- The document's answer: a list, and whether there is one. -/
def LoR (F : Addr → Prop) (w : World) (r : Option (List K)) (e : Ending) (w' : World) : Prop :=
  Below w.heap.size w w' ∧ ((∃ l a c, r = some l ∧ e = .returned (.tuple #[.slice a l.length c, .bool true]) ∧ CuF F w' a l) ∨ (r = none ∧ e = .returned (.tuple #[.slice none 0 0, .bool false])))
def AllVk (l : List K) : Prop := ∀ k ∈ l, Vk k
theorem AllVk.cut {l : List K} (h : AllVk l) {o : K} (ho : Vk o) : AllVk (l.flatMap fun k => cutL k o) := fun k hk => by
  obtain ⟨c, h1, h2⟩ := List.mem_flatMap.1 hk
  exact (cutL_vk (h c h1) ho) k h2
theorem take_flat (l : List K) (o : K) {k : Nat} (hk : k < l.length) : (l.take (k + 1)).flatMap (fun c => cutL c o) = (l.take k).flatMap (fun c => cutL c o) ++ cutL l[k] o := by
  rw [List.take_succ_eq_append_getElem hk, List.flatMap_append]
  simp
set_option maxRecDepth 20000 in
set_option maxHeartbeats 4000000 in
theorem without_f (F : Addr → Prop) (a : Option Addr) (l : List K) (cap : Nat) (b : Option Addr) (m : List K) (mc : Nat) (w : World) (hs : CuF F w a l) (ht : CuF F w b m) (hvl : AllVk l) (hvm : AllVk m) (hl : l.length ≤ 128) (hm : m.length ≤ 128) (hF : ∀ p : Addr, w.heap.size ≤ p.block → F p) :
    Calls Try.prog 63 #[.slice a l.length cap, .slice b m.length mc] w fun e w' => LoR F w (leftL l m) e w' := by
  have HT : Hid (CuF F w b m ∧ AllVk m) := ⟨ht, hvm⟩
  have HF : Hid (∀ p : Addr, w.heap.size ≤ p.block → F p) := hF
  obtain ⟨R, hR⟩ : ∃ R, leftL l m = R := ⟨_, rfl⟩
  have H0 : Hid (R = leftL l (m.drop 0) ∧ CuF F w a l ∧ AllVk l ∧ l.length ≤ 128) := ⟨hR.symm, hs, hvl, hl⟩
  rw [hR]
  obtain ⟨n, hn⟩ : ∃ n, m.length = n := ⟨_, rfl⟩
  have HN : Hid (m.length = n) := hn
  rw [hn] at hm ⊢
  obtain ⟨ln, hln⟩ : ∃ n, l.length = n := ⟨_, rfl⟩
  have HLn : Hid (l.length = ln) := hln
  rw [hln] at ⊢
  clear hs ht hvl hvm hl hF hR hn hln
  go_enter Try.func63, Try.ntmps63
  go_wp2_with fail
  go_loopw [0, 6] (fun v0 v6 wr => ∃ (i : Nat) (l0 : List K) (a0 : Option Addr) (n0 c0 : Nat), i ≤ n ∧ v6 = .int .i64 i ∧ v0 = .slice a0 n0 c0 ∧ n0 ≤ 128 ∧ Hid (l0.length = n0) ∧ Hid (R = leftL l0 (m.drop i)) ∧ Hid (CuF F wr a0 l0) ∧ Hid (AllVk l0) ∧ Hid (Below w.heap.size w wr)) (fun _ v6 _ => n - (intOf v6).toNat)
  case atStart => exact ⟨0, l, a, ln, cap, Nat.zero_le _, rfl, rfl, by have := HLn.out; have := H0.out.2.2.2; omega, HLn, H0.out.1, H0.out.2.1, H0.out.2.2.1, Below.refl _ _⟩
  case round =>
    obtain ⟨i, l0, a0, n0, c0, hi, rfl, rfl, hn0, HL0, HE, HC0, HV0, HB⟩ := hrel
    clear H0 HLn
    by_cases hlt : i < n
    · have him : i < m.length := by have := HN.out; omega
      have HTr : Hid (CuF F wr b m) := HT.out.1.below HB.out
      obtain ⟨gm, y, yc, hbm, hgm, hcy, hyc, hty, hfy⟩ := HTr.out.at him
      have HE2 : Hid (R = if 128 < (l0.flatMap fun k => cutL k m[i]).length then none else leftL (l0.flatMap fun k => cutL k m[i]) (m.drop (i + 1))) := (show _ = _ by rw [HE.out, List.drop_eq_getElem_cons him]; rfl)
      have hvo := HT.out.2 _ (List.getElem_mem him)
      obtain ⟨o, ho⟩ : ∃ o, m[i] = o := ⟨_, rfl⟩
      rw [ho] at hcy hyc hty hfy HE2 hvo
      have HO : Hid (CuF F wr b m ∧ Vk o ∧ Ts wr y (toT o) ∧ wr.cell? ⟨gm, i, none⟩ = some (.slice y (toT o).length yc) ∧ gm < wr.heap.size) := ⟨HTr.out, hvo, hty, hcy, hgm⟩
      obtain ⟨yn, hyn⟩ : ∃ n, (toT o).length = n := ⟨_, rfl⟩
      rw [hyn] at hcy hyc
      subst hbm
      clear HE hvo hty hfy ho HTr hyc
      go_wp2_with fail
      obtain ⟨w0, hw0⟩ : ∃ x, x = wr := ⟨_, rfl⟩
      subst hw0
      go_loopw [7, 8] (fun v7 v8 wr => ∃ (k : Nat), k ≤ n0 ∧ v8 = .int .i64 k ∧ Hid (TlF F w0 v7 ((l0.take k).flatMap fun c => cutL c o) wr)) (fun _ v8 _ => n0 - (intOf v8).toNat)
      case atStart => exact ⟨0, Nat.zero_le _, rfl, TlF.nil F w0⟩
      case round =>
        obtain ⟨k, hk, rfl, HI⟩ := hrel
        by_cases hlt2 : k < n0
        · have hkl : k < l0.length := by have := HL0.out; omega
          obtain ⟨gx, x, xc, hbx, hgx, hcx, hxc, htx, hfx⟩ := HC0.out.at hkl
          have HTk : Hid ((l0.take (k + 1)).flatMap (fun c => cutL c o) = (l0.take k).flatMap (fun c => cutL c o) ++ cutL l0[k] o) := take_flat l0 o hkl
          have hvc := HV0.out _ (List.getElem_mem hkl)
          have hfl := flat_cut_len o (l0.take k)
          have htk : (l0.take k).length ≤ 128 := by rw [List.length_take]; omega
          obtain ⟨c, hc⟩ : ∃ c, l0[k] = c := ⟨_, rfl⟩
          rw [hc] at hcx hxc htx hfx HTk hvc
          obtain ⟨L0, hL0⟩ : ∃ L, (l0.take k).flatMap (fun c => cutL c o) = L := ⟨_, rfl⟩
          rw [hL0] at HI HTk hfl
          have hL0n : L0.length ≤ 128 * 640 := Nat.le_trans hfl (Nat.mul_le_mul htk (Nat.le_refl _))
          obtain ⟨hs7, ow7, kp7, fq7⟩ := HI.out.ex
          obtain ⟨a7, c7, hf7⟩ := HI.out.form
          subst hf7
          have hbel := HI.out.bel
          have hxw : wr.cell? ⟨gx, k, none⟩ = some (.slice x (toT c).length xc) := (hbel.cell (p := ⟨gx, k, none⟩) hgx).trans hcx
          have hyw : wr.cell? ⟨gm, i, none⟩ = some (.slice y yn yc) := (hbel.cell (p := ⟨gm, i, none⟩) hgm).trans hcy
          obtain ⟨CL, hCL⟩ : ∃ CL, cutL c o = CL := ⟨_, rfl⟩
          have HCut : Hid (∀ u, Below wr.heap.size wr u → Calls Try.prog 33 #[.slice x (toT c).length xc, .slice y yn yc] u fun e w' => ∃ z d hs', e = .returned (.slice z CL.length d) ∧ Sk hdL 1 w' z hs' ∧ CL.length = hs'.length ∧ Hs (Kp (.slice a7 L0.length c7)) w' hs' CL ∧ Hs (Fq F) w' hs' CL ∧ Below wr.heap.size wr w') := (show ∀ u, _ from fun u g => by
            have hbu : Below w0.heap.size w0 u := hbel.trans (g.mono hbel.size)
            have h := rcut_f (fun p => F p ∧ (Value.slice a7 L0.length c7).ownBlock ≠ some p.block) x (toT c) xc y (toT o) yc u (htx.below hbu) (HO.out.2.2.1.below hbu) (toT_whole hvc) (toT_whole HO.out.2.1) (Nat.le_trans (toT_few c) (by omega)) (Nat.le_trans (toT_few o) (by omega)) hxc (fun p hp => ⟨HF.out p (Nat.le_trans HB.out.size (Nat.le_trans hbu.size hp)), fun e => by have := (ow7.lt _ e).2; have := g.size; omega⟩) (fun h0 p hp => ⟨hfx h0 p hp, fun e => by
              have h1 := (ow7.lt _ e).1
              rcases htx with h2 | ⟨q, oo, e2, hq, _⟩
              · exact h0 h2
              · rw [e2] at hp; cases hp; simp only at h1; omega⟩)
            rw [cubF_toT hvc, cubF_toT HO.out.2.1, hCL, hyn] at h
            refine h.mono fun e w' ⟨z, d, h1, h2, h3⟩ => ?_
            obtain ⟨hs', k1, k2, k3, k4⟩ := h2.kp
            exact ⟨z, d, hs', h1, k1.sk, k2.symm, k3, k4, btr g h3 (Nat.le_refl _)⟩)
          have hcl := cutL_len c o
          rw [hCL] at hcl HTk
          have HX7 : Hid (∀ w4 hs', Below wr.heap.size wr w4 → Hs (Kp (.slice a7 L0.length c7)) w4 hs' CL → Hs (Fq F) w4 hs' CL → ∀ v' w5, Own 43 hdL 1 w0.heap.size w5 v' (hs7 ++ hs') → w4.grownBy w5 (Value.slice a7 L0.length c7).ownBlock → (v'.ownBlock = (Value.slice a7 L0.length c7).ownBlock ∨ v'.ownBlock = some w4.heap.size) → TlF F w0 v' ((l0.take (k + 1)).flatMap fun c => cutL c o) w5) := (show ∀ w4 hs', _ from fun w4 hs' g h1 h2 v' w5 ho2 hg2 hat => by
            rw [HTk.out]
            exact (HI.out.grow g).app (own_below ow7 g) (kp7.mono fun i i1 i2 t => t.below g) ⟨fq7.1, fq7.2⟩ h1 h2 (Below.refl _ _) ho2 hg2 hat)
          have HOw : Hid (Own 43 hdL 1 w0.heap.size wr (.slice a7 L0.length c7) hs7 ∧ hs7.length ≤ 81920 ∧ w0.heap.size ≤ wr.heap.size ∧ CL.length ≤ 640 ∧ (∀ w4 w5, Below wr.heap.size wr w4 → w4.grownBy w5 (Value.slice a7 L0.length c7).ownBlock → w5.cell? ⟨gx, k, none⟩ = some (.slice x (toT c).length xc) ∧ w5.cell? ⟨gm, i, none⟩ = some (.slice y yn yc))) := (show _ ∧ _ from ⟨ow7, by have := kp7.1; omega, hbel.size, hcl, fun w4 w5 g hg => by
            have hn7 : ∀ q, q < w0.heap.size → some q ≠ (Value.slice a7 L0.length c7).ownBlock := fun q hq e => by have := (ow7.lt q e.symm).1; omega
            have e1 := hg.block gx (by have := hbel.size; have := g.size; omega) (hn7 gx hgx)
            have e2 := hg.block gm (by have := hbel.size; have := g.size; omega) (hn7 gm hgm)
            exact ⟨(World.cell?_of_block (w := w4) e1).trans ((g.cell (p := ⟨gx, k, none⟩) (by have := hbel.size; show gx < _; omega)).trans hxw), (World.cell?_of_block (w := w4) e2).trans ((g.cell (p := ⟨gm, i, none⟩) (by have := hbel.size; show gm < _; omega)).trans hyw)⟩⟩)
          generalize (toT c).length = xn at *
          subst hbx
          clear hc hvc hfl htk hL0 kp7 fq7 ow7 hbel hcx htx hfx hxc hCL hcl HI HTk
          have HDr : Hid (Below wr.heap.size wr wr.drew) := (show Below _ _ _ from (Below.refl _ _).drew)
          go_wp2_with fail
          go_region_held_law (fun W => W.cell? ⟨gx, k, none⟩ = some (.slice x xn xc) ∧ W.cell? ⟨gm, i, none⟩ = some (.slice y yn yc)) (first | assumption | exact ⟨by assumption, by assumption⟩ | exact ⟨hxw, hyw⟩ | exact HK4 | exact HK5) (first
            | (go_at_call 33; (refine (HCut.out _ HDr.out).mono ?_; rintro e w4 ⟨z, d, hs', rfl, h1, h2, h3, h4, h5⟩; have HQ4 : Hid (Sk hdL 1 w4 z hs' ∧ CL.length = hs'.length ∧ Hs (Kp (.slice a7 L0.length c7)) w4 hs' CL ∧ Hs (Fq F) w4 hs' CL ∧ Below wr.heap.size wr w4) := ⟨h1, h2, h3, h4, h5⟩; have HK4 := HOw.out.2.2.2.2 w4 w4 h5 ⟨rfl, rfl, rfl, Nat.le_refl _, fun _ _ _ => rfl⟩; clear h1 h2 h3 h4 h5))
            | (refine step_appS kdH ktH (by rfl) (.tmp 21) (.tmp 30) (by rfl) w0.heap.size (.slice a7 L0.length c7) hs7 (by rfl) (own_below HOw.out.1 HQ4.out.2.2.2.2) z CL.length d hs' (by rfl) HQ4.out.2.1 HQ4.out.1 (by have := HOw.out.2.1; have := HOw.out.2.2.2.1; have := HQ4.out.2.1; omega) (Nat.le_trans HOw.out.2.2.1 HQ4.out.2.2.2.2.size) ?_; intro v' w5 ho2 hg2 hat; have HQ5 : Hid (TlF F w0 v' ((l0.take (k + 1)).flatMap fun c => cutL c o) w5) := HX7.out w4 hs' HQ4.out.2.2.2.2 HQ4.out.2.2.1 HQ4.out.2.2.2.1 v' w5 ho2 hg2 hat; have HK5 := HOw.out.2.2.2.2 w4 w5 HQ4.out.2.2.2.2 hg2; clear ho2 hg2 hat)
            | fail)
          try simp only [Act.put, List.setIfInBounds_toArray, List.set_cons_zero, List.set_cons_succ]
          go_wp2_with fail
          go_roundw
          case rel => exact ⟨k + 1, by omega, by go_num, HQ5⟩
          case measure => simp [intOf]; omega
        · have hkn : k = n0 := by omega
          subst hkn
          rw [show l0.take k = l0 from List.take_of_length_le (by have := HL0.out; omega)] at HI
          obtain ⟨L1, hL1⟩ : ∃ L, (l0.flatMap fun c => cutL c o) = L := ⟨_, rfl⟩
          have hV1 : AllVk L1 := by rw [← hL1]; exact HV0.out.cut HO.out.2.1
          rw [hL1] at HI HE2
          obtain ⟨a7, c7, hf7, hcu⟩ := HI.out.cuf (fun p hp => HF.out p (Nat.le_trans HB.out.size hp))
          subst hf7
          have HQ : Hid (CuF F wr a7 L1 ∧ AllVk L1 ∧ Below w.heap.size w wr) := ⟨hcu, hV1, HB.out.trans (HI.out.bel.mono HB.out.size)⟩
          obtain ⟨n1, hn1⟩ : ∃ n, L1.length = n := ⟨_, rfl⟩
          have HN1 : Hid (L1.length = n1) := hn1
          rw [hn1] at HE2 ⊢
          clear hL1 hV1 hcu HI hn1
          by_cases hbig : 128 < n1
          · have HRn : Hid (R = none) := (show _ = _ by rw [HE2.out, if_pos hbig])
            have j1 : (128 : Int) < (n1 : Int) := by omega
            have j2 : decide ((128 : Int) < (n1 : Int)) = true := decide_eq_true j1
            clear HE2
            go_wp2_with fail
            go_ret2
            exact ⟨HQ.out.2.2, .inr ⟨HRn.out, rfl⟩⟩
          · have HRn : Hid (R = leftL L1 (m.drop (i + 1))) := (show _ = _ by rw [HE2.out, if_neg hbig])
            have j1 : ¬ (128 : Int) < (n1 : Int) := by omega
            have j2 : decide ((128 : Int) < (n1 : Int)) = false := decide_eq_false j1
            clear HE2
            go_wp2_with fail
            refine ⟨⟨i + 1, L1, a7, n1, c7, by omega, by go_num, rfl, by omega, HN1, HRn, HQ.out.1, HQ.out.2.1, HQ.out.2.2⟩, by simp [intOf]; omega⟩
    · have hin : i = n := by omega
      subst hin
      have HRn : Hid (R = some l0) := (show _ = _ by rw [HE.out, List.drop_of_length_le (by have := HN.out; omega)]; rfl)
      clear HE
      go_wp2_with fail
      go_ret2
      exact ⟨HB.out, .inl ⟨l0, a0, c0, HRn.out, by rw [HL0.out]; rfl, HC0.out⟩⟩
end Go.Proofs.Ytmobmpghpdaddaa
namespace Go.Proofs.Ytmobmpghpdaddaa
open Go.ChangeShapes Go.WideShapes Go.ChangeAt Go.RowKit
set_option linter.unusedVariables false
set_option linter.unusedSimpArgs false

theorem both1_take (a : K) (m : List K) {k : Nat} (hk : k < m.length) : both1 a (m.take (k + 1)) = if meetB a m[k] = true then both1 a (m.take k) ++ [bothK a m[k]] else both1 a (m.take k) := by
  rw [List.take_succ_eq_append_getElem hk]
  split
  · next h => exact both1_yes _ _ _ h
  · next h => exact both1_no _ _ _ (by simpa using h)
theorem bothL_take (l m : List K) {i : Nat} (hi : i < l.length) : bothL (l.take (i + 1)) m = bothL (l.take i) m ++ both1 l[i] m := by
  rw [List.take_succ_eq_append_getElem hi, bothL_snoc]
set_option maxRecDepth 20000 in
set_option maxHeartbeats 4000000 in
theorem both_f (F : Addr → Prop) (a : Option Addr) (l : List K) (cap : Nat) (b : Option Addr) (m : List K) (mc : Nat) (w : World) (hs : CuF F w a l) (ht : CuF F w b m) (hvl : AllVk l) (hvm : AllVk m) (hl : l.length ≤ 128) (hm : m.length ≤ 128) (hF : ∀ p : Addr, w.heap.size ≤ p.block → F p) :
    Calls Try.prog 57 #[.slice a l.length cap, .slice b m.length mc] w fun e w' => ∃ x d, e = .returned (.slice x (bothL l m).length d) ∧ CuF F w' x (bothL l m) ∧ Below w.heap.size w w' := by
  have HT : Hid (CuF F w b m ∧ AllVk m) := ⟨ht, hvm⟩
  have HS : Hid (CuF F w a l ∧ AllVk l) := ⟨hs, hvl⟩
  have HF : Hid (∀ p : Addr, w.heap.size ≤ p.block → F p) := hF
  obtain ⟨n, hn⟩ : ∃ n, m.length = n := ⟨_, rfl⟩
  have HN : Hid (m.length = n) := hn
  rw [hn] at hm ⊢
  obtain ⟨ln, hln⟩ : ∃ n, l.length = n := ⟨_, rfl⟩
  have HLn : Hid (l.length = ln) := hln
  rw [hln] at hl ⊢
  have HBl : Hid (∀ i, i ≤ ln → (bothL (l.take i) m).length ≤ 128 * 128) := (show ∀ i, _ from fun i hi => Nat.le_trans (bothL_len m _) (Nat.mul_le_mul (by rw [List.length_take]; omega) (by omega)))
  clear hs ht hvl hvm hF hn hln
  go_enter Try.func57, Try.ntmps57
  go_wp2_with fail
  go_loopw [5, 6] (fun v5 v6 wr => ∃ (i : Nat), i ≤ ln ∧ v6 = .int .i64 i ∧ Hid (TlF F w v5 (bothL (l.take i) m) wr)) (fun _ v6 _ => ln - (intOf v6).toNat)
  case atStart => exact ⟨0, Nat.zero_le _, rfl, TlF.nil F w⟩
  case round =>
    obtain ⟨i, hi, rfl, HI⟩ := hrel
    by_cases hlt : i < ln
    · have hil : i < l.length := by have := HLn.out; omega
      obtain ⟨gx, x, xc, hbx, hgx, hcx, hxc, htx, hfx⟩ := HS.out.1.at hil
      have hva := HS.out.2 _ (List.getElem_mem hil)
      have HBt : Hid (bothL (l.take (i + 1)) m = bothL (l.take i) m ++ both1 l[i] m) := bothL_take l m hil
      obtain ⟨A, hA⟩ : ∃ c, l[i] = c := ⟨_, rfl⟩
      rw [hA] at hcx hxc htx hfx hva HBt
      obtain ⟨B0, hB0⟩ : ∃ L, bothL (l.take i) m = L := ⟨_, rfl⟩
      have hB0n := HBl.out i hi
      rw [hB0] at HI HBt hB0n
      have HI0 : Hid (TlF F w u5 (B0 ++ both1 A (m.take 0)) wr) := (show TlF _ _ _ _ _ by rw [show both1 A (m.take 0) = [] from rfl, List.append_nil]; exact HI.out)
      have HX : Hid (Vk A ∧ Ts w x (toT A)) := ⟨hva, htx⟩
      subst hbx
      clear HI htx hva hfx hA hB0 hxc
      go_wp2_with fail
      go_loopw [5, 7] (fun v5 v7 wr => ∃ (k : Nat), k ≤ n ∧ v7 = .int .i64 k ∧ Hid (TlF F w v5 (B0 ++ both1 A (m.take k)) wr)) (fun _ v7 _ => n - (intOf v7).toNat)
      case atStart => exact ⟨0, Nat.zero_le _, rfl, HI0⟩
      case round =>
        obtain ⟨k, hk, rfl, HJ⟩ := hrel
        clear HI0
        by_cases hlt2 : k < n
        · have hkm : k < m.length := by have := HN.out; omega
          obtain ⟨gy, y, yc, hby, hgy, hcy, hyc, hty, hfy⟩ := HT.out.1.at hkm
          have hvb := HT.out.2 _ (List.getElem_mem hkm)
          have HTk : Hid (both1 A (m.take (k + 1)) = if meetB A m[k] = true then both1 A (m.take k) ++ [bothK A m[k]] else both1 A (m.take k)) := both1_take A m hkm
          obtain ⟨o, ho⟩ : ∃ o, m[k] = o := ⟨_, rfl⟩
          rw [ho] at hcy hyc hty hfy hvb HTk
          have hb1 := both1_len A (m.take k)
          rw [List.length_take] at hb1
          obtain ⟨L0, hL0⟩ : ∃ L, B0 ++ both1 A (m.take k) = L := ⟨_, rfl⟩
          have hL0n : L0.length ≤ 128 * 128 + 128 := by rw [← hL0, List.length_append]; omega
          have HTl : Hid (B0 ++ both1 A (m.take (k + 1)) = if meetB A o = true then L0 ++ [bothK A o] else L0) := (show _ = _ by
            rw [HTk.out]
            split
            · rw [← List.append_assoc, hL0]
            · rw [hL0])
          rw [hL0] at HJ
          obtain ⟨hs5, ow5, kp5, fq5⟩ := HJ.out.ex
          obtain ⟨a5, c5, hf5⟩ := HJ.out.form
          subst hf5
          have hbel := HJ.out.bel
          have hxw : wr.cell? ⟨gx, i, none⟩ = some (.slice x (toT A).length xc) := (hbel.cell (p := ⟨gx, i, none⟩) hgx).trans hcx
          have hyw : wr.cell? ⟨gy, k, none⟩ = some (.slice y (toT o).length yc) := (hbel.cell (p := ⟨gy, k, none⟩) hgy).trans hcy
          have HMt : Hid (∀ u, Below wr.heap.size wr u → Calls Try.prog 29 #[.slice x (toT A).length xc, .slice y (toT o).length yc] u fun e w' => Below wr.heap.size wr w' ∧ ((meetB A o = true ∧ ∃ z f, e = .returned (.tuple #[.slice z (toT (bothK A o)).length f, .bool true]) ∧ Kp (.slice a5 L0.length c5) w' ⟨z, (toT (bothK A o)).length, f⟩ (bothK A o) ∧ Fq F w' ⟨z, (toT (bothK A o)).length, f⟩ (bothK A o)) ∨ (meetB A o = false ∧ e = .returned (.tuple #[.slice none 0 0, .bool false])))) := (show ∀ u, _ from fun u g => by
            have hbu : Below w.heap.size w u := hbel.trans (g.mono hbel.size)
            have h := rmeet_any x (toT A) xc y (toT o) yc u (HX.out.2.below hbu) (hty.below hbu) (toT_whole HX.out.1) (toT_whole hvb) (Nat.le_trans (toT_few A) (by omega)) (Nat.le_trans (toT_few o) (by omega))
            rw [cubF_toT HX.out.1, cubF_toT hvb] at h
            refine h.mono fun e w' hq => ?_
            rcases hq with ⟨h1, v, h2, h3⟩ | ⟨h1, h2, h3⟩
            · obtain ⟨z, f, hv⟩ := own_form h3.own
              subst hv
              exact ⟨btr g h3.bel (Nat.le_refl _), .inl ⟨h1, z, f, h2, Kp.new h3 (fun j hj => Nat.lt_of_lt_of_le (ow5.lt j hj).2 g.size), Fq.new h3 (fun p hp => HF.out p (Nat.le_trans hbu.size hp))⟩⟩
            · exact ⟨btr g h3 (Nat.le_refl _), .inr ⟨h1, h2⟩⟩)
          have HMg : Hid (∀ u, Below wr.heap.size wr u → meetB A o = false → Calls Try.prog 29 #[.slice x (toT A).length xc, .slice y (toT o).length yc] u fun e w' => e = .returned (.tuple #[.slice none 0 0, .bool false]) ∧ Below u.heap.size u w') := (show ∀ u, _ from fun u g hme => by
            have hbu : Below w.heap.size w u := hbel.trans (g.mono hbel.size)
            have h := rmeet_any x (toT A) xc y (toT o) yc u (HX.out.2.below hbu) (hty.below hbu) (toT_whole HX.out.1) (toT_whole hvb) (Nat.le_trans (toT_few A) (by omega)) (Nat.le_trans (toT_few o) (by omega))
            rw [cubF_toT HX.out.1, cubF_toT hvb] at h
            refine h.mono fun e w' hq => ?_
            rcases hq with ⟨h1, _⟩ | ⟨_, h2, h3⟩
            · rw [hme] at h1; cases h1
            · exact ⟨h2, h3⟩)
          have HX5 : Hid (∀ w4 h, Below wr.heap.size wr w4 → Kp (.slice a5 L0.length c5) w4 h (bothK A o) → Fq F w4 h (bothK A o) → ∀ v' w5, Own 43 hdL 1 w.heap.size w5 v' (hs5 ++ [h]) → (w4.alloc (.cells #[hdV h] 43)).grownBy w5 (Value.slice a5 L0.length c5).ownBlock → (v'.ownBlock = (Value.slice a5 L0.length c5).ownBlock ∨ v'.ownBlock = some (w4.alloc (.cells #[hdV h] 43)).heap.size) → TlF F w v' (L0 ++ [bothK A o]) w5) := (show ∀ w4 h, _ from fun w4 h g h1 h2 v' w5 ho2 hg2 hat =>
            (HJ.out.grow g).app (own_below ow5 g) (kp5.mono fun i i1 i2 t => t.below g) ⟨fq5.1, fq5.2⟩ (Hs.snoc (Hs.nil _) h1) (Hs.snoc (Hs.nil _) h2) (by go_grown) ho2 hg2 hat)
          have HOw : Hid (Own 43 hdL 1 w.heap.size wr (.slice a5 L0.length c5) hs5 ∧ hs5.length ≤ 16512 ∧ w.heap.size ≤ wr.heap.size) := ⟨ow5, by have := kp5.1; omega, hbel.size⟩
          have HJg : Hid (∀ u, Below wr.heap.size wr u → TlF F w (.slice a5 L0.length c5) L0 u) := (show ∀ u, _ from fun u g => HJ.out.grow g)
          have hgx2 : gx < wr.heap.size := by have := hbel.size; omega
          have hgy2 : gy < wr.heap.size := by have := hbel.size; omega
          have hBn : ∀ w4, Below wr.heap.size wr w4 → w.heap.size ≤ w4.heap.size := fun w4 g => Nat.le_trans hbel.size g.size
          have HBn : Hid (∀ w4, Below wr.heap.size wr w4 → w.heap.size ≤ w4.heap.size) := hBn
          have HDr : Hid (Below wr.heap.size wr wr.drew) := (show Below _ _ _ from (Below.refl _ _).drew)
          obtain ⟨N, hN⟩ : ∃ N, (toT (bothK A o)).length = N := ⟨_, rfl⟩
          rw [hN] at HMt
          generalize (toT A).length = xn at *
          generalize (toT o).length = yn at *
          have HKc : Hid (∀ w4, Below wr.heap.size wr w4 → w4.cell? ⟨gx, i, none⟩ = some (.slice x xn xc) ∧ w4.cell? ⟨gy, k, none⟩ = some (.slice y yn yc)) := (show ∀ w4, _ from fun w4 g => ⟨(g.cell (p := ⟨gx, i, none⟩) hgx2).trans hxw, (g.cell (p := ⟨gy, k, none⟩) hgy2).trans hyw⟩)
          subst hby
          clear hBn ho hvb hb1 hL0 kp5 fq5 ow5 hbel hcy hty hfy hyc HTk HJ hN
          cases hme : meetB A o with
          | true =>
            have HR : Hid (B0 ++ both1 A (m.take (k + 1)) = L0 ++ [bothK A o]) := (show _ = _ by rw [HTl.out, hme]; rfl)
            have HMy : Hid (∀ u, Below wr.heap.size wr u → Calls Try.prog 29 #[.slice x xn xc, .slice y yn yc] u fun e w' => ∃ z f, e = .returned (.tuple #[.slice z N f, .bool true]) ∧ Kp (.slice a5 L0.length c5) w' ⟨z, N, f⟩ (bothK A o) ∧ Fq F w' ⟨z, N, f⟩ (bothK A o) ∧ Below wr.heap.size wr w') := (show ∀ u, _ from fun u g => (HMt.out u g).mono fun e w' ⟨h0, hq⟩ => by
              rcases hq with ⟨_, z, f, h1, h2, h3⟩ | ⟨h1, _⟩
              · exact ⟨z, f, h1, h2, h3, h0⟩
              · rw [hme] at h1; cases h1)
            clear HTl HMt hme HJg
            go_wp2_with fail
            go_region_held (fun W => W.cell? ⟨gx, i, none⟩ = some (.slice x xn xc) ∧ W.cell? ⟨gy, k, none⟩ = some (.slice y yn yc)) (first | assumption | exact ⟨by assumption, by assumption⟩ | exact ⟨hxw, hyw⟩ | exact HK4) ((go_at_call 29; refine (HMy.out _ HDr.out).mono ?_; rintro e w4 ⟨z, f, rfl, h1, h2, h3⟩; have HQ4 : Hid (Kp (.slice a5 L0.length c5) w4 ⟨z, N, f⟩ (bothK A o) ∧ Fq F w4 ⟨z, N, f⟩ (bothK A o) ∧ Below wr.heap.size wr w4) := ⟨h1, h2, h3⟩; have HK4 := HKc.out w4 h3; clear h1 h2 h3))
            go_wp2_with (at_builtin; have gI : Below w4.heap.size w4 (w4.alloc (.cells #[.slice z N f] 43)) := (by go_grown); have hcs : Cs hdL 1 (w4.alloc (.cells #[.slice z N f] 43)) w4.heap.size 0 [⟨z, N, f⟩] := cs_new (k := hdL) (s := 1) w4 ⟨z, N, f⟩ 43; refine wpList_appK kdH ktH rfl (.tmp 35) (.tmp 37) rfl w.heap.size (.slice a5 L0.length c5) hs5 rfl (own_below HOw.out.1 (HQ4.out.2.2.trans (gI.mono HQ4.out.2.2.size))) w4.heap.size 0 1 1 [⟨z, N, f⟩] rfl rfl hcs (by have := HOw.out.2.1; simp; omega) (Nat.le_trans (HBn.out w4 HQ4.out.2.2) gI.size) ?_; intro v' w5 ho2 hg2 hat; have HQ5 : Hid (TlF F w v' (L0 ++ [bothK A o]) w5) := HX5.out w4 ⟨z, N, f⟩ HQ4.out.2.2 HQ4.out.1 HQ4.out.2.1 v' w5 ho2 hg2 hat; clear ho2 hg2 hcs gI hat)
            refine ⟨⟨k + 1, by omega, by go_num, ?_⟩, by simp [intOf]; omega⟩
            show Hid (TlF F w v' (B0 ++ both1 A (m.take (k + 1))) w5)
            rw [HR.out]
            exact HQ5
          | false =>
            have HR : Hid (B0 ++ both1 A (m.take (k + 1)) = L0) := (show _ = _ by rw [HTl.out, hme]; rfl)
            have HMn : Hid (∀ z : GrT wr, Calls Try.prog 29 #[.slice x xn xc, .slice y yn yc] z.w fun e w' => e = .returned (.tuple #[.slice none 0 0, .bool false]) ∧ Below z.w.heap.size z.w w') := (show ∀ z : GrT wr, _ from fun z => (HMg.out z.w z.h hme))
            have hx' : ∀ z : GrT wr, z.w.cell? ⟨gx, i, none⟩ = some (.slice x xn xc) := fun z => cell_gr hxw hgx2 z
            have hy' : ∀ z : GrT wr, z.w.cell? ⟨gy, k, none⟩ = some (.slice y yn yc) := fun z => cell_gr hyw hgy2 z
            clear HTl HMt hme HX5 HOw hxw hyw hgx hgy
            go_wp2_with fail
            refine wp_region_grow (by kernel_rfl) (by kernel_rfl) ?_
            repeat (go_big_quiet_step ((go_at_call 29; exact quiet_gr (HMn.out _))))
            refine wpQuiet_nil ?_
            rintro w6 hw'
            have g1 := gr_elim hw'
            clear hw'
            have HQ5 : Hid (TlF F w (.slice a5 L0.length c5) L0 w6) := HJg.out w6 g1
            clear g1 hx' hy'
            go_wp2_with fail
            refine ⟨⟨k + 1, by omega, by go_num, ?_⟩, by simp [intOf]; omega⟩
            show Hid (TlF F w _ (B0 ++ both1 A (m.take (k + 1))) w6)
            rw [HR.out]
            exact HQ5
        · have hkn : k = n := by omega
          subst hkn
          have HQ : Hid (TlF F w u5 (bothL (l.take (i + 1)) m) wr) := (show TlF _ _ _ _ _ by
            rw [HBt.out]
            have := HJ.out
            rwa [List.take_of_length_le (by have := HN.out; omega)] at this)
          clear HJ HBt
          go_wp2_with fail
          refine ⟨⟨i + 1, by omega, by go_num, HQ⟩, by simp [intOf]; omega⟩
    · have hin : i = ln := by omega
      subst hin
      have h := HI.out
      rw [List.take_of_length_le (by have := HLn.out; omega)] at h
      obtain ⟨a7, c7, hf7, hcu⟩ := h.cuf HF.out
      have HQ : Hid (CuF F wr a7 (bothL l m) ∧ Below w.heap.size w wr) := ⟨hcu, h.bel⟩
      subst hf7
      clear hcu h HI
      go_wp2_with fail
      go_ret
      exact ⟨a7, c7, rfl, HQ.out.1, HQ.out.2⟩
end Go.Proofs.Ytmobmpghpdaddaa

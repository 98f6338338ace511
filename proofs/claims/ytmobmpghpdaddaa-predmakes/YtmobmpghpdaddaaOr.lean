/-
  The cubes of Or.
-/
import Derived.Test.YtmobmpghpdaddaaAnd
namespace Go.Proofs.Ytmobmpghpdaddaa
open Go.ChangeShapes Go.WideShapes Go.ChangeAt Go.RowKit
set_option linter.unusedVariables false

def orL : List K → List (List K) → Option (List K)
  | l, [] => some l
  | l, p :: ps => match leftL p l with
    | none => none
    | some m => if 128 < (l ++ m).length then none else orL (l ++ m) ps
/-- Nothing is appended. -/
theorem run_app_none {w : World} (e : TypeId) (ty t : TypeId) (i : TypeInfo) (ht : Try.prog.underlying t = some (.slice e)) (hi : Try.prog.info? e = some i) (a : Option Addr) (n c d : Nat) (h : n ≤ c) : (Builtin.append_ #[t, t] ty #[.slice a n c, .slice none 0 d]).run Try.prog w = .ok (.slice a n c) w := by
  cases a <;> simp [Builtin.append_, run_underlying ht, sizeOf, typeInfo, hi, Builtin.lenOf, Builtin.firstCells, storeCells, h]
theorem own_cap {α : Type} {k : α → List Value} {s : Nat} {e : TypeId} {base : Nat} {w : World} {a : Option Addr} {n c : Nat} {zs : List α} (h : Own e k s base w (.slice a n c) zs) : n ≤ c := by
  rcases h.2 with ⟨h1, _⟩ | ⟨g, cap, cur, h1, _, _, h2, _⟩
  · cases h1; omega
  · cases h1; exact h2
/-- Values of a slice are appended, however many. -/
theorem wpList_appS {α : Type} {k : α → List Value} {s : Nat} (hk : Kd k s) {t e : TypeId} (hT : Kt t e s) {w : World} {ops : Array Oper} {rest : List Oper} {o : Oper} {a : Go.Act} {Q : Exit → Go.Act → World → Prop} (hgd : o.guard = none) (sl x : Operand)
    (ho : o.op = .call { callee := .builtin .append, args := #[sl, x], argTypes := #[t, t] }) (base : Nat) (v : Value) (zs : List α) (hs : a.eval sl = v) (hown : Own e k s base w v zs)
    (b : Option Addr) (m c : Nat) (ys : List α) (hx : a.eval x = .slice b m c) (hm : m = ys.length) (hc : Sk k s w b ys) (hn : zs.length + ys.length ≤ 500000000000) (hbase : base ≤ w.heap.size)
    (h : ∀ v' w', Own e k s base w' v' (zs ++ ys) → w.grownBy w' v.ownBlock → (v'.ownBlock = v.ownBlock ∨ v'.ownBlock = some w.heap.size) → wpList Try.prog ops Q rest (a.put o.dst v') w') : wpList Try.prog ops Q (o :: rest) a w := by
  cases b with
  | some p =>
    subst hm
    obtain ⟨z, b, hi', hz, hb⟩ := hT.inf
    obtain ⟨i0, hi, hz0, hz1, hz2⟩ := info_parts hi'
    have hnews : ∀ j u, (ys.flatMap k)[j]? = some u → w.cell? (p.add j) = some u := by
      rcases hc with h | ⟨g, q, h, hg, hcs⟩
      · rw [h]; intro j u hj; simp at hj
      · rw [Option.some.inj h]; exact hcs.flat hk
    refine wpList_append_own_at w hgd sl x t ho base e i0 z s b hT.ty hi hz0 hz1 hz2 hz hk.pos v zs.length _ hs hown p ys.length c (ys.flatMap k) hx (flat_len hk ys)
      hnews (flat_one hk ys) (by unfold maxLen; omega) (Nat.le_trans (Nat.mul_le_mul hn hb) (by omega)) hbase (fun v' w' h1 h2 _ h4 => h v' w' (by
        unfold Own
        rw [List.length_append, List.flatMap_append]
        exact h1) h2 h4)
  | none =>
    have hy : ys = [] := by
      rcases hc with h | ⟨g, q, h, _⟩
      · exact h
      · cases h
    subst hy
    subst hm
    obtain ⟨z, by', hi', hz, hb⟩ := hT.inf
    obtain ⟨i0, hi, hz0, hz1, hz2⟩ := info_parts hi'
    obtain ⟨av, cv', rfl⟩ := own_form hown
    refine wpList_plain hgd fun N hN => ?_
    have hr := run_app_none (w := w) e o.type t i0 hT.ty hi av zs.length cv' c (own_cap hown)
    unfold Oper.wp execOp
    simp only [ho, resolve, invoke, builtin, Sem.run_bind, Sem.run_pure, Result.andThen_ok, List.map_toArray, List.map_cons, List.map_nil, hs, hx, List.length_nil, hr]
    refine hN _ _ (h _ _ (by rw [List.append_nil]; exact hown) ⟨rfl, rfl, rfl, Nat.le_refl _, fun _ _ _ => rfl⟩ (.inl rfl))
theorem leftL_len : ∀ (m l r : List K), l.length ≤ 128 → leftL l m = some r → r.length ≤ 128
  | [], l, r, hl, h => by cases h; exact hl
  | b :: m, l, r, hl, h => by
    unfold leftL at h
    split at h
    · cases h
    · exact leftL_len m _ r (by omega) h
set_option maxRecDepth 20000 in
set_option maxHeartbeats 8000000 in
theorem orList_any (a : Option Addr) (ps : List (List K)) (cap : Nat) (w : World) (hp : Pts w a ps) (hn : ps.length ≤ 1000) (hcp : ∀ p ∈ ps, p.length ≤ 128) :
    Calls Try.prog 70 #[.slice a ps.length cap] w fun e w' => LsR w (fun _ => False) (orL [] ps) e w' := by
  have HP : Hid (Pts w a ps) := hp
  have HE0 : Hid (orL [] ps = orL [] (ps.drop 0)) := (show _ = _ from rfl)
  have HYes : Hid (∀ (r : List K) a' c' w', orL [] ps = some r → Below w.heap.size w w' → Sk cubL 20 w' a' r → r.length ≤ c' → (∀ p, a' = some p → w.heap.size ≤ p.block) → LsR w (fun _ => False) (orL [] ps) (.returned (.tuple #[.slice a' r.length c', .int .i64 0])) w') := (show ∀ (r : List K) a' c' w', _ from fun r a' c' w' h1 h2 h3 h4 h5 => ⟨h2, .inl ⟨r, a', c', h1, rfl, h3, h4, fun p hp => .inl (h5 p hp)⟩⟩)
  have HNo : Hid (∀ w', orL [] ps = none → Below w.heap.size w w' → LsR w (fun _ => False) (orL [] ps) (.returned (.tuple #[.slice none 0 0, .int .i64 44])) w') := (show ∀ w', _ from fun w' h1 h2 => ⟨h2, .inr ⟨h1, rfl⟩⟩)
  obtain ⟨R, hR⟩ : ∃ R, orL [] ps = R := ⟨_, rfl⟩
  rw [hR] at HE0 HYes HNo ⊢
  have H0 : Hid (RwI 70 cubL 20 w (.slice none 0 0) ([] : List K) w) := RwI.nil w
  clear hp hR
  go_enter Try.func70, Try.ntmps70
  go_wp2_with fail
  go_loopw [4, 11] (fun v4 v11 wr => ∃ (j : Nat) (l1 : List K), j ≤ ps.length ∧ v11 = .int .i64 j ∧ l1.length ≤ 128 ∧ Hid (RwI 70 cubL 20 w v4 l1 wr) ∧ Hid (R = orL l1 (ps.drop j))) (fun _ v11 _ => ps.length - (intOf v11).toNat)
  case atStart => exact ⟨0, [], Nat.zero_le _, rfl, by simp, H0, HE0⟩
  case round =>
    obtain ⟨j, l1, hj, rfl, hl1, HS, HE⟩ := hrel
    clear HE0 H0
    by_cases hlt : j < ps.length
    · obtain ⟨g, o, x, n, c, rfl, hg, hcell, rfl, hnc, hsk⟩ := (HP.out.below HS.out.bel).at hlt
      have HE2 : Hid (R = match leftL ps[j] l1 with | none => none | some m => if 128 < (l1 ++ m).length then none else orL (l1 ++ m) (ps.drop (j + 1))) := (show _ = _ by rw [HE.out, List.drop_eq_getElem_cons hlt]; rfl)
      have hp128 : ps[j].length ≤ 128 := hcp _ (List.getElem_mem hlt)
      obtain ⟨p, hpe⟩ : ∃ y, ps[j] = y := ⟨_, rfl⟩
      rw [hpe] at hcell hnc hsk HE2 hp128
      obtain ⟨a1, c1, hf, hc1, hs1⟩ := own_sk kdC HS.out.own
      subst hf
      have HLe : Hid (Calls Try.prog 71 #[.slice x p.length c, .slice a1 l1.length c1] wr fun e w' => LsR wr (fun p => x = some p) (leftL p l1) e w') := left_any x p c a1 l1 c1 wr hsk hs1 hnc hp128 hl1
      have HLl : Hid (∀ m, leftL p l1 = some m → m.length ≤ 128) := (show ∀ m, _ from fun m h => leftL_len l1 p m hp128 h)
      clear HE hsk hpe hs1 hc1
      have HSb : Hid (w.heap.size ≤ wr.heap.size) := HS.out.bel.size
      cases hr : leftL p l1 with
      | none =>
        have HR : Hid (R = none) := (show _ = _ by rw [HE2.out, hr])
        rw [hr] at HLe
        clear HE2 hr HLl
        go_wp2_with (go_at_call 71; refine HLe.out.mono ?_; rintro e w2 ⟨hb, hq⟩; have HB2 : Hid (Below w.heap.size w w2) := (show Below _ _ _ from btr HS.out.bel hb (Nat.le_refl _)); rcases hq with ⟨m, am, cm, hm, _⟩ | ⟨_, rfl⟩; exact absurd hm (by simp); clear hb)
        go_ret2
        exact HNo.out _ HR.out HB2.out
      | some m =>
        have HR : Hid (R = if 128 < (l1 ++ m).length then none else orL (l1 ++ m) (ps.drop (j + 1))) := (show _ = _ by rw [HE2.out, hr])
        have hm128 := HLl.out m hr
        rw [hr] at HLe
        clear HE2 hr HLl
        have HLe2 : Hid (Calls Try.prog 71 #[.slice x p.length c, .slice a1 l1.length c1] wr fun e w' => ∃ am cm, e = .returned (.tuple #[.slice am m.length cm, .int .i64 0]) ∧ Sk cubL 20 w' am m ∧ Below wr.heap.size wr w') := (show Calls _ _ _ _ _ from HLe.out.mono fun e w' ⟨hb, hq⟩ => by
          rcases hq with ⟨m2, am, cm, hm, he, h3, h4, _⟩ | ⟨hm, _⟩
          · cases hm; exact ⟨am, cm, he, h3, hb⟩
          · cases hm)
        clear HLe
        have HLn : Hid (l1.length + m.length ≤ 500000000000) := (show _ ≤ _ by omega)
        by_cases hbig : 128 < (l1 ++ m).length
        · have HR2 : Hid (R = none) := (show _ = _ by rw [HR.out, if_pos hbig])
          have q1 : decide ((128 : Int) < (((l1 ++ m).length : Nat) : Int)) = true := by simp; simp at hbig; omega
          clear HR hbig
          obtain ⟨L4, hL4⟩ : ∃ y, l1 ++ m = y := ⟨_, rfl⟩
          rw [hL4] at q1
          have HL4 : Hid (l1 ++ m = L4) := hL4
          clear hL4
          go_wp2_with (first
            | (go_at_call 71; refine HLe2.out.mono ?_; rintro e w2 ⟨am, cm, rfl, h3, hb⟩; have HB2 : Hid (Sk cubL 20 w2 am m ∧ RwI 70 cubL 20 w (.slice a1 l1.length c1) l1 w2) := ⟨h3, HS.out.grow hb⟩; clear hb h3)
            | (at_builtin; refine wpList_appS kdC ktC rfl (.tmp 24) (.tmp 25) rfl w.heap.size (.slice a1 l1.length c1) l1 rfl HB2.out.2.own am m.length cm m rfl rfl HB2.out.1 HLn.out HB2.out.2.bel.size ?_; intro v' w4 ho2 hg2 _; have HN1 : Hid (RwI 70 cubL 20 w v' L4 w4) := (show RwI _ _ _ _ _ _ _ by (rw [← HL4.out]; exact HB2.out.2.app (Below.refl _ _) ho2 hg2)); clear ho2 hg2; (obtain ⟨a5, c5, hf5⟩ := own_form HN1.out.own); subst hf5))
          go_ret2
          exact HNo.out _ HR2.out HN1.out.bel
        · have HR2 : Hid (R = orL (l1 ++ m) (ps.drop (j + 1))) := (show _ = _ by rw [HR.out, if_neg hbig])
          have q1 : decide ((128 : Int) < (((l1 ++ m).length : Nat) : Int)) = false := by simp; simp at hbig; omega
          have hl4 : (l1 ++ m).length ≤ 128 := by omega
          clear HR hbig
          obtain ⟨L4, hL4⟩ : ∃ y, l1 ++ m = y := ⟨_, rfl⟩
          rw [hL4] at q1 HR2 hl4
          have HL4 : Hid (l1 ++ m = L4) := hL4
          clear hL4
          go_wp2_with (first
            | (go_at_call 71; refine HLe2.out.mono ?_; rintro e w2 ⟨am, cm, rfl, h3, hb⟩; have HB2 : Hid (Sk cubL 20 w2 am m ∧ RwI 70 cubL 20 w (.slice a1 l1.length c1) l1 w2) := ⟨h3, HS.out.grow hb⟩; clear hb h3)
            | (at_builtin; refine wpList_appS kdC ktC rfl (.tmp 24) (.tmp 25) rfl w.heap.size (.slice a1 l1.length c1) l1 rfl HB2.out.2.own am m.length cm m rfl rfl HB2.out.1 HLn.out HB2.out.2.bel.size ?_; intro v' w4 ho2 hg2 _; have HN1 : Hid (RwI 70 cubL 20 w v' L4 w4) := (show RwI _ _ _ _ _ _ _ by (rw [← HL4.out]; exact HB2.out.2.app (Below.refl _ _) ho2 hg2)); clear ho2 hg2; (obtain ⟨a5, c5, hf5⟩ := own_form HN1.out.own); subst hf5))
          go_roundw
          case rel => exact ⟨j + 1, L4, by omega, by go_num, hl4, HN1, HR2⟩
          case measure => simp [intOf]; omega
    · have HR : Hid (R = some l1) := (show _ = _ by rw [HE.out, List.drop_of_length_le (by omega)]; rfl)
      clear HE
      obtain ⟨a1, c1, hf, hc1, hs1⟩ := own_sk kdC HS.out.own
      subst hf
      have HSk : Hid (Sk cubL 20 wr a1 l1 ∧ l1.length ≤ c1 ∧ (∀ p, a1 = some p → w.heap.size ≤ p.block)) := ⟨hs1, hc1, fun p hp => by subst hp; exact (own_lt HS.out.own rfl).1⟩
      clear hs1 hc1
      go_wp2_with fail
      go_ret2
      exact HYes.out _ _ _ _ HR.out HS.out.bel HSk.out.1 HSk.out.2.1 HSk.out.2.2
end Go.Proofs.Ytmobmpghpdaddaa

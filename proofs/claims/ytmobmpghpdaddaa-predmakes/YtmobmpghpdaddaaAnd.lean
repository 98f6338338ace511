/-
  The cubes of And and of Or, out of those of the parts.
-/
import Derived.Test.YtmobmpghpdaddaaLeft
namespace Go.Proofs.Ytmobmpghpdaddaa
open Go.ChangeShapes Go.WideShapes Go.ChangeAt Go.RowKit
set_option linter.unusedVariables false

def both1 (a : K) (m : List K) : List K := (m.filter fun b => meetB a b).map fun b => bothK a b
def bothL (l m : List K) : List K := l.flatMap fun a => both1 a m
def andL : List K → List (List K) → Option (List K)
  | l, [] => some l
  | l, p :: ps => if 128 < (bothL l p).length then none else andL (bothL l p) ps
theorem both1_yes (a b : K) (m : List K) (h : meetB a b = true) : both1 a (m ++ [b]) = both1 a m ++ [bothK a b] := by unfold both1; rw [List.filter_append]; simp [h]
theorem both1_no (a b : K) (m : List K) (h : meetB a b = false) : both1 a (m ++ [b]) = both1 a m := by unfold both1; rw [List.filter_append]; simp [h]
theorem both1_len (a : K) (m : List K) : (both1 a m).length ≤ m.length := by unfold both1; rw [List.length_map]; exact List.length_filter_le _ _
theorem bothL_len (m : List K) : ∀ l : List K, (bothL l m).length ≤ l.length * m.length
  | [] => by simp [bothL]
  | a :: l => by
    have h1 := bothL_len m l
    have h2 := both1_len a m
    unfold bothL at h1 ⊢
    rw [List.flatMap_cons, List.length_append, List.length_cons, Nat.succ_mul]
    omega
theorem bothL_snoc (l m : List K) (a : K) : bothL (l ++ [a]) m = bothL l m ++ both1 a m := by unfold bothL; rw [List.flatMap_append]; simp
/-- A slice's header, and the cubes that lie there. -/
def Cc (w : World) (h : Hd) (l : List K) : Prop := h.n = l.length ∧ h.n ≤ h.c ∧ Sk cubL 20 w h.a l
theorem Cc.below {w w' : World} {h : Hd} {l : List K} (t : Cc w h l) (g : Below w.heap.size w w') : Cc w' h l := ⟨t.1, t.2.1, t.2.2.below g⟩
/-- Parts that are handed on: each a list of cubes. -/
structure Pts (w : World) (a : Option Addr) (ps : List (List K)) : Prop where
  ex : ∃ hs, hs.length = ps.length ∧ Sk hdL 1 w a hs ∧ Hs Cc w hs ps
  few : ∀ p ∈ ps, p.length ≤ 128
theorem Pts.below {w w' : World} {a : Option Addr} {ps : List (List K)} (h : Pts w a ps) (g : Below w.heap.size w w') : Pts w' a ps := by
  obtain ⟨hs, h1, h2, h3⟩ := h.ex
  exact ⟨⟨hs, h1, h2.below g, h3.mono fun i i1 i2 t => t.below g⟩, h.few⟩
theorem Pts.at {w : World} {a : Option Addr} {ps : List (List K)} (h : Pts w a ps) {j : Nat} (hj : j < ps.length) : ∃ g o x n c, a = some ⟨g, o, none⟩ ∧ g < w.heap.size ∧ w.cell? ⟨g, o + j, none⟩ = some (.slice x n c) ∧ n = ps[j].length ∧ n ≤ c ∧ Sk cubL 20 w x ps[j] := by
  obtain ⟨hs, h1, h2, h3⟩ := h.ex
  obtain ⟨g, o, rfl, hg, hc⟩ := h2.at (j := j) (by omega)
  have := hc j (by omega) 0 (by decide)
  have h4 := h3.2 j (by omega) hj
  refine ⟨g, o, hs[j].a, hs[j].n, hs[j].c, rfl, hg, ?_, h4.1, h4.2.1, h4.2.2⟩
  rw [Nat.mul_one, Nat.add_zero] at this
  exact this
/-- The next list, and a box beside it. -/
structure AnI (wo : World) (b : Nat) (x : K) (v : Value) (zs : List K) (wr : World) : Prop where
  own : OwnC wo.heap.size wr v zs
  bel : Below wo.heap.size wo wr
  box : C20 wr b 0 x
  ne : v.ownBlock ≠ some b
  lt : b < wr.heap.size
theorem AnI.grow {wo : World} {b : Nat} {x : K} {v : Value} {zs : List K} {wr V : World} (h : AnI wo b x v zs wr) (g : Below wr.heap.size wr V) : AnI wo b x v zs V :=
  ⟨own_below h.own g, btr h.bel g (Nat.le_refl _), h.box.below h.lt g, h.ne, Nat.lt_of_lt_of_le h.lt g.size⟩
theorem AnI.app {wo : World} {b : Nat} {x : K} {v v' : Value} {zs ts : List K} {wr V w2 : World} (h : AnI wo b x v zs wr) (gV : Below wr.heap.size wr V) (o : OwnC wo.heap.size w2 v' ts) (g : V.grownBy w2 v.ownBlock) (hat : v'.ownBlock = v.ownBlock ∨ v'.ownBlock = some V.heap.size) : AnI wo b x v' ts w2 := by
  have hV := h.grow gV
  refine ⟨o, (h.bel.trans (gV.mono h.bel.size)).grown g (Nat.le_trans h.bel.size gV.size) (fun j hj => (h.own.lt j hj).1), hV.box.block (g.block b hV.lt (fun e => h.ne e.symm)), ?_, Nat.lt_of_lt_of_le hV.lt g.size⟩
  have := hV.lt
  rcases hat with e | e
  · rw [e]; exact h.ne
  · rw [e]; intro e2; have := Option.some.inj e2; omega
theorem AnI.rw {wo : World} {b : Nat} {x : K} {v : Value} {zs : List K} {wr : World} (h : AnI wo b x v zs wr) : RwI 70 cubL 20 wo v zs wr := ⟨h.own, h.bel⟩
theorem built_top (n : Nat) : Try.prog.built 70 [] = some (cubA K.top) := by kernel_rfl
theorem wpList_top {ops : Array Oper} {rest : List Oper} {o : Oper} {a : Go.Act} {w : World} {Q : Exit → Go.Act → World → Prop} (hgd : o.guard = none) (ho : o.op = .build 70 #[])
    (h : wpList Try.prog ops Q rest (a.put o.dst (.agg (cubA K.top))) w) : wpList Try.prog ops Q (o :: rest) a w := by
  refine wpList_plain hgd fun N hN => wp_build _ _ ho ?_ ?_
  · simp [built_top 0]
  · simp only [List.map_toArray, List.map_nil, built_top 0, Option.getD_some]
    exact hN _ _ h
/-- A cube's box, made and stored into. -/
theorem box_cub (w : World) (k : K) : ∃ V, (w.alloc (.cells (cubA K.top) 70)).setCells w.heap.size 0 (cubL k) = V ∧ C20 V w.heap.size 0 k ∧ Below w.heap.size w V ∧ V.heap.size = w.heap.size + 1 := by
  have t1 := there_new w (cubA K.top) 70 20 (cubA_size _)
  exact ⟨_, rfl, stored_cub t1 k, below_setCells (by go_grown) (Nat.le_refl _) _ _, (size_setCells _ _ _ _).trans (by simp)⟩
set_option maxRecDepth 20000 in
set_option maxHeartbeats 8000000 in
theorem andList_any (a : Option Addr) (ps : List (List K)) (cap : Nat) (w : World) (hp : Pts w a ps) (hn : ps.length ≤ 1000) :
    Calls Try.prog 69 #[.slice a ps.length cap] w fun e w' => LsR w (fun _ => False) (andL [K.top] ps) e w' := by
  have HP : Hid (Pts w a ps) := hp
  have HE0 : Hid (andL [K.top] ps = andL [K.top] (ps.drop 0)) := (show _ = _ from rfl)
  have HYes : Hid (∀ (r : List K) a' c' w', andL [K.top] ps = some r → Below w.heap.size w w' → Sk cubL 20 w' a' r → r.length ≤ c' → (∀ p, a' = some p → w.heap.size ≤ p.block) → LsR w (fun _ => False) (andL [K.top] ps) (.returned (.tuple #[.slice a' r.length c', .int .i64 0])) w') := (show ∀ (r : List K) a' c' w', _ from fun r a' c' w' h1 h2 h3 h4 h5 => ⟨h2, .inl ⟨r, a', c', h1, rfl, h3, h4, fun p hp => .inl (h5 p hp)⟩⟩)
  have HNo : Hid (∀ w', andL [K.top] ps = none → Below w.heap.size w w' → LsR w (fun _ => False) (andL [K.top] ps) (.returned (.tuple #[.slice none 0 0, .int .i64 44])) w') := (show ∀ w', _ from fun w' h1 h2 => ⟨h2, .inr ⟨h1, rfl⟩⟩)
  obtain ⟨R, hR⟩ : ∃ R, andL [K.top] ps = R := ⟨_, rfl⟩
  rw [hR] at HE0 HYes HNo ⊢
  have HX : Hid (∃ U, w.alloc (.cells (cubA K.top) 70) = U ∧ Sk cubL 20 U (some ⟨w.heap.size, 0, none⟩) [K.top] ∧ Below w.heap.size w U) := (show ∃ U, _ from ⟨_, rfl, .inr ⟨w.heap.size, 0, rfl, by simp, cs_new w K.top 70⟩, by go_grown⟩)
  clear hp hR
  go_enter Try.func69, Try.ntmps69
  go_wp2_with (refine wpList_top rfl rfl ?_; refine wpList_oneC rfl (.tmp 12) rfl K.top rfl ?_; (obtain ⟨U, hU, k1, k2⟩ := HX.out); rw [hU]; have HU : Hid ((Sk cubL 20 U (some ⟨w.heap.size, 0, none⟩) [K.top] ∧ [K.top].length ≤ 1 ∧ (∀ p, some (⟨w.heap.size, 0, none⟩ : Addr) = some p → w.heap.size ≤ p.block)) ∧ Below w.heap.size w U) := ⟨⟨k1, by simp, fun p hp => by cases hp; exact Nat.le_refl _⟩, k2⟩; clear hU k1 k2 HX)
  go_loopw [4, 16] (fun v4 v16 wr => ∃ (j : Nat) (l1 : List K) (a1 : Option Addr) (c1 : Nat), j ≤ ps.length ∧ v16 = .int .i64 j ∧ v4 = .slice a1 l1.length c1 ∧ l1.length ≤ 128 ∧ Hid (Sk cubL 20 wr a1 l1 ∧ l1.length ≤ c1 ∧ (∀ p, a1 = some p → w.heap.size ≤ p.block)) ∧ Hid (R = andL l1 (ps.drop j)) ∧ Hid (Below w.heap.size w wr)) (fun _ v16 _ => ps.length - (intOf v16).toNat)
  case atStart => exact ⟨0, [K.top], _, _, Nat.zero_le _, rfl, rfl, by simp, HU.out.1, HE0, HU.out.2⟩
  case round =>
    obtain ⟨j, l1, a1, c1, hj, rfl, rfl, hl1, HS, HE, HB⟩ := hrel
    clear HE0 HU
    by_cases hlt : j < ps.length
    · obtain ⟨g, o, x, n, c, rfl, hg, hcell, rfl, hnc, hsk⟩ := (HP.out.below HB.out).at hlt
      have HE2 : Hid (R = if 128 < (bothL l1 ps[j]).length then none else andL (bothL l1 ps[j]) (ps.drop (j + 1))) := (show _ = _ by rw [HE.out, List.drop_eq_getElem_cons hlt]; rfl)
      have hp128 : ps[j].length ≤ 128 := HP.out.few _ (List.getElem_mem hlt)
      obtain ⟨p, hpe⟩ : ∃ y, ps[j] = y := ⟨_, rfl⟩
      rw [hpe] at hcell hnc hsk HE2 hp128
      have HSp : Hid (Sk cubL 20 wr x p) := hsk
      clear HE hsk hpe
      obtain ⟨wo, hwo⟩ : ∃ y, y = wr := ⟨_, rfl⟩
      subst hwo
      have H0 : Hid (RwI 70 cubL 20 wo (.slice none 0 0) (bothL (l1.take 0) p) wo) := RwI.nil wo
      go_wp2_with fail
      go_loopw [7, 22] (fun v7 v22 wr => ∃ i : Nat, i ≤ l1.length ∧ v22 = .int .i64 i ∧ Hid (RwI 70 cubL 20 wo v7 (bothL (l1.take i) p) wr)) (fun _ v22 _ => l1.length - (intOf v22).toNat)
      case atStart => exact ⟨0, Nat.zero_le _, rfl, H0⟩
      case round =>
        obtain ⟨i, hi, rfl, HI⟩ := hrel
        clear H0
        by_cases hlt2 : i < l1.length
        · obtain ⟨g2, o2, rfl, hg2, hcs⟩ := (HS.out.1.below HI.out.bel).at hlt2
          have HC : Hid (C20 wr g2 (o2 + i * 20) l1[i]) := hcs.cub hlt2
          have HT2 : Hid (bothL (l1.take (i + 1)) p = bothL (l1.take i) p ++ both1 l1[i] p) := (show _ = _ by rw [List.take_succ_eq_append_getElem hlt2, bothL_snoc])
          have HLn : Hid ((bothL (l1.take i) p).length ≤ 90000000) := (show _ ≤ _ by
            have h1 := bothL_len p (l1.take i)
            rw [List.length_take] at h1
            have h2 : min i l1.length * p.length ≤ 128 * 128 := Nat.mul_le_mul (by omega) hp128
            omega)
          obtain ⟨e, hee⟩ : ∃ y, l1[i] = y := ⟨_, rfl⟩
          rw [hee] at HC HT2
          obtain ⟨L0, hL0⟩ : ∃ y, bothL (l1.take i) p = y := ⟨_, rfl⟩
          rw [hL0] at HT2 HLn HI
          clear hcs hee hL0
          have HX : Hid (∃ V, (wr.alloc (.cells (cubA K.top) 70)).setCells wr.heap.size 0 (cubL e) = V ∧ AnI wo wr.heap.size e u7 (L0 ++ both1 e (p.take 0)) V) := (show ∃ V, _ from by
            obtain ⟨V, hV, k1, k2, k3⟩ := box_cub wr e
            refine ⟨V, hV, ?_⟩
            have hb : both1 e (p.take 0) = [] := rfl
            rw [hb, List.append_nil]
            exact ⟨own_below HI.out.own k2, btr HI.out.bel k2 (Nat.le_refl _), k1, fun h => by have := (own_lt HI.out.own h).2; omega, by omega⟩)
          go_wp2_with (first
            | (refine load_cub rfl (.tmp 24) rfl g2 (o2 + i * 20) rfl e HC.out ?_)
            | (rw [zero_cub]; (obtain ⟨V, hV, hAn⟩ := HX.out); refine store_cub rfl (.tmp 9) (.tmp 25) rfl wr.heap.size 0 rfl e rfl (there_new wr _ 70 20 (cubA_size _)) ?_; rw [hV]; have HA0 : Hid (AnI wo wr.heap.size e u7 (L0 ++ both1 e (p.take 0)) V) := hAn; clear hV hAn HX HC))
          obtain ⟨B, hB⟩ : ∃ y, wr.heap.size = y := ⟨_, rfl⟩
          rw [hB] at HA0 ⊢
          clear hB
          clear HI
          go_loopw [7, 28] (fun v7 v28 wr => ∃ k : Nat, k ≤ p.length ∧ v28 = .int .i64 k ∧ Hid (AnI wo B e v7 (L0 ++ both1 e (p.take k)) wr)) (fun _ v28 _ => p.length - (intOf v28).toNat)
          case atStart => exact ⟨0, Nat.zero_le _, rfl, HA0⟩
          case round =>
            obtain ⟨k, hk, rfl, HI⟩ := hrel
            clear HA0
            by_cases hlt3 : k < p.length
            · obtain ⟨g3, o3, rfl, hg3, hcs⟩ := (HSp.out.below HI.out.bel).at hlt3
              have HC : Hid (C20 wr g3 (o3 + k * 20) p[k]) := hcs.cub hlt3
              have HY : Hid (meetB e p[k] = true → both1 e (p.take (k + 1)) = both1 e (p.take k) ++ [bothK e p[k]]) := (show _ → _ from fun h => by rw [List.take_succ_eq_append_getElem hlt3, both1_yes _ _ _ h])
              have HN : Hid (meetB e p[k] = false → both1 e (p.take (k + 1)) = both1 e (p.take k)) := (show _ → _ from fun h => by rw [List.take_succ_eq_append_getElem hlt3, both1_no _ _ _ h])
              have HLk : Hid ((L0 ++ both1 e (p.take k)).length ≤ 100000000) := (show _ ≤ _ by
                have h1 := both1_len e (p.take k)
                rw [List.length_take] at h1
                have := HLn.out
                rw [List.length_append]
                omega)
              obtain ⟨f, hfe⟩ : ∃ y, p[k] = y := ⟨_, rfl⟩
              rw [hfe] at HC HY HN
              clear hcs hfe
              have HX : Hid (∃ V, (wr.alloc (.cells (cubA K.top) 70)).setCells wr.heap.size 0 (cubL f) = V ∧ C20 V wr.heap.size 0 f ∧ AnI wo B e u7 (L0 ++ both1 e (p.take k)) V ∧ V.heap.size = wr.heap.size + 1) := (show ∃ V, _ from by
                obtain ⟨V, hV, k1, k2, k3⟩ := box_cub wr f
                exact ⟨V, hV, k1, HI.out.grow k2, k3⟩)
              have HM : Hid (∀ u, Calls Try.prog 49 #[.agg (cubA e), .agg (cubA f)] u fun r w' => r = .returned (.bool (meetB e f)) ∧ Below u.heap.size u w') := (show ∀ u, _ from fun u => meets_any e f u)
              cases hm : meetB e f with
              | false =>
                rw [hm] at HM
                have HN2 : Hid (both1 e (p.take (k + 1)) = both1 e (p.take k)) := HN.out hm
                clear HY HN hm
                go_wp2_with (first
                  | (refine load_cub rfl (.tmp 30) rfl g3 (o3 + k * 20) rfl f HC.out ?_)
                  | (rw [zero_cub]; (obtain ⟨V, hV, k1, k2, k3⟩ := HX.out); refine store_cub rfl (.tmp 11) (.tmp 31) rfl wr.heap.size 0 rfl f rfl (there_new wr _ 70 20 (cubA_size _)) ?_; rw [hV]; have HV : Hid (C20 V wr.heap.size 0 f ∧ AnI wo B e u7 (L0 ++ both1 e (p.take k)) V) := ⟨k1, k2⟩; clear hV k1 k2 k3 HX HC)
                  | (refine load_cub rfl (.tmp 9) rfl B 0 rfl e HV.out.2.box ?_)
                  | (refine load_cub rfl (.tmp 11) rfl wr.heap.size 0 rfl f HV.out.1 ?_)
                  | (go_at_call 49; refine (HM.out _).mono ?_; rintro r w2 ⟨rfl, hb⟩; have HA : Hid (AnI wo B e u7 (L0 ++ both1 e (p.take (k + 1))) w2) := (show AnI _ _ _ _ _ _ by (rw [HN2.out]; exact HV.out.2.grow hb)); clear hb))
                go_roundw
                case rel => exact ⟨k + 1, by omega, by go_num, HA⟩
                case measure => simp [intOf]; omega
              | true =>
                rw [hm] at HM
                have HY2 : Hid (L0 ++ both1 e (p.take (k + 1)) = (L0 ++ both1 e (p.take k)) ++ [bothK e f]) := (show _ = _ by rw [HY.out hm, List.append_assoc])
                obtain ⟨L3, hL3⟩ : ∃ y, L0 ++ both1 e (p.take k) = y := ⟨_, rfl⟩
                rw [hL3] at HY2 HLk HX HI
                clear HY HN hm hL3
                obtain ⟨G, hG⟩ : ∃ y, bothK e f = y := ⟨_, rfl⟩
                have HBo : Hid (∀ u, Calls Try.prog 50 #[.agg (cubA e), .agg (cubA f)] u fun r w' => r = .returned (.agg (cubA G)) ∧ Below u.heap.size u w') := (show ∀ u, _ from fun u => by rw [← hG]; exact both_any e f u)
                rw [hG] at HY2
                clear hG
                obtain ⟨v7, hv7⟩ : ∃ y, u7 = y := ⟨_, rfl⟩
                obtain ⟨a7, c7, hf7⟩ := own_form HI.out.own
                subst hf7
                clear hv7
                go_wp2_with (first
                  | (refine load_cub rfl (.tmp 30) rfl g3 (o3 + k * 20) rfl f HC.out ?_)
                  | (rw [zero_cub]; (obtain ⟨V, hV, k1, k2, k3⟩ := HX.out); refine store_cub rfl (.tmp 11) (.tmp 31) rfl wr.heap.size 0 rfl f rfl (there_new wr _ 70 20 (cubA_size _)) ?_; rw [hV]; have HV : Hid (C20 V wr.heap.size 0 f ∧ AnI wo B e (.slice a7 L3.length c7) L3 V ∧ V.heap.size = wr.heap.size + 1) := ⟨k1, k2, k3⟩; clear hV k1 k2 k3 HX HC)
                  | (refine load_cub rfl (.tmp 9) rfl B 0 rfl e HV.out.2.1.box ?_)
                  | (refine load_cub rfl (.tmp 11) rfl wr.heap.size 0 rfl f HV.out.1 ?_)
                  | (go_at_call 49; refine (HM.out _).mono ?_; rintro r w2 ⟨rfl, hb⟩; have HV2 : Hid (C20 w2 wr.heap.size 0 f ∧ AnI wo B e (.slice a7 L3.length c7) L3 w2) := ⟨HV.out.1.below (by have := HV.out.2.2; omega) hb, HV.out.2.1.grow hb⟩; clear hb)
                  | (refine load_cub rfl (.tmp 9) rfl B 0 rfl e HV2.out.2.box ?_)
                  | (refine load_cub rfl (.tmp 11) rfl wr.heap.size 0 rfl f HV2.out.1 ?_)
                  | (go_at_call 50; refine (HBo.out _).mono ?_; rintro r w3 ⟨rfl, hb⟩; have HA3 : Hid (AnI wo B e (.slice a7 L3.length c7) L3 w3) := (show AnI _ _ _ _ _ _ from HV2.out.2.grow hb); clear hb)
                  | (refine wpList_oneC rfl (.tmp 38) rfl G rfl ?_; have hcs := cs_new (k := cubL) (s := 20) w3 G 70; have gY : Below w3.heap.size w3 (w3.alloc (.cells (cubA G) 70)) := (by go_grown); refine wpList_appK kdC ktC rfl (.tmp 35) (.tmp 39) rfl wo.heap.size (.slice a7 L3.length c7) L3 rfl (own_below HA3.out.own gY) w3.heap.size 0 1 1 [G] rfl rfl hcs (by have := HLk.out; simp; omega) (by have := HA3.out.bel.size; have := gY.size; omega) ?_; intro v' w4 ho2 hg2 hat; have HA : Hid (AnI wo B e v' (L0 ++ both1 e (p.take (k + 1))) w4) := (show AnI _ _ _ _ _ _ by (rw [HY2.out]; exact HA3.out.app gY ho2 hg2 hat)); clear ho2 hg2 hat hcs gY))
                go_roundw
                case rel => exact ⟨k + 1, by omega, by go_num, HA⟩
                case measure => simp [intOf]; omega
            · have HI2 : Hid (RwI 70 cubL 20 wo u7 (bothL (l1.take (i + 1)) p) wr) := (show RwI _ _ _ _ _ _ _ by
                have := HI.out.rw
                rw [List.take_of_length_le (by omega)] at this
                rw [HT2.out]
                exact this)
              go_wp2_with fail
              refine ⟨⟨i + 1, by omega, by go_num, HI2⟩, by simp [intOf]; omega⟩
        · have hE : l1.take i = l1 := List.take_of_length_le (by omega)
          obtain ⟨L2, hL2⟩ : ∃ y, bothL l1 p = y := ⟨_, rfl⟩
          have HI2 : Hid (RwI 70 cubL 20 wo u7 L2 wr) := (show RwI _ _ _ _ _ _ _ by have := HI.out; rwa [hE, hL2] at this)
          rw [hL2] at HE2
          have HB2 : Hid (Below w.heap.size w wr) := (show Below _ _ _ from btr HB.out HI2.out.bel (Nat.le_refl _))
          obtain ⟨a2, c2, hv2, hc2, hsk⟩ := own_sk kdC HI2.out.own
          subst hv2
          have HS2 : Hid (Sk cubL 20 wr a2 L2 ∧ L2.length ≤ c2 ∧ (∀ p, a2 = some p → w.heap.size ≤ p.block)) := ⟨hsk, hc2, fun p hp => by subst hp; exact Nat.le_trans HB.out.size (own_lt HI2.out.own rfl).1⟩
          clear hE hL2 HI hsk hc2 HI2
          by_cases hbig : 128 < L2.length
          · have HR : Hid (R = none) := (show _ = _ by rw [HE2.out, if_pos hbig])
            have q1 : decide ((128 : Int) < (L2.length : Int)) = true := by simp; omega
            clear HE2
            go_wp2_with fail
            go_ret2
            exact HNo.out _ HR.out HB2.out
          · have HE3 : Hid (R = andL L2 (ps.drop (j + 1))) := (show _ = _ by rw [HE2.out, if_neg hbig])
            have q1 : decide ((128 : Int) < (L2.length : Int)) = false := by simp; omega
            have hL2 : L2.length ≤ 128 := by omega
            clear HE2
            go_wp2_with fail
            go_roundw
            case rel => exact ⟨j + 1, L2, a2, c2, by omega, by go_num, rfl, hL2, HS2, HE3, HB2⟩
            case measure => simp [intOf]; omega
    · have HR : Hid (R = some l1) := (show _ = _ by rw [HE.out, List.drop_of_length_le (by omega)]; rfl)
      clear HE
      go_wp2_with fail
      go_ret2
      exact HYes.out _ _ _ _ HR.out HB.out HS.out.1 HS.out.2.1 HS.out.2.2
end Go.Proofs.Ytmobmpghpdaddaa

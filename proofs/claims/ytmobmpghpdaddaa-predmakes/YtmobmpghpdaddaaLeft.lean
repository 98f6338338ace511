/-
  What is left of a list of cubes without those of another one.
-/
import Derived.Test.YtmobmpghpdaddaaCut
namespace Go.Proofs.Ytmobmpghpdaddaa
open Go.ChangeShapes Go.WideShapes Go.ChangeAt Go.RowKit
set_option linter.unusedVariables false

def leftL : List K → List K → Option (List K)
  | l, [] => some l
  | l, b :: gone => if 128 < (l.flatMap fun k => cutL k b).length then none else leftL (l.flatMap fun k => cutL k b) gone
/-- A list of cubes that is answered; or that it is too big. -/
def LsR (w : World) (al : Addr → Prop) (r : Option (List K)) (e : Ending) (w' : World) : Prop :=
  Below w.heap.size w w' ∧ ((∃ l a c, r = some l ∧ e = .returned (.tuple #[.slice a l.length c, .int .i64 0]) ∧ Sk cubL 20 w' a l ∧ l.length ≤ c ∧ (∀ p, a = some p → w.heap.size ≤ p.block ∨ al p)) ∨ (r = none ∧ e = .returned (.tuple #[.slice none 0 0, .int .i64 44])))
theorem flat_cut_len (b : K) : ∀ l : List K, (l.flatMap fun k => cutL k b).length ≤ l.length * 640
  | [] => by simp
  | k :: l => by
    rw [List.flatMap_cons, List.length_append, List.length_cons]
    have h1 := flat_cut_len b l
    have h2 := cutL_len k b
    omega
theorem LfI.new {base : Nat} (w : World) (hb : base ≤ w.heap.size) : LfI base w.heap.size [] (fun j => j = w.heap.size) (w.alloc (.cells #[.slice none 0 0] 84)) := by
  refine ⟨⟨.slice none 0 0, by simp, World.ownsRow_nil _ _ _ _, by simp [Value.ownBlock], fun j => by simp [Value.ownBlock]⟩, by simp, by simp, by simp; omega⟩
/-- Between two cubes of the list. -/
structure LeI (B : Nat) (b : K) (m : List K) (wo : World) (wr : World) : Prop where
  inv : ∃ S', LfI B (B + 1) m S' wr ∧ (∀ j, S' j → B < j)
  box : C20 wr B 0 b
  bel : Below B wo wr
  siz : B + 2 ≤ wr.heap.size
theorem LeI.grow {B : Nat} {b : K} {m : List K} {wo wr V : World} (h : LeI B b m wo wr) (g : Below wr.heap.size wr V) : LeI B b m wo V := by
  obtain ⟨S', h1, h2⟩ := h.inv
  have hs := h.siz
  exact ⟨⟨S', (hand_left B (B + 1)).oth h1 (Chg.of g), h2⟩, h.box.below (by omega) g, btr' h.bel (g.mono (by omega)), Nat.le_trans hs g.size⟩
theorem LeI.cut {B : Nat} {b : K} {m : List K} {wo wr : World} (h : LeI B b m wo wr) (c : K) (hm : m.length ≤ 90000000) :
    Calls Try.prog 52 #[.agg (cubA c), .agg (cubA b), .func (.func 73) #[] #[.pointer (some ⟨B + 1, 0, none⟩)]] wr fun e w' => e = .returned (.tuple #[]) ∧ LeI B b (m ++ cutL c b) wo w' := by
  obtain ⟨S', h1, h2⟩ := h.inv
  have hs := h.siz
  refine (without_left (hand_left B (B + 1)) c b h1 hm).mono ?_
  rintro e w' ⟨he, S2, k1, k2, k3⟩
  refine ⟨he, ⟨S2, k1, fun j hj => ?_⟩, h.box.block (k3.block _ (by omega) (fun e => by have := h2 _ e; omega)), btr' h.bel (k3.below (by omega) (fun j hj => by have := h2 j hj; omega)), Nat.le_trans hs k3.size⟩
  rcases k2 j hj with e | e
  · exact h2 j e
  · omega
theorem LeI.fin {B : Nat} {b : K} {m : List K} {wo wr : World} (h : LeI B b m wo wr) : ∃ a c, wr.cell? ⟨B + 1, 0, none⟩ = some (.slice a m.length c) ∧ m.length ≤ c ∧ Sk cubL 20 wr a m ∧ (∀ p, a = some p → B ≤ p.block) := by
  obtain ⟨S', h1, h2⟩ := h.inv
  obtain ⟨v, c1, c2, _⟩ := h1.ex
  obtain ⟨a, c, rfl, h3, h4⟩ := own_sk kdC c2
  exact ⟨a, c, c1, h3, h4, fun p hp => by subst hp; exact (own_lt c2 rfl).1⟩
set_option maxRecDepth 20000 in
set_option maxHeartbeats 8000000 in
theorem left_any (a : Option Addr) (l : List K) (cap : Nat) (b : Option Addr) (m : List K) (mc : Nat) (w : World) (hs : Sk cubL 20 w a l) (ht : Sk cubL 20 w b m) (hc : l.length ≤ cap) (hl : l.length ≤ 128) (hm : m.length ≤ 128) :
    Calls Try.prog 71 #[.slice a l.length cap, .slice b m.length mc] w fun e w' => LsR w (fun p => a = some p) (leftL l m) e w' := by
  have HT : Hid (Sk cubL 20 w b m) := ht
  have H0 : Hid (Sk cubL 20 w a l ∧ l.length ≤ cap ∧ (∀ p, a = some p → w.heap.size ≤ p.block ∨ a = some p)) := ⟨hs, hc, fun p hp => .inr hp⟩
  have HE0 : Hid (leftL l m = leftL l (m.drop 0)) := (show _ = _ from rfl)
  have HYes : Hid (∀ (r : List K) a' c' w', leftL l m = some r → Below w.heap.size w w' → Sk cubL 20 w' a' r → r.length ≤ c' → (∀ p, a' = some p → w.heap.size ≤ p.block ∨ a = some p) → LsR w (fun p => a = some p) (leftL l m) (.returned (.tuple #[.slice a' r.length c', .int .i64 0])) w') := (show ∀ (r : List K) a' c' w', _ from fun r a' c' w' h1 h2 h3 h4 h5 => ⟨h2, .inl ⟨r, a', c', h1, rfl, h3, h4, h5⟩⟩)
  have HNo : Hid (∀ w', leftL l m = none → Below w.heap.size w w' → LsR w (fun p => a = some p) (leftL l m) (.returned (.tuple #[.slice none 0 0, .int .i64 44])) w') := (show ∀ w', _ from fun w' h1 h2 => ⟨h2, .inr ⟨h1, rfl⟩⟩)
  obtain ⟨R, hR⟩ : ∃ R, leftL l m = R := ⟨_, rfl⟩
  rw [hR] at HE0 HYes HNo ⊢
  clear hs ht hR hc
  go_enter Try.func71, Try.ntmps71
  go_wp2_with fail
  go_loopw [0, 13] (fun v0 v13 wr => ∃ (j : Nat) (l1 : List K) (a1 : Option Addr) (c1 : Nat), j ≤ m.length ∧ v13 = .int .i64 j ∧ v0 = .slice a1 l1.length c1 ∧ l1.length ≤ 128 ∧ Hid (Sk cubL 20 wr a1 l1 ∧ l1.length ≤ c1 ∧ (∀ p, a1 = some p → w.heap.size ≤ p.block ∨ a = some p)) ∧ Hid (R = leftL l1 (m.drop j)) ∧ Hid (Below w.heap.size w wr)) (fun _ v13 _ => m.length - (intOf v13).toNat)
  case atStart => exact ⟨0, l, a, cap, Nat.zero_le _, rfl, rfl, hl, H0, HE0, Below.refl _ _⟩
  case round =>
    obtain ⟨j, l1, a1, c1, hj, rfl, rfl, hl1, HS, HE, HB⟩ := hrel
    clear HE0 H0
    by_cases hlt : j < m.length
    · obtain ⟨g, o, rfl, hg, hcs⟩ := (HT.out.below HB.out).at hlt
      have HC : Hid (C20 wr g (o + j * 20) m[j]) := hcs.cub hlt
      have HE2 : Hid (R = if 128 < (l1.flatMap fun k => cutL k m[j]).length then none else leftL (l1.flatMap fun k => cutL k m[j]) (m.drop (j + 1))) := (show _ = _ by rw [HE.out, List.drop_eq_getElem_cons hlt]; rfl)
      obtain ⟨b1, hb1⟩ : ∃ x, m[j] = x := ⟨_, rfl⟩
      rw [hb1] at HC HE2
      clear HE hcs hb1
      obtain ⟨wo, hwo⟩ : ∃ x, x = wr := ⟨_, rfl⟩
      subst hwo
      have HX : Hid (∃ V, (wo.alloc (.cells (cubA K.top) 70)).setCells wo.heap.size 0 (cubL b1) = V ∧ V.heap.size = wo.heap.size + 1 ∧ LeI wo.heap.size b1 ([] : List K) wo (V.alloc (.cells #[.slice none 0 0] 84))) := (show ∃ V, _ from by
        have t1 := there_new wo (cubA K.top) 70 20 (cubA_size _)
        have z1 : (wo.alloc (.cells (cubA K.top) 70)).heap.size = wo.heap.size + 1 := by simp
        have z2 : ((wo.alloc (.cells (cubA K.top) 70)).setCells wo.heap.size 0 (cubL b1)).heap.size = wo.heap.size + 1 := (size_setCells _ _ _ _).trans z1
        refine ⟨_, rfl, z2, ?_⟩
        have h1 := stored_cub t1 b1
        have h2 : Below wo.heap.size wo ((wo.alloc (.cells (cubA K.top) 70)).setCells wo.heap.size 0 (cubL b1)) := below_setCells (by go_grown) (Nat.le_refl _) _ _
        generalize (wo.alloc (.cells (cubA K.top) 70)).setCells wo.heap.size 0 (cubL b1) = V at *
        have h3 := LfI.new (base := wo.heap.size) V (by omega)
        have gV : Below V.heap.size V (V.alloc (.cells #[.slice none 0 0] 84)) := by go_grown
        have z3 : (V.alloc (.cells #[.slice none 0 0] 84)).heap.size = V.heap.size + 1 := by simp
        rw [z2] at h3
        exact ⟨⟨_, h3, fun j hj => by omega⟩, h1.below (by omega) gV, btr h2 gV (by omega), by omega⟩)
      go_wp2_with (first
        | (refine load_cub rfl (.tmp 15) rfl g (o + j * 20) rfl b1 HC.out ?_)
        | (rw [zero_cub]; (obtain ⟨V, hV, zV, hLe⟩ := HX.out); refine store_cub rfl (.tmp 7) (.tmp 16) rfl wo.heap.size 0 rfl b1 rfl (there_new wo _ 70 20 (cubA_size _)) ?_; rw [hV]; have HLe : Hid (LeI wo.heap.size b1 ((l1.take 0).flatMap fun k => cutL k b1) wo (V.alloc (.cells #[.slice none 0 0] 84))) := hLe; clear hV hLe HX HC))
      generalize V.alloc (.cells #[.slice none 0 0] 84) = V2 at *
      have HBW : Hid (w.heap.size ≤ wo.heap.size) := HB.out.size
      go_loopw [19] (fun v19 wr => ∃ i : Nat, i ≤ l1.length ∧ v19 = .int .i64 i ∧ Hid (LeI wo.heap.size b1 ((l1.take i).flatMap fun k => cutL k b1) wo wr)) (fun v19 _ => l1.length - (intOf v19).toNat)
      case atStart => exact ⟨0, Nat.zero_le _, rfl, HLe⟩
      case round =>
        obtain ⟨i, hi, rfl, HI⟩ := hrel
        clear HLe
        by_cases hlt2 : i < l1.length
        · obtain ⟨g2, o2, rfl, hg2, hcs⟩ := (HS.out.1.below HI.out.bel).at hlt2
          have HC : Hid (C20 wr g2 (o2 + i * 20) l1[i]) := hcs.cub hlt2
          have HT2 : Hid ((l1.take (i + 1)).flatMap (fun k => cutL k b1) = ((l1.take i).flatMap fun k => cutL k b1) ++ cutL l1[i] b1) := (show _ = _ by rw [List.take_succ_eq_append_getElem hlt2, List.flatMap_append]; simp)
          have HLn : Hid (((l1.take i).flatMap fun k => cutL k b1).length ≤ 90000000) := (show _ ≤ _ by
            have h1 := flat_cut_len b1 (l1.take i)
            rw [List.length_take] at h1
            omega)
          obtain ⟨c, hcc⟩ : ∃ x, l1[i] = x := ⟨_, rfl⟩
          rw [hcc] at HC HT2
          clear hcs hcc
          have HX : Hid (∃ V, (wr.alloc (.cells (cubA K.top) 70)).setCells wr.heap.size 0 (cubL c) = V ∧ C20 V wr.heap.size 0 c ∧ LeI wo.heap.size b1 ((l1.take i).flatMap fun k => cutL k b1) wo V) := (show ∃ V, _ from by
            have t1 := there_new wr (cubA K.top) 70 20 (cubA_size _)
            exact ⟨_, rfl, stored_cub t1 c, HI.out.grow (below_setCells (by go_grown) (Nat.le_refl _) _ _)⟩)
          go_wp2_with (first
            | (refine load_cub rfl (.tmp 21) rfl g2 (o2 + i * 20) rfl c HC.out ?_)
            | (rw [zero_cub]; (obtain ⟨V, hV, k1, k2⟩ := HX.out); refine store_cub rfl (.tmp 10) (.tmp 22) rfl wr.heap.size 0 rfl c rfl (there_new wr _ 70 20 (cubA_size _)) ?_; rw [hV]; have HV : Hid (C20 V wr.heap.size 0 c ∧ LeI wo.heap.size b1 ((l1.take i).flatMap fun k => cutL k b1) wo V) := ⟨k1, k2⟩; clear hV k1 k2 HX HC)
            | (refine load_cub rfl (.tmp 10) rfl wr.heap.size 0 rfl c HV.out.1 ?_)
            | (refine load_cub rfl (.tmp 7) rfl wo.heap.size 0 rfl b1 HV.out.2.box ?_)
            | (go_at_call 52; refine (HV.out.2.cut c HLn.out).mono ?_; rintro r V3 ⟨rfl, hb⟩; have HV3 : Hid (LeI wo.heap.size b1 ((l1.take (i + 1)).flatMap fun k => cutL k b1) wo V3) := (show LeI _ _ _ _ _ by (rw [HT2.out]; exact hb)); clear hb))
          go_roundw
          case rel => exact ⟨i + 1, by omega, by go_num, HV3⟩
          case measure => simp [intOf]; omega
        · have hE : l1.take i = l1 := List.take_of_length_le (by omega)
          obtain ⟨L2, hL2⟩ : ∃ x, (l1.flatMap fun k => cutL k b1) = x := ⟨_, rfl⟩
          have HI2 : Hid (LeI wo.heap.size b1 L2 wo wr) := (show LeI _ _ _ _ _ by have := HI.out; rwa [hE, hL2] at this)
          rw [hL2] at HE2
          obtain ⟨a2, c2, hcell, hc2, hsk, hfr⟩ := HI2.out.fin
          have HB2 : Hid (Below w.heap.size w wr) := (show Below _ _ _ from btr HB.out HI2.out.bel (by have := HBW.out; omega))
          have HS2 : Hid (Sk cubL 20 wr a2 L2 ∧ L2.length ≤ c2 ∧ (∀ p, a2 = some p → w.heap.size ≤ p.block ∨ a = some p)) := ⟨hsk, hc2, fun p hp => .inl (Nat.le_trans HBW.out (hfr p hp))⟩
          clear hE hL2 HI hsk hc2 hfr
          by_cases hbig : 128 < L2.length
          · have HR : Hid (R = none) := (show _ = _ by rw [HE2.out, if_pos hbig])
            have q1 : decide ((128 : Int) < (L2.length : Int)) = true := by simp; omega
            clear HE2
            go_wp2_with fail
            go_ret2
            exact HNo.out _ HR.out HB2.out
          · have HE3 : Hid (R = leftL L2 (m.drop (j + 1))) := (show _ = _ by rw [HE2.out, if_neg hbig])
            have q1 : decide ((128 : Int) < (L2.length : Int)) = false := by simp; omega
            have hL2 : L2.length ≤ 128 := by omega
            clear HE2
            go_wp2_with fail
            go_roundw
            case rel => exact ⟨j + 1, L2, a2, c2, by omega, by go_num, rfl, hL2, HS2, HE3, HB2⟩
            case measure => simp [intOf]; omega
    · have HR : Hid (R = some l1) := (show _ = _ by rw [HE.out, List.drop_of_length_le (by omega)]; rfl)
      clear HE
      go_wp2_with fail
      go_ret2
      exact HYes.out _ _ _ _ HR.out HB.out HS.out.1 HS.out.2.1 HS.out.2.2
end Go.Proofs.Ytmobmpghpdaddaa

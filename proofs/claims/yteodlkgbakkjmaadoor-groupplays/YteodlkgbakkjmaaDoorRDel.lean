/-
  What the document's Delete answers and does, as a contract.
-/
import Derived.Test.YteodlkgbakkjmaaDoorRAdd
namespace Go.Proofs.YteodlkgbakkjmaaDoor
open Go.ChangeShapes Go.WideShapes Go.ChangeAt Go.RowKit
set_option linter.unusedVariables false

theorem del_id {i : Int} : ∀ {L : List Gr}, (∀ x ∈ L, x.id ≠ i) → delG i L = L := fun {L} h => by
  unfold delG
  rw [List.filter_eq_self]
  intro x hx
  simp [h x hx]
theorem del_at : ∀ {L : List Gr} {i : Int} {k : Nat} (hk : k < L.length), SrtG L → L[k].id = i → L.take k ++ L.drop (k + 1) = delG i L
  | x :: L, i, 0, _, hs, hid => by
    obtain ⟨h1, h2⟩ := List.pairwise_cons.1 hs
    have hid : x.id = i := hid
    have : delG i (x :: L) = delG i L := by unfold delG; rw [List.filter_cons]; simp [hid]
    rw [this, del_id (fun y hy e => by have := h1 y hy; omega)]
    simp
  | x :: L, i, k + 1, hk, hs, hid => by
    obtain ⟨h1, h2⟩ := List.pairwise_cons.1 hs
    have hk' : k < L.length := by simpa using hk
    have hid' : L[k].id = i := hid
    have hne : x.id ≠ i := fun e => by have := h1 L[k] (List.getElem_mem hk'); omega
    have : delG i (x :: L) = x :: delG i L := by unfold delG; rw [List.filter_cons]; simp [hne]
    rw [this, ← del_at hk' h2 hid']
    simp
theorem led_stop {L : List Gr} {i : Int} {k : Nat} (hk : k < L.length) (h : (rawL (L[k].l.map Bk.b3)).contains i = true) : ledB L i = true := by
  unfold ledB
  rw [List.any_eq_true]
  exact ⟨_, List.getElem_mem hk, h⟩
theorem led_end {L : List Gr} {i : Int} (h : ∀ k (hk : k < L.length), k < L.length → (rawL (L[k].l.map Bk.b3)).contains i = false) : ledB L i = false := by
  unfold ledB
  rw [List.any_eq_false]
  intro x hx
  obtain ⟨k, hk, e⟩ := List.getElem_of_mem hx
  rw [← e, h k hk hk]
  simp
set_option maxRecDepth 20000 in
set_option maxHeartbeats 32000000 in
theorem rdel_any {W : World} {rb : Nat} {room : Int} {v : Value} {L : List Gr} (i : Int) (w : World) (h : RT W rb room v L w) (hL : L.length ≤ 64) :
    Calls Tryd.prog 17 #[ptr rb, .int .i64 i] w fun e w' => e = .returned (.int .i64 (delE L i)) ∧ (delE L i ≠ 0 → Below w.heap.size w w') ∧ (delE L i = 0 → ∃ v', RT W rb room v' (delG i L) w' ∧ w.grownBy w' (some rb) ∧ ∀ b, v'.ownBlock = some b → w.heap.size ≤ b) := by
  have HAt : Hid (Calls Tryd.prog 34 #[ptr rb, .int .i64 i] w fun e w' => ∃ m, e = .returned (.int .i64 m) ∧ AtR L i m ∧ w' = w) := (show Calls _ _ _ _ _ from rat_any i w h hL)
  have HE : Hid (delE L i = if hasP L i = false then 31 else if ledB L i = true then 30 else 0) := (show _ = _ from rfl)
  have HRT : Hid (∀ w1, Below w.heap.size w w1 → RT W rb room v L w1) := (show ∀ w1, _ from fun w1 k => h.below k)
  have HLd : Hid (∀ k (hk : k < L.length) w1, Below w.heap.size w w1 → Calls Tryd.prog 38 #[gV L[k]] w1 fun e w' => ∃ v, e = .returned v ∧ OwnI w1.heap.size w' v (rawL (L[k].l.map Bk.b3)) ∧ (rawL (L[k].l.map Bk.b3)).length ≤ 10000 ∧ Below w1.heap.size w1 w') := (show ∀ k (hk : k < L.length) w1, _ from fun k hk w1 hb => by
    obtain ⟨h1, h2, h3⟩ := h.grp L[k] (List.getElem_mem hk)
    exact rleads_any L[k] w1 (h1.below (btr h.bel hb (Nat.le_refl _))) h2 (LO_of h3))
  have HFin : Hid (∀ (V w2 : World) v' L', L' = delG i L → Below w.heap.size w V → LfI V L v' L' w2 → RT W rb room v' (delG i L) (w2.setCell ⟨rb, 0, none⟩ v') ∧ w.grownBy (w2.setCell ⟨rb, 0, none⟩ v') (some rb) ∧ ∀ b, v'.ownBlock = some b → w.heap.size ≤ b) := (show ∀ (V w2 : World) v' L', _ from fun V w2 v' L' e k hI => by
    subst e
    exact h.store k ⟨_, hI⟩ (fun x hx => h.grp x (mem_del.1 hx).1) (srt_del h.srt))
  have HDl : Hid (∀ k (hk : k < L.length), L[k].id = i → L.take k ++ L.drop (k + 1) = delG i L) := (show ∀ k (hk : k < L.length), _ from fun k hk e => del_at hk h.srt e)
  have HL : Hid (L.length ≤ 64) := hL
  clear h hL
  generalize delE L i = DE at *
  go_enter Tryd.func17, Tryd.ntmps17
  go_wp2_with fail
  refine HAt.out.mono ?_
  rintro e w1 ⟨m, rfl, hm, rfl⟩
  rcases hm with ⟨rfl, hf⟩ | ⟨k, rfl, hk, hid⟩
  · have HE2 : Hid (DE = 31) := (show _ = _ by rw [HE.out, hf]; rfl)
    clear hf
    go_wp2_with fail
    go_ret
    exact ⟨by rw [HE2.out]; rfl, fun _ => Below.refl _ _, fun e => by rw [HE2.out] at e; cases e⟩
  · have hh : hasP L i = true := hasP_iff.2 ⟨_, List.getElem_mem hk, hid⟩
    have HE2 : Hid (DE = if ledB L i = true then 30 else 0) := (show _ = _ by rw [HE.out, hh]; rfl)
    have HDk : Hid (L.take k ++ L.drop (k + 1) = delG i L) := HDl.out k hk hid
    have hR1 := HRT.out w1 (Below.refl _ _)
    obtain ⟨a, c, rfl, hlc, hc2, hor⟩ := hR1.slice
    obtain ⟨b, rfl, hbz, _⟩ : ∃ b, a = some ⟨b, 0, none⟩ ∧ b < w1.heap.size ∧ ∀ i (h : i < L.length), Cg w1 b (i * 3) L[i] := by
      rcases hor with e | h
      · subst e; cases hk
      · exact h
    have HC : Hid (∀ w', Below w1.heap.size w1 w' → w'.cell? ⟨rb, 0, none⟩ = some (.slice (some ⟨b, 0, none⟩) L.length c) ∧ rb < w'.heap.size ∧ w'.frozen? ⟨rb, 0, none⟩ = false ∧ b < w'.heap.size ∧ ∀ i (h : i < L.length), Cg w' b (i * 3) L[i]) := (show ∀ w', _ from fun w' hb => by
      have hR := HRT.out w' hb
      obtain ⟨a', c', e, _, _, h | ⟨b', e2, h2, h3⟩⟩ := hR.slice
      · subst h; cases hk
      · cases e; cases e2; exact ⟨hR.c0, hR.lt, hR.f0, h2, h3⟩)
    clear hh hid hR1 hor HE HAt HDl
    go_wp2_with fail
    go_loopw [6] (fun v wr => ∃ q : Nat, q ≤ L.length ∧ v = .int .i64 q ∧ Hid (∀ j (hj : j < L.length), j < q → (rawL (L[j].l.map Bk.b3)).contains i = false) ∧ Hid (Below w1.heap.size w1 wr)) (fun v _ => L.length - (intOf v).toNat)
    case atStart => exact ⟨0, Nat.zero_le _, rfl, (show ∀ j (hj : j < L.length), _ from fun j _ h => by omega), (show Below _ _ _ from Below.refl _ _)⟩
    case round =>
      obtain ⟨q, hq, rfl, HP, HB⟩ := hrel
      obtain ⟨s0, sl, sf, sb, hcs⟩ := HC.out wr HB.out
      by_cases hlt : q < L.length
      · obtain ⟨d0, d1, d2⟩ := hcs q hlt
        have HLq : Hid (Calls Tryd.prog 38 #[gV L[q]] wr fun e w' => ∃ v, e = .returned v ∧ OwnI wr.heap.size w' v (rawL (L[q].l.map Bk.b3)) ∧ (rawL (L[q].l.map Bk.b3)).length ≤ 10000 ∧ Below wr.heap.size wr w') := HLd.out q hlt wr HB.out
        have HS : Hid ((rawL (L[q].l.map Bk.b3)).contains i = true → ledB L i = true) := (show _ → _ from fun h => led_stop hlt h)
        have HN : Hid ((rawL (L[q].l.map Bk.b3)).contains i = false → ∀ j (hj : j < L.length), j < q + 1 → (rawL (L[j].l.map Bk.b3)).contains i = false) := (show _ → _ from fun h j hj hlt' => by
          by_cases e : j = q
          · subst e; exact h
          · exact HP.out j hj (by omega))
        clear HP hcs
        generalize rawL (L[q].l.map Bk.b3) = zs at *
        generalize L[q] = X at *
        obtain ⟨xi, xk, xa, xl, xc⟩ := X
        simp only at *
        go_wp2_with fail
        refine HLq.out.mono ?_
        rintro e w2 ⟨v2, rfl, ho, hn, g2⟩
        have HB2 : Hid (Below w1.heap.size w1 w2) := btr HB.out g2 (Nat.le_refl _)
        have HHa : Hid (Calls Tryd.prog 39 #[v2, .int .i64 i] w2 fun e w' => e = .returned (.bool (zs.contains i)) ∧ w' = w2) := rhas_any _ v2 zs i w2 ho (by omega)
        clear ho hn g2 s0 sl sf sb d0 d1 d2 HB
        generalize zs.contains i = CB at *
        go_wp2_with fail
        refine HHa.out.mono ?_
        rintro e w3 ⟨rfl, rfl⟩
        cases CB with
        | true =>
          have HE3 : Hid (DE = 30) := (show _ = _ by rw [HE2.out, HS.out (by trivial)]; rfl)
          have G3 := HB2.out
          go_wp2_with fail
          go_ret
          exact ⟨by rw [HE3.out]; rfl, fun _ => G3, fun e => by rw [HE3.out] at e; cases e⟩
        | false =>
          have HN' : Hid (∀ j (hj : j < L.length), j < q + 1 → (rawL (L[j].l.map Bk.b3)).contains i = false) := HN.out (by trivial)
          go_wp2_with fail
          go_roundw
          case rel => exact ⟨q + 1, by omega, by go_num, HN', HB2⟩
          case measure => simp [intOf]; omega
      · have e : q = L.length := by omega
        subst e
        have HE3 : Hid (DE = 0) := (show _ = _ by rw [HE2.out, led_end HP.out]; rfl)
        have hL := HL.out
        have HL0 : Hid (LfI wr L (.slice none 0 0) [] wr) := (show LfI _ _ _ _ _ from ⟨World.ownsRow_nil _ _ _ _, Below.refl _ _, by simp⟩)
        have HCs : Hid (∀ i (h : i < L.length), Cg wr b (i * 3) L[i]) := hcs
        have HT1 : Hid (∀ y ∈ L.take k, y ∈ L) := (show ∀ y ∈ L.take k, y ∈ L from fun y hy => List.mem_of_mem_take hy)
        have HT2 : Hid (∀ y ∈ L.drop (k + 1), y ∈ L) := (show ∀ y ∈ L.drop (k + 1), y ∈ L from fun y hy => List.mem_of_mem_drop hy)
        have ht1 : (L.take k).length = k := by rw [List.length_take]; omega
        have HN1 : Hid ((L.take k).length = k) := ht1
        have HA1 : Hid (L.take k = [] ∨ ∃ g o, (some ⟨b, 0, none⟩ : Option Addr) = some ⟨g, o, none⟩ ∧ g < wr.heap.size ∧ ∀ i (h : i < (L.take k).length), Cg wr g (o + i * 3) (L.take k)[i]) := (show _ ∨ _ from .inr ⟨b, 0, rfl, sb, fun i hi => by
          rw [Nat.zero_add, List.getElem_take]
          exact HCs.out i (by rw [ht1] at hi; omega)⟩)
        clear HP hcs ht1
        have HC7 : Hid (∀ w', Below wr.heap.size wr w' → w'.cell? ⟨rb, 0, none⟩ = some (.slice (some ⟨b, 0, none⟩) L.length c) ∧ rb < w'.heap.size ∧ w'.frozen? ⟨rb, 0, none⟩ = false ∧ b < w'.heap.size ∧ ∀ i (h : i < L.length), Cg w' b (i * 3) L[i]) := (show ∀ w', _ from fun w' k => HC.out w' (btr HB.out k (Nat.le_refl _)))
        by_cases hck : c = k + 1
        · subst hck
          go_wp2_with (at_builtin; first | (refine wpList_appGs rfl _ _ rfl wr L (.slice none 0 0) [] rfl HL0.out (some ⟨b, 0, none⟩) _ (L.take k) k HN1.out.symm rfl HA1.out (by rw [HN1.out]; simp; omega) HT1.out ?_; intro v7 w7 hl7; obtain ⟨p0, pl, pf, pb, pc⟩ := HC7.out w7 hl7.bel; obtain ⟨a7, n7, c7, e7⟩ := hl7.form2; subst e7; have HL7 : Hid (LfI wr L (.slice a7 n7 c7) ([] ++ L.take k) w7) := hl7; have HA2 : Hid (L.drop (k + 1) = [] ∨ ∃ g o, (some ⟨b, 0, none⟩ : Option Addr) = some ⟨g, o, none⟩ ∧ g < w7.heap.size ∧ ∀ i (h : i < (L.drop (k + 1)).length), Cg w7 g (o + i * 3) (L.drop (k + 1))[i]) := (show _ ∨ _ from .inl (List.drop_eq_nil_of_le (by omega))); clear pc hl7 s0 sl sf sb HA1 HL0 HCs) | (refine wpList_appGs rfl _ _ rfl wr L (.slice a7 n7 c7) ([] ++ L.take k) rfl HL7.out (some ⟨b, 0, none⟩) (0) (L.drop (k + 1)) 0 (by rw [List.length_drop]; omega) rfl HA2.out (by rw [List.nil_append, HN1.out, List.length_drop]; omega) HT2.out ?_; intro v8 w8 hl8; obtain ⟨r0, rl, rf, rq, _⟩ := HC7.out w8 hl8.bel; obtain ⟨a8, n8, c8, e8⟩ := hl8.form2; subst e8; have HF := HFin.out wr w8 (.slice a8 n8 c8) _ (by rw [List.nil_append]; exact HDk.out) HB.out hl8; have HF : Hid (RT W rb room (.slice a8 n8 c8) (delG i L) (w8.setCell ⟨rb, 0, none⟩ (.slice a8 n8 c8)) ∧ w1.grownBy (w8.setCell ⟨rb, 0, none⟩ (.slice a8 n8 c8)) (some rb) ∧ ∀ b, (Value.slice a8 n8 c8).ownBlock = some b → w1.heap.size ≤ b) := HF; clear p0 pl pf pb HL7 HA2 hl8 HFin))
          go_ret
          exact ⟨by rw [HE3.out]; rfl, fun e => absurd HE3.out e, fun _ => ⟨_, HF.out⟩⟩
        · have hc1 : k + 1 ≤ c := by omega
          go_wp2_with (at_builtin; first | (refine wpList_appGs rfl _ _ rfl wr L (.slice none 0 0) [] rfl HL0.out (some ⟨b, 0, none⟩) _ (L.take k) k HN1.out.symm rfl HA1.out (by rw [HN1.out]; simp; omega) HT1.out ?_; intro v7 w7 hl7; obtain ⟨p0, pl, pf, pb, pc⟩ := HC7.out w7 hl7.bel; obtain ⟨a7, n7, c7, e7⟩ := hl7.form2; subst e7; have HL7 : Hid (LfI wr L (.slice a7 n7 c7) ([] ++ L.take k) w7) := hl7; have HA2 : Hid (L.drop (k + 1) = [] ∨ ∃ g o, (some ⟨b, (k + 1) * 3, none⟩ : Option Addr) = some ⟨g, o, none⟩ ∧ g < w7.heap.size ∧ ∀ i (h : i < (L.drop (k + 1)).length), Cg w7 g (o + i * 3) (L.drop (k + 1))[i]) := (show _ ∨ _ from .inr ⟨b, (k + 1) * 3, rfl, pb, fun i hi => by (rw [List.getElem_drop, ← Nat.add_mul]; exact pc (k + 1 + i) (by rw [List.length_drop] at hi; omega))⟩); clear pc hl7 s0 sl sf sb HA1 HL0 HCs) | (refine wpList_appGs rfl _ _ rfl wr L (.slice a7 n7 c7) ([] ++ L.take k) rfl HL7.out (some ⟨b, (k + 1) * 3, none⟩) (c - (k + 1)) (L.drop (k + 1)) (L.length - (k + 1)) (by simp) rfl HA2.out (by rw [List.nil_append, HN1.out, List.length_drop]; omega) HT2.out ?_; intro v8 w8 hl8; obtain ⟨r0, rl, rf, rq, _⟩ := HC7.out w8 hl8.bel; obtain ⟨a8, n8, c8, e8⟩ := hl8.form2; subst e8; have HF := HFin.out wr w8 (.slice a8 n8 c8) _ (by rw [List.nil_append]; exact HDk.out) HB.out hl8; have HF : Hid (RT W rb room (.slice a8 n8 c8) (delG i L) (w8.setCell ⟨rb, 0, none⟩ (.slice a8 n8 c8)) ∧ w1.grownBy (w8.setCell ⟨rb, 0, none⟩ (.slice a8 n8 c8)) (some rb) ∧ ∀ b, (Value.slice a8 n8 c8).ownBlock = some b → w1.heap.size ≤ b) := HF; clear p0 pl pf pb HL7 HA2 hl8 HFin))
          go_ret
          exact ⟨by rw [HE3.out]; rfl, fun e => absurd HE3.out e, fun _ => ⟨_, HF.out⟩⟩
end Go.Proofs.YteodlkgbakkjmaaDoor

/-
  join, walked; And, Or, Not.
-/
import Derived.Test.YtmobmpghpdaddaaJoinI
namespace Go.Proofs.Ytmobmpghpdaddaa
open Go.ChangeShapes Go.WideShapes Go.ChangeAt Go.RowKit
set_option linter.unusedVariables false
set_option linter.unusedSimpArgs false

theorem joinL_cons (acc : List Nd) (tops : List Int) (l : List Nd) (ls : List (List Nd)) : joinL acc tops (l :: ls) = if rightB l then joinL (acc ++ l.map (mvN acc.length)) (tops ++ [((acc.length + l.length : Nat) : Int) - 1]) ls else none := rfl
theorem rnB_is {x : Nd} {p : Int} (h : rnB x p = true) : x.k = 3 → 1 ≤ x.t.f ∧ x.t.f ≤ 9 := fun h3 => by
  unfold rnB at h
  rw [if_neg (by omega), if_pos h3, Bool.and_eq_true] at h
  obtain ⟨r1, r2, _⟩ := (trB_iff _).1 h.1
  exact ⟨r1, r2⟩
theorem right_few {l : List Nd} (h : rightB l = true) : ∀ x ∈ l, x.s.length ≤ 12 ∧ ∀ i ∈ x.s, 0 ≤ i ∧ i < 60 := fun x hx => by
  obtain ⟨j, hj, rfl⟩ := List.mem_iff_getElem.1 hx
  have h1 := rightB_at h j hj
  have h2 := rightB_len h
  exact ⟨rnB_len h1, fun i hi => by have := rnB_subs h1 i hi; omega⟩
/-- The first boxes. -/
theorem JnI.start (w : World) (k : Int) : ∃ X, (w.alloc (.cells #[.slice none 0 0] 24)).alloc (.cells #[.int .i64 k, .int .i64 0, .int .u64 0, .int .u64 0, .slice none 0 0] 39) = X ∧ JnI w X.heap.size w.heap.size (w.heap.size + 1) k (.slice none 0 0) [] [] X ∧ X.heap.size = w.heap.size + 2 := by
  refine ⟨_, rfl, ⟨NR.nil _ _, ⟨none, 0, by simp, own_nil _ _ _ _ _, fun q h => by cases h⟩, by simp, by simp, by simp, by simp, by simp, ?_, ⟨by omega, by omega, by simp; omega, by simp, Nat.le_refl _, by omega⟩, by go_grown⟩, by simp⟩
  exact there_block (there_new w #[.slice none 0 0] 24 1 rfl) (heap_alloc_old _ _ (by simp))
theorem NR.set {B b o : Nat} {w : World} {v u : Value} {hs : List Nh} (h : NR B w v hs) (hb : b < B) : NR B (w.setCell ⟨b, o, none⟩ u) v hs := by
  have hblk : ∀ j, B ≤ j → (w.setCell ⟨b, o, none⟩ u).heap[j]? = w.heap[j]? := fun j hj => setCell_block _ _ _ _ (by omega)
  exact ⟨own_chg h.own (fun j hj => hblk j (own_lt h.own hj).1), fun x hx => ⟨(h.sub x hx).1.blk (by simp [World.setCell]) (fun _ q _ _ hB => hblk q hB), (h.sub x hx).2⟩⟩
set_option maxRecDepth 20000 in
set_option maxHeartbeats 8000000 in
theorem join_any (k : Int) (a : Option Addr) (ps : List (List Nd)) (cap : Nat) (w : World) (hs : Ps w a ps) (hl : ps.length ≤ 9223372036854775807) (hll : ∀ l ∈ ps, l.length ≤ 9223372036854775807 ∧ ∀ x ∈ l, x.s.length ≤ 9223372036854775807) :
    Calls Try.prog 43 #[.int .i64 k, .slice a ps.length cap] w fun e w' => PrR w (madeL k ps) e w' := by
  by_cases h12 : 12 < ps.length
  · have hE : madeL k ps = [] := by unfold madeL; rw [if_pos h12]
    rw [hE]
    have q1 : decide ((12 : Int) < (ps.length : Int)) = true := by simp; omega
    clear hE hs
    go_enter Try.func43, Try.ntmps43
    go_wp2_with fail
    exact bodyPost_ret (results_pred rfl _ _ w.heap.size (.slice none 0 0) rfl (by simp)) rfl ⟨_, [], rfl, NR.nil _ _, rfl, by go_grown⟩
  · have q1 : decide ((12 : Int) < (ps.length : Int)) = false := by simp; omega
    obtain ⟨X, hX, hJ, zX⟩ := JnI.start w k
    have H0 : Hid (JnI w X.heap.size w.heap.size (w.heap.size + 1) k (.slice none 0 0) [] [] X) := hJ
    have HE0 : Hid (madeL k ps = endL k (joinL (([] : List Nh).map (·.x)) [] (ps.drop 0))) := (show _ = _ by unfold madeL; rw [if_neg h12]; rfl)
    obtain ⟨R, hR⟩ : ∃ R, madeL k ps = R := ⟨_, rfl⟩
    rw [hR] at HE0 ⊢
    have HP : Hid (Ps w a ps) := hs
    have HLL : Hid (∀ l ∈ ps, l.length ≤ 9223372036854775807 ∧ ∀ x ∈ l, x.s.length ≤ 9223372036854775807) := hll
    obtain ⟨n, hn⟩ : ∃ n, ps.length = n := ⟨_, rfl⟩
    have HN : Hid (ps.length = n) := hn
    have HZX : Hid (X.heap.size = w.heap.size + 2) := zX
    rw [hn] at q1 h12 hl ⊢
    have HXe : Hid ((w.alloc (.cells #[.slice none 0 0] 24)).alloc (.cells #[.int .i64 k, .int .i64 0, .int .u64 0, .int .u64 0, .slice none 0 0] 39) = X) := hX
    clear hs hll hR hn hJ zX hX
    go_enter Try.func43, Try.ntmps43
    go_wp2_with fail
    rw [HXe.out]
    go_loopw [5, 18] (fun v5 v18 wr => ∃ (j : Nat) (ns : List Nh) (tops : List Int), j ≤ n ∧ v18 = .int .i64 j ∧ Hid (JnI w X.heap.size w.heap.size (w.heap.size + 1) k v5 ns tops wr) ∧ Hid (R = endL k (joinL (ns.map (·.x)) tops (ps.drop j))) ∧ Hid (ns.length ≤ j * 60) ∧ Hid (tops.length = j) ∧ Hid (∀ y ∈ ns, y.x.s.length ≤ 12)) (fun _ v18 _ => n - (intOf v18).toNat)
    case atStart => exact ⟨0, [], [], Nat.zero_le _, rfl, H0, HE0, Nat.le_refl _, rfl, fun y hy => (by cases hy)⟩
    case round =>
      obtain ⟨j, ns, tops, hj, rfl, HJ, HE, HNl, HTl, HS12⟩ := hrel
      clear H0 HE0 HXe
      by_cases hlt : j < n
      · have hjl : j < ps.length := by have := HN.out; omega
        obtain ⟨g, o, rfl, hg, b, c, hcell, hlc, hNs⟩ := (HP.out.below HJ.out.bel).at hjl
        obtain ⟨hl1, hl2⟩ := HLL.out _ (List.getElem_mem hjl)
        have HE2 : Hid (R = endL k (joinL (ns.map (·.x)) tops (ps[j] :: ps.drop (j + 1)))) := (show _ = _ by rw [HE.out, List.drop_eq_getElem_cons hjl])
        obtain ⟨L, hL⟩ : ∃ L, ps[j] = L := ⟨_, rfl⟩
        rw [hL] at hcell hlc hNs hl1 hl2 HE2
        obtain ⟨zs, hz1, hz2, hz3⟩ := hNs.heads
        obtain ⟨Y, hY⟩ : ∃ Y, wr.alloc (.cells #[.slice b L.length c] 24) = Y := ⟨_, rfl⟩
        have gY : Below wr.heap.size wr Y := by rw [← hY]; go_grown
        have zY : Y.heap.size = wr.heap.size + 1 := by rw [← hY]; simp
        have cY : Y.cell? ⟨wr.heap.size, 0, none⟩ = some (.slice b L.length c) := by rw [← hY]; simp
        obtain ⟨a5, c5, hf5⟩ := own_form HJ.out.nr.own
        have HR : Hid (Calls Try.prog 9 #[.agg #[.slice b L.length c]] Y fun e w' => e = .returned (.bool (rightB L)) ∧ Below wr.heap.size wr w' ∧ w'.cell? ⟨wr.heap.size, 0, none⟩ = some (.slice b L.length c) ∧ JnI w X.heap.size w.heap.size (w.heap.size + 1) k u5 ns tops w') := (show Calls _ _ _ _ _ from (right_any b L c Y (hNs.below gY) hl1 hl2).mono fun e w' ⟨h1, h2⟩ => ⟨h1, btr gY h2 (by omega), (h2.cell (p := ⟨wr.heap.size, 0, none⟩) (by show wr.heap.size < _; omega)).trans cY, HJ.out.grow (btr gY h2 (by omega))⟩)
        clear HE HJ hNs hL
        cases hb : rightB L with
        | false =>
          rw [hb] at HR
          have HR0 : Hid (R = []) := (show _ = _ by rw [HE2.out, joinL_cons, hb]; rfl)
          clear HE2 hb hz1 hz2 hz3
          go_wp2_with (first
            | (go_at_call 9; refine HR.out.mono ?_; rintro r w1 ⟨rfl, k1, k2, k3⟩; have HJ1 : Hid (JnI w X.heap.size w.heap.size (w.heap.size + 1) k u5 ns tops w1) := k3; clear k1 k2 k3)
            | (refine store_pred rfl (.tmp 4) (.tmp 25) rfl w.heap.size 0 rfl (.slice none 0 0) rfl rfl HJ1.out.res ?_))
          rw [HR0.out]
          have c0 := HJ1.out.res 0 (by decide)
          obtain ⟨v0, hv0⟩ := Option.isSome_iff_exists.1 c0.1
          exact bodyPost_ret (results_pred rfl _ _ w.heap.size (.slice none 0 0) rfl (World.cell?_setCell_same _ _ _ hv0)) rfl ⟨_, [], rfl, NR.nil _ _, rfl, HJ1.out.bel.setCell (Nat.le_refl _) _⟩
        | true =>
          rw [hb] at HR
          obtain ⟨hL1, hL60⟩ := rightB_len hb
          have hzl : zs.length = L.length := by rw [← hz1, List.length_map]
          have HE3 : Hid (R = endL k (joinL (ns.map (·.x) ++ L.map (mvN ns.length)) (tops ++ [((ns.length + L.length : Nat) : Int) - 1]) (ps.drop (j + 1)))) := (show _ = _ by rw [HE2.out, joinL_cons, hb, List.length_map]; rfl)
          have hnb : ns.length ≤ 720 := by have := HNl.out; omega
          have HM : Hid (∀ u, Below wr.heap.size wr u → JnI w X.heap.size w.heap.size (w.heap.size + 1) k u5 ns tops u → Calls Try.prog 59 #[.slice b L.length c, .int .i64 (ns.length : Int)] u fun e w' => ∃ a' c' ys, e = .returned (.slice a' L.length c') ∧ L.length = ys.length ∧ Sk nhL 5 w' a' ys ∧ ys.map (·.x) = L.map (mvN ns.length) ∧ (∀ y ∈ ys, FrI u.heap.size w' y.b y.c y.x.s) ∧ Below u.heap.size u w' ∧ JnI w X.heap.size w.heap.size (w.heap.size + 1) k u5 ns tops w' ∧ (ns.length + ys.length ≤ 500000000000) ∧ X.heap.size ≤ w'.heap.size) := (show ∀ u, _ from fun u g hJu => by
            have h := moved_any b zs c (ns.length : Int) u (hz2.below g) (fun y hy => ⟨(hz3 y hy).1, (hz3 y hy).2.below g⟩) (by omega) (by omega) (fun y hy => right_few hb y.x (by rw [← hz1]; exact List.mem_map_of_mem hy)) (by omega) (by omega)
            rw [hzl] at h
            refine h.mono fun e w' ⟨a', c', ys, k1, k2, k3, k4, k5, k6⟩ => ⟨a', c', ys, k1, k2.symm, k3, ?_, k5, k6, hJu.grow k6, by omega, ?_⟩
            · rw [k4, ← hz1, List.map_map]
              rfl
            · have := (hJu.grow k6).lo.2.2.2.2.1
              exact this)
          have HMn : Hid (∀ ys ms : List Nh, L.length = ys.length → ns ++ ys = ms → ∃ M, ms.length = M + 1) := (show ∀ ys ms : List Nh, _ from fun ys ms e1 e2 => ⟨ms.length - 1, by rw [← e2, List.length_append]; omega⟩)
          have HMb : Hid (∀ ys ms : List Nh, L.length = ys.length → ns ++ ys = ms → ms.length ≤ 1000) := (show ∀ ys ms : List Nh, _ from fun ys ms e1 e2 => by rw [← e2, List.length_append]; omega)
          have HF12 : Hid (∀ x ∈ L, x.s.length ≤ 12) := (show ∀ x ∈ L, _ from fun x hx => (right_few hb x hx).1)
          subst hf5
          clear HE2 hb hz1 hz2 hz3 hzl
          go_wp2_with (first
            | (go_at_call 9; refine HR.out.mono ?_; rintro r w1 ⟨rfl, k1, k2, k3⟩; have HJ1 : Hid (Below wr.heap.size wr w1 ∧ JnI w X.heap.size w.heap.size (w.heap.size + 1) k (.slice a5 ns.length c5) ns tops w1) := ⟨k1, k3⟩; have cc1 := k2; clear k1 k2 k3)
            | (go_at_call 59; refine (HM.out _ HJ1.out.1 HJ1.out.2).mono ?_; rintro e w2 ⟨a', c', ys, rfl, k2, k3, k4, k5, k6, k7, k8, k9⟩; have HJ2 : Hid (L.length = ys.length ∧ Sk nhL 5 w2 a' ys ∧ ys.map (·.x) = L.map (mvN ns.length) ∧ (∀ y ∈ ys, FrI w1.heap.size w2 y.b y.c y.x.s) ∧ Below w1.heap.size w1 w2 ∧ JnI w X.heap.size w.heap.size (w.heap.size + 1) k (.slice a5 ns.length c5) ns tops w2 ∧ (ns.length + ys.length ≤ 500000000000) ∧ X.heap.size ≤ w2.heap.size) := ⟨k2, k3, k4, k5, k6, k7, k8, k9⟩; clear k2 k3 k4 k5 k6 k7 k8 k9)
            | (at_builtin; refine wpList_appS kdN ktN rfl (.tmp 26) (.tmp 31) rfl X.heap.size (.slice a5 ns.length c5) ns rfl HJ2.out.2.2.2.2.2.1.nr.own a' L.length c' ys rfl HJ2.out.1 HJ2.out.2.1 HJ2.out.2.2.2.2.2.2.1 HJ2.out.2.2.2.2.2.2.2 ?_; intro v' w4 ho2 hg2 hat; have HJ3 : Hid (JnI w X.heap.size w.heap.size (w.heap.size + 1) k v' (ns ++ ys) tops w4) := (show JnI _ _ _ _ _ _ _ _ _ from HJ1.out.2.nodes HJ2.out.2.2.2.2.1 HJ2.out.2.2.2.1 ho2 hg2 hat); clear ho2 hg2 hat; (obtain ⟨a6, c6, hf6⟩ := own_form HJ3.out.nr.own); subst hf6; (obtain ⟨ms, hms⟩ : ∃ ms, ns ++ ys = ms := ⟨_, rfl⟩); rw [hms] at HJ3 ⊢; have HMs : Hid (ns ++ ys = ms) := hms; clear hms; (obtain ⟨M, hM⟩ := HMn.out ys ms HJ2.out.1 HMs.out); have HMl : Hid (ms.length = M + 1) := hM; rw [hM] at HJ3 ⊢; clear hM; (obtain ⟨ta, ct, k1, k2, k3⟩ := HJ3.out.top); have HTo : Hid (Own 3 intL 1 X.heap.size w4 (.slice ta tops.length ct) tops ∧ X.heap.size ≤ w4.heap.size ∧ tops.length ≤ 1000) := (show _ ∧ _ ∧ _ from ⟨k2, HJ3.out.lo.2.2.2.2.1, (by have := HTl.out; omega)⟩); clear k2 k3; have hM1 : (M : Int) + 1 < 10000000 := (by have := HMl.out; have := HMs.out; have := HMb.out ys ms HJ2.out.1 HMs.out; omega))
            | (at_builtin; have gI : Below w4.heap.size w4 (w4.alloc (.cells #[.int .i64 (M : Int)] 3)) := (by go_grown); have hcs := cs_new (k := intL) (s := 1) w4 (M : Int) 3; refine wpList_appK kdI ktI rfl (.tmp 34) (.tmp 38) rfl X.heap.size (.slice ta tops.length ct) tops rfl (own_below HTo.out.1 gI) w4.heap.size 0 1 1 [(M : Int)] rfl rfl hcs (by have := HTo.out.2.2; simp; omega) (Nat.le_trans HTo.out.2.1 gI.size) ?_; intro v'' w5 ho2 hg2 hat; have HS := HJ3.out.addT k1 gI ho2 hg2 hat; (obtain ⟨a8, c8, hf8⟩ := own_form ho2); subst hf8; have el : (tops ++ [(M : Int)]).length = tops.length + 1 := (by simp); rw [el] at HS ⊢; (obtain ⟨s1, s2, s3⟩ := HS); have HQ : Hid (JnI w X.heap.size w.heap.size (w.heap.size + 1) k (.slice a6 (M + 1) c6) ms (tops ++ [(M : Int)]) (w5.setCell ⟨w.heap.size + 1, 4, none⟩ (.slice a8 (tops.length + 1) c8))) := s3; clear s3 ho2 hg2 hat el hcs gI k1))
          have HQ2 : Hid (R = endL k (joinL (ms.map (·.x)) (tops ++ [(M : Int)]) (ps.drop (j + 1))) ∧ ms.length ≤ (j + 1) * 60 ∧ (tops ++ [(M : Int)]).length = j + 1) := (show _ ∧ _ ∧ _ by
            have e1 := HMs.out
            have e2 := HMl.out
            have e3 := HJ2.out.1
            have e4 := HNl.out
            have e5 := HTl.out
            rw [← e1, List.length_append] at e2
            refine ⟨?_, by rw [← e1, List.length_append]; omega, by simp [e5]⟩
            rw [HE3.out, ← e1, List.map_append, HJ2.out.2.2.1, show ((ns.length + L.length : Nat) : Int) - 1 = (M : Int) by omega])
          have HS13 : Hid (∀ y ∈ ms, y.x.s.length ≤ 12) := (show ∀ y ∈ ms, _ from fun y hy => by
            rw [← HMs.out] at hy
            rcases List.mem_append.1 hy with hy | hy
            · exact HS12.out y hy
            · have hm : y.x ∈ L.map (mvN ns.length) := by rw [← HJ2.out.2.2.1]; exact List.mem_map_of_mem hy
              obtain ⟨x, hx, e⟩ := List.mem_map.1 hm
              rw [← e]
              show (x.s.map _).length ≤ 12
              rw [List.length_map]
              exact HF12.out x hx)
          go_roundw
          case rel => exact ⟨j + 1, ms, tops ++ [(M : Int)], by omega, by go_num, HQ, HQ2.out.1, HQ2.out.2.1, HQ2.out.2.2, HS13⟩
          case measure => simp [intOf]; omega
      · have hjn : j = n := by omega
        subst hjn
        have HRe : Hid (R = if rightB (ns.map (·.x) ++ [⟨k, zT, tops⟩]) then ns.map (·.x) ++ [⟨k, zT, tops⟩] else []) := (show _ = _ by rw [HE.out, List.drop_of_length_le (by have := HN.out; omega)]; rfl)
        obtain ⟨ta, ct, k1, k2, k3⟩ := HJ.out.top
        obtain ⟨a5, c5, hf5⟩ := own_form HJ.out.nr.own
        have d0 := HJ.out.c0
        have d1 := HJ.out.c1
        have d2 := HJ.out.c2
        have d3 := HJ.out.c3
        have hnb : ns.length ≤ 720 := by have := HNl.out; omega
        have HS14 : Hid (∀ x ∈ (ns ++ [(⟨⟨k, zT, tops⟩, ta, ct⟩ : Nh)]).map (fun h : Nh => h.x), x.s.length ≤ 9223372036854775807) := (show ∀ x ∈ _, _ from fun x hx => by
          obtain ⟨y, hy, rfl⟩ := List.mem_map.1 hx
          rcases List.mem_append.1 hy with hy | hy
          · have := HS12.out y hy; omega
          · rw [List.mem_singleton] at hy; subst hy; show tops.length ≤ _; have := HTl.out; omega)
        have HLn : Hid (ns.length + [(⟨⟨k, zT, tops⟩, ta, ct⟩ : Nh)].length ≤ 500000000000 ∧ (ns ++ [(⟨⟨k, zT, tops⟩, ta, ct⟩ : Nh)]).length ≤ 9223372036854775807 ∧ X.heap.size ≤ wr.heap.size) := (show _ ∧ _ ∧ _ from ⟨by simp; omega, by simp; omega, HJ.out.lo.2.2.2.2.1⟩)
        have HMp : Hid ((ns ++ [(⟨⟨k, zT, tops⟩, ta, ct⟩ : Nh)]).map (fun h : Nh => h.x) = ns.map (·.x) ++ [⟨k, zT, tops⟩]) := (show _ = _ by rw [List.map_append]; rfl)
        obtain ⟨LL, hLL⟩ : ∃ LL, ns ++ [(⟨⟨k, zT, tops⟩, ta, ct⟩ : Nh)] = LL := ⟨_, rfl⟩
        have HFin : Hid (∀ w4 a6 c6, NR X.heap.size w4 (.slice a6 LL.length c6) LL ∧ w4.there w.heap.size 0 1 ∧ Below w.heap.size w w4 ∧ w.heap.size ≤ X.heap.size ∧ w.heap.size < w4.heap.size → ∀ V5, V5 = w4.alloc (.cells #[.slice a6 LL.length c6] 24) → Calls Try.prog 9 #[.agg #[.slice a6 LL.length c6]] V5 fun e w' => e = .returned (.bool (rightB (ns.map (·.x) ++ [⟨k, zT, tops⟩]))) ∧ w'.cell? ⟨w4.heap.size, 0, none⟩ = some (.slice a6 LL.length c6) ∧ NR X.heap.size w' (.slice a6 LL.length c6) LL ∧ w'.there w.heap.size 0 1 ∧ Below w.heap.size w w' ∧ w.heap.size < X.heap.size) := (show ∀ w4 a6 c6, _ from fun w4 a6 c6 ⟨f1, f2, f3, f4, f5⟩ V5 hV => by
          have gV : Below w4.heap.size w4 V5 := by rw [hV]; go_grown
          have cV : V5.cell? ⟨w4.heap.size, 0, none⟩ = some (.slice a6 LL.length c6) := by rw [hV]; simp
          have zV : V5.heap.size = w4.heap.size + 1 := by rw [hV]; simp
          obtain ⟨a7, c7, e7, _, hns⟩ := (f1.below gV).ns
          cases e7
          have h := right_any a6 (LL.map (·.x)) c6 V5 hns (by rw [List.length_map, ← hLL]; exact HLn.out.2.1) (by rw [← hLL]; exact HS14.out)
          rw [List.length_map] at h
          have e9 : LL.map (·.x) = ns.map (·.x) ++ [⟨k, zT, tops⟩] := by rw [← hLL]; exact HMp.out
          rw [e9] at h
          refine h.mono fun e w' ⟨g1, g2⟩ => ⟨g1, (g2.cell (p := ⟨w4.heap.size, 0, none⟩) (by show w4.heap.size < _; omega)).trans cV, (f1.below gV).below g2, there_block f2 ((g2.block _ (by omega)).trans (gV.block _ f5)), btr (btr f3 gV (by omega)) g2 (by omega), by have := HZX.out; omega⟩)
        rw [hLL] at HMp
        have HLL2 : Hid (ns ++ [(⟨⟨k, zT, tops⟩, ta, ct⟩ : Nh)] = LL) := hLL
        have HFn : Hid (∀ ta' ct' V w2 v', wr.cell? ⟨w.heap.size + 1, 4, none⟩ = some (.slice ta' tops.length ct') → Below wr.heap.size wr V → Own 39 nhL 5 X.heap.size w2 v' (ns ++ [⟨⟨k, zT, tops⟩, ta', ct'⟩]) → V.grownBy w2 (Value.slice a5 ns.length c5).ownBlock → (v'.ownBlock = (Value.slice a5 ns.length c5).ownBlock ∨ v'.ownBlock = some V.heap.size) → NR X.heap.size w2 v' (ns ++ [⟨⟨k, zT, tops⟩, ta', ct'⟩]) ∧ w2.there w.heap.size 0 1 ∧ Below w.heap.size w w2 ∧ w.heap.size ≤ X.heap.size ∧ w.heap.size < w2.heap.size) := (show ∀ ta' ct' V w2 v', _ from fun ta' ct' V w2 v' f1 f2 f3 f4 f5 => by subst hf5; exact HJ.out.fin f1 f2 f3 f4 f5)
        clear hLL HMp
        have HMp2 : Hid (LL.map (·.x) = ns.map (·.x) ++ [⟨k, zT, tops⟩]) := (show _ = _ by rw [← HLL2.out, List.map_append]; rfl)
        subst hf5
        clear HE k2 k3
        have HOw : Hid (Own 39 nhL 5 X.heap.size wr (.slice a5 ns.length c5) ns) := HJ.out.nr.own
        clear HJ HS14
        cases hb : rightB (ns.map (·.x) ++ [⟨k, zT, tops⟩]) with
        | false =>
          have HR0 : Hid (R = []) := (show _ = _ by rw [HRe.out, hb]; rfl)
          rw [hb] at HFin
          clear HRe hb
          go_wp2_with (first
            | (at_builtin; have gI : Below wr.heap.size wr (wr.alloc (.cells #[.int .i64 k, .int .i64 0, .int .u64 0, .int .u64 0, .slice ta tops.length ct] 39)) := (by go_grown); have hcs : Cs nhL 5 (wr.alloc (.cells #[.int .i64 k, .int .i64 0, .int .u64 0, .int .u64 0, .slice ta tops.length ct] 39)) wr.heap.size 0 [⟨⟨k, zT, tops⟩, ta, ct⟩] := cs_new (k := nhL) (s := 5) wr ⟨⟨k, zT, tops⟩, ta, ct⟩ 39; refine wpList_appK kdN ktN rfl (.tmp 42) (.tmp 44) rfl X.heap.size (.slice a5 ns.length c5) ns rfl (own_below HOw.out gI) wr.heap.size 0 1 1 [⟨⟨k, zT, tops⟩, ta, ct⟩] rfl rfl hcs HLn.out.1 (Nat.le_trans HLn.out.2.2 gI.size) ?_; intro v' w4 ho2 hg2 hat; have HQ := HFn.out ta ct _ w4 v' k1 gI ho2 hg2 hat; rw [HLL2.out] at ho2 HQ; (obtain ⟨a6, c6, hf6⟩ := own_form ho2); subst hf6; have HRi := HFin.out w4 a6 c6 HQ _ rfl; have HRi2 : Hid _ := HRi; clear HQ HRi ho2 hg2 hat hcs gI)
            | (go_at_call 9; refine (show Calls _ _ _ _ _ from HRi2.out).mono ?_; rintro e w6 ⟨rfl, m1, m2, m3, m4, m5⟩; have HM6 : Hid (w6.there w.heap.size 0 1 ∧ Below w.heap.size w w6) := ⟨m3, m4⟩; clear m1 m2 m3 m4 m5)
            | (refine store_pred rfl (.tmp 4) (.tmp 50) rfl w.heap.size 0 rfl (.slice none 0 0) rfl rfl HM6.out.1 ?_))
          rw [HR0.out]
          have c0 := HM6.out.1 0 (by decide)
          obtain ⟨v0, hv0⟩ := Option.isSome_iff_exists.1 c0.1
          exact bodyPost_ret (results_pred rfl _ _ w.heap.size (.slice none 0 0) rfl (World.cell?_setCell_same _ _ _ hv0)) rfl ⟨_, [], rfl, NR.nil _ _, rfl, HM6.out.2.setCell (Nat.le_refl _) _⟩
        | true =>
          have HR0 : Hid (R = LL.map (·.x)) := (show _ = _ by rw [HRe.out, hb, HMp2.out]; rfl)
          rw [hb] at HFin
          clear HRe hb
          go_wp2_with (first
            | (at_builtin; have gI : Below wr.heap.size wr (wr.alloc (.cells #[.int .i64 k, .int .i64 0, .int .u64 0, .int .u64 0, .slice ta tops.length ct] 39)) := (by go_grown); have hcs : Cs nhL 5 (wr.alloc (.cells #[.int .i64 k, .int .i64 0, .int .u64 0, .int .u64 0, .slice ta tops.length ct] 39)) wr.heap.size 0 [⟨⟨k, zT, tops⟩, ta, ct⟩] := cs_new (k := nhL) (s := 5) wr ⟨⟨k, zT, tops⟩, ta, ct⟩ 39; refine wpList_appK kdN ktN rfl (.tmp 42) (.tmp 44) rfl X.heap.size (.slice a5 ns.length c5) ns rfl (own_below HOw.out gI) wr.heap.size 0 1 1 [⟨⟨k, zT, tops⟩, ta, ct⟩] rfl rfl hcs HLn.out.1 (Nat.le_trans HLn.out.2.2 gI.size) ?_; intro v' w4 ho2 hg2 hat; have HQ := HFn.out ta ct _ w4 v' k1 gI ho2 hg2 hat; rw [HLL2.out] at ho2 HQ; (obtain ⟨a6, c6, hf6⟩ := own_form ho2); subst hf6; have HRi := HFin.out w4 a6 c6 HQ _ rfl; have HRi2 : Hid _ := HRi; clear HQ HRi ho2 hg2 hat hcs gI)
            | (go_at_call 9; refine (show Calls _ _ _ _ _ from HRi2.out).mono ?_; rintro e w6 ⟨rfl, m1, m2, m3, m4, m5⟩; have HM6 : Hid (w6.there w.heap.size 0 1 ∧ Below w.heap.size w w6 ∧ NR X.heap.size w6 (.slice a6 LL.length c6) LL ∧ w.heap.size < X.heap.size) := ⟨m3, m4, m2, m5⟩; clear m2 m3 m4 m5)
            | (refine store_pred rfl (.tmp 4) (.tmp 51) rfl w.heap.size 0 rfl (.slice a6 LL.length c6) rfl rfl HM6.out.1 ?_))
          rw [HR0.out]
          have c0 := HM6.out.1 0 (by decide)
          obtain ⟨v0, hv0⟩ := Option.isSome_iff_exists.1 c0.1
          exact bodyPost_ret (results_pred rfl _ _ w.heap.size (.slice a6 LL.length c6) rfl (World.cell?_setCell_same _ _ _ hv0)) rfl ⟨_, LL, rfl, (HM6.out.2.2.1.set HM6.out.2.2.2).mono (by have := HM6.out.2.2.2; omega), rfl, HM6.out.2.1.setCell (Nat.le_refl _) _⟩
end Go.Proofs.Ytmobmpghpdaddaa

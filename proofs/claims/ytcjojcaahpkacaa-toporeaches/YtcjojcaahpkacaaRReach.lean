/-
  The document's Reach: the walk.
-/
import Derived.Test.YtcjojcaahpkacaaRefS
import Derived.Test.YtcjojcaahpkacaaUp
import Derived.Test.YtcjojcaahpkacaaRoundP
namespace Go.Proofs.Ytcjojcaahpkacaa
open Go.ChangeShapes Go.WideShapes Go.ChangeAt Go.RowKit
set_option linter.unusedVariables false

theorem UpI.grow {w wr u : World} {b m : Nat} {f : Nat → Bool} (h : UpI w b m f wr) (g : Below wr.heap.size wr u) : UpI w b m f u :=
  ⟨fun j hj => (g.cell (p := ⟨b, j, none⟩) h.lt).trans (h.cell j hj), fun j => (g.frozen (p := ⟨b, j, none⟩) h.lt).trans (h.fz j), Nat.lt_of_lt_of_le h.lt g.size, h.bel.trans (g.mono h.bel.size)⟩
set_option maxRecDepth 20000 in
set_option maxHeartbeats 8000000 in
theorem rreach_any {rb n rc : Nat} {ra : Option Addr} {w : World} {l : List Lk} (h : RTm w rb n ra rc l) (hg : goodF n [] l = true) (hL : l.length ≤ 100) (hn : n ≤ 32) (s : Int) (a : Option Addr) (ds : List Int) (cap : Nat) (hd : Is w a ds) (hdl : ds.length ≤ 1000) :
    Calls Try.prog 25 #[.pointer (some ⟨rb, 0, none⟩), .int .i64 s, .slice a ds.length cap] w fun r w' => ∃ v zs, r = .returned v ∧ OwnI w.heap.size w' v zs ∧ Rd n l ds s zs ∧ Below w.heap.size w w' := by
  have HW : Hid (∀ u, Below w.heap.size w u → RTm u rb n ra rc l ∧ Is u a ds) := (show ∀ u, _ from fun u g => ⟨h.below g, hd.below g⟩)
  have c0 := h.c0
  have rl := h.lt
  cases h1 : inB s 1 n
  · have H1 : Hid (inB s 1 n = false) := h1
    clear h1 h hd
    go_enter Try.func25, Try.ntmps25
    go_wp2_with (go_at_call 31; refine (rin_any _ _ _ _).mono ?_; rw [H1.out]; rintro r u ⟨rfl, z⟩; obtain rfl : w = u := z.symm; clear z)
    go_ret
    exact ⟨_, [], rfl, World.ownsRow_nil _ _ _ _, rd_none H1.out, Below.refl _ _⟩
  obtain ⟨s1, s2⟩ := inB_true.1 h1
  obtain ⟨s', rfl⟩ : ∃ s' : Nat, s = (s' : Int) := ⟨s.toNat, by omega⟩
  have hs' : 1 ≤ s' ∧ s' ≤ n := by omega
  have hsn : s' < n + 1 := by omega
  have H1 : Hid (inB (s' : Int) 1 n = true) := h1
  have HG : Hid (goodF n [] l = true) := hg
  clear h1 h hd hg s1 s2
  go_enter Try.func25, Try.ntmps25
  go_wp2_with (first
    | (go_at_call 31; refine (rin_any _ _ _ _).mono ?_; rw [H1.out]; rintro r u ⟨rfl, z⟩; obtain rfl : w = u := z.symm; clear z)
    | (at_make; refine wpList_bools rfl _ _ rfl _ (n + 1) (by omega) (by omega) rfl rfl ?_; obtain ⟨U, hU⟩ : ∃ U, w.alloc (.cells (boolZ (n + 1)) 4) = U := ⟨_, rfl⟩; have HU : Hid (UpI w w.heap.size n (fun _ => false) U) := (show UpI _ _ _ _ _ by rw [← hU]; exact UpI.new n); rw [hU]; have cU := HU.out.cell s' hs'.2; have fU := HU.out.fz s'; clear hU c0))
  have H0 : Hid (∃ F, UpI w w.heap.size n F (U.setCell ⟨w.heap.size, s', none⟩ (.bool true)) ∧ Ro n l ds s' 0 F) := (show ∃ F, _ from ⟨_, HU.out.set (Nat.le_refl _) hs'.2 true, Ro.init hs' (fun j => by
    by_cases e : j = s' <;> simp [e])⟩)
  clear cU fU HU
  go_loopw [8] (fun v8 wr => ∃ r : Nat, r ≤ n ∧ v8 = .int .i64 r ∧ Hid (∃ F, UpI w w.heap.size n F wr ∧ Ro n l ds s' r F)) (fun v8 _ => n - (intOf v8).toNat)
  case atStart => exact ⟨0, Nat.zero_le _, rfl, H0⟩
  case round =>
    obtain ⟨r, hr, rfl, HI⟩ := hrel
    clear H0
    obtain ⟨F, hup, hro⟩ := HI.out
    have HRo : Hid (Ro n l ds s' r F) := hro
    have HUp : Hid (UpI w w.heap.size n F wr) := hup
    have c0 := (HW.out wr hup.bel).1.c0
    clear HI hup hro
    by_cases hlt : r < n
    · have H2 : Hid (∃ G, UpI w w.heap.size n G wr ∧ Rn n l ds s' F 0 G) := (show ∃ G, _ from ⟨F, HUp.out, HRo.out.start⟩)
      clear HUp
      go_wp2_with fail
      clear c0
      go_loopw [9] (fun v9 wr => ∃ i : Nat, i ≤ l.length ∧ v9 = .int .i64 i ∧ Hid (∃ G, UpI w w.heap.size n G wr ∧ Rn n l ds s' F i G)) (fun v9 _ => l.length - (intOf v9).toNat)
      case atStart => exact ⟨0, Nat.zero_le _, rfl, H2⟩
      case round =>
        clear H2
        obtain ⟨i, hi, rfl, HJ⟩ := hrel
        obtain ⟨G, hup, hrn⟩ := HJ.out
        have HRn : Hid (Rn n l ds s' F i G) := hrn
        have HUp : Hid (UpI w w.heap.size n G wr) := hup
        have c1 := (HW.out wr hup.bel).1.c1
        have hls := (HW.out wr hup.bel).1.ls
        have hrl := (HW.out wr hup.bel).1.lt
        have hul := hup.lt
        clear HJ hup hrn
        by_cases hli : i < l.length
        · obtain ⟨g, o, rfl, hgl, hcs⟩ := hls.at hli
          obtain ⟨d0, d1, d2, d3, d4⟩ := hcs i hli
          have hmay := mayB_true (good_mid HG.out i hli).1
          obtain ⟨x, hx⟩ : ∃ x, l[i] = x := ⟨_, rfl⟩
          have HSk : Hid ((¬ 0 < x.b ∨ ((i : Int) + 1) ∈ ds ∨ (G x.a.toNat = false ∧ G x.b.toNat = false)) → Rn n l ds s' F (i + 1) G) := (show _ → _ from fun hc => HRn.out.skip hli (by rw [hx]; exact hc))
          have HAd : Hid (∀ G', 0 < x.b → ((i : Int) + 1) ∉ ds → (G x.a.toNat = true ∨ G x.b.toNat = true) → (∀ j, G' j = if j = x.b.toNat then true else if j = x.a.toNat then true else G j) → Rn n l ds s' F (i + 1) G') := (show ∀ G', _ from fun G' k1 k2 k3 k4 => HRn.out.add HG.out hli (by rw [hx]; exact k1) k2 (by rw [hx]; exact k3) (by rw [hx]; exact k4))
          rw [hx] at d0 d1 d2 d3 d4 hmay
          clear hx hcs hls
          obtain ⟨xa, xp, xb, xq, xc⟩ := x
          obtain ⟨⟨a1, a2⟩, _, _, hbb⟩ := hmay
          simp only at a1 a2 hbb d0 d1 d2 d3 d4
          obtain ⟨na, rfl⟩ : ∃ na : Nat, xa = (na : Int) := ⟨xa.toNat, by omega⟩
          have hna : na ≤ n := by omega
          have hna2 : na < n + 1 := by omega
          have fo := stored_float xc
          by_cases hb : 0 < xb
          · obtain ⟨nb, rfl⟩ : ∃ nb : Nat, xb = (nb : Int) := ⟨xb.toNat, by omega⟩
            have hnb : nb ≤ n := by omega
            have hnb2 : nb < n + 1 := by omega
            have hab : na ≠ nb := by omega
            have hab2 : nb ≠ na := by omega
            clear hbb a1 a2
            have HHs : Hid (∀ u, Below wr.heap.size wr u → Calls Try.prog 26 #[.slice a ds.length cap, .int .i64 ((i : Int) + 1)] u fun e w' => e = .returned (.bool (hasB ds ((i : Int) + 1))) ∧ w' = u) := (show ∀ u, _ from fun u k => rhas_any a ds cap _ u (HW.out u (HUp.out.bel.trans (k.mono HUp.out.bel.size))).2 hdl)
            have ea := HUp.out.cell na hna
            have eb := HUp.out.cell nb hnb
            have fa := HUp.out.fz na
            have fb := HUp.out.fz nb
            cases hh : hasB ds ((i : Int) + 1)
            · have hnm : ((i : Int) + 1) ∉ ds := hasB_false.1 hh
              have HHf : Hid (∀ u, Below wr.heap.size wr u → Calls Try.prog 26 #[.slice a ds.length cap, .int .i64 ((i : Int) + 1)] u fun e w' => e = .returned (.bool false) ∧ w' = u) := (show ∀ u, _ from fun u k => by rw [← hh]; exact HHs.out u k)
              clear hh
              by_cases hc : G na = true ∨ G nb = true
              · have HN : Hid (∃ G', UpI w w.heap.size n G' ((wr.setCell ⟨w.heap.size, na, none⟩ (.bool true)).setCell ⟨w.heap.size, nb, none⟩ (.bool true)) ∧ Rn n l ds s' F (i + 1) G') := (show ∃ G', _ from ⟨_, (HUp.out.set (Nat.le_refl _) hna true).set (Nat.le_refl _) hnb true, HAd.out _ hb hnm (by simpa using hc) (fun j => by simp)⟩)
                have hc2 : (G na = true) ∨ (G na = false ∧ G nb = true) := by
                  cases hx : G na
                  · rw [hx] at hc; simp at hc; exact .inr ⟨rfl, hc⟩
                  · exact .inl rfl
                clear hc HSk HAd HHs hnm
                rcases hc2 with q1 | ⟨q1, q2⟩
                all_goals
                  rw [q1] at ea
                  try rw [q2] at eb
                  go_wp2_with (go_at_call 26; refine (HHf.out _ (by go_grown)).mono ?_; rintro r u ⟨rfl, rfl⟩)
                  go_roundw
                  case rel => exact ⟨i + 1, by omega, by go_num, (show ∃ G', _ from by
                    obtain ⟨G', k1, k2⟩ := HN.out
                    exact ⟨G', k1.grow (by go_grown), k2⟩)⟩
                  case measure => simp [intOf]; omega
              · have q1 : G na = false := by
                  cases hx : G na
                  · rfl
                  · exact absurd (.inl hx) hc
                have q2 : G nb = false := by
                  cases hx : G nb
                  · rfl
                  · exact absurd (.inr hx) hc
                have HN : Hid (Rn n l ds s' F (i + 1) G) := (show Rn _ _ _ _ _ _ _ from HSk.out (.inr (.inr (by simpa using ⟨q1, q2⟩))))
                rw [q1] at ea
                rw [q2] at eb
                clear hc HSk HAd HHs hnm
                go_wp2_with (go_at_call 26; refine (HHf.out _ (by go_grown)).mono ?_; rintro r u ⟨rfl, rfl⟩)
                go_roundw
                case rel => exact ⟨i + 1, by omega, by go_num, (show ∃ G', _ from ⟨G, HUp.out.grow (by go_grown), HN.out⟩)⟩
                case measure => simp [intOf]; omega
            · have HN : Hid (Rn n l ds s' F (i + 1) G) := (show Rn _ _ _ _ _ _ _ from HSk.out (.inr (.inl (hasB_true.1 hh))))
              have HHf : Hid (∀ u, Below wr.heap.size wr u → Calls Try.prog 26 #[.slice a ds.length cap, .int .i64 ((i : Int) + 1)] u fun e w' => e = .returned (.bool true) ∧ w' = u) := (show ∀ u, _ from fun u k => by rw [← hh]; exact HHs.out u k)
              clear hh HSk HAd HHs
              go_wp2_with (go_at_call 26; refine (HHf.out _ (by go_grown)).mono ?_; rintro r u ⟨rfl, rfl⟩)
              go_roundw
              case rel => exact ⟨i + 1, by omega, by go_num, (show ∃ G', _ from ⟨G, HUp.out.grow (by go_grown), HN.out⟩)⟩
              case measure => simp [intOf]; omega
          · have HN : Hid (Rn n l ds s' F (i + 1) G) := (show Rn _ _ _ _ _ _ _ from HSk.out (.inl hb))
            clear hbb a1 a2 HSk HAd
            go_wp2
            go_roundw
            case rel => exact ⟨i + 1, by omega, by go_num, (show ∃ G', _ from ⟨G, HUp.out.grow (by go_grown), HN.out⟩)⟩
            case measure => simp [intOf]; omega
        · have hil : i = l.length := by omega
          have HN : Hid (∃ G', UpI w w.heap.size n G' wr ∧ Ro n l ds s' (r + 1) G') := (show ∃ G', _ from ⟨G, HUp.out, Rn.done HG.out HRo.out (by rw [← hil]; exact HRn.out)⟩)
          clear hil hls
          go_wp2
          go_roundw
          case rel => exact ⟨r + 1, by omega, by go_num, HN⟩
          case measure => simp [intOf]; omega
    · have hrn : r = n := by omega
      have HRd : Hid (Rd n l ds (s' : Int) (listF F n)) := (show Rd _ _ _ _ _ by
        have := HRo.out
        rw [hrn] at this
        exact this.rd HG.out hs' hn)
      clear hrn HRo
      go_wp2_with fail
      clear c0
      obtain ⟨W3, hW3⟩ : ∃ W3, wr = W3 := ⟨_, rfl⟩
      rw [hW3] at HUp ⊢
      clear hW3
      go_loopw [11, 12] (fun v11 v12 wr => ∃ k : Nat, k ≤ n ∧ v12 = .int .i64 ((k : Int) + 1) ∧ Hid (PtI W3 v11 (listF F k) wr)) (fun _ v12 _ => n + 1 - (intOf v12).toNat)
      case atStart => exact ⟨0, Nat.zero_le _, rfl, (show PtI _ _ _ _ from ⟨World.ownsRow_nil _ _ _ _, Below.refl _ _⟩)⟩
      case round =>
        obtain ⟨k, hk, rfl, HK⟩ := hrel
        have HBw : Hid (Below w.heap.size w wr) := (show Below _ _ _ from HUp.out.bel.trans (HK.out.bel.mono HUp.out.bel.size))
        have c0 := (HW.out wr HBw.out).1.c0
        by_cases hlk : k < n
        · have ek : wr.cell? ⟨w.heap.size, k + 1, none⟩ = some (.bool (F (k + 1))) := (HUp.out.grow HK.out.bel).cell (k + 1) (by omega)
          have hk2 : k + 1 < n + 1 := by omega
          have HS : Hid (listF F (k + 1) = listF F k ++ if F (k + 1) = true then [(k : Int) + 1] else []) := listF_succ F k
          have HLe : Hid ((listF F k).length ≤ k) := (show _ ≤ _ by unfold listF; exact linked_le _ _)
          cases hF : F (k + 1)
          · rw [hF] at ek
            have HN : Hid (PtI W3 u11 (listF F (k + 1)) wr) := (show PtI _ _ _ _ by rw [HS.out, hF]; simpa using HK.out)
            clear hF HS
            go_wp2
            go_roundw
            case rel => exact ⟨k + 1, by omega, by go_num, HN⟩
            case measure => simp [intOf]; omega
          · rw [hF] at ek
            have HS2 : Hid (listF F (k + 1) = listF F k ++ [(k : Int) + 1]) := (show _ = _ by rw [HS.out, hF]; rfl)
            clear hF HS
            go_wp2_with (at_builtin; refine wpList_app1 rfl _ _ rfl W3.heap.size u11 (listF F k) rfl (own_below HK.out.own (by go_grown)) _ ((k : Int) + 1) rfl (by simp) (by have := HLe.out; omega) (by have := HK.out.bel.size; simp; omega) ?_; intro v' w2 ho2 hg2; have HN : Hid (PtI W3 v' (listF F (k + 1)) w2) := (show PtI _ _ _ _ by (rw [HS2.out]; exact HK.out.app (by go_grown) ho2 hg2)); clear ho2 hg2)
            go_roundw
            case rel => exact ⟨k + 1, by omega, by go_num, HN⟩
            case measure => simp [intOf]; omega
        · have hkn : k = n := by omega
          have HF : Hid (OwnI w.heap.size wr u11 (listF F n)) := (show OwnI _ _ _ _ by
            have := own_mono HK.out.own HUp.out.bel.size
            rw [hkn] at this
            exact this)
          clear hkn
          go_wp2
          go_ret
          exact ⟨_, _, rfl, HF.out, HRd.out, HBw.out⟩
end Go.Proofs.Ytcjojcaahpkacaa

/-
  The document's Decode: what it answers, as a contract.
-/
import Derived.Test.YtjmnnjhaiecglaaDoorRdL
import Derived.Test.YtjmnnjhaiecglaaDoorRefN
import Derived.Test.YtjmnnjhaiecglaaDoorRefB
namespace Go.Proofs.YtjmnnjhaiecglaaDoor
open Go.ChangeShapes Go.WideShapes Go.ChangeAt Go.RowKit
set_option linter.unusedSimpArgs false

/-- What the end of Decode answers, by what was read. -/
def Fin (w : World) (Y : ByteArray) (p : Int) (R : Option (List T)) (e : Ending) (w' : World) : Prop :=
  (R = none → Nope w 11 e w') ∧ ∀ L, R = some L → (¬ (rightE L = 0 ∧ encS L = Y) → Nope w 11 e w') ∧
    (rightE L = 0 ∧ encS L = Y → ∃ a cap, e = .returned (.tuple #[.slice a L.length cap, .int .i64 p, .int .i64 0]) ∧ Ts w' a L ∧ Below w.heap.size w w')
theorem Fin.bad {w : World} {Y : ByteArray} {p : Int} {R : Option (List T)} {e : Ending} {w' : World} (hR : R = none) (h : Nope w 11 e w') : Fin w Y p R e w' :=
  ⟨fun _ => h, fun L hL => by rw [hR] at hL; cases hL⟩
theorem Fin.no {w : World} {Y : ByteArray} {p : Int} {R : Option (List T)} {L : List T} {e : Ending} {w' : World} (hR : R = some L) (hn : ¬ (rightE L = 0 ∧ encS L = Y)) (h : Nope w 11 e w') : Fin w Y p R e w' :=
  ⟨fun _ => h, fun L' hL => by rw [hR] at hL; cases hL; exact ⟨fun _ => h, fun hy => absurd hy hn⟩⟩
theorem Fin.yes {w : World} {Y : ByteArray} {p : Int} {R : Option (List T)} {L : List T} {e : Ending} {w' : World} (hR : R = some L) (hy : rightE L = 0 ∧ encS L = Y) (h : ∃ a cap, e = .returned (.tuple #[.slice a L.length cap, .int .i64 p, .int .i64 0]) ∧ Ts w' a L ∧ Below w.heap.size w w') : Fin w Y p R e w' :=
  ⟨fun hN => absurd (hR.symm.trans hN) (by simp), fun L' hL => by rw [hR] at hL; cases hL; exact ⟨fun hn => absurd hy hn, fun _ => h⟩⟩
theorem idxS (q : ByteArray) (i : Nat) (h : i < q.size) (w : World) : (Instr.index 9 (.string q) (.int .i64 i)).run Tryd.prog w = .ok (.int .u8 (byteAt q i)) w := by
  have hl : i < q.data.toList.length := by simpa using h
  have e : byteAt q i = ((q[i]).toNat : Int) := by
    unfold byteAt
    rw [List.getD_eq_getElem?_getD, List.getElem?_eq_getElem hl]
    rfl
  rw [e]
  have h0 : (0 : Int) ≤ (i : Int) := by omega
  simp [go_sem, run_index_string, Tryd.underlying9, h]
theorem slice_l (s : ByteArray) (j : Int) (h0 : 0 ≤ j) (h2 : j ≤ s.size) (w : World) : (Instr.slice 9 (.string s) (some (.int .i64 j)) none none).run Tryd.prog w = .ok (.string (s.extract j.toNat s.size)) w :=
  by rw [run_slice_string_l (ht := Tryd.underlying9) (h0 := h0) (h1 := h2)]
theorem ts_own {w : World} {base : Nat} {a : Option Addr} {l : List T} {cap : Nat} (h : w.ownsRow base 47 3 (.slice a l.length cap) l.length (flat l)) : Ts w a l := by
  rcases h.2 with ⟨_, h'⟩ | ⟨g, cap', cur, hv, _⟩
  · exact .inl (List.length_eq_zero_iff.1 h')
  · simp only [Value.slice.injEq] at hv
    obtain ⟨rfl, _, rfl⟩ := hv
    have hlt2 := (h.lt g rfl).2
    refine .inr ⟨g, 0, rfl, hlt2, fun i hi => ?_⟩
    obtain ⟨x0, x1, x2⟩ := flat_at l i hi
    refine ⟨?_, ?_, ?_⟩
    · rw [show 0 + i * 3 = i * 3 by omega, h.cellAt (i * 3) (by omega)]; exact x0
    · rw [show 0 + i * 3 + 1 = i * 3 + 1 by omega, h.cellAt (i * 3 + 1) (by omega)]; exact x1
    · rw [show 0 + i * 3 + 2 = i * 3 + 2 by omega, h.cellAt (i * 3 + 2) (by omega)]; exact x2
theorem own_slice {w : World} {base : Nat} {e : TypeId} {size : Nat} {v : Value} {n : Nat} {xs : List Value} (h : w.ownsRow base e size v n xs) : ∃ a cap, v = .slice a n cap := by
  rcases h.2 with ⟨rfl, h'⟩ | ⟨g, cap, cur, rfl, _⟩
  · exact ⟨none, 0, by rw [h']⟩
  · exact ⟨_, cap, rfl⟩
theorem below_grown {a b : World} (g : Below a.heap.size a b) : a.grownBy b none := ⟨g.os, g.tape, g.output, g.size, fun k hk _ => g.block k hk⟩
theorem owns_below {a b : World} {base : Nat} {e : TypeId} {size : Nat} {v : Value} {n : Nat} {xs : List Value} (h : a.ownsRow base e size v n xs) (g : Below a.heap.size a b) : b.ownsRow base e size v n xs :=
  h.kept (below_grown g) (by cases v.ownBlock <;> simp)
theorem num_raw (B C : ByteArray) (h : B.size = 2) : (⟨B ++ C, 0⟩ : RS).num 2 = numOf B.data.toList := by
  have hle : (2 : Int) ≤ ((B ++ C).size : Int) := by rw [ByteArray.size_append]; omega
  have hs : szB 2 = true := by decide
  have e : (B ++ C).extract 0 2 = B := by
    have := extract_left B C
    rwa [h] at this
  unfold RS.num numV takeV
  simp only [hs, hle, and_self, if_true]
  rw [show Int.toNat 2 = 2 from rfl, e]
theorem split3 (s : ByteArray) (h : 4 ≤ s.size) : s = s.extract 0 2 ++ (s.extract 2 4 ++ s.extract 4 s.size) := by
  apply ba_ext
  simp only [ByteArray.data_append, ByteArray.data_extract, Array.toList_append, Array.toList_extract]
  rw [List.extract_eq_take_drop, List.extract_eq_take_drop, List.extract_eq_take_drop]
  have hl : s.data.toList.length = s.size := by simp
  generalize s.data.toList = l at *
  match l, hl with
  | a :: b :: c :: d :: r, hl =>
    simp
    rw [List.take_of_length_le (by simp at hl; omega)]
  | [], hl => simp at hl; omega
  | [_], hl => simp at hl; omega
  | [_, _], hl => simp at hl; omega
  | [_, _, _], hl => simp at hl; omega
theorem said_num (s : ByteArray) (h : 4 ≤ s.size) : numOf (s.extract 2 4).data.toList = saidV s := by
  have e := split3 s h
  have h0 : (s.extract 0 2).size = 2 := by rw [ByteArray.size_extract]; omega
  have h2 : (s.extract 2 4).size = 2 := by rw [ByteArray.size_extract]; omega
  unfold saidV
  have e1 : ((⟨s, 0⟩ : RS).skip 2) = ⟨s.extract 2 4 ++ s.extract 4 s.size, 0⟩ := by
    have := skip_ap (s.extract 0 2) (s.extract 2 4 ++ s.extract 4 s.size) 2 h0 (by decide)
    rw [← e] at this
    exact this
  rw [e1, num_raw _ _ h2]
set_option maxRecDepth 20000 in
set_option maxHeartbeats 16000000 in
theorem rdec_main (s : ByteArray) (w : World) (hs : s.size ≤ 1000) (h : 4 ≤ s.size) (h2 : padV (saidV s) ≤ s.size) (h3 : 4 ≤ saidV s) :
    Calls Tryd.prog 24 #[.string s] w (Fin w (s.extract 0 (padV (saidV s)).toNat) (padV (saidV s)) (rdL 10 [] (s.extract 4 (saidV s).toNat))) := by
  have hpz := padV_ge (saidV s)
  obtain ⟨z0, z1⟩ := saidV_lt s
  have HN0 : Hid (∀ w, Calls Tryd.prog 41 #[.string (s.extract 2 4)] w fun e w' => e = .returned (.int .u64 (saidV s)) ∧ w' = w) := fun w => by
    have := rnum_any (s.extract 2 4) w (by rw [ByteArray.size_extract]; omega)
    rwa [said_num s h] at this
  have hpd : padV (saidV s) = (saidV s + 7) / 8 * 8 := rfl
  rw [hpd] at hpz h2 ⊢
  clear hpd
  have sl0 : ∀ w, (Instr.slice 9 (.string s) (some (.int .i64 2)) (some (.int .i64 4)) none).run Tryd.prog w = .ok (.string (s.extract 2 4)) w := fun w => slice_lh s 2 4 (by omega) (by omega) (by omega) w
  have sl1 : ∀ w, (Instr.slice 9 (.string s) (some (.int .i64 4)) (some (.int .i64 (saidV s))) none).run Tryd.prog w = .ok (.string (s.extract 4 (saidV s).toNat)) w := fun w => slice_lh s 4 _ (by omega) h3 (by omega) w
  have sl2 : ∀ w, (Instr.slice 9 (.string s) none (some (.int .i64 ((saidV s + 7) / 8 * 8))) none).run Tryd.prog w = .ok (.string (s.extract 0 ((saidV s + 7) / 8 * 8).toNat)) w := fun w => slice_h s _ (by omega) h2 w
  have hX : (s.extract 4 (saidV s).toNat).size ≤ 1000 := by rw [ByteArray.size_extract]; omega
  generalize s.extract 4 (saidV s).toNat = X at *
  generalize s.extract 0 ((saidV s + 7) / 8 * 8).toNat = Y at *
  generalize s.extract 2 4 = X0 at *
  generalize saidV s = z at *
  have h' : ¬ ((s.size : Int) < 4) := by omega
  have h3' : ¬ (z < 4) := by omega
  generalize hR : rdL 10 [] X = R
  obtain ⟨i0, hi, hz0, hz1, hz2⟩ := info_parts infoT
  have HNm : Hid (∀ c w, Calls Tryd.prog 42 #[.int .i64 c] w fun e w' => e = .returned (.int .i64 (fieldV c)) ∧ Below w.heap.size w w') := fun c w => rnamed_any c w
  have HSz : Hid (∀ f w, Calls Tryd.prog 43 #[.int .i64 f] w fun e w' => e = .returned (.int .i64 (szV f)) ∧ Below w.heap.size w w') := fun f w => rsize_any f w
  have HAl : Hid (∀ f w, Calls Tryd.prog 27 #[.int .i64 f] w fun e w' => e = .returned (.int .u64 (grV f)) ∧ Below w.heap.size w w') := fun f w => rall_any f w
  have HNu : Hid (∀ q w, q.size ≤ 1000 → Calls Tryd.prog 41 #[.string q] w fun e w' => e = .returned (.int .u64 (numOf q.data.toList)) ∧ w' = w) := fun q w hq => rnum_any q w (by omega)
  have HRi : Hid (∀ a (l : List T) cap w, Ts w a l → l.length ≤ 10 → TWs l → Calls Tryd.prog 10 #[.slice a l.length cap] w fun e w' => e = .returned (.int .i64 (rightE l)) ∧ Below w.heap.size w w') := fun a l cap w h hl hw => by
    have := rright_any a l cap w h (by omega)
    rwa [rright_eq l [] hw (by simp [Rises])] at this
  have HBy : Hid (∀ a (l : List T) cap w, Ts w a l → l.length ≤ 10 → TWs l → rightE l = 0 → Calls Tryd.prog 38 #[.slice a l.length cap] w fun e w' => e = .returned (.string (encS l)) ∧ Below w.heap.size w w') := fun a l cap w h hl hw hr => rbytes_any a l cap w h (by omega) hw hr
  go_enter Tryd.func24, Tryd.ntmps24
  go_wp2_with fail
  refine (HN0.out _).mono ?_
  rintro x w1 ⟨rfl, rfl⟩
  go_wp2_with fail
  go_loopw [7, 8] (fun v u wr => ∃ (l : List T) (q : ByteArray), rdL (10 - l.length) l q = R ∧ l.length ≤ 10 ∧ TWs l ∧ q.size ≤ 1000 ∧ u = .string q ∧ wr.ownsRow w1.heap.size 47 3 v l.length (flat l) ∧ Below w1.heap.size w1 wr) (fun _ u _ => strSize u)
  case atStart => exact ⟨[], X, hR, by simp, by simp, hX, rfl, World.ownsRow_nil _ _ _ _, Below.refl _ _⟩
  case round =>
    obtain ⟨l, q, hr, hll, hlw, hqs, rfl, hown, hbel⟩ := hrel
    obtain ⟨a7, cap7, rfl⟩ := own_slice hown
    by_cases c4 : 4 ≤ q.size ∧ l.length < 10
    · obtain ⟨c4, c10⟩ := c4
      have d4 : (q.size : Int) ≥ 4 := by omega
      have d10 : (l.length : Int) < 10 := by omega
      obtain ⟨m, hm⟩ : ∃ m, 10 - l.length = m + 1 := ⟨9 - l.length, by omega⟩
      have hgo := rdL_good m l q c4
      have hba := rdL_bad m l q c4
      rw [← hm, hr] at hgo hba
      have i2 := idxS q 2 (by omega)
      have i3 := idxS q 3 (by omega)
      obtain ⟨H0, H1⟩ := byteAt_lt q 2
      obtain ⟨B0, B1⟩ := byteAt_lt q 3
      simp only [Int.cast_ofNat_Int] at i2 i3
      have hn8 : rdN q ≤ 8 := szV_le _
      have HNm1 : Hid (∀ w, Calls Tryd.prog 42 #[.int .i64 (byteAt q 2 / 2)] w fun e w' => e = .returned (.int .i64 (rdF q)) ∧ Below w.heap.size w w') := fun w => HNm.out _ w
      have HSz1 : Hid (∀ w, Calls Tryd.prog 43 #[.int .i64 (rdF q)] w fun e w' => e = .returned (.int .i64 (rdN q)) ∧ Below w.heap.size w w') := fun w => HSz.out _ w
      have HAl1 : Hid (∀ w, Calls Tryd.prog 27 #[.int .i64 (rdF q)] w fun e w' => e = .returned (.int .u64 (grV (rdF q))) ∧ Below w.heap.size w w') := fun w => HAl.out _ w
      clear HNm HSz HAl
      cases hodd : (byteAt q 2 % 2 == 1)
      · have hp : ¬ byteAt q 2 % 2 = 1 := by simpa using hodd
        have eL : rdLong q = rdN q := by unfold rdLong; rw [if_neg hp]
        have HT : Hid (rdT q = (rdF q, rdV q, grV (rdF q))) := (show _ = _ by unfold rdT; rw [if_neg hp])
        clear hp
        cases f0 : (rdF q == 0)
        · cases b3 : (byteAt q 3 != ((rdN q : Int)))
          · by_cases s4 : q.size < 4 + rdLong q
            · have HRn : Hid (R = none) := hba (by unfold rdBad; rw [decide_eq_true s4]; simp)
              rw [eL] at s4
              have s4' : (q.size : Int) < 4 + (rdN q : Int) := by omega
              clear hgo hba HT eL s4
              generalize rdF q = f at *
              generalize rdN q = n at *
              generalize byteAt q 2 = H at *
              generalize byteAt q 3 = B at *
              go_wp2_with fail
              refine (HNm1.out _).mono ?_
              rintro x w2 ⟨rfl, g2⟩
              go_wp2_with fail
              refine (HSz1.out _).mono ?_
              rintro x w3 ⟨rfl, g3⟩
              have g3 := btr (btr hbel g2 (Nat.le_refl _)) g3 (Nat.le_refl _)
              go_wp2_with fail
              go_ret3
              exact Fin.bad HRn.out ⟨rfl, g3⟩
            · have hgd : rdBad q = false := by
                unfold rdBad
                rw [f0, decide_eq_false s4, eL]
                have : (byteAt q 3 != ((rdN q : Nat) : Int)) = false := by simpa using b3
                rw [this]; rfl
              have HG : Hid (rdL m (l ++ [rdT q]) (rdRest q) = R) := (hgo hgd).symm
              have hres : (rdRest q).size ≤ q.size - 4 := by unfold rdRest; rw [ByteArray.size_extract]; omega
              have hrz : Hid ((rdRest q).size < q.size) := (show _ < _ by omega)
              have hrq : Hid ((rdRest q).size ≤ 1000) := (show _ ≤ _ by omega)
              have HTw : Hid (TW (rdT q)) := rdT_w q
              clear hba hgo hgd hres
              rw [eL] at s4
              have s4' : ¬ ((q.size : Int) < 4 + (rdN q : Int)) := by omega
              have sq1 : ∀ w, (Instr.slice 9 (.string q) (some (.int .i64 4)) (some (.int .i64 (4 + (rdN q : Int)))) none).run Tryd.prog w = .ok (.string (q.extract 4 (4 + rdN q))) w := fun w => by
                have := slice_lh q 4 (4 + (rdN q : Int)) (by omega) (by omega) (by omega) w
                rwa [show (4 + (rdN q : Int)).toNat = 4 + rdN q by omega, show Int.toNat 4 = 4 from rfl] at this
              have HV : Hid (∀ w, Calls Tryd.prog 41 #[.string (q.extract 4 (4 + rdN q))] w fun e w' => e = .returned (.int .u64 (rdV q)) ∧ w' = w) := fun w => HNu.out _ w (by rw [ByteArray.size_extract]; omega)
              have sq3 : ∀ w, (Instr.slice 9 (.string q) (some (.int .i64 (4 + (rdN q : Int)))) none none).run Tryd.prog w = .ok (.string (rdRest q)) w := fun w => by
                have := slice_l q (4 + (rdN q : Int)) (by omega) (by omega) w
                rw [show (4 + (rdN q : Int)).toNat = 4 + rdLong q by rw [eL]; omega] at this
                exact this
              have HM10 : Hid (m = 10 - (l.length + 1)) := (show _ = _ by omega)
              clear eL s4 hm hr hR
              generalize q.extract 4 (4 + rdN q) = Q1 at *
              generalize rdV q = V at *
              generalize rdRest q = Q3 at *
              generalize rdT q = tt at *
              generalize rdF q = f at *
              generalize rdN q = n at *
              generalize byteAt q 2 = H at *
              generalize byteAt q 3 = B at *
              generalize grV f = G at *
              go_wp2_with fail
              refine (HNm1.out _).mono ?_
              rintro x w2 ⟨rfl, g2⟩
              have own2 := owns_below hown g2
              go_wp2_with fail
              refine (HSz1.out _).mono ?_
              rintro x w3 ⟨rfl, g3'⟩
              have own3 := owns_below own2 g3'
              have g3 := btr (btr hbel g2 (Nat.le_refl _)) g3' (Nat.le_refl _)
              clear g2 g3' own2 hown hbel
              go_wp2_with fail
              refine (HV.out _).mono ?_
              rintro x w3' ⟨rfl, rfl⟩
              go_wp2_with fail
              refine (HAl1.out _).mono ?_
              rintro x w4 ⟨rfl, g4'⟩
              have own4 := owns_below own3 g4'
              have g4 := btr g3 g4' (Nat.le_refl _)
              clear own3 g3 g4'
              go_wp2_with (at_builtin; refine wpList_append_own _ rfl _ _ 22 rfl w1.heap.size 47 i0 (.agg #[.int .i64 0, .int .u64 0, .int .u64 0]) 3 24 Tryd.underlying22 hi hz0 hz1 hz2 rfl (by decide) _ l.length (flat l) rfl (owns_below own4 (by go_grown)) _ 1 1 [.int .i64 f, .int .u64 V, .int .u64 G] rfl rfl ?c1 ?c2 ?c3 ?c4 ?c5 ?_)
              case c1 =>
                intro j u hj
                match j, hj with
                | 0, hj => simp at hj; subst hj; simp [Addr.add]
                | 1, hj => simp at hj; subst hj; simp [Addr.add]
                | 2, hj => simp at hj; subst hj; simp [Addr.add]
              case c2 => intro u hu; simp at hu; rcases hu with rfl | rfl | rfl <;> rfl
              case c3 => unfold maxLen; omega
              case c4 => omega
              case c5 => have := g4.size; simp; omega
              · intro v' w6 hown' hgrow _
                have htt := HT.out
                have R1 : w6.ownsRow w1.heap.size 47 3 v' (l ++ [tt]).length (flat (l ++ [tt])) := by
                  rw [flat_snoc, List.length_append, htt]
                  exact hown'
                have R2 : Below w1.heap.size w1 w6 := (btr g4 (by go_grown) (Nat.le_refl _)).grown hgrow (by have := g4.size; simp; omega) (fun q hq => (own4.lt q hq).1)
                have R3 : Hid (TWs (l ++ [tt])) := by
                  intro t ht
                  rcases List.mem_append.1 ht with ht | ht
                  · exact hlw t ht
                  · simp at ht
                    subst ht
                    exact HTw.out
                have R4 : Hid (rdL (10 - (l ++ [tt]).length) (l ++ [tt]) Q3 = R) := (show _ = _ by rw [List.length_append, List.length_singleton, ← HM10.out]; exact HG.out)
                clear hown' hgrow own4 g4
                go_wp2
                go_roundw
                case rel => exact ⟨l ++ [tt], Q3, R4.out, by rw [List.length_append, List.length_singleton]; omega, R3.out, hrq.out, rfl, R1, R2⟩
                case measure => exact hrz.out
          · have HRn : Hid (R = none) := hba (by unfold rdBad; rw [eL]; (have b3' : (byteAt q 3 != ((rdN q : Nat) : Int)) = true := by simpa using b3); rw [b3']; simp)
            clear hgo hba HT eL
            generalize rdF q = f at *
            generalize rdN q = n at *
            generalize byteAt q 2 = H at *
            generalize byteAt q 3 = B at *
            go_wp2_with fail
            refine (HNm1.out _).mono ?_
            rintro x w2 ⟨rfl, g2⟩
            go_wp2_with fail
            refine (HSz1.out _).mono ?_
            rintro x w3 ⟨rfl, g3⟩
            have g3 := btr (btr hbel g2 (Nat.le_refl _)) g3 (Nat.le_refl _)
            go_wp2_with fail
            go_ret3
            exact Fin.bad HRn.out ⟨rfl, g3⟩
        · have HRn : Hid (R = none) := hba (by unfold rdBad; rw [f0]; simp)
          clear hgo hba HT eL
          generalize rdF q = f at *
          generalize rdN q = n at *
          generalize byteAt q 2 = H at *
          generalize byteAt q 3 = B at *
          go_wp2_with fail
          refine (HNm1.out _).mono ?_
          rintro x w2 ⟨rfl, g2⟩
          go_wp2_with fail
          refine (HSz1.out _).mono ?_
          rintro x w3 ⟨rfl, g3⟩
          have g3 := btr (btr hbel g2 (Nat.le_refl _)) g3 (Nat.le_refl _)
          go_wp2_with fail
          go_ret3
          exact Fin.bad HRn.out ⟨rfl, g3⟩
      · have hp : byteAt q 2 % 2 = 1 := by simpa using hodd
        have eL : rdLong q = 2 * rdN q := by unfold rdLong; rw [if_pos hp]
        have HT : Hid (rdT q = (rdF q, rdV q, rdM q)) := (show _ = _ by unfold rdT; rw [if_pos hp])
        clear hp
        cases f0 : (rdF q == 0)
        · cases b3 : (byteAt q 3 != (2 * (rdN q : Int)))
          · by_cases s4 : q.size < 4 + rdLong q
            · have HRn : Hid (R = none) := hba (by unfold rdBad; rw [decide_eq_true s4]; simp)
              rw [eL] at s4
              have s4' : (q.size : Int) < 4 + 2 * (rdN q : Int) := by omega
              clear hgo hba HT eL s4
              generalize rdF q = f at *
              generalize rdN q = n at *
              generalize byteAt q 2 = H at *
              generalize byteAt q 3 = B at *
              go_wp2_with fail
              refine (HNm1.out _).mono ?_
              rintro x w2 ⟨rfl, g2⟩
              go_wp2_with fail
              refine (HSz1.out _).mono ?_
              rintro x w3 ⟨rfl, g3⟩
              have g3 := btr (btr hbel g2 (Nat.le_refl _)) g3 (Nat.le_refl _)
              go_wp2_with fail
              go_ret3
              exact Fin.bad HRn.out ⟨rfl, g3⟩
            · have hgd : rdBad q = false := by
                unfold rdBad
                rw [f0, decide_eq_false s4, eL]
                have : (byteAt q 3 != ((2 * rdN q : Nat) : Int)) = false := by simpa using b3
                rw [this]; rfl
              have HG : Hid (rdL m (l ++ [rdT q]) (rdRest q) = R) := (hgo hgd).symm
              have hres : (rdRest q).size ≤ q.size - 4 := by unfold rdRest; rw [ByteArray.size_extract]; omega
              have hrz : Hid ((rdRest q).size < q.size) := (show _ < _ by omega)
              have hrq : Hid ((rdRest q).size ≤ 1000) := (show _ ≤ _ by omega)
              have HTw : Hid (TW (rdT q)) := rdT_w q
              clear hba hgo hgd hres
              rw [eL] at s4
              have s4' : ¬ ((q.size : Int) < 4 + 2 * (rdN q : Int)) := by omega
              have sq1 : ∀ w, (Instr.slice 9 (.string q) (some (.int .i64 4)) (some (.int .i64 (4 + (rdN q : Int)))) none).run Tryd.prog w = .ok (.string (q.extract 4 (4 + rdN q))) w := fun w => by
                have := slice_lh q 4 (4 + (rdN q : Int)) (by omega) (by omega) (by omega) w
                rwa [show (4 + (rdN q : Int)).toNat = 4 + rdN q by omega, show Int.toNat 4 = 4 from rfl] at this
              have HV : Hid (∀ w, Calls Tryd.prog 41 #[.string (q.extract 4 (4 + rdN q))] w fun e w' => e = .returned (.int .u64 (rdV q)) ∧ w' = w) := fun w => HNu.out _ w (by rw [ByteArray.size_extract]; omega)
              have sq3 : ∀ w, (Instr.slice 9 (.string q) (some (.int .i64 (4 + 2 * (rdN q : Int)))) none none).run Tryd.prog w = .ok (.string (rdRest q)) w := fun w => by
                have := slice_l q (4 + 2 * (rdN q : Int)) (by omega) (by omega) w
                rw [show (4 + 2 * (rdN q : Int)).toNat = 4 + rdLong q by rw [eL]; omega] at this
                exact this
              have sq2 : ∀ w, (Instr.slice 9 (.string q) (some (.int .i64 (4 + (rdN q : Int)))) (some (.int .i64 (4 + 2 * (rdN q : Int)))) none).run Tryd.prog w = .ok (.string (q.extract (4 + rdN q) (4 + 2 * rdN q))) w := fun w => by
                have := slice_lh q (4 + (rdN q : Int)) (4 + 2 * (rdN q : Int)) (by omega) (by omega) (by omega) w
                rwa [show (4 + (rdN q : Int)).toNat = 4 + rdN q by omega, show (4 + 2 * (rdN q : Int)).toNat = 4 + 2 * rdN q by omega] at this
              have HM : Hid (∀ w, Calls Tryd.prog 41 #[.string (q.extract (4 + rdN q) (4 + 2 * rdN q))] w fun e w' => e = .returned (.int .u64 (rdM q)) ∧ w' = w) := fun w => HNu.out _ w (by rw [ByteArray.size_extract]; omega)
              generalize q.extract (4 + rdN q) (4 + 2 * rdN q) = Q2 at *
              generalize rdM q = M at *
              have HM10 : Hid (m = 10 - (l.length + 1)) := (show _ = _ by omega)
              clear eL s4 hm hr hR
              generalize q.extract 4 (4 + rdN q) = Q1 at *
              generalize rdV q = V at *
              generalize rdRest q = Q3 at *
              generalize rdT q = tt at *
              generalize rdF q = f at *
              generalize rdN q = n at *
              generalize byteAt q 2 = H at *
              generalize byteAt q 3 = B at *
              generalize grV f = G at *
              go_wp2_with fail
              refine (HNm1.out _).mono ?_
              rintro x w2 ⟨rfl, g2⟩
              have own2 := owns_below hown g2
              go_wp2_with fail
              refine (HSz1.out _).mono ?_
              rintro x w3 ⟨rfl, g3'⟩
              have own3 := owns_below own2 g3'
              have g3 := btr (btr hbel g2 (Nat.le_refl _)) g3' (Nat.le_refl _)
              clear g2 g3' own2 hown hbel
              go_wp2_with fail
              refine (HV.out _).mono ?_
              rintro x w3' ⟨rfl, rfl⟩
              go_wp2_with fail
              refine (HAl1.out _).mono ?_
              rintro x w4 ⟨rfl, g4'⟩
              have own4 := owns_below own3 g4'
              have g4 := btr g3 g4' (Nat.le_refl _)
              clear own3 g3 g4'
              go_wp2_with fail
              refine (HM.out _).mono ?_
              rintro x w5 ⟨rfl, rfl⟩
              go_wp2_with (at_builtin; refine wpList_append_own _ rfl _ _ 22 rfl w1.heap.size 47 i0 (.agg #[.int .i64 0, .int .u64 0, .int .u64 0]) 3 24 Tryd.underlying22 hi hz0 hz1 hz2 rfl (by decide) _ l.length (flat l) rfl (owns_below own4 (by go_grown)) _ 1 1 [.int .i64 f, .int .u64 V, .int .u64 M] rfl rfl ?c1 ?c2 ?c3 ?c4 ?c5 ?_)
              case c1 =>
                intro j u hj
                match j, hj with
                | 0, hj => simp at hj; subst hj; simp [Addr.add]
                | 1, hj => simp at hj; subst hj; simp [Addr.add]
                | 2, hj => simp at hj; subst hj; simp [Addr.add]
              case c2 => intro u hu; simp at hu; rcases hu with rfl | rfl | rfl <;> rfl
              case c3 => unfold maxLen; omega
              case c4 => omega
              case c5 => have := g4.size; simp; omega
              · intro v' w6 hown' hgrow _
                have htt := HT.out
                have R1 : w6.ownsRow w1.heap.size 47 3 v' (l ++ [tt]).length (flat (l ++ [tt])) := by
                  rw [flat_snoc, List.length_append, htt]
                  exact hown'
                have R2 : Below w1.heap.size w1 w6 := (btr g4 (by go_grown) (Nat.le_refl _)).grown hgrow (by have := g4.size; simp; omega) (fun q hq => (own4.lt q hq).1)
                have R3 : Hid (TWs (l ++ [tt])) := by
                  intro t ht
                  rcases List.mem_append.1 ht with ht | ht
                  · exact hlw t ht
                  · simp at ht
                    subst ht
                    exact HTw.out
                have R4 : Hid (rdL (10 - (l ++ [tt]).length) (l ++ [tt]) Q3 = R) := (show _ = _ by rw [List.length_append, List.length_singleton, ← HM10.out]; exact HG.out)
                clear hown' hgrow own4 g4
                go_wp2
                go_roundw
                case rel => exact ⟨l ++ [tt], Q3, R4.out, by rw [List.length_append, List.length_singleton]; omega, R3.out, hrq.out, rfl, R1, R2⟩
                case measure => exact hrz.out
          · have HRn : Hid (R = none) := hba (by unfold rdBad; rw [eL]; (have b3' : (byteAt q 3 != ((2 * rdN q : Nat) : Int)) = true := by simpa using b3); rw [b3']; simp)
            clear hgo hba HT eL
            generalize rdF q = f at *
            generalize rdN q = n at *
            generalize byteAt q 2 = H at *
            generalize byteAt q 3 = B at *
            go_wp2_with fail
            refine (HNm1.out _).mono ?_
            rintro x w2 ⟨rfl, g2⟩
            go_wp2_with fail
            refine (HSz1.out _).mono ?_
            rintro x w3 ⟨rfl, g3⟩
            have g3 := btr (btr hbel g2 (Nat.le_refl _)) g3 (Nat.le_refl _)
            go_wp2_with fail
            go_ret3
            exact Fin.bad HRn.out ⟨rfl, g3⟩
        · have HRn : Hid (R = none) := hba (by unfold rdBad; rw [f0]; simp)
          clear hgo hba HT eL
          generalize rdF q = f at *
          generalize rdN q = n at *
          generalize byteAt q 2 = H at *
          generalize byteAt q 3 = B at *
          go_wp2_with fail
          refine (HNm1.out _).mono ?_
          rintro x w2 ⟨rfl, g2⟩
          go_wp2_with fail
          refine (HSz1.out _).mono ?_
          rintro x w3 ⟨rfl, g3⟩
          have g3 := btr (btr hbel g2 (Nat.le_refl _)) g3 (Nat.le_refl _)
          go_wp2_with fail
          go_ret3
          exact Fin.bad HRn.out ⟨rfl, g3⟩
    · have hRl : R = some l := by
        rw [← hr]
        by_cases c4' : 4 ≤ q.size
        · have : 10 - l.length = 0 := by omega
          rw [this]; rfl
        · exact rdL_short _ _ _ c4'
      have hTl := ts_own hown
      have hTn : ∀ n : GrT wr, Ts n.w a7 l := fun n => hTl.gr n
      have d4 : ¬ (q.size : Int) ≥ 4 ∨ (q.size : Int) ≥ 4 ∧ ¬ (l.length : Int) < 10 := by omega
      clear hr c4 hR hX
      rcases d4 with d4 | ⟨d4, d10⟩
      all_goals
        by_cases hr0 : rightE l = 0
        · have HR1 : Hid (∀ w, Ts w a7 l → Calls Tryd.prog 10 #[.slice a7 l.length cap7] w fun e w' => e = .returned (.int .i64 0) ∧ Below w.heap.size w w') := fun w h => hr0 ▸ HRi.out a7 l cap7 w h hll hlw
          have HB1 : Hid (∀ w, Ts w a7 l → Calls Tryd.prog 38 #[.slice a7 l.length cap7] w fun e w' => e = .returned (.string (encS l)) ∧ Below w.heap.size w w') := fun w h => HBy.out a7 l cap7 w h hll hlw hr0
          by_cases he : encS l = Y
          · have hqq : (!(encS l).toList == Y.toList) = false := by rw [he]; simp
            have HY : Hid (R = some l ∧ (rightE l = 0 ∧ encS l = Y)) := ⟨hRl, hr0, he⟩
            clear he hRl hr0
            generalize encS l = E at HB1 hqq
            go_wp2_with fail
            refine wp_region_grow (by kernel_rfl) (by kernel_rfl) ?_
            repeat (go_big_quiet_step (first | (go_at_call 10; exact quiet_gr (HR1.out _ (hTn _))) | (go_at_call 38; exact quiet_gr (HB1.out _ (hTn _)))))
            refine wpQuiet_nil ?_
            rintro w2 hw'
            have g2 := gr_elim hw'
            clear hw'
            try rw [hqq]
            go_wp2_with fail
            go_ret3
            exact Fin.yes HY.out.1 HY.out.2 ⟨a7, cap7, rfl, hTl.below g2, btr hbel g2 (Nat.le_refl _)⟩
          · have hqq : (!(encS l).toList == Y.toList) = true := by
              rw [Bool.not_eq_true', beq_eq_false_iff_ne]
              intro hh
              apply he
              apply ba_ext
              rw [← ByteArray.toList_eq, ← ByteArray.toList_eq]
              exact hh
            have HY : Hid (R = some l ∧ ¬ (rightE l = 0 ∧ encS l = Y)) := ⟨hRl, fun hh => he hh.2⟩
            clear he hRl hr0
            generalize encS l = E at HB1 hqq
            go_wp2_with fail
            refine wp_region_grow (by kernel_rfl) (by kernel_rfl) ?_
            repeat (go_big_quiet_step (first | (go_at_call 10; exact quiet_gr (HR1.out _ (hTn _))) | (go_at_call 38; exact quiet_gr (HB1.out _ (hTn _)))))
            refine wpQuiet_nil ?_
            rintro w2 hw'
            have g2 := gr_elim hw'
            clear hw'
            try rw [hqq]
            go_wp2_with fail
            go_ret3
            exact Fin.no HY.out.1 HY.out.2 ⟨rfl, btr hbel g2 (Nat.le_refl _)⟩
        · have HR1 : Hid (∀ w, Ts w a7 l → Calls Tryd.prog 10 #[.slice a7 l.length cap7] w fun e w' => e = .returned (.int .i64 (rightE l)) ∧ Below w.heap.size w w') := fun w h => HRi.out a7 l cap7 w h hll hlw
          have hrb : (rightE l != 0) = true := by simpa using hr0
          have HY : Hid (R = some l ∧ ¬ (rightE l = 0 ∧ encS l = Y)) := ⟨hRl, fun hh => hr0 hh.1⟩
          clear hRl hr0
          generalize rightE l = E at HR1 hrb
          go_wp2_with fail
          refine wp_region_grow (by kernel_rfl) (by kernel_rfl) ?_
          repeat (go_big_quiet_step (first | (go_at_call 10; exact quiet_gr (HR1.out _ (hTn _)))))
          refine wpQuiet_nil ?_
          rintro w2 hw'
          have g2 := gr_elim hw'
          clear hw'
          go_wp2_with fail
          go_ret3
          exact Fin.no HY.out.1 HY.out.2 ⟨rfl, btr hbel g2 (Nat.le_refl _)⟩
theorem trip_body (l : List T) (hr : rightE l = 0) (x : ByteArray) : (encS l ++ x).extract 4 (saidV (encS l ++ x)).toNat = bodyGo [] l := by
  have hb := body_right l hr
  have e : encS l ++ x = pb 1 2 ++ (pb (4 + (bodyGo [] l).size) 2 ++ (bodyGo [] l ++ (zeros (padV (4 + (bodyGo [] l).size) - (4 + (bodyGo [] l).size)).toNat ++ x))) := by
    unfold encS; simp only [ap_assoc]
  have hsaid : saidV (encS l ++ x) = 4 + (bodyGo [] l).size := by
    unfold saidV
    rw [e, skip2_ap, num2_ap _ _ (by omega) (by omega)]
  rw [hsaid]
  have h4 : (pb 1 2 ++ pb (4 + (bodyGo [] l).size) 2).size = 4 := by rw [ByteArray.size_append, pb_size, pb_size]
  have := extract_mid (pb 1 2 ++ pb (4 + (bodyGo [] l).size) 2) (bodyGo [] l) (zeros (padV (4 + (bodyGo [] l).size) - (4 + (bodyGo [] l).size)).toNat ++ x)
  rw [h4] at this
  rw [e, ← ap_assoc, show (4 + ((bodyGo [] l).size : Int)).toNat = 4 + (bodyGo [] l).size by omega]
  exact this
/-- The document's Decode, of any bytes. -/
theorem wholeOk_of (s : ByteArray) (h2 : padV (saidV s) ≤ s.size) (h3 : 4 ≤ saidV s) (L : List T) (hw : TWs L) (hr : rightE L = 0) (he : encS L = s.extract 0 (padV (saidV s)).toNat) : wholeOk s ∧ testsOf s = L := by
  have hp := padV_ge (saidV s)
  have e : s = encS L ++ s.extract (padV (saidV s)).toNat s.size := by
    rw [he]
    apply ba_ext
    simp only [ByteArray.data_append, ByteArray.data_extract, Array.toList_append, Array.toList_extract]
    rw [List.extract_eq_take_drop, List.extract_eq_take_drop]
    have hl : s.data.toList.length = s.size := by simp
    generalize s.data.toList = l at *
    rw [List.drop_zero, Nat.sub_zero, List.take_of_length_le (l := l.drop _) (by rw [List.length_drop]; omega), List.take_append_drop]
  obtain ⟨a, b, _⟩ := trip L hr hw (s.extract (padV (saidV s)).toNat s.size)
  rw [← e] at a b
  exact ⟨a, b⟩
theorem rdL_of (s : ByteArray) (hok : wholeOk s) : rdL 10 [] (s.extract 4 (saidV s).toNat) = some (testsOf s) := by
  obtain ⟨h, h2, h3, hr, he⟩ := hok
  have hw : TWs (testsOf s) := readN_w _ _
  have hp := padV_ge (saidV s)
  have hb := body_right _ hr
  have e : s = encS (testsOf s) ++ s.extract (padV (saidV s)).toNat s.size := by
    rw [he]
    apply ba_ext
    simp only [ByteArray.data_append, ByteArray.data_extract, Array.toList_append, Array.toList_extract]
    rw [List.extract_eq_take_drop, List.extract_eq_take_drop]
    have hl : s.data.toList.length = s.size := by simp
    generalize s.data.toList = l at *
    rw [List.drop_zero, Nat.sub_zero, List.take_of_length_le (l := l.drop _) (by rw [List.length_drop]; omega), List.take_append_drop]
  have hbody := trip_body (testsOf s) hr (s.extract (padV (saidV s)).toNat s.size)
  rw [← e] at hbody
  rw [hbody]
  have hl := right_short _ hr
  have hh := rd_body (testsOf s) [] hr hw (by simp; omega)
  simp only [List.length_nil, Nat.sub_zero, List.nil_append] at hh
  exact hh
theorem rdL_w : ∀ (n : Nat) (l : List T) (q : ByteArray) (L : List T), rdL n l q = some L → TWs l → TWs L
  | 0, l, _, L, h, hw => by rw [rdL] at h; cases h; exact hw
  | n + 1, l, q, L, h, hw => by
    by_cases h4 : 4 ≤ q.size
    · cases hb : rdBad q with
      | true => rw [rdL_bad n l q h4 hb] at h; cases h
      | false =>
        rw [rdL_good n l q h4 hb] at h
        refine rdL_w n _ _ L h ?_
        intro t ht
        rcases List.mem_append.1 ht with ht | ht
        · exact hw t ht
        · simp at ht
          subst ht
          exact rdT_w q
    · rw [rdL_short _ _ _ h4] at h; cases h; exact hw
set_option maxRecDepth 20000 in
set_option maxHeartbeats 2000000 in
theorem rdec_short (s : ByteArray) (w : World) (h : s.size < 4) : Calls Tryd.prog 24 #[.string s] w (Nope w 10) := by
  have h' : (s.size : Int) < 4 := by omega
  unfold Nope
  go_enter Tryd.func24, Tryd.ntmps24
  go_wp2_with fail
  go_ret3
  exact ⟨rfl, Below.refl _ _⟩
set_option maxRecDepth 20000 in
set_option maxHeartbeats 4000000 in
theorem rdec_end (s : ByteArray) (w : World) (h : 4 ≤ s.size) (h2 : s.size < padV (saidV s)) : Calls Tryd.prog 24 #[.string s] w (Nope w 10) := by
  have h' : ¬ ((s.size : Int) < 4) := by omega
  obtain ⟨z0, z1⟩ := saidV_lt s
  have HN0 : Hid (∀ w, Calls Tryd.prog 41 #[.string (s.extract 2 4)] w fun e w' => e = .returned (.int .u64 (saidV s)) ∧ w' = w) := fun w => by
    have := rnum_any (s.extract 2 4) w (by rw [ByteArray.size_extract]; omega)
    rwa [said_num s h] at this
  have hpd : padV (saidV s) = (saidV s + 7) / 8 * 8 := rfl
  rw [hpd] at h2
  clear hpd
  have sl0 : ∀ w, (Instr.slice 9 (.string s) (some (.int .i64 2)) (some (.int .i64 4)) none).run Tryd.prog w = .ok (.string (s.extract 2 4)) w := fun w => slice_lh s 2 4 (by omega) (by omega) (by omega) w
  unfold Nope
  generalize s.extract 2 4 = X0 at *
  generalize saidV s = z at *
  go_enter Tryd.func24, Tryd.ntmps24
  go_wp2_with fail
  refine (HN0.out _).mono ?_
  rintro x w1 ⟨rfl, rfl⟩
  go_wp2_with fail
  go_ret3
  exact ⟨rfl, Below.refl _ _⟩
set_option maxRecDepth 20000 in
set_option maxHeartbeats 4000000 in
theorem rdec_low (s : ByteArray) (w : World) (h : 4 ≤ s.size) (h2 : padV (saidV s) ≤ s.size) (h3 : saidV s < 4) : Calls Tryd.prog 24 #[.string s] w (Nope w 11) := by
  have h' : ¬ ((s.size : Int) < 4) := by omega
  obtain ⟨z0, z1⟩ := saidV_lt s
  have HN0 : Hid (∀ w, Calls Tryd.prog 41 #[.string (s.extract 2 4)] w fun e w' => e = .returned (.int .u64 (saidV s)) ∧ w' = w) := fun w => by
    have := rnum_any (s.extract 2 4) w (by rw [ByteArray.size_extract]; omega)
    rwa [said_num s h] at this
  have hpd : padV (saidV s) = (saidV s + 7) / 8 * 8 := rfl
  rw [hpd] at h2
  clear hpd
  have h2' : ¬ ((s.size : Int) < (saidV s + 7) / 8 * 8) := by omega
  have sl0 : ∀ w, (Instr.slice 9 (.string s) (some (.int .i64 2)) (some (.int .i64 4)) none).run Tryd.prog w = .ok (.string (s.extract 2 4)) w := fun w => slice_lh s 2 4 (by omega) (by omega) (by omega) w
  unfold Nope
  generalize s.extract 2 4 = X0 at *
  generalize saidV s = z at *
  go_enter Tryd.func24, Tryd.ntmps24
  go_wp2_with fail
  refine (HN0.out _).mono ?_
  rintro x w1 ⟨rfl, rfl⟩
  go_wp2_with fail
  go_ret3
  exact ⟨rfl, Below.refl _ _⟩
theorem rdec_nope (s : ByteArray) (w : World) (hs : s.size ≤ 1000) (hok : ¬ wholeOk s) : Calls Tryd.prog 24 #[.string s] w (Nope w (decE s)) := by
  unfold decE
  by_cases h1 : s.size < 4
  · rw [if_pos h1]; exact rdec_short s w h1
  · rw [if_neg h1]
    by_cases h2 : (s.size : Int) < padV (saidV s)
    · rw [if_pos h2]; exact rdec_end s w (by omega) h2
    · rw [if_neg h2]
      by_cases h3 : saidV s < 4
      · exact rdec_low s w (by omega) (by omega) h3
      · refine (rdec_main s w hs (by omega) (by omega) (by omega)).mono fun e w' hF => ?_
        cases hR : rdL 10 [] (s.extract 4 (saidV s).toNat) with
        | none => exact hF.1 hR
        | some L =>
          refine (hF.2 L hR).1 fun hy => hok ?_
          exact (wholeOk_of s (by omega) (by omega) L (rdL_w _ _ _ _ hR (by simp [TWs])) hy.1 hy.2).1
theorem rdec_yes (s : ByteArray) (w : World) (hs : s.size ≤ 1000) (hok : wholeOk s) : Calls Tryd.prog 24 #[.string s] w fun e w' => ∃ a cap, e = .returned (.tuple #[.slice a (testsOf s).length cap, .int .i64 (padV (saidV s)), .int .i64 0]) ∧ Ts w' a (testsOf s) ∧ Below w.heap.size w w' := by
  have hR := rdL_of s hok
  obtain ⟨h1, h2, h3, h4, h5⟩ := hok
  refine (rdec_main s w hs h1 h2 h3).mono fun e w' hF => ?_
  exact (hF.2 _ hR).2 ⟨h4, h5⟩
end Go.Proofs.YtjmnnjhaiecglaaDoor

/-
  The document's bytes: what they are, as a contract.
-/
import Derived.Test.YtjmnnjhaiecglaaDoorRefE
import Derived.Test.YtjmnnjhaiecglaaDoorRefRight
import Derived.Deep.RegionHeld
namespace Go.Proofs.YtjmnnjhaiecglaaDoor
open Go.ChangeShapes Go.WideShapes Go.ChangeAt Go.RowKit
set_option linter.unusedSimpArgs false

/-- A world that was grown out of another one, in which a test's block stands. -/
abbrev SW (W : World) (b : Nat) (t : T) (w : World) : Prop := (w.cell? ⟨b, 0, none⟩ = some (.int .i64 t.1) ∧ w.cell? ⟨b, 1, none⟩ = some (.int .u64 t.2.1) ∧ w.cell? ⟨b, 2, none⟩ = some (.int .u64 t.2.2)) ∧ Below W.heap.size W w
theorem SW.of {W : World} {b : Nat} {t : T} (h : C3 W b 0 t) (hb : b < W.heap.size) {w : World} (g : Below W.heap.size W w) : SW W b t w := ⟨C3.below h hb g, g⟩
theorem SW.drew {W : World} {b : Nat} {t : T} (h : C3 W b 0 t) (hb : b < W.heap.size) : SW W b t W.drew := SW.of h hb (Below.refl _ W).drew
theorem SW.alloc {W : World} {b : Nat} {t : T} (hb : b < W.heap.size) {w : World} (s : SW W b t w) (o : Obj) : SW W b t (w.alloc o) := by
  obtain ⟨c, g⟩ := s
  exact ⟨C3.below (t := t) (o := 0) c (Nat.lt_of_lt_of_le hb g.size) (show Below w.heap.size w (w.alloc o) by go_grown), btr g (by go_grown) (Nat.le_refl _)⟩
theorem SW.call {W : World} {b : Nat} {t : T} (hb : b < W.heap.size) {w w' : World} (s : SW W b t w) (k : Below w.heap.size w w') : SW W b t w' := by
  obtain ⟨c, g⟩ := s
  exact ⟨C3.below (t := t) (o := 0) c (Nat.lt_of_lt_of_le hb g.size) k, btr g k (Nat.le_refl _)⟩
/-- Two cells that were made. -/
structure Two (w : World) (n : Nat) (a b : Value) : Prop where
  l : n < w.heap.size
  c0 : w.cell? ⟨n, 0, none⟩ = some a
  c1 : w.cell? ⟨n, 1, none⟩ = some b
theorem Two.new (X : World) (a b : Value) : Two (X.alloc (.cells #[a, b] 5)) X.heap.size a b := ⟨by simp, by simp, by simp⟩
theorem Two.keep {w w' : World} {n : Nat} {a b : Value} (h : Two w n a b) (g : Below w.heap.size w w') : Two w' n a b :=
  ⟨Nat.lt_of_lt_of_le h.l g.size, (g.cell (p := ⟨n, 0, none⟩) h.l).trans h.c0, (g.cell (p := ⟨n, 1, none⟩) h.l).trans h.c1⟩
theorem cvTwo (w : World) (n : Nat) (x y : Int) (h : Two w n (.int .u8 x) (.int .u8 y)) : (convert 79 9 (.slice (some ⟨n, 0, none⟩) 2 2)).run Tryd.prog w = .ok (.string (strOfNums [x, y])) w := by
  refine run_convert_bytes_arg w 79 5 Tryd.underlying79 Tryd.underlying5 n 0 2 2 [x, y] rfl (fun i hi => ?_) 9 Tryd.underlying9
  match i, hi with
  | 0, _ => simpa using h.c0
  | 1, _ => simpa using h.c1
theorem pb1 (n : Int) (h0 : 0 ≤ n) (h1 : n < 256) : pb n 1 = strOfNums [n] := by
  unfold pb
  simp only [pieces, List.nil_append]
  rw [Int.emod_eq_of_lt h0 h1]
theorem str_two (a b : Int) : strOfNums [a, b] = strOfNums [a] ++ strOfNums [b] := by apply ba_ext; simp [strOfNums]
theorem pb_class : pb 32768 2 = ⟨#[128, 0]⟩ := by decide +kernel
theorem encT_w {t : T} {l : List T} (h : wholeB t = true) (s : ByteArray) : s ++ ⟨#[128, 0]⟩ ++ strOfNums [2 * codeV t.1 l, (szV t.1 : Int)] ++ pb t.2.1 (szV t.1) = s ++ encT t l := by
  obtain ⟨k0, k1⟩ := codeV_lt t.1 l
  have hz := szV_le t.1
  have er : restT t = pb t.2.1 (szV t.1) := by unfold restT; rw [h]; rfl
  have eh : headT t l = 2 * codeV t.1 l := by unfold headT; rw [h]; rfl
  unfold encT
  rw [er, eh, pb_size, pb_class, pb1 _ (by omega) (by omega), pb1 _ (by omega) (by omega), str_two]
  simp only [ap_assoc]
theorem encT_m {t : T} {l : List T} (h : wholeB t = false) (s : ByteArray) : s ++ ⟨#[128, 0]⟩ ++ strOfNums [2 * codeV t.1 l + 1, 2 * (szV t.1 : Int)] ++ pb t.2.1 (szV t.1) ++ pb t.2.2 (szV t.1) = s ++ encT t l := by
  obtain ⟨k0, k1⟩ := codeV_lt t.1 l
  have hz := szV_le t.1
  have er : restT t = pb t.2.1 (szV t.1) ++ pb t.2.2 (szV t.1) := by unfold restT; rw [h]; rfl
  have eh : headT t l = 2 * codeV t.1 l + 1 := by unfold headT; rw [h]; rfl
  have es : ((restT t).size : Int) = 2 * (szV t.1 : Int) := by rw [er, ByteArray.size_append, pb_size, pb_size]; omega
  unfold encT
  rw [es, er, eh, pb_class, pb1 _ (by omega) (by omega), pb1 _ (by omega) (by omega), str_two]
  simp only [ap_assoc]
theorem pb_one : pb 1 2 = ⟨#[0, 1]⟩ := by decide +kernel
def strSize : Value → Nat
  | .string q => q.size
  | _ => 0
theorem zsz (n : Nat) : (zeros n).size = n := by unfold zeros; simp [ByteArray.size]
theorem cat (a b : ByteArray) (x y : Nat) (ha : a.size ≤ x) (hb : b.size ≤ y) (h : x + y ≤ 9223372036854775807) (w : World) : (Op.stringOp .add a b).run Tryd.prog w = .ok (.string (a ++ b)) w := run_string_add_sum w a b (by omega)
theorem cat_sz (a b : ByteArray) (x y : Nat) (ha : a.size ≤ x) (hb : b.size ≤ y) : (a ++ b).size ≤ x + y := by rw [ByteArray.size_append]; omega
set_option maxRecDepth 20000 in
set_option maxHeartbeats 60000000 in
theorem rbytes_any (a : Option Addr) (l : List T) (cap : Nat) (w : World) (h : Ts w a l) (hl : l.length ≤ 1000) (hw : TWs l) (hr : rightE l = 0) :
    Calls Tryd.prog 38 #[.slice a l.length cap] w fun e w' => e = .returned (.string (encS l)) ∧ Below w.heap.size w w' := by
  have HC : Hid (∀ f w, ¬ (f < 1 ∨ 9 < f) → Ts w a l → Calls Tryd.prog 62 #[.slice a l.length cap, .int .i64 f] w fun e w' => e = .returned (.int .i64 (rcodeV f l)) ∧ Below w.heap.size w w') := fun f w hf h => rcode_any f a l cap w h hl hf
  have HS : Hid (∀ f w, Calls Tryd.prog 43 #[.int .i64 f] w fun e w' => e = .returned (.int .i64 (szV f)) ∧ Below w.heap.size w w') := fun f w => rsize_any f w
  have HA : Hid (∀ f w, Calls Tryd.prog 27 #[.int .i64 f] w fun e w' => e = .returned (.int .u64 (grV f)) ∧ Below w.heap.size w w') := fun f w => rall_any f w
  have HP : Hid (∀ n k w, 1 ≤ k → k ≤ 8 → 0 ≤ n → n < 18446744073709551616 → Calls Tryd.prog 63 #[.int .u64 n, .int .i64 (k : Nat)] w fun e w' => e = .returned (.string (pb n k)) ∧ Below w.heap.size w w') := fun n k w h1 h8 h0 h2 => rput_any n k w h1 h8 h0 h2
  have hps := pb_size
  have hlen := right_short l hr
  have hris : Rises l := by simpa using (right_rises l [] hr (by simp [Rises]) (by simp)).1
  go_enter Tryd.func38, Tryd.ntmps38
  go_wp2_with fail
  go_loopw [3, 4] (fun v i wr => ∃ (k : Nat) (s : ByteArray), k ≤ l.length ∧ i = .int .i64 k ∧ v = .string s ∧ bodyGo [] l = s ++ bodyGo (l.take k) (l.drop k) ∧ rightGo (l.take k) (l.drop k) = 0 ∧ s.size ≤ 20 * k ∧ Below w.heap.size w wr) (fun _ i _ => l.length - (intOf i).toNat)
  case atStart => exact ⟨0, ⟨#[]⟩, by omega, rfl, rfl, by apply ba_ext; simp, hr, by simp [ByteArray.size], Below.refl _ _⟩
  case round =>
    obtain ⟨k, s, hk, rfl, rfl, hbody, hgo, hsz, hbel⟩ := hrel
    by_cases hlt : k < l.length
    · have hT := h.below hbel
      obtain ⟨g, o, rfl, hg, hcs⟩ := hT.at hlt
      obtain ⟨c0, c1, c2⟩ := hcs k hlt
      obtain ⟨hbe, hgo2⟩ := right_at l k hlt hgo
      have hF := fit_of hbe
      have hwt := hw l[k] (List.getElem_mem hlt)
      obtain ⟨n0, n1, n2⟩ := fit_num hF hwt
      have hz1 := szV_pos hF.fld
      have hz8 := szV_le l[k].1
      have hce := rcode_eq l k hlt hris hF
      have hes := encT_size l[k] (l.take k)
      obtain ⟨k0, k1⟩ := codeV_lt l[k].1 (l.take k)
      have HB1 : Hid (bodyGo [] l = s ++ encT l[k] (l.take k) ++ bodyGo (l.take (k + 1)) (l.drop (k + 1))) := (show _ = _ by rw [hbody, bodyGo_at l k hlt, ap_assoc])
      have hTn : ∀ X, Below (tx wr l[k]).heap.size (tx wr l[k]) X → Ts X (some ⟨g, o, none⟩) l := fun X g => (hT.alloc _).below g
      replace hTn : Hid _ := hTn
      clear hbody hgo
      go_wp2_with fail
      refine (HS.out _ _).mono ?_
      rintro x w1 ⟨rfl, g1⟩
      have k1' := (C3.new wr l[k]).below (by simp) g1
      have s1 := Nat.lt_of_lt_of_le (show wr.heap.size < (tx wr l[k]).heap.size by simp) g1.size
      have q := C3.gr k1' s1
      have q0 := fun n => (q n).1
      have q2 := fun n => (q n).2.2
      clear q
      go_wp2_with fail
      refine wp_region_grow (by kernel_rfl) (by kernel_rfl) ?_
      repeat (go_big_quiet_step (first | (go_at_call 27; exact quiet_gr (HA.out _ _))))
      refine wpQuiet_nil ?_
      rintro w2 hw'
      have g2 := btr g1 (gr_elim hw') (Nat.le_refl _)
      clear hw' q0 q2 k1' s1
      have k2 := (C3.new wr l[k]).below (by simp) g2
      have s2 := Nat.lt_of_lt_of_le (show wr.heap.size < (tx wr l[k]).heap.size by simp) g2.size
      cases hwb : (l[k].2.2 == grV l[k].1)
      · have hwh : wholeB l[k] = false := hwb
        have HEN : Hid (s ++ encT l[k] (l.take k) = s ++ ⟨#[128, 0]⟩ ++ (strOfNums [2 * codeV l[k].1 (l.take k) + 1, 2 * (szV l[k].1 : Int)]) ++ (pb l[k].2.1 (szV l[k].1)) ++ (pb l[k].2.2 (szV l[k].1))) := (show _ = _ from (encT_m hwh s).symm)
        have hcf : ¬ (l[k].1 < 1 ∨ 9 < l[k].1) := hF.fld
        have hs1 : (s.size : Int) ≤ 180 := by omega
        clear hF hwh hbe
        generalize codeV l[k].1 (l.take k) = c at *
        generalize szV l[k].1 = n at *
        have hcv := cv2
        have hw1 : IntKind.i64.wrap (2 * c) = 2 * c := by rw [IntKind.wrap_i64]; omega
        have hw4 : IntKind.i64.wrap (2 * c + 1) = 2 * c + 1 := by rw [IntKind.wrap_i64]; omega
        have hw2 : IntKind.u8.wrap (2 * c + 1) = 2 * c + 1 := by rw [IntKind.wrap_u8]; omega
        have hw5 : IntKind.i64.wrap (2 * (n : Int)) = 2 * (n : Int) := by rw [IntKind.wrap_i64]; omega
        have hw3 : IntKind.u8.wrap (2 * (n : Int)) = 2 * (n : Int) := by rw [IntKind.wrap_u8]; omega
        have z0 : (s ++ (⟨#[128, 0]⟩ : ByteArray)).size ≤ 182 := cat_sz _ _ 180 2 (by omega) (by decide)
        have z1 : (strOfNums [2 * c + 1, 2 * (n : Int)]).size ≤ 2 := by rw [strOfNums_size]; simp
        have z2 : (s ++ (⟨#[128, 0]⟩ : ByteArray) ++ (strOfNums [2 * c + 1, 2 * (n : Int)])).size ≤ 184 := cat_sz _ _ 182 2 z0 z1
        have z3 : (pb l[k].2.1 n).size ≤ 8 := by rw [pb_size]; exact hz8
        have e1 : ∀ w, (Op.stringOp .add s ⟨#[128, 0]⟩).run Tryd.prog w = .ok (.string (s ++ ⟨#[128, 0]⟩)) w := cat _ _ 180 2 (by omega) (by decide) (by decide)
        have e2 : ∀ w, (Op.stringOp .add (s ++ ⟨#[128, 0]⟩) (strOfNums [2 * c + 1, 2 * (n : Int)])).run Tryd.prog w = .ok (.string (s ++ ⟨#[128, 0]⟩ ++ (strOfNums [2 * c + 1, 2 * (n : Int)]))) w := cat _ _ 182 2 z0 z1 (by decide)
        have e3 : ∀ w, (Op.stringOp .add (s ++ ⟨#[128, 0]⟩ ++ (strOfNums [2 * c + 1, 2 * (n : Int)])) (pb l[k].2.1 n)).run Tryd.prog w = .ok (.string (s ++ ⟨#[128, 0]⟩ ++ (strOfNums [2 * c + 1, 2 * (n : Int)]) ++ (pb l[k].2.1 n))) w := cat _ _ 184 8 z2 z3 (by decide)
        have z4 : (s ++ (⟨#[128, 0]⟩ : ByteArray) ++ (strOfNums [2 * c + 1, 2 * (n : Int)]) ++ (pb l[k].2.1 n)).size ≤ 192 := cat_sz _ _ 184 8 z2 z3
        have z5 : (pb l[k].2.2 n).size ≤ 8 := by rw [pb_size]; exact hz8
        have e4 : ∀ w, (Op.stringOp .add (s ++ ⟨#[128, 0]⟩ ++ (strOfNums [2 * c + 1, 2 * (n : Int)]) ++ (pb l[k].2.1 n)) (pb l[k].2.2 n)).run Tryd.prog w = .ok (.string (s ++ ⟨#[128, 0]⟩ ++ (strOfNums [2 * c + 1, 2 * (n : Int)]) ++ (pb l[k].2.1 n) ++ (pb l[k].2.2 n))) w := cat _ _ 192 8 z4 z5 (by decide)
        clear z0 z1 z2 z3 z4 z5
        have hSB : Hid (∀ X, SW w2 wr.heap.size l[k] X → Below w.heap.size w X) := fun X q => btr (hbel.alloc hbel.size _) (btr g2 q.2 (Nat.le_refl _)) (Nat.le_refl _)
        have hTS : Hid (∀ X, SW w2 wr.heap.size l[k] X → Ts X (some ⟨g, o, none⟩) l) := fun X q => hTn.out X (btr g2 q.2 (Nat.le_refl _))
        go_wp2_with fail
        go_region_held (SW w2 wr.heap.size l[k]) (first | exact SW.drew k2 s2 | exact SW.alloc s2 (by assumption) _ | exact SW.call s2 (by assumption) (by assumption) | assumption)
          (first | (go_at_call 62; refine (HC.out _ _ hcf (hTS.out _ (by assumption))).mono ?_; rintro x w' ⟨rfl, gX⟩; first | (have tw := Two.keep (by assumption) gX; have ce := cvTwo _ _ _ _ tw) | skip) | (go_at_call 63; refine (HP.out _ _ _ hz1 hz8 (by first | exact hwt.v0 | exact hwt.m0) (by first | exact hwt.v1 | exact hwt.m1)).mono ?_; rintro x w' ⟨rfl, gX⟩; first | (have tw := Two.keep (by assumption) gX; have ce := cvTwo _ _ _ _ tw) | (have tw := Two.keep (Two.new _ _ _) gX; have ce := cvTwo _ _ _ _ tw) | skip))
        all_goals
          go_wp2
          go_roundw
          case rel => exact ⟨k + 1, _, by omega, by go_num, rfl, by rw [← HEN.out]; exact HB1.out, hgo2, by rw [← HEN.out, ByteArray.size_append]; omega, hSB.out _ (by assumption)⟩
          case measure => simp [intOf]; omega
      · have hwh : wholeB l[k] = true := hwb
        have HEN : Hid (s ++ encT l[k] (l.take k) = s ++ ⟨#[128, 0]⟩ ++ (strOfNums [2 * codeV l[k].1 (l.take k), (szV l[k].1 : Int)]) ++ (pb l[k].2.1 (szV l[k].1))) := (show _ = _ from (encT_w hwh s).symm)
        have hcf : ¬ (l[k].1 < 1 ∨ 9 < l[k].1) := hF.fld
        have hs1 : (s.size : Int) ≤ 180 := by omega
        clear hF hwh hbe
        generalize codeV l[k].1 (l.take k) = c at *
        generalize szV l[k].1 = n at *
        have hcv := cv2
        have hw1 : IntKind.i64.wrap (2 * c) = 2 * c := by rw [IntKind.wrap_i64]; omega
        have hw2 : IntKind.u8.wrap (2 * c) = 2 * c := by rw [IntKind.wrap_u8]; omega
        have hw3 : IntKind.u8.wrap (n : Int) = (n : Int) := by rw [IntKind.wrap_u8]; omega
        have z0 : (s ++ (⟨#[128, 0]⟩ : ByteArray)).size ≤ 182 := cat_sz _ _ 180 2 (by omega) (by decide)
        have z1 : (strOfNums [2 * c, (n : Int)]).size ≤ 2 := by rw [strOfNums_size]; simp
        have z2 : (s ++ (⟨#[128, 0]⟩ : ByteArray) ++ (strOfNums [2 * c, (n : Int)])).size ≤ 184 := cat_sz _ _ 182 2 z0 z1
        have z3 : (pb l[k].2.1 n).size ≤ 8 := by rw [pb_size]; exact hz8
        have e1 : ∀ w, (Op.stringOp .add s ⟨#[128, 0]⟩).run Tryd.prog w = .ok (.string (s ++ ⟨#[128, 0]⟩)) w := cat _ _ 180 2 (by omega) (by decide) (by decide)
        have e2 : ∀ w, (Op.stringOp .add (s ++ ⟨#[128, 0]⟩) (strOfNums [2 * c, (n : Int)])).run Tryd.prog w = .ok (.string (s ++ ⟨#[128, 0]⟩ ++ (strOfNums [2 * c, (n : Int)]))) w := cat _ _ 182 2 z0 z1 (by decide)
        have e3 : ∀ w, (Op.stringOp .add (s ++ ⟨#[128, 0]⟩ ++ (strOfNums [2 * c, (n : Int)])) (pb l[k].2.1 n)).run Tryd.prog w = .ok (.string (s ++ ⟨#[128, 0]⟩ ++ (strOfNums [2 * c, (n : Int)]) ++ (pb l[k].2.1 n))) w := cat _ _ 184 8 z2 z3 (by decide)
        clear z0 z1 z2 z3
        have hSB : Hid (∀ X, SW w2 wr.heap.size l[k] X → Below w.heap.size w X) := fun X q => btr (hbel.alloc hbel.size _) (btr g2 q.2 (Nat.le_refl _)) (Nat.le_refl _)
        have hTS : Hid (∀ X, SW w2 wr.heap.size l[k] X → Ts X (some ⟨g, o, none⟩) l) := fun X q => hTn.out X (btr g2 q.2 (Nat.le_refl _))
        go_wp2_with fail
        go_region_held (SW w2 wr.heap.size l[k]) (first | exact SW.drew k2 s2 | exact SW.alloc s2 (by assumption) _ | exact SW.call s2 (by assumption) (by assumption) | assumption)
          (first | (go_at_call 62; refine (HC.out _ _ hcf (hTS.out _ (by assumption))).mono ?_; rintro x w' ⟨rfl, gX⟩; first | (have tw := Two.keep (by assumption) gX; have ce := cvTwo _ _ _ _ tw) | skip) | (go_at_call 63; refine (HP.out _ _ _ hz1 hz8 hwt.v0 hwt.v1).mono ?_; rintro x w' ⟨rfl, gX⟩; first | (have tw := Two.keep (by assumption) gX; have ce := cvTwo _ _ _ _ tw) | (have tw := Two.keep (Two.new _ _ _) gX; have ce := cvTwo _ _ _ _ tw) | skip))
        all_goals
          go_wp2
          go_roundw
          case rel => exact ⟨k + 1, _, by omega, by go_num, rfl, by rw [← HEN.out]; exact HB1.out, hgo2, by rw [← HEN.out, ByteArray.size_append]; omega, hSB.out _ (by assumption)⟩
          case measure => simp [intOf]; omega
    · have hk' : k = l.length := by omega
      subst hk'
      have e : bodyGo [] l = s := by
        rw [hbody, List.drop_length, bodyGo]
        apply ba_ext; simp
      have hs180 : s.size ≤ 180 := by omega
      have hpv : 0 ≤ padV (4 + s.size) - (4 + s.size) ∧ padV (4 + s.size) - (4 + s.size) ≤ 7 := by unfold padV; omega
      have hp8 : padV (4 + s.size) % 8 = 0 := by unfold padV; omega
      have HE : Hid (encS l = ⟨#[0, 1]⟩ ++ pb (4 + s.size) 2 ++ s ++ zeros (padV (4 + s.size) - (4 + s.size)).toNat) := (show _ = _ by unfold encS; rw [e, pb_one])
      obtain ⟨c, hcc⟩ := Int.eq_ofNat_of_zero_le hpv.1
      rw [hcc, Int.toNat_natCast] at HE
      have hpe : padV (4 + s.size) = 4 + s.size + c := by omega
      rw [hpe] at hp8
      have hc7 : c ≤ 7 := by omega
      clear hbody hgo e hpv hpe hcc
      go_wp2_with fail
      refine (HP.out _ 2 _ (by omega) (by omega) (by omega) (by omega)).mono ?_
      rintro x w1 ⟨rfl, g1⟩
      have b1 := btr hbel g1 (Nat.le_refl _)
      have hE0 : ((⟨#[0, 1]⟩ : ByteArray) ++ pb (4 + s.size) 2 ++ s).size = 4 + s.size := by
        rw [ByteArray.size_append, ByteArray.size_append, pb_size]; rfl
      clear g1
      go_wp2_with fail
      generalize (⟨#[0, 1]⟩ : ByteArray) ++ pb (4 + s.size) 2 ++ s = E0 at *
      go_loopw [3] (fun v wx => ∃ j : Nat, j ≤ c ∧ v = .string (E0 ++ zeros j) ∧ Below w.heap.size w wx) (fun v _ => 300 - strSize v)
      case atStart => exact ⟨0, by omega, by congr 1; apply ba_ext; simp [zeros], b1⟩
      case round =>
        obtain ⟨j, hj, rfl, hbx⟩ := hrel
        have hzs := zsz j
        have hsj : (E0 ++ zeros j).size = 4 + s.size + j := by rw [ByteArray.size_append, hE0, hzs]
        by_cases hjc : j < c
        · have hm : ((4 + (s.size : Int) + j) % 8 != 0) = true := by simp; omega
          have hcat : E0 ++ zeros j ++ ⟨#[0]⟩ = E0 ++ zeros (j + 1) := by
            rw [ap_assoc]
            congr 1
            apply ba_ext
            simp [zeros, List.replicate_succ']
          have HC2 : Hid _ := hcat
          clear hcat
          generalize E0 ++ zeros j = Z at *
          go_wp2_with fail
          go_roundw
          case rel => exact ⟨j + 1, by omega, by rw [HC2.out], hbx⟩
          case measure =>
            simp only [strSize, ByteArray.size_append]
            have : (⟨#[0]⟩ : ByteArray).size = 1 := rfl
            omega
        · have hjc' : j = c := by omega
          subst hjc'
          have hm : ((4 + (s.size : Int) + j) % 8 != 0) = false := by simp; omega
          have HE2 : Hid (encS l = E0 ++ zeros j) := HE.out
          clear HE
          generalize E0 ++ zeros j = Z at *
          go_wp2_with fail
          go_ret
          exact ⟨by rw [HE2.out]; rfl, hbx⟩
end Go.Proofs.YtjmnnjhaiecglaaDoor

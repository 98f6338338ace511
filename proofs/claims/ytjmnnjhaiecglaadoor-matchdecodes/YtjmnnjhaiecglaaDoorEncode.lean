/-
  What Encode answers, as a contract; and the examples.
-/
import Derived.Test.YtjmnnjhaiecglaaDoorEnc
namespace Go.Proofs.YtjmnnjhaiecglaaDoor
open Go.ChangeShapes Go.WideShapes Go.ChangeAt Go.RowKit

def noB0 : ByteArray := ⟨#[]⟩
def encodeS (l : List T) : ByteArray := if rightE l = 0 then encS l else ⟨#[]⟩
theorem bodyGo_at (l : List T) (k : Nat) (h : k < l.length) : bodyGo (l.take k) (l.drop k) = encT l[k] (l.take k) ++ bodyGo (l.take (k + 1)) (l.drop (k + 1)) := by
  rw [List.drop_eq_getElem_cons h, bodyGo, take_snoc_get l k h]
theorem right_at (l : List T) (k : Nat) (h : k < l.length) (hr : rightGo (l.take k) (l.drop k) = 0) : behindE l[k] (l.take k) = 0 ∧ rightGo (l.take (k + 1)) (l.drop (k + 1)) = 0 := by
  rw [List.drop_eq_getElem_cons h, right_cons] at hr
  rw [take_snoc_get l k h]
  exact hr
theorem repeat_list : ∀ c : Nat, Lib.repeatL [0] c = List.replicate c (0 : UInt8)
  | 0 => rfl
  | c + 1 => by rw [Lib.repeatL, repeat_list c]; rfl
theorem repeat_zeros (c : Nat) : (⟨(Lib.repeatL [0] c).toArray⟩ : ByteArray) = zeros c := by rw [repeat_list]; rfl

set_option maxHeartbeats 2000000 in
theorem encode_bad (a : Option Addr) (l : List T) (cap : Nat) (w : World) (h : Ts w a l) (hl : l.length ≤ 1000) (hc : l.length ≤ cap) (hr : rightE l ≠ 0) :
    Calls Tryd.prog 21 #[.slice a l.length cap] w fun e w' => e = .returned (.tuple #[.string ⟨#[]⟩, .int .i64 (rightE l)]) ∧ Below w.heap.size w w' := by
  have HR : Hid (Calls Tryd.prog 9 #[.slice a l.length cap] w fun e w' => e = .returned (.int .i64 (rightE l)) ∧ Below w.heap.size w w') := right_any a l cap w h hl hc
  have hb : (rightE l != 0) = true := by simpa using hr
  clear hr
  generalize rightE l = e at *
  go_enter Tryd.func21, Tryd.ntmps21
  go_wp2_with fail
  refine HR.out.mono ?_
  rintro r w1 ⟨rfl, g1⟩
  go_wp2_with fail
  go_ret2
  exact ⟨rfl, g1⟩

set_option maxHeartbeats 4000000 in
theorem encode_ok (a : Option Addr) (l : List T) (cap : Nat) (w : World) (h : Ts w a l) (hl : l.length ≤ 1000) (hc : l.length ≤ cap) (hd : Cd w) (hw : TWs l) (hr : rightE l = 0) :
    Calls Tryd.prog 21 #[.slice a l.length cap] w fun e w' => e = .returned (.tuple #[.string (encS l), .int .i64 0]) ∧ Below w.heap.size w w' := by
  have HR : Hid (Calls Tryd.prog 9 #[.slice a l.length cap] w fun e w' => e = .returned (.int .i64 0) ∧ Below w.heap.size w w') := hr ▸ right_any a l cap w h hl hc
  have HB : Hid (∀ t k w, k ≤ l.length → TW t → behindE t (l.take k) = 0 → Ts w a l → Cd w → Calls Tryd.prog 34 #[tV t, .slice a k cap] w fun e w' => e = .returned (.string (encT t (l.take k))) ∧ Below w.heap.size w w') := fun t k w hk hw hb h hd => by
    have hlen : (l.take k).length = k := by rw [List.length_take]; omega
    have := encT_any t a (l.take k) cap w (h.take k) (by omega) hd hw hb
    rwa [hlen] at this
  have H2 : Hid (∀ n w, 0 ≤ n → n < 65536 → Calls Tryd.prog 35 #[.int .u64 n, .int .i64 2] w fun e w' => e = .returned (.string (pb n 2)) ∧ Below w.heap.size w w') := fun n w h0 h1 => mput2 n w h0 h1
  have HP : Hid (∀ n w, 0 ≤ n → n ≤ 1000000 → Calls Tryd.prog 37 #[.int .i64 n] w fun e w' => e = .returned (.int .i64 (padV n)) ∧ w' = w) := fun n w h0 h1 => padded_any n w h0 h1
  have HZ : Hid (∀ (c : Nat) w, c ≤ 1000 → Calls Tryd.prog 36 #[.string ⟨#[0]⟩, .int .i64 c] w fun e w' => e = .returned (.string (zeros c)) ∧ Below w.heap.size w w') := fun c w hc => by
    have := Tryd.strings_Repeat ⟨#[0]⟩ c w (by omega) (by show 1 * c ≤ _; omega)
    rw [show (⟨#[0]⟩ : ByteArray).data.toList = [0] from rfl, repeat_zeros c] at this
    exact this
  have hps := pb_size
  have hlen := right_short l hr
  go_enter Tryd.func21, Tryd.ntmps21
  go_wp2_with fail
  refine HR.out.mono ?_
  rintro r w1 ⟨rfl, g1⟩
  go_wp2_with fail
  go_loopw [5, 16] (fun v i wr => ∃ (k : Nat) (s : ByteArray), k ≤ l.length ∧ i = .int .i64 k ∧ v = .string s ∧ bodyGo [] l = s ++ bodyGo (l.take k) (l.drop k) ∧ rightGo (l.take k) (l.drop k) = 0 ∧ s.size ≤ 20 * k ∧ Below w.heap.size w wr) (fun _ i _ => l.length - (intOf i).toNat)
  case atStart => exact ⟨0, ⟨#[]⟩, by omega, rfl, rfl, by apply ba_ext; simp, hr, by simp [ByteArray.size], g1⟩
  case round =>
    obtain ⟨k, s, hk, rfl, rfl, hbody, hgo, hsz, hbel⟩ := hrel
    by_cases hlt : k < l.length
    · have hT := h.below hbel
      obtain ⟨g, o, rfl, hg, hcs⟩ := hT.at hlt
      obtain ⟨c0, c1, c2⟩ := hcs k hlt
      have q := C3.gr (C3.new wr l[k]) (by simp)
      have q0 := fun n => (q n).1
      have q1 := fun n => (q n).2.1
      have q2 := fun n => (q n).2.2
      clear q
      have hTn : ∀ n : GrT (tx wr l[k]), Ts n.w (some ⟨g, o, none⟩) l := fun n => ((hT.alloc _).below n.h)
      have hDn : ∀ n : GrT (tx wr l[k]), Cd n.w := fun n => (((hd.below hbel).alloc _).below n.h)
      obtain ⟨hbe, hgo2⟩ := right_at l k hlt hgo
      have hwt := hw l[k] (List.getElem_mem hlt)
      have HB1 : Hid (bodyGo [] l = s ++ encT l[k] (l.take k) ++ bodyGo (l.take (k + 1)) (l.drop (k + 1))) := (show _ = _ by rw [hbody, bodyGo_at l k hlt, ap_assoc])
      have hes := encT_size l[k] (l.take k)
      have hkl : k ≤ cap := by omega
      clear hbody hgo
      go_wp2_with fail
      refine wp_region_grow (by kernel_rfl) (by kernel_rfl) ?_
      repeat (go_big_quiet_step (first | (go_at_call 34; exact quiet_gr (HB.out _ _ _ hk hwt hbe (hTn _) (hDn _)))))
      refine wpQuiet_nil ?_
      rintro w2 hw'
      have g2 := gr_elim hw'
      clear hw'
      have g3 : Below w.heap.size w w2 := btr (hbel.alloc hbel.size _) g2 (Nat.le_refl _)
      go_wp2_with fail
      go_roundw
      case rel => exact ⟨k + 1, _, by omega, by go_num, rfl, HB1.out, hgo2, by rw [ByteArray.size_append]; omega, g3⟩
      case measure => simp [intOf]; omega
    · have hk' : k = l.length := by omega
      subst hk'
      have e : bodyGo [] l = s := by
        rw [hbody, List.drop_length, bodyGo]
        apply ba_ext; simp
      have HE : Hid (encS l = pb 1 2 ++ pb (4 + s.size) 2 ++ s ++ zeros (padV (4 + s.size) - (4 + s.size)).toNat) := (show _ = _ by unfold encS; rw [e])
      clear hbody hgo e
      have hpv : 0 ≤ padV (4 + s.size) - (4 + s.size) ∧ padV (4 + s.size) - (4 + s.size) ≤ 8 := by unfold padV; omega
      obtain ⟨c, hcc⟩ := Int.eq_ofNat_of_zero_le hpv.1
      have hc8 : c ≤ 8 := by omega
      have hzs : (zeros c).size = c := by simp [zeros, ByteArray.size]
      rw [hcc, Int.toNat_natCast] at HE
      have hpe : padV (4 + s.size) = 4 + s.size + c := by omega
      go_wp2_with fail
      refine (H2.out _ _ (by omega) (by omega)).mono ?_
      rintro r w2 ⟨rfl, g2⟩
      have b2 := btr hbel g2 (Nat.le_refl _)
      clear g2
      go_wp2_with fail
      refine (H2.out _ _ (by omega) (by omega)).mono ?_
      rintro r w3 ⟨rfl, g3⟩
      have b3 := btr b2 g3 (Nat.le_refl _)
      clear g3
      go_wp2_with fail
      refine (HP.out _ _ (by omega) (by omega)).mono ?_
      rintro r w4 ⟨rfl, rfl⟩
      rw [hpe]
      go_wp2_with fail
      rw [show (4 + (s.size : Int) + c - (4 + s.size)) = (c : Int) by omega]
      refine (HZ.out c _ (by omega)).mono ?_
      rintro r w5 ⟨rfl, g5⟩
      have b5 := btr b3 g5 (Nat.le_refl _)
      clear g5
      go_wp2_with fail
      go_ret2
      exact ⟨by rw [HE.out]; rfl, b5⟩

theorem encode_any (a : Option Addr) (l : List T) (cap : Nat) (w : World) (h : Ts w a l) (hl : l.length ≤ 1000) (hc : l.length ≤ cap) (hd : Cd w) (hw : TWs l) :
    Calls Tryd.prog 21 #[.slice a l.length cap] w fun e w' => e = .returned (.tuple #[.string (encodeS l), .int .i64 (rightE l)]) ∧ Below w.heap.size w w' := by
  unfold encodeS
  by_cases hr : rightE l = 0
  · rw [if_pos hr, hr]; exact encode_ok a l cap w h hl hc hd hw hr
  · rw [if_neg hr]; exact encode_bad a l cap w h hl hc hr

abbrev three : T := (1, 3, 4294967295)
theorem right0 : rightE [] = 0 := rfl
theorem enc0 : encodeS [] = ⟨#[0, 1, 0, 4, 0, 0, 0, 0]⟩ := by decide +kernel
theorem right1 : rightE [three] = 0 := by decide +kernel
theorem enc1 : encodeS [three] = ⟨#[0, 1, 0, 12, 128, 0, 0, 4, 0, 0, 0, 3, 0, 0, 0, 0]⟩ := by decide +kernel
theorem three_w : TWs [three] := by
  intro t ht
  simp at ht
  subst ht
  exact ⟨by decide, by decide, by decide, by decide⟩
set_option maxHeartbeats 4000000 in
theorem awake_any (w : World) (hd : Cd w) : Calls Tryd.prog 11 #[] w fun e w' => e = .returned (.bool true) ∧ Below w.heap.size w w' := by
  have H0 : Hid (Calls Tryd.prog 21 #[.slice none 0 0] w fun e w' => e = .returned (.tuple #[.string ⟨#[0, 1, 0, 4, 0, 0, 0, 0]⟩, .int .i64 0]) ∧ Below w.heap.size w w') := by
    have := encode_any none [] 0 w (.inl rfl) (by simp) (by simp) hd (by simp)
    rwa [right0, enc0] at this
  have H1 : Hid (∀ g w, C3 w g 0 three → g < w.heap.size → Cd w → Calls Tryd.prog 21 #[.slice (some ⟨g, 0, none⟩) 1 1] w fun e w' => e = .returned (.tuple #[.string ⟨#[0, 1, 0, 12, 128, 0, 0, 4, 0, 0, 0, 3, 0, 0, 0, 0]⟩, .int .i64 0]) ∧ Below w.heap.size w w') := fun g w h3 hg hd => by
    have hT : Ts w (some ⟨g, 0, none⟩) [three] := .inr ⟨g, 0, rfl, hg, fun i hi => by
      have : i = 0 := by simpa using hi
      subst this
      exact h3⟩
    have := encode_any (some ⟨g, 0, none⟩) [three] 1 w hT (by simp) (by simp) hd three_w
    rwa [right1, enc1] at this
  go_enter Tryd.func11, Tryd.ntmps11
  go_wp2_with fail
  refine H0.out.mono ?_
  rintro r w1 ⟨rfl, g1⟩
  go_wp2_with fail
  refine (H1.out _ _ (by unfold C3; simp) (by simp) ((hd.below g1).alloc _)).mono ?_
  rintro r w2 ⟨rfl, g2⟩
  go_wp2_with fail
  go_ret
  exact ⟨rfl, btr (btr g1 (by go_grown) (Nat.le_refl _)) g2 (Nat.le_refl _)⟩
end Go.Proofs.YtjmnnjhaiecglaaDoor

/-
  What Decode answers, as a contract.
-/
import Derived.Test.YtcbhkbiofmimbaaDoorFirst
import Derived.Test.YtcbhkbiofmimbaaDoorApp
import Derived.Test.YtcbhkbiofmimbaaDoorKnown
namespace Go.Proofs.YtcbhkbiofmimbaaDoor
open Go.ChangeShapes Go.WideShapes Go.ChangeAt Go.RowKit
def szOf : Value → Nat
  | .string s => s.size
  | _ => 0
theorem own_slice {w : World} {base : Nat} {v : Value} {n : Nat} {xs : List Value} (h : w.ownsRow base 54 3 v n xs) : ∃ ad cap, v = .slice ad n cap := by
  rcases h.2 with ⟨hv, h'⟩ | ⟨g, cap', cur, hv, _⟩
  · exact ⟨none, 0, by rw [hv, h']⟩
  · exact ⟨_, cap', hv⟩
theorem str_ne {a b : ByteArray} (h : a ≠ b) : (!a.toList == b.toList) = true := by
  rw [Bool.not_eq_true', beq_eq_false_iff_ne]
  intro hh
  apply h
  apply ba_ext
  rw [← ByteArray.toList_eq, ← ByteArray.toList_eq]
  exact hh
set_option maxRecDepth 20000 in
set_option maxHeartbeats 16000000 in
theorem dec_any (d : ByteArray) (w : World) (hs : d.size ≤ maxLen) (hd : Cd w) :
    Calls Tryd.prog 52 #[.string d] w fun x w' => ∃ ad cap, x = .returned (.tuple #[.slice ad (decR d).1.length cap, .int .i64 (decR d).2]) ∧ TsF w.heap.size w' ad (decR d).1 ∧ Below w.heap.size w w' := by
  have HF : Hid (∀ (D : ByteArray) w, D.size ≤ maxLen → Cd w → Calls Tryd.prog 66 #[.string D] w fun e w' => e = .returned (.tuple #[tV (firstA D), .int .i64 (firstZ D), .int .i64 (firstE D)]) ∧ Below w.heap.size w w') := (show ∀ (D : ByteArray) w, _ from fun D w hs hd => first_any D w hs hd)
  have HD : Hid (Cd w) := hd
  obtain ⟨Z, hZ⟩ : ∃ Z, decGo d.size d [] = Z := ⟨_, rfl⟩
  have HR : Hid (decR d = if Z.2 = 0 ∧ 32 < Z.1.length then ([], 44) else Z) := (show _ = _ by rw [← hZ]; rfl)
  have HZ : Hid (decGo d.size d [] = Z) := hZ
  clear hd hZ
  generalize decR d = O at *
  go_enter Tryd.func52, Tryd.ntmps52
  go_wp2_with fail
  go_loopw [0, 4] (fun dv lv wr => ∃ (D : ByteArray) (acc : List A), dv = .string D ∧ D.size ≤ d.size ∧ decGo D.size D acc = Z ∧ acc.length ≤ 33 ∧ wr.ownsRow w.heap.size 54 3 lv acc.length (flat acc) ∧ Below w.heap.size w wr) (fun dv _ _ => szOf dv)
  case atStart => exact ⟨d, [], rfl, Nat.le_refl _, HZ.out, by simp, World.ownsRow_nil _ _ _ _, Below.refl _ _⟩
  case round =>
    obtain ⟨D, acc, rfl, hle, hgo, hacc, hown, hbel⟩ := hrel
    have HG : Hid (decGo D.size D acc = Z) := hgo
    obtain ⟨ad, cap, rfl⟩ := own_slice hown
    have HO : Hid (wr.ownsRow w.heap.size 54 3 (.slice ad acc.length cap) acc.length (flat acc)) := hown
    clear hgo hown
    by_cases hD : D.size = 0
    · have he : D.toList.isEmpty = true := by
        rw [ByteArray.toList_eq]
        have : D.data.toList.length = 0 := by simpa using hD
        rw [List.length_eq_zero_iff.1 this]
        rfl
      have HG2 : Hid ((acc, (0 : Int)) = Z) := (show _ = _ by rw [← HG.out, decGo_end acc hD])
      clear HG hD
      by_cases hb : 32 < acc.length
      · have hb' : (32 : Int) < acc.length := by omega
        have hO : Hid (O = ([], 44)) := (show _ = _ by rw [HR.out, ← HG2.out, if_pos ⟨rfl, hb⟩])
        clear HR HG2 hb
        go_wp2_with fail
        go_ret2
        rw [hO.out]
        exact ⟨none, 0, rfl, .inl rfl, hbel⟩
      · have hb' : ¬ ((32 : Int) < acc.length) := by omega
        have HT : Hid (TsF w.heap.size wr ad acc) := (show TsF w.heap.size wr ad acc by
          obtain ⟨a', c', hv, _, hT⟩ := own_ts HO.out
          cases hv
          exact hT)
        have hO : Hid (O = (acc, 0)) := (show _ = _ by rw [HR.out, ← HG2.out, if_neg (fun h => hb h.2)])
        clear HR HG2 hb
        go_wp2_with fail
        go_ret2
        rw [hO.out]
        first | exact ⟨ad, cap, rfl, HT.out, hbel⟩ | exact ⟨ad, ⟨cap, rfl⟩, HT.out, hbel⟩
    · have he : D.toList.isEmpty = false := by
        rw [ByteArray.toList_eq]
        have h1 : D.data.toList.length ≠ 0 := by simpa using hD
        cases h : D.data.toList with
        | nil => rw [h] at h1; exact absurd rfl h1
        | cons _ _ => rfl
      have hbs := hbel.size
      have hC := HD.out.below hbel
      have HC : Hid (Cd wr) := hC
      clear hC
      go_wp2_with fail
      refine (HF.out D _ (by omega) HC.out).mono ?_
      rintro x w1 ⟨rfl, g1⟩
      have hb1 : Below w.heap.size w w1 := btr hbel g1 (Nat.le_refl _)
      have ho1 := own_below HO.out g1
      have HO1 : Hid (w1.ownsRow w.heap.size 54 3 (.slice ad acc.length cap) acc.length (flat acc)) := ho1
      have hs1 := g1.size
      clear g1 ho1 hbel HO HC
      by_cases hE : firstE D = 0
      · have f := first_of hE
        have hr := first_rest hE
        have hz1 := f.len
        have hz2 := f.le
        rw [← f.z] at hz1 hz2
        have hsl : ∀ w, (Instr.slice 9 (.string D) (some (.int .i64 (firstZ D))) none none).run Tryd.prog w = .ok (.string (D.extract (firstZ D).toNat D.size)) w := fun w => slice_l D _ (by omega) hz2 w
        have HS : Hid (decGo (D.extract (firstZ D).toNat D.size).size (D.extract (firstZ D).toNat D.size) (if acc.length ≤ 32 then acc ++ [firstA D] else acc) = Z) := (show _ = _ by rw [← HG.out, decGo_step acc hD hE])
        clear HG f
        rw [hE]
        clear hE
        generalize firstA D = X at *
        generalize D.extract (firstZ D).toNat D.size = D' at *
        generalize firstZ D = z at *
        have HR' : Hid (D'.size < D.size) := hr
        clear hr
        by_cases hl : acc.length ≤ 32
        · have hl' : (acc.length : Int) ≤ 32 := by omega
          rw [if_pos hl] at HS
          clear hl
          go_wp2_with (at_builtin; refine wpList_app rfl (.tmp 25) (.tmp 27) rfl w.heap.size _ _ _ rfl ((HO1.out.alloc _).alloc _) (some ⟨w1.heap.size + 1, 0, none⟩) 1 [X] 1 rfl rfl ?c0 ?c1 ?c2 ?_)
          case c0 => have := ts_new (tx w1 X) X; simpa using this
          case c1 => simp; omega
          case c2 => simp; omega
          · intro v' w4 hown' hgrow
            have R1 : w4.ownsRow w.heap.size 54 3 v' (acc ++ [X]).length (flat (acc ++ [X])) := by
              simp only [List.length_append, flat_append]
              exact hown'
            have R2 : Below w.heap.size w w4 := ((hb1.alloc (by omega) _).alloc (by simp; omega) _).grown hgrow (by simp; omega) (fun q hq => by have := (HO1.out.lt q hq).1; omega)
            have R3 : (acc ++ [X]).length ≤ 33 := by simp; omega
            have HR1 : Hid (w4.ownsRow w.heap.size 54 3 v' (acc ++ [X]).length (flat (acc ++ [X]))) := R1
            have HR3 : Hid ((acc ++ [X]).length ≤ 33) := R3
            clear hown' hgrow R1 R3
            go_wp2_with fail
            go_roundw
            case rel => exact ⟨D', acc ++ [X], rfl, by have := HR'.out; omega, HS.out, HR3.out, HR1.out, R2⟩
            case measure => simpa [szOf] using HR'.out
        · have hl' : ¬ ((acc.length : Int) ≤ 32) := by omega
          rw [if_neg hl] at HS
          clear hl
          go_wp2_with fail
          go_roundw
          case rel => exact ⟨D', acc, rfl, by have := HR'.out; omega, HS.out, hacc, HO1.out.alloc _, hb1.alloc (by omega) _⟩
          case measure => simpa [szOf] using HR'.out
      · have hEb : (firstE D != 0) = true := by simpa using hE
        have HZ2 : Hid (([], firstE D) = Z) := (show _ = _ by rw [← HG.out, decGo_stop acc hD hE])
        have hO : Hid (O = ([], firstE D)) := (show _ = _ by rw [HR.out, ← HZ2.out, if_neg (fun h => hE h.1)])
        clear HG HZ2 HR hE
        generalize firstE D = E at *
        go_wp2_with fail
        go_ret2
        rw [hO.out]
        exact ⟨none, 0, rfl, .inl rfl, hb1.alloc (by omega) _⟩
end Go.Proofs.YtcbhkbiofmimbaaDoor

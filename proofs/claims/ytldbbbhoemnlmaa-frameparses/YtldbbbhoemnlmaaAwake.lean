/-
  The chapter's examples: 'awake' answers true.
-/
import Derived.Test.YtldbbbhoemnlmaaParse
namespace Go.Proofs.Ytldbbbhoemnlmaa
open Go.ChangeShapes Go.WideShapes Go.ChangeAt Go.RowKit

/-- So many noughts. -/
def zs (k : Nat) : List Int := List.replicate k 0
theorem zs_length (k : Nat) : (zs k).length = k := by simp [zs]
theorem mkZ (k : Nat) (w : World) (hk : k ≤ 64) : (Instr.makeSlice 35 (.int .i64 k) (.int .i64 k)).run Try.prog w = .ok (.slice (some ⟨w.heap.size, 0, none⟩) k k) (w.alloc (.cells ((zs k).map (Value.int .u8)).toArray 5)) := by
  obtain ⟨i0, hi, hz0, hz1, hz2⟩ := info_parts Try.info5
  rw [run_make w 35 5 i0 _ Try.underlying35 hi hz0 .i64 .i64 k k (by omega) (by omega) (by rw [hz2]; omega) (by omega), hz1]
  have e : madeCells (Value.int .u8 0).cells (Int.toNat (k : Int) * 1) = ((zs k).map (Value.int .u8)).toArray := by
    apply Array.ext <;> simp [madeCells, Value.cells, Nat.mod_one, zs]
  rw [e, Int.toNat_natCast]
theorem cvZ (k : Nat) (w : World) : (convert 35 9 (.slice (some ⟨w.heap.size, 0, none⟩) k k)).run Try.prog (w.alloc (.cells ((zs k).map (Value.int .u8)).toArray 5)) = .ok (.string (strOfNums (zs k))) (w.alloc (.cells ((zs k).map (Value.int .u8)).toArray 5)) := cvAny k (zs k) (zs_length k) w

def hiP : Pk := ⟨0, 0, 0, 34997, 0, 0, 0, 0, 0, 0, ⟨#[104, 105]⟩⟩
theorem ba_ext {a b : ByteArray} (h : a.data.toList = b.data.toList) : a = b := by
  cases a; cases b; simpa using h
theorem ba_append (a b : ByteArray) : (a ++ b).data.toList = a.data.toList ++ b.data.toList := by simp
theorem strOf_list (l : List Int) : (strOfNums l).data.toList = l.map fun n => UInt8.ofNat n.toNat := by simp [strOfNums]
theorem hiP_bytes : bytesS hiP = strOfNums (zs 12) ++ ⟨#[136, 181, 104, 105]⟩ := by
  have hr : rightB hiP = true := by decide
  have e : bytesS hiP = writeV hiP (sumA hiP) (sumB hiP) := if_pos ⟨hr, by decide⟩
  rw [e]
  apply ba_ext
  simp [writeV, outerV, hiP, pb, strOf_list, pieces, zs, List.replicate]
theorem hiP_none : bytesE hiP = 0 := by decide
theorem empty_parse : parseE noBytes = 11 := by
  have hr : rightB (readV noBytes) = false := by decide
  have nf : ¬ fits noBytes := fun h => by rw [h.1] at hr; cases hr
  unfold parseE; rw [if_pos (by decide), if_neg nf]

set_option maxHeartbeats 1000000 in
theorem awake_any (w : World) : Calls Try.prog 8 #[] w fun x w' => x = .returned (.bool true) ∧ Below w.heap.size w w' := by
  have HB : Hid (∀ w, Calls Try.prog 9 #[pkV hiP] w fun x w' => x = .returned (.tuple #[.string (strOfNums (zs 12) ++ ⟨#[136, 181, 104, 105]⟩), .int .i64 0]) ∧ Below w.heap.size w w') := by
    unfold Hid; intro w
    have h := bytesP_any hiP w (by constructor <;> decide) (by decide)
    rwa [hiP_bytes, hiP_none] at h
  have HE : Hid (∀ w, Calls Try.prog 11 #[.string ⟨#[]⟩] w fun x w' => x = .returned (.tuple #[pkV (parseP noBytes), .int .i64 11]) ∧ Below w.heap.size w w') := by
    unfold Hid; intro w
    have h := parse_any noBytes w (by unfold maxLen; decide)
    rwa [empty_parse] at h
  have hm : ∀ w : World, (Instr.makeSlice 35 (.int .i64 12) (.int .i64 12)).run Try.prog w = .ok (.slice (some ⟨w.heap.size, 0, none⟩) 12 12) (w.alloc (.cells ((zs 12).map (Value.int .u8)).toArray 5)) := fun w => mkZ 12 w (by omega)
  have hv : ∀ (w : World) (o : Obj), (convert 35 9 (.slice (some ⟨w.heap.size + 1, 0, none⟩) 12 12)).run Try.prog ((w.alloc o).alloc (.cells ((zs 12).map (Value.int .u8)).toArray 5)) = .ok (.string (strOfNums (zs 12))) ((w.alloc o).alloc (.cells ((zs 12).map (Value.int .u8)).toArray 5)) := fun w o => by
    have h := cvZ 12 (w.alloc o)
    rwa [show (w.alloc o).heap.size = w.heap.size + 1 by simp] at h
  have hz : ((strOfNums (zs 12)).size : Int) = 12 := by rw [strOfNums_size, zs_length]; rfl
  generalize zs 12 = z at *
  generalize parseP noBytes = q at *
  go_enter Try.func8, Try.ntmps8
  go_wp2_with fail
  refine (HB.out _).mono ?_
  rintro x w1 ⟨rfl, g1⟩
  go_wp2_with fail
  refine (HE.out _).mono ?_
  rintro x w2 ⟨rfl, g2⟩
  go_wp2_with fail
  go_ret
  exact ⟨rfl, by have := btr g1 g2 (Nat.le_refl _); exact btr this (by go_grown) (Nat.le_refl _)⟩
end Go.Proofs.Ytldbbbhoemnlmaa

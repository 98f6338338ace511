/-
  What the parts of bytes say of an entry: the plain mathematics (nothing of the program).
-/
import Derived.Test.YtcbhkbiofmimbaaDoorEFirst
namespace Go.Proofs.YtcbhkbiofmimbaaDoor

def num2 (d : ByteArray) : Int := (⟨d, 0⟩ : RS).num 2
theorem num2_range (d : ByteArray) : 0 ≤ num2 d ∧ num2 d < 65536 := by simpa [num2] using RS.num_lt (⟨d, 0⟩ : RS) 2 (by omega)
/-- The first part, what is behind it, and what it leaves. -/
def cutX (d : ByteArray) : ByteArray := d.extract 0 (fszZ d).toNat
def restX (d : ByteArray) : ByteArray := d.extract (fszZ d).toNat d.size
def nextX (d : ByteArray) (s : Sp) : Sp := readX (num2 d) (cutX d) s
def raGo : Nat → ByteArray → Sp → Int → Sp × Int
  | 0, _, s, _ => (s, 0)
  | n + 1, d, s, last =>
    if d.size = 0 then (s, 0) else if fszE d = 0 then
      (if partX (num2 d) (nextX d s) = cutX d then (if placeX (num2 d) ≤ last then (sp0, 23) else raGo n (restX d) (nextX d s) (placeX (num2 d))) else (sp0, 11))
    else (sp0, fszE d)
structure Fsz (d : ByteArray) : Prop where
  four : 4 ≤ d.size
  len : 8 ≤ sizeV d
  le : sizeV d ≤ d.size
  z : fszZ d = sizeV d
theorem fsz_of {d : ByteArray} (h : fszE d = 0) : Fsz d := by
  have hZ : fszZ d = sizeV d := by unfold fszZ; rw [if_pos h]
  unfold fszE at h
  split at h
  · cases h
  · split at h
    · cases h
    · split at h
      · cases h
      · exact ⟨by omega, by omega, by omega, hZ⟩
theorem cut_size {d : ByteArray} (h : fszE d = 0) : ((cutX d).size : Int) = sizeV d := by
  have f := fsz_of h
  have h1 := f.len
  have h2 := f.le
  unfold cutX
  rw [ByteArray.size_extract, f.z]
  omega
theorem rest_size {d : ByteArray} (h : fszE d = 0) : (restX d).size < d.size := by
  have f := fsz_of h
  have h1 := f.len
  have h2 := f.le
  unfold restX
  rw [ByteArray.size_extract, f.z]
  omega
theorem cut_rest {d : ByteArray} (h : fszE d = 0) : d = cutX d ++ restX d := by
  have f := fsz_of h
  have h1 := f.len
  have h2 := f.le
  exact cut_append d _ (by rw [f.z]; omega)
theorem raGo_fuel : ∀ (n : Nat) (d : ByteArray) (s : Sp) (last : Int), d.size ≤ n → raGo n d s last = raGo d.size d s last := by
  intro n
  induction n using Nat.strongRecOn with
  | ind n ih =>
    intro d s last hn
    match n, hn with
    | 0, hn => rw [show d.size = 0 by omega]
    | n + 1, hn =>
      by_cases hd : d.size = 0
      · rw [hd, raGo, raGo, if_pos hd]
      · obtain ⟨m, hm⟩ : ∃ m, d.size = m + 1 := ⟨d.size - 1, by omega⟩
        rw [hm, raGo, raGo]
        by_cases he : fszE d = 0
        · have hr := rest_size he
          rw [ih n (by omega) (restX d) _ _ (by omega)]
          rw [ih m (by omega) (restX d) _ _ (by omega)]
        · simp only [if_neg he, if_neg hd]
theorem raGo_end {d : ByteArray} (s : Sp) (last : Int) (h : d.size = 0) : raGo d.size d s last = (s, 0) := by rw [h, raGo]
theorem raGo_un {d : ByteArray} (s : Sp) (last : Int) (h : ¬ d.size = 0) : raGo d.size d s last = if fszE d = 0 then
      (if partX (num2 d) (nextX d s) = cutX d then (if placeX (num2 d) ≤ last then (sp0, 23) else raGo (restX d).size (restX d) (nextX d s) (placeX (num2 d))) else (sp0, 11))
    else (sp0, fszE d) := by
  obtain ⟨m, hm⟩ : ∃ m, d.size = m + 1 := ⟨d.size - 1, by omega⟩
  rw [hm, raGo, if_neg h]
  by_cases he : fszE d = 0
  · have hr := rest_size he
    rw [raGo_fuel m (restX d) _ _ (by omega)]
  · simp only [if_neg he]
def spT (t : Int) : Sp := ⟨t, [], [], false, 0, 0, 0, 0⟩
def raR (t : Int) (d : ByteArray) : Sp × Int := raGo d.size d (spT t) 0
/-- What Decode answers. -/
def decX (t : Int) (d : ByteArray) : Sp × Int :=
  if tabB t = false then (sp0, 26) else if (raR t d).2 ≠ 0 then (sp0, (raR t d).2) else if rightX (raR t d).1 ≠ 0 then (sp0, rightX (raR t d).1) else ((raR t d).1, 0)
end Go.Proofs.YtcbhkbiofmimbaaDoor

/-
  What packet is right, and which bytes it has: the document's words as plain functions.
-/
import Derived.Test.YtmlonfchbkmbcabDoorGBase
namespace Go.Proofs.YtmlonfchbkmbcabDoor.Fr

def inB (n lo hi : Int) : Bool := decide (lo ≤ n) && decide (n ≤ hi)
def hasB (p : Pk) : Bool := p.pro == 6 || p.pro == 17
def insideB (p : Pk) : Bool :=
  if p.ty = 2048 then inB p.life 0 255 && inB p.pro 0 255 && inB p.sp 0 (if hasB p then 65535 else 0) && inB p.dp 0 (if hasB p then 65535 else 0)
  else p.src == 0 && p.dst == 0 && p.life == 0 && p.pro == 0 && p.sp == 0 && p.dp == 0
def rightB (p : Pk) : Bool :=
  p.to / 281474976710656 == 0 && p.fr / 281474976710656 == 0 && (p.vl == 0 || inB p.vl 4096 8191) && inB p.ty 1536 65535 && p.ty != 33024 && insideB p

def partA (p : Pk) : Nat := if p.pro = 6 then 20 else if p.pro = 17 then 8 else 0
def partZ (p : Pk) : Nat := partA p + p.data.size
def aheadV (p : Pk) : Nat := 14 + partA p + (if p.vl = 0 then 0 else 4) + (if p.ty = 2048 then 20 else 0)

abbrev kBegin : ByteArray := ⟨#[69, 0]⟩
abbrev kMark : ByteArray := ⟨#[0, 0, 0, 0]⟩
abbrev kTcp : ByteArray := ⟨#[0, 0, 0, 0, 0, 0, 0, 0, 80, 16, 255, 255]⟩
abbrev kEnd : ByteArray := ⟨#[0, 0]⟩
def addrV (p : Pk) : ByteArray := pb p.src 4 ++ pb p.dst 4
def portsV (p : Pk) : ByteArray := pb p.sp 2 ++ pb p.dp 2
def headV (p : Pk) (c : Int) : ByteArray := kBegin ++ pb (20 + (partZ p : Int)) 2 ++ kMark ++ pb p.life 1 ++ pb p.pro 1 ++ pb c 2 ++ addrV p
def partV (p : Pk) (c : Int) : ByteArray :=
  if p.pro = 6 then portsV p ++ kTcp ++ pb c 2 ++ kEnd ++ p.data
  else if p.pro = 17 then portsV p ++ pb (partZ p : Int) 2 ++ pb c 2 ++ p.data
  else p.data
def pseudoV (p : Pk) : ByteArray := addrV p ++ pb p.pro 2 ++ pb (partZ p : Int) 2 ++ partV p 0
/-- Of Proto 17, 65535 in the place of 0. -/
def fixV (p : Pk) (n : Nat) : Nat := if p.pro = 17 ∧ n = 0 then 65535 else n
def partSumV (p : Pk) : Nat := if hasB p = true then fixV p (sumV (pseudoV p).data.toList) else 0
def headSumV (p : Pk) : Nat := sumV (headV p 0).data.toList
def sumA (p : Pk) : Nat := if p.ty = 2048 then headSumV p else 0
def sumB (p : Pk) : Nat := if p.ty = 2048 then partSumV p else 0
def outerV (p : Pk) : ByteArray :=
  (if p.vl = 0 then pb p.to 6 ++ pb p.fr 6 else (pb p.to 6 ++ pb p.fr 6) ++ (pb 33024 2 ++ pb (p.vl - 4096) 2)) ++ pb p.ty 2
def writeV (p : Pk) (a b : Int) : ByteArray :=
  if p.ty = 2048 then outerV p ++ headV p a ++ partV p b else outerV p ++ p.data
abbrev noBytes : ByteArray := ⟨#[]⟩
def bytesS (p : Pk) : ByteArray := if rightB p = true ∧ aheadV p + p.data.size ≤ 1500 then writeV p (sumA p) (sumB p) else noBytes
def bytesE (p : Pk) : Int := if rightB p = true then (if aheadV p + p.data.size ≤ 1500 then 0 else 44) else 1

/-- What the numbers of a packet are by their types. -/
structure Wf (p : Pk) : Prop where
  to0 : 0 ≤ p.to
  to1 : p.to < 18446744073709551616
  fr0 : 0 ≤ p.fr
  fr1 : p.fr < 18446744073709551616
  src0 : 0 ≤ p.src
  src1 : p.src < 4294967296
  dst0 : 0 ≤ p.dst
  dst1 : p.dst < 4294967296

/-- What the writers lean on. -/
structure Ok (p : Pk) : Prop where
  to0 : 0 ≤ p.to
  to1 : p.to < 281474976710656
  fr0 : 0 ≤ p.fr
  fr1 : p.fr < 281474976710656
  vl : p.vl = 0 ∨ (4096 ≤ p.vl ∧ p.vl ≤ 8191)
  ty0 : 1536 ≤ p.ty
  ty1 : p.ty ≤ 65535
  tyn : p.ty ≠ 33024
  src0 : 0 ≤ p.src
  src1 : p.src < 4294967296
  dst0 : 0 ≤ p.dst
  dst1 : p.dst < 4294967296
  life0 : 0 ≤ p.life
  life1 : p.life ≤ 255
  pro0 : 0 ≤ p.pro
  pro1 : p.pro ≤ 255
  sp0 : 0 ≤ p.sp
  sp1 : p.sp ≤ 65535
  dp0 : 0 ≤ p.dp
  dp1 : p.dp ≤ 65535
  sz : p.data.size ≤ 3000

theorem inB_iff {n lo hi : Int} : inB n lo hi = true ↔ lo ≤ n ∧ n ≤ hi := by simp [inB]

theorem right_iff (p : Pk) (h : Wf p) : rightB p = true ↔
    p.to < 281474976710656 ∧ p.fr < 281474976710656 ∧ (p.vl = 0 ∨ (4096 ≤ p.vl ∧ p.vl ≤ 8191)) ∧ (1536 ≤ p.ty ∧ p.ty ≤ 65535) ∧ p.ty ≠ 33024 ∧
    (if p.ty = 2048 then (0 ≤ p.life ∧ p.life ≤ 255) ∧ (0 ≤ p.pro ∧ p.pro ≤ 255) ∧ (0 ≤ p.sp ∧ p.sp ≤ (if hasB p then 65535 else 0)) ∧ (0 ≤ p.dp ∧ p.dp ≤ (if hasB p then 65535 else 0))
     else p.src = 0 ∧ p.dst = 0 ∧ p.life = 0 ∧ p.pro = 0 ∧ p.sp = 0 ∧ p.dp = 0) := by
  have e1 : p.to / 281474976710656 = 0 ↔ p.to < 281474976710656 := by have := h.to0; omega
  have e2 : p.fr / 281474976710656 = 0 ↔ p.fr < 281474976710656 := by have := h.fr0; omega
  unfold rightB insideB
  split <;> simp [inB_iff, e1, e2, and_assoc]

theorem Ok.of_right {p : Pk} (h : Wf p) (hr : rightB p = true) (hs : p.data.size ≤ 3000) : Ok p := by
  obtain ⟨a, b, c, ⟨d, d'⟩, e, f⟩ := (right_iff p h).1 hr
  obtain ⟨t0, t1, f0, f1, s0, s1, d0, d1⟩ := h
  split at f
  · obtain ⟨⟨l0, l1⟩, ⟨p0, p1⟩, ⟨q0, q1⟩, r0, r1⟩ := f
    have : (if hasB p = true then (65535 : Int) else 0) ≤ 65535 := by split <;> omega
    constructor <;> first | assumption | omega
  · obtain ⟨f1, f2, f3, f4, f5, f6⟩ := f
    constructor <;> first | assumption | omega

theorem partA_le (p : Pk) : partA p ≤ 20 := by unfold partA; split <;> (try split) <;> omega
theorem aheadV_le (p : Pk) : aheadV p ≤ 58 := by have := partA_le p; unfold aheadV; split <;> split <;> omega
theorem sumV_le (l : List UInt8) : sumV l ≤ 65535 := by unfold sumV; omega
theorem fixV_le (p : Pk) (n : Nat) (h : n ≤ 65535) : fixV p n ≤ 65535 := by unfold fixV; split <;> omega
theorem partSumV_le (p : Pk) : partSumV p ≤ 65535 := by
  unfold partSumV; split
  · exact fixV_le _ _ (sumV_le _)
  · omega
theorem sumA_le (p : Pk) : sumA p ≤ 65535 := by
  unfold sumA; split
  · exact sumV_le _
  · omega
theorem sumB_le (p : Pk) : sumB p ≤ 65535 := by
  unfold sumB; split
  · exact partSumV_le _
  · omega

theorem addrV_size (p : Pk) : (addrV p).size = 8 := by simp [addrV, pb_size]
theorem portsV_size (p : Pk) : (portsV p).size = 4 := by simp [portsV, pb_size]
theorem kBegin_size : kBegin.size = 2 := rfl
theorem kMark_size : kMark.size = 4 := rfl
theorem kTcp_size : kTcp.size = 12 := rfl
theorem kEnd_size : kEnd.size = 2 := rfl
theorem headV_size (p : Pk) (c : Int) : (headV p c).size = 20 := by simp only [headV, ByteArray.size_append, pb_size, addrV_size, kBegin_size, kMark_size]
theorem partV_size (p : Pk) (c : Int) : (partV p c).size = partZ p := by
  unfold partV partZ partA
  split
  · simp only [ByteArray.size_append, pb_size, portsV_size, kTcp_size, kEnd_size]
  · split
    · simp only [ByteArray.size_append, pb_size, portsV_size]
    · omega
theorem outerV_size (p : Pk) : (outerV p).size = 14 + (if p.vl = 0 then 0 else 4) := by
  unfold outerV; split <;> simp [ByteArray.size_append, pb_size]
theorem pseudoV_size (p : Pk) : (pseudoV p).size = 12 + partZ p := by
  simp only [pseudoV, ByteArray.size_append, pb_size, addrV_size, partV_size]
/-- How long a right packet's bytes are. -/
theorem writeV_size (p : Pk) (a b : Int) (h : p.ty = 2048 ∨ p.pro = 0) : (writeV p a b).size = aheadV p + p.data.size := by
  unfold writeV aheadV
  split
  · simp only [ByteArray.size_append, outerV_size, headV_size, partV_size, partZ]; omega
  · have : partA p = 0 := by unfold partA; simp [show p.pro = 0 by omega]
    simp only [ByteArray.size_append, outerV_size]; omega
theorem right_pro {p : Pk} (h : Wf p) (hr : rightB p = true) : p.ty = 2048 ∨ p.pro = 0 := by
  obtain ⟨_, _, _, _, _, f⟩ := (right_iff p h).1 hr
  split at f
  · left; assumption
  · right; exact f.2.2.2.1
end Go.Proofs.YtmlonfchbkmbcabDoor.Fr

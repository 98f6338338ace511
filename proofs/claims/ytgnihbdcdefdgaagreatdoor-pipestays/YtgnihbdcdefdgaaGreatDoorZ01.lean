/-
  Joined: Act, Bits, Num, Base, Spec, Place, Tab, Right.
-/
import Derived.WalkKit
import Derived.Laws.BitsLemmas
import Derived.Laws.BytesArg
import Derived.Test.YtgnihbdcdefdgaaGreatDoorRows
import Derived.ProofKit
import Derived.OpenShut
import Derived.Handy
import Derived.BigQuiet
import Derived.Deep.RegionWith
import Derived.Laws.ResultCell
import Derived.Laws.StructEq
/-
  Actions: the plain mathematics (nothing of the program).
-/
namespace Go.Proofs.YtgnihbdcdefdgaaGreatDoor
/-- An action: Kind, Field, Value. -/
abbrev A := Int × Int × Int
/-- An action's numbers are of their types. -/
structure AW (a : A) : Prop where
  f0 : -9223372036854775808 ≤ a.2.1
  f1 : a.2.1 < 9223372036854775808
  v0 : 0 ≤ a.2.2
  v1 : a.2.2 < 18446744073709551616
abbrev AWs (l : List A) : Prop := ∀ a ∈ l, AW a
end Go.Proofs.YtgnihbdcdefdgaaGreatDoor
/-
  Bits of numbers of 64 bits: the plain mathematics (nothing of the program).
-/
namespace Go.Proofs.YtgnihbdcdefdgaaGreatDoor

theorem wrap_u (n : Int) : IntKind.u64.wrap n = n % 18446744073709551616 := by simp [IntKind.wrap, IntKind.bits, IntKind.signed]
theorem wrap_nat (b : BitVec 64) : IntKind.u64.wrap (b.toNat : Int) = (b.toNat : Int) := by rw [wrap_u]; have := b.isLt; omega
abbrev bv (x : Int) : BitVec 64 := BitVec.ofInt 64 x
theorem bv_nat (b : BitVec 64) : bv (b.toNat : Int) = b := by
  apply BitVec.eq_of_toNat_eq
  rw [BitVec.toNat_ofInt]
  have := b.isLt
  omega
theorem nat_bv (x : Int) (h0 : 0 ≤ x) (h1 : x < 18446744073709551616) : ((bv x).toNat : Int) = x := by
  rw [BitVec.toNat_ofInt]
  omega
theorem u_and (x y : Int) : bits .and .u64 x y = ((bv x &&& bv y).toNat : Int) := wrap_nat _
theorem u_xor (x y : Int) : bits .xor .u64 x y = ((bv x ^^^ bv y).toNat : Int) := wrap_nat _
theorem u_not (x y : Int) : bits .andNot .u64 x y = ((bv x &&& ~~~bv y).toNat : Int) := wrap_nat _
theorem nat_inj {a b : BitVec 64} (h : (a.toNat : Int) = (b.toNat : Int)) : a = b := BitVec.eq_of_toNat_eq (by omega)
theorem and_iff (x y z : Int) (h0 : 0 ≤ z) (h1 : z < 18446744073709551616) : bits .and .u64 x y = z ↔ bv x &&& bv y = bv z := by
  rw [u_and]
  constructor
  · intro h
    apply nat_inj
    rw [h, nat_bv z h0 h1]
  · intro h
    rw [h, nat_bv z h0 h1]
theorem bv_ext {a b : BitVec 64} (h : ∀ i, a.getLsbD i = b.getLsbD i) : a = b := BitVec.eq_of_getLsbD_eq fun i _ => h i
theorem bit_of {a b : BitVec 64} (h : a = b) (i : Nat) : a.getLsbD i = b.getLsbD i := by rw [h]
theorem not_iff (v m : Int) (h0 : 0 ≤ v) (h1 : v < 18446744073709551616) : bits .andNot .u64 v m = 0 ↔ bits .and .u64 v m = v := by
  rw [and_iff v m v h0 h1, u_not]
  constructor
  · intro h
    have h' : bv v &&& ~~~bv m = 0#64 := BitVec.eq_of_toNat_eq (by simpa using h)
    apply bv_ext
    intro i
    have := bit_of h' i
    by_cases hi : i < 64
    · simp [hi] at this ⊢
      exact this
    · rw [BitVec.getLsbD_of_ge _ _ (by omega), BitVec.getLsbD_of_ge _ _ (by omega)]
  · intro h
    have h' : bv v &&& ~~~bv m = 0#64 := by
      apply bv_ext
      intro i
      have := bit_of h i
      by_cases hi : i < 64
      · simp [hi] at this ⊢
        exact this
      · rw [BitVec.getLsbD_of_ge _ _ (by omega), BitVec.getLsbD_of_ge _ _ (by omega)]
    rw [h']
    rfl
/-- A value that has no bits beside its mask is no greater. -/
theorem le_of_and (v m : Int) (g0 : 0 ≤ m) (g1 : m < 18446744073709551616) (h : bits .and .u64 v m = v) : v ≤ m := by
  rw [u_and, BitVec.toNat_and] at h
  have := nat_bv m g0 g1
  have := Nat.and_le_right (n := (bv v).toNat) (m := (bv m).toNat)
  omega
theorem and_range (x y : Int) : 0 ≤ bits .and .u64 x y ∧ bits .and .u64 x y < 18446744073709551616 := by
  rw [u_and]
  have := (bv x &&& bv y).isLt
  omega
/-- What passes a test that asks for more passes one that asks for less. -/
theorem and_cover (g um uv tm tv : Int) (a0 : 0 ≤ tv) (a1 : tv < 18446744073709551616) (b0 : 0 ≤ tm) (b1 : tm < 18446744073709551616) (c0 : 0 ≤ uv) (c1 : uv < 18446744073709551616)
    (h1 : bits .and .u64 um tm = tm) (h2 : bits .and .u64 uv tm = tv) (h3 : bits .and .u64 g um = uv) : bits .and .u64 g tm = tv := by
  rw [and_iff _ _ _ b0 b1] at h1
  rw [and_iff _ _ _ a0 a1] at h2 ⊢
  rw [and_iff _ _ _ c0 c1] at h3
  rw [← h2, ← h3, BitVec.and_assoc, h1]
/-- Two tests that one number passes ask for no bit to be two. -/
theorem and_meet (g um uv tm tv : Int) (a0 : 0 ≤ tv) (a1 : tv < 18446744073709551616) (c0 : 0 ≤ uv) (c1 : uv < 18446744073709551616)
    (h2 : bits .and .u64 g tm = tv) (h3 : bits .and .u64 g um = uv) : bits .and .u64 (bits .and .u64 (bits .xor .u64 uv tv) um) tm = 0 := by
  rw [and_iff _ _ _ (by decide) (by decide), u_and, bv_nat, u_xor, bv_nat]
  rw [and_iff _ _ _ a0 a1] at h2
  rw [and_iff _ _ _ c0 c1] at h3
  rw [← h2, ← h3]
  apply bv_ext
  intro i
  by_cases hi : i < 64
  · simp
    cases (bv g).getLsbD i <;> cases (bv um).getLsbD i <;> cases (bv tm).getLsbD i <;> simp
  · rw [BitVec.getLsbD_of_ge _ _ (by omega), BitVec.getLsbD_of_ge _ _ (by omega)]
theorem wraps_u64 (n : Int) (h₀ : 0 ≤ n) (h₁ : n < 2 ^ 64) : IntKind.u64.wrap n = n := by rw [wrap_u]; omega
theorem and_u (j : Nat) (hj : j ≤ 64) (a : Int) (h0 : 0 ≤ a) (h1 : a < 2 ^ 64) : bits .and .u64 a (2 ^ j - 1) = a % 2 ^ j := bits_mask .u64 64 (by decide) wraps_u64 j hj a h0 h1
end Go.Proofs.YtgnihbdcdefdgaaGreatDoor
/-
  Numbers as bytes, and a reader of bytes as plain functions: the plain mathematics (nothing of the program).
-/
namespace Go.Proofs.YtgnihbdcdefdgaaGreatDoor

/-- A number's last k bytes, the highest one first. -/
def pieces (n : Int) : Nat → List Int
  | 0 => []
  | k + 1 => pieces (n / 256) k ++ [n % 256]
def szB (n : Int) : Bool := decide (1 ≤ n) && decide (n ≤ 8)

/-- One byte more: 'n<<8 | uint64(c)'. -/
def stepN (v : Int) (c : UInt8) : Int := bits .or .u64 (IntKind.u64.wrap (v * 256)) (IntKind.u64.wrap (c.toNat : Int))
def numOf (l : List UInt8) : Int := l.foldl stepN 0


theorem stepN_eq (v : Int) (c : UInt8) (h0 : 0 ≤ v) (h1 : v < 72057594037927936) : stepN v c = v * 256 + (c.toNat : Int) := by
  have hc : (c.toNat : Int) < 256 := by have := c.toNat_lt; omega
  unfold stepN
  rw [wraps_u64 _ (by omega) (by omega), wraps_u64 _ (by omega) (by omega)]
  exact bits_join .u64 64 (by decide) wraps_u64 8 _ _ (by omega) (by omega) (by omega) (by omega) (by omega) (by omega)

theorem numOf_snoc (l : List UInt8) (c : UInt8) : numOf (l ++ [c]) = stepN (numOf l) c := by simp [numOf]

/-- The bytes of a number are its number. -/
theorem numOf_pieces : ∀ (k : Nat) (n : Int), k ≤ 8 → 0 ≤ n → n < 256 ^ k → numOf ((pieces n k).map fun n => UInt8.ofNat n.toNat) = n
  | 0, n, _, h0, h1 => by
    have : n = 0 := by simp at h1; omega
    subst this; rfl
  | k + 1, n, hk, h0, h1 => by
    have hd : n / 256 < 256 ^ k := by
      apply Int.ediv_lt_of_lt_mul (by omega)
      rw [Int.pow_succ] at h1; exact h1
    have ih := numOf_pieces k (n / 256) (by omega) (by omega) hd
    have hb : (256 : Int) ^ k ≤ 72057594037927936 := by
      have h := Nat.pow_le_pow_right (show 0 < 256 by decide) (show k ≤ 7 by omega)
      have h2 : ((256 ^ k : Nat) : Int) ≤ 72057594037927936 := by omega
      rwa [Int.natCast_pow] at h2
    simp only [pieces, List.map_append, List.map_cons, List.map_nil, numOf_snoc, ih]
    rw [stepN_eq _ _ (by omega) (by omega), UInt8.toNat_ofNat']
    omega

theorem pieces_length : ∀ (k : Nat) (n : Int), (pieces n k).length = k
  | 0, _ => rfl
  | k + 1, n => by simp [pieces, pieces_length k]

theorem take_snoc (s : ByteArray) (k : Nat) (h : k < s.size) : s.data.toList.take (k + 1) = s.data.toList.take k ++ [s[k]] := by
  rw [List.take_succ_eq_append_getElem (by simpa using h)]; rfl

theorem numOf_take (s : ByteArray) (k : Nat) (h : k < s.size) : numOf (s.data.toList.take (k + 1)) = stepN (numOf (s.data.toList.take k)) s[k] := by
  rw [take_snoc s k h, numOf_snoc]
/-- The number of few bytes is small. -/
theorem numOf_lt : ∀ (l : List UInt8), l.length ≤ 8 → 0 ≤ numOf l ∧ numOf l < 256 ^ l.length := by
  intro l
  induction h : l.length generalizing l with
  | zero => intro _; rw [List.length_eq_zero_iff] at h; subst h; exact ⟨by decide, by decide⟩
  | succ k ih =>
    intro hk
    have hne : l ≠ [] := by intro h0; subst h0; simp at h
    have e := List.dropLast_concat_getLast hne
    have hl : l.dropLast.length = k := by simp [h]
    obtain ⟨i0, i1⟩ := ih l.dropLast hl (by omega)
    rw [← e, numOf_snoc]
    have hb : (256 : Int) ^ k ≤ 72057594037927936 := by
      have h := Nat.pow_le_pow_right (show 0 < 256 by decide) (show k ≤ 7 by omega)
      have h2 : ((256 ^ k : Nat) : Int) ≤ 72057594037927936 := by omega
      rwa [Int.natCast_pow] at h2
    have hc := (l.getLast hne).toNat_lt
    rw [stepN_eq _ _ i0 (by omega), Int.pow_succ]
    omega

/-- A number's bytes. -/
def pb (n : Int) (k : Nat) : ByteArray := strOfNums (pieces n k)
theorem pb_size (n : Int) (k : Nat) : (pb n k).size = k := by unfold pb; rw [strOfNums_size, pieces_length]
theorem ba_ext {a b : ByteArray} (h : a.data.toList = b.data.toList) : a = b := by
  cases a; cases b; simpa using h
theorem ba_append (a b : ByteArray) : (a ++ b).data.toList = a.data.toList ++ b.data.toList := by simp
theorem strOf_list (l : List Int) : (strOfNums l).data.toList = l.map fun n => UInt8.ofNat n.toNat := by simp [strOfNums]
def noB : ByteArray := ⟨#[]⟩
/-- What 'take' answers, and what is left, and what is wrong behind it. -/
def takeV (s : ByteArray) (e n : Int) (may : Bool) : ByteArray := if e = 0 ∧ may = true ∧ n ≤ s.size then s.extract 0 n.toNat else noB
def takeS (s : ByteArray) (e n : Int) (may : Bool) : ByteArray := if e = 0 then (if may = true ∧ n ≤ s.size then s.extract n.toNat s.size else noB) else s
def takeE (s : ByteArray) (e n : Int) (may : Bool) : Int := if e = 0 then (if may = true then (if n ≤ s.size then 0 else 10) else 1) else e

theorem takeV_size (s : ByteArray) (e n : Int) (may : Bool) : (takeV s e n may).size ≤ s.size := by
  unfold takeV; split
  · rw [ByteArray.size_extract]; omega
  · exact Nat.zero_le _

def numV (s : ByteArray) (e n : Int) : Int := numOf (takeV s e n (szB n)).data.toList
/-- A reader: what is left, and what is wrong. -/
structure RS where
  s : ByteArray
  e : Int
def RS.num (r : RS) (n : Int) : Int := numV r.s r.e n
def RS.skip (r : RS) (n : Int) : RS := ⟨takeS r.s r.e n (szB n), takeE r.s r.e n (szB n)⟩
def RS.jump (r : RS) (n : Int) : RS := ⟨takeS r.s r.e n (decide (0 ≤ n)), takeE r.s r.e n (decide (0 ≤ n))⟩
def RS.bytes (r : RS) (n : Int) : ByteArray := takeV r.s r.e n (decide (0 ≤ n))

theorem takeS_size (s : ByteArray) (e n : Int) (may : Bool) : (takeS s e n may).size ≤ s.size := by
  unfold takeS; split
  · split
    · rw [ByteArray.size_extract]; omega
    · exact Nat.zero_le _
  · exact Nat.le_refl _
theorem RS.skip_size (r : RS) (n : Int) : (r.skip n).s.size ≤ r.s.size := takeS_size _ _ _ _
theorem RS.jump_size (r : RS) (n : Int) : (r.jump n).s.size ≤ r.s.size := takeS_size _ _ _ _

theorem takeV_le (s : ByteArray) (e : Int) (k : Nat) (may : Bool) : (takeV s e k may).size ≤ k := by
  unfold takeV; split
  · rw [ByteArray.size_extract]; omega
  · exact Nat.zero_le _
theorem RS.num_lt (r : RS) (k : Nat) (hk : k ≤ 8) : 0 ≤ r.num k ∧ r.num k < 256 ^ k := by
  unfold RS.num numV
  have h := takeV_le r.s r.e k (szB k)
  have hl : (takeV r.s r.e k (szB k)).data.toList.length ≤ k := by simpa using h
  obtain ⟨a, b⟩ := numOf_lt (takeV r.s r.e k (szB k)).data.toList (by omega)
  refine ⟨a, Int.lt_of_lt_of_le b ?_⟩
  have := Nat.pow_le_pow_right (show 0 < 256 by decide) hl
  have h2 := Int.ofNat_le.mpr this
  rw [Int.natCast_pow, Int.natCast_pow] at h2
  exact h2

theorem ap_assoc (a b c : ByteArray) : a ++ b ++ c = a ++ (b ++ c) := by apply ba_ext; simp
theorem pb_list (n : Int) (k : Nat) : (pb n k).data.toList = (pieces n k).map fun n => UInt8.ofNat n.toNat := strOf_list _
theorem pb_len (n : Int) (k : Nat) : (pb n k).data.toList.length = k := by rw [pb_list, List.length_map, pieces_length]

theorem extract_left (x t : ByteArray) : (x ++ t).extract 0 x.size = x := by
  apply ba_ext; simp
  exact List.take_of_length_le (by simp)
theorem extract_right (x t : ByteArray) : (x ++ t).extract x.size (x ++ t).size = t := by
  apply ba_ext
  have e : x.size = x.data.toList.length := by simp
  simp only [ByteArray.data_extract, Array.toList_extract, ByteArray.data_append, ByteArray.size_append]
  rw [List.extract_eq_take_drop, e, Array.toList_append, List.drop_left]
  exact List.take_of_length_le (by simp)

theorem skip_ap (x t : ByteArray) (k : Nat) (hx : x.size = k) (hs : szB k = true) : (⟨x ++ t, 0⟩ : RS).skip k = ⟨t, 0⟩ := by
  have hle : (k : Int) ≤ ((x ++ t).size : Int) := by rw [ByteArray.size_append]; omega
  unfold RS.skip takeS takeE
  simp only [hs, hle, and_self, if_true, Int.toNat_natCast]
  rw [← hx, extract_right]
theorem num_ap (n : Int) (t : ByteArray) (k : Nat) (hk : k ≤ 8) (hs : szB k = true) (h0 : 0 ≤ n) (h1 : n < 256 ^ k) : (⟨pb n k ++ t, 0⟩ : RS).num k = n := by
  have hx := pb_size n k
  have hle : (k : Int) ≤ ((pb n k ++ t).size : Int) := by rw [ByteArray.size_append]; omega
  unfold RS.num numV takeV
  simp only [hs, hle, and_self, if_true, Int.toNat_natCast]
  have e : (pb n k ++ t).extract 0 k = pb n k := by
    have := extract_left (pb n k) t
    rwa [hx] at this
  rw [e, pb_list]
  exact numOf_pieces k n hk h0 h1
theorem jump_ap (x t : ByteArray) (k : Nat) (hx : x.size = k) : (⟨x ++ t, 0⟩ : RS).jump k = ⟨t, 0⟩ := by
  have hle : (k : Int) ≤ ((x ++ t).size : Int) := by rw [ByteArray.size_append]; omega
  have h0 : (0 : Int) ≤ (k : Int) := by omega
  unfold RS.jump takeS takeE
  simp only [h0, hle, and_self, if_true, Int.toNat_natCast, decide_true]
  rw [← hx, extract_right]
theorem bytes_all (t : ByteArray) : (⟨t, 0⟩ : RS).bytes t.size = t := by
  unfold RS.bytes takeV
  simp only [Int.natCast_nonneg, decide_true, Int.le_refl, and_self, if_true, Int.toNat_natCast]
  apply ba_ext; simp

theorem num1_ap (n : Int) (t : ByteArray) (h0 : 0 ≤ n) (h1 : n ≤ 255) : (⟨pb n 1 ++ t, 0⟩ : RS).num 1 = n := num_ap n t 1 (by omega) (by decide) h0 (by omega)
theorem num2_ap (n : Int) (t : ByteArray) (h0 : 0 ≤ n) (h1 : n ≤ 65535) : (⟨pb n 2 ++ t, 0⟩ : RS).num 2 = n := num_ap n t 2 (by omega) (by decide) h0 (by omega)
theorem num4_ap (n : Int) (t : ByteArray) (h0 : 0 ≤ n) (h1 : n < 4294967296) : (⟨pb n 4 ++ t, 0⟩ : RS).num 4 = n := num_ap n t 4 (by omega) (by decide) h0 (by omega)
theorem num6_ap (n : Int) (t : ByteArray) (h0 : 0 ≤ n) (h1 : n < 281474976710656) : (⟨pb n 6 ++ t, 0⟩ : RS).num 6 = n := num_ap n t 6 (by omega) (by decide) h0 (by omega)
theorem skip1_ap (n : Int) (t : ByteArray) : (⟨pb n 1 ++ t, 0⟩ : RS).skip 1 = ⟨t, 0⟩ := skip_ap _ t 1 (pb_size _ _) (by decide)
theorem skip2_ap (n : Int) (t : ByteArray) : (⟨pb n 2 ++ t, 0⟩ : RS).skip 2 = ⟨t, 0⟩ := skip_ap _ t 2 (pb_size _ _) (by decide)
theorem skip4_ap (n : Int) (t : ByteArray) : (⟨pb n 4 ++ t, 0⟩ : RS).skip 4 = ⟨t, 0⟩ := skip_ap _ t 4 (pb_size _ _) (by decide)
theorem skip6_ap (n : Int) (t : ByteArray) : (⟨pb n 6 ++ t, 0⟩ : RS).skip 6 = ⟨t, 0⟩ := skip_ap _ t 6 (pb_size _ _) (by decide)

end Go.Proofs.YtgnihbdcdefdgaaGreatDoor
/-
  Actions as the program has them: values, cells, slices; a region that draws its order, whose callees make memory and leave what was there: walked once.
-/
namespace Go.Proofs.YtgnihbdcdefdgaaGreatDoor
open Go.ChangeShapes Go.WideShapes Go.ChangeAt Go.RowKit

/-- An action's value, its cells, and that they lie at a place. -/
abbrev tV (t : A) : Value := .agg #[.int .i64 t.1, .int .i64 t.2.1, .int .u64 t.2.2]
abbrev tC (t : A) : Array Value := #[.int .i64 t.1, .int .i64 t.2.1, .int .u64 t.2.2]
abbrev tx (w : World) (t : A) : World := w.alloc (.cells (tC t) 95)
abbrev C3 (w : World) (b o : Nat) (t : A) : Prop := w.cell? ⟨b, o, none⟩ = some (.int .i64 t.1) ∧ w.cell? ⟨b, o + 1, none⟩ = some (.int .i64 t.2.1) ∧ w.cell? ⟨b, o + 2, none⟩ = some (.int .u64 t.2.2)
theorem C3.new (w : World) (t : A) : C3 (tx w t) w.heap.size 0 t := by unfold C3 tx; simp
theorem C3.block {w w' : World} {b o : Nat} {t : A} (h : C3 w b o t) (g : w'.heap[b]? = w.heap[b]?) : C3 w' b o t := by
  obtain ⟨h0, h1, h2⟩ := h
  have e : ∀ o, w'.cell? ⟨b, o, none⟩ = w.cell? ⟨b, o, none⟩ := fun o => World.cell?_of_block (w := w) g
  exact ⟨(e _).trans h0, (e _).trans h1, (e _).trans h2⟩
theorem C3.below {w w' : World} {b o B : Nat} {t : A} (h : C3 w b o t) (hb : b < B) (g : Below B w w') : C3 w' b o t := h.block (g.block b hb)
/-- Whether two actions are one. -/
def eqB (t u : A) : Bool := decide (t = u)
theorem eqB_true {t u : A} : eqB t u = true ↔ t = u := by unfold eqB; simp
theorem eqB_false {t u : A} : eqB t u = false ↔ t ≠ u := by unfold eqB; simp
theorem eqT (t u : A) (w : World) : (binOp .eql 95 (tV t) (tV u)).run Tryz.prog w = .ok (.bool (eqB t u)) w := by
  have u3 := Tryz.underlying3
  have a3 := Tryz.isAgg3
  have z3 := Tryz.sizeOf3
  have u4 := Tryz.underlying44
  have a4 := Tryz.isAgg44
  have z4 := Tryz.sizeOf44
  have hS : Tryz.prog.underlying 95 = some (.struct (Tryz.prog.fieldsOf 95)) := by kernel_rfl
  have hp : Tryz.prog.stoodInHeld 95 = false := by kernel_rfl
  rw [run_eql_struct, show (10000 : Nat) = 9999 + 1 from rfl, run_equalIn_agg w 9999 95 _ _ hS hp]
  simp only [Program.fieldsOf, Tryz.underlying95]
  go_simp
  unfold eqB
  obtain ⟨a, b, c⟩ := t
  obtain ⟨x, y, z⟩ := u
  by_cases h1 : a = x <;> by_cases h2 : b = y <;> by_cases h3 : c = z <;> simp [h1, h2, h3]
theorem guT (op : BinOp) (x y : Operand) (t u : A) (w : World) : (eqGuard op 95 x y (tV t) (tV u)).run Tryz.prog w = .ok () w := run_eqGuard_agg w op 95 x y _ _ (by kernel_rfl)
theorem neT (t u : A) (w : World) : (binOp .neq 95 (tV t) (tV u)).run Tryz.prog w = .ok (.bool (!eqB t u)) w := by
  have h := eqT t u w
  rw [run_eql_struct] at h
  rw [run_neq_struct]
  generalize (Op.equalIn 10000 95 (tV t) (tV u)).run Tryz.prog w = r at h ⊢
  cases r with
  | ok b w' => simp [Result.andThen] at h ⊢; exact ⟨by rw [h.1], h.2⟩
  | halt x w' => simp [Result.andThen] at h
/-- A slice's address, and the actions that lie there. -/
def Ts (w : World) (a : Option Addr) (l : List A) : Prop :=
  l = [] ∨ ∃ g o, a = some ⟨g, o, none⟩ ∧ g < w.heap.size ∧ ∀ i (h : i < l.length), C3 w g (o + i * 3) l[i]
theorem Ts.below {w w' : World} {a : Option Addr} {l : List A} (h : Ts w a l) (g : Below w.heap.size w w') : Ts w' a l := by
  rcases h with h | ⟨b, o, ha, hb, hc⟩
  · exact .inl h
  · exact .inr ⟨b, o, ha, Nat.lt_of_lt_of_le hb g.size, fun i hi => (hc i hi).below hb g⟩
theorem Ts.take {w : World} {a : Option Addr} {l : List A} (h : Ts w a l) (k : Nat) : Ts w a (l.take k) := by
  rcases h with rfl | ⟨b, o, ha, hb, hc⟩
  · exact .inl (by simp)
  · exact .inr ⟨b, o, ha, hb, fun i hi => by
      have hi' : i < l.length := by rw [List.length_take] at hi; omega
      rw [List.getElem_take]
      exact hc i hi'⟩
theorem Ts.at {w : World} {a : Option Addr} {l : List A} (h : Ts w a l) {k : Nat} (hk : k < l.length) : ∃ g o, a = some ⟨g, o, none⟩ ∧ g < w.heap.size ∧ ∀ i (h : i < l.length), C3 w g (o + i * 3) l[i] := by
  rcases h with rfl | h
  · cases hk
  · exact h
theorem Ts.alloc {w : World} {a : Option Addr} {l : List A} (h : Ts w a l) (o : Obj) : Ts (w.alloc o) a l := h.below (by go_grown)
theorem take_snoc_get (l : List A) (k : Nat) (h : k < l.length) : l.take (k + 1) = l.take k ++ [l[k]] := List.take_succ_eq_append_getElem h

/-- A world that was grown out of another one. -/
structure GrS (W : World) where
  w : World
  h : Below W.heap.size W w
/-- Such a world, or that one itself. -/
abbrev GrT (W : World) : Type := Option (GrS W)
def GrT.w {W : World} : GrT W → World
  | none => W
  | some g => g.w
theorem GrT.h {W : World} : (n : GrT W) → Below W.heap.size W n.w
  | none => Below.refl _ _
  | some g => g.h
theorem gr_elim {W w' : World} (h : ∃ n : GrT W, w' = n.w) : Below W.heap.size W w' := by
  obtain ⟨n, rfl⟩ := h
  exact n.h
theorem wp_region_grow {P : Program} {id : Nat} {Q : Exit → Act → World → Prop} {a : Act} {w : World} {l : List Oper} (hm : P.follows .mixedOrders = true) (hB : Region.lexB .any l.toArray = true)
    (h : wpQuiet P l.toArray (fun w' => ∃ n : GrT w, w' = n.w) (fun a' => ∀ w', (∃ n : GrT w, w' = n.w) → Q .normal a' w') l a) : (Code.region id l.toArray true).wp P Q a w :=
  wp_region_quiet (C := fun w' => ∃ n : GrT w, w' = n.w) hm hB ⟨some ⟨_, (Below.refl _ w).drew⟩, rfl⟩ (by simpa using h)
theorem btr {a b c : World} {k : Nat} (h : Below k a b) (g : Below b.heap.size b c) (hk : k ≤ a.heap.size) : Below k a c := h.trans (g.mono (Nat.le_trans hk h.size))
/-- A callee that leaves what was there. -/
theorem quiet_gr {P : Program} {f : FuncId} {args : Array Value} {W : World} {n : GrT W} {v : Value}
    (h : Calls P f args n.w fun e w' => e = .returned v ∧ Below n.w.heap.size n.w w') : Calls P f args n.w fun e w'' => e = .returned v ∧ ∃ m : GrT W, w'' = m.w :=
  h.mono fun _ w' ⟨he, hm⟩ => ⟨he, some ⟨w', btr n.h hm (Nat.le_refl _)⟩, rfl⟩
theorem quiet_gs {P : Program} {f : FuncId} {args : Array Value} {W : World} {n : GrT W} {v : Value}
    (h : Calls P f args n.w fun e w' => e = .returned v ∧ w' = n.w) : Calls P f args n.w fun e w'' => e = .returned v ∧ ∃ m : GrT W, w'' = m.w :=
  h.mono fun _ _ ⟨he, hm⟩ => ⟨he, n, hm⟩
theorem bdr {B : Nat} {a w : World} (h : Below B a w) (n : Nat) : Below B a (w.drewN n) := h.trans ⟨rfl, rfl, rfl, Nat.le_refl _, fun _ _ => rfl⟩
theorem C3.gr {W : World} {b o : Nat} {t : A} (h : C3 W b o t) (hb : b < W.heap.size) (n : GrT W) : C3 n.w b o t := h.below hb n.h
theorem Ts.gr {W : World} {a : Option Addr} {l : List A} (h : Ts W a l) (n : GrT W) : Ts n.w a l := h.below n.h
/-- What is answered in cells. -/
theorem loadT (w : World) (b : Nat) (t : A) (h : C3 w b 0 t) : (loadVar 95 ⟨b, 0, none⟩).run Tryz.prog w = .ok (tV t) w := by
  obtain ⟨h0, h1, h2⟩ := h
  simp [go_sem, *]
theorem resT {fn : Func} {k : Tmp} (h : fn.results = #[.cell k 95]) {tmps : Array Value} {w : World} {b : Nat} {t : A} (ht : tmps.getD k undef = .pointer (some ⟨b, 0, none⟩)) (hs : C3 w b 0 t) :
    (results fn tmps).run Tryz.prog w = .ok (tV t) w := by
  have ht' : tmps[k]?.getD undef = .pointer (some ⟨b, 0, none⟩) := by simpa using ht
  simp [results, h, ht', asAddr, loadT w b t hs]
theorem ret_bool {a b : Bool} (h : a = b) : Ending.returned (.bool a) = Ending.returned (.bool b) := by rw [h]
theorem ret_int {k : IntKind} {a b : Int} (h : a = b) : Ending.returned (.int k a) = Ending.returned (.int k b) := by rw [h]
theorem btrans {a b c : World} (h : Below a.heap.size a b) (k : Below b.heap.size b c) : Below a.heap.size a c := h.trans (k.mono h.size)
end Go.Proofs.YtgnihbdcdefdgaaGreatDoor
/-
  Actions, when they are right, and the bytes that they are: the plain mathematics (nothing of the program).
-/
namespace Go.Proofs.YtgnihbdcdefdgaaGreatDoor

theorem cls9 {f : Int} (h : ¬ (f < 1 ∨ 9 < f)) : f = 1 ∨ f = 2 ∨ f = 3 ∨ f = 4 ∨ f = 5 ∨ f = 6 ∨ f = 7 ∨ f = 8 ∨ f = 9 := by omega
/-- A field's bits, and the greatest number of so many. -/
def wdV (f : Int) : Int := if f = 2 then 64 else if f = 1 ∨ f = 5 ∨ f = 6 then 32 else if f = 4 ∨ f = 8 ∨ f = 9 then 16 else if f = 3 then 13 else if f = 7 then 8 else 0
def grV (f : Int) : Int := if f = 2 then 18446744073709551615 else if f = 1 ∨ f = 5 ∨ f = 6 then 4294967295 else if f = 4 ∨ f = 8 ∨ f = 9 then 65535 else if f = 3 then 8191 else if f = 7 then 255 else 0
theorem none_of {f : Int} (h : f < 1 ∨ 9 < f) : (f == 1) = false ∧ (f == 2) = false ∧ (f == 3) = false ∧ (f == 4) = false ∧ (f == 5) = false ∧ (f == 6) = false ∧ (f == 7) = false ∧ (f == 8) = false ∧ (f == 9) = false := by
  refine ⟨?_, ?_, ?_, ?_, ?_, ?_, ?_, ?_, ?_⟩ <;> (rw [beq_eq_false_iff_ne]; omega)
theorem wdV_none {f : Int} (h : f < 1 ∨ 9 < f) : wdV f = 0 := by unfold wdV; repeat (rw [if_neg (by omega)])
theorem grV_none {f : Int} (h : f < 1 ∨ 9 < f) : grV f = 0 := by unfold grV; repeat (rw [if_neg (by omega)])
theorem wdV_pos {f : Int} (h : ¬ (f < 1 ∨ 9 < f)) : wdV f ≠ 0 := by rcases cls9 h with rfl | rfl | rfl | rfl | rfl | rfl | rfl | rfl | rfl <;> decide
theorem wdV_zero (f : Int) : wdV f = 0 ↔ (f < 1 ∨ 9 < f) := ⟨fun h => Decidable.byContradiction fun g => wdV_pos g h, wdV_none⟩
theorem grV_lt (f : Int) : 0 ≤ grV f ∧ grV f < 18446744073709551616 := by unfold grV; (repeat' split) <;> omega
/-- The lowest bits. -/
theorem and_gr (f a : Int) (hf : ¬ (f < 1 ∨ 9 < f)) (h0 : 0 ≤ a) (h1 : a < 18446744073709551616) : bits .and .u64 a (grV f) = a % (grV f + 1) := by
  rcases cls9 hf with rfl | rfl | rfl | rfl | rfl | rfl | rfl | rfl | rfl
  · exact and_u 32 (by decide) a h0 h1
  · exact and_u 64 (by decide) a h0 h1
  · exact and_u 13 (by decide) a h0 h1
  · exact and_u 16 (by decide) a h0 h1
  · exact and_u 32 (by decide) a h0 h1
  · exact and_u 32 (by decide) a h0 h1
  · exact and_u 8 (by decide) a h0 h1
  · exact and_u 16 (by decide) a h0 h1
  · exact and_u 16 (by decide) a h0 h1
theorem and_gr_iff (f a : Int) (hf : ¬ (f < 1 ∨ 9 < f)) (h0 : 0 ≤ a) (h1 : a < 18446744073709551616) : bits .and .u64 a (grV f) = a ↔ a ≤ grV f := by
  have := (grV_lt f).1
  rw [and_gr f a hf h0 h1]
  constructor
  · intro h
    have := Int.emod_lt_of_pos a (show 0 < grV f + 1 by omega)
    omega
  · intro h
    exact Int.emod_eq_of_lt h0 (by omega)

def szV (f : Int) : Nat := if f = 2 then 8 else if f = 1 ∨ f = 5 ∨ f = 6 then 4 else if f = 4 ∨ f = 8 ∨ f = 9 ∨ f = 3 then 2 else if f = 7 then 1 else 0
theorem szV_eq (f : Int) : (wdV f + 7) / 8 = (szV f : Int) := by
  by_cases h : f < 1 ∨ 9 < f
  · rw [wdV_none h]; unfold szV; repeat (rw [if_neg (by omega)])
    rfl
  · rcases cls9 h with rfl | rfl | rfl | rfl | rfl | rfl | rfl | rfl | rfl <;> rfl
theorem szV_le (f : Int) : szV f ≤ 8 := by unfold szV; (repeat' split) <;> omega
theorem gr_pow {f : Int} (h : ¬ (f < 1 ∨ 9 < f)) : grV f < 256 ^ szV f := by
  rcases cls9 h with rfl | rfl | rfl | rfl | rfl | rfl | rfl | rfl | rfl <;> decide
def zeros (n : Nat) : ByteArray := ⟨(List.replicate n (0 : UInt8)).toArray⟩
theorem zeros_size (n : Nat) : (zeros n).size = n := by simp [zeros, ByteArray.size]
theorem zeros_zero : zeros 0 = ⟨#[]⟩ := rfl
/-- A field's code, the least number of a Set of it, and whether an action is right. -/
def codeV (f : Int) : Int := if f = 3 then 6 else if f = 5 then 11 else if f = 6 then 12 else if f = 8 then 13 else if f = 9 then 14 else 0
def leastV (f : Int) : Int := if f = 3 then 4096 else 0
def rightB (a : A) : Bool :=
  if a.1 = 1 ∨ a.1 = 2 then a.2.1 == 0 && (decide (1 ≤ a.2.2) && decide (a.2.2 ≤ 4294967295))
  else if a.1 = 3 ∨ a.1 = 4 then a.2.1 == 0 && a.2.2 == 0
  else if a.1 = 5 then !(codeV a.2.1 == 0) && (decide (leastV a.2.1 ≤ a.2.2) && decide (a.2.2 ≤ grV a.2.1)) else false
/-- A Kind's number in bytes, and how many bytes it has. -/
def knV (k : Int) : Int := if k = 1 then 0 else if k = 2 then 22 else if k = 3 then 17 else if k = 4 then 18 else 25
def ksV (k : Int) : Nat := if k = 1 ∨ k = 5 then 16 else 8
def bodyV (a : A) : ByteArray :=
  if a.1 = 1 then pb a.2.2 4 ++ pb 65535 2 else if a.1 = 2 then pb a.2.2 4 else if a.1 = 3 then pb 33024 2
  else if a.1 = 5 then pb 32768 2 ++ pb (2 * codeV a.2.1) 1 ++ pb (szV a.2.1 : Int) 1 ++ pb a.2.2 (szV a.2.1) else ⟨#[]⟩
def writeV (a : A) : ByteArray := pb (knV a.1) 2 ++ pb (ksV a.1 : Int) 2 ++ bodyV a ++ zeros (ksV a.1 - 4 - (bodyV a).size)
/-- The five ways of a right action. -/
theorem right_cases {a : A} (h : rightB a = true) : (a.1 = 1 ∧ a.2.1 = 0 ∧ 1 ≤ a.2.2 ∧ a.2.2 ≤ 4294967295) ∨ (a.1 = 2 ∧ a.2.1 = 0 ∧ 1 ≤ a.2.2 ∧ a.2.2 ≤ 4294967295) ∨ (a.1 = 3 ∧ a.2.1 = 0 ∧ a.2.2 = 0) ∨ (a.1 = 4 ∧ a.2.1 = 0 ∧ a.2.2 = 0) ∨
    (a.1 = 5 ∧ (a.2.1 = 3 ∨ a.2.1 = 5 ∨ a.2.1 = 6 ∨ a.2.1 = 8 ∨ a.2.1 = 9) ∧ leastV a.2.1 ≤ a.2.2 ∧ a.2.2 ≤ grV a.2.1) := by
  unfold rightB at h
  split at h
  · next hk =>
    simp only [Bool.and_eq_true, beq_iff_eq, decide_eq_true_eq] at h
    omega
  · split at h
    · next hk =>
      simp only [Bool.and_eq_true, beq_iff_eq] at h
      omega
    · split at h
      · next hk =>
        simp only [Bool.and_eq_true, Bool.not_eq_true', beq_eq_false_iff_ne, decide_eq_true_eq] at h
        obtain ⟨h1, h2, h3⟩ := h
        refine .inr (.inr (.inr (.inr ⟨hk, ?_, h2, h3⟩)))
        unfold codeV at h1
        revert h1
        (repeat' split) <;> omega
      · cases h
theorem encS_len1 (a : A) (h : rightB a = true) : (writeV a).size = ksV a.1 := by
  have p := pb_size
  unfold writeV bodyV
  rcases right_cases h with ⟨h1, h2, h3, h4⟩ | ⟨h1, h2, h3, h4⟩ | ⟨h1, h2, h3⟩ | ⟨h1, h2, h3⟩ | ⟨h1, h2, h3, h4⟩
  · simp [h1, ByteArray.size_append, p, zeros_size, ksV]
  · simp [h1, ByteArray.size_append, p, zeros_size, ksV]
  · simp [h1, ByteArray.size_append, p, zeros_size, ksV]
  · have e0 : (⟨#[]⟩ : ByteArray).size = 0 := rfl
    simp [h1, ByteArray.size_append, p, zeros_size, ksV, e0]
  · have := szV_le a.2.1
    simp [h1, ByteArray.size_append, p, zeros_size, ksV]
    omega
def encL (l : List A) : ByteArray := l.foldr (fun a s => writeV a ++ s) ⟨#[]⟩
def allB (l : List A) : Bool := l.all rightB
def encodeE (l : List A) : Int := if allB l = true then (if l.length ≤ 32 then 0 else 44) else 22
def encodeS (l : List A) : ByteArray := if encodeE l = 0 then encL l else ⟨#[]⟩
end Go.Proofs.YtgnihbdcdefdgaaGreatDoor
/-
  What place, cmp.Compare and byPlace answer, as contracts.
-/
namespace Go.Proofs.YtgnihbdcdefdgaaGreatDoor
open Go.ChangeShapes Go.WideShapes Go.ChangeAt Go.RowKit

theorem kind_cases (k : Int) : k = 1 ∨ k = 2 ∨ k = 3 ∨ k = 4 ∨ k = 5 ∨ ((k == 1) = false ∧ (k == 2) = false ∧ (k == 3) = false ∧ (k == 4) = false ∧ (k == 5) = false) := by
  by_cases h1 : k = 1
  · exact .inl h1
  by_cases h2 : k = 2
  · exact .inr (.inl h2)
  by_cases h3 : k = 3
  · exact .inr (.inr (.inl h3))
  by_cases h4 : k = 4
  · exact .inr (.inr (.inr (.inl h4)))
  by_cases h5 : k = 5
  · exact .inr (.inr (.inr (.inr (.inl h5))))
  exact .inr (.inr (.inr (.inr (.inr ⟨by simpa using h1, by simpa using h2, by simpa using h3, by simpa using h4, by simpa using h5⟩))))
end Go.Proofs.YtgnihbdcdefdgaaGreatDoor
/-
  The tables of Kinds and of codes; what codeOf, kindOf and fieldOf answer, as contracts.
-/
namespace Go.Proofs.YtgnihbdcdefdgaaGreatDoor
open Go.ChangeShapes Go.WideShapes Go.ChangeAt Go.RowKit

abbrev kindsA : Array Value := #[.int .i64 1, .int .i64 0, .int .i64 16, .int .i64 2, .int .i64 22, .int .i64 8, .int .i64 3, .int .i64 17, .int .i64 8, .int .i64 4, .int .i64 18, .int .i64 8, .int .i64 5, .int .i64 25, .int .i64 16]
abbrev codesA : Array Value := #[.int .i64 3, .int .i64 6, .int .i64 5, .int .i64 11, .int .i64 6, .int .i64 12, .int .i64 8, .int .i64 13, .int .i64 9, .int .i64 14]
structure Cd (w : World) : Prop where
  kinds : ∃ t fr, w.heap[0]? = some (.cells kindsA t fr)
  codes : ∃ t fr, w.heap[1]? = some (.cells codesA t fr)
theorem Cd.pos {w : World} (h : Cd w) : 1 < w.heap.size := by
  obtain ⟨t, fr, h⟩ := h.codes
  by_cases hz : 1 < w.heap.size
  · exact hz
  · rw [Array.getElem?_eq_none (by omega)] at h; cases h
theorem Cd.below {w w' : World} (h : Cd w) (g : Below w.heap.size w w') : Cd w' := by
  have hp := h.pos
  have hb0 := g.block 0 (by omega)
  have hb1 := g.block 1 hp
  obtain ⟨⟨t, fr, h0⟩, ⟨t1, fr1, h1⟩⟩ := h
  exact ⟨⟨t, fr, hb0.trans h0⟩, ⟨t1, fr1, hb1.trans h1⟩⟩
theorem Cd.alloc {w : World} (h : Cd w) (o : Obj) : Cd (w.alloc o) := h.below (by go_grown)
theorem idxK (cs : List Value) (i : Int) (h0 : 0 ≤ i) (h1 : i < 5) (w : World) : (Instr.index 265 (.agg cs.toArray) (.int .i64 i)).run Tryz.prog w = .ok (.agg ((cs.drop (i.toNat * 3)).take 3).toArray) w := by
  have hn : 0 ≤ i ∧ i < ((5 : Nat) : Int) := by omega
  have hu : Tryz.prog.underlying 265 = some (.array 5 264) := Tryz.underlying265
  have e : cs.toArray.extract (i.toNat * 3) (i.toNat * 3 + 3) = ((cs.drop (i.toNat * 3)).take 3).toArray := by
    apply Array.toList_inj.1
    simp [List.extract_eq_take_drop]
  rw [← e]
  clear e
  simp [Instr.index, run_underlying hu, asIntOf, hn, go_sem]
  intro h
  omega
theorem idxC (cs : List Value) (i : Int) (h0 : 0 ≤ i) (h1 : i < 5) (w : World) : (Instr.index 289 (.agg cs.toArray) (.int .i64 i)).run Tryz.prog w = .ok (.agg ((cs.drop (i.toNat * 2)).take 2).toArray) w := by
  have hn : 0 ≤ i ∧ i < ((5 : Nat) : Int) := by omega
  have hu : Tryz.prog.underlying 289 = some (.array 5 288) := Tryz.underlying289
  have e : cs.toArray.extract (i.toNat * 2) (i.toNat * 2 + 2) = ((cs.drop (i.toNat * 2)).take 2).toArray := by
    apply Array.toList_inj.1
    simp [List.extract_eq_take_drop]
  rw [← e]
  clear e
  simp [Instr.index, run_underlying hu, asIntOf, hn, go_sem]
  intro h
  omega
theorem idk0 (w : World) : (Instr.index 265 (.agg kindsA) (.int .i64 0)).run Tryz.prog w = .ok (.agg #[.int .i64 1, .int .i64 0, .int .i64 16]) w := idxK _ 0 (by omega) (by omega) w
theorem idk1 (w : World) : (Instr.index 265 (.agg kindsA) (.int .i64 1)).run Tryz.prog w = .ok (.agg #[.int .i64 2, .int .i64 22, .int .i64 8]) w := idxK _ 1 (by omega) (by omega) w
theorem idk2 (w : World) : (Instr.index 265 (.agg kindsA) (.int .i64 2)).run Tryz.prog w = .ok (.agg #[.int .i64 3, .int .i64 17, .int .i64 8]) w := idxK _ 2 (by omega) (by omega) w
theorem idk3 (w : World) : (Instr.index 265 (.agg kindsA) (.int .i64 3)).run Tryz.prog w = .ok (.agg #[.int .i64 4, .int .i64 18, .int .i64 8]) w := idxK _ 3 (by omega) (by omega) w
theorem idk4 (w : World) : (Instr.index 265 (.agg kindsA) (.int .i64 4)).run Tryz.prog w = .ok (.agg #[.int .i64 5, .int .i64 25, .int .i64 16]) w := idxK _ 4 (by omega) (by omega) w
theorem idc0 (w : World) : (Instr.index 289 (.agg codesA) (.int .i64 0)).run Tryz.prog w = .ok (.agg #[.int .i64 3, .int .i64 6]) w := idxC _ 0 (by omega) (by omega) w
theorem idc1 (w : World) : (Instr.index 289 (.agg codesA) (.int .i64 1)).run Tryz.prog w = .ok (.agg #[.int .i64 5, .int .i64 11]) w := idxC _ 1 (by omega) (by omega) w
theorem idc2 (w : World) : (Instr.index 289 (.agg codesA) (.int .i64 2)).run Tryz.prog w = .ok (.agg #[.int .i64 6, .int .i64 12]) w := idxC _ 2 (by omega) (by omega) w
theorem idc3 (w : World) : (Instr.index 289 (.agg codesA) (.int .i64 3)).run Tryz.prog w = .ok (.agg #[.int .i64 8, .int .i64 13]) w := idxC _ 3 (by omega) (by omega) w
theorem idc4 (w : World) : (Instr.index 289 (.agg codesA) (.int .i64 4)).run Tryz.prog w = .ok (.agg #[.int .i64 9, .int .i64 14]) w := idxC _ 4 (by omega) (by omega) w
theorem code_cases (f : Int) : f = 3 ∨ f = 5 ∨ f = 6 ∨ f = 8 ∨ f = 9 ∨ (((3 : Int) == f) = false ∧ ((5 : Int) == f) = false ∧ ((6 : Int) == f) = false ∧ ((8 : Int) == f) = false ∧ ((9 : Int) == f) = false ∧ codeV f = 0) := by
  by_cases h1 : f = 3
  · exact .inl h1
  by_cases h2 : f = 5
  · exact .inr (.inl h2)
  by_cases h3 : f = 6
  · exact .inr (.inr (.inl h3))
  by_cases h4 : f = 8
  · exact .inr (.inr (.inr (.inl h4)))
  by_cases h5 : f = 9
  · exact .inr (.inr (.inr (.inr (.inl h5))))
  refine .inr (.inr (.inr (.inr (.inr ⟨?_, ?_, ?_, ?_, ?_, ?_⟩))))
  · simp; omega
  · simp; omega
  · simp; omega
  · simp; omega
  · simp; omega
  · unfold codeV; simp [h1, h2, h3, h4, h5]
set_option maxRecDepth 20000 in
set_option maxHeartbeats 4000000 in
theorem codeOf_any (f : Int) (w : World) (hd : Cd w) :
    Calls Tryz.prog 223 #[.int .i64 f] w fun e w' => e = .returned (.int .i64 (codeV f)) ∧ Below w.heap.size w w' := by
  obtain ⟨ct, cfr, hd⟩ := hd.codes
  have x0 := idc0
  have x1 := idc1
  have x2 := idc2
  have x3 := idc3
  have x4 := idc4
  rcases code_cases f with rfl | rfl | rfl | rfl | rfl | ⟨b1, b2, b3, b4, b5, hc⟩
  case inr.inr.inr.inr.inr =>
    rw [hc]
    go_enter Tryz.func223, Tryz.ntmps223
    go_wp2_with (refine wpList_load_row rfl 289 (.global 1) rfl 1 rfl ct codesA cfr _ hd Tryz.underlying289 rfl (by kernel_rfl) ?_)
    clear hd
    go_rounds 6
    go_ret
    exact ⟨rfl, by go_grown⟩
  all_goals
    go_enter Tryz.func223, Tryz.ntmps223
    go_wp2_with (refine wpList_load_row rfl 289 (.global 1) rfl 1 rfl ct codesA cfr _ hd Tryz.underlying289 rfl (by kernel_rfl) ?_)
    clear hd
    go_rounds 6
    go_ret
    exact ⟨rfl, by go_grown⟩
end Go.Proofs.YtgnihbdcdefdgaaGreatDoor
/-
  What Width, greatest, least, maySet and Right answer, as contracts.
-/
namespace Go.Proofs.YtgnihbdcdefdgaaGreatDoor
open Go.ChangeShapes Go.WideShapes Go.ChangeAt Go.RowKit

set_option maxHeartbeats 1000000 in
theorem width_any (f : Int) (w : World) : Calls Tryz.prog 183 #[.int .i64 f] w fun e w' => e = .returned (.int .i64 (wdV f)) ∧ w' = w := by
  by_cases h : f < 1 ∨ 9 < f
  · obtain ⟨b1, b2, b3, b4, b5, b6, b7, b8, b9⟩ := none_of h
    rw [wdV_none h]
    clear h
    go_enter Tryz.func183, Tryz.ntmps183
    go_wp2
    go_ret
    exact ⟨rfl, rfl⟩
  · rcases cls9 h with rfl | rfl | rfl | rfl | rfl | rfl | rfl | rfl | rfl
    all_goals
      clear h
      go_enter Tryz.func183, Tryz.ntmps183
      go_wp2
      go_ret
      exact ⟨rfl, rfl⟩
set_option maxHeartbeats 2000000 in
theorem greatest_any (f : Int) (w : World) : Calls Tryz.prog 190 #[.int .i64 f] w fun e w' => e = .returned (.int .u64 (grV f)) ∧ w' = w := by
  by_cases h : f < 1 ∨ 9 < f
  · have hw := width_any f
    rw [wdV_none h] at hw
    rw [grV_none h]
    clear h
    go_enter Tryz.func190, Tryz.ntmps190
    go_wp2_with fail
    refine (hw _).mono ?_
    rintro x w1 ⟨rfl, rfl⟩
    go_wp2_with fail
    go_ret
    exact ⟨rfl, rfl⟩
  · rcases cls9 h with rfl | rfl | rfl | rfl | rfl | rfl | rfl | rfl | rfl
    all_goals
      clear h
      go_enter Tryz.func190, Tryz.ntmps190
      go_wp2_with fail
      refine (width_any _ _).mono ?_
      rintro x w1 ⟨rfl, rfl⟩
      simp only [show wdV 1 = 32 from rfl, show wdV 2 = 64 from rfl, show wdV 3 = 13 from rfl, show wdV 4 = 16 from rfl, show wdV 5 = 32 from rfl, show wdV 6 = 32 from rfl, show wdV 7 = 8 from rfl, show wdV 8 = 16 from rfl, show wdV 9 = 16 from rfl]
      go_wp2_with fail
      go_ret
      exact ⟨rfl, rfl⟩
set_option maxHeartbeats 1000000 in
theorem least_any (f : Int) (w : World) : Calls Tryz.prog 189 #[.int .i64 f] w fun e w' => e = .returned (.int .u64 (leastV f)) ∧ w' = w := by
  unfold leastV
  by_cases h : f = 3
  · subst h
    go_enter Tryz.func189, Tryz.ntmps189
    go_wp2
    go_ret
    exact ⟨rfl, rfl⟩
  · have hb : (f == 3) = false := by simp [h]
    rw [if_neg h]
    clear h
    go_enter Tryz.func189, Tryz.ntmps189
    go_wp2
    go_ret
    exact ⟨rfl, rfl⟩
set_option maxHeartbeats 1000000 in
theorem maySet_any (f : Int) (w : World) (hd : Cd w) : Calls Tryz.prog 188 #[.int .i64 f] w fun e w' => e = .returned (.bool (!(codeV f == 0))) ∧ Below w.heap.size w w' := by
  have HC : Hid (Calls Tryz.prog 223 #[.int .i64 f] w fun e w' => e = .returned (.int .i64 (codeV f)) ∧ Below w.heap.size w w') := codeOf_any f w hd
  generalize codeV f = c at *
  go_enter Tryz.func188, Tryz.ntmps188
  go_wp2_with fail
  refine HC.out.mono ?_
  rintro x w1 ⟨rfl, g1⟩
  go_wp2_with fail
  go_ret
  exact ⟨rfl, g1⟩
theorem C3.gr1 (w : World) (t : A) (n : GrT (tx w t)) : C3 n.w w.heap.size 0 t := C3.gr (C3.new w t) (by simp) n
set_option maxHeartbeats 4000000 in
theorem right_five (f v : Int) (w : World) (hd : Cd w) :
    Calls Tryz.prog 140 #[tV (5, f, v)] w fun e w' => e = .returned (.bool (rightB (5, f, v))) ∧ Below w.heap.size w w' := by
  have HM : Hid (∀ w, Cd w → Calls Tryz.prog 188 #[.int .i64 f] w fun e w' => e = .returned (.bool (!(codeV f == 0))) ∧ Below w.heap.size w w') := (show ∀ w, _ from fun w h => maySet_any f w h)
  have HL : Hid (∀ w, Calls Tryz.prog 189 #[.int .i64 f] w fun e w' => e = .returned (.int .u64 (leastV f)) ∧ w' = w) := (show ∀ w, _ from fun w => least_any f w)
  have HG : Hid (∀ w, Calls Tryz.prog 190 #[.int .i64 f] w fun e w' => e = .returned (.int .u64 (grV f)) ∧ w' = w) := (show ∀ w, _ from fun w => greatest_any f w)
  have HD : Hid (∀ n : GrT (tx w (5, f, v)), Cd n.w) := (show ∀ n : GrT (tx w (5, f, v)), Cd n.w from fun n => (hd.alloc _).below n.h)
  have q := C3.gr1 w (5, f, v)
  have q0 := fun n => (q n).1
  have q1 := fun n => (q n).2.1
  have q2 := fun n => (q n).2.2
  have hR : rightB (5, f, v) = (!(codeV f == 0) && (decide (leastV f ≤ v) && decide (v ≤ grV f))) := by simp [rightB]
  rw [hR]
  clear q hd hR
  generalize grV f = G at *
  generalize leastV f = L at *
  cases hc : (codeV f == 0) with
  | true =>
    rw [hc] at HM
    simp only [Bool.not_true, Bool.false_and] at HM ⊢
    go_enter Tryz.func140, Tryz.ntmps140
    go_wp2_with fail
    refine wp_region_grow (by kernel_rfl) (by kernel_rfl) ?_
    repeat (go_big_quiet_step ((first | (go_at_call 188; exact quiet_gr (HM.out _ (HD.out _))) | (go_at_call 189; exact quiet_gs (HL.out _)) | (go_at_call 190; exact quiet_gs (HG.out _)))))
    refine wpQuiet_nil ?_
    rintro w1 hw'
    have g1 := gr_elim hw'
    clear q0 q1 q2 hw'
    go_wp2_with fail
    go_ret
    exact ⟨rfl, btr (by go_grown) g1 (by simp)⟩
  | false =>
    rw [hc] at HM
    simp only [Bool.not_false, Bool.true_and] at HM ⊢
    by_cases h1 : L ≤ v
    · have d1 : decide (L ≤ v) = true := decide_eq_true h1
      rw [d1, Bool.true_and]
      go_enter Tryz.func140, Tryz.ntmps140
      go_wp2_with fail
      refine wp_region_grow (by kernel_rfl) (by kernel_rfl) ?_
      repeat (go_big_quiet_step ((first | (go_at_call 188; exact quiet_gr (HM.out _ (HD.out _))) | (go_at_call 189; exact quiet_gs (HL.out _)) | (go_at_call 190; exact quiet_gs (HG.out _)))))
      refine wpQuiet_nil ?_
      rintro w1 hw'
      have g1 := gr_elim hw'
      clear q0 q1 q2 hw'
      go_wp2_with fail
      go_ret
      exact ⟨rfl, btr (by go_grown) g1 (by simp)⟩
    · have d1 : decide (L ≤ v) = false := decide_eq_false h1
      rw [d1, Bool.false_and]
      go_enter Tryz.func140, Tryz.ntmps140
      go_wp2_with fail
      refine wp_region_grow (by kernel_rfl) (by kernel_rfl) ?_
      repeat (go_big_quiet_step ((first | (go_at_call 188; exact quiet_gr (HM.out _ (HD.out _))) | (go_at_call 189; exact quiet_gs (HL.out _)) | (go_at_call 190; exact quiet_gs (HG.out _)))))
      refine wpQuiet_nil ?_
      rintro w1 hw'
      have g1 := gr_elim hw'
      clear q0 q1 q2 hw'
      go_wp2_with fail
      go_ret
      exact ⟨rfl, btr (by go_grown) g1 (by simp)⟩
set_option maxHeartbeats 4000000 in
theorem right_any (a : A) (w : World) (hd : Cd w) :
    Calls Tryz.prog 140 #[tV a] w fun e w' => e = .returned (.bool (rightB a)) ∧ Below w.heap.size w w' := by
  obtain ⟨k, f, v⟩ := a
  rcases kind_cases k with rfl | rfl | rfl | rfl | rfl | ⟨b1, b2, b3, b4, b5⟩
  · clear hd
    have hR : rightB (1, f, v) = (f == 0 && (decide (1 ≤ v) && decide (v ≤ 4294967295))) := by simp [rightB]
    rw [hR]
    clear hR
    cases hf : (f == 0)
    · go_enter Tryz.func140, Tryz.ntmps140
      go_wp2
      go_ret
      exact ⟨rfl, by go_grown⟩
    · cases d1 : decide (1 ≤ v)
      · go_enter Tryz.func140, Tryz.ntmps140
        go_wp2
        go_ret
        exact ⟨rfl, by go_grown⟩
      · cases d2 : decide (v ≤ 4294967295) <;>
        · go_enter Tryz.func140, Tryz.ntmps140
          go_wp2
          go_ret
          exact ⟨rfl, by go_grown⟩
  · clear hd
    have hR : rightB (2, f, v) = (f == 0 && (decide (1 ≤ v) && decide (v ≤ 4294967295))) := by simp [rightB]
    rw [hR]
    clear hR
    cases hf : (f == 0)
    · go_enter Tryz.func140, Tryz.ntmps140
      go_wp2
      go_ret
      exact ⟨rfl, by go_grown⟩
    · cases d1 : decide (1 ≤ v)
      · go_enter Tryz.func140, Tryz.ntmps140
        go_wp2
        go_ret
        exact ⟨rfl, by go_grown⟩
      · cases d2 : decide (v ≤ 4294967295) <;>
        · go_enter Tryz.func140, Tryz.ntmps140
          go_wp2
          go_ret
          exact ⟨rfl, by go_grown⟩
  · clear hd
    have hR : rightB (3, f, v) = (f == 0 && v == 0) := by simp [rightB]
    rw [hR]
    clear hR
    cases hf : (f == 0) <;> cases hv : (v == 0) <;>
    · go_enter Tryz.func140, Tryz.ntmps140
      go_wp2
      go_ret
      exact ⟨rfl, by go_grown⟩
  · clear hd
    have hR : rightB (4, f, v) = (f == 0 && v == 0) := by simp [rightB]
    rw [hR]
    clear hR
    cases hf : (f == 0) <;> cases hv : (v == 0) <;>
    · go_enter Tryz.func140, Tryz.ntmps140
      go_wp2
      go_ret
      exact ⟨rfl, by go_grown⟩
  · exact right_five f v w hd
  · clear hd
    have hR : rightB (k, f, v) = false := by
      simp at b1 b2 b3 b4 b5
      simp [rightB, b1, b2, b3, b4, b5]
    rw [hR]
    clear hR
    go_enter Tryz.func140, Tryz.ntmps140
    go_wp2
    go_ret
    exact ⟨rfl, by go_grown⟩
end Go.Proofs.YtgnihbdcdefdgaaGreatDoor

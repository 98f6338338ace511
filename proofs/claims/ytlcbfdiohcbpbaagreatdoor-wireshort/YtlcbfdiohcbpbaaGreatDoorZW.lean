/-
  Joined: WSpec, WMem, WRight, WBody, WEmp, WGrp, WOwn, WStep, WWo, WFlow, WEnc, WEncM, WSaid, WLaw, Open, OpenE, OpenM.
-/
import Derived.Test.YtlcbfdiohcbpbaaGreatDoorZA2
import Derived.Test.YtlcbfdiohcbpbaaGreatDoorZB
import Derived.Test.YtlcbfdiohcbpbaaGreatDoorShelf
import Derived.Test.YtlcbfdiohcbpbaaGreatDoorZA1
import Derived.Deep.MidRow
import Derived.WalkKit
import Derived.ProofKit
import Derived.OpenShut
import Derived.ShutString
import Derived.ChangeOld
import Derived.Below
import Derived.LaidMore
import Derived.Stop.Joined
import Derived.Deep.Slices
namespace Go.Proofs.YtlcbfdiohcbpbaaGreatDoor
/-
  Messages, when they are right, and the bytes that they are: the plain mathematics.
-/
/-- A bucket: Watch, Weight, Actions. -/
abbrev B3 := Int × Int × List A
/-- A message. -/
structure Msg where
  kind : Int
  xid : Int
  cmd : Int
  chk : Bool
  pri : Int
  ts : List Mt.T
  sp : Sp
  gid : Int
  gkd : Int
  gb : List B3
  mid : Int
  mra : Int
  mbu : Int
  typ : Int
  cod : Int
  prt : Int
  live : Bool
  la : List A
  dat : ByteArray
/-- Whether a number is from one to another one. -/
def inB (n lo hi : Int) : Bool := decide (lo ≤ n) && decide (n ≤ hi)
theorem inB_iff {n lo hi : Int} : inB n lo hi = true ↔ lo ≤ n ∧ n ≤ hi := by simp [inB]
def okA (l : List A) : Bool := encodeE l == 0
def bkB (b : B3) : Bool := inB b.1 0 65535 && inB b.2.1 0 65535 && decide (b.2.2.length ≤ 8) && okA b.2.2
def grB (gid gkd : Int) (gb : List B3) : Bool := inB gid 1 65535 && inB gkd 1 4 && decide (gb.length ≤ 16) && gb.all bkB
def entB (pri : Int) (ts : List Mt.T) (sp : Sp) : Bool := inB pri 0 65535 && (Mt.rightE ts == 0) && (rightX sp == 0)
def meB (a b c : Int) : Bool := inB a 1 16 && inB b 0 4294967295 && inB c 0 4294967295
/-- Whether what a message's Kind has is right. -/
def ownB (m : Msg) : Bool :=
  if m.kind = 0 ∨ m.kind = 20 ∨ m.kind = 21 then true
  else if m.kind = 1 then inB m.typ 0 65535 && inB m.cod 0 65535 && decide (m.dat.size ≤ 64)
  else if m.kind = 2 ∨ m.kind = 3 then decide (m.dat.size ≤ 1000)
  else if m.kind = 12 then inB m.prt 1 16
  else if m.kind = 13 then inB m.prt 0 16 && okA m.la && decide (m.dat.size ≤ 1500)
  else if m.kind = 14 then inB m.cmd 0 4 && entB m.pri m.ts m.sp
  else if m.kind = 15 then inB m.cmd 0 2 && grB m.gid m.gkd m.gb
  else if m.kind = 29 then inB m.cmd 0 2 && meB m.mid m.mra m.mbu
  else false
/-- Whether there is nothing of what an entry has. -/
def noSp (s : Sp) : Bool := s.tab == 0 && s.la.length == 0 && s.lw.length == 0 && !s.clr && s.mt == 0 && s.mm == 0 && s.met == 0 && s.go == 0
def noEnt (pri : Int) (ts : List Mt.T) (s : Sp) : Bool := pri == 0 && ts.length == 0 && noSp s
def noGrp (gid gkd : Int) (gb : List B3) : Bool := gid == 0 && gkd == 0 && gb.length == 0
def noMet (a b c : Int) : Bool := a == 0 && b == 0 && c == 0
/-- Whether a message has nothing beside what its Kind has. -/
def bareB (m : Msg) : Bool :=
  (m.kind == 14 || m.kind == 15 || m.kind == 29 || m.cmd == 0) && (m.kind == 14 || !m.chk) && (m.kind == 14 || noEnt m.pri m.ts m.sp) && (m.kind == 15 || noGrp m.gid m.gkd m.gb) &&
  (m.kind == 29 || noMet m.mid m.mra m.mbu) && (m.kind == 1 || m.typ == 0) && (m.kind == 1 || m.cod == 0) && (m.kind == 12 || m.kind == 13 || m.prt == 0) && (m.kind == 12 || !m.live) &&
  (m.kind == 13 || m.la.length == 0) && (m.kind == 1 || m.kind == 2 || m.kind == 3 || m.kind == 13 || m.dat.size == 0)
/-- Whether a message is right. -/
def rightM (m : Msg) : Bool := inB m.xid 0 4294967295 && ownB m && bareB m
/-- Bytes that stand in messages. -/
def gap1 : ByteArray := ⟨#[0]⟩
def gap2 : ByteArray := ⟨#[0, 0]⟩
def ff4 : ByteArray := ⟨#[255, 255, 255, 255]⟩
def ff12 : ByteArray := ⟨#[255, 255, 255, 255, 255, 255, 255, 255, 255, 255, 255, 255]⟩
def wat (n : Int) : Int := if n = 0 then 4294967295 else n
def bkS (b : B3) : ByteArray := pb (16 + ((encodeS b.2.2).size : Int)) 2 ++ pb b.2.1 2 ++ pb (wat b.1) 4 ++ ff4 ++ gap4 ++ encodeS b.2.2
def bksS (l : List B3) : ByteArray := l.foldr (fun b s => bkS b ++ s) ⟨#[]⟩
def dwn (b : Bool) : Int := if b then 0 else 1
def flg (b : Bool) : Int := if b then 2 else 0
def portS (p : Int) (b : Bool) : ByteArray := pb 2 1 ++ gap3 ++ gap4 ++ pb p 4 ++ zeros 32 ++ pb (dwn b) 4 ++ zeros 24
def packS (p : Int) (l : List A) (d : ByteArray) : ByteArray := ff4 ++ pb p 4 ++ pb ((encodeS l).size : Int) 2 ++ gap4 ++ gap2 ++ encodeS l ++ d
def flowS (cmd : Int) (chk : Bool) (pri : Int) (ts : List Mt.T) (s : Sp) : ByteArray := zeros 16 ++ pb s.tab 1 ++ pb cmd 1 ++ gap4 ++ pb pri 2 ++ ff12 ++ pb (flg chk) 2 ++ gap2 ++ Mt.encodeS ts ++ encodeX s
def grpS (cmd gid gkd : Int) (gb : List B3) : ByteArray := pb cmd 2 ++ pb (gkd - 1) 1 ++ gap1 ++ pb gid 4 ++ bksS gb
def metS (cmd a b c : Int) : ByteArray := pb cmd 2 ++ pb 5 2 ++ pb a 4 ++ pb 65552 4 ++ pb b 4 ++ pb c 4 ++ gap4
def bodyM (m : Msg) : ByteArray :=
  if m.kind = 1 then pb m.typ 2 ++ pb m.cod 2 ++ m.dat
  else if m.kind = 2 ∨ m.kind = 3 then m.dat
  else if m.kind = 12 then portS m.prt m.live
  else if m.kind = 13 then packS m.prt m.la m.dat
  else if m.kind = 14 then flowS m.cmd m.chk m.pri m.ts m.sp
  else if m.kind = 15 then grpS m.cmd m.gid m.gkd m.gb
  else if m.kind = 29 then metS m.cmd m.mid m.mra m.mbu
  else ⟨#[]⟩
def allM (m : Msg) : ByteArray := pb 4 1 ++ pb m.kind 1 ++ pb (8 + ((bodyM m).size : Int)) 2 ++ pb m.xid 4 ++ bodyM m
def encM (m : Msg) : ByteArray := if rightM m = true then allM m else ⟨#[]⟩
def errM (m : Msg) : Int := if rightM m = true then 0 else 1
/-- Which Kind it is. -/
structure KF (k : Int) (b0 b1 b2 b3 b12 b13 b14 b15 b20 b21 b29 : Bool) : Prop where
  k0 : (k == 0) = b0
  k1 : (k == 1) = b1
  k2 : (k == 2) = b2
  k3 : (k == 3) = b3
  k12 : (k == 12) = b12
  k13 : (k == 13) = b13
  k14 : (k == 14) = b14
  k15 : (k == 15) = b15
  k20 : (k == 20) = b20
  k21 : (k == 21) = b21
  k29 : (k == 29) = b29
theorem kinds (k : Int) : k = 0 ∨ k = 1 ∨ k = 2 ∨ k = 3 ∨ k = 12 ∨ k = 13 ∨ k = 14 ∨ k = 15 ∨ k = 20 ∨ k = 21 ∨ k = 29 ∨ KF k false false false false false false false false false false false := by
  by_cases h0 : k = 0
  · exact .inl h0
  by_cases h1 : k = 1
  · exact .inr (.inl h1)
  by_cases h2 : k = 2
  · exact .inr (.inr (.inl h2))
  by_cases h3 : k = 3
  · exact .inr (.inr (.inr (.inl h3)))
  by_cases h12 : k = 12
  · exact .inr (.inr (.inr (.inr (.inl h12))))
  by_cases h13 : k = 13
  · exact .inr (.inr (.inr (.inr (.inr (.inl h13)))))
  by_cases h14 : k = 14
  · exact .inr (.inr (.inr (.inr (.inr (.inr (.inl h14))))))
  by_cases h15 : k = 15
  · exact .inr (.inr (.inr (.inr (.inr (.inr (.inr (.inl h15)))))))
  by_cases h20 : k = 20
  · exact .inr (.inr (.inr (.inr (.inr (.inr (.inr (.inr (.inl h20))))))))
  by_cases h21 : k = 21
  · exact .inr (.inr (.inr (.inr (.inr (.inr (.inr (.inr (.inr (.inl h21)))))))))
  by_cases h29 : k = 29
  · exact .inr (.inr (.inr (.inr (.inr (.inr (.inr (.inr (.inr (.inr (.inl h29))))))))))
  · refine .inr (.inr (.inr (.inr (.inr (.inr (.inr (.inr (.inr (.inr (.inr ⟨?_, ?_, ?_, ?_, ?_, ?_, ?_, ?_, ?_, ?_, ?_⟩)))))))))) <;> (rw [beq_eq_false_iff_ne]; assumption)
/-- Few bytes. -/
theorem okA_few {l : List A} (h : okA l = true) : allB l = true ∧ l.length ≤ 32 ∧ encodeS l = encL l := by
  have h0 : encodeE l = 0 := by simpa [okA] using h
  have h1 : encodeS l = encL l := by unfold encodeS; rw [if_pos h0]
  unfold encodeE at h0
  split at h0
  · next ha =>
    split at h0
    · next hl => exact ⟨ha, hl, h1⟩
    · cases h0
  · cases h0
theorem encS_le (l : List A) : (encodeS l).size ≤ 512 := by
  unfold encodeS
  split
  · next h =>
    obtain ⟨ha, hl, _⟩ := okA_few (l := l) (by simp [okA, h])
    have : ∀ l : List A, allB l = true → (encL l).size ≤ 16 * l.length := by
      intro l
      induction l with
      | nil => intro _; exact Nat.zero_le _
      | cons a l ih =>
        intro h
        simp only [allB, List.all_cons, Bool.and_eq_true] at h
        have h1 := write_size h.1
        have h2 := ih h.2
        simp only [encL, List.foldr_cons, ByteArray.size_append, List.length_cons] at h2 ⊢
        omega
    have := this l ha
    omega
  · exact Nat.zero_le _
theorem menc_le (l : List Mt.T) : (Mt.encodeS l).size ≤ 200 := by
  unfold Mt.encodeS
  split
  · next h =>
    have h1 := Mt.body_right l h
    have h2 := Mt.encS_size l
    have h3 := Mt.padV_lt (4 + (Mt.bodyGo [] l).size)
    omega
  · exact Nat.zero_le _
theorem encodeX_le (s : Sp) : (encodeX s).size ≤ 6048 := by
  unfold encodeX
  split
  · exact encX_size s
  · exact Nat.zero_le _
theorem ff4_size : ff4.size = 4 := rfl
theorem ff12_size : ff12.size = 12 := rfl
theorem gap1_size : gap1.size = 1 := rfl
theorem gap2_size : gap2.size = 2 := rfl
theorem gap3_size : gap3.size = 3 := rfl
theorem gap4_size : gap4.size = 4 := rfl
theorem bkS_size (b : B3) : (bkS b).size = 16 + (encodeS b.2.2).size := by
  unfold bkS; simp only [ByteArray.size_append, pb_size, ff4_size, gap4_size]
theorem bkS_le (b : B3) : (bkS b).size ≤ 528 := by rw [bkS_size]; have := encS_le b.2.2; omega
theorem bks_le : ∀ l : List B3, (bksS l).size ≤ 528 * l.length
  | [] => Nat.zero_le _
  | b :: l => by
    have h1 := bkS_le b
    have h2 := bks_le l
    simp only [bksS, List.foldr_cons, ByteArray.size_append, List.length_cons] at h2 ⊢
    omega
theorem bks_append (l m : List B3) : bksS (l ++ m) = bksS l ++ bksS m := by
  induction l with
  | nil => exact (e_ap _).symm
  | cons b l ih =>
    show bkS b ++ bksS (l ++ m) = bkS b ++ bksS l ++ bksS m
    rw [ih, ap_assoc]
theorem bks_one (b : B3) : bksS [b] = bkS b := ap_e _
theorem grB_few {a b : Int} {l : List B3} (h : grB a b l = true) : l.length ≤ 16 ∧ 1 ≤ a ∧ a ≤ 65535 ∧ 1 ≤ b ∧ b ≤ 4 ∧ ∀ x ∈ l, bkB x = true := by
  unfold grB at h
  simp only [Bool.and_eq_true, inB_iff, decide_eq_true_eq, List.all_eq_true] at h
  obtain ⟨⟨⟨⟨h1, h2⟩, h3, h4⟩, h5⟩, h6⟩ := h
  exact ⟨h5, h1, h2, h3, h4, h6⟩
/-
  Messages as the program has them: values, cells, slices.
-/
open Go.ChangeShapes Go.WideShapes Go.ChangeAt Go.RowKit

/-- A bucket as it lies in memory. -/
structure Bk where
  wa : Int
  we : Int
  a : Option Addr
  l : List A
  c : Nat
def Bk.b3 (b : Bk) : B3 := (b.wa, b.we, b.l)
abbrev bkV (b : Bk) : Value := .agg #[.int .i64 b.wa, .int .i64 b.we, .slice b.a b.l.length b.c]
abbrev bkC (b : Bk) : Array Value := #[.int .i64 b.wa, .int .i64 b.we, .slice b.a b.l.length b.c]
abbrev bx (w : World) (b : Bk) : World := w.alloc (.cells (bkC b) 53)
abbrev Cb (w : World) (g o : Nat) (b : Bk) : Prop := w.cell? ⟨g, o, none⟩ = some (.int .i64 b.wa) ∧ w.cell? ⟨g, o + 1, none⟩ = some (.int .i64 b.we) ∧ w.cell? ⟨g, o + 2, none⟩ = some (.slice b.a b.l.length b.c)
theorem Cb.new (w : World) (t : Bk) : Cb (bx w t) w.heap.size 0 t := by unfold Cb bx; simp
theorem Cb.block {w w' : World} {b o : Nat} {t : Bk} (h : Cb w b o t) (g : w'.heap[b]? = w.heap[b]?) : Cb w' b o t := by
  obtain ⟨h0, h1, h2⟩ := h
  have e : ∀ o, w'.cell? ⟨b, o, none⟩ = w.cell? ⟨b, o, none⟩ := fun o => World.cell?_of_block (w := w) g
  exact ⟨(e _).trans h0, (e _).trans h1, (e _).trans h2⟩
theorem Cb.below {w w' : World} {b o B : Nat} {t : Bk} (h : Cb w b o t) (hb : b < B) (g : Below B w w') : Cb w' b o t := h.block (g.block b hb)
theorem Cb.gr {W : World} {b o : Nat} {t : Bk} (h : Cb W b o t) (hb : b < W.heap.size) (n : GrT W) : Cb n.w b o t := h.below hb n.h
/-- A bucket's actions lie in memory, and are few. -/
structure BW (w : World) (b : Bk) : Prop where
  t : Ts w b.a b.l
  n : b.l.length ≤ 1000
theorem BW.below {w w' : World} {b : Bk} (h : BW w b) (g : Below w.heap.size w w') : BW w' b := ⟨h.t.below g, h.n⟩
/-- A slice's address, and the buckets that lie there. -/
def Bs (w : World) (a : Option Addr) (l : List Bk) : Prop :=
  (∀ b ∈ l, BW w b) ∧ (l = [] ∨ ∃ g o, a = some ⟨g, o, none⟩ ∧ g < w.heap.size ∧ ∀ i (h : i < l.length), Cb w g (o + i * 3) l[i])
theorem Bs.below {w w' : World} {a : Option Addr} {l : List Bk} (h : Bs w a l) (g : Below w.heap.size w w') : Bs w' a l := by
  refine ⟨fun b hb => (h.1 b hb).below g, ?_⟩
  rcases h.2 with h | ⟨b, o, ha, hb, hc⟩
  · exact .inl h
  · exact .inr ⟨b, o, ha, Nat.lt_of_lt_of_le hb g.size, fun i hi => (hc i hi).below hb g⟩
theorem Bs.at {w : World} {a : Option Addr} {l : List Bk} (h : Bs w a l) {k : Nat} (hk : k < l.length) : ∃ g o, a = some ⟨g, o, none⟩ ∧ g < w.heap.size ∧ ∀ i (h : i < l.length), Cb w g (o + i * 3) l[i] := by
  rcases h.2 with rfl | h
  · cases hk
  · exact h
theorem Bs.alloc {w : World} {a : Option Addr} {l : List Bk} (h : Bs w a l) (o : Obj) : Bs (w.alloc o) a l := h.below (by go_grown)

/-- A message as it lies in memory. -/
structure Ms where
  kind : Int
  xid : Int
  cmd : Int
  chk : Bool
  en : En
  ts : List Mt.T
  gid : Int
  gkd : Int
  ga : Option Addr
  gb : List Bk
  gc : Nat
  mid : Int
  mra : Int
  mbu : Int
  typ : Int
  cod : Int
  prt : Int
  live : Bool
  aa : Option Addr
  la : List A
  ca : Nat
  dat : ByteArray
def Ms.msg (m : Ms) : Msg := ⟨m.kind, m.xid, m.cmd, m.chk, m.en.pri, m.ts, m.en.sp, m.gid, m.gkd, m.gb.map Bk.b3, m.mid, m.mra, m.mbu, m.typ, m.cod, m.prt, m.live, m.la, m.dat⟩
abbrev msV (m : Ms) : Value := .agg #[.int .i64 m.kind, .int .i64 m.xid, .int .i64 m.cmd, .bool m.chk, .int .i64 m.en.tab, .int .i64 m.en.pri, .slice m.en.ta m.en.tl m.en.tc, .slice m.en.aa m.en.la.length m.en.ca, .slice m.en.aw m.en.lw.length m.en.cw, .bool m.en.clr, .int .u64 m.en.mt, .int .u64 m.en.mm, .int .i64 m.en.met, .int .i64 m.en.go, .int .i64 m.gid, .int .i64 m.gkd, .slice m.ga m.gb.length m.gc, .int .i64 m.mid, .int .i64 m.mra, .int .i64 m.mbu, .int .i64 m.typ, .int .i64 m.cod, .int .i64 m.prt, .bool m.live, .slice m.aa m.la.length m.ca, .string m.dat]
abbrev msC (m : Ms) : Array Value := #[.int .i64 m.kind, .int .i64 m.xid, .int .i64 m.cmd, .bool m.chk, .int .i64 m.en.tab, .int .i64 m.en.pri, .slice m.en.ta m.en.tl m.en.tc, .slice m.en.aa m.en.la.length m.en.ca, .slice m.en.aw m.en.lw.length m.en.cw, .bool m.en.clr, .int .u64 m.en.mt, .int .u64 m.en.mm, .int .i64 m.en.met, .int .i64 m.en.go, .int .i64 m.gid, .int .i64 m.gkd, .slice m.ga m.gb.length m.gc, .int .i64 m.mid, .int .i64 m.mra, .int .i64 m.mbu, .int .i64 m.typ, .int .i64 m.cod, .int .i64 m.prt, .bool m.live, .slice m.aa m.la.length m.ca, .string m.dat]
abbrev mx (w : World) (m : Ms) : World := w.alloc (.cells (msC m) 33)
abbrev rx (w : World) (m : Ms) : World := w.alloc (.cells (msC m) 42)
/-- Cells that lie in a block. -/
theorem range_new (w : World) (cs : Array Value) (t : TypeId) : (w.alloc (.cells cs t)).rangeAt w.heap.size 0 cs.toList := fun j v hv => by
  rw [Nat.zero_add]
  simpa using hv
theorem range_block {w w' : World} {b o : Nat} {cs : List Value} (h : w.rangeAt b o cs) (g : w'.heap[b]? = w.heap[b]?) : w'.rangeAt b o cs := fun j v hv => (World.cell?_of_block (w := w) g).trans (h j v hv)
/-- A message lies in block b. -/
def Bm (w : World) (b : Nat) (m : Ms) : Prop := w.rangeAt b 0 (msC m).toList
abbrev Cm (w : World) (b : Nat) (m : Ms) : Prop :=
  w.cell? ⟨b, 0, none⟩ = some (.int .i64 m.kind) ∧ w.cell? ⟨b, 1, none⟩ = some (.int .i64 m.xid) ∧ w.cell? ⟨b, 2, none⟩ = some (.int .i64 m.cmd) ∧ w.cell? ⟨b, 3, none⟩ = some (.bool m.chk) ∧ w.cell? ⟨b, 4, none⟩ = some (.int .i64 m.en.tab) ∧ w.cell? ⟨b, 5, none⟩ = some (.int .i64 m.en.pri) ∧ w.cell? ⟨b, 6, none⟩ = some (.slice m.en.ta m.en.tl m.en.tc) ∧ w.cell? ⟨b, 7, none⟩ = some (.slice m.en.aa m.en.la.length m.en.ca) ∧ w.cell? ⟨b, 8, none⟩ = some (.slice m.en.aw m.en.lw.length m.en.cw) ∧ w.cell? ⟨b, 9, none⟩ = some (.bool m.en.clr) ∧ w.cell? ⟨b, 10, none⟩ = some (.int .u64 m.en.mt) ∧ w.cell? ⟨b, 11, none⟩ = some (.int .u64 m.en.mm) ∧ w.cell? ⟨b, 12, none⟩ = some (.int .i64 m.en.met) ∧ w.cell? ⟨b, 13, none⟩ = some (.int .i64 m.en.go) ∧ w.cell? ⟨b, 14, none⟩ = some (.int .i64 m.gid) ∧ w.cell? ⟨b, 15, none⟩ = some (.int .i64 m.gkd) ∧ w.cell? ⟨b, 16, none⟩ = some (.slice m.ga m.gb.length m.gc) ∧ w.cell? ⟨b, 17, none⟩ = some (.int .i64 m.mid) ∧ w.cell? ⟨b, 18, none⟩ = some (.int .i64 m.mra) ∧ w.cell? ⟨b, 19, none⟩ = some (.int .i64 m.mbu) ∧ w.cell? ⟨b, 20, none⟩ = some (.int .i64 m.typ) ∧ w.cell? ⟨b, 21, none⟩ = some (.int .i64 m.cod) ∧ w.cell? ⟨b, 22, none⟩ = some (.int .i64 m.prt) ∧ w.cell? ⟨b, 23, none⟩ = some (.bool m.live) ∧ w.cell? ⟨b, 24, none⟩ = some (.slice m.aa m.la.length m.ca) ∧ w.cell? ⟨b, 25, none⟩ = some (.string m.dat)
theorem Bm.cs {w : World} {b : Nat} {m : Ms} (h : Bm w b m) : Cm w b m := ⟨h 0 _ rfl, h 1 _ rfl, h 2 _ rfl, h 3 _ rfl, h 4 _ rfl, h 5 _ rfl, h 6 _ rfl, h 7 _ rfl, h 8 _ rfl, h 9 _ rfl, h 10 _ rfl, h 11 _ rfl, h 12 _ rfl, h 13 _ rfl, h 14 _ rfl, h 15 _ rfl, h 16 _ rfl, h 17 _ rfl, h 18 _ rfl, h 19 _ rfl, h 20 _ rfl, h 21 _ rfl, h 22 _ rfl, h 23 _ rfl, h 24 _ rfl, h 25 _ rfl⟩
theorem Bm.new (w : World) (m : Ms) : Bm (mx w m) w.heap.size m := range_new w (msC m) _
theorem Bm.rnew (w : World) (m : Ms) : Bm (rx w m) w.heap.size m := range_new w (msC m) _
theorem Bm.block {w w' : World} {b : Nat} {m : Ms} (h : Bm w b m) (g : w'.heap[b]? = w.heap[b]?) : Bm w' b m := range_block h g
theorem Bm.below {w w' : World} {b B : Nat} {m : Ms} (h : Bm w b m) (hb : b < B) (g : Below B w w') : Bm w' b m := h.block (g.block b hb)
theorem Bm.gr {W : World} {b : Nat} {m : Ms} (h : Bm W b m) (hb : b < W.heap.size) (n : GrT W) : Bm n.w b m := h.below hb n.h
theorem infoM (m : Ms) : (Tryz.prog.info? 33).map (·.size) = some (msC m).toList.length := by kernel_rfl
theorem loadM (w : World) (b : Nat) (m : Ms) (h : Bm w b m) : (loadVar 33 ⟨b, 0, none⟩).run Tryz.prog w = .ok (msV m) w := run_loadVar_mid w b 0 33 (msC m).toList _ h Tryz.underlying33 rfl (infoM m)
theorem atM (w : World) (b : Nat) (m : Ms) (h : Bm w b m) : (Instr.loadAt 33 (.pointer (some ⟨b, 0, none⟩))).run Tryz.prog w = .ok (msV m) w := run_loadAt_mid w b 0 33 (msC m).toList _ h Tryz.underlying33 rfl (infoM m)
theorem resM {fn : Func} {t : Tmp} (h : fn.results = #[.cell t 33]) {tmps : Array Value} {w : World} {b : Nat} {m : Ms} (ht : tmps.getD t undef = .pointer (some ⟨b, 0, none⟩)) (hs : Bm w b m) :
    (results fn tmps).run Tryz.prog w = .ok (msV m) w := by
  have ht' : tmps[t]?.getD undef = .pointer (some ⟨b, 0, none⟩) := by simpa using ht
  simp [results, h, ht', asAddr, loadM w b m hs]
theorem resMee {fn : Func} {t u v : Tmp} (h : fn.results = #[.cell t 33, .tmp u, .tmp v]) {tmps : Array Value} {w : World} {b : Nat} {m : Ms} (ht : tmps.getD t undef = .pointer (some ⟨b, 0, none⟩)) (hs : Bm w b m) :
    (results fn tmps).run Tryz.prog w = .ok (.tuple #[msV m, tmps.getD u undef, tmps.getD v undef]) w := by
  have ht' : tmps[t]?.getD undef = .pointer (some ⟨b, 0, none⟩) := by simpa using ht
  simp [results, h, ht', asAddr, loadM w b m hs]
theorem infoR (m : Ms) : (Tryz.prog.info? 42).map (·.size) = some (msC m).toList.length := by kernel_rfl
theorem loadR (w : World) (b : Nat) (m : Ms) (h : Bm w b m) : (loadVar 42 ⟨b, 0, none⟩).run Tryz.prog w = .ok (msV m) w := run_loadVar_mid w b 0 42 (msC m).toList _ h Tryz.underlying42 rfl (infoR m)
theorem atR (w : World) (b : Nat) (m : Ms) (h : Bm w b m) : (Instr.loadAt 42 (.pointer (some ⟨b, 0, none⟩))).run Tryz.prog w = .ok (msV m) w := run_loadAt_mid w b 0 42 (msC m).toList _ h Tryz.underlying42 rfl (infoR m)
theorem resR {fn : Func} {t : Tmp} (h : fn.results = #[.cell t 42]) {tmps : Array Value} {w : World} {b : Nat} {m : Ms} (ht : tmps.getD t undef = .pointer (some ⟨b, 0, none⟩)) (hs : Bm w b m) :
    (results fn tmps).run Tryz.prog w = .ok (msV m) w := by
  have ht' : tmps[t]?.getD undef = .pointer (some ⟨b, 0, none⟩) := by simpa using ht
  simp [results, h, ht', asAddr, loadR w b m hs]
theorem resRee {fn : Func} {t u v : Tmp} (h : fn.results = #[.cell t 42, .tmp u, .tmp v]) {tmps : Array Value} {w : World} {b : Nat} {m : Ms} (ht : tmps.getD t undef = .pointer (some ⟨b, 0, none⟩)) (hs : Bm w b m) :
    (results fn tmps).run Tryz.prog w = .ok (.tuple #[msV m, tmps.getD u undef, tmps.getD v undef]) w := by
  have ht' : tmps[t]?.getD undef = .pointer (some ⟨b, 0, none⟩) := by simpa using ht
  simp [results, h, ht', asAddr, loadR w b m hs]
/-- What a message has lies in memory, and is few. -/
structure MW (w : World) (m : Ms) : Prop where
  e : EW w m.en
  t : Mt.Ts w m.en.ta m.ts
  tl : m.en.tl = m.ts.length
  tn : m.ts.length ≤ 1000
  tc : m.ts.length ≤ m.en.tc
  g : Bs w m.ga m.gb
  gn : m.gb.length ≤ 100000
  a : Ts w m.aa m.la
  an : m.la.length ≤ 1000
  d : m.dat.size ≤ 100000
theorem MW.below {w w' : World} {m : Ms} (h : MW w m) (g : Below w.heap.size w w') : MW w' m := ⟨h.e.below g, h.t.below g, h.tl, h.tn, h.tc, h.g.below g, h.gn, h.a.below g, h.an, h.d⟩
theorem MW.alloc {w : World} {m : Ms} (h : MW w m) (o : Obj) : MW (w.alloc o) m := h.below (by go_grown)
/-- Its numbers are of their types. -/
structure MU (m : Ms) : Prop where
  u : EU m.en
  t : Mt.TWs m.ts
  ap : AWs m.en.la
  wr : AWs m.en.lw
  a : AWs m.la
  g : ∀ b ∈ m.gb, AWs b.l
/-- The tables. -/
structure Ct (w : World) : Prop where
  a : Cd w
  m : Mt.Cd w
theorem Ct.below {w w' : World} (h : Ct w) (g : Below w.heap.size w w') : Ct w' := ⟨h.a.below g, h.m.below g⟩
theorem Ct.alloc {w : World} (h : Ct w) (o : Obj) : Ct (w.alloc o) := h.below (by go_grown)
/-- A message of nothing. -/
def ms0 : Ms := ⟨0, 0, 0, false, en0, [], 0, 0, none, [], 0, 0, 0, 0, 0, 0, 0, false, none, [], 0, ⟨#[]⟩⟩
theorem ms0_w (w : World) : MW w ms0 := ⟨en0_w w, .inl rfl, rfl, by decide, by decide, ⟨by simp [ms0], .inl rfl⟩, by decide, .inl rfl, by decide, by decide⟩
/-
  What within, put, actions and the tests of a message's parts answer, as contracts.
-/
open Go.ChangeShapes Go.WideShapes Go.ChangeAt Go.RowKit

set_option maxHeartbeats 400000 in
theorem within_any (n lo hi : Int) (w : World) : Calls Tryz.prog 29 #[.int .i64 n, .int .i64 lo, .int .i64 hi] w fun e w' => e = .returned (.bool (inB n lo hi)) ∧ w' = w := by
  unfold inB
  by_cases h1 : lo ≤ n <;> by_cases h2 : n ≤ hi <;>
  · go_enter Tryz.func29, Tryz.ntmps29
    go_wp2
    go_ret
    simp [h1, h2]
theorem within_h (n lo hi : Int) : Hid (∀ w, Calls Tryz.prog 29 #[.int .i64 n, .int .i64 lo, .int .i64 hi] w fun e w' => e = .returned (.bool (inB n lo hi)) ∧ w' = w) := by
  intro w
  exact within_any n lo hi w
theorem wput1 (n : Int) (w : World) (h0 : 0 ≤ n) (h1 : n < 256) : Calls Tryz.prog 18 #[.int .i64 n, .int .i64 1] w fun e w' => e = .returned (.string (pb n 1)) ∧ Below w.heap.size w w' := by
  have hw : IntKind.u64.wrap n = n := wraps_u64 _ h0 (by omega)
  go_enter Tryz.func18, Tryz.ntmps18
  go_wp2_with fail
  refine (put_1 n _ h0 h1).mono ?_
  rintro x w1 ⟨rfl, g⟩
  go_wp2_with fail
  go_ret
  exact ⟨rfl, g⟩
theorem wput2 (n : Int) (w : World) (h0 : 0 ≤ n) (h1 : n < 65536) : Calls Tryz.prog 18 #[.int .i64 n, .int .i64 2] w fun e w' => e = .returned (.string (pb n 2)) ∧ Below w.heap.size w w' := by
  have hw : IntKind.u64.wrap n = n := wraps_u64 _ h0 (by omega)
  go_enter Tryz.func18, Tryz.ntmps18
  go_wp2_with fail
  refine (put_2 n _ h0 h1).mono ?_
  rintro x w1 ⟨rfl, g⟩
  go_wp2_with fail
  go_ret
  exact ⟨rfl, g⟩
theorem wput4 (n : Int) (w : World) (h0 : 0 ≤ n) (h1 : n < 4294967296) : Calls Tryz.prog 18 #[.int .i64 n, .int .i64 4] w fun e w' => e = .returned (.string (pb n 4)) ∧ Below w.heap.size w w' := by
  have hw : IntKind.u64.wrap n = n := wraps_u64 _ h0 (by omega)
  go_enter Tryz.func18, Tryz.ntmps18
  go_wp2_with fail
  refine (put_4 n _ h0 h1).mono ?_
  rintro x w1 ⟨rfl, g⟩
  go_wp2_with fail
  go_ret
  exact ⟨rfl, g⟩
theorem wactions_any (a : Option Addr) (l : List A) (cap : Nat) (w : World) (h : Ts w a l) (hl : l.length ≤ 1000) (hd : Cd w) : Calls Tryz.prog 71 #[.slice a l.length cap] w fun e w' => e = .returned (.string (encodeS l)) ∧ Below w.heap.size w w' := by
  have HE : Hid (Calls Tryz.prog 95 #[.slice a l.length cap] w fun e w' => e = .returned (.tuple #[.string (encodeS l), .int .i64 (encodeE l)]) ∧ Below w.heap.size w w') := encode_any a l cap w h hl hd
  clear h hd
  generalize encodeS l = S at *
  generalize encodeE l = E at *
  go_enter Tryz.func71, Tryz.ntmps71
  go_wp2_with fail
  refine HE.out.mono ?_
  rintro x w1 ⟨rfl, g⟩
  go_wp2_with fail
  go_ret
  exact ⟨rfl, g⟩
theorem rightA_any (a : Option Addr) (l : List A) (cap : Nat) (w : World) (h : Ts w a l) (hl : l.length ≤ 1000) (hd : Cd w) : Calls Tryz.prog 64 #[.slice a l.length cap] w fun e w' => e = .returned (.bool (okA l)) ∧ Below w.heap.size w w' := by
  have HE : Hid (Calls Tryz.prog 95 #[.slice a l.length cap] w fun e w' => e = .returned (.tuple #[.string (encodeS l), .int .i64 (encodeE l)]) ∧ Below w.heap.size w w') := encode_any a l cap w h hl hd
  unfold okA
  clear h hd
  generalize encodeS l = S at *
  generalize encodeE l = E at *
  cases hE : E == 0 with
  | true =>
    go_enter Tryz.func64, Tryz.ntmps64
    go_wp2_with fail
    refine HE.out.mono ?_
    rintro x w1 ⟨rfl, g⟩
    go_wp2_with fail
    go_ret
    exact ⟨rfl, g⟩
  | false =>
    go_enter Tryz.func64, Tryz.ntmps64
    go_wp2_with fail
    refine HE.out.mono ?_
    rintro x w1 ⟨rfl, g⟩
    go_wp2_with fail
    go_ret
    exact ⟨rfl, g⟩
set_option maxHeartbeats 2000000 in
theorem rightMet_any (a b c : Int) (w : World) : Calls Tryz.prog 67 #[.agg #[.int .i64 a, .int .i64 b, .int .i64 c]] w fun e w' => e = .returned (.bool (meB a b c)) ∧ Below w.heap.size w w' := by
  have H1 := within_h a 1 16
  have H2 := within_h b 0 4294967295
  have H3 := within_h c 0 4294967295
  unfold meB
  cases h1 : inB a 1 16 with
  | false =>
    rw [h1] at H1
    clear h1 H2 H3
    go_enter Tryz.func67, Tryz.ntmps67
    go_wp2_with fail
    refine (H1.out _).mono ?_
    rintro x w1 ⟨rfl, rfl⟩
    go_wp2_with fail
    go_ret
    exact ⟨rfl, by go_grown⟩
  | true =>
    rw [h1] at H1
    cases h2 : inB b 0 4294967295 with
    | false =>
      rw [h2] at H2
      clear h1 h2 H3
      go_enter Tryz.func67, Tryz.ntmps67
      go_wp2_with fail
      refine (H1.out _).mono ?_
      rintro x w1 ⟨rfl, rfl⟩
      go_wp2_with fail
      refine (H2.out _).mono ?_
      rintro x w1 ⟨rfl, rfl⟩
      go_wp2_with fail
      go_ret
      exact ⟨rfl, by go_grown⟩
    | true =>
      rw [h2] at H2
      generalize inB c 0 4294967295 = B at *
      clear h1 h2
      go_enter Tryz.func67, Tryz.ntmps67
      go_wp2_with fail
      refine (H1.out _).mono ?_
      rintro x w1 ⟨rfl, rfl⟩
      go_wp2_with fail
      refine (H2.out _).mono ?_
      rintro x w1 ⟨rfl, rfl⟩
      go_wp2_with fail
      refine (H3.out _).mono ?_
      rintro x w1 ⟨rfl, rfl⟩
      go_wp2_with fail
      go_ret
      exact ⟨rfl, by go_grown⟩
set_option maxHeartbeats 4000000 in
theorem rightBk_any (b : Bk) (w : World) (h : BW w b) (hd : Cd w) : Calls Tryz.prog 98 #[bkV b] w fun e w' => e = .returned (.bool (bkB b.b3)) ∧ Below w.heap.size w w' := by
  have H1 := within_h b.wa 0 65535
  have H2 := within_h b.we 0 65535
  have H3 : Hid (Calls Tryz.prog 64 #[.slice b.a b.l.length b.c] (bx w b) fun e w' => e = .returned (.bool (okA b.l)) ∧ Below (bx w b).heap.size (bx w b) w') := rightA_any b.a b.l b.c (bx w b) (h.t.alloc _) h.n (hd.alloc _)
  show Calls _ _ _ _ fun e w' => e = .returned (.bool (inB b.wa 0 65535 && inB b.we 0 65535 && decide (b.l.length ≤ 8) && okA b.l)) ∧ _
  have hn := h.n
  clear h hd
  cases h1 : inB b.wa 0 65535 with
  | false =>
    rw [h1] at H1
    clear h1 H2 H3
    go_enter Tryz.func98, Tryz.ntmps98
    go_wp2_with fail
    refine (H1.out _).mono ?_
    rintro x w1 ⟨rfl, rfl⟩
    go_wp2_with fail
    go_ret
    exact ⟨rfl, by go_grown⟩
  | true =>
    rw [h1] at H1
    cases h2 : inB b.we 0 65535 with
    | false =>
      rw [h2] at H2
      clear h1 h2 H3
      go_enter Tryz.func98, Tryz.ntmps98
      go_wp2_with fail
      refine (H1.out _).mono ?_
      rintro x w1 ⟨rfl, rfl⟩
      go_wp2_with fail
      refine (H2.out _).mono ?_
      rintro x w1 ⟨rfl, rfl⟩
      go_wp2_with fail
      go_ret
      exact ⟨rfl, by go_grown⟩
    | true =>
      rw [h2] at H2
      clear h1 h2
      by_cases h8 : b.l.length ≤ 8
      · have h8' : (b.l.length : Int) ≤ 8 := by omega
        have e8 : decide (b.l.length ≤ 8) = true := by simpa using h8
        rw [e8]
        clear h8 e8
        generalize okA b.l = B at *
        go_enter Tryz.func98, Tryz.ntmps98
        go_wp2_with fail
        refine (H1.out _).mono ?_
        rintro x w1 ⟨rfl, rfl⟩
        go_wp2_with fail
        refine (H2.out _).mono ?_
        rintro x w1 ⟨rfl, rfl⟩
        go_wp2_with fail
        refine H3.out.mono ?_
        rintro x w1 ⟨rfl, g⟩
        go_wp2_with fail
        go_ret
        exact ⟨rfl, btr (by go_grown) g (by simp)⟩
      · have h8' : ¬ ((b.l.length : Int) ≤ 8) := by omega
        have e8 : decide (b.l.length ≤ 8) = false := by simpa using h8
        rw [e8]
        clear h8 e8 H3
        go_enter Tryz.func98, Tryz.ntmps98
        go_wp2_with fail
        refine (H1.out _).mono ?_
        rintro x w1 ⟨rfl, rfl⟩
        go_wp2_with fail
        refine (H2.out _).mono ?_
        rintro x w1 ⟨rfl, rfl⟩
        go_wp2_with fail
        go_ret
        exact ⟨rfl, by go_grown⟩
set_option maxHeartbeats 4000000 in
theorem rightEnt_any (x : En) (ts : List Mt.T) (w : World) (h : EW w x) (hm : Mt.Ts w x.ta ts) (htl : x.tl = ts.length) (hn : ts.length ≤ 1000) (hc : ts.length ≤ x.tc) (hd : Cd w) :
    Calls Tryz.prog 65 #[enV x] w fun e w' => e = .returned (.bool (entB x.pri ts x.sp)) ∧ Below w.heap.size w w' := by
  have H1 := within_h x.pri 0 65535
  have H2 : Hid (Calls Tryz.prog 96 #[.slice x.ta x.tl x.tc] (ex w x) fun e w' => e = .returned (.int .i64 (Mt.rightE ts)) ∧ Below (ex w x).heap.size (ex w x) w') := (show Calls _ _ _ _ _ from by
    rw [htl]
    exact Mt.right_any x.ta ts x.tc (ex w x) (hm.alloc _) (by omega) hc)
  have H3 : Hid (∀ w1, Below (ex w x).heap.size (ex w x) w1 → Calls Tryz.prog 97 #[enV x] w1 fun e w' => e = .returned (.int .i64 (rightX x.sp)) ∧ Below w1.heap.size w1 w') := (show ∀ w1, _ from fun w1 g => rightX_any x w1 ((h.alloc _).below g) ((hd.alloc _).below g))
  have HB : Hid (∀ w1, Below (ex w x).heap.size (ex w x) w1 → Bn w1 w.heap.size x) := (show ∀ w1, _ from fun w1 g => (Bn.new w x).below (by simp) g)
  unfold entB
  clear h hm htl hn hc hd
  cases h1 : inB x.pri 0 65535 with
  | false =>
    rw [h1] at H1
    clear h1 H2 H3
    go_enter Tryz.func65, Tryz.ntmps65
    go_wp2_with fail
    refine (H1.out _).mono ?_
    rintro x w1 ⟨rfl, rfl⟩
    go_wp2_with fail
    go_ret
    exact ⟨rfl, by go_grown⟩
  | true =>
    rw [h1] at H1
    generalize Mt.rightE ts = E at *
    cases h2 : E == 0 with
    | false =>
      clear h1 H3
      go_enter Tryz.func65, Tryz.ntmps65
      go_wp2_with fail
      refine (H1.out _).mono ?_
      rintro x w1 ⟨rfl, rfl⟩
      go_wp2_with fail
      refine H2.out.mono ?_
      rintro x w1 ⟨rfl, g1⟩
      go_wp2_with fail
      go_ret
      exact ⟨rfl, btr (by go_grown) g1 (by simp)⟩
    | true =>
      clear h1
      generalize rightX x.sp = R at *
      cases h3 : R == 0
      all_goals
        go_enter Tryz.func65, Tryz.ntmps65
        go_wp2_with fail
        refine (H1.out _).mono ?_
        rintro x w1 ⟨rfl, rfl⟩
        go_wp2_with fail
        refine H2.out.mono ?_
        rintro x w1 ⟨rfl, g1⟩
        obtain ⟨c0, c1, c2, c3, c4, c5, c6, c7, c8, c9⟩ := HB.out _ g1
        go_wp2_with fail
        refine (H3.out _ g1).mono ?_
        rintro x w2 ⟨rfl, g2⟩
        have b2 := btr g1 g2 (by simp)
        clear c0 c1 c2 c3 c4 c5 c6 c7 c8 c9 g1 g2
        go_wp2_with fail
        go_ret
        exact ⟨rfl, btr (by go_grown) b2 (by simp)⟩
/-
  What the bodies' parts answer, as contracts.
-/
open Go.ChangeShapes Go.WideShapes Go.ChangeAt Go.RowKit

/-- A number that fits into so many bytes. -/
def fits (n k : Int) : Prop := (k = 1 ∧ 0 ≤ n ∧ n < 256) ∨ (k = 2 ∧ 0 ≤ n ∧ n < 65536) ∨ (k = 4 ∧ 0 ≤ n ∧ n < 4294967296)
def pbI (n k : Int) : ByteArray := pb n k.toNat
theorem pbI_size (n k : Int) : (pbI n k).size = k.toNat := pb_size _ _
theorem pbI_1 (n : Int) : pbI n 1 = pb n 1 := rfl
theorem pbI_2 (n : Int) : pbI n 2 = pb n 2 := rfl
theorem pbI_4 (n : Int) : pbI n 4 = pb n 4 := rfl
theorem wput_i (n k : Int) (w : World) (h : fits n k) : Calls Tryz.prog 18 #[.int .i64 n, .int .i64 k] w fun e w' => e = .returned (.string (pbI n k)) ∧ Below w.heap.size w w' := by
  rcases h with ⟨rfl, h0, h1⟩ | ⟨rfl, h0, h1⟩ | ⟨rfl, h0, h1⟩
  · exact wput1 n w h0 h1
  · exact wput2 n w h0 h1
  · exact wput4 n w h0 h1
theorem wput_h : Hid (∀ n k w, fits n k → Calls Tryz.prog 18 #[.int .i64 n, .int .i64 k] w fun e w' => e = .returned (.string (pbI n k)) ∧ Below w.heap.size w w') := by
  intro n k w h
  exact wput_i n k w h
theorem rep_list (x : List UInt8) : ∀ c : Nat, Lib.repeatL x c = (List.replicate c x).flatten
  | 0 => rfl
  | c + 1 => by rw [Lib.repeatL, rep_list x c, List.replicate_succ, List.flatten_cons]
theorem rep_0 (c : Nat) (w : World) (hc : c ≤ 100) : Calls Tryz.prog 70 #[.string ⟨#[0]⟩, .int .i64 (c : Int)] w fun e w' => e = .returned (.string (zeros c)) ∧ Below w.heap.size w w' := by
  have h := Tryz.strings_Repeat ⟨#[0]⟩ c w (by omega) (by show 1 * c ≤ _; omega)
  have e : (⟨(Lib.repeatL (⟨#[0]⟩ : ByteArray).data.toList c).toArray⟩ : ByteArray) = zeros c := by
    rw [rep_list]
    unfold zeros
    congr 2
    show (List.replicate c [(0 : UInt8)]).flatten = _
    induction c with
    | zero => rfl
    | succ c ih => rw [List.replicate_succ, List.flatten_cons, ih (by omega) (Tryz.strings_Repeat ⟨#[0]⟩ c w (by omega) (by show 1 * c ≤ _; omega)), List.replicate_succ]; rfl
  rwa [e] at h
theorem rep_32 (w : World) : Calls Tryz.prog 70 #[.string ⟨#[0]⟩, .int .i64 32] w fun e w' => e = .returned (.string (zeros 32)) ∧ Below w.heap.size w w' := rep_0 32 w (by decide)
theorem rep_24 (w : World) : Calls Tryz.prog 70 #[.string ⟨#[0]⟩, .int .i64 24] w fun e w' => e = .returned (.string (zeros 24)) ∧ Below w.heap.size w w' := rep_0 24 w (by decide)
theorem rep_16 (w : World) : Calls Tryz.prog 70 #[.string ⟨#[0, 0, 0, 0]⟩, .int .i64 4] w fun e w' => e = .returned (.string (zeros 16)) ∧ Below w.heap.size w w' := by
  have h := Tryz.strings_Repeat ⟨#[0, 0, 0, 0]⟩ 4 w (by omega) (by decide)
  rwa [show (⟨(Lib.repeatL (⟨#[0, 0, 0, 0]⟩ : ByteArray).data.toList 4).toArray⟩ : ByteArray) = zeros 16 by decide +kernel] at h
theorem rep_12 (w : World) : Calls Tryz.prog 70 #[.string ⟨#[255, 255, 255, 255]⟩, .int .i64 3] w fun e w' => e = .returned (.string ff12) ∧ Below w.heap.size w w' := by
  have h := Tryz.strings_Repeat ⟨#[255, 255, 255, 255]⟩ 3 w (by omega) (by decide)
  rwa [show (⟨(Lib.repeatL (⟨#[255, 255, 255, 255]⟩ : ByteArray).data.toList 3).toArray⟩ : ByteArray) = ff12 by decide +kernel] at h
theorem sl_1 (w : World) : (Instr.slice 9 (.string ⟨#[0, 0, 0, 0]⟩) (some (.int .i64 1)) none none).run Tryz.prog w = .ok (.string ⟨#[0, 0, 0]⟩) w := by
  simp [go_sem]
  decide +kernel
theorem sl_2 (w : World) : (Instr.slice 9 (.string ⟨#[0, 0, 0, 0]⟩) (some (.int .i64 2)) none none).run Tryz.prog w = .ok (.string ⟨#[0, 0]⟩) w := by
  simp [go_sem]
  decide +kernel
theorem sl_3 (w : World) : (Instr.slice 9 (.string ⟨#[0, 0, 0, 0]⟩) (some (.int .i64 3)) none none).run Tryz.prog w = .ok (.string ⟨#[0]⟩) w := by
  simp [go_sem]
  decide +kernel
set_option maxHeartbeats 4000000 in
theorem portS_any (p : Int) (b : Bool) (w : World) (h0 : 0 ≤ p) (h1 : p < 4294967296) : Calls Tryz.prog 33 #[.int .i64 p, .bool b] w fun e w' => e = .returned (.string (portS p b)) ∧ Below w.heap.size w w' := by
  have HP := wput_h
  have HR1 : Hid (∀ w, Calls Tryz.prog 70 #[.string ⟨#[0]⟩, .int .i64 32] w fun e w' => e = .returned (.string (zeros 32)) ∧ Below w.heap.size w w') := (show ∀ w, _ from rep_32)
  have HR2 : Hid (∀ w, Calls Tryz.prog 70 #[.string ⟨#[0]⟩, .int .i64 24] w fun e w' => e = .returned (.string (zeros 24)) ∧ Below w.heap.size w w') := (show ∀ w, _ from rep_24)
  have hps := pbI_size
  have hz := zeros_size
  have hsl := sl_1
  cases b
  all_goals
    go_enter Tryz.func33, Tryz.ntmps33
    go_wp2_with fail
    refine wp_region_grow (by kernel_rfl) (by kernel_rfl) ?_
    repeat (go_big_quiet_step ((first | (go_at_call 18; exact quiet_gr (HP.out _ _ _ (by unfold fits; omega))) | (go_at_call_of 70 (Value.int IntKind.i64 32); exact quiet_gr (HR1.out _)) | (go_at_call_of 70 (Value.int IntKind.i64 24); exact quiet_gr (HR2.out _)))))
    refine wpQuiet_nil ?_
    rintro w3 hw'
    have g3 := gr_elim hw'
    clear hw'
    go_wp2_with fail
    go_ret
    exact ⟨rfl, g3⟩
set_option maxHeartbeats 4000000 in
theorem metS_any (cmd a b c : Int) (w : World) (hc : inB cmd 0 2 = true) (hm : meB a b c = true) : Calls Tryz.prog 37 #[.int .i64 cmd, .agg #[.int .i64 a, .int .i64 b, .int .i64 c]] w fun e w' => e = .returned (.string (metS cmd a b c)) ∧ Below w.heap.size w w' := by
  have HP := wput_h
  have hps := pbI_size
  simp only [meB, Bool.and_eq_true, inB_iff] at hc hm
  obtain ⟨c0, c1⟩ := hc
  obtain ⟨⟨⟨a0, a1⟩, b0, b1⟩, d0, d1⟩ := hm
  obtain ⟨W1, hW1⟩ : ∃ W1, w.alloc (.cells #[.int .i64 a, .int .i64 b, .int .i64 c] 31) = W1 := ⟨_, rfl⟩
  have q0 : ∀ n : GrT W1, n.w.cell? ⟨w.heap.size, 0, none⟩ = some (.int .i64 a) := fun n => (n.h.cell (p := ⟨w.heap.size, 0, none⟩) (by rw [← hW1]; simp)).trans (by rw [← hW1]; simp)
  have q1 : ∀ n : GrT W1, n.w.cell? ⟨w.heap.size, 1, none⟩ = some (.int .i64 b) := fun n => (n.h.cell (p := ⟨w.heap.size, 1, none⟩) (by rw [← hW1]; simp)).trans (by rw [← hW1]; simp)
  have q2 : ∀ n : GrT W1, n.w.cell? ⟨w.heap.size, 2, none⟩ = some (.int .i64 c) := fun n => (n.h.cell (p := ⟨w.heap.size, 2, none⟩) (by rw [← hW1]; simp)).trans (by rw [← hW1]; simp)
  have G1 : Below w.heap.size w W1 := by rw [← hW1]; go_grown
  have HW1 : Hid (w.alloc (.cells #[.int .i64 a, .int .i64 b, .int .i64 c] 31) = W1) := hW1
  clear hW1
  go_enter Tryz.func37, Tryz.ntmps37
  go_wp2_with fail
  rw [HW1.out]
  refine wp_region_grow (by kernel_rfl) (by kernel_rfl) ?_
  repeat (go_big_quiet_step ((first | (go_at_call 18; exact quiet_gr (HP.out _ _ _ (by unfold fits; omega))))))
  refine wpQuiet_nil ?_
  rintro w3 hw'
  have g3 := gr_elim hw'
  clear hw' q0 q1 q2
  go_wp2_with fail
  go_ret
  exact ⟨rfl, btr G1 g3 (Nat.le_refl _)⟩
set_option maxHeartbeats 4000000 in
theorem bkS_any (b : Bk) (w : World) (h : BW w b) (hd : Cd w) (hb : bkB b.b3 = true) : Calls Tryz.prog 74 #[bkV b] w fun e w' => e = .returned (.string (bkS b.b3)) ∧ Below w.heap.size w w' := by
  have HP := wput_h
  have hps := pbI_size
  have HA : Hid (Calls Tryz.prog 71 #[.slice b.a b.l.length b.c] (bx w b) fun e w' => e = .returned (.string (encodeS b.l)) ∧ Below (bx w b).heap.size (bx w b) w') := wactions_any b.a b.l b.c (bx w b) (h.t.alloc _) h.n (hd.alloc _)
  have HC : Hid (∀ w1, Below (bx w b).heap.size (bx w b) w1 → Cb w1 w.heap.size 0 b ∧ w.heap.size < w1.heap.size) := (show ∀ w1, _ from fun w1 g => ⟨(Cb.new w b).below (by simp) g, Nat.lt_of_lt_of_le (by simp) g.size⟩)
  simp only [bkB, Bk.b3, Bool.and_eq_true, inB_iff] at hb
  obtain ⟨⟨⟨⟨a0, a1⟩, b0, b1⟩, _⟩, _⟩ := hb
  have hz := encS_le b.l
  have hR : Hid (bkS b.b3 = pb (16 + ((encodeS b.l).size : Int)) 2 ++ pb b.we 2 ++ pb (wat b.wa) 4 ++ ⟨#[255, 255, 255, 255]⟩ ++ ⟨#[0, 0, 0, 0]⟩ ++ encodeS b.l) := (show _ = _ from rfl)
  clear h hd
  generalize encodeS b.l = S at *
  by_cases hw : b.wa = 0
  · have hb : (b.wa == 0) = true := by simpa using hw
    have e : wat b.wa = 4294967295 := by unfold wat; rw [if_pos hw]
    rw [hR.out, e]
    clear hw e hR
    go_enter Tryz.func74, Tryz.ntmps74
    go_wp2_with fail
    refine HA.out.mono ?_
    rintro x w1 ⟨rfl, g1⟩
    obtain ⟨q, hq⟩ := HC.out _ g1
    have q1 := fun n => (Cb.gr q hq n).2.1
    clear q hq
    go_wp2_with fail
    refine wp_region_grow (by kernel_rfl) (by kernel_rfl) ?_
    repeat (go_big_quiet_step ((first | (go_at_call 18; exact quiet_gr (HP.out _ _ _ (by unfold fits; omega))))))
    refine wpQuiet_nil ?_
    rintro w3 hw'
    have g3 := gr_elim hw'
    clear hw' q1
    go_wp2_with fail
    go_ret
    exact ⟨rfl, btr (by go_grown) (btr g1 g3 (Nat.le_refl _)) (by simp)⟩
  · have hb : (b.wa == 0) = false := by simpa using hw
    have e : wat b.wa = b.wa := by unfold wat; rw [if_neg hw]
    rw [hR.out, e]
    clear hw e hR
    go_enter Tryz.func74, Tryz.ntmps74
    go_wp2_with fail
    refine HA.out.mono ?_
    rintro x w1 ⟨rfl, g1⟩
    obtain ⟨q, hq⟩ := HC.out _ g1
    have q1 := fun n => (Cb.gr q hq n).2.1
    clear q hq
    go_wp2_with fail
    refine wp_region_grow (by kernel_rfl) (by kernel_rfl) ?_
    repeat (go_big_quiet_step ((first | (go_at_call 18; exact quiet_gr (HP.out _ _ _ (by unfold fits; omega))))))
    refine wpQuiet_nil ?_
    rintro w3 hw'
    have g3 := gr_elim hw'
    clear hw' q1
    go_wp2_with fail
    go_ret
    exact ⟨rfl, btr (by go_grown) (btr g1 g3 (Nat.le_refl _)) (by simp)⟩
/-
  What isEmptyEntry, isEmptyGroup, isEmpty and withoutOwn answer, as contracts.
-/
open Go.ChangeShapes Go.WideShapes Go.ChangeAt Go.RowKit

set_option linter.unusedSimpArgs false
theorem isE (d : ByteArray) : d.toList.isEmpty = (d.size == 0) := by
  rw [ByteArray.toList_eq]
  obtain ⟨⟨l⟩⟩ := d
  cases l <;> simp [ByteArray.size]
theorem cast_eq0 (n : Nat) : ((n : Int) == 0) = (n == 0) := by cases n <;> simp <;> omega
set_option maxHeartbeats 4000000 in
theorem noEnt_any (x : En) (ts : List Mt.T) (w : World) (htl : x.tl = ts.length) :
    Calls Tryz.prog 68 #[enV x] w fun e w' => e = .returned (.bool (noEnt x.pri ts x.sp)) ∧ Below w.heap.size w w' := by
  obtain ⟨R, hR⟩ : ∃ R, noEnt x.pri ts x.sp = R := ⟨_, rfl⟩
  rw [hR]
  have HR : Hid (noEnt x.pri ts x.sp = R) := hR
  have HT : Hid (x.tl = ts.length) := htl
  clear hR htl
  go_enter Tryz.func68, Tryz.ntmps68
  go_wp2
  all_goals
    go_ret
    refine ⟨ret_bool ?_, by go_grown⟩
    rw [← HR.out]
    have e : ts.length = x.tl := HT.out.symm
    simp [noEnt, noSp, En.sp, e, *]
set_option maxHeartbeats 4000000 in
theorem noGrp_any (gid gkd : Int) (ga : Option Addr) (l : List Bk) (gc : Nat) (w : World) :
    Calls Tryz.prog 69 #[.agg #[.int .i64 gid, .int .i64 gkd, .slice ga l.length gc]] w fun e w' => e = .returned (.bool (noGrp gid gkd (l.map Bk.b3))) ∧ Below w.heap.size w w' := by
  obtain ⟨R, hR⟩ : ∃ R, noGrp gid gkd (l.map Bk.b3) = R := ⟨_, rfl⟩
  rw [hR]
  have HR : Hid (noGrp gid gkd (l.map Bk.b3) = R) := hR
  clear hR
  go_enter Tryz.func69, Tryz.ntmps69
  go_wp2
  all_goals
    go_ret
    refine ⟨ret_bool ?_, by go_grown⟩
    rw [← HR.out]
    simp [noGrp, cast_eq0, *]
/-- Whether a message has nothing. -/
def emptyM (m : Msg) : Bool := m.cmd == 0 && !m.chk && noEnt m.pri m.ts m.sp && noGrp m.gid m.gkd m.gb && noMet m.mid m.mra m.mbu && m.typ == 0 && m.cod == 0 && m.prt == 0 && !m.live && m.la.length == 0 && m.dat.size == 0
theorem eqM0 (a b c : Int) (w : World) : (binOp .eql 31 (.agg #[.int .i64 a, .int .i64 b, .int .i64 c]) (.agg #[.int .i64 0, .int .i64 0, .int .i64 0])).run Tryz.prog w = .ok (.bool (noMet a b c)) w := by
  have u3 := Tryz.underlying3
  have a3 := Tryz.isAgg3
  have z3 := Tryz.sizeOf3
  have hS : Tryz.prog.underlying 31 = some (.struct (Tryz.prog.fieldsOf 31)) := by kernel_rfl
  have hp : Tryz.prog.stoodInHeld 31 = false := by kernel_rfl
  rw [run_eql_struct, show (10000 : Nat) = 9999 + 1 from rfl, run_equalIn_agg w 9999 31 _ _ hS hp]
  simp only [Program.fieldsOf, Tryz.underlying31]
  go_simp
  unfold noMet
  by_cases h1 : a = 0 <;> by_cases h2 : b = 0 <;> by_cases h3 : c = 0 <;> simp [h1, h2, h3]
theorem guM0 (op : BinOp) (x y : Operand) (u v : Array Value) (w : World) : (eqGuard op 31 x y (.agg u) (.agg v)).run Tryz.prog w = .ok () w := run_eqGuard_agg w op 31 x y _ _ (by kernel_rfl)
set_option maxRecDepth 20000 in
set_option maxHeartbeats 8000000 in
theorem empty_any (m : Ms) (w : World) (h : MW w m) : Calls Tryz.prog 31 #[msV m] w fun e w' => e = .returned (.bool (emptyM m.msg)) ∧ Below w.heap.size w w' := by
  have HE : Hid (∀ w, Calls Tryz.prog 68 #[enV m.en] w fun e w' => e = .returned (.bool (noEnt m.en.pri m.ts m.en.sp)) ∧ Below w.heap.size w w') := (show ∀ w, _ from fun w => noEnt_any m.en m.ts w h.tl)
  have HG : Hid (∀ w, Calls Tryz.prog 69 #[.agg #[.int .i64 m.gid, .int .i64 m.gkd, .slice m.ga m.gb.length m.gc]] w fun e w' => e = .returned (.bool (noGrp m.gid m.gkd (m.gb.map Bk.b3))) ∧ Below w.heap.size w w') := (show ∀ w, _ from fun w => noGrp_any m.gid m.gkd m.ga m.gb m.gc w)
  have hq := eqM0 m.mid m.mra m.mbu
  have hg := guM0
  have HR : Hid (emptyM m.msg = (m.cmd == 0 && !m.chk && noEnt m.en.pri m.ts m.en.sp && noGrp m.gid m.gkd (m.gb.map Bk.b3) && noMet m.mid m.mra m.mbu && m.typ == 0 && m.cod == 0 && m.prt == 0 && !m.live && m.la.length == 0 && m.dat.size == 0)) := (show _ = _ from rfl)
  have HB : Hid (∀ w1, Below (mx w m).heap.size (mx w m) w1 → Bm w1 w.heap.size m) := (show ∀ w1, _ from fun w1 g => (Bm.new w m).below (by simp) g)
  rw [HR.out]
  clear h HR
  generalize noEnt m.en.pri m.ts m.en.sp = B1 at *
  generalize noGrp m.gid m.gkd (m.gb.map Bk.b3) = B2 at *
  generalize noMet m.mid m.mra m.mbu = B3 at *
  obtain ⟨R, hR⟩ : ∃ R, (m.cmd == 0 && !m.chk && B1 && B2 && B3 && m.typ == 0 && m.cod == 0 && m.prt == 0 && !m.live && m.la.length == 0 && m.dat.size == 0) = R := ⟨_, rfl⟩
  rw [hR]
  have HR : Hid ((m.cmd == 0 && !m.chk && B1 && B2 && B3 && m.typ == 0 && m.cod == 0 && m.prt == 0 && !m.live && m.la.length == 0 && m.dat.size == 0) = R) := hR
  clear hR
  go_enter Tryz.func31, Tryz.ntmps31
  go_wp2_with fail
  all_goals try (go_ret; refine ⟨ret_bool ?_, by go_grown⟩; rw [← HR.out]; simp [*]; done)
  refine (HE.out _).mono ?_
  rintro r w1 ⟨rfl, g1⟩
  have c14 : w1.cell? ⟨w.heap.size, 14, none⟩ = some (.int .i64 m.gid) := (g1.cell (p := ⟨w.heap.size, 14, none⟩) (by simp)).trans (by simp)
  have c15 : w1.cell? ⟨w.heap.size, 15, none⟩ = some (.int .i64 m.gkd) := (g1.cell (p := ⟨w.heap.size, 15, none⟩) (by simp)).trans (by simp)
  have c16 : w1.cell? ⟨w.heap.size, 16, none⟩ = some (.slice m.ga m.gb.length m.gc) := (g1.cell (p := ⟨w.heap.size, 16, none⟩) (by simp)).trans (by simp)
  have c17 : w1.cell? ⟨w.heap.size, 17, none⟩ = some (.int .i64 m.mid) := (g1.cell (p := ⟨w.heap.size, 17, none⟩) (by simp)).trans (by simp)
  have c18 : w1.cell? ⟨w.heap.size, 18, none⟩ = some (.int .i64 m.mra) := (g1.cell (p := ⟨w.heap.size, 18, none⟩) (by simp)).trans (by simp)
  have c19 : w1.cell? ⟨w.heap.size, 19, none⟩ = some (.int .i64 m.mbu) := (g1.cell (p := ⟨w.heap.size, 19, none⟩) (by simp)).trans (by simp)
  have c20 : w1.cell? ⟨w.heap.size, 20, none⟩ = some (.int .i64 m.typ) := (g1.cell (p := ⟨w.heap.size, 20, none⟩) (by simp)).trans (by simp)
  have c21 : w1.cell? ⟨w.heap.size, 21, none⟩ = some (.int .i64 m.cod) := (g1.cell (p := ⟨w.heap.size, 21, none⟩) (by simp)).trans (by simp)
  have c22 : w1.cell? ⟨w.heap.size, 22, none⟩ = some (.int .i64 m.prt) := (g1.cell (p := ⟨w.heap.size, 22, none⟩) (by simp)).trans (by simp)
  have c23 : w1.cell? ⟨w.heap.size, 23, none⟩ = some (.bool m.live) := (g1.cell (p := ⟨w.heap.size, 23, none⟩) (by simp)).trans (by simp)
  have c24 : w1.cell? ⟨w.heap.size, 24, none⟩ = some (.slice m.aa m.la.length m.ca) := (g1.cell (p := ⟨w.heap.size, 24, none⟩) (by simp)).trans (by simp)
  have c25 : w1.cell? ⟨w.heap.size, 25, none⟩ = some (.string m.dat) := (g1.cell (p := ⟨w.heap.size, 25, none⟩) (by simp)).trans (by simp)
  have G1 : Below w.heap.size w w1 := btr (by go_grown) g1 (Nat.le_refl _)
  have z1 : w.heap.size < w1.heap.size := Nat.lt_of_lt_of_le (by simp) g1.size
  clear g1
  go_wp2_with fail
  all_goals try (go_ret; refine ⟨ret_bool ?_, G1⟩; rw [← HR.out]; simp [*]; done)
  refine (HG.out _).mono ?_
  rintro r w2 ⟨rfl, g2⟩
  have d14 : w2.cell? ⟨w.heap.size, 14, none⟩ = some (.int .i64 m.gid) := (g2.cell (p := ⟨w.heap.size, 14, none⟩) z1).trans c14
  have d15 : w2.cell? ⟨w.heap.size, 15, none⟩ = some (.int .i64 m.gkd) := (g2.cell (p := ⟨w.heap.size, 15, none⟩) z1).trans c15
  have d16 : w2.cell? ⟨w.heap.size, 16, none⟩ = some (.slice m.ga m.gb.length m.gc) := (g2.cell (p := ⟨w.heap.size, 16, none⟩) z1).trans c16
  have d17 : w2.cell? ⟨w.heap.size, 17, none⟩ = some (.int .i64 m.mid) := (g2.cell (p := ⟨w.heap.size, 17, none⟩) z1).trans c17
  have d18 : w2.cell? ⟨w.heap.size, 18, none⟩ = some (.int .i64 m.mra) := (g2.cell (p := ⟨w.heap.size, 18, none⟩) z1).trans c18
  have d19 : w2.cell? ⟨w.heap.size, 19, none⟩ = some (.int .i64 m.mbu) := (g2.cell (p := ⟨w.heap.size, 19, none⟩) z1).trans c19
  have d20 : w2.cell? ⟨w.heap.size, 20, none⟩ = some (.int .i64 m.typ) := (g2.cell (p := ⟨w.heap.size, 20, none⟩) z1).trans c20
  have d21 : w2.cell? ⟨w.heap.size, 21, none⟩ = some (.int .i64 m.cod) := (g2.cell (p := ⟨w.heap.size, 21, none⟩) z1).trans c21
  have d22 : w2.cell? ⟨w.heap.size, 22, none⟩ = some (.int .i64 m.prt) := (g2.cell (p := ⟨w.heap.size, 22, none⟩) z1).trans c22
  have d23 : w2.cell? ⟨w.heap.size, 23, none⟩ = some (.bool m.live) := (g2.cell (p := ⟨w.heap.size, 23, none⟩) z1).trans c23
  have d24 : w2.cell? ⟨w.heap.size, 24, none⟩ = some (.slice m.aa m.la.length m.ca) := (g2.cell (p := ⟨w.heap.size, 24, none⟩) z1).trans c24
  have d25 : w2.cell? ⟨w.heap.size, 25, none⟩ = some (.string m.dat) := (g2.cell (p := ⟨w.heap.size, 25, none⟩) z1).trans c25
  have G2 : Below w.heap.size w w2 := btr G1 g2 (Nat.le_refl _)
  clear c14 c15 c16 c17 c18 c19 c20 c21 c22 c23 c24 c25 g2
  go_wp2_with fail
  all_goals try (go_ret; refine ⟨ret_bool ?_, G2⟩; rw [← HR.out]; simp [cast_eq0, *]; done)
  go_ret
  refine ⟨ret_bool ?_, G2⟩
  rw [← HR.out]
  simp [cast_eq0, isE, *]
/-
  What rightGroup and groupBody answer, as contracts.
-/
open Go.ChangeShapes Go.WideShapes Go.ChangeAt Go.RowKit

abbrev gx (w : World) (gid gkd : Int) (ga : Option Addr) (n gc : Nat) : World := w.alloc (.cells #[.int .i64 gid, .int .i64 gkd, .slice ga n gc] 29)
theorem bk_snoc (l : List Bk) (k : Nat) (h : k < l.length) : ((l.take (k + 1)).map Bk.b3).all bkB = (((l.take k).map Bk.b3).all bkB && bkB l[k].b3) := by
  rw [List.take_succ_eq_append_getElem h, List.map_append, List.all_append]; simp
theorem bks_snoc (l : List Bk) (k : Nat) (h : k < l.length) : bksS ((l.take (k + 1)).map Bk.b3) = bksS ((l.take k).map Bk.b3) ++ bkS l[k].b3 := by
  rw [List.take_succ_eq_append_getElem h, List.map_append, bks_append]
  exact congrArg _ (bks_one _)
set_option maxHeartbeats 4000000 in
theorem rightG_any (gid gkd : Int) (ga : Option Addr) (l : List Bk) (gc : Nat) (w : World) (h : Bs w ga l) (hd : Cd w) :
    Calls Tryz.prog 66 #[.agg #[.int .i64 gid, .int .i64 gkd, .slice ga l.length gc]] w fun e w' => e = .returned (.bool (grB gid gkd (l.map Bk.b3))) ∧ Below w.heap.size w w' := by
  have H1 := within_h gid 1 65535
  have H2 := within_h gkd 1 4
  have HR : Hid (∀ x w, BW w x → Cd w → Calls Tryz.prog 98 #[bkV x] w fun e w' => e = .returned (.bool (bkB x.b3)) ∧ Below w.heap.size w w') := (show ∀ x w, _ from fun x w h hd => rightBk_any x w h hd)
  have HD : Hid (Cd w) := hd
  have HG : Hid (grB gid gkd (l.map Bk.b3) = (inB gid 1 65535 && inB gkd 1 4 && decide (l.length ≤ 16) && (l.map Bk.b3).all bkB)) := (show _ = _ by unfold grB; rw [List.length_map])
  rw [HG.out]
  clear hd HG
  cases h1 : inB gid 1 65535 with
  | false =>
    rw [h1] at H1
    clear h1 H2 HR HD h
    go_enter Tryz.func66, Tryz.ntmps66
    go_wp2_with fail
    refine (H1.out _).mono ?_
    rintro x w1 ⟨rfl, rfl⟩
    go_wp2_with fail
    go_ret
    exact ⟨rfl, by go_grown⟩
  | true =>
    rw [h1] at H1
    cases h2 : inB gkd 1 4 with
    | false =>
      rw [h2] at H2
      clear h1 h2 HR HD h
      go_enter Tryz.func66, Tryz.ntmps66
      go_wp2_with fail
      refine (H1.out _).mono ?_
      rintro x w1 ⟨rfl, rfl⟩
      go_wp2_with fail
      refine (H2.out _).mono ?_
      rintro x w1 ⟨rfl, rfl⟩
      go_wp2_with fail
      go_ret
      exact ⟨rfl, by go_grown⟩
    | true =>
      rw [h2] at H2
      clear h1 h2
      by_cases h16 : l.length ≤ 16
      · have e16 : decide (l.length ≤ 16) = true := by simpa using h16
        have z16 : ¬ ((l.length : Int) > 16) := by omega
        rw [e16]
        clear e16
        go_enter Tryz.func66, Tryz.ntmps66
        go_wp2_with fail
        refine (H1.out _).mono ?_
        rintro x w1 ⟨rfl, rfl⟩
        go_wp2_with fail
        refine (H2.out _).mono ?_
        rintro x w1 ⟨rfl, rfl⟩
        go_wp2_with fail
        go_loopw [24] (fun i wr => ∃ k : Nat, k ≤ l.length ∧ i = .int .i64 k ∧ ((l.take k).map Bk.b3).all bkB = true ∧ Below w.heap.size w wr) (fun i _ => l.length - (intOf i).toNat)
        case atStart => exact ⟨0, Nat.zero_le _, rfl, by simp, by go_grown⟩
        case round =>
          obtain ⟨k, hk, rfl, ha, hbel⟩ := hrel
          by_cases hlt : k < l.length
          · have hT := h.below hbel
            obtain ⟨g, o, rfl, hg, hc⟩ := hT.at hlt
            obtain ⟨c0, c1, c2⟩ := hc k hlt
            have hW := hT.1 l[k] (List.getElem_mem hlt)
            have hs := bk_snoc l k hlt
            rw [ha, Bool.true_and] at hs
            have HE : Hid (bkB l[k].b3 = false → (l.map Bk.b3).all bkB = false) := (show bkB l[k].b3 = false → (l.map Bk.b3).all bkB = false from fun hf => by
              rw [List.all_eq_false]
              exact ⟨l[k].b3, List.mem_map_of_mem (List.getElem_mem hlt), by simp [hf]⟩)
            have HS : Hid (((l.take (k + 1)).map Bk.b3).all bkB = bkB l[k].b3) := hs
            have HDr := HD.out.below hbel
            have HWr : Hid (∀ o : Obj, BW (wr.alloc o) l[k]) := (show ∀ o : Obj, BW (wr.alloc o) l[k] from fun o => hW.below (by go_grown))
            clear hs ha hc hT hW
            generalize l[k] = X at *
            cases hb : bkB X.b3 with
            | true =>
              go_wp2_with fail
              refine (HR.out _ _ (HWr.out _) (HDr.alloc _)).mono ?_
              rintro r w1 ⟨rfl, g1⟩
              rw [hb]
              have b1 : Below w.heap.size w w1 := btr (hbel.alloc hbel.size _) g1 (Nat.le_refl _)
              go_wp2_with fail
              go_roundw
              case rel => exact ⟨k + 1, by omega, by go_num, by rw [HS.out, hb], b1⟩
              case measure => simp [intOf]; omega
            | false =>
              go_wp2_with fail
              refine (HR.out _ _ (HWr.out _) (HDr.alloc _)).mono ?_
              rintro r w1 ⟨rfl, g1⟩
              rw [hb]
              have b1 : Below w.heap.size w w1 := btr (hbel.alloc hbel.size _) g1 (Nat.le_refl _)
              go_wp2_with fail
              go_ret
              exact ⟨by rw [HE.out hb]; rfl, b1⟩
          · have hk' : k = l.length := by omega
            subst hk'
            rw [List.take_length] at ha
            go_wp2_with fail
            go_ret
            exact ⟨by rw [ha]; rfl, hbel⟩
      · have e16 : decide (l.length ≤ 16) = false := by simpa using h16
        have z16 : (l.length : Int) > 16 := by omega
        rw [e16]
        clear e16 HR HD h
        go_enter Tryz.func66, Tryz.ntmps66
        go_wp2_with fail
        refine (H1.out _).mono ?_
        rintro x w1 ⟨rfl, rfl⟩
        go_wp2_with fail
        refine (H2.out _).mono ?_
        rintro x w1 ⟨rfl, rfl⟩
        go_wp2_with fail
        go_ret
        exact ⟨rfl, by go_grown⟩
set_option maxHeartbeats 4000000 in
theorem grpS_any (cmd gid gkd : Int) (ga : Option Addr) (l : List Bk) (gc : Nat) (w : World) (h : Bs w ga l) (hd : Cd w) (hc : inB cmd 0 2 = true) (hg : grB gid gkd (l.map Bk.b3) = true) :
    Calls Tryz.prog 36 #[.int .i64 cmd, .agg #[.int .i64 gid, .int .i64 gkd, .slice ga l.length gc]] w fun e w' => e = .returned (.string (grpS cmd gid gkd (l.map Bk.b3))) ∧ Below w.heap.size w w' := by
  have HP := wput_h
  have hps := pbI_size
  have hsl := sl_3
  have HB : Hid (∀ x w, BW w x → Cd w → bkB x.b3 = true → Calls Tryz.prog 74 #[bkV x] w fun e w' => e = .returned (.string (bkS x.b3)) ∧ Below w.heap.size w w') := (show ∀ x w, _ from fun x w h hd hb => bkS_any x w h hd hb)
  have HD : Hid (Cd w) := hd
  obtain ⟨g16, i0, i1, k0, k1, hall⟩ := grB_few hg
  rw [List.length_map] at g16
  have HAll : Hid (∀ x ∈ l, bkB x.b3 = true) := (show ∀ x ∈ l, _ from fun x hx => hall _ (List.mem_map_of_mem hx))
  obtain ⟨c0, c1⟩ := inB_iff.1 hc
  clear hg hall hc hd
  obtain ⟨W1, hW1⟩ : ∃ W1, gx w gid gkd ga l.length gc = W1 := ⟨_, rfl⟩
  have p0 : W1.cell? ⟨w.heap.size, 0, none⟩ = some (.int .i64 gid) := by rw [← hW1]; simp
  have p1 : W1.cell? ⟨w.heap.size, 1, none⟩ = some (.int .i64 gkd) := by rw [← hW1]; simp
  have p2 : W1.cell? ⟨w.heap.size, 2, none⟩ = some (.slice ga l.length gc) := by rw [← hW1]; simp
  have z1 : w.heap.size < W1.heap.size := by rw [← hW1]; simp
  have q0 : ∀ n : GrT W1, n.w.cell? ⟨w.heap.size, 0, none⟩ = some (.int .i64 gid) := fun n => (n.h.cell (p := ⟨w.heap.size, 0, none⟩) z1).trans p0
  have q1 : ∀ n : GrT W1, n.w.cell? ⟨w.heap.size, 1, none⟩ = some (.int .i64 gkd) := fun n => (n.h.cell (p := ⟨w.heap.size, 1, none⟩) z1).trans p1
  have HQ2 : Hid (∀ w', Below W1.heap.size W1 w' → w'.cell? ⟨w.heap.size, 2, none⟩ = some (.slice ga l.length gc)) := (show ∀ w', _ from fun w' g => (g.cell (p := ⟨w.heap.size, 2, none⟩) z1).trans p2)
  have G1 : Below w.heap.size w W1 := by rw [← hW1]; go_grown
  have HW1 : Hid (w.alloc (.cells #[.int .i64 gid, .int .i64 gkd, .slice ga l.length gc] 29) = W1) := hW1
  have HN : Hid (∀ k, ∀ h : k < l.length, bksS ((l.take (k + 1)).map Bk.b3) = bksS ((l.take k).map Bk.b3) ++ bkS l[k].b3) := (show ∀ k, ∀ h : k < l.length, _ from fun k h => bks_snoc l k h)
  have HH : Hid (∀ d, grpS cmd gid gkd d = pb cmd 2 ++ pb (gkd - 1) 1 ++ ⟨#[0]⟩ ++ pb gid 4 ++ bksS d) := (show ∀ d, _ from fun d => rfl)
  rw [HH.out]
  obtain ⟨H, hH⟩ : ∃ H, pb cmd 2 ++ pb (gkd - 1) 1 ++ ⟨#[0]⟩ ++ pb gid 4 = H := ⟨_, rfl⟩
  rw [hH]
  have hHs : H.size = 8 := by rw [← hH]; simp only [ByteArray.size_append, pb_size]; rfl
  have HHH : Hid (pbI cmd 2 ++ pbI (gkd - 1) 1 ++ ⟨#[0]⟩ ++ pbI gid 4 = H) := hH
  clear hW1 p0 p1 p2 hH
  go_enter Tryz.func36, Tryz.ntmps36
  go_wp2_with fail
  rw [HW1.out]
  refine wp_region_grow (by kernel_rfl) (by kernel_rfl) ?_
  repeat (go_big_quiet_step ((first | (go_at_call 18; exact quiet_gr (HP.out _ _ _ (by unfold fits; omega))))))
  refine wpQuiet_nil ?_
  rintro w3 hw'
  have g3 := gr_elim hw'
  have B3 := btr G1 g3 (Nat.le_refl _)
  have q2 := HQ2.out _ g3
  clear hw' q0 q1
  rw [HHH.out]
  go_wp2_with fail
  go_loopw [5, 24] (fun v i wr => ∃ (k : Nat) (s : ByteArray), k ≤ l.length ∧ i = .int .i64 k ∧ v = .string s ∧ Hid (s = H ++ bksS ((l.take k).map Bk.b3)) ∧ s.size ≤ 8 + 528 * k ∧ Below w.heap.size w wr) (fun _ i _ => l.length - (intOf i).toNat)
  case atStart =>
    exact ⟨0, H, Nat.zero_le _, rfl, rfl, (show _ = _ from (ap_e H).symm), by omega, B3⟩
  case round =>
    obtain ⟨k, s, hk, rfl, rfl, HS, hsz, hbel⟩ := hrel
    by_cases hlt : k < l.length
    · have hT := h.below hbel
      obtain ⟨g, o, rfl, hg, hc⟩ := hT.at hlt
      obtain ⟨c0, c1, c2⟩ := hc k hlt
      have hW := hT.1 l[k] (List.getElem_mem hlt)
      have HNk : Hid (bksS ((l.take (k + 1)).map Bk.b3) = bksS ((l.take k).map Bk.b3) ++ bkS l[k].b3) := HN.out k hlt
      have hws := bkS_le l[k].b3
      have HDr := HD.out.below hbel
      have HRX : Hid (bkB l[k].b3 = true) := HAll.out _ (List.getElem_mem hlt)
      have HWr : Hid (∀ o : Obj, BW (wr.alloc o) l[k]) := (show ∀ o : Obj, BW (wr.alloc o) l[k] from fun o => hW.below (by go_grown))
      clear hc hT hW
      generalize l[k] = X at *
      go_wp2_with fail
      refine (HB.out _ _ (HWr.out _) (HDr.alloc _) HRX.out).mono ?_
      rintro r w2 ⟨rfl, g2⟩
      have b2 : Below w.heap.size w w2 := btr (hbel.alloc hbel.size _) g2 (Nat.le_refl _)
      go_wp2_with fail
      go_roundw
      case rel => exact ⟨k + 1, s ++ bkS X.b3, by omega, by go_num, rfl, (show _ = _ by rw [HNk.out, HS.out, ap_assoc]), by rw [ByteArray.size_append]; omega, b2⟩
      case measure => simp [intOf]; omega
    · have hk' : k = l.length := by omega
      subst hk'
      have e := HS.out
      rw [List.take_length] at e
      subst e
      go_wp2_with fail
      go_ret
      exact ⟨rfl, hbel⟩
/-
  What rightOwn answers, as a contract.
-/
open Go.ChangeShapes Go.WideShapes Go.ChangeAt Go.RowKit
set_option linter.unusedSimpArgs false
set_option linter.unusedVariables false
theorem within_all : Hid (∀ n lo hi w, Calls Tryz.prog 29 #[.int .i64 n, .int .i64 lo, .int .i64 hi] w fun e w' => e = .returned (.bool (inB n lo hi)) ∧ w' = w) := by
  intro n lo hi w
  exact within_any n lo hi w
theorem nat_le (a b : Nat) : decide ((a : Int) ≤ (b : Int)) = decide (a ≤ b) := by simp
set_option maxRecDepth 20000 in
set_option maxHeartbeats 8000000 in
theorem own_0 (m : Ms) (w : World) (h : MW w m) (hd : Ct w) (hk : m.kind = 0) : Calls Tryz.prog 30 #[msV m] w fun e w' => e = .returned (.bool (ownB m.msg)) ∧ Below w.heap.size w w' := by
  have e : ownB m.msg = true := by
    simp [ownB, Ms.msg, hk]
  have k0 : (m.kind == 0) = true := by rw [hk]; rfl
  clear hk
  rw [e]
  clear e
  clear h hd
  have HW := within_all
  go_enter Tryz.func30, Tryz.ntmps30
  go_wp2_with fail
  go_ret
  exact ⟨rfl, by go_grown⟩
set_option maxRecDepth 20000 in
set_option maxHeartbeats 8000000 in
theorem own_20 (m : Ms) (w : World) (h : MW w m) (hd : Ct w) (hk : m.kind = 20) : Calls Tryz.prog 30 #[msV m] w fun e w' => e = .returned (.bool (ownB m.msg)) ∧ Below w.heap.size w w' := by
  have e : ownB m.msg = true := by
    simp [ownB, Ms.msg, hk]
  have k0 : (m.kind == 0) = false := by rw [hk]; rfl
  have k20 : (m.kind == 20) = true := by rw [hk]; rfl
  clear hk
  rw [e]
  clear e
  clear h hd
  have HW := within_all
  go_enter Tryz.func30, Tryz.ntmps30
  go_wp2_with fail
  go_ret
  exact ⟨rfl, by go_grown⟩
set_option maxRecDepth 20000 in
set_option maxHeartbeats 8000000 in
theorem own_21 (m : Ms) (w : World) (h : MW w m) (hd : Ct w) (hk : m.kind = 21) : Calls Tryz.prog 30 #[msV m] w fun e w' => e = .returned (.bool (ownB m.msg)) ∧ Below w.heap.size w w' := by
  have e : ownB m.msg = true := by
    simp [ownB, Ms.msg, hk]
  have k0 : (m.kind == 0) = false := by rw [hk]; rfl
  have k20 : (m.kind == 20) = false := by rw [hk]; rfl
  have k21 : (m.kind == 21) = true := by rw [hk]; rfl
  clear hk
  rw [e]
  clear e
  clear h hd
  have HW := within_all
  go_enter Tryz.func30, Tryz.ntmps30
  go_wp2_with fail
  go_ret
  exact ⟨rfl, by go_grown⟩
set_option maxRecDepth 20000 in
set_option maxHeartbeats 8000000 in
theorem own_1 (m : Ms) (w : World) (h : MW w m) (hd : Ct w) (hk : m.kind = 1) : Calls Tryz.prog 30 #[msV m] w fun e w' => e = .returned (.bool (ownB m.msg)) ∧ Below w.heap.size w w' := by
  have e : ownB m.msg = (inB m.typ 0 65535 && inB m.cod 0 65535 && decide (m.dat.size ≤ 64)) := by
    simp [ownB, Ms.msg, hk]
  have k0 : (m.kind == 0) = false := by rw [hk]; rfl
  have k20 : (m.kind == 20) = false := by rw [hk]; rfl
  have k21 : (m.kind == 21) = false := by rw [hk]; rfl
  have k1 : (m.kind == 1) = true := by rw [hk]; rfl
  clear hk
  rw [e]
  clear e
  clear h hd
  obtain ⟨R, hR⟩ : ∃ R, (inB m.typ 0 65535 && inB m.cod 0 65535 && decide (m.dat.size ≤ 64)) = R := ⟨_, rfl⟩
  rw [hR]
  have HR : Hid ((inB m.typ 0 65535 && inB m.cod 0 65535 && decide (m.dat.size ≤ 64)) = R) := hR
  clear hR
  have HW := within_all
  go_enter Tryz.func30, Tryz.ntmps30
  go_wp2_with (first | (go_at_call 29; refine (HW.out _ _ _ _).mono ?_; rintro r w1 ⟨rfl, rfl⟩))
  all_goals
    go_ret
    refine ⟨ret_bool ?_, by go_grown⟩
    rw [← HR.out]
    try (simp [*] <;> omega)
set_option maxRecDepth 20000 in
set_option maxHeartbeats 8000000 in
theorem own_2 (m : Ms) (w : World) (h : MW w m) (hd : Ct w) (hk : m.kind = 2) : Calls Tryz.prog 30 #[msV m] w fun e w' => e = .returned (.bool (ownB m.msg)) ∧ Below w.heap.size w w' := by
  have e : ownB m.msg = decide (m.dat.size ≤ 1000) := by
    simp [ownB, Ms.msg, hk]
  have k0 : (m.kind == 0) = false := by rw [hk]; rfl
  have k20 : (m.kind == 20) = false := by rw [hk]; rfl
  have k21 : (m.kind == 21) = false := by rw [hk]; rfl
  have k1 : (m.kind == 1) = false := by rw [hk]; rfl
  have k2 : (m.kind == 2) = true := by rw [hk]; rfl
  clear hk
  rw [e]
  clear e
  clear h hd
  obtain ⟨R, hR⟩ : ∃ R, decide (m.dat.size ≤ 1000) = R := ⟨_, rfl⟩
  rw [hR]
  have HR : Hid (decide (m.dat.size ≤ 1000) = R) := hR
  clear hR
  have HW := within_all
  go_enter Tryz.func30, Tryz.ntmps30
  go_wp2_with (first | (go_at_call 29; refine (HW.out _ _ _ _).mono ?_; rintro r w1 ⟨rfl, rfl⟩))
  all_goals
    go_ret
    refine ⟨ret_bool ?_, by go_grown⟩
    rw [← HR.out]
    try (simp [*] <;> omega)
set_option maxRecDepth 20000 in
set_option maxHeartbeats 8000000 in
theorem own_3 (m : Ms) (w : World) (h : MW w m) (hd : Ct w) (hk : m.kind = 3) : Calls Tryz.prog 30 #[msV m] w fun e w' => e = .returned (.bool (ownB m.msg)) ∧ Below w.heap.size w w' := by
  have e : ownB m.msg = decide (m.dat.size ≤ 1000) := by
    simp [ownB, Ms.msg, hk]
  have k0 : (m.kind == 0) = false := by rw [hk]; rfl
  have k20 : (m.kind == 20) = false := by rw [hk]; rfl
  have k21 : (m.kind == 21) = false := by rw [hk]; rfl
  have k1 : (m.kind == 1) = false := by rw [hk]; rfl
  have k2 : (m.kind == 2) = false := by rw [hk]; rfl
  have k3 : (m.kind == 3) = true := by rw [hk]; rfl
  clear hk
  rw [e]
  clear e
  clear h hd
  obtain ⟨R, hR⟩ : ∃ R, decide (m.dat.size ≤ 1000) = R := ⟨_, rfl⟩
  rw [hR]
  have HR : Hid (decide (m.dat.size ≤ 1000) = R) := hR
  clear hR
  have HW := within_all
  go_enter Tryz.func30, Tryz.ntmps30
  go_wp2_with (first | (go_at_call 29; refine (HW.out _ _ _ _).mono ?_; rintro r w1 ⟨rfl, rfl⟩))
  all_goals
    go_ret
    refine ⟨ret_bool ?_, by go_grown⟩
    rw [← HR.out]
    try (simp [*] <;> omega)
set_option maxRecDepth 20000 in
set_option maxHeartbeats 8000000 in
theorem own_12 (m : Ms) (w : World) (h : MW w m) (hd : Ct w) (hk : m.kind = 12) : Calls Tryz.prog 30 #[msV m] w fun e w' => e = .returned (.bool (ownB m.msg)) ∧ Below w.heap.size w w' := by
  have e : ownB m.msg = inB m.prt 1 16 := by
    simp [ownB, Ms.msg, hk]
  have k0 : (m.kind == 0) = false := by rw [hk]; rfl
  have k20 : (m.kind == 20) = false := by rw [hk]; rfl
  have k21 : (m.kind == 21) = false := by rw [hk]; rfl
  have k1 : (m.kind == 1) = false := by rw [hk]; rfl
  have k2 : (m.kind == 2) = false := by rw [hk]; rfl
  have k3 : (m.kind == 3) = false := by rw [hk]; rfl
  have k12 : (m.kind == 12) = true := by rw [hk]; rfl
  clear hk
  rw [e]
  clear e
  clear h hd
  obtain ⟨R, hR⟩ : ∃ R, inB m.prt 1 16 = R := ⟨_, rfl⟩
  rw [hR]
  have HR : Hid (inB m.prt 1 16 = R) := hR
  clear hR
  have HW := within_all
  go_enter Tryz.func30, Tryz.ntmps30
  go_wp2_with (first | (go_at_call 29; refine (HW.out _ _ _ _).mono ?_; rintro r w1 ⟨rfl, rfl⟩))
  all_goals
    go_ret
    refine ⟨ret_bool ?_, by go_grown⟩
    rw [← HR.out]
    try (simp [*] <;> omega)
set_option maxRecDepth 20000 in
set_option maxHeartbeats 8000000 in
theorem own_13 (m : Ms) (w : World) (h : MW w m) (hd : Ct w) (hk : m.kind = 13) : Calls Tryz.prog 30 #[msV m] w fun e w' => e = .returned (.bool (ownB m.msg)) ∧ Below w.heap.size w w' := by
  have e : ownB m.msg = (inB m.prt 0 16 && okA m.la && decide (m.dat.size ≤ 1500)) := by
    simp [ownB, Ms.msg, hk]
  have k0 : (m.kind == 0) = false := by rw [hk]; rfl
  have k20 : (m.kind == 20) = false := by rw [hk]; rfl
  have k21 : (m.kind == 21) = false := by rw [hk]; rfl
  have k1 : (m.kind == 1) = false := by rw [hk]; rfl
  have k2 : (m.kind == 2) = false := by rw [hk]; rfl
  have k3 : (m.kind == 3) = false := by rw [hk]; rfl
  have k12 : (m.kind == 12) = false := by rw [hk]; rfl
  have k13 : (m.kind == 13) = true := by rw [hk]; rfl
  clear hk
  rw [e]
  clear e
  have HC : Hid (∀ w1, Below w.heap.size w w1 → Calls Tryz.prog 64 #[.slice m.aa m.la.length m.ca] w1 fun e w' => e = .returned (.bool (okA m.la)) ∧ Below w1.heap.size w1 w') := (show ∀ w1, _ from fun w1 g => rightA_any m.aa m.la m.ca _ (h.a.below g) h.an (hd.a.below g))
  generalize okA m.la = B at *
  clear h hd
  obtain ⟨R, hR⟩ : ∃ R, (inB m.prt 0 16 && B && decide (m.dat.size ≤ 1500)) = R := ⟨_, rfl⟩
  rw [hR]
  have HR : Hid ((inB m.prt 0 16 && B && decide (m.dat.size ≤ 1500)) = R) := hR
  clear hR
  have HW := within_all
  go_enter Tryz.func30, Tryz.ntmps30
  go_wp2_with (first | (go_at_call 29; refine (HW.out _ _ _ _).mono ?_; rintro r w1 ⟨rfl, rfl⟩))
  all_goals try (go_ret; refine ⟨ret_bool ?_, by go_grown⟩; rw [← HR.out]; simp [*]; done)
  refine (HC.out _ (by go_grown)).mono ?_
  rintro r w1 ⟨rfl, g1⟩
  have c25 : w1.cell? ⟨w.heap.size, 25, none⟩ = some (.string m.dat) := (g1.cell (p := ⟨w.heap.size, 25, none⟩) (by simp)).trans (by simp)
  have G1 : Below w.heap.size w w1 := btr (by go_grown) g1 (Nat.le_refl _)
  clear g1
  go_wp2_with fail
  all_goals
    go_ret
    refine ⟨ret_bool ?_, G1⟩
    rw [← HR.out]
    try (simp [*] <;> omega)
set_option maxRecDepth 20000 in
set_option maxHeartbeats 8000000 in
theorem own_14 (m : Ms) (w : World) (h : MW w m) (hd : Ct w) (hk : m.kind = 14) : Calls Tryz.prog 30 #[msV m] w fun e w' => e = .returned (.bool (ownB m.msg)) ∧ Below w.heap.size w w' := by
  have e : ownB m.msg = (inB m.cmd 0 4 && entB m.en.pri m.ts m.en.sp) := by
    simp [ownB, Ms.msg, hk]
  have k0 : (m.kind == 0) = false := by rw [hk]; rfl
  have k20 : (m.kind == 20) = false := by rw [hk]; rfl
  have k21 : (m.kind == 21) = false := by rw [hk]; rfl
  have k1 : (m.kind == 1) = false := by rw [hk]; rfl
  have k2 : (m.kind == 2) = false := by rw [hk]; rfl
  have k3 : (m.kind == 3) = false := by rw [hk]; rfl
  have k12 : (m.kind == 12) = false := by rw [hk]; rfl
  have k13 : (m.kind == 13) = false := by rw [hk]; rfl
  have k14 : (m.kind == 14) = true := by rw [hk]; rfl
  clear hk
  rw [e]
  clear e
  have HC : Hid (∀ w1, Below w.heap.size w w1 → Calls Tryz.prog 65 #[enV m.en] w1 fun e w' => e = .returned (.bool (entB m.en.pri m.ts m.en.sp)) ∧ Below w1.heap.size w1 w') := (show ∀ w1, _ from fun w1 g => rightEnt_any m.en m.ts _ (h.e.below g) (h.t.below g) h.tl h.tn h.tc (hd.a.below g))
  generalize entB m.en.pri m.ts m.en.sp = B at *
  clear h hd
  obtain ⟨R, hR⟩ : ∃ R, (inB m.cmd 0 4 && B) = R := ⟨_, rfl⟩
  rw [hR]
  have HR : Hid ((inB m.cmd 0 4 && B) = R) := hR
  clear hR
  have HW := within_all
  go_enter Tryz.func30, Tryz.ntmps30
  go_wp2_with (first | (go_at_call 29; refine (HW.out _ _ _ _).mono ?_; rintro r w1 ⟨rfl, rfl⟩))
  all_goals try (go_ret; refine ⟨ret_bool ?_, by go_grown⟩; rw [← HR.out]; simp [*]; done)
  refine (HC.out _ (by go_grown)).mono ?_
  rintro r w1 ⟨rfl, g1⟩
  have G1 : Below w.heap.size w w1 := btr (by go_grown) g1 (Nat.le_refl _)
  clear g1
  go_wp2_with fail
  all_goals
    go_ret
    refine ⟨ret_bool ?_, G1⟩
    rw [← HR.out]
    try (simp [*] <;> omega)
set_option maxRecDepth 20000 in
set_option maxHeartbeats 8000000 in
theorem own_15 (m : Ms) (w : World) (h : MW w m) (hd : Ct w) (hk : m.kind = 15) : Calls Tryz.prog 30 #[msV m] w fun e w' => e = .returned (.bool (ownB m.msg)) ∧ Below w.heap.size w w' := by
  have e : ownB m.msg = (inB m.cmd 0 2 && grB m.gid m.gkd (m.gb.map Bk.b3)) := by
    simp [ownB, Ms.msg, hk]
  have k0 : (m.kind == 0) = false := by rw [hk]; rfl
  have k20 : (m.kind == 20) = false := by rw [hk]; rfl
  have k21 : (m.kind == 21) = false := by rw [hk]; rfl
  have k1 : (m.kind == 1) = false := by rw [hk]; rfl
  have k2 : (m.kind == 2) = false := by rw [hk]; rfl
  have k3 : (m.kind == 3) = false := by rw [hk]; rfl
  have k12 : (m.kind == 12) = false := by rw [hk]; rfl
  have k13 : (m.kind == 13) = false := by rw [hk]; rfl
  have k14 : (m.kind == 14) = false := by rw [hk]; rfl
  have k15 : (m.kind == 15) = true := by rw [hk]; rfl
  clear hk
  rw [e]
  clear e
  have HC : Hid (∀ w1, Below w.heap.size w w1 → Calls Tryz.prog 66 #[.agg #[.int .i64 m.gid, .int .i64 m.gkd, .slice m.ga m.gb.length m.gc]] w1 fun e w' => e = .returned (.bool (grB m.gid m.gkd (m.gb.map Bk.b3))) ∧ Below w1.heap.size w1 w') := (show ∀ w1, _ from fun w1 g => rightG_any m.gid m.gkd m.ga m.gb m.gc _ (h.g.below g) (hd.a.below g))
  generalize grB m.gid m.gkd (m.gb.map Bk.b3) = B at *
  clear h hd
  obtain ⟨R, hR⟩ : ∃ R, (inB m.cmd 0 2 && B) = R := ⟨_, rfl⟩
  rw [hR]
  have HR : Hid ((inB m.cmd 0 2 && B) = R) := hR
  clear hR
  have HW := within_all
  go_enter Tryz.func30, Tryz.ntmps30
  go_wp2_with (first | (go_at_call 29; refine (HW.out _ _ _ _).mono ?_; rintro r w1 ⟨rfl, rfl⟩))
  all_goals try (go_ret; refine ⟨ret_bool ?_, by go_grown⟩; rw [← HR.out]; simp [*]; done)
  refine (HC.out _ (by go_grown)).mono ?_
  rintro r w1 ⟨rfl, g1⟩
  have G1 : Below w.heap.size w w1 := btr (by go_grown) g1 (Nat.le_refl _)
  clear g1
  go_wp2_with fail
  all_goals
    go_ret
    refine ⟨ret_bool ?_, G1⟩
    rw [← HR.out]
    try (simp [*] <;> omega)
set_option maxRecDepth 20000 in
set_option maxHeartbeats 8000000 in
theorem own_29 (m : Ms) (w : World) (h : MW w m) (hd : Ct w) (hk : m.kind = 29) : Calls Tryz.prog 30 #[msV m] w fun e w' => e = .returned (.bool (ownB m.msg)) ∧ Below w.heap.size w w' := by
  have e : ownB m.msg = (inB m.cmd 0 2 && meB m.mid m.mra m.mbu) := by
    simp [ownB, Ms.msg, hk]
  have k0 : (m.kind == 0) = false := by rw [hk]; rfl
  have k20 : (m.kind == 20) = false := by rw [hk]; rfl
  have k21 : (m.kind == 21) = false := by rw [hk]; rfl
  have k1 : (m.kind == 1) = false := by rw [hk]; rfl
  have k2 : (m.kind == 2) = false := by rw [hk]; rfl
  have k3 : (m.kind == 3) = false := by rw [hk]; rfl
  have k12 : (m.kind == 12) = false := by rw [hk]; rfl
  have k13 : (m.kind == 13) = false := by rw [hk]; rfl
  have k14 : (m.kind == 14) = false := by rw [hk]; rfl
  have k15 : (m.kind == 15) = false := by rw [hk]; rfl
  have k29 : (m.kind == 29) = true := by rw [hk]; rfl
  clear hk
  rw [e]
  clear e
  have HC : Hid (∀ w1, Below w.heap.size w w1 → Calls Tryz.prog 67 #[.agg #[.int .i64 m.mid, .int .i64 m.mra, .int .i64 m.mbu]] w1 fun e w' => e = .returned (.bool (meB m.mid m.mra m.mbu)) ∧ Below w1.heap.size w1 w') := (show ∀ w1, _ from fun w1 g => rightMet_any m.mid m.mra m.mbu _)
  generalize meB m.mid m.mra m.mbu = B at *
  clear h hd
  obtain ⟨R, hR⟩ : ∃ R, (inB m.cmd 0 2 && B) = R := ⟨_, rfl⟩
  rw [hR]
  have HR : Hid ((inB m.cmd 0 2 && B) = R) := hR
  clear hR
  have HW := within_all
  go_enter Tryz.func30, Tryz.ntmps30
  go_wp2_with (first | (go_at_call 29; refine (HW.out _ _ _ _).mono ?_; rintro r w1 ⟨rfl, rfl⟩))
  all_goals try (go_ret; refine ⟨ret_bool ?_, by go_grown⟩; rw [← HR.out]; simp [*]; done)
  refine (HC.out _ (by go_grown)).mono ?_
  rintro r w1 ⟨rfl, g1⟩
  have G1 : Below w.heap.size w w1 := btr (by go_grown) g1 (Nat.le_refl _)
  clear g1
  go_wp2_with fail
  all_goals
    go_ret
    refine ⟨ret_bool ?_, G1⟩
    rw [← HR.out]
    try (simp [*] <;> omega)
set_option maxRecDepth 20000 in
set_option maxHeartbeats 8000000 in
theorem own_n (m : Ms) (w : World) (h : MW w m) (hd : Ct w) (K : KF m.kind false false false false false false false false false false false) : Calls Tryz.prog 30 #[msV m] w fun e w' => e = .returned (.bool (ownB m.msg)) ∧ Below w.heap.size w w' := by
  have e : ownB m.msg = false := by
    obtain ⟨k0, k1, k2, k3, k12, k13, k14, k15, k20, k21, k29⟩ := K
    simp only [beq_eq_false_iff_ne] at k0 k1 k2 k3 k12 k13 k14 k15 k20 k21 k29
    simp [ownB, Ms.msg, *]
  obtain ⟨k0, k1, k2, k3, k12, k13, k14, k15, k20, k21, k29⟩ := K
  rw [e]
  clear e
  clear h hd
  have HW := within_all
  go_enter Tryz.func30, Tryz.ntmps30
  go_wp2_with fail
  go_ret
  exact ⟨rfl, by go_grown⟩
theorem own_any (m : Ms) (w : World) (h : MW w m) (hd : Ct w) : Calls Tryz.prog 30 #[msV m] w fun e w' => e = .returned (.bool (ownB m.msg)) ∧ Below w.heap.size w w' := by
  rcases kinds m.kind with k | k | k | k | k | k | k | k | k | k | k | k
  · exact own_0 m w h hd k
  · exact own_1 m w h hd k
  · exact own_2 m w h hd k
  · exact own_3 m w h hd k
  · exact own_12 m w h hd k
  · exact own_13 m w h hd k
  · exact own_14 m w h hd k
  · exact own_15 m w h hd k
  · exact own_20 m w h hd k
  · exact own_21 m w h hd k
  · exact own_29 m w h hd k
  · exact own_n m w h hd k
/-
  Steps of a walk: a whole message is loaded, a whole message is stored; messages' blocks.
-/
open Go.ChangeShapes Go.WideShapes Go.ChangeAt Go.RowKit

theorem there_new (w : World) (c : Array Value) (t : TypeId) : (w.alloc (.cells c t)).there w.heap.size 0 c.size := fun j hj => by
  rw [Nat.zero_add]
  simp [hj]
theorem there_two (w : World) (c1 c2 : Array Value) (t1 t2 : TypeId) : ((w.alloc (.cells c1 t1)).alloc (.cells c2 t2)).there (w.heap.size + 1) 0 c2.size := by
  have h := there_new (w.alloc (.cells c1 t1)) c2 t2
  simpa using h
theorem range_two (w : World) (c1 c2 : Array Value) (t1 t2 : TypeId) : ((w.alloc (.cells c1 t1)).alloc (.cells c2 t2)).rangeAt w.heap.size 0 c1.toList :=
  range_block (range_new w c1 t1) (heap_alloc_old _ _ (by simp))
theorem there_block {w w' : World} {b o n : Nat} (h : w.there b o n) (g : w'.heap[b]? = w.heap[b]?) : w'.there b o n := fun j hj => by
  rw [World.cell?_of_block (w := w) g, World.frozen?_of_block (w := w) g]
  exact h j hj
theorem hiM (m : Ms) : (Tryz.prog.info? 33).map (·.size) = some (msC m).size := by kernel_rfl
theorem hiR (m : Ms) : (Tryz.prog.info? 42).map (·.size) = some (msC m).size := by kernel_rfl
theorem oneM (m : Ms) : (msC m).all (·.oneCell') = true := by simp [Value.oneCell']
/-- All of a message is written into block b. -/
abbrev sM (w : World) (b : Nat) (m : Ms) : World := w.setCells b 0 (msC m).toList
theorem only_cells (b : Nat) : ∀ (vs : List Value) (o : Nat) (w w' : World), Only b w w' → Only b w (w'.setCells b o vs)
  | [], _, _, _, g => g
  | _ :: r, o, _, _, g => only_cells b r (o + 1) _ _ (g.setCell o _)
theorem only_sM (w : World) (b : Nat) (m : Ms) : Only b w (sM w b m) := only_cells b _ _ _ _ (Only.refl b w)
theorem bm_set {w : World} {b : Nat} (m : Ms) (h : w.there b 0 26) : Bm (sM w b m) b m := World.rangeAt_setCells_same w b 0 (msC m).toList h
theorem Only.trans {b : Nat} {x y z : World} (h : Only b x y) (g : Only b y z) : Only b x z := ⟨g.os.trans h.os, g.tape.trans h.tape, g.output.trans h.output, g.size.trans h.size, fun k hk => (g.block k hk).trans (h.block k hk)⟩
theorem Only.belowK {b k : Nat} {w w' a : World} (h : Only b w w') (hb : k ≤ b) (g : Below k a w) : Below k a w' :=
  g.trans ⟨h.os, h.tape, h.output, by rw [h.size]; exact Nat.le_refl _, fun j hj => h.block j (by omega)⟩
theorem load_M {ops : Array Oper} {rest : List Oper} {op : Oper} {a : Go.Act} {w : World} {Q : Exit → Go.Act → World → Prop} (hgd : op.guard = none) (x : Operand) (ho : op.op = .load 33 x)
    (b : Nat) (m : Ms) (hx : a.eval x = .pointer (some ⟨b, 0, none⟩)) (hB : Bm w b m)
    (h : wpList Tryz.prog ops Q rest (a.put op.dst (msV m)) w) : wpList Tryz.prog ops Q (op :: rest) a w :=
  wpList_load_mid hgd 33 x ho b 0 hx (msC m).toList _ hB Tryz.underlying33 rfl (infoM m) h
theorem store_M {ops : Array Oper} {rest : List Oper} {op : Oper} {a : Go.Act} {w : World} {Q : Exit → Go.Act → World → Prop} (hgd : op.guard = none) (x y : Operand) (ho : op.op = .store 33 x y)
    (b : Nat) (m : Ms) (hx : a.eval x = .pointer (some ⟨b, 0, none⟩)) (hy : a.eval y = msV m) (ht : w.there b 0 26)
    (h : ∀ V, Bm V b m → V.there b 0 26 → Only b w V → wpList Tryz.prog ops Q rest (a.put op.dst undef) V) : wpList Tryz.prog ops Q (op :: rest) a w :=
  wpList_store_mid hgd 33 x y ho b 0 (msC m) hx hy ht (hiM m) (oneM m) (h _ (bm_set m ht) (World.there_setCells ht b 0 _) (only_sM w b m))
theorem load_R {ops : Array Oper} {rest : List Oper} {op : Oper} {a : Go.Act} {w : World} {Q : Exit → Go.Act → World → Prop} (hgd : op.guard = none) (x : Operand) (ho : op.op = .load 42 x)
    (b : Nat) (m : Ms) (hx : a.eval x = .pointer (some ⟨b, 0, none⟩)) (hB : Bm w b m)
    (h : wpList Tryz.prog ops Q rest (a.put op.dst (msV m)) w) : wpList Tryz.prog ops Q (op :: rest) a w :=
  wpList_load_mid hgd 42 x ho b 0 hx (msC m).toList _ hB Tryz.underlying42 rfl (infoR m) h
theorem store_R {ops : Array Oper} {rest : List Oper} {op : Oper} {a : Go.Act} {w : World} {Q : Exit → Go.Act → World → Prop} (hgd : op.guard = none) (x y : Operand) (ho : op.op = .store 42 x y)
    (b : Nat) (m : Ms) (hx : a.eval x = .pointer (some ⟨b, 0, none⟩)) (hy : a.eval y = msV m) (ht : w.there b 0 26)
    (h : ∀ V, Bm V b m → V.there b 0 26 → Only b w V → wpList Tryz.prog ops Q rest (a.put op.dst undef) V) : wpList Tryz.prog ops Q (op :: rest) a w :=
  wpList_store_mid hgd 42 x y ho b 0 (msC m) hx hy ht (hiR m) (oneM m) (h _ (bm_set m ht) (World.there_setCells ht b 0 _) (only_sM w b m))
theorem load_Mg {ops : Array Oper} {rest : List Oper} {op : Oper} {a : Go.Act} {w : World} {Q : Exit → Go.Act → World → Prop} (hw : Region.wanted op (yielded ops a.tmps) = true) (x : Operand) (ho : op.op = .load 33 x)
    (b : Nat) (m : Ms) (hx : a.eval x = .pointer (some ⟨b, 0, none⟩)) (hB : Bm w b m)
    (h : wpList Tryz.prog ops Q rest (a.put op.dst (msV m)) w) : wpList Tryz.prog ops Q (op :: rest) a w :=
  BigFrame.wpList_want hw fun _ hK => wp_load_mid 33 x ho b 0 hx (msC m).toList _ hB Tryz.underlying33 rfl (infoM m) (hK _ _ h)
theorem load_Rg {ops : Array Oper} {rest : List Oper} {op : Oper} {a : Go.Act} {w : World} {Q : Exit → Go.Act → World → Prop} (hw : Region.wanted op (yielded ops a.tmps) = true) (x : Operand) (ho : op.op = .load 42 x)
    (b : Nat) (m : Ms) (hx : a.eval x = .pointer (some ⟨b, 0, none⟩)) (hB : Bm w b m)
    (h : wpList Tryz.prog ops Q rest (a.put op.dst (msV m)) w) : wpList Tryz.prog ops Q (op :: rest) a w :=
  BigFrame.wpList_want hw fun _ hK => wp_load_mid 42 x ho b 0 hx (msC m).toList _ hB Tryz.underlying42 rfl (infoR m) (hK _ _ h)
/-
  What withoutOwn answers, as a contract.
-/
open Go.ChangeShapes Go.WideShapes Go.ChangeAt Go.RowKit
set_option linter.unusedSimpArgs false

/-- A message without what its Kind has. -/
def woS (m : Ms) : Ms :=
  if m.kind = 1 then { m with typ := 0, cod := 0, dat := ⟨#[]⟩ } else if m.kind = 2 then { m with dat := ⟨#[]⟩ } else if m.kind = 3 then { m with dat := ⟨#[]⟩ } else if m.kind = 12 then { m with prt := 0, live := false } else if m.kind = 13 then { m with prt := 0, aa := none, la := [], ca := 0, dat := ⟨#[]⟩ } else if m.kind = 14 then { m with cmd := 0, chk := false, en := en0, ts := [] } else if m.kind = 15 then { m with cmd := 0, gid := 0, gkd := 0, ga := none, gb := [], gc := 0 } else if m.kind = 29 then { m with cmd := 0, mid := 0, mra := 0, mbu := 0 } else m
set_option maxRecDepth 20000 in
set_option maxHeartbeats 8000000 in
theorem wo_1 (m : Ms) (w : World) (k1 : (m.kind == 1) = true) :
    Calls Tryz.prog 32 #[msV m] w fun e w' => e = .returned (msV { m with typ := 0, cod := 0, dat := ⟨#[]⟩ }) ∧ Below w.heap.size w w' := by
  have HG : Hid (∀ c d : Array Value, Below w.heap.size w ((w.alloc (.cells c 33)).alloc (.cells d 33))) := (show ∀ c d : Array Value, _ from fun c d => by go_grown)
  go_enter Tryz.func32, Tryz.ntmps32
  go_wp2_with (first | (refine load_M rfl (.tmp 1) rfl w.heap.size { m with typ := 0, cod := 0, dat := ⟨#[]⟩ } rfl (range_two _ _ _ _ _) ?_) | (refine store_M rfl (.tmp 2) (.tmp 39) rfl (w.heap.size + 1) { m with typ := 0, cod := 0, dat := ⟨#[]⟩ } rfl rfl (there_two _ _ _ _ _) ?_; intro V bV tV oV; have GV := oV.belowK (by omega) (HG.out _ _); clear oV tV))
  refine bodyPost_ret (resM (b := w.heap.size + 1) (m := { m with typ := 0, cod := 0, dat := ⟨#[]⟩ }) rfl rfl bV) rfl ?_
  exact ⟨rfl, GV⟩
set_option maxRecDepth 20000 in
set_option maxHeartbeats 8000000 in
theorem wo_2 (m : Ms) (w : World) (k1 : (m.kind == 1) = false) (k2 : (m.kind == 2) = true) :
    Calls Tryz.prog 32 #[msV m] w fun e w' => e = .returned (msV { m with dat := ⟨#[]⟩ }) ∧ Below w.heap.size w w' := by
  have HG : Hid (∀ c d : Array Value, Below w.heap.size w ((w.alloc (.cells c 33)).alloc (.cells d 33))) := (show ∀ c d : Array Value, _ from fun c d => by go_grown)
  go_enter Tryz.func32, Tryz.ntmps32
  go_wp2_with (first | (refine load_M rfl (.tmp 1) rfl w.heap.size { m with dat := ⟨#[]⟩ } rfl (range_two _ _ _ _ _) ?_) | (refine store_M rfl (.tmp 2) (.tmp 39) rfl (w.heap.size + 1) { m with dat := ⟨#[]⟩ } rfl rfl (there_two _ _ _ _ _) ?_; intro V bV tV oV; have GV := oV.belowK (by omega) (HG.out _ _); clear oV tV))
  refine bodyPost_ret (resM (b := w.heap.size + 1) (m := { m with dat := ⟨#[]⟩ }) rfl rfl bV) rfl ?_
  exact ⟨rfl, GV⟩
set_option maxRecDepth 20000 in
set_option maxHeartbeats 8000000 in
theorem wo_3 (m : Ms) (w : World) (k1 : (m.kind == 1) = false) (k2 : (m.kind == 2) = false) (k3 : (m.kind == 3) = true) :
    Calls Tryz.prog 32 #[msV m] w fun e w' => e = .returned (msV { m with dat := ⟨#[]⟩ }) ∧ Below w.heap.size w w' := by
  have HG : Hid (∀ c d : Array Value, Below w.heap.size w ((w.alloc (.cells c 33)).alloc (.cells d 33))) := (show ∀ c d : Array Value, _ from fun c d => by go_grown)
  go_enter Tryz.func32, Tryz.ntmps32
  go_wp2_with (first | (refine load_M rfl (.tmp 1) rfl w.heap.size { m with dat := ⟨#[]⟩ } rfl (range_two _ _ _ _ _) ?_) | (refine store_M rfl (.tmp 2) (.tmp 39) rfl (w.heap.size + 1) { m with dat := ⟨#[]⟩ } rfl rfl (there_two _ _ _ _ _) ?_; intro V bV tV oV; have GV := oV.belowK (by omega) (HG.out _ _); clear oV tV))
  refine bodyPost_ret (resM (b := w.heap.size + 1) (m := { m with dat := ⟨#[]⟩ }) rfl rfl bV) rfl ?_
  exact ⟨rfl, GV⟩
set_option maxRecDepth 20000 in
set_option maxHeartbeats 8000000 in
theorem wo_12 (m : Ms) (w : World) (k1 : (m.kind == 1) = false) (k2 : (m.kind == 2) = false) (k3 : (m.kind == 3) = false) (k12 : (m.kind == 12) = true) :
    Calls Tryz.prog 32 #[msV m] w fun e w' => e = .returned (msV { m with prt := 0, live := false }) ∧ Below w.heap.size w w' := by
  have HG : Hid (∀ c d : Array Value, Below w.heap.size w ((w.alloc (.cells c 33)).alloc (.cells d 33))) := (show ∀ c d : Array Value, _ from fun c d => by go_grown)
  go_enter Tryz.func32, Tryz.ntmps32
  go_wp2_with (first | (refine load_M rfl (.tmp 1) rfl w.heap.size { m with prt := 0, live := false } rfl (range_two _ _ _ _ _) ?_) | (refine store_M rfl (.tmp 2) (.tmp 39) rfl (w.heap.size + 1) { m with prt := 0, live := false } rfl rfl (there_two _ _ _ _ _) ?_; intro V bV tV oV; have GV := oV.belowK (by omega) (HG.out _ _); clear oV tV))
  refine bodyPost_ret (resM (b := w.heap.size + 1) (m := { m with prt := 0, live := false }) rfl rfl bV) rfl ?_
  exact ⟨rfl, GV⟩
set_option maxRecDepth 20000 in
set_option maxHeartbeats 8000000 in
theorem wo_13 (m : Ms) (w : World) (k1 : (m.kind == 1) = false) (k2 : (m.kind == 2) = false) (k3 : (m.kind == 3) = false) (k12 : (m.kind == 12) = false) (k13 : (m.kind == 13) = true) :
    Calls Tryz.prog 32 #[msV m] w fun e w' => e = .returned (msV { m with prt := 0, aa := none, la := [], ca := 0, dat := ⟨#[]⟩ }) ∧ Below w.heap.size w w' := by
  have HG : Hid (∀ c d : Array Value, Below w.heap.size w ((w.alloc (.cells c 33)).alloc (.cells d 33))) := (show ∀ c d : Array Value, _ from fun c d => by go_grown)
  go_enter Tryz.func32, Tryz.ntmps32
  go_wp2_with (first | (refine load_M rfl (.tmp 1) rfl w.heap.size { m with prt := 0, aa := none, la := [], ca := 0, dat := ⟨#[]⟩ } rfl (range_two _ _ _ _ _) ?_) | (refine store_M rfl (.tmp 2) (.tmp 39) rfl (w.heap.size + 1) { m with prt := 0, aa := none, la := [], ca := 0, dat := ⟨#[]⟩ } rfl rfl (there_two _ _ _ _ _) ?_; intro V bV tV oV; have GV := oV.belowK (by omega) (HG.out _ _); clear oV tV))
  refine bodyPost_ret (resM (b := w.heap.size + 1) (m := { m with prt := 0, aa := none, la := [], ca := 0, dat := ⟨#[]⟩ }) rfl rfl bV) rfl ?_
  exact ⟨rfl, GV⟩
set_option maxRecDepth 20000 in
set_option maxHeartbeats 8000000 in
theorem wo_14 (m : Ms) (w : World) (k1 : (m.kind == 1) = false) (k2 : (m.kind == 2) = false) (k3 : (m.kind == 3) = false) (k12 : (m.kind == 12) = false) (k13 : (m.kind == 13) = false) (k14 : (m.kind == 14) = true) :
    Calls Tryz.prog 32 #[msV m] w fun e w' => e = .returned (msV { m with cmd := 0, chk := false, en := en0, ts := [] }) ∧ Below w.heap.size w w' := by
  have HG : Hid (∀ c d : Array Value, Below w.heap.size w ((w.alloc (.cells c 33)).alloc (.cells d 33))) := (show ∀ c d : Array Value, _ from fun c d => by go_grown)
  go_enter Tryz.func32, Tryz.ntmps32
  go_wp2_with (first | (refine load_M rfl (.tmp 1) rfl w.heap.size { m with cmd := 0, chk := false, en := en0, ts := [] } rfl (range_two _ _ _ _ _) ?_) | (refine store_M rfl (.tmp 2) (.tmp 39) rfl (w.heap.size + 1) { m with cmd := 0, chk := false, en := en0, ts := [] } rfl rfl (there_two _ _ _ _ _) ?_; intro V bV tV oV; have GV := oV.belowK (by omega) (HG.out _ _); clear oV tV))
  refine bodyPost_ret (resM (b := w.heap.size + 1) (m := { m with cmd := 0, chk := false, en := en0, ts := [] }) rfl rfl bV) rfl ?_
  exact ⟨rfl, GV⟩
set_option maxRecDepth 20000 in
set_option maxHeartbeats 8000000 in
theorem wo_15 (m : Ms) (w : World) (k1 : (m.kind == 1) = false) (k2 : (m.kind == 2) = false) (k3 : (m.kind == 3) = false) (k12 : (m.kind == 12) = false) (k13 : (m.kind == 13) = false) (k14 : (m.kind == 14) = false) (k15 : (m.kind == 15) = true) :
    Calls Tryz.prog 32 #[msV m] w fun e w' => e = .returned (msV { m with cmd := 0, gid := 0, gkd := 0, ga := none, gb := [], gc := 0 }) ∧ Below w.heap.size w w' := by
  have HG : Hid (∀ c d : Array Value, Below w.heap.size w ((w.alloc (.cells c 33)).alloc (.cells d 33))) := (show ∀ c d : Array Value, _ from fun c d => by go_grown)
  go_enter Tryz.func32, Tryz.ntmps32
  go_wp2_with (first | (refine load_M rfl (.tmp 1) rfl w.heap.size { m with cmd := 0, gid := 0, gkd := 0, ga := none, gb := [], gc := 0 } rfl (range_two _ _ _ _ _) ?_) | (refine store_M rfl (.tmp 2) (.tmp 39) rfl (w.heap.size + 1) { m with cmd := 0, gid := 0, gkd := 0, ga := none, gb := [], gc := 0 } rfl rfl (there_two _ _ _ _ _) ?_; intro V bV tV oV; have GV := oV.belowK (by omega) (HG.out _ _); clear oV tV))
  refine bodyPost_ret (resM (b := w.heap.size + 1) (m := { m with cmd := 0, gid := 0, gkd := 0, ga := none, gb := [], gc := 0 }) rfl rfl bV) rfl ?_
  exact ⟨rfl, GV⟩
set_option maxRecDepth 20000 in
set_option maxHeartbeats 8000000 in
theorem wo_29 (m : Ms) (w : World) (k1 : (m.kind == 1) = false) (k2 : (m.kind == 2) = false) (k3 : (m.kind == 3) = false) (k12 : (m.kind == 12) = false) (k13 : (m.kind == 13) = false) (k14 : (m.kind == 14) = false) (k15 : (m.kind == 15) = false) (k29 : (m.kind == 29) = true) :
    Calls Tryz.prog 32 #[msV m] w fun e w' => e = .returned (msV { m with cmd := 0, mid := 0, mra := 0, mbu := 0 }) ∧ Below w.heap.size w w' := by
  have HG : Hid (∀ c d : Array Value, Below w.heap.size w ((w.alloc (.cells c 33)).alloc (.cells d 33))) := (show ∀ c d : Array Value, _ from fun c d => by go_grown)
  go_enter Tryz.func32, Tryz.ntmps32
  go_wp2_with (first | (refine load_M rfl (.tmp 1) rfl w.heap.size { m with cmd := 0, mid := 0, mra := 0, mbu := 0 } rfl (range_two _ _ _ _ _) ?_) | (refine store_M rfl (.tmp 2) (.tmp 39) rfl (w.heap.size + 1) { m with cmd := 0, mid := 0, mra := 0, mbu := 0 } rfl rfl (there_two _ _ _ _ _) ?_; intro V bV tV oV; have GV := oV.belowK (by omega) (HG.out _ _); clear oV tV))
  refine bodyPost_ret (resM (b := w.heap.size + 1) (m := { m with cmd := 0, mid := 0, mra := 0, mbu := 0 }) rfl rfl bV) rfl ?_
  exact ⟨rfl, GV⟩
set_option maxRecDepth 20000 in
set_option maxHeartbeats 8000000 in
theorem wo_n (m : Ms) (w : World) (k1 : (m.kind == 1) = false) (k2 : (m.kind == 2) = false) (k3 : (m.kind == 3) = false) (k12 : (m.kind == 12) = false) (k13 : (m.kind == 13) = false) (k14 : (m.kind == 14) = false) (k15 : (m.kind == 15) = false) (k29 : (m.kind == 29) = false) :
    Calls Tryz.prog 32 #[msV m] w fun e w' => e = .returned (msV m) ∧ Below w.heap.size w w' := by
  have HG : Hid (∀ c d : Array Value, Below w.heap.size w ((w.alloc (.cells c 33)).alloc (.cells d 33))) := (show ∀ c d : Array Value, _ from fun c d => by go_grown)
  go_enter Tryz.func32, Tryz.ntmps32
  go_wp2_with (first | (refine load_M rfl (.tmp 1) rfl w.heap.size m rfl (range_two _ _ _ _ _) ?_) | (refine store_M rfl (.tmp 2) (.tmp 39) rfl (w.heap.size + 1) m rfl rfl (there_two _ _ _ _ _) ?_; intro V bV tV oV; have GV := oV.belowK (by omega) (HG.out _ _); clear oV tV))
  refine bodyPost_ret (resM (b := w.heap.size + 1) (m := m) rfl rfl bV) rfl ?_
  exact ⟨rfl, GV⟩
/-
  What packetBody and flowBody answer, as contracts.
-/
open Go.ChangeShapes Go.WideShapes Go.ChangeAt Go.RowKit

set_option maxHeartbeats 4000000 in
theorem packS_any (m : Ms) (w : World) (h : MW w m) (hd : Cd w) (hp : inB m.prt 0 16 = true) (hs : m.dat.size ≤ 1500) :
    Calls Tryz.prog 34 #[msV m] w fun e w' => e = .returned (.string (packS m.prt m.la m.dat)) ∧ Below w.heap.size w w' := by
  have HP := wput_h
  have hps := pbI_size
  have hsl := sl_2
  have HA : Hid (Calls Tryz.prog 71 #[.slice m.aa m.la.length m.ca] (mx w m) fun e w' => e = .returned (.string (encodeS m.la)) ∧ Below (mx w m).heap.size (mx w m) w') := wactions_any m.aa m.la m.ca (mx w m) (h.a.alloc _) h.an (hd.alloc _)
  have HC : Hid (∀ w1, Below (mx w m).heap.size (mx w m) w1 → Bm w1 w.heap.size m ∧ w.heap.size < w1.heap.size) := (show ∀ w1, _ from fun w1 g => ⟨(Bm.new w m).below (by simp) g, Nat.lt_of_lt_of_le (by simp) g.size⟩)
  obtain ⟨p0, p1⟩ := inB_iff.1 hp
  have hz := encS_le m.la
  have hR : Hid (packS m.prt m.la m.dat = ⟨#[255, 255, 255, 255]⟩ ++ pb m.prt 4 ++ pb ((encodeS m.la).size : Int) 2 ++ ⟨#[0, 0, 0, 0]⟩ ++ ⟨#[0, 0]⟩ ++ encodeS m.la ++ m.dat) := (show _ = _ from rfl)
  clear h hd hp
  generalize encodeS m.la = S at *
  rw [hR.out]
  clear hR
  go_enter Tryz.func34, Tryz.ntmps34
  go_wp2_with fail
  refine HA.out.mono ?_
  rintro x w1 ⟨rfl, g1⟩
  obtain ⟨q, hq⟩ := HC.out _ g1
  have q22 : ∀ n : GrT w1, n.w.cell? ⟨w.heap.size, 22, none⟩ = some (.int .i64 m.prt) := fun n => (Bm.gr q hq n) 22 _ rfl
  have q25 : ∀ n : GrT w1, n.w.cell? ⟨w.heap.size, 25, none⟩ = some (.string m.dat) := fun n => (Bm.gr q hq n) 25 _ rfl
  clear q hq
  go_wp2_with fail
  refine wp_region_grow (by kernel_rfl) (by kernel_rfl) ?_
  repeat (go_big_quiet_step ((first | (go_at_call 18; exact quiet_gr (HP.out _ _ _ (by unfold fits; omega))))))
  refine wpQuiet_nil ?_
  rintro w3 hw'
  have g3 := gr_elim hw'
  clear hw' q22 q25
  go_wp2_with fail
  go_ret
  exact ⟨rfl, btr (by go_grown) (btr g1 g3 (Nat.le_refl _)) (by simp)⟩
set_option maxRecDepth 20000 in
set_option maxHeartbeats 8000000 in
theorem flowS_any (m : Ms) (w : World) (h : MW w m) (u : EU m.en) (tw : Mt.TWs m.ts) (hd : Ct w) (hc : inB m.cmd 0 4 = true) (he : entB m.en.pri m.ts m.en.sp = true) :
    Calls Tryz.prog 35 #[msV m] w fun e w' => e = .returned (.string (flowS m.cmd m.chk m.en.pri m.ts m.en.sp)) ∧ Below w.heap.size w w' := by
  have HP := wput_h
  have hps := pbI_size
  have hzz := zeros_size
  have hsl := sl_2
  have HR1 : Hid (∀ w, Calls Tryz.prog 70 #[.string ⟨#[0, 0, 0, 0]⟩, .int .i64 4] w fun e w' => e = .returned (.string (zeros 16)) ∧ Below w.heap.size w w') := (show ∀ w, _ from rep_16)
  have HR2 : Hid (∀ w, Calls Tryz.prog 70 #[.string ⟨#[255, 255, 255, 255]⟩, .int .i64 3] w fun e w' => e = .returned (.string ff12) ∧ Below w.heap.size w w') := (show ∀ w, _ from rep_12)
  have W2e : ∃ W2, ex (mx w m) m.en = W2 := ⟨_, rfl⟩
  obtain ⟨W2, hW2⟩ := W2e
  have G2 : Below w.heap.size w W2 := by rw [← hW2]; go_grown
  have z2 : W2.heap.size = w.heap.size + 2 := by rw [← hW2]; simp
  have HM : Hid (Calls Tryz.prog 72 #[.slice m.en.ta m.en.tl m.en.tc] W2 fun e w' => e = .returned (.tuple #[.string (Mt.encodeS m.ts), .int .i64 (Mt.rightE m.ts)]) ∧ Below W2.heap.size W2 w') := (show Calls _ _ _ _ _ from by
    rw [h.tl]
    exact Mt.encode_any m.en.ta m.ts m.en.tc W2 (h.t.below G2) (by have := h.tn; omega) h.tc (hd.m.below G2) tw)
  have HI : Hid (∀ w1, Below W2.heap.size W2 w1 → Calls Tryz.prog 73 #[enV m.en] w1 fun e w' => e = .returned (.tuple #[.string (encodeX m.en.sp), .int .i64 (rightX m.en.sp)]) ∧ Below w1.heap.size w1 w') := (show ∀ w1, _ from fun w1 g => encodeX_any m.en w1 ((h.e.below G2).below g) u ((hd.a.below G2).below g))
  have B1 : Bm W2 w.heap.size m := by rw [← hW2]; exact (Bm.new w m).below (B := w.heap.size + 1) (by omega) (by go_grown)
  have B2 : Bn W2 (w.heap.size + 1) m.en := by
    rw [← hW2]
    have := Bn.new (mx w m) m.en
    simpa using this
  have HB1 : Hid (∀ w1, Below W2.heap.size W2 w1 → Bm w1 w.heap.size m ∧ Bn w1 (w.heap.size + 1) m.en ∧ w.heap.size + 1 < w1.heap.size) := (show ∀ w1, _ from fun w1 g => ⟨B1.below (by omega) g, B2.below (by omega) g, by have := g.size; omega⟩)
  have B2' : Hid (Bn W2 (w.heap.size + 1) m.en) := B2
  simp only [entB, Bool.and_eq_true, inB_iff, beq_iff_eq] at he
  obtain ⟨⟨⟨p0, p1⟩, _⟩, hrx⟩ := he
  have ht : 0 ≤ m.en.tab ∧ m.en.tab < 8 := by
    unfold rightX at hrx
    split at hrx
    · cases hrx
    · next ht =>
      have : tabB m.en.tab = true := by simpa [En.sp] using ht
      simpa [tabB] using this
  obtain ⟨t0, t1⟩ := ht
  obtain ⟨c0, c1⟩ := inB_iff.1 hc
  have hz1 := menc_le m.ts
  have hz2 := encodeX_le m.en.sp
  have hR : Hid (flowS m.cmd m.chk m.en.pri m.ts m.en.sp = zeros 16 ++ pb m.en.tab 1 ++ pb m.cmd 1 ++ ⟨#[0, 0, 0, 0]⟩ ++ pb m.en.pri 2 ++ ff12 ++ pb (flg m.chk) 2 ++ ⟨#[0, 0]⟩ ++ Mt.encodeS m.ts ++ encodeX m.en.sp) := (show _ = _ from rfl)
  have h12 : ff12.size = 12 := rfl
  have HW2 : Hid (ex (mx w m) m.en = W2) := hW2
  rw [hR.out]
  clear h hd hc hrx hW2 B1 B2 u tw hR
  generalize Mt.encodeS m.ts = S1 at *
  generalize Mt.rightE m.ts = E1 at *
  generalize encodeX m.en.sp = S2 at *
  generalize rightX m.en.sp = E2 at *
  generalize ff12 = FF at *
  obtain ⟨FL, hFL⟩ : ∃ FL, flg m.chk = FL := ⟨_, rfl⟩
  rw [hFL]
  have HLT : Hid (m.chk = true → FL = 2) := (show m.chk = true → FL = 2 from fun h => by rw [← hFL, h]; rfl)
  have HLF : Hid (m.chk = false → FL = 0) := (show m.chk = false → FL = 0 from fun h => by rw [← hFL, h]; rfl)
  have HWT : Hid (m.chk = true → (w.alloc (.cells #[.int .i64 m.kind, .int .i64 m.xid, .int .i64 m.cmd, .bool true, .int .i64 m.en.tab, .int .i64 m.en.pri, .slice m.en.ta m.en.tl m.en.tc, .slice m.en.aa m.en.la.length m.en.ca, .slice m.en.aw m.en.lw.length m.en.cw, .bool m.en.clr, .int .u64 m.en.mt, .int .u64 m.en.mm, .int .i64 m.en.met, .int .i64 m.en.go, .int .i64 m.gid, .int .i64 m.gkd, .slice m.ga m.gb.length m.gc, .int .i64 m.mid, .int .i64 m.mra, .int .i64 m.mbu, .int .i64 m.typ, .int .i64 m.cod, .int .i64 m.prt, .bool m.live, .slice m.aa m.la.length m.ca, .string m.dat] 33)).alloc (.cells (enC m.en) 26) = W2) := (show m.chk = true → _ from fun h => by rw [← h]; exact HW2.out)
  have HWF : Hid (m.chk = false → (w.alloc (.cells #[.int .i64 m.kind, .int .i64 m.xid, .int .i64 m.cmd, .bool false, .int .i64 m.en.tab, .int .i64 m.en.pri, .slice m.en.ta m.en.tl m.en.tc, .slice m.en.aa m.en.la.length m.en.ca, .slice m.en.aw m.en.lw.length m.en.cw, .bool m.en.clr, .int .u64 m.en.mt, .int .u64 m.en.mm, .int .i64 m.en.met, .int .i64 m.en.go, .int .i64 m.gid, .int .i64 m.gkd, .slice m.ga m.gb.length m.gc, .int .i64 m.mid, .int .i64 m.mra, .int .i64 m.mbu, .int .i64 m.typ, .int .i64 m.cod, .int .i64 m.prt, .bool m.live, .slice m.aa m.la.length m.ca, .string m.dat] 33)).alloc (.cells (enC m.en) 26) = W2) := (show m.chk = false → _ from fun h => by rw [← h]; exact HW2.out)
  clear hFL HW2
  go_enter Tryz.func35, Tryz.ntmps35
  go_wp2_with fail
  all_goals
    first | (have HK : Hid (FL = 2) := HLT.out ‹m.chk = true›) | (have HK : Hid (FL = 0) := HLF.out ‹m.chk = false›)
    first | rw [HWT.out ‹m.chk = true›] | rw [HWF.out ‹m.chk = false›]
    first | clear ‹m.chk = true› | clear ‹m.chk = false›
    clear HWT HWF HLT HLF
    refine HM.out.mono ?_
    rintro x w1 ⟨rfl, g1⟩
    obtain ⟨_, b1, _⟩ := HB1.out _ g1
    obtain ⟨d0, d1, d2, d3, d4, d5, d6, d7, d8, d9⟩ := b1
    go_wp2_with fail
    refine (HI.out _ g1).mono ?_
    rintro x w3 ⟨rfl, g3⟩
    have b3 := btr g1 g3 (Nat.le_refl _)
    clear d0 d1 d2 d3 d4 d5 d6 d7 d8 d9
    obtain ⟨q, r, hq⟩ := HB1.out _ b3
    have q2 : ∀ n : GrT w3, n.w.cell? ⟨w.heap.size, 2, none⟩ = some (.int .i64 m.cmd) := fun n => (Bm.gr q (by omega) n) 2 _ rfl
    have r0 : ∀ n : GrT w3, n.w.cell? ⟨w.heap.size + 1, 0, none⟩ = some (.int .i64 m.en.tab) := fun n => (Bn.gr r hq n).1
    have r1 : ∀ n : GrT w3, n.w.cell? ⟨w.heap.size + 1, 1, none⟩ = some (.int .i64 m.en.pri) := fun n => (Bn.gr r hq n).2.1
    clear q r hq
    go_wp2_with fail
    refine wp_region_grow (by kernel_rfl) (by kernel_rfl) ?_
    repeat (go_big_quiet_step ((first | (go_at_call 18; exact quiet_gr (HP.out _ _ _ (by unfold fits; omega))) | (go_at_call_of 70 (Value.int IntKind.i64 4); exact quiet_gr (HR1.out _)) | (go_at_call_of 70 (Value.int IntKind.i64 3); exact quiet_gr (HR2.out _)))))
    refine wpQuiet_nil ?_
    rintro w4 hw'
    have g4 := gr_elim hw'
    clear hw' q2 r0 r1
    go_wp2_with fail
    go_ret
    exact ⟨by rw [HK.out]; rfl, btr G2 (btr b3 g4 (Nat.le_refl _)) (Nat.le_refl _)⟩
/-
  What right, body and Encode answer, as contracts.
-/
open Go.ChangeShapes Go.WideShapes Go.ChangeAt Go.RowKit
set_option linter.unusedSimpArgs false
set_option linter.unusedVariables false

theorem emptyM_wo (m : Ms) : emptyM (woS m).msg = bareB m.msg := by
  rcases kinds m.kind with k | k | k | k | k | k | k | k | k | k | k | k
  case inr.inr.inr.inr.inr.inr.inr.inr.inr.inr.inr =>
    obtain ⟨k0, k1, k2, k3, k12, k13, k14, k15, k20, k21, k29⟩ := k
    have e : woS m = m := by
      simp only [beq_eq_false_iff_ne] at k0 k1 k2 k3 k12 k13 k14 k15 k20 k21 k29
      simp [woS, *]
    rw [e]
    simp only [emptyM, bareB, Ms.msg, k0, k1, k2, k3, k12, k13, k14, k15, k20, k21, k29, Bool.false_or]
  all_goals
    simp only [woS, k]
    simp [emptyM, bareB, Ms.msg, k, noEnt, noSp, noGrp, noMet, En.sp, en0, show (⟨#[]⟩ : ByteArray) = ByteArray.empty from rfl]
theorem wo_w {m : Ms} {w : World} (h : MW w m) : MW w (woS m) := by
  unfold woS
  (repeat' split) <;> first | exact h | exact ⟨en0_w w, .inl rfl, rfl, Nat.zero_le _, Nat.zero_le _, h.g, h.gn, h.a, h.an, h.d⟩ | exact ⟨h.e, h.t, h.tl, h.tn, h.tc, h.g, h.gn, h.a, h.an, Nat.zero_le _⟩ | exact ⟨h.e, h.t, h.tl, h.tn, h.tc, h.g, h.gn, .inl rfl, Nat.zero_le _, Nat.zero_le _⟩ | exact ⟨h.e, h.t, h.tl, h.tn, h.tc, ⟨by simp, .inl rfl⟩, Nat.zero_le _, h.a, h.an, h.d⟩ | exact ⟨h.e, h.t, h.tl, h.tn, h.tc, h.g, h.gn, h.a, h.an, h.d⟩
theorem wo_any (m : Ms) (w : World) : Calls Tryz.prog 32 #[msV m] w fun e w' => e = .returned (msV (woS m)) ∧ Below w.heap.size w w' := by
  have z : ∀ (n j : Int), m.kind = n → n ≠ j → (m.kind == j) = false := fun n j h g => by rw [h]; simpa using g
  have y : ∀ (n : Int), m.kind = n → (m.kind == n) = true := fun n h => by rw [h]; simp
  rcases kinds m.kind with k | k | k | k | k | k | k | k | k | k | k | k
  · have e : woS m = m := by simp [woS, k]
    rw [e]
    exact wo_n m w (z 0 1 k (by decide)) (z 0 2 k (by decide)) (z 0 3 k (by decide)) (z 0 12 k (by decide)) (z 0 13 k (by decide)) (z 0 14 k (by decide)) (z 0 15 k (by decide)) (z 0 29 k (by decide))
  · have e : woS m = { m with typ := 0, cod := 0, dat := ⟨#[]⟩ } := by simp [woS, k]
    rw [e]
    exact wo_1 m w (y 1 k)
  · have e : woS m = { m with dat := ⟨#[]⟩ } := by simp [woS, k]
    rw [e]
    exact wo_2 m w (z 2 1 k (by decide)) (y 2 k)
  · have e : woS m = { m with dat := ⟨#[]⟩ } := by simp [woS, k]
    rw [e]
    exact wo_3 m w (z 3 1 k (by decide)) (z 3 2 k (by decide)) (y 3 k)
  · have e : woS m = { m with prt := 0, live := false } := by simp [woS, k]
    rw [e]
    exact wo_12 m w (z 12 1 k (by decide)) (z 12 2 k (by decide)) (z 12 3 k (by decide)) (y 12 k)
  · have e : woS m = { m with prt := 0, aa := none, la := [], ca := 0, dat := ⟨#[]⟩ } := by simp [woS, k]
    rw [e]
    exact wo_13 m w (z 13 1 k (by decide)) (z 13 2 k (by decide)) (z 13 3 k (by decide)) (z 13 12 k (by decide)) (y 13 k)
  · have e : woS m = { m with cmd := 0, chk := false, en := en0, ts := [] } := by simp [woS, k]
    rw [e]
    exact wo_14 m w (z 14 1 k (by decide)) (z 14 2 k (by decide)) (z 14 3 k (by decide)) (z 14 12 k (by decide)) (z 14 13 k (by decide)) (y 14 k)
  · have e : woS m = { m with cmd := 0, gid := 0, gkd := 0, ga := none, gb := [], gc := 0 } := by simp [woS, k]
    rw [e]
    exact wo_15 m w (z 15 1 k (by decide)) (z 15 2 k (by decide)) (z 15 3 k (by decide)) (z 15 12 k (by decide)) (z 15 13 k (by decide)) (z 15 14 k (by decide)) (y 15 k)
  · have e : woS m = m := by simp [woS, k]
    rw [e]
    exact wo_n m w (z 20 1 k (by decide)) (z 20 2 k (by decide)) (z 20 3 k (by decide)) (z 20 12 k (by decide)) (z 20 13 k (by decide)) (z 20 14 k (by decide)) (z 20 15 k (by decide)) (z 20 29 k (by decide))
  · have e : woS m = m := by simp [woS, k]
    rw [e]
    exact wo_n m w (z 21 1 k (by decide)) (z 21 2 k (by decide)) (z 21 3 k (by decide)) (z 21 12 k (by decide)) (z 21 13 k (by decide)) (z 21 14 k (by decide)) (z 21 15 k (by decide)) (z 21 29 k (by decide))
  · have e : woS m = { m with cmd := 0, mid := 0, mra := 0, mbu := 0 } := by simp [woS, k]
    rw [e]
    exact wo_29 m w (z 29 1 k (by decide)) (z 29 2 k (by decide)) (z 29 3 k (by decide)) (z 29 12 k (by decide)) (z 29 13 k (by decide)) (z 29 14 k (by decide)) (z 29 15 k (by decide)) (y 29 k)
  · obtain ⟨k0, k1, k2, k3, k12, k13, k14, k15, k20, k21, k29⟩ := k
    have e : woS m = m := by
      have e1 := k1; have e2 := k2; have e3 := k3; have e12 := k12; have e13 := k13; have e14 := k14; have e15 := k15; have e29 := k29
      simp only [beq_eq_false_iff_ne] at e1 e2 e3 e12 e13 e14 e15 e29
      simp [woS, *]
    rw [e]
    exact wo_n m w k1 k2 k3 k12 k13 k14 k15 k29
set_option maxRecDepth 20000 in
set_option maxHeartbeats 8000000 in
theorem right_M (m : Ms) (w : World) (h : MW w m) (hd : Ct w) : Calls Tryz.prog 16 #[msV m] w fun e w' => e = .returned (.bool (rightM m.msg)) ∧ Below w.heap.size w w' := by
  have HW := within_h m.xid 0 4294967295
  have H1 : Hid (∀ w1, Below w.heap.size w w1 → Calls Tryz.prog 30 #[msV m] w1 fun e w' => e = .returned (.bool (ownB m.msg)) ∧ Below w1.heap.size w1 w') := (show ∀ w1, _ from fun w1 g => own_any m w1 (h.below g) (hd.below g))
  have H2 : Hid (∀ w1, Calls Tryz.prog 32 #[msV m] w1 fun e w' => e = .returned (msV (woS m)) ∧ Below w1.heap.size w1 w') := (show ∀ w1, _ from fun w1 => wo_any m w1)
  have H3 : Hid (∀ w1, Below w.heap.size w w1 → Calls Tryz.prog 31 #[msV (woS m)] w1 fun e w' => e = .returned (.bool (bareB m.msg)) ∧ Below w1.heap.size w1 w') := (show ∀ w1, _ from fun w1 g => by
    have := empty_any (woS m) w1 (wo_w (h.below g))
    rwa [emptyM_wo] at this)
  obtain ⟨W1, hW1⟩ : ∃ W1, mx w m = W1 := ⟨_, rfl⟩
  have hl : Bm W1 w.heap.size m := hW1 ▸ Bm.new w m
  have hx : W1.cell? ⟨w.heap.size, 1, none⟩ = some (.int .i64 m.xid) := hl 1 _ rfl
  have HB : Hid (∀ w1, Below W1.heap.size W1 w1 → Bm w1 w.heap.size m) := (show ∀ w1, _ from fun w1 g => hl.below (by rw [← hW1]; simp) g)
  have HG : Hid (Below w.heap.size w W1) := (show Below _ _ _ by rw [← hW1]; go_grown)
  have HW1 : Hid (w.alloc (.cells #[.int .i64 m.kind, .int .i64 m.xid, .int .i64 m.cmd, .bool m.chk, .int .i64 m.en.tab, .int .i64 m.en.pri, .slice m.en.ta m.en.tl m.en.tc, .slice m.en.aa m.en.la.length m.en.ca, .slice m.en.aw m.en.lw.length m.en.cw, .bool m.en.clr, .int .u64 m.en.mt, .int .u64 m.en.mm, .int .i64 m.en.met, .int .i64 m.en.go, .int .i64 m.gid, .int .i64 m.gkd, .slice m.ga m.gb.length m.gc, .int .i64 m.mid, .int .i64 m.mra, .int .i64 m.mbu, .int .i64 m.typ, .int .i64 m.cod, .int .i64 m.prt, .bool m.live, .slice m.aa m.la.length m.ca, .string m.dat] 33) = W1) := hW1
  clear hW1
  have HR : Hid (rightM m.msg = (inB m.xid 0 4294967295 && ownB m.msg && bareB m.msg)) := (show _ = _ from rfl)
  rw [HR.out]
  clear h hd HR
  generalize ownB m.msg = B1 at *
  generalize bareB m.msg = B2 at *
  generalize woS m = M2 at *
  cases h1 : inB m.xid 0 4294967295 with
  | false =>
    rw [h1] at HW
    clear h1 hl
    go_enter Tryz.func16, Tryz.ntmps16
    go_wp2_with fail
    rw [HW1.out]
    refine (HW.out _).mono ?_
    rintro r w1 ⟨rfl, rfl⟩
    go_wp2_with fail
    go_ret
    exact ⟨rfl, HG.out⟩
  | true =>
    rw [h1] at HW
    clear h1
    cases B1 with
    | false =>
      go_enter Tryz.func16, Tryz.ntmps16
      go_wp2_with fail
      rw [HW1.out]
      refine (HW.out _).mono ?_
      rintro r w1 ⟨rfl, rfl⟩
      go_wp2_with (refine load_Mg rfl (.tmp 1) rfl w.heap.size m rfl hl ?_)
      refine (H1.out _ HG.out).mono ?_
      rintro r w1 ⟨rfl, g1⟩
      clear hl
      go_wp2_with fail
      go_ret
      exact ⟨rfl, btr HG.out g1 (Nat.le_refl _)⟩
    | true =>
      go_enter Tryz.func16, Tryz.ntmps16
      go_wp2_with fail
      rw [HW1.out]
      refine (HW.out _).mono ?_
      rintro r w1 ⟨rfl, rfl⟩
      go_wp2_with (refine load_Mg rfl (.tmp 1) rfl w.heap.size m rfl hl ?_)
      refine (H1.out _ HG.out).mono ?_
      rintro r w1 ⟨rfl, g1⟩
      clear hl
      have hl1 := HB.out _ g1
      have G1 := btr HG.out g1 (Nat.le_refl _)
      go_wp2_with (refine load_Mg rfl (.tmp 1) rfl w.heap.size m rfl hl1 ?_)
      refine (H2.out _).mono ?_
      rintro r w2 ⟨rfl, g2⟩
      have G2 := btr G1 g2 (Nat.le_refl _)
      clear hl1 g1 G1 g2
      go_wp2_with fail
      refine (H3.out _ G2).mono ?_
      rintro r w3 ⟨rfl, g3⟩
      have G3 := btr G2 g3 (Nat.le_refl _)
      clear g3 G2
      go_wp2_with fail
      go_ret
      exact ⟨rfl, G3⟩
/-
  What body and Encode answer, as contracts.
-/
open Go.ChangeShapes Go.WideShapes Go.ChangeAt Go.RowKit
set_option linter.unusedSimpArgs false
set_option linter.unusedVariables false

set_option maxRecDepth 20000 in
set_option maxHeartbeats 8000000 in
theorem body_k0 (m : Ms) (w : World) (h : MW w m) (u : MU m) (hd : Ct w) (hk : m.kind = 0) (ho : ownB m.msg = true) : Calls Tryz.prog 17 #[msV m] w fun e w' => e = .returned (.string (bodyM m.msg)) ∧ Below w.heap.size w w' := by
  have e : bodyM m.msg = ⟨#[]⟩ := by simp [bodyM, Ms.msg, hk]
  have k1 : (m.kind == 1) = false := by rw [hk]; rfl
  have k2 : (m.kind == 2) = false := by rw [hk]; rfl
  have k3 : (m.kind == 3) = false := by rw [hk]; rfl
  have k12 : (m.kind == 12) = false := by rw [hk]; rfl
  have k13 : (m.kind == 13) = false := by rw [hk]; rfl
  have k14 : (m.kind == 14) = false := by rw [hk]; rfl
  have k15 : (m.kind == 15) = false := by rw [hk]; rfl
  have k29 : (m.kind == 29) = false := by rw [hk]; rfl
  rw [e]
  clear hk e ho
  clear h u hd
  go_enter Tryz.func17, Tryz.ntmps17
  go_wp2_with fail
  go_ret
  exact ⟨rfl, by go_grown⟩
set_option maxRecDepth 20000 in
set_option maxHeartbeats 8000000 in
theorem body_k20 (m : Ms) (w : World) (h : MW w m) (u : MU m) (hd : Ct w) (hk : m.kind = 20) (ho : ownB m.msg = true) : Calls Tryz.prog 17 #[msV m] w fun e w' => e = .returned (.string (bodyM m.msg)) ∧ Below w.heap.size w w' := by
  have e : bodyM m.msg = ⟨#[]⟩ := by simp [bodyM, Ms.msg, hk]
  have k1 : (m.kind == 1) = false := by rw [hk]; rfl
  have k2 : (m.kind == 2) = false := by rw [hk]; rfl
  have k3 : (m.kind == 3) = false := by rw [hk]; rfl
  have k12 : (m.kind == 12) = false := by rw [hk]; rfl
  have k13 : (m.kind == 13) = false := by rw [hk]; rfl
  have k14 : (m.kind == 14) = false := by rw [hk]; rfl
  have k15 : (m.kind == 15) = false := by rw [hk]; rfl
  have k29 : (m.kind == 29) = false := by rw [hk]; rfl
  rw [e]
  clear hk e ho
  clear h u hd
  go_enter Tryz.func17, Tryz.ntmps17
  go_wp2_with fail
  go_ret
  exact ⟨rfl, by go_grown⟩
set_option maxRecDepth 20000 in
set_option maxHeartbeats 8000000 in
theorem body_k21 (m : Ms) (w : World) (h : MW w m) (u : MU m) (hd : Ct w) (hk : m.kind = 21) (ho : ownB m.msg = true) : Calls Tryz.prog 17 #[msV m] w fun e w' => e = .returned (.string (bodyM m.msg)) ∧ Below w.heap.size w w' := by
  have e : bodyM m.msg = ⟨#[]⟩ := by simp [bodyM, Ms.msg, hk]
  have k1 : (m.kind == 1) = false := by rw [hk]; rfl
  have k2 : (m.kind == 2) = false := by rw [hk]; rfl
  have k3 : (m.kind == 3) = false := by rw [hk]; rfl
  have k12 : (m.kind == 12) = false := by rw [hk]; rfl
  have k13 : (m.kind == 13) = false := by rw [hk]; rfl
  have k14 : (m.kind == 14) = false := by rw [hk]; rfl
  have k15 : (m.kind == 15) = false := by rw [hk]; rfl
  have k29 : (m.kind == 29) = false := by rw [hk]; rfl
  rw [e]
  clear hk e ho
  clear h u hd
  go_enter Tryz.func17, Tryz.ntmps17
  go_wp2_with fail
  go_ret
  exact ⟨rfl, by go_grown⟩
set_option maxRecDepth 20000 in
set_option maxHeartbeats 8000000 in
theorem body_k1 (m : Ms) (w : World) (h : MW w m) (u : MU m) (hd : Ct w) (hk : m.kind = 1) (ho : ownB m.msg = true) : Calls Tryz.prog 17 #[msV m] w fun e w' => e = .returned (.string (bodyM m.msg)) ∧ Below w.heap.size w w' := by
  have e : bodyM m.msg = pb m.typ 2 ++ pb m.cod 2 ++ m.dat := by simp [bodyM, Ms.msg, hk]
  have eo : (inB m.typ 0 65535 && inB m.cod 0 65535 && decide (m.dat.size ≤ 64)) = true := by
    rw [← ho]
    simp [ownB, Ms.msg, hk]
  have k1 : (m.kind == 1) = true := by rw [hk]; rfl
  rw [e]
  clear hk e ho
  simp only [Bool.and_eq_true, inB_iff, decide_eq_true_eq] at eo
  obtain ⟨⟨⟨t0, t1⟩, c0, c1⟩, d1⟩ := eo
  have HP := wput_h
  have hps := pbI_size
  obtain ⟨W1, hW1⟩ : ∃ W1, mx w m = W1 := ⟨_, rfl⟩
  have hl : Bm W1 w.heap.size m := hW1 ▸ Bm.new w m
  have z1 : w.heap.size < W1.heap.size := by rw [← hW1]; simp
  have q20 : ∀ n : GrT W1, n.w.cell? ⟨w.heap.size, 20, none⟩ = some (.int .i64 m.typ) := fun n => (Bm.gr hl z1 n) 20 _ rfl
  have q21 : ∀ n : GrT W1, n.w.cell? ⟨w.heap.size, 21, none⟩ = some (.int .i64 m.cod) := fun n => (Bm.gr hl z1 n) 21 _ rfl
  have q25 : ∀ n : GrT W1, n.w.cell? ⟨w.heap.size, 25, none⟩ = some (.string m.dat) := fun n => (Bm.gr hl z1 n) 25 _ rfl
  have HG : Hid (Below w.heap.size w W1) := (show Below _ _ _ by rw [← hW1]; go_grown)
  have HW1 : Hid (w.alloc (.cells #[.int .i64 m.kind, .int .i64 m.xid, .int .i64 m.cmd, .bool m.chk, .int .i64 m.en.tab, .int .i64 m.en.pri, .slice m.en.ta m.en.tl m.en.tc, .slice m.en.aa m.en.la.length m.en.ca, .slice m.en.aw m.en.lw.length m.en.cw, .bool m.en.clr, .int .u64 m.en.mt, .int .u64 m.en.mm, .int .i64 m.en.met, .int .i64 m.en.go, .int .i64 m.gid, .int .i64 m.gkd, .slice m.ga m.gb.length m.gc, .int .i64 m.mid, .int .i64 m.mra, .int .i64 m.mbu, .int .i64 m.typ, .int .i64 m.cod, .int .i64 m.prt, .bool m.live, .slice m.aa m.la.length m.ca, .string m.dat] 33) = W1) := hW1
  clear hW1 hl z1 h u hd
  go_enter Tryz.func17, Tryz.ntmps17
  go_wp2_with fail
  rw [HW1.out]
  refine wp_region_grow (by kernel_rfl) (by kernel_rfl) ?_
  repeat (go_big_quiet_step ((first | (go_at_call 18; exact quiet_gr (HP.out _ _ _ (by unfold fits; omega))))))
  refine wpQuiet_nil ?_
  rintro w3 hw'
  have g3 := gr_elim hw'
  clear hw' q20 q21 q25
  go_wp2_with fail
  go_ret
  exact ⟨rfl, btr HG.out g3 (Nat.le_refl _)⟩
set_option maxRecDepth 20000 in
set_option maxHeartbeats 8000000 in
theorem body_k2 (m : Ms) (w : World) (h : MW w m) (u : MU m) (hd : Ct w) (hk : m.kind = 2) (ho : ownB m.msg = true) : Calls Tryz.prog 17 #[msV m] w fun e w' => e = .returned (.string (bodyM m.msg)) ∧ Below w.heap.size w w' := by
  have e : bodyM m.msg = m.dat := by simp [bodyM, Ms.msg, hk]
  have k1 : (m.kind == 1) = false := by rw [hk]; rfl
  have k2 : (m.kind == 2) = true := by rw [hk]; rfl
  rw [e]
  clear hk e ho
  clear h u hd
  go_enter Tryz.func17, Tryz.ntmps17
  go_wp2_with fail
  go_ret
  exact ⟨rfl, by go_grown⟩
set_option maxRecDepth 20000 in
set_option maxHeartbeats 8000000 in
theorem body_k3 (m : Ms) (w : World) (h : MW w m) (u : MU m) (hd : Ct w) (hk : m.kind = 3) (ho : ownB m.msg = true) : Calls Tryz.prog 17 #[msV m] w fun e w' => e = .returned (.string (bodyM m.msg)) ∧ Below w.heap.size w w' := by
  have e : bodyM m.msg = m.dat := by simp [bodyM, Ms.msg, hk]
  have k1 : (m.kind == 1) = false := by rw [hk]; rfl
  have k2 : (m.kind == 2) = false := by rw [hk]; rfl
  have k3 : (m.kind == 3) = true := by rw [hk]; rfl
  rw [e]
  clear hk e ho
  clear h u hd
  go_enter Tryz.func17, Tryz.ntmps17
  go_wp2_with fail
  go_ret
  exact ⟨rfl, by go_grown⟩
set_option maxRecDepth 20000 in
set_option maxHeartbeats 8000000 in
theorem body_k12 (m : Ms) (w : World) (h : MW w m) (u : MU m) (hd : Ct w) (hk : m.kind = 12) (ho : ownB m.msg = true) : Calls Tryz.prog 17 #[msV m] w fun e w' => e = .returned (.string (bodyM m.msg)) ∧ Below w.heap.size w w' := by
  have e : bodyM m.msg = portS m.prt m.live := by simp [bodyM, Ms.msg, hk]
  have eo : inB m.prt 1 16 = true := by
    rw [← ho]
    simp [ownB, Ms.msg, hk]
  have k1 : (m.kind == 1) = false := by rw [hk]; rfl
  have k2 : (m.kind == 2) = false := by rw [hk]; rfl
  have k3 : (m.kind == 3) = false := by rw [hk]; rfl
  have k12 : (m.kind == 12) = true := by rw [hk]; rfl
  rw [e]
  clear hk e ho
  have HC : Hid (∀ w1, Below w.heap.size w w1 → Calls Tryz.prog 33 #[.int .i64 m.prt, .bool m.live] w1 fun e w' => e = .returned (.string (portS m.prt m.live)) ∧ Below w1.heap.size w1 w') := (show ∀ w1, _ from fun w1 g => portS_any m.prt m.live w1 (by have := inB_iff.1 eo; omega) (by have := inB_iff.1 eo; omega))
  generalize portS m.prt m.live = S at *
  clear h u hd eo
  go_enter Tryz.func17, Tryz.ntmps17
  go_wp2_with fail
  refine (HC.out _ (by go_grown)).mono ?_
  rintro r w1 ⟨rfl, g1⟩
  have G1 : Below w.heap.size w w1 := btr (by go_grown) g1 (Nat.le_refl _)
  clear g1
  go_wp2_with fail
  go_ret
  exact ⟨rfl, G1⟩
set_option maxRecDepth 20000 in
set_option maxHeartbeats 8000000 in
theorem body_k13 (m : Ms) (w : World) (h : MW w m) (u : MU m) (hd : Ct w) (hk : m.kind = 13) (ho : ownB m.msg = true) : Calls Tryz.prog 17 #[msV m] w fun e w' => e = .returned (.string (bodyM m.msg)) ∧ Below w.heap.size w w' := by
  have e : bodyM m.msg = packS m.prt m.la m.dat := by simp [bodyM, Ms.msg, hk]
  have eo : (inB m.prt 0 16 && okA m.la && decide (m.dat.size ≤ 1500)) = true := by
    rw [← ho]
    simp [ownB, Ms.msg, hk]
  have k1 : (m.kind == 1) = false := by rw [hk]; rfl
  have k2 : (m.kind == 2) = false := by rw [hk]; rfl
  have k3 : (m.kind == 3) = false := by rw [hk]; rfl
  have k12 : (m.kind == 12) = false := by rw [hk]; rfl
  have k13 : (m.kind == 13) = true := by rw [hk]; rfl
  rw [e]
  clear hk e ho
  simp only [Bool.and_eq_true] at eo
  have HC : Hid (∀ w1, Below w.heap.size w w1 → Calls Tryz.prog 34 #[msV m] w1 fun e w' => e = .returned (.string (packS m.prt m.la m.dat)) ∧ Below w1.heap.size w1 w') := (show ∀ w1, _ from fun w1 g => packS_any m w1 (h.below g) (hd.a.below g) eo.1.1 (by simpa using eo.2))
  generalize packS m.prt m.la m.dat = S at *
  clear h u hd eo
  go_enter Tryz.func17, Tryz.ntmps17
  go_wp2_with (refine load_Mg rfl (.tmp 1) rfl w.heap.size m rfl (Bm.new w m) ?_)
  refine (HC.out _ (by go_grown)).mono ?_
  rintro r w1 ⟨rfl, g1⟩
  have G1 : Below w.heap.size w w1 := btr (by go_grown) g1 (Nat.le_refl _)
  clear g1
  go_wp2_with fail
  go_ret
  exact ⟨rfl, G1⟩
set_option maxRecDepth 20000 in
set_option maxHeartbeats 8000000 in
theorem body_k14 (m : Ms) (w : World) (h : MW w m) (u : MU m) (hd : Ct w) (hk : m.kind = 14) (ho : ownB m.msg = true) : Calls Tryz.prog 17 #[msV m] w fun e w' => e = .returned (.string (bodyM m.msg)) ∧ Below w.heap.size w w' := by
  have e : bodyM m.msg = flowS m.cmd m.chk m.en.pri m.ts m.en.sp := by simp [bodyM, Ms.msg, hk]
  have eo : (inB m.cmd 0 4 && entB m.en.pri m.ts m.en.sp) = true := by
    rw [← ho]
    simp [ownB, Ms.msg, hk]
  have k1 : (m.kind == 1) = false := by rw [hk]; rfl
  have k2 : (m.kind == 2) = false := by rw [hk]; rfl
  have k3 : (m.kind == 3) = false := by rw [hk]; rfl
  have k12 : (m.kind == 12) = false := by rw [hk]; rfl
  have k13 : (m.kind == 13) = false := by rw [hk]; rfl
  have k14 : (m.kind == 14) = true := by rw [hk]; rfl
  rw [e]
  clear hk e ho
  simp only [Bool.and_eq_true] at eo
  have HC : Hid (∀ w1, Below w.heap.size w w1 → Calls Tryz.prog 35 #[msV m] w1 fun e w' => e = .returned (.string (flowS m.cmd m.chk m.en.pri m.ts m.en.sp)) ∧ Below w1.heap.size w1 w') := (show ∀ w1, _ from fun w1 g => flowS_any m w1 (h.below g) u.u u.t (hd.below g) eo.1 eo.2)
  generalize flowS m.cmd m.chk m.en.pri m.ts m.en.sp = S at *
  clear h u hd eo
  go_enter Tryz.func17, Tryz.ntmps17
  go_wp2_with (refine load_Mg rfl (.tmp 1) rfl w.heap.size m rfl (Bm.new w m) ?_)
  refine (HC.out _ (by go_grown)).mono ?_
  rintro r w1 ⟨rfl, g1⟩
  have G1 : Below w.heap.size w w1 := btr (by go_grown) g1 (Nat.le_refl _)
  clear g1
  go_wp2_with fail
  go_ret
  exact ⟨rfl, G1⟩
set_option maxRecDepth 20000 in
set_option maxHeartbeats 8000000 in
theorem body_k15 (m : Ms) (w : World) (h : MW w m) (u : MU m) (hd : Ct w) (hk : m.kind = 15) (ho : ownB m.msg = true) : Calls Tryz.prog 17 #[msV m] w fun e w' => e = .returned (.string (bodyM m.msg)) ∧ Below w.heap.size w w' := by
  have e : bodyM m.msg = grpS m.cmd m.gid m.gkd (m.gb.map Bk.b3) := by simp [bodyM, Ms.msg, hk]
  have eo : (inB m.cmd 0 2 && grB m.gid m.gkd (m.gb.map Bk.b3)) = true := by
    rw [← ho]
    simp [ownB, Ms.msg, hk]
  have k1 : (m.kind == 1) = false := by rw [hk]; rfl
  have k2 : (m.kind == 2) = false := by rw [hk]; rfl
  have k3 : (m.kind == 3) = false := by rw [hk]; rfl
  have k12 : (m.kind == 12) = false := by rw [hk]; rfl
  have k13 : (m.kind == 13) = false := by rw [hk]; rfl
  have k14 : (m.kind == 14) = false := by rw [hk]; rfl
  have k15 : (m.kind == 15) = true := by rw [hk]; rfl
  rw [e]
  clear hk e ho
  simp only [Bool.and_eq_true] at eo
  have HC : Hid (∀ w1, Below w.heap.size w w1 → Calls Tryz.prog 36 #[.int .i64 m.cmd, .agg #[.int .i64 m.gid, .int .i64 m.gkd, .slice m.ga m.gb.length m.gc]] w1 fun e w' => e = .returned (.string (grpS m.cmd m.gid m.gkd (m.gb.map Bk.b3))) ∧ Below w1.heap.size w1 w') := (show ∀ w1, _ from fun w1 g => grpS_any m.cmd m.gid m.gkd m.ga m.gb m.gc w1 (h.g.below g) (hd.a.below g) eo.1 eo.2)
  generalize grpS m.cmd m.gid m.gkd (m.gb.map Bk.b3) = S at *
  clear h u hd eo
  go_enter Tryz.func17, Tryz.ntmps17
  go_wp2_with fail
  refine (HC.out _ (by go_grown)).mono ?_
  rintro r w1 ⟨rfl, g1⟩
  have G1 : Below w.heap.size w w1 := btr (by go_grown) g1 (Nat.le_refl _)
  clear g1
  go_wp2_with fail
  go_ret
  exact ⟨rfl, G1⟩
set_option maxRecDepth 20000 in
set_option maxHeartbeats 8000000 in
theorem body_k29 (m : Ms) (w : World) (h : MW w m) (u : MU m) (hd : Ct w) (hk : m.kind = 29) (ho : ownB m.msg = true) : Calls Tryz.prog 17 #[msV m] w fun e w' => e = .returned (.string (bodyM m.msg)) ∧ Below w.heap.size w w' := by
  have e : bodyM m.msg = metS m.cmd m.mid m.mra m.mbu := by simp [bodyM, Ms.msg, hk]
  have eo : (inB m.cmd 0 2 && meB m.mid m.mra m.mbu) = true := by
    rw [← ho]
    simp [ownB, Ms.msg, hk]
  have k1 : (m.kind == 1) = false := by rw [hk]; rfl
  have k2 : (m.kind == 2) = false := by rw [hk]; rfl
  have k3 : (m.kind == 3) = false := by rw [hk]; rfl
  have k12 : (m.kind == 12) = false := by rw [hk]; rfl
  have k13 : (m.kind == 13) = false := by rw [hk]; rfl
  have k14 : (m.kind == 14) = false := by rw [hk]; rfl
  have k15 : (m.kind == 15) = false := by rw [hk]; rfl
  have k29 : (m.kind == 29) = true := by rw [hk]; rfl
  rw [e]
  clear hk e ho
  simp only [Bool.and_eq_true] at eo
  have HC : Hid (∀ w1, Below w.heap.size w w1 → Calls Tryz.prog 37 #[.int .i64 m.cmd, .agg #[.int .i64 m.mid, .int .i64 m.mra, .int .i64 m.mbu]] w1 fun e w' => e = .returned (.string (metS m.cmd m.mid m.mra m.mbu)) ∧ Below w1.heap.size w1 w') := (show ∀ w1, _ from fun w1 g => metS_any m.cmd m.mid m.mra m.mbu w1 eo.1 eo.2)
  generalize metS m.cmd m.mid m.mra m.mbu = S at *
  clear h u hd eo
  go_enter Tryz.func17, Tryz.ntmps17
  go_wp2_with fail
  refine (HC.out _ (by go_grown)).mono ?_
  rintro r w1 ⟨rfl, g1⟩
  have G1 : Below w.heap.size w w1 := btr (by go_grown) g1 (Nat.le_refl _)
  clear g1
  go_wp2_with fail
  go_ret
  exact ⟨rfl, G1⟩
theorem body_M (m : Ms) (w : World) (h : MW w m) (u : MU m) (hd : Ct w) (ho : ownB m.msg = true) : Calls Tryz.prog 17 #[msV m] w fun e w' => e = .returned (.string (bodyM m.msg)) ∧ Below w.heap.size w w' := by
  rcases kinds m.kind with k | k | k | k | k | k | k | k | k | k | k | k
  · exact body_k0 m w h u hd k ho
  · exact body_k1 m w h u hd k ho
  · exact body_k2 m w h u hd k ho
  · exact body_k3 m w h u hd k ho
  · exact body_k12 m w h u hd k ho
  · exact body_k13 m w h u hd k ho
  · exact body_k14 m w h u hd k ho
  · exact body_k15 m w h u hd k ho
  · exact body_k20 m w h u hd k ho
  · exact body_k21 m w h u hd k ho
  · exact body_k29 m w h u hd k ho
  · exfalso
    obtain ⟨k0, k1, k2, k3, k12, k13, k14, k15, k20, k21, k29⟩ := k
    simp only [beq_eq_false_iff_ne] at k0 k1 k2 k3 k12 k13 k14 k15 k20 k21 k29
    simp [ownB, Ms.msg, *] at ho
theorem right_parts {m : Msg} (h : rightM m = true) : 0 ≤ m.xid ∧ m.xid ≤ 4294967295 ∧ ownB m = true ∧ bareB m = true := by
  unfold rightM at h
  simp only [Bool.and_eq_true, inB_iff] at h
  exact ⟨h.1.1.1, h.1.1.2, h.1.2, h.2⟩
theorem own_kind {m : Msg} (h : ownB m = true) : 0 ≤ m.kind ∧ m.kind ≤ 29 := by
  rcases kinds m.kind with k | k | k | k | k | k | k | k | k | k | k | k
  case inr.inr.inr.inr.inr.inr.inr.inr.inr.inr.inr =>
    exfalso
    obtain ⟨k0, k1, k2, k3, k12, k13, k14, k15, k20, k21, k29⟩ := k
    simp only [beq_eq_false_iff_ne] at k0 k1 k2 k3 k12 k13 k14 k15 k20 k21 k29
    simp [ownB, *] at h
  all_goals omega
theorem body_le {m : Msg} (h : ownB m = true) : (bodyM m).size ≤ 9000 := by
  rcases kinds m.kind with k | k | k | k | k | k | k | k | k | k | k | k
  case inr.inr.inr.inr.inr.inr.inr.inr.inr.inr.inr =>
    exfalso
    obtain ⟨k0, k1, k2, k3, k12, k13, k14, k15, k20, k21, k29⟩ := k
    simp only [beq_eq_false_iff_ne] at k0 k1 k2 k3 k12 k13 k14 k15 k20 k21 k29
    simp [ownB, *] at h
  all_goals
    simp [ownB, k, Bool.and_eq_true, inB_iff] at h
    simp [bodyM, k, portS, packS, flowS, grpS, metS, ByteArray.size_append, pb_size, zeros_size, gap3_size, gap4_size, gap1_size, gap2_size, ff4_size, ff12_size]
  all_goals
    have e1 := encS_le m.la
    have e2 := menc_le m.ts
    have e3 := encodeX_le m.sp
    have e4 := bks_le m.gb
    first | omega | exact Nat.zero_le _ | (have := (grB_few h.2).1; omega)
set_option maxRecDepth 20000 in
set_option maxHeartbeats 8000000 in
theorem encode_M (m : Ms) (w : World) (h : MW w m) (u : MU m) (hd : Ct w) : Calls Tryz.prog 10 #[msV m] w fun e w' => e = .returned (.tuple #[.string (encM m.msg), .int .i64 (errM m.msg)]) ∧ Below w.heap.size w w' := by
  have H1 : Hid (∀ w1, Below w.heap.size w w1 → Calls Tryz.prog 16 #[msV m] w1 fun e w' => e = .returned (.bool (rightM m.msg)) ∧ Below w1.heap.size w1 w') := (show ∀ w1, _ from fun w1 g => right_M m w1 (h.below g) (hd.below g))
  obtain ⟨W1, hW1⟩ : ∃ W1, mx w m = W1 := ⟨_, rfl⟩
  have hl : Bm W1 w.heap.size m := hW1 ▸ Bm.new w m
  have HG : Hid (Below w.heap.size w W1) := (show Below _ _ _ by rw [← hW1]; go_grown)
  have HB : Hid (∀ w1, Below W1.heap.size W1 w1 → Bm w1 w.heap.size m ∧ w.heap.size < w1.heap.size) := (show ∀ w1, _ from fun w1 g => ⟨hl.below (by rw [← hW1]; simp) g, Nat.lt_of_lt_of_le (by rw [← hW1]; simp) g.size⟩)
  have HL : Hid (Bm (mx w m) w.heap.size m) := Bm.new w m
  have HW1 : Hid (w.alloc (.cells #[.int .i64 m.kind, .int .i64 m.xid, .int .i64 m.cmd, .bool m.chk, .int .i64 m.en.tab, .int .i64 m.en.pri, .slice m.en.ta m.en.tl m.en.tc, .slice m.en.aa m.en.la.length m.en.ca, .slice m.en.aw m.en.lw.length m.en.cw, .bool m.en.clr, .int .u64 m.en.mt, .int .u64 m.en.mm, .int .i64 m.en.met, .int .i64 m.en.go, .int .i64 m.gid, .int .i64 m.gkd, .slice m.ga m.gb.length m.gc, .int .i64 m.mid, .int .i64 m.mra, .int .i64 m.mbu, .int .i64 m.typ, .int .i64 m.cod, .int .i64 m.prt, .bool m.live, .slice m.aa m.la.length m.ca, .string m.dat] 33) = W1) := hW1
  clear hW1
  cases hr : rightM m.msg with
  | false =>
    have e1 : encM m.msg = ⟨#[]⟩ := by unfold encM; rw [hr]; rfl
    have e2 : errM m.msg = 1 := by unfold errM; rw [hr]; rfl
    rw [e1, e2]
    rw [hr] at H1
    clear e1 e2 hr h u hd
    go_enter Tryz.func10, Tryz.ntmps10
    go_wp2_with (refine load_Mg rfl (.tmp 1) rfl w.heap.size m rfl HL.out ?_)
    rw [HW1.out]
    refine (H1.out _ HG.out).mono ?_
    rintro r w1 ⟨rfl, g1⟩
    go_wp2_with fail
    go_ret2
    exact ⟨rfl, btr HG.out g1 (Nat.le_refl _)⟩
  | true =>
    have e1 : encM m.msg = allM m.msg := by unfold encM; rw [hr]; rfl
    have e2 : errM m.msg = 0 := by unfold errM; rw [hr]; rfl
    obtain ⟨x0, x1, ho, _⟩ := right_parts hr
    obtain ⟨n0, n1⟩ := own_kind ho
    have hz := body_le ho
    have HC : Hid (∀ w1, Below w.heap.size w w1 → Calls Tryz.prog 17 #[msV m] w1 fun e w' => e = .returned (.string (bodyM m.msg)) ∧ Below w1.heap.size w1 w') := (show ∀ w1, _ from fun w1 g => body_M m w1 (h.below g) u (hd.below g) ho)
    have e3 : allM m.msg = pb 4 1 ++ pb m.kind 1 ++ pb (8 + ((bodyM m.msg).size : Int)) 2 ++ pb m.xid 4 ++ bodyM m.msg := rfl
    rw [e1, e2, e3]
    rw [hr] at H1
    have x0' : 0 ≤ m.xid := x0
    have x1' : m.xid ≤ 4294967295 := x1
    have n0' : 0 ≤ m.kind := n0
    have n1' : m.kind ≤ 29 := n1
    clear e1 e2 e3 hr h u hd ho x0 x1 n0 n1
    generalize bodyM m.msg = S at *
    have HP := wput_h
    have hps := pbI_size
    go_enter Tryz.func10, Tryz.ntmps10
    go_wp2_with (refine load_Mg rfl (.tmp 1) rfl w.heap.size m rfl HL.out ?_)
    rw [HW1.out]
    refine (H1.out _ HG.out).mono ?_
    rintro r w1 ⟨rfl, g1⟩
    obtain ⟨hb1, z1⟩ := HB.out _ g1
    have G1 := btr HG.out g1 (Nat.le_refl _)
    go_wp2_with (refine load_Mg rfl (.tmp 1) rfl w.heap.size m rfl hb1 ?_)
    refine (HC.out _ G1).mono ?_
    rintro r w2 ⟨rfl, g2⟩
    have G2 := btr G1 g2 (Nat.le_refl _)
    have b2 := btr g1 g2 (Nat.le_refl _)
    obtain ⟨hb2, z2⟩ := HB.out _ b2
    have q0 : ∀ n : GrT w2, n.w.cell? ⟨w.heap.size, 0, none⟩ = some (.int .i64 m.kind) := fun n => (Bm.gr hb2 z2 n) 0 _ rfl
    have q1 : ∀ n : GrT w2, n.w.cell? ⟨w.heap.size, 1, none⟩ = some (.int .i64 m.xid) := fun n => (Bm.gr hb2 z2 n) 1 _ rfl
    clear g1 g2 hb1 hb2 z1 z2 G1 b2
    go_wp2_with fail
    refine wp_region_grow (by kernel_rfl) (by kernel_rfl) ?_
    repeat (go_big_quiet_step ((first | (go_at_call 18; exact quiet_gr (HP.out _ _ _ (by unfold fits; omega))))))
    refine wpQuiet_nil ?_
    rintro w3 hw'
    have g3 := gr_elim hw'
    clear hw' q0 q1
    go_wp2_with fail
    go_ret2
    exact ⟨rfl, btr G2 g3 (Nat.le_refl _)⟩
/-
  What saidSize answers, and Decode where there is no message's head, as contracts.
-/
open Go.ChangeShapes Go.WideShapes Go.ChangeAt Go.RowKit
set_option linter.unusedVariables false

/-- The first byte, and the length that is said. -/
def sz1 (d : ByteArray) : Int := (⟨d, 0⟩ : RS).num 1
def sz2 (d : ByteArray) : Int := (((⟨d, 0⟩ : RS).skip 1).skip 1).num 2
def saidE (d : ByteArray) : Int := if d.size < 8 then 10 else if sz1 d ≠ 4 ∨ sz2 d < 8 then 11 else if (d.size : Int) < sz2 d then 10 else 0
def saidZ (d : ByteArray) : Int := if saidE d = 0 then sz2 d else 0
theorem sz1_lt (d : ByteArray) : 0 ≤ sz1 d ∧ sz1 d < 256 := by simpa [sz1] using RS.num_lt (⟨d, 0⟩ : RS) 1 (by omega)
theorem sz2_lt (d : ByteArray) : 0 ≤ sz2 d ∧ sz2 d < 65536 := by simpa [sz2] using RS.num_lt (((⟨d, 0⟩ : RS).skip 1).skip 1) 2 (by omega)
set_option maxHeartbeats 4000000 in
theorem said_any (d : ByteArray) (w : World) (hs : d.size ≤ maxLen) : Calls Tryz.prog 22 #[.string d] w fun e w' => e = .returned (.tuple #[.int .i64 (saidZ d), .int .i64 (saidE d)]) ∧ Below w.heap.size w w' := by
  by_cases h8 : d.size < 8
  · have e1 : saidE d = 10 := by unfold saidE; rw [if_pos h8]
    have e2 : saidZ d = 0 := by unfold saidZ; rw [e1]; rfl
    have h8' : (d.size : Int) < 8 := by omega
    rw [e1, e2]
    clear e1 e2
    go_enter Tryz.func22, Tryz.ntmps22
    go_wp2_with fail
    go_ret2
    exact ⟨rfl, Below.refl _ _⟩
  · have h8' : ¬ ((d.size : Int) < 8) := by omega
    obtain ⟨a0, a1⟩ := sz1_lt d
    obtain ⟨b0, b1⟩ := sz2_lt d
    have z1 := Nat.le_trans (RS.skip_size (⟨d, 0⟩ : RS) 1) hs
    have z2 := Nat.le_trans (RS.skip_size ((⟨d, 0⟩ : RS).skip 1) 1) z1
    have HR : Hid (∀ w, Calls Tryz.prog 45 #[.string d] w fun x w' => x = .returned (.pointer (some ⟨w.heap.size, 0, none⟩)) ∧ Rd w' w.heap.size d 0 ∧ Below w.heap.size w w') := (show ∀ w, _ from fun w => (read_any d w).mono fun x w' ⟨h1, h2⟩ => ⟨h1, h2 ▸ Rd.new w d 0 _, by rw [h2]; go_grown⟩)
    have N1 : Hid (∀ w1, Rd w1 w.heap.size d 0 → Calls Tryz.prog 46 #[.pointer (some ⟨w.heap.size, 0, none⟩), .int .i64 1] w1 fun x w' => x = .returned (.int .u64 (sz1 d)) ∧ Rd w' w.heap.size ((⟨d, 0⟩ : RS).skip 1).s ((⟨d, 0⟩ : RS).skip 1).e ∧ Only w.heap.size w1 w') := (show ∀ w1, _ from fun w1 h => numR w.heap.size ⟨d, 0⟩ 1 w1 hs h)
    have N2 : Hid (∀ w1, Rd w1 w.heap.size ((⟨d, 0⟩ : RS).skip 1).s ((⟨d, 0⟩ : RS).skip 1).e → Calls Tryz.prog 46 #[.pointer (some ⟨w.heap.size, 0, none⟩), .int .i64 1] w1 fun x w' => x = .returned (.int .u64 (((⟨d, 0⟩ : RS).skip 1).num 1)) ∧ Rd w' w.heap.size (((⟨d, 0⟩ : RS).skip 1).skip 1).s (((⟨d, 0⟩ : RS).skip 1).skip 1).e ∧ Only w.heap.size w1 w') := (show ∀ w1, _ from fun w1 h => numR w.heap.size _ 1 w1 z1 h)
    have N3 : Hid (∀ w1, Rd w1 w.heap.size (((⟨d, 0⟩ : RS).skip 1).skip 1).s (((⟨d, 0⟩ : RS).skip 1).skip 1).e → Calls Tryz.prog 46 #[.pointer (some ⟨w.heap.size, 0, none⟩), .int .i64 2] w1 fun x w' => x = .returned (.int .u64 (sz2 d)) ∧ Only w.heap.size w1 w') := (show ∀ w1, _ from fun w1 h => (numR w.heap.size _ 2 w1 z2 h).mono fun _ _ ⟨p, _, q⟩ => ⟨p, q⟩)
    have HE : Hid (saidE d = if sz1 d ≠ 4 ∨ sz2 d < 8 then 11 else if (d.size : Int) < sz2 d then 10 else 0) := (show _ = _ by unfold saidE; rw [if_neg h8])
    have HZ : Hid (saidZ d = if saidE d = 0 then sz2 d else 0) := (show _ = _ from rfl)
    clear z1 z2
    generalize ((⟨d, 0⟩ : RS).skip 1).num 1 = X at *
    generalize ((⟨d, 0⟩ : RS).skip 1).skip 1 = R2 at *
    generalize (⟨d, 0⟩ : RS).skip 1 = R1 at *
    generalize saidE d = E at *
    generalize saidZ d = Z at *
    generalize sz1 d = A1 at *
    generalize sz2 d = A2 at *
    rcases (show (¬ A1 = 4) ∨ (A1 = 4 ∧ A2 < 8) ∨ (A1 = 4 ∧ ¬ A2 < 8 ∧ (d.size : Int) < A2) ∨ (A1 = 4 ∧ ¬ A2 < 8 ∧ ¬ (d.size : Int) < A2) by omega) with c | ⟨c, c2⟩ | ⟨c, c2, c3⟩ | ⟨c, c2, c3⟩
    · have e1 : E = 11 := by rw [HE.out, if_pos (.inl c)]
      have e2 : Z = 0 := by rw [HZ.out, e1]; rfl
      have c' : (A1 != 4) = true := by simpa using c
      rw [e1, e2]
      clear e1 e2 c HE HZ
      go_enter Tryz.func22, Tryz.ntmps22
      go_wp2_with fail
      refine (HR.out _).mono ?_
      rintro r w1 ⟨rfl, r1, g1⟩
      go_wp2_with fail
      refine (N1.out _ r1).mono ?_
      rintro r w2 ⟨rfl, r2, o2⟩
      go_wp2_with fail
      refine (N2.out _ r2).mono ?_
      rintro r w3 ⟨rfl, r3, o3⟩
      go_wp2_with fail
      refine (N3.out _ r3).mono ?_
      rintro r w4 ⟨rfl, o4⟩
      go_wp2_with fail
      go_ret2
      exact ⟨rfl, o4.below (Nat.le_refl _) (o3.below (Nat.le_refl _) (o2.below (Nat.le_refl _) g1))⟩
    · have e1 : E = 11 := by rw [HE.out, if_pos (.inr c2)]
      have e2 : Z = 0 := by rw [HZ.out, e1]; rfl
      have c' : (A1 != 4) = false := by simpa using c
      rw [e1, e2]
      clear e1 e2 c HE HZ
      go_enter Tryz.func22, Tryz.ntmps22
      go_wp2_with fail
      refine (HR.out _).mono ?_
      rintro r w1 ⟨rfl, r1, g1⟩
      go_wp2_with fail
      refine (N1.out _ r1).mono ?_
      rintro r w2 ⟨rfl, r2, o2⟩
      go_wp2_with fail
      refine (N2.out _ r2).mono ?_
      rintro r w3 ⟨rfl, r3, o3⟩
      go_wp2_with fail
      refine (N3.out _ r3).mono ?_
      rintro r w4 ⟨rfl, o4⟩
      go_wp2_with fail
      go_ret2
      exact ⟨rfl, o4.below (Nat.le_refl _) (o3.below (Nat.le_refl _) (o2.below (Nat.le_refl _) g1))⟩
    · have e1 : E = 10 := by rw [HE.out, if_neg (by omega), if_pos c3]
      have e2 : Z = 0 := by rw [HZ.out, e1]; rfl
      have c' : (A1 != 4) = false := by simpa using c
      rw [e1, e2]
      clear e1 e2 c HE HZ
      go_enter Tryz.func22, Tryz.ntmps22
      go_wp2_with fail
      refine (HR.out _).mono ?_
      rintro r w1 ⟨rfl, r1, g1⟩
      go_wp2_with fail
      refine (N1.out _ r1).mono ?_
      rintro r w2 ⟨rfl, r2, o2⟩
      go_wp2_with fail
      refine (N2.out _ r2).mono ?_
      rintro r w3 ⟨rfl, r3, o3⟩
      go_wp2_with fail
      refine (N3.out _ r3).mono ?_
      rintro r w4 ⟨rfl, o4⟩
      go_wp2_with fail
      go_ret2
      exact ⟨rfl, o4.below (Nat.le_refl _) (o3.below (Nat.le_refl _) (o2.below (Nat.le_refl _) g1))⟩
    · have e1 : E = 0 := by rw [HE.out, if_neg (by omega), if_neg c3]
      have e2 : Z = A2 := by rw [HZ.out, e1]; rfl
      have c' : (A1 != 4) = false := by simpa using c
      rw [e1, e2]
      clear e1 e2 c HE HZ
      go_enter Tryz.func22, Tryz.ntmps22
      go_wp2_with fail
      refine (HR.out _).mono ?_
      rintro r w1 ⟨rfl, r1, g1⟩
      go_wp2_with fail
      refine (N1.out _ r1).mono ?_
      rintro r w2 ⟨rfl, r2, o2⟩
      go_wp2_with fail
      refine (N2.out _ r2).mono ?_
      rintro r w3 ⟨rfl, r3, o3⟩
      go_wp2_with fail
      refine (N3.out _ r3).mono ?_
      rintro r w4 ⟨rfl, o4⟩
      go_wp2_with fail
      go_ret2
      exact ⟨rfl, o4.below (Nat.le_refl _) (o3.below (Nat.le_refl _) (o2.below (Nat.le_refl _) g1))⟩
/-- The answer's block of Decode. -/
theorem range_one (w : World) (c : Array Value) (t : TypeId) : (w.alloc (.cells c t)).there w.heap.size 0 c.size := there_new w c t
set_option maxRecDepth 20000 in
set_option maxHeartbeats 8000000 in
theorem dec_early (d : ByteArray) (w : World) (hs : d.size ≤ maxLen) (he : saidE d ≠ 0) : Calls Tryz.prog 13 #[.string d] w fun e w' => e = .returned (.tuple #[msV ms0, .int .i64 0, .int .i64 (saidE d)]) ∧ Below w.heap.size w w' := by
  obtain ⟨W1, hW1⟩ : ∃ W1, mx w ms0 = W1 := ⟨_, rfl⟩
  have hG : Below w.heap.size w W1 := by rw [← hW1]; go_grown
  have hT : W1.there w.heap.size 0 26 := hW1 ▸ there_new w (msC ms0) 33
  have z1 : w.heap.size < W1.heap.size := by rw [← hW1]; simp
  have HC : Hid (Calls Tryz.prog 22 #[.string d] W1 fun e w' => e = .returned (.tuple #[.int .i64 0, .int .i64 (saidE d)]) ∧ w'.there w.heap.size 0 26 ∧ Below w.heap.size w w') := (show Calls _ _ _ _ _ from by
    have e2 : saidZ d = 0 := by unfold saidZ; rw [if_neg he]
    have := said_any d W1 hs
    rw [e2] at this
    exact this.mono fun _ w' ⟨h1, h2⟩ => ⟨h1, there_block hT (h2.block _ z1), btr hG h2 (Nat.le_refl _)⟩)
  have hb : (saidE d != 0) = true := by simpa using he
  have HW1 : Hid (w.alloc (.cells #[.int .i64 ms0.kind, .int .i64 ms0.xid, .int .i64 ms0.cmd, .bool ms0.chk, .int .i64 ms0.en.tab, .int .i64 ms0.en.pri, .slice ms0.en.ta ms0.en.tl ms0.en.tc, .slice ms0.en.aa ms0.en.la.length ms0.en.ca, .slice ms0.en.aw ms0.en.lw.length ms0.en.cw, .bool ms0.en.clr, .int .u64 ms0.en.mt, .int .u64 ms0.en.mm, .int .i64 ms0.en.met, .int .i64 ms0.en.go, .int .i64 ms0.gid, .int .i64 ms0.gkd, .slice ms0.ga ms0.gb.length ms0.gc, .int .i64 ms0.mid, .int .i64 ms0.mra, .int .i64 ms0.mbu, .int .i64 ms0.typ, .int .i64 ms0.cod, .int .i64 ms0.prt, .bool ms0.live, .slice ms0.aa ms0.la.length ms0.ca, .string ms0.dat] 33) = W1) := hW1
  have HWz : Hid (w.alloc (.cells #[.int .i64 0, .int .i64 0, .int .i64 0, .bool false, .int .i64 0, .int .i64 0, .slice none 0 0, .slice none 0 0, .slice none 0 0, .bool false, .int .u64 0, .int .u64 0, .int .i64 0, .int .i64 0, .int .i64 0, .int .i64 0, .slice none 0 0, .int .i64 0, .int .i64 0, .int .i64 0, .int .i64 0, .int .i64 0, .int .i64 0, .bool false, .slice none 0 0, .string ⟨#[]⟩] 33) = W1) := hW1
  clear hs he hW1 hG hT z1
  generalize saidE d = E at *
  go_enter Tryz.func13, Tryz.ntmps13
  go_wp2_with fail
  rw [HWz.out]
  refine HC.out.mono ?_
  rintro r w1 ⟨rfl, t1, g1⟩
  go_wp2_with (refine store_M rfl (.tmp 2) (.tmp 16) rfl w.heap.size ms0 rfl rfl t1 ?_; intro V bV tV oV; have GV := oV.belowK (Nat.le_refl _) g1; clear oV tV)
  refine bodyPost_ret (resMee (b := w.heap.size) (m := ms0) rfl rfl bV) rfl ?_
  exact ⟨rfl, GV⟩
/-
  What awake and few answer, as contracts; a message that is handed in.
-/
open Go.ChangeShapes Go.WideShapes Go.ChangeAt Go.RowKit
set_option linter.unusedVariables false
set_option linter.unusedSimpArgs false

def ms1 : Ms := { ms0 with xid := 1 }
theorem ms1_w (w : World) : MW w ms1 := ⟨en0_w w, .inl rfl, rfl, by decide, by decide, ⟨by simp [ms0, ms1], .inl rfl⟩, by decide, .inl rfl, by decide, by decide⟩
theorem ms0_u : MU ms0 := ⟨⟨by decide, by decide, by decide, by decide⟩, by simp [ms0], by simp [ms0, en0], by simp [ms0, en0], by simp [ms0], by simp [ms0]⟩
theorem ms1_u : MU ms1 := ⟨⟨by decide, by decide, by decide, by decide⟩, by simp [ms0, ms1], by simp [ms0, ms1, en0], by simp [ms0, ms1, en0], by simp [ms0, ms1], by simp [ms0, ms1]⟩
theorem ex_enc : encM ms1.msg = ⟨#[4, 0, 0, 8, 0, 0, 0, 1]⟩ ∧ errM ms1.msg = 0 := by decide +kernel
theorem ex_dec : saidE ⟨#[3, 0, 0, 8, 0, 0, 0, 1]⟩ = 11 := by decide +kernel
set_option maxRecDepth 20000 in
set_option maxHeartbeats 8000000 in
theorem awake_any (w : World) (hd : Ct w) : Calls Tryz.prog 9 #[] w fun e w' => e = .returned (.bool true) ∧ Below w.heap.size w w' := by
  have H1 : Hid (Calls Tryz.prog 10 #[.agg #[.int .i64 0, .int .i64 1, .int .i64 0, .bool false, .int .i64 0, .int .i64 0, .slice none 0 0, .slice none 0 0, .slice none 0 0, .bool false, .int .u64 0, .int .u64 0, .int .i64 0, .int .i64 0, .int .i64 0, .int .i64 0, .slice none 0 0, .int .i64 0, .int .i64 0, .int .i64 0, .int .i64 0, .int .i64 0, .int .i64 0, .bool false, .slice none 0 0, .string ⟨#[]⟩]] w fun e w' => e = .returned (.tuple #[.string ⟨#[4, 0, 0, 8, 0, 0, 0, 1]⟩, .int .i64 0]) ∧ Below w.heap.size w w') := (show Calls _ _ _ _ _ from by
    have := encode_M ms1 w (ms1_w w) ms1_u hd
    rwa [ex_enc.1, ex_enc.2] at this)
  have H2 : Hid (∀ w, Calls Tryz.prog 13 #[.string ⟨#[3, 0, 0, 8, 0, 0, 0, 1]⟩] w fun e w' => e = .returned (.tuple #[msV ms0, .int .i64 0, .int .i64 11]) ∧ Below w.heap.size w w') := (show ∀ w, _ from fun w => by
    have := dec_early ⟨#[3, 0, 0, 8, 0, 0, 0, 1]⟩ w (by decide) (by rw [ex_dec]; decide)
    rwa [ex_dec] at this)
  clear hd
  go_enter Tryz.func9, Tryz.ntmps9
  go_wp2_with fail
  refine H1.out.mono ?_
  rintro r w1 ⟨rfl, g1⟩
  go_wp2_with fail
  refine (H2.out _).mono ?_
  rintro r w2 ⟨rfl, g2⟩
  have G2 := btr g1 g2 (Nat.le_refl _)
  have HG : Hid (∀ o : Obj, Below w.heap.size w (w2.alloc o)) := (show ∀ o : Obj, _ from fun o => btr G2 (by go_grown) (Nat.le_refl _))
  have HZ : Hid (w.heap.size ≤ w2.heap.size) := G2.size
  clear g1 g2 G2
  go_wp2_with (refine store_M rfl (.tmp 3) (.tmp 13) rfl w2.heap.size ms0 rfl rfl (there_new _ _ _) ?_; intro V bV tV oV; have GV := oV.belowK HZ.out (HG.out _); clear oV tV)
  go_ret
  exact ⟨rfl, GV⟩
/-- A message that is handed in. -/
structure MI (w : World) (m : Ms) : Prop where
  ea : Ts w m.en.aa m.en.la
  ew : Ts w m.en.aw m.en.lw
  t : Mt.Ts w m.en.ta m.ts
  tl : m.en.tl = m.ts.length
  tc : m.ts.length ≤ m.en.tc
  gc : m.gb = [] ∨ ∃ g o, m.ga = some ⟨g, o, none⟩ ∧ g < w.heap.size ∧ ∀ i (h : i < m.gb.length), Cb w g (o + i * 3) m.gb[i]
  ga : ∀ b ∈ m.gb, Ts w b.a b.l
  a : Ts w m.aa m.la
  u : MU m
def fewG (l : List Bk) : Bool := l.all fun b => decide (b.l.length ≤ 40)
def fewM (m : Ms) : Bool := decide (m.en.tl ≤ 20) && decide (m.en.la.length ≤ 40) && decide (m.en.lw.length ≤ 40) && decide (m.la.length ≤ 40) && decide (m.gb.length ≤ 20) && decide (m.dat.size ≤ 2000) && fewG m.gb
theorem few_mw {w : World} {m : Ms} (h : MI w m) (hf : fewM m = true) : MW w m := by
  unfold fewM fewG at hf
  simp only [Bool.and_eq_true, decide_eq_true_eq, List.all_eq_true] at hf
  obtain ⟨⟨⟨⟨⟨⟨h1, h2⟩, h3⟩, h4⟩, h5⟩, h6⟩, h7⟩ := hf
  have htl := h.tl
  refine ⟨⟨h.ea, h.ew, by omega, by omega⟩, h.t, h.tl, by omega, h.tc, ⟨fun b hb => ⟨h.ga b hb, by have := h7 b hb; omega⟩, h.gc⟩, by omega, h.a, by omega, by omega⟩
theorem fewG_snoc (l : List Bk) (k : Nat) (h : k < l.length) : fewG (l.take (k + 1)) = (fewG (l.take k) && decide (l[k].l.length ≤ 40)) := by
  unfold fewG
  rw [List.take_succ_eq_append_getElem h, List.all_append]; simp
set_option maxRecDepth 20000 in
set_option maxHeartbeats 8000000 in
theorem few_any (m : Ms) (w : World) (h : MI w m) : Calls Tryz.prog 8 #[msV m] w fun e w' => e = .returned (.bool (fewM m)) ∧ Below w.heap.size w w' := by
  obtain ⟨R, hR⟩ : ∃ R, fewM m = R := ⟨_, rfl⟩
  rw [hR]
  have HR : Hid (fewM m = R) := hR
  have HC : Hid (m.gb = [] ∨ ∃ g o, m.ga = some ⟨g, o, none⟩ ∧ ∀ (W : World) i (h : i < m.gb.length), Below w.heap.size w W → Cb W g (o + i * 3) m.gb[i]) := (show _ ∨ _ from by
    rcases h.gc with hg | ⟨g, o, hg, hl, hc⟩
    · exact .inl hg
    · exact .inr ⟨g, o, hg, fun W i hi gW => (hc i hi).below hl gW⟩)
  obtain ⟨W1, hW1⟩ : ∃ W1, mx w m = W1 := ⟨_, rfl⟩
  have HG : Hid (Below w.heap.size w W1) := (show Below _ _ _ by rw [← hW1]; go_grown)
  have h16 : W1.cell? ⟨w.heap.size, 16, none⟩ = some (.slice m.ga m.gb.length m.gc) := hW1 ▸ (Bm.new w m) 16 _ rfl
  have HW0 : Hid (mx w m = W1) := hW1
  clear hR h hW1
  go_enter Tryz.func8, Tryz.ntmps8
  go_wp2_with fail
  all_goals try (go_ret; refine ⟨ret_bool ?_, by go_grown⟩; rw [← HR.out]; unfold fewM; simp; omega; done)
  rename_i hh _ _
  obtain ⟨⟨⟨⟨⟨q1, q2⟩, q3⟩, q4⟩, q5⟩, q6⟩ := hh
  have HQ : Hid (fewM m = fewG m.gb) := (show _ = _ by
    have e1 : decide (m.en.tl ≤ 20) = true := by simp; omega
    have e2 : decide (m.en.la.length ≤ 40) = true := by simp; omega
    have e3 : decide (m.en.lw.length ≤ 40) = true := by simp; omega
    have e4 : decide (m.la.length ≤ 40) = true := by simp; omega
    have e5 : decide (m.gb.length ≤ 20) = true := by simp; omega
    have e6 : decide (m.dat.size ≤ 2000) = true := by simp; omega
    unfold fewM
    rw [e1, e2, e3, e4, e5, e6]
    rfl)
  have HS : Hid (∀ k (h : k < m.gb.length), fewG (m.gb.take (k + 1)) = (fewG (m.gb.take k) && decide (m.gb[k].l.length ≤ 40))) := (show ∀ k (h : k < m.gb.length), _ from fun k h => fewG_snoc m.gb k h)
  have HN : Hid (∀ k (h : k < m.gb.length), decide (m.gb[k].l.length ≤ 40) = false → fewG m.gb = false) := (show ∀ k (h : k < m.gb.length), _ from fun k h hf => by
    unfold fewG
    rw [List.all_eq_false]
    exact ⟨m.gb[k], List.getElem_mem h, by simpa using hf⟩)
  have HW1 : Hid (w.alloc (.cells #[.int .i64 m.kind, .int .i64 m.xid, .int .i64 m.cmd, .bool m.chk, .int .i64 m.en.tab, .int .i64 m.en.pri, .slice m.en.ta m.en.tl m.en.tc, .slice m.en.aa m.en.la.length m.en.ca, .slice m.en.aw m.en.lw.length m.en.cw, .bool m.en.clr, .int .u64 m.en.mt, .int .u64 m.en.mm, .int .i64 m.en.met, .int .i64 m.en.go, .int .i64 m.gid, .int .i64 m.gkd, .slice m.ga m.gb.length m.gc, .int .i64 m.mid, .int .i64 m.mra, .int .i64 m.mbu, .int .i64 m.typ, .int .i64 m.cod, .int .i64 m.prt, .bool m.live, .slice m.aa m.la.length m.ca, .string m.dat] 33) = W1) := HW0.out
  rw [HW1.out]
  go_loop [3] (fun i => ∃ k : Nat, k ≤ m.gb.length ∧ i = .int .i64 k ∧ fewG (m.gb.take k) = true) (fun i => m.gb.length - (intOf i).toNat)
  case atStart => exact ⟨0, Nat.zero_le _, rfl, by simp [fewG]⟩
  case round =>
    obtain ⟨k, hk, rfl, ha⟩ := hrel
    by_cases hlt : k < m.gb.length
    · have HA : Hid (fewG (m.gb.take k) = true) := ha
      obtain ⟨g, o, hga, hc⟩ : ∃ g o, m.ga = some ⟨g, o, none⟩ ∧ Cb W1 g (o + k * 3) m.gb[k] := by
        rcases HC.out with hg | ⟨g, o, hg, hc⟩
        · rw [hg] at hlt; cases hlt
        · exact ⟨g, o, hg, hc _ k hlt HG.out⟩
      have hs := HS.out k hlt
      rw [HA.out, Bool.true_and] at hs
      have HSk : Hid (fewG (m.gb.take (k + 1)) = decide (m.gb[k].l.length ≤ 40)) := hs
      have HNk : Hid (decide (m.gb[k].l.length ≤ 40) = false → fewG m.gb = false) := HN.out k hlt
      obtain ⟨_, _, c2⟩ := hc
      rw [hga] at h16
      clear hga
      clear ha hs
      generalize m.gb[k] = X at *
      by_cases h40 : X.l.length ≤ 40
      · have h40' : ¬ ((X.l.length : Int) > 40) := by omega
        go_wp2_with fail
        go_round
        case rel => exact ⟨k + 1, by omega, by go_num, by rw [HSk.out]; simpa using h40⟩
        case measure => simp [intOf]; omega
      · have h40' : (X.l.length : Int) > 40 := by omega
        go_wp2_with fail
        go_ret
        refine ⟨ret_bool ?_, HG.out⟩
        rw [← HR.out, HQ.out, HNk.out (by simpa using h40)]
    · have hk' : k = m.gb.length := by omega
      subst hk'
      rw [List.take_length] at ha
      go_wp2_with fail
      go_ret
      refine ⟨ret_bool ?_, HG.out⟩
      rw [← HR.out, HQ.out, ha]
/-
  What the rows hand to the walks: the tables, a slice of actions, an action.
-/
open Go.ChangeShapes Go.WideShapes Go.ChangeAt Go.RowKit
theorem own : ownKnob Tryz.prog.godebug = none := by kernel_rfl
theorem laidOut : laidOutB Tryz.prog = true := by kernel_rfl
theorem gKinds : Tryz.prog.globalNamed ((Rows.wireHeadRow.named.drop 1).headD "") = some 1 := by kernel_rfl
theorem gCodes : Tryz.prog.globalNamed (Rows.wireHeadRow.named.headD "") = some 4 := by kernel_rfl
theorem gOrder : Tryz.prog.globalNamed ((Rows.wireHeadRow.named.drop 3).headD "") = some 0 := by kernel_rfl
theorem gMcodes : Tryz.prog.globalNamed ((Rows.wireHeadRow.named.drop 2).headD "") = some 2 := by kernel_rfl
theorem tMcodes : (Tryz.prog.globals[2]?).map (·.type) = some 181 := by kernel_rfl
theorem cellsMcode : Tryz.prog.cellsOf 180 = 3 := by kernel_rfl
theorem cellsMcodes : Tryz.prog.cellsOf 181 = 33 := by kernel_rfl
theorem tKinds : (Tryz.prog.globals[1]?).map (·.type) = some 175 := by kernel_rfl
theorem tCodes : (Tryz.prog.globals[4]?).map (·.type) = some 186 := by kernel_rfl
theorem tOrder : (Tryz.prog.globals[0]?).map (·.type) = some 150 := by kernel_rfl
theorem cellsOrder : Tryz.prog.cellsOf 150 = 6 := by kernel_rfl
theorem cellsKind : Tryz.prog.cellsOf 174 = 3 := by kernel_rfl
theorem cellsKinds : Tryz.prog.cellsOf 175 = 15 := by kernel_rfl
theorem cellsCode : Tryz.prog.cellsOf 185 = 2 := by kernel_rfl
theorem cellsCodes : Tryz.prog.cellsOf 186 = 10 := by kernel_rfl
theorem cellsInt : Tryz.prog.cellsOf 3 = 1 := by kernel_rfl
theorem cellsAct : Tryz.prog.cellsOf 106 = 3 := by kernel_rfl
theorem cellsU : Tryz.prog.cellsOf 24 = 1 := by kernel_rfl
/-- The rows' condition. -/
abbrev laidL : List (String × DataW Unit) := Rows.wireHeadRow.laid
set_option maxRecDepth 100000 in
theorem kind_cells {W : World} {cs : List Value} {p : List MemPlace} {m : Nat} {a b c : Int} (h : DataW.trod (fun _ => ()) Tryz.prog W 0 (fun _ => true) false m 174 cs = some (.agg [.lit (.int .i64 a), .lit (.int .i64 b), .lit (.int .i64 c)], p)) :
    cs = [.int .i64 a, .int .i64 b, .int .i64 c] := by
  obtain ⟨xs, k, _, hxy, hcl, hxl, hf⟩ := DataW.trod_struct Tryz.underlying174 h
  rw [cellsKind] at hcl
  match xs, hxl, cs, hcl with
  | [y0, y1, y2], _, [v0, v1, v2], _ =>
    have g0 := hf 0 _ rfl
    have g1 := hf 1 _ rfl
    have g2 := hf 2 _ rfl
    simp [cellsInt] at g0 g1 g2
    obtain ⟨n0, e0, d0, _⟩ := DataW.trod_int Tryz.underlying3 g0
    obtain ⟨n1, e1, d1, _⟩ := DataW.trod_int Tryz.underlying3 g1
    obtain ⟨n2, e2, d2, _⟩ := DataW.trod_int Tryz.underlying3 g2
    subst d0 d1 d2
    simp at e0 e1 e2 hxy
    obtain ⟨⟨rfl, rfl, rfl⟩, _⟩ := hxy
    rw [e0, e1, e2]
set_option maxRecDepth 100000 in
theorem mcode_cells {W : World} {cs : List Value} {p : List MemPlace} {m : Nat} {a b c : Int} (h : DataW.trod (fun _ => ()) Tryz.prog W 0 (fun _ => true) false m 180 cs = some (.agg [.lit (.int .i64 a), .lit (.int .i64 b), .lit (.int .i64 c)], p)) :
    cs = [.int .i64 a, .int .i64 b, .int .i64 c] := by
  obtain ⟨xs, k, _, hxy, hcl, hxl, hf⟩ := DataW.trod_struct Tryz.underlying180 h
  rw [cellsMcode] at hcl
  match xs, hxl, cs, hcl with
  | [y0, y1, y2], _, [v0, v1, v2], _ =>
    have g0 := hf 0 _ rfl
    have g1 := hf 1 _ rfl
    have g2 := hf 2 _ rfl
    simp [cellsInt] at g0 g1 g2
    obtain ⟨n0, e0, d0, _⟩ := DataW.trod_int Tryz.underlying3 g0
    obtain ⟨n1, e1, d1, _⟩ := DataW.trod_int Tryz.underlying3 g1
    obtain ⟨n2, e2, d2, _⟩ := DataW.trod_int Tryz.underlying3 g2
    subst d0 d1 d2
    simp at e0 e1 e2 hxy
    obtain ⟨⟨rfl, rfl, rfl⟩, _⟩ := hxy
    rw [e0, e1, e2]
set_option maxRecDepth 100000 in
theorem code_cells {W : World} {cs : List Value} {p : List MemPlace} {m : Nat} {a b : Int} (h : DataW.trod (fun _ => ()) Tryz.prog W 0 (fun _ => true) false m 185 cs = some (.agg [.lit (.int .i64 a), .lit (.int .i64 b)], p)) :
    cs = [.int .i64 a, .int .i64 b] := by
  obtain ⟨xs, k, _, hxy, hcl, hxl, hf⟩ := DataW.trod_struct Tryz.underlying185 h
  rw [cellsCode] at hcl
  match xs, hxl, cs, hcl with
  | [y0, y1], _, [v0, v1], _ =>
    have g0 := hf 0 _ rfl
    have g1 := hf 1 _ rfl
    simp [cellsInt] at g0 g1
    obtain ⟨n0, e0, d0, _⟩ := DataW.trod_int Tryz.underlying3 g0
    obtain ⟨n1, e1, d1, _⟩ := DataW.trod_int Tryz.underlying3 g1
    subst d0 d1
    simp at e0 e1 hxy
    obtain ⟨⟨rfl, rfl⟩, _⟩ := hxy
    rw [e0, e1]
theorem ct_of_laid {W : World} (h : laidMetH Tryz.prog laidL W) : Ct W := by
  rw [MakeChecks.laidMetH_plain _ _ _ (by kernel_rfl)] at h
  obtain ⟨ps, ⟨g0, t0, cs0, f0, p0, q0, hg0, ht0, hv0, hd0, ⟨g1, t1, cs1, f1, p1, q1, hg1, ht1, hv1, hd1, ⟨g2, t2, cs2, f2, p2, q2, hg2, ht2, hv2, hd2, ⟨g3, t3, cs3, f3, p3, q3, hg3, ht3, hv3, hd3, _, _⟩, _⟩, _⟩, _⟩, _, _⟩ := h
  obtain rfl := Option.some.inj (gKinds.symm.trans hg0)
  obtain rfl := Option.some.inj (tKinds.symm.trans ht0)
  obtain rfl := Option.some.inj (gCodes.symm.trans hg1)
  obtain rfl := Option.some.inj (tCodes.symm.trans ht1)
  obtain rfl := Option.some.inj (gOrder.symm.trans hg2)
  obtain rfl := Option.some.inj (tOrder.symm.trans ht2)
  obtain rfl := Option.some.inj (gMcodes.symm.trans hg3)
  obtain rfl := Option.some.inj (tMcodes.symm.trans ht3)
  refine ⟨⟨?_, ?_, ?_⟩, ?_⟩
  · clear hd1 hv1 hg1 ht1 hd2 hv2 hg2 ht2 hd3 hv3 hg3 ht3
    obtain ⟨xs, m1, rfl, hx1, hlen, hn, hel⟩ := DataW.trod_array Tryz.underlying175 hd0
    rw [cellsKinds] at hlen
    rw [cellsKind] at hel
    have hx := (Prod.mk.inj hx1).1
    unfold Rows.laid_drover_act_kinds at hx
    simp only [DataW.agg.injEq] at hx
    have at_ : ∀ (i : Nat) (d : DataW Unit), i < 5 → (xs.map (fun x => x.fst))[i]? = some d → ∃ p, DataW.trod (fun _ => ()) Tryz.prog W 0 (fun _ => true) false m1 174 (List.take 3 (List.drop (i * 3) cs0.toList)) = some (d, p) := by
      intro i d hi hd
      rw [List.getElem?_map, Option.map_eq_some_iff] at hd
      obtain ⟨y, hy, rfl⟩ := hd
      exact ⟨y.2, (hel i hi).trans hy⟩
    rw [← hx] at at_
    have key : cs0.toList = kindsA.toList := by
      generalize cs0.toList = L at *
      have step : ∀ i, L.drop (i * 3) = (L.drop (i * 3)).take 3 ++ L.drop ((i + 1) * 3) := fun i => by
        have := (List.take_append_drop 3 (L.drop (i * 3))).symm
        rwa [List.drop_drop, show i * 3 + 3 = (i + 1) * 3 by omega] at this
      have s0 := step 0
      rw [kind_cells (at_ 0 _ (by decide) rfl).choose_spec] at s0
      have s1 := step 1
      rw [kind_cells (at_ 1 _ (by decide) rfl).choose_spec] at s1
      have s2 := step 2
      rw [kind_cells (at_ 2 _ (by decide) rfl).choose_spec] at s2
      have s3 := step 3
      rw [kind_cells (at_ 3 _ (by decide) rfl).choose_spec] at s3
      have s4 := step 4
      rw [kind_cells (at_ 4 _ (by decide) rfl).choose_spec] at s4
      have s5 : L.drop (5 * 3) = [] := List.drop_of_length_le (by omega)
      have z : L = L.drop (0 * 3) := rfl
      rw [z, s0, s1, s2, s3, s4, s5]
      rfl
    have e : cs0 = kindsA := Array.toList_inj.1 key
    subst e
    simp only [World.var?, hg0, Option.bind_some] at hv0
    split at hv0
    · rename_i c t fr hb
      cases hv0
      exact ⟨t, fr, hb⟩
    · cases hv0
  · clear hd0 hv0 hg0 ht0 hd2 hv2 hg2 ht2 hd3 hv3 hg3 ht3
    obtain ⟨xs, m1, rfl, hx1, hlen, hn, hel⟩ := DataW.trod_array Tryz.underlying186 hd1
    rw [cellsCodes] at hlen
    rw [cellsCode] at hel
    have hx := (Prod.mk.inj hx1).1
    unfold Rows.laid_drover_act_codes at hx
    simp only [DataW.agg.injEq] at hx
    have at_ : ∀ (i : Nat) (d : DataW Unit), i < 5 → (xs.map (fun x => x.fst))[i]? = some d → ∃ p, DataW.trod (fun _ => ()) Tryz.prog W 0 (fun _ => true) false m1 185 (List.take 2 (List.drop (i * 2) cs1.toList)) = some (d, p) := by
      intro i d hi hd
      rw [List.getElem?_map, Option.map_eq_some_iff] at hd
      obtain ⟨y, hy, rfl⟩ := hd
      exact ⟨y.2, (hel i hi).trans hy⟩
    rw [← hx] at at_
    have key : cs1.toList = codesA.toList := by
      generalize cs1.toList = L at *
      have step : ∀ i, L.drop (i * 2) = (L.drop (i * 2)).take 2 ++ L.drop ((i + 1) * 2) := fun i => by
        have := (List.take_append_drop 2 (L.drop (i * 2))).symm
        rwa [List.drop_drop, show i * 2 + 2 = (i + 1) * 2 by omega] at this
      have s0 := step 0
      rw [code_cells (at_ 0 _ (by decide) rfl).choose_spec] at s0
      have s1 := step 1
      rw [code_cells (at_ 1 _ (by decide) rfl).choose_spec] at s1
      have s2 := step 2
      rw [code_cells (at_ 2 _ (by decide) rfl).choose_spec] at s2
      have s3 := step 3
      rw [code_cells (at_ 3 _ (by decide) rfl).choose_spec] at s3
      have s4 := step 4
      rw [code_cells (at_ 4 _ (by decide) rfl).choose_spec] at s4
      have s5 : L.drop (5 * 2) = [] := List.drop_of_length_le (by omega)
      have z : L = L.drop (0 * 2) := rfl
      rw [z, s0, s1, s2, s3, s4, s5]
      rfl
    have e : cs1 = codesA := Array.toList_inj.1 key
    subst e
    simp only [World.var?, hg1, Option.bind_some] at hv1
    split at hv1
    · rename_i c t fr hb
      cases hv1
      exact ⟨t, fr, hb⟩
    · cases hv1
  · clear hd0 hv0 hg0 ht0 hd1 hv1 hg1 ht1 hd3 hv3 hg3 ht3
    obtain ⟨xs, m1, rfl, hx1, hlen, hn, hel⟩ := DataW.trod_array Tryz.underlying150 hd2
    rw [cellsOrder] at hlen
    rw [cellsInt] at hel
    have hx := (Prod.mk.inj hx1).1
    unfold Rows.laid_drover_instr_order at hx
    simp only [DataW.agg.injEq] at hx
    have at_ : ∀ (i : Nat) (n : Int), i < 6 → (xs.map (fun x => x.fst))[i]? = some (.lit (.int .i64 n)) → List.take 1 (List.drop (i * 1) cs2.toList) = [.int .i64 n] := by
      intro i n hi hd
      rw [List.getElem?_map, Option.map_eq_some_iff] at hd
      obtain ⟨y, hy, hyn⟩ := hd
      obtain ⟨n0, e0, d0, _⟩ := DataW.trod_int Tryz.underlying3 ((hel i hi).trans hy)
      rw [d0] at hyn
      simp at hyn
      rw [e0, hyn]
    rw [← hx] at at_
    have key : cs2.toList = orderA.toList := by
      generalize cs2.toList = L at *
      have step : ∀ i, L.drop (i * 1) = (L.drop (i * 1)).take 1 ++ L.drop ((i + 1) * 1) := fun i => by
        have := (List.take_append_drop 1 (L.drop (i * 1))).symm
        rwa [List.drop_drop, show i * 1 + 1 = (i + 1) * 1 by omega] at this
      have s0 := step 0
      rw [at_ 0 _ (by decide) rfl] at s0
      have s1 := step 1
      rw [at_ 1 _ (by decide) rfl] at s1
      have s2 := step 2
      rw [at_ 2 _ (by decide) rfl] at s2
      have s3 := step 3
      rw [at_ 3 _ (by decide) rfl] at s3
      have s4 := step 4
      rw [at_ 4 _ (by decide) rfl] at s4
      have s5 := step 5
      rw [at_ 5 _ (by decide) rfl] at s5
      have s6 : L.drop (6 * 1) = [] := List.drop_of_length_le (by omega)
      have z : L = L.drop (0 * 1) := rfl
      rw [z, s0, s1, s2, s3, s4, s5, s6]
      rfl
    have e : cs2 = orderA := Array.toList_inj.1 key
    subst e
    simp only [World.var?, hg2, Option.bind_some] at hv2
    split at hv2
    · rename_i c t fr hb
      cases hv2
      exact ⟨t, fr, hb⟩
    · cases hv2
  · clear hd0 hv0 hg0 ht0 hd1 hv1 hg1 ht1 hd2 hv2 hg2 ht2
    obtain ⟨xs, m1, rfl, hx1, hlen, hn, hel⟩ := DataW.trod_array Tryz.underlying181 hd3
    rw [cellsMcodes] at hlen
    rw [cellsMcode] at hel
    have hx := (Prod.mk.inj hx1).1
    unfold Rows.laid_drover_match_codes at hx
    simp only [DataW.agg.injEq] at hx
    have at_ : ∀ (i : Nat) (d : DataW Unit), i < 11 → (xs.map (fun x => x.fst))[i]? = some d → ∃ p, DataW.trod (fun _ => ()) Tryz.prog W 0 (fun _ => true) false m1 180 (List.take 3 (List.drop (i * 3) cs3.toList)) = some (d, p) := by
      intro i d hi hd
      rw [List.getElem?_map, Option.map_eq_some_iff] at hd
      obtain ⟨y, hy, rfl⟩ := hd
      exact ⟨y.2, (hel i hi).trans hy⟩
    rw [← hx] at at_
    have key : cs3.toList = Mt.codesA.toList := by
      generalize cs3.toList = L at *
      have step : ∀ i, L.drop (i * 3) = (L.drop (i * 3)).take 3 ++ L.drop ((i + 1) * 3) := fun i => by
        have := (List.take_append_drop 3 (L.drop (i * 3))).symm
        rwa [List.drop_drop, show i * 3 + 3 = (i + 1) * 3 by omega] at this
      have s0 := step 0
      rw [mcode_cells (at_ 0 _ (by decide) rfl).choose_spec] at s0
      have s1 := step 1
      rw [mcode_cells (at_ 1 _ (by decide) rfl).choose_spec] at s1
      have s2 := step 2
      rw [mcode_cells (at_ 2 _ (by decide) rfl).choose_spec] at s2
      have s3 := step 3
      rw [mcode_cells (at_ 3 _ (by decide) rfl).choose_spec] at s3
      have s4 := step 4
      rw [mcode_cells (at_ 4 _ (by decide) rfl).choose_spec] at s4
      have s5 := step 5
      rw [mcode_cells (at_ 5 _ (by decide) rfl).choose_spec] at s5
      have s6 := step 6
      rw [mcode_cells (at_ 6 _ (by decide) rfl).choose_spec] at s6
      have s7 := step 7
      rw [mcode_cells (at_ 7 _ (by decide) rfl).choose_spec] at s7
      have s8 := step 8
      rw [mcode_cells (at_ 8 _ (by decide) rfl).choose_spec] at s8
      have s9 := step 9
      rw [mcode_cells (at_ 9 _ (by decide) rfl).choose_spec] at s9
      have s10 := step 10
      rw [mcode_cells (at_ 10 _ (by decide) rfl).choose_spec] at s10
      have s11 : L.drop (11 * 3) = [] := List.drop_of_length_le (by omega)
      have z : L = L.drop (0 * 3) := rfl
      rw [z, s0, s1, s2, s3, s4, s5, s6, s7, s8, s9, s10, s11]
      rfl
    have e : cs3 = Mt.codesA := Array.toList_inj.1 key
    subst e
    simp only [World.var?, hg3, Option.bind_some] at hv3
    split at hv3
    · rename_i c t fr hb
      cases hv3
      exact ⟨t, fr, hb⟩
    · cases hv3
/-- The door's own heap meets the condition. -/
theorem door_met (os : Os) (args : Array Value) : laidMetH Tryz.prog laidL ((World.doorLaid Tryz.prog 400 os).forCall (fun _ _ => 0) ⟨#[], args, []⟩).memory :=
  laidMetH_of_parts3 (fuel := 8) (laidMet_of_run' 8 (by kernel_rfl) (by kernel_rfl)) (by kernel_rfl) (by kernel_rfl)

theorem plain (g o j : Nat) : (⟨g, o, none⟩ : Addr).add j = ⟨g, o + j, none⟩ := by unfold Addr.add; split <;> simp_all
theorem wf_u64 {n : Int} (h : (Lit.int .u64 n).wf = true) : 0 ≤ n ∧ n < 18446744073709551616 := by
  simp [Lit.wf, IntKind.min, IntKind.max, IntKind.signed, IntKind.bits] at h; omega
theorem wf_i64 {n : Int} (h : (Lit.int .i64 n).wf = true) : -9223372036854775808 ≤ n ∧ n < 9223372036854775808 := by
  simp [Lit.wf, IntKind.min, IntKind.max, IntKind.signed, IntKind.bits] at h; omega
set_option maxRecDepth 100000 in
/-- The actions of a slice that is read. -/
theorem acts_of {H : Type} {enc : TypeId × Value → H} {W : World} {a : Option Addr} {len cap fuel : Nat} {x : DataW H × List MemPlace} (hlt : ∀ p ∈ x.2, p.block < W.heap.size)
    (h : DataW.trod enc Tryz.prog W 0 (fun _ => true) true fuel 23 [.slice a len cap] = some x) : ∃ l : List A, l.length = len ∧ Ts W a l ∧ AWs l ∧ len ≤ cap := by
  rcases Deep.open_slice Tryz.underlying23 h with ⟨hcs, _⟩ | ⟨ad, ln, cp, m, n, D, Pl, hcs, hb, hl, hm, hmm, hx, hel⟩
  · simp at hcs
    exact ⟨[], hcs.2.1.symm, .inl rfl, by simp, by omega⟩
  · simp at hcs
    obtain ⟨rfl, rfl, rfl⟩ := hcs
    have hm' : m = cap := by simpa using hmm
    subst hm'
    have one : ∀ i, i < len → ∃ t : A, W.cell? (ad.add (i * 3)) = some (.int .i64 t.1) ∧ W.cell? (ad.add (i * 3 + 1)) = some (.int .i64 t.2.1) ∧ W.cell? (ad.add (i * 3 + 2)) = some (.int .u64 t.2.2) ∧ AW t := by
      intro i hi
      obtain ⟨cs', h1, h2⟩ := hel i (by omega)
      rw [cellsAct] at h1
      obtain ⟨_, hlen, hcell⟩ := World.cells?_some h1
      obtain ⟨xs, k, hk, hxy, _, hxl, hf⟩ := DataW.trod_struct Tryz.underlying106 h2
      match xs, hxl, cs', hlen with
      | [y0, y1, y2], _, [v0, v1, v2], _ =>
        have g0 := hf 0 _ rfl
        have g1 := hf 1 _ rfl
        have g2 := hf 2 _ rfl
        simp [cellsInt, cellsU] at g0 g1 g2
        obtain ⟨n0, e0, d0, r0⟩ := DataW.trod_int Tryz.underlying3 g0
        obtain ⟨n1, e1, d1, r1⟩ := DataW.trod_int Tryz.underlying3 g1
        obtain ⟨n2, e2, d2, r2⟩ := DataW.trod_int Tryz.underlying24 g2
        simp at e0 e1 e2
        have c0 := hcell 0 (by omega)
        have c1 := hcell 1 (by omega)
        have c2 := hcell 2 (by omega)
        rw [Deep.add_add] at c0 c1 c2
        refine ⟨(n0, n1, n2), by simpa [e0] using c0, by simpa [e1] using c1, by simpa [e2] using c2, ?_⟩
        obtain ⟨a0, a1⟩ := wf_i64 r1
        obtain ⟨b0, b1⟩ := wf_u64 r2
        exact ⟨a0, a1, b0, b1⟩
    obtain ⟨f, hf⟩ := Deep.choose_lt one
    by_cases h0 : len = 0
    · subst h0
      exact ⟨[], rfl, .inl rfl, by simp, hl⟩
    · obtain ⟨g, o, spot⟩ := ad
      have hsp : spot = none := by simpa [Addr.add] using World.cell?_spot (hf 0 (by omega)).1
      subst hsp
      have hg : g < W.heap.size := hlt (.cell g (o + 0)) (by rw [hx, cellsAct]; exact List.mem_append_left _ (by simp [MemPlace.row]; omega))
      refine ⟨(List.range len).map f, by simp, .inr ⟨g, o, rfl, hg, fun i hi => ?_⟩, ?_, hl⟩
      · have hi' : i < len := by simpa using hi
        obtain ⟨x0, x1, x2, _⟩ := hf i hi'
        rw [plain] at x0 x1 x2
        simp only [List.getElem_map, List.getElem_range]
        exact ⟨x0, by rw [← Nat.add_assoc] at x1; exact x1, by rw [← Nat.add_assoc] at x2; exact x2⟩
      · intro t ht
        rw [List.mem_map] at ht
        obtain ⟨i, hi, rfl⟩ := ht
        exact (hf i (List.mem_range.1 hi)).2.2.2
theorem array3 {α : Type} {cs : Array α} (h : cs.size = 3) : ∃ c0 c1 c2, cs = #[c0, c1, c2] := by
  obtain ⟨l⟩ := cs
  match l, h with
  | [c0, c1, c2], _ => exact ⟨c0, c1, c2, rfl⟩
set_option maxRecDepth 100000 in
/-- An action that is handed in. -/
theorem open_act {H : Type} {enc : TypeId × Value → H} {W : World} {r : Reach} {b0 base : Nat} {sp : Nat → Bool} {held : Bool} {v : Value} {d : DataW H} {ps : List MemPlace} (hv : Value.okWide Tryz.prog W r b0 106 v) (h : DataW.Trod enc Tryz.prog W base sp held 106 v d ps) :
    ∃ a : A, v = tV a ∧ AW a := by
  obtain ⟨cs, rfl, hsz⟩ := okWide_struct Tryz.underlying106 hv
  obtain ⟨c0, c1, c2, rfl⟩ := array3 (hsz.trans (by kernel_rfl))
  obtain ⟨fuel, hf⟩ := h
  obtain ⟨xs, m, _, _, _, hlen, hfs⟩ := DataW.trod_struct Tryz.underlying106 hf
  match xs, hlen with
  | [y0, y1, y2], _ =>
    have t0 : DataW.trod enc Tryz.prog W base sp held m 3 [c0] = some y0 := by simpa [Value.cells, cellsInt] using hfs 0 _ rfl
    obtain ⟨n0, q0, _, w0⟩ := DataW.trod_int Tryz.underlying3 t0
    have t1 : DataW.trod enc Tryz.prog W base sp held m 3 [c1] = some y1 := by simpa [Value.cells, cellsInt] using hfs 1 _ rfl
    obtain ⟨n1, q1, _, w1⟩ := DataW.trod_int Tryz.underlying3 t1
    have t2 : DataW.trod enc Tryz.prog W base sp held m 24 [c2] = some y2 := by simpa [Value.cells, cellsInt, cellsU] using hfs 2 _ rfl
    obtain ⟨n2, q2, _, w2⟩ := DataW.trod_int Tryz.underlying24 t2
    have z0 := (List.cons.inj q0).1
    have z1 := (List.cons.inj q1).1
    have z2 := (List.cons.inj q2).1
    obtain ⟨a0, a1⟩ := wf_i64 w1
    obtain ⟨b0', b1⟩ := wf_u64 w2
    exact ⟨(n0, n1, n2), by rw [z0, z1, z2], ⟨a0, a1, b0', b1⟩⟩
/-
  What the rows hand to the walks: an entry.
-/
open Go.ChangeShapes Go.WideShapes Go.ChangeAt Go.RowKit

/-- An entry that is handed in. -/
structure EIn (w : World) (x : En) : Prop where
  a : Ts w x.aa x.la
  w : Ts w x.aw x.lw
  va : AWs x.la
  vw : AWs x.lw
  u : EU x
  mt : -9223372036854775808 ≤ x.met ∧ x.met < 9223372036854775808
  gt : -9223372036854775808 ≤ x.go ∧ x.go < 9223372036854775808
theorem acts_in {H : Type} {enc : TypeId × Value → H} {W : World} {c : Value} {fuel : Nat} {x : DataW H × List MemPlace}
    (h : DataW.trod enc Tryz.prog W 0 (fun _ => true) true fuel 23 [c] = some x) : ∃ a, ∃ l : List A, ∃ cap, c = .slice a l.length cap ∧ Ts W a l ∧ AWs l := by
  have hlt : ∀ p ∈ x.2, p.block < W.heap.size := DataW.trod_lt fuel _ _ _ h
  rcases Deep.open_slice Tryz.underlying23 h with ⟨hcs, _⟩ | ⟨ad, ln, cp, _, _, _, _, hcs, _⟩
  · have hc : c = .slice none 0 0 := (List.cons.inj hcs).1
    subst hc
    exact ⟨none, [], 0, rfl, .inl rfl, by simp⟩
  · have hc : c = .slice (some ad) ln cp := (List.cons.inj hcs).1
    subst hc
    obtain ⟨l, h1, h2, h3, _⟩ := acts_of hlt h
    exact ⟨some ad, l, cp, by rw [h1], h2, h3⟩
theorem tests_in {H : Type} {enc : TypeId × Value → H} {W : World} {c : Value} {fuel : Nat} {x : DataW H × List MemPlace}
    (h : DataW.trod enc Tryz.prog W 0 (fun _ => true) true fuel 22 [c] = some x) : ∃ a n cap, c = .slice a n cap := by
  rcases Deep.open_slice Tryz.underlying22 h with ⟨hcs, _⟩ | ⟨ad, ln, cp, _, _, _, _, hcs, _⟩
  · exact ⟨none, 0, 0, (List.cons.inj hcs).1⟩
  · exact ⟨some ad, ln, cp, (List.cons.inj hcs).1⟩
theorem array10 {α : Type} {cs : Array α} (h : cs.size = 10) : ∃ c0 c1 c2 c3 c4 c5 c6 c7 c8 c9, cs = #[c0, c1, c2, c3, c4, c5, c6, c7, c8, c9] := by
  obtain ⟨l⟩ := cs
  match l, h with
  | [c0, c1, c2, c3, c4, c5, c6, c7, c8, c9], _ => exact ⟨c0, c1, c2, c3, c4, c5, c6, c7, c8, c9, rfl⟩
theorem cellsActs : Tryz.prog.cellsOf 23 = 1 := by kernel_rfl
theorem cellsTests : Tryz.prog.cellsOf 22 = 1 := by kernel_rfl
theorem cellsBool : Tryz.prog.cellsOf 4 = 1 := by kernel_rfl
set_option maxRecDepth 100000 in
theorem open_en {H : Type} {enc : TypeId × Value → H} {W : World} {r : Reach} {b0 : Nat} {v : Value} {d : DataW H} {ps : List MemPlace} (_ : ∀ p ∈ ps, p.block < W.heap.size) (hv : Value.okWide Tryz.prog W r b0 26 v) (h : DataW.Trod enc Tryz.prog W 0 (fun _ => true) true 26 v d ps) :
    ∃ x : En, v = enV x ∧ EIn W x := by
  obtain ⟨cs, rfl, hsz⟩ := okWide_struct Tryz.underlying26 hv
  obtain ⟨c0, c1, c2, c3, c4, c5, c6, c7, c8, c9, rfl⟩ := array10 (hsz.trans (by kernel_rfl))
  obtain ⟨fuel, hf⟩ := h
  obtain ⟨xs, m, _, _, _, hlen, hfs⟩ := DataW.trod_struct Tryz.underlying26 hf
  match xs, hlen with
  | [y0, y1, y2, y3, y4, y5, y6, y7, y8, y9], _ =>
    have t0 : DataW.trod enc Tryz.prog W 0 (fun _ => true) true m 3 [c0] = some y0 := by simpa [Value.cells, cellsInt] using hfs 0 _ rfl
    have t1 : DataW.trod enc Tryz.prog W 0 (fun _ => true) true m 3 [c1] = some y1 := by simpa [Value.cells, cellsInt] using hfs 1 _ rfl
    have t2 : DataW.trod enc Tryz.prog W 0 (fun _ => true) true m 22 [c2] = some y2 := by simpa [Value.cells, cellsTests] using hfs 2 _ rfl
    have t3 : DataW.trod enc Tryz.prog W 0 (fun _ => true) true m 23 [c3] = some y3 := by simpa [Value.cells, cellsActs] using hfs 3 _ rfl
    have t4 : DataW.trod enc Tryz.prog W 0 (fun _ => true) true m 23 [c4] = some y4 := by simpa [Value.cells, cellsActs] using hfs 4 _ rfl
    have t5 : DataW.trod enc Tryz.prog W 0 (fun _ => true) true m 4 [c5] = some y5 := by simpa [Value.cells, cellsBool] using hfs 5 _ rfl
    have t6 : DataW.trod enc Tryz.prog W 0 (fun _ => true) true m 24 [c6] = some y6 := by simpa [Value.cells, cellsU] using hfs 6 _ rfl
    have t7 : DataW.trod enc Tryz.prog W 0 (fun _ => true) true m 24 [c7] = some y7 := by simpa [Value.cells, cellsU] using hfs 7 _ rfl
    have t8 : DataW.trod enc Tryz.prog W 0 (fun _ => true) true m 3 [c8] = some y8 := by simpa [Value.cells, cellsInt] using hfs 8 _ rfl
    have t9 : DataW.trod enc Tryz.prog W 0 (fun _ => true) true m 3 [c9] = some y9 := by simpa [Value.cells, cellsInt] using hfs 9 _ rfl
    obtain ⟨n0, q0, _, w0⟩ := DataW.trod_int Tryz.underlying3 t0
    obtain ⟨n1, q1, _, w1⟩ := DataW.trod_int Tryz.underlying3 t1
    obtain ⟨ta, tl, tc, z2⟩ := tests_in t2
    obtain ⟨aa, la, ca, z3, ha, va⟩ := acts_in t3
    obtain ⟨aw, lw, cw, z4, hw, vw⟩ := acts_in t4
    obtain ⟨b5, q5, _⟩ := DataW.trod_bool Tryz.underlying4 t5
    obtain ⟨n6, q6, _, w6⟩ := DataW.trod_int Tryz.underlying24 t6
    obtain ⟨n7, q7, _, w7⟩ := DataW.trod_int Tryz.underlying24 t7
    obtain ⟨n8, q8, _, w8⟩ := DataW.trod_int Tryz.underlying3 t8
    obtain ⟨n9, q9, _, w9⟩ := DataW.trod_int Tryz.underlying3 t9
    have z0 := (List.cons.inj q0).1
    have z1 := (List.cons.inj q1).1
    have z5 := (List.cons.inj q5).1
    have z6 := (List.cons.inj q6).1
    have z7 := (List.cons.inj q7).1
    have z8 := (List.cons.inj q8).1
    have z9 := (List.cons.inj q9).1
    obtain ⟨a0, a1⟩ := wf_u64 w6
    obtain ⟨b0', b1⟩ := wf_u64 w7
    exact ⟨⟨n0, n1, ta, tl, tc, aa, la, ca, aw, lw, cw, b5, n6, n7, n8, n9⟩, by rw [z0, z1, z2, z3, z4, z5, z6, z7, z8, z9], ⟨ha, hw, va, vw, ⟨a0, a1, b0', b1⟩, wf_i64 w8, wf_i64 w9⟩⟩
/-
  What the rows hand to the walks: a message.
-/
open Go.ChangeShapes Go.WideShapes Go.ChangeAt Go.RowKit
theorem cellsTest : Tryz.prog.cellsOf 131 = 3 := by kernel_rfl
theorem cellsBk : Tryz.prog.cellsOf 53 = 3 := by kernel_rfl
theorem cellsBks : Tryz.prog.cellsOf 27 = 1 := by kernel_rfl
theorem cellsEn : Tryz.prog.cellsOf 26 = 10 := by kernel_rfl
theorem cellsGr : Tryz.prog.cellsOf 29 = 3 := by kernel_rfl
theorem cellsMe : Tryz.prog.cellsOf 31 = 3 := by kernel_rfl
theorem cellsStr : Tryz.prog.cellsOf 9 = 1 := by kernel_rfl
set_option maxRecDepth 100000 in
theorem mtests_of {H : Type} {enc : TypeId × Value → H} {W : World} {a : Option Addr} {len cap fuel : Nat} {x : DataW H × List MemPlace} (hlt : ∀ p ∈ x.2, p.block < W.heap.size)
    (h : DataW.trod enc Tryz.prog W 0 (fun _ => true) true fuel 22 [.slice a len cap] = some x) : ∃ l : List Mt.T, l.length = len ∧ Mt.Ts W a l ∧ Mt.TWs l ∧ len ≤ cap := by
  rcases Deep.open_slice Tryz.underlying22 h with ⟨hcs, _⟩ | ⟨ad, ln, cp, m, n, D, Pl, hcs, hb, hl, hm, hmm, hx, hel⟩
  · simp at hcs
    exact ⟨[], hcs.2.1.symm, .inl rfl, by simp, by omega⟩
  · simp at hcs
    obtain ⟨rfl, rfl, rfl⟩ := hcs
    have hm' : m = cap := by simpa using hmm
    subst hm'
    have one : ∀ i, i < len → ∃ t : Mt.T, W.cell? (ad.add (i * 3)) = some (.int .i64 t.1) ∧ W.cell? (ad.add (i * 3 + 1)) = some (.int .u64 t.2.1) ∧ W.cell? (ad.add (i * 3 + 2)) = some (.int .u64 t.2.2) ∧ Mt.TW t := by
      intro i hi
      obtain ⟨cs', h1, h2⟩ := hel i (by omega)
      rw [cellsTest] at h1
      obtain ⟨_, hlen, hcell⟩ := World.cells?_some h1
      obtain ⟨xs, k, hk, hxy, _, hxl, hf⟩ := DataW.trod_struct Tryz.underlying131 h2
      match xs, hxl, cs', hlen with
      | [y0, y1, y2], _, [v0, v1, v2], _ =>
        have g0 := hf 0 _ rfl
        have g1 := hf 1 _ rfl
        have g2 := hf 2 _ rfl
        simp [cellsInt, cellsU] at g0 g1 g2
        obtain ⟨n0, e0, d0, r0⟩ := DataW.trod_int Tryz.underlying3 g0
        obtain ⟨n1, e1, d1, r1⟩ := DataW.trod_int Tryz.underlying24 g1
        obtain ⟨n2, e2, d2, r2⟩ := DataW.trod_int Tryz.underlying24 g2
        simp at e0 e1 e2
        have c0 := hcell 0 (by omega)
        have c1 := hcell 1 (by omega)
        have c2 := hcell 2 (by omega)
        rw [Deep.add_add] at c0 c1 c2
        refine ⟨(n0, n1, n2), by simpa [e0] using c0, by simpa [e1] using c1, by simpa [e2] using c2, ?_⟩
        obtain ⟨a0, a1⟩ := wf_u64 r1
        obtain ⟨b0, b1⟩ := wf_u64 r2
        exact ⟨a0, a1, b0, b1⟩
    obtain ⟨f, hf⟩ := Deep.choose_lt one
    by_cases h0 : len = 0
    · subst h0
      exact ⟨[], rfl, .inl rfl, by simp, hl⟩
    · obtain ⟨g, o, spot⟩ := ad
      have hsp : spot = none := by simpa [Addr.add] using World.cell?_spot (hf 0 (by omega)).1
      subst hsp
      have hg : g < W.heap.size := hlt (.cell g (o + 0)) (by rw [hx, cellsTest]; exact List.mem_append_left _ (by simp [MemPlace.row]; omega))
      refine ⟨(List.range len).map f, by simp, .inr ⟨g, o, rfl, hg, fun i hi => ?_⟩, ?_, hl⟩
      · have hi' : i < len := by simpa using hi
        obtain ⟨x0, x1, x2, _⟩ := hf i hi'
        rw [plain] at x0 x1 x2
        simp only [List.getElem_map, List.getElem_range]
        exact ⟨x0, by rw [← Nat.add_assoc] at x1; exact x1, by rw [← Nat.add_assoc] at x2; exact x2⟩
      · intro t ht
        rw [List.mem_map] at ht
        obtain ⟨i, hi, rfl⟩ := ht
        exact (hf i (List.mem_range.1 hi)).2.2.2
theorem mtests_in {H : Type} {enc : TypeId × Value → H} {W : World} {c : Value} {fuel : Nat} {x : DataW H × List MemPlace}
    (h : DataW.trod enc Tryz.prog W 0 (fun _ => true) true fuel 22 [c] = some x) : ∃ a, ∃ l : List Mt.T, ∃ cap, c = .slice a l.length cap ∧ Mt.Ts W a l ∧ Mt.TWs l ∧ l.length ≤ cap := by
  have hlt : ∀ p ∈ x.2, p.block < W.heap.size := DataW.trod_lt fuel _ _ _ h
  rcases Deep.open_slice Tryz.underlying22 h with ⟨hcs, _⟩ | ⟨ad, ln, cp, _, _, _, _, hcs, _⟩
  · have hc : c = .slice none 0 0 := (List.cons.inj hcs).1
    subst hc
    exact ⟨none, [], 0, rfl, .inl rfl, by simp, Nat.le_refl _⟩
  · have hc : c = .slice (some ad) ln cp := (List.cons.inj hcs).1
    subst hc
    obtain ⟨l, h1, h2, h3, h4⟩ := mtests_of hlt h
    exact ⟨some ad, l, cp, by rw [h1], h2, h3, by rw [h1]; exact h4⟩
def bkOf (t : Int × Int × Option Addr × List A × Nat) : Bk := ⟨t.1, t.2.1, t.2.2.1, t.2.2.2.1, t.2.2.2.2⟩
set_option maxRecDepth 100000 in
/-- The buckets of a slice that is read. -/
theorem bks_of {H : Type} {enc : TypeId × Value → H} {W : World} {a : Option Addr} {len cap fuel : Nat} {x : DataW H × List MemPlace} (hlt : ∀ p ∈ x.2, p.block < W.heap.size)
    (h : DataW.trod enc Tryz.prog W 0 (fun _ => true) true fuel 27 [.slice a len cap] = some x) : ∃ l : List Bk, l.length = len ∧ (l = [] ∨ ∃ g o, a = some ⟨g, o, none⟩ ∧ g < W.heap.size ∧ ∀ i (h : i < l.length), Cb W g (o + i * 3) l[i]) ∧ ∀ b ∈ l, Ts W b.a b.l ∧ AWs b.l := by
  rcases Deep.open_slice Tryz.underlying27 h with ⟨hcs, _⟩ | ⟨ad, ln, cp, m, n, D, Pl, hcs, hb, hl, hm, hmm, hx, hel⟩
  · simp at hcs
    exact ⟨[], hcs.2.1.symm, .inl rfl, by simp⟩
  · simp at hcs
    obtain ⟨rfl, rfl, rfl⟩ := hcs
    have hm' : m = cap := by simpa using hmm
    subst hm'
    have one : ∀ i, i < len → ∃ b : Bk, W.cell? (ad.add (i * 3)) = some (.int .i64 b.wa) ∧ W.cell? (ad.add (i * 3 + 1)) = some (.int .i64 b.we) ∧ W.cell? (ad.add (i * 3 + 2)) = some (.slice b.a b.l.length b.c) ∧ Ts W b.a b.l ∧ AWs b.l := by
      intro i hi
      obtain ⟨cs', h1, h2⟩ := hel i (by omega)
      rw [cellsBk] at h1
      obtain ⟨_, hlen, hcell⟩ := World.cells?_some h1
      obtain ⟨xs, k, hk, hxy, _, hxl, hf⟩ := DataW.trod_struct Tryz.underlying53 h2
      match xs, hxl, cs', hlen with
      | [y0, y1, y2], _, [v0, v1, v2], _ =>
        have g0 := hf 0 _ rfl
        have g1 := hf 1 _ rfl
        have g2 := hf 2 _ rfl
        simp [cellsInt, cellsActs] at g0 g1 g2
        obtain ⟨n0, e0, d0, r0⟩ := DataW.trod_int Tryz.underlying3 g0
        obtain ⟨n1, e1, d1, r1⟩ := DataW.trod_int Tryz.underlying3 g1
        obtain ⟨aa, la, ca, z2, ha, va⟩ := acts_in g2
        simp at e0 e1
        have c0 := hcell 0 (by omega)
        have c1 := hcell 1 (by omega)
        have c2 := hcell 2 (by omega)
        rw [Deep.add_add] at c0 c1 c2
        exact ⟨⟨n0, n1, aa, la, ca⟩, by simpa [e0] using c0, by simpa [e1] using c1, by simpa [z2] using c2, ha, va⟩
    have one' : ∀ i, i < len → ∃ t : Int × Int × Option Addr × List A × Nat, W.cell? (ad.add (i * 3)) = some (.int .i64 (bkOf t).wa) ∧ W.cell? (ad.add (i * 3 + 1)) = some (.int .i64 (bkOf t).we) ∧ W.cell? (ad.add (i * 3 + 2)) = some (.slice (bkOf t).a (bkOf t).l.length (bkOf t).c) ∧ Ts W (bkOf t).a (bkOf t).l ∧ AWs (bkOf t).l := fun i hi => by
      obtain ⟨b, hb⟩ := one i hi
      exact ⟨(b.wa, b.we, b.a, b.l, b.c), hb⟩
    obtain ⟨f0, hf⟩ := Deep.choose_lt one'
    by_cases h0 : len = 0
    · subst h0
      exact ⟨[], rfl, .inl rfl, by simp⟩
    · obtain ⟨g, o, spot⟩ := ad
      have hsp : spot = none := by simpa [Addr.add] using World.cell?_spot (hf 0 (by omega)).1
      subst hsp
      have hg : g < W.heap.size := hlt (.cell g (o + 0)) (by rw [hx, cellsBk]; exact List.mem_append_left _ (by simp [MemPlace.row]; omega))
      refine ⟨(List.range len).map fun i => bkOf (f0 i), by simp, .inr ⟨g, o, rfl, hg, fun i hi => ?_⟩, ?_⟩
      · have hi' : i < len := by simpa using hi
        obtain ⟨x0, x1, x2, _⟩ := hf i hi'
        rw [plain] at x0 x1 x2
        simp only [List.getElem_map, List.getElem_range]
        exact ⟨x0, by rw [← Nat.add_assoc] at x1; exact x1, by rw [← Nat.add_assoc] at x2; exact x2⟩
      · intro t ht
        rw [List.mem_map] at ht
        obtain ⟨i, hi, rfl⟩ := ht
        exact (hf i (List.mem_range.1 hi)).2.2.2
theorem bks_in {H : Type} {enc : TypeId × Value → H} {W : World} {c : Value} {fuel : Nat} {x : DataW H × List MemPlace}
    (h : DataW.trod enc Tryz.prog W 0 (fun _ => true) true fuel 27 [c] = some x) : ∃ a, ∃ l : List Bk, ∃ cap, c = .slice a l.length cap ∧ (l = [] ∨ ∃ g o, a = some ⟨g, o, none⟩ ∧ g < W.heap.size ∧ ∀ i (h : i < l.length), Cb W g (o + i * 3) l[i]) ∧ ∀ b ∈ l, Ts W b.a b.l ∧ AWs b.l := by
  have hlt : ∀ p ∈ x.2, p.block < W.heap.size := DataW.trod_lt fuel _ _ _ h
  rcases Deep.open_slice Tryz.underlying27 h with ⟨hcs, _⟩ | ⟨ad, ln, cp, _, _, _, _, hcs, _⟩
  · have hc : c = .slice none 0 0 := (List.cons.inj hcs).1
    subst hc
    exact ⟨none, [], 0, rfl, .inl rfl, by simp⟩
  · have hc : c = .slice (some ad) ln cp := (List.cons.inj hcs).1
    subst hc
    obtain ⟨l, h1, h2, h3⟩ := bks_of hlt h
    exact ⟨some ad, l, cp, by rw [h1], h2, h3⟩
set_option maxRecDepth 100000 in
theorem en_in {H : Type} {enc : TypeId × Value → H} {W : World} {c0 c1 c2 c3 c4 c5 c6 c7 c8 c9 : Value} {fuel : Nat} {x : DataW H × List MemPlace} (h : DataW.trod enc Tryz.prog W 0 (fun _ => true) true fuel 26 [c0, c1, c2, c3, c4, c5, c6, c7, c8, c9] = some x) :
    ∃ y : En, ∃ ts : List Mt.T, [c0, c1, c2, c3, c4, c5, c6, c7, c8, c9] = (enC y).toList ∧ Ts W y.aa y.la ∧ Ts W y.aw y.lw ∧ Mt.Ts W y.ta ts ∧ y.tl = ts.length ∧ ts.length ≤ y.tc ∧ EU y ∧ Mt.TWs ts ∧ AWs y.la ∧ AWs y.lw := by
  obtain ⟨xs, m, _, _, _, hlen, hfs⟩ := DataW.trod_struct Tryz.underlying26 h
  match xs, hlen with
  | [y0, y1, y2, y3, y4, y5, y6, y7, y8, y9], _ =>
    have t0 : DataW.trod enc Tryz.prog W 0 (fun _ => true) true m 3 [c0] = some y0 := by simpa [cellsInt, cellsTests, cellsActs, cellsBool, cellsU] using hfs 0 _ rfl
    have t1 : DataW.trod enc Tryz.prog W 0 (fun _ => true) true m 3 [c1] = some y1 := by simpa [cellsInt, cellsTests, cellsActs, cellsBool, cellsU] using hfs 1 _ rfl
    have t2 : DataW.trod enc Tryz.prog W 0 (fun _ => true) true m 22 [c2] = some y2 := by simpa [cellsInt, cellsTests, cellsActs, cellsBool, cellsU] using hfs 2 _ rfl
    have t3 : DataW.trod enc Tryz.prog W 0 (fun _ => true) true m 23 [c3] = some y3 := by simpa [cellsInt, cellsTests, cellsActs, cellsBool, cellsU] using hfs 3 _ rfl
    have t4 : DataW.trod enc Tryz.prog W 0 (fun _ => true) true m 23 [c4] = some y4 := by simpa [cellsInt, cellsTests, cellsActs, cellsBool, cellsU] using hfs 4 _ rfl
    have t5 : DataW.trod enc Tryz.prog W 0 (fun _ => true) true m 4 [c5] = some y5 := by simpa [cellsInt, cellsTests, cellsActs, cellsBool, cellsU] using hfs 5 _ rfl
    have t6 : DataW.trod enc Tryz.prog W 0 (fun _ => true) true m 24 [c6] = some y6 := by simpa [cellsInt, cellsTests, cellsActs, cellsBool, cellsU] using hfs 6 _ rfl
    have t7 : DataW.trod enc Tryz.prog W 0 (fun _ => true) true m 24 [c7] = some y7 := by simpa [cellsInt, cellsTests, cellsActs, cellsBool, cellsU] using hfs 7 _ rfl
    have t8 : DataW.trod enc Tryz.prog W 0 (fun _ => true) true m 3 [c8] = some y8 := by simpa [cellsInt, cellsTests, cellsActs, cellsBool, cellsU] using hfs 8 _ rfl
    have t9 : DataW.trod enc Tryz.prog W 0 (fun _ => true) true m 3 [c9] = some y9 := by simpa [cellsInt, cellsTests, cellsActs, cellsBool, cellsU] using hfs 9 _ rfl
    obtain ⟨n0, q0, _, w0⟩ := DataW.trod_int Tryz.underlying3 t0
    obtain ⟨n1, q1, _, w1⟩ := DataW.trod_int Tryz.underlying3 t1
    obtain ⟨ta, ts, tc, z2, ht, tw, hc⟩ := mtests_in t2
    obtain ⟨aa, la, ca, z3, ha, va⟩ := acts_in t3
    obtain ⟨aw, lw, cw, z4, hw, vw⟩ := acts_in t4
    obtain ⟨b5, q5, _⟩ := DataW.trod_bool Tryz.underlying4 t5
    obtain ⟨n6, q6, _, w6⟩ := DataW.trod_int Tryz.underlying24 t6
    obtain ⟨n7, q7, _, w7⟩ := DataW.trod_int Tryz.underlying24 t7
    obtain ⟨n8, q8, _, w8⟩ := DataW.trod_int Tryz.underlying3 t8
    obtain ⟨n9, q9, _, w9⟩ := DataW.trod_int Tryz.underlying3 t9
    have z0 := (List.cons.inj q0).1
    have z1 := (List.cons.inj q1).1
    have z5 := (List.cons.inj q5).1
    have z6 := (List.cons.inj q6).1
    have z7 := (List.cons.inj q7).1
    have z8 := (List.cons.inj q8).1
    have z9 := (List.cons.inj q9).1
    obtain ⟨a0, a1⟩ := wf_u64 w6
    obtain ⟨b0', b1⟩ := wf_u64 w7
    exact ⟨⟨n0, n1, ta, ts.length, tc, aa, la, ca, aw, lw, cw, b5, n6, n7, n8, n9⟩, ts, by rw [z0, z1, z2, z3, z4, z5, z6, z7, z8, z9], ha, hw, ht, rfl, hc, ⟨a0, a1, b0', b1⟩, tw, va, vw⟩
theorem array26 {α : Type} {cs : Array α} (h : cs.size = 26) : ∃ c0 c1 c2 c3 c4 c5 c6 c7 c8 c9 c10 c11 c12 c13 c14 c15 c16 c17 c18 c19 c20 c21 c22 c23 c24 c25, cs = #[c0, c1, c2, c3, c4, c5, c6, c7, c8, c9, c10, c11, c12, c13, c14, c15, c16, c17, c18, c19, c20, c21, c22, c23, c24, c25] := by
  obtain ⟨l⟩ := cs
  match l, h with
  | [c0, c1, c2, c3, c4, c5, c6, c7, c8, c9, c10, c11, c12, c13, c14, c15, c16, c17, c18, c19, c20, c21, c22, c23, c24, c25], _ => exact ⟨c0, c1, c2, c3, c4, c5, c6, c7, c8, c9, c10, c11, c12, c13, c14, c15, c16, c17, c18, c19, c20, c21, c22, c23, c24, c25, rfl⟩
set_option maxRecDepth 100000 in
set_option maxHeartbeats 2000000 in
theorem open_ms {H : Type} {enc : TypeId × Value → H} {W : World} {r : Reach} {b0 : Nat} {v : Value} {d : DataW H} {ps : List MemPlace} (hv : Value.okWide Tryz.prog W r b0 33 v) (h : DataW.Trod enc Tryz.prog W 0 (fun _ => true) true 33 v d ps) :
    ∃ m : Ms, v = msV m ∧ MI W m := by
  obtain ⟨cs, rfl, hsz⟩ := okWide_struct Tryz.underlying33 hv
  obtain ⟨c0, c1, c2, c3, c4, c5, c6, c7, c8, c9, c10, c11, c12, c13, c14, c15, c16, c17, c18, c19, c20, c21, c22, c23, c24, c25, rfl⟩ := array26 (hsz.trans (by kernel_rfl))
  obtain ⟨fuel, hf⟩ := h
  obtain ⟨xs, m, _, _, _, hlen, hfs⟩ := DataW.trod_struct Tryz.underlying33 hf
  match xs, hlen with
  | [y0, y1, y2, y3, y4, y5, y6, y7, y8, y9, y10, y11, y12], _ =>
    have t0 : DataW.trod enc Tryz.prog W 0 (fun _ => true) true m 3 [c0] = some y0 := by simpa [Value.cells, cellsInt, cellsBool, cellsEn, cellsGr, cellsMe, cellsActs, cellsStr] using hfs 0 _ rfl
    have t1 : DataW.trod enc Tryz.prog W 0 (fun _ => true) true m 3 [c1] = some y1 := by simpa [Value.cells, cellsInt, cellsBool, cellsEn, cellsGr, cellsMe, cellsActs, cellsStr] using hfs 1 _ rfl
    have t2 : DataW.trod enc Tryz.prog W 0 (fun _ => true) true m 3 [c2] = some y2 := by simpa [Value.cells, cellsInt, cellsBool, cellsEn, cellsGr, cellsMe, cellsActs, cellsStr] using hfs 2 _ rfl
    have t3 : DataW.trod enc Tryz.prog W 0 (fun _ => true) true m 4 [c3] = some y3 := by simpa [Value.cells, cellsInt, cellsBool, cellsEn, cellsGr, cellsMe, cellsActs, cellsStr] using hfs 3 _ rfl
    have t4 : DataW.trod enc Tryz.prog W 0 (fun _ => true) true m 26 [c4, c5, c6, c7, c8, c9, c10, c11, c12, c13] = some y4 := by simpa [Value.cells, cellsInt, cellsBool, cellsEn, cellsGr, cellsMe, cellsActs, cellsStr] using hfs 4 _ rfl
    have t5 : DataW.trod enc Tryz.prog W 0 (fun _ => true) true m 29 [c14, c15, c16] = some y5 := by simpa [Value.cells, cellsInt, cellsBool, cellsEn, cellsGr, cellsMe, cellsActs, cellsStr] using hfs 5 _ rfl
    have t6 : DataW.trod enc Tryz.prog W 0 (fun _ => true) true m 31 [c17, c18, c19] = some y6 := by simpa [Value.cells, cellsInt, cellsBool, cellsEn, cellsGr, cellsMe, cellsActs, cellsStr] using hfs 6 _ rfl
    have t7 : DataW.trod enc Tryz.prog W 0 (fun _ => true) true m 3 [c20] = some y7 := by simpa [Value.cells, cellsInt, cellsBool, cellsEn, cellsGr, cellsMe, cellsActs, cellsStr] using hfs 7 _ rfl
    have t8 : DataW.trod enc Tryz.prog W 0 (fun _ => true) true m 3 [c21] = some y8 := by simpa [Value.cells, cellsInt, cellsBool, cellsEn, cellsGr, cellsMe, cellsActs, cellsStr] using hfs 8 _ rfl
    have t9 : DataW.trod enc Tryz.prog W 0 (fun _ => true) true m 3 [c22] = some y9 := by simpa [Value.cells, cellsInt, cellsBool, cellsEn, cellsGr, cellsMe, cellsActs, cellsStr] using hfs 9 _ rfl
    have t10 : DataW.trod enc Tryz.prog W 0 (fun _ => true) true m 4 [c23] = some y10 := by simpa [Value.cells, cellsInt, cellsBool, cellsEn, cellsGr, cellsMe, cellsActs, cellsStr] using hfs 10 _ rfl
    have t11 : DataW.trod enc Tryz.prog W 0 (fun _ => true) true m 23 [c24] = some y11 := by simpa [Value.cells, cellsInt, cellsBool, cellsEn, cellsGr, cellsMe, cellsActs, cellsStr] using hfs 11 _ rfl
    have t12 : DataW.trod enc Tryz.prog W 0 (fun _ => true) true m 9 [c25] = some y12 := by simpa [Value.cells, cellsInt, cellsBool, cellsEn, cellsGr, cellsMe, cellsActs, cellsStr] using hfs 12 _ rfl
    clear hfs hf
    obtain ⟨n0, q0, _, w0⟩ := DataW.trod_int Tryz.underlying3 t0
    have z0 := (List.cons.inj q0).1
    obtain ⟨n1, q1, _, w1⟩ := DataW.trod_int Tryz.underlying3 t1
    have z1 := (List.cons.inj q1).1
    obtain ⟨n2, q2, _, w2⟩ := DataW.trod_int Tryz.underlying3 t2
    have z2 := (List.cons.inj q2).1
    obtain ⟨n7, q7, _, w7⟩ := DataW.trod_int Tryz.underlying3 t7
    have z7 := (List.cons.inj q7).1
    obtain ⟨n8, q8, _, w8⟩ := DataW.trod_int Tryz.underlying3 t8
    have z8 := (List.cons.inj q8).1
    obtain ⟨n9, q9, _, w9⟩ := DataW.trod_int Tryz.underlying3 t9
    have z9 := (List.cons.inj q9).1
    obtain ⟨n3, q3, _⟩ := DataW.trod_bool Tryz.underlying4 t3
    have z3 := (List.cons.inj q3).1
    obtain ⟨n10, q10, _⟩ := DataW.trod_bool Tryz.underlying4 t10
    have z10 := (List.cons.inj q10).1
    obtain ⟨en, ts, ez, ha, hw, ht, htl, htc, hu, tw, va, vw⟩ := en_in t4
    obtain ⟨aa, la, ca, z11, hla, vla⟩ := acts_in t11
    obtain ⟨dat, q12, _⟩ := DataW.trod_string Tryz.underlying9 t12
    have z12 := (List.cons.inj q12).1
    obtain ⟨xg, mg, _, _, _, hleng, hfg⟩ := DataW.trod_struct Tryz.underlying29 t5
    obtain ⟨xm, mm, _, _, _, hlenm, hfm⟩ := DataW.trod_struct Tryz.underlying31 t6
    match xg, hleng, xm, hlenm with
    | [u0, u1, u2], _, [v0, v1, v2], _ =>
      have s0 : DataW.trod enc Tryz.prog W 0 (fun _ => true) true mg 3 [c14] = some u0 := by simpa [cellsInt, cellsBks] using hfg 0 _ rfl
      have s1 : DataW.trod enc Tryz.prog W 0 (fun _ => true) true mg 3 [c15] = some u1 := by simpa [cellsInt, cellsBks] using hfg 1 _ rfl
      have s2 : DataW.trod enc Tryz.prog W 0 (fun _ => true) true mg 27 [c16] = some u2 := by simpa [cellsInt, cellsBks] using hfg 2 _ rfl
      have p0 : DataW.trod enc Tryz.prog W 0 (fun _ => true) true mm 3 [c17] = some v0 := by simpa [cellsInt] using hfm 0 _ rfl
      have p1 : DataW.trod enc Tryz.prog W 0 (fun _ => true) true mm 3 [c18] = some v1 := by simpa [cellsInt] using hfm 1 _ rfl
      have p2 : DataW.trod enc Tryz.prog W 0 (fun _ => true) true mm 3 [c19] = some v2 := by simpa [cellsInt] using hfm 2 _ rfl
      obtain ⟨g0, gq0, _, _⟩ := DataW.trod_int Tryz.underlying3 s0
      obtain ⟨g1, gq1, _, _⟩ := DataW.trod_int Tryz.underlying3 s1
      obtain ⟨ga, gb, gc, gz2, hgc, hgb⟩ := bks_in s2
      obtain ⟨m0, mq0, _, _⟩ := DataW.trod_int Tryz.underlying3 p0
      obtain ⟨m1, mq1, _, _⟩ := DataW.trod_int Tryz.underlying3 p1
      obtain ⟨m2, mq2, _, _⟩ := DataW.trod_int Tryz.underlying3 p2
      have gz0 := (List.cons.inj gq0).1
      have gz1 := (List.cons.inj gq1).1
      have mz0 := (List.cons.inj mq0).1
      have mz1 := (List.cons.inj mq1).1
      have mz2 := (List.cons.inj mq2).1
      simp only [List.cons.injEq, and_true] at ez
      obtain ⟨e4, e5, e6, e7, e8, e9, e10, e11, e12, e13⟩ := ez
      exact ⟨⟨n0, n1, n2, n3, en, ts, g0, g1, ga, gb, gc, m0, m1, m2, n7, n8, n9, n10, aa, la, ca, dat⟩, by rw [z0, z1, z2, z3, e4, e5, e6, e7, e8, e9, e10, e11, e12, e13, gz0, gz1, gz2, mz0, mz1, mz2, z7, z8, z9, z10, z11, z12],
        ⟨ha, hw, ht, htl, htc, hgc, fun b hb => (hgb b hb).1, hla, ⟨hu, tw, va, vw, vla, fun b hb => (hgb b hb).2⟩⟩⟩
end Go.Proofs.YtlcbfdiohcbpbaaGreatDoor

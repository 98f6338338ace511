/-
  What 'read' does, as a contract: the packet and the sums that stand in the places of a frame.
-/
import Derived.Test.YtldbbbhoemnlmaaReadP
import Derived.BigRegion
namespace Go.Proofs.Ytldbbbhoemnlmaa
open Go.ChangeShapes Go.WideShapes Go.ChangeAt Go.RowKit

def pk0 : Pk := ⟨0, 0, 0, 0, 0, 0, 0, 0, 0, 0, noBytes⟩
abbrev Sw (w : World) (b : Nat) (x y : Int) : Prop := Sx w b x y ∧ ∀ i, w.frozen? ⟨b, i, none⟩ = false
theorem Sw.block {w w' : World} {b : Nat} {x y : Int} (h : Sw w b x y) (g : w'.heap[b]? = w.heap[b]?) : Sw w' b x y :=
  ⟨⟨(World.cell?_of_block (w := w) g).trans h.1.1, (World.cell?_of_block (w := w) g).trans h.1.2⟩, fun i => (World.frozen?_of_block (w := w) g).trans (h.2 i)⟩
theorem Sw.set0 {w : World} {b : Nat} {x y : Int} (h : Sw w b x y) (z : Int) : Sw (w.setCell ⟨b, 0, none⟩ (.int .i64 z)) b z y :=
  ⟨⟨World.cell?_setCell_same _ _ _ h.1.1, (World.cell?_setCell_other _ _ _ _ (by simp)).trans h.1.2⟩, fun i => by simp [h.2]⟩
theorem Sw.set1 {w : World} {b : Nat} {x y : Int} (h : Sw w b x y) (z : Int) : Sw (w.setCell ⟨b, 1, none⟩ (.int .i64 z)) b x z :=
  ⟨⟨(World.cell?_setCell_other _ _ _ _ (by simp)).trans h.1.1, World.cell?_setCell_same _ _ _ h.1.2⟩, fun i => by simp [h.2]⟩

/-- Where 'read' stands: what it answers, its packet, its sums and its reader lie in five blocks from n on. -/
structure RD (w : World) (n : Nat) (r : RS) (p : Pk) (x y : Int) (w1 : World) : Prop where
  rd : Rd w1 (n + 4) r.s r.e
  pk : Bw w1 (n + 2) p
  sm : Sw w1 (n + 3) x y
  rp : Bw w1 n pk0
  rs : Sw w1 (n + 1) 0 0
  gr : Below n w w1
  lt : n + 4 < w1.heap.size
  sz : r.s.size ≤ maxLen
theorem RD.only {w : World} {n : Nat} {r r' : RS} {p : Pk} {x y : Int} {w1 w2 : World} (h : RD w n r p x y w1) (rd : Rd w2 (n + 4) r'.s r'.e) (g : Only (n + 4) w1 w2) (hs : r'.s.size ≤ r.s.size) : RD w n r' p x y w2 :=
  ⟨rd, h.pk.block (g.block _ (by omega)), h.sm.block (g.block _ (by omega)), h.rp.block (g.block _ (by omega)), h.rs.block (g.block _ (by omega)),
   h.gr.trans ⟨g.os, g.tape, g.output, by rw [g.size]; exact Nat.le_refl _, fun k hk => g.block k (by omega)⟩, by rw [g.size]; exact h.lt, Nat.le_trans hs h.sz⟩
theorem RD.two {w : World} {n : Nat} {r r' : RS} {p p' : Pk} {x y : Int} {w1 w2 : World} (h : RD w n r p x y w1) (g : RP w1 (n + 4) (n + 2) r' p' w2) : RD w n r' p' x y w2 :=
  have lt := h.lt
  ⟨g.rd, g.pk, h.sm.block (g.two.block _ (by omega) (by omega) (by omega)), h.rp.block (g.two.block _ (by omega) (by omega) (by omega)), h.rs.block (g.two.block _ (by omega) (by omega) (by omega)),
   h.gr.trans ⟨g.two.os, g.two.tape, g.two.output, g.two.size, fun k hk => g.two.block k (by omega) (by omega) (by omega)⟩, Nat.lt_of_lt_of_le lt g.two.size, g.sz⟩
theorem RD.toRP {w : World} {n : Nat} {r : RS} {p : Pk} {x y : Int} {w1 : World} (h : RD w n r p x y w1) : RP w1 (n + 4) (n + 2) r p w1 := ⟨h.rd, h.pk, Two.refl _ _ _, h.sz⟩
theorem RD.putP {w : World} {n : Nat} {r : RS} {p p' : Pk} {x y : Int} {w1 : World} {o : Nat} {v : Value} (h : RD w n r p x y w1) (hp : Bw (w1.setCell ⟨n + 2, o, none⟩ v) (n + 2) p') : RD w n r p' x y (w1.setCell ⟨n + 2, o, none⟩ v) :=
  ⟨h.rd.set (by omega) _ _, hp, h.sm.block (Below.heap_setCell _ _ _ _ (by simp)), h.rp.block (Below.heap_setCell _ _ _ _ (by simp)), h.rs.block (Below.heap_setCell _ _ _ _ (by simp)),
   h.gr.setCell (by simp) _, by simpa [World.setCell] using h.lt, h.sz⟩
theorem RD.putS {w : World} {n : Nat} {r : RS} {p : Pk} {x y x' y' : Int} {w1 : World} {o : Nat} {v : Value} (h : RD w n r p x y w1) (hp : Sw (w1.setCell ⟨n + 3, o, none⟩ v) (n + 3) x' y') : RD w n r p x' y' (w1.setCell ⟨n + 3, o, none⟩ v) :=
  ⟨h.rd.set (by omega) _ _, h.pk.block (Below.heap_setCell _ _ _ _ (by simp)), hp, h.rp.block (Below.heap_setCell _ _ _ _ (by simp)), h.rs.block (Below.heap_setCell _ _ _ _ (by simp)),
   h.gr.setCell (by simp) _, by simpa [World.setCell] using h.lt, h.sz⟩
abbrev w5 (w : World) (s : ByteArray) : World := ((((w.alloc (.cells (pkC pk0) 25)).alloc (.cells #[.int .i64 0, .int .i64 0] 40)).alloc (.cells (pkC pk0) 25)).alloc (.cells #[.int .i64 0, .int .i64 0] 40)).alloc (.cells #[.string s, .int .i64 0] 69)
theorem Bw.new (w : World) (p : Pk) : Bw (w.alloc (.cells (pkC p) 25)) w.heap.size p := ⟨Bx.new w p, fun i => by simp⟩
theorem Sw.new (w : World) (x y : Int) : Sw (w.alloc (.cells #[.int .i64 x, .int .i64 y] 40)) w.heap.size x y := ⟨by unfold Sx; simp, fun i => by simp⟩
theorem RD.new (w : World) (s : ByteArray) (hs : s.size ≤ maxLen) : RD w w.heap.size ⟨s, 0⟩ pk0 0 0 (w5 w s) := by
  have g : ∀ (u : World) (o : Obj), Below u.heap.size u (u.alloc o) := fun u o => (Below.refl _ _).alloc (Nat.le_refl _) o
  have z : ∀ (u : World) (o : Obj), (u.alloc o).heap.size = u.heap.size + 1 := fun u o => by simp
  have a1 := Bw.new w pk0
  have a2 := Sw.new (w.alloc (.cells (pkC pk0) 25)) 0 0
  have a3 := Bw.new ((w.alloc (.cells (pkC pk0) 25)).alloc (.cells #[.int .i64 0, .int .i64 0] 40)) pk0
  have a4 := Sw.new (((w.alloc (.cells (pkC pk0) 25)).alloc (.cells #[.int .i64 0, .int .i64 0] 40)).alloc (.cells (pkC pk0) 25)) 0 0
  have a5 := Rd.new ((((w.alloc (.cells (pkC pk0) 25)).alloc (.cells #[.int .i64 0, .int .i64 0] 40)).alloc (.cells (pkC pk0) 25)).alloc (.cells #[.int .i64 0, .int .i64 0] 40)) s 0 69
  simp only [z] at a2 a3 a4 a5
  have k : ∀ (u : World) (o : Obj) (b : Nat), b < u.heap.size → (u.alloc o).heap[b]? = u.heap[b]? := fun u o b hb => Below.heap_alloc u o b hb
  refine ⟨a5, ?_, ?_, ?_, ?_, by go_grown, by simp only [w5, z]; omega, hs⟩
  · exact (a3.block (k _ _ _ (by simp only [z]; omega))).block (k _ _ _ (by simp only [z]; omega))
  · exact a4.block (k _ _ _ (by simp only [z]; omega))
  · exact (((a1.block (k _ _ _ (by simp only [z]; omega))).block (k _ _ _ (by simp only [z]; omega))).block (k _ _ _ (by simp only [z]; omega))).block (k _ _ _ (by simp only [z]; omega))
  · exact ((a2.block (k _ _ _ (by simp only [z]; omega))).block (k _ _ _ (by simp only [z]; omega))).block (k _ _ _ (by simp only [z]; omega))

/-- A whole packet written into block b. -/
def setP (w : World) (b : Nat) (p : Pk) : World := (((((((((((w.setCell ⟨b, 0, none⟩ (.int .u64 p.to)).setCell ⟨b, 1, none⟩ (.int .u64 p.fr)).setCell ⟨b, 2, none⟩ (.int .i64 p.vl)).setCell ⟨b, 3, none⟩ (.int .i64 p.ty)).setCell ⟨b, 4, none⟩ (.int .u32 p.src)).setCell ⟨b, 5, none⟩ (.int .u32 p.dst)).setCell ⟨b, 6, none⟩ (.int .i64 p.life)).setCell ⟨b, 7, none⟩ (.int .i64 p.pro)).setCell ⟨b, 8, none⟩ (.int .i64 p.sp)).setCell ⟨b, 9, none⟩ (.int .i64 p.dp)).setCell ⟨b, 10, none⟩ (.string p.data))
theorem setP_at {w : World} {b : Nat} {q p : Pk} (h : Bw w b q) : Bw (setP w b p) b p := (((((((((((h.set0 p.to).set1 p.fr).set2 p.vl).set3 p.ty).set4 p.src).set5 p.dst).set6 p.life).set7 p.pro).set8 p.sp).set9 p.dp).set10 p.data)
theorem setP_other (w : World) (b : Nat) (p : Pk) (k : Nat) (h : k ≠ b) : (setP w b p).heap[k]? = w.heap[k]? := ((Below.heap_setCell _ _ _ _ h).trans ((Below.heap_setCell _ _ _ _ h).trans ((Below.heap_setCell _ _ _ _ h).trans ((Below.heap_setCell _ _ _ _ h).trans ((Below.heap_setCell _ _ _ _ h).trans ((Below.heap_setCell _ _ _ _ h).trans ((Below.heap_setCell _ _ _ _ h).trans ((Below.heap_setCell _ _ _ _ h).trans ((Below.heap_setCell _ _ _ _ h).trans ((Below.heap_setCell _ _ _ _ h).trans (Below.heap_setCell _ _ _ _ h)))))))))))
theorem setP_below {B : Nat} {a w : World} (h : Below B a w) {b : Nat} (hb : B ≤ b) (p : Pk) : Below B a (setP w b p) := (((((((((((h.setCell hb _).setCell hb _).setCell hb _).setCell hb _).setCell hb _).setCell hb _).setCell hb _).setCell hb _).setCell hb _).setCell hb _).setCell hb _)
def setS (w : World) (b : Nat) (x y : Int) : World := (w.setCell ⟨b, 0, none⟩ (.int .i64 x)).setCell ⟨b, 1, none⟩ (.int .i64 y)
theorem setS_at {w : World} {b : Nat} {x y x' y' : Int} (h : Sw w b x y) : Sw (setS w b x' y') b x' y' := (h.set0 x').set1 y'
theorem setS_other (w : World) (b : Nat) (x y : Int) (k : Nat) (h : k ≠ b) : (setS w b x y).heap[k]? = w.heap[k]? := (Below.heap_setCell _ _ _ _ h).trans (Below.heap_setCell _ _ _ _ h)
theorem setS_below {B : Nat} {a w : World} (h : Below B a w) {b : Nat} (hb : B ≤ b) (x y : Int) : Below B a (setS w b x y) := (h.setCell hb _).setCell hb _
/-- What 'read' answers out of its two blocks. -/
theorem Bx.drew {w : World} {b : Nat} {p : Pk} (h : Bx w b p) : Bx w.drew b p := h
theorem Sx.drew {w : World} {b : Nat} {x y : Int} (h : Sx w b x y) : Sx w.drew b x y := h
theorem RD.answer {w : World} {n : Nat} {r : RS} {p : Pk} {x y : Int} {w1 : World} (h : RD w n r p x y w1) :
    Bx (setS (setP w1 n p) (n + 1) x y).drew n p ∧ Sx (setS (setP w1 n p) (n + 1) x y).drew (n + 1) x y ∧ Below n w (setS (setP w1 n p) (n + 1) x y).drew := by
  have a1 : Bw (setP w1 n p) n p := setP_at h.rp
  have a2 := a1.block (setS_other (setP w1 n p) (n + 1) x y n (by omega))
  have a3 := h.rs.block (setP_other w1 n p (n + 1) (by omega))
  have a4 : Sw (setS (setP w1 n p) (n + 1) x y) (n + 1) x y := setS_at a3
  have a5 : Below n w (setP w1 n p) := setP_below h.gr (Nat.le_refl _) p
  have a6 : Below n w (setS (setP w1 n p) (n + 1) x y) := setS_below a5 (by omega) x y
  exact ⟨Bx.drew a2.1, Sx.drew a4.1, a6.drew⟩

def tyA (s : ByteArray) : Int := (((⟨s, 0⟩ : RS).skip 6).skip 6).num 2
def rA (s : ByteArray) : RS := (((⟨s, 0⟩ : RS).skip 6).skip 6).skip 2
def plainP (s : ByteArray) : Pk := { pk0 with to := (⟨s, 0⟩ : RS).num 6, fr := ((⟨s, 0⟩ : RS).skip 6).num 6, ty := tyA s }
def taggedP (s : ByteArray) : Pk := { pk0 with to := (⟨s, 0⟩ : RS).num 6, fr := ((⟨s, 0⟩ : RS).skip 6).num 6, vl := 4096 + (rA s).num 2, ty := ((rA s).skip 2).num 2 }
def outerP (s : ByteArray) : Pk := if tyA s = 33024 then taggedP s else plainP s
def outerR (s : ByteArray) : RS := if tyA s = 33024 then ((rA s).skip 2).skip 2 else rA s
def innerP (s : ByteArray) : Pk := if (outerP s).ty = 2048 then portsP (headP (outerP s) (outerR s)) (headR (outerR s)) else outerP s
def innerR (s : ByteArray) : RS := if (outerP s).ty = 2048 then portsR (headP (outerP s) (outerR s)) (headR (outerR s)) else outerR s
/-- The packet that the program reads out of a frame, and its two sums. -/
def readA (s : ByteArray) : Int := if (outerP s).ty = 2048 then headC (outerR s) else 0
def readB (s : ByteArray) : Int := if (outerP s).ty = 2048 then portsC (headP (outerP s) (outerR s)) (headR (outerR s)) else 0
def readV (s : ByteArray) : Pk := { innerP s with data := (innerR s).bytes (innerR s).s.size }

theorem headC_lt (r : RS) : 0 ≤ headC r ∧ headC r < 65536 := RS.num2 _
theorem portsC_lt (p : Pk) (r : RS) : 0 ≤ portsC p r ∧ portsC p r < 65536 := by
  unfold portsC; split
  · split <;> exact RS.num2 _
  · omega

theorem readEnd_any {w : World} {n : Nat} {r : RS} {p : Pk} {x y : Int} {w1 : World} (h : RD w n r p x y w1) : (Bw w1 (n + 2) p) := h.pk

set_option maxHeartbeats 2000000 in
theorem readP_any (s : ByteArray) (w : World) (hs : s.size ≤ maxLen) :
    Calls Try.prog 21 #[.string s] w fun x w' => x = .returned (.tuple #[pkV (readV s), .agg #[.int .i64 (readA s), .int .i64 (readB s)]]) ∧ Below w.heap.size w w' := by
  have HS : Hid (s.size ≤ maxLen) := hs
  clear hs
  by_cases ht : tyA s = 33024
  · have bt : (tyA s == 33024) = true := by simp [ht]
    have eP : outerP s = taggedP s := if_pos ht
    have eR : outerR s = ((rA s).skip 2).skip 2 := if_pos ht
    clear ht
    unfold readV readA readB innerP innerR
    rw [eP, eR]
    have hty : (taggedP s).ty = ((rA s).skip 2).num 2 := rfl
    rw [hty]
    by_cases hi : ((rA s).skip 2).num 2 = 2048
    · have bi : (((rA s).skip 2).num 2 == 2048) = true := by simp [hi]
      simp only [if_pos hi]
      clear hi hty eP eR
      go_enter Try.func21, Try.ntmps21
      go_wp2_with fail
      refine (read_any s _).mono ?_
      rintro x w' ⟨rfl, rfl⟩
      have H0 := RD.new w s HS.out
      go_wp2_with fail
      refine (numR _ (⟨s, 0⟩ : RS) 6 _ H0.sz H0.rd).mono ?_
      rintro x w' ⟨rfl, r1, o1⟩
      have H1 := H0.only r1 o1 (RS.skip_size _ _)
      clear H0 r1 o1
      obtain ⟨l0, l1⟩ := RS.num6 (⟨s, 0⟩ : RS)
      obtain ⟨⟨h0, h1, h2, h3, h4, h5, h6, h7, h8, h9, h10⟩, hf⟩ := H1.pk
      go_wp2_with fail
      have H2 := H1.putP (H1.pk.set0 ((⟨s, 0⟩ : RS).num 6))
      clear H1 h0 h1 h2 h3 h4 h5 h6 h7 h8 h9 h10 hf l0 l1
      refine (numR _ ((⟨s, 0⟩ : RS).skip 6) 6 _ H2.sz H2.rd).mono ?_
      rintro x w' ⟨rfl, r1, o1⟩
      have H3 := H2.only r1 o1 (RS.skip_size _ _)
      clear H2 r1 o1
      obtain ⟨l0, l1⟩ := RS.num6 ((⟨s, 0⟩ : RS).skip 6)
      obtain ⟨⟨h0, h1, h2, h3, h4, h5, h6, h7, h8, h9, h10⟩, hf⟩ := H3.pk
      go_wp2_with fail
      have H4 := H3.putP (H3.pk.set1 (((⟨s, 0⟩ : RS).skip 6).num 6))
      clear H3 h0 h1 h2 h3 h4 h5 h6 h7 h8 h9 h10 hf l0 l1
      refine (numR _ (((⟨s, 0⟩ : RS).skip 6).skip 6) 2 _ H4.sz H4.rd).mono ?_
      rintro x w' ⟨rfl, r1, o1⟩
      have H5 := H4.only r1 o1 (RS.skip_size _ _)
      clear H4 r1 o1
      obtain ⟨l0, l1⟩ := RS.num2 (((⟨s, 0⟩ : RS).skip 6).skip 6)
      rw [show (((⟨s, 0⟩ : RS).skip 6).skip 6).num 2 = tyA s from rfl] at *
      obtain ⟨⟨h0, h1, h2, h3, h4, h5, h6, h7, h8, h9, h10⟩, hf⟩ := H5.pk
      go_wp2_with fail
      have H6 := H5.putP (H5.pk.set3 (tyA s))
      clear H5 h0 h1 h2 h3 h4 h5 h6 h7 h8 h9 h10 hf l0 l1
      refine (numR _ (rA s) 2 _ H6.sz H6.rd).mono ?_
      rintro x w' ⟨rfl, r1, o1⟩
      have H7 := H6.only r1 o1 (RS.skip_size _ _)
      clear H6 r1 o1
      obtain ⟨l0, l1⟩ := RS.num2 (rA s)
      obtain ⟨⟨h0, h1, h2, h3, h4, h5, h6, h7, h8, h9, h10⟩, hf⟩ := H7.pk
      go_wp2_with fail
      have H8 := H7.putP (H7.pk.set2 (4096 + (rA s).num 2))
      clear H7 h0 h1 h2 h3 h4 h5 h6 h7 h8 h9 h10 hf l0 l1
      refine (numR _ ((rA s).skip 2) 2 _ H8.sz H8.rd).mono ?_
      rintro x w' ⟨rfl, r1, o1⟩
      have H9 := H8.only r1 o1 (RS.skip_size _ _)
      clear H8 r1 o1
      obtain ⟨l0, l1⟩ := RS.num2 ((rA s).skip 2)
      obtain ⟨⟨h0, h1, h2, h3, h4, h5, h6, h7, h8, h9, h10⟩, hf⟩ := H9.pk
      go_wp2_with fail
      have H := H9.putP (H9.pk.set3 (((rA s).skip 2).num 2))
      clear H9 h0 h1 h2 h3 h4 h5 h6 h7 h8 h9 h10 hf l0 l1
      refine (readHead_any _ _ (((rA s).skip 2).skip 2) (taggedP s) _ _ (by omega) H.toRP).mono ?_
      rintro x w' ⟨rfl, q1⟩
      have I1 := H.two q1
      clear H q1
      obtain ⟨⟨k0, k1⟩, kf⟩ := I1.sm
      go_wp2_with fail
      have I2 := I1.putS (I1.sm.set0 (headC (((rA s).skip 2).skip 2)))
      clear I1 k0 k1 kf
      refine (readPorts_any _ _ (headR (((rA s).skip 2).skip 2)) (headP (taggedP s) (((rA s).skip 2).skip 2)) _ _ (by omega) (by have := I2.lt; exact this) (by have := I2.lt; exact Nat.lt_of_le_of_lt (by omega) this) I2.toRP).mono ?_
      rintro x w' ⟨rfl, q1⟩
      have I3 := I2.two q1
      clear I2 q1
      obtain ⟨⟨k0, k1⟩, kf⟩ := I3.sm
      go_wp2_with fail
      have I := I3.putS (I3.sm.set1 (portsC (headP (taggedP s) (((rA s).skip 2).skip 2)) (headR (((rA s).skip 2).skip 2))))
      clear I3 k0 k1 kf
      refine (left_any _ (portsR (headP (taggedP s) (((rA s).skip 2).skip 2)) (headR (((rA s).skip 2).skip 2))).s (portsR (headP (taggedP s) (((rA s).skip 2).skip 2)) (headR (((rA s).skip 2).skip 2))).e _ I.rd).mono ?_
      rintro x w' ⟨rfl, rfl⟩
      have hl := I.sz
      unfold maxLen at hl
      go_wp2_with fail
      refine (bytesR _ (portsR (headP (taggedP s) (((rA s).skip 2).skip 2)) (headR (((rA s).skip 2).skip 2))) _ _ I.rd).mono ?_
      rintro x w' ⟨rfl, r1, o1⟩
      have J := I.only r1 o1 (RS.jump_size _ _)
      clear I r1 o1
      obtain ⟨⟨h0, h1, h2, h3, h4, h5, h6, h7, h8, h9, h10⟩, hf⟩ := J.pk
      go_wp2_with fail
      have L := J.putP (J.pk.set10 ((portsR (headP (taggedP s) (((rA s).skip 2).skip 2)) (headR (((rA s).skip 2).skip 2))).bytes (portsR (headP (taggedP s) (((rA s).skip 2).skip 2)) (headR (((rA s).skip 2).skip 2))).s.size))
      clear J h0 h1 h2 h3 h4 h5 h6 h7 h8 h9 h10 hf hl
      generalize hx : (headC (((rA s).skip 2).skip 2) : Int) = x at L
      generalize hy : (portsC (headP (taggedP s) (((rA s).skip 2).skip 2)) (headR (((rA s).skip 2).skip 2)) : Int) = y at L
      generalize hp : Pk.mk _ _ _ _ _ _ _ _ _ _ _ = p at L
      generalize World.setCell _ _ _ = wz at L ⊢
      have HX : Hid ((headC (((rA s).skip 2).skip 2) : Int) = x) := hx
      have HY : Hid ((portsC (headP (taggedP s) (((rA s).skip 2).skip 2)) (headR (((rA s).skip 2).skip 2)) : Int) = y) := hy
      have HP : Hid (_ = p) := hp
      clear hx hy hp
      obtain ⟨⟨h0, h1, h2, h3, h4, h5, h6, h7, h8, h9, h10⟩, hf⟩ := L.pk
      obtain ⟨⟨k0, k1⟩, kf⟩ := L.sm
      obtain ⟨⟨i0, i1, i2, i3, i4, i5, i6, i7, i8, i9, i10⟩, if0⟩ := L.rp
      obtain ⟨⟨j0, j1⟩, jf⟩ := L.rs
      go_region
      go_wp2
      obtain ⟨A1, A2, A3⟩ := L.answer
      unfold setS setP at A1 A2 A3
      refine bodyPost_ret (res2540 (p := p) (x := x) (y := y) rfl rfl rfl A1 A2) rfl ?_
      exact ⟨by (rw [← HX.out, ← HY.out, ← HP.out]) <;> rfl, A3⟩
    · have bi : (((rA s).skip 2).num 2 == 2048) = false := by simp [hi]
      simp only [if_neg hi]
      clear hi hty eP eR
      go_enter Try.func21, Try.ntmps21
      go_wp2_with fail
      refine (read_any s _).mono ?_
      rintro x w' ⟨rfl, rfl⟩
      have H0 := RD.new w s HS.out
      go_wp2_with fail
      refine (numR _ (⟨s, 0⟩ : RS) 6 _ H0.sz H0.rd).mono ?_
      rintro x w' ⟨rfl, r1, o1⟩
      have H1 := H0.only r1 o1 (RS.skip_size _ _)
      clear H0 r1 o1
      obtain ⟨l0, l1⟩ := RS.num6 (⟨s, 0⟩ : RS)
      obtain ⟨⟨h0, h1, h2, h3, h4, h5, h6, h7, h8, h9, h10⟩, hf⟩ := H1.pk
      go_wp2_with fail
      have H2 := H1.putP (H1.pk.set0 ((⟨s, 0⟩ : RS).num 6))
      clear H1 h0 h1 h2 h3 h4 h5 h6 h7 h8 h9 h10 hf l0 l1
      refine (numR _ ((⟨s, 0⟩ : RS).skip 6) 6 _ H2.sz H2.rd).mono ?_
      rintro x w' ⟨rfl, r1, o1⟩
      have H3 := H2.only r1 o1 (RS.skip_size _ _)
      clear H2 r1 o1
      obtain ⟨l0, l1⟩ := RS.num6 ((⟨s, 0⟩ : RS).skip 6)
      obtain ⟨⟨h0, h1, h2, h3, h4, h5, h6, h7, h8, h9, h10⟩, hf⟩ := H3.pk
      go_wp2_with fail
      have H4 := H3.putP (H3.pk.set1 (((⟨s, 0⟩ : RS).skip 6).num 6))
      clear H3 h0 h1 h2 h3 h4 h5 h6 h7 h8 h9 h10 hf l0 l1
      refine (numR _ (((⟨s, 0⟩ : RS).skip 6).skip 6) 2 _ H4.sz H4.rd).mono ?_
      rintro x w' ⟨rfl, r1, o1⟩
      have H5 := H4.only r1 o1 (RS.skip_size _ _)
      clear H4 r1 o1
      obtain ⟨l0, l1⟩ := RS.num2 (((⟨s, 0⟩ : RS).skip 6).skip 6)
      rw [show (((⟨s, 0⟩ : RS).skip 6).skip 6).num 2 = tyA s from rfl] at *
      obtain ⟨⟨h0, h1, h2, h3, h4, h5, h6, h7, h8, h9, h10⟩, hf⟩ := H5.pk
      go_wp2_with fail
      have H6 := H5.putP (H5.pk.set3 (tyA s))
      clear H5 h0 h1 h2 h3 h4 h5 h6 h7 h8 h9 h10 hf l0 l1
      refine (numR _ (rA s) 2 _ H6.sz H6.rd).mono ?_
      rintro x w' ⟨rfl, r1, o1⟩
      have H7 := H6.only r1 o1 (RS.skip_size _ _)
      clear H6 r1 o1
      obtain ⟨l0, l1⟩ := RS.num2 (rA s)
      obtain ⟨⟨h0, h1, h2, h3, h4, h5, h6, h7, h8, h9, h10⟩, hf⟩ := H7.pk
      go_wp2_with fail
      have H8 := H7.putP (H7.pk.set2 (4096 + (rA s).num 2))
      clear H7 h0 h1 h2 h3 h4 h5 h6 h7 h8 h9 h10 hf l0 l1
      refine (numR _ ((rA s).skip 2) 2 _ H8.sz H8.rd).mono ?_
      rintro x w' ⟨rfl, r1, o1⟩
      have H9 := H8.only r1 o1 (RS.skip_size _ _)
      clear H8 r1 o1
      obtain ⟨l0, l1⟩ := RS.num2 ((rA s).skip 2)
      obtain ⟨⟨h0, h1, h2, h3, h4, h5, h6, h7, h8, h9, h10⟩, hf⟩ := H9.pk
      go_wp2_with fail
      have H := H9.putP (H9.pk.set3 (((rA s).skip 2).num 2))
      clear H9 h0 h1 h2 h3 h4 h5 h6 h7 h8 h9 h10 hf l0 l1
      have I := H
      clear H
      refine (left_any _ (((rA s).skip 2).skip 2).s (((rA s).skip 2).skip 2).e _ I.rd).mono ?_
      rintro x w' ⟨rfl, rfl⟩
      have hl := I.sz
      unfold maxLen at hl
      go_wp2_with fail
      refine (bytesR _ (((rA s).skip 2).skip 2) _ _ I.rd).mono ?_
      rintro x w' ⟨rfl, r1, o1⟩
      have J := I.only r1 o1 (RS.jump_size _ _)
      clear I r1 o1
      obtain ⟨⟨h0, h1, h2, h3, h4, h5, h6, h7, h8, h9, h10⟩, hf⟩ := J.pk
      go_wp2_with fail
      have L := J.putP (J.pk.set10 ((((rA s).skip 2).skip 2).bytes (((rA s).skip 2).skip 2).s.size))
      clear J h0 h1 h2 h3 h4 h5 h6 h7 h8 h9 h10 hf hl
      generalize hp : Pk.mk _ _ _ _ _ _ _ _ _ _ _ = p at L
      generalize World.setCell _ _ _ = wz at L ⊢
      have HP : Hid (_ = p) := hp
      clear hp
      obtain ⟨⟨h0, h1, h2, h3, h4, h5, h6, h7, h8, h9, h10⟩, hf⟩ := L.pk
      obtain ⟨⟨k0, k1⟩, kf⟩ := L.sm
      obtain ⟨⟨i0, i1, i2, i3, i4, i5, i6, i7, i8, i9, i10⟩, if0⟩ := L.rp
      obtain ⟨⟨j0, j1⟩, jf⟩ := L.rs
      go_region
      go_wp2
      obtain ⟨A1, A2, A3⟩ := L.answer
      unfold setS setP at A1 A2 A3
      refine bodyPost_ret (res2540 (p := p) (x := 0) (y := 0) rfl rfl rfl A1 A2) rfl ?_
      exact ⟨by (rw [← HP.out]) <;> rfl, A3⟩
  · have bt : (tyA s == 33024) = false := by simp [ht]
    have eP : outerP s = plainP s := if_neg ht
    have eR : outerR s = rA s := if_neg ht
    clear ht
    unfold readV readA readB innerP innerR
    rw [eP, eR]
    have hty : (plainP s).ty = tyA s := rfl
    rw [hty]
    by_cases hi : tyA s = 2048
    · have bi : (tyA s == 2048) = true := by simp [hi]
      simp only [if_pos hi]
      clear hi hty eP eR
      go_enter Try.func21, Try.ntmps21
      go_wp2_with fail
      refine (read_any s _).mono ?_
      rintro x w' ⟨rfl, rfl⟩
      have H0 := RD.new w s HS.out
      go_wp2_with fail
      refine (numR _ (⟨s, 0⟩ : RS) 6 _ H0.sz H0.rd).mono ?_
      rintro x w' ⟨rfl, r1, o1⟩
      have H1 := H0.only r1 o1 (RS.skip_size _ _)
      clear H0 r1 o1
      obtain ⟨l0, l1⟩ := RS.num6 (⟨s, 0⟩ : RS)
      obtain ⟨⟨h0, h1, h2, h3, h4, h5, h6, h7, h8, h9, h10⟩, hf⟩ := H1.pk
      go_wp2_with fail
      have H2 := H1.putP (H1.pk.set0 ((⟨s, 0⟩ : RS).num 6))
      clear H1 h0 h1 h2 h3 h4 h5 h6 h7 h8 h9 h10 hf l0 l1
      refine (numR _ ((⟨s, 0⟩ : RS).skip 6) 6 _ H2.sz H2.rd).mono ?_
      rintro x w' ⟨rfl, r1, o1⟩
      have H3 := H2.only r1 o1 (RS.skip_size _ _)
      clear H2 r1 o1
      obtain ⟨l0, l1⟩ := RS.num6 ((⟨s, 0⟩ : RS).skip 6)
      obtain ⟨⟨h0, h1, h2, h3, h4, h5, h6, h7, h8, h9, h10⟩, hf⟩ := H3.pk
      go_wp2_with fail
      have H4 := H3.putP (H3.pk.set1 (((⟨s, 0⟩ : RS).skip 6).num 6))
      clear H3 h0 h1 h2 h3 h4 h5 h6 h7 h8 h9 h10 hf l0 l1
      refine (numR _ (((⟨s, 0⟩ : RS).skip 6).skip 6) 2 _ H4.sz H4.rd).mono ?_
      rintro x w' ⟨rfl, r1, o1⟩
      have H5 := H4.only r1 o1 (RS.skip_size _ _)
      clear H4 r1 o1
      obtain ⟨l0, l1⟩ := RS.num2 (((⟨s, 0⟩ : RS).skip 6).skip 6)
      rw [show (((⟨s, 0⟩ : RS).skip 6).skip 6).num 2 = tyA s from rfl] at *
      obtain ⟨⟨h0, h1, h2, h3, h4, h5, h6, h7, h8, h9, h10⟩, hf⟩ := H5.pk
      go_wp2_with fail
      have H := H5.putP (H5.pk.set3 (tyA s))
      clear H5 h0 h1 h2 h3 h4 h5 h6 h7 h8 h9 h10 hf l0 l1
      refine (readHead_any _ _ (rA s) (plainP s) _ _ (by omega) H.toRP).mono ?_
      rintro x w' ⟨rfl, q1⟩
      have I1 := H.two q1
      clear H q1
      obtain ⟨⟨k0, k1⟩, kf⟩ := I1.sm
      go_wp2_with fail
      have I2 := I1.putS (I1.sm.set0 (headC (rA s)))
      clear I1 k0 k1 kf
      refine (readPorts_any _ _ (headR (rA s)) (headP (plainP s) (rA s)) _ _ (by omega) (by have := I2.lt; exact this) (by have := I2.lt; exact Nat.lt_of_le_of_lt (by omega) this) I2.toRP).mono ?_
      rintro x w' ⟨rfl, q1⟩
      have I3 := I2.two q1
      clear I2 q1
      obtain ⟨⟨k0, k1⟩, kf⟩ := I3.sm
      go_wp2_with fail
      have I := I3.putS (I3.sm.set1 (portsC (headP (plainP s) (rA s)) (headR (rA s))))
      clear I3 k0 k1 kf
      refine (left_any _ (portsR (headP (plainP s) (rA s)) (headR (rA s))).s (portsR (headP (plainP s) (rA s)) (headR (rA s))).e _ I.rd).mono ?_
      rintro x w' ⟨rfl, rfl⟩
      have hl := I.sz
      unfold maxLen at hl
      go_wp2_with fail
      refine (bytesR _ (portsR (headP (plainP s) (rA s)) (headR (rA s))) _ _ I.rd).mono ?_
      rintro x w' ⟨rfl, r1, o1⟩
      have J := I.only r1 o1 (RS.jump_size _ _)
      clear I r1 o1
      obtain ⟨⟨h0, h1, h2, h3, h4, h5, h6, h7, h8, h9, h10⟩, hf⟩ := J.pk
      go_wp2_with fail
      have L := J.putP (J.pk.set10 ((portsR (headP (plainP s) (rA s)) (headR (rA s))).bytes (portsR (headP (plainP s) (rA s)) (headR (rA s))).s.size))
      clear J h0 h1 h2 h3 h4 h5 h6 h7 h8 h9 h10 hf hl
      generalize hx : (headC (rA s) : Int) = x at L
      generalize hy : (portsC (headP (plainP s) (rA s)) (headR (rA s)) : Int) = y at L
      generalize hp : Pk.mk _ _ _ _ _ _ _ _ _ _ _ = p at L
      generalize World.setCell _ _ _ = wz at L ⊢
      have HX : Hid ((headC (rA s) : Int) = x) := hx
      have HY : Hid ((portsC (headP (plainP s) (rA s)) (headR (rA s)) : Int) = y) := hy
      have HP : Hid (_ = p) := hp
      clear hx hy hp
      obtain ⟨⟨h0, h1, h2, h3, h4, h5, h6, h7, h8, h9, h10⟩, hf⟩ := L.pk
      obtain ⟨⟨k0, k1⟩, kf⟩ := L.sm
      obtain ⟨⟨i0, i1, i2, i3, i4, i5, i6, i7, i8, i9, i10⟩, if0⟩ := L.rp
      obtain ⟨⟨j0, j1⟩, jf⟩ := L.rs
      go_region
      go_wp2
      obtain ⟨A1, A2, A3⟩ := L.answer
      unfold setS setP at A1 A2 A3
      refine bodyPost_ret (res2540 (p := p) (x := x) (y := y) rfl rfl rfl A1 A2) rfl ?_
      exact ⟨by (rw [← HX.out, ← HY.out, ← HP.out]) <;> rfl, A3⟩
    · have bi : (tyA s == 2048) = false := by simp [hi]
      simp only [if_neg hi]
      clear hi hty eP eR
      go_enter Try.func21, Try.ntmps21
      go_wp2_with fail
      refine (read_any s _).mono ?_
      rintro x w' ⟨rfl, rfl⟩
      have H0 := RD.new w s HS.out
      go_wp2_with fail
      refine (numR _ (⟨s, 0⟩ : RS) 6 _ H0.sz H0.rd).mono ?_
      rintro x w' ⟨rfl, r1, o1⟩
      have H1 := H0.only r1 o1 (RS.skip_size _ _)
      clear H0 r1 o1
      obtain ⟨l0, l1⟩ := RS.num6 (⟨s, 0⟩ : RS)
      obtain ⟨⟨h0, h1, h2, h3, h4, h5, h6, h7, h8, h9, h10⟩, hf⟩ := H1.pk
      go_wp2_with fail
      have H2 := H1.putP (H1.pk.set0 ((⟨s, 0⟩ : RS).num 6))
      clear H1 h0 h1 h2 h3 h4 h5 h6 h7 h8 h9 h10 hf l0 l1
      refine (numR _ ((⟨s, 0⟩ : RS).skip 6) 6 _ H2.sz H2.rd).mono ?_
      rintro x w' ⟨rfl, r1, o1⟩
      have H3 := H2.only r1 o1 (RS.skip_size _ _)
      clear H2 r1 o1
      obtain ⟨l0, l1⟩ := RS.num6 ((⟨s, 0⟩ : RS).skip 6)
      obtain ⟨⟨h0, h1, h2, h3, h4, h5, h6, h7, h8, h9, h10⟩, hf⟩ := H3.pk
      go_wp2_with fail
      have H4 := H3.putP (H3.pk.set1 (((⟨s, 0⟩ : RS).skip 6).num 6))
      clear H3 h0 h1 h2 h3 h4 h5 h6 h7 h8 h9 h10 hf l0 l1
      refine (numR _ (((⟨s, 0⟩ : RS).skip 6).skip 6) 2 _ H4.sz H4.rd).mono ?_
      rintro x w' ⟨rfl, r1, o1⟩
      have H5 := H4.only r1 o1 (RS.skip_size _ _)
      clear H4 r1 o1
      obtain ⟨l0, l1⟩ := RS.num2 (((⟨s, 0⟩ : RS).skip 6).skip 6)
      rw [show (((⟨s, 0⟩ : RS).skip 6).skip 6).num 2 = tyA s from rfl] at *
      obtain ⟨⟨h0, h1, h2, h3, h4, h5, h6, h7, h8, h9, h10⟩, hf⟩ := H5.pk
      go_wp2_with fail
      have H := H5.putP (H5.pk.set3 (tyA s))
      clear H5 h0 h1 h2 h3 h4 h5 h6 h7 h8 h9 h10 hf l0 l1
      have I := H
      clear H
      refine (left_any _ (rA s).s (rA s).e _ I.rd).mono ?_
      rintro x w' ⟨rfl, rfl⟩
      have hl := I.sz
      unfold maxLen at hl
      go_wp2_with fail
      refine (bytesR _ (rA s) _ _ I.rd).mono ?_
      rintro x w' ⟨rfl, r1, o1⟩
      have J := I.only r1 o1 (RS.jump_size _ _)
      clear I r1 o1
      obtain ⟨⟨h0, h1, h2, h3, h4, h5, h6, h7, h8, h9, h10⟩, hf⟩ := J.pk
      go_wp2_with fail
      have L := J.putP (J.pk.set10 ((rA s).bytes (rA s).s.size))
      clear J h0 h1 h2 h3 h4 h5 h6 h7 h8 h9 h10 hf hl
      generalize hp : Pk.mk _ _ _ _ _ _ _ _ _ _ _ = p at L
      generalize World.setCell _ _ _ = wz at L ⊢
      have HP : Hid (_ = p) := hp
      clear hp
      obtain ⟨⟨h0, h1, h2, h3, h4, h5, h6, h7, h8, h9, h10⟩, hf⟩ := L.pk
      obtain ⟨⟨k0, k1⟩, kf⟩ := L.sm
      obtain ⟨⟨i0, i1, i2, i3, i4, i5, i6, i7, i8, i9, i10⟩, if0⟩ := L.rp
      obtain ⟨⟨j0, j1⟩, jf⟩ := L.rs
      go_region
      go_wp2
      obtain ⟨A1, A2, A3⟩ := L.answer
      unfold setS setP at A1 A2 A3
      refine bodyPost_ret (res2540 (p := p) (x := 0) (y := 0) rfl rfl rfl A1 A2) rfl ?_
      exact ⟨by (rw [← HP.out]) <;> rfl, A3⟩
end Go.Proofs.Ytldbbbhoemnlmaa

/-
  What 'readHead' and 'readPorts' do, as contracts: they write into the packet's block and the reader's alone.
-/
import Derived.Test.YtldbbbhoemnlmaaBlocks
namespace Go.Proofs.Ytldbbbhoemnlmaa
open Go.ChangeShapes Go.WideShapes Go.ChangeAt Go.RowKit

/-- A reader at block b, a packet at block c. -/
structure RP (w0 : World) (b c : Nat) (r : RS) (p : Pk) (w : World) : Prop where
  rd : Rd w b r.s r.e
  pk : Bw w c p
  two : Two b c w0 w
  sz : r.s.size ≤ maxLen
theorem RP.only {w0 : World} {b c : Nat} {r : RS} {p : Pk} {w w' : World} (h : RP w0 b c r p w) (hne : b ≠ c) {r' : RS} (rd : Rd w' b r'.s r'.e) (g : Only b w w') (hs : r'.s.size ≤ r.s.size) : RP w0 b c r' p w' :=
  ⟨rd, h.pk.only g (Ne.symm hne), h.two.only g, Nat.le_trans hs h.sz⟩

theorem RP.put {w0 : World} {b c : Nat} {r : RS} {p p' : Pk} {w : World} {o : Nat} {v : Value} (h : RP w0 b c r p w) (hne : b ≠ c) (hp : Bw (w.setCell ⟨c, o, none⟩ v) c p') : RP w0 b c r p' (w.setCell ⟨c, o, none⟩ v) :=
  ⟨h.rd.set hne _ _, hp, h.two.set _ _, h.sz⟩
theorem RS.num1 (r : RS) : 0 ≤ r.num 1 ∧ r.num 1 < 256 := by have := RS.num_lt r 1 (by omega); simpa using this
theorem RS.num2 (r : RS) : 0 ≤ r.num 2 ∧ r.num 2 < 65536 := by have := RS.num_lt r 2 (by omega); simpa using this
theorem RS.num4 (r : RS) : 0 ≤ r.num 4 ∧ r.num 4 < 4294967296 := by have := RS.num_lt r 4 (by omega); simpa using this
theorem RS.num6 (r : RS) : 0 ≤ r.num 6 ∧ r.num 6 < 281474976710656 := by have := RS.num_lt r 6 (by omega); simpa using this

theorem numR (b : Nat) (r : RS) (n : Int) (w : World) (hs : r.s.size ≤ maxLen) (h : Rd w b r.s r.e) :
    Calls Try.prog 39 #[.pointer (some ⟨b, 0, none⟩), .int .i64 n] w fun x w' => x = .returned (.int .u64 (r.num n)) ∧ Rd w' b (r.skip n).s (r.skip n).e ∧ Only b w w' := num_any b r.s r.e n w hs h
theorem bytesR (b : Nat) (r : RS) (n : Int) (w : World) (h : Rd w b r.s r.e) :
    Calls Try.prog 42 #[.pointer (some ⟨b, 0, none⟩), .int .i64 n] w fun x w' => x = .returned (.string (r.bytes n)) ∧ Rd w' b (r.jump n).s (r.jump n).e ∧ Only b w w' := bytes_any b r.s r.e n w h

def headP (p : Pk) (r : RS) : Pk := { p with life := (r.jump 8).num 1, pro := ((r.jump 8).skip 1).num 1, src := ((((r.jump 8).skip 1).skip 1).skip 2).num 4, dst := (((((r.jump 8).skip 1).skip 1).skip 2).skip 4).num 4 }
def headC (r : RS) : Int := (((r.jump 8).skip 1).skip 1).num 2
def headR (r : RS) : RS := (((((r.jump 8).skip 1).skip 1).skip 2).skip 4).skip 4

set_option maxHeartbeats 1000000 in
theorem readHead_any (b c : Nat) (r : RS) (p : Pk) (w0 w : World) (hne : b ≠ c) (h : RP w0 b c r p w) :
    Calls Try.prog 40 #[.pointer (some ⟨b, 0, none⟩), .pointer (some ⟨c, 0, none⟩)] w fun x w' => x = .returned (.int .i64 (headC r)) ∧ RP w0 b c (headR r) (headP p r) w' := by
  go_enter Try.func40, Try.ntmps40
  go_wp2_with fail
  refine (bytesR b _ 8 _ h.rd).mono ?_
  rintro x w' ⟨rfl, r1, o1⟩
  have H1 := h.only hne r1 o1 (RS.jump_size _ _)
  clear h r1 o1
  go_wp2_with fail
  refine (numR b _ 1 _ H1.sz H1.rd).mono ?_
  rintro x w' ⟨rfl, r1, o1⟩
  have H2 := H1.only hne r1 o1 (RS.skip_size _ _)
  clear H1 r1 o1
  obtain ⟨l0, l1⟩ := RS.num1 (r.jump 8)
  obtain ⟨⟨h0, h1, h2, h3, h4, h5, h6, h7, h8, h9, h10⟩, hf⟩ := H2.pk
  go_wp2_with fail
  have H3 := H2.put hne (H2.pk.set6 ((r.jump 8).num 1))
  clear H2 h0 h1 h2 h3 h4 h5 h6 h7 h8 h9 h10 hf l0 l1
  refine (numR b _ 1 _ H3.sz H3.rd).mono ?_
  rintro x w' ⟨rfl, r1, o1⟩
  have H4 := H3.only hne r1 o1 (RS.skip_size _ _)
  clear H3 r1 o1
  obtain ⟨l0, l1⟩ := RS.num1 ((r.jump 8).skip 1)
  obtain ⟨⟨h0, h1, h2, h3, h4, h5, h6, h7, h8, h9, h10⟩, hf⟩ := H4.pk
  go_wp2_with fail
  have H5 := H4.put hne (H4.pk.set7 (((r.jump 8).skip 1).num 1))
  clear H4 h0 h1 h2 h3 h4 h5 h6 h7 h8 h9 h10 hf l0 l1
  refine (numR b _ 2 _ H5.sz H5.rd).mono ?_
  rintro x w' ⟨rfl, r1, o1⟩
  have H6 := H5.only hne r1 o1 (RS.skip_size _ _)
  clear H5 r1 o1
  obtain ⟨l0, l1⟩ := RS.num2 (((r.jump 8).skip 1).skip 1)
  go_wp2_with fail
  clear l0 l1
  refine (numR b _ 4 _ H6.sz H6.rd).mono ?_
  rintro x w' ⟨rfl, r1, o1⟩
  have H7 := H6.only hne r1 o1 (RS.skip_size _ _)
  clear H6 r1 o1
  obtain ⟨l0, l1⟩ := RS.num4 ((((r.jump 8).skip 1).skip 1).skip 2)
  obtain ⟨⟨h0, h1, h2, h3, h4, h5, h6, h7, h8, h9, h10⟩, hf⟩ := H7.pk
  go_wp2_with fail
  have H8 := H7.put hne (H7.pk.set4 (((((r.jump 8).skip 1).skip 1).skip 2).num 4))
  clear H7 h0 h1 h2 h3 h4 h5 h6 h7 h8 h9 h10 hf l0 l1
  refine (numR b _ 4 _ H8.sz H8.rd).mono ?_
  rintro x w' ⟨rfl, r1, o1⟩
  have H9 := H8.only hne r1 o1 (RS.skip_size _ _)
  clear H8 r1 o1
  obtain ⟨l0, l1⟩ := RS.num4 (((((r.jump 8).skip 1).skip 1).skip 2).skip 4)
  obtain ⟨⟨h0, h1, h2, h3, h4, h5, h6, h7, h8, h9, h10⟩, hf⟩ := H9.pk
  go_wp2_with fail
  go_ret
  exact ⟨rfl, H9.put hne (H9.pk.set5 _)⟩

def portsP (p : Pk) (r : RS) : Pk := if hasB p = true then { p with sp := r.num 2, dp := (r.skip 2).num 2 } else p
def portsC (p : Pk) (r : RS) : Int := if hasB p = true then (if p.pro = 17 then (((r.skip 2).skip 2).jump 2).num 2 else (((r.skip 2).skip 2).jump 12).num 2) else 0
def portsR (p : Pk) (r : RS) : RS := if hasB p = true then (if p.pro = 17 then (((r.skip 2).skip 2).jump 2).skip 2 else ((((r.skip 2).skip 2).jump 12).skip 2).jump 2) else r

theorem RP.below {w0 : World} {b c : Nat} {r : RS} {p : Pk} {w w' : World} (h : RP w0 b c r p w) (hb : b < w.heap.size) (hc : c < w.heap.size) (g : Below w.heap.size w w') : RP w0 b c r p w' :=
  ⟨h.rd.block (g.block b hb), h.pk.below hc g, h.two.below g, h.sz⟩

set_option maxHeartbeats 1000000 in
theorem readPorts_any (b c : Nat) (r : RS) (p : Pk) (w0 w : World) (hne : b ≠ c) (hb : b < w.heap.size) (hc : c < w.heap.size) (h : RP w0 b c r p w) :
    Calls Try.prog 41 #[.pointer (some ⟨b, 0, none⟩), .pointer (some ⟨c, 0, none⟩)] w fun x w' => x = .returned (.int .i64 (portsC p r)) ∧ RP w0 b c (portsR p r) (portsP p r) w' := by
  unfold portsC portsR portsP
  cases hh : hasB p
  · rw [if_neg (by simp), if_neg (by simp), if_neg (by simp)]
    obtain ⟨⟨h0, h1, h2, h3, h4, h5, h6, h7, h8, h9, h10⟩, hf⟩ := h.pk
    go_enter Try.func41, Try.ntmps41
    go_wp2_with fail
    refine (hasPorts_any p _).mono ?_
    rintro x w1 ⟨rfl, g1⟩
    have H1 := h.below hb hc g1
    go_wp2_with fail
    go_ret
    exact ⟨rfl, H1⟩
  rw [if_pos rfl, if_pos rfl, if_pos rfl]
  by_cases h17 : p.pro = 17
  · rw [if_pos h17, if_pos h17]
    have b17 : (p.pro == 17) = true := by simp [h17]
    clear h17
    obtain ⟨⟨h0, h1, h2, h3, h4, h5, h6, h7, h8, h9, h10⟩, hf⟩ := h.pk
    go_enter Try.func41, Try.ntmps41
    go_wp2_with fail
    refine (hasPorts_any p _).mono ?_
    rintro x w1 ⟨rfl, g1⟩
    have H1 := h.below hb hc g1
    clear h hb hc g1 h0 h1 h2 h3 h4 h5 h6 h7 h8 h9 h10 hf
    go_wp2_with fail
    refine (numR b _ 2 _ H1.sz H1.rd).mono ?_
    rintro x w' ⟨rfl, r1, o1⟩
    have H2 := H1.only hne r1 o1 (RS.skip_size _ _)
    clear H1 r1 o1
    obtain ⟨l0, l1⟩ := RS.num2 (r)
    obtain ⟨⟨h0, h1, h2, h3, h4, h5, h6, h7, h8, h9, h10⟩, hf⟩ := H2.pk
    go_wp2_with fail
    have H3 := H2.put hne (H2.pk.set8 ((r).num 2))
    clear H2 h0 h1 h2 h3 h4 h5 h6 h7 h8 h9 h10 hf l0 l1
    refine (numR b _ 2 _ H3.sz H3.rd).mono ?_
    rintro x w' ⟨rfl, r1, o1⟩
    have H4 := H3.only hne r1 o1 (RS.skip_size _ _)
    clear H3 r1 o1
    obtain ⟨l0, l1⟩ := RS.num2 (r.skip 2)
    obtain ⟨⟨h0, h1, h2, h3, h4, h5, h6, h7, h8, h9, h10⟩, hf⟩ := H4.pk
    go_wp2_with fail
    have H5 := H4.put hne (H4.pk.set9 ((r.skip 2).num 2))
    clear H4 h0 h1 h2 h3 h4 h5 h6 h7 h8 h9 h10 hf l0 l1
    refine (bytesR b _ 2 _ H5.rd).mono ?_
    rintro x w' ⟨rfl, r1, o1⟩
    have H6 := H5.only hne r1 o1 (RS.jump_size _ _)
    clear H5 r1 o1
    go_wp2_with fail
    refine (numR b _ 2 _ H6.sz H6.rd).mono ?_
    rintro x w' ⟨rfl, r1, o1⟩
    have H7 := H6.only hne r1 o1 (RS.skip_size _ _)
    clear H6 r1 o1
    obtain ⟨l0, l1⟩ := RS.num2 (((r.skip 2).skip 2).jump 2)
    go_wp2_with fail
    go_ret
    exact ⟨rfl, H7⟩
  · rw [if_neg h17, if_neg h17]
    have b17 : (p.pro == 17) = false := by simp [h17]
    clear h17
    obtain ⟨⟨h0, h1, h2, h3, h4, h5, h6, h7, h8, h9, h10⟩, hf⟩ := h.pk
    go_enter Try.func41, Try.ntmps41
    go_wp2_with fail
    refine (hasPorts_any p _).mono ?_
    rintro x w1 ⟨rfl, g1⟩
    have H1 := h.below hb hc g1
    clear h hb hc g1 h0 h1 h2 h3 h4 h5 h6 h7 h8 h9 h10 hf
    go_wp2_with fail
    refine (numR b _ 2 _ H1.sz H1.rd).mono ?_
    rintro x w' ⟨rfl, r1, o1⟩
    have H2 := H1.only hne r1 o1 (RS.skip_size _ _)
    clear H1 r1 o1
    obtain ⟨l0, l1⟩ := RS.num2 (r)
    obtain ⟨⟨h0, h1, h2, h3, h4, h5, h6, h7, h8, h9, h10⟩, hf⟩ := H2.pk
    go_wp2_with fail
    have H3 := H2.put hne (H2.pk.set8 ((r).num 2))
    clear H2 h0 h1 h2 h3 h4 h5 h6 h7 h8 h9 h10 hf l0 l1
    refine (numR b _ 2 _ H3.sz H3.rd).mono ?_
    rintro x w' ⟨rfl, r1, o1⟩
    have H4 := H3.only hne r1 o1 (RS.skip_size _ _)
    clear H3 r1 o1
    obtain ⟨l0, l1⟩ := RS.num2 (r.skip 2)
    obtain ⟨⟨h0, h1, h2, h3, h4, h5, h6, h7, h8, h9, h10⟩, hf⟩ := H4.pk
    go_wp2_with fail
    have H5 := H4.put hne (H4.pk.set9 ((r.skip 2).num 2))
    clear H4 h0 h1 h2 h3 h4 h5 h6 h7 h8 h9 h10 hf l0 l1
    refine (bytesR b _ 12 _ H5.rd).mono ?_
    rintro x w' ⟨rfl, r1, o1⟩
    have H6 := H5.only hne r1 o1 (RS.jump_size _ _)
    clear H5 r1 o1
    go_wp2_with fail
    refine (numR b _ 2 _ H6.sz H6.rd).mono ?_
    rintro x w' ⟨rfl, r1, o1⟩
    have H7 := H6.only hne r1 o1 (RS.skip_size _ _)
    clear H6 r1 o1
    obtain ⟨l0, l1⟩ := RS.num2 (((r.skip 2).skip 2).jump 12)
    go_wp2_with fail
    refine (bytesR b _ 2 _ H7.rd).mono ?_
    rintro x w' ⟨rfl, r1, o1⟩
    have H8 := H7.only hne r1 o1 (RS.jump_size _ _)
    clear H7 r1 o1
    go_wp2_with fail
    go_ret
    exact ⟨rfl, H8⟩
end Go.Proofs.Ytldbbbhoemnlmaa

/-
  A link is put: its cost behind the others, and both its ends.
-/
import Derived.Test.YtcjojcaahpkacaaLead
import Derived.Deep.RegionLaw
import Derived.Maps.AppendAt
namespace Go.Proofs.Ytcjojcaahpkacaa
open Go.ChangeShapes Go.WideShapes Go.ChangeAt Go.RowKit
set_option linter.unusedVariables false

theorem step_append_own {P : Program} {ops : Array Oper} {o : Oper} {a : Go.Act} {w : World} {K : Go.Act → World → Prop} {Q : Exit → Go.Act → World → Prop} {E : Prop} (hg : o.guard = none) (s x : Operand) (t : TypeId)
    (ho : o.op = .call { callee := .builtin .append, args := #[s, x], argTypes := #[t, t] })
    (base : Nat) (e : TypeId) (i : TypeInfo) (z : Value) (size bytes : Nat) (ht : P.underlying t = some (.slice e)) (hi : P.info? e = some i) (hz : i.zero = some z)
    (hsize : i.size = size) (hby : i.bytes = bytes) (hzs : z.cells.size = size) (hsz : 0 < size)
    (v : Value) (n : Nat) (xs : List Value) (hs : a.eval s = v) (hown : w.ownsRow base e size v n xs)
    (ad : Addr) (m c : Nat) (news : List Value) (hx : a.eval x = .slice (some ad) m c) (hl : news.length = m * size) (hnews : ∀ j u, news[j]? = some u → w.cell? (ad.add j) = some u) (h1 : ∀ u ∈ news, u.oneCell' = true)
    (h63 : n + m ≤ maxLen) (hbytes : (n + m) * bytes ≤ 140737488355328) (hbase : base ≤ w.heap.size)
    (h : ∀ v' w', w'.ownsRow base e size v' (n + m) (xs ++ news) → w.grownBy w' v.ownBlock → (v'.ownBlock = v.ownBlock ∨ v'.ownBlock = some w.heap.size) → K (a.put o.dst v') w') :
    if Region.wanted o (yielded ops a.tmps) = true then Oper.wp P o a w K Q else E := by
  have hw : Region.wanted o (yielded ops a.tmps) = true := by simp [Region.wanted, hg]
  rw [if_pos hw]
  obtain ⟨v', w', hr, h2, h3, _, h5⟩ := run_append_own_at (P := P) w base t o.type e i z size bytes ht hi hz hsize hby hzs hsz v n xs hown ad m c news hl hnews h1 h63 hbytes hbase
  unfold Oper.wp execOp
  simp only [ho, resolve, invoke, builtin, Sem.run_bind, Sem.run_pure, Result.andThen_ok, List.map_toArray, List.map_cons, List.map_nil, hs, hx, hr]
  exact h v' w' h2 h3 h5
theorem info_parts {i : Option TypeInfo} {z : Value} {s b : Nat} (h : i.map (fun i => (i.zero, i.size, i.bytes)) = some (some z, s, b)) : ∃ i0, i = some i0 ∧ i0.zero = some z ∧ i0.size = s ∧ i0.bytes = b := by
  cases i with
  | none => cases h
  | some i0 => simp at h; exact ⟨i0, rfl, h.1, h.2.1, h.2.2⟩
theorem infoF : (Try.prog.info? 43).map (fun i => (i.zero, i.size, i.bytes)) = some (some (.float .f64 0), 1, 8) := by kernel_rfl
theorem own_sl {w : World} {base : Nat} {e : TypeId} {size : Nat} {v : Value} {n : Nat} {xs : List Value} (h : w.ownsRow base e size v n xs) : ∃ a cap, v = .slice a n cap := by
  rcases h.2 with ⟨rfl, h'⟩ | ⟨g, cap, cur, rfl, _⟩
  · exact ⟨none, 0, by rw [h']⟩
  · exact ⟨_, cap, rfl⟩
theorem cells_new1 (w : World) (x : Value) (t : TypeId) : ∀ j u, [x][j]? = some u → (w.alloc (.cells #[x] t)).cell? ((⟨w.heap.size, 0, none⟩ : Addr).add j) = some u := by
  intro j u hj
  cases j with
  | zero => simp at hj; subst hj; rw [addP]; simp
  | succ j => simp at hj

/-- A port's or a host's cells have turned. -/
theorem Tq.put_sw {B t e n : Nat} {w w' : World} {cv : Value} {H : Nat → Int × Int × Int} {P : Nat → Nat → Int × Int × Int} {C : List Nat} (h : Tq B w t e cv n H P C) {i j : Nat} {x : Int × Int × Int} (hj : j < 16) (g : Put3 w w' e (i * 48 + j * 3) x) :
    Tq B w' t e cv n H (fun s p => if s = i ∧ p = j then x else P s p) C := by
  have ht := g.block t h.tl h.te
  refine ⟨(World.cell?_of_block (w := w) ht).trans h.c0, (World.cell?_of_block (w := w) ht).trans h.cc, fun i hi => (h.ch i hi).block ht, ?_, h.own.kept ⟨g.os, g.tape, g.output, g.size, fun k hk hn => g.block k hk (fun e => hn (by rw [e]))⟩ (.inr h.ce'), h.tB, h.eB, Nat.lt_of_lt_of_le h.tl g.size, Nat.lt_of_lt_of_le h.el g.size, h.te, h.ct, h.ce',
    fun o => (World.frozen?_of_block (w := w) ht).trans (h.tf o), fun o => (g.fz o).trans (h.ef o), h.n0, h.n1⟩
  intro s p hs hp
  by_cases hq : s = i ∧ p = j
  · obtain ⟨rfl, rfl⟩ := hq
    rw [if_pos ⟨rfl, rfl⟩]
    exact g.here
  · rw [if_neg hq]
    obtain ⟨x0, x1, x2⟩ := h.ce s p hs hp
    have far : s * 48 + p * 3 + 3 ≤ i * 48 + j * 3 ∨ i * 48 + j * 3 + 3 ≤ s * 48 + p * 3 := by omega
    exact ⟨(g.oth _ (by omega)).trans x0, (g.oth _ (by omega)).trans x1, (g.oth _ (by omega)).trans x2⟩
theorem Tq.put_host {B t e n : Nat} {w w' : World} {cv : Value} {H : Nat → Int × Int × Int} {P : Nat → Nat → Int × Int × Int} {C : List Nat} (h : Tq B w t e cv n H P C) {k : Nat} {x : Int × Int × Int} (hk : k < 64) (g : Put3 w w' t (1 + k * 3) x) :
    Tq B w' t e cv n (fun s => if s = k then x else H s) P C := by
  have he := g.block e h.el (fun e => h.te e.symm)
  refine ⟨(g.oth _ (by omega)).trans h.c0, (g.oth _ (by omega)).trans h.cc, ?_, fun s p hs hp => (h.ce s p hs hp).block he, h.own.kept ⟨g.os, g.tape, g.output, g.size, fun k hk hn => g.block k hk (fun e => hn (by rw [e]))⟩ (.inr h.ct), h.tB, h.eB, Nat.lt_of_lt_of_le h.tl g.size, Nat.lt_of_lt_of_le h.el g.size, h.te, h.ct, h.ce',
    fun o => (g.fz o).trans (h.tf o), fun o => (World.frozen?_of_block (w := w) he).trans (h.ef o), h.n0, h.n1⟩
  intro s hs
  by_cases hq : s = k
  · subst hq
    rw [if_pos rfl]
    exact g.here
  · rw [if_neg hq]
    obtain ⟨x0, x1, x2⟩ := h.ch s hs
    exact ⟨(g.oth _ (by omega)).trans x0, (g.oth _ (by omega)).trans x1, (g.oth _ (by omega)).trans x2⟩
theorem Put3.bel {w w' : World} {b o B : Nat} {x : Int × Int × Int} (h : Put3 w w' b o x) (hb : B ≤ b) (hw : B ≤ w.heap.size) : Below B w w' :=
  ⟨h.os, h.tape, h.output, h.size, fun k hk => h.block k (by omega) (by omega)⟩
/-- One cost more. -/
theorem Tq.put_cost {B t e n : Nat} {w w1 : World} {cv : Value} {H : Nat → Int × Int × Int} {P : Nat → Nat → Int × Int × Int} {C : List Nat} (h : Tq B w t e cv n H P C) {c : Nat} {v' : Value} (hown : w1.ownsRow B 43 1 v' (C.length + 1) (C.map (Value.float .f64) ++ [.float .f64 c])) (hg : w.grownBy w1 cv.ownBlock)
    (hv : v'.ownBlock = cv.ownBlock ∨ ∀ g, v'.ownBlock = some g → w.heap.size ≤ g) : Tq B (w1.setCell ⟨t, 193, none⟩ v') t e v' n H P (C ++ [c]) ∧ Below B w (w1.setCell ⟨t, 193, none⟩ v') := by
  have ht := hg.block t h.tl (fun e => h.ct e.symm)
  have he := hg.block e h.el (fun e => h.ce' e.symm)
  have hB : B ≤ w.heap.size := Nat.le_trans h.tB (Nat.le_of_lt h.tl)
  have c193 : w1.cell? ⟨t, 193, none⟩ = some cv := (World.cell?_of_block (w := w) ht).trans h.cc
  have eq : ∀ o, o ≠ 193 → (w1.setCell ⟨t, 193, none⟩ v').cell? ⟨t, o, none⟩ = w.cell? ⟨t, o, none⟩ := fun o ho => (World.cell?_setCell_other _ _ _ _ (fun e => ho (by cases e; rfl))).trans (World.cell?_of_block (w := w) ht)
  have ee : (w1.setCell ⟨t, 193, none⟩ v').heap[e]? = w.heap[e]? := (Below.heap_setCell _ _ _ _ (fun e => h.te e.symm)).trans he
  have hct : v'.ownBlock ≠ some t := by
    rcases hv with hv | hv
    · rw [hv]; exact h.ct
    · intro e; have := hv t e; have := h.tl; omega
  have hce : v'.ownBlock ≠ some e := by
    rcases hv with hv | hv
    · rw [hv]; exact h.ce'
    · intro e'; have := hv e e'; have := h.el; omega
  have gs : w1.grownBy (w1.setCell ⟨t, 193, none⟩ v') (some t) := ⟨rfl, rfl, rfl, by simp [World.setCell], fun k hk hn => Below.heap_setCell _ _ _ _ (fun e => hn (by rw [e]))⟩
  refine ⟨⟨(eq 0 (by omega)).trans h.c0, World.cell?_setCell_same _ _ _ c193, fun k hk => ?_, fun s p hs hp => (h.ce s p hs hp).block ee, ?_, h.tB, h.eB, Nat.lt_of_lt_of_le h.tl (Nat.le_trans hg.size gs.size), Nat.lt_of_lt_of_le h.el (Nat.le_trans hg.size gs.size), h.te, hct, hce, fun o => ?_, fun o => (World.frozen?_of_block (w := w) ee).trans (h.ef o), h.n0, h.n1⟩, ?_⟩
  · obtain ⟨x0, x1, x2⟩ := h.ch k hk
    exact ⟨(eq _ (by omega)).trans x0, (eq _ (by omega)).trans x1, (eq _ (by omega)).trans x2⟩
  · have := hown.kept gs (.inr hct)
    rw [List.length_append, List.map_append]
    exact this
  · have := (World.frozen?_of_block (w := w) (a := ⟨t, o, none⟩) ht).trans (h.tf o)
    simpa using this
  · refine Below.setCell ?_ h.tB _
    exact (Below.refl B w).grown hg hB (fun k hk => (h.own.lt k hk).1)
theorem put_fin {B t e n : Nat} {w V w8 : World} {cv v' : Value} {X : World} {H : Nat → Int × Int × Int} {P : Nat → Nat → Int × Int × Int} {C : List Nat} {x : Lk} (h : Tq B V t e cv n H P C) (g : Below w.heap.size w V) (z : V.heap.size = w.heap.size + 1) (hB : B ≤ w.heap.size) (h5 : C5 V w.heap.size 0 x) (hw : cv.ownBlock ≠ some w.heap.size ∧ t < w.heap.size)
    (hown : (w8).ownsRow B 43 1 v' (C.length + 1) (C.map (Value.float .f64) ++ [.float .f64 x.c])) (hX : Below V.heap.size V X) (hg : X.grownBy w8 cv.ownBlock) (hv : v'.ownBlock = cv.ownBlock ∨ v'.ownBlock = some X.heap.size) :
    Tq B (w8.setCell ⟨t, 193, none⟩ v') t e v' n H P (C ++ [x.c]) ∧ Below B w (w8.setCell ⟨t, 193, none⟩ v') ∧ C5 (w8.setCell ⟨t, 193, none⟩ v') w.heap.size 0 x ∧ w.heap.size < (w8.setCell ⟨t, 193, none⟩ v').heap.size := by
  have hg' : V.grownBy w8 cv.ownBlock := ⟨hg.os.trans hX.os, hg.tape.trans hX.tape, hg.output.trans hX.output, Nat.le_trans hX.size hg.size, fun k hk hn => (hg.block k (Nat.lt_of_lt_of_le hk hX.size) hn).trans (hX.block k hk)⟩
  obtain ⟨q1, q2⟩ := h.put_cost hown hg' (hv.imp id (fun e g he => by rw [he] at e; cases e; exact hX.size))
  have hb : (w8.setCell ⟨t, 193, none⟩ v').heap[w.heap.size]? = V.heap[w.heap.size]? := (Below.heap_setCell _ _ _ _ (show w.heap.size ≠ t by have := hw.2; omega)).trans (hg'.block _ (by omega) (fun e => hw.1 e.symm))
  have hsz : w8.heap.size ≤ (w8.setCell ⟨t, 193, none⟩ v').heap.size := by simp [World.setCell]
  exact ⟨q1, (g.mono hB).trans q2, h5.block hb, by have := hg'.size; omega⟩
set_option maxRecDepth 20000 in
set_option maxHeartbeats 4000000 in
theorem put_walk {B t e n : Nat} {w : World} {cv : Value} {H : Nat → Int × Int × Int} {P : Nat → Nat → Int × Int × Int} {C : List Nat} (h : Tq B w t e cv n H P C) (hC : C.length ≤ 100) (x : Lk)
    (R : World → Prop)
    (hR : ∀ cv' u, Tq B u t e cv' n H P (C ++ [x.c]) → Below B w u → C5 u w.heap.size 0 x → w.heap.size < u.heap.size →
      Calls Try.prog 40 #[.pointer (some ⟨t, 0, none⟩), .int .i64 x.a, .int .i64 x.p, e3V (x.b, x.q, (C.length : Int) + 1)] u fun r w1 => r = .returned (.tuple #[]) ∧ C5 w1 w.heap.size 0 x ∧
        Calls Try.prog 40 #[.pointer (some ⟨t, 0, none⟩), .int .i64 x.b, .int .i64 x.q, e3V (x.a, x.p, (C.length : Int) + 1)] w1 fun r w2 => r = .returned (.tuple #[]) ∧ R w2) :
    Calls Try.prog 30 #[.pointer (some ⟨t, 0, none⟩), lkV x] w fun r w' => r = .returned (.tuple #[]) ∧ R w' := by
  obtain ⟨V, hV⟩ : ∃ V, lx w x = V := ⟨_, rfl⟩
  have GV : Below w.heap.size w V := by rw [← hV]; go_grown
  have hc5 := C5.new w x
  have zV : V.heap.size = w.heap.size + 1 := by rw [← hV]; simp
  rw [hV] at hc5
  have hT := h.below GV
  have cc := hT.cc
  have fz := hT.tf 193
  have tl := hT.tl
  have HT : Hid (Tq B V t e cv n H P C) := hT
  have HG : Hid (Below w.heap.size w V) := GV
  have HZ : Hid (V.heap.size = w.heap.size + 1) := zV
  have HC5 : Hid (C5 V w.heap.size 0 x) := hc5
  have HB : Hid (B ≤ w.heap.size) := (show _ ≤ _ from Nat.le_trans h.tB (Nat.le_of_lt h.tl))
  have HV : Hid (w.alloc (.cells #[.int .i64 x.a, .int .i64 x.p, .int .i64 x.b, .int .i64 x.q, .float .f64 x.c] 52) = V) := hV
  have HR : Hid (∀ cv' u, Tq B u t e cv' n H P (C ++ [x.c]) → Below B w u → C5 u w.heap.size 0 x → w.heap.size < u.heap.size →
      Calls Try.prog 40 #[.pointer (some ⟨t, 0, none⟩), .int .i64 x.a, .int .i64 x.p, e3V (x.b, x.q, (C.length : Int) + 1)] u fun r w1 => r = .returned (.tuple #[]) ∧ C5 w1 w.heap.size 0 x ∧
        Calls Try.prog 40 #[.pointer (some ⟨t, 0, none⟩), .int .i64 x.b, .int .i64 x.q, e3V (x.a, x.p, (C.length : Int) + 1)] w1 fun r w2 => r = .returned (.tuple #[]) ∧ R w2) := hR
  have HW : Hid (cv.ownBlock ≠ some w.heap.size ∧ t < w.heap.size) := (show _ ∧ _ from ⟨fun e => by have := (h.own.lt _ e).2; omega, h.tl⟩)
  obtain ⟨i0, hi0, hz0, hz1, hz2⟩ := info_parts infoF
  have bV : w.heap.size < V.heap.size := by omega
  clear hV GV hc5 zV hT h hR
  obtain ⟨b0, b1, b2, b3, b4⟩ := HC5.out
  go_enter Try.func30, Try.ntmps30
  go_wp2_with fail
  rw [HV.out]
  go_region_law (
    refine step_append_own rfl (.tmp 9) (.tmp 12) 58 rfl B 43 i0 (.float .f64 0) 1 8 Try.underlying58 hi0 hz0 hz1 hz2 rfl (by decide) cv C.length (C.map (Value.float .f64)) rfl (HT.out.own.alloc _) ⟨V.heap.size, 0, none⟩ 1 1 [.float .f64 x.c] rfl rfl (cells_new1 _ _ _) (by intro u hu; simp at hu; subst hu; rfl) (by unfold maxLen; omega) (by omega) (by have := HB.out; have := HZ.out; simp; omega) ?_
    intro v' w8 hown' hgrow hfr
    obtain ⟨a8, cap8, rfl⟩ := own_sl hown'
    have hb8 : w8.heap[t]? = V.heap[t]? := (hgrow.block t (by simp; omega) (fun e => HT.out.ct e.symm)).trans ((show Below V.heap.size V _ by go_grown).block t tl)
    have d5 : w8.cell? ⟨t, 193, none⟩ = some cv := (World.cell?_of_block (w := V) hb8).trans cc
    have f5 : w8.frozen? ⟨t, 193, none⟩ = false := (World.frozen?_of_block (w := V) hb8).trans fz
    have HQ : Hid (Tq B (w8.setCell ⟨t, 193, none⟩ (.slice a8 (C.length + 1) cap8)) t e (.slice a8 (C.length + 1) cap8) n H P (C ++ [x.c]) ∧ Below B w (w8.setCell ⟨t, 193, none⟩ (.slice a8 (C.length + 1) cap8)) ∧ C5 (w8.setCell ⟨t, 193, none⟩ (.slice a8 (C.length + 1) cap8)) w.heap.size 0 x ∧ w.heap.size < (w8.setCell ⟨t, 193, none⟩ (.slice a8 (C.length + 1) cap8)).heap.size) := (show _ ∧ _ from put_fin HT.out HG.out HZ.out HB.out HC5.out HW.out hown' (by go_grown) hgrow hfr)
    clear hb8 hown' hgrow hfr)
  all_goals
    obtain ⟨U, hU⟩ : ∃ U, w8.setCell ⟨t, 193, none⟩ (.slice a8 (C.length + 1) cap8) = U := ⟨_, rfl⟩
    rw [hU] at HQ ⊢
    clear hU d5 f5 cc fz b0 b1 b2 b3 b4 tl bV hi0 hz0 hz1 hz2
    have c193 := HQ.out.1.cc
    obtain ⟨b0, b1, b2, b3, b4⟩ := HQ.out.2.2.1
    go_wp2_with fail
    refine (HR.out _ _ HQ.out.1 HQ.out.2.1 HQ.out.2.2.1 HQ.out.2.2.2).mono ?_
    rintro r w1 ⟨rfl, h5, hcall⟩
    have HC : Hid (Calls Try.prog 40 #[.pointer (some ⟨t, 0, none⟩), .int .i64 x.b, .int .i64 x.q, e3V (x.a, x.p, (C.length : Int) + 1)] w1 fun r w2 => r = .returned (.tuple #[]) ∧ R w2) := hcall
    clear hcall c193 b0 b1 b2 b3 b4
    obtain ⟨b0, b1, b2, b3, b4⟩ := h5
    go_wp2_with fail
    refine HC.out.mono ?_
    rintro r w2 ⟨rfl, h6⟩
    have H6 : Hid (R w2) := h6
    clear h6
    go_wp2
    (try simp only [Exit.inBlock, Exit.then])
    first | refine bodyPost_end (results_none rfl _ _ _) rfl ?_ | refine bodyPost_ret (results_none rfl _ _ _) rfl ?_
    exact ⟨rfl, H6.out⟩
end Go.Proofs.Ytcjojcaahpkacaa

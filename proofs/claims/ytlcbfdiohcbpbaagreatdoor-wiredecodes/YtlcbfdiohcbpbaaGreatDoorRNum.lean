import Derived.Test.YtlcbfdiohcbpbaaGreatDoorRBase
import Derived.Test.YtlcbfdiohcbpbaaGreatDoorZC3
namespace Go.Proofs.YtlcbfdiohcbpbaaGreatDoor
open Go.ChangeShapes Go.WideShapes Go.ChangeAt Go.RowKit
set_option linter.unusedVariables false
set_option linter.unusedSimpArgs false
theorem mkHuge (k:Nat) (w:World) (hk:k≤100000):(Instr.makeSlice 114 (.int .i64 k) (.int .i64 k)).run Tryz.prog w=.ok (.slice (some ⟨w.heap.size,0,none⟩) k k) (w.alloc (.cells (List.replicate k (.int .u8 0)).toArray 5)):=by
 obtain ⟨i0,hi,hz0,hz1,hz2⟩:=info_parts infoB
 rw [run_make w 114 5 i0 _ Tryz.underlying114 hi hz0 .i64 .i64 k k (by omega) (by omega) (by rw [hz2];omega) (by omega),hz1]
 have e:madeCells (Value.int .u8 0).cells (Int.toNat (k:Int) * 1)=(List.replicate k (Value.int .u8 0)).toArray:=by
  apply Array.ext <;> simp [madeCells,Value.cells,Nat.mod_one]
 rw [e,Int.toNat_natCast]
theorem r8zerosL (k:Nat) (w:World) (hk:k≤100000):Calls Tryz.prog 39 #[.int .i64 k] w fun e w'=>e=.returned (.string (zeros k))∧Below w.heap.size w w':=by
 have hm:=fun w=>mkHuge k w hk
 have hcz:=cvZ k
 simp only [List.toArray_replicate] at hcz hm
 go_enter Tryz.func39,Tryz.ntmps39
 go_wp2_with fail
 go_ret
 exact ⟨rfl,by go_grown⟩
def partB (s:ByteArray) (a n:Nat):ByteArray:=(s.extract (min a s.size) s.size ++ zeros n).extract 0 n
theorem partB_size (s:ByteArray) (a n:Nat):(partB s a n).size=n:=by
 unfold partB
 rw [ByteArray.size_extract,ByteArray.size_append,zeros_size]
 omega
theorem r8part (s:ByteArray) (a n:Nat) (w:World) (hs:s.size≤100000) (ha:a≤200000) (hn:n≤100000):Calls Tryz.prog 56 #[.string s,.int .i64 a,.int .i64 n] w fun e w'=>e=.returned (.string (partB s a n))∧Below w.heap.size w w':=by
 have HZ:Hid (∀ w,Calls Tryz.prog 39 #[.int .i64 n] w fun e w'=>e=.returned (.string (zeros n))∧Below w.heap.size w w'):=(show ∀ w,_ from fun w=>r8zerosL n w hn)
 have hz:=zeros_size n
 unfold partB
 generalize zeros n=Z at *
 by_cases h:a≤s.size
 ·have e:min a s.size=a:=by omega
  rw [e]
  have h' : ¬ ((a:Int) > (s.size:Int)):=by omega
  have h1:∀ w,(Instr.slice 9 (.string s) (some (.int .i64 a)) none none).run Tryz.prog w=.ok (.string (s.extract a s.size)) w:=fun w=>by
   have:=slice_l s (a:Int) (by omega) (by omega) w
   rwa [Int.toNat_natCast] at this
  have hx:(s.extract a s.size).size≤100000:=by rw [ByteArray.size_extract];omega
  generalize s.extract a s.size=X at *
  have e1:∀ w,(Op.stringOp .add X Z).run Tryz.prog w=.ok (.string (X ++ Z)) w:=cat _ _ 100000 100000 (by omega) (by omega) (by decide)
  have h2:∀ w,(Instr.slice 9 (.string (X ++ Z)) none (some (.int .i64 n)) none).run Tryz.prog w=.ok (.string ((X ++ Z).extract 0 n)) w:=fun w=>by
   have:=slice_h (X ++ Z) (n:Int) (by omega) (by rw [ByteArray.size_append];omega) w
   rwa [Int.toNat_natCast] at this
  generalize (X ++ Z).extract 0 n=R at *
  generalize X ++ Z=Y at *
  clear hz hx e
  go_enter Tryz.func56,Tryz.ntmps56
  go_wp2_with fail
  refine wp_region_grow (by kernel_rfl) (by kernel_rfl) ?_
  repeat (go_big_quiet_step (first | (go_at_call 39;exact quiet_gr (HZ.out _))))
  refine wpQuiet_nil ?_
  rintro w1 hw'
  have g1:=gr_elim hw'
  clear hw'
  go_wp2_with fail
  go_ret
  exact ⟨rfl,g1⟩
 ·have e:min a s.size=s.size:=by omega
  rw [e]
  have h':(a:Int) > (s.size:Int):=by omega
  have h1:∀ w,(Instr.slice 9 (.string s) (some (.int .i64 s.size)) none none).run Tryz.prog w=.ok (.string (s.extract s.size s.size)) w:=fun w=>by
   have:=slice_l s (s.size:Int) (by omega) (by omega) w
   rwa [Int.toNat_natCast] at this
  have hx:(s.extract s.size s.size).size≤100000:=by rw [ByteArray.size_extract];omega
  generalize s.extract s.size s.size=X at *
  have e1:∀ w,(Op.stringOp .add X Z).run Tryz.prog w=.ok (.string (X ++ Z)) w:=cat _ _ 100000 100000 (by omega) (by omega) (by decide)
  have h2:∀ w,(Instr.slice 9 (.string (X ++ Z)) none (some (.int .i64 n)) none).run Tryz.prog w=.ok (.string ((X ++ Z).extract 0 n)) w:=fun w=>by
   have:=slice_h (X ++ Z) (n:Int) (by omega) (by rw [ByteArray.size_append];omega) w
   rwa [Int.toNat_natCast] at this
  generalize (X ++ Z).extract 0 n=R at *
  generalize X ++ Z=Y at *
  clear hz hx e
  go_enter Tryz.func56,Tryz.ntmps56
  go_wp2_with fail
  refine wp_region_grow (by kernel_rfl) (by kernel_rfl) ?_
  repeat (go_big_quiet_step (first | (go_at_call 39;exact quiet_gr (HZ.out _))))
  refine wpQuiet_nil ?_
  rintro w1 hw'
  have g1:=gr_elim hw'
  clear hw'
  go_wp2_with fail
  go_ret
  exact ⟨rfl,g1⟩
def numB (s:ByteArray) (a n:Nat):Int:=numOf (partB s a n).data.toList
theorem numB_lt (s:ByteArray) (a n:Nat) (hn:n≤8):0≤numB s a n∧numB s a n < 256 ^ n:=by
 have h:=numOf_lt (partB s a n).data.toList (by have:=partB_size s a n;simp at this ⊢;omega)
 have e:(partB s a n).data.toList.length=n:=by have:=partB_size s a n;simpa using this
 rw [e] at h
 exact h
theorem numB_rng (s:ByteArray) (a n:Nat) (hn:n≤4):0≤numB s a n∧numB s a n < 4294967296:=by
 obtain ⟨h0,h1⟩:=numB_lt s a n (by omega)
 refine ⟨h0,?_⟩
 have h2:=Nat.pow_le_pow_right (show 0 < 256 by decide) hn
 have h3:=Int.ofNat_le.mpr h2
 rw [Int.natCast_pow,Int.natCast_pow] at h3
 exact Int.lt_of_lt_of_le h1 h3
theorem r8num (s:ByteArray) (a n:Nat) (w:World) (hs:s.size≤100000) (ha:a≤1000) (hn:n≤4):Calls Tryz.prog 24 #[.string s,.int .i64 a,.int .i64 n] w fun e w'=>e=.returned (.int .i64 (numB s a n))∧Below w.heap.size w w':=by
 have HP:Hid (Calls Tryz.prog 56 #[.string s,.int .i64 a,.int .i64 n] w fun e w'=>e=.returned (.string (partB s a n))∧Below w.heap.size w w'):=(show Calls _ _ _ _ _ from r8part s a n w hs (by omega) (by omega))
 have HN:Hid (∀ w,Calls Tryz.prog 55 #[.string (partB s a n)] w fun x w'=>x=.returned (.int .u64 (numB s a n))∧w'=w):=(show ∀ w,_ from fun w=>by
  have e:(partB s a n).extract 0 n=partB s a n:=by
   have h:=extract_left (partB s a n) ⟨#[]⟩
   rwa [ap_e,partB_size] at h
  have h:=rnm_any (partB s a n) 0 n w (by omega)
  unfold nm at h
  rw [e] at h
  exact h)
 obtain ⟨n0,n1⟩:=numB_rng s a n hn
 generalize numB s a n=V at *
 generalize partB s a n=Q at *
 go_enter Tryz.func24,Tryz.ntmps24
 go_wp2_with fail
 refine HP.out.mono ?_
 rintro x w1 ⟨rfl,g1⟩
 go_wp2_with fail
 refine (HN.out _).mono ?_
 rintro x w2 ⟨rfl,z⟩
 obtain rfl:w1=w2:=z.symm
 go_wp2_with fail
 go_ret
 exact ⟨rfl,g1⟩
theorem r8behind (s:ByteArray) (a:Int) (w:World) (h0:0≤a):Calls Tryz.prog 57 #[.string s,.int .i64 a] w fun e w'=>e=.returned (.string (s.extract a.toNat s.size))∧w'=w:=by
 by_cases h:a≤s.size
 ·have h' : ¬ (a > (s.size:Int)):=by omega
  have h1:=slice_l s a h0 h
  generalize s.extract a.toNat s.size=X at *
  go_enter Tryz.func57,Tryz.ntmps57
  go_wp2_with fail
  go_ret
  exact ⟨rfl,rfl⟩
 ·have h':a > (s.size:Int):=by omega
  have e:s.extract a.toNat s.size=⟨#[]⟩:=empty_of (by rw [ByteArray.size_extract];omega)
  rw [e]
  go_enter Tryz.func57,Tryz.ntmps57
  go_wp2_with fail
  go_ret
  exact ⟨rfl,rfl⟩
theorem numB_ap (x:ByteArray) (v:Int) (k:Nat) (t:ByteArray) (a:Nat) (hx:x.size=a) (hk:k≤8) (h0:0≤v) (h1:v < 256 ^ k):numB (x ++ (pb v k ++ t)) a k=v:=by
 have e:partB (x ++ (pb v k ++ t)) a k=pb v k:=by
  unfold partB
  have z:(x ++ (pb v k ++ t)).size=a + (k + t.size):=by rw [ByteArray.size_append,ByteArray.size_append,pb_size,hx]
  rw [show min a (x ++ (pb v k ++ t)).size=a by omega]
  rw [ext_right x (pb v k ++ t) a hx,ap_assoc]
  exact ext_left (pb v k) (t ++ zeros k) k (pb_size _ _)
 unfold numB
 rw [e,pb_list]
 exact numOf_pieces k v hk h0 h1
end Go.Proofs.YtlcbfdiohcbpbaaGreatDoor

import Derived.Test.YtlcbfdiohcbpbaaGreatDoorZC1
import Derived.Test.YtlcbfdiohcbpbaaGreatDoorZW
namespace Go.Proofs.YtlcbfdiohcbpbaaGreatDoor
open Go.ChangeShapes Go.WideShapes Go.ChangeAt Go.RowKit
set_option linter.unusedVariables false
theorem r8in (n lo hi:Int) (w:World):Calls Tryz.prog 20 #[.int .i64 n,.int .i64 lo,.int .i64 hi] w fun e w'=>e=.returned (.bool (inB n lo hi))∧w'=w:=by
 unfold inB
 by_cases h1:lo≤n <;> by_cases h2:n≤hi <;>
 ·go_enter Tryz.func20,Tryz.ntmps20
  go_wp2
  go_ret
  exact ⟨by simp [h1,h2],rfl⟩
def pw (n:Int) (k:Nat):ByteArray:=pb (IntKind.u64.wrap n) k
theorem pw_size (n:Int) (k:Nat):(pw n k).size=k:=pb_size _ _
theorem pw_eq (n:Int) (k:Nat) (h0:0≤n) (h1:n < 18446744073709551616):pw n k=pb n k:=by
 unfold pw
 have:IntKind.u64.wrap n=n:=by rw [IntKind.wrap_u64];omega
 rw [this]
theorem r8put (n:Int) (k:Nat) (w:World) (hk1:1≤k) (hk8:k≤8):Calls Tryz.prog 21 #[.int .i64 n,.int .i64 k] w fun e w'=>e=.returned (.string (pw n k))∧Below w.heap.size w w':=by
 have hr:0≤IntKind.u64.wrap n∧IntKind.u64.wrap n < 18446744073709551616:=by rw [IntKind.wrap_u64];omega
 have HP:Hid (Calls Tryz.prog 44 #[.int .u64 (IntKind.u64.wrap n),.int .i64 k] w fun e w'=>e=.returned (.string (pw n k))∧Below w.heap.size w w'):=(show Calls _ _ _ _ _ from rput_any _ k w hk1 hk8 hr.1 hr.2)
 clear hr
 generalize pw n k=R at *
 go_enter Tryz.func21,Tryz.ntmps21
 go_wp2_with fail
 refine HP.out.mono ?_
 rintro x w1 ⟨rfl,g1⟩
 go_wp2_with fail
 go_ret
 exact ⟨rfl,g1⟩
theorem r8put1 (n:Int) (w:World):Calls Tryz.prog 21 #[.int .i64 n,.int .i64 1] w fun e w'=>e=.returned (.string (pw n 1))∧Below w.heap.size w w':=r8put n 1 w (by omega) (by omega)
theorem r8put2 (n:Int) (w:World):Calls Tryz.prog 21 #[.int .i64 n,.int .i64 2] w fun e w'=>e=.returned (.string (pw n 2))∧Below w.heap.size w w':=r8put n 2 w (by omega) (by omega)
theorem r8put4 (n:Int) (w:World):Calls Tryz.prog 21 #[.int .i64 n,.int .i64 4] w fun e w'=>e=.returned (.string (pw n 4))∧Below w.heap.size w w':=r8put n 4 w (by omega) (by omega)
theorem mkBig (k:Nat) (w:World) (hk:k≤100):(Instr.makeSlice 114 (.int .i64 k) (.int .i64 k)).run Tryz.prog w=.ok (.slice (some ⟨w.heap.size,0,none⟩) k k) (w.alloc (.cells (List.replicate k (.int .u8 0)).toArray 5)):=by
 obtain ⟨i0,hi,hz0,hz1,hz2⟩:=info_parts infoB
 rw [run_make w 114 5 i0 _ Tryz.underlying114 hi hz0 .i64 .i64 k k (by omega) (by omega) (by rw [hz2];omega) (by omega),hz1]
 have e:madeCells (Value.int .u8 0).cells (Int.toNat (k:Int) * 1)=(List.replicate k (Value.int .u8 0)).toArray:=by
  apply Array.ext <;> simp [madeCells,Value.cells,Nat.mod_one]
 rw [e,Int.toNat_natCast]
theorem r8zeros (k:Nat) (w:World) (hk:k≤100):Calls Tryz.prog 39 #[.int .i64 k] w fun e w'=>e=.returned (.string (zeros k))∧Below w.heap.size w w':=by
 have hm:=fun w=>mkBig k w hk
 have hcz:=cvZ k
 simp only [List.toArray_replicate] at hcz hm
 go_enter Tryz.func39,Tryz.ntmps39
 go_wp2_with fail
 go_ret
 exact ⟨rfl,by go_grown⟩
theorem r8z4 (w:World):Calls Tryz.prog 39 #[.int .i64 4] w fun e w'=>e=.returned (.string (zeros 4))∧Below w.heap.size w w':=r8zeros 4 w (by omega)
theorem r8z6 (w:World):Calls Tryz.prog 39 #[.int .i64 6] w fun e w'=>e=.returned (.string (zeros 6))∧Below w.heap.size w w':=r8zeros 6 w (by omega)
theorem r8z7 (w:World):Calls Tryz.prog 39 #[.int .i64 7] w fun e w'=>e=.returned (.string (zeros 7))∧Below w.heap.size w w':=r8zeros 7 w (by omega)
theorem r8z16 (w:World):Calls Tryz.prog 39 #[.int .i64 16] w fun e w'=>e=.returned (.string (zeros 16))∧Below w.heap.size w w':=r8zeros 16 w (by omega)
theorem r8z24 (w:World):Calls Tryz.prog 39 #[.int .i64 24] w fun e w'=>e=.returned (.string (zeros 24))∧Below w.heap.size w w':=r8zeros 24 w (by omega)
theorem r8z32 (w:World):Calls Tryz.prog 39 #[.int .i64 32] w fun e w'=>e=.returned (.string (zeros 32))∧Below w.heap.size w w':=r8zeros 32 w (by omega)
def mostA (l:List A) (n:Int):Bool:=okA l && decide ((l.length:Int)≤n)
theorem r8acts (a:Option Addr) (l:List A) (cap:Nat) (n:Int) (w:World) (h:Ts w a l) (hl:l.length≤1000) (hW:AWs l) :
    Calls Tryz.prog 40 #[.slice a l.length cap,.int .i64 n] w fun e w'=>e=.returned (.tuple #[.string (encodeS l),.bool (mostA l n)])∧Below w.heap.size w w':=by
  have HE:Hid (Calls Tryz.prog 76 #[.slice a l.length cap] w fun e w'=>e=.returned (.tuple #[.string (encodeS l),.int .i64 (encodeE l)])∧Below w.heap.size w w'):=(show Calls _ _ _ _ _ from rencode_any a l cap w h hl hW)
  unfold mostA okA
  clear h hW
  generalize encodeS l=S at *
  generalize encodeE l=E at *
  cases he:E == 0 <;> by_cases hn:(l.length:Int)≤n <;>
  · go_enter Tryz.func40,Tryz.ntmps40
    go_wp2_with fail
    refine HE.out.mono ?_
    rintro x w1 ⟨rfl,g1⟩
    go_wp2_with fail
    go_ret2
    exact ⟨by simp [hn],g1⟩
end Go.Proofs.YtlcbfdiohcbpbaaGreatDoor

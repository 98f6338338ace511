/-
  Of Go's library, at this program: slices.Sort, slices.Compact, slices.Contains of numbers, slices.Reverse of buckets: that the program's functions are those that the library's contracts speak of.
-/
import Derived.Shelf.Sort.Plain
import Derived.Shelf.Slices.CompactI
import Derived.Shelf.Slices.Turned
import Derived.Shelf.SlicesQ.Reverse
import Derived.Shelf.Slices.In.SortNone
import Derived.Test.YteodlkgbakkjmaaDoorRows
namespace Go.Proofs
open Go.Shelf

def Tryd.lays189_ren : Go.Shelf.Ren := ⟨fun | 125 => 66 | 128 => 81 | 129 => 82 | 189 => 51 | 215 => 90 | 216 => 78 | 257 => 65 | 294 => 72 | 295 => 73 | 296 => 74 | 297 => 75 | 298 => 76 | 299 => 77 | 300 => 79 | 301 => 80 | 328 => 85 | 329 => 86 | 330 => 87 | 331 => 88 | 332 => 89 | 343 => 91 | 0 => 0 | 1 => 1 | 2 => 2 | 107 => 36 | 108 => 55 | 347 => 92 | 348 => 93 | 349 => 94 | 350 => 95 | 351 => 96 | 352 => 97 | 353 => 98 | 354 => 99 | 355 => 100 | 356 => 101 | 357 => 102 | 358 => 103 | 359 => 104 | 360 => 105 | 361 => 106 | 366 => 108 | 367 => 112 | n => n, fun | 0 => 0 | 3 => 3 | 4 => 4 | 5 => 5 | 9 => 9 | 28 => 65 | 46 => 87 | 51 => 100 | 53 => 60 | 131 => 97 | 182 => 91 | 183 => 92 | 218 => 102 | 222 => 106 | 228 => 110 | 229 => 111 | 1 => 1 | 2 => 2 | 6 => 6 | 7 => 7 | 8 => 8 | 10 => 10 | 11 => 11 | 12 => 12 | 13 => 13 | 14 => 14 | 15 => 15 | 16 => 16 | 17 => 17 | 18 => 18 | 19 => 19 | 20 => 20 | 21 => 21 | 29 => 69 | 30 => 80 | 35 => 77 | 45 => 64 | 47 => 86 | 52 => 99 | 54 => 101 | 80 => 113 | 81 => 119 | 111 => 63 | 112 => 95 | 114 => 68 | 127 => 123 | 134 => 85 | 164 => 128 | 181 => 90 | 184 => 93 | 185 => 94 | 186 => 96 | 187 => 98 | 219 => 103 | 220 => 104 | 221 => 105 | 223 => 107 | 230 => 112 | 238 => 114 | 239 => 115 | 240 => 116 | 241 => 117 | 242 => 118 | 243 => 120 | 244 => 121 | 245 => 122 | 246 => 124 | 247 => 125 | 248 => 126 | 249 => 127 | n => n, fun | n => n⟩
theorem Tryd.lays189 : Lays.n189 Tryd.prog Tryd.lays189_ren := {
  mixed := by kernel_rfl
  f125 := Tryd.func66.trans (congrArg some (by kernel_rfl))
  f128 := Tryd.func81.trans (congrArg some (by kernel_rfl))
  f129 := Tryd.func82.trans (congrArg some (by kernel_rfl))
  f189 := Tryd.func51.trans (congrArg some (by kernel_rfl))
  f215 := Tryd.func90.trans (congrArg some (by kernel_rfl))
  f216 := Tryd.func78.trans (congrArg some (by kernel_rfl))
  f257 := Tryd.func65.trans (congrArg some (by kernel_rfl))
  f294 := Tryd.func72.trans (congrArg some (by kernel_rfl))
  f295 := Tryd.func73.trans (congrArg some (by kernel_rfl))
  f296 := Tryd.func74.trans (congrArg some (by kernel_rfl))
  f297 := Tryd.func75.trans (congrArg some (by kernel_rfl))
  f298 := Tryd.func76.trans (congrArg some (by kernel_rfl))
  f299 := Tryd.func77.trans (congrArg some (by kernel_rfl))
  f300 := Tryd.func79.trans (congrArg some (by kernel_rfl))
  f301 := Tryd.func80.trans (congrArg some (by kernel_rfl))
  f328 := Tryd.func85.trans (congrArg some (by kernel_rfl))
  f329 := Tryd.func86.trans (congrArg some (by kernel_rfl))
  f330 := Tryd.func87.trans (congrArg some (by kernel_rfl))
  f331 := Tryd.func88.trans (congrArg some (by kernel_rfl))
  f332 := Tryd.func89.trans (congrArg some (by kernel_rfl))
  f343 := Tryd.func91.trans (congrArg some (by kernel_rfl))
  t0 := Tryd.underlying0
  a0 := Tryd.isAgg0
  z0 := Tryd.sizeOf0
  v0 := Tryd.zeroValue0
  t3 := Tryd.underlying3
  a3 := Tryd.isAgg3
  z3 := Tryd.sizeOf3
  v3 := Tryd.zeroValue3
  t4 := Tryd.underlying4
  a4 := Tryd.isAgg4
  z4 := Tryd.sizeOf4
  v4 := Tryd.zeroValue4
  t5 := Tryd.underlying5
  a5 := Tryd.isAgg5
  z5 := Tryd.sizeOf5
  v5 := Tryd.zeroValue5
  t9 := Tryd.underlying9
  a9 := Tryd.isAgg9
  z9 := Tryd.sizeOf9
  v9 := Tryd.zeroValue9
  t28 := Tryd.underlying65
  a28 := Tryd.isAgg65
  z28 := Tryd.sizeOf65
  v28 := Tryd.zeroValue65
  t46 := Tryd.underlying87
  a46 := Tryd.isAgg87
  z46 := Tryd.sizeOf87
  v46 := Tryd.zeroValue87
  t51 := Tryd.underlying100
  a51 := Tryd.isAgg100
  z51 := Tryd.sizeOf100
  v51 := Tryd.zeroValue100
  t53 := Tryd.underlying60
  a53 := Tryd.isAgg60
  z53 := Tryd.sizeOf60
  v53 := Tryd.zeroValue60
  t131 := Tryd.underlying97
  a131 := Tryd.isAgg97
  z131 := Tryd.sizeOf97
  v131 := Tryd.zeroValue97
  t182 := Tryd.underlying91
  a182 := Tryd.isAgg91
  z182 := Tryd.sizeOf91
  v182 := Tryd.zeroValue91
  t183 := Tryd.underlying92
  a183 := Tryd.isAgg92
  z183 := Tryd.sizeOf92
  v183 := Tryd.zeroValue92
  t218 := Tryd.underlying102
  a218 := Tryd.isAgg102
  z218 := Tryd.sizeOf102
  v218 := Tryd.zeroValue102
  t222 := Tryd.underlying106
  a222 := Tryd.isAgg106
  z222 := Tryd.sizeOf106
  v222 := Tryd.zeroValue106
  t228 := Tryd.underlying110
  a228 := Tryd.isAgg110
  z228 := Tryd.sizeOf110
  v228 := Tryd.zeroValue110
  t229 := Tryd.underlying111
  a229 := Tryd.isAgg111
  z229 := Tryd.sizeOf111
  v229 := Tryd.zeroValue111 }

def Tryd.lays20_ren : Go.Shelf.Ren := ⟨fun | 20 => 52 | 0 => 0 | 1 => 1 | 2 => 2 | 31 => 78 | 37 => 90 | 40 => 92 | 41 => 93 | 42 => 94 | 43 => 95 | 44 => 96 | 45 => 97 | 46 => 98 | 47 => 99 | 48 => 100 | 49 => 101 | 50 => 102 | 51 => 103 | 52 => 104 | 53 => 105 | 54 => 106 | 55 => 108 | n => n, fun | 0 => 0 | 3 => 3 | 4 => 4 | 22 => 65 | 1 => 1 | 2 => 2 | 5 => 5 | 6 => 6 | 7 => 7 | 8 => 8 | 9 => 9 | 10 => 10 | 11 => 11 | 12 => 12 | 13 => 13 | 14 => 14 | 15 => 15 | 16 => 16 | 17 => 17 | 18 => 18 | 19 => 19 | 20 => 20 | 21 => 21 | 23 => 78 | 33 => 97 | 40 => 87 | 41 => 95 | 42 => 63 | 45 => 77 | 46 => 113 | 47 => 114 | 48 => 115 | 49 => 116 | 50 => 117 | 51 => 118 | 52 => 119 | 53 => 100 | 54 => 120 | 55 => 121 | 56 => 122 | 57 => 123 | 58 => 124 | 59 => 125 | 60 => 126 | 61 => 127 | 62 => 128 | n => n, fun | n => n⟩
theorem Tryd.lays20 : Lays2.n20 Tryd.prog Tryd.lays20_ren := {
  mixed := by kernel_rfl
  f20 := Tryd.func52.trans (congrArg some (by kernel_rfl))
  t0 := Tryd.underlying0
  a0 := Tryd.isAgg0
  z0 := Tryd.sizeOf0
  v0 := Tryd.zeroValue0
  t3 := Tryd.underlying3
  a3 := Tryd.isAgg3
  z3 := Tryd.sizeOf3
  v3 := Tryd.zeroValue3
  t4 := Tryd.underlying4
  a4 := Tryd.isAgg4
  z4 := Tryd.sizeOf4
  v4 := Tryd.zeroValue4
  t22 := Tryd.underlying65
  a22 := Tryd.isAgg65
  z22 := Tryd.sizeOf65
  v22 := Tryd.zeroValue65
  i3 := by kernel_rfl }

def Tryd.lays107_ren : Go.Shelf.Ren := ⟨fun | 107 => 36 | 108 => 55 | 0 => 0 | 1 => 1 | 2 => 2 | 125 => 66 | 128 => 81 | 129 => 82 | 189 => 51 | 215 => 90 | 216 => 78 | 257 => 65 | 294 => 72 | 295 => 73 | 296 => 74 | 297 => 75 | 298 => 76 | 299 => 77 | 300 => 79 | 301 => 80 | 328 => 85 | 329 => 86 | 330 => 87 | 331 => 88 | 332 => 89 | 343 => 91 | 347 => 92 | 348 => 93 | 349 => 94 | 350 => 95 | 351 => 96 | 352 => 97 | 353 => 98 | 354 => 99 | 355 => 100 | 356 => 101 | 357 => 102 | 358 => 103 | 359 => 104 | 360 => 105 | 361 => 106 | 366 => 108 | 367 => 112 | n => n, fun | 0 => 0 | 3 => 3 | 4 => 4 | 28 => 65 | 1 => 1 | 2 => 2 | 5 => 5 | 6 => 6 | 7 => 7 | 8 => 8 | 9 => 9 | 10 => 10 | 11 => 11 | 12 => 12 | 13 => 13 | 14 => 14 | 15 => 15 | 16 => 16 | 17 => 17 | 18 => 18 | 19 => 19 | 20 => 20 | 21 => 21 | 29 => 69 | 30 => 80 | 35 => 77 | 45 => 64 | 46 => 87 | 47 => 86 | 51 => 100 | 52 => 99 | 53 => 60 | 54 => 101 | 80 => 113 | 81 => 119 | 111 => 63 | 112 => 95 | 114 => 68 | 127 => 123 | 131 => 97 | 134 => 85 | 164 => 128 | 181 => 90 | 182 => 91 | 183 => 92 | 184 => 93 | 185 => 94 | 186 => 96 | 187 => 98 | 218 => 102 | 219 => 103 | 220 => 104 | 221 => 105 | 222 => 106 | 223 => 107 | 228 => 110 | 229 => 111 | 230 => 112 | 238 => 114 | 239 => 115 | 240 => 116 | 241 => 117 | 242 => 118 | 243 => 120 | 244 => 121 | 245 => 122 | 246 => 124 | 247 => 125 | 248 => 126 | 249 => 127 | n => n, fun | n => n⟩
theorem Tryd.lays107 : Lays.n107 Tryd.prog Tryd.lays107_ren := {
  mixed := by kernel_rfl
  f107 := Tryd.func36.trans (congrArg some (by kernel_rfl))
  f108 := Tryd.func55.trans (congrArg some (by kernel_rfl))
  t0 := Tryd.underlying0
  a0 := Tryd.isAgg0
  z0 := Tryd.sizeOf0
  v0 := Tryd.zeroValue0
  t3 := Tryd.underlying3
  a3 := Tryd.isAgg3
  z3 := Tryd.sizeOf3
  v3 := Tryd.zeroValue3
  t4 := Tryd.underlying4
  a4 := Tryd.isAgg4
  z4 := Tryd.sizeOf4
  v4 := Tryd.zeroValue4
  t28 := Tryd.underlying65
  a28 := Tryd.isAgg65
  z28 := Tryd.sizeOf65
  v28 := Tryd.zeroValue65 }

def Tryd.lays35_ren : Go.Shelf.Ren := ⟨fun | 35 => 58 | n => n, fun | 0 => 0 | 3 => 3 | 4 => 4 | 22 => 31 | 23 => 51 | n => n, fun | n => n⟩
theorem Tryd.lays35 : SlLaysE0.n35 Tryd.prog Tryd.lays35_ren := {
  mixed := by kernel_rfl
  f35 := ⟨Tryd.f58.name, by decide, Tryd.func58.trans (congrArg some (by kernel_rfl))⟩
  t0 := Tryd.underlying0
  a0 := Tryd.isAgg0
  z0 := Tryd.sizeOf0
  v0 := Tryd.zeroValue0
  t3 := Tryd.underlying3
  a3 := Tryd.isAgg3
  z3 := Tryd.sizeOf3
  v3 := Tryd.zeroValue3
  t4 := Tryd.underlying4
  a4 := Tryd.isAgg4
  z4 := Tryd.sizeOf4
  v4 := Tryd.zeroValue4
  t22 := Tryd.underlying31
  a22 := Tryd.isAgg31
  z22 := Tryd.sizeOf31
  v22 := Tryd.zeroValue31 }

open Go.RowKit Go.Sort Go.Lib
theorem Tryd.slices_Sort_int (blk off cap : Nat) (zs : List Int) (w : World) (hH : Holds (Value.int .i64) w blk off zs.toArray) (hblk : blk < w.heap.size) (hsz : zs.length < 4611686018427387904) :
    Calls Tryd.prog 51 #[.slice (some ⟨blk, off, none⟩) zs.length cap] w fun e w' =>
      e = .returned (.tuple #[]) ∧ ∃ n os, w' = grow (putRow (Value.int .i64) (Sort.ahead w n) blk off (zs.mergeSort fun x y => decide (x ≤ y)).toArray) os := Any.slices_Sort_int Tryd.lays189 blk off cap zs w hH hblk hsz
theorem Tryd.slices_Compact_int (blk off cap : Nat) (d : Array Int) (w : World) (hH : Holds encI w blk off d) (hsz : d.size ≤ 9223372036854775807) (hcap : d.size ≤ cap) :
    Calls Tryd.prog 52 #[.slice (some ⟨blk, off, none⟩) d.size cap] w fun e w' => e = .returned (.slice (some ⟨blk, off, none⟩) (compactUpTo d d.size).length cap) ∧ ∃ q, w' = putRow encI (Sort.ahead w q) blk off (compactUpTo d d.size ++ List.replicate (d.size - (compactUpTo d d.size).length) 0).toArray := Any.slices_Compact_int_arr Tryd.lays20 blk off cap d w hH hsz hcap

theorem Tryd.slices_Sort_none (p : Option Addr) (cap : Nat) (w : World) : Calls Tryd.prog 51 #[.slice p 0 cap] w fun e w' => e = .returned (.tuple #[]) ∧ w' = w := Any.slices_Sort_int_none Tryd.lays189 p cap w
theorem Tryd.slices_Compact_none (p : Option Addr) (cap : Nat) (w : World) : Calls Tryd.prog 52 #[.slice p 0 cap] w fun e w' => e = .returned (.slice p 0 cap) ∧ w' = w := Any.slices_Compact_int_empty Tryd.lays20 p cap w
theorem Tryd.slices_Contains_int (b off n c : Nat) (zs : List Int) (x : Int) (w : World) (hz : n ≤ zs.length) (hbig : n ≤ 9223372036854775807) (hc : ∀ j, j < zs.length → w.cell? ⟨b, off + j, none⟩ = some (.int .i64 (zs.getD j 0))) :
    Calls Tryd.prog 36 #[.slice (some ⟨b, off, none⟩) n c, .int .i64 x] w fun e w' => e = .returned (.bool ((zs.take n).contains x)) ∧ w' = w := Any.slices_Contains_int Tryd.lays107 b off n c zs x w hz hbig hc
theorem Tryd.slices_Contains_none (p : Option Addr) (c : Nat) (x : Int) (w : World) : Calls Tryd.prog 36 #[.slice p 0 c, .int .i64 x] w fun e w' => e = .returned (.bool false) ∧ w' = w := Any.slices_Contains_int_empty Tryd.lays107 p c x w
theorem Tryd.slices_Reverse (k : Nat) {α : Type} [Inhabited α] (aE : ∀ w, (isAgg 51).run Tryd.prog w = .ok true w) (zE : ∀ w, (Go.sizeOf 51).run Tryd.prog w = .ok k w) (enc : α → List Value) (hk : ∀ x, (enc x).length = k) (h1 : ∀ x, ∀ v ∈ enc x, v.oneCell' = true)
    (blk off cap : Nat) (d : Array α) (w : World) (hH : HoldsK enc k w blk off d) (hsz : d.size ≤ 9223372036854775807) :
    Calls Tryd.prog 58 #[.slice (some ⟨blk, off, none⟩) d.size cap] w fun e w' => e = .returned (.tuple #[]) ∧ ∃ n, w' = putRowK enc k (Sort.ahead w n) blk off d.reverse := AnyQ.slices_Reverse Tryd.lays35 k aE zE enc hk h1 blk off cap d w hH hsz
theorem Tryd.slices_Reverse_none (p : Option Addr) (cap : Nat) (w : World) : Calls Tryd.prog 58 #[.slice p 0 cap] w fun e w' => e = .returned (.tuple #[]) ∧ w' = w := AnyQ.slices_Reverse_empty Tryd.lays35 p cap w
end Go.Proofs

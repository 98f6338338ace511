/-
  Of Go's library, at this program: slices.Sort and slices.Contains of numbers: that the program's functions are those that the library's contracts speak of.
-/
import Derived.Shelf.Sort.Plain
import Derived.Shelf.Slices.Turned
import Derived.Shelf.Slices.In.SortNone
import Derived.Test.YtcjojcaahpkacabRows
namespace Go.Proofs
open Go.Shelf

def Try.lays189_ren : Go.Shelf.Ren := ⟨fun | 125 => 24 | 128 => 34 | 129 => 35 | 189 => 17 | 215 => 41 | 216 => 31 | 257 => 23 | 294 => 25 | 295 => 26 | 296 => 27 | 297 => 28 | 298 => 29 | 299 => 30 | 300 => 32 | 301 => 33 | 328 => 36 | 329 => 37 | 330 => 38 | 331 => 39 | 332 => 40 | 343 => 42 | 0 => 0 | 1 => 1 | 2 => 2 | 107 => 16 | 108 => 22 | 347 => 43 | 348 => 44 | 349 => 45 | 350 => 46 | 351 => 47 | 352 => 48 | 353 => 49 | 354 => 50 | 355 => 51 | 356 => 52 | 357 => 53 | 358 => 54 | 359 => 55 | 360 => 56 | 361 => 57 | 366 => 59 | n => n, fun | 0 => 0 | 3 => 3 | 4 => 4 | 5 => 5 | 9 => 9 | 28 => 35 | 46 => 60 | 51 => 71 | 53 => 73 | 131 => 68 | 182 => 62 | 183 => 63 | 218 => 74 | 222 => 78 | 228 => 80 | 229 => 54 | 1 => 1 | 2 => 2 | 6 => 6 | 7 => 7 | 8 => 8 | 10 => 10 | 11 => 11 | 12 => 12 | 13 => 13 | 14 => 14 | 15 => 15 | 16 => 16 | 17 => 17 | 18 => 18 | 19 => 19 | 20 => 20 | 21 => 21 | 29 => 51 | 30 => 57 | 35 => 52 | 47 => 59 | 52 => 70 | 54 => 72 | 80 => 82 | 81 => 28 | 111 => 47 | 112 => 66 | 127 => 91 | 134 => 58 | 164 => 96 | 181 => 61 | 184 => 64 | 185 => 65 | 186 => 67 | 187 => 69 | 219 => 75 | 220 => 76 | 221 => 77 | 223 => 79 | 230 => 81 | 238 => 83 | 239 => 84 | 240 => 85 | 241 => 86 | 242 => 87 | 243 => 88 | 244 => 89 | 245 => 90 | 246 => 92 | 247 => 93 | 248 => 94 | 249 => 95 | n => n, fun | n => n⟩
theorem Try.lays189 : Lays.n189 Try.prog Try.lays189_ren := {
  mixed := by kernel_rfl
  f125 := Try.func24.trans (congrArg some (by kernel_rfl))
  f128 := Try.func34.trans (congrArg some (by kernel_rfl))
  f129 := Try.func35.trans (congrArg some (by kernel_rfl))
  f189 := Try.func17.trans (congrArg some (by kernel_rfl))
  f215 := Try.func41.trans (congrArg some (by kernel_rfl))
  f216 := Try.func31.trans (congrArg some (by kernel_rfl))
  f257 := Try.func23.trans (congrArg some (by kernel_rfl))
  f294 := Try.func25.trans (congrArg some (by kernel_rfl))
  f295 := Try.func26.trans (congrArg some (by kernel_rfl))
  f296 := Try.func27.trans (congrArg some (by kernel_rfl))
  f297 := Try.func28.trans (congrArg some (by kernel_rfl))
  f298 := Try.func29.trans (congrArg some (by kernel_rfl))
  f299 := Try.func30.trans (congrArg some (by kernel_rfl))
  f300 := Try.func32.trans (congrArg some (by kernel_rfl))
  f301 := Try.func33.trans (congrArg some (by kernel_rfl))
  f328 := Try.func36.trans (congrArg some (by kernel_rfl))
  f329 := Try.func37.trans (congrArg some (by kernel_rfl))
  f330 := Try.func38.trans (congrArg some (by kernel_rfl))
  f331 := Try.func39.trans (congrArg some (by kernel_rfl))
  f332 := Try.func40.trans (congrArg some (by kernel_rfl))
  f343 := Try.func42.trans (congrArg some (by kernel_rfl))
  t0 := Try.underlying0
  a0 := Try.isAgg0
  z0 := Try.sizeOf0
  v0 := Try.zeroValue0
  t3 := Try.underlying3
  a3 := Try.isAgg3
  z3 := Try.sizeOf3
  v3 := Try.zeroValue3
  t4 := Try.underlying4
  a4 := Try.isAgg4
  z4 := Try.sizeOf4
  v4 := Try.zeroValue4
  t5 := Try.underlying5
  a5 := Try.isAgg5
  z5 := Try.sizeOf5
  v5 := Try.zeroValue5
  t9 := Try.underlying9
  a9 := Try.isAgg9
  z9 := Try.sizeOf9
  v9 := Try.zeroValue9
  t28 := Try.underlying35
  a28 := Try.isAgg35
  z28 := Try.sizeOf35
  v28 := Try.zeroValue35
  t46 := Try.underlying60
  a46 := Try.isAgg60
  z46 := Try.sizeOf60
  v46 := Try.zeroValue60
  t51 := Try.underlying71
  a51 := Try.isAgg71
  z51 := Try.sizeOf71
  v51 := Try.zeroValue71
  t53 := Try.underlying73
  a53 := Try.isAgg73
  z53 := Try.sizeOf73
  v53 := Try.zeroValue73
  t131 := Try.underlying68
  a131 := Try.isAgg68
  z131 := Try.sizeOf68
  v131 := Try.zeroValue68
  t182 := Try.underlying62
  a182 := Try.isAgg62
  z182 := Try.sizeOf62
  v182 := Try.zeroValue62
  t183 := Try.underlying63
  a183 := Try.isAgg63
  z183 := Try.sizeOf63
  v183 := Try.zeroValue63
  t218 := Try.underlying74
  a218 := Try.isAgg74
  z218 := Try.sizeOf74
  v218 := Try.zeroValue74
  t222 := Try.underlying78
  a222 := Try.isAgg78
  z222 := Try.sizeOf78
  v222 := Try.zeroValue78
  t228 := Try.underlying80
  a228 := Try.isAgg80
  z228 := Try.sizeOf80
  v228 := Try.zeroValue80
  t229 := Try.underlying54
  a229 := Try.isAgg54
  z229 := Try.sizeOf54
  v229 := Try.zeroValue54 }

def Try.lays107_ren : Go.Shelf.Ren := ⟨fun | 107 => 16 | 108 => 22 | 0 => 0 | 1 => 1 | 2 => 2 | 125 => 24 | 128 => 34 | 129 => 35 | 189 => 17 | 215 => 41 | 216 => 31 | 257 => 23 | 294 => 25 | 295 => 26 | 296 => 27 | 297 => 28 | 298 => 29 | 299 => 30 | 300 => 32 | 301 => 33 | 328 => 36 | 329 => 37 | 330 => 38 | 331 => 39 | 332 => 40 | 343 => 42 | 347 => 43 | 348 => 44 | 349 => 45 | 350 => 46 | 351 => 47 | 352 => 48 | 353 => 49 | 354 => 50 | 355 => 51 | 356 => 52 | 357 => 53 | 358 => 54 | 359 => 55 | 360 => 56 | 361 => 57 | 366 => 59 | n => n, fun | 0 => 0 | 3 => 3 | 4 => 4 | 28 => 35 | 1 => 1 | 2 => 2 | 5 => 5 | 6 => 6 | 7 => 7 | 8 => 8 | 9 => 9 | 10 => 10 | 11 => 11 | 12 => 12 | 13 => 13 | 14 => 14 | 15 => 15 | 16 => 16 | 17 => 17 | 18 => 18 | 19 => 19 | 20 => 20 | 21 => 21 | 29 => 51 | 30 => 57 | 35 => 52 | 46 => 60 | 47 => 59 | 51 => 71 | 52 => 70 | 53 => 73 | 54 => 72 | 80 => 82 | 81 => 28 | 111 => 47 | 112 => 66 | 127 => 91 | 131 => 68 | 134 => 58 | 164 => 96 | 181 => 61 | 182 => 62 | 183 => 63 | 184 => 64 | 185 => 65 | 186 => 67 | 187 => 69 | 218 => 74 | 219 => 75 | 220 => 76 | 221 => 77 | 222 => 78 | 223 => 79 | 228 => 80 | 229 => 54 | 230 => 81 | 238 => 83 | 239 => 84 | 240 => 85 | 241 => 86 | 242 => 87 | 243 => 88 | 244 => 89 | 245 => 90 | 246 => 92 | 247 => 93 | 248 => 94 | 249 => 95 | n => n, fun | n => n⟩
theorem Try.lays107 : Lays.n107 Try.prog Try.lays107_ren := {
  mixed := by kernel_rfl
  f107 := Try.func16.trans (congrArg some (by kernel_rfl))
  f108 := Try.func22.trans (congrArg some (by kernel_rfl))
  t0 := Try.underlying0
  a0 := Try.isAgg0
  z0 := Try.sizeOf0
  v0 := Try.zeroValue0
  t3 := Try.underlying3
  a3 := Try.isAgg3
  z3 := Try.sizeOf3
  v3 := Try.zeroValue3
  t4 := Try.underlying4
  a4 := Try.isAgg4
  z4 := Try.sizeOf4
  v4 := Try.zeroValue4
  t28 := Try.underlying35
  a28 := Try.isAgg35
  z28 := Try.sizeOf35
  v28 := Try.zeroValue35 }

open Go.RowKit Go.Sort Go.Lib
theorem Try.slices_Sort_int (blk off cap : Nat) (zs : List Int) (w : World) (hH : Holds (Value.int .i64) w blk off zs.toArray) (hblk : blk < w.heap.size) (hsz : zs.length < 4611686018427387904) :
    Calls Try.prog 17 #[.slice (some ⟨blk, off, none⟩) zs.length cap] w fun e w' =>
      e = .returned (.tuple #[]) ∧ ∃ n os, w' = grow (putRow (Value.int .i64) (Sort.ahead w n) blk off (zs.mergeSort fun x y => decide (x ≤ y)).toArray) os := Any.slices_Sort_int Try.lays189 blk off cap zs w hH hblk hsz

theorem Try.slices_Sort_none (p : Option Addr) (cap : Nat) (w : World) : Calls Try.prog 17 #[.slice p 0 cap] w fun e w' => e = .returned (.tuple #[]) ∧ w' = w := Any.slices_Sort_int_none Try.lays189 p cap w
theorem Try.slices_Contains_int (b off n c : Nat) (zs : List Int) (x : Int) (w : World) (hz : n ≤ zs.length) (hbig : n ≤ 9223372036854775807) (hc : ∀ j, j < zs.length → w.cell? ⟨b, off + j, none⟩ = some (.int .i64 (zs.getD j 0))) :
    Calls Try.prog 16 #[.slice (some ⟨b, off, none⟩) n c, .int .i64 x] w fun e w' => e = .returned (.bool ((zs.take n).contains x)) ∧ w' = w := Any.slices_Contains_int Try.lays107 b off n c zs x w hz hbig hc
theorem Try.slices_Contains_none (p : Option Addr) (c : Nat) (x : Int) (w : World) : Calls Try.prog 16 #[.slice p 0 c, .int .i64 x] w fun e w' => e = .returned (.bool false) ∧ w' = w := Any.slices_Contains_int_empty Try.lays107 p c x w
end Go.Proofs

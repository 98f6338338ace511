/-
  Of Go's library, at this program: slices.Sort and slices.Contains of numbers: that the program's functions are those that the library's contracts speak of.
-/
import Derived.Shelf.Sort.Plain
import Derived.Shelf.Slices.Turned
import Derived.Shelf.Slices.In.SortNone
import Derived.Test.YtcjojcaahpkacaaRows
namespace Go.Proofs
open Go.Shelf

def Try.lays189_ren : Go.Shelf.Ren := ⟨fun | 125 => 43 | 128 => 53 | 129 => 54 | 189 => 37 | 215 => 60 | 216 => 50 | 257 => 42 | 294 => 44 | 295 => 45 | 296 => 46 | 297 => 47 | 298 => 48 | 299 => 49 | 300 => 51 | 301 => 52 | 328 => 55 | 329 => 56 | 330 => 57 | 331 => 58 | 332 => 59 | 343 => 61 | 0 => 0 | 1 => 1 | 2 => 2 | 107 => 36 | 108 => 41 | 347 => 62 | 348 => 63 | 349 => 64 | 350 => 65 | 351 => 66 | 352 => 67 | 353 => 68 | 354 => 69 | 355 => 70 | 356 => 71 | 357 => 72 | 358 => 73 | 359 => 74 | 360 => 75 | 361 => 76 | 366 => 78 | n => n, fun | 0 => 0 | 3 => 3 | 4 => 4 | 5 => 5 | 9 => 9 | 28 => 36 | 46 => 74 | 51 => 84 | 53 => 86 | 131 => 81 | 182 => 76 | 183 => 77 | 218 => 87 | 222 => 91 | 228 => 93 | 229 => 41 | 1 => 1 | 2 => 2 | 6 => 6 | 7 => 7 | 8 => 8 | 10 => 10 | 11 => 11 | 12 => 12 | 13 => 13 | 14 => 14 | 15 => 15 | 16 => 16 | 17 => 17 | 18 => 18 | 19 => 19 | 20 => 20 | 21 => 21 | 29 => 49 | 30 => 71 | 34 => 35 | 35 => 68 | 47 => 73 | 52 => 83 | 54 => 85 | 80 => 95 | 81 => 38 | 111 => 64 | 112 => 50 | 127 => 104 | 134 => 72 | 164 => 109 | 181 => 75 | 184 => 78 | 185 => 79 | 186 => 80 | 187 => 82 | 219 => 88 | 220 => 89 | 221 => 90 | 223 => 92 | 230 => 94 | 238 => 96 | 239 => 97 | 240 => 98 | 241 => 99 | 242 => 100 | 243 => 101 | 244 => 102 | 245 => 103 | 246 => 105 | 247 => 106 | 248 => 107 | 249 => 108 | n => n, fun | n => n⟩
theorem Try.lays189 : Lays.n189 Try.prog Try.lays189_ren := {
  mixed := by kernel_rfl
  f125 := Try.func43.trans (congrArg some (by kernel_rfl))
  f128 := Try.func53.trans (congrArg some (by kernel_rfl))
  f129 := Try.func54.trans (congrArg some (by kernel_rfl))
  f189 := Try.func37.trans (congrArg some (by kernel_rfl))
  f215 := Try.func60.trans (congrArg some (by kernel_rfl))
  f216 := Try.func50.trans (congrArg some (by kernel_rfl))
  f257 := Try.func42.trans (congrArg some (by kernel_rfl))
  f294 := Try.func44.trans (congrArg some (by kernel_rfl))
  f295 := Try.func45.trans (congrArg some (by kernel_rfl))
  f296 := Try.func46.trans (congrArg some (by kernel_rfl))
  f297 := Try.func47.trans (congrArg some (by kernel_rfl))
  f298 := Try.func48.trans (congrArg some (by kernel_rfl))
  f299 := Try.func49.trans (congrArg some (by kernel_rfl))
  f300 := Try.func51.trans (congrArg some (by kernel_rfl))
  f301 := Try.func52.trans (congrArg some (by kernel_rfl))
  f328 := Try.func55.trans (congrArg some (by kernel_rfl))
  f329 := Try.func56.trans (congrArg some (by kernel_rfl))
  f330 := Try.func57.trans (congrArg some (by kernel_rfl))
  f331 := Try.func58.trans (congrArg some (by kernel_rfl))
  f332 := Try.func59.trans (congrArg some (by kernel_rfl))
  f343 := Try.func61.trans (congrArg some (by kernel_rfl))
  t0 := Try.underlying0
  a0 := Try.isAgg0
  z0 := Try.sizeOf0
  v0 := Try.zeroValue0
  t3 := Try.underlying3
  a3 := Try.isAgg3
  z3 := Try.sizeOf3
  v3 := Try.zeroValue3
  t4 := Try.underlying4
  a4 := Try.isAgg4
  z4 := Try.sizeOf4
  v4 := Try.zeroValue4
  t5 := Try.underlying5
  a5 := Try.isAgg5
  z5 := Try.sizeOf5
  v5 := Try.zeroValue5
  t9 := Try.underlying9
  a9 := Try.isAgg9
  z9 := Try.sizeOf9
  v9 := Try.zeroValue9
  t28 := Try.underlying36
  a28 := Try.isAgg36
  z28 := Try.sizeOf36
  v28 := Try.zeroValue36
  t46 := Try.underlying74
  a46 := Try.isAgg74
  z46 := Try.sizeOf74
  v46 := Try.zeroValue74
  t51 := Try.underlying84
  a51 := Try.isAgg84
  z51 := Try.sizeOf84
  v51 := Try.zeroValue84
  t53 := Try.underlying86
  a53 := Try.isAgg86
  z53 := Try.sizeOf86
  v53 := Try.zeroValue86
  t131 := Try.underlying81
  a131 := Try.isAgg81
  z131 := Try.sizeOf81
  v131 := Try.zeroValue81
  t182 := Try.underlying76
  a182 := Try.isAgg76
  z182 := Try.sizeOf76
  v182 := Try.zeroValue76
  t183 := Try.underlying77
  a183 := Try.isAgg77
  z183 := Try.sizeOf77
  v183 := Try.zeroValue77
  t218 := Try.underlying87
  a218 := Try.isAgg87
  z218 := Try.sizeOf87
  v218 := Try.zeroValue87
  t222 := Try.underlying91
  a222 := Try.isAgg91
  z222 := Try.sizeOf91
  v222 := Try.zeroValue91
  t228 := Try.underlying93
  a228 := Try.isAgg93
  z228 := Try.sizeOf93
  v228 := Try.zeroValue93
  t229 := Try.underlying41
  a229 := Try.isAgg41
  z229 := Try.sizeOf41
  v229 := Try.zeroValue41 }

def Try.lays107_ren : Go.Shelf.Ren := ⟨fun | 107 => 36 | 108 => 41 | 0 => 0 | 1 => 1 | 2 => 2 | 125 => 43 | 128 => 53 | 129 => 54 | 189 => 37 | 215 => 60 | 216 => 50 | 257 => 42 | 294 => 44 | 295 => 45 | 296 => 46 | 297 => 47 | 298 => 48 | 299 => 49 | 300 => 51 | 301 => 52 | 328 => 55 | 329 => 56 | 330 => 57 | 331 => 58 | 332 => 59 | 343 => 61 | 347 => 62 | 348 => 63 | 349 => 64 | 350 => 65 | 351 => 66 | 352 => 67 | 353 => 68 | 354 => 69 | 355 => 70 | 356 => 71 | 357 => 72 | 358 => 73 | 359 => 74 | 360 => 75 | 361 => 76 | 366 => 78 | n => n, fun | 0 => 0 | 3 => 3 | 4 => 4 | 28 => 36 | 1 => 1 | 2 => 2 | 5 => 5 | 6 => 6 | 7 => 7 | 8 => 8 | 9 => 9 | 10 => 10 | 11 => 11 | 12 => 12 | 13 => 13 | 14 => 14 | 15 => 15 | 16 => 16 | 17 => 17 | 18 => 18 | 19 => 19 | 20 => 20 | 21 => 21 | 29 => 49 | 30 => 71 | 34 => 35 | 35 => 68 | 46 => 74 | 47 => 73 | 51 => 84 | 52 => 83 | 53 => 86 | 54 => 85 | 80 => 95 | 81 => 38 | 111 => 64 | 112 => 50 | 127 => 104 | 131 => 81 | 134 => 72 | 164 => 109 | 181 => 75 | 182 => 76 | 183 => 77 | 184 => 78 | 185 => 79 | 186 => 80 | 187 => 82 | 218 => 87 | 219 => 88 | 220 => 89 | 221 => 90 | 222 => 91 | 223 => 92 | 228 => 93 | 229 => 41 | 230 => 94 | 238 => 96 | 239 => 97 | 240 => 98 | 241 => 99 | 242 => 100 | 243 => 101 | 244 => 102 | 245 => 103 | 246 => 105 | 247 => 106 | 248 => 107 | 249 => 108 | n => n, fun | n => n⟩
theorem Try.lays107 : Lays.n107 Try.prog Try.lays107_ren := {
  mixed := by kernel_rfl
  f107 := Try.func36.trans (congrArg some (by kernel_rfl))
  f108 := Try.func41.trans (congrArg some (by kernel_rfl))
  t0 := Try.underlying0
  a0 := Try.isAgg0
  z0 := Try.sizeOf0
  v0 := Try.zeroValue0
  t3 := Try.underlying3
  a3 := Try.isAgg3
  z3 := Try.sizeOf3
  v3 := Try.zeroValue3
  t4 := Try.underlying4
  a4 := Try.isAgg4
  z4 := Try.sizeOf4
  v4 := Try.zeroValue4
  t28 := Try.underlying36
  a28 := Try.isAgg36
  z28 := Try.sizeOf36
  v28 := Try.zeroValue36 }

open Go.RowKit Go.Sort Go.Lib
theorem Try.slices_Sort_int (blk off cap : Nat) (zs : List Int) (w : World) (hH : Holds (Value.int .i64) w blk off zs.toArray) (hblk : blk < w.heap.size) (hsz : zs.length < 4611686018427387904) :
    Calls Try.prog 37 #[.slice (some ⟨blk, off, none⟩) zs.length cap] w fun e w' =>
      e = .returned (.tuple #[]) ∧ ∃ n os, w' = grow (putRow (Value.int .i64) (Sort.ahead w n) blk off (zs.mergeSort fun x y => decide (x ≤ y)).toArray) os := Any.slices_Sort_int Try.lays189 blk off cap zs w hH hblk hsz

theorem Try.slices_Sort_none (p : Option Addr) (cap : Nat) (w : World) : Calls Try.prog 37 #[.slice p 0 cap] w fun e w' => e = .returned (.tuple #[]) ∧ w' = w := Any.slices_Sort_int_none Try.lays189 p cap w
theorem Try.slices_Contains_int (b off n c : Nat) (zs : List Int) (x : Int) (w : World) (hz : n ≤ zs.length) (hbig : n ≤ 9223372036854775807) (hc : ∀ j, j < zs.length → w.cell? ⟨b, off + j, none⟩ = some (.int .i64 (zs.getD j 0))) :
    Calls Try.prog 36 #[.slice (some ⟨b, off, none⟩) n c, .int .i64 x] w fun e w' => e = .returned (.bool ((zs.take n).contains x)) ∧ w' = w := Any.slices_Contains_int Try.lays107 b off n c zs x w hz hbig hc
theorem Try.slices_Contains_none (p : Option Addr) (c : Nat) (x : Int) (w : World) : Calls Try.prog 36 #[.slice p 0 c, .int .i64 x] w fun e w' => e = .returned (.bool false) ∧ w' = w := Any.slices_Contains_int_empty Try.lays107 p c x w
end Go.Proofs

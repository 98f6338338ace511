import Derived.Test.YtlcbfdiohcbpbaaGreatDoorZW2
import Derived.Test.YtlcbfdiohcbpbaaGreatDoorRDec8
namespace Go.Proofs.YtlcbfdiohcbpbaaGreatDoor
set_option maxRecDepth 20000
set_option maxHeartbeats 16000000
open Go.ChangeShapes Go.WideShapes Go.ChangeAt Go.RowKit
set_option linter.unusedVariables false
set_option linter.unusedSimpArgs false
theorem dec_long (d:ByteArray) (w:World) (hd:Ct w) (hn:4000 < d.size):Calls Tryz.prog 4 #[.string d] w fun e w'=>e=.returned (.bool true)∧Below w.heap.size w w':=by
 have HA:Hid (Calls Tryz.prog 9 #[] w fun e w'=>e=.returned (.bool true)∧Below w.heap.size w w'):=(show Calls _ _ _ _ _ from awake_any w hd)
 have hn':(d.size:Int) > 4000:=by omega
 clear hn hd
 go_enter Tryz.func4,Tryz.ntmps4
 go_wp2_with fail
 refine HA.out.mono ?_
 rintro r w2 ⟨rfl,g2⟩
 go_wp2_with fail
 go_ret
 exact ⟨rfl,g2⟩
theorem dec_few (d:ByteArray) (w:World) (hd:Ct w) (hn:d.size≤4000):Calls Tryz.prog 4 #[.string d] w fun e w'=>e=.returned (.bool true)∧Below w.heap.size w w':=by
 have HA:Hid (∀ w1,Below w.heap.size w w1→Calls Tryz.prog 9 #[] w1 fun e w'=>e=.returned (.bool true)∧Below w1.heap.size w1 w'):=(show ∀ w1,_ from fun w1 g=>awake_any w1 (hd.below g))
 have HD:Hid (Calls Tryz.prog 13 #[.string d] w fun e w'=>∃ m:Ms,e=.returned (.tuple #[msV m,.int .i64 (decZ d),.int .i64 (decE d)])∧Hid (m.msg=decM d∧MW w' m)∧Below w.heap.size w w'):=(show Calls _ _ _ _ _ from (decode_M d w (by unfold maxLen;omega) hd).mono fun _ _ ⟨m,h1,h2,h3,h4,h5⟩=>⟨m,h1,(show _∧_ from ⟨h2,h3⟩),h5⟩)
 have HR:Hid (∀ w1,Below w.heap.size w w1→Calls Tryz.prog 14 #[.string d] w1 fun e w'=>∃ m:Ms,e=.returned (.tuple #[msV m,.int .i64 (decZ d),.int .i64 (decE d)])∧Hid (m.msg=decM d∧MW w' m)∧Below w1.heap.size w1 w'):=(show ∀ w1,_ from fun w1 g=>(rdecode_M d w1 (by omega) (hd.below g)).mono fun _ _ ⟨m,h1,h2,h3,h4,h5⟩=>⟨m,h1,(show _∧_ from ⟨h2,h3⟩),h5⟩)
 have HP:Hid (∀ (x:Ms) w,Calls Tryz.prog 12 #[msV x] w fun e w'=>e=.returned (msV x)∧Below w.heap.size w w'):=(show ∀ x w,_ from fun x w=>plain_M x w)
 have HS:Hid (∀ (x y:Ms) w,x.msg=y.msg→MW w x→MW w y→Calls Tryz.prog 15 #[msV x,msV y] w fun e w'=>e=.returned (.bool true)∧Below w.heap.size w w'):=(show ∀ x y w,_ from fun x y w e hx hy=>by
  have:=same_M x y w hx hy
  rwa [e,sameM_refl] at this)
 have hn' : ¬ ((d.size:Int) > 4000):=by omega
 clear hn hd
 generalize decZ d=Z at *
 generalize decE d=E at *
 generalize decM d=RM at *
 go_enter Tryz.func4,Tryz.ntmps4
 go_wp2_with fail
 refine HD.out.mono ?_
 rintro r w1 ⟨x,rfl,HX,g1⟩
 have HZ1:Hid (∀ V,Only w1.heap.size (w1.alloc (.cells #[.int .i64 0,.int .i64 0,.int .i64 0,.bool false,.int .i64 0,.int .i64 0,.slice none 0 0,.slice none 0 0,.slice none 0 0,.bool false,.int .u64 0,.int .u64 0,.int .i64 0,.int .i64 0,.int .i64 0,.int .i64 0,.slice none 0 0,.int .i64 0,.int .i64 0,.int .i64 0,.int .i64 0,.int .i64 0,.int .i64 0,.bool false,.slice none 0 0,.string ⟨#[]⟩] 33)) V→Below w.heap.size w V∧Below w1.heap.size w1 V∧w1.heap.size < V.heap.size):=(show ∀ V,_ from fun V o=>by
  have gA:Below w1.heap.size w1 (w1.alloc (.cells #[.int .i64 0,.int .i64 0,.int .i64 0,.bool false,.int .i64 0,.int .i64 0,.slice none 0 0,.slice none 0 0,.slice none 0 0,.bool false,.int .u64 0,.int .u64 0,.int .i64 0,.int .i64 0,.int .i64 0,.int .i64 0,.slice none 0 0,.int .i64 0,.int .i64 0,.int .i64 0,.int .i64 0,.int .i64 0,.int .i64 0,.bool false,.slice none 0 0,.string ⟨#[]⟩] 33)):=by go_grown
  have gV:=o.belowK (Nat.le_refl _) gA
  exact ⟨btr g1 gV (Nat.le_refl _),gV,by rw [o.size];simp⟩)
 clear g1
 go_wp2_with (refine store_M rfl (.tmp 3) (.tmp 16) rfl w1.heap.size x rfl rfl (there_new _ _ _) ?_;intro V bV tV oV)
 obtain ⟨G2,g2,z2⟩:=HZ1.out _ oV
 have HX2:Hid (MW V x):=(show MW _ _ from HX.out.2.below g2)
 refine (HR.out _ G2).mono ?_
 rintro r w3 ⟨y,rfl,HY,g3⟩
 have b3:=bV.below z2 g3
 have z3:=Nat.lt_of_lt_of_le z2 g3.size
 have G3:=btr G2 g3 (Nat.le_refl _)
 have HX3:Hid (MW w3 x):=(show MW _ _ from HX2.out.below g3)
 have HZ2:Hid (∀ V,Only w3.heap.size (w3.alloc (.cells #[.int .i64 0,.int .i64 0,.int .i64 0,.bool false,.int .i64 0,.int .i64 0,.slice none 0 0,.slice none 0 0,.slice none 0 0,.bool false,.int .u64 0,.int .u64 0,.int .i64 0,.int .i64 0,.int .i64 0,.int .i64 0,.slice none 0 0,.int .i64 0,.int .i64 0,.int .i64 0,.int .i64 0,.int .i64 0,.int .i64 0,.bool false,.slice none 0 0,.string ⟨#[]⟩] 42)) V→Below w.heap.size w V∧Below w3.heap.size w3 V∧w3.heap.size < V.heap.size):=(show ∀ V,_ from fun V o=>by
  have gA:Below w3.heap.size w3 (w3.alloc (.cells #[.int .i64 0,.int .i64 0,.int .i64 0,.bool false,.int .i64 0,.int .i64 0,.slice none 0 0,.slice none 0 0,.slice none 0 0,.bool false,.int .u64 0,.int .u64 0,.int .i64 0,.int .i64 0,.int .i64 0,.int .i64 0,.slice none 0 0,.int .i64 0,.int .i64 0,.int .i64 0,.int .i64 0,.int .i64 0,.int .i64 0,.bool false,.slice none 0 0,.string ⟨#[]⟩] 42)):=by go_grown
  have gV:=o.belowK (Nat.le_refl _) gA
  exact ⟨btr G3 gV (Nat.le_refl _),gV,by rw [o.size];simp⟩)
 clear HZ1 bV tV oV G2 g2 z2 HX2 g3
 go_wp2_with (refine store_R rfl (.tmp 6) (.tmp 22) rfl w3.heap.size y rfl rfl (there_new _ _ _) ?_;intro V2 bV2 tV2 oV2)
 obtain ⟨G4,g4,z4⟩:=HZ2.out _ oV2
 have b4:=b3.below z3 g4
 have z34:=Nat.lt_of_lt_of_le z3 g4.size
 have HS1:Hid (∀ n:GrT V2,Calls Tryz.prog 15 #[msV x,msV y] n.w fun e w'=>e=.returned (.bool true)∧Below n.w.heap.size n.w w'):=(show ∀ n:GrT V2,_ from fun n=>HS.out x y n.w (HX.out.1.trans HY.out.1.symm) ((HX3.out.below g4).below n.h) ((HY.out.2.below g4).below n.h))
 have HA1:Hid (∀ n:GrT V2,Calls Tryz.prog 9 #[] n.w fun e w'=>e=.returned (.bool true)∧Below n.w.heap.size n.w w'):=(show ∀ n:GrT V2,_ from fun n=>HA.out _ (btr G4 n.h (Nat.le_refl _)))
 have HQ1:Hid (∀ u,(∃ n:GrT V2,u=n.w)→Bm u w1.heap.size x):=(show ∀ u,_ from b4.all z34)
 have HQ2:Hid (∀ u,(∃ n:GrT V2,u=n.w)→Bm u w3.heap.size y):=(show ∀ u,_ from bV2.all z4)
 clear HZ2 bV2 tV2 oV2 g4 z4 b4 z34 b3 z3 HX3
 refine wp_region_grow (by kernel_rfl) (by kernel_rfl) ?_
 repeat (first
  | (go_big_quiet_want;refine quiet_M (.tmp 3) rfl w1.heap.size x rfl HQ1.out ?_;go_big_quiet_on;simp only [Act.put,List.setIfInBounds_toArray,List.set_cons_succ,List.set_cons_zero])
  | (go_big_quiet_want;refine quiet_R (.tmp 6) rfl w3.heap.size y rfl HQ2.out ?_;go_big_quiet_on;simp only [Act.put,List.setIfInBounds_toArray,List.set_cons_succ,List.set_cons_zero])
  | go_big_quiet_step (first | (go_at_call 12;exact quiet_gr (HP.out _ _)) | (go_at_call 15;exact quiet_gr (HS1.out _)) | (go_at_call 9;exact quiet_gr (HA1.out _))))
 refine wpQuiet_nil ?_
 rintro w5 hw'
 have g5:=gr_elim hw'
 have G5:=btr G4 g5 (Nat.le_refl _)
 clear hw' HQ1 HQ2 HS1 HA1
 go_wp2_with fail
 go_ret
 exact ⟨rfl,G5⟩
theorem decodes_walk (d:ByteArray) (w:World) (hs:d.size≤maxLen) (hd:Ct w):Calls Tryz.prog 4 #[.string d] w fun e w'=>e=.returned (.bool true)∧Below w.heap.size w w':=by
 by_cases hn:d.size≤4000
 ·exact dec_few d w hd hn
 ·exact dec_long d w hd (by omega)
end Go.Proofs.YtlcbfdiohcbpbaaGreatDoor

import Derived.Test.YtlcbfdiohcbpbaaGreatDoorZW
namespace Go.Proofs.YtlcbfdiohcbpbaaGreatDoor
set_option maxRecDepth 20000
set_option maxHeartbeats 8000000
open Go.ChangeShapes Go.WideShapes Go.ChangeAt Go.RowKit
set_option linter.unusedSimpArgs false
def woS (m:Ms):Ms :=
 if m.kind=1 then { m with typ:=0,cod:=0,dat:=⟨#[]⟩ } else if m.kind=2 then { m with dat:=⟨#[]⟩ } else if m.kind=3 then { m with dat:=⟨#[]⟩ } else if m.kind=12 then { m with prt:=0,live:=false } else if m.kind=13 then { m with prt:=0,aa:=none,la:=[],ca:=0,dat:=⟨#[]⟩ } else if m.kind=14 then { m with cmd:=0,chk:=false,en:=en0,ts:=[] } else if m.kind=15 then { m with cmd:=0,gid:=0,gkd:=0,ga:=none,gb:=[],gc:=0 } else if m.kind=29 then { m with cmd:=0,mid:=0,mra:=0,mbu:=0 } else m
theorem wo_1 (m:Ms) (w:World) (k1:(m.kind == 1)=true) :
    Calls Tryz.prog 32 #[msV m] w fun e w'=>e=.returned (msV { m with typ:=0,cod:=0,dat:=⟨#[]⟩ })∧Below w.heap.size w w':=by
  have HG:Hid (∀ c d:Array Value,Below w.heap.size w ((w.alloc (.cells c 33)).alloc (.cells d 33))):=(show ∀ c d:Array Value,_ from fun c d=>by go_grown)
  go_enter Tryz.func32,Tryz.ntmps32
  go_wp2_with (first | (refine load_M rfl (.tmp 1) rfl w.heap.size { m with typ:=0,cod:=0,dat:=⟨#[]⟩ } rfl (range_two _ _ _ _ _) ?_) | (refine store_M rfl (.tmp 2) (.tmp 39) rfl (w.heap.size + 1) { m with typ:=0,cod:=0,dat:=⟨#[]⟩ } rfl rfl (there_two _ _ _ _ _) ?_;intro V bV tV oV;have GV:=oV.belowK (by omega) (HG.out _ _);clear oV tV))
  refine bodyPost_ret (resM (b:=w.heap.size + 1) (m:={ m with typ:=0,cod:=0,dat:=⟨#[]⟩ }) rfl rfl bV) rfl ?_
  exact ⟨rfl,GV⟩
theorem wo_2 (m:Ms) (w:World) (k1:(m.kind == 1)=false) (k2:(m.kind == 2)=true) :
    Calls Tryz.prog 32 #[msV m] w fun e w'=>e=.returned (msV { m with dat:=⟨#[]⟩ })∧Below w.heap.size w w':=by
  have HG:Hid (∀ c d:Array Value,Below w.heap.size w ((w.alloc (.cells c 33)).alloc (.cells d 33))):=(show ∀ c d:Array Value,_ from fun c d=>by go_grown)
  go_enter Tryz.func32,Tryz.ntmps32
  go_wp2_with (first | (refine load_M rfl (.tmp 1) rfl w.heap.size { m with dat:=⟨#[]⟩ } rfl (range_two _ _ _ _ _) ?_) | (refine store_M rfl (.tmp 2) (.tmp 39) rfl (w.heap.size + 1) { m with dat:=⟨#[]⟩ } rfl rfl (there_two _ _ _ _ _) ?_;intro V bV tV oV;have GV:=oV.belowK (by omega) (HG.out _ _);clear oV tV))
  refine bodyPost_ret (resM (b:=w.heap.size + 1) (m:={ m with dat:=⟨#[]⟩ }) rfl rfl bV) rfl ?_
  exact ⟨rfl,GV⟩
theorem wo_3 (m:Ms) (w:World) (k1:(m.kind == 1)=false) (k2:(m.kind == 2)=false) (k3:(m.kind == 3)=true) :
    Calls Tryz.prog 32 #[msV m] w fun e w'=>e=.returned (msV { m with dat:=⟨#[]⟩ })∧Below w.heap.size w w':=by
  have HG:Hid (∀ c d:Array Value,Below w.heap.size w ((w.alloc (.cells c 33)).alloc (.cells d 33))):=(show ∀ c d:Array Value,_ from fun c d=>by go_grown)
  go_enter Tryz.func32,Tryz.ntmps32
  go_wp2_with (first | (refine load_M rfl (.tmp 1) rfl w.heap.size { m with dat:=⟨#[]⟩ } rfl (range_two _ _ _ _ _) ?_) | (refine store_M rfl (.tmp 2) (.tmp 39) rfl (w.heap.size + 1) { m with dat:=⟨#[]⟩ } rfl rfl (there_two _ _ _ _ _) ?_;intro V bV tV oV;have GV:=oV.belowK (by omega) (HG.out _ _);clear oV tV))
  refine bodyPost_ret (resM (b:=w.heap.size + 1) (m:={ m with dat:=⟨#[]⟩ }) rfl rfl bV) rfl ?_
  exact ⟨rfl,GV⟩
theorem wo_12 (m:Ms) (w:World) (k1:(m.kind == 1)=false) (k2:(m.kind == 2)=false) (k3:(m.kind == 3)=false) (k12:(m.kind == 12)=true) :
    Calls Tryz.prog 32 #[msV m] w fun e w'=>e=.returned (msV { m with prt:=0,live:=false })∧Below w.heap.size w w':=by
  have HG:Hid (∀ c d:Array Value,Below w.heap.size w ((w.alloc (.cells c 33)).alloc (.cells d 33))):=(show ∀ c d:Array Value,_ from fun c d=>by go_grown)
  go_enter Tryz.func32,Tryz.ntmps32
  go_wp2_with (first | (refine load_M rfl (.tmp 1) rfl w.heap.size { m with prt:=0,live:=false } rfl (range_two _ _ _ _ _) ?_) | (refine store_M rfl (.tmp 2) (.tmp 39) rfl (w.heap.size + 1) { m with prt:=0,live:=false } rfl rfl (there_two _ _ _ _ _) ?_;intro V bV tV oV;have GV:=oV.belowK (by omega) (HG.out _ _);clear oV tV))
  refine bodyPost_ret (resM (b:=w.heap.size + 1) (m:={ m with prt:=0,live:=false }) rfl rfl bV) rfl ?_
  exact ⟨rfl,GV⟩
theorem wo_13 (m:Ms) (w:World) (k1:(m.kind == 1)=false) (k2:(m.kind == 2)=false) (k3:(m.kind == 3)=false) (k12:(m.kind == 12)=false) (k13:(m.kind == 13)=true) :
    Calls Tryz.prog 32 #[msV m] w fun e w'=>e=.returned (msV { m with prt:=0,aa:=none,la:=[],ca:=0,dat:=⟨#[]⟩ })∧Below w.heap.size w w':=by
  have HG:Hid (∀ c d:Array Value,Below w.heap.size w ((w.alloc (.cells c 33)).alloc (.cells d 33))):=(show ∀ c d:Array Value,_ from fun c d=>by go_grown)
  go_enter Tryz.func32,Tryz.ntmps32
  go_wp2_with (first | (refine load_M rfl (.tmp 1) rfl w.heap.size { m with prt:=0,aa:=none,la:=[],ca:=0,dat:=⟨#[]⟩ } rfl (range_two _ _ _ _ _) ?_) | (refine store_M rfl (.tmp 2) (.tmp 39) rfl (w.heap.size + 1) { m with prt:=0,aa:=none,la:=[],ca:=0,dat:=⟨#[]⟩ } rfl rfl (there_two _ _ _ _ _) ?_;intro V bV tV oV;have GV:=oV.belowK (by omega) (HG.out _ _);clear oV tV))
  refine bodyPost_ret (resM (b:=w.heap.size + 1) (m:={ m with prt:=0,aa:=none,la:=[],ca:=0,dat:=⟨#[]⟩ }) rfl rfl bV) rfl ?_
  exact ⟨rfl,GV⟩
theorem wo_14 (m:Ms) (w:World) (k1:(m.kind == 1)=false) (k2:(m.kind == 2)=false) (k3:(m.kind == 3)=false) (k12:(m.kind == 12)=false) (k13:(m.kind == 13)=false) (k14:(m.kind == 14)=true) :
    Calls Tryz.prog 32 #[msV m] w fun e w'=>e=.returned (msV { m with cmd:=0,chk:=false,en:=en0,ts:=[] })∧Below w.heap.size w w':=by
  have HG:Hid (∀ c d:Array Value,Below w.heap.size w ((w.alloc (.cells c 33)).alloc (.cells d 33))):=(show ∀ c d:Array Value,_ from fun c d=>by go_grown)
  go_enter Tryz.func32,Tryz.ntmps32
  go_wp2_with (first | (refine load_M rfl (.tmp 1) rfl w.heap.size { m with cmd:=0,chk:=false,en:=en0,ts:=[] } rfl (range_two _ _ _ _ _) ?_) | (refine store_M rfl (.tmp 2) (.tmp 39) rfl (w.heap.size + 1) { m with cmd:=0,chk:=false,en:=en0,ts:=[] } rfl rfl (there_two _ _ _ _ _) ?_;intro V bV tV oV;have GV:=oV.belowK (by omega) (HG.out _ _);clear oV tV))
  refine bodyPost_ret (resM (b:=w.heap.size + 1) (m:={ m with cmd:=0,chk:=false,en:=en0,ts:=[] }) rfl rfl bV) rfl ?_
  exact ⟨rfl,GV⟩
theorem wo_15 (m:Ms) (w:World) (k1:(m.kind == 1)=false) (k2:(m.kind == 2)=false) (k3:(m.kind == 3)=false) (k12:(m.kind == 12)=false) (k13:(m.kind == 13)=false) (k14:(m.kind == 14)=false) (k15:(m.kind == 15)=true) :
    Calls Tryz.prog 32 #[msV m] w fun e w'=>e=.returned (msV { m with cmd:=0,gid:=0,gkd:=0,ga:=none,gb:=[],gc:=0 })∧Below w.heap.size w w':=by
  have HG:Hid (∀ c d:Array Value,Below w.heap.size w ((w.alloc (.cells c 33)).alloc (.cells d 33))):=(show ∀ c d:Array Value,_ from fun c d=>by go_grown)
  go_enter Tryz.func32,Tryz.ntmps32
  go_wp2_with (first | (refine load_M rfl (.tmp 1) rfl w.heap.size { m with cmd:=0,gid:=0,gkd:=0,ga:=none,gb:=[],gc:=0 } rfl (range_two _ _ _ _ _) ?_) | (refine store_M rfl (.tmp 2) (.tmp 39) rfl (w.heap.size + 1) { m with cmd:=0,gid:=0,gkd:=0,ga:=none,gb:=[],gc:=0 } rfl rfl (there_two _ _ _ _ _) ?_;intro V bV tV oV;have GV:=oV.belowK (by omega) (HG.out _ _);clear oV tV))
  refine bodyPost_ret (resM (b:=w.heap.size + 1) (m:={ m with cmd:=0,gid:=0,gkd:=0,ga:=none,gb:=[],gc:=0 }) rfl rfl bV) rfl ?_
  exact ⟨rfl,GV⟩
theorem wo_29 (m:Ms) (w:World) (k1:(m.kind == 1)=false) (k2:(m.kind == 2)=false) (k3:(m.kind == 3)=false) (k12:(m.kind == 12)=false) (k13:(m.kind == 13)=false) (k14:(m.kind == 14)=false) (k15:(m.kind == 15)=false) (k29:(m.kind == 29)=true) :
    Calls Tryz.prog 32 #[msV m] w fun e w'=>e=.returned (msV { m with cmd:=0,mid:=0,mra:=0,mbu:=0 })∧Below w.heap.size w w':=by
  have HG:Hid (∀ c d:Array Value,Below w.heap.size w ((w.alloc (.cells c 33)).alloc (.cells d 33))):=(show ∀ c d:Array Value,_ from fun c d=>by go_grown)
  go_enter Tryz.func32,Tryz.ntmps32
  go_wp2_with (first | (refine load_M rfl (.tmp 1) rfl w.heap.size { m with cmd:=0,mid:=0,mra:=0,mbu:=0 } rfl (range_two _ _ _ _ _) ?_) | (refine store_M rfl (.tmp 2) (.tmp 39) rfl (w.heap.size + 1) { m with cmd:=0,mid:=0,mra:=0,mbu:=0 } rfl rfl (there_two _ _ _ _ _) ?_;intro V bV tV oV;have GV:=oV.belowK (by omega) (HG.out _ _);clear oV tV))
  refine bodyPost_ret (resM (b:=w.heap.size + 1) (m:={ m with cmd:=0,mid:=0,mra:=0,mbu:=0 }) rfl rfl bV) rfl ?_
  exact ⟨rfl,GV⟩
theorem wo_n (m:Ms) (w:World) (k1:(m.kind == 1)=false) (k2:(m.kind == 2)=false) (k3:(m.kind == 3)=false) (k12:(m.kind == 12)=false) (k13:(m.kind == 13)=false) (k14:(m.kind == 14)=false) (k15:(m.kind == 15)=false) (k29:(m.kind == 29)=false) :
    Calls Tryz.prog 32 #[msV m] w fun e w'=>e=.returned (msV m)∧Below w.heap.size w w':=by
  have HG:Hid (∀ c d:Array Value,Below w.heap.size w ((w.alloc (.cells c 33)).alloc (.cells d 33))):=(show ∀ c d:Array Value,_ from fun c d=>by go_grown)
  go_enter Tryz.func32,Tryz.ntmps32
  go_wp2_with (first | (refine load_M rfl (.tmp 1) rfl w.heap.size m rfl (range_two _ _ _ _ _) ?_) | (refine store_M rfl (.tmp 2) (.tmp 39) rfl (w.heap.size + 1) m rfl rfl (there_two _ _ _ _ _) ?_;intro V bV tV oV;have GV:=oV.belowK (by omega) (HG.out _ _);clear oV tV))
  refine bodyPost_ret (resM (b:=w.heap.size + 1) (m:=m) rfl rfl bV) rfl ?_
  exact ⟨rfl,GV⟩
set_option linter.unusedVariables false
theorem emptyM_wo (m:Ms):emptyM (woS m).msg=bareB m.msg:=by
 rcases kinds m.kind with k | k | k | k | k | k | k | k | k | k | k | k
 case inr.inr.inr.inr.inr.inr.inr.inr.inr.inr.inr =>
  obtain ⟨k0,k1,k2,k3,k12,k13,k14,k15,k20,k21,k29⟩:=k
  have e:woS m=m:=by
   simp only [beq_eq_false_iff_ne] at k0 k1 k2 k3 k12 k13 k14 k15 k20 k21 k29
   simp [woS, *]
  rw [e]
  simp only [emptyM,bareB,Ms.msg,k0,k1,k2,k3,k12,k13,k14,k15,k20,k21,k29,Bool.false_or]
 all_goals
  simp only [woS,k]
  simp [emptyM,bareB,Ms.msg,k,noEnt,noSp,noGrp,noMet,En.sp,en0,show (⟨#[]⟩:ByteArray)=ByteArray.empty from rfl]
theorem wo_w {m:Ms} {w:World} (h:MW w m):MW w (woS m):=by
 unfold woS
 (repeat' split) <;> first | exact h | exact ⟨en0_w w,.inl rfl,rfl,Nat.zero_le _,Nat.zero_le _,h.g,h.gn,h.a,h.an,h.d⟩ | exact ⟨h.e,h.t,h.tl,h.tn,h.tc,h.g,h.gn,h.a,h.an,Nat.zero_le _⟩ | exact ⟨h.e,h.t,h.tl,h.tn,h.tc,h.g,h.gn,.inl rfl,Nat.zero_le _,Nat.zero_le _⟩ | exact ⟨h.e,h.t,h.tl,h.tn,h.tc,⟨by simp,.inl rfl⟩,Nat.zero_le _,h.a,h.an,h.d⟩ | exact ⟨h.e,h.t,h.tl,h.tn,h.tc,h.g,h.gn,h.a,h.an,h.d⟩
theorem wo_any (m:Ms) (w:World):Calls Tryz.prog 32 #[msV m] w fun e w'=>e=.returned (msV (woS m))∧Below w.heap.size w w':=by
 have z:∀ (n j:Int),m.kind=n→n≠j→(m.kind == j)=false:=fun n j h g=>by rw [h];simpa using g
 have y:∀ (n:Int),m.kind=n→(m.kind == n)=true:=fun n h=>by rw [h];simp
 rcases kinds m.kind with k | k | k | k | k | k | k | k | k | k | k | k
 ·have e:woS m=m:=by simp [woS,k]
  rw [e]
  exact wo_n m w (z 0 1 k (by decide)) (z 0 2 k (by decide)) (z 0 3 k (by decide)) (z 0 12 k (by decide)) (z 0 13 k (by decide)) (z 0 14 k (by decide)) (z 0 15 k (by decide)) (z 0 29 k (by decide))
 ·have e:woS m={ m with typ:=0,cod:=0,dat:=⟨#[]⟩ }:=by simp [woS,k]
  rw [e]
  exact wo_1 m w (y 1 k)
 ·have e:woS m={ m with dat:=⟨#[]⟩ }:=by simp [woS,k]
  rw [e]
  exact wo_2 m w (z 2 1 k (by decide)) (y 2 k)
 ·have e:woS m={ m with dat:=⟨#[]⟩ }:=by simp [woS,k]
  rw [e]
  exact wo_3 m w (z 3 1 k (by decide)) (z 3 2 k (by decide)) (y 3 k)
 ·have e:woS m={ m with prt:=0,live:=false }:=by simp [woS,k]
  rw [e]
  exact wo_12 m w (z 12 1 k (by decide)) (z 12 2 k (by decide)) (z 12 3 k (by decide)) (y 12 k)
 ·have e:woS m={ m with prt:=0,aa:=none,la:=[],ca:=0,dat:=⟨#[]⟩ }:=by simp [woS,k]
  rw [e]
  exact wo_13 m w (z 13 1 k (by decide)) (z 13 2 k (by decide)) (z 13 3 k (by decide)) (z 13 12 k (by decide)) (y 13 k)
 ·have e:woS m={ m with cmd:=0,chk:=false,en:=en0,ts:=[] }:=by simp [woS,k]
  rw [e]
  exact wo_14 m w (z 14 1 k (by decide)) (z 14 2 k (by decide)) (z 14 3 k (by decide)) (z 14 12 k (by decide)) (z 14 13 k (by decide)) (y 14 k)
 ·have e:woS m={ m with cmd:=0,gid:=0,gkd:=0,ga:=none,gb:=[],gc:=0 }:=by simp [woS,k]
  rw [e]
  exact wo_15 m w (z 15 1 k (by decide)) (z 15 2 k (by decide)) (z 15 3 k (by decide)) (z 15 12 k (by decide)) (z 15 13 k (by decide)) (z 15 14 k (by decide)) (y 15 k)
 ·have e:woS m=m:=by simp [woS,k]
  rw [e]
  exact wo_n m w (z 20 1 k (by decide)) (z 20 2 k (by decide)) (z 20 3 k (by decide)) (z 20 12 k (by decide)) (z 20 13 k (by decide)) (z 20 14 k (by decide)) (z 20 15 k (by decide)) (z 20 29 k (by decide))
 ·have e:woS m=m:=by simp [woS,k]
  rw [e]
  exact wo_n m w (z 21 1 k (by decide)) (z 21 2 k (by decide)) (z 21 3 k (by decide)) (z 21 12 k (by decide)) (z 21 13 k (by decide)) (z 21 14 k (by decide)) (z 21 15 k (by decide)) (z 21 29 k (by decide))
 ·have e:woS m={ m with cmd:=0,mid:=0,mra:=0,mbu:=0 }:=by simp [woS,k]
  rw [e]
  exact wo_29 m w (z 29 1 k (by decide)) (z 29 2 k (by decide)) (z 29 3 k (by decide)) (z 29 12 k (by decide)) (z 29 13 k (by decide)) (z 29 14 k (by decide)) (z 29 15 k (by decide)) (y 29 k)
 ·obtain ⟨k0,k1,k2,k3,k12,k13,k14,k15,k20,k21,k29⟩:=k
  have e:woS m=m:=by
   have e1:=k1;have e2:=k2;have e3:=k3;have e12:=k12;have e13:=k13;have e14:=k14;have e15:=k15;have e29:=k29
   simp only [beq_eq_false_iff_ne] at e1 e2 e3 e12 e13 e14 e15 e29
   simp [woS, *]
  rw [e]
  exact wo_n m w k1 k2 k3 k12 k13 k14 k15 k29
theorem right_M (m:Ms) (w:World) (h:MW w m) (hd:Ct w):Calls Tryz.prog 16 #[msV m] w fun e w'=>e=.returned (.bool (rightM m.msg))∧Below w.heap.size w w':=by
  have HW:=within_h m.xid 0 4294967295
  have H1:Hid (∀ w1,Below w.heap.size w w1→Calls Tryz.prog 30 #[msV m] w1 fun e w'=>e=.returned (.bool (ownB m.msg))∧Below w1.heap.size w1 w'):=(show ∀ w1,_ from fun w1 g=>own_any m w1 (h.below g) (hd.below g))
  have H2:Hid (∀ w1,Calls Tryz.prog 32 #[msV m] w1 fun e w'=>e=.returned (msV (woS m))∧Below w1.heap.size w1 w'):=(show ∀ w1,_ from fun w1=>wo_any m w1)
  have H3:Hid (∀ w1,Below w.heap.size w w1→Calls Tryz.prog 31 #[msV (woS m)] w1 fun e w'=>e=.returned (.bool (bareB m.msg))∧Below w1.heap.size w1 w'):=(show ∀ w1,_ from fun w1 g=>by
    have:=empty_any (woS m) w1 (wo_w (h.below g))
    rwa [emptyM_wo] at this)
  obtain ⟨W1,hW1⟩:∃ W1,mx w m=W1:=⟨_,rfl⟩
  have hl:Bm W1 w.heap.size m:=hW1 ▸ Bm.new w m
  have hx:W1.cell? ⟨w.heap.size,1,none⟩=some (.int .i64 m.xid):=hl 1 _ rfl
  have HB:Hid (∀ w1,Below W1.heap.size W1 w1→Bm w1 w.heap.size m):=(show ∀ w1,_ from fun w1 g=>hl.below (by rw [← hW1];simp) g)
  have HG:Hid (Below w.heap.size w W1):=(show Below _ _ _ by rw [← hW1];go_grown)
  have HW1:Hid (w.alloc (.cells #[.int .i64 m.kind,.int .i64 m.xid,.int .i64 m.cmd,.bool m.chk,.int .i64 m.en.tab,.int .i64 m.en.pri,.slice m.en.ta m.en.tl m.en.tc,.slice m.en.aa m.en.la.length m.en.ca,.slice m.en.aw m.en.lw.length m.en.cw,.bool m.en.clr,.int .u64 m.en.mt,.int .u64 m.en.mm,.int .i64 m.en.met,.int .i64 m.en.go,.int .i64 m.gid,.int .i64 m.gkd,.slice m.ga m.gb.length m.gc,.int .i64 m.mid,.int .i64 m.mra,.int .i64 m.mbu,.int .i64 m.typ,.int .i64 m.cod,.int .i64 m.prt,.bool m.live,.slice m.aa m.la.length m.ca,.string m.dat] 33)=W1):=hW1
  clear hW1
  have HR:Hid (rightM m.msg=(inB m.xid 0 4294967295 && ownB m.msg && bareB m.msg)):=(show _=_ from rfl)
  rw [HR.out]
  clear h hd HR
  generalize ownB m.msg=B1 at *
  generalize bareB m.msg=B2 at *
  generalize woS m=M2 at *
  cases h1:inB m.xid 0 4294967295 with
  | false =>
    rw [h1] at HW
    clear h1 hl
    go_enter Tryz.func16,Tryz.ntmps16
    go_wp2_with fail
    rw [HW1.out]
    refine (HW.out _).mono ?_
    rintro r w1 ⟨rfl,rfl⟩
    go_wp2_with fail
    go_ret
    exact ⟨rfl,HG.out⟩
  | true =>
    rw [h1] at HW
    clear h1
    cases B1 with
    | false =>
      go_enter Tryz.func16,Tryz.ntmps16
      go_wp2_with fail
      rw [HW1.out]
      refine (HW.out _).mono ?_
      rintro r w1 ⟨rfl,rfl⟩
      go_wp2_with (refine load_Mg rfl (.tmp 1) rfl w.heap.size m rfl hl ?_)
      refine (H1.out _ HG.out).mono ?_
      rintro r w1 ⟨rfl,g1⟩
      clear hl
      go_wp2_with fail
      go_ret
      exact ⟨rfl,btr HG.out g1 (Nat.le_refl _)⟩
    | true =>
      go_enter Tryz.func16,Tryz.ntmps16
      go_wp2_with fail
      rw [HW1.out]
      refine (HW.out _).mono ?_
      rintro r w1 ⟨rfl,rfl⟩
      go_wp2_with (refine load_Mg rfl (.tmp 1) rfl w.heap.size m rfl hl ?_)
      refine (H1.out _ HG.out).mono ?_
      rintro r w1 ⟨rfl,g1⟩
      clear hl
      have hl1:=HB.out _ g1
      have G1:=btr HG.out g1 (Nat.le_refl _)
      go_wp2_with (refine load_Mg rfl (.tmp 1) rfl w.heap.size m rfl hl1 ?_)
      refine (H2.out _).mono ?_
      rintro r w2 ⟨rfl,g2⟩
      have G2:=btr G1 g2 (Nat.le_refl _)
      clear hl1 g1 G1 g2
      go_wp2_with fail
      refine (H3.out _ G2).mono ?_
      rintro r w3 ⟨rfl,g3⟩
      have G3:=btr G2 g3 (Nat.le_refl _)
      clear g3 G2
      go_wp2_with fail
      go_ret
      exact ⟨rfl,G3⟩
theorem body_k0 (m:Ms) (w:World) (h:MW w m) (u:MU m) (hd:Ct w) (hk:m.kind=0) (ho:ownB m.msg=true):Calls Tryz.prog 17 #[msV m] w fun e w'=>e=.returned (.string (bodyM m.msg))∧Below w.heap.size w w':=by
 have e:bodyM m.msg=⟨#[]⟩:=by simp [bodyM,Ms.msg,hk]
 have k1:(m.kind == 1)=false:=by rw [hk];rfl
 have k2:(m.kind == 2)=false:=by rw [hk];rfl
 have k3:(m.kind == 3)=false:=by rw [hk];rfl
 have k12:(m.kind == 12)=false:=by rw [hk];rfl
 have k13:(m.kind == 13)=false:=by rw [hk];rfl
 have k14:(m.kind == 14)=false:=by rw [hk];rfl
 have k15:(m.kind == 15)=false:=by rw [hk];rfl
 have k29:(m.kind == 29)=false:=by rw [hk];rfl
 rw [e]
 clear hk e ho
 clear h u hd
 go_enter Tryz.func17,Tryz.ntmps17
 go_wp2_with fail
 go_ret
 exact ⟨rfl,by go_grown⟩
theorem body_k20 (m:Ms) (w:World) (h:MW w m) (u:MU m) (hd:Ct w) (hk:m.kind=20) (ho:ownB m.msg=true):Calls Tryz.prog 17 #[msV m] w fun e w'=>e=.returned (.string (bodyM m.msg))∧Below w.heap.size w w':=by
 have e:bodyM m.msg=⟨#[]⟩:=by simp [bodyM,Ms.msg,hk]
 have k1:(m.kind == 1)=false:=by rw [hk];rfl
 have k2:(m.kind == 2)=false:=by rw [hk];rfl
 have k3:(m.kind == 3)=false:=by rw [hk];rfl
 have k12:(m.kind == 12)=false:=by rw [hk];rfl
 have k13:(m.kind == 13)=false:=by rw [hk];rfl
 have k14:(m.kind == 14)=false:=by rw [hk];rfl
 have k15:(m.kind == 15)=false:=by rw [hk];rfl
 have k29:(m.kind == 29)=false:=by rw [hk];rfl
 rw [e]
 clear hk e ho
 clear h u hd
 go_enter Tryz.func17,Tryz.ntmps17
 go_wp2_with fail
 go_ret
 exact ⟨rfl,by go_grown⟩
theorem body_k21 (m:Ms) (w:World) (h:MW w m) (u:MU m) (hd:Ct w) (hk:m.kind=21) (ho:ownB m.msg=true):Calls Tryz.prog 17 #[msV m] w fun e w'=>e=.returned (.string (bodyM m.msg))∧Below w.heap.size w w':=by
 have e:bodyM m.msg=⟨#[]⟩:=by simp [bodyM,Ms.msg,hk]
 have k1:(m.kind == 1)=false:=by rw [hk];rfl
 have k2:(m.kind == 2)=false:=by rw [hk];rfl
 have k3:(m.kind == 3)=false:=by rw [hk];rfl
 have k12:(m.kind == 12)=false:=by rw [hk];rfl
 have k13:(m.kind == 13)=false:=by rw [hk];rfl
 have k14:(m.kind == 14)=false:=by rw [hk];rfl
 have k15:(m.kind == 15)=false:=by rw [hk];rfl
 have k29:(m.kind == 29)=false:=by rw [hk];rfl
 rw [e]
 clear hk e ho
 clear h u hd
 go_enter Tryz.func17,Tryz.ntmps17
 go_wp2_with fail
 go_ret
 exact ⟨rfl,by go_grown⟩
theorem body_k1 (m:Ms) (w:World) (h:MW w m) (u:MU m) (hd:Ct w) (hk:m.kind=1) (ho:ownB m.msg=true):Calls Tryz.prog 17 #[msV m] w fun e w'=>e=.returned (.string (bodyM m.msg))∧Below w.heap.size w w':=by
 have e:bodyM m.msg=pb m.typ 2 ++ pb m.cod 2 ++ m.dat:=by simp [bodyM,Ms.msg,hk]
 have eo:(inB m.typ 0 65535 && inB m.cod 0 65535 && decide (m.dat.size≤64))=true:=by
  rw [← ho]
  simp [ownB,Ms.msg,hk]
 have k1:(m.kind == 1)=true:=by rw [hk];rfl
 rw [e]
 clear hk e ho
 simp only [Bool.and_eq_true,inB_iff,decide_eq_true_eq] at eo
 obtain ⟨⟨⟨t0,t1⟩,c0,c1⟩,d1⟩:=eo
 have HP:=wput_h
 have hps:=pbI_size
 obtain ⟨W1,hW1⟩:∃ W1,mx w m=W1:=⟨_,rfl⟩
 have hl:Bm W1 w.heap.size m:=hW1 ▸ Bm.new w m
 have z1:w.heap.size < W1.heap.size:=by rw [← hW1];simp
 have q20:∀ n:GrT W1,n.w.cell? ⟨w.heap.size,20,none⟩=some (.int .i64 m.typ):=fun n=>(Bm.gr hl z1 n) 20 _ rfl
 have q21:∀ n:GrT W1,n.w.cell? ⟨w.heap.size,21,none⟩=some (.int .i64 m.cod):=fun n=>(Bm.gr hl z1 n) 21 _ rfl
 have q25:∀ n:GrT W1,n.w.cell? ⟨w.heap.size,25,none⟩=some (.string m.dat):=fun n=>(Bm.gr hl z1 n) 25 _ rfl
 have HG:Hid (Below w.heap.size w W1):=(show Below _ _ _ by rw [← hW1];go_grown)
 have HW1:Hid (w.alloc (.cells #[.int .i64 m.kind,.int .i64 m.xid,.int .i64 m.cmd,.bool m.chk,.int .i64 m.en.tab,.int .i64 m.en.pri,.slice m.en.ta m.en.tl m.en.tc,.slice m.en.aa m.en.la.length m.en.ca,.slice m.en.aw m.en.lw.length m.en.cw,.bool m.en.clr,.int .u64 m.en.mt,.int .u64 m.en.mm,.int .i64 m.en.met,.int .i64 m.en.go,.int .i64 m.gid,.int .i64 m.gkd,.slice m.ga m.gb.length m.gc,.int .i64 m.mid,.int .i64 m.mra,.int .i64 m.mbu,.int .i64 m.typ,.int .i64 m.cod,.int .i64 m.prt,.bool m.live,.slice m.aa m.la.length m.ca,.string m.dat] 33)=W1):=hW1
 clear hW1 hl z1 h u hd
 go_enter Tryz.func17,Tryz.ntmps17
 go_wp2_with fail
 rw [HW1.out]
 refine wp_region_grow (by kernel_rfl) (by kernel_rfl) ?_
 repeat (go_big_quiet_step ((first | (go_at_call 18;exact quiet_gr (HP.out _ _ _ (by unfold fits;omega))))))
 refine wpQuiet_nil ?_
 rintro w3 hw'
 have g3:=gr_elim hw'
 clear hw' q20 q21 q25
 go_wp2_with fail
 go_ret
 exact ⟨rfl,btr HG.out g3 (Nat.le_refl _)⟩
theorem body_k2 (m:Ms) (w:World) (h:MW w m) (u:MU m) (hd:Ct w) (hk:m.kind=2) (ho:ownB m.msg=true):Calls Tryz.prog 17 #[msV m] w fun e w'=>e=.returned (.string (bodyM m.msg))∧Below w.heap.size w w':=by
 have e:bodyM m.msg=m.dat:=by simp [bodyM,Ms.msg,hk]
 have k1:(m.kind == 1)=false:=by rw [hk];rfl
 have k2:(m.kind == 2)=true:=by rw [hk];rfl
 rw [e]
 clear hk e ho
 clear h u hd
 go_enter Tryz.func17,Tryz.ntmps17
 go_wp2_with fail
 go_ret
 exact ⟨rfl,by go_grown⟩
theorem body_k3 (m:Ms) (w:World) (h:MW w m) (u:MU m) (hd:Ct w) (hk:m.kind=3) (ho:ownB m.msg=true):Calls Tryz.prog 17 #[msV m] w fun e w'=>e=.returned (.string (bodyM m.msg))∧Below w.heap.size w w':=by
 have e:bodyM m.msg=m.dat:=by simp [bodyM,Ms.msg,hk]
 have k1:(m.kind == 1)=false:=by rw [hk];rfl
 have k2:(m.kind == 2)=false:=by rw [hk];rfl
 have k3:(m.kind == 3)=true:=by rw [hk];rfl
 rw [e]
 clear hk e ho
 clear h u hd
 go_enter Tryz.func17,Tryz.ntmps17
 go_wp2_with fail
 go_ret
 exact ⟨rfl,by go_grown⟩
theorem body_k12 (m:Ms) (w:World) (h:MW w m) (u:MU m) (hd:Ct w) (hk:m.kind=12) (ho:ownB m.msg=true):Calls Tryz.prog 17 #[msV m] w fun e w'=>e=.returned (.string (bodyM m.msg))∧Below w.heap.size w w':=by
 have e:bodyM m.msg=portS m.prt m.live:=by simp [bodyM,Ms.msg,hk]
 have eo:inB m.prt 1 16=true:=by
  rw [← ho]
  simp [ownB,Ms.msg,hk]
 have k1:(m.kind == 1)=false:=by rw [hk];rfl
 have k2:(m.kind == 2)=false:=by rw [hk];rfl
 have k3:(m.kind == 3)=false:=by rw [hk];rfl
 have k12:(m.kind == 12)=true:=by rw [hk];rfl
 rw [e]
 clear hk e ho
 have HC:Hid (∀ w1,Below w.heap.size w w1→Calls Tryz.prog 33 #[.int .i64 m.prt,.bool m.live] w1 fun e w'=>e=.returned (.string (portS m.prt m.live))∧Below w1.heap.size w1 w'):=(show ∀ w1,_ from fun w1 g=>portS_any m.prt m.live w1 (by have:=inB_iff.1 eo;omega) (by have:=inB_iff.1 eo;omega))
 generalize portS m.prt m.live=S at *
 clear h u hd eo
 go_enter Tryz.func17,Tryz.ntmps17
 go_wp2_with fail
 refine (HC.out _ (by go_grown)).mono ?_
 rintro r w1 ⟨rfl,g1⟩
 have G1:Below w.heap.size w w1:=btr (by go_grown) g1 (Nat.le_refl _)
 clear g1
 go_wp2_with fail
 go_ret
 exact ⟨rfl,G1⟩
theorem body_k13 (m:Ms) (w:World) (h:MW w m) (u:MU m) (hd:Ct w) (hk:m.kind=13) (ho:ownB m.msg=true):Calls Tryz.prog 17 #[msV m] w fun e w'=>e=.returned (.string (bodyM m.msg))∧Below w.heap.size w w':=by
 have e:bodyM m.msg=packS m.prt m.la m.dat:=by simp [bodyM,Ms.msg,hk]
 have eo:(inB m.prt 0 16 && okA m.la && decide (m.dat.size≤1500))=true:=by
  rw [← ho]
  simp [ownB,Ms.msg,hk]
 have k1:(m.kind == 1)=false:=by rw [hk];rfl
 have k2:(m.kind == 2)=false:=by rw [hk];rfl
 have k3:(m.kind == 3)=false:=by rw [hk];rfl
 have k12:(m.kind == 12)=false:=by rw [hk];rfl
 have k13:(m.kind == 13)=true:=by rw [hk];rfl
 rw [e]
 clear hk e ho
 simp only [Bool.and_eq_true] at eo
 have HC:Hid (∀ w1,Below w.heap.size w w1→Calls Tryz.prog 34 #[msV m] w1 fun e w'=>e=.returned (.string (packS m.prt m.la m.dat))∧Below w1.heap.size w1 w'):=(show ∀ w1,_ from fun w1 g=>packS_any m w1 (h.below g) (hd.a.below g) eo.1.1 (by simpa using eo.2))
 generalize packS m.prt m.la m.dat=S at *
 clear h u hd eo
 go_enter Tryz.func17,Tryz.ntmps17
 go_wp2_with (refine load_Mg rfl (.tmp 1) rfl w.heap.size m rfl (Bm.new w m) ?_)
 refine (HC.out _ (by go_grown)).mono ?_
 rintro r w1 ⟨rfl,g1⟩
 have G1:Below w.heap.size w w1:=btr (by go_grown) g1 (Nat.le_refl _)
 clear g1
 go_wp2_with fail
 go_ret
 exact ⟨rfl,G1⟩
theorem body_k14 (m:Ms) (w:World) (h:MW w m) (u:MU m) (hd:Ct w) (hk:m.kind=14) (ho:ownB m.msg=true):Calls Tryz.prog 17 #[msV m] w fun e w'=>e=.returned (.string (bodyM m.msg))∧Below w.heap.size w w':=by
 have e:bodyM m.msg=flowS m.cmd m.chk m.en.pri m.ts m.en.sp:=by simp [bodyM,Ms.msg,hk]
 have eo:(inB m.cmd 0 4 && entB m.en.pri m.ts m.en.sp)=true:=by
  rw [← ho]
  simp [ownB,Ms.msg,hk]
 have k1:(m.kind == 1)=false:=by rw [hk];rfl
 have k2:(m.kind == 2)=false:=by rw [hk];rfl
 have k3:(m.kind == 3)=false:=by rw [hk];rfl
 have k12:(m.kind == 12)=false:=by rw [hk];rfl
 have k13:(m.kind == 13)=false:=by rw [hk];rfl
 have k14:(m.kind == 14)=true:=by rw [hk];rfl
 rw [e]
 clear hk e ho
 simp only [Bool.and_eq_true] at eo
 have HC:Hid (∀ w1,Below w.heap.size w w1→Calls Tryz.prog 35 #[msV m] w1 fun e w'=>e=.returned (.string (flowS m.cmd m.chk m.en.pri m.ts m.en.sp))∧Below w1.heap.size w1 w'):=(show ∀ w1,_ from fun w1 g=>flowS_any m w1 (h.below g) u.u u.t (hd.below g) eo.1 eo.2)
 generalize flowS m.cmd m.chk m.en.pri m.ts m.en.sp=S at *
 clear h u hd eo
 go_enter Tryz.func17,Tryz.ntmps17
 go_wp2_with (refine load_Mg rfl (.tmp 1) rfl w.heap.size m rfl (Bm.new w m) ?_)
 refine (HC.out _ (by go_grown)).mono ?_
 rintro r w1 ⟨rfl,g1⟩
 have G1:Below w.heap.size w w1:=btr (by go_grown) g1 (Nat.le_refl _)
 clear g1
 go_wp2_with fail
 go_ret
 exact ⟨rfl,G1⟩
theorem body_k15 (m:Ms) (w:World) (h:MW w m) (u:MU m) (hd:Ct w) (hk:m.kind=15) (ho:ownB m.msg=true):Calls Tryz.prog 17 #[msV m] w fun e w'=>e=.returned (.string (bodyM m.msg))∧Below w.heap.size w w':=by
 have e:bodyM m.msg=grpS m.cmd m.gid m.gkd (m.gb.map Bk.b3):=by simp [bodyM,Ms.msg,hk]
 have eo:(inB m.cmd 0 2 && grB m.gid m.gkd (m.gb.map Bk.b3))=true:=by
  rw [← ho]
  simp [ownB,Ms.msg,hk]
 have k1:(m.kind == 1)=false:=by rw [hk];rfl
 have k2:(m.kind == 2)=false:=by rw [hk];rfl
 have k3:(m.kind == 3)=false:=by rw [hk];rfl
 have k12:(m.kind == 12)=false:=by rw [hk];rfl
 have k13:(m.kind == 13)=false:=by rw [hk];rfl
 have k14:(m.kind == 14)=false:=by rw [hk];rfl
 have k15:(m.kind == 15)=true:=by rw [hk];rfl
 rw [e]
 clear hk e ho
 simp only [Bool.and_eq_true] at eo
 have HC:Hid (∀ w1,Below w.heap.size w w1→Calls Tryz.prog 36 #[.int .i64 m.cmd,.agg #[.int .i64 m.gid,.int .i64 m.gkd,.slice m.ga m.gb.length m.gc]] w1 fun e w'=>e=.returned (.string (grpS m.cmd m.gid m.gkd (m.gb.map Bk.b3)))∧Below w1.heap.size w1 w'):=(show ∀ w1,_ from fun w1 g=>grpS_any m.cmd m.gid m.gkd m.ga m.gb m.gc w1 (h.g.below g) (hd.a.below g) eo.1 eo.2)
 generalize grpS m.cmd m.gid m.gkd (m.gb.map Bk.b3)=S at *
 clear h u hd eo
 go_enter Tryz.func17,Tryz.ntmps17
 go_wp2_with fail
 refine (HC.out _ (by go_grown)).mono ?_
 rintro r w1 ⟨rfl,g1⟩
 have G1:Below w.heap.size w w1:=btr (by go_grown) g1 (Nat.le_refl _)
 clear g1
 go_wp2_with fail
 go_ret
 exact ⟨rfl,G1⟩
theorem body_k29 (m:Ms) (w:World) (h:MW w m) (u:MU m) (hd:Ct w) (hk:m.kind=29) (ho:ownB m.msg=true):Calls Tryz.prog 17 #[msV m] w fun e w'=>e=.returned (.string (bodyM m.msg))∧Below w.heap.size w w':=by
 have e:bodyM m.msg=metS m.cmd m.mid m.mra m.mbu:=by simp [bodyM,Ms.msg,hk]
 have eo:(inB m.cmd 0 2 && meB m.mid m.mra m.mbu)=true:=by
  rw [← ho]
  simp [ownB,Ms.msg,hk]
 have k1:(m.kind == 1)=false:=by rw [hk];rfl
 have k2:(m.kind == 2)=false:=by rw [hk];rfl
 have k3:(m.kind == 3)=false:=by rw [hk];rfl
 have k12:(m.kind == 12)=false:=by rw [hk];rfl
 have k13:(m.kind == 13)=false:=by rw [hk];rfl
 have k14:(m.kind == 14)=false:=by rw [hk];rfl
 have k15:(m.kind == 15)=false:=by rw [hk];rfl
 have k29:(m.kind == 29)=true:=by rw [hk];rfl
 rw [e]
 clear hk e ho
 simp only [Bool.and_eq_true] at eo
 have HC:Hid (∀ w1,Below w.heap.size w w1→Calls Tryz.prog 37 #[.int .i64 m.cmd,.agg #[.int .i64 m.mid,.int .i64 m.mra,.int .i64 m.mbu]] w1 fun e w'=>e=.returned (.string (metS m.cmd m.mid m.mra m.mbu))∧Below w1.heap.size w1 w'):=(show ∀ w1,_ from fun w1 g=>metS_any m.cmd m.mid m.mra m.mbu w1 eo.1 eo.2)
 generalize metS m.cmd m.mid m.mra m.mbu=S at *
 clear h u hd eo
 go_enter Tryz.func17,Tryz.ntmps17
 go_wp2_with fail
 refine (HC.out _ (by go_grown)).mono ?_
 rintro r w1 ⟨rfl,g1⟩
 have G1:Below w.heap.size w w1:=btr (by go_grown) g1 (Nat.le_refl _)
 clear g1
 go_wp2_with fail
 go_ret
 exact ⟨rfl,G1⟩
theorem body_M (m:Ms) (w:World) (h:MW w m) (u:MU m) (hd:Ct w) (ho:ownB m.msg=true):Calls Tryz.prog 17 #[msV m] w fun e w'=>e=.returned (.string (bodyM m.msg))∧Below w.heap.size w w':=by
 rcases kinds m.kind with k | k | k | k | k | k | k | k | k | k | k | k
 ·exact body_k0 m w h u hd k ho
 ·exact body_k1 m w h u hd k ho
 ·exact body_k2 m w h u hd k ho
 ·exact body_k3 m w h u hd k ho
 ·exact body_k12 m w h u hd k ho
 ·exact body_k13 m w h u hd k ho
 ·exact body_k14 m w h u hd k ho
 ·exact body_k15 m w h u hd k ho
 ·exact body_k20 m w h u hd k ho
 ·exact body_k21 m w h u hd k ho
 ·exact body_k29 m w h u hd k ho
 ·exfalso
  obtain ⟨k0,k1,k2,k3,k12,k13,k14,k15,k20,k21,k29⟩:=k
  simp only [beq_eq_false_iff_ne] at k0 k1 k2 k3 k12 k13 k14 k15 k20 k21 k29
  simp [ownB,Ms.msg, *] at ho
theorem right_parts {m:Msg} (h:rightM m=true):0≤m.xid∧m.xid≤4294967295∧ownB m=true∧bareB m=true:=by
 unfold rightM at h
 simp only [Bool.and_eq_true,inB_iff] at h
 exact ⟨h.1.1.1,h.1.1.2,h.1.2,h.2⟩
theorem own_kind {m:Msg} (h:ownB m=true):0≤m.kind∧m.kind≤29:=by
 rcases kinds m.kind with k | k | k | k | k | k | k | k | k | k | k | k
 case inr.inr.inr.inr.inr.inr.inr.inr.inr.inr.inr =>
  exfalso
  obtain ⟨k0,k1,k2,k3,k12,k13,k14,k15,k20,k21,k29⟩:=k
  simp only [beq_eq_false_iff_ne] at k0 k1 k2 k3 k12 k13 k14 k15 k20 k21 k29
  simp [ownB, *] at h
 all_goals omega
theorem body_le {m:Msg} (h:ownB m=true):(bodyM m).size≤9000:=by
 rcases kinds m.kind with k | k | k | k | k | k | k | k | k | k | k | k
 case inr.inr.inr.inr.inr.inr.inr.inr.inr.inr.inr =>
  exfalso
  obtain ⟨k0,k1,k2,k3,k12,k13,k14,k15,k20,k21,k29⟩:=k
  simp only [beq_eq_false_iff_ne] at k0 k1 k2 k3 k12 k13 k14 k15 k20 k21 k29
  simp [ownB, *] at h
 all_goals
  simp [ownB,k,Bool.and_eq_true,inB_iff] at h
  simp [bodyM,k,portS,packS,flowS,grpS,metS,ByteArray.size_append,pb_size,zeros_size,gap3_size,gap4_size,gap1_size,gap2_size,ff4_size,ff12_size]
 all_goals
  have e1:=encS_le m.la
  have e2:=menc_le m.ts
  have e3:=encodeX_le m.sp
  have e4:=bks_le m.gb
  first | omega | exact Nat.zero_le _ | (have:=(grB_few h.2).1;omega)
theorem encode_M (m:Ms) (w:World) (h:MW w m) (u:MU m) (hd:Ct w):Calls Tryz.prog 10 #[msV m] w fun e w'=>e=.returned (.tuple #[.string (encM m.msg),.int .i64 (errM m.msg)])∧Below w.heap.size w w':=by
  have H1:Hid (∀ w1,Below w.heap.size w w1→Calls Tryz.prog 16 #[msV m] w1 fun e w'=>e=.returned (.bool (rightM m.msg))∧Below w1.heap.size w1 w'):=(show ∀ w1,_ from fun w1 g=>right_M m w1 (h.below g) (hd.below g))
  obtain ⟨W1,hW1⟩:∃ W1,mx w m=W1:=⟨_,rfl⟩
  have hl:Bm W1 w.heap.size m:=hW1 ▸ Bm.new w m
  have HG:Hid (Below w.heap.size w W1):=(show Below _ _ _ by rw [← hW1];go_grown)
  have HB:Hid (∀ w1,Below W1.heap.size W1 w1→Bm w1 w.heap.size m∧w.heap.size < w1.heap.size):=(show ∀ w1,_ from fun w1 g=>⟨hl.below (by rw [← hW1];simp) g,Nat.lt_of_lt_of_le (by rw [← hW1];simp) g.size⟩)
  have HL:Hid (Bm (mx w m) w.heap.size m):=Bm.new w m
  have HW1:Hid (w.alloc (.cells #[.int .i64 m.kind,.int .i64 m.xid,.int .i64 m.cmd,.bool m.chk,.int .i64 m.en.tab,.int .i64 m.en.pri,.slice m.en.ta m.en.tl m.en.tc,.slice m.en.aa m.en.la.length m.en.ca,.slice m.en.aw m.en.lw.length m.en.cw,.bool m.en.clr,.int .u64 m.en.mt,.int .u64 m.en.mm,.int .i64 m.en.met,.int .i64 m.en.go,.int .i64 m.gid,.int .i64 m.gkd,.slice m.ga m.gb.length m.gc,.int .i64 m.mid,.int .i64 m.mra,.int .i64 m.mbu,.int .i64 m.typ,.int .i64 m.cod,.int .i64 m.prt,.bool m.live,.slice m.aa m.la.length m.ca,.string m.dat] 33)=W1):=hW1
  clear hW1
  cases hr:rightM m.msg with
  | false =>
    have e1:encM m.msg=⟨#[]⟩:=by unfold encM;rw [hr];rfl
    have e2:errM m.msg=1:=by unfold errM;rw [hr];rfl
    rw [e1,e2]
    rw [hr] at H1
    clear e1 e2 hr h u hd
    go_enter Tryz.func10,Tryz.ntmps10
    go_wp2_with (refine load_Mg rfl (.tmp 1) rfl w.heap.size m rfl HL.out ?_)
    rw [HW1.out]
    refine (H1.out _ HG.out).mono ?_
    rintro r w1 ⟨rfl,g1⟩
    go_wp2_with fail
    go_ret2
    exact ⟨rfl,btr HG.out g1 (Nat.le_refl _)⟩
  | true =>
    have e1:encM m.msg=allM m.msg:=by unfold encM;rw [hr];rfl
    have e2:errM m.msg=0:=by unfold errM;rw [hr];rfl
    obtain ⟨x0,x1,ho,_⟩:=right_parts hr
    obtain ⟨n0,n1⟩:=own_kind ho
    have hz:=body_le ho
    have HC:Hid (∀ w1,Below w.heap.size w w1→Calls Tryz.prog 17 #[msV m] w1 fun e w'=>e=.returned (.string (bodyM m.msg))∧Below w1.heap.size w1 w'):=(show ∀ w1,_ from fun w1 g=>body_M m w1 (h.below g) u (hd.below g) ho)
    have e3:allM m.msg=pb 4 1 ++ pb m.kind 1 ++ pb (8 + ((bodyM m.msg).size:Int)) 2 ++ pb m.xid 4 ++ bodyM m.msg:=rfl
    rw [e1,e2,e3]
    rw [hr] at H1
    have x0':0≤m.xid:=x0
    have x1':m.xid≤4294967295:=x1
    have n0':0≤m.kind:=n0
    have n1':m.kind≤29:=n1
    clear e1 e2 e3 hr h u hd ho x0 x1 n0 n1
    generalize bodyM m.msg=S at *
    have HP:=wput_h
    have hps:=pbI_size
    go_enter Tryz.func10,Tryz.ntmps10
    go_wp2_with (refine load_Mg rfl (.tmp 1) rfl w.heap.size m rfl HL.out ?_)
    rw [HW1.out]
    refine (H1.out _ HG.out).mono ?_
    rintro r w1 ⟨rfl,g1⟩
    obtain ⟨hb1,z1⟩:=HB.out _ g1
    have G1:=btr HG.out g1 (Nat.le_refl _)
    go_wp2_with (refine load_Mg rfl (.tmp 1) rfl w.heap.size m rfl hb1 ?_)
    refine (HC.out _ G1).mono ?_
    rintro r w2 ⟨rfl,g2⟩
    have G2:=btr G1 g2 (Nat.le_refl _)
    have b2:=btr g1 g2 (Nat.le_refl _)
    obtain ⟨hb2,z2⟩:=HB.out _ b2
    have q0:∀ n:GrT w2,n.w.cell? ⟨w.heap.size,0,none⟩=some (.int .i64 m.kind):=fun n=>(Bm.gr hb2 z2 n) 0 _ rfl
    have q1:∀ n:GrT w2,n.w.cell? ⟨w.heap.size,1,none⟩=some (.int .i64 m.xid):=fun n=>(Bm.gr hb2 z2 n) 1 _ rfl
    clear g1 g2 hb1 hb2 z1 z2 G1 b2
    go_wp2_with fail
    refine wp_region_grow (by kernel_rfl) (by kernel_rfl) ?_
    repeat (go_big_quiet_step ((first | (go_at_call 18;exact quiet_gr (HP.out _ _ _ (by unfold fits;omega))))))
    refine wpQuiet_nil ?_
    rintro w3 hw'
    have g3:=gr_elim hw'
    clear hw' q0 q1
    go_wp2_with fail
    go_ret2
    exact ⟨rfl,btr G2 g3 (Nat.le_refl _)⟩
def sz1 (d:ByteArray):Int:=(⟨d,0⟩:RS).num 1
def sz2 (d:ByteArray):Int:=(((⟨d,0⟩:RS).skip 1).skip 1).num 2
def saidE (d:ByteArray):Int:=if d.size < 8 then 10 else if sz1 d≠4∨sz2 d < 8 then 11 else if (d.size:Int) < sz2 d then 10 else 0
def saidZ (d:ByteArray):Int:=if saidE d=0 then sz2 d else 0
theorem sz1_lt (d:ByteArray):0≤sz1 d∧sz1 d < 256:=by simpa [sz1] using RS.num_lt (⟨d,0⟩:RS) 1 (by omega)
theorem sz2_lt (d:ByteArray):0≤sz2 d∧sz2 d < 65536:=by simpa [sz2] using RS.num_lt (((⟨d,0⟩:RS).skip 1).skip 1) 2 (by omega)
theorem said_any (d:ByteArray) (w:World) (hs:d.size≤maxLen):Calls Tryz.prog 22 #[.string d] w fun e w'=>e=.returned (.tuple #[.int .i64 (saidZ d),.int .i64 (saidE d)])∧Below w.heap.size w w':=by
 by_cases h8:d.size < 8
 ·have e1:saidE d=10:=by unfold saidE;rw [if_pos h8]
  have e2:saidZ d=0:=by unfold saidZ;rw [e1];rfl
  have h8':(d.size:Int) < 8:=by omega
  rw [e1,e2]
  clear e1 e2
  go_enter Tryz.func22,Tryz.ntmps22
  go_wp2_with fail
  go_ret2
  exact ⟨rfl,Below.refl _ _⟩
 ·have h8' : ¬ ((d.size:Int) < 8):=by omega
  obtain ⟨a0,a1⟩:=sz1_lt d
  obtain ⟨b0,b1⟩:=sz2_lt d
  have z1:=Nat.le_trans (RS.skip_size (⟨d,0⟩:RS) 1) hs
  have z2:=Nat.le_trans (RS.skip_size ((⟨d,0⟩:RS).skip 1) 1) z1
  have HR:Hid (∀ w,Calls Tryz.prog 45 #[.string d] w fun x w'=>x=.returned (.pointer (some ⟨w.heap.size,0,none⟩))∧Rd w' w.heap.size d 0∧Below w.heap.size w w'):=(show ∀ w,_ from fun w=>(read_any d w).mono fun x w' ⟨h1,h2⟩=>⟨h1,h2 ▸ Rd.new w d 0 _,by rw [h2];go_grown⟩)
  have N1:Hid (∀ w1,Rd w1 w.heap.size d 0→Calls Tryz.prog 46 #[.pointer (some ⟨w.heap.size,0,none⟩),.int .i64 1] w1 fun x w'=>x=.returned (.int .u64 (sz1 d))∧Rd w' w.heap.size ((⟨d,0⟩:RS).skip 1).s ((⟨d,0⟩:RS).skip 1).e∧Only w.heap.size w1 w'):=(show ∀ w1,_ from fun w1 h=>numR w.heap.size ⟨d,0⟩ 1 w1 hs h)
  have N2:Hid (∀ w1,Rd w1 w.heap.size ((⟨d,0⟩:RS).skip 1).s ((⟨d,0⟩:RS).skip 1).e→Calls Tryz.prog 46 #[.pointer (some ⟨w.heap.size,0,none⟩),.int .i64 1] w1 fun x w'=>x=.returned (.int .u64 (((⟨d,0⟩:RS).skip 1).num 1))∧Rd w' w.heap.size (((⟨d,0⟩:RS).skip 1).skip 1).s (((⟨d,0⟩:RS).skip 1).skip 1).e∧Only w.heap.size w1 w'):=(show ∀ w1,_ from fun w1 h=>numR w.heap.size _ 1 w1 z1 h)
  have N3:Hid (∀ w1,Rd w1 w.heap.size (((⟨d,0⟩:RS).skip 1).skip 1).s (((⟨d,0⟩:RS).skip 1).skip 1).e→Calls Tryz.prog 46 #[.pointer (some ⟨w.heap.size,0,none⟩),.int .i64 2] w1 fun x w'=>x=.returned (.int .u64 (sz2 d))∧Only w.heap.size w1 w'):=(show ∀ w1,_ from fun w1 h=>(numR w.heap.size _ 2 w1 z2 h).mono fun _ _ ⟨p,_,q⟩=>⟨p,q⟩)
  have HE:Hid (saidE d=if sz1 d≠4∨sz2 d < 8 then 11 else if (d.size:Int) < sz2 d then 10 else 0):=(show _=_ by unfold saidE;rw [if_neg h8])
  have HZ:Hid (saidZ d=if saidE d=0 then sz2 d else 0):=(show _=_ from rfl)
  clear z1 z2
  generalize ((⟨d,0⟩:RS).skip 1).num 1=X at *
  generalize ((⟨d,0⟩:RS).skip 1).skip 1=R2 at *
  generalize (⟨d,0⟩:RS).skip 1=R1 at *
  generalize saidE d=E at *
  generalize saidZ d=Z at *
  generalize sz1 d=A1 at *
  generalize sz2 d=A2 at *
  rcases (show (¬ A1=4)∨(A1=4∧A2 < 8)∨(A1=4∧¬ A2 < 8∧(d.size:Int) < A2)∨(A1=4∧¬ A2 < 8∧¬ (d.size:Int) < A2) by omega) with c | ⟨c,c2⟩ | ⟨c,c2,c3⟩ | ⟨c,c2,c3⟩
  ·have e1:E=11:=by rw [HE.out,if_pos (.inl c)]
   have e2:Z=0:=by rw [HZ.out,e1];rfl
   have c':(A1 != 4)=true:=by simpa using c
   rw [e1,e2]
   clear e1 e2 c HE HZ
   go_enter Tryz.func22,Tryz.ntmps22
   go_wp2_with fail
   refine (HR.out _).mono ?_
   rintro r w1 ⟨rfl,r1,g1⟩
   go_wp2_with fail
   refine (N1.out _ r1).mono ?_
   rintro r w2 ⟨rfl,r2,o2⟩
   go_wp2_with fail
   refine (N2.out _ r2).mono ?_
   rintro r w3 ⟨rfl,r3,o3⟩
   go_wp2_with fail
   refine (N3.out _ r3).mono ?_
   rintro r w4 ⟨rfl,o4⟩
   go_wp2_with fail
   go_ret2
   exact ⟨rfl,o4.below (Nat.le_refl _) (o3.below (Nat.le_refl _) (o2.below (Nat.le_refl _) g1))⟩
  ·have e1:E=11:=by rw [HE.out,if_pos (.inr c2)]
   have e2:Z=0:=by rw [HZ.out,e1];rfl
   have c':(A1 != 4)=false:=by simpa using c
   rw [e1,e2]
   clear e1 e2 c HE HZ
   go_enter Tryz.func22,Tryz.ntmps22
   go_wp2_with fail
   refine (HR.out _).mono ?_
   rintro r w1 ⟨rfl,r1,g1⟩
   go_wp2_with fail
   refine (N1.out _ r1).mono ?_
   rintro r w2 ⟨rfl,r2,o2⟩
   go_wp2_with fail
   refine (N2.out _ r2).mono ?_
   rintro r w3 ⟨rfl,r3,o3⟩
   go_wp2_with fail
   refine (N3.out _ r3).mono ?_
   rintro r w4 ⟨rfl,o4⟩
   go_wp2_with fail
   go_ret2
   exact ⟨rfl,o4.below (Nat.le_refl _) (o3.below (Nat.le_refl _) (o2.below (Nat.le_refl _) g1))⟩
  ·have e1:E=10:=by rw [HE.out,if_neg (by omega),if_pos c3]
   have e2:Z=0:=by rw [HZ.out,e1];rfl
   have c':(A1 != 4)=false:=by simpa using c
   rw [e1,e2]
   clear e1 e2 c HE HZ
   go_enter Tryz.func22,Tryz.ntmps22
   go_wp2_with fail
   refine (HR.out _).mono ?_
   rintro r w1 ⟨rfl,r1,g1⟩
   go_wp2_with fail
   refine (N1.out _ r1).mono ?_
   rintro r w2 ⟨rfl,r2,o2⟩
   go_wp2_with fail
   refine (N2.out _ r2).mono ?_
   rintro r w3 ⟨rfl,r3,o3⟩
   go_wp2_with fail
   refine (N3.out _ r3).mono ?_
   rintro r w4 ⟨rfl,o4⟩
   go_wp2_with fail
   go_ret2
   exact ⟨rfl,o4.below (Nat.le_refl _) (o3.below (Nat.le_refl _) (o2.below (Nat.le_refl _) g1))⟩
  ·have e1:E=0:=by rw [HE.out,if_neg (by omega),if_neg c3]
   have e2:Z=A2:=by rw [HZ.out,e1];rfl
   have c':(A1 != 4)=false:=by simpa using c
   rw [e1,e2]
   clear e1 e2 c HE HZ
   go_enter Tryz.func22,Tryz.ntmps22
   go_wp2_with fail
   refine (HR.out _).mono ?_
   rintro r w1 ⟨rfl,r1,g1⟩
   go_wp2_with fail
   refine (N1.out _ r1).mono ?_
   rintro r w2 ⟨rfl,r2,o2⟩
   go_wp2_with fail
   refine (N2.out _ r2).mono ?_
   rintro r w3 ⟨rfl,r3,o3⟩
   go_wp2_with fail
   refine (N3.out _ r3).mono ?_
   rintro r w4 ⟨rfl,o4⟩
   go_wp2_with fail
   go_ret2
   exact ⟨rfl,o4.below (Nat.le_refl _) (o3.below (Nat.le_refl _) (o2.below (Nat.le_refl _) g1))⟩
theorem dec_early (d:ByteArray) (w:World) (hs:d.size≤maxLen) (he:saidE d≠0):Calls Tryz.prog 13 #[.string d] w fun e w'=>e=.returned (.tuple #[msV ms0,.int .i64 0,.int .i64 (saidE d)])∧Below w.heap.size w w':=by
 obtain ⟨W1,hW1⟩:∃ W1,mx w ms0=W1:=⟨_,rfl⟩
 have hG:Below w.heap.size w W1:=by rw [← hW1];go_grown
 have hT:W1.there w.heap.size 0 26:=hW1 ▸ there_new w (msC ms0) 33
 have z1:w.heap.size < W1.heap.size:=by rw [← hW1];simp
 have HC:Hid (Calls Tryz.prog 22 #[.string d] W1 fun e w'=>e=.returned (.tuple #[.int .i64 0,.int .i64 (saidE d)])∧w'.there w.heap.size 0 26∧Below w.heap.size w w'):=(show Calls _ _ _ _ _ from by
  have e2:saidZ d=0:=by unfold saidZ;rw [if_neg he]
  have:=said_any d W1 hs
  rw [e2] at this
  exact this.mono fun _ w' ⟨h1,h2⟩=>⟨h1,there_block hT (h2.block _ z1),btr hG h2 (Nat.le_refl _)⟩)
 have hb:(saidE d != 0)=true:=by simpa using he
 have HW1:Hid (w.alloc (.cells #[.int .i64 ms0.kind,.int .i64 ms0.xid,.int .i64 ms0.cmd,.bool ms0.chk,.int .i64 ms0.en.tab,.int .i64 ms0.en.pri,.slice ms0.en.ta ms0.en.tl ms0.en.tc,.slice ms0.en.aa ms0.en.la.length ms0.en.ca,.slice ms0.en.aw ms0.en.lw.length ms0.en.cw,.bool ms0.en.clr,.int .u64 ms0.en.mt,.int .u64 ms0.en.mm,.int .i64 ms0.en.met,.int .i64 ms0.en.go,.int .i64 ms0.gid,.int .i64 ms0.gkd,.slice ms0.ga ms0.gb.length ms0.gc,.int .i64 ms0.mid,.int .i64 ms0.mra,.int .i64 ms0.mbu,.int .i64 ms0.typ,.int .i64 ms0.cod,.int .i64 ms0.prt,.bool ms0.live,.slice ms0.aa ms0.la.length ms0.ca,.string ms0.dat] 33)=W1):=hW1
 have HWz:Hid (w.alloc (.cells #[.int .i64 0,.int .i64 0,.int .i64 0,.bool false,.int .i64 0,.int .i64 0,.slice none 0 0,.slice none 0 0,.slice none 0 0,.bool false,.int .u64 0,.int .u64 0,.int .i64 0,.int .i64 0,.int .i64 0,.int .i64 0,.slice none 0 0,.int .i64 0,.int .i64 0,.int .i64 0,.int .i64 0,.int .i64 0,.int .i64 0,.bool false,.slice none 0 0,.string ⟨#[]⟩] 33)=W1):=hW1
 clear hs he hW1 hG hT z1
 generalize saidE d=E at *
 go_enter Tryz.func13,Tryz.ntmps13
 go_wp2_with fail
 rw [HWz.out]
 refine HC.out.mono ?_
 rintro r w1 ⟨rfl,t1,g1⟩
 go_wp2_with (refine store_M rfl (.tmp 2) (.tmp 16) rfl w.heap.size ms0 rfl rfl t1 ?_;intro V bV tV oV;have GV:=oV.belowK (Nat.le_refl _) g1;clear oV tV)
 refine bodyPost_ret (resMee (b:=w.heap.size) (m:=ms0) rfl rfl bV) rfl ?_
 exact ⟨rfl,GV⟩
def ms1:Ms:={ ms0 with xid:=1 }
theorem ms1_w (w:World):MW w ms1:=⟨en0_w w,.inl rfl,rfl,by decide,by decide,⟨by simp [ms0,ms1],.inl rfl⟩,by decide,.inl rfl,by decide,by decide⟩
theorem ms1_u:MU ms1:=⟨⟨by decide,by decide,by decide,by decide⟩,by simp [ms0,ms1],by simp [ms0,ms1,en0],by simp [ms0,ms1,en0],by simp [ms0,ms1],by simp [ms0,ms1]⟩
theorem ex_enc:encM ms1.msg=⟨#[4,0,0,8,0,0,0,1]⟩∧errM ms1.msg=0:=by decide +kernel
theorem ex_dec:saidE ⟨#[3,0,0,8,0,0,0,1]⟩=11:=by decide +kernel
theorem awake_any (w:World) (hd:Ct w):Calls Tryz.prog 9 #[] w fun e w'=>e=.returned (.bool true)∧Below w.heap.size w w':=by
 have H1:Hid (Calls Tryz.prog 10 #[.agg #[.int .i64 0,.int .i64 1,.int .i64 0,.bool false,.int .i64 0,.int .i64 0,.slice none 0 0,.slice none 0 0,.slice none 0 0,.bool false,.int .u64 0,.int .u64 0,.int .i64 0,.int .i64 0,.int .i64 0,.int .i64 0,.slice none 0 0,.int .i64 0,.int .i64 0,.int .i64 0,.int .i64 0,.int .i64 0,.int .i64 0,.bool false,.slice none 0 0,.string ⟨#[]⟩]] w fun e w'=>e=.returned (.tuple #[.string ⟨#[4,0,0,8,0,0,0,1]⟩,.int .i64 0])∧Below w.heap.size w w'):=(show Calls _ _ _ _ _ from by
  have:=encode_M ms1 w (ms1_w w) ms1_u hd
  rwa [ex_enc.1,ex_enc.2] at this)
 have H2:Hid (∀ w,Calls Tryz.prog 13 #[.string ⟨#[3,0,0,8,0,0,0,1]⟩] w fun e w'=>e=.returned (.tuple #[msV ms0,.int .i64 0,.int .i64 11])∧Below w.heap.size w w'):=(show ∀ w,_ from fun w=>by
  have:=dec_early ⟨#[3,0,0,8,0,0,0,1]⟩ w (by decide) (by rw [ex_dec];decide)
  rwa [ex_dec] at this)
 clear hd
 go_enter Tryz.func9,Tryz.ntmps9
 go_wp2_with fail
 refine H1.out.mono ?_
 rintro r w1 ⟨rfl,g1⟩
 go_wp2_with fail
 refine (H2.out _).mono ?_
 rintro r w2 ⟨rfl,g2⟩
 have G2:=btr g1 g2 (Nat.le_refl _)
 have HG:Hid (∀ o:Obj,Below w.heap.size w (w2.alloc o)):=(show ∀ o:Obj,_ from fun o=>btr G2 (by go_grown) (Nat.le_refl _))
 have HZ:Hid (w.heap.size≤w2.heap.size):=G2.size
 clear g1 g2 G2
 go_wp2_with (refine store_M rfl (.tmp 3) (.tmp 13) rfl w2.heap.size ms0 rfl rfl (there_new _ _ _) ?_;intro V bV tV oV;have GV:=oV.belowK HZ.out (HG.out _);clear oV tV)
 go_ret
 exact ⟨rfl,GV⟩
end Go.Proofs.YtlcbfdiohcbpbaaGreatDoor
